import PyProof.Rows.All
import Wide.All
import OpenK.AllK
import Wide.FinOn
import Lean
import PyProof.EqAt
import PyProof.EqKinds
import PyProof.TupleCall
import PySem.Challenge.RW_moot_k35_orders_refused
set_option Elab.async false
set_option linter.all false
set_option maxRecDepth 100000
set_option maxHeartbeats 4000000
local macro_rules|`(tactic|trivial)=>`(tactic|decide +kernel)
local macro_rules|`(tactic|omega)=>`(tactic|lia)
open PySem.Str renaming ofString → ar, join → gp, empty → U7
open PySem.W renaming Frag → ba, exmOne → kj, findIn → UW, emptyDict → Vh, instObj → Vp, methodCall_KW → VD, callWith_K → VX, InstAt → VY, findObj → V2, nsIn → V7, keepIn → Wa, looks_findIn → Wi, clsIn → Ws, callWith_K0 → Wu, mroIn → WD
open PySem renaming wpAny_bind → cb, sizeLine → de, FuncData → gn, wpAny_pure → ka, wpAny_mono → ki, Program → ko, wpAny → me, starEach → om, Spec → Lk, wpAny_standAt → Va, wpAny_holding → Vd, wpAny_Call_Name_kw → Vf, wpAny_loadPart_at → Vi, excClassObj → Vm, bootBuiltins → Vr, wpAny_field → Vw, keywordEach → VC, codeAny_mono → VS, compareOp → VU, mem_of_lookup → VV, wpAny_call → V1, backToKw → V4, callWith → Wb, Builtin → Wz
open List renaming length_map → da, mem_append_right → di, mem_cons_self → kb, length_cons → kf, length_append → km, mem_cons_of_mem → kr, map_cons → kx, mem_of_getElem? → ma, size_toArray → tu, mem_singleton → wt, getElem?_eq_getElem → UT, cons_ne_nil → UX, getD_eq_getElem?_getD → UY, map_append → UZ, length_singleton → U4, getElem?_map → U5, getElem?_append_right → Vb, mem_append_left → Vc, all_cons → Vk, getElem?_append_left → Vo, replicate → Vt, lookup → Vv, length_take → Vy, length_replicate → VE, append_nil → VH, eq_nil_or_concat → VJ, concat_eq_append → VL, getElem?_cons_zero → VN, not_mem_nil → VO, take_length → VP, range' → VQ, find?_cons_of_neg → VT, getElem?_cons_succ → V0, map_nil → V5, any_cons → V8, all_eq_true → V9, find?_cons → Wh, take_add_one → Wl, getLast?_concat → Wn, sum_cons → Wq, mem_cons → Wt, length_drop → Ww, take_succ → Wx, range → Wy, length_set → WA, mem_append → WB
open PySem.Heap renaming get?_push_of_some → fu, lt_size → kq, get?_push_size → si, get?_update_other → U6, get?_update_self → Ve, size_push → VR
open Bool renaming and_eq_true → gc, false_ne_true → gr, eq_iff_iff → Vn, not_eq_true' → Wm
open Nat renaming le_refl → kg, le_trans → ku, ne_of_lt → sr, lt_of_lt_of_le → tm, le_succ_of_le → U9, zero_le → Vg, le_succ → VZ, lt_succ_of_lt → Wk, lt_succ_self → Wv, lt_irrefl → WC
open PySem.Value renaming ref → ky, none → Vx, bool → VW
open Option.some renaming inj → ra
open Or renaming inl → ro
open False renaming elim → wa
open Ne renaming symm → UU
open Sum renaming inl → U0, inr → U8
open PySem.F renaming plainAttrs_list → Vj, plainAttrs_str → Vq, slot_list_append → VA, type_list_append → VB
open PySem.Obj renaming mapFields → Vl
open PySem.PyData renaming strOk → Vs, str → Vu, canLay0 → VG, canLayAll0 → VI, depth → V6, eqv → Wc, depthAll → Wg
open Option renaming bind_some → Vz
open PySem.Builtin.Str renaming occurrences → VF
open PySem.NameKind renaming free → VM
open PySem.Builtin.SmallTypes renaming fitsIndex → V3
open PySem.Unicode renaming upperOf → We
open PySem.Builtin.Slice renaming slicePlaces → Wf
open PySem.Calls renaming evalArgs_plain → Wj
open PySem.Builtin.Tuple renaming tupleExact → Wo
open Prod.mk renaming injEq → WE
namespace L2
open PySem PySem.Spec PyProof.Rows
abbrev Key:=Sum Int Str
def xZ:Key->Value->Bool
 | .inl k,v=>Value.isInt k v
 | .inr x,v=>Value.isStrOf x v
def Td (w:World):Key->Int
 | .inl k=>hashInt k
 | .inr x=>hashStr w x
theorem cW:∀ {k:Key} {v:Value},xZ k v=true->(∃i t,k=U0 i/\v=Value.int i t)\/(∃x t,k=U8 x/\v=Value.str x t)
 | .inl i,v,h=>by
  obtain⟨t,e⟩:=Value.isInt_shape (k:=i) (v:=v) h;exact .inl ⟨i,t,rfl,e⟩
 | .inr x,v,h=>by
  obtain⟨t,e⟩:=Value.isStrOf_shape (x:=x) (v:=v) h;exact .inr ⟨x,t,rfl,e⟩
theorem HI (i:Int)(t:Tok):xZ (.inl i) (.int i t)=true:=by simp[xZ,Value.isInt]
theorem HJ (x:Str)(t:Tok):xZ (.inr x) (.str x t)=true:=by simp[xZ,Value.isStrOf]
theorem OG (a b:Int):decide ((U0 a:Key)=U0 b)=(a == b):=by
 by_cases e:a=b
 ·subst e;simp
 ·have h:¬(U0 a:Key)=U0 b:=λq=>e (Sum.inl.inj q)
  rw[decide_eq_false h];exact(beq_eq_false_iff_ne.mpr e).symm
theorem OH (a b:Str):decide ((U8 a:Key)=U8 b)=decide (a=b):=by
 by_cases e:a=b
 ·subst e;simp
 ·have h:¬(U8 a:Key)=U8 b:=λq=>e (Sum.inr.inj q)
  rw[decide_eq_false h,decide_eq_false e]
theorem OI (a:Int)(b:Str):decide ((U0 a:Key)=U8 b)=false:=decide_eq_false (λq=>nomatch q)
theorem OJ (a:Str)(b:Int):decide ((U8 a:Key)=U0 b)=false:=decide_eq_false (λq=>nomatch q)
def dQ (prog:ko)(w:World):PySem.KeyKind prog w Key where
 is:=xZ
 hash:=Td w
 inj:=λv a b ha hb=>by
  rcases cW ha with ⟨i,t,rfl,rfl⟩ | ⟨x,t,rfl,rfl⟩
  ·rcases cW hb with ⟨j,u,rfl,e⟩ | ⟨y,u,rfl,e⟩
   ·injection e with e1 _;rw[e1]
   ·exact nomatch e
  ·rcases cW hb with ⟨j,u,rfl,e⟩ | ⟨y,u,rfl,e⟩
   ·exact nomatch e
   ·injection e with e1 _;rw[e1]
 byValue:=λk v h=>by
  rcases cW h with ⟨i,t,rfl,rfl⟩ | ⟨x,t,rfl,rfl⟩ <;> rfl
 pyHash:=λhv h=>by
  rcases cW hv with ⟨i,t,rfl,rfl⟩ | ⟨x,t,rfl,rfl⟩
  ·exact wpAny_pyHash_int h
  ·exact wpAny_pyHash_str h
 eqBool:=λhu hv h=>by
  rcases cW hu with ⟨i,t,rfl,rfl⟩ | ⟨x,t,rfl,rfl⟩
  ·rcases cW hv with ⟨j,u,rfl,rfl⟩ | ⟨y,u,rfl,rfl⟩
   ·rw[OG]at h;exact wpAny_eqBool_int h
   ·rw[OI]at h;exact SeqAt.EqAt.int_str i t y u _ _ _ _ h
  ·rcases cW hv with ⟨j,u,rfl,rfl⟩ | ⟨y,u,rfl,rfl⟩
   ·rw[OJ]at h;exact SeqAt.EqAt.str_int x t j u _ _ _ _ h
   ·rw[OH]at h;exact wpAny_eqBool_str h
 «strs»:=λk x t v h=>by
  rcases cW h with ⟨i,u,rfl,e⟩ | ⟨y,u,rfl,e⟩
  ·exact nomatch e
  ·injection e with e1 _
   subst e1;cases v <;> rfl
theorem Ds (prog:ko)(w:World)(i:Int)(t:Tok):(dQ prog w).is (.inl i) (.int i t)=true:=HI i t
theorem Dt (prog:ko)(w:World)(x:Str)(t:Tok):(dQ prog w).is (.inr x) (.str x t)=true:=HJ x t
inductive V where
 |non | bl (b:Bool) | int (i:Int) | str (x:Str) | byt (b:Array UInt8) | flt (b:UInt64) | ref (a:Addr) | ty (n:String)
 deriving DecidableEq
def RelV:V->Value->Prop
 | .non,u=>u=Vx
 | .bl b,u=>u=VW b
 | .int i,u=>∃t,u=Value.int i t
 | .str x,u=>∃t,u=Value.str x t
 | .byt b,u=>∃t,u=Value.bytes b t
 | .flt b,u=>∃t,u=Value.float b t
 | .ref a,u=>u=ky a
 | .ty n,u=>u=Value.type n
abbrev Vals:List V->List Value->Prop:=Paired RelV
theorem Vals.length {xs:List V}{us:List Value}(r:Vals xs us):xs.length=us.length:=Paired.length r
theorem Vals.get:∀ {xs:List V} {us:List Value} {i:Nat} {x:V},Vals xs us->xs[i]?=some x->∃u,us[i]?=some u/\RelV x u
 |_,_,_,_,.nil,e=>by simp at e
 |_,_,0,_,.cons r _,e=>by simp at e;subst e;exact⟨_,rfl,r⟩
 |_,_,i+1,x,.cons _ t,e=>by
  obtain⟨u,h1,h2⟩:=Vals.get (i:=i) (x:=x) t (by simpa using e)
  exact⟨u,by simpa using h1,h2⟩
theorem Vals.set {x:V}{u:Value}(r:RelV x u):∀ {xs:List V} {us:List Value} (i:Nat),Vals xs us->Vals (xs.set i x) (us.set i u)
 |_,_,_,.nil=>.nil
 |_,_,0,.cons _ t=>.cons r t
 |_,_,i+1,.cons q t=>.cons q (Vals.set r i t)
theorem Vals.append:∀ {xs ys:List V} {us ws:List Value},Vals xs us->Vals ys ws->Vals (xs++ys) (us++ws)
 |_,_,_,_,.nil,s=>s
 |_,_,_,_,.cons r t,s=>.cons r (Vals.append t s)
theorem Vals.take:∀ {xs:List V} {us:List Value} (n:Nat),Vals xs us->Vals (xs.take n) (us.take n)
 |_,_,0,_=>.nil
 |_,_,_+1,.nil=>.nil
 |_,_,n+1,.cons r t=>.cons r (Vals.take n t)
theorem Vals.drop:∀ {xs:List V} {us:List Value} (n:Nat),Vals xs us->Vals (xs.drop n) (us.drop n)
 |_,_,0,r=>r
 |_,_,_+1,.nil=>.nil
 |_,_,n+1,.cons _ t=>Vals.drop n t
theorem Vals.none_of:∀ {xs:List V} {us:List Value} {i:Nat},Vals xs us->xs[i]?=none->us[i]?=none:=λ{xs us i} r e=>by
 have h1:=r.length;have h2:xs.length<=i:=List.getElem?_eq_none_iff.mp e;exact List.getElem?_eq_none_iff.mpr (by omega)
def lW:Option V->Option Value->Prop
 |some v,some u=>RelV v u
 |none,none=>True
 |_,_=>False
def KV {κ:Type}:List (κ×V)->List (κ×Value)->Prop:=Paired λ(p:κ×V) (q:κ×Value)=>p.1=q.1/\RelV p.2 q.2
def kV:Key->V
 | .inl i=>.int i
 | .inr x=>.str x
inductive HO where
 |lst (xs:List V)
 |tup (xs:List V)
 |dK (kvs:List (Key×V)) | dT (kvs:List (List Key×V))
 |set (S:Int->Bool) (n:Nat)
 |ins (C dx:Addr) (fs:List (Str×V))
 |own (x:Addr)
 |xd (fs:List (Str×V))
 |met (f x:Addr)
 |rng (lo hi:Int)
 |frz (o:Obj) (u:HO)
 |tbl (ps:Array Value)
 |ext (φ:Heap->Prop)
abbrev Hp:=Addr->Option HO
def upd (H:Hp)(a:Addr)(o:HO):Hp:=λb=>if b=a then some o else H b
theorem af {H:Hp}{a:Addr}{o:HO}:upd H a o a=some o:=by unfold upd;rw[if_pos rfl]
theorem ax {H:Hp}{a b:Addr}{o:HO}(h:b≠a):upd H a o b=H b:=by unfold upd;rw[if_neg h]
theorem sH {H:Hp}{a:Addr}{o u:HO}:upd (upd H a o) a u=upd H a u:=by
 funext b;unfold upd;split <;> rfl
theorem QV {H:Hp}{a b:Addr}{o u:HO}(h:H a=some o)(h':H b=some u)(d:o≠u):a≠b:=by
 intro e;subst e;rw[h]at h';exact d (ra h')
theorem aQ {H:Hp}{a b:Addr}{o:HO}(h:H a=some o)(h':H b=none):a≠b:=by
 intro e;subst e;rw[h]at h';cases h'
section
variable(P:ko)(w:World)
def dE (H:Hp)(h:Heap)(a:Addr):HO->Prop
 | .lst xs=>xs.length<=de/\∃(its:List Value) (n:Nat),Vals xs its/\h.get? a=some { cls:=.type "list",data:=.seq its.toArray n }
 | .tup xs=>xs.length<=de/\∃its:List Value,Vals xs its/\IsTup h a its.toArray
 | .dK kvs=>kvs.length<=de/\(a == sysModules)=false/\∃vs,KV kvs vs/\h.DictOf (dQ P w) a vs
 | .dT kvs=>kvs.length<=de/\(a == sysModules)=false/\∃xs:List (List Key×Addr×Value),
   Paired (λ(p:List Key×V) (q:List Key×Addr×Value)=>p.1=q.1/\H q.2.1=some (.tup (p.1.map kV))/\RelV p.2 q.2.2) kvs xs /\
   ∃o es ep,h.get? a=some o/\o.ExactDict/\o.data=.dict es ep/\es.toList=xs.map (entryOfKey (tupleKind (dQ P w)))/\(xs.map (·.1)).Nodup
 | .set S n=>h.SetOf (intKind P w) a S n
 | .ins C dx fs=>H dx=some (.own a)/\fs.length<=1000/\dx≠a/\h.get? a=some (Vp C dx) /\
   ∃mA,h.Ns1 dx mA/\(∀f,lW (fs.lookup f) (mA f))/\PySem.Within mA (fs.map (·.1))
 | .own _=>∃o,h.get? a=some o
 | .xd fs=>∃mA,h.Ns1 a mA/\∀f,lW (fs.lookup f) (mA f)
 | .rng lo hi=>∃t u v,h.get? a=some { cls:=.type "range",data:=.fields #[.int lo t,.int hi u,.int 1 v] }
 | .frz o u=>h.get? a=some o/\dE H h a u
 | .tbl ps=>h.get? a=some { cls:=.none,data:=.fields ps }
 | .met f x=>h.get? a=some (PySem.W.methodObj (.ref f) (.ref x))
 | .ext φ=>φ h/\(∃o,h.get? a=some o)/\∀h1 h2:Heap,φ h1->(∀o,h1.get? a=some o->h2.get? a=some o)->φ h2
def HOk (H:Hp)(h:Heap):Prop:=∀a o,H a=some o->dE P w H h a o
end
section
variable{P:ko}{w:World}{H H':Hp}{h h':Heap}{a:Addr}{o:HO}
theorem dE.lt (x:dE P w H h a o):a < h.objs.size:=by
 cases o with
 |lst xs=>obtain⟨_,_,_,_,e⟩:=x;exact kq e
 |tup xs=>obtain⟨_,_,_,p⟩:=x;exact p.lt
 |dK kvs=>obtain⟨_,_,_,_,o,_,_,e,_⟩:=x;exact kq e
 |dT kvs=>obtain⟨_,_,_,_,o,_,_,e,_⟩:=x;exact kq e
 |set S n=>obtain⟨o,_,_,_,e,_⟩:=x;exact kq e
 |ins C dx fs=>obtain⟨_,_,_,e,_⟩:=x;exact kq e
 |own y=>obtain⟨_,e⟩:=x;exact kq e
 |xd fs=>obtain⟨_,⟨_,_,_,e,_⟩,_⟩:=x;exact kq e
 |rng lo hi=>obtain⟨_,_,_,e⟩:=x;exact kq e
 |frz ob u=>obtain⟨e,_⟩:=x;exact kq e
 |tbl ps=>exact kq (show h.get? a=some _ from x)
 |met f y=>exact kq (show h.get? a=some _ from x)
 |ext φ=>obtain⟨_,⟨_,e⟩,_⟩:=x;exact kq e
theorem Paired.OK {α β:Type}{F G:α->β->Prop}:∀ {l₁:List α} {l₂:List β},Paired F l₁ l₂->(∀a b,F a b->G a b)->Paired G l₁ l₂
 |_,_,.nil,_=>.nil
 |_,_,.cons r t,f=>.cons (f _ _ r) (Paired.OK t f)
theorem dE.wY (x:dE P w H h a o)(k:∀b u,(b=a\/H b=some (.own a))->h.get? b=some u->h'.get? b=some u)
  (ho:∀b,H b=some (.own a)->H' b=some (.own a)) (ht:∀b xs,H b=some (.tup xs)->H' b=some (.tup xs)):dE P w H' h' a o:=by
 induction o with
 |lst xs=>obtain⟨z,its,n,r,e⟩:=x;exact⟨z,its,n,r,k _ _ (.inl rfl) e⟩
 |tup xs=>obtain⟨z,its,r,ob,e,c⟩:=x;exact⟨z,its,r,ob,k _ _ (.inl rfl) e,c⟩
 |dK kvs=>obtain⟨z,y,vs,r,ob,es,ep,e,c⟩:=x;exact⟨z,y,vs,r,ob,es,ep,k _ _ (.inl rfl) e,c⟩
 |dT kvs =>
  obtain⟨z,y,xs,r,ob,es,ep,e,c⟩:=x;exact⟨z,y,xs,Paired.OK r λp q z=>⟨z.1,ht _ _ z.2.1,z.2.2⟩,ob,es,ep,k _ _ (.inl rfl) e,c⟩
 |set S n=>obtain⟨ob,es,ep,t,e,c⟩:=x;exact⟨ob,es,ep,t,k _ _ (.inl rfl) e,c⟩
 |ins C dx fs =>
  obtain⟨d,z,ne,e,mA,⟨od,es,ep,e2,c⟩,r⟩:=x;exact⟨ho _ d,z,ne,k _ _ (.inl rfl) e,mA,⟨od,es,ep,k _ _ (.inr d) e2,c⟩,r⟩
 |own y=>obtain⟨ob,e⟩:=x;exact⟨ob,k _ _ (.inl rfl) e⟩
 |xd fs=>obtain⟨mA,⟨od,es,ep,e,c⟩,r⟩:=x;exact⟨mA,⟨od,es,ep,k _ _ (.inl rfl) e,c⟩,r⟩
 |rng lo hi=>obtain⟨t,u,v,e⟩:=x;exact⟨t,u,v,k _ _ (.inl rfl) e⟩
 |frz ob u ih=>obtain⟨e,q⟩:=x;exact⟨k _ _ (.inl rfl) e,ih q⟩
 |tbl ps =>
  have e:h.get? a=some { cls:=.none,data:=.fields ps }:=x;show h'.get? a=some { cls:=.none,data:=.fields ps };exact k a _ (.inl rfl) e
 |met f y =>
  have e:h.get? a=some (PySem.W.methodObj (.ref f) (.ref y)):=x;show h'.get? a=some (PySem.W.methodObj (.ref f) (.ref y));exact k a _ (.inl rfl) e
 |ext φ=>obtain⟨p,⟨o,e⟩,st⟩:=x;exact⟨st _ _ p λo q=>k _ _ (.inl rfl) q,⟨o,k _ _ (.inl rfl) e⟩,st⟩
theorem HOk.lt (x:HOk P w H h)(e:H a=some o):a < h.objs.size:=(x a o e).lt
theorem HOk.fresh (x:HOk P w H h)(e:h.objs.size<=a):H a=none:=by
 cases q:H a with
 |none=>rfl
 |some u=>exact absurd (tm (x.lt q) e) (WC _)
theorem HOk.kept (x:HOk P w H h)(k:∀b u,h.get? b=some u->h'.get? b=some u):HOk P w H h':=λa o e =>
 (x a o e).wY (λb u _ q=>k b u q) (λ_ q=>q) λ_ _ q=>q
theorem HOk.laid (x:HOk P w H h)(k:∀b u,h.get? b=some u->h'.get? b=some u)(hp:h.objs.size<=a)(new:dE P w (upd H a o) h' a o):HOk P w (upd H a o) h':=λb u e=>by
 have hn:=x.fresh hp
 by_cases hb:b=a
 ·subst hb;rw[af]at e;cases e;exact new
 ·rw[ax hb]at e;exact(x b u e).wY (λc v _ q=>k c v q) (λc q=>by rw[ax (aQ q hn)];exact q) λc xs q=>by rw[ax (aQ q hn)];exact q
end
def Rd (H:Hp)(a:Addr)(u:HO):Prop:=H a=some u\/∃o,H a=some (.frz o u)
theorem Rd.of {H:Hp}{a:Addr}{u:HO}(h:H a=some u):Rd H a u:=.inl h
theorem Rd.ok {P:ko}{w:World}{H:Hp}{h:Heap}{a:Addr}{u:HO}(r:Rd H a u)(x:HOk P w H h):dE P w H h a u:=by
 rcases r with r | ⟨o,r⟩
 ·exact x a u r
 ·obtain⟨_,q⟩:=x a _ r;exact q
def Mut:Option HO->Prop
 |some (.lst _)=>True
 |some (.dK _)=>True
 |some (.dT _)=>True
 |some (.set _ _)=>True
 |some (.ins _ _ _)=>True
 |some (.ext _)=>True
 |_=>False
section
variable{P:ko}{w:World}{H:Hp}{h h':Heap}{x e:Addr}{o':HO}
theorem HOk.write (ok:HOk P w H h)(mu:Mut (H x))(he:e=x\/H e=some (.own x))(k:∀b u,b≠e->h.get? b=some u->h'.get? b=some u)(heo:∃u,h'.get? e=some u)
  (new:dE P w (upd H x o') h' x o'):HOk P w (upd H x o') h':=λb u q=>by
 have QW:∀c y,H c=some (.own y)->c≠x:=λc y r z=>by subst z;rw[r]at mu;exact mu
 have Te:∀c xs,H c=some (.tup xs)->c≠x:=λc xs r z=>by subst z;rw[r]at mu;exact mu
 by_cases hb:b=x
 ·subst hb;rw[af]at q;cases q;exact new
 ·rw[ax hb]at q
  by_cases hbe:b=e
  ·have q':H b=some (.own x):=by
    rcases he with z | z
    ·exact absurd (hbe.trans z) hb
    ·rw[hbe];exact z
   rw[q]at q';cases q';obtain⟨v,hv⟩:=heo;exact⟨v,by rw[hbe];exact hv⟩
  ·refine(ok b u q).wY (λc v hc r=>k c v ?_ r) (λc r=>by rw[ax (QW c b r)];exact r) λc xs r=>by rw[ax (Te c xs r)];exact r
   rcases hc with rfl | hc
   ·exact hbe
   ·rintro rfl;rcases he with z | z
    ·exact QW c b hc z
    ·rw[hc]at z;cases z;exact hb rfl
end
structure Un (fs ex:List Addr)(H H':Hp)(h h':Heap):Prop where
 keep:∀b o,h.get? b=some o->H b=none->b∉fs->b∉ex->h'.get? b=some o
 slot:∀b o,h.get? b=some o->H b=none->b∈fs->b∉ex->∃sl,h'.get? b=some { o with slots:=sl }
 free:∀b o,h.get? b=some o->H b=none->b∉ex->H' b=none
 there:∀b o,h.get? b=some o->b∉ex->∃o',h'.get? b=some o'
 sI:∀b xs,H b=some (.tup xs)->H' b=some (.tup xs)
 q5:∀b o u,H b=some (.frz o u)->H' b=some (.frz o u)
 sJ:∀b ps,H b=some (.tbl ps)->∃more,H' b=some (.tbl (ps++more))
section
variable{fs fs' ex ex':List Addr}{H H1 H2:Hp}{h h1 h2 h':Heap}{a x e:Addr}{o:HO}
theorem Un.any (u:Un fs ex H H1 h h1){b:Addr}{ob:Obj}(q:h.get? b=some ob)(n:H b=none)(hx:b∉ex):∃sl,h1.get? b=some { ob with slots:=sl }:=by
 by_cases hb:b∈fs
 ·exact u.slot b ob q n hb hx
 ·exact⟨ob.slots,u.keep b ob q n hb hx⟩
theorem Un.trans (a:Un fs ex H H1 h h1)(b:Un fs ex H1 H2 h1 h2):Un fs ex H H2 h h2 where
 keep:=λc ob q n hc hx=>b.keep c ob (a.keep c ob q n hc hx) (a.free c ob q n hx) hc hx
 slot:=λc ob q n hc hx=>by
  obtain⟨sl,e1⟩:=a.slot c ob q n hc hx;obtain⟨sl',e2⟩:=b.slot c _ e1 (a.free c ob q n hx) hc hx;exact⟨sl',e2⟩
 free:=λc ob q n hx=>by
  obtain⟨o',e1⟩:=a.there c ob q hx;exact b.free c o' e1 (a.free c ob q n hx) hx
 there:=λc ob q hx=>by
  obtain⟨o',e1⟩:=a.there c ob q hx;exact b.there c o' e1 hx
 sI:=λc xs q=>b.sI c xs (a.sI c xs q)
 q5:=λc ob xs q=>b.q5 c ob xs (a.q5 c ob xs q)
 sJ:=λc ps q=>by
  obtain⟨m1,e1⟩:=a.sJ c ps q;obtain⟨m2,e2⟩:=b.sJ c _ e1;exact⟨m1++m2,by rw[e2,Array.append_assoc]⟩
theorem Un.kept (k:∀b u,h.get? b=some u->h'.get? b=some u):Un fs ex H H h h' :=
 ⟨λb ob q _ _ _=>k b ob q,λb ob q _ _ _=>⟨ob.slots,k b ob q⟩,λ_ _ _ n _=>n,λb ob q _=>⟨ob,k b ob q⟩,λ_ _ q=>q,λ_ _ _ q=>q,λ_ ps q=>⟨#[],by rw[q];simp⟩⟩
theorem Un.refl:Un fs ex H H h h:=Un.kept λ_ _ q=>q
theorem Un.laid (k:∀b u,h.get? b=some u->h'.get? b=some u)(hp:h.objs.size<=a)(hn:H a=none):Un fs ex H (upd H a o) h h' where
 keep:=λb u q _ _ _=>k b u q
 slot:=λb u q _ _ _=>⟨u.slots,k b u q⟩
 free:=λb u q n _=>by rw[ax (sr (tm (kq q) hp))];exact n
 there:=λb u q _=>⟨u,k b u q⟩
 sI:=λb xs q=>by rw[ax (aQ q hn)];exact q
 q5:=λb u xs q=>by rw[ax (aQ q hn)];exact q
 sJ:=λb ps q=>⟨#[],by rw[ax (aQ q hn),q];simp⟩
theorem Un.write (mu:Mut (H x))(he:e=x\/H e=some (.own x))(k:∀b u,b≠e->h.get? b=some u->h'.get? b=some u)(heo:∃u,h'.get? e=some u):Un fs ex H (upd H x o) h h':=by
 have hx:∀b,H b=none->b≠x:=λb n z=>by subst z;rw[n]at mu;exact mu
 have hb:∀b,H b=none->b≠e:=λb n z=>by
  subst z;rcases he with r | r
  ·exact hx b n r
  ·rw[n]at r;cases r
 have hm:∀b u,H b=some u->¬Mut (some u)->b≠x:=λb u q nm z=>by subst z;rw[q]at mu;exact nm mu
 refine⟨λb u q n _ _=>k b u (hb b n) q,λb u q n _ _=>⟨u.slots,k b u (hb b n) q⟩,λb u q n _=>by rw[ax (hx b n)];exact n,λb u q _=>?_,
  λb xs q=>by rw[ax (hm b _ q λz=>z)];exact q,λb u xs q=>by rw[ax (hm b _ q λz=>z)];exact q,λb ps q=>⟨#[],by rw[ax (hm b _ q λz=>z),q];simp⟩⟩
 by_cases hbe:b=e
 ·subst hbe;exact heo
 ·exact⟨u,k b u hbe q⟩
theorem Un.mono (u:Un fs ex H H1 h h1)(hs:∀b∈fs,b∈fs')(hx:∀b∈ex,b∈ex'):Un fs' ex' H H1 h h1 :=
 ⟨λb ob q n hb he=>u.keep b ob q n (λz=>hb (hs b z)) λz=>he (hx b z),λ_ _ q n _ he=>u.any q n λz=>he (hx _ z),λb ob q n he=>u.free b ob q n λz=>he (hx b z),λb ob q he=>u.there b ob q λz=>he (hx b z),u.sI,u.q5,u.sJ⟩
end
def trk (h:Heap)(H:Hp):List Addr:=(Wy h.objs.size).filter λa=>(H a).isSome
def BC (h:Heap)(H:Hp):Heap:=PySem.W.hideAll h (trk h H)
theorem HK (h:Heap)(H:Hp):(BC h H).objs.size=h.objs.size:=PySem.W.hideAll_size _ _
theorem Jz {h:Heap}{H:Hp}{b:Addr}{o:Obj}(e:h.get? b=some o)(n:H b=none):(BC h H).get? b=some o :=
 PySem.W.hideAll_get _ e λhm=>by
  have q:(H b).isSome=true:=(List.mem_filter.mp hm).2;rw[n]at q;simp at q
theorem Mt {h:Heap}{H:Hp}{b:Addr}{o:Obj}(e:(BC h H).get? b=some o):h.get? b=some o/\H b=none:=by
 have e':h.get? b=some o:=PySem.W.of_hideAll (trk h H) e;refine⟨e',?_⟩;cases q:H b with
 |none=>rfl
 |some x =>
  have hm:b∈trk h H:=List.mem_filter.mpr ⟨List.mem_range.mpr (kq e'),by simp[q]⟩
  have z:(BC h H).get? b=none:=PySem.W.hideAll_none (trk h H) hm;rw[z]at e;cases e
def Mu (g h:Heap)(L:Addr):List (Addr×Obj):=(Wy h.objs.size).filterMap λa=>if a=L\/(g.get? a).isSome=true then none else (h.get? a).map λo=>(a,o)
def rest (g h:Heap)(L d:Addr):List (Addr×Obj):=(Mu g h L).filter λp=>decide (p.1≠d)
structure Mod (K:ba)(mg:Str->Option Value)(base:Heap):Prop where
 kin:K.In base
 glob:base.Ns mainGlobals mg
 blt:∃mb,base.Ns builtinsNs mb/\∀x:Str,x≠"__name__"->mb x=Vr x
 nolimit:base.NoLimit
structure Cx where
 prog:ko
 w:World
 K:ba
 mg:Str->Option Value
 base:Heap
 A:Around
 N:List Str
 s₀:Shared
 H₀:Hp
 env:Env
 outer:List Env
 stack:List Env
 ex:List Addr
 fn:Str->Bool
 calm:Bool
 xc:Bool:=true
 xn:Bool:=false
 pn:List (Addr×Obj)
 xe:Value->Shared->Prop
def frs (l:List Env):List Addr:=l.filterMap (·.frame)
abbrev Cx.fs (X:Cx):List Addr:=frs X.outer
def Vis (sc:Scope)(x:Str):Prop:=sc.names.lookup x=some .local\/sc.names.lookup x=some .cell\/sc.names.lookup x=some .free
def Loc (sc:Scope)(x:Str):Prop:=sc.names.lookup x=some .local\/sc.names.lookup x=some .cell
def Look (env:Env)(h:Heap)(m:Str->Option Value)(x:Str)(u:Value):Prop :=
 (env.kindOf x=some .local/\m x=some u)\/((env.kindOf x=some .cell\/env.kindOf x=some .free)/\∃c,env.cells.lookup x=some c/\h.IsCell c (some u))
structure Cx.Ok (X:Cx):Prop where
 mod:Mod X.K X.mg X.base
 kind:X.env.scope.kind=.function
 glob:X.env.globals=mainGlobals
 blt:X.env.builtins=builtinsNs
 above:X.s₀.heap.objs.size<=X.env.locals
 inj:∀x y c,X.env.cells.lookup x=some c->X.env.cells.lookup y=some c->x=y
 has:∀x,(X.env.kindOf x=some .cell\/X.env.kindOf x=some .free)->∃c,X.env.cells.lookup x=some c
 cab:∀x c,X.fn x=true->X.env.cells.lookup x=some c->X.s₀.heap.objs.size<=c
 hd:X.calm=true->X.A.handled=none
 frames:X.A.frames=some X.stack
 stk:X.stack=X.outer\/(X.stack=X.env::X.outer/\X.env.frame=some X.env.locals)
 exf:∀b∈X.ex,b≠X.env.locals/\∀x c,X.env.cells.lookup x=some c->c≠b
 bs:∀b o,X.base.get? b=some o->X.s₀.heap.get? b=some o/\X.H₀ b=none
 bsz:X.base.objs.size<=X.s₀.heap.objs.size
 sL:∀b o,X.base.get? b=some o->b∉X.ex
 sM:∀b∈X.ex,b∉X.fs
 jJ:X.s₀.heap.FunFrames X.base X.outer
 frf:∀b∈X.fs,X.H₀ b=none
structure Inv (X:Cx)(pins:List (Addr×Obj))(σ:List (Option V))(H:Hp)(s:Shared):Prop where
 ok:X.Ok
 os:s.os=X.s₀.os
 bare:AllBare s.gens
 base:Un X.fs X.ex X.H₀ H X.s₀.heap s.heap
 loc:∃m,s.heap.Ns X.env.locals m/\∀(i:Nat) (x:Str) (v:V),X.N[i]?=some x->σ[i]?=some (some v)->Vis X.env.scope x->∃u,RelV v u/\Look X.env s.heap m x u
 cell:∀x c,X.env.cells.lookup x=some c->∃v,s.heap.IsCell c v
 free:H X.env.locals=none
 f9:∀x c,X.env.cells.lookup x=some c->H c=none
 pin:∀p∈X.pn++pins,s.heap.get? p.1=some p.2/\H p.1=none/\p.1≠X.env.locals/\p.1∉X.fs/\∀v,p.2.data≠.cell v
 hok:HOk X.prog X.w H s.heap
 len:σ.length=X.N.length
section
variable{X:Cx}{pins:List (Addr×Obj)}{σ:List (Option V)}{H H':Hp}{s:Shared}{h':Heap}
theorem Cx.Ok.Tf (ok:X.Ok){b:Addr}{o:Obj}(e:X.base.get? b=some o):b∉X.fs:=λhb=>by
 have:=(ok.jJ.mem hb).1;rw[e]at this;cases this
theorem Inv.bs (I:Inv X pins σ H s):∀b o,X.base.get? b=some o->s.heap.get? b=some o/\H b=none:=λb o e =>
 ⟨I.base.keep b o (I.ok.bs b o e).1 (I.ok.bs b o e).2 (I.ok.Tf e) (I.ok.sL b o e),I.base.free b o (I.ok.bs b o e).1 (I.ok.bs b o e).2 (I.ok.sL b o e)⟩
theorem Inv.bk (I:Inv X pins σ H s):∀b o,X.base.get? b=some o->s.heap.get? b=some o:=λb o e=>(I.bs b o e).1
theorem Inv.mod (I:Inv X pins σ H s):Mod X.K X.mg X.base:=I.ok.mod
theorem Inv.kIn (I:Inv X pins σ H s):X.K.In s.heap:=I.ok.mod.kin.keeps I.bk
theorem Inv.nolimit (I:Inv X pins σ H s):s.heap.NoLimit:=I.ok.mod.nolimit.keeps I.bk
theorem Inv.fr (I:Inv X pins σ H s):∃m,Fr X.base X.env.locals s.heap m :=
 let ⟨m,hn,_⟩:=I.loc
 ⟨m,hn,I.bk,ku I.ok.bsz I.ok.above⟩
theorem Inv.lt (I:Inv X pins σ H s):X.env.locals < s.heap.objs.size:=let ⟨_,hn,_⟩:=I.loc;hn.lt
theorem Inv.sz (I:Inv X pins σ H s):X.s₀.heap.objs.size<=s.heap.objs.size:=ku I.ok.above (Nat.le_of_lt I.lt)
theorem Inv.Tg (I:Inv X pins σ H s){a:Addr}(h:s.heap.objs.size<=a):a∉X.fs:=λhb=>by
 obtain⟨_,o,ho,_⟩:=I.ok.jJ.mem hb;exact absurd (tm (kq ho) (ku I.sz h)) (WC _)
theorem Inv.cne (I:Inv X pins σ H s):∀x c,X.env.cells.lookup x=some c->c≠X.env.locals:=λx c e z=>by
 obtain⟨v,o,ho,hd⟩:=I.cell x c e;obtain⟨m,⟨o',es,ep,ho',hd',_⟩,_⟩:=I.loc;rw[z,ho']at ho;cases ho;rw[hd']at hd;cases hd
theorem Inv.jJ (I:Inv X pins σ H s):s.heap.FunFrames X.base X.outer:=by
 have all:∀(l:List Env),(∀b∈frs l,b∈X.fs)->X.s₀.heap.FunFrames X.base l->s.heap.FunFrames X.base l:=by
  intro l
  induction l with
  |nil=>intro _ _;trivial
  |cons env r ih =>
   intro hs hl;obtain⟨hk,⟨L,o,hf,hn,ho,hd⟩,hr⟩:=hl;have hL:L∈X.fs:=hs L (by unfold frs;rw[List.filterMap_cons,hf];exact kb)
   obtain⟨sl,e⟩:=I.base.slot L o ho (I.ok.frf L hL) hL λz=>I.ok.sM L z hL
   exact⟨hk,⟨L,_,hf,hn,e,hd⟩,ih (λb hb=>hs b (by unfold frs;rw[List.filterMap_cons,hf];exact kr _ hb)) hr⟩
 exact all X.outer (λ_ hb=>hb) I.ok.jJ
theorem Inv.stack (I:Inv X pins σ H s):s.heap.FunFrames X.base X.stack:=by
 rcases I.ok.stk with e | ⟨e,hf⟩
 ·rw[e];exact I.jJ
 ·rw[e];obtain⟨m,hn,_⟩:=I.loc;refine .cons (by rw[I.ok.kind];decide) hf hn ?_ I.jJ
  exact Heap.get?_none_of_le (ku I.ok.bsz I.ok.above)
theorem Inv.x8 (I:Inv X pins σ H s):∀b∈frs X.stack,b∈X.env.locals::X.fs:=λb hb=>by
 rcases I.ok.stk with e | ⟨e,hf⟩
 ·rw[e]at hb;exact kr _ hb
 ·rw[e]at hb;unfold frs at hb;rw[List.filterMap_cons,hf]at hb;exact hb
theorem Inv.xO (I:Inv X pins σ H s):∀b∈frs X.stack,H b=none:=λb hb=>by
 rcases List.mem_cons.mp (I.x8 b hb) with e | hb
 ·rw[e];exact I.free
 ·obtain⟨_,o,ho,_⟩:=I.ok.jJ.mem hb;exact I.base.free b o ho (I.ok.frf b hb) λz=>I.ok.sM b z hb
theorem Inv.step {g':Array GenState}{t':Nat}{d':Drawn}{ch:List Addr}(I:Inv X pins σ H s)
  (hch:∀b∈ch,(b∈X.ex\/X.s₀.heap.objs.size<=b)/\b≠X.env.locals/\(∀x c,X.env.cells.lookup x=some c->c≠b)/\∀p∈X.pn++pins,p.1≠b)
  (keep:∀b o,b≠X.env.locals->b∉X.fs->b∉ch->s.heap.get? b=some o->H b=none->h'.get? b=some o)
  (slot:∀b o,b≠X.env.locals->b∈X.fs->b∉ch->s.heap.get? b=some o->H b=none->∃sl,h'.get? b=some { o with slots:=sl }) (free:∀b o,b∉ch->s.heap.get? b=some o->H b=none->H' b=none)
  (there:∀b o,b∉ch->s.heap.get? b=some o->∃o',h'.get? b=some o')
  (sI:∀b xs,H b=some (.tup xs)->H' b=some (.tup xs)) (q5:∀b o u,H b=some (.frz o u)->H' b=some (.frz o u)) (sJ:∀b ps,H b=some (.tbl ps)->∃more,H' b=some (.tbl (ps++more)))
  (ns:∀m,s.heap.Ns X.env.locals m->h'.Ns X.env.locals m) (hok:HOk X.prog X.w H' h') (hg:AllBare g') :
  Inv X pins σ H' { s with heap:=h',gens:=g',drawn:=d',toks:=t' }:=by
 have neL:∀b o,X.s₀.heap.get? b=some o->b≠X.env.locals:=λb o e=>sr (tm (kq e) I.ok.above)
 have neC:∀b o,X.s₀.heap.get? b=some o->b∉X.ex->b∉ch:=λb o e hx hb=>by
  rcases (hch b hb).1 with z | z
  ·exact hx z
  ·exact absurd (tm (kq e) z) (WC _)
 have cellK:∀x c,X.env.cells.lookup x=some c->∀v,s.heap.IsCell c v->h'.IsCell c v:=λx c e v ⟨o,ho,hd⟩=>by
  have nch:c∉ch:=λz=>(hch c z).2.2.1 x c e rfl
  by_cases hc:c∈X.fs
  ·obtain⟨sl,q⟩:=slot c o (I.cne x c e) hc nch ho (I.f9 x c e);exact⟨_,q,hd⟩
  ·exact⟨o,keep c o (I.cne x c e) hc nch ho (I.f9 x c e),hd⟩
 refine⟨I.ok,I.os,hg,⟨λb o e n hb hx=>?_,λb o e n hb hx=>?_,λb o e n hx=>?_,λb o e hx=>?_,λb xs e=>sI b xs (I.base.sI b xs e),λb o xs e=>q5 b o xs (I.base.q5 b o xs e),λb ps e=>?_⟩,?_,λx c e=>?_,?_,λx c e=>?_,λp hp=>?_,hok,I.len⟩
 ·exact keep b o (neL b o e) hb (neC b o e hx) (I.base.keep b o e n hb hx) (I.base.free b o e n hx)
 ·obtain⟨sl,e1⟩:=I.base.slot b o e n hb hx;obtain⟨sl',e2⟩:=slot b _ (neL b o e) hb (neC b o e hx) e1 (I.base.free b o e n hx);exact⟨sl',e2⟩
 ·obtain⟨o',e1⟩:=I.base.there b o e hx;exact free b o' (neC b o e hx) e1 (I.base.free b o e n hx)
 ·obtain⟨o',e1⟩:=I.base.there b o e hx;exact there b o' (neC b o e hx) e1
 ·obtain⟨m1,e1⟩:=I.base.sJ b ps e;obtain⟨m2,e2⟩:=sJ b _ e1;exact⟨m1++m2,by rw[e2,Array.append_assoc]⟩
 ·obtain⟨m,hn,hl⟩:=I.loc;refine⟨m,ns m hn,λi x v e1 e2 e3=>?_⟩
  obtain⟨u,r,l⟩:=hl i x v e1 e2 e3;refine⟨u,r,?_⟩;rcases l with l | ⟨k,c,e,z⟩
  ·exact .inl l
  ·exact .inr ⟨k,c,e,cellK x c e _ z⟩
 ·obtain⟨v,z⟩:=I.cell x c e;exact⟨v,cellK x c e v z⟩
 ·obtain⟨m,⟨o,_,_,ho,_⟩,_⟩:=I.loc;exact free _ o (λz=>(hch _ z).2.1 rfl) ho I.free
 ·obtain⟨v,o,ho,hd⟩:=I.cell x c e;exact free c o (λz=>(hch c z).2.2.1 x c e rfl) ho (I.f9 x c e)
 ·obtain⟨e,n,ne,nf,d⟩:=I.pin p hp;have nch:p.1∉ch:=λz=>(hch p.1 z).2.2.2 p hp rfl
  exact⟨keep p.1 p.2 ne nf nch e n,free p.1 p.2 nch e n,ne,nf,d⟩
theorem Inv.un {t':Nat}(I:Inv X pins σ H s)(u:Un X.fs [] H H' s.heap h')(hok:HOk X.prog X.w H' h'):Inv X pins σ H' { s with heap:=h',toks:=t' }:=by
 obtain⟨m,⟨o,es,ep,ho,r⟩,_⟩:=id I.loc;obtain⟨sl,hL⟩:=u.any ho I.free (by simp)
 exact I.step (g':=s.gens) (d':=s.drawn) (ch:=[]) (λ_ z=>nomatch z) (λb o _ hb _ e n=>u.keep b o e n hb (by simp)) (λb o _ hb _ e n=>u.slot b o e n hb (by simp)) (λb o _ e n=>u.free b o e n (by simp)) (λb o _ e=>u.there b o e (by simp)) u.sI u.q5 u.sJ (λm' hm=>by
  obtain⟨o',es',ep',ho',r'⟩:=hm;rw[ho]at ho';cases ho';exact⟨_,es',ep',hL,r'⟩) hok I.bare
theorem Inv.call {g':Array GenState}{t':Nat}{d':Drawn}{ch:List Addr}(I:Inv X pins σ H s)(u:Un (frs X.stack) ch H H' s.heap h')(hok:HOk X.prog X.w H' h')(hg:AllBare g')
  (hch:∀b∈ch,(b∈X.ex\/X.s₀.heap.objs.size<=b)/\b≠X.env.locals/\(∀x c,X.env.cells.lookup x=some c->c≠b)/\∀p∈X.pn++pins,p.1≠b) :
  Inv X pins σ H' { s with heap:=h',gens:=g',drawn:=d',toks:=t' }:=by
 obtain⟨m,⟨o,es,ep,ho,r⟩,_⟩:=id I.loc;obtain⟨sl,hL⟩:=u.any ho I.free λz=>(hch _ z).2.1 rfl
 exact I.step (ch:=ch) hch (λb o hL hb hc e n=>u.keep b o e n (λz=>(List.mem_cons.mp (I.x8 b z)).elim hL hb) hc) (λb o _ _ hc e n=>u.any e n hc) (λb o hc e n=>u.free b o e n hc) (λb o hc e=>u.there b o e hc) u.sI u.q5 u.sJ (λm' hm=>by
  obtain⟨o',es',ep',ho',r'⟩:=hm;rw[ho]at ho';cases ho';exact⟨_,es',ep',hL,r'⟩) hok hg
theorem Inv.turned {t':Nat}{it:Addr}(I:Inv X pins σ H s)(k:∀b o,b≠it->s.heap.get? b=some o->h'.get? b=some o)(hn:H it=none)(hL:it≠X.env.locals)
  (h1:it∈X.ex\/X.s₀.heap.objs.size<=it) (h2:∀x c,X.env.cells.lookup x=some c->c≠it) (h3:∀p∈X.pn++pins,p.1≠it):Inv X pins σ H { s with heap:=h',toks:=t' }:=by
 have nit:∀b u,H b=some u->b≠it:=λb u e z=>by rw[z,hn]at e;cases e
 refine I.step (g':=s.gens) (d':=s.drawn) (ch:=[it]) (λb hb=>?_) (λb o _ _ hc e _=>k b o (λz=>hc (by simp[z])) e) (λb o _ _ hc e _=>⟨o.slots,k b o (λz=>hc (by simp[z])) e⟩) (λ_ _ _ _ n=>n)
  (λb o hc e=>⟨o,k b o (λz=>hc (by simp[z])) e⟩) (λ_ _ e=>e) (λ_ _ _ e=>e) (λb ps e=>⟨#[],by rw[e];simp⟩) (λm hm=>?_) (λb u e=>?_) I.bare
 ·have e:b=it:=by simpa using hb
  subst e;exact⟨h1,hL,h2,h3⟩
 ·obtain⟨o,es,ep,ho,r⟩:=hm;exact⟨o,es,ep,k _ o (UU hL) ho,r⟩
 ·refine(I.hok b u e).wY (λc v hc q=>k c v ?_ q) (λ_ q=>q) λ_ _ q=>q
  rcases hc with z | z
  ·rw[z];exact nit b u e
  ·exact nit c _ z
theorem Inv.tok (I:Inv X pins σ H s)(t:Nat):Inv X pins σ H { s with toks:=t }:=I.un (h':=s.heap) (t':=t) Un.refl I.hok
theorem Inv.kept {t':Nat}(I:Inv X pins σ H s)(k:∀b u,s.heap.get? b=some u->h'.get? b=some u):Inv X pins σ H { s with heap:=h',toks:=t' }:=I.un (Un.kept k) (I.hok.kept k)
theorem Inv.laid {a:Addr}{o:HO}{t':Nat}(I:Inv X pins σ H s)(k:∀b u,s.heap.get? b=some u->h'.get? b=some u)(hp:s.heap.objs.size<=a)(new:dE X.prog X.w (upd H a o) h' a o) :
  Inv X pins σ (upd H a o) { s with heap:=h',toks:=t' }:=I.un (Un.laid k hp (I.hok.fresh hp)) (I.hok.laid k hp new)
theorem Inv.write {x e:Addr}{o:HO}{t':Nat}(I:Inv X pins σ H s)(mu:Mut (H x))(he:e=x\/H e=some (.own x))(k:∀b u,b≠e->s.heap.get? b=some u->h'.get? b=some u)(heo:∃u,h'.get? e=some u)
  (new:dE X.prog X.w (upd H x o) h' x o):Inv X pins σ (upd H x o) { s with heap:=h',toks:=t' }:=I.un (Un.write mu he k heo) (I.hok.write mu he k heo new)
theorem Inv.pK {Du:List (Addr×Obj)}(I:Inv X pins σ H s)(h:∀p∈Du,s.heap.get? p.1=some p.2/\H p.1=none/\p.1≠X.env.locals/\p.1∉X.fs/\∀v,p.2.data≠.cell v):Inv X Du σ H s :=
 ⟨I.ok,I.os,I.bare,I.base,I.loc,I.cell,I.free,I.f9,λp hp=>(List.mem_append.mp hp).elim (λz=>I.pin p (Vc _ z)) (h p),I.hok,I.len⟩
theorem x9 {N:List Str}(hN:N.Nodup){i j:Nat}{x:Str}(a:N[i]?=some x)(b:N[j]?=some x):i=j:=by
 obtain⟨h1,e1⟩:=List.getElem?_eq_some_iff.mp a;obtain⟨h2,e2⟩:=List.getElem?_eq_some_iff.mp b;exact(List.getElem_inj hN).mp (e1.trans e2.symm)
theorem HL {M:Model}{A:Around}{E:Value->Shared->Prop}{i:Nat}{x:Str}{v:V}{u:Value}{Q:Unit->Shared->Prop}(I:Inv X pins σ H s)(hN:X.N.Nodup)(hi:X.N[i]?=some x)(hx:Loc X.env.scope x)(r:RelV v u)
  (h:∀s',Inv X pins (σ.set i (some v)) H s'->(∃a,Heap.SameBut a s.heap s'.heap/\(a=X.env.locals\/X.env.cells.lookup x=some a))->Q () s') (hf:X.fn x=true\/X.env.scope.names.lookup x=some .local:=by first | exact .inl rfl | exact .inr rfl | assumption):wpAny M A (storeName X.env x u) Q E s:=by
 obtain⟨m,hn,hl⟩:=id I.loc;have Th:(X.env.scope.kind == .class || (X.env.scope.kind == .module && X.env.locals != X.env.globals))=false:=by rw[I.ok.kind];rfl
 have hiσ:i < σ.length:=by rw[I.len];exact(List.getElem?_eq_some_iff.mp hi).1
 have cne:=I.cne;have tracked:∀ {a:Addr} {h':Heap},(∃o,s.heap.get? a=some o/\H a=none)->Heap.SameBut a s.heap h'->HOk X.prog X.w H h':=λ{a h'} ha hs b ob e=>by
  obtain⟨_,_,N4⟩:=ha;refine(I.hok b ob e).wY (λc w' hc q=>(hs.2 c ?_).trans q) (λ_ q=>q) λ_ _ q=>q
  rintro rfl;rcases hc with rfl | hc
  ·rw[N4]at e;cases e
  ·rw[N4]at hc;cases hc
 rcases hx with hk | hk
 ·refine wpAny_storeName_local hk hn (λh' hn' hs=>?_) Th
  obtain⟨oL,_,_,hoL,_⟩:=id hn;refine h _ ⟨I.ok,I.os,I.bare,⟨λb o e n hb hx=>?_,λb o e n hb hx=>?_,I.base.free,λb o e hx=>?_,I.base.sI,I.base.q5,I.base.sJ⟩,⟨_,hn',λj y v' e1 e2 e3=>?_⟩,λy c e=>?_,I.free,I.f9,λp hp=>?_,tracked ⟨oL,hoL,I.free⟩ hs,by simpa using I.len⟩ ⟨_,hs,.inl rfl⟩
  ·exact(hs.2 b (sr (tm (kq e) I.ok.above))).trans (I.base.keep b o e n hb hx)
  ·obtain⟨sl,e1⟩:=I.base.slot b o e n hb hx;exact⟨sl,(hs.2 b (sr (tm (kq e) I.ok.above))).trans e1⟩
  ·obtain⟨o',e1⟩:=I.base.there b o e hx;exact⟨o',(hs.2 b (sr (tm (kq e) I.ok.above))).trans e1⟩
  ·by_cases hj:j=i
   ·subst hj;rw[hi]at e1;cases e1;rw[List.getElem?_set_self hiσ]at e2;cases e2;exact⟨u,r,.inl ⟨hk,by simp⟩⟩
   ·rw[List.getElem?_set_ne (UU hj)]at e2;obtain⟨u',r',q⟩:=hl j y v' e1 e2 e3;refine⟨u',r',?_⟩;rcases q with ⟨k,e⟩ | ⟨k,c,e,z⟩
    ·refine .inl ⟨k,?_⟩;have:y≠x:=λe=>hj (x9 hN e1 (e▸hi))
     simp[this,e]
    ·exact .inr ⟨k,c,e,z.sameBut hs (cne y c e)⟩
  ·obtain⟨w',z⟩:=I.cell y c e;exact⟨w',z.sameBut hs (cne y c e)⟩
  ·obtain⟨e,n,ne,nf,d⟩:=I.pin p hp;exact⟨(hs.2 p.1 ne).trans e,n,ne,nf,d⟩
 ·have hfn:X.fn x=true:=by
   rcases hf with z | z
   ·exact z
   ·rw[z]at hk;cases hk
  obtain⟨c,hc⟩:=I.ok.has x (.inl hk);obtain⟨w',z⟩:=I.cell x c hc;refine wpAny_storeName_cell I.ok.kind hk hc z (λh' hc' hs=>?_)
  obtain⟨oc,hoc,Ti⟩:=id z;refine h { s with heap:=h' } ⟨I.ok,I.os,I.bare,⟨λb o e n hb hx=>?_,λb o e n hb hx=>?_,I.base.free,λb o e hx=>?_,I.base.sI,I.base.q5,I.base.sJ⟩,⟨m,hn.sameBut hs (UU (cne x c hc)),λj y v' e1 e2 e3=>?_⟩,λy c' e=>?_,I.free,I.f9,λp hp=>?_,tracked ⟨oc,hoc,I.f9 x c hc⟩ hs,by simpa using I.len⟩ ⟨c,hs,.inr hc⟩
  ·exact(hs.2 b (sr (tm (kq e) (I.ok.cab x c hfn hc)))).trans (I.base.keep b o e n hb hx)
  ·obtain⟨sl,e1⟩:=I.base.slot b o e n hb hx;exact⟨sl,(hs.2 b (sr (tm (kq e) (I.ok.cab x c hfn hc)))).trans e1⟩
  ·obtain⟨o',e1⟩:=I.base.there b o e hx;exact⟨o',(hs.2 b (sr (tm (kq e) (I.ok.cab x c hfn hc)))).trans e1⟩
  ·by_cases hj:j=i
   ·subst hj;rw[hi]at e1;cases e1;rw[List.getElem?_set_self hiσ]at e2;cases e2;exact⟨u,r,.inr ⟨.inl hk,c,hc,hc'⟩⟩
   ·rw[List.getElem?_set_ne (UU hj)]at e2;obtain⟨u',r',q⟩:=hl j y v' e1 e2 e3;refine⟨u',r',?_⟩;rcases q with q | ⟨k,c',e,z'⟩
    ·exact .inl q
    ·refine .inr ⟨k,c',e,z'.sameBut hs ?_⟩;rintro rfl;exact hj (x9 hN e1 (I.ok.inj _ _ _ e hc▸hi))
  ·by_cases hcc:c'=c
   ·subst hcc;exact⟨_,hc'⟩
   ·obtain⟨w2,z2⟩:=I.cell y c' e;exact⟨w2,z2.sameBut hs hcc⟩
  ·obtain⟨e,n,ne,nf,d⟩:=I.pin p hp;refine⟨(hs.2 p.1 ?_).trans e,n,ne,nf,d⟩;intro q;rw[q,hoc]at e;have q':oc=p.2:=ra e;exact d w' (by rw[<-q'];exact Ti)
theorem hX {M:Model}{A:Around}{E:Value->Shared->Prop}{i:Nat}{x:Str}{v:V}{u:Value}{Q:Unit->Shared->Prop}(I:Inv X pins σ H s)(hN:X.N.Nodup)(hi:X.N[i]?=some x)(hx:Loc X.env.scope x)(r:RelV v u)
  (h:∀s',Inv X pins (σ.set i (some v)) H s'->Q () s') (hf:X.fn x=true\/X.env.scope.names.lookup x=some .local:=by first | exact .inl rfl | exact .inr rfl | assumption):wpAny M A (storeName X.env x u) Q E s :=
 HL I hN hi hx r (λs' I' _=>h s' I') hf
theorem Inv.GJ {s':Shared}{ch:List Addr}(I:Inv X pins σ H s)(ho:s'.os=s.os)(u:Un (frs X.stack) ch H H' s.heap s'.heap)(hok:HOk X.prog X.w H' s'.heap)(hg:AllBare s'.gens)
  (hch:∀b∈ch,(b∈X.ex\/X.s₀.heap.objs.size<=b)/\b≠X.env.locals/\(∀x c,X.env.cells.lookup x=some c->c≠b)/\∀p∈X.pn++pins,p.1≠b):Inv X pins σ H' s':=by
 obtain⟨h',g',d',t',o'⟩:=s';have e:o'=s.os:=ho;subst e;exact I.call (g':=g') (t':=t') (d':=d') u hok hg hch
end
abbrev XK:=Value->Option Addr->Hp->Prop
abbrev St:=List (Option V)
abbrev VK:=V->Hp->Prop
abbrev TE:=St->Hp->VK->Prop
abbrev TT:=St->Hp->(Bool->Hp->Prop)->Prop
abbrev TA:=St->Hp->(List V->Hp->Prop)->Prop
structure Ends where
 nx:St->Hp->Prop
 rt:VK
 bk:St->Hp->Prop:=λ_ _=>False
 ct:St->Hp->Prop:=λ_ _=>False
abbrev TS:=Ends->St->Hp->Prop
def EP (X:Cx)(pins:List (Addr×Obj))(σ:St)(Q:VK)(u:Value)(s':Shared):Prop:=∃v H',Inv X pins σ H' s'/\RelV v u/\Q v H'
def TP (X:Cx)(pins:List (Addr×Obj))(σ:St)(Q:Bool->Hp->Prop)(b:Bool)(s':Shared):Prop:=∃H',Inv X pins σ H' s'/\Q b H'
def AP (X:Cx)(pins:List (Addr×Obj))(σ:St)(Q:List V->Hp->Prop)(us:List Value)(s':Shared):Prop:=∃vs H',Inv X pins σ H' s'/\Vals vs us/\Q vs H'
def SP (X:Cx)(pins:List (Addr×Obj))(D:Ends)(f:Flow)(s':Shared):Prop :=
 match f with
 | .next=>∃σ' H',Inv X pins σ' H' s'/\D.nx σ' H'
 | .brk=>∃σ' H',Inv X pins σ' H' s'/\D.bk σ' H'
 | .cont=>∃σ' H',Inv X pins σ' H' s'/\D.ct σ' H'
 | .ret u=>∃v σ' H',Inv X pins σ' H' s'/\RelV v u/\D.rt v H'
def PE (X:Cx)(e:Expr)(t:TE):Prop :=
 ∀(pins:List (Addr×Obj)) (s:Shared) (σ:St) (H:Hp) (Q:VK),Inv X pins σ H s->t σ H Q->wpAny (model X.prog X.w) X.A (eval e X.env) (EP X pins σ Q) X.xe s
def PT (X:Cx)(e:Expr)(t:TT):Prop :=
 ∀(pins:List (Addr×Obj)) (s:Shared) (σ:St) (H:Hp) (Q:Bool->Hp->Prop),Inv X pins σ H s->t σ H Q->wpAny (model X.prog X.w) X.A (isTrue e X.env (eval e X.env)) (TP X pins σ Q) X.xe s
def PW (X:Cx)(e:Expr)(t:TT):Prop :=
 ∀(whole:Sem Value) (pins:List (Addr×Obj)) (s:Shared) (σ:St) (H:Hp) (Q:Bool->Hp->Prop),Inv X pins σ H s->t σ H Q->wpAny (model X.prog X.w) X.A (isTrue e X.env whole) (TP X pins σ Q) X.xe s
theorem PW.pt {X:Cx}{e:Expr}{t:TT}(h:PW X e t):PT X e t:=h _
def PA (X:Cx)(es:List Expr)(t:TA):Prop :=
 ∀(pos:Pos) (pins:List (Addr×Obj)) (s:Shared) (σ:St) (H:Hp) (Q:List V->Hp->Prop),Inv X pins σ H s->t σ H Q->wpAny (model X.prog X.w) X.A (spliced (backTo pos (om es X.env))) (AP X pins σ Q) X.xe s
def PS (X:Cx)(st:Stmt)(t:TS):Prop :=
 ∀(pins:List (Addr×Obj)) (s:Shared) (σ:St) (H:Hp) (D:Ends),Inv X pins σ H s->t D σ H->wpAny (model X.prog X.w) X.A (exec st X.env) (SP X pins D) X.xe s
def PSs (X:Cx)(st:List Stmt)(t:TS):Prop :=
 ∀(pins:List (Addr×Obj)) (s:Shared) (σ:St) (H:Hp) (D:Ends),Inv X pins σ H s->t D σ H->wpAny (model X.prog X.w) X.A (execs st X.env) (SP X pins D) X.xe s
theorem thn {α:Type}{t:Sem α}{Q Q':α->Shared->Prop}{M:Model}{A:Around}{E:Value->Shared->Prop}{s:Shared}(h:wpAny M A t Q E s)(hQ:∀a s,Q a s->Q' a s):wpAny M A t Q' E s:=ki h hQ λ_ _ x=>x
section
variable{X:Cx}
theorem bin {a b:Expr}{ta tb:TE}(ha:PE X a ta)(hb:PE X b tb){pins:List (Addr×Obj)}{s:Shared}{σ:St}{H:Hp}{R:V->V->Hp->Prop}(I:Inv X pins σ H s)(h:ta σ H λx H1=>tb σ H1 λy H2=>R x y H2)
  {α:Type} {Q:α->Shared->Prop} {f:Value->Value->Sem α}
  (hf:∀v u s2 x y H2,Inv X pins σ H2 s2->RelV x v->RelV y u->R x y H2->wpAny (model X.prog X.w) X.A (f v u) Q X.xe s2) :
  wpAny (model X.prog X.w) X.A (eval a X.env) (λv s₁=>wpAny (model X.prog X.w) X.A (eval b X.env) (λu s₂=>wpAny (model X.prog X.w) X.A (f v u) Q X.xe s₂) X.xe s₁) X.xe s:=by
 refine thn (ha pins s σ H _ I h) λv s1 ⟨x,H1,I1,r1,q1⟩=>?_
 refine thn (hb pins s1 σ H1 _ I1 q1) λu s2 ⟨y,H2,I2,r2,q2⟩=>?_
 exact hf v u s2 x y H2 I2 r1 r2 q2
def Ab (i:Nat):TE:=λσ H Q=>∃v,σ[i]?=some (some v)/\Q v H
def tC (v:V):TE:=λ_ H Q=>Q v H
theorem OL {i:Nat}{x:Str}{pos:Pos}(hN:X.N[i]?=some x)(hv:Vis X.env.scope x)(hd:(x == ("__debug__":Str))=false:=by decide)(hcd:(x == ("__classdict__":Str))=false:=by decide):PE X (.Name x pos) (Ab i):=by
 intro pins s σ H Q I h;obtain⟨v,e,h⟩:=h;obtain⟨m,hn,hl⟩:=I.loc;obtain⟨u,r,l⟩:=hl i x v hN e hv;have fin:EP X pins σ Q u s:=⟨v,H,I,r,h⟩;rcases l with ⟨hk,hm⟩ | ⟨hk,c,hc,iO⟩
 ·exact wpAny_Name (wpAny_loadName_local I.ok.kind hk hn hm fin) hd
 ·rcases hk with hk | hk
  ·exact wpAny_Name (wpAny_loadName_cell I.ok.kind hk hc iO fin) hd
  ·exact wpAny_Name (wpAny_loadName_free I.ok.kind hk hc iO fin hcd) hd
theorem ao {i j pos}:PE X (.Constant (.int i) j pos) (tC (.int i)):=λ_ _ _ H _ I h=>wpAny_Constant_int ⟨.int i,H,I.tok _,⟨_,rfl⟩,h⟩
theorem lh {b j pos}:PE X (.Constant (.bool b) j pos) (tC (.bl b)):=λ_ _ _ H _ I h=>Constant_bool ⟨.bl b,H,I,rfl,h⟩
theorem Fq {j pos}:PE X (.Constant .none j pos) (tC .non):=λ_ _ _ H _ I h=>Constant_none ⟨.non,H,I,rfl,h⟩
theorem ag {x j pos}:PE X (.Constant (.str x) j pos) (tC (.str x)):=λ_ _ _ H _ I h=>Calls.Constant_str ⟨.str x,H,I.tok _,⟨_,rfl⟩,h⟩
def Gl (X:Cx)(x:Str):Prop:=X.env.kindOf x=some .globalImplicit
theorem eN {E:Value->Shared->Prop}{pins:List (Addr×Obj)}{s:Shared}{σ:St}{H:Hp}{x:Str}{u:Value}{pos:Pos}{Q:Value->Shared->Prop}(I:Inv X pins σ H s)(hg:Gl X x)(hm:X.mg x=some u)(h:Q u s)
  (hd:(x == ("__debug__":Str))=false:=by decide):wpAny (model X.prog X.w) X.A (eval (.Name x pos) X.env) Q E s :=
 Calls.Name_function_global I.ok.kind hg (Calls.loadGlobal_global (by rw[I.ok.glob];exact I.mod.glob.keeps I.bk) hm h) hd
theorem BD {E:Value->Shared->Prop}{pins:List (Addr×Obj)}{s:Shared}{σ:St}{H:Hp}{x:Str}{u:Value}{pos:Pos}{Q:Value->Shared->Prop}(I:Inv X pins σ H s)(hg:Gl X x)(hm:X.mg x=none)(hv:Vr x=some u)(h:Q u s)
  (hn:x≠"__name__":=by decide) (hd:(x == ("__debug__":Str))=false:=by decide):wpAny (model X.prog X.w) X.A (eval (.Name x pos) X.env) Q E s:=by
 obtain⟨mb,h1,h2⟩:=I.mod.blt;exact Calls.Name_function_global I.ok.kind hg (Calls.loadGlobal_builtin (by rw[I.ok.glob];exact I.mod.glob.keeps I.bk) hm (by rw[I.ok.blt];exact h1.keeps I.bk) ((h2 x hn).trans hv) h) hd
theorem c8 {x:Str}{v:V}{u:Value}{pos:Pos}(hg:Gl X x)(hm:X.mg x=some u)(r:RelV v u)(hd:(x == ("__debug__":Str))=false:=by decide):PE X (.Name x pos) (tC v) :=
 λ_ _ _ H _ I h=>eN I hg hm ⟨v,H,I,r,h⟩ hd
variable{a b:Expr}{ta tb:TE}{pos:Pos}
def PC (X:Cx)(op:CmpOp)(a b:Expr)(t:TE):Prop :=
 ∀(pins:List (Addr×Obj)) (s:Shared) (σ:St) (H:Hp) (Q:VK),Inv X pins σ H s->t σ H Q ->
  wpAny (model X.prog X.w) X.A (eval a X.env) (λv s₁=>wpAny (model X.prog X.w) X.A (eval b X.env) (λu s₂=>wpAny (model X.prog X.w) X.A (VU op v u) (EP X pins σ Q) X.xe s₂) X.xe s₁) X.xe s
theorem JA (b:Expr){op:CmpOp}(h:op≠.In)(h2:op≠.NotIn):behindInMarks op b=false:=by
 have e1:(op == CmpOp.In)=false:=by cases op <;> first | rfl | exact absurd rfl h
 have e2:(op == CmpOp.NotIn)=false:=by cases op <;> first | rfl | exact absurd rfl h2
 cases b <;> simp[behindInMarks,e1,e2]
def tB (t:TE):TT:=λσ H Q=>t σ H λx H1=>∃c,x=.bl c/\Q c H1
theorem JB {op:CmpOp}{t:TE}(h:PC X op a b t)(h1:behindInMarks op b=false:=by first | exact JA _ (by decide) (by decide) | rfl):PT X (.Compare a [op] [b] pos) (tB t):=by
 intro pins s σ H Q I hw;refine wpAny_isTrue_Compare1 (thn (h pins s σ H _ I hw) λv s1 h1=>thn h1 λu s2 h2=>thn h2 λc s3 ⟨x,H1,I1,r1,q1⟩=>?_) h1
 obtain⟨d,rfl,q⟩:=q1;cases r1;exact wpAny_truthy_bool ⟨H1,I1,q⟩
theorem q8 {e:Expr}{t:TE}(h:PE X e t)(he:∀whole,isTrue e X.env whole=(do let v <-whole;standAt e.pos;holding [v] (truthy v)):=by intro _;rfl):PT X e (tB t):=by
 intro pins s σ H Q I hw;refine isTrue_plain (thn (h pins s σ H _ I hw) λv s1 ⟨x,H1,I1,r1,q1⟩=>?_) (he _)
 obtain⟨d,rfl,q⟩:=q1;cases r1;exact wpAny_truthy_bool ⟨H1,I1,q⟩
variable{tA tB':TT}{rest:List Expr}
def Tj (t u:TT):TT:=λσ H Q=>t σ H λc H1=>if c=true then u σ H1 Q else Q false H1
def tOr (t u:TT):TT:=λσ H Q=>t σ H λc H1=>if c=true then Q true H1 else u σ H1 Q
def Tn (t:TT):TT:=λσ H Q=>t σ H λc H1=>Q (!c) H1
theorem pw_and1 (ha:PT X a tA):PW X (.BoolOp .And [a] pos) tA:=by
 intro wh pins s σ H Q I h;refine isTrue_and (thn (ha pins s σ H Q I h) λc s1 e=>?_)
 cases c with
 |true=>exact isTrue_and_nil e
 |false=>exact e
theorem pw_or1 (ha:PT X a tA):PW X (.BoolOp .Or [a] pos) tA:=by
 intro wh pins s σ H Q I h;refine isTrue_or (thn (ha pins s σ H Q I h) λc s1 e=>?_)
 cases c with
 |false=>exact isTrue_or_nil e
 |true=>exact e
theorem pw_and (ha:PT X a tA)(hb:PW X (.BoolOp .And (b::rest) pos) tB'):PW X (.BoolOp .And (a::b::rest) pos) (Tj tA tB'):=by
 intro wh pins s σ H Q I h;refine isTrue_and (thn (ha pins s σ H _ I h) λc s1 ⟨H1,I1,q1⟩=>?_)
 cases c with
 |true=>exact hb wh pins s1 σ H1 Q I1 q1
 |false=>exact⟨H1,I1,q1⟩
theorem pw_or (ha:PT X a tA)(hb:PW X (.BoolOp .Or (b::rest) pos) tB'):PW X (.BoolOp .Or (a::b::rest) pos) (tOr tA tB'):=by
 intro wh pins s σ H Q I h;refine isTrue_or (thn (ha pins s σ H _ I h) λc s1 ⟨H1,I1,q1⟩=>?_)
 cases c with
 |true=>exact⟨H1,I1,q1⟩
 |false=>exact hb wh pins s1 σ H1 Q I1 q1
theorem q9 (ha:PT X a tA):PT X (.UnaryOp .Not a pos) (Tn tA):=by
 intro pins s σ H Q I h;exact isTrue_not (ha pins s σ H (λc H1=>Q (!c) H1) I h)
def QX (ta tb:TE):TE:=λσ H Q=>ta σ H λx H1=>∃c,x=.bl c/\if c=true then tb σ H1 Q else Q (.bl false) H1
def To (ta tb:TE):TE:=λσ H Q=>ta σ H λx H1=>∃c,x=.bl c/\if c=true then Q (.bl true) H1 else tb σ H1 Q
theorem i9 {op}{t:TE}(h:PE X a t):PE X (.BoolOp op [a] pos) t:=λpins s σ H Q I hw=>BoolOp_one (h pins s σ H Q I hw)
theorem j9 (ha:PE X a ta)(hb:PE X (.BoolOp .And (b::rest) pos) tb):PE X (.BoolOp .And (a::b::rest) pos) (QX ta tb):=by
 intro pins s σ H Q I h;refine BoolOp_and (thn (ha pins s σ H _ I h) λv s1 ⟨x,H1,I1,r1,q1⟩=>?_)
 obtain⟨c,rfl,q1⟩:=q1;cases r1;refine wpAny_truthy_bool ?_;cases c with
 |true=>exact hb pins s1 σ H1 Q I1 q1
 |false=>exact⟨.bl false,H1,I1,rfl,q1⟩
theorem N5 (ha:PE X a ta)(hb:PE X (.BoolOp .Or (b::rest) pos) tb):PE X (.BoolOp .Or (a::b::rest) pos) (To ta tb):=by
 intro pins s σ H Q I h;refine BoolOp_or (thn (ha pins s σ H _ I h) λv s1 ⟨x,H1,I1,r1,q1⟩=>?_)
 obtain⟨c,rfl,q1⟩:=q1;cases r1;refine wpAny_truthy_bool ?_;cases c with
 |false=>exact hb pins s1 σ H1 Q I1 q1
 |true=>exact⟨.bl true,H1,I1,rfl,q1⟩
def tIf (t:TT)(ta tb:TE):TE:=λσ H Q=>t σ H λc H1=>if c=true then ta σ H1 Q else tb σ H1 Q
theorem Dv {c:Expr}(hc:PT X c tA)(ha:PE X a ta)(hb:PE X b tb):PE X (.IfExp c a b pos) (tIf tA ta tb):=by
 intro pins s σ H Q I h;refine wpAny_IfExp (thn (hc pins s σ H _ I h) λd s1 ⟨H1,I1,q1⟩=>?_)
 cases d with
 |true=>exact ha pins s1 σ H1 Q I1 q1
 |false=>exact hb pins s1 σ H1 Q I1 q1
end
def SqL (K:ba)(H:Hp)(a:Addr)(xs:List V):Prop :=
 Rd H a (.lst xs) \/
  ∃(o:Obj) (its:Array Value) (n:Nat),K.lookup a=some o/\o.cls=.type "list"/\o.dict=none/\o.data=.seq its n/\its.size<=de/\Vals xs its.toList
def SqT (K:ba)(H:Hp)(a:Addr)(xs:List V):Prop :=
 Rd H a (.tup xs) \/
  ∃(o:Obj) (its:Array Value) (n:Nat),K.lookup a=some o/\o.cls=.type "tuple"/\o.data=.seq its n/\its.size<=de/\Vals xs its.toList
def Tp:Value->Option V
 | .none=>some .non
 | .bool b=>some (.bl b)
 | .int i _=>some (.int i)
 | .str x _=>some (.str x)
 | .bytes b _=>some (.byt b)
 | .float b _=>some (.flt b)
 | .ref a=>some (.ref a)
 | .type n=>some (.ty n)
 |_=>none
theorem RelV.abs {x:V}{u:Value}(r:RelV x u):Tp u=some x:=by
 cases x with
 |non=>cases r;rfl
 |bl _=>cases r;rfl
 |int _=>obtain⟨t,rfl⟩:=r;rfl
 |str _=>obtain⟨t,rfl⟩:=r;rfl
 |byt _=>obtain⟨t,rfl⟩:=r;rfl
 |flt _=>obtain⟨t,rfl⟩:=r;rfl
 |ref _=>cases r;rfl
 |ty _=>cases r;rfl
theorem RelV.inj {x y:V}{u:Value}(r:RelV x u)(q:RelV y u):x=y:=ra (r.abs.symm.trans q.abs)
theorem Vals.inj:∀ {xs ys:List V} {us:List Value},Vals xs us->Vals ys us->xs=ys
 |_,_,_,.nil,.nil=>rfl
 |_,_,_,.cons r t,.cons r' t'=>by rw[r.inj r',Vals.inj t t']
section
variable{X:Cx}{pins:List (Addr×Obj)}{σ:St}{H:Hp}{s:Shared}{a:Addr}{xs ys:List V}
theorem SqL.of {K:ba}(h:H a=some (.lst xs)):SqL K H a xs:=.inl (.inl h)
theorem SqT.of {K:ba}(h:H a=some (.tup xs)):SqT K H a xs:=.inl (.inl h)
theorem Inv.list (I:Inv X pins σ H s)(h:SqL X.K H a xs):∃its:List Value,Vals xs its/\PlainL s.heap a its.toArray/\xs.length<=de:=by
 rcases h with h | ⟨o,its,n,hk,hc,hd,hs,hz,r⟩
 ·obtain⟨z,its,n,r,e⟩:=h.ok I.hok;exact⟨its,r,⟨_,n,e,rfl,rfl,rfl⟩,z⟩
 ·refine⟨its.toList,r,⟨o,n,I.kIn a o hk,hc,hd,by simpa using hs⟩,?_⟩
  have e:=r.length;simp only[Array.length_toList]at e;omega
theorem Inv.tuple (I:Inv X pins σ H s)(h:SqT X.K H a xs):∃its:List Value,Vals xs its/\IsTup s.heap a its.toArray/\xs.length<=de:=by
 rcases h with h | ⟨o,its,n,hk,hc,hs,hz,r⟩
 ·obtain⟨z,its,r,p⟩:=h.ok I.hok;exact⟨its,r,p,z⟩
 ·refine⟨its.toList,r,⟨o,I.kIn a o hk,hc,n,by simpa using hs⟩,?_⟩
  have e:=r.length;simp only[Array.length_toList]at e;omega
theorem Inv.Dw (I:Inv X pins σ H s)(h:SqL X.K H a xs)(h':SqL X.K H a ys):xs=ys:=by
 obtain⟨its,r,⟨o,n,e,_,_,d⟩,_⟩:=I.list h;obtain⟨its',r',⟨o',n',e',_,_,d'⟩,_⟩:=I.list h';rw[e]at e';cases e';rw[d]at d';injection d' with d1 _
 have:its=its':=by simpa using congrArg Array.toList d1
 subst this;exact r.inj r'
theorem Inv.HM (I:Inv X pins σ H s)(h:SqT X.K H a xs)(h':SqT X.K H a ys):xs=ys:=by
 obtain⟨its,r,⟨o,e,_,n,d⟩,_⟩:=I.tuple h;obtain⟨its',r',⟨o',e',_,n',d'⟩,_⟩:=I.tuple h';rw[e]at e';cases e';rw[d]at d';injection d' with d1 _
 have:its=its':=by simpa using congrArg Array.toList d1
 subst this;exact r.inj r'
end
abbrev Cx.gN (X:Cx)(E:Value->Shared->Prop):Cx:={ X with xe:=E }
abbrev Cx.nox (X:Cx):Cx:=X.gN λ_ _=>False
theorem Cx.Ok.gN {X:Cx}(ok:X.Ok)(E:Value->Shared->Prop):(X.gN E).Ok :=
 ⟨ok.mod,ok.kind,ok.glob,ok.blt,ok.above,ok.inj,ok.has,ok.cab,ok.hd,ok.frames,ok.stk,ok.exf,ok.bs,ok.bsz,ok.sL,ok.sM,ok.jJ,ok.frf⟩
theorem Cx.Ok.ck {X:Cx}{E:Value->Shared->Prop}(ok:(X.gN E).Ok):X.Ok :=
 ⟨ok.mod,ok.kind,ok.glob,ok.blt,ok.above,ok.inj,ok.has,ok.cab,ok.hd,ok.frames,ok.stk,ok.exf,ok.bs,ok.bsz,ok.sL,ok.sM,ok.jJ,ok.frf⟩
section
variable{X:Cx}{pins:List (Addr×Obj)}{σ:St}{H:Hp}{s:Shared}{E:Value->Shared->Prop}
theorem Inv.gN (I:Inv X pins σ H s)(E:Value->Shared->Prop):Inv (X.gN E) pins σ H s:=⟨I.ok.gN E,I.os,I.bare,I.base,I.loc,I.cell,I.free,I.f9,I.pin,I.hok,I.len⟩
theorem Inv.ck (I:Inv (X.gN E) pins σ H s):Inv X pins σ H s:=⟨I.ok.ck,I.os,I.bare,I.base,I.loc,I.cell,I.free,I.f9,I.pin,I.hok,I.len⟩
theorem SP.ck {D:Ends}{f:Flow}{s':Shared}(h:SP (X.gN E) pins D f s'):SP X pins D f s':=by
 cases f with
 |next=>obtain⟨σ',H',I,q⟩:=h;exact⟨σ',H',I.ck,q⟩
 |brk=>obtain⟨σ',H',I,q⟩:=h;exact⟨σ',H',I.ck,q⟩
 |cont=>obtain⟨σ',H',I,q⟩:=h;exact⟨σ',H',I.ck,q⟩
 |ret u=>obtain⟨v,σ',H',I,r,q⟩:=h;exact⟨v,σ',H',I.ck,r,q⟩
theorem PE.nox {e:Expr}{t:TE}(h:PE X.nox e t):PE X e t:=λpins s σ H Q I hw =>
 ki (h pins s σ H Q (I.gN _) hw) (λ_ _ ⟨v,H',I',r,q⟩=>⟨v,H',I'.ck,r,q⟩) λ_ _ z=>wa z
theorem PT.nox {e:Expr}{t:TT}(h:PT X.nox e t):PT X e t:=λpins s σ H Q I hw =>
 ki (h pins s σ H Q (I.gN _) hw) (λ_ _ ⟨H',I',q⟩=>⟨H',I'.ck,q⟩) λ_ _ z=>wa z
theorem PSs.nox {st:List Stmt}{t:TS}(h:PSs X.nox st t):PSs X st t:=λpins s σ H D I hw =>
 ki (h pins s σ H D (I.gN _) hw) (λ_ _ q=>q.ck) λ_ _ z=>wa z
end
section
variable{X:Cx}{st:Stmt}{rest:List Stmt}{t u:TS}{e:Expr}{te:TE}{pos:Pos}
def QY:TS:=λD σ H=>D.nx σ H
def Mv (t u:TS):TS:=λD σ H=>t { D with nx:=u D } σ H
theorem aO:PSs X [] QY:=λ_ _ σ H _ I h=>wpAny_execs_nil ⟨σ,H,I,h⟩
theorem ak (h1:PS X st t)(h2:PSs X rest u):PSs X (st::rest) (Mv t u):=by
 intro pins s σ H D I h;refine wpAny_execs_cons (thn (h1 pins s σ H { D with nx:=u D } I h) λf s1 q=>?_)
 cases f with
 |next =>
  obtain⟨σ',H',I',q⟩:=q;exact h2 pins s1 σ' H' D I' q
 |ret v=>exact q
 |brk=>exact q
 |cont=>exact q
theorem aq (h1:PS X st t):PSs X [st] t:=by
 intro pins s σ H D I h;refine wpAny_execs_cons (thn (h1 pins s σ H D I h) λf s1 q=>?_)
 cases f with
 |next=>exact wpAny_execs_nil q
 |ret v=>exact q
 |brk=>exact q
 |cont=>exact q
theorem Inv.quiet {pins:List (Addr×Obj)}{σ:St}{H:Hp}{s:Shared}(I:Inv X pins σ H s):interactive X.env=false:=by simp[interactive,I.ok.kind]
def QZ (te:TE):TS:=λD σ H=>te σ H λ_ H1=>D.nx σ H1
theorem cS (he:PE X e te)(hs:swapsWith e none pos.line X.env=pure false:=by rfl):PS X (.Expr e pos) (QZ te):=by
 intro pins s σ H D I h;exact wpAny_Expr_any (thn (he pins s σ H _ I h) λv s1 ⟨x,H1,I1,r1,q1⟩=>⟨σ,H1,I1,q1⟩) I.quiet hs
def Tq (te:TE):TS:=λD σ H=>te σ H D.rt
theorem aI (he:PE X e te):PS X (.Return (some e) pos) (Tq te):=by
 intro pins s σ H D I h;exact wpAny_Return_some (thn (he pins s σ H _ I h) λv s1 ⟨x,H1,I1,r1,q1⟩=>⟨x,σ,H1,I1,r1,q1⟩)
def Tr (c:TT)(t u:TS):TS:=λD σ H=>c σ H λb H1=>if b=true then t D σ H1 else u D σ H1
theorem bW {c:Expr}{a b:List Stmt}{tc:TT}(hc:PT X c tc)(ha:PSs X a t)(hb:PSs X b u):PS X (.If c a b pos) (Tr tc t u):=by
 intro pins s σ H D I h;refine wpAny_If (thn (hc pins s σ H _ I h) λd s1 ⟨H1,I1,q1⟩=>?_)
 cases d with
 |true=>exact ha pins s1 σ H1 D I1 q1
 |false=>exact hb pins s1 σ H1 D I1 q1
end
abbrev TG:=V->St->Hp->(St->Hp->Prop)->Prop
abbrev TGs:=List V->St->Hp->(St->Hp->Prop)->Prop
def PG (X:Cx)(target:Expr)(t:TG):Prop :=
 ∀(pins:List (Addr×Obj)) (s:Shared) (σ:St) (H:Hp) (v:V) (u:Value) (Q:St->Hp->Prop),Inv X pins σ H s->RelV v u->t v σ H Q ->
  wpAny (model X.prog X.w) X.A (assign target X.env u) (λ_ s'=>∃σ' H',Inv X pins σ' H' s'/\Q σ' H') X.xe s
def PGs (X:Cx)(ts:List Expr)(t:TGs):Prop :=
 ∀(pins:List (Addr×Obj)) (s:Shared) (σ:St) (H:Hp) (vs:List V) (us:List Value) (Q:St->Hp->Prop),Inv X pins σ H s->Vals vs us->t vs σ H Q ->
  wpAny (model X.prog X.w) X.A (assignInOrder ((assignEach ts X.env).map (·.2)) us) (λ_ s'=>∃σ' H',Inv X pins σ' H' s'/\Q σ' H') X.xe s
section
variable{X:Cx}{pos:Pos}
def sN (i:Nat):TG:=λv σ H Q=>Q (σ.set i (some v)) H
theorem eO {i:Nat}{x:Str}(hN:X.N.Nodup)(hi:X.N[i]?=some x)(hx:Loc X.env.scope x)(hf:X.fn x=true\/X.env.scope.names.lookup x=some .local:=by first | exact .inl rfl | exact .inr rfl | assumption):PG X (.Name x pos) (sN i):=by
 intro pins s σ H v u Q I r h;exact wpAny_assign_Name (hX I hN hi hx r (λs' I'=>⟨_,H,I',h⟩) hf)
def Ts:TGs:=λvs σ H Q=>vs=[]/\Q σ H
def Q0 (t:TG)(u:TGs):TGs:=λvs σ H Q=>∃v r,vs=v::r/\t v σ H λσ' H'=>u r σ' H' Q
theorem xP:PGs X [] Ts:=by
 intro pins s σ H vs us Q I r h;obtain⟨e,h⟩:=h;subst e;cases r;exact assignInOrder_nil ⟨σ,H,I,h⟩
theorem hZ {e:Expr}{es:List Expr}{t:TG}{u:TGs}(h1:PG X e t)(h2:PGs X es u)
  (hs:(assignEach (e::es) X.env).map (·.2)=assign e X.env::(assignEach es X.env).map (·.2):=by rfl):PGs X (e::es) (Q0 t u):=by
 intro pins s σ H vs us Q I r h;obtain⟨v,vr,e1,h⟩:=h;subst e1;cases r with
 |cons r rr =>
  rw[hs];refine assignInOrder_cons (thn (h1 pins s σ H _ _ _ I r h) λ_ s1 ⟨σ1,H1,I1,q1⟩=>?_)
  exact h2 pins s1 σ1 H1 _ _ Q I1 rr q1
def Tt (K:ba)(n:Nat)(t:TGs):TG:=λv σ H Q=>∃a xs,v=.ref a/\SqT K H a xs/\xs.length=n/\t xs σ H Q
theorem BE {es:List Expr}{k:Nat}{t:TGs}{n:Nat}(hc:X.calm=true)(h:PGs X es t)
  (hn:(assignEach es X.env).length=n:=by rfl) (hst:(assignEach es X.env).findIdx? (·.1)=none:=by rfl):PG X (.Tuple es k pos) (Tt X.K n t):=by
 intro pins s σ H v u Q I r hw;obtain⟨a,xs,e1,hq,hl,hw⟩:=hw;subst e1;cases r;obtain⟨its,rv,ht,hz⟩:=I.tuple hq;refine assign_Tuple_tuple (I.ok.hd hc) ht (by simp[hn,<-hl,rv.length]) hst λh' hx=>?_
 have I1:Inv X pins σ H { s with heap:=h' }:=I.kept (t':=s.toks) λb o e=>hx b o (sr (kq e)) e
 exact h pins _ σ H xs _ Q I1 (by simpa using rv) hw
def Mw (te:TE)(g:TG):TS:=λD σ H=>te σ H λx H1=>g x σ H1 D.nx
theorem JC {tg e:Expr}{te:TE}{g:TG}(he:PE X e te)(hg:PG X tg g)(hs:swapsWithSole [tg] e pos.line X.env=pure false:=by rfl)(hw:swappedStores [tg] e X.env=pure none:=by rfl)
  (h1:(assignEach [tg] X.env).map (·.2)=[assign tg X.env]:=by rfl):PS X (.Assign [tg] e pos) (Mw te g):=by
 intro pins s σ H D I h;refine wpAny_Assign_stores (thn (he pins s σ H _ I h) λv s1 ⟨x,H1,I1,r1,q1⟩=>?_) hs hw
 rw[h1];exact thn (hg pins s1 σ H1 x v _ I1 r1 q1) λ_ s2 q=>q
theorem aT {i:Nat}{x:Str}{e:Expr}{te:TE}{pos':Pos}(hN:X.N.Nodup)(hi:X.N[i]?=some x)(hx:Loc X.env.scope x)(he:PE X e te)(hs:swapsWith e (some (.Name x pos')) pos.line X.env=pure false:=by rfl)(hf:X.fn x=true\/X.env.scope.names.lookup x=some .local:=by first | exact .inl rfl | exact .inr rfl | assumption) :
  PS X (.Assign [.Name x pos'] e pos) (Mw te (sN i)):=by
 intro pins s σ H D I h;refine wpAny_Assign_Name (thn (he pins s σ H _ I h) λv s1 ⟨y,H1,I1,r1,q1⟩=>?_) hs
 exact hX I1 hN hi hx r1 (λs2 I2=>⟨_,H1,I2,q1⟩) hf
end
structure It where
 go:Nat->Hp->Prop
 yld:Nat->Hp->V->Hp->Prop
 stop:Nat->Hp->Prop
def dh (X:Cx)(pins:List (Addr×Obj))(H:Hp)(b:Addr):Prop :=
 H b=none/\b≠X.env.locals/\b∉X.fs/\(b∈X.ex\/X.s₀.heap.objs.size<=b)/\(∀x c,X.env.cells.lookup x=some c->c≠b)/\∀p∈X.pn++pins,p.1≠b
theorem Inv.uz {X:Cx}{pins:List (Addr×Obj)}{σ:St}{H H':Hp}{s:Shared}{b:Addr}(I:Inv X pins σ H s)(hb:s.heap.objs.size<=b)(hn:H' b=none):dh X pins H' b:=by
 refine⟨hn,Nat.ne_of_gt (tm I.lt hb),I.Tg hb,.inr (ku I.sz hb),λx c e z=>?_,λp hp z=>?_⟩
 ·obtain⟨v,q⟩:=I.cell x c e;exact absurd (tm q.lt (by rw[z];exact hb)) (WC _)
 ·exact absurd (tm (kq (I.pin p hp).1) (by rw[z];exact hb)) (WC _)
structure Turn (P:ko)(w:World)(K:ba)(tg:Expr)(J:It)(fp:List Addr)(it:Addr)(tn:Nat->Heap->Prop):Prop where
 mem:it∈fp
 obj:∀i h,tn i h->∀b∈fp,∃o,h.get? b=some o/\∀v,o.data≠.cell v
 keep:∀i h h',tn i h->(∀b∈fp,∀o,h.get? b=some o->h'.get? b=some o)->tn i h'
 item:∀(X:Cx),X.prog=P->X.w=w->X.K=K->X.calm=true->∀(i:Nat) (pins:List (Addr×Obj)) (s:Shared) (σ:St) (H:Hp) (E:Value->Shared->Prop),Inv X pins σ H s->(∀b∈fp,dh X pins H b)->tn i s.heap->J.go i H ->
  wpAny (model P w) X.A (pyNext (.ref it)) (λr s1=>∃u,r=some u /\
   wpAny (model P w) X.A (letOwnedTupleGo tg (.ref it) u) (λ_ s2=>∃x H',Inv X pins σ H' s2/\RelV x u/\J.yld i H x H'/\tn (i+1) s2.heap/\∀b∈fp,H' b=none) E s1) E s
 done:∀(X:Cx),X.prog=P->X.w=w->X.K=K->X.calm=true->∀(i:Nat) (pins:List (Addr×Obj)) (s:Shared) (σ:St) (H:Hp) (E:Value->Shared->Prop),Inv X pins σ H s->(∀b∈fp,dh X pins H b)->tn i s.heap->J.stop i H ->
  wpAny (model P w) X.A (pyNext (.ref it)) (λr s1=>r=none/\Inv X pins σ H s1) E s
 self:∀(A:Around) (i:Nat) (s:Shared) (Q:Value->Shared->Prop) (E:Value->Shared->Prop),tn i s.heap->Q (.ref it) s->wpAny (model P w) A (pyIter (.ref it)) Q E s
abbrev TI:=St->Hp->(It->Hp->Prop)->Prop
def PIE (X:Cx)(pins:List (Addr×Obj))(σ:St)(tg:Expr)(R:It->Hp->Prop)(itv:Value)(s2:Shared):Prop :=
 ∃(it:Addr) (fp:List Addr) (tn:Nat->Heap->Prop) (J:It) (H':Hp),itv=.ref it/\Inv X pins σ H' s2/\Turn X.prog X.w X.K tg J fp it tn/\tn 0 s2.heap/\(∀b∈fp,dh X pins H' b)/\R J H'
def PI (X:Cx)(tg iter:Expr)(wi:TI):Prop :=
 ∀(pins:List (Addr×Obj)) (s:Shared) (σ:St) (H:Hp) (R:It->Hp->Prop),Inv X pins σ H s->wi σ H R ->
  wpAny (model X.prog X.w) X.A (eval iter X.env) (λv s1=>wpAny (model X.prog X.w) X.A (pyIter v) (PIE X pins σ tg R) X.xe s1) X.xe s
theorem GK {M:Model}{A:Around}{E:Value->Shared->Prop}{s:Shared}{tg:Expr}{it:Addr}{u:Value}{o:Obj}{n:String}{vs:Array Value}{Q:Unit->Shared->Prop}(ho:s.heap.get? it=some o)(hc:o.cls=.type n)(hd:o.data=.fields vs)
    (hn:["enumerate","zip","dict_itemiterator","dict_reverseitemiterator","odict_iterator","itertools.zip_longest","itertools.pairwise"].contains n=false) (hQ:Q () s):wpAny M A (letOwnedTupleGo tg (.ref it) u) Q E s:=by
  unfold letOwnedTupleGo
  cases tg <;> first
    |exact ka hQ
    | (cases u <;> first
        |exact ka hQ
        | (refine cb (wpAny_load ho ?_)
           rw[hc,hd]
           show wpAny M A (if (["enumerate","zip","dict_itemiterator","dict_reverseitemiterator","odict_iterator","itertools.zip_longest","itertools.pairwise"].contains n && vs[0]? == some (rawInt _))=true then _ else _) Q E s
           rw[if_neg (by intro h;rw[hn,Bool.false_and]at h;cases h)]
           exact ka hQ))
def Itl (K:ba)(a:Addr):It :=
 ⟨λi H=>∃xs x,SqL K H a xs/\xs[i]?=some x,λi H x H'=>H'=H/\∀xs,SqL K H a xs->xs[i]?=some x,λi H=>∃xs,SqL K H a xs/\xs.length<=i⟩
def Itt (K:ba)(a:Addr):It :=
 ⟨λi H=>∃xs x,SqT K H a xs/\xs[i]?=some x,λi H x H'=>H'=H/\∀xs,SqT K H a xs->xs[i]?=some x,λi H=>∃xs,SqT K H a xs/\xs.length<=i⟩
theorem HN {P:ko}{w:World}{K:ba}{tg:Expr}(a it:Addr):Turn P w K tg (Itl K a) [it] it (λi h=>h.IsListIter it a i) where
 mem:=by simp
 obj:=λi h st b hb=>by
  have e:b=it:=by simpa using hb
  subst e;obtain⟨o,e,c,d⟩:=st;exact⟨o,e,λv z=>by rw[d]at z;cases z⟩
 keep:=λi h h' st k=>st.at λo e=>k it (by simp) o e
 item:=by
  intro X hP hw hK hc i pins s σ H E I hf st hg;subst hP hw hK;obtain⟨xs,x,hq,hx⟩:=hg;obtain⟨its,rv,p,hz⟩:=I.list hq;obtain⟨u,hu,ru⟩:=rv.get hx;obtain⟨f0,f1,f2,f3,f4,f5⟩:=hf it (by simp)
  refine wpAny_pyNext_list_item st p.isList (x:=u) (by simpa using hu) λh' st' sb=>?_
  have I1:Inv X pins σ H { s with heap:=h' }:=I.turned (t':=s.toks) (λb o hb e=>(sb.2 b hb).trans e) f0 f1 f3 f4 f5
  obtain⟨o,e,c,d⟩:=id st';exact⟨u,rfl,GK (s:={ s with heap:=h' }) e c d (by decide) ⟨x,H,I1,ru,⟨rfl,λys hy=>by rw[I.Dw hy hq];exact hx⟩,st',λb hb=>(hf b hb).1⟩⟩
 done:=by
  intro X hP hw hK hc i pins s σ H E I hf st hg;subst hP hw hK;obtain⟨xs,hq,hx⟩:=hg;obtain⟨its,rv,p,hz⟩:=I.list hq;obtain⟨f0,f1,f2,f3,f4,f5⟩:=hf it (by simp)
  have hl:=rv.length;exact wpAny_pyNext_list_end (I.ok.hd hc) st p.isList (by simp;omega) λh' eb=>⟨rfl,I.turned (t':=s.toks) (λb o hb e=>eb b o hb e) f0 f1 f3 f4 f5⟩
 self:=λ_ _ _ _ _ st h=>wpAny_pyIter_listiter st h
theorem Fs {P:ko}{w:World}{K:ba}{tg:Expr}(a it:Addr):Turn P w K tg (Itt K a) [it] it (λi h=>h.IsTupleIter it a i) where
 mem:=by simp
 obj:=λi h st b hb=>by
  have e:b=it:=by simpa using hb
  subst e;obtain⟨o,e,c,d⟩:=st;exact⟨o,e,λv z=>by rw[d]at z;cases z⟩
 keep:=λi h h' st k=>st.at λo e=>k it (by simp) o e
 item:=by
  intro X hP hw hK hc i pins s σ H E I hf st hg;subst hP hw hK;obtain⟨xs,x,hq,hx⟩:=hg;obtain⟨its,rv,p,hz⟩:=I.tuple hq;obtain⟨u,hu,ru⟩:=rv.get hx;obtain⟨f0,f1,f2,f3,f4,f5⟩:=hf it (by simp)
  refine wpAny_pyNext_tuple_item st (show s.heap.IsTuple a its.toArray from p) (x:=u) (by simpa using hu) λh' st' sb=>?_
  have I1:Inv X pins σ H { s with heap:=h' }:=I.turned (t':=s.toks) (λb o hb e=>(sb.2 b hb).trans e) f0 f1 f3 f4 f5
  obtain⟨o,e,c,d⟩:=id st';exact⟨u,rfl,GK (s:={ s with heap:=h' }) e c d (by decide) ⟨x,H,I1,ru,⟨rfl,λys hy=>by rw[I.HM hy hq];exact hx⟩,st',λb hb=>(hf b hb).1⟩⟩
 done:=by
  intro X hP hw hK hc i pins s σ H E I hf st hg;subst hP hw hK;obtain⟨xs,hq,hx⟩:=hg;obtain⟨its,rv,p,hz⟩:=I.tuple hq;obtain⟨f0,f1,f2,f3,f4,f5⟩:=hf it (by simp)
  have hl:=rv.length;exact wpAny_pyNext_tuple_end (I.ok.hd hc) st (show s.heap.IsTuple a its.toArray from p) (by simp;omega) λh' eb=>⟨rfl,I.turned (t':=s.toks) (λb o hb e=>eb b o hb e) f0 f1 f3 f4 f5⟩
 self:=λ_ _ _ _ _ st h=>wpAny_pyIter_tupleiter st h
section
variable{X:Cx}{tg:Expr}
def Q1 (K:ba)(tl:TE):TI:=λσ H R=>tl σ H λx H1=>∃a,x=.ref a/\(∃xs,SqL K H1 a xs)/\R (Itl K a) H1
def Tu (K:ba)(tl:TE):TI:=λσ H R=>tl σ H λx H1=>∃a,x=.ref a/\(∃xs,SqT K H1 a xs)/\R (Itt K a) H1
theorem g8 {l:Expr}{tl:TE}(hl:PE X l tl):PI X tg l (Q1 X.K tl):=by
 intro pins s σ H R I h;refine thn (hl pins s σ H _ I h) λv s1 ⟨x,H1,I1,r1,q1⟩=>?_
 obtain⟨a,e,⟨xs,hq⟩,q⟩:=q1;subst e;cases r1;obtain⟨its,rv,p,hz⟩:=I1.list hq;refine wpAny_pyIter_list p.isList ?_;refine⟨s1.heap.objs.size,[s1.heap.objs.size],_,_,H1,rfl,I1.kept (t':=s1.toks) λb o e=>fu _ e,HN a _,⟨_,si _ rfl,rfl,rfl⟩,λb hb=>?_,q⟩
 have e:b=s1.heap.objs.size:=by simpa using hb
 subst e;exact I1.uz (kg _) (I1.hok.fresh (kg _))
theorem OM {l:Expr}{tl:TE}(hl:PE X l tl):PI X tg l (Tu X.K tl):=by
 intro pins s σ H R I h;refine thn (hl pins s σ H _ I h) λv s1 ⟨x,H1,I1,r1,q1⟩=>?_
 obtain⟨a,e,⟨xs,hq⟩,q⟩:=q1;subst e;cases r1;obtain⟨its,rv,p,hz⟩:=I1.tuple hq;refine wpAny_pyIter_tuple (show s1.heap.IsTuple a its.toArray from p) ?_
 refine⟨s1.heap.objs.size,[s1.heap.objs.size],_,_,H1,rfl,I1.kept (t':=s1.toks) λb o e=>fu _ e,Fs a _,⟨_,si _ rfl,rfl,rfl⟩,λb hb=>?_,q⟩
 have e:b=s1.heap.objs.size:=by simpa using hb
 subst e;exact I1.uz (kg _) (I1.hok.fresh (kg _))
def Q3 (wi:TI)(g:TG)(tb:TS):TS:=λD σ H=>wi σ H λJ H1=>∃W:Nat->Nat->St->Hp->Prop,(∃m,W 0 m σ H1)/\∀i m σ H,W i m σ H ->
 (J.stop i H/\D.nx σ H)\/(J.go i H/\∃N:St->Hp->Prop,(∀σ' H',N σ' H'->∃m',m' < m/\W (i+1) m' σ' H')/\∀x H',J.yld i H x H'->g x σ H' λσ2 H2=>tb { D with nx:=N,ct:=N,bk:=D.nx } σ2 H2)
def ya (fp:List Addr)(h:Heap):List (Addr×Obj):=fp.filterMap λb=>(h.get? b).map λo=>(b,o)
theorem ez {fp:List Addr}{h:Heap}{b:Addr}{o:Obj}(hb:b∈fp)(e:h.get? b=some o):(b,o)∈ya fp h:=List.mem_filterMap.mpr ⟨b,hb,by rw[e];rfl⟩
theorem HP {fp:List Addr}{h:Heap}{p:Addr×Obj}(hp:p∈ya fp h):p.1∈fp/\h.get? p.1=some p.2:=by
 obtain⟨b,hb,e⟩:=List.mem_filterMap.mp hp;cases q:h.get? b with
 |none=>rw[q]at e;cases e
 |some o =>
  rw[q]at e;have e':(b,o)=p:=ra e;subst e';exact⟨hb,q⟩
theorem Inv.pinned {pins:List (Addr×Obj)}{σ:St}{H:Hp}{s:Shared}{fp:List Addr}(I:Inv X pins σ H s)(hf:∀b∈fp,dh X pins H b)(ho:∀b∈fp,∃o,s.heap.get? b=some o/\∀v,o.data≠.cell v):Inv X (pins++ya fp s.heap) σ H s :=
 I.pK λp hp=>(List.mem_append.mp hp).elim (λz=>I.pin p (di _ z)) λz=>by
  obtain⟨hb,e⟩:=HP z;obtain⟨f0,f1,f2,_⟩:=hf p.1 hb;obtain⟨o,e',d⟩:=ho p.1 hb;rw[e]at e';cases e';exact⟨e,f0,f1,f2,d⟩
theorem Inv.cP {pins pl:List (Addr×Obj)}{σ:St}{H:Hp}{s:Shared}(I:Inv X (pins++pl) σ H s):Inv X pins σ H s:=I.pK λp hp=>I.pin p (di _ (Vc _ hp))
theorem JD {iter:Expr}{body:List Stmt}{wi:TI}{g:TG}{tb:TS}{pos:Pos}(hp:PassesOwn (model X.prog X.w) X.A X.env X.xe)(hc:X.calm=true)(hi:PI X tg iter wi)(hg:PG X tg g)(hb:PSs X body tb)
  (hs:∀x,foldedSetIterable iter X.env x=pure x:=by intro _;rfl):PS X (.For tg iter body [] pos) (Q3 wi g tb):=by
 intro pins s σ H D I h;refine wpAny_For (thn (hi pins s σ H _ I h) λv s1 h1=>thn h1 λitv s2 h2=>?_) hs
 obtain⟨it,fp,tn,J,H2,e,I2,T,st2,f2,W,⟨m0,w0⟩,turn⟩:=h2;subst e;have stat:∀ {H':Hp},(∀b∈fp,H' b=none)->∀b∈fp,dh X pins H' b:=λhn b hb=>⟨hn b hb,(f2 b hb).2⟩
 refine codeAny_forLoop_any (λn s'=>∃i σ' H',Inv X pins σ' H' s'/\tn i s'.heap/\(∀b∈fp,H' b=none)/\W i n σ' H') ?_ m0 ⟨0,σ,H2,I2,st2,λb hb=>(f2 b hb).1,w0⟩
 rintro n s3 ⟨i,σ3,H3,I3,st3,fr3,w3⟩;rcases turn i n σ3 H3 w3 with ⟨stop,qn⟩ | ⟨go,N,hN,step⟩
 ·refine wpAny_passesOwn hp (thn (T.done X rfl rfl rfl hc i pins s3 σ3 H3 X.xe I3 (stat fr3) st3 stop) λr s4 ⟨hr,I4⟩=>?_)
  subst hr;exact wpAny_execs_nil ⟨σ3,H3,I4,qn⟩
 ·refine wpAny_passesOwn hp (thn (T.item X rfl rfl rfl hc i pins s3 σ3 H3 X.xe I3 (stat fr3) st3 go) λr s4 ⟨u,hr,h4⟩=>?_)
  subst hr;refine wpAny_passesOwn hp (thn h4 λ_ s5 ⟨x,H5,I5,r5,y5,st5,fr5⟩=>?_)
  have I5':=I5.pinned (stat fr5) (T.obj _ _ st5);refine wpAny_passesOwn hp (thn (hg _ s5 σ3 H5 x u _ I5' r5 (step x H5 y5)) λ_ s6 ⟨σ6,H6,I6,q6⟩=>?_)
  refine wpAny_passesOwn hp (thn (hb _ s6 σ6 H6 _ I6 q6) λf s7 q7=>?_)
  have again:∀ {σ7:St} {H7:Hp},Inv X (pins++ya fp s5.heap) σ7 H7 s7->N σ7 H7->∃m,m < n/\∃i σ' H',Inv X pins σ' H' s7/\tn i s7.heap/\(∀b∈fp,H' b=none)/\W i m σ' H':=λ{σ7 H7} I7 n7=>by
   obtain⟨m',hm,w7⟩:=hN σ7 H7 n7;refine⟨m',hm,i+1,σ7,H7,I7.cP,T.keep _ _ _ st5 λb hb o e=>(I7.pin (b,o) (di _ (di _ (ez hb e)))).1,λb hb=>?_,w7⟩
   obtain⟨o,e,d⟩:=T.obj _ _ st5 b hb;exact(I7.pin (b,o) (di _ (di _ (ez hb e)))).2.1
  cases f with
  |next=>obtain⟨σ7,H7,I7,n7⟩:=q7;exact again I7 n7
  |cont=>obtain⟨σ7,H7,I7,n7⟩:=q7;exact again I7 n7
  |brk=>obtain⟨σ7,H7,I7,q7⟩:=q7;exact⟨σ7,H7,I7.cP,q7⟩
  |ret v=>obtain⟨x7,σ7,H7,I7,r7,q7⟩:=q7;exact⟨x7,σ7,H7,I7.cP,r7,q7⟩
end
theorem yc {K:ba}{a:Addr}{xs:List V}{g:TG}{tb:TS}{D:Ends}{σ:St}{H:Hp}(Pv:Nat->St->Hp->Prop)(h0:Pv 0 σ H)(hl:∀i σ H,i<=xs.length->Pv i σ H->SqL K H a xs)
  (hs:∀i x σ H,xs[i]?=some x->Pv i σ H->g x σ H λσ2 H2=>tb { D with nx:=Pv (i+1),ct:=Pv (i+1),bk:=D.nx } σ2 H2) (hd:∀σ H,Pv xs.length σ H->D.nx σ H) :
  ∃W:Nat->Nat->St->Hp->Prop,(∃m,W 0 m σ H)/\∀i m σ H,W i m σ H ->
   ((Itl K a).stop i H/\D.nx σ H)\/((Itl K a).go i H/\∃N:St->Hp->Prop,(∀σ' H',N σ' H'->∃m',m' < m/\W (i+1) m' σ' H')/\∀x H',(Itl K a).yld i H x H'->g x σ H' λσ2 H2=>tb { D with nx:=N,ct:=N,bk:=D.nx } σ2 H2):=by
 refine⟨λi m σ H=>m=xs.length - i/\i<=xs.length/\Pv i σ H,⟨xs.length,by simp,Vg _,h0⟩,?_⟩
 rintro i m σ H ⟨rfl,hi,p⟩;have q:=hl i σ H hi p
 by_cases hlt:i < xs.length
 ·refine .inr ⟨⟨xs,xs[i],q,by simp[hlt]⟩,Pv (i+1),λσ' H' p'=>⟨xs.length - (i+1),by omega,rfl,hlt,p'⟩,λx H' y=>?_⟩
  obtain⟨e,y⟩:=y;subst e;exact hs i x σ _ (y xs q) p
 ·have e:i=xs.length:=by omega
  subst e;exact .inl ⟨⟨xs,q,kg _⟩,hd σ H p⟩
abbrev R2:=V->V->Hp->VK->Prop
def OpR (X:Cx)(f:Value->Value->Sem Value)(r:R2):Prop :=
 ∀(pins:List (Addr×Obj)) (s:Shared) (σ:St) (H:Hp) (x y:V) (v u:Value) (Q:VK),Inv X pins σ H s->RelV x v->RelV y u->r x y H Q ->
  wpAny (model X.prog X.w) X.A (f v u) (EP X pins σ Q) X.xe s
def UnR (X:Cx)(f:Value->Sem Value)(r:V->Hp->VK->Prop):Prop :=
 ∀(pins:List (Addr×Obj)) (s:Shared) (σ:St) (H:Hp) (x:V) (v:Value) (Q:VK),Inv X pins σ H s->RelV x v->r x H Q ->
  wpAny (model X.prog X.w) X.A (f v) (EP X pins σ Q) X.xe s
def eh (X:Cx)(f:Value)(r:List V->Hp->VK->Prop):Prop :=
 ∀(pins:List (Addr×Obj)) (s:Shared) (σ:St) (H:Hp) (xs:List V) (us:List Value) (Q:VK),Inv X pins σ H s->Vals xs us->r xs H Q ->
  wpAny (model X.prog X.w) X.A (call f us) (EP X pins σ Q) X.xe s
def Tv (X:Cx)(r:V->Hp->(Bool->Hp->Prop)->Prop):Prop :=
 ∀(pins:List (Addr×Obj)) (s:Shared) (σ:St) (H:Hp) (x:V) (v:Value) (Q:Bool->Hp->Prop),Inv X pins σ H s->RelV x v->r x H Q ->
  wpAny (model X.prog X.w) X.A (truthy v) (TP X pins σ Q) X.xe s
def tOp (r:R2)(ta tb:TE):TE:=λσ H Q=>ta σ H λx H1=>tb σ H1 λy H2=>r x y H2 Q
def tUn (r:V->Hp->VK->Prop)(ta:TE):TE:=λσ H Q=>ta σ H λx H1=>r x H1 Q
def rI (C:Int->Int->Prop)(g:Int->Int->V):R2:=λx y H Q=>∃i j,x=.int i/\y=.int j/\C i j/\Q (g i j) H
def rI0 (g:Int->Int->V):R2:=λx y H Q=>∃i j,x=.int i/\y=.int j/\Q (g i j) H
def rU (g:Int->V):V->Hp->VK->Prop:=λx H Q=>∃i,x=.int i/\Q (g i) H
section
variable{X:Cx}{a b c:Expr}{ta tb tc:TE}{pos:Pos}
theorem ON (ha:PE X a ta)(hb:PE X b tb){pins:List (Addr×Obj)}{s:Shared}{σ:St}{H:Hp}{R:V->V->Hp->Prop}(I:Inv X pins σ H s)
  (h:ta σ H λx H1=>tb σ H1 λy H2=>R x y H2) {Q:Value->Shared->Prop} {f:Value->Value->Sem Value}
  (hf:∀v u s2 x y H2,Inv X pins σ H2 s2->RelV x v->RelV y u->R x y H2->wpAny (model X.prog X.w) X.A (f v u) Q X.xe s2) :
  wpAny (model X.prog X.w) X.A (eval a X.env) (λv s₁=>wpAny (model X.prog X.w) X.A (eval b X.env) (λu s₂=>wpAny (model X.prog X.w) X.A (f v u) Q X.xe s₂) X.xe s₁) X.xe s:=by
 refine thn (ha pins s σ H _ I h) λv s1 ⟨x,H1,I1,r1,q1⟩=>?_
 refine thn (hb pins s1 σ H1 _ I1 q1) λu s2 ⟨y,H2,I2,r2,q2⟩=>?_
 exact hf v u s2 x y H2 I2 r1 r2 q2
theorem av {op:Operator}{r:R2}(ho:OpR X (binaryOp op) r)(ha:PE X a ta)(hb:PE X b tb):PE X (.BinOp a op b pos) (tOp r ta tb):=by
 intro pins s σ H Q I h;exact wpAny_BinOp (ON ha hb I h λv u s2 x y H2 I2 rx ry q=>ho pins s2 σ H2 x y v u Q I2 rx ry q)
theorem AR {op:UnaryOp}{r:V->Hp->VK->Prop}(ho:UnR X (unaryOp op) r)(ha:PE X a ta):PE X (.UnaryOp op a pos) (tUn r ta):=by
 intro pins s σ H Q I h;exact UnaryOp_ (thn (ha pins s σ H _ I h) λv s1 ⟨x,H1,I1,r1,q1⟩=>ho pins s1 σ H1 x v Q I1 r1 q1)
theorem opI {f:Value->Value->Sem Value}{C:Int->Int->Prop}{g:Int->Int->Int}
  (rule:∀(i j:Int) (t u:Tok) (s:Shared) (Q:Value->Shared->Prop) (E:Value->Shared->Prop),C i j->Q (.int (g i j) s.toks) { s with toks:=s.toks+1 }->wpAny (model X.prog X.w) X.A (f (.int i t) (.int j u)) Q E s) :
  OpR X f (rI C λi j=>.int (g i j)):=by
 intro pins s σ H x y v u Q I rx ry h;obtain⟨i,j,rfl,rfl,hc,q⟩:=h;obtain⟨t,rfl⟩:=rx;obtain⟨t',rfl⟩:=ry;exact rule i j t t' s _ _ hc ⟨.int (g i j),H,I.tok _,⟨_,rfl⟩,q⟩
theorem Q4 {f:Value->Value->Sem Value}{g:Int->Int->Int}
  (rule:∀(i j:Int) (t u:Tok) (s:Shared) (Q:Value->Shared->Prop) (E:Value->Shared->Prop),Q (.int (g i j) s.toks) { s with toks:=s.toks+1 }->wpAny (model X.prog X.w) X.A (f (.int i t) (.int j u)) Q E s) :
  OpR X f (rI0 λi j=>.int (g i j)):=by
 intro pins s σ H x y v u Q I rx ry h;obtain⟨i,j,rfl,rfl,q⟩:=h;obtain⟨t,rfl⟩:=rx;obtain⟨t',rfl⟩:=ry;exact rule i j t t' s _ _ ⟨.int (g i j),H,I.tok _,⟨_,rfl⟩,q⟩
theorem Mx {f:Value->Value->Sem Value}{g:Int->Int->Bool}
  (rule:∀(i j:Int) (t u:Tok) (s:Shared) (Q:Value->Shared->Prop) (E:Value->Shared->Prop),Q (.bool (g i j)) s->wpAny (model X.prog X.w) X.A (f (.int i t) (.int j u)) Q E s) :
  OpR X f (rI0 λi j=>.bl (g i j)):=by
 intro pins s σ H x y v u Q I rx ry h;obtain⟨i,j,rfl,rfl,q⟩:=h;obtain⟨t,rfl⟩:=rx;obtain⟨t',rfl⟩:=ry;exact rule i j t t' s _ _ ⟨.bl (g i j),H,I,rfl,q⟩
def Q5 (i j:Int):Prop:=0 < j/\j < 1073741824
def OO (i j:Int):Prop:=(-(2 ^ 64) < i/\i < 2 ^ 64)\/(-(2 ^ 64) < j/\j < 2 ^ 64)
theorem OO.ok {i j:Int}(h:OO i j):IntMulOk i j:=by
 rcases h with ⟨h1,h2⟩ | ⟨h1,h2⟩
 ·exact .of_left (intBits_le_64 h1 h2)
 ·exact .of_right (intBits_le_64 h1 h2)
theorem rg:OpR X (binaryOp .Add) (rI0 λi j=>.int (i+j)):=Q4 λ_ _ _ _ _ _ _ q=>add_int q
theorem JE:OpR X (binaryOp .Sub) (rI0 λi j=>.int (i - j)):=Q4 λ_ _ _ _ _ _ _ q=>sub_int q
theorem OP:OpR X (binaryOp .Mult) (rI OO λi j=>.int (i * j)):=opI λ_ _ _ _ _ _ _ hc q=>mul_int q hc.ok
theorem jL:OpR X (binaryOp .FloorDiv) (rI Q5 λi j=>.int (i / j)):=opI λi j _ _ _ _ _ hc q=>by
 have h1:(0:Int) < j:=hc.1;have h2:j < 1073741824:=hc.2;exact floordiv_int (by omega) (by rw[Int.fdiv_eq_ediv_of_nonneg i (by omega)];exact q) (.inl (PyProof.noPylong_small (by omega)))
theorem iz:OpR X (binaryOp .Mod) (rI (λ_ j=>0 < j) λi j=>.int (i % j)):=opI λi j _ _ _ _ _ hc q=>by
 have h1:(0:Int) < j:=hc;exact mod_int' (by omega) (by rw[Int.fmod_eq_emod_of_nonneg i (by omega)];exact q)
theorem unI {f:Value->Sem Value}{g:Int->Int}
  (rule:∀(i:Int) (t:Tok) (s:Shared) (Q:Value->Shared->Prop) (E:Value->Shared->Prop),Q (.int (g i) s.toks) { s with toks:=s.toks+1 }->wpAny (model X.prog X.w) X.A (f (.int i t)) Q E s) :
  UnR X f (rU λi=>.int (g i)):=by
 intro pins s σ H x v Q I rx h;obtain⟨i,rfl,q⟩:=h;obtain⟨t,rfl⟩:=rx;exact rule i t s _ _ ⟨.int (g i),H,I.tok _,⟨_,rfl⟩,q⟩
theorem uA:UnR X (unaryOp .USub) (rU λi=>.int (-i)):=unI λ_ _ _ _ _ q=>neg_int q
end
def Q6:V->V->Bool
 | .non,.non=>true | .non,.int _=>true | .int _,.non=>true | .non,.bl _=>true | .bl _,.non=>true | .non,.str _=>true | .str _,.non=>true
 | .int _,.int _=>true | .bl _,.bl _=>true | .str _,.str _=>true | .byt _,.byt _=>true
 | .int _,.str _=>true | .str _,.int _=>true | .bl _,.str _=>true | .str _,.bl _=>true
 |_,_=>false
def rEq:R2:=λx y H Q=>Q6 x y=true/\Q (.bl (decide (x=y))) H
def rNe:R2:=λx y H Q=>Q6 x y=true/\Q (.bl (!decide (x=y))) H
theorem GL {i j:Int}:decide (V.int i=V.int j)=(i == j):=by
 rw[Vn];simp
theorem JF {i j:Bool}:decide (V.bl i=V.bl j)=(i == j):=by
 rw[Vn];simp
theorem GN {i j:Str}:decide (V.str i=V.str j)=(i == j):=by
 rw[Vn];simp
theorem GO {i j:Array UInt8}:decide (V.byt i=V.byt j)=(i.toList == j.toList):=by
 rw[Vn];cases i;cases j;simp
section
variable{X:Cx}{a b c:Expr}{ta tb tc:TE}{pos:Pos}
theorem bX {pins:List (Addr×Obj)}{σ:St}{H:Hp}{s:Shared}{Q:VK}{k k':Bool}(I:Inv X pins σ H s)(q:Q (.bl k) H)(e:k=k'):EP X pins σ Q (.bool k') s:=by
 subst e;exact⟨.bl k,H,I,rfl,q⟩
theorem bf:OpR X (VU .Eq) rEq:=by
 intro pins s σ H x y v u Q I rx ry h;obtain⟨hs,q⟩:=h;cases x with
 |non =>
  cases rx;cases y with
  |non=>cases ry;exact PySem.EqNone.eq_none_none (bX I q (by simp))
  |bl j=>cases ry;exact PySem.EqNone.eq_none_bool (bX I q (by simp))
  |int j=>obtain⟨t',rfl⟩:=ry;exact PySem.EqNone.eq_none_int (bX I q (by simp))
  |str j=>obtain⟨t',rfl⟩:=ry;exact PySem.EqNone.eq_none_str (bX I q (by simp))
  |_=>exact absurd (show false=true from hs) gr
 |bl i =>
  cases rx;cases y with
  |non=>cases ry;exact PySem.EqNone.eq_bool_none (bX I q (by simp))
  |bl j=>cases ry;exact eq_bool (bX I q JF)
  |str j=>obtain⟨t',rfl⟩:=ry;exact PySem.EqMixed.eq_bool_str (bX I q (by simp))
  |_=>exact absurd (show false=true from hs) gr
 |int i =>
  obtain⟨t,rfl⟩:=rx;cases y with
  |non=>cases ry;exact PySem.EqNone.eq_int_none (bX I q (by simp))
  |int j=>obtain⟨t',rfl⟩:=ry;exact eq_int (bX I q GL)
  |str j=>obtain⟨t',rfl⟩:=ry;exact PySem.EqMixed.eq_int_str (bX I q (by simp))
  |_=>exact absurd (show false=true from hs) gr
 |str i =>
  obtain⟨t,rfl⟩:=rx;cases y with
  |non=>cases ry;exact PySem.EqNone.eq_str_none (bX I q (by simp))
  |bl j=>cases ry;exact PySem.EqMixed.eq_str_bool (bX I q (by simp))
  |int j=>obtain⟨t',rfl⟩:=ry;exact PySem.EqMixed.eq_str_int (bX I q (by simp))
  |str j=>obtain⟨t',rfl⟩:=ry;exact eq_str (bX I q GN)
  |_=>exact absurd (show false=true from hs) gr
 |byt i =>
  obtain⟨t,rfl⟩:=rx;cases y with
  |byt j=>obtain⟨t',rfl⟩:=ry;exact PySem.W.eq_bytes (bX I q GO)
  |_=>exact absurd (show false=true from hs) gr
 |_=>cases y <;> exact absurd (show false=true from hs) gr
theorem jb:OpR X (VU .NotEq) rNe:=by
 intro pins s σ H x y v u Q I rx ry h;obtain⟨hs,q⟩:=h;cases x with
 |non =>
  cases rx;cases y with
  |non=>cases ry;exact PySem.EqNone.ne_none_none (bX I q (by simp))
  |bl j=>cases ry;exact PySem.EqNone.ne_none_bool (bX I q (by simp))
  |int j=>obtain⟨t',rfl⟩:=ry;exact PySem.EqNone.ne_none_int (bX I q (by simp))
  |str j=>obtain⟨t',rfl⟩:=ry;exact PySem.EqNone.ne_none_str (bX I q (by simp))
  |_=>exact absurd (show false=true from hs) gr
 |bl i =>
  cases rx;cases y with
  |non=>cases ry;exact PySem.EqNone.ne_bool_none (bX I q (by simp))
  |bl j=>cases ry;exact ne_bool (bX I q (congrArg not JF))
  |str j=>obtain⟨t',rfl⟩:=ry;exact PySem.EqMixed.ne_bool_str (bX I q (by simp))
  |_=>exact absurd (show false=true from hs) gr
 |int i =>
  obtain⟨t,rfl⟩:=rx;cases y with
  |non=>cases ry;exact PySem.EqNone.ne_int_none (bX I q (by simp))
  |int j=>obtain⟨t',rfl⟩:=ry;exact ne_int (bX I q (congrArg not GL))
  |str j=>obtain⟨t',rfl⟩:=ry;exact PySem.EqMixed.ne_int_str (bX I q (by simp))
  |_=>exact absurd (show false=true from hs) gr
 |str i =>
  obtain⟨t,rfl⟩:=rx;cases y with
  |non=>cases ry;exact PySem.EqNone.ne_str_none (bX I q (by simp))
  |bl j=>cases ry;exact PySem.EqMixed.ne_str_bool (bX I q (by simp))
  |int j=>obtain⟨t',rfl⟩:=ry;exact PySem.EqMixed.ne_str_int (bX I q (by simp))
  |str j=>obtain⟨t',rfl⟩:=ry;exact ne_str (bX I q (congrArg not GN))
  |_=>exact absurd (show false=true from hs) gr
 |byt i =>
  obtain⟨t,rfl⟩:=rx;cases y with
  |byt j=>obtain⟨t',rfl⟩:=ry;exact PySem.W.ne_bytes (bX I q (congrArg not GO))
  |_=>exact absurd (show false=true from hs) gr
 |_=>cases y <;> exact absurd (show false=true from hs) gr
theorem N6:OpR X (VU .Lt) (rI0 λi j=>.bl (decide (i < j))):=Mx λ_ _ _ _ _ _ _ q=>lt_int q
theorem nO:OpR X (VU .LtE) (rI0 λi j=>.bl (decide (i<=j))):=Mx λ_ _ _ _ _ _ _ q=>le_int q
theorem N7:OpR X (VU .Gt) (rI0 λi j=>.bl (decide (j < i))):=Mx λ_ _ _ _ _ _ _ q=>gt_int q
theorem N8:OpR X (VU .GtE) (rI0 λi j=>.bl (decide (j<=i))):=Mx λ_ _ _ _ _ _ _ q=>ge_int q
theorem HQ:OpR X (VU .In) (λx y H Q=>∃i j,x=.str i/\y=.str j/\Q (.bl (!(VF j i 0 j.length 1).isEmpty)) H):=by
 intro pins s σ H x y v u Q I rx ry h;obtain⟨i,j,rfl,rfl,q⟩:=h;obtain⟨t,rfl⟩:=rx;obtain⟨t',rfl⟩:=ry;exact in_str (bX I q rfl)
theorem OpR.or {f:Value->Value->Sem Value}{r r':R2}(h:OpR X f r)(h':OpR X f r'):OpR X f (λx y H Q=>r x y H Q\/r' x y H Q):=by
 intro pins s σ H x y v u Q I rx ry q;rcases q with q | q
 ·exact h pins s σ H x y v u Q I rx ry q
 ·exact h' pins s σ H x y v u Q I rx ry q
theorem aK (b:Expr){op:CmpOp}(h:op≠.In:=by decide)(h2:op≠.NotIn:=by decide):behindInMarks op b=false:=by
 have e1:(op == CmpOp.In)=false:=by cases op <;> first | rfl | exact absurd rfl h
 have e2:(op == CmpOp.NotIn)=false:=by cases op <;> first | rfl | exact absurd rfl h2
 cases b <;> simp[behindInMarks,e1,e2]
theorem bL {op:CmpOp}{r:R2}(ho:OpR X (VU op) r)(ha:PE X a ta)(hb:PE X b tb)(hm:behindInMarks op b=false):PE X (.Compare a [op] [b] pos) (tOp r ta tb):=by
 intro pins s σ H Q I h;exact wpAny_Compare1 (ON ha hb I h λv u s2 x y H2 I2 rx ry q=>ho pins s2 σ H2 x y v u Q I2 rx ry q) hm
def Q7 (t:TE):TT:=λσ H Q=>t σ H λx H'=>∃k,x=.bl k/\Q k H'
theorem aL {op:CmpOp}{r:R2}(ho:OpR X (VU op) r)(ha:PE X a ta)(hb:PE X b tb)(hm:behindInMarks op b=false):PT X (.Compare a [op] [b] pos) (Q7 (tOp r ta tb)):=by
 intro pins s σ H Q I h;refine wpAny_isTrue_Compare1 (thn (ha pins s σ H _ I h) λv s1 ⟨x,H1,I1,r1,q1⟩=>thn (hb pins s1 σ H1 _ I1 q1) λu s2 ⟨y,H2,I2,r2,q2⟩ =>
  thn (ho pins s2 σ H2 x y v u _ I2 r1 r2 q2) λc s3 ⟨z,H3,I3,r3,k,e,q3⟩=>?_) hm
 subst e;cases r3;exact wpAny_truthy_bool ⟨H3,I3,q3⟩
def OQ (r r':R2)(ta tb tc:TE):TE:=λσ H Q=>ta σ H λx H1=>tb σ H1 λy H2=>r x y H2 λz H3=>∃k,z=.bl k /\
 (if k=true then tc σ H3 λw' H4=>r' y w' H4 Q else Q (.bl false) H3)
theorem jc {op op':CmpOp}{r r':R2}(ho:OpR X (VU op) r)(ho':OpR X (VU op') r')(ha:PE X a ta)(hb:PE X b tb)(hc:PE X c tc)
  (hm:lastMarks [op,op'] [b,c]=false:=by with_unfolding_all rfl):PE X (.Compare a [op,op'] [b,c] pos) (OQ r r' ta tb tc):=by
 intro pins s σ H Q I h;refine Compare_chain (thn (ha pins s σ H _ I h) λv s1 ⟨x,H1,I1,r1,q1⟩=>chain_link (thn (hb pins s1 σ H1 _ I1 q1) λu s2 ⟨y,H2,I2,r2,q2⟩ =>
  thn (ho pins s2 σ H2 x y v u _ I2 r1 r2 q2) λd s3 ⟨z,H3,I3,r3,k,e,q3⟩=>?_)) hm
 subst e;cases r3;refine wpAny_truthy_bool ?_;cases k with
 |false=>exact ite_ff ⟨.bl false,H3,I3,rfl,q3⟩
 |true=>exact ite_tt (chain_last (thn (hc pins s3 σ H3 _ I3 q3) λw' s4 ⟨z',H4,I4,r4,q4⟩=>ho' pins s4 σ H4 y z' u w' Q I4 r2 r4 q4))
def Q8 (K:ba)(x:V)(H:Hp)(k:Bool):Prop :=
 match x with
 | .non=>k=false
 | .bl b=>k=b
 | .int i=>k=(i != 0)
 | .str y=>y.length<=de/\k=((y.length:Int) != 0)
 | .byt y=>y.size<=de/\k=((y.size:Int) != 0)
 | .ref p=>(∃xs,SqL K H p xs/\k=!xs.isEmpty)\/(∃xs,SqT K H p xs/\k=!xs.isEmpty)\/∃kvs,H p=some (.dK kvs)/\k=!kvs.isEmpty
 |_=>False
theorem Ft {κ:Type}{kvs:List (κ×V)}{vs:List (κ×Value)}(r:KV kvs vs):(!vs.isEmpty)=!kvs.isEmpty:=by
 cases r <;> rfl
theorem yd {xs:List V}{its:List Value}(r:Vals xs its):(!its.toArray.isEmpty)=!xs.isEmpty:=by
 cases r <;> simp
theorem uB:(de:Nat) < 2 ^ 63:=by rw[sizeLine_eq];decide
theorem OR:Tv X (λx H Q=>∃k,Q8 X.K x H k/\Q k H):=by
 intro pins s σ H x v Q I rx h;obtain⟨k,e,q⟩:=h;have hl:=uB;have hs:de=16777216:=sizeLine_eq;cases x with
 |non =>
  cases rx;have e':k=false:=e;subst e';exact truthy_none ⟨H,I,q⟩
 |bl b =>
  cases rx;have e':k=b:=e;subst e';exact wpAny_truthy_bool ⟨H,I,q⟩
 |int i =>
  obtain⟨t,rfl⟩:=rx;have e':k=(i != 0):=e;subst e';exact PySem.P.truthy_int ⟨H,I,q⟩
 |str y =>
  obtain⟨t,rfl⟩:=rx;obtain⟨hy,e'⟩:y.length<=de/\k=((y.length:Int) != 0):=e;subst e';exact PySem.P.truthy_str (by omega) ⟨H,I.tok _,q⟩
 |byt y =>
  obtain⟨t,rfl⟩:=rx;obtain⟨hy,e'⟩:y.size<=de/\k=((y.size:Int) != 0):=e;subst e';exact PySem.W.truthy_bytes (by omega) ⟨H,I.tok _,q⟩
 |ref p =>
  cases rx;have e':(∃xs,SqL X.K H p xs/\k=!xs.isEmpty)\/(∃xs,SqT X.K H p xs/\k=!xs.isEmpty)\/∃kvs,H p=some (.dK kvs)/\k=!kvs.isEmpty:=e;rcases e' with ⟨xs,hx,e'⟩ | ⟨xs,hx,e'⟩ | ⟨kvs,hx,e'⟩
  ·subst e';obtain⟨its,r,pl,hz⟩:=I.list hx;have hlen:=r.length;exact wpAny_truthy_list pl.isList (by simp only[tu];omega) ⟨H,I.tok _,by rw[yd r];exact q⟩
  ·subst e';obtain⟨its,r,pl,hz⟩:=I.tuple hx;have hlen:=r.length;exact truthy_tuple pl (by simp only[tu];omega) ⟨H,I.tok _,by rw[yd r];exact q⟩
  ·subst e';obtain⟨hz,hS,vs,r,m⟩:kvs.length<=de/\(p == sysModules)=false/\∃vs,KV kvs vs/\s.heap.DictOf (dQ X.prog X.w) p vs:=I.hok p _ hx;have hlen:kvs.length=vs.length:=Paired.length r;exact wpAny_truthy_dict hS m (by omega) ⟨H,I.tok _,by rw[Ft r];exact q⟩
 |_=>exact(show False from e).elim
theorem sO (ha:PE X a ta)(he:∀whole,isTrue a X.env whole=(do let v <-whole;standAt a.pos;holding [v] (truthy v))) :
  PT X a (λσ H Q=>ta σ H λx H'=>∃k,Q8 X.K x H' k/\Q k H'):=by
 intro pins s σ H Q I h;exact isTrue_plain (thn (ha pins s σ H _ I h) λv s1 ⟨x,H1,I1,r1,q1⟩=>OR pins s1 σ H1 x v Q I1 r1 q1) (he _)
theorem ah:OpR X (binaryOp .Add) (λx y H Q=>∃i j,x=.str i/\y=.str j/\i.length+j.length<=de/\Q (.str (i++j)) H):=by
 intro pins s σ H x y v u Q I rx ry h;obtain⟨i,j,rfl,rfl,hz,q⟩:=h;obtain⟨t,rfl⟩:=rx;obtain⟨t',rfl⟩:=ry;exact add_str (λt' tk=>⟨.str (i++j),H,I.tok _,⟨_,rfl⟩,q⟩) hz
theorem vals1 {x:V}{us:List Value}(r:Vals [x] us):∃u,us=[u]/\RelV x u:=by
 cases r with
 |cons r1 r2=>cases r2;exact⟨_,rfl,r1⟩
theorem vals2 {x y:V}{us:List Value}(r:Vals [x,y] us):∃u w',us=[u,w']/\RelV x u/\RelV y w':=by
 cases r with
 |cons r1 r2 =>
  cases r2 with
  |cons r3 r4=>cases r4;exact⟨_,_,rfl,r1,r3⟩
theorem HR (hc:X.calm=true):eh X (.builtin "max") (λxs H Q=>∃i j,xs=[.int i,.int j]/\Q (.int (if j > i then j else i)) H):=by
 intro pins s σ H xs us Q I r h;obtain⟨i,j,rfl,q⟩:=h;obtain⟨u,w',rfl,⟨t,rfl⟩,⟨t',rfl⟩⟩:=vals2 r;refine max_two_ints (I.ok.hd hc) λh' tk k=>⟨_,H,I.kept k,?_,q⟩
 by_cases hj:j > i
 ·rw[if_pos hj,if_pos hj];exact⟨_,rfl⟩
 ·rw[if_neg hj,if_neg hj];exact⟨_,rfl⟩
theorem HS:eh X (.type "int") (λxs H Q=>(∃i,xs=[.int i]/\Q (.int i) H)\/∃k,xs=[.bl k]/\Q (.int (if k then 1 else 0)) H):=by
 intro pins s σ H xs us Q I r h;rcases h with ⟨i,rfl,q⟩ | ⟨k,rfl,q⟩
 ·obtain⟨u,rfl,t,rfl⟩:=vals1 r;exact call_int_int ⟨.int i,H,I,⟨_,rfl⟩,q⟩
 ·obtain⟨u,rfl,r1⟩:=vals1 r;cases r1;exact call_int_bool ⟨.int (if k then 1 else 0),H,I.tok _,⟨_,rfl⟩,q⟩
theorem lX:eh X (.type "str") (λxs H Q=>∃i,xs=[.int i]/\i.natAbs.log2 < 1920/\Q (.str (toString i)) H):=by
 intro pins s σ H xs us Q I r h;obtain⟨i,rfl,hz,q⟩:=h;obtain⟨u,rfl,t,rfl⟩:=vals1 r;exact PySem.P.str_of_int hz ⟨.str _,H,I.tok _,⟨_,rfl⟩,q⟩
theorem JG:eh X (.builtin "ord") (λxs H Q=>∃x,xs=[.str x]/\x.length=1/\Q (.int (x.cps.getD 0 0:Nat)) H):=by
 intro pins s σ H xs us Q I r h;obtain⟨x,rfl,hz,q⟩:=h;obtain⟨u,rfl,t,rfl⟩:=vals1 r;exact ord_of_one hz ⟨.int _,H,I.tok _,⟨_,rfl⟩,q⟩
end
structure Fu (h:Heap)(x dx C:Addr)(mA:Str->Option Value):Prop where
 obj:h.get? x=some (Vp C dx)
 ns:h.Ns1 dx mA
 ne:dx≠x
theorem uC {h:Heap}{dx:Addr}{mA:Str->Option Value}(n:h.Ns1 dx mA):∃od,h.get? dx=some od/\∀name,PySem.W.lookIn name od=some (mA name):=by
 obtain⟨o,es,ep,ho,hd,hk,_,hm⟩:=n;refine⟨o,ho,λname=>?_⟩
 have e:=hm name;unfold nsFind findBy at e;rw[<-Array.find?_toList]at e;unfold PySem.W.lookIn;rw[hd];dsimp only;split
 ·rename_i y q;rw[q]at e;exact congrArg some e
 ·rename_i q;rw[q]at e;have a:es.toList.any (·.refKey)=false:=by
   rw[List.any_eq_false];intro y hy;obtain⟨z,t,Tw⟩:=hk y (Array.mem_toList_iff.mp hy);simp[DictEntry.refKey,Tw]
  have a':¬es.toList.any (·.refKey)=true:=by rw[a];exact gr
  rw[if_neg a'];exact congrArg some e
theorem Fu.look {h:Heap}{x dx C:Addr}{mA:Str->Option Value}(I:Fu h x dx C mA):∃od,VY h x (Vp C dx) C (some od)/\∀name,PySem.W.lookIn name od=some (mA name) :=
 let ⟨od,ho,hl⟩:=uC I.ns
 ⟨od,⟨I.obj,rfl,rfl,ho⟩,hl⟩
section
variable{prog:ko}{w:World}{A:Around}{E:Value->Shared->Prop}{s:Shared}{K:ba}{x dx C f:Addr}{mA:Str->Option Value}{name:Str}{v:Value}
theorem get_map {expr:Bool}{Q:Value->Shared->Prop}(X:K.In s.heap)(I:Fu s.heap x dx C mA)(hg:PySem.W.plainGet K C name=true)(hh:PySem.W.hasDictIn K C=true)
  (ha:UW K (.ref C) name=some none) (hv:mA name=some v) (hv':PySem.W.handedIn v=true) (h:Q v { s with toks:=s.toks+1 }) :
  wpAny (model prog w) A (getAttr (.ref x) name expr) Q E s:=by
 obtain⟨od,J,hl⟩:=I.look;exact PySem.W.get_value X J (PySem.W.plainGet_of hg).1 (PySem.W.findObj_own hh ha rfl (by rw[hl,hv])) hv' h
theorem JH {pl:Sem Bool}{Q:Value×List Value->Shared->Prop}(X:K.In s.heap)(I:Fu s.heap x dx C mA)(hg:PySem.W.plainGet K C name=true)
  (hf:UW K (.ref C) name=some (some (.ref f))) (ht:PySem.W.isFn K (.ref f)=true) (hv:mA name=none) (h:Q (.ref f,[.ref x]) s) :
  wpAny (model prog w) A (getMethod (.ref x) name pl) Q E s:=by
 obtain⟨od,J,hl⟩:=I.look;exact PySem.W.method_fn X J (PySem.W.plainGet_of hg).1 (PySem.W.plainGet_of hg).2 hf (beq_iff_eq.mp ht) (by show (PySem.W.lookIn name od).map (·.isSome)=some false;rw[hl,hv];rfl) h
theorem Mz {ns:List Str}{Q:Unit->Shared->Prop}(X:K.In s.heap)(I:Fu s.heap x dx C mA)
  (hs:UW K (.ref C) "__setattr__"=some (some (.builtin "object.__setattr__"))) (hp:PySem.W.plainOver K C=true) (ht:PySem.W.takerIn K C name=some none) (hh:PySem.W.hasDictIn K C=true)
  (hw:PySem.Within mA ns) (hsz:ns.length<=de)
  (h:∀h',Fu h' x dx C (λy=>if y=name then some v else mA y)->Heap.SameBut dx s.heap h'->Q () { s with heap:=h',toks:=s.toks+2 }) :
  wpAny (model prog w) A (setAttr (.ref x) name v) Q E s:=by
 obtain⟨od,J,hl⟩:=I.look;refine PySem.W.set_plain X J hs (PySem.W.osa_open (s:={ s with toks:=s.toks+1 }) (r:=none) X J hp ht λb=>?_)
 obtain⟨cd,hc,hd'⟩:=PySem.W.any_some hh;have hx:s.heap.get? x=some ⟨.ref C,some dx,.plain,#[]⟩:=I.obj;refine cb (ka (cb (cb (wpAny_loadPart hx (cb (PySem.W.Looks.here (s:={ s with toks:=s.toks+1 }) (PySem.W.looks_clsIn X hc) ?_))))))
 rw[hd'];refine ka (a:=some dx) (cb (ka (cb ?_)));refine wpAny_nsSet1 (s:={ s with toks:=s.toks+1 }) I.ns λh' hn2 hs2=>?_
 obtain⟨oD,esD,epD,hoD,hdD,hcD⟩:=hn2.count (PySem.Within.cons name v hw);refine cb (wpAny_lookBehind hoD (by rw[hdD];exact pastItsLine_dict (ku hcD (by rw[kf];omega))) ?_)
 exact ka (h _ ⟨(hs2.2 _ (UU I.ne)).trans I.obj,hn2,I.ne⟩ hs2)
theorem JI {R:Result->Shared->Prop}{vs:List Value}{kw:List (Str×Value)}(X:K.In s.heap)(hm:PySem.W.makesIn K C=true)
  (hi:UW K (.ref C) "__init__"=some (some (.ref f))) (hf:PySem.W.typeIn K (.ref f)=some (.type "function"))
  (h:codeAny (model prog w) (A.under (.builtin "type.__call__" ⟨.ref C::vs,kw⟩)) (.call (.ref f) ⟨.ref (s.heap.objs.size+1)::vs,kw⟩) (PySem.W.InitBack (s.heap.objs.size+1) R)
   { s with heap:=(s.heap.push Vh).push (Vp C s.heap.objs.size) }) :
  codeAny (model prog w) A (.call (.ref C) ⟨vs,kw⟩) R s:=by
 obtain⟨hh,g,d,t,os⟩:=s;exact PySem.W.make_core (PySem.W.makes_of X hm) (Wi X hi) (λself=>PySem.W.bind_fn X self hf) (.inl rfl) h
end
def fh (f:Str)(v:V):List (Str×V)->List (Str×V)
 |[]=>[(f,v)]
 | (g,x)::r=>if g=f then (g,v)::r else (g,x)::fh f v r
theorem vM (f g:Str)(v:V):∀fs:List (Str×V),(fh f v fs).lookup g=if g=f then some v else fs.lookup g
 |[]=>by
  show Vv g [(f,v)]=_
  by_cases h:g=f
  ·have hb:(g == f)=true:=beq_iff_eq.mpr h;simp only[Vv,hb,if_pos h]
  ·have hb:(g == f)=false:=beq_eq_false_iff_ne.mpr h;simp only[Vv,hb,if_neg h]
 | (k,x)::r=>by
  have ih:=vM f g v r;rw[show fh f v ((k,x)::r)=(if k=f then (k,v)::r else (k,x)::fh f v r) from rfl]
  by_cases hk:k=f
  ·rw[if_pos hk]
   by_cases h:g=k
   ·have hb:(g == k)=true:=beq_iff_eq.mpr h;simp only[Vv,hb,if_pos (h.trans hk)]
   ·have hb:(g == k)=false:=beq_eq_false_iff_ne.mpr h;simp only[Vv,hb,if_neg (λe:g=f=>h (e.trans hk.symm))]
  ·rw[if_neg hk]
   by_cases h:g=k
   ·have hb:(g == k)=true:=beq_iff_eq.mpr h;simp only[Vv,hb,if_neg (λe:g=f=>hk (h.symm.trans e))]
   ·have hb:(g == k)=false:=beq_eq_false_iff_ne.mpr h;simp only[Vv,hb];exact ih
theorem uD (f:Str)(v:V):∀fs:List (Str×V),f∈(fh f v fs).map (·.1)/\∀g,g∈fs.map (·.1)->g∈(fh f v fs).map (·.1)
 |[]=>⟨by simp[fh],λg h=>by simp at h⟩
 | (k,x)::r=>by
  obtain⟨i1,i2⟩:=uD f v r;rw[show fh f v ((k,x)::r)=(if k=f then (k,v)::r else (k,x)::fh f v r) from rfl]
  by_cases hk:k=f
  ·rw[if_pos hk];subst hk;exact⟨by simp,λg h=>by simpa using h⟩
  ·rw[if_neg hk];refine⟨?_,λg h=>?_⟩
   ·rw[kx];exact kr _ i1
   ·rw[kx]at h ⊢;rcases List.mem_cons.mp h with e | e
    ·exact List.mem_cons.mpr (.inl e)
    ·exact kr _ (i2 g e)
theorem vN (f:Str)(v:V):∀fs:List (Str×V),(fh f v fs).length<=fs.length+1
 |[]=>by simp[fh]
 | (k,x)::r=>by
  have ih:=vN f v r;rw[show fh f v ((k,x)::r)=(if k=f then (k,v)::r else (k,x)::fh f v r) from rfl]
  by_cases hk:k=f
  ·rw[if_pos hk,kf,kf];omega
  ·rw[if_neg hk,kf,kf];omega
theorem lW.some_of {v:V}{o:Option Value}(r:lW (some v) o):∃u,o=some u/\RelV v u:=by
 cases o with
 |none=>exact(show False from r).elim
 |some u=>exact⟨u,rfl,r⟩
theorem lW.none_of {o:Option Value}(r:lW none o):o=none:=by
 cases o with
 |none=>rfl
 |some u=>exact(show False from r).elim
theorem HU {v:V}{u:Value}(r:RelV v u):PySem.W.handedIn u=true:=by
 cases v with
 |non=>cases (show u=Vx from r);rfl
 |bl b=>cases (show u=VW b from r);rfl
 |int i=>obtain⟨t,e⟩:=(show ∃t,u=Value.int i t from r);cases e;rfl
 |str x=>obtain⟨t,e⟩:=(show ∃t,u=Value.str x t from r);cases e;rfl
 |byt b=>obtain⟨t,e⟩:=(show ∃t,u=Value.bytes b t from r);cases e;rfl
 |flt b=>obtain⟨t,e⟩:=(show ∃t,u=Value.float b t from r);cases e;rfl
 |ref a=>cases (show u=ky a from r);rfl
 |ty n=>cases (show u=Value.type n from r);rfl
section
variable{P:ko}{w:World}{H H':Hp}{h h':Heap}{a C dx:Addr}{fs fs':List (Str×V)}
theorem BF (hok:HOk P w H h)(e:H a=some (.ins C dx fs)):∃mA,Fu h a dx C mA/\(∀f,lW (fs.lookup f) (mA f))/\PySem.Within mA (fs.map (·.1))/\fs.length<=1000/\H dx=some (.own a):=by
 obtain⟨d,z,ne,ob,mA,n,r,q⟩:=(show dE P w H h a (.ins C dx fs) from hok a _ e)
 exact⟨mA,⟨ob,n,ne⟩,r,q,z,d⟩
end
structure Cls (K:ba)(C:Addr):Prop where
 pg:PySem.W.plainGet K C U7=true
 hd:PySem.W.hasDictIn K C=true
 po:PySem.W.plainOver K C=true
 sa:UW K (.ref C) "__setattr__"=some (some (.builtin "object.__setattr__"))
theorem Cls.get {K:ba}{C:Addr}(c:Cls K C)(f:Str):PySem.W.plainGet K C f=true:=c.pg
def cM (K:ba)(C:Addr)(f:Str):Prop:=UW K (.ref C) f=some none
theorem cM.Q9 {K:ba}{C:Addr}{f:Str}(n:cM K C f):PySem.W.takerIn K C f=some none:=by
 unfold PySem.W.takerIn;rw[show UW K (.ref C) f=some none from n]
 rfl
structure Con (K:ba)(C:Addr)(f:Str)(v:V)(u:Value):Prop where
 at_:UW K (.ref C) f=some (some u)
 rel:RelV v u
 get:PySem.W.specialIn K u "__get__"=some none
 cp:PySem.W.copiedNames.contains f=false
structure Meth (K:ba)(C:Addr)(m:Str)(f:Addr):Prop where
 at_:UW K (.ref C) m=some (some (.ref f))
 fn:PySem.W.isFn K (.ref f)=true
 kp:Wa K (.ref f)=true
section
variable{X:Cx}{pins:List (Addr×Obj)}{σ:St}{H:Hp}{s:Shared}{a C dx:Addr}{fs:List (Str×V)}{f:Str}{v:V}{A:Around}{E:Value->Shared->Prop}
theorem Fv {b:Bool}{Q:Value->Shared->Prop}(I:Inv X pins σ H s)(e:H a=some (.ins C dx fs))(c:Cls X.K C)(n:cM X.K C f)(l:fs.lookup f=some v)
  (h:∀u s',Inv X pins σ H s'->RelV v u->Q u s'):wpAny (model X.prog X.w) A (getAttr (.ref a) f b) Q E s:=by
 obtain⟨mA,O,r,_,_,_⟩:=BF I.hok e;obtain⟨u,hu,ru⟩:=lW.some_of (v:=v) (o:=mA f) (by rw[<-l];exact r f)
 exact get_map I.kIn O (c.get f) c.hd n hu (HU ru) (h u _ (I.tok _) ru)
theorem fH {m:Str}{g:Addr}{pl:Sem Bool}{Q:Value×List Value->Shared->Prop}(I:Inv X pins σ H s)(e:H a=some (.ins C dx fs))(c:Cls X.K C)(k:Meth X.K C m g)(l:fs.lookup m=none)
  (h:Q (.ref g,[.ref a]) s):wpAny (model X.prog X.w) A (getMethod (.ref a) m pl) Q E s:=by
 obtain⟨mA,O,r,_,_,_⟩:=BF I.hok e;have hn:mA m=none:=lW.none_of (by rw[<-l];exact r m)
 exact JH I.kIn O (c.get m) k.at_ k.fn hn h
theorem Fw {y:V}{u:Value}{Q:Unit->Shared->Prop}(I:Inv X pins σ H s)(e:H a=some (.ins C dx fs))(c:Cls X.K C)(n:cM X.K C f)(hl:fs.length < 1000)(ry:RelV y u)
  (h:∀s',Inv X pins σ (upd H a (.ins C dx (fh f y fs))) s'->Q () s'):wpAny (model X.prog X.w) A (setAttr (.ref a) f u) Q E s:=by
 obtain⟨mA,O,r,wi,_,ho⟩:=BF I.hok e;have hz:(fs.map (·.1)).length<=de:=by rw[da,sizeLine_eq];omega
 refine Mz I.kIn O c.sa c.po n.Q9 c.hd wi hz λh' O' sb=>h _ ?_
 have hd:∃o,h'.get? dx=some o:=let ⟨o,_,_,e',_⟩:=O'.ns;⟨o,e'⟩
 refine I.write (x:=a) (e:=dx) (by rw[e];exact True.intro) (.inr ho) (λb q hb z=>(sb.2 b hb).trans z) hd ?_
 refine⟨by rw[ax O.ne];exact ho,?_,O.ne,O'.obj,_,O'.ns,λg=>?_,λg hg=>?_⟩
 ·have:=vN f y fs;omega
 ·show lW ((fh f y fs).lookup g) (if g=f then some u else mA g)
  rw[vM]
  by_cases q:g=f
  ·rw[if_pos q,if_pos q];exact ry
  ·rw[if_neg q,if_neg q];exact r g
 ·by_cases q:g=f
  ·rw[q];exact(uD f y fs).1
  ·refine(uD f y fs).2 g (wi g λz=>hg ?_)
   show (if g=f then some u else mA g)=none
   rw[if_neg q];exact z
theorem Inv.made (I:Inv X pins σ H s):Inv X pins σ (upd (upd H s.heap.objs.size (.own (s.heap.objs.size+1))) (s.heap.objs.size+1) (.ins C s.heap.objs.size []))
  { s with heap:=(s.heap.push Vh).push (Vp C s.heap.objs.size) }:=by
 have e1:(s.heap.push Vh).get? s.heap.objs.size=some Vh:=si s.heap rfl;have e2:((s.heap.push Vh).push (Vp C s.heap.objs.size)).get? (s.heap.objs.size+1)=some (Vp C s.heap.objs.size):=by
  have:=si (s.heap.push Vh) (o:=Vp C s.heap.objs.size) rfl
  rwa [VR]at this
 have e3:(s.heap.push Vh).Ns s.heap.objs.size (λ_=>none):=⟨Vh,#[],_,e1,rfl,(λe he=>absurd he (by simp)),λ_=>rfl⟩
 have I1:=I.laid (a:=s.heap.objs.size) (o:=.own (s.heap.objs.size+1)) (h':=s.heap.push Vh) (t':=s.toks) (λb u q=>fu _ q) (kg _) ⟨_,e1⟩
 refine I1.laid (a:=s.heap.objs.size+1) (o:=.ins C s.heap.objs.size []) (t':=s.toks) (λb u q=>fu _ q) (Nat.le_of_eq (VR _ _)) ?_
 have ne:s.heap.objs.size≠s.heap.objs.size+1:=sr (Wv _);refine⟨by rw[ax ne,af],Vg _,ne,e2,λ_=>none,(Heap.Ns1.of_empty e3).at λo q=>fu _ q,λ_=>True.intro,λy hy=>absurd rfl hy⟩
theorem BG {prog:ko}{w:World}{env:Env}{e:Expr}{f:Str}{pos:Pos}{s:Shared}{Q:Value->Shared->Prop}(hb:attributeBase e f env (eval e env)=eval e env)
  (h:wpAny (model prog w) A (eval e env) (λo s₁=>wpAny (model prog w) A (getAttr o f true) Q E s₁) E s):wpAny (model prog w) A (eval (.Attribute e f pos) env) Q E s :=
 Attribute_any_ h (by rw[arm_eval_Attribute,hb])
end
def Ra (K:ba)(ta:TE)(f:Str):TE:=λσ H Q=>ta σ H λx H1=>∃a C dx fs v,x=.ref a/\H1 a=some (.ins C dx fs)/\Cls K C/\cM K C f/\fs.lookup f=some v/\Q v H1
def Tx (K:ba)(ta tv:TE)(f:Str):TS:=λD σ H=>tv σ H λy H1=>ta σ H1 λx H2=>∃a C dx fs,x=.ref a/\H2 a=some (.ins C dx fs)/\Cls K C/\cM K C f/\fs.length < 1000 /\
 D.nx σ (upd H2 a (.ins C dx (fh f y fs)))
section
variable{X:Cx}{o e value:Expr}{f:Str}{pos pos' Tz:Pos}{ta tv:TE}
theorem bF (he:PE X e ta)(hb:attributeBase e f X.env (eval e X.env)=eval e X.env):PE X (.Attribute e f pos) (Ra X.K ta f):=by
 intro pins s σ H Q I h;refine BG hb (thn (he pins s σ H _ I h) λu s1 ⟨x,H1,I1,rx,a,C,dx,fs,v,ex,ea,c,n,l,q⟩=>?_)
 subst ex;obtain rfl:u=ky a:=rx;exact Fv I1 ea c n l λu' s2 I2 ru=>⟨v,H1,I2,ru,q⟩
theorem eA (ha:PE X o ta)(hv:PE X value tv)(hs:swapsWith value (some (.Attribute o f pos')) pos.line X.env=pure false):PS X (.Assign [.Attribute o f pos'] value pos) (Tx X.K ta tv f):=by
 intro pins s σ H D I h;refine plainObj_wpAny_Assign_Attribute (thn (hv pins s σ H _ I h) λu s1 ⟨y,H1,I1,ry,q⟩=>thn (ha pins s1 σ H1 _ I1 q) λov s2 ⟨x,H2,I2,rx,a,C,dx,fs,ex,ea,c,n,l,q2⟩=>?_) hs
 subst ex;obtain rfl:ov=ky a:=rx;exact Fw I2 ea c n l ry λs3 I3=>⟨σ,_,I3,q2⟩
def MA:V->V->Hp->VK->Prop:=λx y H Q=>∃i j,x=.int i/\y=.int j/\Q (.int (i+j)) H
theorem N9 {pl:Sem Bool}{m:Str}{apos:Pos}{args:List Expr}{pins:List (Addr×Obj)}{s:Shared}{σ:St}{H:Hp}{Q:Value->Shared->Prop}{te:TE}(he:PE X e te)(I:Inv X pins σ H s)
  (h:te σ H λx H1=>∃a C dx fs g,x=.ref a/\H1 a=some (.ins C dx fs)/\Cls X.K C/\Meth X.K C m g/\fs.lookup m=none /\
   ∀s1,Inv X pins σ H1 s1->wpAny (model X.prog X.w) X.A (Wb pos (.ref g) [.ref a] (backTo pos (om args X.env)) (V4 pos (VC [] X.env))) Q X.xe s1)
  (ht:eval (.Call (.Attribute e m apos) args [] pos) X.env=(do
   let ov <-eval e X.env
   standAt apos.atName
   let (f,first) <-holding [ov] (getMethod ov m pl)
   Wb pos f first (backTo pos (om args X.env)) (V4 pos (VC [] X.env)))) :
  wpAny (model X.prog X.w) X.A (eval (.Call (.Attribute e m apos) args [] pos) X.env) Q X.xe s:=by
 refine VD (pl:=pl) (thn (he pins s σ H _ I h) λu s1 ⟨x,H1,I1,rx,a,C,dx,fs,g,ex,ea,c,k,l,q⟩=>?_) ht
 subst ex;obtain rfl:u=ky a:=rx;exact fH I1 ea c k l (q s1 I1)
end
section
variable{X:Cx}{pins:List (Addr×Obj)}{σ:St}{H:Hp}{s:Shared}{A:Around}{E:Value->Shared->Prop}{Q:Value->Shared->Prop}{c:Value}{b:Bool}
inductive ye (K:ba)(H:Hp):V->Value->Prop where
 |non:ye K H .non (.type "NoneType")
 |bl (x:Bool):ye K H (.bl x) (.type "bool")
 |int (i:Int):ye K H (.int i) (.type "int")
 |str (x:Str):ye K H (.str x) (.type "str")
 |flt (x:UInt64):ye K H (.flt x) (.type "float")
 |lst {a:Addr} {xs:List V} (e:H a=some (.lst xs)):ye K H (.ref a) (.type "list")
 |frz {a:Addr} {o:Obj} {xs:List V} (e:H a=some (.frz o (.lst xs))):ye K H (.ref a) (.type "list")
 |tup {a:Addr} {xs:List V} (e:H a=some (.tup xs)):ye K H (.ref a) (.type "tuple")
 |dK {a:Addr} {kvs:List (Key×V)} (e:H a=some (.dK kvs)):ye K H (.ref a) (.type "dict")
 |dT {a:Addr} {kvs:List (List Key×V)} (e:H a=some (.dT kvs)):ye K H (.ref a) (.type "dict")
 |ins {a C dx:Addr} {fs:List (Str×V)} (e:H a=some (.ins C dx fs)) (cl:Cls K C) (ha:UW K (.ref C) "__class__"=some (some (.builtin "object.__class__")))
   (hn:PySem.W.specialIn K (.builtin "object.__class__") "__get__"=some (some (.builtin "getset_descriptor.__get__"))) (htk:PySem.W.takesIn K (.builtin "object.__class__")=some true)
   (hm:WD K C (.type "object")=some true):ye K H (.ref a) (.ref C)
end
structure Room (k:Nat)(A:Around):Prop where
 hd:A.handled=none
 dp:A.depth+3 * k+5 < recursionLimit
 un:A.units+16 * k+200 < cLine
 gd:A.guards=some []
theorem Room.mono {j k:Nat}{A:Around}(r:Room k A)(h:j<=k):Room j A:=⟨r.hd,by have:=r.dp;omega,by have:=r.un;omega,r.gd⟩
theorem Room.deeper {k:Nat}{A:Around}(r:Room (k+1) A)(env:Env):Room k (A.deeper env) :=
 ⟨r.hd,by have:=r.dp;show A.depth+1+3 * k+5 < _;omega,by have:=r.un;show A.units+3+16 * k+200 < _;omega,r.gd⟩
theorem Room.in1 {k:Nat}{A:Around}(r:Room (k+1) A):Room k A.in1 :=
 ⟨r.hd,by have:=r.dp;show A.depth+3 * k+5 < _;omega,by have:=r.un;show A.units+1+16 * k+200 < _;omega,r.gd⟩
theorem Fx {A:Around}{C:Addr}{us:List Value}{kw:List (Str×Value)}:(A.under (.builtin "type.__call__" ⟨.ref C::us,kw⟩)).depth=A.depth+1:=by
 first | rfl | simp[Around.under,Code.weight,Code.isCreation,Code.isGuard,Code.isCaller,Code.frames,Code.isFrame,guardIds]
theorem Fy {A:Around}{C:Addr}{us:List Value}{kw:List (Str×Value)}:(A.under (.builtin "type.__call__" ⟨.ref C::us,kw⟩)).units=A.units+1:=by
 first | rfl | simp[Around.under,Code.cUnits,Code.frames,Code.isFrame]
theorem Room.make {k:Nat}{A:Around}(r:Room (k+1) A)(C:Addr)(us:List Value)(kw:List (Str×Value)):Room k (A.under (.builtin "type.__call__" ⟨.ref C::us,kw⟩)) :=
 ⟨r.hd,by have:=r.dp;rw[Fx];omega,by have:=r.un;rw[Fy];omega,by
  have g:=r.gd
  first | exact g | simp[Around.under,Code.guards,Code.isGuard,guardIds,pushGuards,g]⟩
theorem Room.depth {k:Nat}{A:Around}(r:Room k A):A.depth < recursionLimit:=by have:=r.dp;omega
theorem Room.units {k:Nat}{A:Around}(r:Room k A):A.units+64 < cLine:=by have:=r.un;omega
def Dx:TA:=λ_ H Q=>Q [] H
def AS (ta:TE)(tr:TA):TA:=λσ H Q=>ta σ H λx H1=>tr σ H1 λxs H2=>Q (x::xs) H2
section
variable{X:Cx}{e:Expr}{es:List Expr}{te:TE}{t:TA}{pos:Pos}
theorem ae:PA X [] Dx:=λ_ _ _ _ H Q I h=>Calls.spliced_nil ⟨[],H,I,.nil,h⟩
theorem aa (ha:PE X e te)(hr:PA X es t)(hs:om (e::es) X.env=(false,eval e X.env)::om es X.env:=by rfl):PA X (e::es) (AS te t):=by
 intro pos pins s σ H Q I h;rw[hs];show wpAny _ _ (spliced ((false,eval e X.env)::backTo pos (om es X.env))) _ _ s;refine Calls.spliced_cons (thn (ha pins s σ H _ I h) λu s1 ⟨x,H1,I1,r1,q1⟩=>?_)
 exact thn (hr pos pins s1 σ H1 _ I1 q1) λus s2 ⟨xs,H2,I2,r2,q2⟩=>⟨x::xs,H2,I2,.cons r1 r2,q2⟩
def Rb (t:TA):TE:=λσ H Q=>t σ H λxs H1=>xs.length<=de/\∀p,H1 p=none->Q (.ref p) (upd H1 p (.tup xs))
def OS (t:TA):TE:=λσ H Q=>t σ H λxs H1=>xs.length<=de/\∀p,H1 p=none->Q (.ref p) (upd H1 p (.lst xs))
theorem a8 {x1}(h:PA X es t):PE X (.Tuple es x1 pos) (Rb t):=by
 intro pins s σ H Q I hq;refine wpAny_Tuple_spliced (thn (h pos pins s σ H _ I hq) λus s1 ⟨xs,H1,I1,r,z,q⟩=>⟨by rw[<-r.length];exact z,?_⟩)
 have hf:H1 s1.heap.objs.size=none:=I1.hok.fresh (kg _);refine⟨.ref s1.heap.objs.size,upd H1 s1.heap.objs.size (.tup xs),I1.laid (t':=s1.toks) (λb u e=>fu _ e) (kg _) ?_,rfl,q _ hf⟩
 exact⟨z,us,r,⟨_,si _ rfl,rfl,_,rfl⟩⟩
theorem bE (h:PA X es t):PE X (.List es pos) (OS t):=by
 intro pins s σ H Q I hq;refine wpAny_List_spliced (thn (h pos pins s σ H _ I hq) λus s1 ⟨xs,H1,I1,r,z,q⟩=>⟨by rw[<-r.length];exact z,?_⟩)
 have hf:H1 s1.heap.objs.size=none:=I1.hok.fresh (kg _);refine⟨.ref s1.heap.objs.size,upd H1 s1.heap.objs.size (.lst xs),I1.laid (t':=s1.toks) (λb u e=>fu _ e) (kg _) ?_,rfl,q _ hf⟩
 exact⟨z,us,0,r,si _ rfl⟩
end
abbrev Sp:=List V->Hp->VK->XK->Prop
abbrev CXT:=List Env->Hp->Shared->XK->Value->Shared->Prop
structure sP (P:ko)(w:World)(K:ba)(mg:Str->Option Value)(base:Heap)(A:Around)(outer:List Env)(s:Shared)(H:Hp):Prop where
 frames:A.frames=some outer
 mod:Mod K mg base
 bs:∀b o,base.get? b=some o->s.heap.get? b=some o/\H b=none
 bsz:base.objs.size<=s.heap.objs.size
 jJ:s.heap.FunFrames base outer
 frf:∀b∈frs outer,H b=none
 hok:HOk P w H s.heap
 bare:AllBare s.gens
def CE (outer:List Env)(P:ko)(w:World)(H:Hp)(s:Shared)(Q:VK)(u:Value)(s':Shared):Prop :=
 ∃v H',s'.os=s.os/\AllBare s'.gens/\Un (frs outer) [] H H' s.heap s'.heap/\HOk P w H' s'.heap/\RelV v u/\Q v H'
def CR (CX:CXT)(outer:List Env)(P:ko)(w:World)(H:Hp)(s:Shared)(Q:VK)(E:XK)(r:Result)(s':Shared):Prop :=
 match r with
 | .ok (.ret u)=>CE outer P w H s Q u s'
 | .ok _=>False
 | .error e=>CX outer H s E e s'
structure FnOk (P:ko)(w:World)(K:ba)(mg:Str->Option Value)(base:Heap)(CX:CXT)(k:Nat)(f:Addr)(fd:gn)(ps:List Str)(sp:Sp):Prop where
 len:∀vs H Q E,sp vs H Q E->vs.length=ps.length
 run:∀(A:Around) (outer:List Env) (s:Shared) (H:Hp) (args:Args) (us:List Value) (vs:List V) (Q:VK) (E:XK),Room k A->sP P w K mg base A outer s H->BindsTo s fd args (ps.zip us)->Vals vs us->sp vs H Q E ->
  codeAny (model P w) A (.call (.ref f) args) (CR CX outer P w H s Q E) s
theorem FnOk.mono {P:ko}{w:World}{K:ba}{mg:Str->Option Value}{base:Heap}{CX:CXT}{j k:Nat}{f:Addr}{fd:gn}{ps:List Str}{sp:Sp}(F:FnOk P w K mg base CX j f fd ps sp)(h:j<=k) :
  FnOk P w K mg base CX k f fd ps sp:=⟨F.len,λA outer s H args us vs Q E hr=>F.run A outer s H args us vs Q E (hr.mono h)⟩
theorem FnOk.imp {P:ko}{w:World}{K:ba}{mg:Str->Option Value}{base:Heap}{CX:CXT}{k:Nat}{f:Addr}{fd:gn}{ps:List Str}{sp sp':Sp}(F:FnOk P w K mg base CX k f fd ps sp)
  (h:∀vs H Q E,sp' vs H Q E->sp vs H Q E):FnOk P w K mg base CX k f fd ps sp' :=
 ⟨λvs H Q E q=>F.len vs H Q E (h _ _ _ _ q),λA outer s H args us vs Q E hr he hb hv hs=>F.run A outer s H args us vs Q E hr he hb hv (h _ _ _ _ hs)⟩
theorem sP.make {P:ko}{w:World}{K:ba}{mg:Str->Option Value}{base:Heap}{A:Around}{outer:List Env}{s:Shared}{H:Hp}(e:sP P w K mg base A outer s H)(C:Addr)(us:List Value)(kw:List (Str×Value)) :
  sP P w K mg base (A.under (.builtin "type.__call__" ⟨.ref C::us,kw⟩)) outer s H:=⟨by first | exact e.frames | (simpa [Around.under,Code.envs,Code.isFrame,pushEnvs] using e.frames),e.mod,e.bs,e.bsz,e.jJ,e.frf,e.hok,e.bare⟩
theorem sP.in1 {P:ko}{w:World}{K:ba}{mg:Str->Option Value}{base:Heap}{A:Around}{outer:List Env}{s:Shared}{H:Hp}(e:sP P w K mg base A outer s H) :
  sP P w K mg base A.in1 outer s H:=⟨e.frames,e.mod,e.bs,e.bsz,e.jJ,e.frf,e.hok,e.bare⟩
section
variable{X:Cx}{pins:List (Addr×Obj)}{σ:St}{H:Hp}{s s':Shared}
theorem Inv.JJ (I:Inv X pins σ H s):sP X.prog X.w X.K X.mg X.base X.A X.stack s H :=
 ⟨I.ok.frames,I.ok.mod,I.bs,ku I.ok.bsz I.sz,I.stack,I.xO,I.hok,I.bare⟩
theorem Inv.after {Q:VK}{u:Value}(I:Inv X pins σ H s)(h:CE X.stack X.prog X.w H s Q u s'):EP X pins σ Q u s':=by
 obtain⟨v,H',os,bare,un,hok,r,q⟩:=h;obtain⟨hh,g,d,t,os'⟩:=s';obtain rfl:os'=s.os:=os;exact⟨v,H',I.call (h':=hh) (g':=g) (d':=d) (t':=t) (ch:=[]) un hok bare (λb z=>absurd z (by simp)),r,q⟩
end
def Rc (sp:Sp)(dvs:List V)(E:XK)(t:TA):TE:=λσ H Q=>t σ H λvs H1=>sp (vs++dvs) H1 Q E
def GP (C:Addr)(m:Str)(sp:Sp)(dvs:List V)(E:XK)(ta:TE)(t:TA):TE:=λσ H Q=>ta σ H λx H1=>∃a dx fs,x=.ref a/\H1 a=some (.ins C dx fs)/\fs.lookup m=none /\
 t σ H1 λvs H2=>sp (x::(vs++dvs)) H2 Q E
def Oa (C:Addr)(sp:Sp)(dvs:List V)(E:XK)(t:TA):TE:=λσ H Q=>t σ H λvs H1=>∀x dx,H1 x=none->H1 dx=none->dx≠x ->
 sp (.ref x::(vs++dvs)) (upd (upd H1 dx (.own x)) x (.ins C dx [])) (λv H2=>v=.non/\Q (.ref x) H2) E
def Binds (K:ba)(fd:gn)(ps:List Str)(ds:List Value):Prop :=
 ∀(s:Shared) (us:List Value),K.In s.heap->(us++ds).length=ps.length->BindsTo s fd ⟨us,[]⟩ (ps.zip (us++ds))
theorem Binds.all {K:ba}{fd:gn}{ps:List Str}(h:∀us:List Value,us.length=ps.length->bindArgs fd ⟨us,[]⟩=pure (ps.zip us)):Binds K fd ps []:=λs us _ hl=>by
 rw[VH]at hl ⊢;exact .of_eq (h us hl)
def Passes (CX:CXT)(X:Cx)(E:XK):Prop:=∀(pins:List (Addr×Obj)) (σ:St) (H:Hp) (s:Shared) (e:Value) (s':Shared),Inv X pins σ H s->CX X.stack H s E e s'->X.xe e s'
section
variable{X:Cx}{CX:CXT}{k:Nat}{f C:Addr}{fd:gn}{ps:List Str}{sp:Sp}{dvs:List V}{ds:List Value}{E:XK}{x m:Str}{p pos apos:Pos}{e o:Expr}{es:List Expr}{ta:TE}{t:TA}
theorem BH {pins:List (Addr×Obj)}{σ:St}{H:Hp}{s:Shared}{Q:VK}{us:List Value}{vs:List V}(F:FnOk X.prog X.w X.K X.mg X.base CX k f fd ps sp)(hr:Room k X.A)(hb:Binds X.K fd ps ds)(hd:Vals dvs ds)(hx:Passes CX X E)
  (I:Inv X pins σ H s) (r:Vals vs us) (h:sp (vs++dvs) H Q E):wpAny (model X.prog X.w) X.A (call (.ref f) us) (EP X pins σ Q) X.xe s:=by
 have r2:Vals (vs++dvs) (us++ds):=r.append hd;have hl:(us++ds).length=ps.length:=by rw[<-r2.length];exact F.len _ _ _ _ h
 refine V1 (VS (F.run X.A X.stack s H ⟨us,[]⟩ (us++ds) (vs++dvs) Q E hr I.JJ (hb s us I.kIn hl) r2 h) λr s' hq=>?_)
 cases r with
 |error e=>exact hx pins σ H s e s' I hq
 |ok fl =>
  cases fl with
  |ret u=>exact I.after hq
  |next=>exact wa hq
  |brk=>exact wa hq
  |cont=>exact wa hq
theorem bw (F:FnOk X.prog X.w X.K X.mg X.base CX k f fd ps sp)(hr:Room k X.A)(hg:Gl X x)(hm:X.mg x=some (.ref f))(hk:Wa X.K (.ref f)=true)(hb:Binds X.K fd ps ds)(hd:Vals dvs ds)(hx:Passes CX X E)
  (ha:PA X (e::es) t) (hdb:(x == ("__debug__":Str))=false:=by decide) (he:om (e::es) X.env=(false,eval e X.env)::om es X.env:=by rfl) (hpl:(backTo pos (om es X.env)).any (·.1)=false:=by rfl) :
  PE X (.Call (.Name x p) (e::es) [] pos) (Rc sp dvs E t):=by
 intro pins s σ H Q I h;refine Vf (eN I hg hm ?_ hdb);refine VX (h₀:=X.base) I.ok.mod.kin hk (thn (ha pos pins s σ H _ I h) λus s1 ⟨vs,H1,I1,r,q⟩=>⟨I1.kIn,?_⟩) he hpl
 exact BH F hr hb hd hx I1 r q
theorem c9 {pl:Sem Bool}(he:PE X o ta)(c:Cls X.K C)(hm:Meth X.K C m f)(F:FnOk X.prog X.w X.K X.mg X.base CX k f fd ps sp)(hr:Room k X.A)(hb:Binds X.K fd ps ds)(hd:Vals dvs ds)(hx:Passes CX X E)(ha:PA X (e::es) t)
  (hst:om (e::es) X.env=(false,eval e X.env)::om es X.env:=by rfl) (hpl:(backTo pos (om es X.env)).any (·.1)=false:=by rfl)
  (ht:eval (.Call (.Attribute o m apos) (e::es) [] pos) X.env=(do
   let ov <-eval o X.env
   standAt apos.atName
   let (f,first) <-holding [ov] (getMethod ov m pl)
   Wb pos f first (backTo pos (om (e::es) X.env)) (V4 pos (VC [] X.env))):=by rfl) :
  PE X (.Call (.Attribute o m apos) (e::es) [] pos) (GP C m sp dvs E ta t):=by
 intro pins s σ H Q I h;refine VD (pl:=pl) (thn (he pins s σ H _ I h) λu s1 ⟨x,H1,I1,rx,a,dx,fs,ex,ea,l,q⟩=>?_) ht
 subst ex;obtain rfl:u=ky a:=rx;refine fH I1 ea c hm l ?_;refine VX (first:=[.ref a]) (h₀:=X.base) I.ok.mod.kin hm.kp (thn (ha pos pins s1 σ H1 _ I1 q) λus s2 ⟨vs,H2,I2,r,q2⟩=>⟨I2.kIn,?_⟩) hst hpl
 exact BH (us:=.ref a::us) (vs:=.ref a::vs) F hr hb hd hx I2 (.cons rfl r) q2
theorem eB {pl:Sem Bool}(he:PE X o ta)(c:Cls X.K C)(hm:Meth X.K C m f)(F:FnOk X.prog X.w X.K X.mg X.base CX k f fd ps sp)(hr:Room k X.A)(hb:Binds X.K fd ps ds)(hd:Vals dvs ds)(hx:Passes CX X E)
  (ht:eval (.Call (.Attribute o m apos) [] [] pos) X.env=(do
   let ov <-eval o X.env
   standAt apos.atName
   let (f,first) <-holding [ov] (getMethod ov m pl)
   Wb pos f first (backTo pos (om [] X.env)) (V4 pos (VC [] X.env))):=by rfl) :
  PE X (.Call (.Attribute o m apos) [] [] pos) (GP C m sp dvs E ta Dx):=by
 intro pins s σ H Q I h;refine VD (pl:=pl) (thn (he pins s σ H _ I h) λu s1 ⟨x,H1,I1,rx,a,dx,fs,ex,ea,l,q⟩=>?_) ht
 subst ex;obtain rfl:u=ky a:=rx;refine fH I1 ea c hm l ?_;exact Wu (first:=[.ref a]) I1.kIn hm.kp (BH (us:=[.ref a]) (vs:=[.ref a]) F hr hb hd hx I1 (.cons rfl .nil) q)
structure Mk (K:ba)(C f:Addr):Prop where
 makes:PySem.W.makesIn K C=true
 init:UW K (.ref C) "__init__"=some (some (.ref f))
 fn:PySem.W.isFn K (.ref f)=true
 kp:Wa K (.ref C)=true
theorem Dy {pins:List (Addr×Obj)}{σ:St}{H:Hp}{s:Shared}{Q:VK}{us:List Value}{vs:List V}(M:Mk X.K C f)(F:FnOk X.prog X.w X.K X.mg X.base CX k f fd ps sp)(hr:Room (k+1) X.A)(hb:Binds X.K fd ps ds)(hd:Vals dvs ds)
  (hx:Passes CX X E) (I:Inv X pins σ H s) (r:Vals vs us)
  (h:∀x dx,H x=none->H dx=none->dx≠x->sp (.ref x::(vs++dvs)) (upd (upd H dx (.own x)) x (.ins C dx [])) (λv H2=>v=.non/\Q (.ref x) H2) E) :
  wpAny (model X.prog X.w) X.A (call (.ref C) us) (EP X pins σ Q) X.xe s:=by
 have hq:=h (s.heap.objs.size+1) s.heap.objs.size (I.hok.fresh (VZ _)) (I.hok.fresh (kg _)) (sr (Wv _));have I2:=Inv.made (C:=C) I;have r2:Vals (V.ref (s.heap.objs.size+1)::(vs++dvs)) (ky (s.heap.objs.size+1)::(us++ds)):=.cons rfl (r.append hd);have hl:(ky (s.heap.objs.size+1)::us++ds).length=ps.length:=by
  have e:=r2.length;rw[F.len _ _ _ _ hq]at e;exact e.symm
 refine V1 (JI (f:=f) I.kIn M.makes M.init (beq_iff_eq.mp M.fn) (VS (F.run _ X.stack _ _ ⟨ky (s.heap.objs.size+1)::us,[]⟩ (ky (s.heap.objs.size+1)::(us++ds)) _ _ E (hr.make C us [])
  (I2.JJ.make C us []) (hb _ (ky (s.heap.objs.size+1)::us) I2.kIn hl) r2 hq) λr s' hq'=>?_))
 cases r with
 |error e=>exact hx pins σ _ _ e s' I2 hq'
 |ok fl =>
  cases fl with
  |ret u =>
   obtain⟨v,H',I3,rv,ev,q3⟩:=I2.after hq';subst ev;exact⟨rv,⟨V.ref (s.heap.objs.size+1),H',I3,rfl,q3⟩⟩
  |next=>exact wa hq'
  |brk=>exact wa hq'
  |cont=>exact wa hq'
theorem fF (M:Mk X.K C f)(F:FnOk X.prog X.w X.K X.mg X.base CX k f fd ps sp)(hr:Room (k+1) X.A)(hg:Gl X x)(hm:X.mg x=some (.ref C))(hb:Binds X.K fd ps ds)(hd:Vals dvs ds)(hx:Passes CX X E)
  (ha:PA X (e::es) t) (hdb:(x == ("__debug__":Str))=false:=by decide) (he:om (e::es) X.env=(false,eval e X.env)::om es X.env:=by rfl) (hpl:(backTo pos (om es X.env)).any (·.1)=false:=by rfl) :
  PE X (.Call (.Name x p) (e::es) [] pos) (Oa C sp dvs E t):=by
 intro pins s σ H Q I h;refine Vf (eN I hg hm ?_ hdb);refine VX (h₀:=X.base) I.ok.mod.kin M.kp (thn (ha pos pins s σ H _ I h) λus s1 ⟨vs,H1,I1,r,q⟩=>⟨I1.kIn,?_⟩) he hpl
 exact Dy M F hr hb hd hx I1 r q
theorem JK (M:Mk X.K C f)(F:FnOk X.prog X.w X.K X.mg X.base CX k f fd ps sp)(hr:Room (k+1) X.A)(hg:Gl X x)(hm:X.mg x=some (.ref C))(hb:Binds X.K fd ps ds)(hd:Vals dvs ds)(hx:Passes CX X E)
  (hdb:(x == ("__debug__":Str))=false:=by decide):PE X (.Call (.Name x p) [] [] pos) (Oa C sp dvs E Dx):=by
 intro pins s σ H Q I h;refine Vf (eN I hg hm ?_ hdb);exact Wu I.kIn M.kp (Dy (us:=[]) M F hr hb hd hx I .nil h)
end
section
variable{X:Cx}{CX:CXT}{k:Nat}{f C:Addr}{fd:gn}{ps ks:List Str}{sp:Sp}{E:XK}{x m:Str}{p pos apos UO:Pos}{e o:Expr}{es:List Expr}{kws:List Keyword}{te ta:TE}{t tk:TA}{nm:Option Str}
structure TB (K:ba)(fd:gn)(ps ks:List Str)(g:List Value->List Value->List Value)(gV:List V->List V->List V):Prop where
 to:∀(s:Shared) (us ws:List Value),K.In s.heap->(g us ws).length=ps.length->BindsTo s fd ⟨us,ks.zip ws⟩ (ps.zip (g us ws))
 rel:∀ {vs:List V} {us:List Value} {zs:List V} {ws:List Value},Vals vs us->Vals zs ws->Vals (gV vs zs) (g us ws)
variable{g:List Value->List Value->List Value}{gV:List V->List V->List V}
end
structure ay (N P:List Str)(sc:Scope):Prop where
 kind:sc.kind=.function
 co:sc.isCoroutine=false
 gen:sc.isGenerator=false
 nd:N.Nodup
 pre:N.take P.length=P
 par:∀x∈P,sc.names.lookup x=some .local\/sc.names.lookup x=some .cell
 OT:∀y∈sc.names,y.2≠.free
theorem AU {kindOf:Str->Option NameKind}{x:Str}:∀ {binds:List (Str×Value)} {m:Str->Option Value},(∀v,(x,v)∉binds)->bindL kindOf binds m x=m x
 |[],_,_=>rfl
 | (n,v)::r,m,h=>by
  unfold bindL;rw[AU λw hw=>h w (kr _ hw)]
  split
  ·have:x≠n:=by rintro rfl;exact h v kb
   simp[this]
  ·rfl
theorem AV {kindOf:Str->Option NameKind}{x:Str}:∀ {binds:List (Str×Value)} {m:Str->Option Value},(∀v,(x,v)∉binds)->bindC kindOf binds m x=m x
 |[],_,_=>rfl
 | (n,v)::r,m,h=>by
  unfold bindC;rw[AV λw hw=>h w (kr _ hw)]
  split
  ·rfl
  ·have:x≠n:=by rintro rfl;exact h v kb
   simp[this]
theorem AW {kindOf:Str->Option NameKind}{x:Str}{v:Value}:∀ {P:List Str} {vs:List Value} {i:Nat} {m:Str->Option Value},P.Nodup->P[i]?=some x->vs[i]?=some v->kindOf x=some .local ->
  bindL kindOf (P.zip vs) m x=some v
 |[],_,_,_,_,h,_,_=>by simp at h
 |_::_,[],_,_,_,_,h,_=>by simp at h
 |p::P,w::vs,0,m,nd,h1,h2,hk=>by
  simp at h1 h2;subst h1;subst h2;show bindL kindOf ((p,w)::P.zip vs) m p=_;unfold bindL;rw[AU λv hv=>(List.nodup_cons.mp nd).1 (List.of_mem_zip hv).1,if_pos hk]
  simp
 |p::P,w::vs,i+1,m,nd,h1,h2,hk=>by
  show bindL kindOf ((p,w)::P.zip vs) m x=_;unfold bindL;exact AW (i:=i) (List.nodup_cons.mp nd).2 (by simpa using h1) (by simpa using h2) hk
theorem AX {kindOf:Str->Option NameKind}{x:Str}{v:Value}:∀ {P:List Str} {vs:List Value} {i:Nat} {m:Str->Option Value},P.Nodup->P[i]?=some x->vs[i]?=some v->kindOf x≠some .local ->
  bindC kindOf (P.zip vs) m x=some v
 |[],_,_,_,_,h,_,_=>by simp at h
 |_::_,[],_,_,_,_,h,_=>by simp at h
 |p::P,w::vs,0,m,nd,h1,h2,hk=>by
  simp at h1 h2;subst h1;subst h2;show bindC kindOf ((p,w)::P.zip vs) m p=_;unfold bindC;rw[AV λv hv=>(List.nodup_cons.mp nd).1 (List.of_mem_zip hv).1,if_neg hk]
  simp
 |p::P,w::vs,i+1,m,nd,h1,h2,hk=>by
  show bindC kindOf ((p,w)::P.zip vs) m x=_;unfold bindC;exact AX (i:=i) (List.nodup_cons.mp nd).2 (by simpa using h1) (by simpa using h2) hk
def start (N:List Str)(vs:List V):St:=vs.map some++Vt (N.length - vs.length) none
def bh (CX:CXT)(P:ko)(w:World)(K:ba)(mg:Str->Option Value)(base:Heap)(N:List Str)(qual:Str)(scope:Scope)(f:Addr)(cd:Value)(A:Around)(outer:List Env)(s:Shared)(H:Hp)(E:XK):Cx where
 prog:=P
 w:=w
 K:=K
 mg:=mg
 base:=base
 A:=A.deeper (envOfC qual scope s.heap.objs.size f cd)
 N:=N
 s₀:=s
 H₀:=H
 env:=envOfC qual scope s.heap.objs.size f cd
 outer:=outer
 stack:=envOfC qual scope s.heap.objs.size f cd::outer
 ex:=[]
 calm:=true
 fn:=λ_=>true
 pn:=[]
 xe:=λe s'=>wpAny (model P w) (A.deeper (envOfC qual scope s.heap.objs.size f cd)) (leaving (envOfC qual scope s.heap.objs.size f cd) e) (λ_ s''=>CX outer H s E e s'') (λe' s''=>CX outer H s E e' s'') s'
theorem Dz {sc:Scope}{n:Nat}{x:Str}(h:sc.names.lookup x=some .cell):∃c,(cellsFrom n sc.names []).lookup x=some c:=by
 have q:=PySem.W.cellsFrom_some sc.names n [] (.inl h);exact Option.isSome_iff_exists.mp q
theorem AY {CX:CXT}{P:ko}{w:World}{K:ba}{mg:Str->Option Value}{base:Heap}{N ps:List Str}{qual:Str}{scope:Scope}{f:Addr}{cd:Value}{A:Around}{outer:List Env}{s s1:Shared}{H:Hp}{E:XK}{us:List Value}{vs:List V}
  (S:ay N ps scope) (hd:A.handled=none) (e0:sP P w K mg base A outer s H) (hl:vs.length=ps.length) (r:Vals vs us)
  (x:InCallC s s.heap.objs.size (bindL (envOfC qual scope s.heap.objs.size f cd).kindOf (ps.zip us) λ_=>none) (cellsFrom (s.heap.objs.size+1) scope.names []) (bindC (envOfC qual scope s.heap.objs.size f cd).kindOf (ps.zip us) λ_=>none) s1) :
  Inv (bh CX P w K mg base N qual scope f cd A outer s H E) [] (start N vs) H s1:=by
 have hpl:ps.length<=N.length:=by have:=congrArg List.length S.pre;rw[Vy]at this;omega
 obtain⟨h1,tk,rfl,hk⟩:=x.done;have noA:∀b:Addr,b∉(bh CX P w K mg base N qual scope f cd A outer s H E).ex:=λb z=>absurd (show b∈([]:List Addr) from z) (by simp)
 refine⟨⟨e0.mod,S.kind,rfl,rfl,kg _,λy z c h1 h2=>?_,λy hy=>?_,λy c _ h=>?_,λ_=>hd,Around.frames_deeper e0.frames,.inr ⟨rfl,rfl⟩,λb z=>absurd z (noA b),e0.bs,e0.bsz,λb _ _=>noA b,λb z=>absurd z (noA b),e0.jJ,e0.frf⟩,
  rfl,e0.bare,Un.kept hk,⟨_,x.toInCall.ns,λi y v h1 h2 h3=>?_⟩,λy c h=>⟨_,x.cell y c h⟩,e0.hok.fresh (kg _),λy c h=>?_,λp hp=>absurd (show p∈([]:List (Addr×Obj)) from hp) (by simp),e0.hok.kept hk,?_⟩
 ·exact name_of_addr x.apart (VV h1) (VV h2)
 ·have hy:scope.names.lookup y=some .cell\/scope.names.lookup y=some .free:=hy;rcases hy with hy | hy
  ·exact Dz hy
  ·exact absurd rfl (S.OT _ (VV hy))
 ·exact Nat.le_of_lt (x.above y c (VV h))
 ·have hi:i < vs.length:=by
   unfold start at h2
   by_cases hi:i < vs.length
   ·exact hi
   ·rw[Vb (by simpa using hi)]at h2
    rw[List.getElem?_replicate]at h2;split at h2 <;> cases h2
  have ha:vs[i]?=some v:=by
   unfold start at h2;rw[Vo (by simpa using hi),U5]at h2
   cases e:vs[i]? with
   |none=>rw[e]at h2;cases h2
   |some a=>rw[e]at h2;cases h2;rfl
  obtain⟨u,hu,rv⟩:=r.get ha;have hp:ps[i]?=some y:=by
   rw[<-S.pre,List.getElem?_take_of_lt (by omega)];exact h1
  have ndP:ps.Nodup:=by rw[<-S.pre];exact S.nd.sublist (List.take_sublist _ _)
  refine⟨u,rv,?_⟩;rcases S.par y (ma hp) with k | k
  ·exact .inl ⟨k,AW ndP hp hu k⟩
  ·obtain⟨c,e⟩:=Dz (n:=s.heap.objs.size+1) k;refine .inr ⟨.inl k,c,e,?_⟩;have q:=x.cell y c e;rw[AX ndP hp hu (by show scope.names.lookup y≠_;rw[k];decide)]at q
   exact q
 ·exact e0.hok.fresh (Nat.le_of_lt (x.above y c (VV h)))
 ·unfold start;show _=N.length;rw[km,da,VE];omega
theorem JL {CX:CXT}{P:ko}{w:World}{K:ba}{mg:Str->Option Value}{base:Heap}{k:Nat}{f:Addr}{name qual:Str}{params:Arguments}{body:List Stmt}{scope:Scope}{dV kV doc pm cdv ct oc:Value}{an od:Option Addr}
  {osl:Array (Option Value)} {N ps:List Str} {sp:Sp} (lk:K.lookup f=some ⟨oc,od,.func (PySem.W.fnOf name qual params body scope dV kV doc pm an cdv ct),osl⟩) (hcd:PySem.W.codeIn K cdv qual=true) (S:ay N ps scope)
  (len:∀vs H Q E,sp vs H Q E->vs.length=ps.length)
  (sQ:∀(A:Around) (outer:List Env) (s:Shared) (H:Hp) (vs:List V) (Q:VK) (E:XK),Room k (A.deeper (envOfC qual scope s.heap.objs.size f cdv))->sp vs H Q E ->
   ∃t,PSs (bh CX P w K mg base N qual scope f cdv A outer s H E) body t/\t { nx:=λ_ H'=>Q .non H',rt:=Q } (start N vs) H) :
  FnOk P w K mg base CX (k+1) f (PySem.W.fnOf name qual params body scope dV kV doc pm an cdv ct) ps sp:=by
 refine⟨len,λA outer s H args us vs Q E hr e0 hb r hsp=>?_⟩
 have hl:=len _ _ _ _ hsp;have KX:K.In s.heap:=e0.mod.kin.keeps λb o e=>(e0.bs b o e).1
 have lim:s.heap.NoLimit:=e0.mod.nolimit.keeps λb o e=>(e0.bs b o e).1
 have JM:∀y∈ps.zip us,scope.names.lookup y.1=some .local\/(scope.names.lookup y.1=some .cell/\((cellsFrom (s.heap.objs.size+1) scope.names []).lookup y.1).isSome=true):=λ⟨n,v⟩ hy=>by
  rcases S.par n (List.of_mem_zip hy).1 with q | q
  ·exact .inl q
  ·exact .inr ⟨q,PySem.W.cellsFrom_some _ _ _ (.inl q)⟩
 refine codeAny_call_function hr.depth (KX _ _ lk) rfl S.co S.gen rfl (PySem.W.codeRec_of KX hcd) (hb _ _ _ _ ?_);refine wpAny_newFunctionEnv_cells S.kind JM λenv he s1 x=>?_
 subst he;refine⟨lim.keeps x.toInCall.keep,codeAny_func ?_⟩;obtain⟨t,ht,hq⟩:=sQ A outer s H vs Q E (hr.deeper _) hsp;have I:Inv (bh CX P w K mg base N qual scope f cdv A outer s H E) [] (start N vs) H s1:=AY S hr.hd e0 hl r x;refine ki (ht [] s1 (start N vs) H _ I hq) (λfl s' hs=>?_) λe s' hs=>hs
 have fin:∀ {σ':St} {H':Hp} {v:V} {u:Value},Inv (bh CX P w K mg base N qual scope f cdv A outer s H E) [] σ' H' s'->RelV v u->Q v H'->CE outer P w H s Q u s' :=
  λ{σ' H' v u} J rv q=>⟨v,H',J.os,J.bare,J.base,J.hok,rv,q⟩
 cases fl with
 |ret u =>
  obtain⟨v,σ',H',J,rv,q⟩:=hs;exact fin J rv q
 |next =>
  obtain⟨σ',H',J,q⟩:=hs;exact fin (v:=V.non) (u:=Vx) J rfl q
 |brk =>
  obtain⟨_,_,_,q⟩:=hs;exact wa q
 |cont =>
  obtain⟨_,_,_,q⟩:=hs;exact wa q
section
variable{X:Cx}{x:Str}{p pos:Pos}{e:Expr}{es:List Expr}{t:TA}{id T:String}{r:List V->Hp->VK->Prop}
def tCB (r:List V->Hp->VK->Prop)(t:TA):TE:=λσ H Q=>t σ H λvs H1=>r vs H1 Q
theorem bB (hc:eh X (.builtin id) r)(hg:Gl X x)(hm:X.mg x=none)(hv:Vr x=some (.builtin id))(ha:PA X (e::es) t)(hn:x≠"__name__":=by decide)(hdb:(x == ("__debug__":Str))=false:=by decide)
  (he:om (e::es) X.env=(false,eval e X.env)::om es X.env:=by rfl) (hpl:(backTo pos (om es X.env)).any (·.1)=false:=by rfl):PE X (.Call (.Name x p) (e::es) [] pos) (tCB r t):=by
 intro pins s σ H Q I h;refine Vf (BD I hg hm hv ?_ hn hdb);exact PyProof.Rows.callWith_builtin1 (thn (ha pos pins s σ H _ I h) λus s1 ⟨vs,H1,I1,r1,q1⟩=>hc pins s1 σ H1 vs us Q I1 r1 q1) he hpl
theorem dS (hc:eh X (.type T) r)(hg:Gl X x)(hm:X.mg x=none)(hv:Vr x=some (.type T))(ha:PA X (e::es) t)(hn:x≠"__name__":=by decide)(hdb:(x == ("__debug__":Str))=false:=by decide)
  (he:om (e::es) X.env=(false,eval e X.env)::om es X.env:=by rfl) (hpl:(backTo pos (om es X.env)).any (·.1)=false:=by rfl):PE X (.Call (.Name x p) (e::es) [] pos) (tCB r t):=by
 intro pins s σ H Q I h;refine Vf (BD I hg hm hv ?_ hn hdb);exact PyProof.Rows.callWith_type1 (thn (ha pos pins s σ H _ I h) λus s1 ⟨vs,H1,I1,r1,q1⟩=>hc pins s1 σ H1 vs us Q I1 r1 q1) he hpl
end
end L2
namespace HT
open PySem PyProof.Rows
section
open PySem.SeqAt
open PySem.AutoSeq1 (wpAny_loadPart')
open PySem.MeetsSeq PySem.MeetsSeq2 PySem.MeetsSeq3
end
section
variable{prog:ko}{w:World}{A:Around}{E:Value->Shared->Prop}{s:Shared}
def sIx (n d:Nat):Option Int->Nat
 |none=>d
 |some v=>if v < 0 then (v+(n:Int)).toNat else min v.toNat n
theorem JN (n d:Nat):sIx n d none=d:=rfl
theorem xQ (n d k:Nat):sIx n d (some (k:Int))=min k n:=by
 show (if (k:Int) < 0 then ((k:Int)+(n:Int)).toNat else min (k:Int).toNat n)=min k n
 rw[if_neg (by omega),Int.toNat_natCast]
theorem OU (n d:Nat)(hd:d<=n)(o:Option Int):sIx n d o<=n:=by
 cases o with
 |none=>exact hd
 |some v =>
  show (if v < 0 then (v+(n:Int)).toNat else min v.toNat n)<=n
  by_cases hv:v < 0
  ·rw[if_pos hv];omega
  ·rw[if_neg hv];exact Nat.min_le_right _ _
theorem GQ (v:Int)(n d:Nat):(if v < 0 then max (v+(n:Int)) 0 else min v (n:Int))=((sIx n d (some v):Nat):Int):=by
 show (if v < 0 then max (v+(n:Int)) 0 else min v (n:Int))=(((if v < 0 then (v+(n:Int)).toNat else min v.toNat n):Nat):Int)
 by_cases hv:v < 0
 ·simp only[if_pos hv];omega
 ·simp only[if_neg hv];omega
theorem Fz (lo hi:Option Int)(n:Nat):Builtin.Slice.sliceAdjust lo hi 1 (n:Int)=(((sIx n 0 lo:Nat):Int),((sIx n n hi:Nat):Int)):=by
 have h1:¬((1:Int) < 0):=by omega
 unfold Builtin.Slice.sliceAdjust;simp only[h1,if_false];refine Prod.ext ?_ ?_
 ·cases lo with
  |none=>rfl
  |some v=>exact GQ v n 0
 ·cases hi with
  |none=>rfl
  |some v=>exact GQ v n n
theorem FA (i j:Nat):Wf (i:Int) (j:Int) 1=j - i:=by
 unfold Wf;have h1:(1:Int) > 0:=by omega
 simp only[h1,if_true,Int.ediv_one];split <;> omega
theorem yf {v:Value}{o:Option Int}{Q:Option Int->Shared->Prop}(p:IsPart v o)(h:Q o s):wpAny (model prog w) A (Builtin.Slice.slicePartIndex v) Q E s:=by
 cases p with
 |none=>exact slicePart_none h
 |int i t=>exact slicePart_int h
theorem uE {sl:Addr}{vl vu:Value}{lo hi:Option Int}{n:Nat}{Q:Int×Int×Nat->Shared->Prop}(hs:s.heap.IsSliceOf sl vl vu .none)(pl:IsPart vl lo)(pu:IsPart vu hi)
  (h:Q (((sIx n 0 lo:Nat):Int),1,sIx n n hi - sIx n 0 lo) s):wpAny (model prog w) A (Builtin.Slice.sliceApplied (.ref sl) (pure (n:Int))) Q E s:=by
 obtain⟨os,hos,hcs,hds⟩:=id hs;unfold Builtin.Slice.sliceApplied Builtin.Slice.sliceFields;refine cb (cb (Vw hos hds (x:=vl) rfl (cb (Vw hos hds (x:=vu) rfl (cb (Vw hos hds (x:=.none) rfl (ka ?_)))))));refine cb (slicePart_none ?_);show wpAny _ _ (if ((1:Int) == 0)=true then _ else _) _ _ s
 rw[if_neg (by decide)]
 refine cb (yf pl (cb (yf pu (cb (ka ?_)))));show wpAny _ _ (match Builtin.Slice.sliceAdjust lo hi 1 (n:Int) with | (lo,hi)=>pure (lo,(1:Int),Wf lo hi 1)) _ _ s
 rw[Fz lo hi n];show wpAny _ _ (pure (((sIx n 0 lo:Nat):Int),(1:Int),Wf ((sIx n 0 lo:Nat):Int) ((sIx n n hi:Nat):Int) 1)) _ _ s;rw[FA];exact ka h
theorem JO (xs:Array Value)(i k:Nat):((Wy k).filterMap λ(m:Nat)=>xs[((i:Int)+(m:Int) * 1).toNat]?).toArray=((xs.toList.drop i).take k).toArray:=by
 have e:(λ(m:Nat)=>xs[((i:Int)+(m:Int) * 1).toNat]?)=λm=>xs[i+m]?:=by
  funext m
  have:((i:Int)+(m:Int) * 1).toNat=i+m:=by omega
  rw[this]
 rw[e];have:=pick_run xs i k;rw[List.filterMap_map]at this;have e2:((λx=>xs[x]?)∘λx=>i+x)=λm=>xs[i+m]?:=rfl
 rw[e2]at this;rw[this]
theorem sS {t sl:Addr}{items:Array Value}{vl vu:Value}{lo hi:Option Int}{Q:Value->Shared->Prop}(ht:IsTup s.heap t items)(hs:s.heap.IsSliceOf sl vl vu .none)(pl:IsPart vl lo)(pu:IsPart vu hi)
  (hw:¬(sIx items.size 0 lo=0/\sIx items.size items.size hi=items.size))
  (h:Q (.ref s.heap.objs.size) { s with heap:=s.heap.push { cls:=.type "tuple",data:=.seq ((items.toList.drop (sIx items.size 0 lo)).take (sIx items.size items.size hi - sIx items.size 0 lo)).toArray } })
  (hsz:items.size<=de):wpAny (model prog w) A (getItem (.ref t) (.ref sl)) Q E s:=by
 have GR:sizeOk (.seq ((items.toList.drop (sIx items.size 0 lo)).take (sIx items.size items.size hi - sIx items.size 0 lo)).toArray):=by
  show ((items.toList.drop (sIx items.size 0 lo)).take (sIx items.size items.size hi - sIx items.size 0 lo)).toArray.size<=de;rw[tu,Vy,Ww,Array.length_toList];omega
 have hj:sIx items.size items.size hi<=items.size:=OU _ _ (kg _) hi;obtain⟨os,hos,hcs,hds⟩:=id hs;have hTs:s.TypeIs (.ref sl) "slice":=⟨os,hos,hcs⟩;unfold getItem
 try with_reducible refine Vd ?_
 first | refine cb (ka ?_) | skip
 refine cb (wpAny_sequenceKey ht.typeIs (by decide) ?_)
 refine cb (wpAny_callSpecial?_slot (name:=ar "__getitem__") ht.typeIs PyProof.Rows.slot_tuple_getitem
  (wpAny_call_entry PyProof.Rows.slot_tuple_getitem ht.typeIs entry_tuple_getitem ?_ (args_tuple_getitem _ _)))
 show wpAny _ _ (Builtin.Tuple.tupleItemsOf (.ref t) >>= _) _ _ s;refine cb (tupleItemsOf_ ht ?_);refine cb (wpAny_typeOf hTs ?_);rw[if_pos (by decide)]
 refine cb (uE hs pl pu ?_);have hno:¬((((sIx items.size 0 lo:Nat):Int) == 0 && (1:Int) == 1 && (sIx items.size items.size hi - sIx items.size 0 lo) == items.size)=true):=by
  intro q;rw[gc,gc]at q;have q1:((sIx items.size 0 lo:Nat):Int)=0:=eq_of_beq q.1.1;have q2:sIx items.size items.size hi - sIx items.size 0 lo=items.size:=eq_of_beq q.2;exact hw ⟨by omega,by omega⟩
 show wpAny _ _ (if (((sIx items.size 0 lo:Nat):Int) == 0 && (1:Int) == 1 && (sIx items.size items.size hi - sIx items.size 0 lo) == items.size)=true then _ else _) _ _ s
 rw[if_neg hno,JO]
 first
  |exact cb (m:=Wo _) (wpAny_newObj_type (ka ⟨_,rfl,ka h⟩) GR)
  |exact cb (m:=Wo _) (wpAny_newObj_type (cb (ka (ka ⟨_,rfl,ka h⟩))) GR)
  |exact cb (cb (m:=Wo _) (wpAny_newObj_type (ka (ka ⟨_,rfl,ka h⟩)) GR))
  |exact cb (cb (m:=Wo _) (wpAny_newObj_type (ka ⟨_,rfl,ka h⟩) GR))
end
end HT
namespace L2
open PySem PySem.Spec PyProof.Rows
abbrev TO:=St->Hp->(Option Int->Hp->Prop)->Prop
def PO (X:Cx)(e:Option Expr)(t:TO):Prop :=
 ∀(pins:List (Addr×Obj)) (s:Shared) (σ:St) (H:Hp) (Q:Option Int->Hp->Prop),Inv X pins σ H s->t σ H Q ->
  wpAny (model X.prog X.w) X.A (evalPart e X.env) (λu s'=>∃o H',Inv X pins σ H' s'/\IsPart u o/\Q o H') X.xe s
def MB:TO:=λ_ H Q=>Q none H
def Rg (t:TE):TO:=λσ H Q=>t σ H λx H1=>∃i,x=.int i/\Q (some i) H1
section
variable{X:Cx}{e:Expr}{te:TE}{lo hi:Option Expr}{tl th:TO}{pos p2:Pos}
theorem pL:PO X none MB:=by
 intro pins s σ H Q I h;rw[evalPart_none];exact ka ⟨none,H,I,.none,h⟩
theorem jM (h:PE X e te):PO X (some e) (Rg te):=by
 intro pins s σ H Q I hw;rw[evalPart_some];refine thn (h pins s σ H _ I hw) λu s1 ⟨x,H1,I1,r1,q1⟩=>?_
 obtain⟨i,rfl,q⟩:=q1;obtain⟨t,rfl⟩:=r1;exact⟨some i,H1,I1,.int i t,q⟩
def SlR (X:Cx)(r:V->Option Int->Option Int->Hp->VK->Prop):Prop :=
 ∀(pins:List (Addr×Obj)) (s:Shared) (σ:St) (H:Hp) (x:V) (v vl vu:Value) (lo hi:Option Int) (sl:Addr) (Q:VK),Inv X pins σ H s->RelV x v->s.heap.IsSliceOf sl vl vu .none->IsPart vl lo->IsPart vu hi->r x lo hi H Q ->
  ∃T id,typeLookup (.type T) "__getitem__"=pure (some (.builtin id))/\s.TypeIs v T/\wpAny (model X.prog X.w) X.A (getItem v (.ref sl)) (EP X pins σ Q) X.xe s
theorem SlR.or {r r':V->Option Int->Option Int->Hp->VK->Prop}(h:SlR X r)(h':SlR X r'):SlR X (λx lo hi H Q=>r x lo hi H Q\/r' x lo hi H Q):=by
 intro pins s σ H x v vl vu lo hi sl Q I rx hs pl pu q;rcases q with q | q
 ·exact h pins s σ H x v vl vu lo hi sl Q I rx hs pl pu q
 ·exact h' pins s σ H x v vl vu lo hi sl Q I rx hs pl pu q
def tSl (r:V->Option Int->Option Int->Hp->VK->Prop)(te:TE)(tl th:TO):TE:=λσ H Q=>te σ H λx H1=>tl σ H1 λl H2=>th σ H2 λu H3=>r x l u H3 Q
theorem jd {r:V->Option Int->Option Int->Hp->VK->Prop}(hr:SlR X r)(he:PE X e te)(hl:PO X lo tl)(hu:PO X hi th):PE X (.Subscript e (.Slice lo hi none p2) pos) (tSl r te tl th):=by
 intro pins s σ H Q I h;refine Subscript_ (thn (he pins s σ H _ I h) λv s1 ⟨x,H1,I1,r1,q1⟩=>?_)
 refine wpAny_Slice (thn (hl pins s1 σ H1 _ I1 q1) λvl s2 ⟨l,H2,I2,pl,q2⟩=>thn (hu pins s2 σ H2 _ I2 q2) λvu s3 ⟨u,H3,I3,pu,q3⟩=>?_)
 rw[evalPart_none];refine ka ?_;have I4:Inv X pins σ H3 { s3 with heap:=s3.heap.push { cls:=.type "slice",data:=.fields #[vl,vu,.none] } }:=I3.kept (t':=s3.toks) λb ob q=>fu _ q
 obtain⟨T,id,hT,ht,hg⟩:=hr pins { s3 with heap:=s3.heap.push { cls:=.type "slice",data:=.fields #[vl,vu,.none] } } σ H3 x v vl vu l u s3.heap.objs.size Q I4 r1 (Heap.IsSliceOf.new ..) pl pu q3
 show wpAny (model X.prog X.w) X.A (subscriptTail e (.Slice lo hi none p2) v (.ref s3.heap.objs.size)) (EP X pins σ Q) X.xe { s3 with heap:=s3.heap.push { cls:=.type "slice",data:=.fields #[vl,vu,.none] } }
 exact tail_any (ops:=[.ref s3.heap.objs.size,v]) ht hT hg (by with_unfolding_all rfl)
def kh (xs:List V)(lo hi:Option Int):List V:=(xs.drop (HT.sIx xs.length 0 lo)).take (HT.sIx xs.length xs.length hi - HT.sIx xs.length 0 lo)
theorem vO (xs:List V)(lo hi:Option Int):(kh xs lo hi).length<=xs.length:=by
 unfold kh;rw[Vy,Ww];omega
def TC (K:ba):V->Option Int->Option Int->Hp->VK->Prop:=λx lo hi H Q=>∃a xs,x=.ref a/\SqT K H a xs /\
 ¬(HT.sIx xs.length 0 lo=0/\HT.sIx xs.length xs.length hi=xs.length)/\∀p,H p=none->Q (.ref p) (upd H p (.tup (kh xs lo hi)))
theorem OV:SlR X (TC X.K):=by
 intro pins s σ H x v vl vu lo hi sl Q I rx hs pl pu h;obtain⟨a,xs,rfl,hx,hw,q⟩:=h;cases rx;obtain⟨its,r,ht,hz⟩:=I.tuple hx;have hlen:its.toArray.size=xs.length:=by rw[tu];exact r.length.symm
 refine⟨"tuple",_,PyProof.Rows.slot_tuple_getitem.lookup,ht.typeIs,?_⟩;refine HT.sS ht hs pl pu (by rw[hlen];exact hw) ?_ (by rw[hlen];exact hz)
 rw[hlen];refine⟨.ref s.heap.objs.size,_,I.laid (t':=s.toks) (o:=.tup (kh xs lo hi)) (λb ob q=>fu _ q) (kg _) ?_,rfl,q _ (I.hok.fresh (kg _))⟩
 exact⟨ku (vO xs lo hi) hz,_,(r.drop (HT.sIx xs.length 0 lo)).take (HT.sIx xs.length xs.length hi - HT.sIx xs.length 0 lo),IsTup.new _ _⟩
end
def ixN (n:Nat)(i:Int):Option Nat:=if 0<=i then (if i < n then some i.toNat else none) else if -(n:Int)<=i then some (i+n).toNat else none
def atI {α:Type}(xs:List α)(i:Int):Option α:=(ixN xs.length i).bind λj=>xs[j]?
theorem MC {n:Nat}{i:Int}{j:Nat}(h:ixN n i=some j):seqIndex? i n=some j/\j < n/\-(n:Int)<=i/\i < n:=by
 unfold ixN at h
 by_cases h0:0<=i
 ·rw[if_pos h0]at h
  by_cases h1:i < n
  ·rw[if_pos h1]at h;have e:i.toNat=j:=ra h;exact⟨by rw[seqIndex_of h0 h1,e],by omega,by omega,h1⟩
  ·rw[if_neg h1]at h;cases h
 ·rw[if_neg h0]at h
  by_cases h1:-(n:Int)<=i
  ·rw[if_pos h1]at h;have e:(i+n).toNat=j:=ra h;exact⟨by rw[seqIndex_neg (by omega) h1,e],by omega,h1,by omega⟩
  ·rw[if_neg h1]at h;cases h
theorem BI {α:Type}{xs:List α}{i:Int}{v:α}(h:atI xs i=some v):∃j,seqIndex? i xs.length=some j/\xs[j]?=some v/\j < xs.length/\-(xs.length:Int)<=i/\i < xs.length:=by
 unfold atI at h;cases e:ixN xs.length i with
 |none=>rw[e]at h;cases h
 |some j =>
  rw[e]at h;obtain⟨h1,h2,h3,h4⟩:=MC e;exact⟨j,h1,h,h2,h3,h4⟩
theorem fG {α:Type}{xs:List α}{j:Nat}{v:α}(h:xs[j]?=some v):atI xs (j:Int)=some v:=by
 have hj:j < xs.length:=(List.getElem?_eq_some_iff.mp h).1;have e:ixN xs.length (j:Int)=some j:=by
  unfold ixN;rw[if_pos (by omega),if_pos (by omega)];simp
 unfold atI;rw[e];exact h
theorem yg {α:Type}(xs:List α)(v:α):atI (xs++[v]) (-1)=some v:=by
 have hl:(xs++[v]).length=xs.length+1:=by simp
 have e:ixN (xs++[v]).length (-1)=some xs.length:=by
  unfold ixN;rw[hl,if_neg (by decide),if_pos (by omega)]
  congr 1
  omega
 unfold atI;rw[e];show (xs++[v])[xs.length]?=some v;simp
def MD (b:Expr):Prop:=∀o i,subscripted b false o i=operate [o,i] (getItem o i)
def IxR (X:Cx)(r:R2):Prop :=
 ∀(value slice:Expr) (pins:List (Addr×Obj)) (s:Shared) (σ:St) (H:Hp) (x y:V) (v u:Value) (Q:VK),Inv X pins σ H s->RelV x v->RelV y u->r x y H Q ->
  subscripted slice false v u=operate [v,u] (getItem v u)->wpAny (model X.prog X.w) X.A (subscriptTail value slice v u) (EP X pins σ Q) X.xe s
def MtR (X:Cx)(id:String)(r:V->List V->Hp->VK->Prop):Prop :=
 ∀(pins:List (Addr×Obj)) (s:Shared) (σ:St) (H:Hp) (x:V) (xs:List V) (v:Value) (us:List Value) (Q:VK),Inv X pins σ H s->RelV x v->Vals xs us->r x xs H Q ->
  wpAny (model X.prog X.w) X.A (call (.builtin id) (v::us)) (EP X pins σ Q) X.xe s
section
variable{X:Cx}{a b:Expr}{ta tb:TE}{pos:Pos}
theorem IxR.or {r r':R2}(h:IxR X r)(h':IxR X r'):IxR X (λx y H Q=>r x y H Q\/r' x y H Q):=by
 intro value slice pins s σ H x y v u Q I rx ry q hs;rcases q with q | q
 ·exact h value slice pins s σ H x y v u Q I rx ry q hs
 ·exact h' value slice pins s σ H x y v u Q I rx ry q hs
theorem MtR.or {id:String}{r r':V->List V->Hp->VK->Prop}(h:MtR X id r)(h':MtR X id r'):MtR X id (λx xs H Q=>r x xs H Q\/r' x xs H Q):=by
 intro pins s σ H x xs v us Q I rx rs q;rcases q with q | q
 ·exact h pins s σ H x xs v us Q I rx rs q
 ·exact h' pins s σ H x xs v us Q I rx rs q
theorem aY {r:R2}(hr:IxR X r)(ha:PE X a ta)(hb:PE X b tb)(hs:MD b):PE X (.Subscript a b pos) (tOp r ta tb):=by
 intro pins s σ H Q I h;exact Subscript_ (ON ha hb I h λv u s2 x y H2 I2 rx ry q=>hr a b pins s2 σ H2 x y v u Q I2 rx ry q (hs _ _))
def OW (K:ba):R2:=λx y H Q=>∃p xs i v,x=.ref p/\y=.int i/\SqL K H p xs/\atI xs i=some v/\Q v H
def Rh (K:ba):R2:=λx y H Q=>∃p xs i v,x=.ref p/\y=.int i/\SqT K H p xs/\atI xs i=some v/\Q v H
def TF:R2:=λx y H Q=>∃z i c,x=.str z/\y=.int i/\z.length<=de/\atI z.cps.toList i=some c/\Q (.str ⟨#[c]⟩) H
theorem bz:IxR X (OW X.K):=by
 intro value slice pins s σ H x y v u Q I rx ry h hs;obtain⟨p,xs,i,z,rfl,rfl,hq,he,q⟩:=h;cases rx;obtain⟨t,rfl⟩:=ry;obtain⟨its,r,pl,hz⟩:=I.list hq;obtain⟨j,h1,h2,h3,h4,h5⟩:=BI he;obtain⟨w,ew,rw'⟩:=r.get h2;have hl:=r.length;have hn:=uB;have fin:EP X pins σ Q w s:=⟨z,H,I,rw',q⟩
 by_cases h0:0<=i
 ·have hj:i.toNat=j:=by
   rw[seqIndex_of h0 h5]at h1;exact ra h1
  exact item_listR pl.isList h0 (by omega) (by rw[hj];simpa using ew) fin hs
 ·have hj:(i+(its.toArray.size:Int)).toNat=j:=by
   rw[seqIndex_neg (by omega) h4]at h1
   rw[tu,<-hl];exact ra h1
  exact subscriptTail_builtinR (x:=w) pl.isList.typeIs slot_list_getitem.lookup
   (wpAny_getItem_list_neg (Q:=λr s'=>r=w/\EP X pins σ Q r s') pl.isList (by omega) (by rw[tu] <;> omega) (by omega) (by rw[hj];simpa using ew) ⟨rfl,fin⟩) hs
theorem bp:IxR X (Rh X.K):=by
 intro value slice pins s σ H x y v u Q I rx ry h hs;obtain⟨p,xs,i,z,rfl,rfl,hq,he,q⟩:=h;cases rx;obtain⟨t,rfl⟩:=ry;obtain⟨its,r,pl,hz⟩:=I.tuple hq;obtain⟨j,h1,h2,h3,h4,h5⟩:=BI he;obtain⟨w,ew,rw'⟩:=r.get h2;have hl:=r.length;have hn:=uB;have fin:EP X pins σ Q w s:=⟨z,H,I,rw',q⟩;exact subscriptTail_builtinR (x:=w) pl.typeIs slot_tuple_getitem.lookup
  (getItem_tuple (j:=j) (Q:=λr s'=>r=w/\EP X pins σ Q r s') pl (by omega) (by omega) (by rw[tu,<-hl];exact h1) (by simpa using ew) ⟨rfl,fin⟩) hs
theorem JP:IxR X TF:=by
 intro value slice pins s σ H x y v u Q I rx ry h hs;obtain⟨z,i,c,rfl,rfl,hz,he,q⟩:=h;obtain⟨t,rfl⟩:=rx;obtain⟨t',rfl⟩:=ry;obtain⟨j,h1,h2,h3,h4,h5⟩:=BI he;have hl:z.cps.toList.length=z.length:=by simp[Str.length]
 rw[hl]at h1 h4 h5;have hn:=uB;exact tail_any (typeIs_str s z t) slot_str_getitem.lookup (getItem_str (c:=c) (by
  have e1:decide (i < -(2 ^ 63:Int))=false:=decide_eq_false (by omega)
  have e2:decide (i≥2 ^ 63)=false:=decide_eq_false (by omega)
  rw[e1,e2,Bool.or_false]) (by rw[h1];simpa using h2) ⟨.str ⟨#[c]⟩,H,I.tok _,⟨_,rfl⟩,q⟩) hs
theorem Inv.lst {pins:List (Addr×Obj)}{σ:St}{H:Hp}{s:Shared}{p:Addr}{xs:List V}(I:Inv X pins σ H s)(h:H p=some (.lst xs)) :
  ∃(its:List Value) (n:Nat),Vals xs its/\s.heap.get? p=some { cls:=.type "list",data:=.seq its.toArray n }/\xs.length<=de:=by
 obtain⟨z,its,n,r,e⟩:=I.hok p _ h;exact⟨its,n,r,e,z⟩
theorem BJ (lo hi:Option Int)(n:Nat):(sliceBounds lo hi none n).1=((HT.sIx n 0 lo:Nat):Int)/\(sliceBounds lo hi none n).2.1=((HT.sIx n n hi:Nat):Int)/\(sliceBounds lo hi none n).2.2=1:=by
 refine⟨?_,?_,rfl⟩
 ·cases lo with
  |none=>simp[sliceBounds,HT.sIx]
  |some i =>
   simp only[sliceBounds,HT.sIx,Option.getD_none,show (1:Int) > 0 by decide,if_true]
   by_cases h:i < 0
   ·simp only[h,if_true] <;> omega
   ·simp only[h,if_false] <;> omega
 ·cases hi with
  |none=>simp[sliceBounds,HT.sIx]
  |some i =>
   simp only[sliceBounds,HT.sIx,Option.getD_none,show (1:Int) > 0 by decide,if_true]
   by_cases h:i < 0
   ·simp only[h,if_true] <;> omega
   ·simp only[h,if_false] <;> omega
theorem Ac (its:List Value)(lo hi:Option Int):slicePick its.toArray lo hi none=((its.drop (HT.sIx its.length 0 lo)).take (HT.sIx its.length its.length hi - HT.sIx its.length 0 lo)).toArray:=by
 obtain⟨h1,h2,h3⟩:=BJ lo hi its.toArray.size;unfold slicePick;rw[h1,h2,h3];simp only[sliceRange_one,pick_run,tu] <;> rfl
def TH (K:ba):V->Option Int->Option Int->Hp->VK->Prop:=λx lo hi H Q=>∃a xs,x=.ref a/\SqL K H a xs/\∀p,H p=none->Q (.ref p) (upd H p (.lst (kh xs lo hi)))
theorem pM:SlR X (TH X.K):=by
 intro pins s σ H x v vl vu lo hi sl Q I rx hs pl pu h;obtain⟨a,xs,rfl,hx,q⟩:=h;cases rx;obtain⟨its,r,ht,hz⟩:=I.list hx;have hlen:=r.length;refine⟨"list",_,slot_list_getitem.lookup,ht.isList.typeIs,?_⟩;refine wpAny_getItem_list_slice ht.isList hs pl pu .none (by simp) ?_ (by rw[tu] <;> omega)
 rw[Ac,<-hlen];refine⟨.ref s.heap.objs.size,_,I.laid (t':=s.toks) (o:=.lst (kh xs lo hi)) (λb ob q=>fu _ q) (kg _) ?_,rfl,q _ (I.hok.fresh (kg _))⟩
 exact⟨ku (vO xs lo hi) hz,_,0,(r.drop (HT.sIx xs.length 0 lo)).take (HT.sIx xs.length xs.length hi - HT.sIx xs.length 0 lo),si _ rfl⟩
def vP:V->Bool
 | .non=>true
 | .bl _=>true
 | .int _=>true
 | .str _=>true
 |_=>false
def eqV:V->V->Bool
 | .non,.non=>true
 | .bl a,.bl b=>a == b
 | .bl a,.int b=>(if a then 1 else 0) == b
 | .int a,.bl b=>a == (if b then 1 else 0)
 | .int a,.int b=>a == b
 | .str a,.str b=>a == b
 |_,_=>false
theorem OX {A:Around}{s:Shared}{y x:V}{u v:Value}(ry:RelV y u)(rx:RelV x v)(fy:vP y=true)(fx:vP x=true):SeqAt.EqAt A s u v (eqV y x):=by
 cases y with
 |non =>
  cases ry;cases x with
  |non=>cases rx;exact SeqAt.EqAt.same _
  |bl b=>cases rx;exact SeqAt.EqAt.none_bool b
  |int b=>obtain⟨t,rfl⟩:=rx;exact SeqAt.EqAt.none_int b t
  |str b=>obtain⟨t,rfl⟩:=rx;exact SeqAt.EqAt.none_str b t
  |_=>exact absurd (show false=true from fx) gr
 |bl a =>
  cases ry;cases x with
  |non=>cases rx;exact SeqAt.EqAt.bool_none a
  |bl b=>cases rx;exact SeqAt.EqAt.bool_bool a b
  |int b=>obtain⟨t,rfl⟩:=rx;exact SeqAt.EqAt.bool_int a b t
  |str b=>obtain⟨t,rfl⟩:=rx;exact SeqAt.EqAt.bool_str a b t
  |_=>exact absurd (show false=true from fx) gr
 |int a =>
  obtain⟨t',rfl⟩:=ry;cases x with
  |non=>cases rx;exact SeqAt.EqAt.int_none a t'
  |bl b=>cases rx;exact SeqAt.EqAt.int_bool a t' b
  |int b=>obtain⟨t,rfl⟩:=rx;exact SeqAt.EqAt.int_int a t' b t
  |str b=>obtain⟨t,rfl⟩:=rx;exact SeqAt.EqAt.int_str a t' b t
  |_=>exact absurd (show false=true from fx) gr
 |str a =>
  obtain⟨t',rfl⟩:=ry;cases x with
  |non=>cases rx;exact SeqAt.EqAt.str_none a t'
  |bl b=>cases rx;exact SeqAt.EqAt.str_bool a t' b
  |int b=>obtain⟨t,rfl⟩:=rx;exact SeqAt.EqAt.str_int a t' b t
  |str b=>obtain⟨t,rfl⟩:=rx;exact SeqAt.EqAt.str_str a t' b t
  |_=>exact absurd (show false=true from fx) gr
 |_=>exact absurd (show false=true from fy) gr
def eqU (x:V)(u:Value):Bool:=match u with
 | .none=>eqV .non x
 | .bool b=>eqV (.bl b) x
 | .int i _=>eqV (.int i) x
 | .str z _=>eqV (.str z) x
 |_=>false
theorem JQ {x y:V}{u:Value}(r:RelV y u)(f:vP y=true):eqU x u=eqV y x:=by
 cases y with
 |non=>cases r;rfl
 |bl b=>cases r;rfl
 |int i=>obtain⟨t,rfl⟩:=r;rfl
 |str z=>obtain⟨t,rfl⟩:=r;rfl
 |_=>exact absurd (show false=true from f) gr
theorem BK {x:V}:∀ {xs:List V} {us:List Value},Vals xs us->xs.all vP=true->us.any (eqU x)=xs.any λy=>eqV y x
 |_,_,.nil,_=>rfl
 |y::xs,u::us,.cons r t,f=>by
  rw[Vk,gc]at f;rw[V8,V8,JQ r f.1,BK t f.2]
theorem yh {A:Around}{s:Shared}{x:V}{v:Value}(rx:RelV x v)(fx:vP x=true):∀ {xs:List V} {us:List Value},Vals xs us->xs.all vP=true->∀u∈us,SeqAt.EqAt A s u v (eqU x u)
 |_,_,.nil,_=>λu hu=>by cases hu
 |y::xs,u::us,.cons r t,f=>λu' hu=>by
  rw[Vk,gc]at f;rcases List.mem_cons.mp hu with rfl | hu
  ·rw[JQ r f.1];exact OX r rx f.1 fx
  ·exact yh rx fx t f.2 u' hu
def inV (x:V)(xs:List V):Bool:=xs.any λy=>eqV y x
def rIn (K:ba)(neg:Bool):R2:=λx y H Q=>∃p xs,y=.ref p/\(SqL K H p xs\/SqT K H p xs)/\vP x=true/\xs.all vP=true/\Q (.bl (if neg then !inV x xs else inV x xs)) H
theorem lj:OpR X (VU .In) (rIn X.K false):=by
 intro pins s σ H x y v u Q I rx ry h;obtain⟨p,xs,rfl,hq,fx,fs,q⟩:=h;cases ry;rcases hq with hq | hq
 ·obtain⟨its,r,pl,hz⟩:=I.list hq;refine SeqAt.in_listAt (eqU x) pl.isList (λw hw=>yh rx fx r fs w (by simpa using hw)) ⟨.bl _,H,I,rfl,?_⟩
  rw[show its.toArray.any (eqU x)=its.any (eqU x) by simp,BK r fs]
  exact q
 ·obtain⟨its,r,pl,hz⟩:=I.tuple hq;refine SeqAt.in_tupleAt (eqU x) pl (λw hw=>yh rx fx r fs w (by simpa using hw)) ⟨.bl _,H,I,rfl,?_⟩
  rw[show its.toArray.any (eqU x)=its.any (eqU x) by simp,BK r fs]
  exact q
theorem bM:eh X (.builtin "len") (λxs H Q=>∃p ys,xs=[.ref p]/\(SqL X.K H p ys\/SqT X.K H p ys)/\Q (.int ys.length) H):=by
 intro pins s σ H xs us Q I r h;obtain⟨p,ys,rfl,hq,q⟩:=h;obtain⟨u,rfl,rx⟩:=vals1 r;cases rx;have hn:=uB;rcases hq with hq | hq
 ·obtain⟨its,r',pl,hz⟩:=I.list hq;have hlen:=r'.length;exact Calls.call_len_list pl.isList (by simp only[tu] <;> omega) ⟨.int ys.length,H,I.tok _,⟨s.toks+1,by rw[tu,hlen]⟩,q⟩
 ·obtain⟨its,r',pl,hz⟩:=I.tuple hq;have hlen:=r'.length;exact len_tuple pl (by simp only[tu] <;> omega) ⟨.int ys.length,H,I.tok _,⟨s.toks+1,by rw[tu,hlen]⟩,q⟩
theorem lY:eh X (.builtin "len") (λxs H Q=>∃z,xs=[.str z]/\z.length<=de/\Q (.int z.length) H):=by
 intro pins s σ H xs us Q I r h;obtain⟨z,rfl,hz,q⟩:=h;obtain⟨u,rfl,t,rfl⟩:=vals1 r;have hn:=uB;exact len_str (by omega) ⟨.int z.length,H,I.tok _,⟨_,rfl⟩,q⟩
theorem eh.or {f:Value}{r r':List V->Hp->VK->Prop}(h:eh X f r)(h':eh X f r'):eh X f (λxs H Q=>r xs H Q\/r' xs H Q):=by
 intro pins s σ H xs us Q I rs q;rcases q with q | q
 ·exact h pins s σ H xs us Q I rs q
 ·exact h' pins s σ H xs us Q I rs q
theorem dY:eh X (.type "list") (λxs H Q=>∃p ys,xs=[.ref p]/\(SqL X.K H p ys\/SqT X.K H p ys)/\∀l,H l=none->Q (.ref l) (upd H l (.lst ys))):=by
 intro pins s σ H xs us Q I r h;obtain⟨p,ys,rfl,hq,q⟩:=h;obtain⟨u,rfl,rx⟩:=vals1 r;cases rx;have fin:∀(its:List Value),Vals ys its->ys.length<=de->∀(h':Heap) (c':Nat),(∀b o',s.heap.get? b=some o'->h'.get? b=some o') ->
   h'.get? s.heap.objs.size=some { cls:=.type "list",dict:=none,data:=.seq its.toArray c',slots:=#[] }->EP X pins σ Q (.ref s.heap.objs.size) { s with heap:=h' }:=λits r' hz h' c' kp e =>
  ⟨.ref s.heap.objs.size,_,I.laid (t':=s.toks) kp (kg _) (show dE X.prog X.w _ h' _ (.lst ys) from ⟨hz,its,c',r',e⟩),rfl,q _ (I.hok.fresh (kg _))⟩
 rcases hq with hq | hq
 ·obtain⟨its,r',pl,hz⟩:=I.list hq;have hlen:=r'.length;obtain⟨o,ho,hc,n,hd⟩:=pl.isList;exact call_list_seq p (.inl rfl) ho hc hd (λh' c' kp e=>fin its r' hz h' c' kp e) (by simp only[tu] <;> omega)
 ·obtain⟨its,r',pl,hz⟩:=I.tuple hq;have hlen:=r'.length;obtain⟨o,ho,hc,n,hd⟩:=pl;exact call_list_seq p (.inr rfl) ho hc hd (λh' c' kp e=>fin its r' hz h' c' kp e) (by simp only[tu] <;> omega)
def tyV (K:ba)(T:String)(x:V)(H:Hp):Prop:=match x with
 | .str _=>T="str"
 | .int _=>T="int"
 | .ref p=>(T="list"/\∃xs,SqL K H p xs)\/(T="tuple"/\∃o,K.lookup p=some o/\o.cls=.type "tuple"/\o.dict=none) \/
   (T="dict"/\((∃kvs,H p=some (.dK kvs))\/∃kvs,H p=some (.dT kvs)))\/(T="set"/\∃S n,H p=some (.set S n))
 |_=>False
theorem JR {pins:List (Addr×Obj)}{σ:St}{H:Hp}{s:Shared}{T:String}{x:V}{v:Value}(I:Inv X pins σ H s)(r:RelV x v)(ty:tyV X.K T x H) :
  s.TypeIs v T/\∀a,v=.ref a->∃ob,s.heap.get? a=some ob/\ob.dict=none:=by
 cases x with
 |str z =>
  obtain⟨t,rfl⟩:=r;cases (show T="str" from ty)
  exact⟨typeIs_str s z t,λ_ e=>nomatch e⟩
 |int i =>
  obtain⟨t,rfl⟩:=r;cases (show T="int" from ty)
  exact⟨typeIs_int s i t,λ_ e=>nomatch e⟩
 |ref p =>
  cases r;rcases ty with ⟨rfl,xs,hq⟩ | ⟨rfl,o,hk,hc,hd⟩ | ⟨rfl,hk⟩ | ⟨rfl,S,n,hk⟩
  ·obtain⟨its,_,pl,_⟩:=I.list hq;refine⟨pl.isList.typeIs,λa e=>?_⟩
   cases e;obtain⟨o,n,e,c,hd,_⟩:=pl;exact⟨o,e,hd⟩
  ·refine⟨⟨o,I.kIn p o hk,hc⟩,λa e=>?_⟩
   cases e;exact⟨o,I.kIn _ o hk,hd⟩
  ·have z:∃o,s.heap.get? p=some o/\o.ExactDict:=by
    rcases hk with ⟨kvs,hk⟩ | ⟨kvs,hk⟩
    ·obtain⟨_,_,_,_,o,_,_,e,ex,_⟩:=I.hok p _ hk;exact⟨o,e,ex⟩
    ·obtain⟨_,_,_,_,o,_,_,e,ex,_⟩:=I.hok p _ hk;exact⟨o,e,ex⟩
   obtain⟨o,e,ex⟩:=z;refine⟨⟨o,e,ex.1⟩,λa e2=>?_⟩
   cases e2;exact⟨o,e,ex.2.1⟩
  ·obtain⟨o,_,_,_,e,ex,_⟩:=I.hok p _ hk;refine⟨⟨o,e,ex.1⟩,λa e2=>?_⟩
   cases e2;exact⟨o,e,ex.2.1⟩
 |_=>exact wa ty
def Ri (K:ba)(T:String)(r:V->List V->Hp->VK->Prop)(to:TE):TE:=λσ H Q=>to σ H λx H1=>tyV K T x H1/\r x [] H1 Q
def tBM (K:ba)(T:String)(r:V->List V->Hp->VK->Prop)(to:TE)(t:TA):TE:=λσ H Q=>to σ H λx H1=>tyV K T x H1/\t σ H1 λxs H2=>r x xs H2 Q
variable{o e:Expr}{es:List Expr}{to:TE}{t:TA}{name:Str}{apos fj:Pos}{T id:String}{r:V->List V->Hp->VK->Prop}
theorem JS (pa:PlainAttrs T)(slot:Slot T name id)(hty:typeOf (.builtin id)=pure (.type "method_descriptor"))(hm:MtR X id r)(ho:PE X o to)
  (sT:attributeBase o name X.env (eval o X.env)=eval o X.env:=by rfl) (JT:(apos.endLine == fj.line)=true:=by rfl):PE X (.Call (.Attribute o name apos) [] [] fj) (Ri X.K T r to):=by
 intro pins s σ H Q I h;refine wpAny_Call_method0_late sT JT (thn (ho pins s σ H _ I h) λv s1 ⟨x,H1,I1,r1,ty,q1⟩=>?_)
 obtain⟨h1,h2⟩:=JR I1 r1 ty;exact⟨T,id,pa,slot,hty,h1,h2,Calls.callWith_builtin rfl (PySem.evalArgs_none (hm pins s1 σ H1 x [] v [] Q I1 r1 .nil q1))⟩
theorem ic (pa:PlainAttrs T)(slot:Slot T name id)(hty:typeOf (.builtin id)=pure (.type "method_descriptor"))(hm:MtR X id r)(ho:PE X o to)(ha:PA X (e::es) t)
  (sT:attributeBase o name X.env (eval o X.env)=eval o X.env:=by rfl)
  (TK:((backTo fj (om (e::es) X.env)).all (λx=>!x.1) && (V4 fj (VC [] X.env)).all (λx=>x.1.isSome)
   && decide ((e::es).length+([]:List Keyword).length+(if ([]:List Keyword).isEmpty then 0 else 1) < 30))=true:=by rfl)
  (JT:(apos.endLine == fj.line)=true:=by rfl) (hs:om (e::es) X.env=(false,eval e X.env)::om es X.env:=by rfl) (OY:(backTo fj (om es X.env)).any (·.1)=false:=by rfl) :
  PE X (.Call (.Attribute o name apos) (e::es) [] fj) (tBM X.K T r to t):=by
 intro pins s σ H Q I h;refine wpAny_Call_method_late sT TK JT rfl (thn (ho pins s σ H _ I h) λv s1 ⟨x,H1,I1,r1,ty,q1⟩=>?_)
 obtain⟨h1,h2⟩:=JR I1 r1 ty;refine⟨T,id,pa,slot,hty,h1,h2,?_⟩;have hA:=ha fj pins s1 σ H1 _ I1 q1;rw[hs]at hA ⊢;refine Calls.callWith_builtin (by show (false || (backTo fj (om es X.env)).any (·.1))=false;rw[OY] <;> rfl) (Wj ?_)
 exact thn hA λus s2 ⟨vs,H2,I2,r2,q2⟩=>hm pins s2 σ H2 x vs v us Q I2 r1 r2 q2
end
def MtM (X:Cx)(id:String)(r:V->List V->Hp->VK->Prop):Prop :=
 ∀(pins:List (Addr×Obj)) (s:Shared) (σ:St) (H:Hp) (x:V) (xs:List V) (v:Value) (us:List Value) (Q:VK),Inv X pins σ H s->RelV x v->Vals xs us->r x xs H Q ->
  wpAny (model X.prog X.w) X.A (call (.builtin id) (v::us)) (EP X pins σ Q) X.xe s
theorem Vals.one:∀ {x:V} {us:List Value},Vals [x] us->∃u,us=[u]/\RelV x u
 |_,_,.cons r .nil=>⟨_,rfl,r⟩
theorem Vals.two:∀ {x y:V} {us:List Value},Vals [x,y] us->∃u v,us=[u,v]/\RelV x u/\RelV y v
 |_,_,_,.cons r (.cons q .nil)=>⟨_,_,rfl,r,q⟩
theorem Vals.zero:∀ {us:List Value},Vals [] us->us=[]
 |_,.nil=>rfl
theorem Vals.dropLast {xs:List V}{us:List Value}(h:Vals xs us):Vals xs.dropLast us.dropLast:=by
 induction h with
 |nil=>exact .nil
 |cons r t ih =>
  cases t with
  |nil=>exact .nil
  |cons q t'=>exact .cons r ih
theorem Vals.eraseIdx:∀ {xs:List V} {us:List Value} (i:Nat),Vals xs us->Vals (xs.eraseIdx i) (us.eraseIdx i)
 |_,_,_,.nil=>.nil
 |_,_,0,.cons _ t=>t
 |_,_,i+1,.cons r t=>.cons r (Vals.eraseIdx i t)
theorem Vals.reverse {xs:List V}{us:List Value}(h:Vals xs us):Vals xs.reverse us.reverse:=by
 induction h with
 |nil=>exact .nil
 |cons r t ih=>rw[List.reverse_cons,List.reverse_cons];exact Vals.append ih (.cons r .nil)
theorem Vals.rep {xs:List V}{us:List Value}(h:Vals xs us):∀k:Nat,Vals (Vt k xs).flatten (Vt k us).flatten
 | 0=>.nil
 |k+1=>by
  rw[List.replicate_succ,List.replicate_succ,List.flatten_cons,List.flatten_cons];exact Vals.append h (Vals.rep h k)
theorem FC {α:Type}(l:List α):l.eraseIdx (l.length - 1)=l.dropLast:=by
 induction l with
 |nil=>rfl
 |cons a r ih =>
  cases r with
  |nil=>rfl
  |cons b r =>
   have e:(a::b::r).length - 1=((b::r).length - 1)+1:=by
    have h1:(a::b::r).length=r.length+2:=rfl;have h2:(b::r).length=r.length+1:=rfl;omega
   rw[e,List.eraseIdx_cons_succ,ih]
   all_goals rfl
section
variable{X:Cx}{pins:List (Addr×Obj)}{σ:St}{H:Hp}{s:Shared}{l b:Addr}{xs ys zs:List V}
theorem Inv.OZ {its its':List Value}{n:Nat}{f:Array Value->Array Value}{t':Nat}(I:Inv X pins σ H s)(hH:H l=some (.lst xs))
  (e:s.heap.get? l=some { cls:=.type "list",data:=.seq its.toArray n }) (hf:f its.toArray=its'.toArray) (hv:Vals ys its') (hz:ys.length<=de) :
  Inv X pins σ (upd H l (.lst ys)) { s with heap:=s.heap.update l (Obj.mapSeq f),toks:=t' }:=by
 have q:=PySem.IsL.update e f;rw[hf]at q;refine I.write (x:=l) (e:=l) (by rw[hH];exact trivial) (.inl rfl) (λb' u hb hu=>(U6 s.heap (Obj.mapSeq f) (UU hb)).trans hu) ⟨_,q⟩ ?_
 exact⟨hz,its',_,hv,q⟩
theorem Inv.Rj {its:List Value}{t':Nat}(I:Inv X pins σ H s)(hv:Vals ys its)(hz:ys.length<=de) :
  Inv X pins σ (upd H s.heap.objs.size (.lst ys)) { s with heap:=s.heap.push { cls:=.type "list",data:=.seq its.toArray },toks:=t' } :=
 I.laid (λ_ _ q=>fu _ q) (kg _) ⟨hz,its,0,hv,si _ rfl⟩
theorem Inv.fresh (I:Inv X pins σ H s):H s.heap.objs.size=none:=I.hok.fresh (kg _)
theorem Inv.HV (I:Inv X pins σ H s)(hH:H l=some (.lst xs)):xs.length<=de/\∃(its:List Value) (n:Nat),Vals xs its/\xs.length=its.length/\s.heap.get? l=some { cls:=.type "list",data:=.seq its.toArray n }:=by
 obtain⟨z,its,n,r,e⟩:=I.hok l _ hH;exact⟨z,its,n,r,r.length,e⟩
theorem JU {n:Nat}(h:n<=de):Builtin.List.listTooLong n=false:=by
 unfold Builtin.List.listTooLong;exact decide_eq_false (by omega)
end
section
variable{X:Cx}
def ME:V->List V->Hp->VK->Prop:=λx vs H Q=>∃l xs y,x=.ref l/\vs=[y]/\H l=some (.lst xs)/\xs.length < de/\Q .non (upd H l (.lst (xs++[y])))
theorem eP:MtM X "list.append" ME:=by
 intro pins s σ H x vs v us Q I rx rv h;obtain⟨l,xs,y,rfl,rfl,hH,hz,q⟩:=h;cases rx;obtain⟨u,rfl,ru⟩:=rv.one;obtain⟨z,its,n,r,hl,e⟩:=I.HV hH;refine call_meets F.slot_list_append ⟨_,e,rfl⟩ F.entry_list_append (F.args_list_append_2 _ _) (PySem.list_append l its.toArray n u (by rw[tu];omega)) ⟨e,?_⟩
 refine⟨.non,_,I.OZ (its':=its++[u]) hH e (by simp) (r.append (.cons ru .nil)) ?_,rfl,q⟩
 rw[km,U4];omega
def MF:V->List V->Hp->VK->Prop:=λx vs H Q=>∃l b xs zs,x=.ref l/\vs=[.ref b]/\H l=some (.lst xs)/\H b=some (.lst zs)/\xs.length+zs.length<=de/\Q .non (upd H l (.lst (xs++zs)))
theorem AZ:MtM X "list.extend" MF:=by
 intro pins s σ H x vs v us Q I rx rv h;obtain⟨l,b,xs,zs,rfl,rfl,hH,hB,hz,q⟩:=h;cases rx;obtain⟨u,rfl,ru⟩:=rv.one;cases ru;obtain⟨z,its,n,r,hl,e⟩:=I.HV hH;obtain⟨z2,FD,n2,r2,hl2,e2⟩:=I.HV hB;have hsz:its.toArray.size+FD.toArray.size<=de:=by rw[tu,tu];omega
 have Rk:¬(!its.toArray.isEmpty && Builtin.List.listTooLong (its.toArray.size+FD.toArray.size))=true:=by
  rw[JU hsz,Bool.and_false];exact gr
 refine call_meets F.slot_list_extend ⟨_,e,rfl⟩ F.entry_list_extend (F.args_list_extend_2 _ _)
  (AutoSeq1.list_extend_list_list_0 l its.toArray n b FD.toArray n2 Rk (by rw[tu];omega) (by omega)) ⟨e,e2,?_⟩
 refine⟨.non,_,I.OZ (its':=its++FD) hH e (by simp) (r.append r2) ?_,rfl,q⟩
 rw[km];omega
def TL:V->List V->Hp->VK->Prop:=λx vs H Q=>∃l xs y,x=.ref l/\vs=[]/\H l=some (.lst xs)/\xs[xs.length - 1]?=some y/\Q y (upd H l (.lst xs.dropLast))
theorem O0:MtM X "list.pop" TL:=by
 intro pins s σ H x vs v us Q I rx rv h;obtain⟨l,xs,y,rfl,rfl,hH,hy,q⟩:=h;cases rx;have hus:=rv.zero;subst hus;obtain⟨z,its,n,r,hl,e⟩:=I.HV hH;obtain⟨u,hu,ru⟩:=r.get hy;have hy':its.toArray[its.toArray.size - 1]?=some u:=by
  show its.toArray[its.length - 1]?=some u;rw[<-Array.getElem?_toList,<-hl];exact hu
 refine call_meets F.slot_list_pop ⟨_,e,rfl⟩ F.entry_list_pop (F.args_list_pop_1 _) (MeetsSeq.list_pop_last l its.toArray n u hy' (by rw[tu];omega)) ⟨e,?_⟩
 refine⟨y,_,I.OZ (its':=its.dropLast) hH e ?_ r.dropLast ?_,ru,q⟩
 ·show its.toArray.eraseIdxIfInBounds (its.toArray.size - 1)=its.dropLast.toArray;rw[tu,List.eraseIdxIfInBounds_toArray,FC]
 ·rw[List.length_dropLast];omega
def TM:R2:=λx y H Q=>∃l b xs zs,x=.ref l/\y=.ref b/\H l=some (.lst xs)/\H b=some (.lst zs)/\xs.length+zs.length<=de/\∀p,H p=none->Q (.ref p) (upd H p (.lst (xs++zs)))
theorem O1:OpR X (binaryOp .Add) TM:=by
 intro pins s σ H x y v u Q I rx ry h;obtain⟨l,b,xs,zs,rfl,rfl,hH,hB,hz,q⟩:=h;cases rx;cases ry;obtain⟨z,its,n,r,hl,e⟩:=I.HV hH;obtain⟨z2,FD,n2,r2,hl2,e2⟩:=I.HV hB;refine PySem.P.add_list e e2 ?_ (by rw[tu,tu];omega)
 have ea:its.toArray++FD.toArray=(its++FD).toArray:=by simp
 rw[ea];exact⟨.ref _,_,I.Rj (t':=s.toks) (r.append r2) (by rw[km];omega),rfl,q _ I.fresh⟩
end
end L2
namespace Att
open PySem PySem.W PySem.Calls PyProof.Rows
theorem wZ {P:Params}{h:Heap}:∀(ns:List Int) (vs:List Value),WellAll P h vs (ns.map WData.int)->IntsAre vs ns:=by
 intro ns
 induction ns with
 |nil =>
  intro vs w;rw[V5]at w;cases w;exact .nil
 |cons n ns ih =>
  intro vs w;rw[kx]at w;cases w with
  |cons a b =>
   cases a;exact .cons _ _ (ih _ b)
theorem HW {l:OpenLaw}{n:Nat}(hn:l.most=some n){P:Params}{h:Heap}{args:List WData}{vals:List Value}
  (MG:l.row.toRowW.claim.pre args=true) (hwl:WellAll P h vals args) :
  ∃a vs ns,vals=[ky a]/\args=[WData.list (ns.map WData.int)]/\h.get? a=some { cls:=.type "list",data:=.seq vs.toArray }/\IntsAre vs ns/\ns.length<=n:=by
 have hsh:WShape.hasAll [] args [.list .int]=true:=(pre_splitW MG).1;have hc:l.pre.holds [] { args:=args }=true:=(pre_splitW MG).2;obtain⟨d,r,rfl,h1,h2⟩:=hasAllW_cons hsh;obtain rfl:=hasAllW_nil h2;obtain⟨xs,rfl,h3⟩:=hasW_list h1;obtain⟨ns,rfl⟩:=items_int h3;have hlen:ns.length<=n:=by
  unfold OpenLaw.pre at hc;have h4:(WTm.not (.lt (.lit (.int (n:Int))) (.len (.arg 0)))).holds [] { args:=[.list (ns.map .int)] }=true:=by
   have h4:=(holds_andW hc).1;rw[hn]at h4;exact h4
  have h5:=condW_of h4 (w_not (w_lt w_lit (w_len_list (w_arg rfl))));rw[da]at h5;refine Nat.le_of_not_lt λq=>?_
  have q':(n:Int) < ((ns.length:Nat):Int):=by omega
  first
   | (rw[decide_eq_true q']at h5;exact absurd h5 (by decide))
   | (simp at h5;omega)
 cases hwl with
 |cons w1 w2 =>
  cases w2;cases w1 with
  |list ho TN=>exact⟨_,_,ns,rfl,rfl,ho,wZ ns _ TN,hlen⟩
theorem HX (l:OpenLaw)(args:List WData):l.row.toRowW.claim.post args (.bool true) args=true :=
 postW_of (r:=l.row.toRowW) (X:=(true == true))
  (show WShape.has [] (.bool true) .bool=true by first | rfl | decide | simp[WShape.has,WShape.arms,WShape.armsAll])
  (show (WTm.eq .res (.lit (.bool true))).value [] { args:=args,res:=some (.bool true),after:=args }=some (.bool (true == true)) from w_eq_bool (w_res rfl) w_lit) rfl
theorem DA {l:OpenLaw}{n:Nat}{q:ko}{loose:List Str}{XP:(Str->Option Value)->Heap->Prop}{YP:World->Heap->Prop}{d:DefRec}
  (hn:l.most=some n) (hdf:d.params.defaults=[])
  (call:∀(w:World) (s₀ s₁:Shared) (mg mb:Str->Option Value) (fa:Addr) (o:Obj) (pm cd doc:Value) (a:Addr) (vs:List Value) (ns:List Int),
   Ground q loose [] XP w s₀ mg mb s₁.heap->YP w s₁.heap ->
   s₁.heap.get? fa=some o->o.data=.func (docDef d.name d.params d.body d.scope pm cd doc)->s₁.heap.CodeRec cd d.name->mg d.name=some (.ref fa) ->
   s₁.heap.get? a=some { cls:=.type "list",data:=.seq vs.toArray }->IntsAre vs ns->ns.length<=n->s₁.gens=#[] ->
   codeAny (model l.prog w) callerA (.call (.ref fa) ⟨[.ref a],[]⟩) (λr s'=>r=.ok (.ret (.bool true))/\OldK s₁.heap s'.heap/\s'.os=s₁.os/\AllBare s'.gens) s₁) :
  WalkO q loose XP YP l.row.toRowW d [] (λf vs=>PySem.call f vs):=by
 intro w s₀ s₁ mg mb G Y fa o pm cd doc dV kV ho hd hcd hD hmg hg args vals as MG UP hrd hwl hlo;obtain rfl:dV=.none:=Dflts.none hD hdf;obtain rfl:kV=.none:=Dflts.noKw hD;obtain⟨a,vs,ns,rfl,rfl,O2,hints,hlen⟩:=HW hn MG hwl;refine enter_call (VS (call w s₀ s₁ mg mb fa o pm cd doc a vs ns G Y ho (fd_plain hd) hcd hmg O2 hints hlen hg) λr s' hq=>?_)
 obtain⟨rfl,h2,h3,h4⟩:=hq;exact⟨.inl ⟨.bool true,.bool true,[],rfl,λ_=>rfl,.bool true,HX l _,λ_=>⟨List.Pairwise.nil,λ_ hm=>(nomatch hm)⟩⟩,h2,h3,h4⟩
section
variable{prog:ko}{w:World}{A:Around}{E:Value->Shared->Prop}{s:Shared}{K:Frag}
def ledger (h:Heap)(L d:Addr):List (Addr×Obj):=(Wy h.objs.size).filterMap λa=>if a=L\/a=d then none else (h.get? a).map λo=>(a,o)
end
end Att
namespace L2
open PySem PySem.Spec PyProof.Rows
theorem A0:∀ {vs:List Value} {ns:List Int},IntsAre vs ns->Vals (ns.map V.int) vs
 |_,_,.nil=>.nil
 |_,_,.cons n t h=>.cons ⟨t,rfl⟩ (A0 h)
def O3 (H:Hp):Prop:=∀b,H b=none\/∃o xs,H b=some (.frz o (.lst xs))
theorem JV {P:ko}{w:World}{K:ba}{mg mb:Str->Option Value}{CX:CXT}{k:Nat}{fa a:Addr}{fd:gn}{x:Str}{sp:Sp}{s₁:Shared}{vs:List Value}{ns:List Int}
  (KX:K.In s₁.heap) (hns:s₁.heap.Ns mainGlobals mg) (hb:s₁.heap.Ns builtinsNs mb) (hbb:∀x:Str,x≠"__name__"->mb x=Vr x) (TQ:s₁.heap.NoLimit) (hg:s₁.gens=#[])
  (ha:s₁.heap.get? a=some { cls:=.type "list",data:=.seq vs.toArray }) (hi:IntsAre vs ns) (hl:ns.length<=de) (hr:Room k callerA)
  (F:∀base:Heap,K.In base->base.Ns mainGlobals mg->FnOk P w K mg base CX k fa fd [x] sp) (Rm:∀(s:Shared) (u:Value),BindsTo s fd ⟨[u],[]⟩ [(x,u)])
  (hsp:∀H:Hp,O3 H->SqL K H a (ns.map V.int)->sp [.ref a] H (λv _=>v=.bl true) λ_ _ _=>False)
  (hCX:∀H e s',CX [] H s₁ (λ_ _ _=>False) e s'->False) :
  codeAny (model P w) callerA (.call (.ref fa) ⟨[.ref a],[]⟩) (λr s'=>r=.ok (.ret (.bool true))/\OldK s₁.heap s'.heap/\s'.os=s₁.os/\AllBare s'.gens) s₁:=by
 have rv:=A0 hi;have TR:=hi.length;have core:∀H:Hp,O3 H->SqL K H a (ns.map V.int)->HOk P w H s₁.heap->(∀b,H b≠none->b=a)->(H a≠none->K.lookup a=none) ->
   codeAny (model P w) callerA (.call (.ref fa) ⟨[.ref a],[]⟩) (λr s'=>r=.ok (.ret (.bool true))/\OldK s₁.heap s'.heap/\s'.os=s₁.os/\AllBare s'.gens) s₁:=by
  intro H hO hS hok hA hK;have GS:∀ {b:Addr} {o:Obj},s₁.heap.get? b=some o->H b=none->(BC s₁.heap H).get? b=some o:=λe n=>Jz e n
  have noA:∀ {b:Addr} {o:Obj} {es:Array DictEntry} {ep:Nat},s₁.heap.get? b=some o->o.data=.dict es ep->H b=none:=λ{b o es ep} e d=>by
   cases q:H b with
   |none=>rfl
   |some u =>
    have e':b=a:=hA b (by rw[q];simp)
    subst e';rw[ha]at e;cases e;have d':Data.seq vs.toArray _=Data.dict es ep:=d;cases d'
  have nsK:∀ {b:Addr} {m:Str->Option Value},s₁.heap.Ns b m->(BC s₁.heap H).Ns b m:=λ{b m} ⟨o,es,ep,e,d,r⟩=>⟨o,es,ep,GS e (noA e d),d,r⟩
  have hKb:K.In (BC s₁.heap H):=λb o e=>GS (KX b o e) (by
   cases q:H b with
   |none=>rfl
   |some u =>
    have e':b=a:=hA b (by rw[q];simp)
    subst e';rw[hK (by rw[q];simp)]at e;cases e)
  have hM:Mod K mg (BC s₁.heap H):=⟨hKb,nsK hns,⟨mb,nsK hb,hbb⟩,let ⟨mc,h1,h2⟩:=TQ;⟨mc,nsK h1,h2⟩⟩
  have e0:sP P w K mg (BC s₁.heap H) callerA [] s₁ H:=⟨rfl,hM,λb o e=>Mt e,Nat.le_of_eq (HK _ _),trivial,λb hb=>absurd (show b∈([]:List Addr) from hb) (by simp),hok,.of_eq hg⟩
  refine VS ((F _ hKb (nsK hns)).run callerA [] s₁ H ⟨[.ref a],[]⟩ [.ref a] [.ref a] _ _ hr e0 (Rm s₁ (.ref a)) (.cons rfl .nil) (hsp H hO hS)) λr s' h=>?_
  cases r with
  |error e=>exact(hCX H e s' h).elim
  |ok fl =>
   cases fl with
   |next=>exact wa h
   |brk=>exact wa h
   |cont=>exact wa h
   |ret u =>
    obtain⟨v,H',os,bare,un,TU,r',q⟩:=h;have q':v=.bl true:=q;subst q';obtain rfl:u=VW true:=r';refine⟨rfl,OldK.of_keep λb o e=>?_,os,bare⟩
    cases q:H b with
    |none=>exact un.keep b o e q (by intro z;exact absurd (show b∈([]:List Addr) from z) (by simp)) (by simp)
    |some u =>
     rcases hO b with z | ⟨ob,xs,z⟩
     ·rw[q]at z;cases z
     ·have z2:=un.q5 b ob _ z;obtain⟨e1,_⟩:=hok b _ z;obtain⟨e2,_⟩:=TU b _ z2;rw[e]at e1;cases e1;exact e2
 cases hk:K.lookup a with
 |some o =>
  have e:=KX a o hk;rw[ha]at e;cases e;refine core (λ_=>none) (λ_=>.inl rfl) (.inr ⟨_,vs.toArray,_,hk,rfl,rfl,rfl,by rw[tu,TR];exact hl,by simpa using rv⟩) (λb u z=>by have z':(none:Option HO)=some u:=z;cases z') (λb z=>absurd rfl z) λz=>absurd rfl z
 |none =>
  refine core (λb=>if b=a then some (.frz { cls:=.type "list",data:=.seq vs.toArray } (.lst (ns.map V.int))) else none) (λb=>?_) (.inl (.inr ⟨{ cls:=.type "list",data:=.seq vs.toArray },if_pos rfl⟩)) (λb u z=>?_) (λb z=>?_) λ_=>hk
  ·by_cases hb:b=a
   ·exact .inr ⟨_,_,if_pos hb⟩
   ·exact .inl (if_neg hb)
  ·by_cases hb:b=a
   ·have z':=(if_pos hb).symm.trans z;cases z';subst hb;exact⟨ha,by rw[da];exact hl,vs,_,rv,ha⟩
   ·have z':=(if_neg hb).symm.trans z;cases z'
  ·by_cases hb:b=a
   ·exact hb
   ·exact absurd (if_neg hb) z
theorem MH {l:PySem.W.OpenLaw}{n k:Nat}{q:ko}{loose:List Str}{XP:(Str->Option Value)->Heap->Prop}{YP:World->Heap->Prop}{d:DefRec}{K:Params->ba}{CX:World->CXT}{sp:World->Sp}{x:Str}
  (hn:l.most=some n) (hn2:n<=de) (hdf:d.params.defaults=[]) (hr:Room k callerA)
  (hY:∀(w:World) (h:Heap),YP w h->(K w.params).In h)
  (F:∀(w:World) (mg:Str->Option Value) (fa:Addr) (h:Heap),(K w.params).In h->h.Ns mainGlobals mg->mg d.name=some (.ref fa) ->
   ∃fd:gn,(∀(s:Shared) (u:Value),BindsTo s fd ⟨[u],[]⟩ [(x,u)]) /\
    ∀base:Heap,(K w.params).In base->base.Ns mainGlobals mg->FnOk l.prog w (K w.params) mg base (CX w) k fa fd [x] (sp w))
  (hsp:∀(w:World) (H:Hp) (a:Addr) (ns:List Int),ns.length<=n->O3 H->SqL (K w.params) H a (ns.map V.int)->sp w [.ref a] H (λv _=>v=.bl true) λ_ _ _=>False)
  (hCX:∀(w:World) (H:Hp) (s:Shared) (e:Value) (s':Shared),CX w [] H s (λ_ _ _=>False) e s'->False) :
  PySem.W.WalkO q loose XP YP l.row.toRowW d [] (λf vs=>PySem.call f vs):=by
 refine Att.DA hn hdf λw s₀ s₁ mg mb fa o pm cd doc a vs ns G Y ho hd hcd hmg O2 hints hlen hg=>?_
 have KX:=hY w _ Y;obtain⟨fd,hb,hF⟩:=F w mg fa _ KX G.T.g hmg;exact JV KX G.T.g G.T.b G.T.builtins G.T.nolimit hg O2 hints (ku hlen hn2) hr hF hb (λH hO hS=>hsp w H a ns hlen hO hS) λH e s'=>hCX w H s₁ e s'
def inClass (s:Stmt)(j:Nat):Stmt:=match s with
 | .ClassDef _ _ _ body _ _ _ _ _ _ _=>body.getD j (.Pass ⟨0,0,0,0⟩)
 |_=>.Pass ⟨0,0,0,0⟩
def xR (s:Stmt):Arguments:=match s with
 | .FunctionDef _ a _ _ _ _ _ _ _ _=>a
 |_=>{ posonlyargs:=[],args:=[],vararg:=none,kwonlyargs:=[],kw_defaults:=[],kwarg:=none,defaults:=[] }
def jN (s:Stmt):List Stmt:=match s with
 | .FunctionDef _ _ b _ _ _ _ _ _ _=>b
 |_=>[]
def ai (s:Stmt):Scope:=match s with
 | .FunctionDef _ _ _ _ _ _ sc _ _ _=>sc
 |_=>{ kind:=.function,names:=[],isGenerator:=false,isCoroutine:=false }
abbrev CX0:CXT:=λ_ _ _ _ _ _=>False
abbrev E0:XK:=λ_ _ _=>False
theorem a6 {X:Cx}:Passes CX0 X E0:=λ_ _ _ _ _ _ _ h=>h.elim
structure Fun (K:ba)(x qual:Str)(st:Stmt)(f:Addr)(fd:gn):Prop where
 ex:∃(oc:Value) (od:Option Addr) (kV doc pm:Value) (an:Option Addr) (cdv ct:Value) (osl:Array (Option Value)),
  fd=PySem.W.fnOf x qual (xR st) (jN st) (ai st) .none kV doc pm an cdv ct/\K.lookup f=some ⟨oc,od,.func fd,osl⟩/\PySem.W.codeIn K cdv qual=true
 kp:Wa K (.ref f)=true
section
variable{P:ko}{w:World}{K:ba}{mg:Str->Option Value}{base:Heap}
theorem Fun.ok {x qual:Str}{st:Stmt}{f:Addr}{fd:gn}{N ps:List Str}{k:Nat}{sp:Sp}(F:Fun K x qual st f fd)(S:ay N ps (ai st))(len:∀vs H Q E,sp vs H Q E->vs.length=ps.length)
  (sQ:∀(cdv:Value) (A:Around) (outer:List Env) (s:Shared) (H:Hp) (vs:List V) (Q:VK) (E:XK),Room k (A.deeper (envOfC qual (ai st) s.heap.objs.size f cdv))->sp vs H Q E ->
   ∃t,PSs (bh CX0 P w K mg base N qual (ai st) f cdv A outer s H E).nox (jN st) t/\t { nx:=λ_ H'=>Q .non H',rt:=Q } (start N vs) H):FnOk P w K mg base CX0 (k+1) f fd ps sp:=by
 obtain⟨oc,od,kV,doc,pm,an,cdv,ct,osl,rfl,lk,hcd⟩:=F.ex;refine JL lk hcd S len λA outer s H vs Q E hr hsp=>?_
 obtain⟨t,h,q⟩:=sQ cdv A outer s H vs Q E hr hsp;exact⟨t,h.nox,q⟩
theorem Fun.binds {x qual:Str}{st:Stmt}{f:Addr}{fd:gn}{ps:List Str}(F:Fun K x qual st f fd)
  (h:∀(kV doc pm:Value) (an:Option Addr) (cdv ct:Value) (us:List Value),us.length=ps.length->bindArgs (PySem.W.fnOf x qual (xR st) (jN st) (ai st) .none kV doc pm an cdv ct) ⟨us,[]⟩=pure (ps.zip us)):Binds K fd ps []:=by
 obtain⟨oc,od,kV,doc,pm,an,cdv,ct,osl,rfl,lk,hcd⟩:=F.ex;exact .all (h kV doc pm an cdv ct)
theorem O4 {x qual:Str}{st:Stmt}{f:Addr}{oc:Value}{od an:Option Addr}{osl:Array (Option Value)}{kV doc pm cdv ct:Value}(l:K.lookup f=some ⟨oc,od,.func (PySem.W.fnOf x qual (xR st) (jN st) (ai st) .none kV doc pm an cdv ct),osl⟩)
  (c:PySem.W.codeIn K cdv qual=true) (k:Wa K (.ref f)=true):Fun K x qual st f (PySem.W.fnOf x qual (xR st) (jN st) (ai st) .none kV doc pm an cdv ct):=⟨⟨oc,od,kV,doc,pm,an,cdv,ct,osl,rfl,l,c⟩,k⟩
end
section
variable{X:Cx}
theorem pv (i:Nat){x:Str}{pos:Pos}(hN:X.N[i]?=some x:=by rfl)(hv:Vis X.env.scope x:=by first | exact ro rfl | exact Or.inr (ro rfl) | exact Or.inr (Or.inr rfl))(hd:(x == ("__debug__":Str))=false:=by decide)
  (hcd:(x == ("__classdict__":Str))=false:=by decide):PE X (.Name x pos) (Ab i):=OL hN hv hd hcd
end
theorem cf {A B:Prop}(h:B):if false=true then A else B:=by
 rw[if_neg gr];exact h
theorem dZ {A B:Prop}(h:A):if true=true then A else B:=by
 rw[if_pos rfl];exact h
theorem ie {c A B:Prop}[Decidable c](h1:c->A)(h2:¬c->B):if c then A else B:=by
 by_cases h:c
 ·rw[if_pos h];exact h1 h
 ·rw[if_neg h];exact h2 h
def aS (H H':Hp):Prop:=∀b o,H b=some o->H' b=some o
theorem aS.refl (H:Hp):aS H H:=λ_ _ h=>h
theorem aS.trans {H H1 H2:Hp}(a:aS H H1)(b:aS H1 H2):aS H H2:=λc o h=>b c o (a c o h)
theorem aS.free {H H':Hp}(e:aS H H'){l:Addr}(h:H' l=Option.none):H l=Option.none:=by
 cases q:H l with
 |none=>rfl
 |some o =>
  rw[e l o q]at h;cases h
theorem aS.seq {K:ba}{H H':Hp}{a:Addr}{xs:List V}(e:aS H H')(h:SqL K H a xs):SqL K H' a xs:=by
 rcases h with (h | ⟨o,h⟩) | h
 ·exact .inl (.inl (e _ _ h))
 ·exact .inl (.inr ⟨o,e _ _ h⟩)
 ·exact .inr h
theorem eC:Vr "len"=some (.builtin "len"):=by trivial
theorem Ad:Vr "isinstance"=some (.builtin "isinstance"):=by trivial
theorem O5:Vr "max"=some (.builtin "max"):=by trivial
theorem O6:Vr "any"=some (.builtin "any"):=by trivial
theorem BL:Vr "all"=some (.builtin "all"):=by trivial
theorem JW:Vr "int"=some (.type "int"):=by trivial
theorem FE:Vr "str"=some (.type "str"):=by trivial
theorem lZ:Vr "list"=some (.type "list"):=by trivial
theorem O7:Vr "ord"=some (.builtin "ord"):=by trivial
mutual
def DV (K:ba)(H:Hp):PyData->V->Prop
 | .none,x=>x=.non
 | .bool b,x=>x=.bl b
 | .int i,x=>x=.int i
 | .str y,x=>x=.str y
 | .list ds,x=>∃a xs,x=.ref a/\SqL K H a xs/\DVs K H ds xs
 | .tuple ds,x=>∃a xs,x=.ref a/\SqT K H a xs/\DVs K H ds xs
 | .dict _,_=>False
def DVs (K:ba)(H:Hp):List PyData->List V->Prop
 |[],xs=>xs=[]
 |d::ds,xs=>∃x r,xs=x::r/\DV K H d x/\DVs K H ds r
end
section
variable{X:Cx}{pins:List (Addr×Obj)}{σ:St}{H:Hp}{s:Shared}
mutual
theorem DV.reads (I:Inv X pins σ H s):∀(d:PyData) {x:V} {u:Value},DV X.K H d x->RelV x u->∃as,Reads s.heap u d as
 | .none,_,_,h,r=>by
  have h':=h;unfold DV at h';subst h';cases r;exact⟨_,.none⟩
 | .bool b,_,_,h,r=>by
  have h':=h;unfold DV at h';subst h';cases r;exact⟨_,.bool b⟩
 | .int i,_,_,h,r=>by
  have h':=h;unfold DV at h';subst h';obtain⟨t,rfl⟩:=r;exact⟨_,.int i t⟩
 | .str y,_,_,h,r=>by
  have h':=h;unfold DV at h';subst h';obtain⟨t,rfl⟩:=r;exact⟨_,.str y t⟩
 | .list ds,_,_,h,r=>by
  have h':=h;unfold DV at h';obtain⟨a,xs,rfl,hq,hs⟩:=h';cases r;obtain⟨its,rv,⟨o,n,e,c,_,dt⟩,_⟩:=I.list hq;obtain⟨as,q⟩:=DVs.reads I ds hs rv;exact⟨_,.list e c dt (by simpa using q)⟩
 | .tuple ds,_,_,h,r=>by
  have h':=h;unfold DV at h';obtain⟨a,xs,rfl,hq,hs⟩:=h';cases r;obtain⟨its,rv,⟨o,e,c,n,dt⟩,_⟩:=I.tuple hq;obtain⟨as,q⟩:=DVs.reads I ds hs rv;exact⟨_,.tuple e c dt (by simpa using q)⟩
 | .dict _,_,_,h,_=>by
  have h':=h;unfold DV at h';exact h'.elim
theorem DVs.reads (I:Inv X pins σ H s):∀(ds:List PyData) {xs:List V} {us:List Value},DVs X.K H ds xs->Vals xs us->∃as,ReadsAll s.heap us ds as
 |[],_,_,h,r=>by
  have h':=h;unfold DVs at h';subst h';cases r;exact⟨_,.nil⟩
 |d::ds,_,_,h,r=>by
  have h':=h;unfold DVs at h';obtain⟨x,q,rfl,h1,h2⟩:=h';cases r with
  |cons r1 r2 =>
   obtain⟨as,e1⟩:=DV.reads I d h1 r1;obtain⟨bs,e2⟩:=DVs.reads I ds h2 r2;exact⟨_,.cons e1 e2⟩
end
def TV (K:ba):R2:=λx y H Q=>∃d e,DV K H d x/\DV K H e y/\SeqAt.shaped d=true/\SeqAt.shaped e=true/\Q (.bl (Wc d e)) H
def TX (K:ba):R2:=λx y H Q=>∃d e,DV K H d x/\DV K H e y/\SeqAt.shaped d=true/\SeqAt.shaped e=true/\Q (.bl (!Wc d e)) H
theorem FF (hu:X.A.units+64 < cLine):OpR X (VU .Eq) (TV X.K):=by
 intro pins s σ H x y v u Q I rx ry h;obtain⟨d,e,hd,he,sd,se,q⟩:=h;obtain⟨as,r1⟩:=DV.reads I d hd rx;obtain⟨bs,r2⟩:=DV.reads I e he ry;exact eq_dataH r1 r2 sd se hu ⟨.bl _,H,I,rfl,q⟩
theorem FG (hu:X.A.units+64 < cLine):OpR X (VU .NotEq) (TX X.K):=by
 intro pins s σ H x y v u Q I rx ry h;obtain⟨d,e,hd,he,sd,se,q⟩:=h;obtain⟨as,r1⟩:=DV.reads I d hd rx;obtain⟨bs,r2⟩:=DV.reads I e he ry;exact ne_dataH r1 r2 sd se hu ⟨.bl _,H,I,rfl,q⟩
end
theorem DB (K:ba)(H:Hp):∀ws:List Str,DVs K H (ws.map Vu) (ws.map V.str)
 |[]=>by unfold DVs;rfl
 |w::ws=>by
  show DVs K H (Vu w::ws.map Vu) _;unfold DVs;exact⟨_,_,rfl,by unfold DV;rfl,DB K H ws⟩
theorem sU {K:ba}{H:Hp}{a:Addr}{ws:List Str}(h:SqL K H a (ws.map V.str)):DV K H (.list (ws.map Vu)) (.ref a):=by
 unfold DV;exact⟨a,_,rfl,h,DB K H ws⟩
theorem nP:∀ws:List Str,(∀w∈ws,Vs w=true)->VI (ws.map Vu)=true
 |[],_=>by simp[VI]
 |w::ws,h=>by
  simp only[kx,VI,VG,gc];exact⟨h w kb,nP ws λv hv=>h v (kr _ hv)⟩
theorem rh:∀ws:List Str,Wg (ws.map Vu)<=1
 |[]=>by simp[Wg]
 |w::ws=>by
  have:=rh ws;simp only[kx,Wg,V6];omega
theorem nQ {ws:List Str}(h:∀w∈ws,Vs w=true):SeqAt.shaped (.list (ws.map Vu))=true:=by
 have h1:=rh ws;have h2:V6 (.list (ws.map Vu))<=64:=by simp only[V6];omega
 show (VG (.list (ws.map Vu)) && decide (V6 (.list (ws.map Vu))<=64))=true;rw[gc];exact⟨by simp only[VG];exact nP ws h,decide_eq_true h2⟩
theorem yi:∀ {ys:List Str} {us:List Value},Vals (ys.map V.str) us->StrsAre us ys
 |[],_,.nil=>.nil
 |y::ys,_,.cons r t=>by
  obtain⟨tk,rfl⟩:=r;exact .cons y tk (yi t)
theorem nR:∀l:List (Str×Tok),Vals ((l.map (·.1)).map V.str) (strValues l)
 |[]=>.nil
 |p::l=>.cons ⟨p.2,rfl⟩ (nR l)
section
variable{X:Cx}
def rJoin (K:ba):V->List V->Hp->VK->Prop:=λx vs H Q=>∃sep a ys,x=.str sep/\vs=[.ref a]/\SqL K H a (ys.map V.str)/\(ys.map (·.length)).sum+ys.length * sep.length<=16777216/\Q (.str (gp sep ys)) H
theorem BM:MtR X "str.join" (rJoin X.K):=by
 intro pins s σ H x vs v us Q I rx rv h;obtain⟨sep,a,ys,rfl,rfl,hq,hz,q⟩:=h;obtain⟨t,rfl⟩:=rx;obtain⟨u,rfl,ru⟩:=rv.one;cases ru;obtain⟨its,r,pl,_⟩:=I.list hq;refine join_list pl.isList (yi (by simpa using r)) hz λt' k=>?_
 rw[show Txt.join sep ys=gp sep ys from StrLaws.glued_eq_join sep ys]
 exact⟨.str _,H,I.tok _,⟨_,rfl⟩,q⟩
def O8:V->List V->Hp->VK->Prop:=λx vs H Q=>∃z y,x=.str z/\vs=[.str y]/\(y.length == 0)=false/\z.length+2<=de/\∀p,H p=none->Q (.ref p) (upd H p (.lst ((Txt.split z y).map V.str)))
theorem sV:MtR X "str.split" O8:=by
 intro pins s σ H x vs v us Q I rx rv h;obtain⟨x,y,rfl,rfl,hy,hsz,q⟩:=h;obtain⟨t,rfl⟩:=rx;obtain⟨_,rfl,u,rfl⟩:=rv.one;have hn:(Builtin.Str.partsBetween x (VF x y 0 x.length (x.length+1)) y.length).length<=de:=by
  have e1:=StrLaws.occ_length_le x y 0 x.length (x.length+1);rw[length_partsBetween];omega
 have fin:∀(l:List (Str×Tok)) (tk:Nat),l.map (·.1)=Txt.split x y->(Txt.split x y).length<=de ->
   EP X pins σ Q (.ref s.heap.objs.size) { s with heap:=s.heap.push { cls:=.type "list",data:=.seq (strValues l).toArray },toks:=tk }:=λl tk e hz=>by
  refine⟨.ref _,_,I.Rj (t':=tk) (ys:=(Txt.split x y).map V.str) (by rw[<-e];exact nR l) (by rw[da];exact hz),rfl,q _ I.fresh⟩
 have Rn:1<=de:=by omega
 cases h1:(decide (x.length < y.length) || decide (Builtin.Str.strKind x < Builtin.Str.strKind y))
 ·cases hf:(VF x y 0 x.length (x.length+1)).isEmpty
  ·refine call_meets F.slot_str_split (typeIs_str _ _ _) F.entry_str_split (F.args_str_split_2 _ _) (meets_str_split_sep x y t u h1 hy hf (by omega) hn) ?_
   have e:Txt.split x y=Builtin.Str.partsBetween x (VF x y 0 x.length (x.length+1)) y.length:=(if_neg (ne_true_of_eq_false h1)).trans (if_neg (ne_true_of_eq_false hf));show wants (EP X pins σ Q) X.xe _ { s with toks:=_,heap:=s.heap.push { cls:=.type "list",data:=.seq (strsFrom s.toks (Builtin.Str.partsBetween x (VF x y 0 x.length (x.length+1)) y.length)).toArray } }
   rw[strsFrom_eq];exact fin (numbered s.toks _) _ ((numbered_texts _ _).trans e.symm) (by rw[e];exact hn)
  ·have e:Txt.split x y=[x]:=(if_neg (ne_true_of_eq_false h1)).trans (if_pos hf);exact call_meets F.slot_str_split (typeIs_str _ _ _) F.entry_str_split (F.args_str_split_2 _ _) (meets_str_split_not_found x y t u h1 hy hf)
    (fin [(x,t)] s.toks e.symm (by rw[e];exact Rn))
 ·have e:Txt.split x y=[x]:=if_pos h1;exact call_meets F.slot_str_split (typeIs_str _ _ _) F.entry_str_split (F.args_str_split_2 _ _) (meets_str_split_cannot_occur x y t u h1)
   (fin [(x,t)] s.toks e.symm (by rw[e];exact Rn))
theorem cT:OpR X (binaryOp .Add) (λx y H Q=>∃l b xs zs,x=.ref l/\y=.ref b/\H l=some (.lst xs)/\H b=some (.lst zs)/\xs.length+zs.length<=de/\∀p,H p=none->Q (.ref p) (upd H p (.lst (xs++zs)))):=O1
end
theorem cv (a b:Str):(a++b).cps.toList=a.cps.toList++b.cps.toList:=by
 show (a.cps++b.cps).toList=_;simp
theorem DC (c:Nat):∀(a b p q:List Nat),c∉a->c∉b->a++c::p=b++c::q->a=b/\p=q
 |[],[],p,q,_,_,e=>by simpa using e
 |[],y::b,p,q,_,hb,e=>by
  have e':c::p=y::(b++c::q):=e;injection e' with e1 _
  exact absurd (by rw[e1];exact kb) hb
 |x::a,[],p,q,ha,_,e=>by
  have e':x::(a++c::p)=c::q:=e;injection e' with e1 _
  exact absurd (by rw[<-e1];exact kb) ha
 |x::a,y::b,p,q,ha,hb,e=>by
  have e':x::(a++c::p)=y::(b++c::q):=e;injection e' with e1 e2
  obtain⟨h1,h2⟩:=DC c a b p q (λh=>ha (kr _ h)) (λh=>hb (kr _ h)) e2
  exact⟨by rw[e1,h1],h2⟩
theorem jO {a b:Str}(h:a.cps.toList=b.cps.toList):a=b:=by
 cases a;cases b;have:=Array.toList_inj.mp h;subst this;rfl
theorem d0 (c:Nat)(x y:Str)(r:List Str):(gp ⟨#[c]⟩ (x::y::r)).cps.toList=x.cps.toList++c::(gp ⟨#[c]⟩ (y::r)).cps.toList:=by
 show ((x++⟨#[c]⟩)++gp ⟨#[c]⟩ (y::r)).cps.toList=_;rw[cv,cv];simp
theorem DD (c:Nat):∀(vs ws:List Str),vs≠[]->ws≠[]->(∀v∈vs,c∉v.cps.toList)->(∀w∈ws,c∉w.cps.toList)->gp ⟨#[c]⟩ vs=gp ⟨#[c]⟩ ws->vs=ws
 |[],_,h,_,_,_,_=>absurd rfl h
 |_,[],_,h,_,_,_=>absurd rfl h
 |[x],[y],_,_,_,_,e=>by rw[show x=y from e]
 |[x],y::z::r,_,_,hv,_,e=>by
  have e1:=congrArg (λt:Str=>t.cps.toList) e
  have e2:x.cps.toList=y.cps.toList++c::(gp ⟨#[c]⟩ (z::r)).cps.toList:=e1.trans (d0 c y z r);exact absurd (by rw[e2];exact di _ kb) (hv x kb)
 |x::z::r,[y],_,_,_,hw,e=>by
  have e1:=congrArg (λt:Str=>t.cps.toList) e
  have e2:x.cps.toList++c::(gp ⟨#[c]⟩ (z::r)).cps.toList=y.cps.toList:=(d0 c x z r).symm.trans e1;exact absurd (by rw[<-e2];exact di _ kb) (hw y kb)
 |x::x2::r,y::y2::q,_,_,hv,hw,e=>by
  have e1:=congrArg (λt:Str=>t.cps.toList) e
  have e2:=(d0 c x x2 r).symm.trans (e1.trans (d0 c y y2 q));obtain⟨h1,h2⟩:=DC c _ _ _ _ (hv x kb) (hw y kb) e2;have h3:=DD c (x2::r) (y2::q) (UX _ _) (UX _ _) (λv h=>hv v (kr _ h)) (λw h=>hw w (kr _ h)) (jO h2)
  rw[jO h1,h3]
theorem nS (x y:Str):Txt.split x y≠[]:=by
 unfold Txt.split;split
 ·exact UX _ _
 ·split
  ·exact UX _ _
  ·rw[StrLaws.partsBetween_eq];intro h;have:=congrArg List.length h;revert this;cases (VF x y 0 x.length (x.length+1)) <;> simp[StrLaws.partsFrom]
theorem l4 {c:Nat}{ws:List Str}(h0:ws≠[])(h:∀w∈ws,c∉w.cps.toList):Txt.split (gp ⟨#[c]⟩ ws) ⟨#[c]⟩=ws :=
 DD c _ _ (nS _ _) h0 (StrLaws.split_free _ c) h (StrLaws.join_split _ _)
theorem ll (c:Nat):∀ws:List Str,(gp ⟨#[c]⟩ ws).length<=(ws.map (·.length)).sum+ws.length
 |[]=>Vg _
 |[x]=>by show x.length<=_;simp
 |x::y::r=>by
  have ih:=ll c (y::r);have e:(gp ⟨#[c]⟩ (x::y::r)).length=x.length+1+(gp ⟨#[c]⟩ (y::r)).length:=by
   have:=congrArg List.length (d0 c x y r);rw[km,kf]at this;have l1:∀z:Str,z.cps.toList.length=z.length:=λz=>by simp[Str.length]
   rw[l1,l1,l1]at this;omega
  simp only[kx,Wq,kf]at ih ⊢;omega
theorem Ae {c:Nat}:∀ {ws:List Str},ws≠[]->(∀w∈ws,1<=w.length)->1<=(gp ⟨#[c]⟩ ws).length
 |[],h,_=>absurd rfl h
 |[x],_,h=>h x kb
 |x::y::r,_,h=>by
  have h1:=h x kb;have:=congrArg List.length (d0 c x y r);rw[km]at this;have l1:∀z:Str,z.cps.toList.length=z.length:=λz=>by simp[Str.length]
  rw[l1,l1]at this;omega
theorem vQ {b:Bool}{A B:Prop}(hb:b=true)(h:A):if b=true then A else B:=by
 subst hb;exact dZ h
theorem qz {b:Bool}{A B:Prop}(hb:b=false)(h:B):if b=true then A else B:=by
 subst hb;exact cf h
theorem aw {H:Hp}{p:Addr}{o:HO}(h:H p=none):aS H (upd H p o):=λb u e=>by
 rw[ax (aQ e h)];exact e
theorem aS.own {H H':Hp}{p:Addr}{o:HO}(s:aS H H')(h:H p=none):aS H (upd H' p o):=λb u e=>by
 rw[ax (aQ e h)];exact s b u e
theorem aS.new {H H':Hp}{p:Addr}{o:HO}(s:aS H H')(h:H' p=none):aS H (upd H' p o):=s.trans (aw h)
theorem aS.nn {H H':Hp}(s:aS H H'){p:Addr}{o:HO}(h:H p=none)(e:H' p=some o){b:Addr}{u:HO}(eb:H b=some u):b≠p:=aQ eb h
theorem yj (xs:List V)(k:Nat):kh xs (some (k:Int)) none=xs.drop k:=by
 unfold kh;rw[HT.xQ,HT.JN]
 by_cases h:k<=xs.length
 ·rw[Nat.min_eq_left h];exact List.take_of_length_le (by rw[Ww];exact kg _)
 ·have h':xs.length<=k:=by omega
  rw[Nat.min_eq_right h',List.drop_of_length_le h',List.drop_of_length_le (kg _)];simp
theorem Ro {α:Type}{xs:List α}{i:Int}{n:Nat}(hn:xs.length=n)(h0:0<=i)(h1:i < n):∃c,atI xs i=some c/\c∈xs:=by
 have hi:i.toNat < xs.length:=by omega
 have e:((i.toNat:Nat):Int)=i:=by omega
 refine⟨xs[i.toNat],?_,List.getElem_mem hi⟩;have q:=fG (UT hi);rw[e]at q;exact q
def cg (scope outer:Scope):Scope :=
 { scope with names:=scope.names.map λ(n,k)=>if (k == .free && outer.kind == .function && outer.names.lookup n == some .cell) then (n,.cell) else (n,k) }
structure b9 (scope outer:Scope)(x:Str)(N M:List Str):Prop where
 kind:scope.kind=.function
 JX:outer.kind=.function
 yk:∀y∈scope.names,y.2≠.cell
 names:∀y∈scope.names,y.2=.local->scope.names.lookup y.1=some .local
 hx:scope.names.lookup x=some .local
 free:∀y∈scope.names,y.2=.free->outer.names.lookup y.1=some .cell
 nl:∀n∈M,(cg scope outer).names.lookup n≠some .local
 ndM:M.Nodup
 nd:N.Nodup
 len:M.length=N.length
 rel:∀i:Nat,i < N.length->M[i]?=N[i]?\/M[i]?=some U7
 em:(cg scope outer).names.lookup U7=none
theorem b9.mem {scope outer:Scope}{x:Str}{N M:List Str}(S:b9 scope outer x N M){n:Str}{k:NameKind}(h:(cg scope outer).names.lookup n=some k)(hk:k=.cell\/k=.free) :
  k=.cell/\(n,VM)∈scope.names/\outer.names.lookup n=some .cell:=by
 obtain⟨⟨n',k'⟩,hm,e⟩:=List.mem_map.mp (VV h);dsimp only at e
 by_cases hc:(k' == VM && outer.kind == .function && outer.names.lookup n' == some .cell)=true
 ·rw[if_pos hc]at e;injection e with e1 e2
  subst e1 e2;rw[gc,gc]at hc;have hk':k'=.free:=beq_iff_eq.mp hc.1.1;subst hk';exact⟨rfl,hm,beq_iff_eq.mp hc.2⟩
 ·rw[if_neg hc]at e;injection e with e1 e2
  subst e1 e2;rcases hk with z | z
  ·exact absurd z (S.yk _ hm)
  ·subst z
   exfalso
   refine hc ?_;rw[S.free _ hm rfl,S.JX];rfl
theorem BN {env:Env}{f:Str×NameKind->List (Str×Addr)->Sem (ForInStep (List (Str×Addr)))}
  (h1:∀n k r,k≠VM->f (n,k) r=pure (.yield r)) (h2:∀n r c,env.cells.lookup n=some c->f (n,.free) r=pure (.yield ((n,c)::r))) :
  ∀(ns:List (Str×NameKind)) (acc:List (Str×Addr)),(∀y∈ns,y.2=.free->∃c,env.cells.lookup y.1=some c)->(∀n c,acc.lookup n=some c->env.cells.lookup n=some c) ->
   ∃cl,(forIn ns acc f:Sem (List (Str×Addr)))=pure cl/\(∀n c,cl.lookup n=some c->env.cells.lookup n=some c)/\(∀n c,acc.lookup n=some c->(cl.lookup n).isSome=true)/\∀y∈ns,y.2=.free->(cl.lookup y.1).isSome=true
 |[],acc,_,ha=>⟨acc,by simp,ha,λn c e=>by rw[e];rfl,λy hy=>nomatch hy⟩
 | (n,k)::ns,acc,hn,ha=>by
  by_cases hk:k=VM
  ·subst hk;obtain⟨c,hc⟩:=hn (n,.free) kb rfl;have ha':∀m d,((n,c)::acc).lookup m=some d->env.cells.lookup m=some d:=λm d e=>by
    rw[List.lookup_cons]at e;split at e
    ·rename_i hb;have:m=n:=beq_iff_eq.mp hb;subst this;rw[<-ra e];exact hc
    ·exact ha m d e
   obtain⟨cl,e,p1,p2,p3⟩:=BN h1 h2 ns ((n,c)::acc) (λy hy=>hn y (kr _ hy)) ha'
   have hnn:(cl.lookup n).isSome=true:=p2 n c (by simp[List.lookup_cons])
   refine⟨cl,?_,p1,λm d em=>?_,λy hy hf=>?_⟩
   ·rw[List.forIn_cons,h2 n acc c hc,pure_bind];exact e
   ·by_cases hm:m=n
    ·subst hm;exact hnn
    ·exact p2 m d (by rw[List.lookup_cons,show (m == n)=false from beq_eq_false_iff_ne.mpr hm];exact em)
   ·rcases List.mem_cons.mp hy with rfl | hy
    ·exact hnn
    ·exact p3 y hy hf
  ·obtain⟨cl,e,p1,p2,p3⟩:=BN h1 h2 ns acc (λy hy=>hn y (kr _ hy)) ha
   refine⟨cl,?_,p1,p2,λy hy hf=>?_⟩
   ·rw[List.forIn_cons,h1 n k acc hk,pure_bind];exact e
   ·rcases List.mem_cons.mp hy with rfl | hy
    ·exact absurd hf hk
    ·exact p3 y hy hf
theorem pN {scope:Scope}{env:Env}(h:∀y∈scope.names,y.2=.free->∃c,env.cells.lookup y.1=some c) :
  ∃cl,closureFor scope env=pure cl/\(∀n c,cl.lookup n=some c->env.cells.lookup n=some c)/\∀y∈scope.names,y.2=.free->(cl.lookup y.1).isSome=true:=by
 unfold closureFor;obtain⟨cl,e,p1,_,p3⟩:=BN (env:=env) (f:=λx r=>match x with | (name,kind)=>if (kind == VM)=true then do let a <-cellOf env name;pure (.yield ((name,a)::r)) else pure (.yield r))
  (λn k r hk=>by
   have:(k == VM)=false:=beq_eq_false_iff_ne.mpr hk;simp only[this,Bool.false_eq_true,if_false])
  (λn r c hc=>by
   simp only[beq_self_eq_true,if_true];unfold cellOf;rw[hc];rw[pure_bind])
  scope.names [] h (λn c e=>by simp at e)
 refine⟨cl,?_,p1,p3⟩;have e':=congrArg (λz:Sem (List (Str×Addr))=>z >>= λcs=>pure cs) e
 simp only[pure_bind]at e';exact e'
def gb (X:Cx)(x:Str)(M:List Str)(scope:Scope)(cl:List (Str×Addr))(C:Addr)(s:Shared)(H:Hp)(fp:List Addr):Cx :=
 { X with N:=x::M,s₀:=s,H₀:=H,env:=compEnvC scope cl C X.env,outer:=X.stack,ex:=fp,fn:=λ_=>false,pn:=[],xe:=λ_ _=>False }
def lq (J:It)(te:TE)(σ:St)(D:Addr)(H1:Hp)(Q:VK):Prop:=∃W:Nat->Nat->List V->Hp->Prop,(∃m,W 0 m [] (upd H1 D (.lst [])))/\∀i m ys H2,W i m ys H2 ->
 H2 D=some (.lst ys)/\((J.stop i H2/\Q (.ref D) H2)\/(J.go i H2/\ys.length < de/\∀x H3,J.yld i H2 x H3->te (some x::σ) H3 λy H4=>H4 D=some (.lst ys)/\∃m',m' < m/\W (i+1) m' (ys++[y]) (upd H4 D (.lst (ys++[y])))))
def JY (wi:TI)(te:TE):TE:=λσ H Q=>wi σ H λJ H1=>∀D,H1 D=none->lq J te σ D H1 Q
section
variable{X:Cx}{pins:List (Addr×Obj)}{σ:St}{H:Hp}{s:Shared}{elt iter:Expr}{x:Str}{px pos:Pos}{scope:Scope}{wi:TI}{te:TE}{Q:VK}{M:List Str}
theorem MI {cl:List (Str×Addr)}{C:Addr}{fp:List Addr}(S:b9 scope X.env.scope x X.N M)(I:Inv X pins σ H s)(hC:s.heap.objs.size<=C)(p1:∀n c,cl.lookup n=some c->X.env.cells.lookup n=some c)
  (p3:∀y∈scope.names,y.2=.free->(cl.lookup y.1).isSome=true) (f2:∀b∈fp,dh X pins H b) (fo:∀b∈fp,b < s.heap.objs.size):(gb X x M scope cl C s H fp).Ok where
 mod:=I.ok.mod
 kind:=S.kind
 glob:=I.ok.glob
 blt:=I.ok.blt
 above:=hC
 inj:=λy z c h1 h2=>I.ok.inj y z c (p1 y c h1) (p1 z c h2)
 has:=λy hy=>by
  have hy':(cg scope X.env.scope).names.lookup y=some .cell\/(cg scope X.env.scope).names.lookup y=some .free:=hy;have hm:(y,VM)∈scope.names:=by
   rcases hy' with z | z
   ·exact(S.mem z (.inl rfl)).2.1
   ·exact(S.mem z (.inr rfl)).2.1
  exact Option.isSome_iff_exists.mp (p3 _ hm rfl)
 cab:=λy c h=>absurd h gr
 hd:=I.ok.hd
 frames:=I.ok.frames
 stk:=.inl rfl
 exf:=λb hb=>⟨sr (tm (fo b hb) hC),λy c e=>(f2 b hb).2.2.2.2.1 y c (p1 y c e)⟩
 bs:=I.bs
 bsz:=ku I.ok.bsz I.sz
 sL:=λb o e hb=>by
  rcases (f2 b hb).2.2.2.1 with z | z
  ·exact I.ok.sL b o e z
  ·exact absurd (tm (kq (I.ok.bs b o e).1) z) (WC _)
 sM:=λb hb z=>by
  rcases List.mem_cons.mp (I.x8 b z) with e | e
  ·exact(f2 b hb).2.1 e
  ·exact(f2 b hb).2.2.1 e
 jJ:=I.stack
 frf:=I.xO
theorem JZ {cl:List (Str×Addr)}{C D:Addr}{fp:List Addr}{h₁:Heap}{tk:Nat}{m:Str->Option Value}(S:b9 scope X.env.scope x X.N M)(I:Inv X pins σ H s)(hC:s.heap.objs.size<=C)(hD:s.heap.objs.size<=D)(hDC:D≠C)
  (p1:∀n c,cl.lookup n=some c->X.env.cells.lookup n=some c)
  (p3:∀y∈scope.names,y.2=.free->(cl.lookup y.1).isSome=true) (f2:∀b∈fp,dh X pins H b) (fo:∀b∈fp,b < s.heap.objs.size)
  (old:∀b o,s.heap.get? b=some o->h₁.get? b=some o) (hn:h₁.Ns C m) (hl:h₁.get? D=some { cls:=.type "list",data:=.seq ([]:List Value).toArray }) :
  Inv (gb X x M scope cl C s H fp) [] (none::σ) (upd H D (.lst [])) { s with heap:=h₁,toks:=tk }:=by
 have cellK:∀c v,s.heap.IsCell c v->h₁.IsCell c v:=λc v ⟨o,e,d⟩=>⟨o,old c o e,d⟩
 refine⟨MI S I hC p1 p3 f2 fo,rfl,I.bare,Un.laid old hD (I.hok.fresh hD),⟨m,hn,λi n v h1 h2 h3=>?_⟩,λy c e=>?_,?_,λy c e=>?_,λp hp=>absurd (show p∈([]:List (Addr×Obj)) from hp) (by simp),I.hok.laid old hD ⟨Vg _,[],0,.nil,hl⟩,?_⟩
 ·cases i with
  |zero =>
   have h2':(none:Option V)=some v:=by simpa using h2
   cases h2'
  |succ i =>
   have h0':M[i]?=some n:=by simpa [gb] using h1
   have h2':σ[i]?=some (some v):=by simpa using h2
   have h3':(cg scope X.env.scope).names.lookup n=some .local\/(cg scope X.env.scope).names.lookup n=some .cell\/(cg scope X.env.scope).names.lookup n=some .free:=h3;have iO:(cg scope X.env.scope).names.lookup n=some .cell/\(n,VM)∈scope.names/\X.env.scope.names.lookup n=some .cell:=by
    rcases h3' with z | z | z
    ·exact absurd z (S.nl n (ma h0'))
    ·exact⟨z,(S.mem z (.inl rfl)).2⟩
    ·exact absurd (S.mem z (.inr rfl)).1 (by decide)
   have h1':X.N[i]?=some n:=by
    have hi:i < X.N.length:=by rw[<-S.len];exact(List.getElem?_eq_some_iff.mp h0').1
    rcases S.rel i hi with z | z
    ·rw[<-z];exact h0'
    ·rw[h0']at z;have e:n=U7:=ra z;rw[e,S.em]at iO;cases iO.1
   obtain⟨m0,hn0,hl0⟩:=I.loc;obtain⟨u,r,l⟩:=hl0 i n v h1' h2' (.inr (.inl iO.2.2));refine⟨u,r,.inr ⟨.inl iO.1,?_⟩⟩;obtain⟨c,hc⟩:=Option.isSome_iff_exists.mp (p3 _ iO.2.1 rfl);refine⟨c,hc,?_⟩;rcases l with ⟨k,_⟩ | ⟨_,c',hc',z⟩
   ·have k':X.env.scope.names.lookup n=some .local:=k;rw[iO.2.2]at k';cases k'
   ·rw[p1 n c hc]at hc';cases hc';exact cellK c _ z
 ·obtain⟨v,z⟩:=I.cell y c (p1 y c e);exact⟨v,cellK c v z⟩
 ·show (upd H D (.lst [])) C=none;rw[ax (UU hDC)];exact I.hok.fresh hC
 ·obtain⟨v,z⟩:=I.cell y c (p1 y c e);rw[ax (sr (tm z.lt hD))];exact I.f9 y c (p1 y c e)
 ·show (none::σ).length=(x::M).length;rw[kf,kf,I.len,S.len]
theorem A1 {cl:List (Str×Addr)}{RR:Value->Addr->Result->Shared->Prop}(S:b9 scope X.env.scope x X.N M)(hc:X.calm=true)(hi:PI X (.Name x px) iter wi)
  (he:∀cl C s H fp,PE (gb X x M scope cl C s H fp) elt te) (I:Inv X pins σ H s) (h:JY wi te σ H Q)
  (p1:∀n c,cl.lookup n=some c->X.env.cells.lookup n=some c) (p3:∀y∈scope.names,y.2=.free->(cl.lookup y.1).isSome=true)
  (hRR:∀D C H' s' o m,Inv X (pins++[(C,o)]) σ H' s'->s'.heap.get? C=some o->s'.heap.Ns C m->X.s₀.heap.objs.size<=C->(∀y c,X.env.cells.lookup y=some c->c≠C)->(∀p∈X.pn++pins,p.1≠C)->Q (.ref D) H'->RR (.ref D) C (.ok .next) s') :
  wpAny (model X.prog X.w) X.A (eval iter X.env) (λxv s₁=>wpAny (model X.prog X.w) X.A (pyIter xv) (λit s₂=>wpAny (model X.prog X.w) X.A (newList []) (λacc s₃ =>
   wpAny (model X.prog X.w) X.A (newFunctionEnv scope X.env.globals cl [] X.env.qual none .none (some X.env)) (λAf s₄ =>
    codeAny (model X.prog X.w) X.A (.compStart (.ListComp elt [⟨.Name x px,iter,[],0⟩] scope pos) 0 it acc { Af with scope:=relabel scope X.env }) (RR acc Af.locals) s₄) X.xe s₃) X.xe s₂) X.xe s₁) X.xe s:=by
 refine thn (hi pins s σ H _ I h) λv s1 h1=>thn h1 λitv s2 h2=>?_
 obtain⟨it,fp,tn,J,H2,rfl,I2,T,st2,f2,q⟩:=h2;refine wpAny_newObj_type (wpAny_newFunctionEnv S.yk (by intro y hy;simp at hy) (λh₁ hns₁ hsb₁=>?_) S.kind)
 dsimp only at hns₁ hsb₁ ⊢;generalize hHH:s2.heap.push { cls:=.type "list",dict:=none,data:=.seq ([]:List Value).toArray }=HH at hns₁ hsb₁ ⊢;have hCs:HH.objs.size=s2.heap.objs.size+1:=by rw[<-hHH,VR]
 have hDC:s2.heap.objs.size≠HH.objs.size:=by rw[hCs];exact sr (Wv _)
 have J0:s2.heap.objs.size<=HH.objs.size:=by rw[hCs];exact VZ _
 have below:∀b,b < s2.heap.objs.size->b≠HH.objs.size:=λb hb=>by rw[hCs];exact sr (Wk hb)
 have old:∀b o,s2.heap.get? b=some o->h₁.get? b=some o:=λb o e=>hsb₁.extBut b o (below b (kq e)) (fu _ (hHH▸fu _ e))
 have HY:h₁.get? s2.heap.objs.size=some { cls:=.type "list",data:=.seq ([]:List Value).toArray }:=hsb₁.extBut _ _ hDC (fu _ (hHH▸si _ rfl));have fo:∀b∈fp,b < s2.heap.objs.size:=λb hb=>by
  obtain⟨o,e,_⟩:=T.obj _ _ st2 b hb;exact kq e
 have IY:=JZ (tk:=s2.toks+([]:List (Str×Value)).length) S I2 J0 (kg _) hDC p1 p3 f2 fo old hns₁ HY;have st1:tn 0 h₁:=T.keep _ _ _ st2 λb _ o e=>old b o e
 obtain⟨W,⟨m0,w0⟩,turn⟩:=q _ (I2.hok.fresh (kg _));generalize hC:HH.objs.size=C at *;generalize hDD:s2.heap.objs.size=D at *;have ndY:(gb X x M scope cl C s2 H2 fp).N.Nodup:=by
  refine List.nodup_cons.mpr ⟨λhm=>S.nl x hm (lookup_relabel_local S.hx),S.ndM⟩
 have stat:∀ {H':Hp},(∀b∈fp,H' b=none)->∀b∈fp,dh (gb X x M scope cl C s2 H2 fp) [] H' b:=λhn b hb =>
  ⟨hn b hb,below b (fo b hb),IY.ok.sM b hb,.inl hb,λy c e=>(f2 b hb).2.2.2.2.1 y c (p1 y c e),λp hp=>absurd (show p∈([]:List (Addr×Obj)) from hp) (by simp)⟩
 have loop:codeAny (model X.prog X.w) X.A (.compLoop (.ListComp elt [⟨.Name x px,iter,[],0⟩] scope pos) 0 (.ref it) (.ref D) (compEnvC scope cl C X.env)) (RR (.ref D) C) { s2 with heap:=h₁,toks:=s2.toks+([]:List (Str×Value)).length }:=by
  refine codeAny_compLoop_tests (λn s'=>∃i v0 ys H',Inv (gb X x M scope cl C s2 H2 fp) [] (v0::σ) H' s'/\tn i s'.heap/\(∀b∈fp,H' b=none)/\W i n ys H') ?_ m0 ⟨0,none,[],_,IY,st1,λb hb=>?_,w0⟩
  ·rintro n s3 ⟨i,v0,ys,H3,I3,st3,fr3,w3⟩;obtain⟨hDl,hw⟩:=turn i n ys H3 w3;rcases hw with ⟨stop,qn⟩ | ⟨go,hsz,step⟩
   ·refine thn (T.done (gb X x M scope cl C s2 H2 fp) rfl rfl rfl hc i [] s3 _ H3 _ I3 (stat fr3) st3 stop) λr s4 ⟨hr,I4⟩=>?_
    subst hr;obtain⟨m4,hn4,_⟩:=I4.loc;obtain⟨oC,es4,ep4,e4,r4⟩:=id hn4;have HZ:s2.heap.objs.size<=C:=by rw[hDD];exact J0
    have IX:Inv X pins σ H3 s4:=I2.GJ (ch:=fp) I4.os I4.base I4.hok I4.bare λb hb=>⟨(f2 b hb).2.2.2.1,(f2 b hb).2.1,(f2 b hb).2.2.2.2.1,(f2 b hb).2.2.2.2.2⟩
    have fC:=I2.uz (H':=H3) HZ I4.free;have IX2:Inv X (pins++[(C,oC)]) σ H3 s4:=IX.pK λp hp=>(List.mem_append.mp hp).elim (λz=>IX.pin p (di _ z)) λz=>by
     have e:p=(C,oC):=by simpa using z
     subst e;exact⟨e4,fC.1,fC.2.1,fC.2.2.1,λv z=>by rw[r4.1]at z;cases z⟩
    exact hRR D C H3 s4 oC m4 IX2 e4 hn4 (ku I2.sz HZ) fC.2.2.2.2.1 fC.2.2.2.2.2 qn
   ·refine thn (T.item (gb X x M scope cl C s2 H2 fp) rfl rfl rfl hc i [] s3 _ H3 _ I3 (stat fr3) st3 go) λr s4 ⟨u,hr,h4⟩=>?_
    subst hr;have e0:∀k:Sem Unit,(letOwnedTupleGo (.Name x px) (.ref it) u >>= λ_=>k)=k:=λk=>by
     rw[show letOwnedTupleGo (.Name x px) (.ref it) u=pure () from rfl,pure_bind]
    show wpAny _ _ (assign (.Name x px) (compEnvC scope cl C X.env) u) _ _ s4;rw[<-e0 (assign (.Name x px) (compEnvC scope cl C X.env) u)];refine cb (thn h4 λ_ s5 ⟨xv,H5,I5,r5,y5,st5,fr5⟩=>?_)
    have I5':=I5.pinned (stat fr5) (T.obj _ _ st5);have hxl:(gb X x M scope cl C s2 H2 fp).env.scope.names.lookup x=some .local:=lookup_relabel_local S.hx;refine wpAny_assign_Name (hX (X:=gb X x M scope cl C s2 H2 fp) (i:=0) I5' ndY rfl (ro hxl) r5 (λs6 I6=>?_) (.inr hxl))
    refine wpAny_tests_nil ?_;rw[if_pos rfl];refine ki (he cl C s2 H2 fp _ s6 _ H5 _ I6 (step xv H5 y5)) (λy s7 ⟨yv,H7,I7,r7,hD7,m',hm',w7⟩=>?_) (λ_ _ f=>f.elim)
    refine ki (eP (X:=gb X x M scope cl C s2 H2 fp) _ s7 _ H7 (.ref D) [yv] (.ref D) [y] (λ_ H8=>H8=upd H7 D (.lst (ys++[yv]))) I7 rfl (.cons r7 .nil) ⟨D,ys,yv,rfl,rfl,hD7,hsz,rfl⟩)
     (λ_ s8 ⟨_,H8,I8,_,e8⟩=>?_) (λ_ _ f=>f.elim)
    subst e8;refine⟨m',hm',i+1,some xv,ys++[yv],_,I8.cP,T.keep _ _ _ st5 λb hb o e=>(I8.pin (b,o) (di _ (di _ (ez hb e)))).1,λb hb=>?_,w7⟩
    obtain⟨o,e,d⟩:=T.obj _ _ st5 b hb;exact(I8.pin (b,o) (di _ (di _ (ez hb e)))).2.1
  ·show (upd H2 D (.lst [])) b=none;rw[ax (sr (fo b hb))];exact(f2 b hb).1
 exact codeAny_compStart_list loop (T.self _ 0 _ _ _ st1 loop)
theorem jP (S:b9 scope X.env.scope x X.N M)(hc:X.calm=true)(hi:PI X (.Name x px) iter wi)(he:∀cl C s H fp,PE (gb X x M scope cl C s H fp) elt te)
  (hs:∀x,foldedSetIterable iter X.env x=pure x:=by intro _;rfl):PE X (.ListComp elt [⟨.Name x px,iter,[],0⟩] scope pos) (JY wi te):=by
 intro pins s σ H Q I h;obtain⟨cl,ym,p1,p3⟩:=pN (scope:=scope) (env:=X.env) (λy hy hf=>I.ok.has y.1 (.inl (S.free y hy hf)))
 rw[eval_ListComp];refine wpAny_comprehension_free (use:=none) rfl hs ym S.kind S.names (A1 (RR:=λacc C=>compPost (model X.prog X.w) X.A X.xe none (EP X pins σ Q) acc C) S hc hi he I h p1 p3 ?_)
 intro D C H' s' o m I' e hn h0 h1 h2 q;refine⟨m,hn,λh' hs'=>?_⟩
 have pC:=I'.pin (C,o) (di _ (di _ (by simp)))
 have IX:Inv X pins σ H' s':=I'.cP;exact⟨.ref D,H',IX.turned (t':=s'.toks) (λb ob hb e=>(hs'.2 b hb).trans e) pC.2.1 pC.2.2.1 (.inr h0) h1 h2,rfl,q⟩
theorem FH {i:Nat}{y:Str}{py J1:Pos}(S:b9 scope X.env.scope x X.N M)(hc:X.calm=true)(hj:X.N[i]?=some y)(hy:Loc X.env.scope y)(hi:PI X (.Name x px) iter wi)(he:∀cl C s H fp,PE (gb X x M scope cl C s H fp) elt te)
  (hsw:swapsWith (.ListComp elt [⟨.Name x px,iter,[],0⟩] scope pos) (some (.Name y py)) J1.line X.env=pure true:=by rfl)
  (hf:X.fn y=true\/X.env.scope.names.lookup y=some .local:=by first | exact .inl rfl | exact .inr rfl | assumption)
  (hs:∀x,foldedSetIterable iter X.env x=pure x:=by intro _;rfl):PS X (.Assign [.Name y py] (.ListComp elt [⟨.Name x px,iter,[],0⟩] scope pos) J1) (Mw (JY wi te) (sN i)):=by
 intro pins s σ H D I h;obtain⟨cl,ym,p1,p3⟩:=pN (scope:=scope) (env:=X.env) (λy hy hf=>I.ok.has y.1 (.inl (S.free y hy hf)))
 rw[exec_Assign_Name_used _ _ _ _ hsw];refine cb (Va (cb ?_));show wpAny _ _ (do let _ <-comprehension (.ListComp elt [⟨.Name x px,iter,[],0⟩] scope pos) scope X.env _ (newList []) false (eval iter X.env) (some (assign (.Name y py) X.env))) _ _ s
 refine cb (ki (wpAny_comprehension_free (use:=some (assign (.Name y py) X.env)) (Q:=λ_ s'=>SP X pins D .next s') rfl hs ym S.kind S.names
  (A1 (RR:=λacc C=>compPost (model X.prog X.w) X.A X.xe (some (assign (.Name y py) X.env)) (λ_ s'=>SP X pins D .next s') acc C) S hc hi he I h p1 p3 ?_)) (λ_ s' hq=>ka (ka hq)) λ_ _ e=>e)
 intro Dd C H' s' o m I' e hn h0 h1 h2 q;show wpAny _ _ (assign (.Name y py) X.env (.ref Dd)) _ _ s';refine wpAny_assign_Name (hX I' S.nd hj hy (v:=.ref Dd) rfl (λs'' I''=>?_) hf)
 have pC:=I''.pin (C,o) (di _ (di _ (by simp)))
 obtain⟨o',es,ep,e0,r⟩:=hn;rw[e]at e0;cases e0;have IX:Inv X pins _ H' s'':=I''.cP;refine⟨m,⟨o,es,ep,pC.1,r⟩,λh' hs'=>?_⟩
 exact⟨_,H',IX.turned (t':=s''.toks) (λb ob hb e=>(hs'.2 b hb).trans e) pC.2.1 pC.2.2.1 (.inr h0) h1 h2,q⟩
def dF (D:Addr)(n:Nat)(Pv:Nat->List V->Hp->Prop)(i:Nat)(ys:List V):VK:=λy H4=>H4 D=some (.lst ys)/\∃m',m' < n - i/\m'=n - (i+1)/\i+1<=n/\Pv (i+1) (ys++[y]) (upd H4 D (.lst (ys++[y])))
theorem dF.mk {D:Addr}{n:Nat}{Pv:Nat->List V->Hp->Prop}{i:Nat}{ys:List V}{y:V}{H4:Hp}(hi:i < n)(h1:H4 D=some (.lst ys))(h2:Pv (i+1) (ys++[y]) (upd H4 D (.lst (ys++[y])))):dF D n Pv i ys y H4 :=
 ⟨h1,n - (i+1),by omega,rfl,hi,h2⟩
theorem pO {K:ba}{a D:Addr}{xs:List V}{te:TE}{Q:VK}{σ:St}{H1:Hp}(Pv:Nat->List V->Hp->Prop)(h0:Pv 0 [] (upd H1 D (.lst [])))(hz:xs.length<=de)
  (hl:∀i ys H2,i<=xs.length->Pv i ys H2->SqL K H2 a xs/\H2 D=some (.lst ys)/\ys.length=i)
  (hs:∀i x ys H2,xs[i]?=some x->Pv i ys H2->te (some x::σ) H2 (dF D xs.length Pv i ys)) (hd:∀ys H2,Pv xs.length ys H2->Q (.ref D) H2) :
  lq (Itl K a) te σ D H1 Q:=by
 refine⟨λi m ys H=>m=xs.length - i/\i<=xs.length/\Pv i ys H,⟨xs.length,by simp,Vg _,h0⟩,?_⟩
 rintro i m ys H2 ⟨rfl,hi,p⟩;obtain⟨q,q2,q3⟩:=hl i ys H2 hi p;refine⟨q2,?_⟩
 by_cases hlt:i < xs.length
 ·refine .inr ⟨⟨xs,xs[i],q,by simp[hlt]⟩,by omega,λx H3 y=>?_⟩
  obtain⟨e,y⟩:=y;subst e;exact hs i x ys _ (y xs q) p
 ·have e:i=xs.length:=by omega
  subst e;exact .inl ⟨⟨xs,q,kg _⟩,hd ys H2 p⟩
end
structure MkN (K:ba)(C:Addr):Prop where
 makes:PySem.W.makesIn K C=true
 init:UW K (.ref C) "__init__"=some (some (.builtin "object.__init__"))
 kp:Wa K (.ref C)=true
def O9 (C:Addr):TE:=λ_ H Q=>∀x dx,H x=none->H dx=none->dx≠x->Q (.ref x) (upd (upd H dx (.own x)) x (.ins C dx []))
section
variable{X:Cx}{C:Addr}{x:Str}{p pos:Pos}
theorem lu (M:MkN X.K C)(hg:Gl X x)(hm:X.mg x=some (.ref C))(hdb:(x == ("__debug__":Str))=false:=by decide):PE X (.Call (.Name x p) [] [] pos) (O9 C):=by
 intro pins s σ H Q I h;refine Vf (eN I hg hm ?_ hdb);refine Wu I.kIn M.kp (V1 ?_);have I2:=Inv.made (C:=C) I;have q:=h (s.heap.objs.size+1) s.heap.objs.size (I.hok.fresh (VZ _)) (I.hok.fresh (kg _)) (sr (Wv _));have fin:EP X pins σ Q (.ref (s.heap.objs.size+1)) { s with heap:=(s.heap.push Vh).push (Vp C s.heap.objs.size) }:=⟨.ref _,_,I2,rfl,q⟩
 have X1:=I.kIn;have e2:((s.heap.push Vh).push (Vp C s.heap.objs.size)).get? (s.heap.objs.size+1)=some (Vp C s.heap.objs.size):=by
  have:=si (s.heap.push Vh) (o:=Vp C s.heap.objs.size) rfl
  rwa [VR]at this
 clear I2 q h I;obtain⟨hh,g,d,t,os⟩:=s;have Y:=PySem.W.makes_of (M:=model X.prog X.w) X1 M.makes;refine PySem.W.make_core Y (Wi X1 M.init) (λself=>PySem.W.Looks.of_pure (PySem.W.oi_bind self)) (.inr ⟨rfl,rfl⟩) ?_
 have t1:PySem.W.Looks (model X.prog X.w) ((hh.push Vh).push (Vp C hh.objs.size)) (typeOf (.ref (hh.objs.size+1))) (.ref C):=(PySem.W.Looks.ld e2).andThen .now;have t2:PySem.W.Looks (model X.prog X.w) ((hh.push Vh).push (Vp C hh.objs.size)) (isInstance (.ref (hh.objs.size+1)) (.type "object")) true:=t1.andThen (Y.top.keeps λb o e=>fu _ (fu _ e))
 refine codeAny_call_builtin PySem.W.oi_plain PySem.W.entry_oi (@PySem.W.check_slot (model X.prog X.w) _ _ _ "object.__init__" "object" "__init__" (.ref (hh.objs.size+1)) [] [] _ PySem.W.oi_kind PySem.W.oi_split t2 (PySem.W.oi_args (.ref (hh.objs.size+1))) ?_);show wpAny _ _ (Wz.«object.__init__» ⟨[.ref (hh.objs.size+1)],[]⟩) _ _ _;rw[PySem.W.oi_run];exact ka (And.intro rfl fin)
end
structure Pa (P:Params)(K:ba)(a:Addr):Prop where
 ex:∃es n,K.lookup a=some ⟨.type "dict",none,.dict es n,#[]⟩/\PySem.W.KeysLit P es.toList
section
variable{X:Cx}
theorem J2:IxR X (λx y H Q=>∃a z v u,x=.ref a/\y=.str z/\Pa X.w.params X.K a/\V7 X.K a z=some (some u)/\RelV v u/\Q v H):=by
 intro value slice pins s σ H x y v u Q I rx ry h hs;obtain⟨a,z,w',u',rfl,rfl,⟨es,n,hl,hk⟩,e,r,q⟩:=h;cases rx;obtain⟨t,rfl⟩:=ry;have hm:=PySem.W.mapOf_K (prog:=X.prog) I.kIn hl hk;exact tail_any hm.typeIs slot_dict_getitem.lookup (wpAny_getItem_of (strKind_is X.prog X.w z t) hm (PySem.W.find_K hl e) ⟨w',H,I.tok _,r,q⟩) hs
end
theorem MJ (bs:List Bool):(Wy bs.length).any (λi=>bs.getD i false)=bs.any id:=by
 have e:(Wy bs.length).map (λi=>bs.getD i false)=bs:=by
  apply List.ext_getElem
  ·simp
  ·intro i h1 h2;simp[h2]
 calc _=((Wy bs.length).map (λi=>bs.getD i false)).any id:=by rw[List.any_map];rfl
  _=_:=by rw[e]
theorem MK (bs:List Bool):(Wy bs.length).all (λi=>bs.getD i false)=bs.all id:=by
 have e:(Wy bs.length).map (λi=>bs.getD i false)=bs:=by
  apply List.ext_getElem
  ·simp
  ·intro i h1 h2;simp[h2]
 calc _=((Wy bs.length).map (λi=>bs.getD i false)).all id:=by rw[List.all_map];rfl
  _=_:=by rw[e]
theorem yn:∀ {bs:List Bool} {us:List Value},Vals (bs.map V.bl) us->us=bs.map VW
 |[],_,.nil=>rfl
 |b::bs,_,.cons r t=>by
  cases r;rw[yn t];rfl
section
variable{X:Cx}
theorem J3 (hc:X.calm=true):eh X (.builtin "any") (λxs H Q=>∃(p:Addr) (bs:List Bool),xs=[.ref p]/\SqL X.K H p (bs.map V.bl)/\Q (.bl (bs.any id)) H):=by
 intro pins s σ H xs us Q I r h;obtain⟨p,bs,rfl,hq,q⟩:=h;obtain⟨u,rfl,rx⟩:=vals1 r;cases rx;obtain⟨its,rv,pl,hz⟩:=I.list hq;obtain rfl:=yn rv;refine call_any_walk (wpAny_pyIter_list pl.isList ?_);obtain⟨o,n,e,_⟩:=id pl;have hlt:p < s.heap.objs.size:=kq e;refine⟨s.heap.objs.size,_,_,_,_,_,λi=>bs.getD i false,rfl,Walks.list (A:=X.A.in1) (show X.A.in1.handled=none from I.ok.hd hc) s.heap.objs.size p (sr hlt) (bs.map VW).toArray,⟨⟨_,si _ rfl,rfl,rfl⟩,pl.isList.at λo e=>fu _ e⟩,?_,λh' tk kk=>?_⟩
 ·intro i v s' Q' E' hv q';have hv':v=VW (bs.getD i false):=by
   have h2:(bs.map VW)[i]?=some v:=by simpa using hv
   rw[U5]at h2;cases hb:bs[i]? with
   |none=>rw[hb]at h2;cases h2
   |some b =>
    rw[hb]at h2;rw[UY,hb];exact(ra h2).symm
  rw[hv'];exact wpAny_truthy_bool q'
 ·have I1:Inv X pins σ H { s with heap:=h',toks:=tk }:=I.kept λb o e=>kk b o (by simp;exact sr (kq e)) (fu _ e)
  refine⟨.bl _,H,I1,rfl,?_⟩;have e1:(bs.map VW).toArray.size=bs.length:=by simp
  rw[e1,MJ];exact q
theorem sW (hc:X.calm=true):eh X (.builtin "all") (λxs H Q=>∃(p:Addr) (bs:List Bool),xs=[.ref p]/\SqL X.K H p (bs.map V.bl)/\Q (.bl (bs.all id)) H):=by
 intro pins s σ H xs us Q I r h;obtain⟨p,bs,rfl,hq,q⟩:=h;obtain⟨u,rfl,rx⟩:=vals1 r;cases rx;obtain⟨its,rv,pl,hz⟩:=I.list hq;obtain rfl:=yn rv;refine call_all_walk (wpAny_pyIter_list pl.isList ?_);obtain⟨o,n,e,_⟩:=id pl;have hlt:p < s.heap.objs.size:=kq e;refine⟨s.heap.objs.size,_,_,_,_,_,λi=>bs.getD i false,rfl,Walks.list (A:=X.A.in1) (show X.A.in1.handled=none from I.ok.hd hc) s.heap.objs.size p (sr hlt) (bs.map VW).toArray,⟨⟨_,si _ rfl,rfl,rfl⟩,pl.isList.at λo e=>fu _ e⟩,?_,λh' tk kk=>?_⟩
 ·intro i v s' Q' E' hv q';have hv':v=VW (bs.getD i false):=by
   have h2:(bs.map VW)[i]?=some v:=by simpa using hv
   rw[U5]at h2;cases hb:bs[i]? with
   |none=>rw[hb]at h2;cases h2
   |some b =>
    rw[hb]at h2;rw[UY,hb];exact(ra h2).symm
  rw[hv'];exact wpAny_truthy_bool q'
 ·have I1:Inv X pins σ H { s with heap:=h',toks:=tk }:=I.kept λb o e=>kk b o (by simp;exact sr (kq e)) (fu _ e)
  refine⟨.bl _,H,I1,rfl,?_⟩;have e1:(bs.map VW).toArray.size=bs.length:=by simp
  rw[e1,MK];exact q
end
def Rp (X:Cx)(pins:List (Addr×Obj))(H:Hp)(h:Heap)(e:Addr)(vs:Array Value):Option Value->Prop
 |none=>vs[1]?=some .none
 |some m=>∃(T:Addr) (oT:Obj) (ts:Array Value),vs[1]?=some (.ref T)/\T≠e/\dh X pins H T/\h.get? T=some oT/\oT.data=.fields ts/\ts[3]?=some m
def TY (X:Cx)(pins:List (Addr×Obj))(H:Hp)(h:Heap)(e:Addr)(vs:Array Value):Prop :=
 vs[2]?=some .none\/∃(c:Addr) (oc:Obj) (ws:Array Value),vs[2]?=some (.ref c)/\c≠e/\dh X pins H c/\h.get? c=some oc/\oc.data=.fields ws/\ws[2]?=some .none
structure Z2 (X:Cx)(pins:List (Addr×Obj))(H:Hp)(h:Heap)(e:Addr)(vs:Array Value):Prop where
 sz:1 < vs.size
 cx:X.xc=true->vs[2]?=some .none
 c1:X.xn=false->TY X pins H h e vs
theorem Z2.move {X X':Cx}{pins Du:List (Addr×Obj)}{H H':Hp}{h h':Heap}{e:Addr}{vs vs':Array Value}(z:Z2 X pins H h e vs)(s:vs'.size=vs.size)(v:vs'[2]?=vs[2]?)(a:X'.xc=true->X.xc=true)(b:X'.xn=false->X.xn=false)
  (k:∀c o ws,c≠e->dh X pins H c->h.get? c=some o->o.data=.fields ws->dh X' Du H' c/\∃o' ws',h'.get? c=some o'/\o'.data=.fields ws'/\ws'[2]?=ws[2]?):Z2 X' Du H' h' e vs':=by
 refine⟨by rw[s];exact z.sz,λq=>v.trans (z.cx (a q)),λq=>?_⟩
 rcases z.c1 (b q) with y | ⟨c,oc,ws,y,ne,f,g,d,w2⟩
 ·exact .inl (v.trans y)
 ·obtain⟨f',o',ws',g',d',w'⟩:=k c oc ws ne f g d;exact .inr ⟨c,o',ws',v.trans y,ne,f',g',d',w'.trans w2⟩
theorem Z2.upT {X:Cx}{pins:List (Addr×Obj)}{H:Hp}{h:Heap}{e T:Addr}{oT:Obj}{vs ts:Array Value}{v:Value}(z:Z2 X pins H h e vs)(hT:h.get? T=some oT)(hd:oT.data=.fields ts):Z2 X pins H (h.update T (Vl (·.setIfInBounds 3 v))) e vs :=
 z.move rfl rfl id id λc o ws ne f g d=>⟨f,by
  by_cases q:c=T
  ·subst q;rw[hT]at g;cases g;rw[hd]at d;cases d;exact⟨_,_,Ve _ hT (Obj.isFreed_of_fields (Obj.data_mapFields hd _)),Obj.data_mapFields hd _,Array.getElem?_setIfInBounds_ne (by decide)⟩
  ·exact⟨o,ws,(U6 _ _ (UU q)).trans g,d,rfl⟩⟩
structure XAt (X:Cx)(pins:List (Addr×Obj))(H:Hp)(h:Heap)(e:Addr)(cls:Value)(xd:Option Addr)(m:Option Value):Prop where
 ok:dh X pins H e
 ex:∃(sl:Array (Option Value)) (vs:Array Value),h.get? e=some ⟨cls,xd,.fields vs,sl⟩/\Z2 X pins H h e vs/\Rp X pins H h e vs m
def MOk (_:Cx)(m:Option Value):Prop:=m=none\/m=some .none\/∃v,m=some v
def XP (X:Cx)(pins:List (Addr×Obj))(σ:St)(E:XK)(e:Value)(s':Shared):Prop :=
 ∃(ea:Addr) (cls:Value) (xd:Option Addr) (m:Option Value) (H':Hp),e=.ref ea/\Inv X pins σ H' s'/\XAt X pins H' s'.heap ea cls xd m/\MOk X m/\E cls xd H'
abbrev SXK:=St->XK
def XPS (X:Cx)(pins:List (Addr×Obj))(E:SXK)(e:Value)(s':Shared):Prop:=∃σ',XP X pins σ' (E σ') e s'
structure Fr1 (X:Cx):Prop where
 stk:X.stack=X.env::X.outer
 fr:X.env.frame=some X.env.locals
section
variable{X:Cx}{pins:List (Addr×Obj)}{σ:St}{H H':Hp}{s:Shared}{e:Addr}{cls:Value}{xd:Option Addr}{m:Option Value}
theorem dh.Rq {b:Addr}(I:Inv X pins σ H s)(f:dh X pins H' b):b∉frs X.stack:=λz=>by
 rcases List.mem_cons.mp (I.x8 b z) with q | q
 ·exact f.2.1 q
 ·exact f.2.2.1 q
theorem dh.drop {pl:List (Addr×Obj)}{b:Addr}(f:dh X (pins++pl) H b):dh X pins H b :=
 ⟨f.1,f.2.1,f.2.2.1,f.2.2.2.1,f.2.2.2.2.1,λp hp=>f.2.2.2.2.2 p ((List.mem_append.mp hp).elim (λz=>Vc _ z) λz=>di _ (Vc _ z))⟩
theorem dh.clear {b:Addr}(f:dh X pins H b):dh X [] H b :=
 ⟨f.1,f.2.1,f.2.2.1,f.2.2.2.1,f.2.2.2.2.1,λp hp=>f.2.2.2.2.2 p ((List.mem_append.mp hp).elim (λz=>Vc _ z) λz=>nomatch z)⟩
theorem XAt.drop {pl:List (Addr×Obj)}{h:Heap}(x:XAt X (pins++pl) H h e cls xd m):XAt X pins H h e cls xd m:=by
 obtain⟨ok,sl,vs,he,hz,hm⟩:=x;refine⟨ok.drop,sl,vs,he,hz.move rfl rfl id id λc o ws _ f g d=>⟨f.drop,o,ws,g,d,rfl⟩,?_⟩
 cases m with
 |none=>exact hm
 |some m=>obtain⟨T,oT,ts,a,b,c,d⟩:=hm;exact⟨T,oT,ts,a,b,c.drop,d⟩
theorem XAt.clear {h:Heap}(x:XAt X pins H h e cls xd m):XAt X [] H h e cls xd m:=by
 obtain⟨ok,sl,vs,he,hz,hm⟩:=x;refine⟨ok.clear,sl,vs,he,hz.move rfl rfl id id λc o ws _ f g d=>⟨f.clear,o,ws,g,d,rfl⟩,?_⟩
 cases m with
 |none=>exact hm
 |some m=>obtain⟨T,oT,ts,a,b,c,d⟩:=hm;exact⟨T,oT,ts,a,b,c.clear,d⟩
theorem XP.drop {pl:List (Addr×Obj)}{E:XK}{v:Value}(x:XP X (pins++pl) σ E v s):XP X pins σ E v s:=by
 obtain⟨ea,cls,xd,m,H',rfl,I,hx,hm,q⟩:=x;exact⟨ea,cls,xd,m,H',rfl,I.cP,hx.drop,hm,q⟩
theorem Pb {h':Heap}(I:Inv X pins σ H s)(he:dh X pins H e)(k1:∀b o,b∉frs X.stack->b≠e->s.heap.get? b=some o->h'.get? b=some o)
  (k2:∀b o,b≠e->s.heap.get? b=some o->∃sl,h'.get? b=some { o with slots:=sl }):Un (frs X.stack) [e] H H s.heap h'/\HOk X.prog X.w H h':=by
 refine⟨⟨λb o q _ hb hx=>k1 b o hb (by simpa using hx) q,λb o q _ _ hx=>k2 b o (by simpa using hx) q,λb o _ n _=>n,λb o q hx=>?_,λ_ _ q=>q,λ_ _ _ q=>q,λ_ ps q=>⟨#[],by rw[q];simp⟩⟩,λa o q=>?_⟩
 ·obtain⟨sl,z⟩:=k2 b o (by simpa using hx) q
  exact⟨_,z⟩
 ·refine(I.hok a o q).wY (λb u hb r=>k1 b u (λz=>?_) (λz=>?_) r) (λ_ z=>z) (λ_ _ z=>z)
  ·have n:=I.xO b z;rcases hb with rfl | hb
   ·rw[q]at n;cases n
   ·rw[hb]at n;cases n
  ·have n:=he.1;rw[<-z]at n;rcases hb with rfl | hb
   ·rw[q]at n;cases n
   ·rw[hb]at n;cases n
theorem ML {h':Heap}(I:Inv X pins σ H s)(he:dh X pins H e)(k1:∀b o,b∉frs X.stack->b≠e->s.heap.get? b=some o->h'.get? b=some o)
  (k2:∀b o,b≠e->s.heap.get? b=some o->∃sl,h'.get? b=some { o with slots:=sl }):Inv X pins σ H { s with heap:=h' }:=by
 obtain⟨u,ok⟩:=Pb I he k1 k2;refine I.call (g':=s.gens) (t':=s.toks) (d':=s.drawn) u ok I.bare λb hb=>?_
 obtain rfl:b=e:=by simpa using hb
 exact⟨he.2.2.2.1,he.2.1,he.2.2.2.2.1,he.2.2.2.2.2⟩
theorem GU {M:Model}{A:Around}{E:Value->Shared->Prop}{head:Value}{MM:Bool}{sl:Array (Option Value)}{vs:Array Value}{Q:Unit->Shared->Prop}(F:Fr1 X)(hA:A.frames=some X.stack)(I:Inv X pins σ H s)(ok:dh X pins H e)
  (he:s.heap.get? e=some ⟨cls,xd,.fields vs,sl⟩) (hz:Z2 X pins H s.heap e vs) (h:∀s',Inv X pins σ H s'->XAt X pins H s'.heap e cls xd (some (rawInt X.env.locals))->Q () s') :
  wpAny M A (do let a <-frameOf X.env;let pl <-entryPlaceOf X.env.locals MM;let b <-EntryCells.newEntry head a .none (rawInt X.env.locals) .none pl;setField (.ref e) 1 b) Q E s:=by
 have nE:e∉frs X.stack:=ok.Rq I;have fs:=I.stack;rw[F.stk]at hA fs nE;refine cb (wpAny_frameOf_fun hA fs F.fr λh₁ so=>?_)
 refine cb (wpAny_entryPlaceOf λpl hpl=>?_)
 unfold EntryCells.newEntry newFields;refine cb (wpAny_newObj_type ?_ (hpl.sizeOk5 _ _ _ _ _));generalize ht:([head,.ref X.env.locals,.none,rawInt X.env.locals,.none]++(if pl.isEmpty then Vt 6 Vx else pl)).toArray=ts
 have t3:ts[3]?=some (rawInt X.env.locals):=by rw[<-ht];simp
 have e1:h₁.get? e=some ⟨cls,xd,.fields vs,sl⟩:=(so.2.1 e nE).trans he;have e2:=fu (h:=h₁) { cls:=.type "traceback",dict:=none,data:=.fields ts } e1;refine wpAny_setField e2 rfl hz.sz ?_;have sz:h₁.objs.size=s.heap.objs.size:=so.1;have nT:h₁.objs.size≠e:=Nat.ne_of_gt (kq e1);have k0:∀b o,b≠e->h₁.get? b=some o->((h₁.push { cls:=.type "traceback",dict:=none,data:=.fields ts }).update e (Vl (·.setIfInBounds 1 (ky h₁.objs.size)))).get? b=some o:=λb o hb q =>
  (U6 _ _ (UU hb)).trans (fu _ q)
 have I':=ML (h':=(h₁.push { cls:=.type "traceback",dict:=none,data:=.fields ts }).update e (Vl (·.setIfInBounds 1 (ky h₁.objs.size)))) I ok
  (λb o hb hbe q=>k0 b o hbe ((so.2.1 b (by rw[<-F.stk];exact hb)).trans q)) (λb o hbe q=>by obtain⟨sl,z⟩:=so.2.2 b o q;exact⟨sl,k0 b _ hbe z⟩)
 have fT:dh X pins H h₁.objs.size:=I.uz (by rw[sz];exact kg _) (by rw[sz];exact I.fresh)
 have gE:((h₁.push { cls:=.type "traceback",dict:=none,data:=.fields ts }).update e (Vl (·.setIfInBounds 1 (ky h₁.objs.size)))).get? e=some ⟨cls,xd,.fields (vs.setIfInBounds 1 (ky h₁.objs.size)),sl⟩ :=
  Ve (Vl (·.setIfInBounds 1 (ky h₁.objs.size))) e2 rfl
 have gT:((h₁.push { cls:=.type "traceback",dict:=none,data:=.fields ts }).update e (Vl (·.setIfInBounds 1 (ky h₁.objs.size)))).get? h₁.objs.size=some { cls:=.type "traceback",dict:=none,data:=.fields ts } :=
  (U6 _ _ (UU nT)).trans (si h₁ rfl)
 exact h _ I' ⟨ok,sl,_,gE,hz.move (by simp) (Array.getElem?_setIfInBounds_ne (by decide)) id id λc o ws ne f g d=>⟨f,o,ws,k0 c o ne ((so.2.1 c (by rw[<-F.stk];exact f.Rq I)).trans g),d,rfl⟩,h₁.objs.size,_,ts,by simp[hz.sz],nT,fT,gT,rfl,t3⟩
theorem dG {M:Model}{A:Around}{E:Value->Shared->Prop}{f:Option Addr}{mv:Value}{Q:Unit->Shared->Prop}(I:Inv X pins σ H s)(x:XAt X pins H s.heap e cls xd (some mv))
  (h:∀s',Inv X pins σ H s'->XAt X pins H s'.heap e cls xd (some (f.elim .none λb=>rawInt b))->Q () s'):wpAny M A (setFlight (.ref e) f) Q E s:=by
 obtain⟨ok,sl,vs,he,hz,T,oT,ts,h1,nT,fT,hT,hd,h3⟩:=x;unfold setFlight;refine cb (Vw he rfl h1 ?_);rw[if_pos (show (ky T != Vx)=true by simp)]
 have z3:3 < ts.size:=(Array.getElem?_eq_some_iff.mp h3).1;refine wpAny_setField hT hd z3 ?_;have other:∀b,b≠T->(s.heap.update T (Vl (·.setIfInBounds 3 (f.elim Vx λb=>rawInt b)))).get? b=s.heap.get? b:=λb hb=>U6 _ _ (UU hb)
 have I':=I.turned (t':=s.toks) (h':=s.heap.update T (Vl (·.setIfInBounds 3 (f.elim Vx λb=>rawInt b)))) (λb o hb q=>(other b hb).trans q) fT.1 fT.2.1 fT.2.2.2.1 fT.2.2.2.2.1 fT.2.2.2.2.2
 exact h _ I' ⟨ok,sl,vs,(other e (UU nT)).trans he,hz.upT hT hd,T,_,_,h1,nT,fT,Ve _ hT (Obj.isFreed_of_fields (Obj.data_mapFields hd _)),Obj.data_mapFields hd _,by simp[z3]⟩
theorem l5 {M:Model}{A:Around}{E:Value->Shared->Prop}{Q:Unit->Shared->Prop}(F:Fr1 X)(hA:A.frames=some X.stack)(I:Inv X pins σ H s)(x:XAt X pins H s.heap e cls xd m)(hm:MOk X m)
  (h:∀s',Inv X pins σ H s'->XAt X pins H s'.heap e cls xd (some (rawInt X.env.locals))->Q () s'):wpAny M A (noteFrame (.ref e) X.env) Q E s:=by
 obtain⟨ok,sl,vs,he,hz,hv⟩:=x;unfold noteFrame;simp only[F.fr];cases m with
 |none =>
  refine cb (Vw he rfl hv ?_);rw[if_neg (by decide)]
  exact GU F hA I ok he hz h
 |some mv =>
  obtain⟨T,oT,ts,h1,nT,fT,hT,hd,h3⟩:=hv;refine cb (Vw he rfl h1 ?_);rw[if_pos (show (ky T != Vx)=true by simp)]
  refine cb (Vw hT hd h3 ?_)
  by_cases hmv:mv=rawInt X.env.locals
  ·subst hmv;rw[if_pos (show (rawInt X.env.locals == rawInt X.env.locals)=true by simp)]
   exact ka (h s I ⟨ok,sl,vs,he,hz,T,oT,ts,h1,nT,fT,hT,hd,h3⟩)
  ·rw[if_neg (show ¬(mv == rawInt X.env.locals)=true from λz=>hmv (beq_iff_eq.mp z))]
   have z3:3 < ts.size:=(Array.getElem?_eq_some_iff.mp h3).1;refine cb (wpAny_setField hT hd z3 ?_);have other:∀b,b≠T->(s.heap.update T (Vl (·.setIfInBounds 3 Vx))).get? b=s.heap.get? b:=λb hb=>U6 _ _ (UU hb)
   have I':=I.turned (t':=s.toks) (h':=s.heap.update T (Vl (·.setIfInBounds 3 Vx))) (λb o hb q=>(other b hb).trans q) fT.1 fT.2.1 fT.2.2.2.1 fT.2.2.2.2.1 fT.2.2.2.2.2
   exact GU F hA I' ok ((other e (UU nT)).trans he) (hz.upT hT hd) h
theorem J8 {E:SXK}(F:Fr1 X)(fr:X.A.frames=some X.stack):PassesOwn (model X.prog X.w) X.A X.env (XPS X pins E):=by
 rintro v s' ⟨σ',ea,cls,xd,m,H',rfl,I,hx,hm,q⟩;refine l5 F fr I hx hm λs1 I1 x1=>?_
 unfold cameBackBy;obtain⟨ok,sl,vs,he,hz,T,oT,ts,h1,r⟩:=id x1;refine cb (Vw he rfl h1 ?_);rw[if_neg (show ¬((ky T == Vx)=true) by simp)]
 have step:wpAny (model X.prog X.w) X.A (setFlight (.ref ea) X.env.frame) (λ_ s''=>XPS X pins E (.ref ea) s'') (XPS X pins E) s1 :=
  dG I1 x1 λs2 I2 x2=>⟨σ',ea,cls,xd,_,H',rfl,I2,x2,by rw[F.fr];exact .inr (.inr ⟨_,rfl⟩),q⟩
 first
  |exact step
  |exact cb (ka step)
end
abbrev CXG (b n:Bool)(P:ko)(w:World):CXT:=λouter H s E e s'=>∃(ea T:Addr) (cls:Value) (xd:Option Addr) (H':Hp),e=.ref ea/\s'.os=s.os/\AllBare s'.gens/\Un (frs outer) [] H H' s.heap s'.heap/\HOk P w H' s'.heap /\
 (H' ea=none/\s.heap.objs.size<=ea)/\(H' T=none/\s.heap.objs.size<=T)/\T≠ea /\
 (∃(sl:Array (Option Value)) (vs:Array Value) (oT:Obj) (ts:Array Value),s'.heap.get? ea=some ⟨cls,xd,.fields vs,sl⟩/\(1 < vs.size/\(b=true->vs[2]?=some .none)/\(n=false->vs[2]?=some .none\/∃(c:Addr) (oc:Obj) (ws:Array Value),vs[2]?=some (.ref c)/\c≠ea/\(H' c=none/\s.heap.objs.size<=c)/\s'.heap.get? c=some oc/\oc.data=.fields ws/\ws[2]?=some .none))/\vs[1]?=some (.ref T)/\s'.heap.get? T=some oT/\oT.data=.fields ts/\ts[3]?=some .none)/\E cls xd H'
abbrev CXB (b:Bool)(P:ko)(w:World):CXT:=CXG b false P w
abbrev CXX (P:ko)(w:World):CXT:=CXB true P w
section
variable{X:Cx}{pins:List (Addr×Obj)}{σ:St}{H:Hp}{s s':Shared}{b n:Bool}
theorem J9 {E:XK}{e:Value}(hb:X.xc=true->b=true)(I:Inv X pins σ H s)(h:CXG b n X.prog X.w X.stack H s E e s')(hn:X.xn=false->n=false:=by first | exactλ_=>rfl | exact id):XP X pins σ E e s':=by
 obtain⟨ea,T,cls,xd,H',rfl,os,bare,un,hok,⟨e1,e2⟩,⟨t1,t2⟩,ne,⟨sl,vs,oT,ts,g1,g2,g3,g4,g5,g6⟩,q⟩:=h;have I':Inv X pins σ H' s':=I.GJ (ch:=[]) os un hok bare λb z=>absurd z (by simp)
 exact⟨ea,cls,xd,some .none,H',rfl,I',⟨I.uz e2 e1,sl,vs,g1,⟨g2.1,λz=>g2.2.1 (hb z),λz=>(g2.2.2 (hn z)).imp id λ⟨c,oc,ws,y,ne,f,r⟩=>⟨c,oc,ws,y,ne,I.uz f.2 f.1,r⟩⟩,T,oT,ts,g3,ne,I.uz t2 t1,g4,g5,g6⟩,.inr (.inl rfl),q⟩
theorem je:Passes (CXG b n X.prog X.w) X E0:=λ_ _ _ _ _ _ _ ⟨_,_,_,_,_,_,_,_,_,_,_,_,_,_,z⟩=>z.elim
end
section
variable{P:ko}{w:World}{K:ba}{mg:Str->Option Value}{base:Heap}{k:Nat}{f:Addr}{fd:gn}{ps:List Str}{sp:Sp}
theorem FnOk.calm (F:FnOk P w K mg base (CXX P w) k f fd ps sp)(h:∀vs H Q E,sp vs H Q E->sp vs H Q E0):FnOk P w K mg base CX0 k f fd ps sp:=by
 refine⟨F.len,λA outer s H args us vs Q E hr he hb hv hs=>VS (F.run A outer s H args us vs Q E0 hr he hb hv (h _ _ _ _ hs)) λr s' q=>?_⟩
 cases r with
 |error e=>obtain⟨_,_,_,_,_,_,_,_,_,_,_,_,_,_,z⟩:=q;exact z.elim
 |ok fl=>cases fl <;> exact q
theorem FnOk.TZ (F:FnOk P w K mg base CX0 k f fd ps sp):FnOk P w K mg base (CXX P w) k f fd ps sp:=by
 refine⟨F.len,λA outer s H args us vs Q E hr he hb hv hs=>VS (F.run A outer s H args us vs Q E hr he hb hv hs) λr s' q=>?_⟩
 cases r with
 |error e=>exact q.elim
 |ok fl=>cases fl <;> exact q
theorem MN {N:List Str}{qual:Str}{scope:Scope}{cd:Value}{A:Around}{outer:List Env}{s s':Shared}{H:Hp}{E:XK}{e:Value}{pins:List (Addr×Obj)}
  (h:XPS (bh (CXX P w) P w K mg base N qual scope f cd A outer s H E) pins (λ_=>E) e s'):(bh (CXX P w) P w K mg base N qual scope f cd A outer s H E).xe e s':=by
 obtain⟨σ',ea,cls,xd,m,H',rfl,I,hx,hm,q⟩:=h;have fr:(bh (CXX P w) P w K mg base N qual scope f cd A outer s H E).A.frames=some (bh (CXX P w) P w K mg base N qual scope f cd A outer s H E).stack:=I.ok.frames;have F1:Fr1 (bh (CXX P w) P w K mg base N qual scope f cd A outer s H E):=⟨rfl,rfl⟩;show wpAny _ _ (leaving (bh (CXX P w) P w K mg base N qual scope f cd A outer s H E).env (.ref ea)) _ _ s';unfold leaving;refine cb (l5 F1 fr I hx hm λs1 I1 x1=>dG I1 x1 λs2 I2 x2=>?_)
 obtain⟨ok,sl,vs,he,hz,T,oT,ts,h1,nT,fT,hT,hd,h3⟩:=x2;have old:∀ {b:Addr},dh (bh (CXX P w) P w K mg base N qual scope f cd A outer s H E) pins H' b->s.heap.objs.size<=b:=λ{b} z=>by
  rcases z.2.2.2.1 with y | y
  ·exact absurd (show b∈([]:List Addr) from y) (by simp)
  ·exact y
 exact⟨ea,T,cls,xd,H',rfl,I2.os,I2.bare,I2.base,I2.hok,⟨ok.1,old ok⟩,⟨fT.1,old fT⟩,nT,⟨sl,vs,oT,ts,he,⟨hz.sz,λ_=>hz.cx rfl,λ_=>(hz.c1 rfl).imp id λ⟨c,oc,ws,y,ne,f,r⟩=>⟨c,oc,ws,y,ne,⟨f.1,old f⟩,r⟩⟩,h1,hT,hd,h3⟩,q⟩
end
abbrev TEX:=St->Hp->VK->XK->Prop
abbrev TAX:=St->Hp->(List V->Hp->Prop)->XK->Prop
abbrev TSX:=Ends->SXK->St->Hp->Prop
def PEX (X:Cx)(e:Expr)(t:TEX):Prop :=
 ∀(pins:List (Addr×Obj)) (s:Shared) (σ:St) (H:Hp) (Q:VK) (E:XK),Inv X pins σ H s->t σ H Q E->wpAny (model X.prog X.w) X.A (eval e X.env) (EP X pins σ Q) (XP X pins σ E) s
def PAX (X:Cx)(es:List Expr)(t:TAX):Prop :=
 ∀(pos:Pos) (pins:List (Addr×Obj)) (s:Shared) (σ:St) (H:Hp) (Q:List V->Hp->Prop) (E:XK),Inv X pins σ H s->t σ H Q E->wpAny (model X.prog X.w) X.A (spliced (backTo pos (om es X.env))) (AP X pins σ Q) (XP X pins σ E) s
def PSX (X:Cx)(st:Stmt)(t:TSX):Prop :=
 ∀(pins:List (Addr×Obj)) (s:Shared) (σ:St) (H:Hp) (D:Ends) (E:SXK),Inv X pins σ H s->t D E σ H->wpAny (model X.prog X.w) X.A (exec st X.env) (SP X pins D) (XPS X pins E) s
def w4 (X:Cx)(st:List Stmt)(t:TSX):Prop :=
 ∀(pins:List (Addr×Obj)) (s:Shared) (σ:St) (H:Hp) (D:Ends) (E:SXK),Inv X pins σ H s->t D E σ H->wpAny (model X.prog X.w) X.A (execs st X.env) (SP X pins D) (XPS X pins E) s
def Pc (te:TE):TEX:=λσ H Q _=>te σ H Q
def Pd (ta:TA):TAX:=λσ H Q _=>ta σ H Q
def Ka (ts:TS):TSX:=λD _ σ H=>ts D σ H
def Kb (t1:TEX)(t2:TAX):TAX:=λσ H Q E=>t1 σ H (λx H1=>t2 σ H1 (λxs H2=>Q (x::xs) H2) E) E
def Ob (t1 t2:TSX):TSX:=λD E σ H=>t1 { D with nx:=t2 D E } E σ H
def Rr (tc:TT)(t1 t2:TSX):TSX:=λD E σ H=>tc σ H λd H1=>if d=true then t1 D E σ H1 else t2 D E σ H1
def Kc (t:TEX):TSX:=λD E σ H=>t σ H (λ_ H1=>D.nx σ H1) (E σ)
def Oc (t:TEX):TSX:=λD E σ H=>t σ H D.rt (E σ)
def Od (i:Nat)(t:TEX):TSX:=λD E σ H=>t σ H (λv H1=>D.nx (σ.set i (some v)) H1) (E σ)
def BO (t:TAX)(sp:Sp):TEX:=λσ H Q E=>t σ H (λvs H1=>sp vs H1 Q E) E
def BP (C:Addr)(m:Str)(ta:TEX)(t:TAX)(sp:Sp):TEX:=λσ H Q E=>ta σ H (λx H1=>∃a dx fs,x=.ref a/\H1 a=some (.ins C dx fs)/\fs.lookup m=none/\t σ H1 (λvs H2=>sp (x::vs) H2 Q E) E) E
def GV (C:Addr)(m:Str)(ta:TEX)(sp:Sp):TEX:=λσ H Q E=>ta σ H (λx H1=>∃a dx fs,x=.ref a/\H1 a=some (.ins C dx fs)/\fs.lookup m=none/\sp [x] H1 Q E) E
section
variable{X:Cx}{e:Expr}{es:List Expr}{st:Stmt}{sts:List Stmt}{te:TE}{ta:TA}{ts:TS}{pos:Pos}
theorem EP.ck {pins:List (Addr×Obj)}{σ:St}{Q:VK}{u:Value}{s':Shared}{W:Value->Shared->Prop}(h:EP (X.gN W) pins σ Q u s'):EP X pins σ Q u s':=by
 obtain⟨v,H',I,r,q⟩:=h;exact⟨v,H',I.ck,r,q⟩
theorem px (h:PE X.nox e te):PEX X e (Pc te):=λpins s σ H Q _ I hw =>
 ki (h pins s σ H Q (I.gN _) hw) (λ_ _ q=>q.ck) λ_ _ z=>wa z
theorem pax (h:PA X.nox es ta):PAX X es (Pd ta):=λpos pins s σ H Q _ I hw =>
 ki (h pos pins s σ H Q (I.gN _) hw) (λ_ _ ⟨vs,H',I',r,q⟩=>⟨vs,H',I'.ck,r,q⟩) λ_ _ z=>wa z
theorem psx (h:PS X.nox st ts):PSX X st (Ka ts):=λpins s σ H D _ I hw =>
 ki (h pins s σ H D (I.gN _) hw) (λ_ _ q=>q.ck) λ_ _ z=>wa z
theorem gf (h:PSs X.nox sts ts):w4 X sts (Ka ts):=λpins s σ H D _ I hw =>
 ki (h pins s σ H D (I.gN _) hw) (λ_ _ q=>q.ck) λ_ _ z=>wa z
theorem dH:PAX X [] (λ_ H Q _=>Q [] H):=λ_ _ _ _ H Q _ I h=>Calls.spliced_nil ⟨[],H,I,.nil,h⟩
theorem a7 {t1:TEX}{t2:TAX}(ha:PEX X e t1)(hr:PAX X es t2)(hs:om (e::es) X.env=(false,eval e X.env)::om es X.env:=by rfl) :
  PAX X (e::es) (Kb t1 t2):=by
 intro pos pins s σ H Q E I h;unfold Kb at h;rw[hs];refine Calls.spliced_cons (ki (ha pins s σ H _ E I h) (λu s1 ⟨x,H1,I1,r1,q1⟩=>?_) λ_ _ z=>z)
 exact ki (hr pos pins s1 σ H1 _ E I1 q1) (λus s2 ⟨xs,H2,I2,r2,q2⟩=>⟨x::xs,H2,I2,.cons r1 r2,q2⟩) λ_ _ z=>z
theorem aj {t1 t2:TSX}(h1:PSX X st t1)(h2:w4 X sts t2):w4 X (st::sts) (Ob t1 t2):=by
 intro pins s σ H D E I h;unfold Ob at h;refine wpAny_execs_cons (thn (h1 pins s σ H { D with nx:=t2 D E } E I h) λf s1 q=>?_)
 cases f with
 |next =>
  obtain⟨σ',H',I',q⟩:=q;exact h2 pins s1 σ' H' D E I' q
 |ret v=>exact q
 |brk=>exact q
 |cont=>exact q
theorem aC {t1:TSX}(h1:PSX X st t1):w4 X [st] t1:=by
 intro pins s σ H D E I h;refine wpAny_execs_cons (thn (h1 pins s σ H D E I h) λf s1 q=>?_)
 cases f with
 |next=>exact wpAny_execs_nil q
 |ret v=>exact q
 |brk=>exact q
 |cont=>exact q
theorem bU {c:Expr}{a b:List Stmt}{tc:TT}{t1 t2:TSX}(hc:PT X.nox c tc)(ha:w4 X a t1)(hb:w4 X b t2):PSX X (.If c a b pos) (Rr tc t1 t2):=by
 intro pins s σ H D E I h;unfold Rr at h;refine wpAny_If (ki (hc pins s σ H _ (I.gN _) h) (λd s1 ⟨H1,I1,q1⟩=>?_) λ_ _ z=>wa z)
 cases d with
 |true=>exact ha pins s1 σ H1 D E I1.ck q1
 |false=>exact hb pins s1 σ H1 D E I1.ck q1
theorem bA {t:TEX}(he:PEX X e t)(hs:swapsWith e none pos.line X.env=pure false:=by rfl):PSX X (.Expr e pos) (Kc t):=by
 intro pins s σ H D E I h;unfold Kc at h;exact wpAny_Expr_any (ki (he pins s σ H _ _ I h) (λv s1 ⟨x,H1,I1,r1,q1⟩=>⟨σ,H1,I1,q1⟩) λ_ _ z=>⟨σ,z⟩) I.quiet hs
theorem b5 {t:TEX}(he:PEX X e t):PSX X (.Return (some e) pos) (Oc t):=by
 intro pins s σ H D E I h;unfold Oc at h;exact wpAny_Return_some (ki (he pins s σ H _ _ I h) (λv s1 ⟨x,H1,I1,r1,q1⟩=>⟨x,σ,H1,I1,r1,q1⟩) λ_ _ z=>⟨σ,z⟩)
theorem sX {i:Nat}{x:Str}{t:TEX}{pos':Pos}(hN:X.N.Nodup)(hi:X.N[i]?=some x)(hx:Loc X.env.scope x)(he:PEX X e t)(hs:swapsWith e (some (.Name x pos')) pos.line X.env=pure false:=by rfl)(hf:X.fn x=true\/X.env.scope.names.lookup x=some .local:=by first | exact .inl rfl | exact .inr rfl | assumption) :
  PSX X (.Assign [.Name x pos'] e pos) (Od i t):=by
 intro pins s σ H D E I h;unfold Od at h;refine wpAny_Assign_Name (ki (he pins s σ H _ _ I h) (λv s1 ⟨y,H1,I1,r1,q1⟩=>?_) λ_ _ z=>⟨σ,z⟩) hs
 exact hX I1 hN hi hx r1 (λs2 I2=>⟨_,H1,I2,q1⟩) hf
end
section
variable{X:Cx}{k:Nat}{f C:Addr}{fd:gn}{ps:List Str}{sp:Sp}{x m:Str}{p pos apos:Pos}{e o:Expr}{es:List Expr}{t:TAX}
theorem BQ {pins:List (Addr×Obj)}{σ:St}{H:Hp}{s:Shared}{Q:VK}{E:XK}{us:List Value}{vs:List V}(F:FnOk X.prog X.w X.K X.mg X.base (CXX X.prog X.w) k f fd ps sp)(hr:Room k X.A)(hb:Binds X.K fd ps [])
  (I:Inv X pins σ H s) (r:Vals vs us) (h:sp vs H Q E):wpAny (model X.prog X.w) X.A (call (.ref f) us) (EP X pins σ Q) (XP X pins σ E) s:=by
 have hl:(us++[]).length=ps.length:=by rw[VH,<-r.length];exact F.len _ _ _ _ h
 have b:=hb s us I.kIn hl;rw[VH]at b;refine V1 (VS (F.run X.A X.stack s H ⟨us,[]⟩ us vs Q E hr I.JJ b r h) λr s' hq=>?_)
 cases r with
 |error e=>exact J9 (λ_=>rfl) I hq
 |ok fl =>
  cases fl with
  |ret u=>exact I.after hq
  |next=>exact wa hq
  |brk=>exact wa hq
  |cont=>exact wa hq
theorem aU (F:FnOk X.prog X.w X.K X.mg X.base (CXX X.prog X.w) k f fd ps sp)(hr:Room k X.A)(hg:Gl X x)(hm:X.mg x=some (.ref f))(hk:Wa X.K (.ref f)=true)(hb:Binds X.K fd ps [])(ha:PAX X (e::es) t)
  (hdb:(x == ("__debug__":Str))=false:=by decide) (he:om (e::es) X.env=(false,eval e X.env)::om es X.env:=by rfl) (hpl:(backTo pos (om es X.env)).any (·.1)=false:=by rfl) :
  PEX X (.Call (.Name x p) (e::es) [] pos) (BO t sp):=by
 intro pins s σ H Q E I h;unfold BO at h;refine Vf (eN I hg hm ?_ hdb);exact VX (h₀:=X.base) I.ok.mod.kin hk (thn (ha pos pins s σ H _ E I h) λus s1 ⟨vs,H1,I1,r,q⟩=>⟨I1.kIn,BQ F hr hb I1 r q⟩) he hpl
theorem jf {pl:Sem Bool}{ta:TEX}(he:PEX X o ta)(c:Cls X.K C)(hm:Meth X.K C m f)(F:FnOk X.prog X.w X.K X.mg X.base (CXX X.prog X.w) k f fd ps sp)(hr:Room k X.A)(hb:Binds X.K fd ps [])(ha:PAX X (e::es) t)
  (hst:om (e::es) X.env=(false,eval e X.env)::om es X.env:=by rfl) (hpl:(backTo pos (om es X.env)).any (·.1)=false:=by rfl)
  (ht:eval (.Call (.Attribute o m apos) (e::es) [] pos) X.env=(do
   let ov <-eval o X.env
   standAt apos.atName
   let (f,first) <-holding [ov] (getMethod ov m pl)
   Wb pos f first (backTo pos (om (e::es) X.env)) (V4 pos (VC [] X.env))):=by rfl) :
  PEX X (.Call (.Attribute o m apos) (e::es) [] pos) (BP C m ta t sp):=by
 intro pins s σ H Q E I h;unfold BP at h;refine VD (pl:=pl) (thn (he pins s σ H _ E I h) λu s1 ⟨x,H1,I1,rx,a,dx,fs,ex,ea,l,q⟩=>?_) ht
 subst ex;obtain rfl:u=ky a:=rx;refine fH I1 ea c hm l ?_;exact VX (first:=[.ref a]) (h₀:=X.base) I.ok.mod.kin hm.kp (thn (ha pos pins s1 σ H1 _ E I1 q) λus s2 ⟨vs,H2,I2,r,q2⟩=>⟨I2.kIn,BQ (us:=.ref a::us) (vs:=.ref a::vs) F hr hb I2 (.cons rfl r) q2⟩) hst hpl
theorem uF {pl:Sem Bool}{ta:TEX}(he:PEX X o ta)(c:Cls X.K C)(hm:Meth X.K C m f)(F:FnOk X.prog X.w X.K X.mg X.base (CXX X.prog X.w) k f fd ps sp)(hr:Room k X.A)(hb:Binds X.K fd ps [])
  (ht:eval (.Call (.Attribute o m apos) [] [] pos) X.env=(do
   let ov <-eval o X.env
   standAt apos.atName
   let (f,first) <-holding [ov] (getMethod ov m pl)
   Wb pos f first (backTo pos (om [] X.env)) (V4 pos (VC [] X.env))):=by rfl) :
  PEX X (.Call (.Attribute o m apos) [] [] pos) (GV C m ta sp):=by
 intro pins s σ H Q E I h;unfold GV at h;refine VD (pl:=pl) (thn (he pins s σ H _ E I h) λu s1 ⟨x,H1,I1,rx,a,dx,fs,ex,ea,l,q⟩=>?_) ht
 subst ex;obtain rfl:u=ky a:=rx;refine fH I1 ea c hm l ?_;exact Wu (first:=[.ref a]) I1.kIn hm.kp (BQ (us:=[.ref a]) (vs:=[.ref a]) F hr hb I1 (.cons rfl .nil) q)
end
section
variable{P:ko}{w:World}{K:ba}{mg:Str->Option Value}{base:Heap}
theorem Fun.okX {x qual:Str}{st:Stmt}{f:Addr}{fd:gn}{N ps:List Str}{k:Nat}{sp:Sp}(F:Fun K x qual st f fd)(S:ay N ps (ai st))(len:∀vs H Q E,sp vs H Q E->vs.length=ps.length)
  (sQ:∀(cdv:Value) (A:Around) (outer:List Env) (s:Shared) (H:Hp) (vs:List V) (Q:VK) (E:XK),Room k (A.deeper (envOfC qual (ai st) s.heap.objs.size f cdv))->sp vs H Q E ->
   ∃t,w4 (bh (CXX P w) P w K mg base N qual (ai st) f cdv A outer s H E) (jN st) t/\t { nx:=λ_ H'=>Q .non H',rt:=Q } (λ_=>E) (start N vs) H):FnOk P w K mg base (CXX P w) (k+1) f fd ps sp:=by
 obtain⟨oc,od,kV,doc,pm,an,cdv,ct,osl,rfl,lk,hcd⟩:=F.ex;refine JL lk hcd S len λA outer s H vs Q E hr hsp=>?_
 obtain⟨t,h,q⟩:=sQ cdv A outer s H vs Q E hr hsp;exact⟨λD σ H=>t D (λ_=>E) σ H,λpins s1 σ H1 D I hw=>ki (h pins s1 σ H1 D _ I hw) (λ_ _ z=>z) λ_ _ z=>MN z,q⟩
end
def xo (a:Addr)(cls:Value)(xd:Option Addr):HO:=.ext λh=>∃(sl:Array (Option Value)) (vs:Array Value),h.get? a=some ⟨cls,xd,.fields vs,sl⟩
abbrev hcx (X:Cx)(e:Addr):Cx:={ X with A:=X.A.mark (some (.ref e)),calm:=false,xe:=λ_ _=>False }
section
variable{X:Cx}{pins:List (Addr×Obj)}{σ:St}{H:Hp}{s:Shared}{e:Addr}{cls:Value}{xd:Option Addr}{m:Option Value}
theorem yo (I:Inv X pins σ H s)(e:Addr):Inv (hcx X e) pins σ H s :=
 ⟨⟨I.ok.mod,I.ok.kind,I.ok.glob,I.ok.blt,I.ok.above,I.ok.inj,I.ok.has,I.ok.cab,λz=>absurd (show false=true from z) gr,I.ok.frames,I.ok.stk,I.ok.exf,I.ok.bs,I.ok.bsz,I.ok.sL,I.ok.sM,I.ok.jJ,I.ok.frf⟩,I.os,I.bare,I.base,I.loc,I.cell,I.free,I.f9,I.pin,I.hok,I.len⟩
theorem g9 (ok:X.Ok)(I:Inv (hcx X e) pins σ H s):Inv X pins σ H s:=⟨ok,I.os,I.bare,I.base,I.loc,I.cell,I.free,I.f9,I.pin,I.hok,I.len⟩
theorem MO (I:Inv X pins σ H s)(x:XAt X pins H s.heap e cls xd m):Inv X pins σ (upd H e (xo e cls xd)) s:=by
 obtain⟨ok,sl,vs,he,hz,_⟩:=x;have nb:∀b u,H b=some u->b≠e:=λb u q z=>by rw[z,ok.1]at q;cases q
 have hk:HOk X.prog X.w (upd H e (xo e cls xd)) s.heap:=λb u q=>by
  by_cases hb:b=e
  ·subst hb;rw[af]at q;cases q;exact⟨⟨sl,vs,he⟩,⟨_,he⟩,λh1 h2 ⟨sl',vs',z⟩ k=>⟨sl',vs',k _ z⟩⟩
  ·rw[ax hb]at q;exact(I.hok b u q).wY (λc v _ r=>r) (λc r=>by rw[ax (nb c _ r)];exact r) λc xs r=>by rw[ax (nb c _ r)];exact r
 exact I.step (g':=s.gens) (t':=s.toks) (d':=s.drawn) (h':=s.heap) (ch:=[e]) (λb hb=>by
   obtain rfl:b=e:=by simpa using hb
   exact⟨ok.2.2.2.1,ok.2.1,ok.2.2.2.2.1,ok.2.2.2.2.2⟩)
  (λ_ _ _ _ _ q _=>q) (λb o _ _ _ q _=>⟨o.slots,q⟩) (λb o hb _ n=>by rw[ax (by simpa using hb)];exact n) (λb o _ q=>⟨o,q⟩)
  (λb xs q=>by rw[ax (nb b _ q)];exact q) (λb o u q=>by rw[ax (nb b _ q)];exact q) (λb ps q=>⟨#[],by rw[ax (nb b _ q),q];simp⟩) (λ_ q=>q) hk I.bare
theorem yq {M:Model}{A:Around}{E:Value->Shared->Prop}{n:Str}{i:Nat}{pos:Pos}{Q:Unit->Shared->Prop}(I:Inv X pins σ H s)(hN:X.N.Nodup)(hi:X.N[i]?=some n)(hl:X.env.kindOf n=some .local)
  (h:∀s',Inv X pins (σ.set i none) H s'->Q () s'):wpAny M A (do bindName X.env n .none;unbindBehindTheSuite X.env n pos) Q E s:=by
 obtain⟨mm,hn,T2⟩:=I.loc;refine wpAny_nameGoes_keeps hl hn (by rw[I.ok.kind];rfl) λh' v hn' sb=>h _ ?_
 have ol:∃o,s.heap.get? X.env.locals=some o/\H X.env.locals=none:=by obtain⟨o,_,_,ho,_⟩:=hn;exact⟨o,ho,I.free⟩
 have keep:∀b o,b≠X.env.locals->s.heap.get? b=some o->h'.get? b=some o:=λb o hb q=>(sb.2 b hb).trans q
 have below:∀ {b:Addr} {o:Obj},X.s₀.heap.get? b=some o->b≠X.env.locals:=λ{b o} q=>sr (tm (kq q) I.ok.above)
 refine⟨I.ok,I.os,I.bare,⟨λb o q nn hb hx=>keep b o (below q) (I.base.keep b o q nn hb hx),λb o q nn hb hx=>?_,I.base.free,λb o q hx=>?_,I.base.sI,I.base.q5,I.base.sJ⟩,⟨_,hn',λj y w e1 e2 e3=>?_⟩,λy c ec=>?_,I.free,I.f9,λp hp=>?_,λb u q=>?_,by rw[WA];exact I.len⟩
 ·obtain⟨sl,z⟩:=I.base.slot b o q nn hb hx;exact⟨sl,keep b _ (below q) z⟩
 ·obtain⟨o',z⟩:=I.base.there b o q hx;exact⟨o',keep b _ (below q) z⟩
 ·have hj:j≠i:=λz=>by
   subst z
   by_cases hlt:j < σ.length
   ·rw[List.getElem?_set_self hlt]at e2;cases e2
   ·rw[List.getElem?_eq_none_iff.mpr (by rw[WA];omega)]at e2;cases e2
  rw[List.getElem?_set_ne (UU hj)]at e2;obtain⟨u,r,q⟩:=T2 j y w e1 e2 e3;refine⟨u,r,?_⟩;rcases q with ⟨k,z⟩ | ⟨k,c,z,hc⟩
  ·have:y≠n:=λz=>hj (x9 hN e1 (z▸hi))
   exact .inl ⟨k,by simp only[this,if_false];exact z⟩
  ·obtain⟨o,ho,hd⟩:=hc;exact .inr ⟨k,c,z,o,keep c o (I.cne y c z) ho,hd⟩
 ·obtain⟨v',o,ho,hd⟩:=I.cell y c ec;exact⟨v',o,keep c o (I.cne y c ec) ho,hd⟩
 ·obtain⟨a1,a2,a3,a4,a5⟩:=I.pin p hp;exact⟨keep p.1 p.2 a3 a1,a2,a3,a4,a5⟩
 ·refine(I.hok b u q).wY (λc v hc r=>keep c v (λz=>?_) r) (λ_ z=>z) λ_ _ z=>z
  have fr:=I.free;rw[<-z]at fr;rcases hc with rfl | hc
  ·rw[q]at fr;cases fr
  ·rw[hc]at fr;cases fr
end
abbrev THX:=Ends->SXK->St->XK
def Kd (D:Ends)(i:Nat):Ends:={ nx:=λσ H=>D.nx (σ.set i none) H,rt:=D.rt,bk:=λσ H=>D.bk (σ.set i none) H,ct:=λσ H=>D.ct (σ.set i none) H }
def Oe (K:ba)(C:Addr)(ts:TS)(tr:THX):THX:=λD E σ cls xd H=>∃b,kj K cls (.ref C)=some b/\if b=true then ts D σ H else tr D E σ cls xd H
def hAs (K:ba)(C:Addr)(i:Nat)(ts:TS)(tr:THX):THX:=λD E σ cls xd H=>∃b,kj K cls (.ref C)=some b/\if b=true then ∀ea,H ea=none->ts (Kd D i) (σ.set i (some (.ref ea))) (upd H ea (xo ea cls xd)) else tr D E σ cls xd H
def A2 (tb:TSX)(th:THX):TSX:=λD E σ H=>tb D (λσ' cls xd H'=>th D E σ' cls xd H') σ H
def PHX (X:Cx)(hs:List ExceptHandler)(t:THX):Prop :=
 ∀(pins:List (Addr×Obj)) (s:Shared) (σ:St) (H:Hp) (D:Ends) (E:SXK) (ea:Addr) (cls:Value) (xd:Option Addr),Inv X pins σ H s->XAt X pins H s.heap ea cls xd (some .none)->t D E σ cls xd H ->
  wpAny (model X.prog X.w) X.A (handleBy (.ref ea) X.env hs) (SP X pins D) (XPS X pins E) s
section
variable{X:Cx}{x n:Str}{C:Addr}{np pos:Pos}{b₀:Stmt}{GW:List Stmt}{rest:List ExceptHandler}{ts:TS}{tr:THX}
theorem xS (F:Fr1 X):PHX X [] (λ_ E σ cls xd H=>E σ cls xd H):=by
 intro pins s σ H D E ea cls xd I hx h;refine wpAny_handleBy_nil ?_;unfold PySem.passOn;obtain⟨ok,sl,vs,he,hz,T,oT,ts,h1,r⟩:=id hx;refine cb (Vw he rfl h1 ?_);rw[if_neg (show ¬((ky T == Vx)=true) by simp)]
 have step:wpAny (model X.prog X.w) X.A (do setFlight (.ref ea) X.env.frame;throw (.ref ea):Sem Flow) (SP X pins D) (XPS X pins E) s :=
  cb (dG I hx λs2 I2 x2=>wpAny_throw ⟨σ,ea,cls,xd,_,H,rfl,I2,x2,by rw[F.fr];exact .inr (.inr ⟨_,rfl⟩),h⟩)
 first
  |exact step
  |exact cb (ka step)
theorem GX {pins:List (Addr×Obj)}{s:Shared}{σ:St}{H:Hp}{ea:Addr}{cls:Value}{xd:Option Addr}{b:Bool}{E:Value->Shared->Prop}{R:Bool->Shared->Prop}(I:Inv X pins σ H s)(hx:XAt X pins H s.heap ea cls xd (some .none))
  (hg:Gl X x) (hm:X.mg x=some (.ref C)) (eb:kj X.K cls (.ref C)=some b) (h:R b s) (hd:(x == ("__debug__":Str))=false:=by decide) :
  wpAny (model X.prog X.w) (X.A.mark (some (.ref ea))) (eval (.Name x np) X.env) (λc s₁=>wpAny (model X.prog X.w) (X.A.mark (some (.ref ea))) (excMatches (.ref ea) c) R E s₁) E s:=by
 obtain⟨_,sl,vs,he,_⟩:=hx;refine eN (yo I ea) hg hm ?_ hd;have lt:PySem.W.Looks (model X.prog X.w) s.heap (typeOf (.ref ea)) cls:=(PySem.W.Looks.ld he).andThen .now;exact PySem.W.exm_one I.kIn lt eb _ _ _ s (λ_ _ q=>q) h
theorem nU (hg:Gl X x)(hm:X.mg x=some (.ref C))(hs:∀e,PSs (hcx X e) (b₀::GW) ts)(hr:PHX X rest tr)(hd:(x == ("__debug__":Str))=false:=by decide) :
  PHX X (.ExceptHandler (some (.Name x np)) none (b₀::GW) pos::rest) (Oe X.K C ts tr):=by
 intro pins s σ H D E ea cls xd I hx h;unfold Oe at h;obtain⟨b,eb,h⟩:=h;refine wpAny_handleBy_cons (codeAny_handlers_test (GX I hx hg hm eb ?_ hd)) (by intro q;cases q)
 cases b with
 |true =>
  refine codeAny_handlers_suite (dG I hx λs1 I1 x1=>?_)
  refine ki (hs ea pins s1 σ H D (yo I1 ea) h) (λf s2 q=>?_) λ_ _ z=>wa z
  cases f with
  |next=>obtain⟨σ',H',I',q⟩:=q;exact⟨σ',H',g9 I.ok I',q⟩
  |brk=>obtain⟨σ',H',I',q⟩:=q;exact⟨σ',H',g9 I.ok I',q⟩
  |cont=>obtain⟨σ',H',I',q⟩:=q;exact⟨σ',H',g9 I.ok I',q⟩
  |ret u=>obtain⟨v,σ',H',I',r,q⟩:=q;exact⟨v,σ',H',g9 I.ok I',r,q⟩
 |false=>exact hr pins s σ H D E ea cls xd I hx h
theorem FI {i:Nat}(hN:X.N.Nodup)(hi:X.N[i]?=some n)(hl:X.env.scope.names.lookup n=some .local)(hg:Gl X x)(hm:X.mg x=some (.ref C))(hs:∀e,PSs (hcx X e) (b₀::GW) ts)(hr:PHX X rest tr)(hd:(x == ("__debug__":Str))=false:=by decide) :
  PHX X (.ExceptHandler (some (.Name x np)) (some n) (b₀::GW) pos::rest) (hAs X.K C i ts tr):=by
 intro pins s σ H D E ea cls xd I hx h;unfold hAs at h;obtain⟨b,eb,h⟩:=h;refine wpAny_handleBy_cons (codeAny_handlers_test (GX I hx hg hm eb ?_ hd)) (by intro q;cases q)
 cases b with
 |true =>
  refine codeAny_handlers_suite_as (dG I hx λs1 I1 x1=>?_)
  refine hX (X:=hcx X ea) (v:=.ref ea) (yo (MO I1 x1) ea) hN hi (.inl hl) rfl (λs2 I2=>?_) (.inr hl)
  refine ki (hs ea pins s2 _ _ (Kd D i) I2 (h ea hx.ok.1)) (λf s3 q=>?_) λ_ _ z=>wa z
  show wpAny _ _ _ _ _ _;cases f with
  |next=>obtain⟨σ',H',I',q⟩:=q;exact yq (g9 I.ok I') hN hi hl λs4 I4=>⟨_,H',I4,q⟩
  |brk=>obtain⟨σ',H',I',q⟩:=q;exact yq (g9 I.ok I') hN hi hl λs4 I4=>⟨_,H',I4,q⟩
  |cont=>obtain⟨σ',H',I',q⟩:=q;exact yq (g9 I.ok I') hN hi hl λs4 I4=>⟨_,H',I4,q⟩
  |ret u=>obtain⟨v,σ',H',I',r,q⟩:=q;exact yq (g9 I.ok I') hN hi hl λs4 I4=>⟨v,_,H',I4,r,q⟩
 |false=>exact hr pins s σ H D E ea cls xd I hx h
theorem GY {body:List Stmt}{h₀:ExceptHandler}{hs:List ExceptHandler}{tb:TSX}{th:THX}(F:Fr1 X)(hb:w4 X body tb)(hh:PHX X (h₀::hs) th) :
  PSX X (.Try body (h₀::hs) [] [] pos) (A2 tb th):=by
 intro pins s σ H D E I h;unfold A2 at h;refine wpAny_Try_except (ki (hb pins s σ H D _ I h) (λf s1 q=>?_) (λv s1 q=>?_))
 ·cases f with
  |next=>exact wpAny_execs_nil q
  |ret v=>exact q
  |brk=>exact q
  |cont=>exact q
 ·obtain⟨σ',ea,cls,xd,m,H',rfl,I1,hx,hm,q⟩:=q;exact l5 F I1.ok.frames I1 hx hm λs2 I2 x2=>dG I2 x2 λs3 I3 x3=>hh pins s3 σ' H' D E ea cls xd I3 x3 q
end
def T3 (tb:TSX)(E:SXK):TS:=λD σ H=>tb D E σ H
section
variable{X:Cx}{tg:Expr}
theorem BR {iter:Expr}{body:List Stmt}{wi:TI}{g:TG}{tb:TSX}{pos:Pos}(F:Fr1 X)(hc:X.calm=true)(hi:PI X.nox tg iter wi)(hg:PG X.nox tg g)(hb:w4 X body tb)
  (hs:∀x,foldedSetIterable iter X.env x=pure x:=by intro _;rfl):PSX X (.For tg iter body [] pos) (λD E σ H=>Q3 wi g (T3 tb E) D σ H):=by
 intro pins s σ H D E I h;refine wpAny_For (ki (hi pins s σ H _ (I.gN _) h) (λv s1 h1=>ki h1 (λitv s2 h2=>?_) λ_ _ z=>wa z) λ_ _ z=>wa z) hs
 obtain⟨it,fp,tn,J,H2,e,I2,T,st2,f2,W,⟨m0,w0⟩,turn⟩:=h2;subst e;have hp:PassesOwn (model X.prog X.w) X.A X.env (XPS X pins E):=J8 F I.ok.frames;have stat:∀ {H':Hp},(∀b∈fp,H' b=none)->∀b∈fp,dh X pins H' b:=λhn b hb=>⟨hn b hb,(f2 b hb).2⟩
 refine codeAny_forLoop_any (λn s'=>∃i σ' H',Inv X pins σ' H' s'/\tn i s'.heap/\(∀b∈fp,H' b=none)/\W i n σ' H') ?_ m0 ⟨0,σ,H2,I2.ck,st2,λb hb=>(f2 b hb).1,w0⟩
 rintro n s3 ⟨i,σ3,H3,I3,st3,fr3,w3⟩;rcases turn i n σ3 H3 w3 with ⟨stop,qn⟩ | ⟨go,N,hN,step⟩
 ·refine wpAny_passesOwn hp (thn (T.done X rfl rfl rfl hc i pins s3 σ3 H3 (XPS X pins E) I3 (stat fr3) st3 stop) λr s4 ⟨hr,I4⟩=>?_)
  subst hr;exact wpAny_execs_nil ⟨σ3,H3,I4,qn⟩
 ·refine wpAny_passesOwn hp (thn (T.item X rfl rfl rfl hc i pins s3 σ3 H3 (XPS X pins E) I3 (stat fr3) st3 go) λr s4 ⟨u,hr,h4⟩=>?_)
  subst hr;refine wpAny_passesOwn hp (thn h4 λ_ s5 ⟨x,H5,I5,r5,y5,st5,fr5⟩=>?_)
  have I5':=I5.pinned (stat fr5) (T.obj _ _ st5);refine wpAny_passesOwn hp (ki (hg _ s5 σ3 H5 x u _ (I5'.gN _) r5 (step x H5 y5)) (λ_ s6 ⟨σ6,H6,I6,q6⟩=>?_) λ_ _ z=>wa z)
  refine wpAny_passesOwn hp (ki (hb _ s6 σ6 H6 _ E I6.ck q6) (λf s7 q7=>?_) λ_ _ ⟨σ',z⟩=>⟨σ',z.drop⟩)
  have again:∀ {σ7:St} {H7:Hp},Inv X (pins++ya fp s5.heap) σ7 H7 s7->N σ7 H7->∃m,m < n/\∃i σ' H',Inv X pins σ' H' s7/\tn i s7.heap/\(∀b∈fp,H' b=none)/\W i m σ' H':=λ{σ7 H7} I7 n7=>by
   obtain⟨m',hm,w7⟩:=hN σ7 H7 n7;refine⟨m',hm,i+1,σ7,H7,I7.cP,T.keep _ _ _ st5 λb hb o e=>(I7.pin (b,o) (di _ (di _ (ez hb e)))).1,λb hb=>?_,w7⟩
   obtain⟨o,e,d⟩:=T.obj _ _ st5 b hb;exact(I7.pin (b,o) (di _ (di _ (ez hb e)))).2.1
  cases f with
  |next=>obtain⟨σ7,H7,I7,n7⟩:=q7;exact again I7 n7
  |cont=>obtain⟨σ7,H7,I7,n7⟩:=q7;exact again I7 n7
  |brk=>obtain⟨σ7,H7,I7,q7⟩:=q7;exact⟨σ7,H7,I7.cP,q7⟩
  |ret v=>obtain⟨x7,σ7,H7,I7,r7,q7⟩:=q7;exact⟨x7,σ7,H7,I7.cP,r7,q7⟩
end
structure GaX (K:ba)(C:Addr):Prop where
 ga:UW K (.ref C) "__getattribute__"=some (some (.builtin "BaseException.__getattribute__"))
 hk:UW K (.ref C) "__getattr__"=some none
 mb:WD K C (.type "BaseException")=some true
theorem DE:Slot "ValueError" "__getattribute__" "BaseException.__getattribute__":=F.attr_ValueError.ga
section
variable{prog:ko}{w:World}{A:Around}{E:Value->Shared->Prop}{s:Shared}{K:ba}{x C:Addr}{ox:Obj}{od:Option Obj}{name:Str}
theorem Ke {M:Model}{Of:Value}{Q:Unit->Shared->Prop}(X:K.In s.heap)(I:VY s.heap x ox C od)(t:GaX K C)(hq:Q () s) :
  wpAny M A (checkBuiltinCall "BaseException.__getattribute__" ⟨[.ref x,Of],[]⟩) Q E s:=by
 have hk:builtinKind "BaseException.__getattribute__"=some .slot:=by trivial
 have Pe:splitId "BaseException.__getattribute__"=some ("BaseException","__getattribute__"):=by trivial
 have L0:=I.type (M:=M);have L1:=PySem.W.looks_mroIn (M:=M) X t.mb;have ha:=F.args_bexc_ga (.ref x) Of;obtain⟨hh,g,d,tt,os⟩:=s;simp only[checkBuiltinCall,hk,Pe];refine cb ?_;unfold isInstance;refine cb (L0.at (L1.at ?_))
 repeat (any_goals (first | assumption | wp_step))
def UK (v:Value)(Q:Value->Shared->Prop):Fin->Shared->Prop:=λfin s'=>match fin with | .done (.ret u)=>u=v/\Q u s' | _=>False
theorem DF {tk:Tok}{v:Value}{Q:Fin->Shared->Prop}(X:K.In s.heap)(I:VY s.heap x ox C od)(hf:V2 K C od name=some (.value v))(hq:Q (.done (.ret v)) s) :
  wpAny (model prog w) A (Wz.«object.__getattribute__» ⟨[.ref x,.str name tk],[]⟩) Q E s:=by
 obtain⟨hh,g,d,tt,os⟩:=s;have L0:=I.type (M:=model prog w);have L1:=PySem.W.looks_find (M:=model prog w) X I hf;unfold Wz.«object.__getattribute__»;refine cb (ka (cb (ka (cb (L0.at (cb (L1.at ?_)))))));exact ka hq
theorem H9 {tk:Tok}{g a:Value}{P:Value->Shared->Prop}(X:K.In s.heap)(I:VY s.heap x ox C od)(hf:V2 K C od name=some (.bind g a))(h:wpAny (model prog w) A (call g [a,.ref x,.ref C]) P E s) :
  wpAny (model prog w) A (Wz.«object.__getattribute__» ⟨[.ref x,.str name tk],[]⟩) (λfin s'=>match fin with | .done (.ret v)=>P v s' | _=>False) E s:=by
 obtain⟨hh,gg,d,tt,os⟩:=s;have L0:=I.type (M:=model prog w);have L1:=PySem.W.looks_find (M:=model prog w) X I hf;unfold Wz.«object.__getattribute__»;refine cb (ka (cb (ka (cb (L0.at (cb (L1.at ?_)))))));show wpAny _ _ (holding [a] (call g [a,.ref x,.ref C]) >>= ret) _ _ _;exact cb (Vd (ki h (λv s' z=>ka z) λ_ _ z=>z))
theorem Kf {tk:Tok}{fill ex:Bool}{Q:Value->Shared->Prop}(X:K.In s.heap)(I:VY s.heap x ox C od)(t:GaX K C)
  (h:wpAny (model prog w) A.in1 (Wz.«object.__getattribute__» ⟨[.ref x,.str name tk],[]⟩) (λfin s'=>match fin with | .done (.ret v)=>PySem.W.handedIn v=true/\Q v s' | _=>False) (λ_ _=>False) s) :
  wpAny (model prog w) A (getAttrBy (.ref x) (.str name tk) fill ex) Q E s:=by
 obtain⟨hh,g,d,tt,os⟩:=s;have L0:=I.type (M:=model prog w);have L1:=Wi (M:=model prog w) X t.ga;have L2:=Wi (M:=model prog w) X t.hk;unfold getAttrBy;refine Vd (cb (L0.at (cb (L1.at ?_))));show wpAny _ _ (if (onTheHeap (ky C) && Value.builtin "BaseException.__getattribute__" == Value.builtin "object.__getattribute__")=true then _ else getAttrByItsOwn _ _ _ _ _ _) _ _ _
 rw[if_neg (by rw[show (Value.builtin "BaseException.__getattribute__" == Value.builtin "object.__getattribute__")=false from by trivial];exactλz=>Bool.noConfusion z)]
 unfold getAttrByItsOwn hookBefore callGetattribute boundAndCalled;refine cb ?_;show wpAny _ _ (typeLookup (.ref C) "__getattr__") _ _ _;refine L2.at ?_;refine cb (wpAny_attempt (Vd ?_));rw[if_neg (by cases ex <;> decide)]
 refine cb (wpAny_of_eq (DE.bind _) ?_);show wpAny _ _ (call (.builtin "BaseException.__getattribute__") [.ref x,.str name tk]) _ _ _;refine V1 (codeAny_call_builtin DE.plain F.entry_bexc_ga (Ke X I t (ki h (λfin s' z=>?_) λ_ _ z=>z.elim)))
 rcases fin with (_ | _ | _ | _) | _ <;> first | exact PySem.W.handed_on z.1 z.2 | exact z.elim
end
structure A3 (K:ba)(C:Addr):Prop where
 ga:GaX K C
 cd:(Ws K C).isSome=true
 ha:UW K (.ref C) "__class__"=some (some (.builtin "object.__class__"))
 hn:PySem.W.specialIn K (.builtin "object.__class__") "__get__"=some (some (.builtin "getset_descriptor.__get__"))
 htk:PySem.W.takesIn K (.builtin "object.__class__")=some true
 hm:WD K C (.type "object")=some true
theorem Kg {K:ba}{C:Addr}(t:A3 K C)(od:Option Obj):V2 K C od "__class__"=some (.bind (.builtin "getset_descriptor.__get__") (.builtin "object.__class__")):=by
 obtain⟨cd,hc⟩:=Option.isSome_iff_exists.mp t.cd;unfold V2;rw[hc,Vz,t.ha,Vz];simp[t.hn,t.htk]
theorem MP {K:ba}{C x:Addr}{ox:Obj}{od:Option Obj}(t:A3 K C):PySem.W.KitX K (.ref x) (.ref C) (λh=>VY h x ox C od) where
 ty:=λ_ _ _ I=>I.type
 it:=λ_ _ X _=>by
  obtain⟨cd,hc⟩:=Option.isSome_iff_exists.mp t.cd;unfold Ws at hc;split at hc
  ·rename_i ho;exactλA' Q' E' s' k q=>by
    unfold isType loadHead;exact cb (wpAny_loadPart (k _ _ (X _ _ ho)) (ka q))
  ·cases hc
 ne:=λh tp dd its n sl X htp=>by
  obtain⟨cd,hc⟩:=Option.isSome_iff_exists.mp t.cd;refine Bool.eq_false_iff.mpr λq=>?_
  obtain rfl:C=tp:=Value.ref.inj (beq_iff_eq.mp q);unfold Ws at hc;split at hc
  ·rename_i ho;cases (X _ _ ho).symm.trans htp
  ·cases hc
 ca:=λ{prog w A E Q s} X I k=>by
  unfold getAttr? getAttrBy?;refine cb (wpAny_mkText (cb (wpAny_attempt (Kf (s:={ s with toks:=s.toks+1 }) X I t.ga (ki (H9 (s:={ s with toks:=s.toks+1 }) X I (Kg t _) (P:=λv s'=>v=.ref C/\s'={ s with toks:=s.toks+1 }) (E:=λ_ _=>False)
   (V1 (PySem.W.class_get (s:={ s with toks:=s.toks+1 }) (ox:=ox) X I t.hm ⟨rfl,rfl⟩))) (λfin s' z=>?_) λ_ _ z=>z)))))
  rcases fin with (_ | _ | _ | _) | _ <;> first | (obtain⟨rfl,rfl⟩:=z;exact⟨rfl,ka k⟩) | exact z.elim
section
variable{prog:ko}{w:World}{A:Around}{E:Value->Shared->Prop}{h:Heap}{g:Array GenState}{d:Drawn}{t:Nat}{os:OsState}
variable{nm q:Str}{C N:Addr}{bs bm bmB:List Value}{hdct:Bool}{sn:List Str}{sub:List Value}{ab:Bool}{col:Option Bool}{dd:Option Addr}{k0 k1 k2 k3 k5:Option Value}{B nid iid:String}
abbrev jQ (h:Heap)(C:Addr)(us:List Value):Heap:=(h.push { cls:=.type "tuple",data:=.seq us.toArray }).push ⟨.ref C,none,.fields #[.ref h.objs.size,.none,.none,.none,.bool false,.none],#[]⟩
theorem d9 {us:List Value}{b:Addr}{o:Obj}(e:h.get? b=some o):(jQ h C us).get? b=some o:=fu _ (fu _ e)
theorem yr {us:List Value}:(jQ h C us).get? (h.objs.size+1)=some ⟨.ref C,none,.fields #[.ref h.objs.size,.none,.none,.none,.bool false,.none],#[]⟩:=by
 have:=si (h.push { cls:=.type "tuple",data:=.seq us.toArray }) (o:=⟨.ref C,none,.fields #[.ref h.objs.size,.none,.none,.none,.bool false,.none],#[]⟩) rfl
 rwa [VR]at this
theorem FJ (F:ExcBaseFacts B nid iid bmB)(T:OwnTail h bmB bm){mN:Str->Option Value}{us:List Value}{Q:Fin->Shared->Prop}
  (kC:h.get? C=some (Vm nm q C N bs bm hdct sn sub ab col dd k0 k1 k2 k3 k5 nid)) (kN:h.Ns N mN) (kI:mN "__init__"=none) (hz:us.length<=de)
  (hq:∀h',(∀b o,h.get? b=some o->h'.get? b=some o)->(∃tp,h'.get? (h.objs.size+1)=some ⟨.ref C,none,.fields #[.ref tp,.none,.none,.none,.bool false,.none],#[]⟩)->Q (.done (.ret (.ref (h.objs.size+1)))) ⟨h',g,d,t,os⟩) :
  wpAny (model prog w) A (Wz.«type.__call__» ⟨.ref C::us,[]⟩) Q E ⟨h,g,d,t,os⟩:=by
 repeat (first | with_reducible refine Vi kC ?_ | with_reducible refine wpAny_madeBy_exc kC ?_ | wp_step)
 refine codeAny_call_builtin_code (Code.quiet_builtin _ F.quiet) (wpAny_check_new_subT F T kC (codeAny_exc_new_subT F T kC ?_ hz));show wpAny _ _ _ _ _ _;have kC1:(jQ h C us).get? C=_:=d9 kC;have kN1:(jQ h C us).Ns N mN:=kN.keeps λb o e=>d9 e
 have T1:OwnTail (jQ h C us) bmB bm:=T.keeps λb o e=>d9 e
 have kE:=yr (h:=h) (C:=C) (us:=us);have self:(ky C::bm).contains (.ref C)=true:=by simp
 unfold isInstance
 repeat (first | with_reducible refine Vi kE ?_ | (with_reducible refine wpAny_isSubtype_exc kC1 ?_;rw[self]) | wp_step)
 show wpAny _ _ (typeLookup (.ref C) _) _ _ _;refine wpAny_typeLookup_tail kC1 kN1 T1 F.mroIs F.init.lookup ?_;rw[kI];refine Vd (cb (wpAny_of_eq (F.init.bind _) ?_));refine cb (V1 (codeAny_call_builtin F.init.plain F.initEntry (wpAny_check_init_subT F T1 kC1 kE rfl ?_)))
 wp_walk
 refine hq _ (λb o e=>?_) ⟨h.objs.size+2,?_⟩
 ·rw[U6 _ _ (Nat.ne_of_gt (Wk (kq e)))];exact fu _ (d9 e)
 ·refine(Ve _ (fu _ kE) rfl).trans ?_;simp only[VR];rfl
theorem Ia (F:ExcBaseFacts B nid iid bmB)(T:OwnTail h bmB bm){mN:Str->Option Value}{us:List Value}{Q:Value->Shared->Prop}
  (kC:h.get? C=some (Vm nm q C N bs bm hdct sn sub ab col dd k0 k1 k2 k3 k5 nid)) (kN:h.Ns N mN) (kI:mN "__init__"=none) (hz:us.length<=de)
  (hq:∀h',(∀b o,h.get? b=some o->h'.get? b=some o)->(∃tp,h'.get? (h.objs.size+1)=some ⟨.ref C,none,.fields #[.ref tp,.none,.none,.none,.bool false,.none],#[]⟩)->Q (.ref (h.objs.size+1)) ⟨h',g,d,t,os⟩) :
  wpAny (model prog w) A (call (.ref C) us) Q E ⟨h,g,d,t,os⟩:=by
 have l1:=tc_lookup;have l2:=tc_bind (.ref C);have ty:(⟨h,g,d,t,os⟩:Shared).TypeIs (.ref C) "type":=⟨_,kC,rfl⟩;refine V1 (codeAny_of_tree ?_);show wpAny _ _ (callAny (.ref C) _) _ _ _
 repeat (any_goals (first | assumption | with_reducible refine Vi kC ?_ | wp_step))
 refine⟨rfl,codeAny_call_builtin_at (Code.quiet_builtin _ (by trivial)) entry_typeCall (wpAny_check_type_call_sub kC (FJ F T kC kN kI hz λh' k e=>?_))⟩
 exact hq h' k e
theorem pP {M:Model}{env:Env}{s:Shared}{x:Sem Value}{Q:Flow->Shared->Prop}(sT:bm.contains (.type "BaseException")=true)(hh:A.handled=none)
  (hx:wpAny M A x (λv s₁=>∃(e:Addr) (xd:Option Addr) (a0:Value) (sl:Array (Option Value)),v=.ref e/\s₁.heap.get? C=some (Vm nm q C N bs bm hdct sn sub ab col dd k0 k1 k2 k3 k5 nid) /\
   s₁.heap.get? e=some ⟨.ref C,xd,.fields #[a0,.none,.none,.none,.bool false,.none],sl⟩/\E (.ref e) s₁) E s):wpAny M A (raiseStmt env (some x) none) Q E s:=by
 have top:(ky C::bm).contains (.type "BaseException")=true:=by rw[List.contains_cons,sT,Bool.or_true]
 unfold raiseStmt;refine cb (ki hx (λv s₁ h₁=>?_) λ_ _ z=>z)
 obtain⟨e,xd,a0,sl,rfl,kC,kE,fin⟩:=h₁;obtain⟨hp,g',d',tk,os'⟩:=s₁
 repeat (first | with_reducible refine Vi kE ?_ | with_reducible refine Vi kC ?_ | (with_reducible refine wpAny_isSubtype_exc kC ?_;rw[top]) | wp_step)
 exact wpAny_raiseNew_none hh fin
end
abbrev GZ:List Value:=[.type "ValueError",.type "Exception",.type "BaseException",.type "object"]
def strKeys (es:Array DictEntry):Bool:=es.toList.all λe=>match e.key with | .str _ _=>true | _=>false
structure BU (K:ba)(N:Addr):Prop where
 ex:∃(c:Value) (dd:Option Addr) (es:Array DictEntry) (n:Nat) (sl:Array (Option Value)),K.lookup N=some ⟨c,dd,.dict es n,sl⟩/\strKeys es=true
 no:V7 K N "__init__"=some none
theorem BU.ns {K:ba}{N:Addr}(x:BU K N){h:Heap}(X:K.In h):∃mN,h.Ns N mN/\mN "__init__"=none:=by
 obtain⟨⟨c,dd,es,n,sl,l,sk⟩,no⟩:=x;have ns:h.Ns N (nsFind es):=⟨_,es,n,X _ _ l,rfl,λe he=>by
  have z:=List.all_eq_true.mp sk e (Array.mem_toList_iff.mpr he);cases hk:e.key with
  |str y t=>exact⟨y,t,rfl⟩
  |_=>rw[hk]at z;exact absurd z gr,λ_=>rfl⟩
 refine⟨_,ns,?_⟩;unfold V7 at no;rw[l]at no;dsimp only at no;unfold nsFind findBy;rw[<-Array.find?_toList];cases hf:es.toList.find? (λe=>e.key.isStr "__init__") with
 |none=>rfl
 |some e=>rw[hf]at no;cases no
inductive BV (K:ba):List Value->Prop
 |base:BV K GZ
 |own {D:Addr} {c0:Value} {dd:Option Addr} {cd:ClassData} {sl:Array (Option Value)} {tl:List Value}:K.lookup D=some ⟨c0,dd,.cls cd,sl⟩->BU K cd.ns->BV K tl->BV K (.ref D::tl)
theorem BV.tail {K:ba}{bm:List Value}(x:BV K bm){h:Heap}(X:K.In h):OwnTail h GZ bm:=by
 induction x with
 |base=>exact .base
 |own l n _ ih =>
  obtain⟨mA,a,b⟩:=n.ns X;exact .own (X _ _ l) a b ih
structure BW (K:ba)(C:Addr):Prop where
 ex:∃(nm q:Str) (N:Addr) (bs bm:List Value) (hdct:Bool) (sn:List Str) (sub:List Value) (ab:Bool) (col:Option Bool) (dd:Option Addr) (k0 k1 k2 k3 k5:Option Value),
  K.lookup C=some (Vm nm q C N bs bm hdct sn sub ab col dd k0 k1 k2 k3 k5 "ValueError.__new__")/\BU K N/\BV K bm
section
variable{X:Cx}{x:Str}{C:Addr}{np fj pos:Pos}{e₀:Expr}{rest:List Expr}{ta:TA}
theorem i7 (ek:BW X.K C)(hc:X.calm=true)(hg:Gl X x)(hm:X.mg x=some (.ref C))(ha:PA X.nox (e₀::rest) ta)(hdb:(x == ("__debug__":Str))=false:=by decide)
  (he:om (e₀::rest) X.env=(false,eval e₀ X.env)::om rest X.env:=by rfl) (hpl:(backTo fj (om rest X.env)).any (·.1)=false:=by rfl) :
  PSX X (.Raise (some (.Call (.Name x np) (e₀::rest) [] fj)) none pos) (λ_ E σ H=>ta σ H λvs H1=>vs.length<=de/\E σ (.ref C) none H1):=by
 intro pins s σ H D E I h;obtain⟨nm,q,N,bs,bm,hdct,sn,sub,ab,col,dd,k0,k1,k2,k3,k5,l,n,T⟩:=ek.ex;have go:wpAny (model X.prog X.w) X.A (eval (.Call (.Name x np) (e₀::rest) [] fj) X.env) (λv s₁=>∃(e:Addr) (xd:Option Addr) (a0:Value) (sl:Array (Option Value)),v=.ref e/\s₁.heap.get? C=some (Vm nm q C N bs bm hdct sn sub ab col dd k0 k1 k2 k3 k5 "ValueError.__new__") /\
   s₁.heap.get? e=some ⟨.ref C,xd,.fields #[a0,.none,.none,.none,.bool false,.none],sl⟩/\XPS X pins E (.ref e) s₁) (XPS X pins E) s:=by
  refine Vf (eN I hg hm ?_ hdb);unfold Wb;rw[he];refine cb (Vd (Wj ?_));have ha':=ha fj pins s σ H _ (I.gN _) h;rw[show X.nox.env=X.env from rfl,he]at ha'
  refine ki ha' (λus s₁ ⟨vs,H1,I1,r,hz,q1⟩=>cb (Va ?_)) λ_ _ z=>wa z
  have I1':=I1.ck;have kC:=I1'.kIn _ _ l;obtain⟨mN,kN,kI⟩:=n.ns I1'.kIn;have T1:=T.tail I1'.kIn;have pl:(backTo fj ((false,eval e₀ X.env)::om rest X.env)).any (·.1)=false:=by
   show (false || (backTo fj (om rest X.env)).any (·.1))=false
   rw[hpl];rfl
  obtain⟨hp,g',d',tk,os'⟩:=s₁;simp only[pl];refine cb (wpAny_keeperOf_exc kC ?_);refine cb (Ia (F:=PySem.F.excBase_ValueError) T1 kC kN kI (by rw[List.nil_append,<-r.length];exact hz) λh' k ⟨tp,ke⟩=>cb (Vd (wpAny_point (ka ?_))))
  have I2:Inv X pins σ H1 ⟨h',g',d',tk,os'⟩:=I1'.kept (t':=tk) k;refine⟨_,none,_,#[],rfl,k _ _ kC,ke,σ,_,_,none,none,H1,rfl,I2,⟨I1'.uz (VZ _) (I1'.hok.fresh (VZ _)),_,_,ke,⟨by show 1 < 6;decide,λ_=>rfl,λ_=>.inl rfl⟩,rfl⟩,.inl rfl,q1⟩
 rw[arm_exec_Raise];have hb:bm.contains (.type "BaseException")=true:=(T.tail I.kIn).hasType (b:=true) (by trivial)
 first
  |exact cb (Va (pP (C:=C) (nm:=nm) (q:=q) (N:=N) (bs:=bs) (bm:=bm) (hdct:=hdct) (sn:=sn) (sub:=sub) (ab:=ab) (col:=col) (dd:=dd) (k0:=k0) (k1:=k1) (k2:=k2) (k3:=k3) (k5:=k5) hb (I.ok.hd hc) (cb (ki go (λv s₃ h₃=>cb (Va (ka h₃))) λ_ _ z=>z))))
  | (simp only[evalOpt,Option.map];exact cb (Va (pP (C:=C) (nm:=nm) (q:=q) (N:=N) (bs:=bs) (bm:=bm) (hdct:=hdct) (sn:=sn) (sub:=sub) (ab:=ab) (col:=col) (dd:=dd) (k0:=k0) (k1:=k1) (k2:=k2) (k3:=k3) (k5:=k5) hb (I.ok.hd hc) (cb (ki go (λv s₃ h₃=>cb (Va (ka h₃))) λ_ _ z=>z)))))
end
section
variable{X:Cx}{pos:Pos}
theorem Vals.insert {xs:List V}{us:List Value}(r:Vals xs us){y:V}{u:Value}(ry:RelV y u)(k:Nat):Vals (xs.take k++y::xs.drop k) (us.take k++u::us.drop k):=(r.take k).append (.cons ry (r.drop k))
end
section
variable{X:Cx}{e:Expr}{te:TE}{y:Str}{j:Nat}{p1 p2 pos:Pos}
def tFR (K:ba)(te:TE)(y:Str):TE:=λσ H Q=>te σ H λx H1=>∃(a:Addr) (d:PyData),x=.ref a/\DV K H1 d x/\d.showable=true/\d.hasDict=false/\d.depth<=60/\d.shown.length+y.length<=de/\∀z:Str,Q (.str z) H1
theorem len_app (a b:Str):(a++b).length=a.length+b.length:=by
 show (a.cps++b.cps).size=_;simp[Str.length]
theorem Rt (hg:X.A.guards=some [])(hu:X.A.units+64 < cLine)(he:PE X e te):PE X (.JoinedStr [.FormattedValue e 114 none p1,.Constant (.str y) j p2] pos) (tFR X.K te y):=by
 intro pins s σ H Q I h;refine wpAny_JoinedStr ?_;show Joins _ _ _ [eval (.FormattedValue e 114 none p1) X.env,eval (.Constant (.str y) j p2) X.env] _ _ _;refine wpAny_FormattedValue_repr (thn (he pins s σ H _ I h) λv s1 ⟨x,H1,I1,r1,a,d,e1,hd,sh,nd,dp,sz,q⟩=>?_)
 subst e1;obtain rfl:v=ky a:=r1;obtain⟨as,rd⟩:=DV.reads I1 d hd rfl;refine pyReprObj_of_reads (h₀:=s1.heap) rd sh (λz=>absurd z (by rw[nd];decide)) hg (by omega) (λ_ _ z=>z) (λh' u tk hk=>?_) (by omega)
 have I2:Inv X pins σ H1 { s1 with heap:=h',toks:=tk }:=I1.kept hk
 have emp:(U7++d.shown:Str)=d.shown:=by
  apply jO;rw[cv];rfl
 have go:∀(t:Tok) (s2:Shared),Inv X pins σ H1 s2->∃z t',Value.str d.shown t=.str z t'/\(U7++z).length<=de/\Joins (model X.prog X.w) X.A X.xe [eval (.Constant (.str y) j p2) X.env] (U7++z) (λout s₁=>out.length<=de/\EP X pins σ Q (.str out s₁.toks) { s₁ with toks:=s₁.toks+1 }) s2:=λt s2 I3=>by
  refine⟨_,_,rfl,by rw[emp];omega,Calls.Constant_str ⟨y,_,rfl,?_,?_⟩⟩
  ·rw[emp,len_app];omega
  ·refine⟨by rw[emp,len_app];omega,.str _,H1,(I3.tok _).tok _,⟨_,rfl⟩,q _⟩
 exact wpAny_formatField_str (go _ _ I2) (go _ _ (I2.tok _)) (by omega)
end
theorem Kh {K:ba}{a D:Addr}{xs:List V}{te:TE}{Q:VK}{σ:St}{H1:Hp}(Pv:Nat->List V->Hp->Prop)(h0:Pv 0 [] (upd H1 D (.lst [])))(hz:xs.length<=de)
  (hl:∀i ys H2,i<=xs.length->Pv i ys H2->SqT K H2 a xs/\H2 D=some (.lst ys)/\ys.length=i)
  (hs:∀i x ys H2,xs[i]?=some x->Pv i ys H2->te (some x::σ) H2 (dF D xs.length Pv i ys)) (hd:∀ys H2,Pv xs.length ys H2->Q (.ref D) H2) :
  lq (Itt K a) te σ D H1 Q:=by
 refine⟨λi m ys H=>m=xs.length - i/\i<=xs.length/\Pv i ys H,⟨xs.length,by simp,Vg _,h0⟩,?_⟩
 rintro i m ys H2 ⟨rfl,hi,p⟩;obtain⟨q,q2,q3⟩:=hl i ys H2 hi p;refine⟨q2,?_⟩
 by_cases hlt:i < xs.length
 ·refine .inr ⟨⟨xs,xs[i],q,by simp[hlt]⟩,by omega,λx H3 y=>?_⟩
  obtain⟨e,y⟩:=y;subst e;exact hs i x ys _ (y xs q) p
 ·have e:i=xs.length:=by omega
  subst e;exact .inl ⟨⟨xs,q,kg _⟩,hd ys H2 p⟩
theorem eD {K:ba}{H H':Hp}{t:Addr}{xs:List V}(s:aS H H')(h:SqT K H t xs):SqT K H' t xs:=by
 rcases h with (h | ⟨o,h⟩) | h
 ·exact .inl (.inl (s _ _ h))
 ·exact .inl (.inr ⟨o,s _ _ h⟩)
 ·exact .inr h
theorem dz (a b c:Str):(a++b)++c=a++(b++c):=by
 apply jO;rw[cv,cv,cv,cv,List.append_assoc]
theorem nW (sep:Str):∀(a b:List Str),a≠[]->b≠[]->gp sep (a++b)=(gp sep a++sep)++gp sep b
 |[],_,h,_=>absurd rfl h
 |[x],[],_,h=>absurd rfl h
 |[x],y::b,_,_=>rfl
 |x::x2::a,b,_,hb=>by
  have ih:=nW sep (x2::a) b (UX _ _) hb;show (x++sep)++gp sep (x2::a++b)=(((x++sep)++gp sep (x2::a))++sep)++gp sep b;rw[ih];simp only[dz]
theorem join_join (sep:Str)(a b:List Str)(ha:a≠[]):gp sep (gp sep a::b)=gp sep (a++b):=by
 cases b with
 |nil=>rw[VH];rfl
 |cons y b=>rw[nW sep a (y::b) ha (UX _ _)];rfl
end L2
namespace L2
open PySem PySem.Spec PySem.Calls PyProof.Rows
theorem Ki {X:Cx}{K:ba}(ek:X.K=K):IxR X (OW K):=by
 subst ek;exact bz
def Pf (n:Nat)(Cf:Nat->Addr)(m:Str)(spf:Nat->Sp)(E:XK)(ta:TE):TE:=λσ H Q=>ta σ H λx H1=>∃k,k < n/\∃a dx fs,x=.ref a/\H1 a=some (.ins (Cf k) dx fs)/\fs.lookup m=none/\spf k [x] H1 Q E
section
variable{X:Cx}{o:Expr}{ta:TE}{m:Str}{apos pos:Pos}{n:Nat}{Cf ff:Nat->Addr}{fdf:Nat->gn}{spf:Nat->Sp}{kk:Nat}{ps:List Str}{CX:CXT}{E:XK}
theorem lx {pl:Sem Bool}(he:PE X o ta)(c:∀k,k < n->Cls X.K (Cf k))(hm:∀k,k < n->Meth X.K (Cf k) m (ff k))(F:∀k,k < n->FnOk X.prog X.w X.K X.mg X.base CX kk (ff k) (fdf k) ps (spf k))(hr:Room kk X.A)(hb:∀k,k < n->Binds X.K (fdf k) ps [])
  (hx:Passes CX X E)
  (ht:eval (.Call (.Attribute o m apos) [] [] pos) X.env=(do
   let ov <-eval o X.env
   standAt apos.atName
   let (f,first) <-holding [ov] (getMethod ov m pl)
   Wb pos f first (backTo pos (om [] X.env)) (V4 pos (VC [] X.env))):=by rfl) :
  PE X (.Call (.Attribute o m apos) [] [] pos) (Pf n Cf m spf E ta):=by
 intro pins s σ H Q I h;refine VD (pl:=pl) (thn (he pins s σ H _ I h) λu s1 ⟨x,H1,I1,rx,k,hk,a,dx,fs,ex,ea,l,q⟩=>?_) ht
 subst ex;obtain rfl:u=ky a:=rx;refine fH I1 ea (c k hk) (hm k hk) l ?_;exact Wu (first:=[.ref a]) I1.kIn (hm k hk).kp (BH (us:=[.ref a]) (vs:=[.ref a]) (dvs:=[]) (F k hk) hr (hb k hk) .nil hx I1 (.cons rfl .nil) q)
theorem Ru {P:ko}{w:World}{K:ba}{mg:Str->Option Value}{base:Heap}{CX:CXT}{k:Nat}{f:Addr}{fd:gn}{ps:List Str}{sp sp':Sp}(F:FnOk P w K mg base CX k f fd ps sp)(G:FnOk P w K mg base CX k f fd ps sp') :
  FnOk P w K mg base CX k f fd ps (λvs H Q E=>sp vs H Q E\/sp' vs H Q E) :=
 ⟨λvs H Q E z=>z.elim (F.len vs H Q E) (G.len vs H Q E),λa b c H d e vs Q E p q r s z=>z.elim (F.run a b c H d e vs Q E p q r s) (G.run a b c H d e vs Q E p q r s)⟩
end
def KeysAre:List DictEntry->List Str->Prop
 |[],ns=>ns=[]
 |e::r,ns=>∃x xs t,ns=x::xs/\e.key=.str x t/\KeysAre r xs
structure G0 (P:Params)(K:ba)(a:Addr)(ns:List Str):Prop where
 ex:∃es n,K.lookup a=some ⟨.type "dict",none,.dict es n,#[]⟩/\PySem.W.KeysLit P es.toList/\KeysAre es.toList ns
 nd:ns.Nodup
 lo:(a == sysModules)=false
theorem FK {prog:ko}{w:World}:∀(es:List DictEntry) (ns:List Str),PySem.W.KeysLit w.params es->KeysAre es ns->∃kvs:List (Str×Value),Pairs (strKind prog w) es kvs/\kvs.map (·.1)=ns:=by
 intro es
 induction es with
 |nil =>
  intro ns _ h;have h':ns=[]:=h;subst h';exact⟨[],by first | exact .nil | exact trivial | exact rfl | constructor,rfl⟩
 |cons e r ih =>
  rintro ns ⟨⟨x,t,e1,e2⟩,hk⟩ ⟨y,ys,t',rfl,e3,hr⟩;obtain⟨kvs,h1,h2⟩:=ih ys hk hr;rw[e1]at e3;injection e3 with e4 _
  subst e4;exact⟨(x,e.val)::kvs,.cons (by rw[e1];exact strKind_is prog w x t) rfl h1,by rw[kx,h2]⟩
theorem G0.at {prog:ko}{w:World}{K:ba}{a:Addr}{ns:List Str}(T:G0 w.params K a ns):∃(kvs:List (Str×Value)) (n:Nat),kvs.map (·.1)=ns/\∀h:Heap,K.In h->h.DictAt (strKind prog w) a kvs n:=by
 obtain⟨es,n,hl,hk,ha⟩:=T.ex;obtain⟨kvs,h1,h2⟩:=FK (prog:=prog) es.toList ns hk ha;refine⟨kvs,n,h2,λh X=>⟨_,es,X _ _ hl,⟨rfl,rfl,rfl⟩,rfl,λe he=>?_,h1,by rw[h2];exact T.nd⟩⟩
 obtain⟨x,t,e1,e2⟩:=hk.all e (Array.mem_toList_iff.mpr he);exact⟨x,by rw[e1];exact strKind_is prog w x t,e2⟩
def DG (n:Nat)(Pv:Nat->List V->Hp->Prop)(i:Nat)(ys:List V)(H4:Hp):Prop:=∃m',m' < n - i/\m'=n - (i+1)/\i+1<=n/\Pv (i+1) ys H4
theorem DG.mk {n:Nat}{Pv:Nat->List V->Hp->Prop}{i:Nat}{ys:List V}{H4:Hp}(hi:i < n)(h:Pv (i+1) ys H4):DG n Pv i ys H4:=⟨n - (i+1),by omega,rfl,hi,h⟩
end L2
namespace L2
open PySem PySem.Spec PyProof.Rows
section
variable{X:Cx}
theorem pQ:OpR X (VU .LtE) (λx y H Q=>∃i j,x=.str i/\y=.str j/\Q (.bl (!decide (j.cps.toList < i.cps.toList))) H):=by
 intro pins s σ H x y v u Q I rx ry h;obtain⟨i,j,rfl,rfl,q⟩:=h;obtain⟨t,rfl⟩:=rx;obtain⟨t',rfl⟩:=ry;exact PySem.P.le_str ⟨.bl _,H,I,rfl,q⟩
theorem l6:OpR X (binaryOp .Mult) (λx y H Q=>∃(z:Str) (n:Int),x=.str z/\y=.int n/\PySem.MulOk z n/\Q (.str (Txt.mul z n)) H):=by
 intro pins s σ H x y v u Q I rx ry h;obtain⟨z,n,rfl,rfl,hm,q⟩:=h;obtain⟨t,rfl⟩:=rx;obtain⟨t',rfl⟩:=ry;exact PySem.SB.mul hm λt2 k=>⟨.str _,H,I.tok _,⟨_,rfl⟩,q⟩
theorem Ag:eh X (.type "int") (λxs H Q=>∃(z:Str) (n:Int),xs=[.str z]/\PySem.intText? z=some n/\z.length<=640/\Q (.int n) H):=by
 intro pins s σ H xs us Q I r h;obtain⟨z,n,rfl,hn,hl,q⟩:=h;obtain⟨u,rfl,rx⟩:=Vals.one r;obtain⟨t,rfl⟩:=rx;exact PySem.W.KIN.call_text hn hl ⟨.int n,H,I.tok _,⟨_,rfl⟩,q⟩
end
def Itz (x:Str):It:=⟨λi _=>i < x.cps.size,λi H v H'=>H'=H/\∃c,x.cps[i]?=some c/\v=.str ⟨#[c]⟩,λi _=>x.cps.size<=i⟩
theorem Ib {P:ko}{w:World}{K:ba}{tg:Expr}(it:Addr)(x:Str)(t:Tok):Turn P w K tg (Itz x) [it] it (λi h=>h.IsStrIter it "str_ascii_iterator" x t i) where
 mem:=by simp
 obj:=λi h st b hb=>by
  have e:b=it:=by simpa using hb
  subst e;obtain⟨o,e,c,d⟩:=st;exact⟨o,e,λv z=>by rw[d]at z;cases z⟩
 keep:=λi h h' st k=>let ⟨o,e,r⟩:=st;⟨o,k it (by simp) o e,r⟩
 item:=by
  intro X hP hw hK hc i pins s σ H E I hf st hg;subst hP hw hK;obtain⟨f0,f1,f2,f3,f4,f5⟩:=hf it (by simp)
  have hg':i < x.cps.size:=hg;refine wpAny_pyNext_ascii_item st (c:=x.cps[i]) (by simp[hg']) λh' st' sb=>?_
  have I1:Inv X pins σ H { s with heap:=h',toks:=s.toks+1 }:=I.turned (λb o hb e=>(sb.2 b hb).trans e) f0 f1 f3 f4 f5
  obtain⟨o,e,c,d⟩:=id st';exact⟨_,rfl,GK (s:={ s with heap:=h',toks:=s.toks+1 }) e c d (by decide) ⟨.str ⟨#[x.cps[i]]⟩,H,I1,⟨_,rfl⟩,⟨rfl,_,by simp[hg'],rfl⟩,st',λb hb=>(hf b hb).1⟩⟩
 done:=by
  intro X hP hw hK hc i pins s σ H E I hf st hg;subst hP hw hK;obtain⟨f0,f1,f2,f3,f4,f5⟩:=hf it (by simp)
  have hg':x.cps.size<=i:=hg;exact wpAny_pyNext_ascii_end (I.ok.hd hc) st (by simp[hg']) λh' eb=>⟨rfl,I.turned (t':=s.toks) (λb o hb e=>eb b o hb e) f0 f1 f3 f4 f5⟩
 self:=λ_ _ _ _ _ st h=>wpAny_pyIter_striter_ascii st h
theorem Ie {P:ko}{w:World}{K:ba}{tg:Expr}(it:Addr)(x:Str)(t:Tok):Turn P w K tg (Itz x) [it] it (λi h=>h.IsStrIter it "str_iterator" x t i) where
 mem:=by simp
 obj:=λi h st b hb=>by
  have e:b=it:=by simpa using hb
  subst e;obtain⟨o,e,c,d⟩:=st;exact⟨o,e,λv z=>by rw[d]at z;cases z⟩
 keep:=λi h h' st k=>let ⟨o,e,r⟩:=st;⟨o,k it (by simp) o e,r⟩
 item:=by
  intro X hP hw hK hc i pins s σ H E I hf st hg;subst hP hw hK;obtain⟨f0,f1,f2,f3,f4,f5⟩:=hf it (by simp)
  have hg':i < x.cps.size:=hg;refine wpAny_pyNext_wide_item st (c:=x.cps[i]) (by simp[hg']) λh' st' sb=>?_
  have I1:Inv X pins σ H { s with heap:=h',toks:=s.toks+1 }:=I.turned (λb o hb e=>(sb.2 b hb).trans e) f0 f1 f3 f4 f5
  obtain⟨o,e,c,d⟩:=id st';exact⟨_,rfl,GK (s:={ s with heap:=h',toks:=s.toks+1 }) e c d (by decide) ⟨.str ⟨#[x.cps[i]]⟩,H,I1,⟨_,rfl⟩,⟨rfl,_,by simp[hg'],rfl⟩,st',λb hb=>(hf b hb).1⟩⟩
 done:=by
  intro X hP hw hK hc i pins s σ H E I hf st hg;subst hP hw hK;obtain⟨f0,f1,f2,f3,f4,f5⟩:=hf it (by simp)
  have hg':x.cps.size<=i:=hg;exact wpAny_pyNext_wide_end (I.ok.hd hc) st (by simp[hg']) λh' eb=>⟨rfl,I.turned (t':=s.toks) (λb o hb e=>eb b o hb e) f0 f1 f3 f4 f5⟩
 self:=λ_ _ _ _ _ st h=>wpAny_pyIter_striter_wide st h
section
variable{X:Cx}{tg:Expr}
def T4 (tl:TE):TI:=λσ H R=>tl σ H λx H1=>∃z,x=.str z/\R (Itz z) H1
theorem FL {l:Expr}{tl:TE}(hl:PE X l tl):PI X tg l (T4 tl):=by
 intro pins s σ H R I h;refine thn (hl pins s σ H _ I h) λv s1 ⟨x,H1,I1,r1,z,e,q⟩=>?_
 subst e;obtain⟨t,rfl⟩:=r1;have fp:∀b∈[s1.heap.objs.size],dh X pins H1 b:=λb hb=>by
  have e:b=s1.heap.objs.size:=by simpa using hb
  subst e;exact I1.uz (kg _) (I1.hok.fresh (kg _))
 cases ha:z.cps.all (· < 128)
 ·exact wpAny_pyIter_wide ha ⟨s1.heap.objs.size,[s1.heap.objs.size],_,_,H1,rfl,I1.kept (t':=s1.toks) λb o e=>fu _ e,Ie _ z t,⟨_,si _ rfl,rfl,rfl⟩,fp,q⟩
 ·exact wpAny_pyIter_ascii ha ⟨s1.heap.objs.size,[s1.heap.objs.size],_,_,H1,rfl,I1.kept (t':=s1.toks) λb o e=>fu _ e,Ib _ z t,⟨_,si _ rfl,rfl,rfl⟩,fp,q⟩
end
theorem Kj {z:Str}{D:Addr}{te:TE}{Q:VK}{σ:St}{H1:Hp}(Pv:Nat->List V->Hp->Prop)(h0:Pv 0 [] (upd H1 D (.lst [])))(hz:z.cps.size<=de)
  (hl:∀i ys H2,i<=z.cps.size->Pv i ys H2->H2 D=some (.lst ys)/\ys.length=i)
  (hs:∀i c ys H2,z.cps[i]?=some c->Pv i ys H2->te (some (.str ⟨#[c]⟩)::σ) H2 (dF D z.cps.size Pv i ys)) (hd:∀ys H2,Pv z.cps.size ys H2->Q (.ref D) H2) :
  lq (Itz z) te σ D H1 Q:=by
 refine⟨λi m ys H=>m=z.cps.size - i/\i<=z.cps.size/\Pv i ys H,⟨z.cps.size,by simp,Vg _,h0⟩,?_⟩
 rintro i m ys H2 ⟨rfl,hi,p⟩;obtain⟨q2,q3⟩:=hl i ys H2 hi p;refine⟨q2,?_⟩
 by_cases hlt:i < z.cps.size
 ·refine .inr ⟨hlt,by omega,λx H3 y=>?_⟩
  obtain⟨e,c,y,ex⟩:=y;subst e ex;exact hs i c ys _ y p
 ·have e:i=z.cps.size:=by omega
  subst e;exact .inl ⟨kg _,hd ys H2 p⟩
theorem uG {z:Str}{D:Addr}{te:TE}{Q:VK}{σ:St}{H1:Hp}(p:Nat->Bool)(hz:z.cps.size<=de)(hD:H1 D=none)
  (hs:∀(c:Nat) (H2:Hp) (Q2:VK),c∈z.cps.toList->aS H1 H2->(∀H3,aS H2 H3->Q2 (.bl (p c)) H3)->te (some (.str ⟨#[c]⟩)::σ) H2 Q2)
  (hd:∀H2,aS H1 H2->H2 D=some (.lst ((z.cps.toList.map p).map V.bl))->Q (.ref D) H2):lq (Itz z) te σ D H1 Q:=by
 refine Kj (λi ys H2=>ys=((z.cps.toList.take i).map p).map V.bl/\aS H1 H2/\H2 D=some (.lst ys)) ⟨by simp,aw hD,af⟩ hz ?_ ?_ ?_
 ·rintro i ys H2 hi ⟨rfl,s2,h2⟩;exact⟨h2,by simp;omega⟩
 ·rintro i c ys H2 hi ⟨rfl,s2,h2⟩;have hi':z.cps.toList[i]?=some c:=by rw[Array.getElem?_toList];exact hi
  refine hs c H2 _ (ma hi') s2 λH3 s3=>?_
  refine dF.mk (Array.getElem?_eq_some_iff.mp hi).1 (s3 _ _ h2) ⟨?_,(s2.trans s3).own hD,af⟩;rw[Wl,hi'];simp
 ·rintro ys H2 ⟨rfl,s2,h2⟩;refine hd H2 s2 (h2.trans ?_);rw[List.take_of_length_le (by simp)]
inductive Pg:List Expr->List Str->Prop
 |nil:Pg [] []
 |cons {x:Str} {j:_} {p:Pos} {es:List Expr} {ss:List Str}:Pg es ss->Pg (.Constant (.str x) j p::es) (x::ss)
structure d4 (scope outer:Scope)(xs N M:List Str):Prop where
 kind:scope.kind=.function
 JX:outer.kind=.function
 yk:∀y∈scope.names,y.2≠.cell
 names:∀y∈scope.names,y.2=.local->scope.names.lookup y.1=some .local
 hx:∀x∈xs,scope.names.lookup x=some .local
 free:∀y∈scope.names,y.2=.free->outer.names.lookup y.1=some .cell
 nl:∀n∈M,(cg scope outer).names.lookup n≠some .local
 nd2:(xs++M).Nodup
 nd:N.Nodup
 len:M.length=N.length
 rel:∀i:Nat,i < N.length->M[i]?=N[i]?\/M[i]?=some U7
 em:(cg scope outer).names.lookup U7=none
theorem d4.mem {scope outer:Scope}{xs:List Str}{N M:List Str}(S:d4 scope outer xs N M){n:Str}{k:NameKind}(h:(cg scope outer).names.lookup n=some k)(hk:k=.cell\/k=.free) :
  k=.cell/\(n,VM)∈scope.names/\outer.names.lookup n=some .cell:=by
 obtain⟨⟨n',k'⟩,hm,e⟩:=List.mem_map.mp (VV h);dsimp only at e
 by_cases hc:(k' == VM && outer.kind == .function && outer.names.lookup n' == some .cell)=true
 ·rw[if_pos hc]at e;injection e with e1 e2
  subst e1 e2;rw[gc,gc]at hc;have hk':k'=.free:=beq_iff_eq.mp hc.1.1;subst hk';exact⟨rfl,hm,beq_iff_eq.mp hc.2⟩
 ·rw[if_neg hc]at e;injection e with e1 e2
  subst e1 e2;rcases hk with z | z
  ·exact absurd z (S.yk _ hm)
  ·subst z
   exfalso
   refine hc ?_;rw[S.free _ hm rfl,S.JX];rfl
def dR (X:Cx)(xs M:List Str)(scope:Scope)(cl:List (Str×Addr))(C:Addr)(s:Shared)(H:Hp)(fp:List Addr):Cx :=
 { X with N:=xs++M,s₀:=s,H₀:=H,env:=compEnvC scope cl C X.env,outer:=X.stack,ex:=fp,fn:=λ_=>false,pn:=[],xe:=λ_ _=>False }
def A4 (n:Nat)(J:It)(g:TG)(te:TEX)(σ:St)(D:Addr)(H1:Hp)(Q:VK)(E:XK):Prop:=∃W:Nat->Nat->List V->Hp->Prop,(∃m,W 0 m [] (upd H1 D (.lst [])))/\∀i m ys H2,W i m ys H2 ->
 H2 D=some (.lst ys)/\((J.stop i H2/\Q (.ref D) H2)\/(J.go i H2/\ys.length < de/\∀x H3,J.yld i H2 x H3->∀vs:St,vs.length=n->g x (vs++σ) H3 λσ' H4=>∃ws:St,ws.length=n/\σ'=ws++σ /\
  te σ' H4 (λy H5=>H5 D=some (.lst ys)/\∃m',m' < m/\W (i+1) m' (ys++[y]) (upd H5 D (.lst (ys++[y])))) E))
def FN (n:Nat)(wi:TI)(g:TG)(te:TEX):TEX:=λσ H Q E=>wi σ H λJ H1=>∀D,H1 D=none->A4 n J g te σ D H1 Q E
section
variable{prog:ko}{w:World}{A:Around}{R:Result->Shared->Prop}{s:Shared}
theorem FO {elt target iter:Expr}{scope:Scope}{pos:Pos}{it acc:Value}{env:Env}(I:Nat->Shared->Prop)
  (turn:∀n s,I n s->wpAny (model prog w) A (pyNext it) (λr s₁=>match r with
   |none=>R (.ok .next) s₁
   |some v=>wpAny (model prog w) A (letOwnedTupleGo target it v) (λ_ s₀=>wpAny (model prog w) A (assign target env v) (λ_ s₂ =>
     wpAny (model prog w) A (eval elt env) (λx s₄ =>
       wpAny (model prog w) A (call (.builtin "list.append") [acc,x]) (λ_ s₅=>∃m,m < n/\I m s₅) (notedBy (model prog w) A env λe s'=>R (.error e) s') s₄) (notedBy (model prog w) A env λe s'=>R (.error e) s') s₂)
      (notedBy (model prog w) A env λe s'=>R (.error e) s') s₀) (notedBy (model prog w) A env λe s'=>R (.error e) s') s₁) (notedBy (model prog w) A env λe s'=>R (.error e) s') s)
  (n:Nat) (h:I n s) :
  codeAny (model prog w) A (.compLoop (.ListComp elt [⟨target,iter,[],0⟩] scope pos) 0 it acc env) R s:=by
 refine codeAny_loop rfl I (λn s hI=>?_) n h
 show wpAny _ A ((compTurn (.ListComp elt [⟨target,iter,[],0⟩] scope pos) 0 it acc env).onRaise (λx=>do noteFrame x env;theTreesLotGoes x)) _ _ s
 refine wpAny_noted ?_;rw[compTurn_list];refine cb (Va (cb (ki (turn n s hI) (λr s₁ h₁=>?_) λ_ _ h'=>h')))
 cases r with
 |none=>exact ka h₁
 |some v =>
  refine cb (ki h₁ (λ_ s₀ h₀=>?_) λ_ _ h'=>h')
  refine cb (ki h₀ (λ_ s₂ h₂=>cb (wpAny_tests_nil ?_)) λ_ _ h'=>h')
  exact cb (cb (ki h₂ (λx s₄ h₄=>cb (ki h₄ (λ_ s₅ h₅=>ka (ka ⟨rfl,h₅⟩)) λ_ _ h'=>h')) λ_ _ h'=>h'))
end
section
variable{X:Cx}{pins:List (Addr×Obj)}{σ:St}{H:Hp}{s:Shared}{elt iter tg:Expr}{xs:List Str}{px pos:Pos}{scope:Scope}{wi:TI}{te:TEX}{g:TG}{Q:VK}{E:XK}{M:List Str}
theorem Kk {cl:List (Str×Addr)}{C:Addr}{fp:List Addr}(S:d4 scope X.env.scope xs X.N M)(I:Inv X pins σ H s)(hC:s.heap.objs.size<=C)(p1:∀n c,cl.lookup n=some c->X.env.cells.lookup n=some c)
  (p3:∀y∈scope.names,y.2=.free->(cl.lookup y.1).isSome=true) (f2:∀b∈fp,dh X pins H b) (fo:∀b∈fp,b < s.heap.objs.size):(dR X xs M scope cl C s H fp).Ok where
 mod:=I.ok.mod
 kind:=S.kind
 glob:=I.ok.glob
 blt:=I.ok.blt
 above:=hC
 inj:=λy z c h1 h2=>I.ok.inj y z c (p1 y c h1) (p1 z c h2)
 has:=λy hy=>by
  have hy':(cg scope X.env.scope).names.lookup y=some .cell\/(cg scope X.env.scope).names.lookup y=some .free:=hy;have hm:(y,VM)∈scope.names:=by
   rcases hy' with z | z
   ·exact(S.mem z (.inl rfl)).2.1
   ·exact(S.mem z (.inr rfl)).2.1
  exact Option.isSome_iff_exists.mp (p3 _ hm rfl)
 cab:=λy c h=>absurd h gr
 hd:=I.ok.hd
 frames:=I.ok.frames
 stk:=.inl rfl
 exf:=λb hb=>⟨sr (tm (fo b hb) hC),λy c e=>(f2 b hb).2.2.2.2.1 y c (p1 y c e)⟩
 bs:=I.bs
 bsz:=ku I.ok.bsz I.sz
 sL:=λb o e hb=>by
  rcases (f2 b hb).2.2.2.1 with z | z
  ·exact I.ok.sL b o e z
  ·exact absurd (tm (kq (I.ok.bs b o e).1) z) (WC _)
 sM:=λb hb z=>by
  rcases List.mem_cons.mp (I.x8 b z) with e | e
  ·exact(f2 b hb).2.1 e
  ·exact(f2 b hb).2.2.1 e
 jJ:=I.stack
 frf:=I.xO
theorem Ig {cl:List (Str×Addr)}{C D:Addr}{fp:List Addr}{h₁:Heap}{tk:Nat}{m:Str->Option Value}(S:d4 scope X.env.scope xs X.N M)(I:Inv X pins σ H s)(hC:s.heap.objs.size<=C)(hD:s.heap.objs.size<=D)(hDC:D≠C)
  (p1:∀n c,cl.lookup n=some c->X.env.cells.lookup n=some c)
  (p3:∀y∈scope.names,y.2=.free->(cl.lookup y.1).isSome=true) (f2:∀b∈fp,dh X pins H b) (fo:∀b∈fp,b < s.heap.objs.size)
  (old:∀b o,s.heap.get? b=some o->h₁.get? b=some o) (hn:h₁.Ns C m) (hl:h₁.get? D=some { cls:=.type "list",data:=.seq ([]:List Value).toArray }) :
  Inv (dR X xs M scope cl C s H fp) [] (Vt xs.length none++σ) (upd H D (.lst [])) { s with heap:=h₁,toks:=tk }:=by
 have cellK:∀c v,s.heap.IsCell c v->h₁.IsCell c v:=λc v ⟨o,e,d⟩=>⟨o,old c o e,d⟩
 refine⟨Kk S I hC p1 p3 f2 fo,rfl,I.bare,Un.laid old hD (I.hok.fresh hD),⟨m,hn,λi n v h1 h2 h3=>?_⟩,λy c e=>?_,?_,λy c e=>?_,λp hp=>absurd (show p∈([]:List (Addr×Obj)) from hp) (by simp),I.hok.laid old hD ⟨Vg _,[],0,.nil,hl⟩,?_⟩
 ·have h1':(xs++M)[i]?=some n:=h1
  by_cases hi:i < xs.length
  ·rw[Vo (by rw[VE];exact hi),List.getElem?_replicate,if_pos hi]at h2
   cases h2
  ·rw[Vb (by omega)]at h1'
   rw[Vb (by rw[VE];omega),VE]at h2
   generalize i - xs.length=i at h1' h2;have h3':(cg scope X.env.scope).names.lookup n=some .local\/(cg scope X.env.scope).names.lookup n=some .cell\/(cg scope X.env.scope).names.lookup n=some .free:=h3;have iO:(cg scope X.env.scope).names.lookup n=some .cell/\(n,VM)∈scope.names/\X.env.scope.names.lookup n=some .cell:=by
    rcases h3' with z | z | z
    ·exact absurd z (S.nl n (ma h1'))
    ·exact⟨z,(S.mem z (.inl rfl)).2⟩
    ·exact absurd (S.mem z (.inr rfl)).1 (by decide)
   have T5:X.N[i]?=some n:=by
    have hi:i < X.N.length:=by rw[<-S.len];exact(List.getElem?_eq_some_iff.mp h1').1
    rcases S.rel i hi with z | z
    ·rw[<-z];exact h1'
    ·rw[h1']at z;have e:n=U7:=ra z;rw[e,S.em]at iO;cases iO.1
   obtain⟨m0,hn0,hl0⟩:=I.loc;obtain⟨u,r,l⟩:=hl0 i n v T5 h2 (.inr (.inl iO.2.2));refine⟨u,r,.inr ⟨.inl iO.1,?_⟩⟩;obtain⟨c,hc⟩:=Option.isSome_iff_exists.mp (p3 _ iO.2.1 rfl);refine⟨c,hc,?_⟩;rcases l with ⟨k,_⟩ | ⟨_,c',hc',z⟩
   ·have k':X.env.scope.names.lookup n=some .local:=k;rw[iO.2.2]at k';cases k'
   ·rw[p1 n c hc]at hc';cases hc';exact cellK c _ z
 ·obtain⟨v,z⟩:=I.cell y c (p1 y c e);exact⟨v,cellK c v z⟩
 ·show (upd H D (.lst [])) C=none;rw[ax (UU hDC)];exact I.hok.fresh hC
 ·obtain⟨v,z⟩:=I.cell y c (p1 y c e);rw[ax (sr (tm z.lt hD))];exact I.f9 y c (p1 y c e)
 ·show (Vt xs.length none++σ).length=(xs++M).length;rw[km,km,VE,I.len,S.len]
def XPC (X:Cx)(pins:List (Addr×Obj))(σ:St)(E:XK)(C:Addr)(ea:Addr)(s':Shared):Prop :=
 ∃(cls:Value) (xd:Option Addr) (m:Value) (H':Hp) (o:Obj),Inv X (pins++[(C,o)]) σ H' s'/\(∃mC,s'.heap.Ns C mC)/\X.s₀.heap.objs.size<=C/\(∀y c,X.env.cells.lookup y=some c->c≠C)/\(∀p∈X.pn++pins,p.1≠C)/\XAt X (pins++[(C,o)]) H' s'.heap ea cls xd (some m)/\E cls xd H'
theorem yt {cl:List (Str×Addr)}{RR:Value->Addr->Result->Shared->Prop}{xe:Value->Shared->Prop}(F1:Fr1 X)(S:d4 scope X.env.scope xs X.N M)(hc:X.calm=true)(hi:PI X.nox tg iter wi)
  (hg:∀cl C s H fp,PG (dR X xs M scope cl C s H fp) tg g)
  (he:∀cl C s H fp,PEX (dR X xs M scope cl C s H fp) elt te) (I:Inv X pins σ H s) (h:FN xs.length wi g te σ H Q E)
  (p1:∀n c,cl.lookup n=some c->X.env.cells.lookup n=some c) (p3:∀y∈scope.names,y.2=.free->(cl.lookup y.1).isSome=true)
  (hRR:∀D C H' s' o m,Inv X (pins++[(C,o)]) σ H' s'->s'.heap.get? C=some o->s'.heap.Ns C m->X.s₀.heap.objs.size<=C->(∀y c,X.env.cells.lookup y=some c->c≠C)->(∀p∈X.pn++pins,p.1≠C)->Q (.ref D) H'->RR (.ref D) C (.ok .next) s')
  (hRX:∀D C ea s',XPC X pins σ E C ea s'->RR (.ref D) C (.error (.ref ea)) s') :
  wpAny (model X.prog X.w) X.A (eval iter X.env) (λxv s₁=>wpAny (model X.prog X.w) X.A (pyIter xv) (λit s₂=>wpAny (model X.prog X.w) X.A (newList []) (λacc s₃ =>
   wpAny (model X.prog X.w) X.A (newFunctionEnv scope X.env.globals cl [] X.env.qual none .none (some X.env)) (λAf s₄ =>
    codeAny (model X.prog X.w) X.A (.compStart (.ListComp elt [⟨tg,iter,[],0⟩] scope pos) 0 it acc { Af with scope:=relabel scope X.env }) (RR acc Af.locals) s₄) xe s₃) xe s₂) xe s₁) xe s:=by
 refine ki (hi pins s σ H _ (I.gN _) h) (λv s1 h1=>ki h1 (λitv s2 h2=>?_) λ_ _ z=>wa z) λ_ _ z=>wa z
 obtain⟨it,fp,tn,J,H2,rfl,I2',T,st2,f2',q⟩:=h2;have I2:Inv X pins σ H2 s2:=I2'.ck;have f2:∀b∈fp,dh X pins H2 b:=f2';refine wpAny_newObj_type (wpAny_newFunctionEnv S.yk (by intro y hy;simp at hy) (λh₁ hns₁ hsb₁=>?_) S.kind)
 dsimp only at hns₁ hsb₁ ⊢;generalize hHH:s2.heap.push { cls:=.type "list",dict:=none,data:=.seq ([]:List Value).toArray }=HH at hns₁ hsb₁ ⊢;have hCs:HH.objs.size=s2.heap.objs.size+1:=by rw[<-hHH,VR]
 have hDC:s2.heap.objs.size≠HH.objs.size:=by rw[hCs];exact sr (Wv _)
 have J0:s2.heap.objs.size<=HH.objs.size:=by rw[hCs];exact VZ _
 have below:∀b,b < s2.heap.objs.size->b≠HH.objs.size:=λb hb=>by rw[hCs];exact sr (Wk hb)
 have old:∀b o,s2.heap.get? b=some o->h₁.get? b=some o:=λb o e=>hsb₁.extBut b o (below b (kq e)) (fu _ (hHH▸fu _ e))
 have HY:h₁.get? s2.heap.objs.size=some { cls:=.type "list",data:=.seq ([]:List Value).toArray }:=hsb₁.extBut _ _ hDC (fu _ (hHH▸si _ rfl));have fo:∀b∈fp,b < s2.heap.objs.size:=λb hb=>by
  obtain⟨o,e,_⟩:=T.obj _ _ st2 b hb;exact kq e
 have IY:=Ig (tk:=s2.toks+([]:List (Str×Value)).length) S I2 J0 (kg _) hDC p1 p3 f2 fo old hns₁ HY;have st1:tn 0 h₁:=T.keep _ _ _ st2 λb _ o e=>old b o e
 obtain⟨W,⟨m0,w0⟩,turn⟩:=q _ (I2.hok.fresh (kg _));generalize hC:HH.objs.size=C at *;generalize hDD:s2.heap.objs.size=D at *;have HZ:s2.heap.objs.size<=C:=by rw[hDD];exact J0
 have stat:∀ {H':Hp},(∀b∈fp,H' b=none)->∀b∈fp,dh (dR X xs M scope cl C s2 H2 fp) [] H' b:=λhn b hb =>
  ⟨hn b hb,below b (fo b hb),IY.ok.sM b hb,.inl hb,λy c e=>(f2 b hb).2.2.2.2.1 y c (p1 y c e),λp hp=>absurd (show p∈([]:List (Addr×Obj)) from hp) (by simp)⟩
 have out:∀ {H':Hp} {s':Shared} {σ':St} {pl:List (Addr×Obj)},Inv (dR X xs M scope cl C s2 H2 fp) pl σ' H' s'->∃oC mC,Inv X (pins++[(C,oC)]) σ H' s'/\s'.heap.get? C=some oC/\s'.heap.Ns C mC/\dh X pins H' C:=λ{H' s' σ' pl} I4=>by
  obtain⟨m4,hn4,_⟩:=I4.loc;obtain⟨oC,es4,ep4,e4,r4⟩:=id hn4;have IX:Inv X pins σ H' s':=I2.GJ (ch:=fp) I4.os I4.base I4.hok I4.bare λb hb=>⟨(f2 b hb).2.2.2.1,(f2 b hb).2.1,(f2 b hb).2.2.2.2.1,(f2 b hb).2.2.2.2.2⟩
  have fC:=I2.uz (H':=H') HZ I4.free;have IX2:Inv X (pins++[(C,oC)]) σ H' s':=IX.pK λp hp=>(List.mem_append.mp hp).elim (λz=>IX.pin p (di _ z)) λz=>by
   have e:p=(C,oC):=by simpa using z
   subst e;exact⟨e4,fC.1,fC.2.1,fC.2.2.1,λv z=>by rw[r4.1]at z;cases z⟩
  exact⟨oC,m4,IX2,e4,hn4,fC⟩
 have exo:∀ {e:Value} {s':Shared} {σ':St} {pl:List (Addr×Obj)},XP (dR X xs M scope cl C s2 H2 fp) pl σ' E e s'->notedBy (model X.prog X.w) X.A (compEnvC scope cl C X.env) (λe s''=>RR (.ref D) C (.error e) s'') e s':=λ{e s' σ' pl} xp=>by
  obtain⟨ea,cls,xd,m,H',rfl,I4,hx,_,qe⟩:=xp;obtain⟨oC,mC,IX2,e4,hn4,fC⟩:=out I4;have fpx:∀ {b:Addr},dh (dR X xs M scope cl C s2 H2 fp) pl H' b->dh X (pins++[(C,oC)]) H' b:=λ{b} z=>by
   have base:dh X pins H' b:=by
    rcases z.2.2.2.1 with y | y
    ·exact⟨z.1,(f2 b y).2⟩
    ·exact I2.uz y z.1
   refine⟨base.1,base.2.1,base.2.2.1,base.2.2.2.1,base.2.2.2.2.1,λp hp=>?_⟩
   rcases List.mem_append.mp hp with y | y
   ·exact base.2.2.2.2.2 p (Vc _ y)
   ·rcases List.mem_append.mp y with y | y
    ·exact base.2.2.2.2.2 p (di _ y)
    ·have e:p=(C,oC):=by simpa using y
     subst e;exactλe=>z.2.1 e.symm
  have hx':XAt X (pins++[(C,oC)]) H' s'.heap ea cls xd m:=by
   obtain⟨ok,sl,vs,he',hz,hm⟩:=hx;refine⟨fpx ok,sl,vs,he',hz.move rfl rfl (λz=>by first | exact z | rfl) (λz=>by first | exact z | rfl) λc o ws _ f g d=>⟨fpx f,o,ws,g,d,rfl⟩,?_⟩
   cases m with
   |none=>exact hm
   |some m=>obtain⟨T',oT,ts,a,b,c,d⟩:=hm;exact⟨T',oT,ts,a,b,fpx c,d⟩
  have hmk:MOk X m:=by cases m with | none=>exact .inl rfl | some m=>exact .inr (.inr ⟨m,rfl⟩)
  show wpAny _ _ (noteFrame (.ref ea) X.env) _ _ s';refine l5 F1 IX2.ok.frames IX2 hx' hmk λs5 I5 x5=>?_
  refine hRX D C ea s5 ⟨cls,xd,_,H',oC,I5,?_,ku I2.sz HZ,fC.2.2.2.2.1,fC.2.2.2.2.2,x5,qe⟩;have pC:=I5.pin (C,oC) (di _ (di _ (by simp)))
  obtain⟨o',es,ep,e0,r⟩:=hn4;rw[e4]at e0;cases e0;exact⟨mC,oC,es,ep,pC.1,r⟩
 have loop:codeAny (model X.prog X.w) X.A (.compLoop (.ListComp elt [⟨tg,iter,[],0⟩] scope pos) 0 (.ref it) (.ref D) (compEnvC scope cl C X.env)) (RR (.ref D) C) { s2 with heap:=h₁,toks:=s2.toks+([]:List (Str×Value)).length }:=by
  refine FO (λn s'=>∃i vs ys H',Inv (dR X xs M scope cl C s2 H2 fp) [] (vs++σ) H' s'/\vs.length=xs.length/\tn i s'.heap/\(∀b∈fp,H' b=none)/\W i n ys H') ?_ m0 ⟨0,Vt xs.length none,[],_,IY,VE,st1,λb hb=>?_,w0⟩
  ·rintro n s3 ⟨i,vs,ys,H3,I3,hvs,st3,fr3,w3⟩;obtain⟨hDl,hw⟩:=turn i n ys H3 w3;rcases hw with ⟨stop,qn⟩ | ⟨go,hsz,step⟩
   ·refine thn (T.done (dR X xs M scope cl C s2 H2 fp) rfl rfl rfl hc i [] s3 _ H3 _ I3 (stat fr3) st3 stop) λr s4 ⟨hr,I4⟩=>?_
    subst hr;obtain⟨oC,m4,IX2,e4,hn4,fC⟩:=out I4;exact hRR D C H3 s4 oC m4 IX2 e4 hn4 (ku I2.sz HZ) fC.2.2.2.2.1 fC.2.2.2.2.2 qn
   ·refine thn (T.item (dR X xs M scope cl C s2 H2 fp) rfl rfl rfl hc i [] s3 _ H3 _ I3 (stat fr3) st3 go) λr s4 ⟨u,hr,h4⟩=>?_
    subst hr;refine thn h4 λ_ s5 ⟨xv,H5,I5,r5,y5,st5,fr5⟩=>?_
    have I5':=I5.pinned (stat fr5) (T.obj _ _ st5);refine ki (hg cl C s2 H2 fp _ s5 _ H5 xv u _ I5' r5 (step xv H5 y5 vs hvs)) (λ_ s6 ⟨σ6,H6,I6,ws,hws,e6,q6⟩=>?_) (λ_ _ f=>f.elim)
    subst e6;refine ki (he cl C s2 H2 fp _ s6 _ H6 _ E I6 q6) (λy s7 ⟨yv,H7,I7,r7,hD7,m',hm',w7⟩=>?_) (λ_ _ f=>exo f)
    refine ki (eP (X:=dR X xs M scope cl C s2 H2 fp) _ s7 _ H7 (.ref D) [yv] (.ref D) [y] (λ_ H8=>H8=upd H7 D (.lst (ys++[yv]))) I7 rfl (.cons r7 .nil) ⟨D,ys,yv,rfl,rfl,hD7,hsz,rfl⟩)
     (λ_ s8 ⟨_,H8,I8,_,e8⟩=>?_) (λ_ _ f=>f.elim)
    subst e8;refine⟨m',hm',i+1,ws,ys++[yv],_,I8.cP,hws,T.keep _ _ _ st5 λb hb o e=>(I8.pin (b,o) (di _ (di _ (ez hb e)))).1,λb hb=>?_,w7⟩
    obtain⟨o,e,d⟩:=T.obj _ _ st5 b hb;exact(I8.pin (b,o) (di _ (di _ (ez hb e)))).2.1
  ·show (upd H2 D (.lst [])) b=none;rw[ax (sr (fo b hb))];exact(f2 b hb).1
 exact codeAny_compStart_list loop (T.self _ 0 _ _ _ st1 loop)
theorem G1 {C ea:Addr}{s':Shared}{h':Heap}{Af:Env}{α:Type}{w1:String}{Q':α->Shared->Prop}(x:XPC X pins σ E C ea s')(hs':Heap.SameBut C s'.heap h') :
  wpAny (model X.prog X.w) X.A (passOn w1 (.ref ea) Af:Sem α) Q' (XP X pins σ E) { s' with heap:=h' }:=by
 obtain⟨cls,xd,m,H',o,I5,⟨mC,hn⟩,h0,h1,h2,hx,qe⟩:=x;have pC:=I5.pin (C,o) (di _ (di _ (by simp)))
 have IX:Inv X pins σ H' s':=I5.cP;have I6:Inv X pins σ H' { s' with heap:=h' }:=IX.turned (t':=s'.toks) (λb ob hb e=>(hs'.2 b hb).trans e) pC.2.1 pC.2.2.1 (.inr h0) h1 h2
 have ne:∀ {b:Addr},dh X (pins++[(C,o)]) H' b->b≠C:=λ{b} z e=>z.2.2.2.2.2 (C,o) (di _ (di _ (by simp))) e.symm
 obtain⟨ok,sl,vs,he,hz,T,oT,ts,a1,nT,fT,hT,hd,h3⟩:=hx;have x6:XAt X pins H' h' ea cls xd (some m):=⟨ok.drop,sl,vs,(hs'.2 ea (ne ok)).trans he,hz.move rfl rfl id id (λc o ws _ f g d=>⟨f.drop,o,ws,(hs'.2 c (ne f)).trans g,d,rfl⟩),T,oT,ts,a1,nT,fT.drop,(hs'.2 T (ne fT)).trans hT,hd,h3⟩
 unfold PySem.passOn;refine cb (Vw (s:={ s' with heap:=h' }) ((hs'.2 ea (ne ok)).trans he) rfl a1 ?_)
 rw[if_neg (show ¬((ky T == Vx)=true) by simp)]
 have step:wpAny (model X.prog X.w) X.A (do setFlight (.ref ea) Af.frame;throw (.ref ea):Sem α) Q' (XP X pins σ E) { s' with heap:=h' } :=
  cb (dG I6 x6 λs2 I2 x2=>wpAny_throw ⟨ea,cls,xd,_,H',rfl,I2,x2,.inr (.inr ⟨_,rfl⟩),qe⟩)
 first
  |exact step
  |exact cb (ka step)
theorem PEX.pe {e:Expr}{t:TEX}(h:PEX X e t):PE X e (λσ H Q=>t σ H Q E0):=λpins s σ H Q I hw =>
 ki (h pins s σ H Q E0 I hw) (λ_ _ z=>z) λ_ _ ⟨_,_,_,_,_,_,_,_,_,z⟩=>z.elim
theorem Kl (F1:Fr1 X)(S:d4 scope X.env.scope xs X.N M)(hc:X.calm=true)(hi:PI X.nox tg iter wi)(hg:∀cl C s H fp,PG (dR X xs M scope cl C s H fp) tg g)
  (he:∀cl C s H fp,PEX (dR X xs M scope cl C s H fp) elt te)
  (hs:∀x,foldedSetIterable iter X.env x=pure x:=by intro _;rfl):PEX X (.ListComp elt [⟨tg,iter,[],0⟩] scope pos) (FN xs.length wi g te):=by
 intro pins s σ H Q E I h;obtain⟨cl,ym,p1,p3⟩:=pN (scope:=scope) (env:=X.env) (λy hy hf=>I.ok.has y.1 (.inl (S.free y hy hf)))
 rw[eval_ListComp];refine wpAny_comprehension_free (use:=none) rfl hs ym S.kind S.names (yt (RR:=λacc C=>compPost (model X.prog X.w) X.A (XP X pins σ E) none (EP X pins σ Q) acc C) F1 S hc hi hg he I h p1 p3 ?_ ?_)
 ·intro D C H' s' o m I' e hn h0 h1 h2 q;refine⟨m,hn,λh' hs'=>?_⟩
  have pC:=I'.pin (C,o) (di _ (di _ (by simp)))
  have IX:Inv X pins σ H' s':=I'.cP;exact⟨.ref D,H',IX.turned (t':=s'.toks) (λb ob hb e=>(hs'.2 b hb).trans e) pC.2.1 pC.2.2.1 (.inr h0) h1 h2,rfl,q⟩
 ·intro D C ea s' x;obtain⟨_,_,_,_,_,_,⟨mC,hn⟩,_⟩:=id x;exact⟨mC,hn,λh' hs' Af _=>G1 x hs'⟩
theorem DH {i:Nat}{y:Str}{py J1:Pos}(F1:Fr1 X)(S:d4 scope X.env.scope xs X.N M)(hc:X.calm=true)(hj:X.N[i]?=some y)(hy:Loc X.env.scope y)(hi:PI X.nox tg iter wi)(hg:∀cl C s H fp,PG (dR X xs M scope cl C s H fp) tg g)
  (he:∀cl C s H fp,PEX (dR X xs M scope cl C s H fp) elt te)
  (hsw:swapsWith (.ListComp elt [⟨tg,iter,[],0⟩] scope pos) (some (.Name y py)) J1.line X.env=pure true:=by rfl)
  (hf:X.fn y=true\/X.env.scope.names.lookup y=some .local:=by first | exact .inl rfl | exact .inr rfl | assumption)
  (hs:∀x,foldedSetIterable iter X.env x=pure x:=by intro _;rfl):PSX X (.Assign [.Name y py] (.ListComp elt [⟨tg,iter,[],0⟩] scope pos) J1) (λD E σ H=>FN xs.length wi g te σ H (λv H1=>D.nx (σ.set i (some v)) H1) (E σ)):=by
 intro pins s σ H D E I h;obtain⟨cl,ym,p1,p3⟩:=pN (scope:=scope) (env:=X.env) (λy hy hf=>I.ok.has y.1 (.inl (S.free y hy hf)))
 rw[exec_Assign_Name_used _ _ _ _ hsw];refine cb (Va (cb ?_));show wpAny _ _ (do let _ <-comprehension (.ListComp elt [⟨tg,iter,[],0⟩] scope pos) scope X.env _ (newList []) false (eval iter X.env) (some (assign (.Name y py) X.env))) _ _ s
 refine cb (ki (wpAny_comprehension_free (use:=some (assign (.Name y py) X.env)) (Q:=λ_ s'=>SP X pins D .next s') rfl hs ym S.kind S.names
  (yt (RR:=λacc C=>compPost (model X.prog X.w) X.A (XP X pins σ (E σ)) (some (assign (.Name y py) X.env)) (λ_ s'=>SP X pins D .next s') acc C) F1 S hc hi hg he I h p1 p3 ?_ ?_)) (λ_ s' hq=>ka (ka hq)) λ_ _ e=>⟨σ,e⟩)
 ·intro Dd C H' s' o m I' e hn h0 h1 h2 q;show wpAny _ _ (assign (.Name y py) X.env (.ref Dd)) _ _ s';refine wpAny_assign_Name (hX I' S.nd hj hy (v:=.ref Dd) rfl (λs'' I''=>?_) hf)
  have pC:=I''.pin (C,o) (di _ (di _ (by simp)))
  obtain⟨o',es,ep,e0,r⟩:=hn;rw[e]at e0;cases e0;have IX:Inv X pins _ H' s'':=I''.cP;refine⟨m,⟨o,es,ep,pC.1,r⟩,λh' hs'=>?_⟩
  exact⟨_,H',IX.turned (t':=s''.toks) (λb ob hb e=>(hs'.2 b hb).trans e) pC.2.1 pC.2.2.1 (.inr h0) h1 h2,q⟩
 ·intro Dd C ea s' x;obtain⟨_,_,_,_,_,_,⟨mC,hn⟩,_⟩:=id x;exact⟨mC,hn,λh' hs' Af _=>G1 x hs'⟩
end
def Rv (t:TAX):TEX:=λσ H Q E=>t σ H (λxs H1=>xs.length<=de/\∀p,H1 p=none->Q (.ref p) (upd H1 p (.tup xs))) E
theorem gh {X:Cx}{es:List Expr}{t:TAX}{x1:_}{pos:Pos}(h:PAX X es t):PEX X (.Tuple es x1 pos) (Rv t):=by
 intro pins s σ H Q E I hq;refine wpAny_Tuple_spliced (thn (h pos pins s σ H _ E I hq) λus s1 ⟨xs,H1,I1,r,z,q⟩=>⟨by rw[<-r.length];exact z,?_⟩)
 have hf:H1 s1.heap.objs.size=none:=I1.hok.fresh (kg _);refine⟨.ref s1.heap.objs.size,upd H1 s1.heap.objs.size (.tup xs),I1.laid (t':=s1.toks) (λb u e=>fu _ e) (kg _) ?_,rfl,q _ hf⟩
 exact⟨z,us,r,⟨_,si _ rfl,rfl,_,rfl⟩⟩
theorem yu {K:ba}{a D:Addr}{xs:List V}{te:TEX}{Q:VK}{E:XK}{σ:St}{H1:Hp}(Pv:Nat->List V->Hp->Prop)(h0:Pv 0 [] (upd H1 D (.lst [])))(hz:xs.length<=de)
  (hl:∀i ys H2,i<=xs.length->Pv i ys H2->SqL K H2 a xs/\H2 D=some (.lst ys)/\ys.length=i)
  (hs:∀i x ys H2,xs[i]?=some x->Pv i ys H2->te (some x::σ) H2 (dF D xs.length Pv i ys) E) (hd:∀ys H2,Pv xs.length ys H2->Q (.ref D) H2) :
  A4 1 (Itl K a) (sN 0) te σ D H1 Q E:=by
 refine⟨λi m ys H=>m=xs.length - i/\i<=xs.length/\Pv i ys H,⟨xs.length,by simp,Vg _,h0⟩,?_⟩
 rintro i m ys H2 ⟨rfl,hi,p⟩;obtain⟨q,q2,q3⟩:=hl i ys H2 hi p;refine⟨q2,?_⟩
 by_cases hlt:i < xs.length
 ·refine .inr ⟨⟨xs,xs[i],q,by simp[hlt]⟩,by omega,λx H3 y vs hv=>?_⟩
  obtain⟨e,y⟩:=y;subst e;obtain⟨v0,rfl⟩:=List.length_eq_one_iff.mp hv;exact⟨[some x],rfl,rfl,hs i x ys _ (y xs q) p⟩
 ·have e:i=xs.length:=by omega
  subst e;exact .inl ⟨⟨xs,q,kg _⟩,hd ys H2 p⟩
abbrev TJ:=St->Hp->Str->(Str->Hp->Prop)->Prop
def PJ (X:Cx)(es:List Expr)(t:TJ):Prop :=
 ∀(pins:List (Addr×Obj)) (s:Shared) (σ:St) (H:Hp) (acc:Str) (Q:Str->Hp->Prop),Inv X pins σ H s->t σ H acc Q ->
  Joins (model X.prog X.w) X.A X.xe (evalEach es X.env) acc (λout s1=>∃H1,Inv X pins σ H1 s1/\out.length<=de/\Q out H1) s
theorem Joins.mono {M:Model}{A:Around}{E:Value->Shared->Prop}{Q Q':Str->Shared->Prop}(hQ:∀o s,Q o s->Q' o s):∀ {ps:List (Sem Value)} {acc:Str} {s:Shared},Joins M A E ps acc Q s->Joins M A E ps acc Q' s
 |[],_,_,h=>hQ _ _ h
 |_::_,_,_,h=>ki h (λ_ _ ⟨y,t,e,l,r⟩=>⟨y,t,e,l,Joins.mono hQ r⟩) λ_ _ z=>z
inductive sY:V->Str->Prop
 |int {i:Int}:i.natAbs.log2 < 1920->sY (.int i) (toString i)
 |str {x:Str}:sY (.str x) x
section
variable{X:Cx}{e:Expr}{es:List Expr}{te:TE}{t:TJ}{y:Str}{j:Nat}{p1 p2 pos:Pos}
theorem nX:PJ X [] (λ_ H acc Q=>acc.length<=de/\Q acc H):=λ_ _ _ H _ _ I h=>⟨H,I,h.1,h.2⟩
theorem gi (h:PJ X es t):PJ X (.Constant (.str y) j p1::es) (λσ H acc Q=>(acc++y).length<=de/\t σ H (acc++y) Q):=by
 intro pins s σ H acc Q I hw;show wpAny _ _ (eval (.Constant (.str y) j p1) X.env) _ _ s;exact Calls.Constant_str ⟨y,_,rfl,hw.1,h pins _ σ H _ Q (I.tok _) hw.2⟩
theorem kz (he:PE X e te)(h:PJ X es t):PJ X (.FormattedValue e (-1) none p1::es) (λσ H acc Q=>te σ H λx H1=>∃z,sY x z/\z.length<=de/\(acc++z).length<=de/\t σ H1 (acc++z) Q):=by
 intro pins s σ H acc Q I hw;show wpAny _ _ (eval (.FormattedValue e (-1) none p1) X.env) _ _ s;refine wpAny_FormattedValue_plain (thn (he pins s σ H _ I hw) λv s1 ⟨x,H1,I1,r1,z,fz,l1,l2,q⟩=>?_)
 cases fz with
 |int hl =>
  obtain⟨tk,rfl⟩:=r1;exact wpAny_formatField_int hl ⟨_,_,rfl,l2,h pins _ σ H1 _ Q ((I1.tok _).tok _) q⟩
 |str =>
  obtain⟨tk,rfl⟩:=r1;exact wpAny_formatField_str ⟨_,_,rfl,l2,h pins _ σ H1 _ Q I1 q⟩ ⟨_,_,rfl,l2,h pins _ σ H1 _ Q (I1.tok _) q⟩ l1
theorem vR {e₂:Expr}(h:PJ X (e::e₂::es) t):PE X (.JoinedStr (e::e₂::es) pos) (λσ H Q=>t σ H U7 λz H1=>Q (.str z) H1):=by
 intro pins s σ H Q I hw;refine wpAny_JoinedStr ?_;have:=h pins s σ H U7 _ I hw;refine Joins.mono ?_ this;rintro out s1 ⟨H1,I1,l,q⟩;exact⟨l,.str out,H1,I1.tok _,⟨_,rfl⟩,q⟩
end
def xi (a C:Addr)(xd:Option Addr):HO:=.ext λh=>∃a0:Addr,h.get? a=some ⟨.ref C,xd,.fields #[.ref a0,.none,.none,.none,.bool false,.none],#[]⟩
section
variable{P:ko}{w:World}{H:Hp}{h:Heap}{a C:Addr}{xd:Option Addr}
theorem Km {a0:Addr}(e:h.get? a=some ⟨.ref C,xd,.fields #[.ref a0,.none,.none,.none,.bool false,.none],#[]⟩):dE P w H h a (xi a C xd) :=
 ⟨⟨a0,e⟩,⟨_,e⟩,λ_ _ ⟨b,z⟩ k=>⟨b,k _ z⟩⟩
theorem Kn (x:dE P w H h a (xi a C xd)):∃a0:Addr,h.get? a=some ⟨.ref C,xd,.fields #[.ref a0,.none,.none,.none,.bool false,.none],#[]⟩:=x.1
end
structure Og (K:ba)(D:Addr):Prop where
 rd:PySem.W.readsIn K D (.type "type")=true
 sp:PySem.W.specialIn K (.ref D) "__getattribute__"=some (some (.builtin "type.__getattribute__"))
 fc:PySem.W.findCls K (.ref D) (.type "type") "__init__"=some (.val (.builtin "ValueError.__init__"))
structure BX (K:ba)(N f:Addr):Prop where
 ex:∃(c:Value) (dd:Option Addr) (es:Array DictEntry) (n:Nat) (sl:Array (Option Value)),K.lookup N=some ⟨c,dd,.dict es n,sl⟩/\strKeys es=true
 at_:V7 K N "__init__"=some (some (.ref f))
theorem BX.ns {K:ba}{N f:Addr}(x:BX K N f){h:Heap}(X:K.In h):∃mN,h.Ns N mN/\mN "__init__"=some (.ref f):=by
 obtain⟨⟨c,dd,es,n,sl,l,sk⟩,no⟩:=x;have ns:h.Ns N (nsFind es):=⟨_,es,n,X _ _ l,rfl,λe he=>by
  have z:=List.all_eq_true.mp sk e (Array.mem_toList_iff.mpr he);cases hk:e.key with
  |str y t=>exact⟨y,t,rfl⟩
  |_=>rw[hk]at z;exact absurd z gr,λ_=>rfl⟩
 refine⟨_,ns,?_⟩;unfold V7 at no;rw[l]at no;dsimp only at no;unfold nsFind findBy;rw[<-Array.find?_toList];cases hf:es.toList.find? (λe=>e.key.isStr "__init__") with
 |none =>
  rw[hf]at no;dsimp only at no
  by_cases q:es.toList.any (·.refKey)=true
  ·rw[if_pos q]at no;cases no
  ·rw[if_neg q]at no;cases no
 |some e=>rw[hf]at no;exact ra no
structure ri (K:ba)(C f:Addr)(name:Str):Prop where
 ex:∃(nm q:Str) (N:Addr) (bs bm:List Value) (hdct:Bool) (sn:List Str) (sub:List Value) (ab:Bool) (col:Option Bool) (dd:Option Addr) (k0 k1 k2 k3 k5:Option Value),
  K.lookup C=some (Vm nm q C N bs bm hdct sn sub ab col dd k0 k1 k2 k3 k5 "ValueError.__new__")/\BV K bm/\hdct=true/\BX K N f
 fn:PySem.W.isFn K (.ref f)=true
 sa:UW K (.ref C) "__setattr__"=some (some (.builtin "object.__setattr__"))
 na:UW K (.ref C) name=some none
section
variable{X:Cx}{pins:List (Addr×Obj)}{σ:St}{H:Hp}{s:Shared}{C f:Addr}{name:Str}
theorem BV.pass {K:ba}{bm:List Value}(x:BV K bm)(self:Value):refuseLoop self "__setattr__" bm=pure ():=by
 induction x with
 |base=>exact PySem.F.store_ValueError.passes self
 |own _ _ _ ih=>rw[refuseLoop_ref];exact ih
theorem FP {xk:ri X.K C f name}:eh X (.builtin "ValueError.__init__") (λxs H Q=>∃ea v,xs=[.ref ea,v]/\H ea=some (xi ea C none)/\Q .non H):=by
 intro pins s σ H xs us Q I r h;obtain⟨ea,v,rfl,hx,q⟩:=h;obtain⟨nm,qn,N,bs,bm,hdct,sn,sub,ab,col,dd,k0,k1,k2,k3,k5,l,T,hd,hi⟩:=xk.ex;obtain⟨u,u2,rfl,rx,rv⟩:=vals2 r;cases rx;obtain⟨a0,e⟩:=Kn (P:=X.prog) (w:=X.w) (I.hok _ _ hx);have kC:=I.kIn _ _ l;have T1:=T.tail I.kIn;have F:=PySem.F.excBase_ValueError;have ha:X.A.handled=X.A.handled:=rfl;obtain⟨hp,g,d,tk,os⟩:=s;dsimp only at e kC T1;refine V1 (codeAny_call_builtin F.init.plain F.initEntry (wpAny_check_init_subT F T1 kC e rfl ?_))
 wp_walk
 have hE:ea≠hp.objs.size:=sr (kq e);have e1:(hp.push { cls:=.type "tuple",data:=.seq #[u2] }).get? ea=_:=fu _ e;have k:∀b o,b≠ea->hp.get? b=some o->((hp.push { cls:=.type "tuple",data:=.seq #[u2] }).update ea (Vl λx=>x.setIfInBounds 0 (.ref hp.objs.size))).get? b=some o:=λb o hb q =>
  (U6 _ _ (UU hb)).trans (fu _ q)
 have e2:((hp.push { cls:=.type "tuple",data:=.seq #[u2] }).update ea (Vl λx=>x.setIfInBounds 0 (.ref hp.objs.size))).get? ea=some ⟨.ref C,none,.fields #[.ref hp.objs.size,.none,.none,.none,.bool false,.none],#[]⟩:=Ve _ e1 rfl
 have un:upd H ea (xi ea C none)=H:=by
  funext b
  by_cases z:b=ea
  ·rw[z,af,hx]
  ·rw[ax z]
 have I2:=I.write (x:=ea) (e:=ea) (o:=xi ea C none) (t':=tk) (by rw[hx];exact True.intro) (.inl rfl) k ⟨_,e2⟩ (Km e2)
 rw[un]at I2;exact⟨.non,H,I2,rfl,q⟩
end
end L2
namespace L2
open PySem PySem.Spec PyProof.Rows PySem.Builtin PySem.Builtin.ObjectAttr
section
variable{prog:ko}{w:World}{A:Around}{E:Value->Shared->Prop}{K:ba}{x C f:Addr}{name:Str}{v:Value}
theorem Ko {s:Shared}{vs:Array Value}{sl:Array (Option Value)}{Q:Unit->Shared->Prop}(X:K.In s.heap)(xk:ri K C f name)(hx:s.heap.get? x=some ⟨.ref C,none,.fields vs,sl⟩)
  (h:∀h' tk,h'.get? x=some ⟨.ref C,some s.heap.objs.size,.fields vs,sl⟩->h'.Ns1 s.heap.objs.size (λy=>if y=name then some v else none)->(∀b o,b≠x->s.heap.get? b=some o->h'.get? b=some o) ->
   Q () { s with heap:=h',toks:=tk }):wpAny (model prog w) A (setAttr (.ref x) name v) Q E s:=by
 obtain⟨nm,qn,N,bs,bm,hdct,sn,sub,ab,col,dd,k0,k1,k2,k3,k5,l,T,hd,hi⟩:=xk.ex;subst hd;obtain⟨hp,g,d,tk,os⟩:=s;dsimp only at hx h X;have J:VY hp x ⟨.ref C,none,.fields vs,sl⟩ C none:=⟨hx,rfl,rfl,trivial⟩;have SF:=PySem.F.store_object;have kC:=X _ _ l;have hT:=T.tail X;have hob:(ky C::bm).contains (.type "object")=true:=by rw[List.contains_cons,hT.hasType (b:=true) (by trivial),Bool.or_true]
 have pass:refuseLoop (.ref x) "__setattr__" (.ref C::bm)=pure ():=by rw[refuseLoop_ref];exact T.pass _
 refine PySem.W.set_plain X J xk.sa ?_;have sb:PySem.W.Looks (model prog w) hp (isInstance (.ref x) (.type "object")) true:=J.type.andThen (PySem.W.looks_mroIn X (by unfold WD Ws;rw[l];simpa using hob))
 refine codeAny_call_builtin SF.slot.plain SF.entry (@PySem.W.check_slot (model prog w) _ _ ⟨hp,g,d,tk+1,os⟩ "object.__setattr__" "object" "__setattr__" (.ref x) [.str name tk,v] [] _ SF.kind SF.split sb (SF.args (.ref x) (.str name tk) v) ?_);have hm:PySem.W.Looks (model prog w) hp (mroOf (.ref C)) (.ref C::bm):=(PySem.W.looks_clsIn X (by unfold Ws;rw[l])).andThen .now
 rw[PySem.W.osa_eq,refuse_eq];refine cb (cb ((J.type (M:=model prog w)).at (cb (hm.at ?_))));rw[pass];refine ka (cb ((J.type (M:=model prog w)).at (cb ((Wi X xk.na).at (cb ((show PySem.W.Looks (model prog w) hp (storeTaker? none) none from .now).at ?_))))))
 have hxs:x≠hp.objs.size:=sr (kq hx);obtain⟨cd,hcl,hdd⟩:∃cd,Ws K C=some cd/\cd.hasDict=true:=⟨_,by unfold Ws;rw[l],rfl⟩
 refine cb (ka (cb (cb (wpAny_loadPart hx (cb ((PySem.W.looks_clsIn X hcl).at ?_))))));rw[hdd];have hx₁:(hp.push { cls:=.type "dict",data:=.dict #[] }).get? x=some _:=fu _ hx;refine cb (wpAny_alloc' ?_);refine cb (wpAny_update' hx₁ ?_);refine ka ?_;have hgd:((hp.push { cls:=.type "dict",data:=.dict #[] }).update x λo=>{ cls:=o.cls,dict:=some hp.objs.size,data:=o.data,slots:=o.slots }).get? hp.objs.size
   = some { cls:=.type "dict",data:=.dict #[] } :=
  (Heap.get?_update_ne _ _ _ _ hxs.symm).trans (Heap.get?_push_at rfl rfl)
 have hnd:((hp.push { cls:=.type "dict",data:=.dict #[] }).update x λo=>{ cls:=o.cls,dict:=some hp.objs.size,data:=o.data,slots:=o.slots }).Ns hp.objs.size (λ_=>none) :=
  ⟨_,#[],_,hgd,rfl,λe he=>absurd he (by simp),λ_=>rfl⟩
 show wpAny _ _ (storeInDict hp.objs.size (.str name tk) name v) _ _ _;unfold storeInDict newKeyGuard;refine cb (ka (cb (wpAny_nsSet1 (Heap.Ns1.of_empty hnd) λh' hn' hs=>?_)))
 obtain⟨oD,esD,epD,hoD,hdD,hcD⟩:=hn'.count (Within.cons name v Within.nil);refine cb (wpAny_lookBehind hoD (by rw[hdD];exact pastItsLine_dict (ku hcD (by rw[kf,List.length_nil,sizeLine_eq];omega))) ?_)
 refine ka (h h' _ ?_ hn' λb ob hbx hb=>(hs.2 b (sr (kq hb))).trans ((Heap.get?_update_ne _ _ _ _ hbx).trans (fu _ hb)))
 exact(hs.2 x hxs).trans (Ve _ hx₁ rfl)
end
end L2
namespace L2
open PySem PySem.Spec PyProof.Rows
section
variable{prog:ko}{w:World}{A:Around}{E:Value->Shared->Prop}{h:Heap}{g:Array GenState}{d:Drawn}{t:Nat}{os:OsState}
variable{nm q:Str}{C N fI:Addr}{bs bm bmB:List Value}{hdct:Bool}{sn:List Str}{sub:List Value}{ab:Bool}{col:Option Bool}{dd:Option Addr}{k0 k1 k2 k3 k5:Option Value}{B nid iid:String}{K:ba}
theorem Ii (X:K.In h)(F:ExcBaseFacts B nid iid bmB)(T:OwnTail h bmB bm){mN:Str->Option Value}{us:List Value}{Q:Fin->Shared->Prop}
  (kC:h.get? C=some (Vm nm q C N bs bm hdct sn sub ab col dd k0 k1 k2 k3 k5 nid)) (kN:h.Ns N mN) (kI:mN "__init__"=some (.ref fI)) (hf:PySem.W.typeIn K (.ref fI)=some (.type "function")) (hz:us.length<=de)
  (hq:wpAny (model prog w) A (call (.ref fI) (.ref (h.objs.size+1)::us)) (λr s'=>r=.none/\Q (.done (.ret (.ref (h.objs.size+1)))) s') E ⟨jQ h C us,g,d,t,os⟩) :
  wpAny (model prog w) A (Wz.«type.__call__» ⟨.ref C::us,[]⟩) Q E ⟨h,g,d,t,os⟩:=by
 repeat (first | with_reducible refine Vi kC ?_ | with_reducible refine wpAny_madeBy_exc kC ?_ | wp_step)
 refine codeAny_call_builtin_code (Code.quiet_builtin _ F.quiet) (wpAny_check_new_subT F T kC (codeAny_exc_new_subT F T kC ?_ hz));show wpAny _ _ _ _ _ _;have kC1:(jQ h C us).get? C=_:=d9 kC;have kN1:(jQ h C us).Ns N mN:=kN.keeps λb o e=>d9 e
 have X1:K.In (jQ h C us):=X.keeps λb o e=>d9 e
 have T1:OwnTail (jQ h C us) bmB bm:=T.keeps λb o e=>d9 e
 have kE:=yr (h:=h) (C:=C) (us:=us);have self:(ky C::bm).contains (.ref C)=true:=by simp
 unfold isInstance
 repeat (first | with_reducible refine Vi kE ?_ | (with_reducible refine wpAny_isSubtype_exc kC1 ?_;rw[self]) | wp_step)
 show wpAny _ _ (typeLookup (.ref C) _) _ _ _;refine wpAny_typeLookup_tail kC1 kN1 T1 F.mroIs F.init.lookup ?_;rw[kI];refine Vd (cb ((PySem.W.bind_fn X1 (.ref (h.objs.size+1)) hf).at ?_));refine cb (ki hq (λr s' hr=>?_) λ_ _ z=>z)
 obtain⟨rfl,hQ⟩:=hr
 wp_walk
 exact hQ
theorem Kq (X:K.In h)(F:ExcBaseFacts B nid iid bmB)(T:OwnTail h bmB bm){mN:Str->Option Value}{us:List Value}{Q:Value->Shared->Prop}
  (kC:h.get? C=some (Vm nm q C N bs bm hdct sn sub ab col dd k0 k1 k2 k3 k5 nid)) (kN:h.Ns N mN) (kI:mN "__init__"=some (.ref fI)) (hf:PySem.W.typeIn K (.ref fI)=some (.type "function")) (hz:us.length<=de)
  (hq:wpAny (model prog w) (A.under (.builtin "type.__call__" ⟨.ref C::us,[]⟩)) (call (.ref fI) (.ref (h.objs.size+1)::us)) (λr s'=>r=.none/\Q (.ref (h.objs.size+1)) s') E ⟨jQ h C us,g,d,t,os⟩) :
  wpAny (model prog w) A (call (.ref C) us) Q E ⟨h,g,d,t,os⟩:=by
 have l1:=tc_lookup;have l2:=tc_bind (.ref C);have ty:(⟨h,g,d,t,os⟩:Shared).TypeIs (.ref C) "type":=⟨_,kC,rfl⟩;refine V1 (codeAny_of_tree ?_);show wpAny _ _ (callAny (.ref C) _) _ _ _
 repeat (any_goals (first | assumption | with_reducible refine Vi kC ?_ | wp_step))
 exact⟨rfl,codeAny_call_builtin_at (Code.quiet_builtin _ (by trivial)) entry_typeCall (wpAny_check_type_call_sub kC (Ii X F T kC kN kI hf hz hq))⟩
end
def uH (C:Addr)(name:Str):Sp:=λvs H Q _=>∃(e:Addr) (v:V),vs=[.ref e,v]/\H e=some (xi e C none)/\(∃z,sY v z/\z.length<=10000)/\∀d,H d=none->Q .non (upd (upd H d (.xd [(name,v)])) e (xi e C (some d)))
section
variable{X:Cx}{pins:List (Addr×Obj)}{σ:St}{H:Hp}{s:Shared}{C f:Addr}{name x:Str}{fd:gn}{ps:List Str}{k:Nat}{np fj pos:Pos}{e₀:Expr}{ta:TA}
theorem rj {E:Value->Shared->Prop}{v:V}{u:Value}{Q:Value->Shared->Prop}(xk:ri X.K C f name)(len:ps.length=2)(run:∀(s:Shared) (H:Hp) (us:List Value) (vs:List V) (Q:VK),sP X.prog X.w X.K X.mg X.base (X.A.under (.builtin "type.__call__" ⟨.ref C::[u],[]⟩)) X.stack s H->BindsTo s fd ⟨us,[]⟩ (ps.zip us)->Vals vs us->uH C name vs H Q E0->codeAny (model X.prog X.w) (X.A.under (.builtin "type.__call__" ⟨.ref C::[u],[]⟩)) (.call (.ref f) ⟨us,[]⟩) (CR CX0 X.stack X.prog X.w H s Q E0) s)(hb:Binds X.K fd ps [])(I:Inv X pins σ H s)(r:RelV v u)
  (hv:∃z,sY v z/\z.length<=10000)
  (h:∀(e d:Addr) (a0:Value) (s':Shared),H d=none->Inv X pins σ (upd H d (.xd [(name,v)])) s'->dh X pins (upd H d (.xd [(name,v)])) e->s'.heap.get? e=some ⟨.ref C,some d,.fields #[a0,.none,.none,.none,.bool false,.none],#[]⟩->Q (.ref e) s') :
  wpAny (model X.prog X.w) X.A (call (.ref C) [u]) Q E s:=by
 obtain⟨nm,qn,N,bs,bm,hdct,sn,sub,ab,col,dd,k0,k1,k2,k3,k5,l,T,hd,hi⟩:=xk.ex;obtain⟨mN,kN,kI⟩:=hi.ns I.kIn;have fre:=I.hok.fresh (kg _);obtain⟨hp,g,dr,tk,os⟩:=s;have ne:H (hp.objs.size+1)=none:=I.hok.fresh (VZ _);have I2:Inv X pins σ (upd H (hp.objs.size+1) (xi (hp.objs.size+1) C none)) ⟨jQ hp C [u],g,dr,tk,os⟩ :=
  I.laid (h':=jQ hp C [u]) (t':=tk) (λb o q=>d9 q) (VZ _) (Km yr)
 have r2:Vals [V.ref (hp.objs.size+1),v] [ky (hp.objs.size+1),u]:=.cons rfl (.cons r .nil);have hsp:uH C name [V.ref (hp.objs.size+1),v] (upd H (hp.objs.size+1) (xi (hp.objs.size+1) C none))
   (λv' H'=>v'=.non/\∃d,H d=none/\d≠hp.objs.size+1/\H'=upd (upd (upd H (hp.objs.size+1) (xi (hp.objs.size+1) C none)) d (.xd [(name,v)])) (hp.objs.size+1) (xi (hp.objs.size+1) C (some d))) E0:=by
  refine⟨_,v,rfl,af,hv,λd hd=>⟨rfl,d,?_,?_,rfl⟩⟩
  ·by_cases z:d=hp.objs.size+1
   ·rw[z,af]at hd;cases hd
   ·rwa [ax z]at hd
  ·intro z;rw[z,af]at hd;cases hd
 have hl:[ky (hp.objs.size+1),u].length=ps.length:=len.symm;refine Kq I.kIn (F:=PySem.F.excBase_ValueError) (T.tail I.kIn) (I.kIn _ _ l) kN kI (beq_iff_eq.mp xk.fn) (show 1<=de by decide) (V1 (VS (run _ _ [ky (hp.objs.size+1),u] _ _
  (I2.JJ.make C [u] []) (by have b:=hb _ [ky (hp.objs.size+1),u] I2.kIn (by rw[VH];exact hl);rw[VH]at b;exact b) r2 hsp) λrr s' hq=>?_))
 cases rr with
 |error e=>exact hq.elim
 |ok fl =>
  cases fl with
  |ret u' =>
   obtain⟨v',H',os',bare,un,hok,rv,rfl,d,hd1,hd2,rfl⟩:=hq;cases rv;refine⟨rfl,?_⟩;have HeE:∀ {o:HO},upd (upd (upd H (hp.objs.size+1) (xi (hp.objs.size+1) C none)) d (.xd [(name,v)])) (hp.objs.size+1) o (hp.objs.size+1)=some o:=af;have Hne:∀b,b≠hp.objs.size+1->upd (upd (upd H (hp.objs.size+1) (xi (hp.objs.size+1) C none)) d (.xd [(name,v)])) (hp.objs.size+1) (xi (hp.objs.size+1) C (some d)) b=upd H d (.xd [(name,v)]) b:=λb hb=>by
    rw[ax hb]
    by_cases z:b=d
    ·rw[z,af,af]
    ·rw[ax z,ax z,ax hb]
   have He2:upd H d (.xd [(name,v)]) (hp.objs.size+1)=none:=by rw[ax (UU hd2)];exact ne
   have U1:Un (frs X.stack) [] H (upd H (hp.objs.size+1) (xi (hp.objs.size+1) C none)) hp (jQ hp C [u]):=Un.laid (λb o q=>d9 q) (VZ _) ne
   have U2:=U1.trans un;have lt:∀b o,hp.get? b=some o->b≠hp.objs.size+1:=λb o q=>sr (Wk (kq q))
   have U3:Un (frs X.stack) [] H (upd H d (.xd [(name,v)])) hp s'.heap:=by
    refine⟨U2.keep,U2.slot,λb o q n hx=>?_,U2.there,λb xs q=>?_,λb o u q=>?_,λb p q=>?_⟩
    ·have z:=U2.free b o q n hx
     rwa [Hne b (lt b o q)]at z
    ·have z:=U2.sI b xs q
     rwa [Hne b (λe=>by rw[e,ne]at q;cases q)]at z
    ·have z:=U2.q5 b o u q
     rwa [Hne b (λe=>by rw[e,ne]at q;cases q)]at z
    ·obtain⟨m,z⟩:=U2.sJ b p q;rw[Hne b (λe=>by rw[e,ne]at q;cases q)]at z
     exact⟨m,z⟩
   have K3:HOk X.prog X.w (upd H d (.xd [(name,v)])) s'.heap:=λa o q=>by
    have ha:a≠hp.objs.size+1:=λe=>by rw[e,He2]at q;cases q
    refine(hok a o (by rw[Hne a ha];exact q)).wY (λb u _ z=>z) (λb z=>?_) (λb xs z=>?_)
    ·rwa [Hne b (λe=>by rw[e,HeE]at z;cases z)]at z
    ·rwa [Hne b (λe=>by rw[e,HeE]at z;cases z)]at z
   obtain⟨a0,ea⟩:=Kn (P:=X.prog) (w:=X.w) (hok _ _ HeE);have I3:Inv X pins σ (upd H d (.xd [(name,v)])) s':=I.GJ (ch:=[]) os' U3 K3 bare λb z=>absurd z (by simp)
   exact h _ d (.ref a0) s' hd1 I3 (I.uz (VZ _) He2) ea
  |next=>exact wa hq
  |brk=>exact wa hq
  |cont=>exact wa hq
theorem Ik {E:Value->Shared->Prop}{v:V}{u:Value}{Q:Value->Shared->Prop}(xk:ri X.K C f name)(F:FnOk X.prog X.w X.K X.mg X.base CX0 k f fd ps (uH C name))(hr:Room (k+1) X.A)(hb:Binds X.K fd ps [])(I:Inv X pins σ H s)(r:RelV v u)
  (hv:∃z,sY v z/\z.length<=10000)
  (h:∀(e d:Addr) (a0:Value) (s':Shared),H d=none->Inv X pins σ (upd H d (.xd [(name,v)])) s'->dh X pins (upd H d (.xd [(name,v)])) e->s'.heap.get? e=some ⟨.ref C,some d,.fields #[a0,.none,.none,.none,.bool false,.none],#[]⟩->Q (.ref e) s') :
  wpAny (model X.prog X.w) X.A (call (.ref C) [u]) Q E s :=
 rj xk (by have z:=F.len [V.ref 0,v] (upd H 0 (xi 0 C none)) (λ_ _=>True) E0 ⟨0,v,rfl,af,hv,λ_ _=>trivial⟩;exact z.symm) (λs H us vs Q e0 b r sp=>F.run _ X.stack s H ⟨us,[]⟩ us vs Q E0 (hr.make C [u] []) e0 b r sp) hb I r hv h
theorem jg (xk:ri X.K C f name)(F:FnOk X.prog X.w X.K X.mg X.base CX0 k f fd ps (uH C name))(hr:Room (k+1) X.A)(hb:Binds X.K fd ps [])(hc:X.calm=true)(hg:Gl X x)(hm:X.mg x=some (.ref C))(ha:PA X.nox [e₀] ta)
  (hdb:(x == ("__debug__":Str))=false:=by decide) (he:om [e₀] X.env=[(false,eval e₀ X.env)]:=by rfl) :
  PSX X (.Raise (some (.Call (.Name x np) [e₀] [] fj)) none pos) (λ_ E σ H=>ta σ H λvs H1=>∃v,vs=[v]/\(∃z,sY v z/\z.length<=10000)/\∀d,H1 d=none->E σ (.ref C) (some d) (upd H1 d (.xd [(name,v)]))):=by
 intro pins s σ H D E I h;obtain⟨nm,q,N,bs,bm,hdct,sn,sub,ab,col,dd,k0,k1,k2,k3,k5,l,T,hd,hi⟩:=xk.ex;have go:wpAny (model X.prog X.w) X.A (eval (.Call (.Name x np) [e₀] [] fj) X.env) (λv s₁=>∃(e:Addr) (xd:Option Addr) (a0:Value) (sl:Array (Option Value)),v=.ref e/\s₁.heap.get? C=some (Vm nm q C N bs bm hdct sn sub ab col dd k0 k1 k2 k3 k5 "ValueError.__new__") /\
   s₁.heap.get? e=some ⟨.ref C,xd,.fields #[a0,.none,.none,.none,.bool false,.none],sl⟩/\XPS X pins E (.ref e) s₁) (XPS X pins E) s:=by
  refine Vf (eN I hg hm ?_ hdb);unfold Wb;rw[he];refine cb (Vd (Wj ?_));have ha':=ha fj pins s σ H _ (I.gN _) h;rw[show X.nox.env=X.env from rfl,he]at ha'
  refine ki ha' (λus s₁ ⟨vs,H1,I1,r,v,hvs,hv,q1⟩=>cb (Va ?_)) λ_ _ z=>wa z
  subst hvs;obtain⟨u,rfl,rv⟩:=Vals.one r;have I1':=I1.ck;have kC:=I1'.kIn _ _ l;have pl:(backTo fj [(false,eval e₀ X.env)]).any (·.1)=false:=rfl
  have fin:wpAny (model X.prog X.w) X.A (call (.ref C) ([]++[u])) (λr s'=>∃(e:Addr) (xd:Option Addr) (a0:Value) (sl:Array (Option Value)),r=.ref e/\s'.heap.get? C=some (Vm nm q C N bs bm hdct sn sub ab col dd k0 k1 k2 k3 k5 "ValueError.__new__") /\
   s'.heap.get? e=some ⟨.ref C,xd,.fields #[a0,.none,.none,.none,.bool false,.none],sl⟩/\XPS X pins E (.ref e) s') (XPS X pins E) s₁:=by
   refine Ik xk F hr hb I1' rv hv λe d a0 s' hd1 I2 fp ke=>?_
   exact⟨e,some d,a0,#[],rfl,I2.kIn _ _ l,ke,σ,e,.ref C,some d,none,_,rfl,I2,⟨fp,_,_,ke,⟨by show 1 < 6;decide,λ_=>rfl,λ_=>.inl rfl⟩,rfl⟩,.inl rfl,q1 d hd1⟩
  obtain⟨hp,g',d',tk,os'⟩:=s₁;simp only[pl];refine cb (wpAny_keeperOf_exc kC ?_);exact cb (ki fin (λv s2 z=>cb (Vd (wpAny_point (ka z)))) λ_ _ z=>z)
 rw[arm_exec_Raise];have hbx:bm.contains (.type "BaseException")=true:=(T.tail I.kIn).hasType (b:=true) (by trivial)
 first
  |exact cb (Va (pP (C:=C) (nm:=nm) (q:=q) (N:=N) (bs:=bs) (bm:=bm) (hdct:=hdct) (sn:=sn) (sub:=sub) (ab:=ab) (col:=col) (dd:=dd) (k0:=k0) (k1:=k1) (k2:=k2) (k3:=k3) (k5:=k5) hbx (I.ok.hd hc) (cb (ki go (λv s₃ h₃=>cb (Va (ka h₃))) λ_ _ z=>z))))
  | (simp only[evalOpt,Option.map];exact cb (Va (pP (C:=C) (nm:=nm) (q:=q) (N:=N) (bs:=bs) (bm:=bm) (hdct:=hdct) (sn:=sn) (sub:=sub) (ab:=ab) (col:=col) (dd:=dd) (k0:=k0) (k1:=k1) (k2:=k2) (k3:=k3) (k5:=k5) hbx (I.ok.hd hc) (cb (ki go (λv s₃ h₃=>cb (Va (ka h₃))) λ_ _ z=>z)))))
end
section
variable{X:Cx}{pins:List (Addr×Obj)}{σ:St}{H:Hp}{s:Shared}{C D f:Addr}{name x:Str}{np apos fj pos pos':Pos}{o e value:Expr}{ta tv:TE}{t:TA}
theorem nY {pl:Sem Bool}(ik:Og X.K D)(xk:ri X.K C f name)(hg:Gl X x)(hm:X.mg x=some (.ref D))(ha:PA X [o,e] t)(hdb:(x == ("__debug__":Str))=false:=by decide)
  (hst:om [o,e] X.env=(false,eval o X.env)::om [e] X.env:=by rfl) (hpl:(backTo pos (om [e] X.env)).any (·.1)=false:=by rfl)
  (ht:eval (.Call (.Attribute (.Name x np) "__init__" apos) [o,e] [] pos) X.env=(do
   let ov <-eval (.Name x np) X.env
   standAt apos.atName
   let (f,first) <-holding [ov] (getMethod ov "__init__" pl)
   Wb pos f first (backTo pos (om [o,e] X.env)) (V4 pos (VC [] X.env))):=by rfl) :
  PE X (.Call (.Attribute (.Name x np) "__init__" apos) [o,e] [] pos) (λσ H Q=>t σ H λvs H1=>∃ea v,vs=[.ref ea,v]/\H1 ea=some (xi ea C none)/\Q .non H1):=by
 intro pins s σ H Q I h;refine VD (pl:=pl) (eN I hg hm ?_ hdb) ht;refine PySem.W.method_cls I.kIn ik.sp (PySem.W.cls_value I.kIn ik.rd ik.fc (by trivial) ?_)
 show wpAny _ _ (Wb pos (.builtin "ValueError.__init__") [] (backTo pos (om [o,e] X.env)) []) _ _ _;exact PyProof.Rows.callWith_builtin1 (thn (ha pos pins _ σ H _ (I.tok _) h) λus s1 ⟨vs,H1,I1,r1,ea,v,hv,hx,q⟩=>FP (xk:=xk) pins s1 σ H1 vs us Q I1 r1 ⟨ea,v,hv,hx,q⟩) hst hpl
theorem sZ (xk:ri X.K C f name)(ha:PE X o ta)(hv:PE X value tv)(hs:swapsWith value (some (.Attribute o name pos')) pos.line X.env=pure false:=by rfl):PS X (.Assign [.Attribute o name pos'] value pos)
  (λD σ H=>tv σ H λy H1=>ta σ H1 λx H2=>∃ea,x=.ref ea/\H2 ea=some (xi ea C none)/\∀d,H2 d=none->D.nx σ (upd (upd H2 d (.xd [(name,y)])) ea (xi ea C (some d)))):=by
 intro pins s σ H D I h;refine plainObj_wpAny_Assign_Attribute (thn (hv pins s σ H _ I h) λu s1 ⟨y,H1,I1,ry,q⟩=>thn (ha pins s1 σ H1 _ I1 q) λov s2 ⟨x,H2,I2,rx,ea,ex,hx,q2⟩=>?_) hs
 subst ex;obtain rfl:ov=ky ea:=rx;obtain⟨a0,e0⟩:=Kn (P:=X.prog) (w:=X.w) (I2.hok _ _ hx);have fr:H2 s2.heap.objs.size=none:=I2.hok.fresh (kg _);refine Ko I2.kIn xk e0 λh' tk hx' ns kk=>⟨σ,_,?_,q2 _ fr⟩
 have hde:ea≠s2.heap.objs.size:=aQ hx fr;have old:∀b,b≠ea->b≠s2.heap.objs.size->upd (upd H2 s2.heap.objs.size (.xd [(name,y)])) ea (xi ea C (some s2.heap.objs.size)) b=H2 b:=λb h1 h2=>by rw[ax h1,ax h2]
 have lt:∀b ob,s2.heap.get? b=some ob->b≠s2.heap.objs.size:=λb ob q=>sr (kq q)
 have nx:∀b,H2 b=none->b≠ea:=λb n z=>by rw[z,hx]at n;cases n
 have ns':∀b {o:HO},H2 b=some o->b≠s2.heap.objs.size:=λb _ n z=>by rw[z,fr]at n;cases n
 refine I2.un (t':=tk) ⟨λb ob q n _ _=>kk b ob (nx b n) q,λb ob q n _ _=>⟨ob.slots,kk b ob (nx b n) q⟩,λb ob q n _=>by rw[old b (nx b n) (lt b ob q)];exact n,λb ob q _=>?_,λb xs q=>?_,λb ob u q=>?_,λb ps q=>?_⟩ λa ob q=>?_
 ·by_cases z:b=ea
  ·exact⟨_,by rw[z];exact hx'⟩
  ·exact⟨ob,kk b ob z q⟩
 ·rw[old b (λz=>by rw[z,hx]at q;cases q) (ns' b q)];exact q
 ·rw[old b (λz=>by rw[z,hx]at q;cases q) (ns' b q)];exact q
 ·exact⟨#[],by rw[old b (λz=>by rw[z,hx]at q;cases q) (ns' b q),q];simp⟩
 ·by_cases z:a=ea
  ·subst z;rw[af]at q;cases q;exact Km hx'
  ·rw[ax z]at q
   by_cases z2:a=s2.heap.objs.size
   ·rw[z2,af]at q;cases q;refine⟨_,by rw[z2];exact ns,λg=>?_⟩
    rw[List.lookup_cons]
    by_cases hg:g=name
    ·rw[if_pos hg,show (g == name)=true from beq_iff_eq.mpr hg];exact ry
    ·rw[if_neg hg,show (g == name)=false from beq_eq_false_iff_ne.mpr hg];exact True.intro
   ·rw[ax z2]at q;refine(I2.hok a ob q).wY (λb u hb r=>kk b u ?_ r) (λb r=>?_) (λb xs r=>?_)
    ·rintro rfl;rcases hb with hb | hb
     ·exact z hb.symm
     ·rw[hx]at hb;cases hb
    ·rw[old b (λz=>by rw[z,hx]at r;cases r) (ns' b r)];exact r
    ·rw[old b (λz=>by rw[z,hx]at r;cases r) (ns' b r)];exact r
theorem DI {ea C d:Addr}{fs:List (Str×V)}(I:Inv X pins σ H s)(h:H ea=some (xo ea (.ref C) (some d)))(hd:H d=some (.xd fs)) :
  ∃ox od,VY s.heap ea ox C (some od)/\∃mA:Str->Option Value,(∀n,PySem.W.lookIn n od=some (mA n))/\∀n,lW (fs.lookup n) (mA n):=by
 obtain⟨⟨sl,vs,e⟩,_⟩:=(show dE X.prog X.w H s.heap ea (xo ea (.ref C) (some d)) from I.hok _ _ h)
 obtain⟨mA,ns,r⟩:=(show dE X.prog X.w H s.heap d (.xd fs) from I.hok _ _ hd)
 obtain⟨od,ho,lk⟩:=uC ns;exact⟨_,od,⟨e,rfl,rfl,ho⟩,mA,lk,r⟩
structure Ah (K:ba)(C:Addr)(name:Str):Prop where
 ga:GaX K C
 na:UW K (.ref C) name=some none
 hd:PySem.W.hasDictIn K C=true
theorem MQ (he:PE X e ta)(hb:attributeBase e name X.env (eval e X.env)=eval e X.env):PE X (.Attribute e name pos)
  (λσ H Q=>ta σ H λx H1=>∃ea C d fs v,x=.ref ea/\H1 ea=some (xo ea (.ref C) (some d))/\H1 d=some (.xd fs)/\Ah X.K C name/\fs.lookup name=some v/\(∃z,sY v z)/\Q v H1):=by
 intro pins s σ H Q I h;refine BG hb (thn (he pins s σ H _ I h) λu s1 ⟨x,H1,I1,rx,ea,C,d,fs,v,ex,hx,hd,xf,lk,⟨z,fz⟩,q⟩=>?_)
 subst ex;obtain rfl:u=ky ea:=rx;obtain⟨ox,od,J,mA,li,rel⟩:=DI I1 hx hd;have rl:=rel name;rw[lk]at rl;cases hm:mA name with
 |none=>rw[hm]at rl;exact rl.elim
 |some u2 =>
  rw[hm]at rl;have rl':RelV v u2:=rl;have hh:PySem.W.handedIn u2=true:=by
   cases fz with
   |int _=>obtain⟨t,rfl⟩:=rl';rfl
   |str=>obtain⟨t,rfl⟩:=rl';rfl
  obtain⟨cd,hc,hdct⟩:=PySem.W.any_some xf.hd;have fo:V2 X.K C (some od) name=some (.value u2):=by
   unfold V2;rw[hc,Vz,xf.na,Vz];simp only[Vz,PySem.W.ownOf,hdct,if_true,li,hm]
  unfold getAttr;refine cb (wpAny_mkText (Kf (s:={ s1 with toks:=s1.toks+1 }) I1.kIn J xf.ga (DF (s:={ s1 with toks:=s1.toks+1 }) I1.kIn J fo ?_)))
  exact⟨hh,v,H1,I1.tok _,rl',q⟩
end
section
variable{κ:Type}[DecidableEq κ]
def ee (kvs:List (κ×V))(k:κ):Option V:=(kvs.find? λkv=>decide (kv.1=k)).map (·.2)
def putK (kvs:List (κ×V))(k:κ)(v:V):List (κ×V) :=
 if (kvs.any λkv=>decide (kv.1=k))=true then kvs.map (λkv=>if kv.1=k then (kv.1,v) else kv) else kvs++[(k,v)]
def DJ (kvs:List (κ×V))(k:κ):List (κ×V):=kvs.filter λkv=>decide (kv.1≠k)
theorem nZ {p:κ×V}{r:List (κ×V)}{k:κ}(e:p.1=k):ee (p::r) k=some p.2:=by simp[ee,Wh,e]
theorem ly {p:κ×V}{r:List (κ×V)}{k:κ}(e:¬p.1=k):ee (p::r) k=ee r k:=by simp[ee,Wh,e]
theorem yw (k:κ):∀kvs:List (κ×V),(kvs.any λkv=>decide (kv.1=k))=(ee kvs k).isSome
 |[]=>rfl
 |p::r=>by
  rw[V8]
  by_cases e:p.1=k
  ·simp only[nZ e,decide_eq_true e,Bool.true_or,Option.isSome_some]
  ·rw[ly e,decide_eq_false e,Bool.false_or];exact yw k r
theorem vS (kvs:List (κ×V))(k:κ)(v:V):(putK kvs k v).length<=kvs.length+1:=by
 unfold putK;split
 ·rw[da];omega
 ·rw[km,kf,List.length_nil];omega
theorem yx {kvs:List (κ×V)}{k:κ}(v:V)(h:ee kvs k=none):putK kvs k v=kvs++[(k,v)]:=by
 unfold putK;rw[yw,h];exact if_neg (by decide)
theorem lW.uI {o:Option V}{u:Option Value}(r:lW o u):o.isSome=u.isSome:=by
 cases o with
 |none=>cases u with
  |none=>rfl
  |some _=>exact(show False from r).elim
 |some _=>cases u with
  |none=>exact(show False from r).elim
  |some _=>rfl
theorem lW.getD {o:Option V}{u:Option Value}{d:V}{d':Value}(r:lW o u)(rd:RelV d d'):RelV (o.getD d) (u.getD d'):=by
 cases o with
 |none=>cases u with
  |none=>exact rd
  |some _=>exact(show False from r).elim
 |some _=>cases u with
  |none=>exact(show False from r).elim
  |some _=>exact r
theorem KV.val {kvs:List (κ×V)}{vs:List (κ×Value)}(r:KV kvs vs)(k:κ):lW (ee kvs k) (valueAt vs k):=by
 unfold KV at r
 induction r with
 |nil=>exact True.intro
 | @cons p q ps qs h t ih =>
  obtain⟨h1,h2⟩:=h
  by_cases e:p.1=k
  ·have e':q.1=k:=h1.symm.trans e;have b:valueAt (q::qs) k=some q.2:=by simp[valueAt,Wh,e']
   rw[nZ e,b];exact h2
  ·have e':¬q.1=k:=λz=>e (h1.trans z)
   have b:valueAt (q::qs) k=valueAt qs k:=by simp[valueAt,Wh,e']
   rw[ly e,b];exact ih
theorem KV.any {kvs:List (κ×V)}{vs:List (κ×Value)}(r:KV kvs vs)(k:κ):(kvs.any λkv=>decide (kv.1=k))=vs.any λkv=>decide (kv.1=k):=by
 unfold KV at r
 induction r with
 |nil=>rfl
 |cons h t ih=>rw[V8,V8,ih,h.1]
theorem KV.Ph {kvs:List (κ×V)}{vs:List (κ×Value)}(r:KV kvs vs)(k:κ){y:V}{u:Value}(ry:RelV y u) :
  KV (kvs.map λkv=>if kv.1=k then (kv.1,y) else kv) (vs.map λkv=>if kv.1=k then (kv.1,u) else kv):=by
 unfold KV at r ⊢
 induction r with
 |nil=>exact .nil
 | @cons p q ps qs h t ih =>
  rw[kx,kx];refine .cons ?_ ih;obtain⟨h1,h2⟩:=h
  by_cases e:p.1=k
  ·rw[if_pos e,if_pos (h1.symm.trans e)];exact⟨h1,ry⟩
  ·rw[if_neg e,if_neg (λz=>e (h1.trans z))];exact⟨h1,h2⟩
theorem KV.put {kvs:List (κ×V)}{vs:List (κ×Value)}(r:KV kvs vs)(k:κ){y:V}{u:Value}(ry:RelV y u):KV (putK kvs k y) (stored vs k u):=by
 unfold putK stored;rw[r.any k]
 by_cases e:(vs.any λkv=>decide (kv.1=k))=true
 ·rw[if_pos e,if_pos e];exact r.Ph k ry
 ·rw[if_neg e,if_neg e];exact Paired.snoc r ⟨rfl,ry⟩
theorem KV.drop {kvs:List (κ×V)}{vs:List (κ×Value)}(r:KV kvs vs)(k:κ):KV (DJ kvs k) (without vs k):=by
 unfold KV at r ⊢;unfold DJ without
 induction r with
 |nil=>exact .nil
 | @cons p q ps qs h t ih =>
  obtain⟨h1,h2⟩:=h;rw[List.filter_cons,List.filter_cons]
  by_cases e:p.1=k
  ·have a:¬decide (p.1≠k)=true:=by simp[e]
   have b:¬decide (q.1≠k)=true:=by simp[h1.symm.trans e]
   rw[if_neg a,if_neg b];exact ih
  ·have e':¬q.1=k:=λz=>e (h1.trans z)
   have a:decide (p.1≠k)=true:=by simp[e]
   have b:decide (q.1≠k)=true:=by simp[e']
   rw[if_pos a,if_pos b];exact .cons ⟨h1,h2⟩ ih
theorem KV.keys {kvs:List (κ×V)}{vs:List (κ×Value)}(r:KV kvs vs):kvs.map (·.1)=vs.map (·.1):=by
 unfold KV at r
 induction r with
 |nil=>rfl
 |cons h t ih=>rw[kx,kx,ih,h.1]
theorem KV.length {kvs:List (κ×V)}{vs:List (κ×Value)}(r:KV kvs vs):kvs.length=vs.length:=Paired.length r
end
theorem G2 {P:ko}{w:World}{k:Key}{u:Value}(r:RelV (kV k) u):(dQ P w).is k u=true:=by
 cases k with
 |inl i=>obtain⟨t,e⟩:=(show ∃t,u=Value.int i t from r);subst e;exact Ds P w i t
 |inr x=>obtain⟨t,e⟩:=(show ∃t,u=Value.str x t from r);subst e;exact Dt P w x t
theorem A5 {P:ko}{w:World}:∀ {ks:List Key} {us:List Value},Vals (ks.map kV) us->ItemsAre (dQ P w) ks us
 |[],_,r=>by rw[V5]at r;cases r;exact .nil
 |k::ks,_,r=>by
  rw[kx]at r;cases r with
  |cons h t=>exact .cons (G2 h) (A5 t)
abbrev KT (H:Hp):List (List Key×V)->List (List Key×Addr×Value)->Prop:=Paired λp q=>p.1=q.1/\H q.2.1=some (.tup (p.1.map kV))/\RelV p.2 q.2.2
theorem KT.val {H:Hp}{kvs:List (List Key×V)}{xs:List (List Key×Addr×Value)}(r:KT H kvs xs)(k:List Key):lW (ee kvs k) ((atKey xs k).map (·.2)):=by
 induction r with
 |nil=>exact True.intro
 | @cons p q ps qs h t ih =>
  obtain⟨h1,_,h2⟩:=h
  by_cases e:p.1=k
  ·have e':q.1=k:=h1.symm.trans e;have b:atKey (q::qs) k=some q.2:=by simp[atKey,Wh,e']
   rw[nZ e,b];exact h2
  ·have e':¬q.1=k:=λz=>e (h1.trans z)
   have b:atKey (q::qs) k=atKey qs k:=by simp[atKey,Wh,e']
   rw[ly e,b];exact ih
theorem KT.Ph {H:Hp}{kvs:List (List Key×V)}{xs:List (List Key×Addr×Value)}(r:KT H kvs xs)(k:List Key){y:V}{u:Value}(ry:RelV y u) :
  KT H (kvs.map λkv=>if kv.1=k then (kv.1,y) else kv) (xs.map (putAt k u)):=by
 induction r with
 |nil=>exact .nil
 | @cons p q ps qs h t ih =>
  rw[kx,kx];refine .cons ?_ ih;obtain⟨h1,h2,h3⟩:=h;unfold putAt
  by_cases e:p.1=k
  ·rw[if_pos e,if_pos (h1.symm.trans e)];exact⟨h1,h2,ry⟩
  ·rw[if_neg e,if_neg (λz=>e (h1.trans z))];exact⟨h1,h2,h3⟩
theorem KT.put {H:Hp}{kvs:List (List Key×V)}{xs:List (List Key×Addr×Value)}(r:KT H kvs xs)(k:List Key){b:Addr}{y:V}{u:Value}(hb:H b=some (.tup (k.map kV)))(ry:RelV y u) :
  KT H (putK kvs k y) (storedH xs k b u):=by
 have e:(kvs.any λkv=>decide (kv.1=k))=(atKey xs k).isSome:=by
  rw[yw,(r.val k).uI,Option.isSome_map]
 unfold putK storedH;rw[e]
 by_cases q:(atKey xs k).isSome=true
 ·rw[if_pos q,if_pos q];exact r.Ph k ry
 ·rw[if_neg q,if_neg q];exact Paired.snoc r ⟨rfl,hb,ry⟩
theorem KT.keeps {H H':Hp}{kvs:List (List Key×V)}{xs:List (List Key×Addr×Value)}(r:KT H kvs xs)(ht:∀b ys,H b=some (.tup ys)->H' b=some (.tup ys)):KT H' kvs xs :=
 Paired.OK r λ_ _ z=>⟨z.1,ht _ _ z.2.1,z.2.2⟩
section
variable{P:ko}{w:World}{H:Hp}{h:Heap}{a:Addr}
theorem Oh {u:HO}(ok:HOk P w H h)(e:Rd H a u):dE P w H h a u:=e.ok ok
theorem DK {kvs:List (Key×V)}(ok:HOk P w H h)(e:Rd H a (.dK kvs)):kvs.length<=de/\(a == sysModules)=false/\∃vs,KV kvs vs/\h.DictOf (dQ P w) a vs :=
 show dE P w H h a (.dK kvs) from Oh ok e
theorem Oi {kvs:List (Key×V)}(ok:HOk P w H h)(e:H a=some (.dK kvs)):kvs.length<=de/\(a == sysModules)=false/\∃vs,KV kvs vs/\h.DictOf (dQ P w) a vs:=DK ok (.inl e)
theorem BY {ks:List Key}(ok:HOk P w H h)(e:H a=some (.tup (ks.map kV))):(tupleKind (dQ P w)).is h ks a:=by
 obtain⟨_,its,r,o,h1,h2,n,h3⟩:=(show dE P w H h a (.tup (ks.map kV)) from ok a _ e)
 exact⟨o,its.toArray,n,h1,h2,h3,by simpa using A5 r⟩
theorem G3 {kvs:List (List Key×V)}(ok:HOk P w H h)(e:Rd H a (.dT kvs)):kvs.length<=de/\(a == sysModules)=false /\
  ∃xs,KT H kvs xs/\h.DictOfH (tupleKind (dQ P w)) a xs:=by
 obtain⟨z,y,xs,r,o,es,ep,h1,h2,h3,h4,h5⟩:=(show dE P w H h a (.dT kvs) from Oh ok e)
 refine⟨z,y,xs,r,o,es,ep,h1,h2,h3,h4,λx hx=>?_,h5⟩
 have all:∀ {l:List (List Key×V)} {m:List (List Key×Addr×Value)},KT H l m->∀x∈m,(tupleKind (dQ P w)).is h x.1 x.2.1:=by
  intro l m q
  induction q with
  |nil=>intro x hx;exact nomatch hx
  | @cons p q ps qs hq t ih =>
   intro x hx;rcases List.mem_cons.mp hx with e | hx
   ·subst e;exact BY ok (by rw[<-hq.1];exact hq.2.1)
   ·exact ih x hx
 exact all r x hx
theorem Rw {kvs:List (List Key×V)}(ok:HOk P w H h)(e:H a=some (.dT kvs)):kvs.length<=de/\(a == sysModules)=false /\
  ∃xs,KT H kvs xs/\h.DictOfH (tupleKind (dQ P w)) a xs:=G3 ok (.inl e)
end
def BZ (H:Hp)(a:Addr)(y:V)(r:Option V):Prop :=
 (∃kvs k,Rd H a (.dK kvs)/\y=kV k/\r=ee kvs k)\/∃kvs k b,Rd H a (.dT kvs)/\y=.ref b/\H b=some (.tup (k.map kV))/\r=ee kvs k
def B0 (H:Hp)(a:Addr)(y v:V)(H':Hp):Prop :=
 (∃kvs k,H a=some (.dK kvs)/\y=kV k/\kvs.length < de/\H'=upd H a (.dK (putK kvs k v))) \/
 ∃kvs k b,H a=some (.dT kvs)/\y=.ref b/\H b=some (.tup (k.map kV))/\kvs.length < de/\H'=upd H a (.dT (putK kvs k v))
theorem BZ.k {H:Hp}{a:Addr}{kvs:List (Key×V)}{k:Key}(e:H a=some (.dK kvs)):BZ H a (kV k) (ee kvs k):=.inl ⟨kvs,k,.inl e,rfl,rfl⟩
theorem BZ.t {H:Hp}{a b:Addr}{kvs:List (List Key×V)}{k:List Key}(e:H a=some (.dT kvs))(eb:H b=some (.tup (k.map kV))):BZ H a (.ref b) (ee kvs k):=.inr ⟨kvs,k,b,.inl e,rfl,eb,rfl⟩
theorem B0.k {H:Hp}{a:Addr}{kvs:List (Key×V)}{k:Key}{v:V}(e:H a=some (.dK kvs))(hl:kvs.length < de):B0 H a (kV k) v (upd H a (.dK (putK kvs k v))):=.inl ⟨kvs,k,e,rfl,hl,rfl⟩
theorem B0.t {H:Hp}{a b:Addr}{kvs:List (List Key×V)}{k:List Key}{v:V}(e:H a=some (.dT kvs))(eb:H b=some (.tup (k.map kV)))(hl:kvs.length < de) :
  B0 H a (.ref b) v (upd H a (.dT (putK kvs k v))):=.inr ⟨kvs,k,b,e,rfl,eb,hl,rfl⟩
section
variable{X:Cx}{pins:List (Addr×Obj)}{σ:St}{H:Hp}{s:Shared}{a:Addr}{y v:V}{u r:Value}{o:Option V}{A:Around}{E:Value->Shared->Prop}
theorem Inv.big (I:Inv X pins σ H s):sysModules < s.heap.objs.size:=by
 have h:mainGlobals < s.heap.objs.size:=(I.mod.glob.keeps I.bk).lt;exact Nat.lt_trans (by decide) h
theorem Il {Q:Value->Shared->Prop}(hu:A.units+1 < cLine)(I:Inv X pins σ H s)(g:BZ H a y (some v))(ry:RelV y u)(h:∀w' s',Inv X pins σ H s'->RelV v w'->Q w' s') :
  wpAny (model X.prog X.w) A (getItem (.ref a) u) Q E s:=by
 rcases g with ⟨kvs,k,e,ey,l⟩ | ⟨kvs,k,b,e,ey,eb,l⟩
 ·subst ey;obtain⟨z,hd,vs,rel,dd⟩:=DK I.hok e;obtain⟨w',hw,rw'⟩:=lW.some_of (v:=v) (o:=valueAt vs k) (by rw[l];exact rel.val k)
  exact wpAny_getItem_of (G2 ry) dd.mapOf hw (h w' _ (I.tok _) rw')
 ·subst ey;cases (show u=ky b from ry)
  obtain⟨z,hd,xs,rel,dd⟩:=G3 I.hok e;obtain⟨w',hw,rw'⟩:=lW.some_of (v:=v) (o:=(atKey xs k).map (·.2)) (by rw[l];exact rel.val k)
  obtain⟨p,hp,hp2⟩:=Option.map_eq_some_iff.mp hw;refine wpAny_getItem_heap (tupleKind_room_in1 hu) (BY I.hok eb) dd hp ?_;rw[hp2];exact h w' _ (I.tok _) rw'
theorem MR {Q:Value->Shared->Prop}(hu:A.units+1 < cLine)(I:Inv X pins σ H s)(g:BZ H a y o)(ry:RelV y u)(h:∀s',Inv X pins σ H s'->Q (.bool (!o.isSome)) s') :
  wpAny (model X.prog X.w) A (VU .NotIn u (.ref a)) Q E s:=by
 rcases g with ⟨kvs,k,e,ey,l⟩ | ⟨kvs,k,b,e,ey,eb,l⟩
 ·subst ey;obtain⟨z,hd,vs,rel,dd⟩:=DK I.hok e;refine wpAny_notIn_of (G2 ry) hd dd.mapOf ?_;rw[<-(rel.val k).uI,<-l];exact h _ (I.tok _)
 ·subst ey;cases (show u=ky b from ry)
  obtain⟨z,hd,xs,rel,dd⟩:=G3 I.hok e;refine wpAny_notIn_heap (tupleKind_room_in1 hu) (BY I.hok eb) hd dd ?_;have q:=(rel.val k).uI;rw[Option.isSome_map]at q;rw[<-q,<-l];exact h _ (I.tok _)
theorem G4 {h':Heap}{t':Nat}{ob:HO}(I:Inv X pins σ H s)(mu:Mut (H a))(hs:Heap.SameBut a s.heap h')(he:∃q,h'.get? a=some q)(new:dE X.prog X.w (upd H a ob) h' a ob) :
  Inv X pins σ (upd H a ob) { s with heap:=h',toks:=t' } :=
 I.write (x:=a) (e:=a) mu (.inl rfl) (λb q hb z=>(hs.2 b hb).trans z) he new
theorem Pj {P:ko}{w:World}{H':Hp}{h':Heap}{kvs:List (Key×V)}{vs:List (Key×Value)}(z:kvs.length<=de)(hd:(a == sysModules)=false)(rel:KV kvs vs)(dd:h'.DictOf (dQ P w) a vs) :
  dE P w H' h' a (.dK kvs):=⟨z,hd,vs,rel,dd⟩
theorem Im {H':Hp}{Q:Unit->Shared->Prop}(hu:A.units+1 < cLine)(I:Inv X pins σ H s)(g:B0 H a y v H')(ry:RelV y u)(rv:RelV v r)(h:∀s',Inv X pins σ H' s'->Q () s') :
  wpAny (model X.prog X.w) A (setItem (.ref a) u r) Q E s:=by
 rcases g with ⟨kvs,k,e,ey,l,eH⟩ | ⟨kvs,k,b,e,ey,eb,l,eH⟩
 ·subst ey eH;obtain⟨z,hd,vs,rel,dd⟩:=Oi I.hok e;have hz:vs.length<=de:=by rw[<-rel.length];exact z
  have hl:(putK kvs k v).length<=de:=by have:=vS kvs k v;omega
  refine wpAny_setItem_pairs (hsz:=hz) (G2 ry) dd λh' dd' hs=>h _ ?_
  have he:∃q,h'.get? a=some q:=let ⟨q,_,_,hq,_⟩:=dd';⟨q,hq⟩
  exact G4 I (by rw[e];exact True.intro) hs he (Pj hl hd (rel.put k rv) dd')
 ·subst ey eH;cases (show u=ky b from ry)
  obtain⟨z,hd,xs,rel,dd⟩:=Rw I.hok e;have hz:xs.length<=de:=by rw[<-Paired.length rel];exact z
  have hl:(putK kvs k v).length<=de:=by have:=vS kvs k v;omega
  refine wpAny_setItem_heap (hsz:=hz) (tupleKind_room_in1 hu) (BY I.hok eb) dd λh' dd' hs=>h _ ?_
  obtain⟨q,es,ep,hq,h2,h3,h4,_,h5⟩:=dd';refine G4 I (by rw[e];exact True.intro) hs ⟨q,hq⟩ ⟨hl,hd,_,(rel.put k eb rv).keeps λc ys ec=>?_,q,es,ep,hq,h2,h3,h4,h5⟩
  rw[ax (QV ec e (λz=>nomatch z))]
  exact ec
end
section
variable{X:Cx}{pins:List (Addr×Obj)}{σ:St}{H:Hp}{s:Shared}{a:Addr}{kvs:List (Key×V)}{k:Key}{u:Value}{A:Around}{E:Value->Shared->Prop}
theorem Rx {Q:Value->Shared->Prop}(I:Inv X pins σ H s)(e:Rd H a (.dK kvs))(h:∀t s',Inv X pins σ H s'->Q (.int kvs.length t) s'):wpAny (model X.prog X.w) A (call (.builtin "len") [.ref a]) Q E s:=by
 obtain⟨z,hd,vs,rel,dd⟩:=DK I.hok e;refine call_len_dict hd dd (by rw[<-rel.length];rw[sizeLine_eq]at z;omega) ?_
 rw[<-rel.length];exact h _ _ (I.tok _)
end
def Ry (i:Expr):Prop:=∀ov iv,subscripted i false ov iv=operate [ov,iv] (getItem ov iv)
theorem MS {prog:ko}{w:World}{A:Around}{E:Value->Shared->Prop}{s:Shared}{env:Env}{value slice:Expr}{pos:Pos}{T id:String}{Q:Value->Shared->Prop}
  (hl:typeLookup (.type T) "__getitem__"=pure (some (.builtin id))) (hs:Ry slice)
  (h:wpAny (model prog w) A (eval value env) (λo s₁=>wpAny (model prog w) A (eval slice env) (λi s₂=>s₂.TypeIs o T/\wpAny (model prog w) A (getItem o i) Q E s₂) E s₁) E s) :
  wpAny (model prog w) A (eval (.Subscript value slice pos) env) Q E s:=by
 refine Subscript_ (ki h (λo s₁ h₁=>ki h₁ (λi s₂ h₂=>?_) λ_ _ x=>x) λ_ _ x=>x)
 obtain⟨hT,h₂⟩:=h₂;unfold subscriptTail;refine cb ?_;rw[getitemInPython_of_ne hT.not_modules];refine cb (wpAny_specialOf hT hl ?_);have fin:wpAny (model prog w) A (subscripted slice false o i) (λr s₃=>wpAny (model prog w) A (letTemporaryGo value o r >>= λ_=>pure r) Q E s₃) E s₂:=by
  rw[hs o i];exact wpAny_operating (ki h₂ (λr s₃ h₃=>cb (wpAny_letTemporaryGo (ka h₃))) λ_ _ x=>x)
 first
  |exact ka (cb fin)
  |exact cb (ka (cb fin))
  |exact cb fin
theorem DL {X:Cx}{pins:List (Addr×Obj)}{σ:St}{H:Hp}{s:Shared}{a:Addr}{y:V}{o:Option V}(I:Inv X pins σ H s)(g:BZ H a y o):s.TypeIs (.ref a) "dict":=by
 rcases g with ⟨kvs,k,e,_,_⟩ | ⟨kvs,k,b,e,_,_,_⟩
 ·obtain⟨_,_,vs,_,dd⟩:=DK I.hok e;exact dd.typeIs
 ·obtain⟨_,_,xs,_,dd⟩:=G3 I.hok e;exact dd.typeIs
def Rz (td ty:TE):TE:=λσ H Q=>td σ H λx H1=>ty σ H1 λy H2=>∃a v,x=.ref a/\BZ H2 a y (some v)/\Q v H2
def MT (ty td:TE):TE:=λσ H Q=>ty σ H λy H1=>td σ H1 λx H2=>∃a o,x=.ref a/\BZ H2 a y o/\Q (.bl (!o.isSome)) H2
def RA (td ty tv:TE):TS:=λD σ H=>tv σ H λv H1=>td σ H1 λx H2=>ty σ H2 λy H3=>∃a H4,x=.ref a/\B0 H3 a y v H4/\D.nx σ H4
section
variable{X:Cx}{o i e value:Expr}{pos pos' Tz:Pos}{td ty tv:TE}
theorem s9 (hu:X.A.units+1 < cLine)(ho:PE X o td)(hi:PE X i ty)(hs:Ry i):PE X (.Subscript o i pos) (Rz td ty):=by
 intro pins s σ H Q I h;refine MS PySem.F.slot_dict_getitem.lookup hs (thn (ho pins s σ H _ I h) λu s1 ⟨x,H1,I1,rx,q1⟩=>thn (hi pins s1 σ H1 _ I1 q1) λiv s2 ⟨y,H2,I2,ry,a,v,ex,g,q2⟩=>?_)
 subst ex;obtain rfl:u=ky a:=rx;exact⟨DL I2 g,Il hu I2 g ry λw' s3 I3 rw'=>⟨v,H2,I3,rw',q2⟩⟩
theorem A6 (hu:X.A.units+1 < cLine)(hi:PE X i ty)(ho:PE X o td):PC X .NotIn i o (MT ty td):=by
 intro pins s σ H Q I h;refine thn (hi pins s σ H _ I h) λiv s1 ⟨y,H1,I1,ry,q1⟩=>thn (ho pins s1 σ H1 _ I1 q1) λu s2 ⟨x,H2,I2,rx,a,ov,ex,g,q2⟩=>?_
 subst ex;obtain rfl:u=ky a:=rx;exact MR hu I2 g ry λs3 I3=>⟨.bl (!ov.isSome),H2,I3,rfl,q2⟩
theorem xT (hu:X.A.units+1 < cLine)(ho:PE X o td)(hi:PE X i ty)(hv:PE X value tv)(hs:swapsWith value (some (.Subscript o i pos')) pos.line X.env=pure false) :
  PS X (.Assign [.Subscript o i pos'] value pos) (RA td ty tv):=by
 intro pins s σ H D I h;refine wpAny_Assign_Subscript (thn (hv pins s σ H _ I h) λr s1 ⟨v,H1,I1,rv,q1⟩=>thn (ho pins s1 σ H1 _ I1 q1) λu s2 ⟨x,H2,I2,rx,q2⟩=>thn (hi pins s2 σ H2 _ I2 q2) λiv s3 ⟨y,H3,I3,ry,a,H4,ex,g,q3⟩=>?_) hs
 subst ex;obtain rfl:u=ky a:=rx;exact Im hu I3 g ry rv λs4 I4=>⟨σ,H4,I4,q3⟩
end
theorem Kr {P:ko}{w:World}{H:Hp}(h:Heap)(hb:sysModules < h.objs.size):dE P w H (h.push { cls:=.type "dict",data:=.dict #[] }) h.objs.size (.dK []) :=
 ⟨Vg _,beq_eq_false_iff_ne.mpr (UU (sr hb)),[],.nil,Heap.DictOf.new h⟩
def Pk:TE:=λ_ H Q=>∀p,H p=none->Q (.ref p) (upd H p (.dK []))
section
variable{X:Cx}{pos:Pos}
theorem n8:PE X (.Dict [] [] pos) Pk:=λpins s σ H Q I h =>
 wpAny_Dict_empty ⟨.ref s.heap.objs.size,_,I.laid (a:=s.heap.objs.size) (o:=.dK []) (t':=s.toks) (λ_ _ q=>fu _ q) (kg _) (Kr s.heap I.big),rfl,h _ (I.hok.fresh (kg _))⟩
end
structure M1 (X:Cx)(o:Expr)(m:Str)(apos:Pos)(e:Expr)(fj:Pos):Prop where
 base:attributeBase o m X.env (eval o X.env)=eval o X.env
 few:((backTo fj (om [e] X.env)).all (λx=>!x.1) && (V4 fj (VC [] X.env)).all (λx=>x.1.isSome)
  && decide (([e]:List Expr).length+([]:List Keyword).length+(if ([]:List Keyword).isEmpty then 0 else 1) < 30))=true
 line:(apos.endLine == fj.line)=true
 trees:backTo fj (om [e] X.env)=[(false,eval e X.env)]
structure M2 (X:Cx)(o:Expr)(m:Str)(apos:Pos)(e f:Expr)(fj:Pos):Prop where
 base:attributeBase o m X.env (eval o X.env)=eval o X.env
 few:((backTo fj (om [e,f] X.env)).all (λx=>!x.1) && (V4 fj (VC [] X.env)).all (λx=>x.1.isSome)
  && decide (([e,f]:List Expr).length+([]:List Keyword).length+(if ([]:List Keyword).isEmpty then 0 else 1) < 30))=true
 line:(apos.endLine == fj.line)=true
 trees:backTo fj (om [e,f] X.env)=[(false,eval e X.env),(false,eval f X.env)]
section
variable{X:Cx}
theorem Io:eh X (.builtin "len") (λxs H Q=>∃a kvs,xs=[V.ref a]/\H a=some (.dK kvs)/\Q (.int kvs.length) H):=by
 intro pins s σ H xs us Q I r h;obtain⟨a,kvs,rfl,ha,q⟩:=h;obtain⟨u,rfl,ru⟩:=vals1 r;cases ru;exact Rx I (.inl ha) λt s' I'=>⟨.int kvs.length,H,I',⟨t,rfl⟩,q⟩
end
theorem Room.u1 {k:Nat}{A:Around}(r:Room k A):A.units+1 < cLine:=by have:=r.un;omega
theorem MU {X:Cx}{K:ba}{e:Expr}{f:Str}{pos:Pos}{ta:TE}(ek:X.K=K)(he:PE X e ta)(hb:attributeBase e f X.env (eval e X.env)=eval e X.env):PE X (.Attribute e f pos) (Ra K ta f):=by
 subst ek;exact bF he hb
theorem ints_of:∀(l:List Value) (ns:List Int),l.length=ns.length->(∀(j:Nat) (v:Value),l[j]?=some v->∃n t,ns[j]?=some n/\v=Value.int n t)->IntsAre l ns
 |[],[],_,_=>.nil
 |[],_::_,h,_=>nomatch h
 |_::_,[],h,_=>nomatch h
 |v::l,n::ns,h,g=>by
  obtain⟨n',t,e1,e2⟩:=g 0 v rfl;have e3:n=n':=by simpa using e1
  subst e3;subst e2;exact .cons n t (ints_of l ns (by simpa using h) λj v hv=>g (j+1) v (by simpa using hv))
theorem DM:∀ {vs:List Value} {ns:List Int},IntsAre vs ns->Vals (ns.map V.int) vs
 |_,_,.nil=>.nil
 |_,_,.cons n t h=>.cons ⟨t,rfl⟩ (DM h)
theorem Oj {κ:Type}:∀ {kvs:List (κ×V)} {vs:List (κ×Value)},KV kvs vs->∀(j:Nat) (q:κ×Value),vs[j]?=some q->(kvs.map (·.1))[j]?=some q.1
 |_,_,.nil,j,q,h=>by simp at h
 |_,_,.cons a r,0,q,h=>by
  rw[VN]at h;cases h;rw[kx,VN,a.1]
 |_,_,.cons a r,j+1,q,h=>by
  have:=Oj r j q (by simpa using h)
  simpa using this
theorem MV {P:ko}{w:World}{n:Int}{v:Value}(h:(dQ P w).is (U0 n) v=true):∃t,v=Value.int n t:=by
 rcases cW (k:=U0 n) (v:=v) (show xZ (U0 n) v=true from h) with ⟨i,t,e,rfl⟩ | ⟨x,t,e,rfl⟩
 ·cases e;exact⟨t,rfl⟩
 ·cases e
theorem B1 {X:Cx}(hh:X.A.handled=none):eh X (.builtin "sorted") (λxs H Q=>∃a kvs ns,xs=[V.ref a]/\H a=some (.dK kvs)/\kvs.map (·.1)=ns.map U0/\ns.length < 64 /\
  ∀l ns',List.Perm ns' ns->ns'.Pairwise (·<=·)->H l=none->Q (.ref l) (upd H l (.lst (ns'.map V.int)))):=by
 intro pins s σ H xs us Q I r h;obtain⟨a,kvs,ns,rfl,ha,hk,h64,q⟩:=h;obtain⟨u,rfl,ru⟩:=vals1 r;cases ru;obtain⟨z,hd,vs,rel,dd⟩:=Oi I.hok ha;obtain⟨ep,hat⟩:=dd.dictAt;have hlen:vs.length=ns.length:=by
  have e1:=congrArg List.length hk;simp only[da]at e1;rw[<-rel.length];exact e1
 refine Calls.call_function_entry kind_sorted plain_sorted entry_sorted (args_sorted1 _) ?_;unfold Wz.«sorted»;refine cb (m:=checkCount "sorted" 1 1 _) (ka ?_);refine cb (PySem.W.kdu_collect (A:=X.A.in1) (PySem.W.kdl_dict (knd:=dQ X.prog X.w) (kvs:=vs) (ep:=ep) hd) hh hat (by rw[<-rel.length];exact z) λh' tk acc kp HY=>?_)
 have hsz:acc.toList.length=ns.length:=by rw[Array.length_toList];exact HY.1.trans hlen
 have hI:IntsAre acc.toList ns:=ints_of _ _ hsz λj v hv=>by
  obtain⟨k,x,hx,hkv⟩:=HY.2 j v (by rw[<-Array.getElem?_toList];exact hv)
  have e:=Oj rel j _ hx;rw[hk,U5]at e;cases en:ns[j]? with
  |none=>rw[en]at e;cases e
  |some n =>
   rw[en]at e;have e':U0 n=k:=by simpa using e
   subst e';obtain⟨t,rfl⟩:=MV hkv;exact⟨n,t,rfl,rfl⟩
 refine cb (wpAny_newList ?_ (by rw[hsz];rw[sizeLine_eq];omega))
 have hoL:(h'.push (seqObj "list" acc.toList.toArray 0)).get? h'.objs.size=some (seqObj "list" acc.toList.toArray 0):=si _ rfl;refine cb (Vd (wpAny_call_entry slot_list_sort ⟨_,hoL,rfl⟩ entry_list_sort (list_sort_tree hoL hI (by omega) λout ns' a1 a2 a3=>⟨_,rfl,?_⟩) (args_list_sort _)))
 refine ka ⟨_,rfl,?_⟩;obtain⟨e,he⟩:=sortedHeap_at (out:=out) hoL;have I1:Inv X pins σ H { s with heap:=h',toks:=tk }:=I.un (Un.kept kp) (I.hok.kept kp)
 refine⟨.ref h'.objs.size,_,I1.laid (t':=tk) (λb o hb=>?_) (kg _) (show dE X.prog X.w _ _ _ (.lst (ns'.map V.int)) from ⟨?_,_,e,DM a1,?_⟩),rfl,q _ ns' a2 a3 (I1.hok.fresh (kg _))⟩
 ·have hb':h'.get? b=some o:=hb;have hlt:=kq hb';rw[sortedHeap_old (sr hlt) (by rw[size_push'];exact Wk hlt)]
  exact fu _ hb'
 ·rw[da,a2.length_eq,sizeLine_eq];omega
 ·rw[Array.toArray_toList];exact he
theorem Iq:Vr "sorted"=some (.builtin "sorted"):=by trivial
theorem PSX.ps {X:Cx}{st:Stmt}{t:TSX}(h:PSX X st t):PS X st (λD σ H=>t D (λ_=>E0) σ H):=λpins s σ H D I hw =>
 ki (h pins s σ H D (λ_=>E0) I hw) (λ_ _ z=>z) λ_ _ ⟨_,_,_,_,_,_,_,_,_,_,z⟩=>z.elim
theorem aX {P:Prop}(h:∀G:Prop,(P->G)->G):P:=h P id
theorem ixv {s:Option (Option V)}{p:Addr}{n:Int}{S:Addr->List V->Prop}{xs:List V}{z:V}{R:V->Prop}(h0:s=some (some (.ref p)))(h1:S p xs)(h2:atI xs n=some z)(h:R z):∃v,s=some (some v)/\∃q ys i w,v=.ref q/\V.int n=.int i/\S q ys/\atI ys i=some w/\R w :=
 ⟨_,h0,p,xs,n,z,rfl,rfl,h1,h2,h⟩
theorem iA {K:ba}{s:Option (Option V)}{H:Hp}{a C dx:Addr}{fs:List (Str×V)}{f:Str}{w:V}{R:V->Prop}(h0:s=some (some (.ref a)))(h1:H a=some (.ins C dx fs))(h2:Cls K C)(h3:cM K C f)(h4:fs.lookup f=some w)(h:R w) :
  ∃v,s=some (some v)/\∃a C dx fs w,v=.ref a/\H a=some (.ins C dx fs)/\Cls K C/\cM K C f/\fs.lookup f=some w/\R w:=⟨_,h0,a,C,dx,fs,w,rfl,h1,h2,h3,h4,h⟩
theorem mtv {s:Option (Option V)}{H:Hp}{a C dx:Addr}{fs:List (Str×V)}{m:Str}{R:V->Prop}(h0:s=some (some (.ref a)))(h1:H a=some (.ins C dx fs))(h2:fs.lookup m=none)(h:R (.ref a)) :
  ∃v,s=some (some v)/\∃a dx fs,v=.ref a/\H a=some (.ins C dx fs)/\fs.lookup m=none/\R v:=⟨_,h0,a,dx,fs,rfl,h1,h2,h⟩
theorem tsf {b:Bool}{P Q:Prop}(h:b=false)(q:Q):∃k,V.bl b=.bl k/\if k=true then P else Q:=⟨b,rfl,by rw[h];exact q⟩
theorem tst {b:Bool}{P Q:Prop}(h:b=true)(q:P):∃k,V.bl b=.bl k/\if k=true then P else Q:=⟨b,rfl,by rw[h];exact q⟩
def scB (N P:List Str)(sc:Scope):Bool:=(match sc.kind with | .function=>true | _=>false) && !sc.isCoroutine && !sc.isGenerator && decide N.Nodup && decide (N.take P.length=P) && decide (∀x∈P,sc.names.lookup x=some .local\/sc.names.lookup x=some .cell) && decide (∀y∈sc.names,y.2≠.free)
theorem fsc {N P:List Str}{sc:Scope}(h:scB N P sc=true):ay N P sc:=by
 unfold scB at h;simp only[gc,Wm,decide_eq_true_eq]at h;obtain⟨⟨⟨⟨⟨⟨h1,h2⟩,h3⟩,h4⟩,h5⟩,h6⟩,h7⟩:=h;refine⟨?_,h2,h3,h4,h5,h6,h7⟩;split at h1
 ·assumption
 ·cases h1
end L2
namespace L2
open PySem
theorem Draws.shift {prog:ko}{w:World}{A:Around}{it:Addr}{fp:List Addr}{n:Nat}{P:Nat->Value->Prop}{St:Nat->Heap->Prop}(k:Nat)(D:Draws prog w A it fp n P St) :
  Draws prog w A it fp (n+k) (λi v=>∃j,i=j+k/\P j v) (λi h=>∃j,i=j+k/\St j h) where
 live:=λ_ h ⟨j,_,st⟩=>D.live j h st
 frame:=λ_ h h' ⟨j,e,st⟩ q=>⟨j,e,D.frame j h h' st q⟩
 item:=λi s Q E hi ⟨j,e,st⟩ hQ=>by
  subst e;exact D.item j s Q E (by omega) st λx h' tk p st' sb=>hQ x h' tk ⟨j,rfl,p⟩ ⟨j+1,by omega,st'⟩ sb
 done:=λs Q E ⟨j,e,st⟩ hE=>by
  obtain rfl:j=n:=by omega
  exact D.done s Q E st hE
section
variable{prog:ko}{w:World}{A:Around}{E:Value->Shared->Prop}{s:Shared}
abbrev kwS (v:Value):List (Str×Value):=[(ar "start",v)]
theorem meets_enumK (l:Addr)(its:Array Value)(n:Nat)(dc:Option Addr)(sl:Array (Option Value))(k:Int)(t:Tok)(hk:V3 k=true) :
  Meets (Wz.«enumerate.__new__» ⟨[.type "enumerate",.ref l],kwS (.int k t)⟩) (λ_ R s=>s.heap.get? l=some { cls:=.type "list",dict:=dc,data:=.seq its n,slots:=sl } /\
   R (.ok (.ret (.ref (s.heap.objs.size+1)))) { s with heap:=(s.heap.push { cls:=.type "list_iterator",data:=.fields #[.ref l,.int 0 0] }).push { cls:=.type "enumerate",data:=.fields #[.none,.bool false,.ref s.heap.objs.size,rawInt k,.none,.none] } }) :=
 .of_wp λprog w A R s h=>by
  obtain⟨hp,g,d,tk,os⟩:=s;obtain⟨hl,h⟩:=h;have T6:=sub_enumerate;have z:hp.objs.size+1=(hp.push { cls:=.type "list_iterator",data:=.fields #[.ref l,.int 0 0] }).objs.size:=(VR ..).symm;have hL:Heap.IsList (Shared.heap ⟨hp,g,d,tk,os⟩) l its:=⟨_,hl,rfl,n,rfl⟩;have nk:¬(!V3 k)=true:=by rw[hk];exact gr
  have h2:=h;dsimp only at h2;rw[z]at h2
  wp_walk using AutoSeq1.wpAny_loadPart' hl
  refine wpAny_stack_any λst=>ka ?_
  split
  ·rename_i c _ _ _ _ _;cases (c == Value.type "enumerate") <;> (wp_walk using AutoSeq1.wpAny_loadPart' hl,wpAny_pyIter_list hL;exact⟨_,rfl,h2⟩)
  ·wp_walk using AutoSeq1.wpAny_loadPart' hl,wpAny_pyIter_list hL
   exact⟨_,rfl,h2⟩
theorem argsK (o a v:Value):argsOk "object.__init__" ⟨[o,a],kwS v⟩:=by
 have e:=signature?_of (id:="object.__init__") (n:=("__init__".toList).reverse) (o:=("object".toList).reverse) (by kernel_rfl) F.owner_object
 show argsOk _ _;unfold argsOk;rw[e]
 kernel_rfl
theorem chkK (a v:Value):checkTypeCall "enumerate" ⟨[a],kwS v⟩=pure ():=by kernel_rfl
theorem chkN (a v:Value):checkBuiltinCall "enumerate.__new__" ⟨[.type "enumerate",a],kwS v⟩=pure ():=by kernel_rfl
theorem init_kw {T nw:String}{o a:Value}{kw:List (Str×Value)}(ft:TypeCalled T nw "object.__init__")(hne:(some nw != some "object.__new__")=true) :
  Meets (Wz.«object.__init__» ⟨[o,a],kw⟩) (λ_ R s=>s.TypeIs o T/\R (.ok (.ret .none)) s):=by
 refine Meets.of_wp λprog w A R s ⟨hT,hq⟩=>?_
 have hl:=ft.init.lookup;have hm:=ft.made
 repeat (any_goals (first | assumption | wp_step))
 exact⟨_,rfl,hq⟩
theorem callType_kw {T nw:String}{Bn:Wz}{a:Value}{kw:List (Str×Value)}{S:Spec}{Q:Value->Shared->Prop}(ft:TypeCalled T nw "object.__init__")(hne:(some nw != some "object.__new__")=true)
  (ct:checkTypeCall T ⟨[a],kw⟩=pure ()) (cn:checkBuiltinCall nw ⟨[.type T,a],kw⟩=pure ()) (ok:∀o,argsOk "object.__init__" ⟨[o,a],kw⟩) (en:entryFor table nw=some Bn) (g:Meets (Bn ⟨[.type T,a],kw⟩) S)
  (h:S A.in1 (wants (λo s1=>s1.TypeIs o T/\Q o s1) E) s):wpAny (model prog w) A (call (.type T) [a] kw) Q E s:=by
 obtain⟨c,tl,UQ⟩:=ft.mro;have UL:=ft.made;have T6:=ft.sub;refine V1 (codeAny_of_tree ?_);refine ka ⟨Code.quiet_builtin _ (by trivial),codeAny_builtin F.entry_type_call ?_⟩
 rw[Around.under_plain (weight_type_call_type T [a] kw) (units_type_call_type T [a] kw)];have h1:=ft.notType;have h2:=ft.canCreate
 repeat (any_goals (first | assumption | wp_step))
 refine VS (codeAny_call_builtin ft.plain en (wpAny_of_eq cn (g prog w A.in1 _ s h))) λr s1 hr=>?_
 cases r with
 |error e=>exact hr
 |ok fl=>cases fl with
  |ret o =>
   obtain⟨hT,hq⟩:=hr;have hli:=ft.init.lookup;have hbi:=ft.init.bind o
   repeat (any_goals (first | assumption | wp_step))
   refine VS (codeAny_call_builtin ft.init.plain F.entry_object_init (ft.init.check _ _ _ _ _ _ _ _ hT (ok o) (init_kw ft hne prog w A.in1 (wants (λr s2=>r=.none/\Q o s2) E) s1 ⟨hT,rfl,hq⟩))) λr2 s2 hr2=>?_
   cases r2 with
   |error e=>exact hr2
   |ok f2=>cases f2 with
    |ret r =>
     obtain⟨rfl,hq⟩:=hr2
     repeat (any_goals (first | assumption | wp_step))
    |_=>exact hr2.elim
  |_=>exact hr.elim
theorem call_enumK {l:Addr}{its:Array Value}{k:Int}{t:Tok}{Q:Value->Shared->Prop}(hk:V3 k=true)(hL:s.heap.IsList l its)
  (h:∀h',IsEnum h' (s.heap.objs.size+1) s.heap.objs.size k .none->h'.IsListIter s.heap.objs.size l 0->(∀b o,s.heap.get? b=some o->h'.get? b=some o)->Q (.ref (s.heap.objs.size+1)) { s with heap:=h' }) :
  wpAny (model prog w) A (call (.type "enumerate") [.ref l] (kwS (.int k t))) Q E s:=by
 obtain⟨⟨c,dct,dt,sl⟩,hl,hc,n,hd⟩:=hL;obtain rfl:c=.type "list":=hc;obtain rfl:dt=.seq its n:=hd;refine callType_kw F.called_enumerate (by decide) (chkK _ _) (chkN _ _) (λo=>argsK o _ _) F.entry_enumerate_new (meets_enumK l its n dct sl k t hk) ⟨hl,?_⟩
 have z:(s.heap.push { cls:=.type "list_iterator",data:=.fields #[.ref l,.int 0 0] }).objs.size=s.heap.objs.size+1:=VR ..;have he:=si (s.heap.push { cls:=.type "list_iterator",data:=.fields #[.ref l,.int 0 0] }) (o:={ cls:=.type "enumerate",data:=.fields #[.none,.bool false,.ref s.heap.objs.size,rawInt k,.none,.none] }) rfl;rw[z]at he;exact⟨⟨_,he,rfl⟩,h _ he ⟨_,fu _ (si _ rfl),rfl,rfl⟩ λb o x=>fu _ (fu _ x)⟩
end
end L2
namespace L2
open PySem PySem.Spec PyProof.Rows
section
variable{prog:ko}{w:World}{A:Around}{E:Value->Shared->Prop}{s:Shared}
theorem callWith_tyKw {M:Model}{env:Env}{pos:Pos}{T:String}{e:Expr}{kws:List Keyword}{Q:Value->Shared->Prop}
  (h:wpAny M A (spliced (backTo pos (om [e] env))) (λvs s1=>wpAny M A (evalAll ((V4 pos (VC kws env)).map (·.2))) (λks s2=>wpAny M A (call (.type T) vs (((V4 pos (VC kws env)).filterMap (·.1)).zip ks)) Q E s2) E s1) E s)
  (he:backTo pos (om [e] env)=[(false,eval e env)]:=by rfl) (ha:(V4 pos (VC kws env)).all (·.1.isSome)=true:=by rfl) (hn:(V4 pos (VC kws env)).any (·.1.isNone)=false:=by rfl) :
  wpAny M A (Wb pos (.type T) [] (backTo pos (om [e] env)) (V4 pos (VC kws env))) Q E s:=by
 unfold Wb;rw[he]at h ⊢;refine cb (Vd (ki (PyProof.Rows.evalArgs_kwB (Q:=λa s2=>wpAny M A (call (.type T) a.pos a.kw) Q E s2) ha h) (λa s1 h1=>cb (Va ?_)) λ_ _ x=>x))
 simp only[V8,List.any_nil,Bool.or_false,hn];refine cb (ka ?_);exact cb (ki h1 (λr s2 hr=>cb (Vd (wpAny_point (ka hr)))) λ_ _ x=>x)
end
def Ite (K:ba)(a:Addr)(k:Nat):It :=
 ⟨λi H=>∃xs x,SqL K H a xs/\xs[i]?=some x,λi H y H'=>∃t x,y=.ref t/\H t=none/\H'=upd H t (.tup [.int ((i+k:Nat):Int),x])/\∀xs,SqL K H a xs->xs[i]?=some x,λi H=>∃xs,SqL K H a xs/\xs.length<=i⟩
def tnE (e it l:Addr)(k i:Nat)(h:Heap):Prop:=(∃old,IsEnum h e it ((i+k:Nat):Int) old)/\h.IsListIter it l i
theorem turn_enum {P:ko}{w:World}{K:ba}{es:List Expr}{x1}{tp:Pos}(a e it:Addr)(k:Nat)(hei:e≠it):Turn P w K (.Tuple es x1 tp) (Ite K a k) [e,it] e (tnE e it a k) where
 mem:=by simp
 obj:=λi h st b hb=>by
  rcases List.mem_cons.mp hb with rfl | hb
  ·obtain⟨old,he⟩:=st.1;exact⟨_,he,λv z=>by cases z⟩
  ·rw[wt]at hb;subst hb;obtain⟨o,e,c,d⟩:=st.2;exact⟨o,e,λv z=>by rw[d]at z;cases z⟩
 keep:=λi h h' st q=>⟨let ⟨old,he⟩:=st.1;⟨old,q e (by simp) _ he⟩,st.2.at λo z=>q it (by simp) o z⟩
 item:=by
  intro X hP hw hK hc i pins s σ H E I hf st hg;subst hP hw hK;obtain⟨xs,x,hq,hx⟩:=hg;obtain⟨its,rv,p,hz⟩:=I.list hq;obtain⟨u,hu,ru⟩:=rv.get hx;obtain⟨⟨old,he⟩,hit⟩:=st;have hl:s.heap.IsList a its.toArray:=p.isList;have nli:a≠it:=λz=>by
   obtain⟨o1,g1,c1,_⟩:=hl;obtain⟨o2,g2,c2,_⟩:=hit;rw[z,g2]at g1;cases g1;rw[c2]at c1;exact absurd c1 (by decide)
  have nle:a≠e:=λz=>by
   obtain⟨o1,g1,c1,_⟩:=hl;rw[z,show s.heap.get? e=_ from he]at g1
   cases g1;exact absurd (show Value.type "enumerate"=Value.type "list" from c1) (by decide)
  have D:=Draws.shift k (Draws.list (prog:=X.prog) (w:=X.w) (A:=X.A.in1) (I.ok.hd hc) it a nli its.toArray);have hlt:i < its.length:=(List.getElem?_eq_some_iff.mp hu).1;refine wpAny_pyNext_enum_itemD (i:=i+k) D he ⟨i,rfl,hit,hl⟩ (by simp;omega) hei (by simp;exact⟨hei,UU nle⟩) λv h1 tk hv ho hs1 hT hsz hk=>?_
  obtain⟨j,ej,hv⟩:=hv;obtain rfl:j=i:=by omega
  obtain rfl:v=u:=by
   have:its.toArray[j]?=some u:=by simpa using hu
   rw[this]at hv;exact(ra hv).symm
  obtain⟨j2,ej2,st1,_⟩:=hs1;obtain rfl:j2=j+1:=by omega
  refine⟨_,rfl,wpAny_letOwnedTupleGo_enum ho λh2 he2 sb=>?_⟩
  have hel:e < s.heap.objs.size:=kq he;have hil:it < s.heap.objs.size:=by obtain⟨o,g,_⟩:=hit;exact kq g
  have nT:s.heap.objs.size≠e:=Nat.ne_of_gt hel;have kk:∀b o,b≠e->b≠it->s.heap.get? b=some o->h2.get? b=some o:=λb o h1 h2 g=>(sb.2 b h1).trans (hk b o h1 h2 g)
  have hT2:h2.get? s.heap.objs.size=some { cls:=.type "tuple",data:=.seq #[.int ((j+k:Nat):Int) tk,v] }:=(sb.2 _ nT).trans hT;have hf0:H s.heap.objs.size=none:=I.hok.fresh (kg _);have fe:=hf e (by simp)
  have fi:=hf it (by simp)
  have nb:∀b z,H b=some z->b≠s.heap.objs.size:=λb z q y=>by rw[y,hf0]at q;cases q
  have I2:Inv X pins σ (upd H s.heap.objs.size (.tup [.int ((j+k:Nat):Int),x])) { s with heap:=h2,toks:=tk+1 }:=by
   refine I.step (g':=s.gens) (d':=s.drawn) (ch:=[e,it]) (λb hb=>?_) (λb o _ _ hc g _=>kk b o (λz=>hc (by simp[z])) (λz=>hc (by simp[z])) g) (λb o _ _ hc g _=>⟨o.slots,kk b o (λz=>hc (by simp[z])) (λz=>hc (by simp[z])) g⟩)
    (λb o hc g n=>by rw[ax (sr (kq g))];exact n) (λb o hc g=>⟨o,kk b o (λz=>hc (by simp[z])) (λz=>hc (by simp[z])) g⟩)
    (λb ys q=>by rw[ax (nb b _ q)];exact q) (λb o u q=>by rw[ax (nb b _ q)];exact q) (λb ps q=>⟨#[],by rw[ax (nb b _ q),q];simp⟩) (λm hm=>?_) (λb z q=>?_) I.bare
   ·rcases List.mem_cons.mp hb with rfl | hb
    ·exact⟨fe.2.2.2.1,fe.2.1,fe.2.2.2.2.1,fe.2.2.2.2.2⟩
    ·rw[wt]at hb;subst hb;exact⟨fi.2.2.2.1,fi.2.1,fi.2.2.2.2.1,fi.2.2.2.2.2⟩
   ·obtain⟨o,es,ep,ho,r⟩:=hm;exact⟨o,es,ep,kk _ o (UU fe.2.1) (UU fi.2.1) ho,r⟩
   ·by_cases hb:b=s.heap.objs.size
    ·subst hb;rw[af]at q;cases q;exact⟨by show 2<=de;decide,[.int ((j+k:Nat):Int) tk,v],.cons ⟨_,rfl⟩ (.cons ru .nil),⟨_,hT2,rfl,_,rfl⟩⟩
    ·rw[ax hb]at q;refine(I.hok b z q).wY (λc o hc g=>kk c o (λy=>?_) (λy=>?_) g) (λc r=>by rw[ax (nb c _ r)];exact r) λc ys r=>by rw[ax (nb c _ r)];exact r
     ·have n:=fe.1;rw[<-y]at n;rcases hc with rfl | hc
      ·rw[q]at n;cases n
      ·rw[hc]at n;cases n
     ·have n:=fi.1;rw[<-y]at n;rcases hc with rfl | hc
      ·rw[q]at n;cases n
      ·rw[hc]at n;cases n
  refine⟨.ref s.heap.objs.size,_,I2,rfl,⟨_,x,rfl,hf0,rfl,λys hy=>by rw[I.Dw hy hq];exact hx⟩,⟨⟨v,?_⟩,?_⟩,λb hb=>?_⟩
  ·have:((j+1+k:Nat):Int)=((j+k:Nat):Int)+1:=by omega
   rw[this];exact he2
  ·exact st1.at λo z=>(sb.2 it (UU hei)).trans z
  ·rcases List.mem_cons.mp hb with rfl | hb
   ·rw[ax (UU nT)];exact fe.1
   ·rw[wt]at hb;subst hb;rw[ax (sr hil)];exact fi.1
 done:=by
  intro X hP hw hK hc i pins s σ H E I hf st hg;subst hP hw hK;obtain⟨xs,hq,hx⟩:=hg;obtain⟨its,rv,p,hz⟩:=I.list hq;obtain⟨⟨old,he⟩,hit⟩:=st;obtain⟨f0,f1,f2,f3,f4,f5⟩:=hf it (by simp)
  have hl:=rv.length;have hn:its.toArray[i]?=none:=by simp;omega
  have D:Draws X.prog X.w X.A.in1 it [it,a] i (λ_ _=>False) (λj h=>j=i/\h.IsListIter it a i/\h.IsList a its.toArray) :=
   ⟨λ_ _ st=>let ⟨o,g,_⟩:=st.2.1;⟨o,g⟩,λ_ _ _ st q=>⟨st.1,st.2.1.at λo z=>q it (by simp) o z,st.2.2.at λo z=>q a (by simp) o z⟩,λj _ _ _ hj st _=>absurd st.1 (sr hj),λ_ _ _ st hE=>wpAny_nextOf_list_end (I.ok.hd hc) st.2.1 st.2.2 hn hE⟩
  exact wpAny_pyNext_enum_endD D he ⟨rfl,hit,p.isList⟩ λh' eb=>⟨rfl,I.turned (t':=s.toks) (λb o hb e=>eb b o hb e) f0 f1 f3 f4 f5⟩
 self:=λ_ _ _ _ _ st h=>let ⟨_,he⟩:=st.1;wpAny_pyIter_enum he h
section
variable{X:Cx}
def iEnum (K:ba)(k:Nat)(ta:TA):TI:=λσ H R=>ta σ H λvs H1=>∃a,vs=[.ref a]/\(∃xs,SqL K H1 a xs)/\R (Ite K a k) H1
theorem pi_enum {l:Expr}{ta:TA}{es:List Expr}{x1}{tp p kp cp pos:Pos}{k:Nat}{j}(hk:V3 ((k:Nat):Int)=true)(hg:Gl X "enumerate")(hm:X.mg "enumerate"=none)(ha:PA X [l] ta)(hs:om [l] X.env=[(false,eval l X.env)]:=by rfl) :
  PI X (.Tuple es x1 tp) (.Call (.Name "enumerate" p) [l] [⟨some (ar "start"),.Constant (.int ((k:Nat):Int)) j cp,kp⟩] pos) (iEnum X.K k ta):=by
 intro pins s σ H R I h;refine Vf (BD I hg hm PyProof.Rows.boot_enumerate ?_);refine callWith_tyKw (he:=by rw[hs];rfl) (thn (ha pos pins s σ H _ I h) λus s1 ⟨vs,H1,I1,r1,q1⟩=>?_)
 obtain⟨a,rfl,⟨xs,hq⟩,q⟩:=q1;cases r1 with
 |cons r rr =>
  cases rr;cases r;refine PyProof.Rows.kws_cons (wpAny_Constant_int ?_);refine PyProof.Rows.kws_nil ?_;obtain⟨its,rv,p,hz⟩:=I1.list hq;refine call_enumK (s:={ s1 with toks:=s1.toks+1 }) hk p.isList λh' he hit kk=>?_
  refine wpAny_pyIter_enum he ⟨s1.heap.objs.size+1,[s1.heap.objs.size+1,s1.heap.objs.size],tnE _ _ a k,_,H1,rfl,I1.kept (t':=s1.toks+1) kk,turn_enum a _ _ k (Nat.succ_ne_self _),⟨⟨.none,?_⟩,hit⟩,λb hb=>?_,q⟩
  ·rw[Nat.zero_add];exact he
  ·have hb':s1.heap.objs.size<=b:=by
    rcases List.mem_cons.mp hb with rfl | hb
    ·exact VZ _
    ·rw[List.mem_singleton.mp hb];exact kg _
   have I2:Inv X pins σ H1 { s1 with heap:=h',toks:=s1.toks+1 }:=I1.kept kk
   have z:=I1.uz hb' (I1.hok.fresh hb');exact z
end
theorem for_enum {K:ba}{a:Addr}{k:Nat}{xs:List V}{g:TG}{tb:TS}{D:Ends}{σ:St}{H:Hp}(Pv:Nat->St->Hp->Prop)(h0:Pv 0 σ H)(hl:∀i σ H,i<=xs.length->Pv i σ H->SqL K H a xs)
  (hs:∀i x σ H t,xs[i]?=some x->Pv i σ H->H t=none->g (.ref t) σ (upd H t (.tup [.int ((i+k:Nat):Int),x])) λσ2 H2=>tb { D with nx:=Pv (i+1),ct:=Pv (i+1),bk:=D.nx } σ2 H2) (hd:∀σ H,Pv xs.length σ H->D.nx σ H) :
  ∃W:Nat->Nat->St->Hp->Prop,(∃m,W 0 m σ H)/\∀i m σ H,W i m σ H ->
   ((Ite K a k).stop i H/\D.nx σ H)\/((Ite K a k).go i H/\∃N:St->Hp->Prop,(∀σ' H',N σ' H'->∃m',m' < m/\W (i+1) m' σ' H')/\∀x H',(Ite K a k).yld i H x H'->g x σ H' λσ2 H2=>tb { D with nx:=N,ct:=N,bk:=D.nx } σ2 H2):=by
 refine⟨λi m σ H=>m=xs.length - i/\i<=xs.length/\Pv i σ H,⟨xs.length,by simp,Vg _,h0⟩,?_⟩
 rintro i m σ H ⟨rfl,hi,p⟩;have q:=hl i σ H hi p
 by_cases hlt:i < xs.length
 ·refine .inr ⟨⟨xs,xs[i],q,by simp[hlt]⟩,Pv (i+1),λσ' H' p'=>⟨xs.length - (i+1),by omega,rfl,hlt,p'⟩,λx H' y=>?_⟩
  obtain⟨t,x,rfl,ht,rfl,y⟩:=y;exact hs i x σ H t (y xs q) p ht
 ·have e:i=xs.length:=by omega
  subst e;exact .inl ⟨⟨xs,q,kg _⟩,hd σ H p⟩
abbrev clr (A:Around):Around:={ A with handled:=none }
structure FnOkH (P:ko)(w:World)(K:ba)(mg:Str->Option Value)(base:Heap)(k:Nat)(f:Addr)(fd:gn)(ps:List Str)(sp:Sp):Prop where
 len:∀vs H Q E,sp vs H Q E->vs.length=ps.length
 run:∀(A:Around) (outer:List Env) (s:Shared) (H:Hp) (args:Args) (us:List Value) (vs:List V) (Q:VK) (E:XK),Room k (clr A)->sP P w K mg base A outer s H->BindsTo s fd args (ps.zip us)->Vals vs us->sp vs H Q E ->
  codeAny (model P w) A (.call (.ref f) args) (CR CX0 outer P w H s Q E) s
abbrev cxH (P:ko)(w:World)(K:ba)(mg:Str->Option Value)(base:Heap)(N:List Str)(qual:Str)(scope:Scope)(f:Addr)(cd:Value)(A:Around)(outer:List Env)(s:Shared)(H:Hp)(E:XK):Cx:={ bh CX0 P w K mg base N qual scope f cd A outer s H E with calm:=false }
section
variable{P:ko}{w:World}{K:ba}{mg:Str->Option Value}{base:Heap}
theorem inv_starh {N ps:List Str}{qual:Str}{scope:Scope}{f:Addr}{cd:Value}{A:Around}{outer:List Env}{s s1:Shared}{H:Hp}{E:XK}{us:List Value}{vs:List V}
  (S:ay N ps scope) (e0:sP P w K mg base A outer s H) (hl:vs.length=ps.length) (r:Vals vs us)
  (x:InCallC s s.heap.objs.size (bindL (envOfC qual scope s.heap.objs.size f cd).kindOf (ps.zip us) λ_=>none) (cellsFrom (s.heap.objs.size+1) scope.names []) (bindC (envOfC qual scope s.heap.objs.size f cd).kindOf (ps.zip us) λ_=>none) s1) :
  Inv (cxH P w K mg base N qual scope f cd A outer s H E) [] (start N vs) H s1:=by
 have I:=AY (CX:=CX0) (A:=clr A) (E:=E) S rfl (⟨e0.frames,e0.mod,e0.bs,e0.bsz,e0.jJ,e0.frf,e0.hok,e0.bare⟩:sP P w K mg base (clr A) outer s H) hl r x;exact⟨⟨I.ok.mod,I.ok.kind,I.ok.glob,I.ok.blt,I.ok.above,I.ok.inj,I.ok.has,I.ok.cab,λz=>absurd (show false=true from z) gr,Around.frames_deeper e0.frames,I.ok.stk,I.ok.exf,I.ok.bs,I.ok.bsz,I.ok.sL,I.ok.sM,I.ok.jJ,I.ok.frf⟩,I.os,I.bare,I.base,I.loc,I.cell,I.free,I.f9,I.pin,I.hok,I.len⟩
theorem Fun.okH {x qual:Str}{st:Stmt}{f:Addr}{fd:gn}{N ps:List Str}{k:Nat}{sp:Sp}(F:Fun K x qual st f fd)(S:ay N ps (ai st))(len:∀vs H Q E,sp vs H Q E->vs.length=ps.length)
  (sQ:∀(cdv:Value) (A:Around) (outer:List Env) (s:Shared) (H:Hp) (vs:List V) (Q:VK) (E:XK),Room k ((clr A).deeper (envOfC qual (ai st) s.heap.objs.size f cdv))->sp vs H Q E ->
   ∃t,PSs (cxH P w K mg base N qual (ai st) f cdv A outer s H E).nox (jN st) t/\t { nx:=λ_ H'=>Q .non H',rt:=Q } (start N vs) H):FnOkH P w K mg base (k+1) f fd ps sp:=by
 obtain⟨oc,od,kV,doc,pm,an,cdv,ct,osl,rfl,lk,hcd⟩:=F.ex;refine⟨len,λA outer s H args us vs Q E hr e0 hb r hsp=>?_⟩
 have hl:=len _ _ _ _ hsp;have KX:K.In s.heap:=e0.mod.kin.keeps λb o e=>(e0.bs b o e).1
 have lim:s.heap.NoLimit:=e0.mod.nolimit.keeps λb o e=>(e0.bs b o e).1
 have JM:∀y∈ps.zip us,(ai st).names.lookup y.1=some .local\/((ai st).names.lookup y.1=some .cell/\((cellsFrom (s.heap.objs.size+1) (ai st).names []).lookup y.1).isSome=true):=λ⟨n,v⟩ hy=>by
  rcases S.par n (List.of_mem_zip hy).1 with q | q
  ·exact .inl q
  ·exact .inr ⟨q,PySem.W.cellsFrom_some _ _ _ (.inl q)⟩
 refine codeAny_call_function (show A.depth < recursionLimit from hr.depth) (KX _ _ lk) rfl S.co S.gen rfl (PySem.W.codeRec_of KX hcd) (hb _ _ _ _ ?_)
 refine wpAny_newFunctionEnv_cells S.kind JM λenv he s1 x=>?_
 subst he;refine⟨lim.keeps x.toInCall.keep,codeAny_func ?_⟩;obtain⟨t,ht,hq⟩:=sQ cdv A outer s H vs Q E (hr.deeper _) hsp;have I:Inv (cxH P w K mg base N qual (ai st) f cdv A outer s H E) [] (start N vs) H s1:=inv_starh S e0 hl r x;refine ki (ht [] s1 (start N vs) H _ (I.gN _) hq) (λfl s' hs=>?_) λe s' hs=>wa hs
 have hs:=hs.ck;cases fl with
 |ret u =>
  obtain⟨v,σ',H',J,rv,q⟩:=hs;exact⟨v,H',J.os,J.bare,J.base,J.hok,rv,q⟩
 |next =>
  obtain⟨σ',H',J,q⟩:=hs;exact⟨V.non,H',J.os,J.bare,J.base,J.hok,rfl,q⟩
 |brk =>
  obtain⟨_,_,_,q⟩:=hs;exact wa q
 |cont =>
  obtain⟨_,_,_,q⟩:=hs;exact wa q
end
section
variable{prog:ko}{w:World}{A:Around}{E:Value->Shared->Prop}
variable{nm q:Str}{C N:Addr}{bs bm:List Value}{hdct:Bool}{sn:List Str}{sub:List Value}{ab:Bool}{col:Option Bool}{dd:Option Addr}{k0 k1 k2 k3 k5:Option Value}{nid:String}
theorem entry_unchain:entryFor table "proto.unchain"=some Wz.«proto.unchain»:=entryFor_of_tree (by kernel_rfl)
theorem raise_objF {env:Env}{s:Shared}{x c:Sem Value}{Q:Flow->Shared->Prop}{ea:Addr}(sT:bm.contains (.type "BaseException")=true)(hh:A.handled=some (.ref ea))
  (hc:∀(s:Shared) (R:Value->Shared->Prop),R .none s->wpAny (model prog w) A c R E s)
  (hx:wpAny (model prog w) A x (λv s₁=>∃(e:Addr) (xd:Option Addr) (a0:Value),v=.ref e/\e≠ea/\s₁.heap.get? C=some (Vm nm q C N bs bm hdct sn sub ab col dd k0 k1 k2 k3 k5 nid) /\
   s₁.heap.get? e=some ⟨.ref C,xd,.fields #[a0,.none,.none,.none,.bool false,.none],#[]⟩/\(∃(cl:Value) (d2:Option Addr) (vs:Array Value) (sl:Array (Option Value)),s₁.heap.get? ea=some ⟨cl,d2,.fields vs,sl⟩/\vs[2]?=some .none) /\
   ∀h',(∀b o,b≠e->s₁.heap.get? b=some o->h'.get? b=some o)->h'.get? e=some ⟨.ref C,xd,.fields #[a0,.none,.ref ea,.none,.bool true,.none],#[]⟩->E (.ref e) { s₁ with heap:=h' }) E s) :
  wpAny (model prog w) A (raiseStmt env (some x) (some c)) Q E s:=by
 have top:(ky C::bm).contains (.type "BaseException")=true:=by rw[List.contains_cons,sT,Bool.or_true]
 unfold raiseStmt;refine cb (ki hx (λv s₁ h₁=>?_) λ_ _ z=>z)
 obtain⟨e,xd,a0,rfl,ne,kC,kE,⟨cl,d2,vs,sl,kH,h2⟩,fin⟩:=h₁;obtain⟨hp,g',d',tk,os'⟩:=s₁;dsimp only;refine cb (Vd (hc _ _ ?_))
 repeat (first | with_reducible refine Vi kE ?_ | with_reducible refine Vi kC ?_ | (with_reducible refine wpAny_isSubtype_exc kC ?_;rw[top]) | wp_step)
 have nC:C≠e:=λz=>by
  subst z;have:some (Vm nm q C N bs bm hdct sn sub ab col dd k0 k1 k2 k3 k5 nid)=some _:=kC.symm.trans kE;cases this
 generalize hg:(hp.update e (Vl λx=>x.setIfInBounds 3 Vx)).update e (Vl λx=>x.setIfInBounds 4 (VW true))=hq
 have oth:∀b,b≠e->hq.get? b=hp.get? b:=λb hb=>by rw[<-hg,U6 _ _ (UU hb),U6 _ _ (UU hb)]
 have kE1:(hp.update e (Vl λx=>x.setIfInBounds 3 Vx)).get? e=some ⟨.ref C,xd,.fields #[a0,.none,.none,.none,.bool false,.none],#[]⟩:=(Ve _ kE rfl).trans rfl
 have kE2:hq.get? e=some ⟨.ref C,xd,.fields #[a0,.none,.none,.none,.bool true,.none],#[]⟩:=by rw[<-hg];exact(Ve _ kE1 rfl).trans rfl
 have kC2:(⟨hq,g',d',tk,os'⟩:Shared).heap.get? C=_:=(oth C nC).trans kC;refine Vi kC2 ?_;refine ka ?_;rw[if_pos (show ((Vm nm q C N bs bm hdct sn sub ab col dd k0 k1 k2 k3 k5 nid).cls == Value.type "type")=true from by simp[Vm])]
 refine ka ?_;unfold setFlight;refine cb (cb (Vw kE2 rfl (x:=.none) rfl ?_));rw[if_neg (by decide)]
 refine ka ?_;unfold raiseNew;refine cb (wpAny_handled ?_);rw[hh];dsimp only;rw[if_pos (show (ky ea != ky e)=true by simp;exactλz=>ne z.symm)]
 have kH2:(⟨hq,g',d',tk,os'⟩:Shared).heap.get? ea=some ⟨cl,d2,.fields vs,sl⟩:=(oth ea (UU ne)).trans kH;refine cb (Vd (wpAny_runValue (codeAny_builtin entry_unchain ?_)));unfold Wz.«proto.unchain»;dsimp only;refine cb (Vw kH2 rfl h2 ?_);rw[if_pos (by decide)]
 repeat (first | wp_step)
 exact fin _ (λb o hb g=>(U6 _ _ (UU hb)).trans ((oth b hb).trans g)) ((Ve _ kE2 rfl).trans rfl)
end
section
variable{X:Cx}{pins:List (Addr×Obj)}{σ:St}{H:Hp}{s:Shared}{b:Bool}
theorem xc_in (I:Inv X pins σ H s)(b:Bool):Inv { X with xc:=b } pins σ H s :=
 ⟨⟨I.ok.mod,I.ok.kind,I.ok.glob,I.ok.blt,I.ok.above,I.ok.inj,I.ok.has,I.ok.cab,I.ok.hd,I.ok.frames,I.ok.stk,I.ok.exf,I.ok.bs,I.ok.bsz,I.ok.sL,I.ok.sM,I.ok.jJ,I.ok.frf⟩,I.os,I.bare,I.base,I.loc,I.cell,I.free,I.f9,I.pin,I.hok,I.len⟩
theorem xc_out (I:Inv { X with xc:=b } pins σ H s):Inv X pins σ H s :=
 ⟨⟨I.ok.mod,I.ok.kind,I.ok.glob,I.ok.blt,I.ok.above,I.ok.inj,I.ok.has,I.ok.cab,I.ok.hd,I.ok.frames,I.ok.stk,I.ok.exf,I.ok.bs,I.ok.bsz,I.ok.sL,I.ok.sM,I.ok.jJ,I.ok.frf⟩,I.os,I.bare,I.base,I.loc,I.cell,I.free,I.f9,I.pin,I.hok,I.len⟩
theorem sp_out {D:Ends}{f:Flow}(h:SP { X with xc:=b } pins D f s):SP X pins D f s:=by
 cases f with
 |next=>obtain⟨σ',H',I',q⟩:=h;exact⟨σ',H',xc_out I',q⟩
 |brk=>obtain⟨σ',H',I',q⟩:=h;exact⟨σ',H',xc_out I',q⟩
 |cont=>obtain⟨σ',H',I',q⟩:=h;exact⟨σ',H',xc_out I',q⟩
 |ret u=>obtain⟨v,σ',H',I',r,q⟩:=h;exact⟨v,σ',H',xc_out I',r,q⟩
theorem xf_in (I:Inv X pins σ H s)(b n:Bool):Inv { X with xc:=b,xn:=n } pins σ H s :=
 ⟨⟨I.ok.mod,I.ok.kind,I.ok.glob,I.ok.blt,I.ok.above,I.ok.inj,I.ok.has,I.ok.cab,I.ok.hd,I.ok.frames,I.ok.stk,I.ok.exf,I.ok.bs,I.ok.bsz,I.ok.sL,I.ok.sM,I.ok.jJ,I.ok.frf⟩,I.os,I.bare,I.base,I.loc,I.cell,I.free,I.f9,I.pin,I.hok,I.len⟩
theorem xf_out {n:Bool}(I:Inv { X with xc:=b,xn:=n } pins σ H s):Inv X pins σ H s :=
 ⟨⟨I.ok.mod,I.ok.kind,I.ok.glob,I.ok.blt,I.ok.above,I.ok.inj,I.ok.has,I.ok.cab,I.ok.hd,I.ok.frames,I.ok.stk,I.ok.exf,I.ok.bs,I.ok.bsz,I.ok.sL,I.ok.sM,I.ok.jJ,I.ok.frf⟩,I.os,I.bare,I.base,I.loc,I.cell,I.free,I.f9,I.pin,I.hok,I.len⟩
theorem sp_outf {n:Bool}{D:Ends}{f:Flow}(h:SP { X with xc:=b,xn:=n } pins D f s):SP X pins D f s:=by
 cases f with
 |next=>obtain⟨σ',H',I',q⟩:=h;exact⟨σ',H',xf_out I',q⟩
 |brk=>obtain⟨σ',H',I',q⟩:=h;exact⟨σ',H',xf_out I',q⟩
 |cont=>obtain⟨σ',H',I',q⟩:=h;exact⟨σ',H',xf_out I',q⟩
 |ret u=>obtain⟨v,σ',H',I',r,q⟩:=h;exact⟨v,σ',H',xf_out I',r,q⟩
theorem XAt.xc {h:Heap}{e:Addr}{cls:Value}{xd:Option Addr}{m:Option Value}(x:XAt { X with xc:=true } pins H h e cls xd m):XAt X pins H h e cls xd m:=by
 obtain⟨ok,sl,vs,he,hz,hm⟩:=x;refine⟨ok,sl,vs,he,⟨hz.sz,λ_=>hz.cx rfl,λ_=>.inl (hz.cx rfl)⟩,?_⟩
 cases m with
 |none=>exact hm
 |some m=>exact hm
theorem came_x {E:SXK}{v:Value}{hv:Option Value}(F:Fr1 X)(fr:X.A.frames=some X.stack)(h:XPS X pins E v s):notedBy (model X.prog X.w) (X.A.mark hv) X.env (λx s2=>cameBackBy (model X.prog X.w) X.A X.env (XPS X pins E) x s2) v s:=by
 obtain⟨σ',ea,cls,xd,m,H',rfl,I,hx,hm,q⟩:=h;refine l5 F fr I hx hm λs1 I1 x1=>?_
 unfold cameBackBy;obtain⟨ok,sl,vs,he,hz,T,oT,ts,h1,r⟩:=id x1;refine cb (Vw he rfl h1 ?_);rw[if_neg (show ¬((ky T == Vx)=true) by simp)]
 have step:wpAny (model X.prog X.w) X.A (setFlight (.ref ea) X.env.frame) (λ_ s''=>XPS X pins E (.ref ea) s'') (XPS X pins E) s1 :=
  dG I1 x1 λs2 I2 x2=>⟨σ',ea,cls,xd,_,H',rfl,I2,x2,by rw[F.fr];exact .inr (.inr ⟨_,rfl⟩),q⟩
 first
  |exact step
  |exact cb (ka step)
end
def PHX2 (X:Cx)(hs:List ExceptHandler)(t:THX):Prop :=
 ∀(pins:List (Addr×Obj)) (s:Shared) (σ:St) (H:Hp) (D:Ends) (E:SXK) (ea:Addr) (cls:Value) (xd:Option Addr),Inv X pins σ H s->XAt { X with xc:=true } pins H s.heap ea cls xd (some .none)->t D E σ cls xd H ->
  wpAny (model X.prog X.w) X.A (handleBy (.ref ea) X.env hs) (SP X pins D) (XPS X pins E) s
def hFrom (K:ba)(C D:Addr)(name:Str)(ta:TA)(tr:THX):THX:=λDn E σ cls xd H=>∃b,kj K cls (.ref C)=some b/\if b=true then ta σ H (λvs H1=>∃v,vs=[v]/\(∃z,sY v z/\z.length<=10000)/\∀d,H1 d=none->E σ (.ref D) (some d) (upd H1 d (.xd [(name,v)]))) else tr Dn E σ cls xd H
section
variable{X:Cx}{x y name:Str}{C D f:Addr}{np yp cp kp rp pos:Pos}{j}{e₀:Expr}{rest:List ExceptHandler}{ta:TA}{tr:THX}{fd:gn}{ps:List Str}{k:Nat}
theorem phx2_nil (F:Fr1 X):PHX2 X [] (λ_ E σ cls xd H=>E σ cls xd H):=λpins s σ H D E ea cls xd I hx h=>xS F pins s σ H D E ea cls xd I hx.xc h
theorem psx_tryB {body:List Stmt}{h₀:ExceptHandler}{hs:List ExceptHandler}{tb:TSX}{th:THX}(F:Fr1 X)(hb:w4 { X with xc:=true } body tb)(hh:PHX2 X (h₀::hs) th) :
  PSX X (.Try body (h₀::hs) [] [] pos) (A2 tb th):=by
 intro pins s σ H D E I h;unfold A2 at h;refine wpAny_Try_except (ki (hb pins s σ H D _ (xc_in I true) h) (λf s1 q=>?_) (λv s1 q=>?_))
 ·have q:=sp_out q;cases f with
  |next=>exact wpAny_execs_nil q
  |ret v=>exact q
  |brk=>exact q
  |cont=>exact q
 ·obtain⟨σ',ea,cls,xd,m,H',rfl,I1,hx,hm,q⟩:=q;exact l5 (X:={ X with xc:=true }) ⟨F.stk,F.fr⟩ I1.ok.frames I1 hx hm λs2 I2 x2=>dG I2 x2 λs3 I3 x3=>hh pins s3 σ' H' D E ea cls xd (xc_out I3) x3 q
theorem phx_from (nx:X.xc=false)(F1:Fr1 X)(xk:ri X.K D f name)(F:FnOkH X.prog X.w X.K X.mg X.base k f fd ps (uH D name))(hr:Room (k+1) X.A)(hb:Binds X.K fd ps [])(hg:Gl X x)(hm:X.mg x=some (.ref C))(hg2:Gl X y)(hm2:X.mg y=some (.ref D))
  (ha:∀e,PA (hcx X e).nox [e₀] ta) (G5:PHX2 X rest tr) (hd:(x == ("__debug__":Str))=false:=by decide) (hd2:(y == ("__debug__":Str))=false:=by decide) (hst:om [e₀] X.env=[(false,eval e₀ X.env)]:=by rfl) :
  PHX2 X (.ExceptHandler (some (.Name x np)) none [.Raise (some (.Call (.Name y yp) [e₀] [] cp)) (some (.Constant .none j kp)) rp] pos::rest) (hFrom X.K C D name ta tr):=by
 intro pins s σ H D' E ea cls xd I hx h;unfold hFrom at h;obtain⟨b,eb,h⟩:=h;refine wpAny_handleBy_cons (codeAny_handlers_test (GX I hx.xc hg hm eb ?_ hd)) (by intro q;cases q)
 cases b with
 |false=>exact G5 pins s σ H D' E ea cls xd I hx h
 |true =>
  refine codeAny_handlers_suite (dG (X:={ X with xc:=true }) (xc_in I true) hx λs1 I1 x1=>?_)
  refine wpAny_execs_cons (ki (Q:=λ_ _=>False) (E:=XPS X pins E) ?_ (λ_ _ z=>z.elim) λv s' z=>came_x F1 I.ok.frames z)
  obtain⟨ok,sl,vs,he,hz,hmk⟩:=x1;have I1:=xc_out I1;have Ip:Inv X (pins++[(ea,⟨cls,xd,.fields vs,sl⟩)]) σ H s1:=I1.pK λp hp=>by
   rcases List.mem_append.mp hp with z | z
   ·exact I1.pin p (di _ z)
   ·rw[wt]at z;subst z;exact⟨he,ok.1,ok.2.1,ok.2.2.1,λv z=>by cases z⟩
  obtain⟨nm,qn,N,bs,bm,hdct,sn,sub,ab,col,dd,k0,k1,k2,k3,k5,l,T,hdd,hi⟩:=xk.ex;have hbx:bm.contains (.type "BaseException")=true:=(T.tail I.kIn).hasType (b:=true) (by trivial)
  rw[arm_exec_Raise];refine cb (Va ?_);refine raise_objF (ea:=ea) (C:=D) (nm:=nm) (q:=qn) (N:=N) (bs:=bs) (bm:=bm) (hdct:=hdct) (sn:=sn) (sub:=sub) (ab:=ab) (col:=col) (dd:=dd) (k0:=k0) (k1:=k1) (k2:=k2) (k3:=k3) (k5:=k5) (nid:="ValueError.__new__") hbx rfl (λs R hR=>cb (Constant_none (cb (Va (ka hR))))) ?_
  have Ih:Inv (hcx X ea) (pins++[(ea,⟨cls,xd,.fields vs,sl⟩)]) σ H s1:=yo Ip ea;refine cb (ki (Q:=λv s₁=>∃(e:Addr) (xd2:Option Addr) (a0:Value),v=.ref e/\e≠ea/\s₁.heap.get? D=some (Vm nm qn D N bs bm hdct sn sub ab col dd k0 k1 k2 k3 k5 "ValueError.__new__") /\
   s₁.heap.get? e=some ⟨.ref D,xd2,.fields #[a0,.none,.none,.none,.bool false,.none],#[]⟩/\(∃(cl:Value) (d2:Option Addr) (vs:Array Value) (sl:Array (Option Value)),s₁.heap.get? ea=some ⟨cl,d2,.fields vs,sl⟩/\vs[2]?=some .none) /\
   ∀h',(∀b o,b≠e->s₁.heap.get? b=some o->h'.get? b=some o)->h'.get? e=some ⟨.ref D,xd2,.fields #[a0,.none,.ref ea,.none,.bool true,.none],#[]⟩->XPS X pins E (.ref e) { s₁ with heap:=h' }) (E:=XPS X pins E) ?_ (λv s₂ z=>cb (Va (ka z))) λ_ _ z=>z)
  refine Vf (eN Ih hg2 hm2 ?_ hd2);unfold Wb;rw[show (hcx X ea).env=X.env from rfl,hst]
  refine cb (Vd (Wj ?_));have ha':=ha ea cp _ s1 σ H _ (Ih.gN _) h;rw[show (hcx X ea).nox.env=X.env from rfl,hst]at ha'
  refine ki ha' (λus s₂ ⟨ws,H1,I2,r,v,hvs,hv,q1⟩=>cb (Va ?_)) λ_ _ z=>wa z
  subst hvs;obtain⟨u,rfl,rv⟩:=Vals.one r;have I2':=I2.ck;have kC:=I2'.kIn _ _ l;have pl:(backTo cp [(false,eval e₀ X.env)]).any (·.1)=false:=rfl
  have Pl:ps.length=2:=(F.len [V.ref 0,v] (upd H 0 (xi 0 D none)) (λ_ _=>True) E0 ⟨0,v,rfl,af,hv,λ_ _=>trivial⟩).symm
  have z:=hr.make D [u] [];have fin:=rj (X:=hcx X ea) (E:=XPS X pins E) (Q:=λv s₁=>∃(e:Addr) (xd2:Option Addr) (a0:Value),v=.ref e/\e≠ea/\s₁.heap.get? D=some (Vm nm qn D N bs bm hdct sn sub ab col dd k0 k1 k2 k3 k5 "ValueError.__new__") /\
   s₁.heap.get? e=some ⟨.ref D,xd2,.fields #[a0,.none,.none,.none,.bool false,.none],#[]⟩/\(∃(cl:Value) (d2:Option Addr) (vs:Array Value) (sl:Array (Option Value)),s₁.heap.get? ea=some ⟨cl,d2,.fields vs,sl⟩/\vs[2]?=some .none) /\
   ∀h',(∀b o,b≠e->s₁.heap.get? b=some o->h'.get? b=some o)->h'.get? e=some ⟨.ref D,xd2,.fields #[a0,.none,.ref ea,.none,.bool true,.none],#[]⟩->XPS X pins E (.ref e) { s₁ with heap:=h' }) xk Pl (λs H us vs Q e0 b r sp=>F.run _ _ s H ⟨us,[]⟩ us vs Q E0 ⟨rfl,z.dp,z.un,z.gd⟩ e0 b r sp) hb I2' rv hv λe d a0 s' hd1 I3 fp ke=>by
    have pea:=I3.pin (ea,⟨cls,xd,.fields vs,sl⟩) (di _ (di _ (List.mem_singleton.mpr rfl)));have hea:=pea.1;have ne:e≠ea:=λy=>fp.2.2.2.2.2 (ea,⟨cls,xd,.fields vs,sl⟩) (di _ (di _ (List.mem_singleton.mpr rfl))) y.symm
    refine⟨e,some d,a0,rfl,ne,I3.kIn _ _ l,ke,⟨cls,xd,vs,sl,hea,hz.cx rfl⟩,λh' kk ke'=>?_⟩
    have I4:Inv X pins σ (upd H1 d (.xd [(name,v)])) s':=(g9 Ip.ok I3).cP;have fp':dh X pins (upd H1 d (.xd [(name,v)])) e:=dh.drop (X:=X) (pl:=[(ea,⟨cls,xd,.fields vs,sl⟩)]) fp;have I5:Inv X pins σ (upd H1 d (.xd [(name,v)])) { s' with heap:=h' }:=I4.turned (t':=s'.toks) kk fp'.1 fp'.2.1 fp'.2.2.2.1 fp'.2.2.2.2.1 fp'.2.2.2.2.2
    exact⟨σ,e,.ref D,some d,none,_,rfl,I5,⟨fp',_,_,ke',⟨by show 1 < 6;decide,λc=>absurd (nx.symm.trans c) gr,λ_=>.inr ⟨ea,_,vs,rfl,UU ne,⟨pea.2.1,ok.2⟩,kk ea _ (UU ne) hea,rfl,hz.cx rfl⟩⟩,rfl⟩,.inl rfl,q1 d hd1⟩
  obtain⟨hp,g',d',tk,os'⟩:=s₂;simp only[pl];refine cb (wpAny_keeperOf_exc kC ?_);exact cb (ki fin (λv s2 z=>cb (Vd (wpAny_point (ka z)))) λ_ _ z=>z)
end
section
variable{P:ko}{w:World}{K:ba}{mg:Str->Option Value}{base:Heap}
abbrev cxB (n:Bool)(P:ko)(w:World)(K:ba)(mg:Str->Option Value)(base:Heap)(N:List Str)(qual:Str)(scope:Scope)(f:Addr)(cd:Value)(A:Around)(outer:List Env)(s:Shared)(H:Hp)(E:XK):Cx:={ bh (CXG false n P w) P w K mg base N qual scope f cd A outer s H E with xc:=false,xn:=n }
theorem leave_xB {n:Bool}{N:List Str}{qual:Str}{scope:Scope}{f:Addr}{cd:Value}{A:Around}{outer:List Env}{s s':Shared}{H:Hp}{E:XK}{e:Value}{pins:List (Addr×Obj)}
  (h:XPS (cxB n P w K mg base N qual scope f cd A outer s H E) pins (λ_=>E) e s'):(bh (CXG false n P w) P w K mg base N qual scope f cd A outer s H E).xe e s':=by
 obtain⟨σ',ea,cls,xd,m,H',rfl,I,hx,hm,q⟩:=h;have F1:Fr1 (cxB n P w K mg base N qual scope f cd A outer s H E):=⟨rfl,rfl⟩;show wpAny _ _ (leaving (cxB n P w K mg base N qual scope f cd A outer s H E).env (.ref ea)) _ _ s';unfold leaving;refine cb (l5 F1 I.ok.frames I hx hm λs1 I1 x1=>dG I1 x1 λs2 I2 x2=>?_)
 obtain⟨ok,sl,vs,he,hz,T,oT,ts,h1,nT,fT,hT,hd,h3⟩:=x2;have old:∀ {b:Addr},dh (cxB n P w K mg base N qual scope f cd A outer s H E) pins H' b->s.heap.objs.size<=b:=λ{b} z=>by
  rcases z.2.2.2.1 with y | y
  ·exact absurd (show b∈([]:List Addr) from y) (by simp)
  ·exact y
 exact⟨ea,T,cls,xd,H',rfl,I2.os,I2.bare,I2.base,I2.hok,⟨ok.1,old ok⟩,⟨fT.1,old fT⟩,nT,⟨sl,vs,oT,ts,he,⟨hz.sz,(λz=>nomatch z),λz=>(hz.c1 z).imp id λ⟨c,oc,ws,y,ne,f,r⟩=>⟨c,oc,ws,y,ne,⟨f.1,old f⟩,r⟩⟩,h1,hT,hd,h3⟩,q⟩
theorem Fun.okXB {n:Bool}{x qual:Str}{st:Stmt}{f:Addr}{fd:gn}{N ps:List Str}{k:Nat}{sp:Sp}(F:Fun K x qual st f fd)(S:ay N ps (ai st))(len:∀vs H Q E,sp vs H Q E->vs.length=ps.length)
  (sQ:∀(cdv:Value) (A:Around) (outer:List Env) (s:Shared) (H:Hp) (vs:List V) (Q:VK) (E:XK),Room k (A.deeper (envOfC qual (ai st) s.heap.objs.size f cdv))->sp vs H Q E ->
   ∃t,w4 (cxB n P w K mg base N qual (ai st) f cdv A outer s H E) (jN st) t/\t { nx:=λ_ H'=>Q .non H',rt:=Q } (λ_=>E) (start N vs) H):FnOk P w K mg base (CXG false n P w) (k+1) f fd ps sp:=by
 obtain⟨oc,od,kV,doc,pm,an,cdv,ct,osl,rfl,lk,hcd⟩:=F.ex;refine JL lk hcd S len λA outer s H vs Q E hr hsp=>?_
 obtain⟨t,h,q⟩:=sQ cdv A outer s H vs Q E hr hsp;exact⟨λD σ H=>t D (λ_=>E) σ H,λpins s1 σ H1 D I hw=>ki (h pins s1 σ H1 D _ (xf_in I false n) hw) (λ_ _ z=>sp_outf z) λ_ _ z=>leave_xB z,q⟩
theorem FnOk.calmB {b n:Bool}{k:Nat}{f:Addr}{fd:gn}{ps:List Str}{sp:Sp}(F:FnOk P w K mg base (CXG b n P w) k f fd ps sp)(h:∀vs H Q E,sp vs H Q E->sp vs H Q E0):FnOk P w K mg base CX0 k f fd ps sp:=by
 refine⟨F.len,λA outer s H args us vs Q E hr he hb hv hs=>VS (F.run A outer s H args us vs Q E0 hr he hb hv (h _ _ _ _ hs)) λr s' q=>?_⟩
 cases r with
 |error e=>obtain⟨_,_,_,_,_,_,_,_,_,_,_,_,_,_,z⟩:=q;exact z.elim
 |ok fl=>cases fl <;> exact q
end
section
variable{X:Cx}{k:Nat}{f:Addr}{fd:gn}{ps:List Str}{sp:Sp}{x:Str}{p pos:Pos}{e:Expr}{es:List Expr}{t:TAX}{b n:Bool}
theorem run_fnXB {pins:List (Addr×Obj)}{σ:St}{H:Hp}{s:Shared}{Q:VK}{E:XK}{us:List Value}{vs:List V}(nx:X.xc=false)(F:FnOk X.prog X.w X.K X.mg X.base (CXG b n X.prog X.w) k f fd ps sp)(hr:Room k X.A)(hb:Binds X.K fd ps [])
  (I:Inv X pins σ H s) (r:Vals vs us) (h:sp vs H Q E) (hn:X.xn=false->n=false):wpAny (model X.prog X.w) X.A (call (.ref f) us) (EP X pins σ Q) (XP X pins σ E) s:=by
 have hl:(us++[]).length=ps.length:=by rw[VH,<-r.length];exact F.len _ _ _ _ h
 have bb:=hb s us I.kIn hl;rw[VH]at bb;refine V1 (VS (F.run X.A X.stack s H ⟨us,[]⟩ us vs Q E hr I.JJ bb r h) λr s' hq=>?_)
 cases r with
 |error e=>exact J9 (λz=>absurd (nx.symm.trans z) gr) I hq hn
 |ok fl =>
  cases fl with
  |ret u=>exact I.after hq
  |next=>exact wa hq
  |brk=>exact wa hq
  |cont=>exact wa hq
theorem pe_callXB (nx:X.xc=false)(F:FnOk X.prog X.w X.K X.mg X.base (CXG b n X.prog X.w) k f fd ps sp)(hr:Room k X.A)(hg:Gl X x)(hm:X.mg x=some (.ref f))(hk:Wa X.K (.ref f)=true)(hb:Binds X.K fd ps [])(ha:PAX X (e::es) t)(hn:X.xn=false->n=false:=by first | exactλ_=>rfl | (intro z;cases z))
  (hdb:(x == ("__debug__":Str))=false:=by decide) (he:om (e::es) X.env=(false,eval e X.env)::om es X.env:=by rfl) (hpl:(backTo pos (om es X.env)).any (·.1)=false:=by rfl) :
  PEX X (.Call (.Name x p) (e::es) [] pos) (BO t sp):=by
 intro pins s σ H Q E I h;unfold BO at h;refine Vf (eN I hg hm ?_ hdb);exact VX (h₀:=X.base) I.ok.mod.kin hk (thn (ha pos pins s σ H _ E I h) λus s1 ⟨vs,H1,I1,r,q⟩=>⟨I1.kIn,run_fnXB nx F hr hb I1 r q hn⟩) he hpl
end
section
variable{X:Cx}{pins:List (Addr×Obj)}{σ:St}{H:Hp}{s:Shared}{e:Addr}
theorem track_ext {φ:Heap->Prop}{o:Obj}(I:Inv X pins σ H s)(ok:dh X pins H e)(he:s.heap.get? e=some o)(hp:φ s.heap)(st:∀h1 h2:Heap,φ h1->(∀o,h1.get? e=some o->h2.get? e=some o)->φ h2):Inv X pins σ (upd H e (.ext φ)) s:=by
 have nb:∀b u,H b=some u->b≠e:=λb u q z=>by rw[z,ok.1]at q;cases q
 have hk:HOk X.prog X.w (upd H e (.ext φ)) s.heap:=λb u q=>by
  by_cases hb:b=e
  ·subst hb;rw[af]at q;cases q;exact⟨hp,⟨_,he⟩,st⟩
  ·rw[ax hb]at q;exact(I.hok b u q).wY (λc v _ r=>r) (λc r=>by rw[ax (nb c _ r)];exact r) λc xs r=>by rw[ax (nb c _ r)];exact r
 exact I.step (g':=s.gens) (t':=s.toks) (d':=s.drawn) (h':=s.heap) (ch:=[e]) (λb hb=>by
   obtain rfl:b=e:=by simpa using hb
   exact⟨ok.2.2.2.1,ok.2.1,ok.2.2.2.2.1,ok.2.2.2.2.2⟩)
  (λ_ _ _ _ _ q _=>q) (λb o _ _ _ q _=>⟨o.slots,q⟩) (λb o hb _ n=>by rw[ax (by simpa using hb)];exact n) (λb o _ q=>⟨o,q⟩)
  (λb xs q=>by rw[ax (nb b _ q)];exact q) (λb o u q=>by rw[ax (nb b _ q)];exact q) (λb ps q=>⟨#[],by rw[ax (nb b _ q),q];simp⟩) (λ_ q=>q) hk I.bare
end
section
variable{X:Cx}{e:Expr}{name:Str}{pos:Pos}{ta:TE}
def IsX (H:Hp)(a C d:Addr):Prop:=∃φ,H a=some (.ext φ)/\∀h:Heap,φ h->∃(sl:Array (Option Value)) (vs:Array Value),h.get? a=some ⟨.ref C,some d,.fields vs,sl⟩
theorem pe_xfldQ (he:PE X e ta)(hb:attributeBase e name X.env (eval e X.env)=eval e X.env):PE X (.Attribute e name pos)
  (λσ H Q=>ta σ H λx H1=>∃ea C d fs v,x=.ref ea/\IsX H1 ea C d/\H1 d=some (.xd fs)/\Ah X.K C name/\fs.lookup name=some v/\(∃z,sY v z)/\Q v H1):=by
 intro pins s σ H Q I h;refine BG hb (thn (he pins s σ H _ I h) λu s1 ⟨x,H1,I1,rx,ea,C,d,fs,v,ex,⟨φ,hx,hφ⟩,hd,xf,lk,⟨z,fz⟩,q⟩=>?_)
 subst ex;obtain rfl:u=ky ea:=rx;obtain⟨sl,vs,e1⟩:=hφ _ (show dE X.prog X.w H1 s1.heap ea (.ext φ) from I1.hok _ _ hx).1
 obtain⟨mA,ns,rel⟩:=(show dE X.prog X.w H1 s1.heap d (.xd fs) from I1.hok _ _ hd)
 obtain⟨od,ho,li⟩:=uC ns;have J:VY s1.heap ea _ C (some od):=⟨e1,rfl,rfl,ho⟩;have rl:=rel name;rw[lk]at rl;cases hm:mA name with
 |none=>rw[hm]at rl;exact rl.elim
 |some u2 =>
  rw[hm]at rl;have rl':RelV v u2:=rl;have hh:PySem.W.handedIn u2=true:=by
   cases fz with
   |int _=>obtain⟨t,rfl⟩:=rl';rfl
   |str=>obtain⟨t,rfl⟩:=rl';rfl
  obtain⟨cd,hc,hdct⟩:=PySem.W.any_some xf.hd;have fo:V2 X.K C (some od) name=some (.value u2):=by
   unfold V2;rw[hc,Vz,xf.na,Vz];simp only[Vz,PySem.W.ownOf,hdct,if_true,li,hm]
  unfold getAttr;refine cb (wpAny_mkText (Kf (s:={ s1 with toks:=s1.toks+1 }) I1.kIn J xf.ga (DF (s:={ s1 with toks:=s1.toks+1 }) I1.kIn J fo ?_)))
  exact⟨hh,v,H1,I1.tok _,rl',q⟩
end
section
variable{prog:ko}{w:World}{A:Around}{E:Value->Shared->Prop}
variable{nm q:Str}{C N:Addr}{bs bm:List Value}{hdct:Bool}{sn:List Str}{sub:List Value}{ab:Bool}{col:Option Bool}{dd:Option Addr}{k0 k1 k2 k3 k5:Option Value}{nid:String}
theorem plain_unchain:plainId "proto.unchain"=true:=by trivial
theorem raise_objG {env:Env}{s:Shared}{x c:Sem Value}{Q:Flow->Shared->Prop}{ea:Addr}(sT:bm.contains (.type "BaseException")=true)(hh:A.handled=some (.ref ea))
  (hc:∀(s:Shared) (R:Value->Shared->Prop),R .none s->wpAny (model prog w) A c R E s)
  (hx:wpAny (model prog w) A x (λv s₁=>∃(e:Addr) (xd:Option Addr) (a0:Value),v=.ref e/\e≠ea/\s₁.heap.get? C=some (Vm nm q C N bs bm hdct sn sub ab col dd k0 k1 k2 k3 k5 nid) /\
   s₁.heap.get? e=some ⟨.ref C,xd,.fields #[a0,.none,.none,.none,.bool false,.none],#[]⟩ /\
   (∃(cl:Value) (d2:Option Addr) (vs:Array Value) (sl:Array (Option Value)),s₁.heap.get? ea=some ⟨cl,d2,.fields vs,sl⟩/\(vs[2]?=some .none\/∃(c:Addr) (oc:Obj) (ws:Array Value),vs[2]?=some (.ref c)/\c≠e/\c≠ea/\s₁.heap.get? c=some oc/\oc.data=.fields ws/\ws[2]?=some .none)) /\
   ∀h',(∀b o,b≠e->s₁.heap.get? b=some o->h'.get? b=some o)->h'.get? e=some ⟨.ref C,xd,.fields #[a0,.none,.ref ea,.none,.bool true,.none],#[]⟩->E (.ref e) { s₁ with heap:=h' }) E s) :
  wpAny (model prog w) A (raiseStmt env (some x) (some c)) Q E s:=by
 have top:(ky C::bm).contains (.type "BaseException")=true:=by rw[List.contains_cons,sT,Bool.or_true]
 unfold raiseStmt;refine cb (ki hx (λv s₁ h₁=>?_) λ_ _ z=>z)
 obtain⟨e,xd,a0,rfl,ne,kC,kE,⟨cl,d2,vs,sl,kH,h2⟩,fin⟩:=h₁;obtain⟨hp,g',d',tk,os'⟩:=s₁;dsimp only;refine cb (Vd (hc _ _ ?_))
 repeat (first | with_reducible refine Vi kE ?_ | with_reducible refine Vi kC ?_ | (with_reducible refine wpAny_isSubtype_exc kC ?_;rw[top]) | wp_step)
 have nC:C≠e:=λz=>by
  subst z;have:some (Vm nm q C N bs bm hdct sn sub ab col dd k0 k1 k2 k3 k5 nid)=some _:=kC.symm.trans kE;cases this
 generalize hg:(hp.update e (Vl λx=>x.setIfInBounds 3 Vx)).update e (Vl λx=>x.setIfInBounds 4 (VW true))=hq
 have oth:∀b,b≠e->hq.get? b=hp.get? b:=λb hb=>by rw[<-hg,U6 _ _ (UU hb),U6 _ _ (UU hb)]
 have kE1:(hp.update e (Vl λx=>x.setIfInBounds 3 Vx)).get? e=some ⟨.ref C,xd,.fields #[a0,.none,.none,.none,.bool false,.none],#[]⟩:=(Ve _ kE rfl).trans rfl
 have kE2:hq.get? e=some ⟨.ref C,xd,.fields #[a0,.none,.none,.none,.bool true,.none],#[]⟩:=by rw[<-hg];exact(Ve _ kE1 rfl).trans rfl
 have kC2:(⟨hq,g',d',tk,os'⟩:Shared).heap.get? C=_:=(oth C nC).trans kC;refine Vi kC2 ?_;refine ka ?_;rw[if_pos (show ((Vm nm q C N bs bm hdct sn sub ab col dd k0 k1 k2 k3 k5 nid).cls == Value.type "type")=true from by simp[Vm])]
 refine ka ?_;unfold setFlight;refine cb (cb (Vw kE2 rfl (x:=.none) rfl ?_));rw[if_neg (by decide)]
 refine ka ?_;unfold raiseNew;refine cb (wpAny_handled ?_);rw[hh];dsimp only;rw[if_pos (show (ky ea != ky e)=true by simp;exactλz=>ne z.symm)]
 have kH2:(⟨hq,g',d',tk,os'⟩:Shared).heap.get? ea=some ⟨cl,d2,.fields vs,sl⟩:=(oth ea (UU ne)).trans kH;have end_:E (.ref e) ⟨hq.update e (Vl λx=>x.setIfInBounds 2 (ky ea)),g',d',tk,os'⟩ :=
  fin _ (λb o hb g=>(U6 _ _ (UU hb)).trans ((oth b hb).trans g)) ((Ve _ kE2 rfl).trans rfl)
 refine cb (Vd (wpAny_runValue (codeAny_builtin entry_unchain ?_)));unfold Wz.«proto.unchain»;dsimp only;rcases h2 with h2 | ⟨c0,oc,ws,h2,nc,nca,kc,hdc,w2⟩
 ·refine cb (Vw kH2 rfl h2 ?_);rw[if_pos (by decide)]
  repeat (first | wp_step)
  exact end_
 ·refine cb (Vw kH2 rfl h2 ?_);rw[if_neg (show ¬((ky c0 == Vx)=true) by simp)]
  rw[if_neg (show ¬((ky c0 == ky e)=true) by simp;exact nc)]
  rw[if_neg (show ¬((ky c0 == ky ea)=true) by simp;exact nca)]
  rw[if_neg (by decide)]
  refine cb (ka (ka ⟨plainId_quiet plain_unchain _,codeAny_builtin entry_unchain ?_⟩));unfold Wz.«proto.unchain»;dsimp only;refine cb (Vw ((oth c0 nc).trans kc) hdc w2 ?_);rw[if_pos (by decide)]
  repeat (first | wp_step)
  exact end_
end
def PHX3 (X:Cx)(hs:List ExceptHandler)(t:THX):Prop :=
 ∀(pins:List (Addr×Obj)) (s:Shared) (σ:St) (H:Hp) (D:Ends) (E:SXK) (ea:Addr) (cls:Value) (xd:Option Addr),Inv X pins σ H s->XAt { X with xn:=false } pins H s.heap ea cls xd (some .none)->t D E σ cls xd H ->
  wpAny (model X.prog X.w) X.A (handleBy (.ref ea) X.env hs) (SP X pins D) (XPS X pins E) s
def hFromAs (K:ba)(C D:Addr)(name:Str)(i:Nat)(ta:TA)(tr:THX):THX:=λDn E σ cls xd H=>∃b,kj K cls (.ref C)=some b/\if b=true then
  ∀ea H1,(∀a u,H a=some u->H1 a=some u)->(∃φ,H1 ea=some (.ext φ)/\∀h:Heap,φ h->∃(sl:Array (Option Value)) (vs:Array Value),h.get? ea=some ⟨cls,xd,.fields vs,sl⟩) ->
   ta (σ.set i (some (.ref ea))) H1 (λvs H2=>H2=H1/\∃v,vs=[v]/\(∃z,sY v z/\z.length<=10000)/\∀d,H2 d=none->E (σ.set i none) (.ref D) (some d) (upd H2 d (.xd [(name,v)])))
 else tr Dn E σ cls xd H
section
variable{X:Cx}{x y n name:Str}{C D f:Addr}{np yp cp kp rp pos:Pos}{j}{e₀:Expr}{rest:List ExceptHandler}{ta:TA}{tr:THX}{fd:gn}{ps:List Str}{k i:Nat}
theorem XAt.xn {pins:List (Addr×Obj)}{H:Hp}{h:Heap}{e:Addr}{cls:Value}{xd:Option Addr}{m:Option Value}(x:XAt { X with xn:=false } pins H h e cls xd m):XAt X pins H h e cls xd m:=by
 obtain⟨ok,sl,vs,he,hz,hm⟩:=x;refine⟨ok,sl,vs,he,hz.move rfl rfl id (λ_=>rfl) λc o ws _ f g d=>⟨f,o,ws,g,d,rfl⟩,?_⟩
 cases m with
 |none=>exact hm
 |some m=>exact hm
theorem phx3_nil (F:Fr1 X):PHX3 X [] (λ_ E σ cls xd H=>E σ cls xd H):=λpins s σ H D E ea cls xd I hx h=>xS F pins s σ H D E ea cls xd I hx.xn h
theorem psx_tryC {body:List Stmt}{h₀:ExceptHandler}{hs:List ExceptHandler}{tb:TSX}{th:THX}(F:Fr1 X)(hb:w4 { X with xn:=false } body tb)(hh:PHX3 X (h₀::hs) th) :
  PSX X (.Try body (h₀::hs) [] [] pos) (A2 tb th):=by
 intro pins s σ H D E I h;unfold A2 at h;refine wpAny_Try_except (ki (hb pins s σ H D _ (xf_in I X.xc false) h) (λf s1 q=>?_) (λv s1 q=>?_))
 ·have q:=sp_outf (b:=X.xc) (n:=false) q;cases f with
  |next=>exact wpAny_execs_nil q
  |ret v=>exact q
  |brk=>exact q
  |cont=>exact q
 ·obtain⟨σ',ea,cls,xd,m,H',rfl,I1,hx,hm,q⟩:=q;exact l5 (X:={ X with xn:=false }) ⟨F.stk,F.fr⟩ I1.ok.frames I1 hx hm λs2 I2 x2=>dG I2 x2 λs3 I3 x3=>hh pins s3 σ' H' D E ea cls xd (xf_out (b:=X.xc) (n:=false) I3) x3 q
theorem phx_fromAs (nx:X.xc=false)(nn:X.xn=true)(F1:Fr1 X)(hN:X.N.Nodup)(hi:X.N[i]?=some n)(hl:X.env.scope.names.lookup n=some .local)(xk:ri X.K D f name)(F:FnOkH X.prog X.w X.K X.mg X.base k f fd ps (uH D name))(hr:Room (k+1) X.A)(hb:Binds X.K fd ps [])
  (hg:Gl X x) (hm:X.mg x=some (.ref C)) (hg2:Gl X y) (hm2:X.mg y=some (.ref D))
  (ha:∀e,PA (hcx X e).nox [e₀] ta) (G5:PHX3 X rest tr) (hd:(x == ("__debug__":Str))=false:=by decide) (hd2:(y == ("__debug__":Str))=false:=by decide) (hst:om [e₀] X.env=[(false,eval e₀ X.env)]:=by rfl) :
  PHX3 X (.ExceptHandler (some (.Name x np)) (some n) [.Raise (some (.Call (.Name y yp) [e₀] [] cp)) (some (.Constant .none j kp)) rp] pos::rest) (hFromAs X.K C D name i ta tr):=by
 intro pins s σ H D' E ea cls xd I hx h;unfold hFromAs at h;obtain⟨b,eb,h⟩:=h;refine wpAny_handleBy_cons (codeAny_handlers_test (GX I hx.xn hg hm eb ?_ hd)) (by intro q;cases q)
 cases b with
 |false=>exact G5 pins s σ H D' E ea cls xd I hx h
 |true =>
  refine codeAny_handlers_suite_as (dG (X:={ X with xn:=false }) (xf_in I X.xc false) hx λs1 I1 x1=>?_)
  obtain⟨ok,sl,vs,he,hz,hmk⟩:=x1;have I1:Inv X pins σ H s1:=xf_out (b:=X.xc) (n:=false) I1;obtain⟨H1,hs1,IH,f1,ctx⟩:∃H1,(∀a u,H a=some u->H1 a=some u)/\Inv X pins σ H1 s1/\H1 ea=some (.ext λh=>h.get? ea=some ⟨cls,xd,.fields vs,sl⟩) /\
    (vs[2]?=some .none\/∃(c:Addr) (oc:Obj) (ws:Array Value),vs[2]?=some (.ref c)/\c≠ea/\H1 c=some (.ext λh=>h.get? c=some oc)/\oc.data=.fields ws/\ws[2]?=some .none):=by
   rcases hz.c1 rfl with y | ⟨c,oc,ws,y,ne,f,g,d,w2⟩
   ·refine⟨_,λa u q=>?_,track_ext I1 ok he (φ:=λh=>h.get? ea=some ⟨cls,xd,.fields vs,sl⟩) he (λh1 h2 z k=>k _ z),af,.inl y⟩
    rw[ax (λz=>by rw[z,ok.1]at q;cases q)];exact q
   ·have Ic:=track_ext (φ:=λh=>h.get? c=some oc) I1 f g g (λh1 h2 z k=>k _ z)
    have ok':dh X pins (upd H c (.ext λh=>h.get? c=some oc)) ea:=⟨by rw[ax (UU ne)];exact ok.1,ok.2⟩
    refine⟨_,λa u q=>?_,track_ext Ic ok' he (φ:=λh=>h.get? ea=some ⟨cls,xd,.fields vs,sl⟩) he (λh1 h2 z k=>k _ z),af,.inr ⟨c,oc,ws,y,ne,?_,d,w2⟩⟩
    ·rw[ax (λz=>by rw[z,ok.1]at q;cases q),ax (λz=>by rw[z,f.1]at q;cases q)];exact q
    ·rw[ax ne];exact af
  refine hX (X:=hcx X ea) (v:=.ref ea) (yo IH ea) hN hi (.inl hl) rfl (λs2 Ih=>?_) (.inr hl)
  have h:=h ea H1 hs1 ⟨_,f1,λh z=>⟨sl,vs,z⟩⟩
  refine wpAny_execs_cons (ki (Q:=λ_ _=>False) (E:=XPS X pins λσ'=>E (σ'.set i none)) ?_ (λ_ _ z=>z.elim) λv s3 z=>?_)
  ·obtain⟨nm,qn,N,bs,bm,hdct,sn,sub,ab,col,dd,k0,k1,k2,k3,k5,l,T,hdd,hi'⟩:=xk.ex;have hbx:bm.contains (.type "BaseException")=true:=(T.tail I.kIn).hasType (b:=true) (by trivial)
   rw[arm_exec_Raise];refine cb (Va ?_);refine raise_objG (ea:=ea) (C:=D) (nm:=nm) (q:=qn) (N:=N) (bs:=bs) (bm:=bm) (hdct:=hdct) (sn:=sn) (sub:=sub) (ab:=ab) (col:=col) (dd:=dd) (k0:=k0) (k1:=k1) (k2:=k2) (k3:=k3) (k5:=k5) (nid:="ValueError.__new__") hbx rfl (λs R hR=>cb (Constant_none (cb (Va (ka hR))))) ?_
   let Qx:Value->Shared->Prop:=λv s₁=>∃(e:Addr) (xd2:Option Addr) (a0:Value),v=.ref e/\e≠ea/\s₁.heap.get? D=some (Vm nm qn D N bs bm hdct sn sub ab col dd k0 k1 k2 k3 k5 "ValueError.__new__") /\
    s₁.heap.get? e=some ⟨.ref D,xd2,.fields #[a0,.none,.none,.none,.bool false,.none],#[]⟩ /\
    (∃(cl:Value) (d2:Option Addr) (vs:Array Value) (sl:Array (Option Value)),s₁.heap.get? ea=some ⟨cl,d2,.fields vs,sl⟩/\(vs[2]?=some .none\/∃(c:Addr) (oc:Obj) (ws:Array Value),vs[2]?=some (.ref c)/\c≠e/\c≠ea/\s₁.heap.get? c=some oc/\oc.data=.fields ws/\ws[2]?=some .none)) /\
    ∀h',(∀b o,b≠e->s₁.heap.get? b=some o->h'.get? b=some o)->h'.get? e=some ⟨.ref D,xd2,.fields #[a0,.none,.ref ea,.none,.bool true,.none],#[]⟩->XPS X pins (λσ'=>E (σ'.set i none)) (.ref e) { s₁ with heap:=h' }
   refine cb (ki (Q:=Qx) (E:=XPS X pins λσ'=>E (σ'.set i none)) ?_ (λv s₂ z=>cb (Va (ka z))) λ_ _ z=>z)
   refine Vf (eN Ih hg2 hm2 ?_ hd2);unfold Wb;rw[show (hcx X ea).env=X.env from rfl,hst]
   refine cb (Vd (Wj ?_));have ha':=ha ea cp _ s2 (σ.set i (some (.ref ea))) H1 _ (Ih.gN _) h;rw[show (hcx X ea).nox.env=X.env from rfl,hst]at ha'
   refine ki ha' (λus s₂ ⟨ws,H2,I2,r,hH,v,hvs,hv,q1⟩=>cb (Va ?_)) λ_ _ z=>wa z
   subst hH;subst hvs;obtain⟨u,rfl,rv⟩:=Vals.one r;have I2':=I2.ck;have kC:=I2'.kIn _ _ l;have pl:(backTo cp [(false,eval e₀ X.env)]).any (·.1)=false:=rfl
   have Pl:ps.length=2:=(F.len [V.ref 0,v] (upd H 0 (xi 0 D none)) (λ_ _=>True) E0 ⟨0,v,rfl,af,hv,λ_ _=>trivial⟩).symm
   have z:=hr.make D [u] [];have fin:=rj (X:=hcx X ea) (E:=XPS X pins λσ'=>E (σ'.set i none)) (Q:=Qx) xk Pl (λs H us vs Q e0 b r sp=>F.run _ _ s H ⟨us,[]⟩ us vs Q E0 ⟨rfl,z.dp,z.un,z.gd⟩ e0 b r sp) hb I2' rv hv λe d a0 s' hd1 I3 fp ke=>by
    have at_:∀ {a:Addr} {φ:Heap->Prop},H2 a=some (.ext φ)->φ s'.heap/\a≠e:=λ{a φ} q=>by
     have q':upd H2 d (.xd [(name,v)]) a=some (.ext φ):=by rw[ax (λz=>by rw[z,hd1]at q;cases q)];exact q
     exact⟨(show dE X.prog X.w _ s'.heap a (.ext φ) from I3.hok _ _ q').1,λz=>by have:=fp.1;rw[<-z,q']at this;cases this⟩
    obtain⟨hea,ne⟩:=at_ f1;refine⟨e,some d,a0,rfl,UU ne,I3.kIn _ _ l,ke,⟨cls,xd,vs,sl,hea,ctx.imp id λ⟨c,oc,ws,c1,c2,c3,c4⟩=>⟨c,oc,ws,c1,(at_ c3).2,c2,(at_ c3).1,c4⟩⟩,λh' kk ke'=>?_⟩
    have I4:Inv X pins (σ.set i (some (.ref ea))) (upd H2 d (.xd [(name,v)])) s':=g9 I.ok I3;have fp':dh X pins (upd H2 d (.xd [(name,v)])) e:=fp;have I5:Inv X pins (σ.set i (some (.ref ea))) (upd H2 d (.xd [(name,v)])) { s' with heap:=h' }:=I4.turned (t':=s'.toks) kk fp'.1 fp'.2.1 fp'.2.2.2.1 fp'.2.2.2.2.1 fp'.2.2.2.2.2
    refine⟨_,e,.ref D,some d,none,_,rfl,I5,⟨fp',_,_,ke',⟨by show 1 < 6;decide,λc=>absurd (nx.symm.trans c) gr,λc=>absurd (nn.symm.trans c).symm gr⟩,rfl⟩,.inl rfl,?_⟩
    show E ((σ.set i _).set i none) _ _ _;rw[List.set_set];exact q1 d hd1
   obtain⟨hp,g',d',tk,os'⟩:=s₂;simp only[pl];refine cb (wpAny_keeperOf_exc kC ?_);exact cb (ki fin (λv s2 z=>cb (Vd (wpAny_point (ka z)))) λ_ _ z=>z)
  ·obtain⟨σ',e,MW,xd',m,H',rfl,J,hxe,hm',q⟩:=z;refine l5 F1 I.ok.frames J hxe hm' λs4 J4 x4=>?_
   obtain⟨oke,sle,vse,hee,hze,T,oT,ts,t1,nT,fT,hT,hdT,t3⟩:=x4;have Jp:Inv X (pins++[(e,⟨MW,xd',.fields vse,sle⟩),(T,oT)]) σ' H' s4:=J4.pK λp hp=>by
    rcases List.mem_append.mp hp with z | z
    ·exact J4.pin p (di _ z)
    ·rcases List.mem_cons.mp z with z | z
     ·subst z;exact⟨hee,oke.1,oke.2.1,oke.2.2.1,λv z=>by cases z⟩
     ·rw[wt]at z;subst z;exact⟨hT,fT.1,fT.2.1,fT.2.2.1,λv z=>by rw[hdT]at z;cases z⟩
   refine yq Jp hN hi hl λs5 J5=>?_
   have pe:=(J5.pin (e,⟨MW,xd',.fields vse,sle⟩) (di _ (di _ (by simp)))).1
   have pT:=(J5.pin (T,oT) (di _ (di _ (by simp)))).1
   have J6:Inv X pins (σ'.set i none) H' s5:=J5.cP;have x5:XAt X pins H' s5.heap e MW xd' (some (rawInt X.env.locals)):=⟨oke,sle,vse,pe,⟨hze.sz,λc=>absurd (nx.symm.trans c) gr,λc=>absurd (nn.symm.trans c).symm gr⟩,T,oT,ts,t1,nT,fT,pT,hdT,t3⟩
   unfold PySem.passOn;refine cb (Vw pe rfl t1 ?_);rw[if_neg (show ¬((ky T == Vx)=true) by simp)]
   have step:∀ {R:Flow->Shared->Prop} {E':Value->Shared->Prop},(∀s7,XPS X pins E (.ref e) s7->E' (.ref e) s7)->wpAny (model X.prog X.w) (X.A.mark (some (.ref ea))) (do setFlight (.ref e) X.env.frame;throw (.ref e):Sem Flow) R E' s5:=λhE =>
    cb (dG J6 x5 λs7 J7 x7=>wpAny_throw (hE _ ⟨_,e,MW,xd',_,H',rfl,J7,x7,by rw[F1.fr];exact .inr (.inr ⟨_,rfl⟩),q⟩))
   first
    |exact step λs7 z=>came_x F1 I.ok.frames z
    |exact cb (ka (step λs7 z=>came_x F1 I.ok.frames z))
end
section
variable{X:Cx}
theorem mt_strip:MtR X "str.strip" (λx vs H Q=>∃z y,x=.str z/\vs=[.str y]/\z.length<=de/\Q (.str (Txt.stripChars z y)) H):=by
 intro pins s σ H x vs v us Q I rx rv h;obtain⟨z,y,rfl,rfl,hz,q⟩:=h;obtain⟨t,rfl⟩:=rx;obtain⟨_,rfl,u,rfl⟩:=rv.one;exact SC.stripChars (λt' k=>⟨.str _,H,I.tok _,⟨_,rfl⟩,q⟩) hz
theorem mt_upper:MtR X "str.upper" (λx vs H Q=>∃z,x=.str z/\vs=[]/\Builtin.Str.tooLong (Txt.upper z).length=false/\Q (.str (Txt.upper z)) H):=by
 intro pins s σ H x vs v us Q I rx rv h;obtain⟨z,rfl,rfl,hz,q⟩:=h;obtain⟨t,rfl⟩:=rx;cases rv;exact SC.upper hz ⟨.str _,H,I.tok _,⟨_,rfl⟩,q⟩
theorem bt_sum:Vr "sum"=some (.builtin "sum"):=by trivial
theorem call_sum0 (hc:X.calm=true):eh X (.builtin "sum") (λxs H Q=>∃p:Addr,xs=[.ref p]/\SqL X.K H p []/\Q (.int 0) H):=by
 intro pins s σ H xs us Q I r h;obtain⟨p,rfl,hq,q⟩:=h;obtain⟨u,rfl,rx⟩:=vals1 r;cases rx;obtain⟨its,rv,pl,hz⟩:=I.list hq;cases rv;refine call_sum_walk (wpAny_pyIter_list pl.isList ?_);obtain⟨o,n,e,_⟩:=id pl;have hlt:p < s.heap.objs.size:=kq e;refine⟨s.heap.objs.size,_,_,_,_,_,λ_=>0,rfl,Walks.list (A:=X.A.in1) (show X.A.in1.handled=none from I.ok.hd hc) s.heap.objs.size p (sr hlt) #[],⟨⟨_,si _ rfl,rfl,rfl⟩,pl.isList.at λo e=>fu _ e⟩,?_,?_,?_,λh' tk t' kk=>?_⟩
 ·intro b hb;rw[VR];rcases List.mem_cons.mp hb with z | z
  ·rw[z];exact Wv _
  ·rw[List.mem_singleton.mp z];exact Wk hlt
 ·intro i v hv;simp at hv
 ·intro j hj;exact absurd hj (by simp)
 ·exact⟨.int 0,H,I.kept λb o e=>kk b o (by simp;exact sr (kq e)) (fu _ e),⟨_,rfl⟩,q⟩
def tLstX (t:TAX):TEX:=λσ H Q E=>t σ H (λxs H1=>xs.length<=de/\∀p,H1 p=none->Q (.ref p) (upd H1 p (.lst xs))) E
theorem pex_lst {es:List Expr}{t:TAX}{pos:Pos}(h:PAX X es t):PEX X (.List es pos) (tLstX t):=by
 intro pins s σ H Q E I hq;refine wpAny_List_spliced (thn (h pos pins s σ H _ E I hq) λus s1 ⟨xs,H1,I1,r,z,q⟩=>⟨by rw[<-r.length];exact z,?_⟩)
 have hf:H1 s1.heap.objs.size=none:=I1.hok.fresh (kg _);refine⟨.ref s1.heap.objs.size,upd H1 s1.heap.objs.size (.lst xs),I1.laid (t':=s1.toks) (λb u e=>fu _ e) (kg _) ?_,rfl,q _ hf⟩
 exact⟨z,us,0,r,si _ rfl⟩
def tCBX (r:List V->Hp->VK->Prop)(t:TAX):TEX:=λσ H Q E=>t σ H (λvs H1=>r vs H1 Q) E
theorem pex_callTy {T:String}{r:List V->Hp->VK->Prop}{x:Str}{p pos:Pos}{e:Expr}{es:List Expr}{t:TAX}(hc:∀X':Cx,eh X' (.type T) r)(hg:Gl X x)(hm:X.mg x=none)(hv:Vr x=some (.type T))(ha:PAX X (e::es) t)(hn:x≠"__name__":=by decide)(hdb:(x == ("__debug__":Str))=false:=by decide)
  (he:om (e::es) X.env=(false,eval e X.env)::om es X.env:=by rfl) (hpl:(backTo pos (om es X.env)).any (·.1)=false:=by rfl):PEX X (.Call (.Name x p) (e::es) [] pos) (tCBX r t):=by
 intro pins s σ H Q E I h;refine Vf (BD I hg hm hv ?_ hn hdb);exact PyProof.Rows.callWith_type1 (thn (ha pos pins s σ H _ E I h) λus s1 ⟨vs,H1,I1,r1,q1⟩=>ki (hc X.nox pins s1 σ H1 vs us Q (I1.gN _) r1 q1) (λ_ _ z=>by obtain⟨a,b,c,d⟩:=z;exact⟨a,b,c.ck,d⟩) λ_ _ z=>wa z) he hpl
end
section
variable{X:Cx}{C f:Addr}{fd:gn}{ps:List Str}{sp:Sp}{k:Nat}{m:Str}{o e:Expr}{es:List Expr}{t:TAX}{apos pos:Pos}{b n:Bool}
theorem pe_methXB {pl:Sem Bool}{ta:TEX}(nx:X.xc=false)(he:PEX X o ta)(c:Cls X.K C)(hm:Meth X.K C m f)(F:FnOk X.prog X.w X.K X.mg X.base (CXG b n X.prog X.w) k f fd ps sp)(hr:Room k X.A)(hb:Binds X.K fd ps [])(ha:PAX X (e::es) t)
  (hn:X.xn=false->n=false:=by first | exactλ_=>rfl | (intro z;cases z))
  (hst:om (e::es) X.env=(false,eval e X.env)::om es X.env:=by rfl) (hpl:(backTo pos (om es X.env)).any (·.1)=false:=by rfl)
  (ht:eval (.Call (.Attribute o m apos) (e::es) [] pos) X.env=(do
   let ov <-eval o X.env
   standAt apos.atName
   let (f,first) <-holding [ov] (getMethod ov m pl)
   Wb pos f first (backTo pos (om (e::es) X.env)) (V4 pos (VC [] X.env))):=by rfl) :
  PEX X (.Call (.Attribute o m apos) (e::es) [] pos) (BP C m ta t sp):=by
 intro pins s σ H Q E I h;unfold BP at h;refine VD (pl:=pl) (thn (he pins s σ H _ E I h) λu s1 ⟨x,H1,I1,rx,a,dx,fs,ex,ea,l,q⟩=>?_) ht
 subst ex;obtain rfl:u=ky a:=rx;refine fH I1 ea c hm l ?_;exact VX (first:=[.ref a]) (h₀:=X.base) I.ok.mod.kin hm.kp (thn (ha pos pins s1 σ H1 _ E I1 q) λus s2 ⟨vs,H2,I2,r,q2⟩=>⟨I2.kIn,run_fnXB (us:=.ref a::us) (vs:=.ref a::vs) nx F hr hb I2 (.cons rfl r) q2 hn⟩) hst hpl
end
theorem call_isiXTD {X:Cx}:eh X (.builtin "isinstance") (λxs H Q=>∃ea q C d fs b,∃cs:List Addr,xs=[.ref ea,.ref q]/\SqT X.K H q (cs.map V.ref)/\H ea=some (xo ea (.ref C) (some d))/\H d=some (.xd fs)/\A3 X.K C/\PySem.W.kitAny X.K (.ref C) (cs.map ky)=some b/\Q (.bl b) H):=by
 intro pins s σ H xs us Q I r h;obtain⟨ea,q,C,d,fs,b,cs,rfl,hq,hx,hd,ty,e,qq⟩:=h;obtain⟨u,w',rfl,rx,rc⟩:=vals2 r;cases rx;cases rc;obtain⟨ox,od,J,_⟩:=DI I hx hd;obtain⟨its,rv,⟨o,eo,hc,n,RB⟩,_⟩:=I.tuple hq;have hi:∀(cs:List Addr) (its:List Value),Vals (cs.map V.ref) its->its=cs.map ky:=λcs=>by
  induction cs with
  |nil=>intro its rv;cases rv;rfl
  |cons c cs ih=>intro its rv;cases rv with | cons a t=>cases a;rw[ih _ t];rfl
 rw[hi cs its rv]at RB;obtain⟨oc,od',odt,osl⟩:=o;cases hc;cases RB;exact PySem.W.kia_tup (MP ty) I.kIn J eo e (λz=>nomatch z) λtk=>⟨.bl b,H,I.tok _,rfl,qq⟩
theorem pe_xfldQK {X:Cx}{K:ba}{e:Expr}{name:Str}{pos:Pos}{ta:TE}(ek:X.K=K)(he:PE X e ta)(hb:attributeBase e name X.env (eval e X.env)=eval e X.env):PE X (.Attribute e name pos)
  (λσ H Q=>ta σ H λx H1=>∃ea C d fs v,x=.ref ea/\IsX H1 ea C d/\H1 d=some (.xd fs)/\Ah K C name/\fs.lookup name=some v/\(∃z,sY v z)/\Q v H1):=by
 subst ek;exact pe_xfldQ he hb
theorem call_len_seqK {X:Cx}{K:ba}(ek:X.K=K):eh X (.builtin "len") (λxs H Q=>∃p ys,xs=[.ref p]/\(SqL K H p ys\/SqT K H p ys)/\Q (.int (ys.length:Int)) H):=by
 subst ek;exact bM
end L2
namespace My
open PySem L2
seal PySem.wpAny
def top (i:Nat):Stmt:=PySem.Challenge.pw_moot_k35_orders_refused.main.body.getD i (.Pass ⟨0,0,0,0⟩)
abbrev qA:Stmt:=inClass (top 24) 1
theorem yy:ay ["self"] ["self"] (ai qA):=fsc (by trivial)
abbrev qB:Stmt:=inClass (top 25) 1
theorem yz:ay ["self"] ["self"] (ai qB):=fsc (by trivial)
abbrev vT:Stmt:=inClass (top 26) 1
theorem B2:ay ["self"] ["self"] (ai vT):=fsc (by trivial)
abbrev qC:Stmt:=inClass (top 27) 1
theorem yA:ay ["self"] ["self"] (ai qC):=fsc (by trivial)
abbrev ti:Stmt:=inClass (top 28) 0
theorem Ai:ay ["self"] ["self"] (ai ti):=fsc (by trivial)
abbrev yB:Stmt:=inClass (top 29) 0
theorem DN:ay ["self"] ["self"] (ai yB):=fsc (by trivial)
abbrev vU:Stmt:=inClass (top 30) 0
theorem B3:ay ["self"] ["self"] (ai vU):=fsc (by trivial)
abbrev tj:Stmt:=inClass (top 31) 1
theorem Aj:ay ["self"] ["self"] (ai tj):=fsc (by trivial)
abbrev qD:Stmt:=inClass (top 23) 1
theorem yC:ay ["self"] ["self"] (ai qD):=fsc (by trivial)
abbrev Ak:Stmt:=inClass (top 23) 2
abbrev B4:Stmt:=inClass (top 28) 1
abbrev qE:Stmt:=inClass (top 23) 3
theorem yD:ay ["self"] ["self"] (ai qE):=fsc (by trivial)
abbrev qF:Stmt:=inClass (top 24) 2
theorem yE:ay ["self"] ["self"] (ai qF):=fsc (by trivial)
abbrev qG:Stmt:=inClass (top 25) 2
theorem yF:ay ["self"] ["self"] (ai qG):=fsc (by trivial)
abbrev vV:Stmt:=inClass (top 26) 2
theorem B5:ay ["self"] ["self"] (ai vV):=fsc (by trivial)
abbrev qH:Stmt:=inClass (top 27) 2
theorem yG:ay ["self"] ["self"] (ai qH):=fsc (by trivial)
abbrev tq:Stmt:=inClass (top 31) 2
theorem Al:ay ["self"] ["self"] (ai tq):=fsc (by trivial)
abbrev qI:Stmt:=inClass (top 24) 0
theorem yH:ay ["self","text"] ["self","text"] (ai qI):=fsc (by trivial)
abbrev qJ:Stmt:=inClass (top 25) 0
theorem yI:ay ["self","edit"] ["self","edit"] (ai qJ):=fsc (by trivial)
abbrev vW:Stmt:=inClass (top 26) 0
theorem B6:ay ["self","edit"] ["self","edit"] (ai vW):=fsc (by trivial)
abbrev qK:Stmt:=inClass (top 27) 0
theorem yJ:ay ["self","sitting"] ["self","sitting"] (ai qK):=fsc (by trivial)
abbrev tw:Stmt:=inClass (top 31) 0
theorem Am:ay ["self","clause"] ["self","clause"] (ai tw):=fsc (by trivial)
abbrev qL:Stmt:=inClass (top 4) 0
theorem yK:ay ["self","bar"] ["self","bar"] (ai qL):=fsc (by trivial)
abbrev m5:Stmt:=inClass (top 7) 0
theorem uJ:ay ["self","sitting"] ["self","sitting"] (ai m5):=fsc (by trivial)
abbrev An:Stmt:=inClass (top 11) 0
abbrev tD:Stmt:=inClass (top 13) 0
theorem qM:ay ["self","row"] ["self","row"] (ai tD):=fsc (by trivial)
abbrev qN:Stmt:=inClass (top 14) 0
theorem yL:ay ["self","name"] ["self","name"] (ai qN):=fsc (by trivial)
abbrev n9:Stmt:=inClass (top 66) 0
theorem w5:ay ["self","seats"] ["self","seats"] (ai n9):=fsc (by trivial)
abbrev oa:Stmt:=inClass (top 66) 1
theorem m6:ay ["self","told","number"] ["self","told"] (ai oa):=fsc (by trivial)
abbrev oe:Stmt:=inClass (top 66) 2
theorem iB:ay ["self","ayes","noes","motion","word"] ["self","ayes","noes"] (ai oe):=fsc (by trivial)
abbrev og:Stmt:=inClass (top 66) 3
theorem w6:ay ["self"] ["self"] (ai og):=fsc (by trivial)
abbrev yM:Stmt:=inClass (top 66) 4
abbrev rq:Stmt:=inClass (top 66) 5
abbrev iC:Stmt:=inClass (top 66) 6
theorem uK:ay ["self","aside"] ["self"] (ai iC):=fsc (by trivial)
abbrev iP:Scope:={ kind:=.function,names:=[(ar ".0",.local),(ar "number",.local),(ar "self",.free)],isGenerator:=false,isCoroutine:=false,more:=[] }
theorem rA:b9 iP (ai iC) "number" ["self","aside"] ["self","aside"]:=⟨rfl,rfl,by trivial,by trivial,rfl,by trivial,by trivial,by trivial,by trivial,rfl,by trivial,by trivial⟩
abbrev lz:Stmt:=inClass (top 66) 7
theorem tE:ay ["self","number"] ["self","number"] (ai lz):=fsc (by trivial)
abbrev jR:Stmt:=inClass (top 66) 11
theorem rB:ay ["self"] ["self"] (ai jR):=fsc (by trivial)
abbrev gj:Stmt:=inClass (top 66) 12
theorem rC:ay ["self"] ["self"] (ai gj):=fsc (by trivial)
abbrev gH:Scope:={ kind:=.function,names:=[(ar ".0",.local),(ar "number",.local),(ar "self",.free)],isGenerator:=false,isCoroutine:=false,more:=[] }
theorem oh:b9 gH (ai gj) "number" ["self"] ["self"]:=⟨rfl,rfl,by trivial,by trivial,rfl,by trivial,by trivial,by trivial,by trivial,rfl,by trivial,by trivial⟩
abbrev ig:Stmt:=inClass (top 66) 13
theorem gI:ay ["self","number","waiting"] ["self","number"] (ai ig):=fsc (by trivial)
abbrev dX:Stmt:=inClass (top 66) 14
theorem cw:ay ["self","told","kind","pile"] ["self","told"] (ai dX):=fsc (by trivial)
abbrev eV:Stmt:=inClass (top 66) 15
theorem jh:ay ["self"] ["self"] (ai eV):=fsc (by trivial)
abbrev lC:Stmt:=inClass (top 66) 17
theorem tF:ay ["self","word"] ["self","word"] (ai lC):=fsc (by trivial)
abbrev gk:Stmt:=inClass (top 66) 18
theorem lD:ay ["self","deed"] ["self","deed"] (ai gk):=fsc (by trivial)
abbrev ql:Stmt:=inClass (top 66) 19
abbrev vX:Stmt:=inClass (top 87) 0
theorem B7:ay ["self"] ["self"] (ai vX):=fsc (by trivial)
abbrev rD:Stmt:=inClass (top 87) 1
theorem fU:ay ["self","text","rows","order","kind","names","asked","chambers"] ["self","text"] (ai rD):=fsc (by trivial)
abbrev oi:Scope:={ kind:=.function,names:=[(ar ".0",.local),(ar "name",.local),(ar "self",.free)],isGenerator:=false,isCoroutine:=false,more:=[] }
theorem qO:d4 oi (ai rD) ["name"] ["self","text","rows","order","kind","names","asked","chambers"] ["self","text","rows","order","kind","names","asked","chambers"]:=⟨rfl,rfl,by trivial,by trivial,by trivial,by trivial,by trivial,by trivial,by trivial,rfl,by trivial,by trivial⟩
abbrev vY:Stmt:=inClass (top 87) 2
theorem B8:ay ["self","name","chamber"] ["self","name","chamber"] (ai vY):=fsc (by trivial)
abbrev jS:Stmt:=inClass (top 87) 3
theorem rF:ay ["self","name"] ["self","name"] (ai jS):=fsc (by trivial)
abbrev Ks:Stmt:=top 16
theorem B9:ay ["things","edit","places"] ["things","edit"] (ai Ks):=fsc (by trivial)
abbrev qP:Stmt:=top 17
theorem yN:ay ["things","edit"] ["things","edit"] (ai qP):=fsc (by trivial)
abbrev yO:Stmt:=top 19
theorem DO:ay ["clause"] ["clause"] (ai yO):=fsc (by trivial)
abbrev vZ:Stmt:=top 20
theorem Ca:ay ["words"] ["words"] (ai vZ):=fsc (by trivial)
abbrev wb:Stmt:=top 32
theorem iT:ay ["told","kind"] ["told"] (ai wb):=fsc (by trivial)
abbrev DP:Stmt:=top 35
theorem A7:ay ["pile","closed","bar"] ["pile","closed"] (ai DP):=fsc (by trivial)
abbrev l7:Stmt:=top 36
theorem Ao:ay ["pile"] ["pile"] (ai l7):=fsc (by trivial)
abbrev lE:Scope:={ kind:=.function,names:=[(ar ".0",.local),(ar "motion",.local)],isGenerator:=false,isCoroutine:=false,more:=[] }
theorem w8:b9 lE (ai l7) "motion" ["pile"] ["pile"]:=⟨rfl,rfl,by trivial,by trivial,rfl,by trivial,by trivial,by trivial,by trivial,rfl,by trivial,by trivial⟩
abbrev m7:Stmt:=top 37
theorem lF:ay ["pile","told"] ["pile"] (ai m7):=fsc (by trivial)
abbrev iQ:Stmt:=top 38
theorem oj:ay ["kind","pile"] ["kind","pile"] (ai iQ):=fsc (by trivial)
abbrev ji:Stmt:=top 40
theorem iR:ay ["kind","pile","closed","bar"] ["kind","pile","closed"] (ai ji):=fsc (by trivial)
abbrev A8:Stmt:=top 48
theorem FQ:ay ["holds"] ["holds"] (ai A8):=fsc (by trivial)
abbrev A9:Stmt:=top 49
theorem FR:ay ["sign"] ["sign"] (ai A9):=fsc (by trivial)
abbrev uL:Stmt:=top 50
theorem FT:ay ["word"] ["word"] (ai uL):=fsc (by trivial)
abbrev qQ:Scope:={ kind:=.function,names:=[(ar ".0",.local),(ar "sign",.local),(ar "is_sign",.globalImplicit)],isGenerator:=false,isCoroutine:=false,more:=[] }
theorem Cb:b9 qQ (ai uL) "sign" ["word"] ["word"]:=⟨rfl,rfl,by trivial,by trivial,rfl,by trivial,by trivial,by trivial,by trivial,rfl,by trivial,by trivial⟩
abbrev oo:Stmt:=top 51
theorem Cc:ay ["word"] ["word"] (ai oo):=fsc (by trivial)
abbrev m8:Scope:={ kind:=.function,names:=[(ar ".0",.local),(ar "sign",.local),(ar "FIGURES",.globalImplicit)],isGenerator:=false,isCoroutine:=false,more:=[] }
theorem yP:b9 m8 (ai oo) "sign" ["word"] ["word"]:=⟨rfl,rfl,by trivial,by trivial,rfl,by trivial,by trivial,by trivial,by trivial,rfl,by trivial,by trivial⟩
abbrev qR:Stmt:=top 52
theorem yQ:ay ["word"] ["word"] (ai qR):=fsc (by trivial)
abbrev kA:Stmt:=top 53
theorem yR:ay ["words"] ["words"] (ai kA):=fsc (by trivial)
abbrev jT:Scope:={ kind:=.function,names:=[(ar ".0",.local),(ar "word",.local),(ar "is_word",.globalImplicit)],isGenerator:=false,isCoroutine:=false,more:=[] }
theorem uM:b9 jT (ai kA) "word" ["words"] ["words"]:=⟨rfl,rfl,by trivial,by trivial,rfl,by trivial,by trivial,by trivial,by trivial,rfl,by trivial,by trivial⟩
abbrev oq:Stmt:=top 54
theorem l8:ay ["words","clauses","word"] ["words"] (ai oq):=fsc (by trivial)
abbrev m9:Scope:={ kind:=.function,names:=[(ar ".0",.local),(ar "clause",.local),(ar "read_clause",.globalImplicit)],isGenerator:=false,isCoroutine:=false,more:=[] }
theorem ot:d4 m9 (ai oq) ["clause"] ["words","clauses","word"] ["words","clauses","word"]:=⟨rfl,rfl,by trivial,by trivial,by trivial,by trivial,by trivial,by trivial,by trivial,rfl,by trivial,by trivial⟩
abbrev wc:Stmt:=top 55
theorem iU:ay ["words","kind","place","thing"] ["words"] (ai wc):=fsc (by trivial)
abbrev we:Stmt:=top 56
theorem tG:ay ["words","edit"] ["words"] (ai we):=fsc (by trivial)
abbrev ou:Stmt:=top 57
theorem ng:ay ["words","sitting"] ["words"] (ai ou):=fsc (by trivial)
abbrev wg:Stmt:=top 58
theorem iV:ay ["row","words","kind","behind"] ["row"] (ai wg):=fsc (by trivial)
abbrev nh:Stmt:=top 59
theorem gO:ay ["text","words","clause"] ["text"] (ai nh):=fsc (by trivial)
abbrev ni:Stmt:=top 60
theorem lG:ay ["edit","words"] ["edit"] (ai ni):=fsc (by trivial)
abbrev jj:Stmt:=top 61
theorem nj:ay ["deed","kind"] ["deed"] (ai jj):=fsc (by trivial)
abbrev jm:Scope:={ kind:=.function,names:=[(ar ".0",.local),(ar "number",.local),(ar "str",.globalImplicit)],isGenerator:=false,isCoroutine:=false,more:=[] }
theorem tH:b9 jm (ai jj) "number" ["deed","kind"] ["deed","kind"]:=⟨rfl,rfl,by trivial,by trivial,rfl,by trivial,by trivial,by trivial,by trivial,rfl,by trivial,by trivial⟩
abbrev wj:Stmt:=top 62
theorem Cd:ay ["deed"] ["deed"] (ai wj):=fsc (by trivial)
abbrev Ir:Stmt:=top 64
abbrev Ba:Stmt:=top 68
theorem yS:ay ["chamber","deed","kind"] ["chamber","deed"] (ai Ba):=fsc (by trivial)
abbrev DQ:Stmt:=top 69
theorem Iu:ay ["chamber","row","number"] ["chamber","row","number"] (ai DQ):=fsc (by trivial)
abbrev DR:Stmt:=top 70
theorem pR:ay ["seats","rows","chamber","number","row"] ["seats","rows"] (ai DR):=fsc (by trivial)
abbrev oy:Stmt:=top 78
theorem Ce:ay ["word"] ["word"] (ai oy):=fsc (by trivial)
abbrev nv:Scope:={ kind:=.function,names:=[(ar ".0",.local),(ar "sign",.local)],isGenerator:=false,isCoroutine:=false,more:=[] }
theorem yT:b9 nv (ai oy) "sign" ["word"] ["word"]:=⟨rfl,rfl,by trivial,by trivial,rfl,by trivial,by trivial,by trivial,by trivial,rfl,by trivial,by trivial⟩
abbrev tI:Stmt:=top 79
theorem qS:ay ["word","seats"] ["word"] (ai tI):=fsc (by trivial)
abbrev tJ:Stmt:=top 80
theorem Ap:ay ["kind","words"] ["kind","words"] (ai tJ):=fsc (by trivial)
abbrev tK:Stmt:=top 81
theorem kD:ay ["row","words","kind"] ["row"] (ai tK):=fsc (by trivial)
abbrev ny:Stmt:=top 82
theorem gP:ay ["rows","number","row"] ["rows"] (ai ny):=fsc (by trivial)
abbrev wk:Stmt:=top 83
theorem tL:ay ["seats","rows","refusal"] ["seats","rows"] (ai wk):=fsc (by trivial)
abbrev l9:Stmt:=top 84
theorem fm:ay ["chamber","state","pending","aside","decided"] ["chamber"] (ai l9):=fsc (by trivial)
abbrev lH:Scope:={ kind:=.function,names:=[(ar ".0",.local),(ar "waiting",.local),(ar "len",.globalImplicit)],isGenerator:=false,isCoroutine:=false,more:=[] }
theorem w9:b9 lH (ai l9) "waiting" ["chamber","state","pending","aside","decided"] ["chamber","state","pending","aside","decided"]:=⟨rfl,rfl,by trivial,by trivial,rfl,by trivial,by trivial,by trivial,by trivial,rfl,by trivial,by trivial⟩
abbrev yU:Stmt:=top 85
abbrev DS:Stmt:=top 86
theorem Iv:ay ["kind","chamber","asked"] ["kind","chamber","asked"] (ai DS):=fsc (by trivial)
abbrev wm:Stmt:=top 89
theorem Cg:ay ["_law_script","_law_k"] ["_law_script","_law_k"] (ai wm):=fsc (by trivial)
abbrev DT:Stmt:=top 90
theorem uN:ay ["_law_cell","_law_k","_law_many","_law_at"] ["_law_cell","_law_k"] (ai DT):=fsc (by trivial)
abbrev DU:Stmt:=top 91
theorem dA:ay ["_law_desk","_law_text","_law_found","e"] ["_law_desk","_law_text"] (ai DU):=fsc (by trivial)
abbrev wq:Stmt:=top 92
theorem Ci:ay ["_law_desk","_law_text"] ["_law_desk","_law_text"] (ai wq):=fsc (by trivial)
abbrev qT:Stmt:=top 93
theorem bG:ay ["_law_one","_law_name_here","_law_cell","_law_some"] ["_law_one","_law_name_here","_law_cell"] (ai qT):=fsc (by trivial)
abbrev tM:Stmt:=top 94
theorem cE:ay ["_law_one","_law_name_here","_law_cell","_law_gap","_law_behind","_law_some"] ["_law_one","_law_name_here","_law_cell"] (ai tM):=fsc (by trivial)
abbrev G6:Stmt:=top 95
theorem fq:ay ["_law_one","_law_other","_law_name_here","_law_cell","_law_sort","_law_more","_law_text","_law_row","_law_some","_law_behind"] ["_law_one","_law_other","_law_name_here","_law_cell"] (ai G6):=fsc (by trivial)
abbrev Kt:Stmt:=top 96
theorem md:ay ["_law_script","_law_start","_law_one","_law_other","_law_name_here","_law_desk","_law_cell","_law_order","_law_due"] ["_law_script"] (ai Kt):=fsc (by trivial)
set_option genInjectivity false in
set_option genSizeOf false in
structure Adr where
 fits:Addr
 Cj:gn
 oz:Addr
 jn:gn
 words_of:Addr
 ij:gn
 pS:Addr
 iW:gn
 lI:Addr
 gm:gn
 FU:Addr
 uO:gn
 rG:Addr
 kF:gn
 kG:Addr
 gQ:gn
 gs:Addr
 eE:gn
 gR:Addr
 e9:gn
 tN:Addr
 jo:gn
 Ck:Addr
 rH:gn
 Cm:Addr
 rJ:gn
 uP:Addr
 mf:gn
 jU:Addr
 gu:gn
 oB:Addr
 jq:gn
 uQ:Addr
 mh:gn
 uR:Addr
 mi:gn
 uS:Addr
 mj:gn
 mn:Addr
 iD:gn
 pU:Addr
 iX:gn
 kJ:Addr
 gS:gn
 kK:Addr
 gU:gn
 mr:Addr
 iE:gn
 i8:Addr
 eQ:gn
 Cn:Addr
 rK:gn
 Co:Addr
 rL:gn
 FV:Addr
 uT:gn
 replay:Addr
 uU:gn
 pV:Addr
 iY:gn
 rM:Addr
 kL:gn
 rN:Addr
 kM:gn
 mw:Addr
 hG:gn
 hJ:Addr
 eR:gn
 lJ:Addr
 mx:gn
 rO:Addr
 kO:gn
 my:Addr
 iF:gn
 answer:Addr
 uV:gn
 uW:Addr
 mz:gn
 Cp:Addr
 pW:gn
 Cq:Addr
 pX:gn
 pY:Addr
 iZ:gn
 oE:Addr
 jr:gn
 rP:Addr
 kP:gn
 Ku:Addr
 yV:gn
 law:Addr
 Kv:gn
 FW:Tok
 xa:Tok
 Aq:Tok
 xb:Tok
 FX:Tok
 Cr:Addr
 Ar:Tok
 xg:Tok
 As:Tok
 jV:Addr
 hU:Addr
 c0:Addr
 c1:Addr
 c2:Addr
 c3:Addr
 c4:Addr
 c5:Addr
 c6:Addr
 c7:Addr
 tab:Addr
 Pm:Addr
 Kw:gn
 Pn:Addr
 Kx:gn
 Po:Addr
 Ky:gn
 Pp:Addr
 Kz:gn
 Pq:Addr
 KA:gn
 Pr:Addr
 KC:gn
 Pt:Addr
 KD:gn
 Pu:Addr
 KG:gn
 f_r:Addr
 MX:gn
 f_n:Addr
 DW:gn
 RC:Addr
 Ol:gn
 f_t:Addr
 KH:gn
 Pw:Addr
 KI:gn
 Px:Addr
 KJ:gn
 Py:Addr
 KL:gn
 Pz:Addr
 KN:gn
 PB:Addr
 KO:gn
 PD:Addr
 KP:gn
 PF:Addr
 KQ:gn
 PH:Addr
 KR:gn
 PK:Addr
 KS:gn
 PL:Addr
 KU:gn
 aB:Addr
 js:Addr
 iG:gn
 jt:Addr
 iH:gn
 ju:Addr
 iI:gn
 jv:Addr
 iJ:gn
 jw:Addr
 iK:gn
 fJ:Addr
 fb:gn
 iL:Addr
 gW:gn
 gX:Addr
 gv:gn
 gw:Addr
 fK:gn
 gx:Addr
 fM:gn
 eF:Addr
 ef:gn
 cF:Addr
 cy:gn
 dj:Addr
 cY:gn
 eS:Addr
 ei:gn
 cU:Addr
 cI:gn
 fg:Addr
 eG:gn
 cz:Addr
 oF:Addr
 mB:gn
 gY:Addr
 fV:gn
 oG:Addr
 mD:gn
 gy:Addr
 fN:gn
 bc:Addr
 cJ:Addr
 bP:Addr
 mE:Addr
 mF:Addr
 gZ:Addr
 bI:Addr
 bN:Addr
 pZ:Addr
 oH:Addr
 bu:Addr
 bV:Addr
 bH:Addr
 yW:Addr
 uX:gn
 rQ:Addr
 oI:gn
 DX:Addr
 Bb:gn
 p4:Addr
 lK:gn
 yX:Addr
 uY:gn
def Adr.C (A:Adr):Nat->Addr
 | 0=>A.c0
 | 1=>A.c1
 | 2=>A.c2
 | 3=>A.c3
 | 4=>A.c4
 | 5=>A.c5
 | 6=>A.c6
 |_=>A.c7
def Adr.fk (A:Adr):Nat->Addr
 | 0=>A.Pm
 | 1=>A.Pn
 | 2=>A.Po
 | 3=>A.Pp
 | 4=>A.Pq
 | 5=>A.Pr
 | 6=>A.Pt
 |_=>A.Pu
def Adr.fkd (A:Adr):Nat->gn
 | 0=>A.Kw
 | 1=>A.Kx
 | 2=>A.Ky
 | 3=>A.Kz
 | 4=>A.KA
 | 5=>A.KC
 | 6=>A.KD
 |_=>A.KG
def Adr.fn (A:Adr):Nat->Addr
 | 0=>A.f_n
 | 1=>A.f_n
 | 2=>A.f_n
 | 3=>A.f_n
 | 4=>A.RC
 | 5=>A.f_n
 | 6=>A.f_n
 |_=>A.f_n
def Adr.fnd (A:Adr):Nat->gn
 | 0=>A.DW
 | 1=>A.DW
 | 2=>A.DW
 | 3=>A.DW
 | 4=>A.Ol
 | 5=>A.DW
 | 6=>A.DW
 |_=>A.DW
def Adr.ft (A:Adr):Nat->Addr
 | 0=>A.Pw
 | 1=>A.Px
 | 2=>A.Py
 | 3=>A.Pz
 | 4=>A.f_t
 | 5=>A.f_t
 | 6=>A.f_t
 |_=>A.PB
def Adr.ftd (A:Adr):Nat->gn
 | 0=>A.KI
 | 1=>A.KJ
 | 2=>A.KL
 | 3=>A.KN
 | 4=>A.KH
 | 5=>A.KH
 | 6=>A.KH
 |_=>A.KO
def nm:Nat->Str
 | 0=>ar "matter"
 | 1=>ar "change"
 | 2=>ar "mend"
 | 3=>ar "put off"
 | 4=>ar "close"
 | 5=>ar "lay"
 | 6=>ar "rest"
 |_=>ar "point"
structure Txt (P:Params)(K:ba)(mg:Str->Option Value)(A:Adr):Prop where
 PM:mg "fits"=some (.ref A.fits)
 KW:Fun K "fits" "fits" Ks A.fits A.Cj
 PN:Binds K A.Cj ["things","edit"] []
 qU:mg "require_fit"=some (.ref A.oz)
 kQ:Fun K "require_fit" "require_fit" qP A.oz A.jn
 qV:Binds K A.jn ["things","edit"] []
 mG:mg "words_of"=some (.ref A.words_of)
 jx:Fun K "words_of" "words_of" yO A.words_of A.ij
 mH:Binds K A.ij ["clause"] []
 oJ:mg "clause_of"=some (.ref A.pS)
 jW:Fun K "clause_of" "clause_of" vZ A.pS A.iW
 oK:Binds K A.iW ["words"] []
 DY:mg "motion_of"=some (.ref A.lI)
 oM:Fun K "motion_of" "motion_of" wb A.lI A.gm
 DZ:Binds K A.gm ["told"] []
 KY:mg "bar_of"=some (.ref A.FU)
 D5:Fun K "bar_of" "bar_of" DP A.FU A.uO
 KZ:Binds K A.uO ["pile","closed"] []
 tO:mg "has_matter"=some (.ref A.rG)
 mI:Fun K "has_matter" "has_matter" l7 A.rG A.kF
 tP:Binds K A.kF ["pile"] []
 xh:mg "can_be_mended"=some (.ref A.kG)
 nz:Fun K "can_be_mended" "can_be_mended" m7 A.kG A.gQ
 xj:Binds K A.gQ ["pile"] []
 qm:mg "has_what_it_needs"=some (.ref A.gs)
 iS:Fun K "has_what_it_needs" "has_what_it_needs" iQ A.gs A.eE
 qo:Binds K A.eE ["kind","pile"] []
 rR:mg "require_in_order"=some (.ref A.gR)
 jy:Fun K "require_in_order" "require_in_order" ji A.gR A.e9
 rS:Binds K A.e9 ["kind","pile","closed"] []
 bS:mg "require"=some (.ref A.tN)
 bO:Fun K "require" "require" A8 A.tN A.jo
 bT:Binds K A.jo ["holds"] []
 Iw:mg "is_sign"=some (.ref A.Ck)
 Bc:Fun K "is_sign" "is_sign" A9 A.Ck A.rH
 Iy:Binds K A.rH ["sign"] []
 Iz:mg "is_word"=some (.ref A.Cm)
 Be:Fun K "is_word" "is_word" uL A.Cm A.rJ
 IA:Binds K A.rJ ["word"] []
 D8:mg "is_number"=some (.ref A.uP)
 wu:Fun K "is_number" "is_number" oo A.uP A.mf
 D9:Binds K A.mf ["word"] []
 dN:mg "read_number"=some (.ref A.jU)
 cX:Fun K "read_number" "read_number" qR A.jU A.gu
 dO:Binds K A.gu ["word"] []
 kR:mg "read_clause"=some (.ref A.oB)
 hV:Fun K "read_clause" "read_clause" kA A.oB A.jq
 kS:Binds K A.jq ["words"] []
 Ea:mg "read_text"=some (.ref A.uQ)
 wx:Fun K "read_text" "read_text" oq A.uQ A.mh
 Eb:Binds K A.mh ["words"] []
 wy:mg "read_edit"=some (.ref A.uR)
 oO:Fun K "read_edit" "read_edit" wc A.uR A.mi
 wz:Binds K A.mi ["words"] []
 Ec:mg "read_mend"=some (.ref A.uS)
 wA:Fun K "read_mend" "read_mend" we A.uS A.mj
 Ee:Binds K A.mj ["words"] []
 yY:mg "read_sitting"=some (.ref A.mn)
 oQ:Fun K "read_sitting" "read_sitting" ou A.mn A.iD
 yZ:Binds K A.iD ["words"] []
 wB:mg "read_deed"=some (.ref A.pU)
 oR:Fun K "read_deed" "read_deed" wg A.pU A.iX
 wC:Binds K A.iX ["row"] []
 xl:mg "words_of_text"=some (.ref A.kJ)
 nA:Fun K "words_of_text" "words_of_text" nh A.kJ A.gS
 xm:Binds K A.gS ["text"] []
 xq:mg "words_of_edit"=some (.ref A.kK)
 nB:Fun K "words_of_edit" "words_of_edit" ni A.kK A.gU
 xr:Binds K A.gU ["edit"] []
 y0:mg "words_behind"=some (.ref A.mr)
 oS:Fun K "words_behind" "words_behind" jj A.mr A.iE
 y3:Binds K A.iE ["deed"] []
 oU:mg "show_deed"=some (.ref A.i8)
 jX:Fun K "show_deed" "show_deed" wj A.i8 A.eQ
 oV:Binds K A.eQ ["deed"] []
 IB:mg "is_kept"=some (.ref A.Cn)
 IC:Fun K "is_kept" "is_kept" Ir A.Cn A.rK
 ID:Binds K A.rK ["need","ayes","noes"] []
 Bf:mg "do_deed"=some (.ref A.Co)
 uZ:Fun K "do_deed" "do_deed" Ba A.Co A.rL
 Bg:Binds K A.rL ["chamber","deed"] []
 K0:mg "do_row"=some (.ref A.FV)
 Ef:Fun K "do_row" "do_row" DQ A.FV A.uT
 K1:Binds K A.uT ["chamber","row","number"] []
 K2:mg "replay"=some (.ref A.replay)
 Eg:Fun K "replay" "replay" DR A.replay A.uU
 K4:Binds K A.uU ["seats","rows"] []
 oW:mg "read_name"=some (.ref A.pV)
 jY:Fun K "read_name" "read_name" oy A.pV A.iY
 oX:Binds K A.iY ["word"] []
 Cs:mg "read_seats"=some (.ref A.rM)
 tQ:Fun K "read_seats" "read_seats" tI A.rM A.kL
 Ct:Binds K A.kL ["word"] []
 Cu:mg "read_asked"=some (.ref A.rN)
 tR:Fun K "read_asked" "read_asked" tJ A.rN A.kM
 Cv:Binds K A.kM ["kind","words"] []
 Cw:mg "read_order"=some (.ref A.mw)
 tS:Fun K "read_order" "read_order" tK A.mw A.hG
 Cy:Binds K A.hG ["row"] []
 xt:mg "require_blank"=some (.ref A.hJ)
 nF:Fun K "require_blank" "require_blank" ny A.hJ A.eR
 xu:Binds K A.eR ["rows"] []
 Eh:mg "read_back"=some (.ref A.lJ)
 wD:Fun K "read_back" "read_back" wk A.lJ A.mx
 Ei:Binds K A.mx ["seats","rows"] []
 Cz:mg "show_state"=some (.ref A.rO)
 tT:Fun K "show_state" "show_state" l9 A.rO A.kO
 CA:Binds K A.kO ["chamber"] []
 y4:mg "show_parting"=some (.ref A.my)
 y6:Fun K "show_parting" "show_parting" yU A.my A.iF
 y7:Binds K A.iF ["one","other"] []
 K5:mg "answer"=some (.ref A.answer)
 Ej:Fun K "answer" "answer" DS A.answer A.uV
 K6:Binds K A.uV ["kind","chamber","asked"] []
 Ek:mg "_law_cell_at"=some (.ref A.uW)
 wF:Fun K "_law_cell_at" "_law_cell_at" wm A.uW A.mz
 El:Binds K A.mz ["_law_script","_law_k"] []
 y8:mg "_law_name"=some (.ref A.Cp)
 tU:Fun K "_law_name" "_law_name" DT A.Cp A.pW
 y9:Binds K A.pW ["_law_cell","_law_k"] []
 Em:mg "_law_told"=some (.ref A.Cq)
 zc:Fun K "_law_told" "_law_told" DU A.Cq A.pX
 En:Binds K A.pX ["_law_desk","_law_text"] []
 Eo:mg "_law_by_base"=some (.ref A.pY)
 wG:Fun K "_law_by_base" "_law_by_base" wq A.pY A.iZ
 Ep:Binds K A.iZ ["_law_desk","_law_text"] []
 Au:mg "_law_first_bad"=some (.ref A.oE)
 qW:Fun K "_law_first_bad" "_law_first_bad" qT A.oE A.jr
 Av:Binds K A.jr ["_law_one","_law_name_here","_law_cell"] []
 CB:mg "_law_rows_bad"=some (.ref A.rP)
 tV:Fun K "_law_rows_bad" "_law_rows_bad" tM A.rP A.kP
 CC:Binds K A.kP ["_law_one","_law_name_here","_law_cell"] []
 MY:mg "_law_bad"=some (.ref A.Ku)
 G7:Fun K "_law_bad" "_law_bad" G6 A.Ku A.yV
 MZ:Binds K A.yV ["_law_one","_law_other","_law_name_here","_law_cell"] []
 RD:mg "law"=some (.ref A.law)
 RE:Fun K "law" "law" Kt A.law A.Kv
 RF:∀(s:Shared) (v:Value),BindsTo s A.Kv ⟨[v],[]⟩ [("_law_script",v)]
 Tc:mg "range"=none
 rT:mg "list"=none
 K7:mg "str"=none
 Om:mg "int"=none
 T7:mg "bool"=none
 CD:mg "isinstance"=none
 UM:mg "min"=none
 il:mg "len"=none
 G8:mg "all"=none
 RG:mg "any"=none
 RH:mg "ord"=none
 wH:mg "enumerate"=none
 RI:mg "sum"=none
 RJ:mg "max"=none
 K8:mg "sorted"=none
 IE:mg "FIGURES"=some (.str (ar "0123456789") A.FW)
 zd:mg "MOST_FIGURES"=some (.int 10 A.xa)
 CF:mg "MOST_SIGNS"=some (.int 20 A.Aq)
 ze:mg "LAST_SITTING"=some (.int 999999999 A.xb)
 IF:mg "PERCENT"=some (.int 37 A.FX)
 PQ:mg "LONE"=some (.ref A.Cr)
 PR:∀H,SqT K H A.Cr [.str (ar "close"),.str (ar "lay"),.str (ar "rest"),.str (ar "drop")]
 CG:mg "CLOSED_BAR"=some (.int 4 A.Ar)
 zf:mg "MOST_LETTERS"=some (.int 12 A.xg)
 CH:mg "MOST_SEATS"=some (.int 1000000000 A.As)
 Er:mg "WITH_NAME"=some (.ref A.jV)
 Es:∀H,SqT K H A.jV [.str (ar "order"),.str (ar "state"),.str (ar "minutes")]
 Aw:mg "WITH_NUMBER"=some (.ref A.hU)
 Ax:∀H,SqT K H A.hU [.str (ar "open"),.str (ar "read"),.str (ar "text")]
 Et:mg "Matter"=some (.ref (A.C 0))
 Eu:mg "Change"=some (.ref (A.C 1))
 K9:mg "Mend"=some (.ref (A.C 2))
 Ew:mg "PutOff"=some (.ref (A.C 3))
 G9:mg "Close"=some (.ref (A.C 4))
 Oo:mg "Lay"=some (.ref (A.C 5))
 La:mg "Rest"=some (.ref (A.C 6))
 Hd:mg "Point"=some (.ref (A.C 7))
 cl:∀k,k < 8->Cls K (A.C k)
 He:mg "RANKS"=some (.ref A.tab)
 tb:Pa P K A.tab
 rk:∀k,k < 8->∃t,V7 K A.tab (nm k)=some (some (.int k t))
 oY:∀k,k < 8->Meth K (A.C k) "kind" (A.fk k)
 PU:∀k,k < 8->Meth K (A.C k) "need" (A.fn k)
 Lb:∀k,k < 8->Meth K (A.C k) "told" (A.ft k)
 PV:∀k,k < 8->Meth K (A.C k) "rank" A.f_r
 Ex:Mk K (A.C 0) A.PD
 Ey:Mk K (A.C 1) A.PF
 Lc:Mk K (A.C 2) A.PH
 Ez:Mk K (A.C 3) A.PK
 Hf:Mk K (A.C 7) A.PL
 T8:Fun K "kind" "Matter.kind" qA A.Pm A.Kw
 T9:Fun K "kind" "Change.kind" qB A.Pn A.Kx
 Ua:Fun K "kind" "Mend.kind" vT A.Po A.Ky
 Ub:Fun K "kind" "PutOff.kind" qC A.Pp A.Kz
 Uc:Fun K "kind" "Close.kind" ti A.Pq A.KA
 Ud:Fun K "kind" "Lay.kind" yB A.Pr A.KC
 Ue:Fun K "kind" "Rest.kind" vU A.Pt A.KD
 Ug:Fun K "kind" "Point.kind" tj A.Pu A.KG
 F_r:Fun K "rank" "Motion.rank" qD A.f_r A.MX
 F_n:Fun K "need" "Motion.need" Ak A.f_n A.DW
 UR:Fun K "need" "Close.need" B4 A.RC A.Ol
 F_t:Fun K "told" "Motion.told" qE A.f_t A.KH
 Uh:Fun K "told" "Matter.told" qF A.Pw A.KI
 Ui:Fun K "told" "Change.told" qG A.Px A.KJ
 Uj:Fun K "told" "Mend.told" vV A.Py A.KL
 Uk:Fun K "told" "PutOff.told" qH A.Pz A.KN
 Ul:Fun K "told" "Point.told" tq A.PB A.KO
 Um:Fun K "__init__" "Matter.__init__" qI A.PD A.KP
 Uo:Fun K "__init__" "Change.__init__" qJ A.PF A.KQ
 Up:Fun K "__init__" "Mend.__init__" vW A.PH A.KR
 Uq:Fun K "__init__" "PutOff.__init__" qK A.PK A.KS
 Ur:Fun K "__init__" "Point.__init__" tw A.PL A.KU
 oZ:∀k,k < 8->Binds K (A.fkd k) ["self"] []
 PX:∀k,k < 8->Binds K (A.fnd k) ["self"] []
 Ld:∀k,k < 8->Binds K (A.ftd k) ["self"] []
 PY:∀k,k < 8->Binds K A.MX ["self"] []
 RK:Binds K A.KP ["self","text"] []
 na0:cM K (A.C 0) "text"
 RL:Binds K A.KQ ["self","edit"] []
 na1:cM K (A.C 1) "edit"
 RM:Binds K A.KR ["self","edit"] []
 na2:cM K (A.C 2) "edit"
 RN:Binds K A.KS ["self","sitting"] []
 na3:cM K (A.C 3) "sitting"
 RO:Binds K A.KU ["self","clause"] []
 na7:cM K (A.C 7) "clause"
 mkn:∀k,k=4\/k=5\/k=6->MkN K (A.C k)
 Bh:mg "Chamber"=some (.ref A.aB)
 az:Cls K A.aB
 Bi:Mk K A.aB A.js
 zg:Fun K "__init__" "Chamber.__init__" n9 A.js A.iG
 o8:Binds K A.iG ["self","seats"] []
 zh:Meth K A.aB "move" A.jt
 zi:Fun K "move" "Chamber.move" oa A.jt A.iH
 zj:Binds K A.iH ["self","told"] []
 zk:Meth K A.aB "vote" A.ju
 zm:Fun K "vote" "Chamber.vote" oe A.ju A.iI
 zo:Binds K A.iI ["self","ayes","noes"] []
 zp:Meth K A.aB "drop" A.jv
 zq:Fun K "drop" "Chamber.drop" og A.jv A.iJ
 zr:Binds K A.iJ ["self"] []
 zt:Meth K A.aB "take" A.jw
 Le:Fun K "take" "Chamber.take" yM A.jw A.iK
 zu:Binds K A.iK ["self","number"] []
 rV:Meth K A.aB "in_order" A.fJ
 FY:Fun K "in_order" "Chamber.in_order" rq A.fJ A.fb
 rW:Binds K A.fb ["self"] []
 xw:Meth K A.aB "state" A.iL
 xx:Fun K "state" "Chamber.state" iC A.iL A.gW
 xy:Binds K A.gW ["self"] []
 u0:Meth K A.aB "motion" A.gX
 u3:Fun K "motion" "Chamber.motion" lz A.gX A.gv
 u4:Binds K A.gv ["self","number"] []
 tW:Meth K A.aB "minutes" A.gw
 tX:Fun K "minutes" "Chamber.minutes" jR A.gw A.fK
 tY:Binds K A.fK ["self"] []
 tZ:Meth K A.aB "pending" A.gx
 t4:Fun K "pending" "Chamber.pending" gj A.gx A.fM
 t5:Binds K A.fM ["self"] []
 o9:Meth K A.aB "told_aside" A.eF
 pd:Fun K "told_aside" "Chamber.told_aside" ig A.eF A.ef
 pf:Binds K A.ef ["self","number"] []
 ip:Meth K A.aB "require_can_be_made" A.cF
 iq:Fun K "require_can_be_made" "Chamber.require_can_be_made" dX A.cF A.cy
 ir:Binds K A.cy ["self","told"] []
 eW:Meth K A.aB "require_pending" A.dj
 jK:Fun K "require_pending" "Chamber.require_pending" eV A.dj A.cY
 eX:Binds K A.cY ["self"] []
 lL:Meth K A.aB "decide" A.eS
 u5:Fun K "decide" "Chamber.decide" lC A.eS A.ei
 lO:Binds K A.ei ["self","word"] []
 gz:Meth K A.aB "end_decision" A.cU
 mJ:Fun K "end_decision" "Chamber.end_decision" gk A.cU A.cI
 gA:Binds K A.cI ["self","deed"] []
 qp:Meth K A.aB "carry_out" A.fg
 Fp:Fun K "carry_out" "Chamber.carry_out" ql A.fg A.eG
 qt:Binds K A.eG ["self","motion"] []
 lP:cM K A.aB "seats"
 d5:cM K A.aB "sitting"
 et:cM K A.aB "closed"
 dB:cM K A.aB "made"
 cO:cM K A.aB "pile"
 g0:cM K A.aB "aside"
 fO:cM K A.aB "decided"
 gB:cM K A.aB "first_texts"
 gJ:cM K A.aB "edits_kept"
 d7:cM K A.aB "rows"
 PZ:mg "Desk"=some (.ref A.cz)
 cK:Cls K A.cz
 P0:Mk K A.cz A.oF
 EA:Fun K "__init__" "Desk.__init__" vX A.oF A.mB
 EB:Binds K A.mB ["self"] []
 cA:Meth K A.cz "say" A.gY
 FZ:Fun K "say" "Desk.say" rD A.gY A.fV
 cB:Binds K A.fV ["self","text"] []
 wI:Meth K A.cz "keep" A.oG
 EC:Fun K "keep" "Desk.keep" vY A.oG A.mD
 wJ:Binds K A.mD ["self","name","chamber"] []
 t6:Meth K A.cz "chamber_of" A.gy
 t7:Fun K "chamber_of" "Desk.chamber_of" jS A.gy A.fN
 t8:Binds K A.fN ["self","name"] []
 eT:cM K A.cz "chambers"
 cZ:mg "ChamberError"=some (.ref A.bc)
 CI:mg "NoFit"=some (.ref A.cJ)
 zv:mg "Barred"=some (.ref A.bP)
 F0:mg "NoMatter"=some (.ref A.mE)
 F2:mg "NoChange"=some (.ref A.mF)
 F3:mg "NotLater"=some (.ref A.gZ)
 u6:mg "Nothing"=some (.ref A.bI)
 u7:mg "TooMany"=some (.ref A.bN)
 QS:mg "NoAside"=some (.ref A.pZ)
 RP:mg "NotYet"=some (.ref A.oH)
 rX:mg "NoNumber"=some (.ref A.bu)
 p5:mg "NoRow"=some (.ref A.bV)
 ED:mg "NoName"=some (.ref A.bH)
 d8:Og K A.bc
 Lf:BW K A.cJ
 zw:kj K (.ref A.cJ) (.ref A.bV)=some false
 xA:kj K (.ref A.cJ) (.ref A.bH)=some false
 xB:kj K (.ref A.cJ) (.ref A.bP)=some false
 zx:kj K (.ref A.cJ) (.ref A.cJ)=some true
 gK:kj K (.ref A.cJ) (.ref A.bc)=some true
 EE:BW K A.mE
 kT:kj K (.ref A.mE) (.ref A.bc)=some true
 EF:BW K A.mF
 kU:kj K (.ref A.mF) (.ref A.bc)=some true
 F4:BW K A.bI
 u9:kj K (.ref A.bI) (.ref A.bV)=some false
 t9:kj K (.ref A.bI) (.ref A.bH)=some false
 ua:kj K (.ref A.bI) (.ref A.bP)=some false
 vc:kj K (.ref A.bI) (.ref A.cJ)=some false
 qu:kj K (.ref A.bI) (.ref A.bu)=some false
 rY:kj K (.ref A.bI) (.ref A.bI)=some true
 fX:kj K (.ref A.bI) (.ref A.bc)=some true
 F5:BW K A.bN
 vd:kj K (.ref A.bN) (.ref A.bV)=some false
 ub:kj K (.ref A.bN) (.ref A.bH)=some false
 uc:kj K (.ref A.bN) (.ref A.bP)=some false
 ve:kj K (.ref A.bN) (.ref A.cJ)=some false
 qv:kj K (.ref A.bN) (.ref A.bu)=some false
 rZ:kj K (.ref A.bN) (.ref A.bI)=some false
 r0:kj K (.ref A.bN) (.ref A.bN)=some true
 fY:kj K (.ref A.bN) (.ref A.bc)=some true
 P1:BW K A.pZ
 lQ:kj K (.ref A.pZ) (.ref A.bc)=some true
 EG:BW K A.bu
 ud:kj K (.ref A.bu) (.ref A.bV)=some false
 r6:kj K (.ref A.bu) (.ref A.bH)=some false
 r8:kj K (.ref A.bu) (.ref A.bP)=some false
 ue:kj K (.ref A.bu) (.ref A.cJ)=some false
 ph:kj K (.ref A.bu) (.ref A.bu)=some true
 fv:kj K (.ref A.bu) (.ref A.bc)=some true
 vf:ri K A.bP A.yW "bar"
 F6:Fun K "__init__" "Barred.__init__" qL A.yW A.uX
 F7:Binds K A.uX ["self","bar"] []
 IG:Ah K A.bP "bar"
 xC:kj K (.ref A.bP) (.ref A.bV)=some false
 vg:kj K (.ref A.bP) (.ref A.bH)=some false
 vh:kj K (.ref A.bP) (.ref A.bP)=some true
 gC:kj K (.ref A.bP) (.ref A.bc)=some true
 pj:ri K A.gZ A.rQ "sitting"
 CJ:Fun K "__init__" "NotLater.__init__" m5 A.rQ A.oI
 CK:Binds K A.oI ["self","sitting"] []
 Oq:Ah K A.gZ "sitting"
 kW:kj K (.ref A.gZ) (.ref A.bc)=some true
 QT:ri K A.oH A.DX "sitting"
 P2:Fun K "__init__" "NotYet.__init__" An A.DX A.Bb
 P4:Binds K A.Bb ["self","sitting"] []
 QU:Ah K A.oH "sitting"
 mK:kj K (.ref A.oH) (.ref A.bc)=some true
 iu:ri K A.bV A.p4 "row"
 Bj:Fun K "__init__" "NoRow.__init__" tD A.p4 A.lK
 p6:Binds K A.lK ["self","row"] []
 EH:Ah K A.bV "row"
 pk:kj K (.ref A.bV) (.ref A.bV)=some true
 gL:kj K (.ref A.bV) (.ref A.bc)=some true
 II:A3 K A.bH
 IJ:PySem.W.kitAny K (.ref A.bH) [.ref A.bI,.ref A.bu,.ref A.cJ,.ref A.bN,.ref A.bP]=some false
 vi:ri K A.bH A.yX "name"
 F8:Fun K "__init__" "NoName.__init__" qN A.yX A.uY
 F9:Binds K A.uY ["self","name"] []
 IK:Ah K A.bH "name"
 xD:kj K (.ref A.bH) (.ref A.bV)=some false
 vj:kj K (.ref A.bH) (.ref A.bH)=some true
 mL:kj K (.ref A.bH) (.ref A.bc)=some true
theorem sl (n:Nat)(h:n<=64:=by decide):n<=de:=ku h (by decide)
abbrev bl1:Str:=ar " "
def Asc (x:Str):Prop:=∀c∈x.cps.toList,c < 128
theorem Asc.ok {x:Str}(h:Asc x):Vs x=true:=by
 unfold Vs;rw[Array.all_eq_true];intro i hi;have:=h x.cps[i] (by simp)
 exact decide_eq_true (by omega)
theorem iw {sep:Str}(hs:Asc sep):∀ws:List Str,(∀w∈ws,Asc w)->Asc (gp sep ws)
 |[],_=>λc hc=>by
  have:c∈([]:List Nat):=hc;cases this
 |[x],h=>h x kb
 |x::y::r,h=>λc hc=>by
  have hc':c∈((x++sep)++gp sep (y::r)).cps.toList:=hc;rw[cv,cv,WB,WB]at hc';rcases hc' with (h1 | h1) | h1
  ·exact h x kb c h1
  ·exact hs c h1
  ·exact iw hs (y::r) (λw hw=>h w (kr _ hw)) c h1
structure Sh (n:Nat)(x:Str):Prop where
 asc:Asc x
 len:x.length<=n
structure Ed where
 k:Nat
 at_:Int
 th:Str
def kn:Nat->Str
 | 0=>ar "put"
 | 1=>ar "cut"
 |_=>ar "turn"
def jZ (e:Ed):List V:=match e.k with
 | 0=>[.str (kn 0),.int e.at_,.str e.th]
 | 1=>[.str (kn 1),.int e.at_]
 |_=>[.str (kn 2),.int e.at_,.str e.th]
def edD (e:Ed):PyData:=match e.k with
 | 0=>.tuple [.str (kn 0),.int e.at_,.str e.th]
 | 1=>.tuple [.str (kn 1),.int e.at_]
 |_=>.tuple [.str (kn 2),.int e.at_,.str e.th]
structure Ay (e:Ed):Prop where
 k3:e.k=0\/e.k=1\/e.k=2
 lo:-9999999999<=e.at_
 hi:e.at_<=9999999999
 th:Sh 100000 e.th
def jz (n:Nat)(e:Ed):Bool:=decide (0<=e.at_) && decide (e.at_ < (n:Int)+(if e.k=0 then 1 else 0))
def wK (xs:List Str)(e:Ed):List Str:=match e.k with
 | 0=>xs.take e.at_.toNat++e.th::xs.drop e.at_.toNat
 | 1=>xs.eraseIdx e.at_.toNat
 |_=>xs.set e.at_.toNat e.th
theorem Lg (e:Ed):atI (jZ e) 0=some (.str (kn e.k)):=by
 unfold jZ;split
 ·rename_i h;rw[h];rfl
 ·rename_i h;rw[h];rfl
 ·rename_i h1 h2;have:kn e.k=kn 2:=by
   unfold kn;split
   ·rename_i h;exact absurd h h1
   ·rename_i h;exact absurd h h2
   ·rfl
  rw[this];rfl
theorem Lh (e:Ed):atI (jZ e) 1=some (.int e.at_):=by
 unfold jZ;split <;> rfl
theorem P5 {e:Ed}(h:e.k≠1):atI (jZ e) 2=some (.str e.th):=by
 unfold jZ;split
 ·rfl
 ·rename_i z;exact absurd z h
 ·rfl
theorem Ga (e:Ed){K:ba}{H:Hp}{t:Addr}(h:SqT K H t (jZ e)):DV K H (edD e) (.ref t):=by
 unfold jZ at h;unfold edD;split
 ·rename_i z;rw[z]at h;unfold DV;exact⟨t,_,rfl,h,by unfold DVs;exact⟨_,_,rfl,by unfold DV;rfl,by unfold DVs;exact⟨_,_,rfl,by unfold DV;rfl,by unfold DVs;exact⟨_,_,rfl,by unfold DV;rfl,by unfold DVs;rfl⟩⟩⟩⟩
 ·rename_i z;rw[z]at h;unfold DV;exact⟨t,_,rfl,h,by unfold DVs;exact⟨_,_,rfl,by unfold DV;rfl,by unfold DVs;exact⟨_,_,rfl,by unfold DV;rfl,by unfold DVs;rfl⟩⟩⟩
 ·rename_i z1 z2;split at h
  ·rename_i z;exact absurd z z1
  ·rename_i z;exact absurd z z2
  ·unfold DV;exact⟨t,_,rfl,h,by unfold DVs;exact⟨_,_,rfl,by unfold DV;rfl,by unfold DVs;exact⟨_,_,rfl,by unfold DV;rfl,by unfold DVs;exact⟨_,_,rfl,by unfold DV;rfl,by unfold DVs;rfl⟩⟩⟩⟩
theorem Bk {i:Int}(h0:-9999999999<=i)(h1:i<=9999999999):i.natAbs.log2 < 1920:=by
 have e40:(2:Nat) ^ 40=1099511627776:=by decide
 have h:i.natAbs < 2 ^ 40:=by omega
 by_cases hz:i.natAbs=0
 ·rw[hz];decide
 ·exact Nat.lt_trans ((Nat.log2_lt hz).mpr h) (by decide)
theorem Li {e:Ed}(o:Ay e):(edD e).showable=true/\(edD e).hasDict=false/\(edD e).depth<=60:=by
 have lg:=Bk o.lo o.hi;unfold edD;split <;> simp[PyData.showable,PyData.showableAll,PyData.hasDict,PyData.hasDictAll,V6,Wg,lg]
theorem M0 {i:Int}(h0:-9999999999<=i)(h1:i<=9999999999):(ar (toString i)).length<=1921:=by
 have h:=int_text_length_le (a:=i) (k:=1920) (by decide) (Bk h0 h1)
 have e:(ar (toString i)).length=(toString i).length:=by first | exact PySem.ofString_length _ | exact ofString_length _
 omega
theorem Sh.rep {n:Nat}{x:Str}(s:Sh n x):(reprText x).length<=10 * n+2:=by
 have h:=StrLaws.reprText_len x λc hc=>Nat.lt_trans (s.asc c hc) (by decide)
 have:=s.len;omega
theorem Lj (k:Nat):Sh 4 (kn k):=by
 unfold kn;split <;> exact⟨by unfold Asc;trivial,by trivial⟩
theorem M3 {e:Ed}(o:Ay e):(edD e).shown.length<=1100000:=by
 have a:=(Lj 0).rep;have b:=(Lj 1).rep;have c:=(Lj 2).rep;have d:=o.th.rep;have i:=M0 o.lo o.hi;unfold edD;split
 ·have h:=tupleText_len_le [reprText (kn 0),ar (toString e.at_),reprText e.th];simp only[kx,V5,Wq,List.sum_nil,kf,List.length_nil]at h;show (tupleText [reprText (kn 0),ar (toString e.at_),reprText e.th]).length<=_;omega
 ·have h:=tupleText_len_le [reprText (kn 1),ar (toString e.at_)];simp only[kx,V5,Wq,List.sum_nil,kf,List.length_nil]at h;show (tupleText [reprText (kn 1),ar (toString e.at_)]).length<=_;omega
 ·have h:=tupleText_len_le [reprText (kn 2),ar (toString e.at_),reprText e.th];simp only[kx,V5,Wq,List.sum_nil,kf,List.length_nil]at h;show (tupleText [reprText (kn 2),ar (toString e.at_),reprText e.th]).length<=_;omega
theorem Ll {e:Ed}(o:Ay e):(V.str (kn e.k)=V.str (ar "put"))↔e.k=0:=by
 rcases o.k3 with h | h | h <;> rw[h] <;> trivial
theorem CL {e:Ed}(o:Ay e):(V.str (kn e.k)=V.str (ar "cut"))↔e.k=1:=by
 rcases o.k3 with h | h | h <;> rw[h] <;> trivial
def P6 (K:ba):Sp:=λvs H Q _=>∃(a t:Addr) (xs:List V) (e:Ed),vs=[.ref a,.ref t]/\SqL K H a xs/\SqT K H t (jZ e)/\Ay e/\Q (.bl (jz xs.length e)) H
def RQ (A:Adr)(K:ba):Sp:=λvs H Q E=>∃(a t:Addr) (xs:List V) (e:Ed),vs=[.ref a,.ref t]/\SqL K H a xs/\SqT K H t (jZ e)/\Ay e/\(jz xs.length e=true->Q .non H)/\(jz xs.length e=false->E (.ref A.cJ) none H)
theorem Lm {n:Nat}{e:Ed}:jz n e=true↔0<=e.at_/\e.at_ < (n:Int)+(if e.k=0 then 1 else 0):=by
 unfold jz;rw[gc,decide_eq_true_iff,decide_eq_true_iff]
section
variable{P:ko}{w:World}{K:ba}{mg:Str->Option Value}{base:Heap}{A:Adr}
theorem M4 (T:Txt w.params K mg A):FnOk P w K mg base CX0 1 A.fits A.Cj ["things","edit"] (P6 K):=by
 refine T.KW.ok B9 (λvs H Q E h=>?_) (λcdv A' outer s H vs Q E hr h=>?_)
 ·obtain⟨a,t,xs,e,rfl,_⟩:=h;rfl
 ·obtain⟨a,t,xs,e,rfl,ha,ht,o,q⟩:=h;refine⟨_,(ak (aT (i:=2) B9.nd rfl (ro rfl) (bB bM (by rfl) T.il eC (aa (pv 0) ae)))
 (ak (bW (aL bf (aY bp (pv 1) ao (λ_ _=>rfl)) ag (aK _))
 (aq (aT (i:=2) B9.nd rfl (ro rfl) (av rg (pv 2) ao)))
 aO)
 (aq (aI (jc nO N6 ao (aY bp (pv 1) ao (λ_ _=>rfl)) (pv 2)))))),?_⟩
  try dsimp only[bh]
  refine⟨_,rfl,a,xs,rfl,.inl ha,?_⟩;refine ixv rfl ht (Lg e) ⟨rfl,_,rfl,ie (λz=>?_) (λz=>?_)⟩
  ·have hk:e.k=0:=(Ll o).mp (of_decide_eq_true z);refine⟨_,rfl,_,_,rfl,rfl,?_⟩;unfold jz at q;rw[if_pos hk]at q;refine ixv rfl ht (Lh e) ⟨_,_,rfl,rfl,_,rfl,ie (λz1=>?_) (λz1=>?_)⟩
   ·have h1:0<=e.at_:=of_decide_eq_true z1;rw[decide_eq_true h1,Bool.true_and]at q;exact⟨_,rfl,_,_,rfl,rfl,q⟩
   ·have h1:¬0<=e.at_:=λy=>z1 (decide_eq_true y)
    rw[decide_eq_false h1,Bool.false_and]at q;exact q
  ·have hk:¬e.k=0:=λy=>z (decide_eq_true ((Ll o).mpr y))
   unfold jz at q;rw[if_neg hk,Int.add_zero]at q;refine ixv rfl ht (Lh e) ⟨_,_,rfl,rfl,_,rfl,ie (λz1=>?_) (λz1=>?_)⟩
   ·have h1:0<=e.at_:=of_decide_eq_true z1;rw[decide_eq_true h1,Bool.true_and]at q;exact⟨_,rfl,_,_,rfl,rfl,q⟩
   ·have h1:¬0<=e.at_:=λy=>z1 (decide_eq_true y)
    rw[decide_eq_false h1,Bool.false_and]at q;exact q
theorem pq (T:Txt w.params K mg A):FnOk P w K mg base (CXX P w) 2 A.oz A.jn ["things","edit"] (RQ A K):=by
 refine T.kQ.okX yN (λvs H Q E h=>?_) (λcdv A' outer s H vs Q E hr h=>?_)
 ·obtain⟨a,t,xs,e,rfl,_⟩:=h;rfl
 ·obtain⟨a,t,xs,e,rfl,ha,ht,o,q1,q2⟩:=h;have hgd:=hr.gd;have xE:=hr.units;refine⟨_,(aC (bU (q9 (q8 (bw (M4 T) hr rfl T.PM T.KW.kp T.PN .nil a6 (aa (pv 0) (aa (pv 1) ae)))))
 (aC (i7 T.Lf rfl rfl T.CI (aa (Rt hgd xE (pv 1)) ae)))
 (gf aO))),?_⟩
  try dsimp only[bh]
  refine⟨_,rfl,_,rfl,a,t,xs,e,rfl,ha,ht,o,_,rfl,?_⟩;cases hf:jz xs.length e with
  |true=>exact cf (q1 hf)
  |false =>
   refine aX λGq gq=>?_
   obtain⟨s1,s2,s3⟩:=Li o;have s4:=M3 o;refine gq ?_;refine dZ ⟨_,rfl,t,edD e,rfl,Ga e ht,s1,s2,s3,ku (Nat.add_le_add_right s4 _) (by trivial),λz=>?_⟩
   exact⟨(sl 1),q2 hf⟩
end
mutual
theorem eqv_refl:∀d:PyData,d.canLay0=true->Wc d d=true
 | .none,_=>by simp[Wc]
 | .bool _,_=>by simp[Wc]
 | .int _,_=>by simp[Wc]
 | .str _,_=>by simp[Wc]
 | .list xs,h=>by simp only[Wc];exact eqvAll_refl xs (by simpa [VG] using h)
 | .tuple xs,h=>by simp only[Wc];exact eqvAll_refl xs (by simpa [VG] using h)
 | .dict _,h=>by simp[VG]at h
theorem eqvAll_refl:∀xs:List PyData,VI xs=true->PyData.eqvAll xs xs=true
 |[],_=>by simp[PyData.eqvAll]
 |x::xs,h=>by
  have h':x.canLay0=true/\VI xs=true:=by simpa [VI] using h
  simp only[PyData.eqvAll,eqv_refl x h'.1,eqvAll_refl xs h'.2,Bool.and_self]
end
theorem UN:∀k,k < 8->Vs (nm k)=true
 | 0,_=>by trivial
 | 1,_=>by trivial
 | 2,_=>by trivial
 | 3,_=>by trivial
 | 4,_=>by trivial
 | 5,_=>by trivial
 | 6,_=>by trivial
 | 7,_=>by trivial
 |n+8,h=>absurd h (by omega)
def nd (k:Nat):Str:=if k=4 then ar "two thirds" else ar "more"
def rowOf (k:Nat)(v:V):List V:=match k with
 | 4=>[.str (nm 4)]
 | 5=>[.str (nm 5)]
 | 6=>[.str (nm 6)]
 |k=>[.str (nm k),v]
def vk (k:Nat)(v:V):List (Str×V):=match k with
 | 0=>[(ar "text",v)]
 | 1=>[(ar "edit",v)]
 | 2=>[(ar "edit",v)]
 | 3=>[(ar "sitting",v)]
 | 4=>[]
 | 5=>[]
 | 6=>[]
 |_=>[(ar "clause",v)]
theorem Ln {m:Str}(h:m≠ar "text"/\m≠ar "edit"/\m≠ar "sitting"/\m≠ar "clause")(k:Nat)(v:V):(vk k v).lookup m=none:=by
 obtain⟨h1,h2,h3,h4⟩:=h;have b1:(m == ar "text")=false:=beq_eq_false_iff_ne.mpr h1;have b2:(m == ar "edit")=false:=beq_eq_false_iff_ne.mpr h2;have b3:(m == ar "sitting")=false:=beq_eq_false_iff_ne.mpr h3;have b4:(m == ar "clause")=false:=beq_eq_false_iff_ne.mpr h4;unfold vk;split <;> simp[List.lookup_cons,b1,b2,b3,b4]
theorem j0 (k:Nat)(v:V):(vk k v).lookup (ar "kind")=none:=Ln (by trivial) k v
theorem M5 (k:Nat)(v:V):(vk k v).lookup (ar "rank")=none:=Ln (by trivial) k v
theorem Hg (k:Nat)(v:V):(vk k v).lookup (ar "told")=none:=Ln (by trivial) k v
def eI (k:Nat):Sp:=λvs H Q _=>∃m:Addr,vs=[.ref m]/\Q (.str (nm k)) H
def Lo (A:Adr):Sp:=λvs H Q _=>∃(m:Addr) (k:Nat) (dx:Addr) (fs:List (Str×V)),k < 8/\vs=[.ref m]/\H m=some (.ins (A.C k) dx fs)/\fs.lookup (ar "kind")=none/\Q (.int k) H
def Hh (A:Adr):Sp:=λvs H Q _=>∃(m:Addr) (k:Nat) (dx:Addr) (fs:List (Str×V)),k < 8/\vs=[.ref m]/\H m=some (.ins (A.C k) dx fs)/\fs.lookup (ar "kind")=none/\∀p,H p=none->Q (.ref p) (upd H p (.tup [.str (nm k)]))
def xU (A:Adr)(k:Nat)(a:Str):Sp:=λvs H Q _=>∃(m dx:Addr) (fs:List (Str×V)) (v:V),vs=[.ref m]/\H m=some (.ins (A.C k) dx fs)/\fs.lookup (ar "kind")=none/\fs.lookup a=some v/\∀p,H p=none->Q (.ref p) (upd H p (.tup [.str (nm k),v]))
def Gb (A:Adr)(k:Nat):Sp:=λvs H Q _=>1<=k/\∃(m dx:Addr) (v:V),vs=[.ref m]/\H m=some (.ins (A.C k) dx (vk k v))/\∀p,H p=none->Q (.ref p) (upd H p (.tup (rowOf k v)))
def CM (A:Adr)(k:Nat):Sp:=λvs H Q _=>∃(m dx:Addr) (v:V),vs=[.ref m,v]/\H m=some (.ins (A.C k) dx [])/\Q .non (upd H m (.ins (A.C k) dx (vk k v)))
def Hi (A:Adr)(K:ba):Sp:=λvs H Q _=>∃(m dx L:Addr) (xs:List V),vs=[.ref m]/\H m=some (.ins (A.C 0) dx (vk 0 (.ref L)))/\SqL K H L xs/\∀p q,H p=none->H q=none->p≠q->Q (.ref q) (upd (upd H p (.lst xs)) q (.tup [.str (nm 0),.ref p]))
def M6 (A:Adr)(K:ba):Sp:=λvs H Q _=>∃(m dx L:Addr) (xs:List V),vs=[.ref m,.ref L]/\H m=some (.ins (A.C 0) dx [])/\SqL K H L xs/\∀p,H p=none->Q .non (upd (upd H p (.lst xs)) m (.ins (A.C 0) dx (vk 0 (.ref p))))
def Hk (A:Adr):Sp:=λvs H Q _=>∃(t:Addr) (k:Nat) (v:V),1<=k/\k < 8/\vs=[.ref t]/\H t=some (.tup (rowOf k v))/\∀m H',aS H H'->H m=none->(∃dx,H' m=some (.ins (A.C k) dx (vk k v)))->Q (.ref m) H'
def EI (A:Adr)(K:ba):Sp:=λvs H Q _=>∃(t L:Addr) (xs:List V),vs=[.ref t]/\H t=some (.tup [.str (nm 0),.ref L])/\SqL K H L xs /\
 ∀m p H',aS H H'->H m=none->H p=none->H' p=some (.lst xs)->(∃dx,H' m=some (.ins (A.C 0) dx (vk 0 (.ref p))))->Q (.ref m) H'
section
variable{P:ko}{w:World}{K:ba}{mg:Str->Option Value}{base:Heap}{A:Adr}
theorem zy (T:Txt w.params K mg A):FnOk P w K mg base CX0 1 A.Pm A.Kw ["self"] (eI 0):=by
 refine T.T8.ok yy (λvs H Q E h=>?_) (λcdv A' outer s H vs Q E hr h=>?_)
 ·obtain⟨m,rfl,_⟩:=h;rfl
 ·obtain⟨m,rfl,q⟩:=h;exact⟨_,(aq (aI ag)),q⟩
theorem zz (T:Txt w.params K mg A):FnOk P w K mg base CX0 1 A.Pn A.Kx ["self"] (eI 1):=by
 refine T.T9.ok yz (λvs H Q E h=>?_) (λcdv A' outer s H vs Q E hr h=>?_)
 ·obtain⟨m,rfl,_⟩:=h;rfl
 ·obtain⟨m,rfl,q⟩:=h;exact⟨_,(aq (aI ag)),q⟩
theorem CN (T:Txt w.params K mg A):FnOk P w K mg base CX0 1 A.Po A.Ky ["self"] (eI 2):=by
 refine T.Ua.ok B2 (λvs H Q E h=>?_) (λcdv A' outer s H vs Q E hr h=>?_)
 ·obtain⟨m,rfl,_⟩:=h;rfl
 ·obtain⟨m,rfl,q⟩:=h;exact⟨_,(aq (aI ag)),q⟩
theorem zA (T:Txt w.params K mg A):FnOk P w K mg base CX0 1 A.Pp A.Kz ["self"] (eI 3):=by
 refine T.Ub.ok yA (λvs H Q E h=>?_) (λcdv A' outer s H vs Q E hr h=>?_)
 ·obtain⟨m,rfl,_⟩:=h;rfl
 ·obtain⟨m,rfl,q⟩:=h;exact⟨_,(aq (aI ag)),q⟩
theorem Az (T:Txt w.params K mg A):FnOk P w K mg base CX0 1 A.Pq A.KA ["self"] (eI 4):=by
 refine T.Uc.ok Ai (λvs H Q E h=>?_) (λcdv A' outer s H vs Q E hr h=>?_)
 ·obtain⟨m,rfl,_⟩:=h;rfl
 ·obtain⟨m,rfl,q⟩:=h;exact⟨_,(aq (aI ag)),q⟩
theorem EJ (T:Txt w.params K mg A):FnOk P w K mg base CX0 1 A.Pr A.KC ["self"] (eI 5):=by
 refine T.Ud.ok DN (λvs H Q E h=>?_) (λcdv A' outer s H vs Q E hr h=>?_)
 ·obtain⟨m,rfl,_⟩:=h;rfl
 ·obtain⟨m,rfl,q⟩:=h;exact⟨_,(aq (aI ag)),q⟩
theorem CO (T:Txt w.params K mg A):FnOk P w K mg base CX0 1 A.Pt A.KD ["self"] (eI 6):=by
 refine T.Ue.ok B3 (λvs H Q E h=>?_) (λcdv A' outer s H vs Q E hr h=>?_)
 ·obtain⟨m,rfl,_⟩:=h;rfl
 ·obtain⟨m,rfl,q⟩:=h;exact⟨_,(aq (aI ag)),q⟩
theorem AA (T:Txt w.params K mg A):FnOk P w K mg base CX0 1 A.Pu A.KG ["self"] (eI 7):=by
 refine T.Ug.ok Aj (λvs H Q E h=>?_) (λcdv A' outer s H vs Q E hr h=>?_)
 ·obtain⟨m,rfl,_⟩:=h;rfl
 ·obtain⟨m,rfl,q⟩:=h;exact⟨_,(aq (aI ag)),q⟩
theorem j1 (T:Txt w.params K mg A):∀k,k < 8->FnOk P w K mg base CX0 1 (A.fk k) (A.fkd k) ["self"] (eI k)
 | 0,_=>zy T
 | 1,_=>zz T
 | 2,_=>CN T
 | 3,_=>zA T
 | 4,_=>Az T
 | 5,_=>EJ T
 | 6,_=>CO T
 | 7,_=>AA T
 |n+8,h=>absurd h (by omega)
theorem M7 (T:Txt w.params K mg A):FnOk P w K mg base CX0 2 A.f_r A.MX ["self"] (Lo A):=by
 have fP:∀k,k < 8->FnOk P w K mg base CX0 1 (A.fk k) (A.fkd k) ["self"] (eI k):=j1 T;refine T.F_r.ok yC (λvs H Q E h=>?_) (λcdv A' outer s H vs Q E hr h=>?_)
 ·obtain⟨m,k,dx,fs,_,rfl,_⟩:=h;rfl
 ·obtain⟨m,k,dx,fs,hk,rfl,hm,hl,q⟩:=h;obtain⟨t,ht⟩:=T.rk k hk;refine⟨_,(aq (aI (aY J2 (c8 (v:=V.ref A.tab) rfl T.He rfl) (eB (pv 0) (T.cl k hk) (T.oY k hk) (fP k hk) hr (T.oZ k hk) .nil a6) (λ_ _=>rfl)))),?_⟩
  try dsimp only[bh]
  exact⟨_,rfl,m,dx,fs,rfl,hm,hl,m,rfl,A.tab,nm k,.int k,_,rfl,rfl,T.tb,ht,⟨_,rfl⟩,q⟩
theorem vm (T:Txt w.params K mg A):FnOk P w K mg base CX0 2 A.f_t A.KH ["self"] (Hh A):=by
 have fP:∀k,k < 8->FnOk P w K mg base CX0 1 (A.fk k) (A.fkd k) ["self"] (eI k):=j1 T;refine T.F_t.ok yD (λvs H Q E h=>?_) (λcdv A' outer s H vs Q E hr h=>?_)
 ·obtain⟨m,k,dx,fs,_,rfl,_⟩:=h;rfl
 ·obtain⟨m,k,dx,fs,hk,rfl,hm,hl,q⟩:=h;refine⟨_,(aq (aI (a8 (aa (eB (pv 0) (T.cl k hk) (T.oY k hk) (fP k hk) hr (T.oZ k hk) .nil a6) ae)))),?_⟩
  try dsimp only[bh]
  exact⟨_,rfl,m,dx,fs,rfl,hm,hl,m,rfl,(sl 1),λp hp=>q p hp⟩
theorem zB (T:Txt w.params K mg A):FnOk P w K mg base CX0 2 A.Px A.KJ ["self"] (xU A 1 "edit"):=by
 have fP:∀k,k < 8->FnOk P w K mg base CX0 1 (A.fk k) (A.fkd k) ["self"] (eI k):=j1 T;refine T.Ui.ok yF (λvs H Q E h=>?_) (λcdv A' outer s H vs Q E hr h=>?_)
 ·obtain⟨m,dx,fs,v,rfl,_⟩:=h;rfl
 ·obtain⟨m,dx,fs,v,rfl,hm,hl,hv,q⟩:=h;obtain⟨k,hk,ek⟩:∃k,k < 8/\k=1:=⟨1,by decide,rfl⟩
  have hm':H m=some (.ins (A.C k) dx fs):=by rw[ek];exact hm
  refine⟨_,(aq (aI (a8 (aa (eB (pv 0) (T.cl k hk) (T.oY k hk) (fP k hk) hr (T.oZ k hk) .nil a6) (aa (bF (pv 0) rfl) ae))))),?_⟩
  try dsimp only[bh]
  subst ek;exact⟨_,rfl,m,dx,fs,rfl,hm,hl,m,rfl,_,rfl,m,A.C 1,dx,fs,v,rfl,hm,T.cl 1 hk,T.na1,hv,(sl 2),λp hp=>q p hp⟩
theorem pw (T:Txt w.params K mg A):FnOk P w K mg base CX0 1 A.PF A.KQ ["self","edit"] (CM A 1):=by
 refine T.Uo.ok yI (λvs H Q E h=>?_) (λcdv A' outer s H vs Q E hr h=>?_)
 ·obtain⟨m,dx,v,rfl,_⟩:=h;rfl
 ·obtain⟨m,dx,v,rfl,hm,q⟩:=h;refine⟨_,(aq (eA (pv 0) (pv 1) rfl)),?_⟩
  try dsimp only[bh]
  exact⟨_,rfl,_,rfl,m,A.C 1,dx,[],rfl,hm,T.cl 1 (by decide),T.na1,by decide,q⟩
theorem CP (T:Txt w.params K mg A):FnOk P w K mg base CX0 2 A.Py A.KL ["self"] (xU A 2 "edit"):=by
 have fP:∀k,k < 8->FnOk P w K mg base CX0 1 (A.fk k) (A.fkd k) ["self"] (eI k):=j1 T;refine T.Uj.ok B5 (λvs H Q E h=>?_) (λcdv A' outer s H vs Q E hr h=>?_)
 ·obtain⟨m,dx,fs,v,rfl,_⟩:=h;rfl
 ·obtain⟨m,dx,fs,v,rfl,hm,hl,hv,q⟩:=h;obtain⟨k,hk,ek⟩:∃k,k < 8/\k=2:=⟨2,by decide,rfl⟩
  have hm':H m=some (.ins (A.C k) dx fs):=by rw[ek];exact hm
  refine⟨_,(aq (aI (a8 (aa (eB (pv 0) (T.cl k hk) (T.oY k hk) (fP k hk) hr (T.oZ k hk) .nil a6) (aa (bF (pv 0) rfl) ae))))),?_⟩
  try dsimp only[bh]
  subst ek;exact⟨_,rfl,m,dx,fs,rfl,hm,hl,m,rfl,_,rfl,m,A.C 2,dx,fs,v,rfl,hm,T.cl 2 hk,T.na2,hv,(sl 2),λp hp=>q p hp⟩
theorem uf (T:Txt w.params K mg A):FnOk P w K mg base CX0 1 A.PH A.KR ["self","edit"] (CM A 2):=by
 refine T.Up.ok B6 (λvs H Q E h=>?_) (λcdv A' outer s H vs Q E hr h=>?_)
 ·obtain⟨m,dx,v,rfl,_⟩:=h;rfl
 ·obtain⟨m,dx,v,rfl,hm,q⟩:=h;refine⟨_,(aq (eA (pv 0) (pv 1) rfl)),?_⟩
  try dsimp only[bh]
  exact⟨_,rfl,_,rfl,m,A.C 2,dx,[],rfl,hm,T.cl 2 (by decide),T.na2,by decide,q⟩
theorem zC (T:Txt w.params K mg A):FnOk P w K mg base CX0 2 A.Pz A.KN ["self"] (xU A 3 "sitting"):=by
 have fP:∀k,k < 8->FnOk P w K mg base CX0 1 (A.fk k) (A.fkd k) ["self"] (eI k):=j1 T;refine T.Uk.ok yG (λvs H Q E h=>?_) (λcdv A' outer s H vs Q E hr h=>?_)
 ·obtain⟨m,dx,fs,v,rfl,_⟩:=h;rfl
 ·obtain⟨m,dx,fs,v,rfl,hm,hl,hv,q⟩:=h;obtain⟨k,hk,ek⟩:∃k,k < 8/\k=3:=⟨3,by decide,rfl⟩
  have hm':H m=some (.ins (A.C k) dx fs):=by rw[ek];exact hm
  refine⟨_,(aq (aI (a8 (aa (eB (pv 0) (T.cl k hk) (T.oY k hk) (fP k hk) hr (T.oZ k hk) .nil a6) (aa (bF (pv 0) rfl) ae))))),?_⟩
  try dsimp only[bh]
  subst ek;exact⟨_,rfl,m,dx,fs,rfl,hm,hl,m,rfl,_,rfl,m,A.C 3,dx,fs,v,rfl,hm,T.cl 3 hk,T.na3,hv,(sl 2),λp hp=>q p hp⟩
theorem pz (T:Txt w.params K mg A):FnOk P w K mg base CX0 1 A.PK A.KS ["self","sitting"] (CM A 3):=by
 refine T.Uq.ok yJ (λvs H Q E h=>?_) (λcdv A' outer s H vs Q E hr h=>?_)
 ·obtain⟨m,dx,v,rfl,_⟩:=h;rfl
 ·obtain⟨m,dx,v,rfl,hm,q⟩:=h;refine⟨_,(aq (eA (pv 0) (pv 1) rfl)),?_⟩
  try dsimp only[bh]
  exact⟨_,rfl,_,rfl,m,A.C 3,dx,[],rfl,hm,T.cl 3 (by decide),T.na3,by decide,q⟩
theorem AB (T:Txt w.params K mg A):FnOk P w K mg base CX0 2 A.PB A.KO ["self"] (xU A 7 "clause"):=by
 have fP:∀k,k < 8->FnOk P w K mg base CX0 1 (A.fk k) (A.fkd k) ["self"] (eI k):=j1 T;refine T.Ul.ok Al (λvs H Q E h=>?_) (λcdv A' outer s H vs Q E hr h=>?_)
 ·obtain⟨m,dx,fs,v,rfl,_⟩:=h;rfl
 ·obtain⟨m,dx,fs,v,rfl,hm,hl,hv,q⟩:=h;obtain⟨k,hk,ek⟩:∃k,k < 8/\k=7:=⟨7,by decide,rfl⟩
  have hm':H m=some (.ins (A.C k) dx fs):=by rw[ek];exact hm
  refine⟨_,(aq (aI (a8 (aa (eB (pv 0) (T.cl k hk) (T.oY k hk) (fP k hk) hr (T.oZ k hk) .nil a6) (aa (bF (pv 0) rfl) ae))))),?_⟩
  try dsimp only[bh]
  subst ek;exact⟨_,rfl,m,dx,fs,rfl,hm,hl,m,rfl,_,rfl,m,A.C 7,dx,fs,v,rfl,hm,T.cl 7 hk,T.na7,hv,(sl 2),λp hp=>q p hp⟩
theorem qX (T:Txt w.params K mg A):FnOk P w K mg base CX0 1 A.PL A.KU ["self","clause"] (CM A 7):=by
 refine T.Ur.ok Am (λvs H Q E h=>?_) (λcdv A' outer s H vs Q E hr h=>?_)
 ·obtain⟨m,dx,v,rfl,_⟩:=h;rfl
 ·obtain⟨m,dx,v,rfl,hm,q⟩:=h;refine⟨_,(aq (eA (pv 0) (pv 1) rfl)),?_⟩
  try dsimp only[bh]
  exact⟨_,rfl,_,rfl,m,A.C 7,dx,[],rfl,hm,T.cl 7 (by decide),T.na7,by decide,q⟩
theorem Lp {k:Nat}{f:Addr}{fd:gn}{ps:List Str}{sp:Sp}(h:∀vs H Q E,¬sp vs H Q E):FnOk P w K mg base CX0 k f fd ps sp :=
 ⟨λvs H Q E z=>(h vs H Q E z).elim,λ_ _ _ H _ _ vs Q E _ _ _ _ z=>(h vs H Q E z).elim⟩
theorem r9 {k:Nat}(hk:k=4\/k=5\/k=6):∀vs H Q E,Gb A k vs H Q E->Hh A vs H Q E:=λvs H Q E ⟨_,m,dx,v,e,hm,q⟩ =>
 ⟨m,k,dx,vk k v,by omega,e,hm,j0 k v,λp hp=>by
  have:=q p hp;rcases hk with rfl | rfl | rfl <;> exact this⟩
theorem mM (T:Txt w.params K mg A):∀k,k < 8->FnOk P w K mg base CX0 2 (A.ft k) (A.ftd k) ["self"] (Gb A k)
 | 0,_=>Lp λvs H Q E h=>absurd h.1 (by decide)
 | 1,_=>(zB T).imp λvs H Q E ⟨_,m,dx,v,e,hm,q⟩=>⟨m,dx,_,v,e,hm,j0 1 v,rfl,q⟩
 | 2,_=>(CP T).imp λvs H Q E ⟨_,m,dx,v,e,hm,q⟩=>⟨m,dx,_,v,e,hm,j0 2 v,rfl,q⟩
 | 3,_=>(zC T).imp λvs H Q E ⟨_,m,dx,v,e,hm,q⟩=>⟨m,dx,_,v,e,hm,j0 3 v,rfl,q⟩
 | 4,_=>(vm T).imp (r9 (.inl rfl))
 | 5,_=>(vm T).imp (r9 (.inr (.inl rfl)))
 | 6,_=>(vm T).imp (r9 (.inr (.inr rfl)))
 | 7,_=>(AB T).imp λvs H Q E ⟨_,m,dx,v,e,hm,q⟩=>⟨m,dx,_,v,e,hm,j0 7 v,rfl,q⟩
 |n+8,h=>absurd h (by omega)
theorem EK (T:Txt w.params K mg A):FnOk P w K mg base CX0 1 A.PD A.KP ["self","text"] (M6 A K):=by
 refine T.Um.ok yH (λvs H Q E h=>?_) (λcdv A' outer s H vs Q E hr h=>?_)
 ·obtain⟨m,dx,L,xs,rfl,_⟩:=h;rfl
 ·obtain⟨m,dx,L,xs,rfl,hm,hL,q⟩:=h;refine⟨_,(aq (eA (pv 0) (dS dY (by rfl) T.rT lZ (aa (pv 1) ae)) rfl)),?_⟩
  try dsimp only[bh]
  refine⟨_,rfl,L,xs,rfl,.inl hL,λp hp=>?_⟩
  have nmp:m≠p:=aQ hm hp;exact⟨_,rfl,m,A.C 0,dx,[],rfl,(ax nmp).trans hm,T.cl 0 (by decide),T.na0,by decide,q p hp⟩
theorem Lq (T:Txt w.params K mg A):FnOk P w K mg base CX0 2 A.Pw A.KI ["self"] (Hi A K):=by
 have fP:∀k,k < 8->FnOk P w K mg base CX0 1 (A.fk k) (A.fkd k) ["self"] (eI k):=j1 T;refine T.Uh.ok yE (λvs H Q E h=>?_) (λcdv A' outer s H vs Q E hr h=>?_)
 ·obtain⟨m,dx,L,xs,rfl,_⟩:=h;rfl
 ·obtain⟨m,dx,L,xs,rfl,hm,hL,q⟩:=h;obtain⟨k,hk,ek⟩:∃k,k < 8/\k=0:=⟨0,by decide,rfl⟩
  refine⟨_,(aq (aI (a8 (aa (eB (pv 0) (T.cl k hk) (T.oY k hk) (fP k hk) hr (T.oZ k hk) .nil a6) (aa (dS dY (by rfl) T.rT lZ (aa (bF (pv 0) rfl) ae)) ae))))),?_⟩
  try dsimp only[bh]
  subst ek;refine⟨_,rfl,m,dx,_,rfl,hm,j0 0 _,m,rfl,_,rfl,m,A.C 0,dx,_,_,rfl,hm,T.cl 0 hk,T.na0,rfl,L,xs,rfl,.inl hL,λp hp=>⟨(sl 2),λq' hq'=>?_⟩⟩
  have npq:p≠q':=aQ af hq';have hq:H q'=none:=by rw[ax (UU npq)]at hq';exact hq'
  exact q p q' hp hq npq
theorem CQ (T:Txt w.params K mg A):FnOk P w K mg base CX0 3 A.lI A.gm ["told"] (Hk A):=by
 refine T.oM.ok iT (λvs H Q E h=>?_) (λcdv A' outer s H vs Q E hr h=>?_)
 ·obtain⟨t,k,v,_,_,rfl,_⟩:=h;rfl
 ·obtain⟨t,k,v,h1,h8,rfl,ht,q⟩:=h;have gD:=hr;refine⟨_,(ak (aT (i:=1) iT.nd rfl (ro rfl) (aY bp (pv 0) ao (λ_ _=>rfl)))
 (ak (bW (aL bf (pv 1) ag (aK _))
 (aq (aI (fF T.Ex (EK T) gD rfl T.Et T.RK .nil a6 (aa (aY bp (pv 0) ao (λ_ _=>rfl)) ae))))
 aO)
 (ak (bW (aL bf (pv 1) ag (aK _))
 (aq (aI (fF T.Ey (pw T) gD rfl T.Eu T.RL .nil a6 (aa (aY bp (pv 0) ao (λ_ _=>rfl)) ae))))
 aO)
 (ak (bW (aL bf (pv 1) ag (aK _))
 (aq (aI (fF T.Lc (uf T) gD rfl T.K9 T.RM .nil a6 (aa (aY bp (pv 0) ao (λ_ _=>rfl)) ae))))
 aO)
 (ak (bW (aL bf (pv 1) ag (aK _))
 (aq (aI (fF T.Ez (pz T) gD rfl T.Ew T.RN .nil a6 (aa (aY bp (pv 0) ao (λ_ _=>rfl)) ae))))
 aO)
 (ak (bW (aL bf (pv 1) ag (aK _))
 (aq (aI (lu (T.mkn 4 (by decide)) rfl T.G9)))
 aO)
 (ak (bW (aL bf (pv 1) ag (aK _))
 (aq (aI (lu (T.mkn 5 (by decide)) rfl T.Oo)))
 aO)
 (ak (bW (aL bf (pv 1) ag (aK _))
 (aq (aI (lu (T.mkn 6 (by decide)) rfl T.La)))
 aO)
 (aq (aI (fF T.Hf (qX T) gD rfl T.Hd T.RO .nil a6 (aa (aY bp (pv 0) ao (λ_ _=>rfl)) ae)))))))))))),?_⟩
  try dsimp only[bh]
  have h0:atI (rowOf k v) 0=some (.str (nm k)):=by
   have hk:k=1\/k=2\/k=3\/k=4\/k=5\/k=6\/k=7:=by omega
   rcases hk with rfl | rfl | rfl | rfl | rfl | rfl | rfl <;> rfl
  refine ixv rfl (SqT.of ht) h0 ?_;have hk:k=1\/k=2\/k=3\/k=4\/k=5\/k=6\/k=7:=by omega
  rcases hk with rfl | rfl | rfl | rfl | rfl | rfl | rfl
  ·refine⟨_,rfl,rfl,tsf (by trivial) ⟨_,rfl,rfl,tst (by trivial) ?_⟩⟩
   exact⟨_,rfl,t,_,_,v,rfl,rfl,SqT.of ht,rfl,λm dx nm ndx ne=>⟨m,dx,v,rfl,af,rfl,q m _ ((((aS.refl H).own ndx).own nm).own nm) nm ⟨dx,af⟩⟩⟩
  ·refine⟨_,rfl,rfl,tsf (by trivial) ⟨_,rfl,rfl,tsf (by trivial) ⟨_,rfl,rfl,tst (by trivial) ?_⟩⟩⟩
   exact⟨_,rfl,t,_,_,v,rfl,rfl,SqT.of ht,rfl,λm dx nm ndx ne=>⟨m,dx,v,rfl,af,rfl,q m _ ((((aS.refl H).own ndx).own nm).own nm) nm ⟨dx,af⟩⟩⟩
  ·refine⟨_,rfl,rfl,tsf (by trivial) ⟨_,rfl,rfl,tsf (by trivial) ⟨_,rfl,rfl,tsf (by trivial) ⟨_,rfl,rfl,tst (by trivial) ?_⟩⟩⟩⟩
   exact⟨_,rfl,t,_,_,v,rfl,rfl,SqT.of ht,rfl,λm dx nm ndx ne=>⟨m,dx,v,rfl,af,rfl,q m _ ((((aS.refl H).own ndx).own nm).own nm) nm ⟨dx,af⟩⟩⟩
  ·refine⟨_,rfl,rfl,tsf (by trivial) ⟨_,rfl,rfl,tsf (by trivial) ⟨_,rfl,rfl,tsf (by trivial) ⟨_,rfl,rfl,tsf (by trivial) ⟨_,rfl,rfl,tst (by trivial) ?_⟩⟩⟩⟩⟩
   exactλm dx nm ndx ne=>q m _ (((aS.refl H).own ndx).own nm) nm ⟨dx,af⟩
  ·refine⟨_,rfl,rfl,tsf (by trivial) ⟨_,rfl,rfl,tsf (by trivial) ⟨_,rfl,rfl,tsf (by trivial) ⟨_,rfl,rfl,tsf (by trivial) ⟨_,rfl,rfl,tsf (by trivial) ⟨_,rfl,rfl,tst (by trivial) ?_⟩⟩⟩⟩⟩⟩
   exactλm dx nm ndx ne=>q m _ (((aS.refl H).own ndx).own nm) nm ⟨dx,af⟩
  ·refine⟨_,rfl,rfl,tsf (by trivial) ⟨_,rfl,rfl,tsf (by trivial) ⟨_,rfl,rfl,tsf (by trivial) ⟨_,rfl,rfl,tsf (by trivial) ⟨_,rfl,rfl,tsf (by trivial) ⟨_,rfl,rfl,tsf (by trivial) ⟨_,rfl,rfl,tst (by trivial) ?_⟩⟩⟩⟩⟩⟩⟩
   exactλm dx nm ndx ne=>q m _ (((aS.refl H).own ndx).own nm) nm ⟨dx,af⟩
  ·refine⟨_,rfl,rfl,tsf (by trivial) ⟨_,rfl,rfl,tsf (by trivial) ⟨_,rfl,rfl,tsf (by trivial) ⟨_,rfl,rfl,tsf (by trivial) ⟨_,rfl,rfl,tsf (by trivial) ⟨_,rfl,rfl,tsf (by trivial) ⟨_,rfl,rfl,tsf (by trivial) ?_⟩⟩⟩⟩⟩⟩⟩
   exact⟨_,rfl,t,_,_,v,rfl,rfl,SqT.of ht,rfl,λm dx nm ndx ne=>⟨m,dx,v,rfl,af,rfl,q m _ ((((aS.refl H).own ndx).own nm).own nm) nm ⟨dx,af⟩⟩⟩
theorem AD (T:Txt w.params K mg A):FnOk P w K mg base CX0 3 A.lI A.gm ["told"] (EI A K):=by
 refine T.oM.ok iT (λvs H Q E h=>?_) (λcdv A' outer s H vs Q E hr h=>?_)
 ·obtain⟨t,L,xs,rfl,_⟩:=h;rfl
 ·obtain⟨t,L,xs,rfl,ht,hL,q⟩:=h;have gD:=hr;refine⟨_,(ak (aT (i:=1) iT.nd rfl (ro rfl) (aY bp (pv 0) ao (λ_ _=>rfl)))
 (ak (bW (aL bf (pv 1) ag (aK _))
 (aq (aI (fF T.Ex (EK T) gD rfl T.Et T.RK .nil a6 (aa (aY bp (pv 0) ao (λ_ _=>rfl)) ae))))
 aO)
 (ak (bW (aL bf (pv 1) ag (aK _))
 (aq (aI (fF T.Ey (pw T) gD rfl T.Eu T.RL .nil a6 (aa (aY bp (pv 0) ao (λ_ _=>rfl)) ae))))
 aO)
 (ak (bW (aL bf (pv 1) ag (aK _))
 (aq (aI (fF T.Lc (uf T) gD rfl T.K9 T.RM .nil a6 (aa (aY bp (pv 0) ao (λ_ _=>rfl)) ae))))
 aO)
 (ak (bW (aL bf (pv 1) ag (aK _))
 (aq (aI (fF T.Ez (pz T) gD rfl T.Ew T.RN .nil a6 (aa (aY bp (pv 0) ao (λ_ _=>rfl)) ae))))
 aO)
 (ak (bW (aL bf (pv 1) ag (aK _))
 (aq (aI (lu (T.mkn 4 (by decide)) rfl T.G9)))
 aO)
 (ak (bW (aL bf (pv 1) ag (aK _))
 (aq (aI (lu (T.mkn 5 (by decide)) rfl T.Oo)))
 aO)
 (ak (bW (aL bf (pv 1) ag (aK _))
 (aq (aI (lu (T.mkn 6 (by decide)) rfl T.La)))
 aO)
 (aq (aI (fF T.Hf (qX T) gD rfl T.Hd T.RO .nil a6 (aa (aY bp (pv 0) ao (λ_ _=>rfl)) ae)))))))))))),?_⟩
  try dsimp only[bh]
  refine ixv rfl (SqT.of ht) rfl ?_;refine⟨_,rfl,rfl,tst (by trivial) ?_⟩
  refine⟨_,rfl,t,_,_,.ref L,rfl,rfl,SqT.of ht,rfl,λm dx nm ndx ne=>⟨m,dx,L,xs,rfl,af,(((aS.refl H).own ndx).own nm).seq hL,λp hp=>⟨rfl,?_⟩⟩⟩
  have s1:aS H (upd (upd H dx (.own m)) m (.ins (A.C 0) dx [])):=((aS.refl H).own ndx).own nm;have npm:p≠m:=λz=>by rw[z,af]at hp;cases hp
  exact q m p _ ((s1.new hp).own nm) nm (s1.free hp) ((ax npm).trans af) ⟨dx,af⟩
end
abbrev RS:Str:=ar "more"
def EL (n:Str)(a b:Int):Bool:=if a<=b then false else (decide (n=RS) || decide (2 * b<=a))
namespace R
abbrev bl1:Str:=ar " "
abbrev em:Str:=ar ""
theorem dU:bl1=⟨#[32]⟩:=by trivial
theorem EM:em=⟨#[]⟩:=by trivial
abbrev sg:Str:=ar "!\"#$&'()*+,-./0123456789:;<=>?@ABCDEFGHIJKLMNOPQRSTUVWXYZ[\\]^_`abcdefghijklmnopqrstuvwxyz{|}~"
def Sign (c:Nat):Prop:=33<=c/\c<=126/\c≠37
instance:DecidablePred Sign:=λc=>by unfold Sign;exact inferInstance
structure nJ (x:Str):Prop where
 l1:1<=x.length
 l2:x.length<=20
 sgn:∀c∈x.cps.toList,Sign c
 ns:x≠ar "/"
def Asc (x:Str):Prop:=∀c∈x.cps.toList,c < 128
theorem Asc.ok {x:Str}(h:Asc x):Vs x=true:=by
 unfold Vs;rw[Array.all_eq_true];intro i hi;have:=h x.cps[i] (by simp)
 exact decide_eq_true (by omega)
theorem nJ.asc {x:Str}(w:nJ x):Asc x:=λc hc=>by have:=w.sgn c hc;unfold Sign at this;omega
theorem iw {sep:Str}(hs:Asc sep):∀ws:List Str,(∀w∈ws,Asc w)->Asc (gp sep ws)
 |[],_=>λc hc=>by
  have:c∈([]:List Nat):=hc;cases this
 |[x],h=>h x kb
 |x::y::r,h=>λc hc=>by
  have hc':c∈((x++sep)++gp sep (y::r)).cps.toList:=hc;rw[cv,cv,WB,WB]at hc';rcases hc' with (h1 | h1) | h1
  ·exact h x kb c h1
  ·exact hs c h1
  ·exact iw hs (y::r) (λw hw=>h w (kr _ hw)) c h1
theorem mO (x:Str):x.cps.toList.length=x.length:=by simp[Str.length]
abbrev RT:List Str:=[ar "-",ar "put",ar "/a",ar "0",ar "off",ar "//",ar "matter",ar "a"]
theorem Lr {x:Str}(h:decide (1<=x.length/\x.length<=20/\(∀c∈x.cps.toList,Sign c)/\x≠ar "/")=true):nJ x:=by
 obtain⟨a,b,c,d⟩:=of_decide_eq_true h;exact⟨a,b,c,d⟩
theorem P7:∀x∈RT,nJ x:=by
 intro x hx;simp only[Wt,VO,or_false]at hx;rcases hx with rfl | rfl | rfl | rfl | rfl | rfl | rfl | rfl <;> exact Lr (by trivial)
structure Clause (n:Nat)(x:Str)(ws:List Str):Prop where
 eq:x=gp bl1 ws
 len:ws.length<=n
 wd:∀w∈ws,nJ w
theorem Clause.asc {n:Nat}{x:Str}{ws:List Str}(c:Clause n x ws):Asc x:=by
 rw[c.eq];exact iw (by rw[dU];intro d hd;have:d=32:=(by simpa using hd);omega) ws λw hw=>(c.wd w hw).asc
theorem Ls {ws:List Str}(h:∀w∈ws,nJ w):(ws.map (·.length)).sum<=ws.length * 20:=StrLaws.sumLen_le ws λw hw=>(h w hw).l2
theorem Clause.size {n:Nat}{x:Str}{ws:List Str}(c:Clause n x ws):x.length<=n * 21:=by
 rw[c.eq,dU];have h1:=ll 32 ws;have h2:=Ls c.wd;have h3:=c.len;omega
abbrev sl1:Str:=ar "/"
def num (i:Int):Str:=ar (toString i)
theorem CS {i:Int}(h0:0<=i)(h1:i < 10 ^ 10):(num i).length<=10:=PyProof.Rows.toString_length_le h0 (by decide) h1
theorem Hl {i:Int}(h0:0<=i)(h1:i < 10 ^ 10):i.natAbs.log2 < 1920:=by
 have h:i.natAbs < 2 ^ 34:=by
  have:(10:Int) ^ 10<=2 ^ 34:=by decide
  omega
 by_cases hz:i.natAbs=0
 ·rw[hz];decide
 ·exact Nat.lt_trans ((Nat.log2_lt hz).mpr h) (by decide)
def fQ (z:Str):List Str:=if z=em then [] else PySem.Txt.split z bl1
theorem nJ.free {x:Str}(w:nJ x):32∉x.cps.toList:=λz=>by have:=w.sgn _ z;unfold Sign at this;omega
theorem i3 {ws:List Str}(h:∀w∈ws,nJ w):fQ (gp bl1 ws)=ws:=by
 cases ws with
 |nil=>exact if_pos (by rw[EM];rfl)
 |cons x r =>
  have l:=Ae (c:=32) (UX x r) λw hw=>(h w hw).l1
  have ne:¬gp bl1 (x::r)=em:=λe=>by
   rw[dU]at e;rw[e,EM]at l;exact absurd l (by decide)
  unfold fQ;rw[if_neg ne,dU];exact l4 (UX x r) λw hw=>(h w hw).free
inductive br where
 |mat (cs:List (List Str))
 |ed (m:Bool) (k:Nat) (i:Int) (ws:List Str)
 |pt (ws:List Str)
 |nums (kd:Str) (ns:List Int)
def kEd (m:Bool):Str:=if m then ar "mend" else ar "change"
def kn:Nat->Str
 | 0=>ar "put"
 | 1=>ar "cut"
 |_=>ar "turn"
def edR (k:Nat)(i:Int)(x:Str):List V:=if k=1 then [.str (kn 1),.int i] else [.str (kn k),.int i,.str x]
def fw:List (Str×Nat):=[(ar "put off",1),(ar "vote",2),(ar "take",1),(ar "close",0),(ar "lay",0),(ar "rest",0),(ar "drop",0)]
structure AE (n:Nat)(ws:List Str):Prop where
 len:ws.length<=n
 wd:∀w∈ws,nJ w
def DOk:br->Prop
 | .mat cs=>cs.length<=12/\∀ws∈cs,AE 12 ws
 | .ed m k i ws=>(k=0\/k=1\/k=2)/\(0<=i/\i < 10 ^ 10)/\AE 12 ws/\(m=true->ws.length=1)
 | .pt ws=>AE 12 ws
 | .nums kd ns=>(kd,ns.length)∈fw/\∀i∈ns,0<=i/\i < 10 ^ 10
def mP (K:ba)(H:Hp):br->Addr->Prop
 | .mat cs,t=>∃L,SqT K H t [.str (ar "matter"),.ref L]/\SqL K H L ((cs.map (gp bl1)).map V.str)
 | .ed m k i ws,t=>∃e,SqT K H t [.str (kEd m),.ref e]/\SqT K H e (edR k i (gp bl1 ws))
 | .pt ws,t=>SqT K H t [.str (ar "point"),.str (gp bl1 ws)]
 | .nums kd ns,t=>SqT K H t (.str kd::ns.map V.int)
theorem mP.same {K:ba}{H H':Hp}(s:aS H H'):∀ {d:br} {t:Addr},mP K H d t->mP K H' d t
 | .mat _,_,⟨L,a,b⟩=>⟨L,eD s a,s.seq b⟩
 | .ed _ _ _ _,_,⟨e,a,b⟩=>⟨e,eD s a,eD s b⟩
 | .pt _,_,a=>eD s a
 | .nums _ _,_,a=>eD s a
def j3:br->Str
 | .mat _=>ar "matter"
 | .ed m _ _ _=>kEd m
 | .pt _=>ar "point"
 | .nums kd _=>kd
def d6:br->List Str
 | .mat cs=>cs.flatMap λws=>sl1::ws
 | .ed _ k i ws=>kn k::num i::(if k=1 then [] else ws)
 | .pt ws=>ws
 | .nums _ ns=>ns.map num
def fA (d:br):Str:=gp bl1 (j3 d::d6 d)
theorem CT {ws:List Str}{n:Nat}(h:∀w∈ws,w.length<=n):(ws.map (·.length)).sum<=ws.length * n:=StrLaws.sumLen_le ws h
theorem P8 (k:Nat):(kn k).length<=4:=by
 unfold kn;split <;> trivial
theorem M8 (m:Bool):(kEd m).length<=6:=by cases m <;> trivial
theorem kd_len {kd:Str}{n:Nat}(h:(kd,n)∈fw):kd.length<=7/\n<=2:=by
 simp only[fw,Wt,VO,or_false,WE]at h;rcases h with ⟨rfl,rfl⟩ | ⟨rfl,rfl⟩ | ⟨rfl,rfl⟩ | ⟨rfl,rfl⟩ | ⟨rfl,rfl⟩ | ⟨rfl,rfl⟩ | ⟨rfl,rfl⟩ <;> trivial
theorem vn {d:br}(o:DOk d):(d6 d).length<=200/\(∀w∈d6 d,w.length<=20)/\(j3 d).length<=20:=by
 cases d with
 |mat cs =>
  obtain⟨o1,o2⟩:=o;refine⟨?_,λw hw=>?_,by show (ar "matter").length<=20;trivial⟩
  ·show (cs.flatMap λws=>sl1::ws).length<=200
   have:∀l:List (List Str),(∀ws∈l,AE 12 ws)->(l.flatMap λws=>sl1::ws).length<=l.length * 13:=λl=>by
    induction l with
    |nil=>intro _;exact kg _
    |cons x l ih =>
     intro h;have h1:=(h x kb).len;have h2:=ih λw hw=>h w (kr _ hw)
     rw[List.flatMap_cons,km,kf,kf];omega
   have:=this cs o2;omega
  ·obtain⟨ws,h1,h2⟩:=List.mem_flatMap.mp hw;rcases List.mem_cons.mp h2 with rfl | h2
   ·trivial
   ·exact((o2 ws h1).wd w h2).l2
 |ed m k i ws =>
  obtain⟨o1,⟨i0,i1⟩,o3,_⟩:=o;have l:=o3.len;refine⟨?_,λw hw=>?_,?_⟩
  ·show (kn k::num i::(if k=1 then [] else ws)).length<=200
   split <;> simp <;> omega
  ·have hw':w∈kn k::num i::(if k=1 then [] else ws):=hw
   rcases List.mem_cons.mp hw' with rfl | hw'
   ·have:=P8 k;omega
   ·rcases List.mem_cons.mp hw' with rfl | hw'
    ·have:=CS i0 i1;omega
    ·split at hw'
     ·cases hw'
     ·exact(o3.wd w hw').l2
  ·have:=M8 m;show (kEd m).length<=20;omega
 |pt ws=>exact⟨by have:=o.len;show ws.length<=200;omega,λw hw=>(o.wd w hw).l2,by show (ar "point").length<=20;trivial⟩
 |nums kd ns =>
  obtain⟨o1,o2⟩:=o;have:=kd_len o1;refine⟨by show (ns.map num).length<=200;rw[da];omega,λw hw=>?_,by show kd.length<=20;omega⟩
  obtain⟨i,hi,rfl⟩:=List.mem_map.mp hw;have:=CS (o2 i hi).1 (o2 i hi).2;omega
def vo:Sp:=λvs H Q _=>∃z,vs=[.str z]/\z.length+2<=de/\∀p,H p=none->Q (.ref p) (upd H p (.lst ((fQ z).map V.str)))
def zD (K:ba):Sp:=λvs H Q _=>∃a ws,vs=[.ref a]/\SqL K H a (ws.map V.str)/\(ws.map (·.length)).sum+ws.length<=16777216/\Q (.str (gp bl1 ws)) H
def P9 (K:ba):Sp:=λvs H Q _=>∃(L:Addr) (cs:List (List Str)),vs=[.ref L]/\SqL K H L ((cs.map (gp bl1)).map V.str)/\DOk (.mat cs)/\∀p H',aS H H'->H p=none->H' p=some (.lst ((d6 (.mat cs)).map V.str))->Q (.ref p) H'
def M9 (K:ba):Sp:=λvs H Q _=>∃(t:Addr) (m:Bool) (k:Nat) (i:Int) (ws:List Str),vs=[.ref t]/\SqT K H t (edR k i (gp bl1 ws))/\DOk (.ed m k i ws)/\∀p H',aS H H'->H p=none->H' p=some (.lst ((d6 (.ed m k i ws)).map V.str))->Q (.ref p) H'
def Lu (K:ba):Sp:=λvs H Q _=>∃(t:Addr) (d:br),vs=[.ref t]/\mP K H d t/\DOk d/\∀p H',aS H H'->H p=none->H' p=some (.lst ((d6 d).map V.str))->Q (.ref p) H'
def Gd (K:ba):Sp:=λvs H Q _=>∃(t:Addr) (d:br),vs=[.ref t]/\mP K H d t/\DOk d/\∀H',aS H H'->Q (.str (fA d)) H'
theorem CL {k:Nat}(h:k=0\/k=1\/k=2):(V.str (kn k)=V.str (ar "cut"))↔k=1:=by
 rcases h with rfl | rfl | rfl <;> trivial
theorem CU (k:Nat)(i:Int)(x:Str):atI (edR k i x) 0=some (.str (kn k)):=by
 unfold edR;split
 ·rename_i h;rw[h];rfl
 ·rfl
theorem Na (k:Nat)(i:Int)(x:Str):atI (edR k i x) 1=some (.int i):=by
 unfold edR;split <;> rfl
theorem Nb {k:Nat}(h:k≠1)(i:Int)(x:Str):atI (edR k i x) 2=some (.str x):=by
 unfold edR;rw[if_neg h];rfl
theorem sf {ws:List Str}(o:AE 12 ws):(gp bl1 ws).length<=300:=by
 have h1:=ll 32 ws;have h2:=Ls o.wd;have h3:=o.len;rw[dU];omega
theorem RU {kd:Str}{n:Nat}(h:(kd,n)∈fw):V.str kd≠V.str (ar "matter")/\V.str kd≠V.str (ar "change")/\V.str kd≠V.str (ar "mend")/\V.str kd≠V.str (ar "point"):=by
 simp only[fw,Wt,VO,or_false,WE]at h;rcases h with ⟨rfl,rfl⟩ | ⟨rfl,rfl⟩ | ⟨rfl,rfl⟩ | ⟨rfl,rfl⟩ | ⟨rfl,rfl⟩ | ⟨rfl,rfl⟩ | ⟨rfl,rfl⟩ <;> trivial
section
variable{K:ba}
theorem mP.at0 {H:Hp}{d:br}{t:Addr}(h:mP K H d t):∃xs,SqT K H t xs/\atI xs 0=some (.str (j3 d)):=by
 cases d with
 |mat cs=>obtain⟨L,a,b⟩:=h;exact⟨_,a,rfl⟩
 |ed m k i ws=>obtain⟨e,a,b⟩:=h;exact⟨_,a,rfl⟩
 |pt ws=>exact⟨_,h,rfl⟩
 |nums kd ns=>exact⟨_,h,fG (j:=0) rfl⟩
end
section
variable{P:ko}{w:World}{K:ba}{mg:Str->Option Value}{base:Heap}{A:Adr}
theorem mQ (T:Txt w.params K mg A):FnOk P w K mg base CX0 1 A.pS A.iW ["words"] (zD K):=by
 refine T.jW.ok Ca (λvs H Q E h=>?_) (λcdv A' outer s H vs Q E hr h=>?_)
 ·obtain⟨a,ws,rfl,_⟩:=h;rfl
 ·obtain⟨a,ws,rfl,hq,hz,k⟩:=h;refine⟨_,(aq (aI (ic Vq PySem.F.slot_str_join PySem.F.type_str_join BM ag (aa (pv 0) ae)))),?_⟩
  try dsimp only[bh]
  exact⟨rfl,_,rfl,bl1,a,ws,rfl,rfl,hq,by rw[dU];show _+ws.length * 1<=_;omega,k⟩
theorem j4 (T:Txt w.params K mg A):FnOk P w K mg base CX0 1 A.words_of A.ij ["clause"] vo:=by
 refine T.jx.ok DO (λvs H Q E h=>?_) (λcdv A' outer s H vs Q E hr h=>?_)
 ·obtain⟨z,rfl,_⟩:=h;rfl
 ·obtain⟨z,rfl,hz,k⟩:=h;refine⟨_,(ak (bW (aL bf (pv 0) ag (aK _))
 (aq (aI (bE ae)))
 aO)
 (aq (aI (ic Vq PySem.F.slot_str_split PySem.F.type_str_split sV (pv 0) (aa ag ae))))),?_⟩
  try dsimp only[bh]
  refine⟨_,rfl,rfl,_,rfl,ie (λe=>?_) (λe=>?_)⟩
  ·have e':z=em:=by injection of_decide_eq_true e
   refine⟨Vg _,λp hp=>?_⟩
   have:=k p hp;rw[fQ,if_pos e']at this;exact this
  ·have e':¬z=em:=λq=>e (decide_eq_true (by rw[q]))
   refine⟨_,rfl,rfl,z,bl1,rfl,rfl,by rw[dU];rfl,hz,λp hp=>?_⟩
   have:=k p hp;rw[fQ,if_neg e']at this;exact this
theorem vp (T:Txt w.params K mg A):FnOk P w K mg base CX0 2 A.kJ A.gS ["text"] (P9 K):=by
 refine T.nA.ok gO (λvs H Q E h=>?_) (λcdv A' outer s H vs Q E hr h=>?_)
 ·obtain⟨L,cs,rfl,_⟩:=h;rfl
 ·obtain⟨L,cs,rfl,hL,o,k⟩:=h;refine⟨_,(ak (aT (i:=1) gO.nd rfl (ro rfl) (bE ae))
 (ak (JD PassesOwn.never rfl (g8 (pv 0)) (eO (i:=2) gO.nd rfl (ro rfl))
 (ak (cS (ic Vj VA VB eP (pv 1) (aa ag ae)))
 (aq (cS (ic Vj PySem.F.slot_list_extend PySem.F.type_list_extend AZ (pv 1) (aa (bw (j4 T) hr rfl T.mG T.jx.kp T.mH .nil a6 (aa (pv 2) ae)) ae))))))
 (aq (aI (pv 1))))),?_⟩
  try dsimp only[bh]
  have lim:de=16777216:=by decide
  refine⟨Vg _,λW hW=>?_⟩
  refine⟨_,rfl,L,rfl,⟨_,(aw hW).seq hL⟩,?_⟩;refine yc (K:=K) (a:=L) (xs:=(cs.map (gp bl1)).map V.str) (λi σ H2=>∃v2:Option V,σ=[some (.ref L),some (.ref W),v2]/\aS H H2/\H2 W=some (.lst ((d6 (.mat (cs.take i))).map V.str)))
   ⟨_,rfl,aw hW,af⟩ (λi σ H2 _ ⟨_,_,s2,_⟩=>s2.seq hL) ?_ ?_
  ·rintro i y σ H2 hi ⟨v2,rfl,s2,h2⟩;rw[U5,U5]at hi;cases hc:cs[i]? with
   |none=>rw[hc]at hi;cases hi
   |some ws =>
    rw[hc]at hi;obtain rfl:V.str (gp bl1 ws)=y:=ra hi;have ow:=o.2 ws (ma hc);have hcl:=sf ow;have hil:i < cs.length:=(List.getElem?_eq_some_iff.mp hc).1;have hb:(d6 (.mat (cs.take i))).length<=200:=(vn (d:=.mat (cs.take i)) ⟨by rw[Vy];have:=o.1;omega,λws hw=>o.2 ws (List.mem_of_mem_take hw)⟩).1
    refine⟨_,rfl,.inl ⟨rfl,_,SqL.of h2⟩,W,_,_,rfl,rfl,h2,(by rw[da];omega),?_⟩
    refine⟨_,rfl,.inl ⟨rfl,_,SqL.of af⟩,_,rfl,_,rfl,by omega,λp hp=>?_⟩
    rw[i3 ow.wd];have nWp:W≠p:=aQ af hp;have wl:=ow.len;refine⟨W,p,_,_,rfl,rfl,(ax nWp).trans af,af,(by rw[km,da,da];show _+1+_<=_;omega),?_⟩
    refine⟨_,rfl,((s2.own hW).new hp).own hW,?_⟩;rw[af,Wx,hc];show some (HO.lst _)=some (HO.lst (((cs.take i++[ws]).flatMap λws=>sl1::ws).map V.str))
    rw[List.flatMap_append];simp[d6]
  ·rintro σ H2 ⟨v2,rfl,s2,h2⟩;rw[da,da,VP]at h2;exact⟨_,rfl,k W H2 s2 hW h2⟩
theorem vq (T:Txt w.params K mg A):FnOk P w K mg base CX0 2 A.kK A.gU ["edit"] (M9 K):=by
 refine T.nB.ok lG (λvs H Q E h=>?_) (λcdv A' outer s H vs Q E hr h=>?_)
 ·obtain⟨t,m,k,i,ws,rfl,_⟩:=h;rfl
 ·obtain⟨t,m,k,i,ws,rfl,ht,⟨o1,⟨i0,i1⟩,o3,_⟩,q⟩:=h;refine⟨_,(ak (aT (i:=1) lG.nd rfl (ro rfl) (bE (aa (aY bp (pv 0) ao (λ_ _=>rfl)) (aa (dS lX (by rfl) T.K7 FE (aa (aY bp (pv 0) ao (λ_ _=>rfl)) ae)) ae))))
 (ak (bW (aL jb (aY bp (pv 0) ao (λ_ _=>rfl)) ag (aK _))
 (aq (cS (ic Vj PySem.F.slot_list_extend PySem.F.type_list_extend AZ (pv 1) (aa (bw (j4 T) hr rfl T.mG T.jx.kp T.mH .nil a6 (aa (aY bp (pv 0) ao (λ_ _=>rfl)) ae)) ae))))
 aO)
 (aq (aI (pv 1))))),?_⟩
  try dsimp only[bh]
  have lim:de=16777216:=by decide
  refine ixv rfl ht (CU k i _) (ixv rfl ht (Na k i _) ⟨_,rfl,Hl i0 i1,(sl 2),λW hW=>?_⟩)
  have s1:aS H (upd H W (.lst [V.str (kn k),V.str (num i)])):=aw hW;have hcl:=sf o3;refine ixv rfl (eD s1 ht) (CU k i _) ⟨rfl,_,rfl,?_⟩
  by_cases hk:k=1
  ·rw[decide_eq_true ((CL o1).mpr hk)];refine cf ⟨_,rfl,q W _ s1 hW ?_⟩;show (upd H W (.lst [V.str (kn k),V.str (num i)])) W=some (.lst ((kn k::num i::(if k=1 then [] else ws)).map V.str))
   rw[af,if_pos hk];rfl
  ·rw[decide_eq_false λz=>hk ((CL o1).mp z)]
   refine dZ ⟨_,rfl,.inl ⟨rfl,_,SqL.of af⟩,ixv rfl (eD s1 ht) (Nb hk i _) ⟨_,rfl,by omega,λp hp=>?_⟩⟩
   rw[i3 o3.wd];have nWp:W≠p:=aQ af hp;have wl:=o3.len;refine⟨W,p,_,_,rfl,rfl,(ax nWp).trans af,af,(by rw[da];show 2+_<=_;omega),_,rfl,q W _ ((s1.new hp).own hW) hW ?_⟩
   show (upd (upd (upd H W (.lst [V.str (kn k),V.str (num i)])) p (.lst (ws.map V.str))) W (.lst ([V.str (kn k),V.str (num i)]++ws.map V.str))) W=some (.lst ((kn k::num i::(if k=1 then [] else ws)).map V.str))
   rw[af,if_neg hk];rfl
theorem xF (T:Txt w.params K mg A):FnOk P w K mg base CX0 3 A.mr A.iE ["deed"] (Lu K):=by
 have sv:FnOk P w K mg base CX0 2 A.words_of A.ij ["clause"] vo:=(j4 T).mono (by decide)
 refine T.oS.ok nj (λvs H Q E h=>?_) (λcdv A' outer s H vs Q E hr h=>?_)
 ·obtain⟨t,d,rfl,_⟩:=h;rfl
 ·obtain⟨t,d,rfl,hd,o,q⟩:=h;refine⟨_,(ak (aT (i:=1) nj.nd rfl (ro rfl) (aY bp (pv 0) ao (λ_ _=>rfl)))
 (ak (bW (aL bf (pv 1) ag (aK _))
 (aq (aI (bw (vp T) hr rfl T.xl T.nA.kp T.xm .nil a6 (aa (aY bp (pv 0) ao (λ_ _=>rfl)) ae))))
 aO)
 (ak (bW (PW.pt (pw_or (aL bf (pv 1) ag (aK _)) (pw_or1 (aL bf (pv 1) ag (aK _)))))
 (aq (aI (bw (vq T) hr rfl T.xq T.nB.kp T.xr .nil a6 (aa (aY bp (pv 0) ao (λ_ _=>rfl)) ae))))
 aO)
 (ak (bW (aL bf (pv 1) ag (aK _))
 (aq (aI (bw sv hr rfl T.mG T.jx.kp T.mH .nil a6 (aa (aY bp (pv 0) ao (λ_ _=>rfl)) ae))))
 aO)
 (aq (aI (jP (scope:=jm) tH rfl (OM (jd OV (pv 0) (jM ao) pL)) (λ_ _ _ _ _=>(dS lX (by rfl) T.K7 FE (aa (pv 0) ae)))))))))),?_⟩
  try dsimp only[bh]
  have lim:de=16777216:=by decide
  cases d with
  |mat cs =>
   refine aX λGq gq=>?_
   obtain⟨L,ht,hL⟩:=hd;refine gq ?_;refine ixv rfl ht rfl ?_;refine⟨_,rfl,rfl,tst (decide_eq_true rfl) ?_⟩;exact ixv rfl ht rfl ⟨L,cs,rfl,hL,o,q⟩
  |ed m k i ws =>
   refine aX λGq gq=>?_
   obtain⟨e,ht,he⟩:=hd;refine gq ?_;refine ixv rfl ht rfl ?_;refine⟨_,rfl,rfl,tsf (decide_eq_false (by cases m <;> trivial)) ?_⟩
   cases m with
   |false =>
    refine⟨_,rfl,rfl,tst (decide_eq_true rfl) ?_⟩;exact ixv rfl ht rfl ⟨e,false,k,i,ws,rfl,he,o,q⟩
   |true =>
    refine⟨_,rfl,rfl,tsf (decide_eq_false (by trivial)) ?_⟩
    refine⟨_,rfl,rfl,tst (decide_eq_true rfl) ?_⟩;exact ixv rfl ht rfl ⟨e,true,k,i,ws,rfl,he,o,q⟩
  |pt ws =>
   have ht:=hd;refine ixv rfl ht rfl ?_;refine⟨_,rfl,rfl,tsf (decide_eq_false (by trivial)) ?_⟩
   refine⟨_,rfl,rfl,tsf (decide_eq_false (by trivial)) ?_⟩
   refine⟨_,rfl,rfl,tsf (decide_eq_false (by trivial)) ?_⟩
   refine⟨_,rfl,rfl,tst (decide_eq_true rfl) ?_⟩;have hcl:=sf o;refine ixv rfl ht rfl ⟨_,rfl,by omega,λp hp=>q p _ (aw hp) hp ?_⟩
   rw[af,i3 o.wd];rfl
  |nums kd ns =>
   refine aX λGq gq=>?_
   have ht:=hd;obtain⟨o1,o2⟩:=o;obtain⟨n1,n2,n3,n4⟩:=RU o1;have kl:=(kd_len o1).2;refine gq ?_;refine ixv rfl ht (fG (j:=0) rfl) ?_;refine⟨_,rfl,rfl,tsf (decide_eq_false n1) ?_⟩;refine⟨_,rfl,rfl,tsf (decide_eq_false n2) ?_⟩;refine⟨_,rfl,rfl,tsf (decide_eq_false n3) ?_⟩;refine⟨_,rfl,rfl,tsf (decide_eq_false n4) ?_⟩;refine⟨_,rfl,_,rfl,t,_,rfl,ht,λz=>?_,λp hp=>?_⟩
   ·have z1:=z.1;rw[show (1:Int)=((1:Nat):Int) from rfl,HT.xQ,kf]at z1
    omega
   ·rw[show (1:Int)=((1:Nat):Int) from rfl,yj]
    show _;have hs1:aS H (upd H p (.tup (ns.map V.int))):=aw hp;have hpp:(upd H p (.tup (ns.map V.int))) p=some (.tup (ns.map V.int)):=af;refine⟨p,rfl,⟨_,SqT.of hpp⟩,λD hD=>?_⟩
    have npD:p≠D:=aQ hpp hD;refine Kh (K:=K) (a:=p) (xs:=ns.map V.int) (λi ys H3=>ys=(ns.take i).map (λn=>V.str (num n))/\H3=upd (upd H p (.tup (ns.map V.int))) D (.lst ys)) ⟨rfl,rfl⟩ (by rw[da];omega) ?_ ?_ ?_
    ·rintro i ys H3 hi ⟨rfl,rfl⟩;rw[da]at hi;exact⟨SqT.of ((ax npD).trans hpp),af,by rw[da,Vy];omega⟩
    ·rintro i y ys H3 hi ⟨rfl,rfl⟩;rw[U5]at hi;cases hc:ns[i]? with
     |none=>rw[hc]at hi;cases hi
     |some n =>
      refine aX λGq gq=>?_
      rw[hc]at hi;obtain rfl:V.int n=y:=ra hi;obtain⟨b0,b1⟩:=o2 n (ma hc);refine gq ?_;refine⟨_,rfl,_,rfl,Hl b0 b1,?_⟩;refine dF.mk (by rw[da];exact(List.getElem?_eq_some_iff.mp hc).1) af ⟨?_,by rw[sH]⟩
      rw[Wx,hc,UZ];rfl
    ·rintro ys H3 ⟨rfl,rfl⟩;rw[da,VP];refine q D _ (hs1.new hD) (hs1.free hD) ?_;rw[af];show some (HO.lst _)=some (HO.lst ((ns.map num).map V.str));rw[List.map_map];rfl
theorem ug (T:Txt w.params K mg A):FnOk P w K mg base CX0 4 A.i8 A.eQ ["deed"] (Gd K):=by
 have EN:FnOk P w K mg base CX0 3 A.pS A.iW ["words"] (zD K):=(mQ T).mono (by decide)
 refine T.jX.ok Cd (λvs H Q E h=>?_) (λcdv A' outer s H vs Q E hr h=>?_)
 ·obtain⟨t,d,rfl,_⟩:=h;rfl
 ·obtain⟨t,d,rfl,hd,o,q⟩:=h;refine⟨_,(aq (aI (bw EN hr rfl T.oJ T.jW.kp T.oK .nil a6 (aa (av cT (bE (aa (aY bp (pv 0) ao (λ_ _=>rfl)) ae)) (bw (xF T) hr rfl T.y0 T.oS.kp T.y3 .nil a6 (aa (pv 0) ae))) ae)))),?_⟩
  try dsimp only[bh]
  refine aX λGq gq=>?_
  have lim:de=16777216:=by decide
  obtain⟨b1,b2,b3⟩:=vn o;obtain⟨xs,hx,hx0⟩:=hd.at0;refine gq ?_;refine ixv rfl hx hx0 ⟨(sl 1),λp hp=>?_⟩
  refine⟨_,rfl,t,d,rfl,hd.same (aw hp),o,λp2 H2 s2 hn2 h2=>?_⟩
  have hp2:H2 p=some (.lst [V.str (j3 d)]):=s2 _ _ af;refine⟨p,p2,_,_,rfl,rfl,hp2,h2,(by rw[da];show 1+_<=_;omega),λp3 hp3=>?_⟩
  refine⟨p3,j3 d::d6 d,rfl,SqL.of (by rw[af];rfl),?_,q _ (((aw hp).trans s2).new hp3)⟩
  have:=StrLaws.sumLen_le (B:=20) (j3 d::d6 d) (λw hw=>by
   rcases List.mem_cons.mp hw with rfl | hw
   ·exact b3
   ·exact b2 w hw)
  rw[kf]at this ⊢;omega
end
end R
inductive Rl where
 |ob | made | aV | bg | decided | firsts | kept | rows
 |nG (n:Nat) | wL (n:Nat) | jA (n:Nat)
abbrev Col:=Addr->Option (Nat×Rl)
def dn (i:Nat)(x:Option (Nat×Rl)):Prop:=∃r,x=some (i,r)
theorem zE {i j:Nat}(n:i≠j)(r:Rl):¬dn j (some (i,r)):=λ⟨_,e⟩=>by cases e;exact n rfl
theorem aW {i:Nat}:¬dn i none:=λ⟨_,e⟩=>by cases e
structure Step (W:Option (Nat×Rl)->Prop)(c c':Col)(H H':Hp):Prop where
 nn:¬W none
 keep:∀a v,H a=some v->¬W (c a)->H' a=some v
 there:∀a v,H a=some v->∃v',H' a=some v'
 col:∀a v,H a=some v->¬W (c a)->c' a=c a
section
variable{W W':Option (Nat×Rl)->Prop}{c c1 c2:Col}{H H' H1 H2:Hp}{a:Addr}{o:HO}
theorem Step.refl (n:¬W none):Step W c c H H:=⟨n,λ_ _ h _=>h,λ_ v h=>⟨v,h⟩,λ_ _ _ _=>rfl⟩
theorem Step.same (n:¬W none)(s:aS H H'):Step W c c H H':=⟨n,λa v h _=>s a v h,λa v h=>⟨v,s a v h⟩,λ_ _ _ _=>rfl⟩
theorem Step.mono (f:∀x,W x->W' x)(n:¬W' none)(s:Step W c c1 H H1):Step W' c c1 H H1 where
 nn:=n
 keep:=λa v h m=>s.keep a v h λz=>m (f _ z)
 there:=s.there
 col:=λa v h m=>s.col a v h λz=>m (f _ z)
theorem Step.trans (x:Step W c c1 H H1)(y:Step W c1 c2 H1 H2):Step W c c2 H H2 where
 nn:=x.nn
 keep:=λa v h n=>y.keep a v (x.keep a v h n) (by rw[x.col a v h n];exact n)
 there:=λa v h=>let ⟨v1,h1⟩:=x.there a v h;y.there a v1 h1
 col:=λa v h n=>(y.col a v (x.keep a v h n) (by rw[x.col a v h n];exact n)).trans (x.col a v h n)
theorem Step.upd (n:¬W none)(m:W (c a)):Step W c c H (L2.upd H a o) where
 nn:=n
 keep:=λb v h n=>by rw[ax (λz=>n (by rw[z];exact m))];exact h
 there:=λb v h=>by
  by_cases z:b=a
  ·rw[z];exact⟨o,af⟩
  ·exact⟨v,by rw[ax z];exact h⟩
 col:=λ_ _ _ _=>rfl
def aZ (c:Col)(a:Addr)(x:Option (Nat×Rl)):Col:=λb=>if b=a then x else c b
theorem bD {x:Option (Nat×Rl)}:aZ c a x a=x:=if_pos rfl
theorem aG {b:Addr}{x:Option (Nat×Rl)}(h:b≠a):aZ c a x b=c b:=if_neg h
theorem Step.new {x:Option (Nat×Rl)}(n:¬W none)(h:H a=none):Step W c (aZ c a x) H (L2.upd H a o) where
 nn:=n
 keep:=λb v e _=>aw h b v e
 there:=λb v e=>⟨v,aw h b v e⟩
 col:=λb v e _=>aG (λz=>by rw[z,h]at e;cases e)
theorem Step.role {x:Option (Nat×Rl)}(n:¬W none)(m:W (c a)):Step W c (aZ c a x) H H where
 nn:=n
 keep:=λ_ _ h _=>h
 there:=λ_ v h=>⟨v,h⟩
 col:=λb _ _ n=>aG (λz=>n (by rw[z];exact m))
def cC (c:Col)(H:Hp):Col:=λa=>if (H a).isSome then c a else none
theorem dW (h:H a=none):cC c H a=none:=by unfold cC;rw[h];rfl
theorem Lv {v:HO}(h:H a=some v):cC c H a=c a:=by unfold cC;rw[h];rfl
theorem Step.cl (n:¬W none)(s:aS H H'):Step W c (cC c H) H H':=⟨n,λa v h _=>s a v h,λa v h=>⟨v,s a v h⟩,λ_ _ h _=>Lv h⟩
end
def Wr (i:Nat)(p:Rl->Bool)(x:Option (Nat×Rl)):Prop:=∃r,x=some (i,r)/\p r=true
section
variable{i:Nat}{p:Rl->Bool}{r:Rl}{c c':Col}{H H':Hp}{a:Addr}
theorem Wr.nn:¬Wr i p none:=λ⟨_,e,_⟩=>nomatch e
theorem Wr.no (h:p r=false):¬Wr i p (some (i,r)):=λ⟨_,e,z⟩=>by cases e;rw[h]at z;cases z
theorem Wr.yes (e:c a=some (i,r))(h:p r=true):Wr i p (c a):=⟨r,e,h⟩
theorem Step.EO (s:Step (Wr i p) c c' H H'):Step (dn i) c c' H H':=s.mono (λ_ ⟨r,e,_⟩=>⟨r,e⟩) aW
theorem zF {o:Addr}{v:HO}(h:p .ob=false)(s:Step (Wr i p) c c' H H')(h1:c o=some (i,.ob))(h2:H o=some v):c' o=some (i,.ob)/\H' o=some v:=by
 have hn:¬Wr i p (c o):=by rw[h1];exact Wr.no h
 exact⟨by rw[s.col o _ h2 hn];exact h1,s.keep _ _ h2 hn⟩
end
inductive Mn where
 |mat (tx:List Str) | chg (e:Ed) | mnd (e:Ed) | off (n:Int) | cls | lay | rst | pnt (z:Str)
def Mn.k:Mn->Nat
 | .mat _=>0 | .chg _=>1 | .mnd _=>2 | .off _=>3 | .cls=>4 | .lay=>5 | .rst=>6 | .pnt _=>7
theorem Mn.k8 (m:Mn):m.k < 8:=by cases m <;> simp only[Mn.k] <;> omega
def TupAt (c:Col)(H:Hp)(t:Addr)(xs:List V):Prop:=c t=none/\Rd H t (.tup xs)
theorem TupAt.sq {K:ba}{c:Col}{H:Hp}{t:Addr}{xs:List V}(h:TupAt c H t xs):SqT K H t xs:=.inl h.2
theorem TupAt.step {W:Option (Nat×Rl)->Prop}{c c':Col}{H H':Hp}{t:Addr}{xs:List V}(s:Step W c c' H H')(h:TupAt c H t xs):TupAt c' H' t xs:=by
 obtain⟨n,h⟩:=h;have hn:¬W (c t):=by rw[n];exact s.nn
 rcases h with h | ⟨o,h⟩
 ·exact⟨by rw[s.col t _ h hn];exact n,.inl (s.keep _ _ h hn)⟩
 ·exact⟨by rw[s.col t _ h hn];exact n,.inr ⟨o,s.keep _ _ h hn⟩⟩
def Hm (c:Col)(H:Hp)(p:Addr)(tx:List Str):Prop:=c p=none/\H p=some (.lst (tx.map V.str))
theorem Hm.step {W:Option (Nat×Rl)->Prop}{c c':Col}{H H':Hp}{p:Addr}{tx:List Str}(s:Step W c c' H H')(h:Hm c H p tx):Hm c' H' p tx :=
 have hn:¬W (c p):=by rw[h.1];exact s.nn
 ⟨by rw[s.col p _ h.2 hn];exact h.1,s.keep _ _ h.2 hn⟩
def Mn.Val (c:Col)(H:Hp):Mn->V->Prop
 | .mat tx,v=>∃p,v=.ref p/\Hm c H p tx
 | .chg e,v=>∃t,v=.ref t/\TupAt c H t (jZ e)
 | .mnd e,v=>∃t,v=.ref t/\TupAt c H t (jZ e)
 | .off n,v=>v=.int n
 | .pnt z,v=>v=.str z
 |_,_=>True
theorem Mn.Val.step {W:Option (Nat×Rl)->Prop}{c c':Col}{H H':Hp}(s:Step W c c' H H'):∀ {m:Mn} {v:V},m.Val c H v->m.Val c' H' v
 | .mat _,_,⟨p,e,h⟩=>⟨p,e,h.step s⟩
 | .chg _,_,⟨t,e,h⟩=>⟨t,e,h.step s⟩
 | .mnd _,_,⟨t,e,h⟩=>⟨t,e,h.step s⟩
 | .off _,_,h=>h
 | .pnt _,_,h=>h
 | .cls,_,_=>trivial
 | .lay,_,_=>trivial
 | .rst,_,_=>trivial
def mR (A:Adr)(c:Col)(H:Hp)(m:Mn)(o:Addr):Prop:=c o=none/\∃dx v,H o=some (.ins (A.C m.k) dx (vk m.k v))/\m.Val c H v
theorem mR.step {A:Adr}{W:Option (Nat×Rl)->Prop}{c c':Col}{H H':Hp}{m:Mn}{o:Addr}(s:Step W c c' H H')(h:mR A c H m o):mR A c' H' m o:=by
 obtain⟨n,dx,v,h,hv⟩:=h;have hn:¬W (c o):=by rw[n];exact s.nn
 exact⟨by rw[s.col o _ h hn];exact n,dx,v,s.keep _ _ h hn,hv.step s⟩
structure Ch where
 eJ:Int
 bC:Int
 closed:Bool
 made:List Mn
 aV:List Nat
 bg:List (Nat×Int×List Nat)
 decided:List (Nat×Str)
 firsts:List (Nat×List Str)
 kept:List (Nat×List Ed)
 rows:List Str
def nV (n:Nat):V:=.int (n:Int)
def bQ (xs:List (Nat×V)):List (Key×V):=xs.map λp=>(U0 (p.1:Int),p.2)
inductive bZ {α β:Type}(R:α->β->Prop):List α->List β->Prop
 |nil:bZ R [] []
 |cons {a b as bs}:R a b->bZ R as bs->bZ R (a::as) (b::bs)
theorem bZ.imp {α β:Type}{R R':α->β->Prop}(f:∀a b,R a b->R' a b):∀ {as:List α} {bs:List β},bZ R as bs->bZ R' as bs
 |_,_,.nil=>.nil
 |_,_,.cons h t=>.cons (f _ _ h) (t.imp f)
def LstAt (i:Nat)(c:Col)(H:Hp)(r:Rl)(a:Addr)(xs:List V):Prop:=c a=some (i,r)/\H a=some (.lst xs)
def j5 (i:Nat)(c:Col)(H:Hp)(r:Rl)(a:Addr)(xs:List (Nat×V)):Prop:=c a=some (i,r)/\H a=some (.dK (bQ xs))
def chF (v0 v1 v2 v3 v4 v5 v6 v7 v8 v9:V):List (Str×V):=[(ar "seats",v0),(ar "sitting",v1),(ar "closed",v2),(ar "made",v3),(ar "pile",v4),(ar "aside",v5),(ar "decided",v6),(ar "first_texts",v7),(ar "edits_kept",v8),(ar "rows",v9)]
abbrev Lw (i:Nat)(c:Col)(H:Hp)(x:Nat×Int×List Nat)(v:V):Prop:=∃t p,v=.ref t/\TupAt c H t [.int x.2.1,.ref p]/\LstAt i c H (.nG x.1) p (x.2.2.map nV)
abbrev CV (i:Nat)(c:Col)(H:Hp)(x:Nat×List Str)(v:V):Prop:=∃p,v=.ref p/\LstAt i c H (.jA x.1) p (x.2.map V.str)
abbrev Hn (i:Nat)(c:Col)(H:Hp)(x:Nat×List Ed)(v:V):Prop:=∃p ts,v=.ref p/\LstAt i c H (.wL x.1) p (ts.map V.ref)/\bZ (λe t=>TupAt c H t (jZ e)) x.2 ts
structure ChX (A:Adr)(i:Nat)(c:Col)(H:Hp)(o:Addr)(st:Ch)(dx aM aP aA aD aF aE aR:Addr)(ms ds:List Addr)(ws fs es:List V):Prop where
 co:c o=some (i,.ob)
 ob:H o=some (.ins A.aB dx (chF (.int st.eJ) (.int st.bC) (.bl st.closed) (.ref aM) (.ref aP) (.ref aA) (.ref aD) (.ref aF) (.ref aE) (.ref aR)))
 made:j5 i c H .made aM ((VQ 1 st.made.length).zip (ms.map V.ref))
 mot:bZ (λm p=>mR A c H m p) st.made ms
 aV:LstAt i c H .aV aP (st.aV.map nV)
 bg:j5 i c H .bg aA ((st.bg.map (·.1)).zip ws)
 wait:bZ (Lw i c H) st.bg ws
 dec:LstAt i c H .decided aD (ds.map V.ref)
 CW:bZ (λ(x:Nat×Str) t=>TupAt c H t [nV x.1,.str x.2]) st.decided ds
 firsts:j5 i c H .firsts aF ((st.firsts.map (·.1)).zip fs)
 first:bZ (CV i c H) st.firsts fs
 lR:j5 i c H .kept aE ((st.kept.map (·.1)).zip es)
 kept:bZ (Hn i c H) st.kept es
 rows:LstAt i c H .rows aR (st.rows.map V.str)
structure cV (A:Adr)(i:Nat)(c:Col)(H:Hp)(o:Addr)(st:Ch):Prop where
 ex:∃(dx aM aP aA aD aF aE aR:Addr) (ms ds:List Addr) (ws fs es:List V),ChX A i c H o st dx aM aP aA aD aF aE aR ms ds ws fs es
theorem LstAt.keep {i:Nat}{W:Option (Nat×Rl)->Prop}{c c':Col}{H H':Hp}{r:Rl}{a:Addr}{xs:List V}(n:¬W (some (i,r)))(s:Step W c c' H H')(h:LstAt i c H r a xs):LstAt i c' H' r a xs:=by
 have hn:¬W (c a):=by rw[h.1];exact n
 exact⟨by rw[s.col a _ h.2 hn];exact h.1,s.keep _ _ h.2 hn⟩
theorem j5.keep {i:Nat}{W:Option (Nat×Rl)->Prop}{c c':Col}{H H':Hp}{r:Rl}{a:Addr}{xs:List (Nat×V)}(n:¬W (some (i,r)))(s:Step W c c' H H')(h:j5 i c H r a xs):j5 i c' H' r a xs:=by
 have hn:¬W (c a):=by rw[h.1];exact n
 exact⟨by rw[s.col a _ h.2 hn];exact h.1,s.keep _ _ h.2 hn⟩
section
variable{A:Adr}{i:Nat}{p:Rl->Bool}{r:Rl}{c c':Col}{H H':Hp}{a o:Addr}
theorem LstAt.kp {xs:List V}(h:p r=false)(s:Step (Wr i p) c c' H H')(z:LstAt i c H r a xs):LstAt i c' H' r a xs:=z.keep (Wr.no h) s
theorem j5.kp {xs:List (Nat×V)}(h:p r=false)(s:Step (Wr i p) c c' H H')(z:j5 i c H r a xs):j5 i c' H' r a xs:=z.keep (Wr.no h) s
theorem bZ.imp_mem {α β:Type}{R R':α->β->Prop}:∀ {as:List α} {bs:List β},(∀a∈as,∀b,R a b->R' a b)->bZ R as bs->bZ R' as bs
 |_,_,_,.nil=>.nil
 |_,_,f,.cons h t=>.cons (f _ kb _ h) (t.imp_mem λa m b=>f a (kr _ m) b)
theorem wM {as:List Mn}{ms:List Addr}{W:Option (Nat×Rl)->Prop}(s:Step W c c' H H')(z:bZ (λm p=>mR A c H m p) as ms):bZ (λm p=>mR A c' H' m p) as ms:=z.imp λ_ _ y=>y.step s
theorem wN {as:List (Nat×Str)}{ds:List Addr}{W:Option (Nat×Rl)->Prop}(s:Step W c c' H H')(z:bZ (λ(x:Nat×Str) t=>TupAt c H t [nV x.1,.str x.2]) as ds):bZ (λ(x:Nat×Str) t=>TupAt c' H' t [nV x.1,.str x.2]) as ds:=z.imp λ_ _ y=>y.step s
theorem zG {as:List (Nat×Int×List Nat)}{ws:List V}(h:∀x∈as,p (.nG x.1)=false)(s:Step (Wr i p) c c' H H')(z:bZ (Lw i c H) as ws):bZ (Lw i c' H') as ws :=
 z.imp_mem λx m v ⟨t,q,e,z1,z2⟩=>⟨t,q,e,z1.step s,z2.kp (h x m) s⟩
theorem zH {as:List (Nat×List Str)}{ws:List V}(h:∀x∈as,p (.jA x.1)=false)(s:Step (Wr i p) c c' H H')(z:bZ (CV i c H) as ws):bZ (CV i c' H') as ws :=
 z.imp_mem λx m v ⟨q,e,z2⟩=>⟨q,e,z2.kp (h x m) s⟩
theorem zI {as:List (Nat×List Ed)}{ws:List V}(h:∀x∈as,p (.wL x.1)=false)(s:Step (Wr i p) c c' H H')(z:bZ (Hn i c H) as ws):bZ (Hn i c' H') as ws :=
 z.imp_mem λx m v ⟨q,ts,e,z2,z3⟩=>⟨q,ts,e,z2.kp (h x m) s,z3.imp λ_ _ y=>y.step s⟩
end
theorem cV.other {A:Adr}{i j:Nat}(n:i≠j){c c':Col}{H H':Hp}{o:Addr}{st:Ch}(s:Step (dn j) c c' H H')(h:cV A i c H o st):cV A i c' H' o st:=by
 obtain⟨dx,aM,aP,aA,aD,aF,aE,aR,ms,ds,ws,fs,es,h1,h2,h3,h4,h5,h6,h7,h8,h9,h10,h11,h12,h13,h14⟩:=h.ex;have no:=λr=>zE n r
 have hn:¬dn j (c o):=by rw[h1];exact no _
 refine⟨dx,aM,aP,aA,aD,aF,aE,aR,ms,ds,ws,fs,es,by rw[s.col o _ h2 hn];exact h1,s.keep _ _ h2 hn,h3.keep (no _) s,h4.imp λ_ _ z=>z.step s,h5.keep (no _) s,h6.keep (no _) s,h7.imp ?_,h8.keep (no _) s,h9.imp λ_ _ z=>z.step s,
  h10.keep (no _) s,h11.imp ?_,h12.keep (no _) s,h13.imp ?_,h14.keep (no _) s⟩
 ·rintro x v ⟨t,p,e,z1,z2⟩;exact⟨t,p,e,z1.step s,z2.keep (no _) s⟩
 ·rintro x v ⟨p,e,z⟩;exact⟨p,e,z.keep (no _) s⟩
 ·rintro x v ⟨p,ts,e,z1,z2⟩;exact⟨p,ts,e,z1.keep (no _) s,z2.imp λ_ _ y=>y.step s⟩
section
variable{v0 v1 v2 v3 v4 v5 v6 v7 v8 v9 y:V}
theorem IL:(chF v0 v1 v2 v3 v4 v5 v6 v7 v8 v9).lookup (ar "seats")=some v0:=by simp only[chF,Vv,show (ar "seats" == ar "seats")=true from by trivial]
theorem pA:(chF v0 v1 v2 v3 v4 v5 v6 v7 v8 v9).lookup (ar "sitting")=some v1:=by simp only[chF,Vv,show (ar "sitting" == ar "seats")=false from by trivial,show (ar "sitting" == ar "sitting")=true from by trivial]
theorem zJ:(chF v0 v1 v2 v3 v4 v5 v6 v7 v8 v9).lookup (ar "closed")=some v2:=by simp only[chF,Vv,show (ar "closed" == ar "seats")=false from by trivial,show (ar "closed" == ar "sitting")=false from by trivial,show (ar "closed" == ar "closed")=true from by trivial]
theorem pB:(chF v0 v1 v2 v3 v4 v5 v6 v7 v8 v9).lookup (ar "made")=some v3:=by simp only[chF,Vv,show (ar "made" == ar "seats")=false from by trivial,show (ar "made" == ar "sitting")=false from by trivial,show (ar "made" == ar "closed")=false from by trivial,show (ar "made" == ar "made")=true from by trivial]
theorem lS:(chF v0 v1 v2 v3 v4 v5 v6 v7 v8 v9).lookup (ar "pile")=some v4:=by simp only[chF,Vv,show (ar "pile" == ar "seats")=false from by trivial,show (ar "pile" == ar "sitting")=false from by trivial,show (ar "pile" == ar "closed")=false from by trivial,show (ar "pile" == ar "made")=false from by trivial,show (ar "pile" == ar "pile")=true from by trivial]
theorem Bl:(chF v0 v1 v2 v3 v4 v5 v6 v7 v8 v9).lookup (ar "aside")=some v5:=by simp only[chF,Vv,show (ar "aside" == ar "seats")=false from by trivial,show (ar "aside" == ar "sitting")=false from by trivial,show (ar "aside" == ar "closed")=false from by trivial,show (ar "aside" == ar "made")=false from by trivial,show (ar "aside" == ar "pile")=false from by trivial,show (ar "aside" == ar "aside")=true from by trivial]
theorem wO:(chF v0 v1 v2 v3 v4 v5 v6 v7 v8 v9).lookup (ar "decided")=some v6:=by simp only[chF,Vv,show (ar "decided" == ar "seats")=false from by trivial,show (ar "decided" == ar "sitting")=false from by trivial,show (ar "decided" == ar "closed")=false from by trivial,show (ar "decided" == ar "made")=false from by trivial,show (ar "decided" == ar "pile")=false from by trivial,show (ar "decided" == ar "aside")=false from by trivial,show (ar "decided" == ar "decided")=true from by trivial]
theorem xG:(chF v0 v1 v2 v3 v4 v5 v6 v7 v8 v9).lookup (ar "first_texts")=some v7:=by simp only[chF,Vv,show (ar "first_texts" == ar "seats")=false from by trivial,show (ar "first_texts" == ar "sitting")=false from by trivial,show (ar "first_texts" == ar "closed")=false from by trivial,show (ar "first_texts" == ar "made")=false from by trivial,show (ar "first_texts" == ar "pile")=false from by trivial,show (ar "first_texts" == ar "aside")=false from by trivial,show (ar "first_texts" == ar "decided")=false from by trivial,show (ar "first_texts" == ar "first_texts")=true from by trivial]
theorem zK:(chF v0 v1 v2 v3 v4 v5 v6 v7 v8 v9).lookup (ar "edits_kept")=some v8:=by simp only[chF,Vv,show (ar "edits_kept" == ar "seats")=false from by trivial,show (ar "edits_kept" == ar "sitting")=false from by trivial,show (ar "edits_kept" == ar "closed")=false from by trivial,show (ar "edits_kept" == ar "made")=false from by trivial,show (ar "edits_kept" == ar "pile")=false from by trivial,show (ar "edits_kept" == ar "aside")=false from by trivial,show (ar "edits_kept" == ar "decided")=false from by trivial,show (ar "edits_kept" == ar "first_texts")=false from by trivial,show (ar "edits_kept" == ar "edits_kept")=true from by trivial]
theorem uh:(chF v0 v1 v2 v3 v4 v5 v6 v7 v8 v9).lookup (ar "rows")=some v9:=by simp only[chF,Vv,show (ar "rows" == ar "seats")=false from by trivial,show (ar "rows" == ar "sitting")=false from by trivial,show (ar "rows" == ar "closed")=false from by trivial,show (ar "rows" == ar "made")=false from by trivial,show (ar "rows" == ar "pile")=false from by trivial,show (ar "rows" == ar "aside")=false from by trivial,show (ar "rows" == ar "decided")=false from by trivial,show (ar "rows" == ar "first_texts")=false from by trivial,show (ar "rows" == ar "edits_kept")=false from by trivial,show (ar "rows" == ar "rows")=true from by trivial]
theorem Ge:fh (ar "closed") y (chF v0 v1 v2 v3 v4 v5 v6 v7 v8 v9)=chF v0 v1 y v3 v4 v5 v6 v7 v8 v9:=by
 unfold chF;simp only[fh];rw[if_neg (by trivial),if_neg (by trivial),if_pos trivial]
end
def IM (A:Adr)(i:Nat):Sp:=λvs H Q E=>∃(o:Addr) (c:Col) (st:Ch),vs=[.ref o]/\cV A i c H o st/\(st.aV≠[]->Q .non H)/\(st.aV=[]->E (.ref A.bI) none H)
section
variable{P:ko}{w:World}{K:ba}{mg:Str->Option Value}{base:Heap}{A:Adr}
theorem jB (T:Txt w.params K mg A){i:Nat}:FnOk P w K mg base (CXX P w) 1 A.dj A.cY ["self"] (IM A i):=by
 refine T.jK.okX jh (λvs H Q E h=>?_) (λcdv A' outer s H vs Q E hr h=>?_)
 ·obtain⟨o,c,st,rfl,_⟩:=h;rfl
 ·obtain⟨o,c,st,rfl,hc,q1,q2⟩:=h;obtain⟨dx,aM,aP,aA,aD,aF,aE,aR,ms,ds,ws,fs,es,h1,h2,h3,h4,h5,h6,h7,h8,h9,h10,h11,h12,h13,h14⟩:=hc.ex;refine⟨_,(aC (bU (q9 (sO (bF (pv 0) rfl) (λ_=>rfl)))
 (aC (i7 T.F4 rfl rfl T.u6 (aa ag ae)))
 (gf aO))),?_⟩
  try dsimp only[bh]
  refine iA rfl h2 T.az T.cO lS ?_;refine⟨_,.inl ⟨_,.inl (.inl h5.2),rfl⟩,?_⟩;cases e:st.aV with
  |nil=>exact dZ ⟨by decide,q2 e⟩
  |cons x r=>exact cf (q1 (by rw[e];exact UX _ _))
end
theorem bZ.len {α β:Type}{R:α->β->Prop}:∀ {as:List α} {bs:List β},bZ R as bs->as.length=bs.length
 |_,_,.nil=>rfl
 |_,_,.cons _ t=>by rw[kf,kf,t.len]
theorem bZ.get {α β:Type}{R:α->β->Prop}:∀ {as:List α} {bs:List β} {i:Nat} {a:α},bZ R as bs->as[i]?=some a->∃b,bs[i]?=some b/\R a b
 |_,_,_,_,.nil,h=>by simp at h
 |_,_,0,_,.cons h t,e=>by
  rw[VN]at e;cases e;exact⟨_,VN,h⟩
 |_,_,i+1,_,.cons h t,e=>by
  rw[V0]at e;obtain⟨b,e1,e2⟩:=t.get e;exact⟨b,by rw[V0];exact e1,e2⟩
theorem zL:∀(ms:List Addr) (s k:Nat) {o:Addr},ms[k]?=some o->ee (bQ ((VQ s ms.length).zip (ms.map V.ref))) (U0 ((s+k:Nat):Int))=some (.ref o)
 |[],_,_,_,h=>by simp at h
 |m::ms,s,0,o,h=>by
  rw[VN]at h;cases h;exact nZ (p:=(U0 ((s:Nat):Int),V.ref m)) rfl
 |m::ms,s,k+1,o,h=>by
  rw[V0]at h;have ih:=zL ms (s+1) k h;have e:s+(k+1)=s+1+k:=by omega
  rw[e];refine(ly (p:=(U0 ((s:Nat):Int),V.ref m)) ?_).trans ih;intro z;have z':((s:Nat):Int)=((s+1+k:Nat):Int):=Sum.inl.inj z;omega
def Ch.mo (st:Ch)(n:Nat):Mn:=st.made.getD (n - 1) .cls
def eY (st:Ch)(n:Nat):Prop:=1<=n/\n<=st.made.length
def IP (A:Adr)(i:Nat):Sp:=λvs H Q _=>∃(o:Addr) (c:Col) (st:Ch),vs=[.ref o]/\cV A i c H o st/\(∀n∈st.aV,eY st n)/\st.aV.length<=1000 /\
 ∀R os,H R=none->bZ (λn m=>mR A c H (st.mo n) m) st.aV os->Q (.ref R) (upd H R (.lst (os.map V.ref)))
theorem Ho {A:Adr}{c:Col}{H:Hp}{st:Ch}{ms:List Addr}(h:bZ (λm p=>mR A c H m p) st.made ms):∀(ns:List Nat),(∀n∈ns,eY st n)->bZ (λn m=>mR A c H (st.mo n) m) ns (ns.map λn=>ms.getD (n - 1) 0)
 |[],_=>.nil
 |n::ns,g=>by
  have hn:=g n kb;have hlt:n - 1 < st.made.length:=by have:=hn.1;have:=hn.2;omega
  obtain⟨b,e1,e2⟩:=h.get (UT hlt);refine .cons ?_ (Ho h ns λn hn=>g n (kr _ hn))
  have e3:st.mo n=st.made[n - 1]:=by unfold Ch.mo;rw[UY,UT hlt];rfl
  have e4:ms.getD (n - 1) 0=b:=by rw[UY,e1];rfl
  show mR A c H (st.mo n) (ms.getD (n - 1) 0);rw[e3,e4];exact e2
section
variable{P:ko}{w:World}{K:ba}{mg:Str->Option Value}{base:Heap}{A:Adr}
theorem Gf (T:Txt w.params K mg A){i:Nat}:FnOk P w K mg base CX0 1 A.gx A.fM ["self"] (IP A i):=by
 refine T.t4.ok rC (λvs H Q E h=>?_) (λcdv A' outer s H vs Q E hr h=>?_)
 ·obtain⟨o,c,st,rfl,_⟩:=h;rfl
 ·obtain⟨o,c,st,rfl,hc,hp,hpl,q⟩:=h;obtain⟨dx,aM,aP,aA,aD,aF,aE,aR,ms,ds,ws,fs,es,h1,h2,h3,h4,h5,h6,h7,h8,h9,h10,h11,h12,h13,h14⟩:=hc.ex;have hu1:=hr.u1;refine⟨_,(aq (aI (jP (scope:=gH) oh rfl (g8 (bF (pv 0) rfl)) (λ_ _ _ _ _=>(s9 hu1 (MU (K:=K) rfl (pv 1) rfl) (pv 0) (λ_ _=>rfl)))))),?_⟩
  try dsimp only[bh]
  have ml:=h4.len;refine iA rfl h2 T.az T.cO lS ?_;have hB:SqL K H aP (st.aV.map nV):=SqL.of h5.2;refine⟨aP,rfl,⟨_,hB⟩,λR hR=>?_⟩
  have sR:∀ {o:HO},aS H (upd H R o):=aw hR;refine pO (K:=K) (a:=aP) (xs:=st.aV.map nV) (λi ys H2=>ys=((st.aV.take i).map λn=>V.ref (ms.getD (n - 1) 0))/\H2=upd H R (.lst ys)) ⟨rfl,rfl⟩ (by rw[da,sizeLine_eq];omega) ?_ ?_ ?_
  ·rintro i ys H2 hi ⟨rfl,rfl⟩;rw[da]at hi;exact⟨sR.seq hB,af,by rw[da,Vy];omega⟩
  ·rintro i y ys H2 hy ⟨rfl,rfl⟩;refine aX λGq gq=>?_
   obtain⟨n,hn1,rfl⟩:∃n,st.aV[i]?=some n/\nV n=y:=by
    rw[U5]at hy;cases ht:st.aV[i]? with
    |none=>rw[ht]at hy;cases hy
    |some t=>rw[ht]at hy;exact⟨t,rfl,ra hy⟩
   have hn:=hp n (ma hn1);have hlt:n - 1 < ms.length:=by have:=hn.1;have:=hn.2;omega
   have hm:ms[n - 1]?=some (ms.getD (n - 1) 0):=by rw[UY,UT hlt];rfl
   have hv:=zL ms 1 (n - 1) hm;rw[<-ml,show 1+(n - 1)=n by have:=hn.1;omega]at hv
   refine gq ?_;refine iA rfl (sR _ _ h2) T.az T.dB pB ?_;refine⟨_,rfl,aM,_,rfl,.inl ⟨_,U0 (n:Int),.inl (sR _ _ h3.2),rfl,hv.symm⟩,?_⟩;refine dF.mk (List.getElem?_eq_some_iff.mp hy).1 af ⟨?_,by rw[sH]⟩
   rw[Wx,hn1,UZ];rfl
  ·rintro ys H2 ⟨rfl,rfl⟩;rw[da,VP];have:=q R _ hR (Ho h4 st.aV hp);rw[List.map_map]at this;exact this
end
theorem bZ.snoc {α β:Type}{R:α->β->Prop}:∀ {as:List α} {bs:List β} {a:α} {b:β},bZ R as bs->R a b->bZ R (as++[a]) (bs++[b])
 |_,_,_,_,.nil,h=>.cons h .nil
 |_,_,_,_,.cons g t,h=>.cons g (t.snoc h)
def Lx (A:Adr)(i:Nat):Sp:=λvs H Q _=>∃(o:Addr) (wd:Str) (c:Col) (st:Ch) (pre:List Nat) (n:Nat),vs=[.ref o,.str wd]/\cV A i c H o st/\st.aV=pre++[n]/\st.aV.length<=1000/\st.decided.length<=1000 /\
 ∀c' H',Step (dn i) c c' H H'->cV A i c' H' o { st with aV:=pre,decided:=st.decided++[(n,wd)] }->Q .non H'
section
variable{P:ko}{w:World}{K:ba}{mg:Str->Option Value}{base:Heap}{A:Adr}
theorem IQ (T:Txt w.params K mg A){i:Nat}:FnOk P w K mg base CX0 1 A.eS A.ei ["self","word"] (Lx A i):=by
 refine T.u5.ok tF (λvs H Q E h=>?_) (λcdv A' outer s H vs Q E hr h=>?_)
 ·obtain⟨o,wd,c,st,pre,n,rfl,_⟩:=h;rfl
 ·obtain⟨o,wd,c,st,pre,n,rfl,hc,hp,hpl,hdl,q⟩:=h;obtain⟨dx,aM,aP,aA,aD,aF,aE,aR,ms,ds,ws,fs,es,h1,h2,h3,h4,h5,h6,h7,h8,h9,h10,h11,h12,h13,h14⟩:=hc.ex;refine⟨_,(aq (cS (ic Vj VA VB eP (bF (pv 0) rfl) (aa (a8 (aa (JS Vj PySem.F.slot_list_pop PySem.F.type_list_pop O0 (bF (pv 0) rfl)) (aa (pv 1) ae))) ae)))),?_⟩
  try dsimp only[bh]
  refine iA rfl h2 T.az T.fO wO ?_;have hy:(st.aV.map nV)[(st.aV.map nV).length - 1]?=some (nV n):=by rw[hp];simp
  have hdr:(st.aV.map nV).dropLast=pre.map nV:=by rw[hp,UZ];simp
  have nPD:aD≠aP:=λz=>by have:=h8.1;rw[z,h5.1]at this;cases this
  refine⟨.inl ⟨rfl,_,SqL.of h8.2⟩,iA rfl h2 T.az T.cO lS ?_⟩;refine⟨.inl ⟨rfl,_,SqL.of h5.2⟩,aP,_,_,rfl,rfl,h5.2,hy,_,rfl,(sl 2),λp hp0=>?_⟩
  have np:∀ {a:Addr} {v:HO},H a=some v->a≠p:=by
   intro a v e z;subst z
   by_cases y:a=aP
   ·subst y;rw[af]at hp0;cases hp0
   ·rw[ax y,e]at hp0;cases hp0
  have nn:¬(λx=>x=some (i,Rl.aV)\/x=some (i,Rl.decided)) (none:Option (Nat×Rl)):=by rintro (z | z) <;> cases z
  refine⟨aD,_,_,rfl,rfl,(ax (np h8.2)).trans ((ax nPD).trans h8.2),?_,?_⟩
  ·rw[da,<-h9.len,sizeLine_eq];omega
  have sp:Step (λx=>x=some (i,Rl.aV)\/x=some (i,Rl.decided)) c (aZ c p none) H (upd (upd (upd H aP (.lst (st.aV.map nV).dropLast)) p (.tup [nV n,.str wd])) aD (.lst (ds.map V.ref++[.ref p]))) :=
   ((Step.upd nn (.inl h5.1)).trans (Step.new nn hp0)).trans (Step.upd nn (.inr (by rw[aG (np h8.2)];exact h8.1)))
  have ht:TupAt (aZ c p none) (upd (upd (upd H aP (.lst (st.aV.map nV).dropLast)) p (.tup [nV n,.str wd])) aD (.lst (ds.map V.ref++[.ref p]))) p [nV n,.str wd] :=
   ⟨bD,.inl ((ax (np h8.2).symm).trans af)⟩
  have kp:LstAt i (aZ c p none) (upd (upd (upd H aP (.lst (st.aV.map nV).dropLast)) p (.tup [nV n,.str wd])) aD (.lst (ds.map V.ref++[.ref p]))) .aV aP (pre.map nV) :=
   ⟨by rw[aG (np h5.2)];exact h5.1,by rw[ax nPD.symm,ax (np h5.2),af,hdr]⟩
  have kd:LstAt i (aZ c p none) (upd (upd (upd H aP (.lst (st.aV.map nV).dropLast)) p (.tup [nV n,.str wd])) aD (.lst (ds.map V.ref++[.ref p]))) .decided aD ((ds++[p]).map V.ref) :=
   ⟨by rw[aG (np h8.2)];exact h8.1,by rw[af,UZ];rfl⟩
  generalize upd (upd (upd H aP (.lst (st.aV.map nV).dropLast)) p (.tup [nV n,.str wd])) aD (.lst (ds.map V.ref++[.ref p]))=H' at sp ht kp kd ⊢;generalize aZ c p none=c' at sp ht kp kd;have no:∀r,r≠Rl.aV->r≠Rl.decided->¬(λx=>x=some (i,Rl.aV)\/x=some (i,Rl.decided)) (some (i,r)):=λr y1 y2=>by
   rintro (z | z)
   ·cases z;exact y1 rfl
   ·cases z;exact y2 rfl
  have hno:=no .ob (λz=>nomatch z) (λz=>nomatch z)
  refine q c' H' (sp.mono (by rintro x (z | z) <;> exact⟨_,z⟩) aW) ⟨dx,aM,aP,aA,aD,aF,aE,aR,ms,ds++[p],ws,fs,es,by rw[sp.col o _ h2 (by rw[h1];exact hno)];exact h1,sp.keep _ _ h2 (by rw[h1];exact hno),
   h3.keep (no .made (λz=>nomatch z) (λz=>nomatch z)) sp,h4.imp λ_ _ z=>z.step sp,kp,h6.keep (no .bg (λz=>nomatch z) (λz=>nomatch z)) sp,h7.imp ?_,kd,(h9.imp λ_ _ z=>z.step sp).snoc ht,
   h10.keep (no .firsts (λz=>nomatch z) (λz=>nomatch z)) sp,h11.imp ?_,h12.keep (no .kept (λz=>nomatch z) (λz=>nomatch z)) sp,h13.imp ?_,h14.keep (no .rows (λz=>nomatch z) (λz=>nomatch z)) sp⟩
  ·rintro x v ⟨t,a,e,z1,z2⟩;exact⟨t,a,e,z1.step sp,z2.keep (no (.nG x.1) (λz=>nomatch z) (λz=>nomatch z)) sp⟩
  ·rintro x v ⟨a,e,z⟩;exact⟨a,e,z.keep (no (.jA x.1) (λz=>nomatch z) (λz=>nomatch z)) sp⟩
  ·rintro x v ⟨a,ts,e,z1,z2⟩;exact⟨a,ts,e,z1.keep (no (.wL x.1) (λz=>nomatch z) (λz=>nomatch z)) sp,z2.imp λ_ _ y=>y.step sp⟩
end
inductive Xc where
 |zM (b:Int) | zN | noChange | noFit | ui (n:Int) | nothing | tooMany | Hq | Ly (n:Int) | ER
def Xc.At (A:Adr)(H:Hp):Xc->Value->Option Addr->Prop
 | .zM b,C,d=>C=.ref A.bP/\∃a,d=some a/\H a=some (.xd [(ar "bar",.int b)])
 | .zN,C,d=>C=.ref A.mE/\d=none
 | .noChange,C,d=>C=.ref A.mF/\d=none
 | .noFit,C,d=>C=.ref A.cJ/\d=none
 | .ui n,C,d=>C=.ref A.gZ/\∃a,d=some a/\H a=some (.xd [(ar "sitting",.int n)])
 | .nothing,C,d=>C=.ref A.bI/\d=none
 | .tooMany,C,d=>C=.ref A.bN/\d=none
 | .Hq,C,d=>C=.ref A.pZ/\d=none
 | .Ly n,C,d=>C=.ref A.oH/\∃a,d=some a/\H a=some (.xd [(ar "sitting",.int n)])
 | .ER,C,d=>C=.ref A.bu/\d=none
def Xc.New (A:Adr)(H H':Hp)(x:Xc)(C:Value)(d:Option Addr):Prop:=x.At A H' C d/\∀a,d=some a->H a=none
theorem same_none {H H':Hp}(s:aS H H'){a:Addr}(h:H' a=none):H a=none:=by
 cases z:H a with
 |none=>rfl
 |some v=>rw[s _ _ z]at h;cases h
theorem dD {i:Int}(h0:-10000000000 < i)(h1:i < 10000000000):i.natAbs.log2 < 1920:=by
 have h:i.natAbs < 2 ^ 34:=by
  have:(10000000000:Int)<=2 ^ 34:=by decide
  omega
 by_cases hz:i.natAbs=0
 ·rw[hz];decide
 ·exact Nat.lt_trans ((Nat.log2_lt hz).mpr h) (by decide)
theorem fZ {i:Int}(h0:0<=i)(h1:i < 10000000000):(ar (toString i)).length<=20 :=
 ku (PyProof.Rows.toString_length_le h0 (by decide:(1:Nat)<=11) (by show i < (10:Int) ^ 11;omega)) (by decide)
theorem Bm {i:Int}(h0:0<=i)(h1:i < 10000000000):∃z,sY (.int i) z/\z.length<=10000 :=
 ⟨_,.int (dD (by omega) h1),ku (fZ h0 h1) (by decide)⟩
def sx (ms:List Mn):Int:=match ms.getLast? with
 |none=>-1
 |some m=>(m.k:Int)
def xH (cl:Bool)(ms:List Mn):Int:=if cl=true then (if (4:Int) > sx ms then 4 else sx ms) else sx ms
def IS (ms:List Mn):Bool:=ms.any λm=>decide (m.k=0)
def mS (ms:List Mn):Bool:=match ms.getLast? with
 |some (.chg e)=>!decide (e.k=1)
 |_=>false
def ES (ms:List Mn)(k:Nat):Bool:=if k=2 then mS ms else if k=1\/k=3\/k=4\/k=5 then IS ms else true
def AF (cl:Bool)(ms:List Mn)(k:Nat):Option Xc :=
 if (k:Int)<=xH cl ms then some (.zM (xH cl ms)) else if ES ms k=true then none else if IS ms=true then some .noChange else some .zN
theorem Lz (ms:List Mn):-1<=sx ms/\sx ms < 8:=by
 unfold sx;split
 ·omega
 ·rename_i m _;have:=m.k8;omega
theorem Qa (cl:Bool)(ms:List Mn):-1<=xH cl ms/\xH cl ms < 8:=by
 have:=Lz ms;unfold xH;split
 ·split <;> omega
 ·omega
def uj (A:Adr)(K:ba)(c:Col)(H:Hp)(B:Addr)(ms:List Mn)(os:List Addr):Prop:=SqL K H B (os.map V.ref)/\bZ (λm p=>mR A c H m p) ms os
theorem mR.same {A:Adr}{c:Col}{H H':Hp}{m:Mn}{o:Addr}(s:aS H H')(h:mR A c H m o):mR A c H' m o:=h.step (Step.same (W:=λ_=>False) id s)
theorem uj.same {A:Adr}{K:ba}{c:Col}{H H':Hp}{B:Addr}{ms:List Mn}{os:List Addr}(s:aS H H')(h:uj A K c H B ms os):uj A K c H' B ms os:=⟨s.seq h.1,h.2.imp λ_ _ y=>y.same s⟩
def RV (A:Adr)(K:ba):Sp:=λvs H Q _=>∃(B:Addr) (cl:Bool) (c:Col) (ms:List Mn) (os:List Addr),vs=[.ref B,.bl cl]/\uj A K c H B ms os/\Q (.int (xH cl ms)) H
def RW (A:Adr)(K:ba):Sp:=λvs H Q _=>∃(B:Addr) (c:Col) (ms:List Mn) (os:List Addr),vs=[.ref B]/\uj A K c H B ms os/\ms.length<=1000/\∀H',aS H H'->Q (.bl (IS ms)) H'
def Qb (A:Adr)(K:ba):Sp:=λvs H Q _=>∃(B:Addr) (c:Col) (ms:List Mn) (os:List Addr),vs=[.ref B]/\uj A K c H B ms os/\∀H',aS H H'->Q (.bl (mS ms)) H'
def Nc (A:Adr)(K:ba):Sp:=λvs H Q _=>∃(k:Nat) (B:Addr) (c:Col) (ms:List Mn) (os:List Addr),vs=[.str (nm k),.ref B]/\k < 8/\uj A K c H B ms os/\ms.length<=1000/\∀H',aS H H'->Q (.bl (ES ms k)) H'
def RX (A:Adr)(K:ba):Sp:=λvs H Q E=>∃(k:Nat) (B:Addr) (cl:Bool) (c:Col) (ms:List Mn) (os:List Addr),vs=[.str (nm k),.ref B,.bl cl]/\k < 8/\uj A K c H B ms os/\ms.length<=1000 /\
 (AF cl ms k=none->∀H',aS H H'->Q .non H')/\∀x,AF cl ms k=some x->∀C d H',aS H H'->x.New A H H' C d->E C d H'
def CY (A:Adr)(K:ba)(k:Nat):Sp:=λvs H Q E=>(k=0/\Hi A K vs H Q E)\/Gb A k vs H Q E
theorem zO (pre:List Addr)(q:Addr):atI ((pre++[q]).map V.ref) (-1)=some (.ref q):=by
 rw[UZ];exact yg _ _
theorem Gg:∀k,k < 8->decide (V.str (nm k)=V.str (ar "matter"))=decide (k=0):=by trivial
theorem kX:∀k,k < 8->decide (V.str (nm k)=V.str (ar "change"))=decide (k=1):=by trivial
theorem pD:∀k,k < 8->decide (V.str (nm k)=V.str (ar "mend"))=decide (k=2):=by trivial
theorem vt:∀k,k < 8->decide (V.str (nm k)=V.str (ar "put off"))=decide (k=3):=by trivial
theorem xV:∀ {k:Nat} {v:V},atI (rowOf k v) 0=some (.str (nm k))
 | 0,_=>rfl
 | 1,_=>rfl
 | 2,_=>rfl
 | 3,_=>rfl
 | 4,_=>rfl
 | 5,_=>rfl
 | 6,_=>rfl
 | 7,_=>rfl
 |_+8,_=>rfl
theorem Nd:∀k,decide (V.str (kn k)=V.str (ar "cut"))=decide (k=1)
 | 0=>by trivial
 | 1=>by trivial
 |n+2=>by rw[decide_eq_false (show ¬n+2=1 by omega)];show decide (V.str (ar "turn")=_)=_;trivial
theorem bZ.last {α β:Type}{R:α->β->Prop}{as:List α}{pre:List β}{b:β}(h:bZ R as (pre++[b])):∃as' a,as=as'++[a]/\bZ R as' pre/\R a b:=by
 induction pre generalizing as with
 |nil =>
  cases h with
  |cons h t=>cases t;exact⟨[],_,rfl,.nil,h⟩
 |cons x r ih =>
  cases h with
  |cons h t =>
   obtain⟨as',a,rfl,h1,h2⟩:=ih t;exact⟨_::as',a,rfl,.cons h h1,h2⟩
theorem p7 (ms:List Mn)(m:Mn):sx (ms++[m])=(m.k:Int):=by unfold sx;rw[Wn]
section
variable{P:ko}{w:World}{K:ba}{mg:Str->Option Value}{base:Heap}{A:Adr}
theorem ET (T:Txt w.params K mg A):FnOk P w K mg base CX0 1 A.yW A.uX ["self","bar"] (uH A.bP "bar"):=by
 refine T.F6.ok yK (λvs H Q E h=>?_) (λcdv A' outer s H vs Q E hr h=>?_)
 ·obtain⟨e,v,rfl,_⟩:=h;rfl
 ·obtain⟨e,v,rfl,hx,⟨z,fz,zl⟩,q⟩:=h;refine⟨_,(ak (cS (nY T.d8 T.vf rfl T.cZ (aa (pv 0) (aa (vR (gi (kz (pv 1) nX))) ae))))
 (aq (sZ T.vf (pv 0) (pv 1)))),?_⟩
  try dsimp only[bh]
  have sz:de=16777216:=by decide
  have c5:(ar "barred by the bar ").length=18:=by trivial
  have e5:(U7++ar "barred by the bar ":Str).length=18:=by trivial
  refine⟨_,rfl,by rw[e5];omega,_,rfl,z,fz,by omega,by rw[len_app,e5];omega,by rw[len_app,e5];omega,e,_,rfl,hx,?_⟩
  exact⟨_,rfl,_,rfl,e,rfl,hx,λd hd=>q d hd⟩
theorem AG (T:Txt w.params K mg A):FnOk P w K mg base CX0 1 A.rQ A.oI ["self","sitting"] (uH A.gZ "sitting"):=by
 refine T.CJ.ok uJ (λvs H Q E h=>?_) (λcdv A' outer s H vs Q E hr h=>?_)
 ·obtain⟨e,v,rfl,_⟩:=h;rfl
 ·obtain⟨e,v,rfl,hx,⟨z,fz,zl⟩,q⟩:=h;refine⟨_,(ak (cS (nY T.d8 T.pj rfl T.cZ (aa (pv 0) (aa (vR (gi (kz (pv 1) nX))) ae))))
 (aq (sZ T.pj (pv 0) (pv 1)))),?_⟩
  try dsimp only[bh]
  have sz:de=16777216:=by decide
  have c5:(ar "not later than the sitting ").length=27:=by trivial
  have e5:(U7++ar "not later than the sitting ":Str).length=27:=by trivial
  refine⟨_,rfl,by rw[e5];omega,_,rfl,z,fz,by omega,by rw[len_app,e5];omega,by rw[len_app,e5];omega,e,_,rfl,hx,?_⟩
  exact⟨_,rfl,_,rfl,e,rfl,hx,λd hd=>q d hd⟩
theorem EU (T:Txt w.params K mg A):∀k,k < 8->FnOk P w K mg base CX0 2 (A.ft k) (A.ftd k) ["self"] (CY A K k)
 | 0,_=>(Lq T).imp λvs H Q E h=>h.elim (λz=>z.2) (λz=>absurd z.1 (by decide))
 | 1,h=>(mM T 1 h).imp λvs H Q E h=>h.elim (λz=>absurd z.1 (by decide)) id
 | 2,h=>(mM T 2 h).imp λvs H Q E h=>h.elim (λz=>absurd z.1 (by decide)) id
 | 3,h=>(mM T 3 h).imp λvs H Q E h=>h.elim (λz=>absurd z.1 (by decide)) id
 | 4,h=>(mM T 4 h).imp λvs H Q E h=>h.elim (λz=>absurd z.1 (by decide)) id
 | 5,h=>(mM T 5 h).imp λvs H Q E h=>h.elim (λz=>absurd z.1 (by decide)) id
 | 6,h=>(mM T 6 h).imp λvs H Q E h=>h.elim (λz=>absurd z.1 (by decide)) id
 | 7,h=>(mM T 7 h).imp λvs H Q E h=>h.elim (λz=>absurd z.1 (by decide)) id
 |n+8,h=>absurd h (by omega)
theorem IT (T:Txt w.params K mg A):FnOk P w K mg base CX0 3 A.FU A.uO ["pile","closed"] (RV A K):=by
 have Qc:∀k,k < 8->FnOk P w K mg base CX0 2 A.f_r A.MX ["self"] (Lo A):=λ_ _=>M7 T
 refine T.D5.ok A7 (λvs H Q E h=>?_) (λcdv A' outer s H vs Q E hr h=>?_)
 ·obtain⟨B,cl,c,ms,os,rfl,_⟩:=h;rfl
 ·obtain⟨B,cl,c,ms,os,rfl,⟨hB,ho⟩,q⟩:=h;refine⟨_,(ak (aT (i:=2) A7.nd rfl (ro rfl) (Dv (sO (pv 0) (λ_=>rfl)) (lx (n:=8) (Cf:=A.C) (aY bz (pv 0) (AR uA ao) (λ_ _=>rfl)) T.cl T.PV Qc hr T.PY a6) (AR uA ao)))
 (ak (bW (q8 (pv 1))
 (aq (aI (bB (HR rfl) (by rfl) T.RJ O5 (aa (pv 2) (aa (c8 (v:=V.int 4) rfl T.CG ⟨_,rfl⟩) ae)))))
 aO)
 (aq (aI (pv 2))))),?_⟩
  try dsimp only[bh]
  unfold xH at q;rcases VJ os with h | ⟨pre,o,h⟩
  ·subst h;cases ho;refine⟨_,rfl,_,.inl ⟨_,hB,rfl⟩,cf ⟨_,rfl,?_⟩⟩;refine⟨_,rfl,_,rfl,?_⟩;cases cl with
   |true=>exact dZ ⟨_,rfl,_,_,rfl,q⟩
   |false=>exact cf ⟨_,rfl,q⟩
  ·rw[VL]at h;refine aX λGq gq=>?_
   subst h;obtain⟨ms',m,rfl,_,_,dx,v,hm,_⟩:=ho.last;rw[p7]at q;refine gq ?_;refine⟨_,rfl,_,.inl ⟨_,hB,rfl⟩,vQ (by simp) ⟨_,rfl,_,rfl,B,_,_,_,rfl,rfl,hB,zO pre o,m.k,m.k8,o,dx,_,rfl,hm,M5 m.k v,o,m.k,dx,_,m.k8,rfl,hm,j0 m.k v,?_⟩⟩
   refine⟨_,rfl,_,rfl,?_⟩;cases cl with
   |true=>exact dZ ⟨_,rfl,_,_,rfl,q⟩
   |false=>exact cf ⟨_,rfl,q⟩
theorem qY (T:Txt w.params K mg A):FnOk P w K mg base CX0 2 A.rG A.kF ["pile"] (RW A K):=by
 have fP:∀k,k < 8->FnOk P w K mg base CX0 1 (A.fk k) (A.fkd k) ["self"] (eI k):=j1 T;refine T.mI.ok Ao (λvs H Q E h=>?_) (λcdv A' outer s H vs Q E hr h=>?_)
 ·obtain⟨B,c,ms,os,rfl,_⟩:=h;rfl
 ·obtain⟨B,c,ms,os,rfl,⟨hB,ho⟩,hl,q⟩:=h;refine⟨_,(aq (aI (bB (J3 rfl) (by rfl) T.RG O6 (aa (jP (scope:=lE) w8 rfl (g8 (pv 0)) (λ_ _ _ _ _=>(bL bf (lx (n:=8) (Cf:=A.C) (pv 0) T.cl T.oY fP hr T.oZ a6) ag (aK _)))) ae)))),?_⟩
  try dsimp only[bh]
  have lim:de=16777216:=by decide
  have ol:=ho.len;refine⟨_,rfl,B,rfl,⟨_,hB⟩,λR hR=>?_⟩
  have sR:∀ {o:HO},aS H (upd H R o):=aw hR;refine pO (K:=K) (a:=B) (xs:=os.map V.ref) (λi ys H2=>ys=(ms.take i).map (λm=>V.bl (decide (m.k=0)))/\H2=upd H R (.lst ys)) ⟨rfl,rfl⟩ (by rw[da];omega) ?_ ?_ ?_
  ·rintro i ys H2 hi ⟨rfl,rfl⟩;rw[da]at hi;exact⟨sR.seq hB,af,by rw[da,Vy];omega⟩
  ·rintro i y ys H2 hy ⟨rfl,rfl⟩;refine aX λGq gq=>?_
   have hi:i < ms.length:=by have:=(List.getElem?_eq_some_iff.mp hy).1;rw[da]at this;omega
   obtain⟨o,ho1,_,dx,v,ho2,_⟩:=ho.get (UT hi);rw[U5,ho1]at hy;cases hy;refine gq ?_;refine⟨_,rfl,ms[i].k,ms[i].k8,o,dx,_,rfl,sR _ _ ho2,j0 _ v,o,rfl,rfl,?_⟩;rw[Gg _ ms[i].k8];refine dF.mk (by rw[da];omega) af ⟨?_,by rw[sH]⟩
   rw[Wx,UT hi,UZ];rfl
  ·rintro ys H2 ⟨rfl,rfl⟩;rw[da,<-ol,VP];refine⟨R,ms.map (λm=>decide (m.k=0)),rfl,SqL.of (by rw[af,List.map_map];rfl),?_⟩
   rw[List.any_map];exact q _ sR
theorem vv (T:Txt w.params K mg A):FnOk P w K mg base CX0 3 A.kG A.gQ ["pile"] (Qb A K):=by
 have Gh:∀k,k < 8->FnOk P w K mg base CX0 2 (A.ft k) (A.ftd k) ["self"] (CY A K k):=EU T;refine T.nz.ok lF (λvs H Q E h=>?_) (λcdv A' outer s H vs Q E hr h=>?_)
 ·obtain⟨B,c,ms,os,rfl,_⟩:=h;rfl
 ·obtain⟨B,c,ms,os,rfl,⟨hB,ho⟩,q⟩:=h;refine⟨_,(ak (bW (q9 (sO (pv 0) (λ_=>rfl)))
 (aq (aI lh))
 aO)
 (ak (aT (i:=1) lF.nd rfl (ro rfl) (lx (n:=8) (Cf:=A.C) (aY bz (pv 0) (AR uA ao) (λ_ _=>rfl)) T.cl T.Lb Gh hr T.Ld a6))
 (aq (aI (j9 (bL bf (aY bp (pv 1) ao (λ_ _=>rfl)) ag (aK _)) (i9 (bL jb (aY bp (aY bp (pv 1) ao (λ_ _=>rfl)) ao (λ_ _=>rfl)) ag (aK _)))))))),?_⟩
  try dsimp only[bh]
  rcases VJ os with h | ⟨pre,o,h⟩
  ·subst h;cases ho;refine⟨_,rfl,_,.inl ⟨_,hB,rfl⟩,dZ ?_⟩;exact q H (aS.refl _)
  ·rw[VL]at h;subst h;refine⟨_,rfl,_,.inl ⟨_,hB,rfl⟩,qz (by simp) ?_⟩
   refine aX λGq gq=>?_
   obtain⟨ms',m,rfl,_,_,dx,v,hm,hv⟩:=ho.last;have gl:(ms'++[m]).getLast?=some m:=Wn;unfold mS at q;rw[gl]at q;refine gq ?_;refine⟨_,rfl,_,rfl,B,_,_,_,rfl,rfl,hB,zO pre o,m.k,m.k8,o,dx,_,rfl,hm,Hg m.k v,?_⟩
   by_cases h0:m.k=0
   ·obtain⟨tx,rfl⟩:∃tx,m=.mat tx:=by cases m <;> first | exact⟨_,rfl⟩ | exact absurd h0 (by simp[Mn.k])
    refine aX λGq gq=>?_
    obtain⟨p,rfl,_,hp⟩:=hv;refine gq ?_;refine .inl ⟨rfl,o,dx,p,tx.map V.str,rfl,hm,SqL.of hp,λp2 u hp2 hu npu=>?_⟩
    have nu:(upd H p2 (.lst (tx.map V.str))) u=none:=(ax (UU npu)).trans hu;refine ixv rfl (SqT.of af) rfl ⟨rfl,_,rfl,?_⟩;rw[kX 0 (by decide)]
    exact cf (q _ ((aw hp2).new nu))
   ·refine .inr ⟨by omega,o,dx,v,rfl,hm,λu hu=>?_⟩
    have su:=aw (o:=.tup (rowOf m.k v)) hu;refine ixv rfl (SqT.of af) xV ⟨rfl,_,rfl,?_⟩;rw[kX m.k m.k8]
    by_cases h1:m.k=1
    ·obtain⟨e,rfl⟩:∃e,m=.chg e:=by cases m <;> first | exact⟨_,rfl⟩ | exact absurd h1 (by simp[Mn.k])
     refine aX λGq gq=>?_
     obtain⟨t,rfl,ht⟩:=hv;refine gq ?_;refine vQ (decide_eq_true rfl) (ixv rfl (SqT.of af) rfl ⟨t,_,_,_,rfl,rfl,eD su ht.sq,Lg e,rfl,?_⟩);rw[Nd];exact q _ su
    ·rw[decide_eq_false h1];have q':∀H',aS H H'->Q (.bl false) H':=by
      cases m with
      |chg e=>exact absurd rfl h1
      |_=>exact q
     exact cf (q' _ su)
theorem pE (T:Txt w.params K mg A):FnOk P w K mg base CX0 4 A.gs A.eE ["kind","pile"] (Nc A K):=by
 refine T.iS.ok oj (λvs H Q E h=>?_) (λcdv A' outer s H vs Q E hr h=>?_)
 ·obtain⟨k,B,c,ms,os,rfl,_⟩:=h;rfl
 ·obtain⟨k,B,c,ms,os,rfl,k8,hp,hl,q⟩:=h;refine⟨_,(ak (bW (aL bf (pv 0) ag (aK _))
 (aq (aI (bw (vv T) hr rfl T.xh T.nz.kp T.xj .nil a6 (aa (pv 1) ae))))
 aO)
 (ak (bW (aL lj (pv 0) (a8 (aa ag (aa ag (aa ag (aa ag ae))))) rfl)
 (aq (aI (bw (qY T) (hr.mono (by decide)) rfl T.tO T.mI.kp T.tP .nil a6 (aa (pv 1) ae))))
 aO)
 (aq (aI lh)))),?_⟩
  try dsimp only[bh]
  refine⟨_,rfl,rfl,_,rfl,?_⟩;rw[pD k k8];unfold ES at q
  by_cases h2:k=2
  ·rw[if_pos h2]at q;exact vQ (decide_eq_true h2) ⟨_,rfl,B,c,ms,os,rfl,hp,q⟩
  ·rw[if_neg h2]at q;refine qz (decide_eq_false h2) ?_;refine⟨_,rfl,(sl 4),λt ht=>?_⟩
   have st:=aw (o:=.tup [V.str (ar "change"),V.str (ar "put off"),V.str (ar "close"),V.str (ar "lay")]) ht;refine⟨t,_,rfl,.inr (SqT.of af),rfl,rfl,_,rfl,?_⟩;have ein:(if false=true then !inV (V.str (nm k)) [V.str (ar "change"),V.str (ar "put off"),V.str (ar "close"),V.str (ar "lay")] else inV (V.str (nm k)) [V.str (ar "change"),V.str (ar "put off"),V.str (ar "close"),V.str (ar "lay")])=decide (k=1\/k=3\/k=4\/k=5):=by
    have:∀k,k < 8->inV (V.str (nm k)) [V.str (ar "change"),V.str (ar "put off"),V.str (ar "close"),V.str (ar "lay")]=decide (k=1\/k=3\/k=4\/k=5):=by trivial
    exact this k k8
   rw[ein]
   by_cases h3:k=1\/k=3\/k=4\/k=5
   ·rw[if_pos h3]at q;exact vQ (decide_eq_true h3) ⟨_,rfl,B,c,ms,os,rfl,hp.same st,hl,λH' s'=>q H' (st.trans s')⟩
   ·rw[if_neg h3]at q;exact qz (decide_eq_false h3) (q _ st)
theorem qw (T:Txt w.params K mg A):FnOk P w K mg base (CXX P w) 5 A.gR A.e9 ["kind","pile","closed"] (RX A K):=by
 refine T.jy.okX iR (λvs H Q E h=>?_) (λcdv A' outer s H vs Q E hr h=>?_)
 ·obtain⟨k,B,cl,c,ms,os,rfl,_⟩:=h;rfl
 ·obtain⟨k,B,cl,c,ms,os,rfl,k8,hp,hl,q,qx⟩:=h;refine⟨_,(aj (psx (aT (i:=3) iR.nd rfl (ro rfl) (bw (IT T) (hr.mono (by decide)) rfl T.KY T.D5.kp T.KZ .nil a6 (aa (pv 1) (aa (pv 2) ae)))))
 (aj (bU (aL nO (aY J2 (c8 (v:=V.ref A.tab) rfl T.He rfl) (pv 0) (λ_ _=>rfl)) (pv 3) (aK _))
 (aC (jg T.vf (ET T) (hr.mono (by decide)) T.F7 rfl rfl T.zv (aa (pv 3) ae)))
 (gf aO))
 (aC (bU (q9 (q8 (bw (pE T) hr rfl T.qm T.iS.kp T.qo .nil a6 (aa (pv 0) (aa (pv 1) ae)))))
 (aj (bU (q8 (bw (qY T) (hr.mono (by decide)) rfl T.tO T.mI.kp T.tP .nil a6 (aa (pv 1) ae)))
 (aC (i7 T.EF rfl rfl T.F2 (aa ag ae)))
 (gf aO))
 (aC (i7 T.EE rfl rfl T.F0 (aa (vR (kz (pv 0) (gi nX))) ae))))
 (gf aO))))),?_⟩
  try dsimp only[bh]
  refine⟨_,rfl,_,rfl,B,cl,c,ms,os,rfl,hp,?_⟩;obtain⟨tk,htk⟩:=T.rk k k8;refine⟨_,rfl,A.tab,nm k,.int k,_,rfl,rfl,T.tb,htk,⟨_,rfl⟩,_,rfl,_,_,rfl,rfl,_,rfl,ie (λe=>?_) (λe=>?_)⟩
  ·have e':(k:Int)<=xH cl ms:=of_decide_eq_true e;have hb:=Qa cl ms;refine⟨_,rfl,_,rfl,Bm (by omega) (by omega),λd hd=>qx (.zM (xH cl ms)) (by unfold AF;rw[if_pos e']) _ _ _ (aw hd) ⟨⟨rfl,d,rfl,af⟩,λ_ z=>by cases z;exact hd⟩⟩
  ·have e':¬(k:Int)<=xH cl ms:=λz=>e (decide_eq_true z)
   unfold AF at q qx;rw[if_neg e']at q qx;refine⟨_,rfl,_,rfl,k,B,c,ms,os,rfl,k8,hp,hl,λH' s'=>⟨_,rfl,?_⟩⟩
   cases hn:ES ms k with
   |true =>
    rw[hn,if_pos rfl]at q;exact cf (q rfl _ s')
   |false =>
    rw[hn,if_neg gr]at qx;refine dZ ⟨_,rfl,B,c,ms,os,rfl,hp.same s',hl,λH2 s2=>⟨_,rfl,?_⟩⟩
    cases hm:IS ms with
    |true =>
     rw[hm,if_pos rfl]at qx;exact dZ ⟨by decide,qx _ rfl _ _ _ (s'.trans s2) ⟨⟨rfl,rfl⟩,λ_ z=>nomatch z⟩⟩
    |false =>
     rw[hm,if_neg gr]at qx;refine cf ⟨_,rfl,nm k,.str,?_,?_,?_⟩
     ·have:∀k,k < 8->(nm k).length<=10:=by trivial
      exact ku (this k k8) (by decide)
     ·have:∀k,k < 8->(U7++nm k:Str).length<=10:=by trivial
      exact ku (this k k8) (by decide)
     ·have:∀k,k < 8->((U7++nm k)++ar " needs a matter on the pile":Str).length<=100:=by trivial
      have l:=ku (this k k8) (show 100<=de by decide)
      exact⟨l,l,(sl 1),qx _ rfl _ _ _ (s'.trans s2) ⟨⟨rfl,rfl⟩,λ_ z=>nomatch z⟩⟩
end
theorem xW {a b:Nat}:((U0 (a:Int):Key)=U0 (b:Int))↔a=b:=⟨λh=>by have:=Sum.inl.inj h;omega,λh=>by rw[h]⟩
theorem fR {k:Nat}{v:V}{ks:List Nat}{vs:List V}:bQ ((k::ks).zip (v::vs))=(U0 (k:Int),v)::bQ (ks.zip vs):=rfl
theorem sy {n:Nat}:∀ {ks:List Nat} {vs:List V},n∉ks->ee (bQ (ks.zip vs)) (U0 (n:Int))=none
 |[],_,_=>rfl
 |_::_,[],_=>rfl
 |k::ks,v::vs,h=>by
  rw[fR,ly (λz=>h (by rw[xW.mp z];exact kb))]
  exact sy λz=>h (kr _ z)
theorem p8 {n:Nat}{v:V}{ks:List Nat}{vs:List V}(h:n∉ks)(l:ks.length=vs.length):putK (bQ (ks.zip vs)) (U0 (n:Int)) v=bQ ((ks++[n]).zip (vs++[v])):=by
 rw[yx v (sy h),List.zip_append l];unfold bQ;rw[UZ];rfl
section
variable{β:Type}{R:Nat×β->V->Prop}
def at1 (n:Nat)(xs:List (Nat×β)):Option (Nat×β):=xs.find? λx=>decide (x.1=n)
theorem Hr {n:Nat}{xs:List (Nat×β)}{x:Nat×β}(h:at1 n xs=some x):x.1=n/\x∈xs:=by
 unfold at1 at h;have:=List.find?_some h;exact⟨of_decide_eq_true this,List.mem_of_find?_eq_some h⟩
theorem LA {n:Nat}{xs:List (Nat×β)}(h:at1 n xs=none):n∉xs.map (·.1):=λz=>by
 obtain⟨x,hx,e⟩:=List.mem_map.mp z;have:=List.find?_eq_none.mp h x hx;exact this (decide_eq_true e)
theorem bZ.val {n:Nat}:∀ {xs:List (Nat×β)} {ws:List V} {x:Nat×β},bZ R xs ws->at1 n xs=some x->∃v,ee (bQ ((xs.map (·.1)).zip ws)) (U0 (n:Int))=some v/\R x v
 |_,_,_,.nil,h=>nomatch h
 |y::xs,w::ws,x,.cons g t,h=>by
  unfold at1 at h;rw[Wh]at h
  by_cases e:y.1=n
  ·rw[decide_eq_true e]at h;cases h;exact⟨w,by rw[kx,fR];exact nZ (xW.mpr e),g⟩
  ·rw[decide_eq_false e]at h;obtain⟨v,h1,h2⟩:=bZ.val t h;exact⟨v,by rw[kx,fR,ly (λz=>e (xW.mp z))];exact h1,h2⟩
theorem bZ.drop {n:Nat}:∀ {xs:List (Nat×β)} {ws:List V},bZ R xs ws->∃ws',DJ (bQ ((xs.map (·.1)).zip ws)) (U0 (n:Int))=bQ (((xs.filter λx=>decide (x.1≠n)).map (·.1)).zip ws')/\bZ R (xs.filter λx=>decide (x.1≠n)) ws'
 |_,_,.nil=>⟨[],rfl,.nil⟩
 |y::xs,w::ws,.cons g t=>by
  obtain⟨ws',h1,h2⟩:=bZ.drop (n:=n) t
  by_cases e:y.1=n
  ·refine⟨ws',?_,?_⟩
   ·rw[List.filter_cons_of_neg (by simp[e]),<-h1,kx,fR]
    unfold DJ;rw[List.filter_cons_of_neg (by simp[e])]
   ·rw[List.filter_cons_of_neg (by simp[e])];exact h2
  ·refine⟨w::ws',?_,?_⟩
   ·rw[List.filter_cons_of_pos (by simp[e]),kx,kx,fR,fR,<-h1]
    unfold DJ;have hne:(U0 (y.1:Int):Key)≠U0 (n:Int):=λz=>e (xW.mp z)
    rw[List.filter_cons_of_pos (by exact decide_eq_true hne)]
   ·rw[List.filter_cons_of_pos (by simp[e])];exact .cons g h2
end
theorem bZ.set {α β:Type}{R:α->β->Prop}:∀ {as:List α} {bs:List β} {a:α} {b:β} (j:Nat),bZ R as bs->R a b->bZ R (as.set j a) (bs.set j b)
 |_,_,_,_,_,.nil,_=>.nil
 |_,_,_,_,0,.cons _ t,h=>.cons h t
 |_,_,_,_,j+1,.cons g t,h=>.cons g (t.set j h)
def pOb:Rl->Bool | .ob=>true | _=>false
def Ot:Rl->Bool | .rows=>true | _=>false
def Ou:Rl->Bool | .made=>true | _=>false
def Ov:Rl->Bool | .aV=>true | _=>false
def RY:Rl->Bool | .ob=>true | .aV=>true | .bg=>true | _=>false
def RZ:Rl->Bool | .firsts=>true | _=>false
def R0:Rl->Bool | .kept=>true | _=>false
theorem Gi {i:Nat}{c:Col}{a b:Addr}{r r':Rl}(h:c a=some (i,r))(h':c b=some (i,r'))(n:r≠r'):a≠b:=λz=>by
 rw[z,h']at h;cases h;exact n rfl
section
variable{A:Adr}{i:Nat}{c c':Col}{H H':Hp}{o dx aM aP aA aD aF aE aR:Addr}{st:Ch}{ms ds:List Addr}{ws fs es:List V}
theorem ChX.free {W:Option (Nat×Rl)->Prop}(h:∀r,¬W (some (i,r)))(s:Step W c c' H H')(X:ChX A i c H o st dx aM aP aA aD aF aE aR ms ds ws fs es):ChX A i c' H' o st dx aM aP aA aD aF aE aR ms ds ws fs es:=by
 have hn:¬W (c o):=by rw[X.co];exact h _
 refine⟨by rw[s.col o _ X.ob hn];exact X.co,s.keep _ _ X.ob hn,X.made.keep (h _) s,wM s X.mot,X.aV.keep (h _) s,X.bg.keep (h _) s,X.wait.imp ?_,X.dec.keep (h _) s,wN s X.CW,X.firsts.keep (h _) s,X.first.imp ?_,X.lR.keep (h _) s,X.kept.imp ?_,X.rows.keep (h _) s⟩
 ·rintro x v ⟨t,p,e,z1,z2⟩;exact⟨t,p,e,z1.step s,z2.keep (h _) s⟩
 ·rintro x v ⟨p,e,z⟩;exact⟨p,e,z.keep (h _) s⟩
 ·rintro x v ⟨p,ts,e,z1,z2⟩;exact⟨p,ts,e,z1.keep (h _) s,z2.imp λ_ _ y=>y.step s⟩
theorem ChX.same (s:aS H H')(X:ChX A i c H o st dx aM aP aA aD aF aE aR ms ds ws fs es):ChX A i c H' o st dx aM aP aA aD aF aE aR ms ds ws fs es:=X.free (W:=λ_=>False) (λ_=>id) (Step.same id s)
theorem ChX.cl (s:aS H H')(X:ChX A i c H o st dx aM aP aA aD aF aE aR ms ds ws fs es):ChX A i (cC c H) H' o st dx aM aP aA aD aF aE aR ms ds ws fs es:=X.free (W:=λ_=>False) (λ_=>id) (Step.cl id s)
theorem ChX.at (X:ChX A i c H o st dx aM aP aA aD aF aE aR ms ds ws fs es):cV A i c H o st:=⟨_,_,_,_,_,_,_,_,_,_,_,_,_,X⟩
theorem ChX.attr (X:ChX A i c H o st dx aM aP aA aD aF aE aR ms ds ws fs es)(n:Int)(b:Bool) :
  Step (Wr i pOb) c c H (upd H o (.ins A.aB dx (chF (.int st.eJ) (.int n) (.bl b) (.ref aM) (.ref aP) (.ref aA) (.ref aD) (.ref aF) (.ref aE) (.ref aR)))) /\
  ChX A i c (upd H o (.ins A.aB dx (chF (.int st.eJ) (.int n) (.bl b) (.ref aM) (.ref aP) (.ref aA) (.ref aD) (.ref aF) (.ref aE) (.ref aR)))) o { st with bC:=n,closed:=b } dx aM aP aA aD aF aE aR ms ds ws fs es:=by
 have s:Step (Wr i pOb) c c H (upd H o (.ins A.aB dx (chF (.int st.eJ) (.int n) (.bl b) (.ref aM) (.ref aP) (.ref aA) (.ref aD) (.ref aF) (.ref aE) (.ref aR)))):=Step.upd Wr.nn (Wr.yes X.co rfl);exact⟨s,X.co,af,X.made.kp rfl s,wM s X.mot,X.aV.kp rfl s,X.bg.kp rfl s,zG (λ_ _=>rfl) s X.wait,X.dec.kp rfl s,wN s X.CW,X.firsts.kp rfl s,zH (λ_ _=>rfl) s X.first,X.lR.kp rfl s,zI (λ_ _=>rfl) s X.kept,X.rows.kp rfl s⟩
theorem ChX.row (X:ChX A i c H o st dx aM aP aA aD aF aE aR ms ds ws fs es)(z:Str) :
  Step (Wr i Ot) c c H (upd H aR (.lst (st.rows.map V.str++[.str z])))/\ChX A i c (upd H aR (.lst (st.rows.map V.str++[.str z]))) o { st with rows:=st.rows++[z] } dx aM aP aA aD aF aE aR ms ds ws fs es:=by
 have s:Step (Wr i Ot) c c H (upd H aR (.lst (st.rows.map V.str++[.str z]))):=Step.upd Wr.nn (Wr.yes X.rows.1 rfl);have k:=zF rfl s X.co X.ob;exact⟨s,k.1,k.2,X.made.kp rfl s,wM s X.mot,X.aV.kp rfl s,X.bg.kp rfl s,zG (λ_ _=>rfl) s X.wait,X.dec.kp rfl s,wN s X.CW,X.firsts.kp rfl s,zH (λ_ _=>rfl) s X.first,X.lR.kp rfl s,zI (λ_ _=>rfl) s X.kept,X.rows.1,by rw[af,UZ];rfl⟩
theorem ChX.push (X:ChX A i c H o st dx aM aP aA aD aF aE aR ms ds ws fs es)(n:Nat) :
  Step (Wr i Ov) c c H (upd H aP (.lst (st.aV.map nV++[nV n])))/\ChX A i c (upd H aP (.lst (st.aV.map nV++[nV n]))) o { st with aV:=st.aV++[n] } dx aM aP aA aD aF aE aR ms ds ws fs es:=by
 have s:Step (Wr i Ov) c c H (upd H aP (.lst (st.aV.map nV++[nV n]))):=Step.upd Wr.nn (Wr.yes X.aV.1 rfl);have k:=zF rfl s X.co X.ob;exact⟨s,k.1,k.2,X.made.kp rfl s,wM s X.mot,⟨X.aV.1,by rw[af,UZ];rfl⟩,X.bg.kp rfl s,zG (λ_ _=>rfl) s X.wait,X.dec.kp rfl s,wN s X.CW,X.firsts.kp rfl s,zH (λ_ _=>rfl) s X.first,X.lR.kp rfl s,zI (λ_ _=>rfl) s X.kept,X.rows.kp rfl s⟩
theorem ChX.Nf (X:ChX A i c H o st dx aM aP aA aD aF aE aR ms ds ws fs es){m:Mn}{x:Addr}(hm:mR A c H m x) :
  Step (Wr i Ou) c c H (upd H aM (.dK (putK (bQ ((VQ 1 st.made.length).zip (ms.map V.ref))) (U0 ((st.made.length+1:Nat):Int)) (.ref x)))) /\
  ChX A i c (upd H aM (.dK (putK (bQ ((VQ 1 st.made.length).zip (ms.map V.ref))) (U0 ((st.made.length+1:Nat):Int)) (.ref x)))) o { st with made:=st.made++[m] } dx aM aP aA aD aF aE aR (ms++[x]) ds ws fs es:=by
 have s:Step (Wr i Ou) c c H (upd H aM (.dK (putK (bQ ((VQ 1 st.made.length).zip (ms.map V.ref))) (U0 ((st.made.length+1:Nat):Int)) (.ref x)))):=Step.upd Wr.nn (Wr.yes X.made.1 rfl);have k:=zF rfl s X.co X.ob;have ml:=X.mot.len;have e:=p8 (v:=.ref x) (n:=st.made.length+1) (ks:=VQ 1 st.made.length) (vs:=ms.map V.ref) (by rw[List.mem_range'_1];omega) (by rw[List.length_range',da];exact ml)
 have hd:j5 i c (upd H aM (.dK (putK (bQ ((VQ 1 st.made.length).zip (ms.map V.ref))) (U0 ((st.made.length+1:Nat):Int)) (.ref x)))) .made aM ((VQ 1 (st.made++[m]).length).zip ((ms++[x]).map V.ref)) :=
  ⟨X.made.1,by rw[af,e,km,U4,List.range'_concat,UZ,Nat.one_mul,Nat.add_comm 1];rfl⟩
 exact⟨s,k.1,k.2,hd,(wM s X.mot).snoc (hm.step s),X.aV.kp rfl s,X.bg.kp rfl s,zG (λ_ _=>rfl) s X.wait,X.dec.kp rfl s,wN s X.CW,X.firsts.kp rfl s,zH (λ_ _=>rfl) s X.first,X.lR.kp rfl s,zI (λ_ _=>rfl) s X.kept,X.rows.kp rfl s⟩
def Ng (n:Nat)(e:Ed)(xs:List (Nat×List Ed)):List (Nat×List Ed):=xs.map λx=>if x.1=n then (x.1,x.2++[e]) else x
theorem ChX.LB (X:ChX A i c H o st dx aM aP aA aD aF aE aR ms ds ws fs es){n:Nat}{tx:List Str}{p:Addr}(hp:H p=none)(hn:n∉st.firsts.map (·.1)) :
  Step (Wr i RZ) c (aZ c p (some (i,.jA n))) H (upd (upd H p (.lst (tx.map V.str))) aF (.dK (putK (bQ ((st.firsts.map (·.1)).zip fs)) (U0 (n:Int)) (.ref p)))) /\
  ChX A i (aZ c p (some (i,.jA n))) (upd (upd H p (.lst (tx.map V.str))) aF (.dK (putK (bQ ((st.firsts.map (·.1)).zip fs)) (U0 (n:Int)) (.ref p)))) o { st with firsts:=st.firsts++[(n,tx)] } dx aM aP aA aD aF aE aR ms ds ws (fs++[.ref p]) es:=by
 have np:∀ {a:Addr} {v:HO},H a=some v->a≠p:=λe=>aQ e hp
 have s:Step (Wr i RZ) c (aZ c p (some (i,.jA n))) H (upd (upd H p (.lst (tx.map V.str))) aF (.dK (putK (bQ ((st.firsts.map (·.1)).zip fs)) (U0 (n:Int)) (.ref p)))) :=
  (Step.new Wr.nn hp).trans (Step.upd Wr.nn ⟨.firsts,by rw[aG (np X.firsts.2)];exact X.firsts.1,rfl⟩)
 have k:=zF rfl s X.co X.ob;have e:=p8 (v:=.ref p) hn (vs:=fs) (by rw[da];exact X.first.len)
 have hd:j5 i (aZ c p (some (i,.jA n))) (upd (upd H p (.lst (tx.map V.str))) aF (.dK (putK (bQ ((st.firsts.map (·.1)).zip fs)) (U0 (n:Int)) (.ref p)))) .firsts aF (((st.firsts++[(n,tx)]).map (·.1)).zip (fs++[.ref p])) :=
  ⟨by rw[aG (np X.firsts.2)];exact X.firsts.1,by rw[af,e,UZ];rfl⟩
 have hl:CV i (aZ c p (some (i,.jA n))) (upd (upd H p (.lst (tx.map V.str))) aF (.dK (putK (bQ ((st.firsts.map (·.1)).zip fs)) (U0 (n:Int)) (.ref p)))) (n,tx) (.ref p) :=
  ⟨p,rfl,bD,(ax (np X.firsts.2).symm).trans af⟩
 exact⟨s,k.1,k.2,X.made.kp rfl s,wM s X.mot,X.aV.kp rfl s,X.bg.kp rfl s,zG (λ_ _=>rfl) s X.wait,X.dec.kp rfl s,wN s X.CW,hd,(zH (λ_ _=>rfl) s X.first).snoc hl,X.lR.kp rfl s,zI (λ_ _=>rfl) s X.kept,X.rows.kp rfl s⟩
theorem ChX.Nh (X:ChX A i c H o st dx aM aP aA aD aF aE aR ms ds ws fs es){n:Nat}{p:Addr}(hp:H p=none)(hn:n∉st.kept.map (·.1)) :
  Step (Wr i R0) c (aZ c p (some (i,.wL n))) H (upd (upd H p (.lst [])) aE (.dK (putK (bQ ((st.kept.map (·.1)).zip es)) (U0 (n:Int)) (.ref p)))) /\
  ChX A i (aZ c p (some (i,.wL n))) (upd (upd H p (.lst [])) aE (.dK (putK (bQ ((st.kept.map (·.1)).zip es)) (U0 (n:Int)) (.ref p)))) o { st with kept:=st.kept++[(n,([]:List Ed))] } dx aM aP aA aD aF aE aR ms ds ws fs (es++[.ref p]):=by
 have np:∀ {a:Addr} {v:HO},H a=some v->a≠p:=λe=>aQ e hp
 have s:Step (Wr i R0) c (aZ c p (some (i,.wL n))) H (upd (upd H p (.lst [])) aE (.dK (putK (bQ ((st.kept.map (·.1)).zip es)) (U0 (n:Int)) (.ref p)))) :=
  (Step.new Wr.nn hp).trans (Step.upd Wr.nn ⟨.kept,by rw[aG (np X.lR.2)];exact X.lR.1,rfl⟩)
 have k:=zF rfl s X.co X.ob;have e:=p8 (v:=.ref p) hn (vs:=es) (by rw[da];exact X.kept.len)
 have hd:j5 i (aZ c p (some (i,.wL n))) (upd (upd H p (.lst [])) aE (.dK (putK (bQ ((st.kept.map (·.1)).zip es)) (U0 (n:Int)) (.ref p)))) .kept aE (((st.kept++[(n,([]:List Ed))]).map (·.1)).zip (es++[.ref p])) :=
  ⟨by rw[aG (np X.lR.2)];exact X.lR.1,by rw[af,e,UZ];rfl⟩
 have hl:Hn i (aZ c p (some (i,.wL n))) (upd (upd H p (.lst [])) aE (.dK (putK (bQ ((st.kept.map (·.1)).zip es)) (U0 (n:Int)) (.ref p)))) (n,[]) (.ref p) :=
  ⟨p,[],rfl,⟨bD,(ax (np X.lR.2).symm).trans af⟩,.nil⟩
 exact⟨s,k.1,k.2,X.made.kp rfl s,wM s X.mot,X.aV.kp rfl s,X.bg.kp rfl s,zG (λ_ _=>rfl) s X.wait,X.dec.kp rfl s,wN s X.CW,X.firsts.kp rfl s,zH (λ_ _=>rfl) s X.first,hd,(zI (λ_ _=>rfl) s X.kept).snoc hl,X.rows.kp rfl s⟩
def Ch.xI (st:Ch)(n:Nat)(u:Int):Ch:={ st with aV:=[],bg:=st.bg++[(n,u,st.aV)] }
theorem ChX.xI (X:ChX A i c H o st dx aM aP aA aD aF aE aR ms ds ws fs es){n:Nat}{u:Int}{t p:Addr}(ht:H t=none)(hp:H p=none)(ntp:p≠t)(hn:n∉st.bg.map (·.1)) :
  ∃c',Step (Wr i RY) c c' H (upd (upd (upd (upd H t (.tup [.int u,.ref aP])) aA (.dK (putK (bQ ((st.bg.map (·.1)).zip ws)) (U0 (n:Int)) (.ref t)))) p (.lst [])) o (.ins A.aB dx (chF (.int st.eJ) (.int st.bC) (.bl st.closed) (.ref aM) (.ref p) (.ref aA) (.ref aD) (.ref aF) (.ref aE) (.ref aR)))) /\
  ChX A i c' (upd (upd (upd (upd H t (.tup [.int u,.ref aP])) aA (.dK (putK (bQ ((st.bg.map (·.1)).zip ws)) (U0 (n:Int)) (.ref t)))) p (.lst [])) o (.ins A.aB dx (chF (.int st.eJ) (.int st.bC) (.bl st.closed) (.ref aM) (.ref p) (.ref aA) (.ref aD) (.ref aF) (.ref aE) (.ref aR)))) o (st.xI n u) dx aM p aA aD aF aE aR ms ds (ws++[.ref t]) fs es:=by
 have nt:∀ {a:Addr} {v:HO},H a=some v->a≠t:=λe=>aQ e ht
 have np:∀ {a:Addr} {v:HO},H a=some v->a≠p:=λe=>aQ e hp
 have oA:o≠aA:=Gi X.co X.bg.1 (λz=>nomatch z)
 have oP:o≠aP:=Gi X.co X.aV.1 (λz=>nomatch z)
 have AP:aA≠aP:=Gi X.bg.1 X.aV.1 (λz=>nomatch z)
 have e:=p8 (v:=.ref t) hn (vs:=ws) (by rw[da];exact X.wait.len)
 have hp2:(upd (upd H t (.tup [.int u,.ref aP])) aA (.dK (putK (bQ ((st.bg.map (·.1)).zip ws)) (U0 (n:Int)) (.ref t)))) p=none:=by
  rw[ax (np X.bg.2).symm,ax ntp];exact hp
 refine⟨aZ (aZ (aZ c t none) p (some (i,.aV))) aP (some (i,.nG n)),?_⟩;have s:Step (Wr i RY) c (aZ (aZ (aZ c t none) p (some (i,.aV))) aP (some (i,.nG n))) H (upd (upd (upd (upd H t (.tup [.int u,.ref aP])) aA (.dK (putK (bQ ((st.bg.map (·.1)).zip ws)) (U0 (n:Int)) (.ref t)))) p (.lst [])) o (.ins A.aB dx (chF (.int st.eJ) (.int st.bC) (.bl st.closed) (.ref aM) (.ref p) (.ref aA) (.ref aD) (.ref aF) (.ref aE) (.ref aR)))):=by
  refine((((Step.new Wr.nn ht).trans (Step.upd Wr.nn ⟨.bg,?_,rfl⟩)).trans (Step.new Wr.nn hp2)).trans (Step.upd Wr.nn ⟨.ob,?_,rfl⟩)).trans (Step.role Wr.nn ⟨.aV,?_,rfl⟩)
  ·rw[aG (nt X.bg.2)];exact X.bg.1
  ·rw[aG (np X.ob),aG (nt X.ob)];exact X.co
  ·rw[aG (np X.aV.2),aG (nt X.aV.2)];exact X.aV.1
 have k1:aZ (aZ (aZ c t none) p (some (i,.aV))) aP (some (i,.nG n)) o=some (i,.ob):=by
  rw[aG oP,aG (np X.ob),aG (nt X.ob)];exact X.co
 have hd:j5 i (aZ (aZ (aZ c t none) p (some (i,.aV))) aP (some (i,.nG n))) (upd (upd (upd (upd H t (.tup [.int u,.ref aP])) aA (.dK (putK (bQ ((st.bg.map (·.1)).zip ws)) (U0 (n:Int)) (.ref t)))) p (.lst [])) o (.ins A.aB dx (chF (.int st.eJ) (.int st.bC) (.bl st.closed) (.ref aM) (.ref p) (.ref aA) (.ref aD) (.ref aF) (.ref aE) (.ref aR)))) .bg aA (((st.bg++[(n,u,st.aV)]).map (·.1)).zip (ws++[.ref t])) :=
  ⟨by rw[aG AP,aG (np X.bg.2),aG (nt X.bg.2)];exact X.bg.1,by rw[ax oA.symm,ax (np X.bg.2),af,e,UZ];rfl⟩
 have hl:LstAt i (aZ (aZ (aZ c t none) p (some (i,.aV))) aP (some (i,.nG n))) (upd (upd (upd (upd H t (.tup [.int u,.ref aP])) aA (.dK (putK (bQ ((st.bg.map (·.1)).zip ws)) (U0 (n:Int)) (.ref t)))) p (.lst [])) o (.ins A.aB dx (chF (.int st.eJ) (.int st.bC) (.bl st.closed) (.ref aM) (.ref p) (.ref aA) (.ref aD) (.ref aF) (.ref aE) (.ref aR)))) (.nG n) aP (st.aV.map nV) :=
  ⟨bD,by rw[ax oP.symm,ax (np X.aV.2),ax AP.symm,ax (nt X.aV.2)];exact X.aV.2⟩
 have hn':LstAt i (aZ (aZ (aZ c t none) p (some (i,.aV))) aP (some (i,.nG n))) (upd (upd (upd (upd H t (.tup [.int u,.ref aP])) aA (.dK (putK (bQ ((st.bg.map (·.1)).zip ws)) (U0 (n:Int)) (.ref t)))) p (.lst [])) o (.ins A.aB dx (chF (.int st.eJ) (.int st.bC) (.bl st.closed) (.ref aM) (.ref p) (.ref aA) (.ref aD) (.ref aF) (.ref aE) (.ref aR)))) .aV p [] :=
  ⟨by rw[aG (np X.aV.2).symm,bD],by rw[ax (np X.ob).symm,af]⟩
 have htt:TupAt (aZ (aZ (aZ c t none) p (some (i,.aV))) aP (some (i,.nG n))) (upd (upd (upd (upd H t (.tup [.int u,.ref aP])) aA (.dK (putK (bQ ((st.bg.map (·.1)).zip ws)) (U0 (n:Int)) (.ref t)))) p (.lst [])) o (.ins A.aB dx (chF (.int st.eJ) (.int st.bC) (.bl st.closed) (.ref aM) (.ref p) (.ref aA) (.ref aD) (.ref aF) (.ref aE) (.ref aR)))) t [.int u,.ref aP] :=
  ⟨by rw[aG (nt X.aV.2).symm,aG ntp.symm,bD],.inl (by rw[ax (nt X.ob).symm,ax ntp.symm,ax (nt X.bg.2).symm,af])⟩
 exact⟨s,k1,af,X.made.kp rfl s,wM s X.mot,hn',hd,(zG (λ_ _=>rfl) s X.wait).snoc ⟨t,aP,rfl,htt,hl⟩,X.dec.kp rfl s,wN s X.CW,X.firsts.kp rfl s,zH (λ_ _=>rfl) s X.first,X.lR.kp rfl s,zI (λ_ _=>rfl) s X.kept,X.rows.kp rfl s⟩
theorem ChX.waitOf (X:ChX A i c H o st dx aM aP aA aD aF aE aR ms ds ws fs es){n:Nat}{x:Nat×Int×List Nat}(hx:at1 n st.bg=some x):∃t p,ee (bQ ((st.bg.map (·.1)).zip ws)) (U0 (n:Int))=some (.ref t)/\TupAt c H t [.int x.2.1,.ref p]/\LstAt i c H (.nG n) p (x.2.2.map nV):=by
 obtain⟨v,h1,t,p,rfl,h2,h3⟩:=X.wait.val hx;rw[(Hr hx).1]at h3;exact⟨t,p,h1,h2,h3⟩
end
def vw (i:Nat)(c:Col)(H:Hp)(t:Addr)(xs:List V):Prop:=¬dn i (c t)/\H t=some (.tup xs)
def IU (i:Nat)(c:Col)(H:Hp)(t:Addr)(xs:List V):Prop:=¬dn i (c t)/\H t=some (.lst xs)
def j6 (i:Nat)(c:Col)(H:Hp):R.br->Addr->Prop
 | .mat cs,t=>∃L,vw i c H t [.str (ar "matter"),.ref L]/\IU i c H L ((cs.map (gp R.bl1)).map V.str)
 | .ed m k j ws,t=>∃e,vw i c H t [.str (R.kEd m),.ref e]/\TupAt c H e (R.edR k j (gp R.bl1 ws))
 | .pt ws,t=>vw i c H t [.str (ar "point"),.str (gp R.bl1 ws)]
 | .nums kd ns,t=>vw i c H t (.str kd::ns.map V.int)
section
variable{i:Nat}{c c':Col}{H H':Hp}{t:Addr}{xs:List V}
theorem vw.step (s:Step (dn i) c c' H H')(h:vw i c H t xs):vw i c' H' t xs:=⟨by rw[s.col t _ h.2 h.1];exact h.1,s.keep _ _ h.2 h.1⟩
theorem IU.step (s:Step (dn i) c c' H H')(h:IU i c H t xs):IU i c' H' t xs:=⟨by rw[s.col t _ h.2 h.1];exact h.1,s.keep _ _ h.2 h.1⟩
theorem j6.step (s:Step (dn i) c c' H H'):∀ {d:R.br},j6 i c H d t->j6 i c' H' d t
 | .mat _,⟨L,a,b⟩=>⟨L,a.step s,b.step s⟩
 | .ed _ _ _ _,⟨e,a,b⟩=>⟨e,a.step s,b.step s⟩
 | .pt _,h=>vw.step s h
 | .nums _ _,h=>vw.step s h
theorem j6.at {K:ba}:∀ {d:R.br},j6 i c H d t->R.mP K H d t
 | .mat _,⟨L,a,b⟩=>⟨L,SqT.of a.2,SqL.of b.2⟩
 | .ed _ _ _ _,⟨e,a,b⟩=>⟨e,SqT.of a.2,b.sq⟩
 | .pt _,h=>SqT.of h.2
 | .nums _ _,h=>SqT.of h.2
end
theorem LC {k:Nat}{j:Int}{x:Str}(h:k=0\/k=1\/k=2):R.edR k j x=jZ ⟨k,j,x⟩:=by
 rcases h with rfl | rfl | rfl <;> rfl
theorem Ni {t1 t2:TS}{D:Ends}{σ:St}{H:Hp}(J:St->Hp->Prop)(h2:∀σ' H',J σ' H'->t2 D σ' H')(h1:∀N:St->Hp->Prop,(∀σ' H',J σ' H'->N σ' H')->t1 { D with nx:=N } σ H):Mv t1 t2 D σ H:=h1 (t2 D) h2
def Ch.opened (st:Ch):Ch:={ st with closed:=if st.aV=[] then false else st.closed }
def Ch.AH (st:Ch)(row:Str):Ch:={ st.opened with rows:=st.rows++[row] }
def R1 (A:Adr)(i:Nat):Sp:=λvs H Q _=>∃(o t:Addr) (c:Col) (st:Ch) (d:R.br),vs=[.ref o,.ref t]/\cV A i c H o st/\j6 i c H d t/\R.DOk d/\st.rows.length<=1000 /\
 ∀c' H',Step (dn i) c c' H H'->cV A i c' H' o (st.AH (R.fA d))->Q .non H'
def Ch.R3 (st:Ch)(n:Nat)(tx:List Str)(e:Ed):Ch:={ st with made:=st.made.set (n - 1) (.mat (wK tx e)),kept:=Ng n e st.kept }
def Ch.R4 (st:Ch)(n:Nat)(e:Ed)(ws:List Str):Ch:={ st with made:=st.made.set (n - 1) (.chg ⟨e.k,e.at_,gp R.bl1 ws⟩) }
theorem ChX.Us {A:Adr}{i:Nat}{c:Col}{H:Hp}{o dx aM aP aA aD aF aE aR:Addr}{st:Ch}{ms ds:List Addr}{ws fs es:List V}(X:ChX A i c H o st dx aM aP aA aD aF aE aR ms ds ws fs es){n:Nat}(hn:eY st n) :
  ∃x,ee (bQ ((VQ 1 st.made.length).zip (ms.map V.ref))) (U0 (n:Int))=some (.ref x)/\mR A c H (st.mo n) x:=by
 have ml:=X.mot.len;have hlt:n - 1 < st.made.length:=by have:=hn.1;have:=hn.2;omega
 obtain⟨x,e1,e2⟩:=X.mot.get (UT hlt);have hv:=zL ms 1 (n - 1) e1;rw[<-ml,show 1+(n - 1)=n by have:=hn.1;omega]at hv
 have e3:st.mo n=st.made[n - 1]:=by unfold Ch.mo;rw[UY,UT hlt];rfl
 exact⟨x,hv,by rw[e3];exact e2⟩
section
variable{P:ko}{w:World}{K:ba}{mg:Str->Option Value}{base:Heap}{A:Adr}
theorem xJ (T:Txt w.params K mg A){i:Nat}:FnOk P w K mg base CX0 5 A.cU A.cI ["self","deed"] (R1 A i):=by
 have ix:FnOk P w K mg base CX0 4 A.i8 A.eQ ["deed"] (R.Gd K):=R.ug T;refine T.mJ.ok lD (λvs H Q E h=>?_) (λcdv A' outer s H vs Q E hr h=>?_)
 ·obtain⟨o,t,c,st,d,rfl,_⟩:=h;rfl
 ·obtain⟨o,t,c,st,d,rfl,hc,hd,hk,hl,q⟩:=h;refine⟨_,(ak (bW (q9 (sO (bF (pv 0) rfl) (λ_=>rfl)))
 (aq (eA (pv 0) lh rfl))
 aO)
 (aq (cS (ic Vj VA VB eP (bF (pv 0) rfl) (aa (bw ix hr rfl T.oU T.jX.kp T.oV .nil a6 (aa (pv 1) ae)) ae))))),?_⟩
  try dsimp only[bh]
  have lim:de=16777216:=by decide
  refine Ni (λσ' H'=>σ'=[some (.ref o),some (.ref t)]/\Step (dn i) c c H H'/\cV A i c H' o st.opened) ?r (λN nN=>?f)
  case f =>
   refine aX λGq gq=>?_
   obtain⟨dx,aM,aP,aA,aD,aF,aE,aR,ms,ds,ws,fs,es,X⟩:=hc.ex;refine gq ?_;refine iA rfl X.ob T.az T.cO lS ?_;refine⟨_,.inl ⟨_,.inl (.inl X.aV.2),rfl⟩,?_⟩;cases e:st.aV with
   |nil =>
    refine dZ ⟨_,rfl,o,A.aB,dx,_,rfl,X.ob,T.az,T.et,(by show 10 < 1000;decide),?_⟩
    rw[Ge];obtain⟨s1,X1⟩:=X.attr st.bC false;refine nN _ _ ⟨rfl,s1.EO,?_⟩;have e1:st.opened={ st with bC:=st.bC,closed:=false }:=by unfold Ch.opened;rw[e,if_pos rfl]
    rw[e1];exact X1.at
   |cons x r =>
    refine cf (nN _ _ ⟨rfl,Step.refl aW,?_⟩);have e1:st.opened=st:=by unfold Ch.opened;rw[e,if_neg (UX _ _)];cases st;cases e;rfl
    rw[e1];exact hc
  case r =>
   rintro σ' H1 ⟨rfl,s1,hc1⟩;refine aX λGq gq=>?_
   obtain⟨dx,aM,aP,aA,aD,aF,aE,aR,ms,ds,ws,fs,es,X⟩:=hc1.ex;refine gq ?_;refine iA rfl X.ob T.az T.d7 uh ?_;refine⟨.inl ⟨rfl,_,SqL.of X.rows.2⟩,_,rfl,t,d,rfl,(hd.step s1).at,hk,λH2 s2=>?_⟩
   have X2:=X.same s2;obtain⟨s3,X3⟩:=X2.row (R.fA d);refine⟨aR,_,_,rfl,rfl,X2.rows.2,by rw[da];show st.rows.length < _;omega,?_⟩
   exact q c _ ((s1.trans (Step.same aW s2)).trans s3.EO) X3.at
end
def Bo (below:List Mn):Mn->Prop
 | .mat _=>below=[]
 | .chg e=>∃tx,below=[.mat tx]/\jz tx.length e=true
 | .mnd f=>∃tx e,below=[.mat tx,.chg e]/\e.k≠1/\jz (R.fQ e.th).length f=true
 | .off _=>(∃tx r,below=.mat tx::r)/\∀b∈below,b.k < 3
 | .cls=>(∃tx r,below=.mat tx::r)/\∀b∈below,b.k < 4
 | .lay=>(∃tx r,below=.mat tx::r)/\∀b∈below,b.k < 5
 | .rst=>∀b∈below,b.k < 6
 | .pnt _=>∀b∈below,b.k < 7
inductive PMs:List Mn->Prop
 |nil:PMs []
 |snoc {ms:List Mn} {m:Mn}:PMs ms->Bo ms m->PMs (ms++[m])
theorem PMs.pop {ms:List Mn}{m:Mn}(h:PMs (ms++[m])):PMs ms/\Bo ms m:=by
 generalize e:ms++[m]=l at h;cases h with
 |nil=>simp at e
 |snoc h1 h2 =>
  obtain⟨e1,e2⟩:=List.append_inj' e rfl;cases e2;subst e1;exact⟨h1,h2⟩
theorem Bo.lt {below:List Mn}:∀ {m:Mn},Bo below m->∀b∈below,b.k < m.k
 | .mat _,h,b,hb=>by rw[h]at hb;cases hb
 | .chg _,⟨tx,h,_⟩,b,hb=>by
  rw[h,wt]at hb;rw[hb];show 0 < 1;decide
 | .mnd _,⟨tx,e,h,_,_⟩,b,hb=>by
  rw[h]at hb;rcases List.mem_cons.mp hb with rfl | hb
  ·show 0 < 2;decide
  ·rw[wt]at hb;rw[hb];show 1 < 2;decide
 | .off _,h,b,hb=>h.2 b hb
 | .cls,h,b,hb=>h.2 b hb
 | .lay,h,b,hb=>h.2 b hb
 | .rst,h,b,hb=>h b hb
 | .pnt _,h,b,hb=>h b hb
theorem PMs.le_top {ms:List Mn}(h:PMs ms):∀b∈ms,(b.k:Int)<=sx ms:=by
 cases h with
 |nil=>intro b hb;cases hb
 |snoc h1 h2 =>
  intro b hb;rw[p7];rcases List.mem_append.mp hb with hb | hb
  ·have:=h2.lt b hb;omega
  ·rw[wt]at hb;rw[hb];exact Int.le_refl _
theorem PMs.IV {ms:List Mn}(h:PMs ms):IS ms=true->∃tx r,ms=.mat tx::r:=by
 induction h with
 |nil=>intro h;cases h
 | @snoc ms m h1 h2 ih =>
  intro h;unfold IS at h ih;rw[List.any_append,Bool.or_eq_true]at h;rcases h with h | h
  ·obtain⟨tx,r,e⟩:=ih h;exact⟨tx,r++[m],by rw[e];rfl⟩
  ·cases m with
   |mat tx =>
    have:ms=[]:=h2;rw[this];exact⟨tx,[],rfl⟩
   |_=>simp[Mn.k]at h
theorem PMs.len {ms:List Mn}(h:PMs ms):(ms.length:Int)<=sx ms+1:=by
 induction h with
 |nil=>decide
 | @snoc ms m h1 h2 ih =>
  rw[p7,km,U4];have:sx ms < (m.k:Int):=by
   unfold sx;split
   ·omega
   ·rename_i b hb;have:=h2.lt b (List.mem_of_getLast? hb);omega
  omega
theorem PMs.Qd {ms:List Mn}(h:PMs ms):ms.length<=8:=by
 have:=h.len;have:=Lz ms;omega
theorem EV (cl:Bool)(ms:List Mn):sx ms<=xH cl ms:=by
 unfold xH;split
 ·split <;> omega
 ·exact Int.le_refl _
theorem uk {cl:Bool}{ms:List Mn}{k:Nat}(h:AF cl ms k=none):sx ms < (k:Int)/\ES ms k=true:=by
 have hb:=EV cl ms;unfold AF at h;split at h
 ·cases h
 ·split at h
  ·exact⟨by omega,by assumption⟩
  ·split at h <;> cases h
theorem LD {ms:List Mn}(h:sx ms < 0):ms=[]:=by
 rcases VJ ms with e | ⟨r,b,e⟩
 ·exact e
 ·rw[e,VL,p7]at h;omega
def R5 (ms:List Mn):Mn->Prop
 | .chg e=>∀tx r,ms=.mat tx::r->jz tx.length e=true
 | .mnd f=>∀r e,ms=r++[.chg e]->jz (R.fQ e.th).length f=true
 |_=>True
theorem p9 {α:Type}{xs:List α}{x:α}(h:xs.getLast?=some x):∃r,xs=r++[x]:=by
 rcases VJ xs with e | ⟨r,b,e⟩
 ·rw[e]at h;cases h
 ·rw[VL]at e;rw[e,Wn]at h;cases h;exact⟨r,e⟩
theorem PMs.push {cl:Bool}{ms:List Mn}(h:PMs ms){m:Mn}(ho:AF cl ms m.k=none)(hf:R5 ms m):PMs (ms++[m]):=by
 obtain⟨h1,h2⟩:=uk ho;have lt:∀b∈ms,b.k < m.k:=λb hb=>by have:=h.le_top b hb;omega
 refine .snoc h ?_;cases m with
 |mat tx=>exact LD h1
 |chg e =>
  obtain⟨tx,r,e1⟩:=h.IV h2;refine⟨tx,?_,hf tx r e1⟩;rcases VJ r with e2 | ⟨r',b,e2⟩
  ·rw[e1,e2]
  ·rw[VL]at e2;have hb:b.k < 1:=lt b (by rw[e1,e2];simp)
   rw[e1,e2,<-List.cons_append]at h;have ht:=h.pop.2;cases b with
   |mat ty=>exact absurd ht (UX _ _)
   |_=>simp[Mn.k]at hb
 |mnd f =>
  have h3:mS ms=true:=h2;unfold mS at h3;split at h3
  ·rename_i e he;obtain⟨r,e1⟩:=p9 he;rw[e1]at h;obtain⟨tx,e2,_⟩:=h.pop.2;refine⟨tx,e,by rw[e1,e2];rfl,?_,hf r e e1⟩
   intro z;rw[z]at h3;cases h3
  ·cases h3
 |off n=>exact⟨h.IV h2,lt⟩
 |cls=>exact⟨h.IV h2,lt⟩
 |lay=>exact⟨h.IV h2,lt⟩
 |rst=>exact lt
 |pnt z=>exact lt
theorem Gj {st:Ch}{n:Nat}{m:Mn}(hn:eY st n){st':Ch}(h:st'.made=st.made.set (n - 1) m):st'.mo n=m:=by
 unfold Ch.mo;have:=hn.1;have:=hn.2;rw[h,UY,List.getElem?_set_self (by omega)]
 rfl
theorem vx {st:Ch}{n k:Nat}{m:Mn}(hn:eY st n)(h1:1<=k)(ne:k≠n){st':Ch}(h:st'.made=st.made.set (n - 1) m):st'.mo k=st.mo k:=by
 unfold Ch.mo;have:=hn.1;rw[h,UY,List.getElem?_set_ne (by omega),<-UY]
theorem LF {st:Ch}{m:Mn}{st':Ch}(h:st'.made=st.made++[m]){k:Nat}(hk:eY st k):st'.mo k=st.mo k:=by
 unfold Ch.mo;have:=hk.1;have:=hk.2;rw[h,UY,Vo (by omega),<-UY]
theorem LG {st:Ch}{m:Mn}{st':Ch}(h:st'.made=st.made++[m]):st'.mo (st.made.length+1)=m:=by
 unfold Ch.mo;rw[h,UY,Nat.add_sub_cancel,Vb (kg _),Nat.sub_self];rfl
def EdB (N:Nat)(e:Ed):Prop:=(e.k=0\/e.k=1\/e.k=2)/\-9999999999<=e.at_/\e.at_<=9999999999/\∃ws,e.th=gp R.bl1 ws/\(∀w∈ws,R.nJ w)/\ws.length<=N
def MOk (N:Nat):Mn->Prop
 | .mat tx=>tx.length<=12+N/\∀x∈tx,Vs x=true
 | .chg e=>EdB (12+N) e
 | .mnd f=>EdB 1 f/\∃w,f.th=w/\R.nJ w
 | .off u=>-10000000000 < u/\u < 10000000000
 | .pnt z=>Vs z=true
 |_=>True
theorem EdB.mono {N M:Nat}(h:N<=M){e:Ed}(z:EdB N e):EdB M e:=by
 obtain⟨a,b,c,ws,d,f,g⟩:=z;exact⟨a,b,c,ws,d,f,ku g h⟩
theorem MOk.mono {N M:Nat}(h:N<=M):∀ {m:Mn},MOk N m->MOk M m
 | .mat tx,z=>⟨ku z.1 (by omega),z.2⟩
 | .chg e,z=>EdB.mono (by omega) z
 | .mnd f,z=>z
 | .off u,z=>z
 | .cls,_=>trivial
 | .lay,_=>trivial
 | .rst,_=>trivial
 | .pnt _,z=>z
def Ch.all (st:Ch):List Nat:=st.aV++(st.bg.flatMap (·.2.2)++st.decided.map (·.1))
def Ch.zP (st:Ch):List Nat:=(VQ 1 st.made.length).filter λn=>decide ((st.mo n).k=0)
structure Inv (N:Nat)(st:Ch):Prop where
 lm:3 * st.made.length<=N
 lr:st.rows.length<=N
 ld:st.decided.length<=N
 la:st.bg.length<=N
 lk:∀x∈st.kept,x.2.length<=N
 sit:1<=st.bC/\st.bC<=N+1
 mok:∀m∈st.made,MOk N m
 num:∀n∈st.all,eY st n
 nd:st.all.Nodup
 pil:PMs (st.aV.map st.mo)
 asd:∀x∈st.bg,PMs (x.2.2.map st.mo)/\(∃r,x.2.2=x.1::r)/\-10000000000 < x.2.1/\x.2.1 < 10000000000
 kk:st.kept.map (·.1)=st.zP
 ff:st.firsts.map (·.1)=st.zP
 dw:∀x∈st.decided,Vs x.2=true
theorem Inv.mono {N M:Nat}(h:N<=M){st:Ch}(I:Inv N st):Inv M st where
 lm:=ku I.lm h
 lr:=ku I.lr h
 ld:=ku I.ld h
 la:=ku I.la h
 lk:=λx hx=>ku (I.lk x hx) h
 sit:=⟨I.sit.1,by have:=I.sit.2;omega⟩
 mok:=λm hm=>(I.mok m hm).mono h
 num:=I.num
 nd:=I.nd
 pil:=I.pil
 asd:=I.asd
 kk:=I.kk
 ff:=I.ff
 dw:=I.dw
theorem Inv.Nj {N:Nat}{st:Ch}(I:Inv N st){n:Nat}(hn:eY st n):MOk N (st.mo n):=by
 have:=hn.1;have:=hn.2;have hlt:n - 1 < st.made.length:=by omega
 have e:st.mo n=st.made[n - 1]:=by unfold Ch.mo;rw[UY,UT hlt];rfl
 rw[e];exact I.mok _ (List.getElem_mem hlt)
theorem Inv.gF {N:Nat}{st:Ch}(I:Inv N st):∀n∈st.aV,eY st n:=λn hn=>I.num n (Vc _ hn)
theorem Inv.EW {N:Nat}{st:Ch}(I:Inv N st){x:Nat×Int×List Nat}(hx:x∈st.bg):∀n∈x.2.2,eY st n:=λn hn =>
 I.num n (di _ (Vc _ (List.mem_flatMap.mpr ⟨x,hx,hn⟩)))
theorem Inv.Nk {N:Nat}{st:Ch}(I:Inv N st){n:Nat}(hn:n∈st.aV){x:Nat×Int×List Nat}(hx:x∈st.bg):n∉x.2.2:=λz =>
 (List.nodup_append.mp I.nd).2.2 n hn n (Vc _ (List.mem_flatMap.mpr ⟨x,hx,z⟩)) rfl
theorem Nl {st st':Ch}(hl:st'.made.length=st.made.length)(hk:∀n,eY st n->(st'.mo n).k=(st.mo n).k):st'.zP=st.zP:=by
 unfold Ch.zP;rw[hl];refine List.filter_congr λn hn=>?_
 rw[List.mem_range'_1]at hn;rw[hk n ⟨hn.1,by omega⟩]
def Ch.popped (st:Ch)(pre:List Nat)(n:Nat)(wd:Str):Ch:={ st with aV:=pre,decided:=st.decided++[(n,wd)] }
theorem Inv.pop {N:Nat}{st:Ch}(I:Inv N st){pre:List Nat}{n:Nat}(e:st.aV=pre++[n])(wd:Str)(hw:Vs wd=true):Inv (N+1) (st.popped pre n wd)/\Bo (pre.map st.mo) (st.mo n):=by
 have hp:=I.pil;rw[e,UZ]at hp;obtain⟨p1,p2⟩:=PMs.pop hp;have perm:List.Perm (st.popped pre n wd).all st.all:=by
  unfold Ch.all Ch.popped;rw[e,UZ];have:List.Perm (st.bg.flatMap (·.2.2)++(st.decided.map (·.1)++[(n,wd)].map (·.1))) ([n]++(st.bg.flatMap (·.2.2)++st.decided.map (·.1))):=by
   rw[<-List.append_assoc];exact List.perm_append_comm
  exact(List.Perm.append_left pre this).trans (by rw[List.append_assoc])
 refine⟨⟨U9 I.lm,U9 I.lr,?_,U9 I.la,λx hx=>U9 (I.lk x hx),⟨I.sit.1,by have:=I.sit.2;show st.bC<=_;omega⟩,λm hm=>(I.mok m hm).mono (by omega),λk hk=>I.num k (perm.mem_iff.mp hk),perm.nodup_iff.mpr I.nd,p1,I.asd,I.kk,I.ff,?_⟩,p2⟩
 ·show (st.decided++[(n,wd)]).length<=_;rw[km,U4];have:=I.ld;omega
 ·intro x hx;rcases List.mem_append.mp hx with h | h
  ·exact I.dw x h
  ·rw[wt]at h;rw[h];exact hw
theorem Inv.AH {N:Nat}{st:Ch}(I:Inv N st)(z:Str):Inv (N+1) (st.AH z):=by
 refine⟨U9 I.lm,?_,U9 I.ld,U9 I.la,λx hx=>U9 (I.lk x hx),⟨I.sit.1,by have:=I.sit.2;show st.bC<=_;omega⟩,λm hm=>(I.mok m hm).mono (by omega),I.num,I.nd,I.pil,I.asd,I.kk,I.ff,I.dw⟩
 show (st.rows++[z]).length<=_;rw[km,U4];have:=I.lr;omega
theorem Inv.Ow {N:Nat}{st:Ch}(I:Inv N st){n:Nat}{m:Mn}(hn:n∈st.aV)(hk:m.k=(st.mo n).k)(hm:MOk (N+1) m){kp:List (Nat×List Ed)}(ek:kp.map (·.1)=st.kept.map (·.1))(lk:∀x∈kp,x.2.length<=N+1)
  (hp:PMs (st.aV.map (Ch.mo { st with made:=st.made.set (n - 1) m,kept:=kp }))):Inv (N+1) { st with made:=st.made.set (n - 1) m,kept:=kp }:=by
 have hno:=I.gF n hn;have kinds:∀k,eY st k->(Ch.mo { st with made:=st.made.set (n - 1) m,kept:=kp } k).k=(st.mo k).k:=λk h=>by
  by_cases z:k=n
  ·subst z;rw[Gj hno rfl,hk]
  ·rw[vx hno h.1 z rfl]
 have em:Ch.zP { st with made:=st.made.set (n - 1) m,kept:=kp }=st.zP:=Nl (by show (st.made.set (n - 1) m).length=_;rw[WA]) kinds
 refine⟨?_,U9 I.lr,U9 I.ld,U9 I.la,lk,⟨I.sit.1,by have:=I.sit.2;show st.bC<=_;omega⟩,?_,?_,I.nd,hp,?_,by rw[em,<-I.kk];exact ek,by rw[em];exact I.ff,I.dw⟩
 ·show 3 * (st.made.set (n - 1) m).length<=_;rw[WA];have:=I.lm;omega
 ·intro x hx;rcases List.mem_or_eq_of_mem_set hx with h | h
  ·exact(I.mok x h).mono (by omega)
  ·rw[h];exact hm
 ·intro k hk;have:=I.num k hk;exact⟨this.1,by show k<=(st.made.set (n - 1) m).length;rw[WA];exact this.2⟩
 ·intro x hx;obtain⟨h1,h2⟩:=I.asd x hx;refine⟨?_,h2⟩;have:x.2.2.map (Ch.mo { st with made:=st.made.set (n - 1) m,kept:=kp })=x.2.2.map st.mo:=List.map_congr_left λk hk =>
   vx hno (I.EW hx k hk).1 (λz=>I.Nk hn hx (by rw[<-z];exact hk)) rfl
  rw[this];exact h1
theorem Inv.xI {N:Nat}{st:Ch}(I:Inv N st){n:Nat}{r:List Nat}(e:st.aV=n::r){u:Int}(h0:-10000000000 < u)(h1:u < 10000000000):Inv (N+1) (st.xI n u):=by
 have perm:List.Perm (st.xI n u).all st.all:=by
  unfold Ch.all Ch.xI;rw[List.flatMap_append,List.nil_append];show List.Perm ((st.bg.flatMap (·.2.2)++[(n,u,st.aV)].flatMap (·.2.2))++st.decided.map (·.1)) _
  rw[show [(n,u,st.aV)].flatMap (·.2.2)=st.aV by simp,<-List.append_assoc]
  exact List.Perm.append_right _ List.perm_append_comm
 refine⟨U9 I.lm,U9 I.lr,U9 I.ld,?_,λx hx=>U9 (I.lk x hx),⟨I.sit.1,by have:=I.sit.2;show st.bC<=_;omega⟩,λm hm=>(I.mok m hm).mono (by omega),λk hk=>I.num k (perm.mem_iff.mp hk),perm.nodup_iff.mpr I.nd,.nil,?_,I.kk,I.ff,I.dw⟩
 ·show (st.bg++[(n,u,st.aV)]).length<=_;rw[km,U4];have:=I.la;omega
 ·intro x hx;rcases List.mem_append.mp hx with hx | hx
  ·exact I.asd x hx
  ·rw[wt]at hx;subst hx;exact⟨I.pil,⟨r,e⟩,h0,h1⟩
def Ch.carry (st:Ch):Mn->Ch
 | .chg e=>match st.aV with
  |n::_=>(match st.mo n with
   | .mat tx=>st.R3 n tx e
   |_=>st)
  |[]=>st
 | .mnd f=>match st.aV.getLast? with
  |some n=>(match st.mo n with
   | .chg e=>st.R4 n e (wK (R.fQ e.th) f)
   |_=>st)
  |none=>st
 | .off u=>match st.aV with
  |n::_=>st.xI n u
  |[]=>st
 | .cls=>{ st with closed:=true }
 | .lay=>match st.aV with
  |n::_=>st.xI n st.bC
  |[]=>st
 | .rst=>{ st with bC:=st.bC+1 }
 |_=>st
theorem Bp (xs:List Str)(e:Ed):(wK xs e).length<=xs.length+1:=by
 unfold wK;split
 ·rw[km,kf,Vy,Ww];omega
 ·exact U9 (List.length_eraseIdx_le _ _)
 ·rw[WA];omega
theorem Bq {xs:List Str}{e:Ed}{x:Str}(h:x∈wK xs e):x∈xs\/x=e.th:=by
 unfold wK at h;split at h
 ·rcases List.mem_append.mp h with h | h
  ·exact .inl (List.mem_of_mem_take h)
  ·rcases List.mem_cons.mp h with h | h
   ·exact .inr h
   ·exact .inl (List.mem_of_mem_drop h)
 ·exact .inl (List.mem_of_mem_eraseIdx h)
 ·exact List.mem_or_eq_of_mem_set h
theorem R6 {α β:Type}{f:α->β}{xs:List α}{y:β}(h:xs.map f=[y]):∃a,xs=[a]/\f a=y:=by
 cases xs with
 |nil=>cases h
 |cons a r =>
  cases r with
  |nil=>exact⟨a,rfl,by simpa using h⟩
  |cons b r=>simp at h
theorem Ut {α β:Type}{f:α->β}{xs:List α}{y z:β}(h:xs.map f=[y,z]):∃a b,xs=[a,b]/\f a=y/\f b=z:=by
 cases xs with
 |nil=>cases h
 |cons a r =>
  rw[kx]at h;obtain⟨b,rfl,e⟩:=R6 (List.cons.inj h).2;exact⟨a,b,rfl,(List.cons.inj h).1,e⟩
theorem R7 {α β:Type}{f:α->β}{xs:List α}{y:β}{r:List β}(h:xs.map f=y::r):∃a s,xs=a::s/\f a=y:=by
 cases xs with
 |nil=>cases h
 |cons a s=>exact⟨a,s,rfl,(List.cons.inj h).1⟩
theorem EdB.ok {N:Nat}{e:Ed}(h:EdB N e)(hN:N<=4000):Ay e:=by
 obtain⟨a,b,c,ws,d,f,g⟩:=h;refine⟨a,b,c,?_,?_⟩
 ·rw[d];exact iw (λx hx=>by
   rw[show (R.bl1:Str).cps.toList=[32] by trivial,wt]at hx
   omega) ws λw hw=>λx hx=>by have:=(f w hw).sgn x hx;unfold R.Sign at this;omega
 ·rw[d,R.dU];have h1:=ll 32 ws;have h2:=R.Ls f;omega
theorem EdB.str {N:Nat}{e:Ed}(h:EdB N e):Vs e.th=true:=by
 obtain⟨a,b,c,ws,d,f,g⟩:=h;rw[d];exact(iw (λx hx=>by
  rw[show (R.bl1:Str).cps.toList=[32] by trivial,wt]at hx
  omega) ws λw hw=>λx hx=>by have:=(f w hw).sgn x hx;unfold R.Sign at this;omega).ok
theorem EdB.words {N:Nat}{e:Ed}(h:EdB N e):(∀w∈R.fQ e.th,R.nJ w)/\(R.fQ e.th).length<=N:=by
 obtain⟨a,b,c,ws,d,f,g⟩:=h;rw[d,R.i3 f];exact⟨f,g⟩
theorem Gk {ws:List Str}{f:Ed}(h:∀w∈ws,R.nJ w)(hf:R.nJ f.th):∀w∈wK ws f,R.nJ w:=λw hw=>by
 rcases Bq hw with h1 | h1
 ·exact h w h1
 ·rw[h1];exact hf
theorem IW (n:Nat)(e:Ed)(xs:List (Nat×List Ed)):(Ng n e xs).map (·.1)=xs.map (·.1):=by
 unfold Ng;rw[List.map_map];refine List.map_congr_left λx _=>?_
 show (if x.1=n then (x.1,x.2++[e]) else x).1=x.1
 split <;> rfl
theorem LH {n N:Nat}{e:Ed}{xs:List (Nat×List Ed)}(h:∀x∈xs,x.2.length<=N):∀x∈Ng n e xs,x.2.length<=N+1:=by
 intro x hx;obtain⟨y,hy,rfl⟩:=List.mem_map.mp hx;have:=h y hy;split
 ·show (y.2++[e]).length<=_;rw[km,U4];omega
 ·omega
theorem Inv.carry {N:Nat}{st:Ch}(I:Inv N st)(hN:N<=900){m:Mn}(ht:Bo (st.aV.map st.mo) m)(hm:MOk N m):Inv (N+1) (st.carry m):=by
 have J:=I.mono (VZ N);cases m with
 |mat tx=>exact J
 |pnt z=>exact J
 |chg e =>
  obtain⟨tx,h1,hf⟩:=ht;obtain⟨k,e1,e2⟩:=R6 h1;have hn:k∈st.aV:=by rw[e1];exact kb
  have htx:=I.Nj (I.gF k hn);rw[e2]at htx;have e3:st.carry (.chg e)=st.R3 k tx e:=by unfold Ch.carry;rw[e1];dsimp only;rw[e2]
  rw[e3];refine I.Ow hn (by rw[e2];rfl) ?_ (IW k e st.kept) (LH I.lk) ?_
  ·have:=Bp tx e;have h3:tx.length<=12+N:=htx.1;refine⟨by omega,λx hx=>?_⟩
   rcases Bq hx with h | h
   ·exact htx.2 x h
   ·rw[h];exact EdB.str hm
  ·rw[e1,kx,V5,Gj (I.gF k hn) rfl];exact PMs.snoc (ms:=[]) .nil rfl
 |mnd f =>
  obtain⟨tx,e,h1,hk,hf⟩:=ht;obtain⟨a,b,e1,e2,e3⟩:=Ut h1;have ha:a∈st.aV:=by rw[e1];exact kb
  have hb:b∈st.aV:=by rw[e1];exact kr _ kb
  have he:=I.Nj (I.gF b hb);rw[e3]at he;have he':EdB (12+N) e:=he;obtain⟨w1,w2⟩:=he'.words;have e4:st.carry (.mnd f)=st.R4 b e (wK (R.fQ e.th) f):=by unfold Ch.carry;rw[e1];show (match st.mo b with | .chg e=>_ | _=>st)=_;rw[e3];rfl
  rw[e4];obtain⟨_,w,hw,hw2⟩:=hm;refine I.Ow (kp:=st.kept) hb (by rw[e3];rfl) ?_ rfl (λx hx=>U9 (I.lk x hx)) ?_
  ·refine⟨he'.1,he'.2.1,he'.2.2.1,_,rfl,Gk w1 (by rw[hw];exact hw2),?_⟩
   have:=Bp (R.fQ e.th) f;omega
  ·have ne:a≠b:=λz=>by rw[z,e3]at e2;cases e2
   have hp:=I.pil;rw[h1]at hp;obtain⟨tx',e5,e6⟩:=(PMs.pop (ms:=[.mat tx]) hp).2;cases e5;rw[e1,kx,kx,V5,Gj (I.gF b hb) rfl,vx (I.gF b hb) (I.gF a ha).1 ne rfl,e2];exact PMs.snoc (ms:=[.mat tx]) (PMs.snoc (ms:=[]) .nil rfl) ⟨tx,rfl,e6⟩
 |off u =>
  obtain⟨⟨tx,r,h1⟩,_⟩:=ht;obtain⟨k,s,e1,_⟩:=R7 h1;have e3:st.carry (.off u)=st.xI k u:=by unfold Ch.carry;rw[e1]
  rw[e3];exact I.xI e1 hm.1 hm.2
 |lay =>
  obtain⟨⟨tx,r,h1⟩,_⟩:=ht;obtain⟨k,s,e1,_⟩:=R7 h1;have e3:st.carry .lay=st.xI k st.bC:=by unfold Ch.carry;rw[e1]
  rw[e3];have:=I.sit;exact I.xI e1 (by omega) (by omega)
 |cls=>exact⟨J.lm,J.lr,J.ld,J.la,J.lk,J.sit,J.mok,J.num,J.nd,J.pil,J.asd,J.kk,J.ff,J.dw⟩
 |rst=>exact⟨J.lm,J.lr,J.ld,J.la,J.lk,⟨by have:=I.sit.1;show 1<=st.bC+1;omega,by have:=I.sit.2;show st.bC+1<=_;omega⟩,J.mok,J.num,J.nd,J.pil,J.asd,J.kk,J.ff,J.dw⟩
inductive Rs where
 |num (n:Nat) | txt (z:Str) | exc (x:Xc)
abbrev R8:Str:=ar "kept"
abbrev R9:Str:=ar "lost"
abbrev um:Str:=ar "dropped"
def IZ (b:Bool):Str:=if b=true then R8 else R9
theorem Nm (b:Bool):Vs (IZ b)=true:=by
 unfold IZ;split <;> trivial
def LI (st:Ch)(a b:Int):Rs×Ch:=match st.aV.getLast? with
 |none=>(.exc .nothing,st)
 |some n=>if a+b > st.eJ then (.exc .tooMany,st) else
  (.txt (IZ (EL (nd (st.mo n).k) a b)),(if EL (nd (st.mo n).k) a b=true then (st.popped st.aV.dropLast n (IZ (EL (nd (st.mo n).k) a b))).carry (st.mo n) else st.popped st.aV.dropLast n (IZ (EL (nd (st.mo n).k) a b))).AH (R.fA (.nums (ar "vote") [a,b])))
def nH (st:Ch):Rs×Ch:=match st.aV.getLast? with
 |none=>(.exc .nothing,st)
 |some n=>(.txt um,(st.popped st.aV.dropLast n um).AH (R.fA (.nums (ar "drop") [])))
def sA (st:Ch):Mn->Option Xc
 | .chg e=>match st.aV.map st.mo with
  | .mat tx::_=>if jz tx.length e=true then none else some .noFit
  |_=>none
 | .mnd f=>match (st.aV.map st.mo).getLast? with
  |some (.chg e)=>if jz (R.fQ e.th).length f=true then none else some .noFit
  |_=>none
 | .off u=>if u<=st.bC then some (.ui st.bC) else none
 |_=>none
def zQ (st:Ch)(m:Mn):Option Xc:=match AF st.closed (st.aV.map st.mo) m.k with
 |some x=>some x
 |none=>sA st m
def Ch.moved (st:Ch)(m:Mn)(row:Str):Ch:={ st with made:=st.made++[m],aV:=st.aV++[st.made.length+1],firsts:=(match m with | .mat tx=>st.firsts++[(st.made.length+1,tx)] | _=>st.firsts),kept:=(match m with | .mat _=>st.kept++[(st.made.length+1,([]:List Ed))] | _=>st.kept),rows:=st.rows++[row] }
def nI (st:Ch)(m:Mn)(row:Str):Rs×Ch:=match zQ st m with
 |some x=>(.exc x,st)
 |none=>(.num (st.made.length+1),st.moved m row)
theorem Inv.moved {N:Nat}{st:Ch}(I:Inv N st){m:Mn}(hm:MOk N m)(hc:zQ st m=none)(row:Str):Inv (N+3) (st.moved m row):=by
 have J:=I.mono (show N<=N+3 by omega)
 have ho:AF st.closed (st.aV.map st.mo) m.k=none/\sA st m=none:=by
  unfold zQ at hc;split at hc
  ·cases hc
  ·exact⟨by assumption,hc⟩
 have hf:R5 (st.aV.map st.mo) m:=by
  have h:=ho.2;cases m with
  |chg e =>
   intro tx r e1;unfold sA at h;dsimp only at h;rw[e1]at h;dsimp only at h;split at h
   ·assumption
   ·cases h
  |mnd f =>
   intro r e e1;unfold sA at h;dsimp only at h;rw[e1,Wn]at h;dsimp only at h;split at h
   ·assumption
   ·cases h
  |_=>trivial
 have em:(st.moved m row).made=st.made++[m]:=rfl;have old:∀ks:List Nat,(∀k∈ks,eY st k)->ks.map (st.moved m row).mo=ks.map st.mo:=λks h=>List.map_congr_left λk hk=>LF em (h k hk)
 have nok:∀k,eY st k->eY (st.moved m row) k:=λk h=>⟨h.1,by show k<=(st.made++[m]).length;rw[km];have:=h.2;omega⟩
 have perm:List.Perm (st.moved m row).all ((st.made.length+1)::st.all):=by
  unfold Ch.all Ch.moved;rw[List.append_assoc];exact List.perm_middle
 have mt:(st.moved m row).zP=st.zP++(if m.k=0 then [st.made.length+1] else []):=by
  unfold Ch.zP;rw[em,km,U4,List.range'_concat,List.filter_append,Nat.one_mul,Nat.add_comm 1]
  congr 1
  ·refine List.filter_congr λk hk=>?_
   rw[List.mem_range'_1]at hk;rw[LF em ⟨hk.1,by omega⟩]
  ·rw[List.filter_cons,LG em]
   by_cases z:m.k=0
   ·rw[if_pos (decide_eq_true z),if_pos z];rfl
   ·rw[if_neg (by rw[decide_eq_false z];decide),if_neg z];rfl
 refine⟨?_,?_,J.ld,J.la,?_,J.sit,?_,?_,?_,?_,?_,?_,?_,J.dw⟩
 ·show 3 * (st.made++[m]).length<=_;rw[km,U4];have:=I.lm;omega
 ·show (st.rows++[row]).length<=_;rw[km,U4];have:=I.lr;omega
 ·intro x hx;have hx':x∈(match m with | .mat _=>st.kept++[(st.made.length+1,([]:List Ed))] | _=>st.kept):=hx
  cases m with
  |mat tx =>
   rcases List.mem_append.mp hx' with h | h
   ·exact J.lk x h
   ·rw[wt]at h;rw[h];exact Vg _
  |_=>exact J.lk x hx'
 ·intro x hx;rcases List.mem_append.mp (show x∈st.made++[m] from hx) with h | h
  ·exact J.mok x h
  ·rw[wt]at h;rw[h];exact hm.mono (by omega)
 ·intro k hk;rcases List.mem_cons.mp (perm.mem_iff.mp hk) with h | h
  ·rw[h];exact⟨by omega,by show _<=(st.made++[m]).length;rw[km,U4];omega⟩
  ·exact nok k (I.num k h)
 ·rw[perm.nodup_iff,List.nodup_cons];exact⟨λz=>by have:=(I.num _ z).2;omega,I.nd⟩
 ·show PMs ((st.aV++[st.made.length+1]).map (st.moved m row).mo);rw[UZ,old st.aV I.gF,kx,V5,LG em];exact I.pil.push ho.1 hf
 ·intro x hx;obtain⟨h1,h2⟩:=I.asd x hx;exact⟨by rw[old _ (I.EW hx)];exact h1,h2⟩
 ·rw[mt,<-I.kk];cases m with
  |mat tx=>show (st.kept++[(st.made.length+1,([]:List Ed))]).map (·.1)=_;rw[UZ,if_pos (show (Mn.mat tx).k=0 from rfl)];rfl
  |_=>exact(VH _).symm
 ·rw[mt,<-I.ff];cases m with
  |mat tx=>show (st.firsts++[(st.made.length+1,tx)]).map (·.1)=_;rw[UZ,if_pos (show (Mn.mat tx).k=0 from rfl)];rfl
  |_=>exact(VH _).symm
theorem Inv.LI {N:Nat}{st:Ch}(I:Inv N st)(hN:N<=800)(a b:Int):Inv (N+3) (LI st a b).2:=by
 unfold My.LI;split
 ·exact I.mono (by omega)
 ·rename_i n h;obtain⟨pre,e⟩:=p9 h;split
  ·exact I.mono (by omega)
  ·have ed:st.aV.dropLast=pre:=by rw[e];exact List.dropLast_concat
   obtain⟨I1,ht⟩:=I.pop e (IZ (EL (My.nd (st.mo n).k) a b)) (Nm _);rw[ed];have hn:n∈st.aV:=by rw[e];simp
   split
   ·exact(I1.carry (by omega) ht ((I.Nj (I.gF n hn)).mono (by omega))).AH _
   ·exact(I1.AH _).mono (by omega)
theorem Inv.nH {N:Nat}{st:Ch}(I:Inv N st):Inv (N+3) (nH st).2:=by
 unfold My.nH;split
 ·exact I.mono (by omega)
 ·rename_i n h;obtain⟨pre,e⟩:=p9 h;have ed:st.aV.dropLast=pre:=by rw[e];exact List.dropLast_concat
  rw[ed];exact((I.pop e um (by trivial)).1.AH _).mono (by omega)
theorem Inv.nI {N:Nat}{st:Ch}(I:Inv N st){m:Mn}(hm:MOk N m)(row:Str):Inv (N+3) (nI st m row).2:=by
 unfold My.nI;split
 ·exact I.mono (by omega)
 ·exact I.moved hm (by assumption) row
def Hs (A:Adr)(i:Nat)(c:Col)(H:Hp)(o:Addr):Rs×Ch->VK->XK->Prop
 | (.num n,st),Q,_=>∀c' H',Step (dn i) c c' H H'->cV A i c' H' o st->Q (nV n) H'
 | (.txt z,st),Q,_=>∀c' H',Step (dn i) c c' H H'->cV A i c' H' o st->Q (.str z) H'
 | (.exc x,st),_,E=>∀c' H' C d,Step (dn i) c c' H H'->cV A i c' H' o st->x.At A H' C d->(∀a,d=some a->c' a=none)->E C d H'
def Hu:List Str:=[ar "seats",ar "sitting",ar "closed",ar "made",ar "pile",ar "aside",ar "decided",ar "first_texts",ar "edits_kept",ar "rows"]
theorem kY {m:Str}{v0 v1 v2 v3 v4 v5 v6 v7 v8 v9:V}(h:m∉Hu):(chF v0 v1 v2 v3 v4 v5 v6 v7 v8 v9).lookup m=none:=by
 unfold Hu at h;simp only[Wt,VO,or_false,not_or]at h;obtain⟨h0,h1,h2,h3,h4,h5,h6,h7,h8,h9⟩:=h;unfold chF;simp only[Vv,beq_eq_false_iff_ne.mpr h0,beq_eq_false_iff_ne.mpr h1,beq_eq_false_iff_ne.mpr h2,beq_eq_false_iff_ne.mpr h3,beq_eq_false_iff_ne.mpr h4,beq_eq_false_iff_ne.mpr h5,beq_eq_false_iff_ne.mpr h6,beq_eq_false_iff_ne.mpr h7,beq_eq_false_iff_ne.mpr h8,beq_eq_false_iff_ne.mpr h9]
def Qe (A:Adr)(i:Nat):Sp:=λvs H Q E=>∃(o:Addr) (c:Col) (st:Ch) (N:Nat),vs=[.ref o]/\cV A i c H o st/\Inv N st/\N<=800/\Hs A i c H o (nH st) Q E
theorem Nn {i:Nat}{c:Col}{H:Hp}{t:Addr}{xs:List V}:vw i (aZ c t none) (upd H t (.tup xs)) t xs:=⟨by rw[bD];exact aW,af⟩
theorem EX {A:Adr}{c:Col}{H H':Hp}{f:Nat->Mn}(s:aS H H'):∀ {ns:List Nat} {os:List Addr},bZ (λn m=>mR A c H (f n) m) ns os->bZ (λm p=>mR A c H' m p) (ns.map f) os
 |_,_,.nil=>.nil
 |_,_,.cons h t=>.cons (h.same s) (EX s t)
theorem LJ {kd:Str}{ns:List Int}(h:(kd,ns.length)∈R.fw)(hn:∀i∈ns,0<=i/\i < 10 ^ 10):R.DOk (.nums kd ns):=⟨h,hn⟩
def Br (st:Ch):Rs×Ch:=match st.aV.getLast? with
 |none=>(.exc .nothing,st)
 |some _=>(.exc .tooMany,st)
def Qf (A:Adr)(i:Nat):Sp:=λvs H Q E=>∃(o:Addr) (a b:Int) (c:Col) (st:Ch),vs=[.ref o,.int a,.int b]/\cV A i c H o st/\(st.aV=[]\/a+b > st.eJ)/\Hs A i c H o (Br st) Q E
section
variable{P:ko}{w:World}{K:ba}{mg:Str->Option Value}{base:Heap}{A:Adr}
theorem i4 {CX:CXT}{k:Nat}{f:Addr}{fd:gn}{ps:List Str}:FnOk P w K mg base CX k f fd ps (λ_ _ _ _=>False):=⟨λ_ _ _ _ h=>h.elim,λ_ _ _ _ _ _ _ _ _ _ _ _ _ h=>h.elim⟩
theorem Np (T:Txt w.params K mg A){i:Nat}:FnOk P w K mg base (CXX P w) 6 A.ju A.iI ["self","ayes","noes"] (Qf A i):=by
 have vy:FnOk P w K mg base CX0 1 A.eS A.ei ["self","word"] (λ_ _ _ _=>False):=i4
 have qy:FnOk P w K mg base CX0 1 A.fg A.eG ["self","motion"] (λ_ _ _ _=>False):=i4
 have mT:FnOk P w K mg base CX0 1 A.cU A.cI ["self","deed"] (λ_ _ _ _=>False):=i4
 have I0:FnOk P w K mg base CX0 1 A.Cn A.rK ["need","ayes","noes"] (λ_ _ _ _=>False):=i4
 have Qg:∀k,k < 8->FnOk P w K mg base CX0 1 (A.fn k) (A.fnd k) ["self"] (λ_ _ _ _=>False):=λ_ _=>i4
 refine T.zm.okX iB (λvs H Q E h=>?_) (λcdv A' outer s H vs Q E hr h=>?_)
 ·obtain⟨o,a,b,c,st,rfl,_⟩:=h;rfl
 ·obtain⟨o,a,b,c,st,rfl,hc,hv,q⟩:=h;obtain⟨dx,aM,aP,aA,aD,aF,aE,aR,ms,ds,ws,fs,es,X⟩:=hc.ex;have hu1:=hr.u1;have uo:Room 1 _:=hr.mono (by decide);have pF:Room 1 _:=hr.mono (by decide);have lT:Room 1 _:=hr.mono (by decide);have Gm:Room 1 _:=hr.mono (by decide);have Nq:Room 1 _:=hr.mono (by decide);refine⟨_,(aj (bA (uF (px (pv 0)) T.az T.eW (jB (i:=i) T) (hr.mono (by decide)) T.eX))
 (aj (bU (aL N7 (av rg (pv 1) (pv 2)) (bF (pv 0) rfl) (aK _))
 (aC (i7 T.F5 rfl rfl T.u7 (aa ag ae)))
 (gf aO))
 (aj (psx (aT (i:=3) iB.nd rfl (ro rfl) (s9 hu1 (bF (pv 0) rfl) (aY bz (bF (pv 0) rfl) (AR uA ao) (λ_ _=>rfl)) (λ_ _=>rfl))))
 (aj (psx (aT (i:=4) iB.nd rfl (ro rfl) (Dv (q8 (bw I0 Gm rfl T.IB T.IC.kp T.ID .nil a6 (aa (lx (n:=8) (Cf:=A.C) (pv 3) T.cl T.PU Qg Nq T.PX a6) (aa (pv 1) (aa (pv 2) ae))))) ag ag)))
 (aj (psx (cS (c9 (pv 0) T.az T.lL vy uo T.lO .nil a6 (aa (pv 4) ae))))
 (aj (psx (bW (aL bf (pv 4) ag (aK _))
 (aq (cS (c9 (pv 0) T.az T.qp qy pF T.qt .nil a6 (aa (pv 3) ae))))
 aO))
 (aj (psx (cS (c9 (pv 0) T.az T.gz mT lT T.gA .nil a6 (aa (a8 (aa ag (aa (pv 1) (aa (pv 2) ae)))) ae))))
 (aC (psx (aI (pv 4))))))))))),?_⟩
  try dsimp only[bh]
  refine mtv rfl X.ob (kY (by trivial)) ⟨o,c,st,rfl,hc,λhne=>?_,λhe=>?_⟩
  case refine_2 =>
   unfold Br at q;rw[he]at q;exact q c H _ _ (Step.refl aW) hc ⟨rfl,rfl⟩ (λ_ z=>nomatch z)
  have z':a+b > st.eJ:=hv.resolve_left hne;have gl:st.aV.getLast?=some (st.aV.getLast hne):=List.getLast?_eq_some_getLast hne;unfold Br at q;rw[gl]at q;refine⟨_,rfl,_,rfl,_,_,rfl,rfl,iA rfl X.ob T.az T.lP IL ⟨_,_,rfl,rfl,tst (decide_eq_true z') ?_⟩⟩;exact⟨by decide,q c H _ _ (Step.refl aW) hc ⟨rfl,rfl⟩ (λ_ z=>nomatch z)⟩
theorem Nr (T:Txt w.params K mg A){i:Nat}:FnOk P w K mg base (CXX P w) 6 A.jv A.iJ ["self"] (Qe A i):=by
 refine T.zq.okX w6 (λvs H Q E h=>?_) (λcdv A' outer s H vs Q E hr h=>?_)
 ·obtain⟨o,c,st,N,rfl,_⟩:=h;rfl
 ·obtain⟨o,c,st,N,rfl,hc,I,hN,q⟩:=h;obtain⟨dx,aM,aP,aA,aD,aF,aE,aR,ms,ds,ws,fs,es,X⟩:=hc.ex;refine⟨_,(aj (bA (uF (px (pv 0)) T.az T.eW (jB (i:=i) T) (hr.mono (by decide)) T.eX))
 (aj (psx (cS (c9 (pv 0) T.az T.lL (IQ (i:=i) T) (hr.mono (by decide)) T.lO .nil a6 (aa ag ae))))
 (aj (psx (cS (c9 (pv 0) T.az T.gz (xJ (i:=i) T) hr T.gA .nil a6 (aa (a8 (aa ag ae)) ae))))
 (aC (psx (aI ag)))))),?_⟩
  try dsimp only[bh]
  refine mtv rfl X.ob (kY (by trivial)) ⟨o,c,st,rfl,hc,λhne=>?_,λhe=>?_⟩
  case refine_2 =>
   unfold nH at q;rw[he]at q;exact q c H _ _ (Step.refl aW) hc ⟨rfl,rfl⟩ (λ_ z=>nomatch z)
  refine aX λGq gq=>?_
  obtain⟨pre,n,e⟩:∃pre n,st.aV=pre++[n]:=by
   rcases VJ st.aV with e | ⟨pre,n,e⟩
   ·exact absurd e hne
   ·exact⟨pre,n,by rw[e,VL]⟩
  have gl:st.aV.getLast?=some n:=by rw[e];exact Wn
  have ed:st.aV.dropLast=pre:=by rw[e];exact List.dropLast_concat
  unfold nH at q;rw[gl]at q;dsimp only at q;rw[ed]at q;have lp:=I.pil.Qd;rw[da]at lp;have ld:=I.ld;have lr:=I.lr;refine gq ?_;refine mtv rfl X.ob (kY (by trivial)) ⟨o,um,c,st,pre,n,rfl,hc,e,by omega,by omega,λc1 H1 s1 hc1=>?_⟩
  refine aX λGq gq=>?_
  obtain⟨dx2,aM2,aP2,aA2,aD2,aF2,aE2,aR2,ms2,ds2,ws2,fs2,es2,X2⟩:=hc1.ex;refine gq ?_;refine mtv rfl X2.ob (kY (by trivial)) ⟨(sl 1),λt ht=>?_⟩
  have s3:Step (dn i) c1 (aZ c1 t none) H1 (upd H1 t (.tup [V.str (ar "drop")])):=Step.new aW ht;have X3:=X2.free (W:=λ_=>False) (λ_=>id) (Step.new (x:=none) (o:=.tup [V.str (ar "drop")]) id ht)
  refine⟨o,t,_,_,.nums (ar "drop") [],rfl,X3.at,Nn,LJ (by trivial) (λ_ h=>nomatch h),by show st.rows.length<=1000;omega,λc4 H4 s4 hc4=>?_⟩
  exact q c4 H4 ((s1.trans s3).trans s4) hc4
end
def f6:R.br->Mn
 | .mat cs=>.mat (cs.map (gp R.bl1))
 | .ed m k j ws=>if m=true then .mnd ⟨k,j,gp R.bl1 ws⟩ else .chg ⟨k,j,gp R.bl1 ws⟩
 | .pt ws=>.pnt (gp R.bl1 ws)
 | .nums kd ns=>if kd=ar "put off" then .off (ns.getD 0 0) else if kd=ar "close" then .cls else if kd=ar "lay" then .lay else .rst
def CZ:List (Str×Nat):=[(ar "put off",1),(ar "close",0),(ar "lay",0),(ar "rest",0)]
def Gn:R.br->Prop
 | .mat cs=>cs.length<=12/\∀ws∈cs,R.AE 12 ws
 | .ed m k j ws=>(k=0\/k=1\/k=2)/\(-9999999999<=j/\j<=9999999999)/\R.AE 12 ws/\(m=true->ws.length=1)
 | .pt ws=>R.AE 12 ws
 | .nums kd ns=>(kd,ns.length)∈CZ/\∀i∈ns,-10000000000 < i/\i < 10 ^ 10
theorem xX {kd:Str}{ns:List Int}(h:(kd,ns.length)∈CZ):(∃u,kd=ar "put off"/\ns=[u])\/(kd=ar "close"/\ns=[])\/(kd=ar "lay"/\ns=[])\/(kd=ar "rest"/\ns=[]):=by
 unfold CZ at h;simp only[Wt,VO,or_false,WE]at h;rcases h with ⟨h1,h2⟩ | ⟨h1,h2⟩ | ⟨h1,h2⟩ | ⟨h1,h2⟩
 ·cases ns with
  |nil=>simp at h2
  |cons u r =>
   cases r with
   |nil=>exact .inl ⟨u,h1,rfl⟩
   |cons _ _=>simp at h2
 ·exact .inr (.inl ⟨h1,List.length_eq_zero_iff.mp h2⟩)
 ·exact .inr (.inr (.inl ⟨h1,List.length_eq_zero_iff.mp h2⟩))
 ·exact .inr (.inr (.inr ⟨h1,List.length_eq_zero_iff.mp h2⟩))
theorem EY {n:Nat}{ws:List Str}(h:R.AE n ws):Vs (gp R.bl1 ws)=true:=(R.Clause.asc (n:=n) ⟨rfl,h.len,h.wd⟩).ok
theorem LK {N:Nat}:∀ {d:R.br},Gn d->MOk N (f6 d)
 | .mat cs,h=>by
  refine⟨?_,?_⟩
  ·rw[da];have:=h.1;omega
  ·intro x hx;obtain⟨ws,hw,rfl⟩:=List.mem_map.mp hx;exact EY (h.2 ws hw)
 | .ed m k j ws,h=>by
  obtain⟨h1,⟨h2,h3⟩,h4,h5⟩:=h;cases m with
  |true =>
   show EdB 1 ⟨k,j,gp R.bl1 ws⟩/\_;have hl:=h5 rfl
   match ws,hl,h4 with
   |[x],_,h4=>exact⟨⟨h1,h2,h3,[x],rfl,h4.wd,kg 1⟩,x,rfl,h4.wd x kb⟩
  |false =>
   show EdB (12+N) ⟨k,j,gp R.bl1 ws⟩;exact⟨h1,h2,h3,ws,rfl,h4.wd,by have:=h4.len;omega⟩
 | .pt ws,h=>EY h
 | .nums kd ns,h=>by
  obtain⟨h1,h2⟩:=h;rcases xX h1 with ⟨u,rfl,rfl⟩ | ⟨rfl,rfl⟩ | ⟨rfl,rfl⟩ | ⟨rfl,rfl⟩
  ·rw[f6,if_pos rfl];obtain⟨a,b⟩:=h2 u kb;have:(10:Int) ^ 10=10000000000:=by decide
   exact⟨a,by show u < _;omega⟩
  ·rw[f6,if_neg (by trivial),if_pos rfl];trivial
  ·rw[f6,if_neg (by trivial),if_neg (by trivial),if_pos rfl];trivial
  ·rw[f6,if_neg (by trivial),if_neg (by trivial),if_neg (by trivial)];trivial
theorem Ox {M:Nat}{e:Ed}(h:jz M e=true):0<=e.at_:=(Lm.mp h).1
theorem Qh {N:Nat}{st:Ch}(I:Inv N st){d:R.br}(h:Gn d)(hc:zQ st (f6 d)=none):R.DOk d:=by
 have ho:AF st.closed (st.aV.map st.mo) (f6 d).k=none/\sA st (f6 d)=none:=by
  unfold zQ at hc;split at hc
  ·cases hc
  ·exact⟨by assumption,hc⟩
 obtain⟨h0,hf⟩:=ho;cases d with
 |mat cs=>exact h
 |pt ws=>exact h
 |ed m k j ws =>
  obtain⟨h1,⟨h2,h3⟩,h4,h5⟩:=h;have e10:(10:Int) ^ 10=10000000000:=by decide
  refine⟨h1,⟨?_,by omega⟩,h4,h5⟩
  cases m with
  |true =>
   rw[f6,if_pos rfl]at h0 hf;have h3:mS (st.aV.map st.mo)=true:=(uk h0).2;unfold mS at h3;split at h3
   ·rename_i e he;unfold sA at hf;dsimp only at hf;rw[he]at hf;dsimp only at hf;split at hf
    ·rename_i h6;exact Ox h6
    ·cases hf
   ·cases h3
  |false =>
   rw[f6,if_neg gr]at h0 hf;obtain⟨tx,r,e1⟩:=I.pil.IV (uk h0).2;unfold sA at hf;dsimp only at hf;rw[e1]at hf;dsimp only at hf;split at hf
   ·rename_i h6;exact Ox h6
   ·cases hf
 |nums kd ns =>
  obtain⟨h1,h2⟩:=h;have s1:=I.sit.1;rcases xX h1 with ⟨u,rfl,rfl⟩ | ⟨rfl,rfl⟩ | ⟨rfl,rfl⟩ | ⟨rfl,rfl⟩
  ·rw[f6,if_pos rfl]at hf;refine⟨by show (ar "put off",1)∈R.fw;trivial,λi hi=>?_⟩
   rw[wt]at hi;subst hi;unfold sA at hf;dsimp only at hf;split at hf
   ·cases hf
   ·rename_i h6;have h7:¬i<=st.bC:=h6;exact⟨by omega,(h2 i kb).2⟩
  ·exact⟨by trivial,λ_ h=>nomatch h⟩
  ·exact⟨by trivial,λ_ h=>nomatch h⟩
  ·exact⟨by trivial,λ_ h=>nomatch h⟩
theorem zR {i:Nat}{c:Col}{H:Hp}{t:Addr}:∀ {d:R.br},Gn d->j6 i c H d t->∃v,vw i c H t (rowOf (f6 d).k v)/\((f6 d).k=0->∃L tx,v=.ref L/\f6 d=.mat tx/\IU i c H L (tx.map V.str))/\((f6 d).k≠0->(f6 d).Val c H v)
 | .mat cs,_,⟨L,a,b⟩=>⟨.ref L,a,λ_=>⟨L,_,rfl,rfl,b⟩,λz=>absurd rfl z⟩
 | .ed true k j ws,h,⟨e,a,b⟩=>⟨.ref e,a,λz=>(nomatch z),λ_=>⟨e,rfl,by rw[<-LC h.1];exact b⟩⟩
 | .ed false k j ws,h,⟨e,a,b⟩=>⟨.ref e,a,λz=>(nomatch z),λ_=>⟨e,rfl,by rw[<-LC h.1];exact b⟩⟩
 | .pt ws,_,a=>⟨.str (gp R.bl1 ws),a,λz=>(nomatch z),λ_=>rfl⟩
 | .nums kd ns,h,a=>by
  rcases xX h.1 with ⟨u,rfl,rfl⟩ | ⟨rfl,rfl⟩ | ⟨rfl,rfl⟩ | ⟨rfl,rfl⟩
  ·rw[f6,if_pos rfl];exact⟨.int u,a,λz=>(nomatch z),λ_=>rfl⟩
  ·rw[f6,if_neg (by trivial),if_pos rfl]
   exact⟨.non,a,λz=>(nomatch z),λ_=>trivial⟩
  ·rw[f6,if_neg (by trivial),if_neg (by trivial),if_pos rfl]
   exact⟨.non,a,λz=>(nomatch z),λ_=>trivial⟩
  ·rw[f6,if_neg (by trivial),if_neg (by trivial),if_neg (by trivial)]
   exact⟨.non,a,λz=>(nomatch z),λ_=>trivial⟩
def LL (A:Adr)(K:ba):Sp:=λvs H Q E=>Hk A vs H Q E\/EI A K vs H Q E
def Sa (A:Adr)(i:Nat):Sp:=λvs H Q E=>∃(o t:Addr) (c:Col) (st:Ch) (N:Nat) (d:R.br),vs=[.ref o,.ref t]/\cV A i c H o st/\Inv N st/\N<=800/\Gn d/\j6 i c H d t /\
 (zQ st (f6 d)=none->∀H',aS H H'->Q .non H')/\∀x,zQ st (f6 d)=some x->∀C e H',aS H H'->x.New A H H' C e->E C e H'
def Qi (A:Adr)(i:Nat):Sp:=λvs H Q E=>∃(o t:Addr) (c:Col) (st:Ch) (N:Nat) (d:R.br),vs=[.ref o,.ref t]/\cV A i c H o st/\Inv N st/\N<=800/\Gn d/\j6 i c H d t/\Hs A i c H o (nI st (f6 d) (R.fA d)) Q E
theorem MOk.ed1 {N:Nat}{e:Ed}(h:MOk N (.chg e))(hN:N<=800):Ay e:=EdB.ok h (by omega)
theorem MOk.ed2 {N:Nat}{e:Ed}(h:MOk N (.mnd e)):Ay e:=EdB.ok h.1 (by decide)
section
variable{P:ko}{w:World}{K:ba}{mg:Str->Option Value}{base:Heap}{A:Adr}
theorem mU (T:Txt w.params K mg A){i:Nat}:FnOk P w K mg base (CXX P w) 6 A.cF A.cy ["self","told"] (Sa A i):=by
 have sv:FnOk P w K mg base CX0 1 A.words_of A.ij ["clause"] R.vo:=R.j4 T;refine T.iq.okX cw (λvs H Q E h=>?_) (λcdv A' outer s H vs Q E hr h=>?_)
 ·obtain⟨o,t,c,st,N,d,rfl,_⟩:=h;rfl
 ·obtain⟨o,t,c,st,N,d,rfl,hc,I,hN,hd,hdc,q,qx⟩:=h;obtain⟨dx,aM,aP,aA,aD,aF,aE,aR,ms,ds,ws,fs,es,X⟩:=hc.ex;have hu1:=hr.u1;refine⟨_,(aj (psx (aT (i:=2) cw.nd rfl (ro rfl) (aY bp (pv 1) ao (λ_ _=>rfl))))
 (aj (psx (aT (i:=3) cw.nd rfl (ro rfl) (eB (pv 0) T.az T.tZ (Gf (i:=i) T) (hr.mono (by decide)) T.t5 .nil a6)))
 (aj (bA (aU (qw T) hr rfl T.rR T.jy.kp T.rS (pax (aa (pv 2) (aa (pv 3) (aa (bF (pv 0) rfl) ae))))))
 (aC (bU (aL bf (pv 2) ag (aK _))
 (aC (bA (aU (pq T) (hr.mono (by decide)) rfl T.qU T.kQ.kp T.qV (pax (aa (bF (aY bz (pv 3) ao (λ_ _=>rfl)) rfl) (aa (aY bp (pv 1) ao (λ_ _=>rfl)) ae))))))
 (aC (bU (aL bf (pv 2) ag (aK _))
 (aC (bA (aU (pq T) (hr.mono (by decide)) rfl T.qU T.kQ.kp T.qV (pax (aa (bw sv (hr.mono (by decide)) rfl T.mG T.jx.kp T.mH .nil a6 (aa (aY bp (bF (aY bz (pv 3) (AR uA ao) (λ_ _=>rfl)) rfl) ao (λ_ _=>rfl)) ae)) (aa (aY bp (pv 1) ao (λ_ _=>rfl)) ae))))))
 (aC (bU (PW.pt (pw_and (aL bf (pv 2) ag (aK _)) (pw_and1 (aL nO (aY bp (pv 1) ao (λ_ _=>rfl)) (bF (pv 0) rfl) (aK _)))))
 (aC (jg T.pj (AG T) (hr.mono (by decide)) T.CK rfl rfl T.F3 (aa (bF (pv 0) rfl) ae)))
 (gf aO)))))))))),?_⟩
  try dsimp only[bh]
  refine aX λGq gq=>?_
  obtain⟨v,ht,hv0,hv1⟩:=zR hd hdc;have hmk:=LK (N:=N) hd;refine gq ?_;generalize f6 d=m at ht hv0 hv1 hmk q qx;have lp:=I.pil.Qd;rw[da]at lp;refine ixv rfl (SqT.of ht.2) xV ?_;refine mtv rfl X.ob (kY (by trivial)) ⟨o,c,st,rfl,hc,I.gF,by omega,λB os hB hos=>?_⟩
  have sB:=aw (o:=.lst (os.map V.ref)) hB;have hp:uj A K c (upd H B (.lst (os.map V.ref))) B (st.aV.map st.mo) os:=⟨SqL.of af,EX sB hos⟩;generalize upd H B (.lst (os.map V.ref))=H1 at sB hp;refine⟨_,rfl,_,rfl,iA rfl (sB _ _ X.ob) T.az T.et zJ ⟨m.k,B,st.closed,c,st.aV.map st.mo,os,rfl,m.k8,hp,by rw[da];omega,λho H2 s2=>?_,λx hx C e H2 s2 hat=>?_⟩⟩
  case refine_2=>exact qx x (by unfold zQ;rw[hx]) C e H2 (sB.trans s2) ⟨hat.1,λa z=>same_none sB (hat.2 a z)⟩
  have ec:zQ st m=sA st m:=by unfold zQ;rw[ho]
  rw[ec]at q qx;have s12:=sB.trans s2;have hp2:=hp.same s2;obtain⟨h1,h2⟩:=uk ho;have X2:=X.same s12;have ht2:H2 t=some (.tup (rowOf m.k v)):=s12 _ _ ht.2;cases m with
  |mat tx=>exact⟨_,rfl,rfl,tsf (kX 0 (by decide)) ⟨_,rfl,rfl,tsf (pD 0 (by decide)) ⟨_,rfl,rfl,tsf (vt 0 (by decide)) (cf (q rfl H2 s12))⟩⟩⟩
  |pnt z=>exact⟨_,rfl,rfl,tsf (kX 7 (by decide)) ⟨_,rfl,rfl,tsf (pD 7 (by decide)) ⟨_,rfl,rfl,tsf (vt 7 (by decide)) (cf (q rfl H2 s12))⟩⟩⟩
  |cls=>exact⟨_,rfl,rfl,tsf (kX 4 (by decide)) ⟨_,rfl,rfl,tsf (pD 4 (by decide)) ⟨_,rfl,rfl,tsf (vt 4 (by decide)) (cf (q rfl H2 s12))⟩⟩⟩
  |lay=>exact⟨_,rfl,rfl,tsf (kX 5 (by decide)) ⟨_,rfl,rfl,tsf (pD 5 (by decide)) ⟨_,rfl,rfl,tsf (vt 5 (by decide)) (cf (q rfl H2 s12))⟩⟩⟩
  |rst=>exact⟨_,rfl,rfl,tsf (kX 6 (by decide)) ⟨_,rfl,rfl,tsf (pD 6 (by decide)) ⟨_,rfl,rfl,tsf (vt 6 (by decide)) (cf (q rfl H2 s12))⟩⟩⟩
  |chg e =>
   refine⟨_,rfl,rfl,tst (kX 1 (by decide)) ?_⟩
   refine aX λGq gq=>?_
   obtain⟨tx,r,e1⟩:=I.pil.IV h2;obtain⟨te,rfl,hte⟩:=hv1 (by simp[Mn.k])
   rw[e1]at hp2;obtain⟨hB2,ho2⟩:=hp2;refine gq ?_;cases ho2 with
   | @cons _ ob _ bs hm G5 =>
    refine aX λGq gq=>?_
    obtain⟨_,dm,v,hm2,L,rfl,hL⟩:=hm;refine gq ?_;refine ixv rfl hB2 (fG (j:=0) rfl) ⟨ob,A.C 0,dm,_,.ref L,rfl,hm2,T.cl 0 (by decide),T.na0,rfl,ixv rfl (SqT.of ht2) rfl ?_⟩
    refine⟨L,te,tx.map V.str,e,rfl,SqL.of hL.2,eD s12 hte.sq,hmk.ed1 hN,λhf=>?_,λhf=>?_⟩
    ·rw[da]at hf;refine q ?_ H2 s12;unfold sA;dsimp only;rw[e1];dsimp only;rw[if_pos hf]
    ·rw[da]at hf;refine qx .noFit ?_ _ _ H2 s12 ⟨⟨rfl,rfl⟩,λ_ z=>nomatch z⟩
     unfold sA;dsimp only;rw[e1];dsimp only;rw[if_neg (by rw[hf];decide)]
  |mnd f =>
   refine⟨_,rfl,rfl,tsf (kX 2 (by decide)) ⟨_,rfl,rfl,tst (pD 2 (by decide)) ?_⟩⟩
   refine aX λGq gq=>?_
   have h3:mS (st.aV.map st.mo)=true:=h2;unfold mS at h3;obtain⟨e,he,hk1⟩:∃e,(st.aV.map st.mo).getLast?=some (.chg e)/\e.k≠1:=by
    split at h3
    ·rename_i e he;exact⟨e,he,λz=>by rw[z]at h3;cases h3⟩
    ·cases h3
   obtain⟨r,e1⟩:=p9 he;obtain⟨te,rfl,hte⟩:=hv1 (by simp[Mn.k])
   obtain⟨hB2,ho2⟩:=hp2;obtain⟨pre,ob,eo⟩:∃pre ob,os=pre++[ob]:=by
    have hl:=ho2.len;rw[e1,km,U4]at hl;rcases VJ os with e | ⟨pre,n,e⟩
    ·rw[e]at hl;simp at hl
    ·exact⟨pre,n,by rw[e,VL]⟩
   subst eo;obtain⟨as',a,e3,_,hm⟩:=ho2.last;rw[e1]at e3;obtain⟨_,e4⟩:=List.append_inj' e3 rfl;cases e4;obtain⟨_,dm,v,hm2,tc,rfl,htc⟩:=hm;have hem:EdB (12+N) e:=by
    have Qj:Mn.chg e∈st.aV.map st.mo:=by rw[e1];simp
    obtain⟨k,hk,ek⟩:=List.mem_map.mp Qj;have:=I.Nj (I.gF k hk);rw[ek]at this;exact this
   have heo:Ay e:=hem.ok (by omega)
   refine gq ?_;refine⟨_,rfl,_,rfl,B,_,_,_,rfl,rfl,hB2,zO pre ob,ob,A.C 1,dm,_,.ref tc,rfl,hm2,T.cl 1 (by decide),T.na1,rfl,tc,_,_,_,rfl,rfl,htc.sq,P5 hk1,e.th,rfl,?_,λp1 hp1=>?_⟩
   ·have:=heo.th.len;have lim:de=16777216:=by decide
    omega
   have s3:=aw (o:=.lst ((R.fQ e.th).map V.str)) hp1;have s13:=s12.trans s3;refine ixv rfl (SqT.of (s3 _ _ ht2)) rfl ?_;refine⟨p1,te,(R.fQ e.th).map V.str,f,rfl,SqL.of af,eD s13 hte.sq,hmk.ed2,λhf=>?_,λhf=>?_⟩
   ·rw[da]at hf;refine q ?_ _ s13;unfold sA;dsimp only;rw[he];dsimp only;rw[if_pos hf]
   ·rw[da]at hf;refine qx .noFit ?_ _ _ _ s13 ⟨⟨rfl,rfl⟩,λ_ z=>nomatch z⟩
    unfold sA;dsimp only;rw[he];dsimp only;rw[if_neg (by rw[hf];decide)]
  |off u =>
   have hv':v=.int u:=hv1 (by simp[Mn.k])
   subst hv';refine⟨_,rfl,rfl,tsf (kX 3 (by decide)) ⟨_,rfl,rfl,tsf (pD 3 (by decide)) ⟨_,rfl,rfl,tst (vt 3 (by decide)) ?_⟩⟩⟩
   refine ixv rfl (SqT.of ht2) rfl (iA rfl X2.ob T.az T.d5 pA ⟨_,_,rfl,rfl,_,rfl,ie (λz=>?_) (λz=>?_)⟩)
   ·have z':u<=st.bC:=of_decide_eq_true z;have:=I.sit;refine iA rfl X2.ob T.az T.d5 pA ⟨_,rfl,Bm (by omega) (by omega),λd hd=>?_⟩
    refine qx (.ui st.bC) ?_ _ _ _ (s12.new hd) ⟨⟨rfl,d,rfl,af⟩,λ_ z=>by cases z;exact same_none s12 hd⟩
    unfold sA;dsimp only;rw[if_pos z']
   ·have z':¬u<=st.bC:=λy=>z (decide_eq_true y)
    refine q ?_ _ s12;unfold sA;dsimp only;rw[if_neg z']
theorem Nt (T:Txt w.params K mg A):FnOk P w K mg base CX0 3 A.lI A.gm ["told"] (LL A K):=Ru (CQ T) (AD T)
theorem LM {i:Nat}{c:Col}{H:Hp}{t:Addr}{m:Mn}{v:V}{Q:VK}{E:XK}(ht:vw i c H t (rowOf m.k v))(hv0:m.k=0->∃L tx,v=.ref L/\m=.mat tx/\IU i c H L (tx.map V.str))(hv1:m.k≠0->m.Val c H v)
  (q:∀mo H',aS H H'->mR A (cC c H) H' m mo->Q (.ref mo) H'):LL A K [.ref t] H Q E:=by
 by_cases h0:m.k=0
 ·obtain⟨L,tx,rfl,rfl,hL⟩:=hv0 h0;refine .inr ⟨t,L,tx.map V.str,rfl,ht.2,SqL.of hL.2,λmo p H' s hm hp hp' hmo=>q mo H' s ?_⟩
  obtain⟨dx,hmo⟩:=hmo;exact⟨dW hm,dx,.ref p,hmo,p,rfl,dW hp,hp'⟩
 ·refine .inl ⟨t,m.k,v,by omega,m.k8,rfl,ht.2,λmo H' s hm hmo=>q mo H' s ?_⟩
  obtain⟨dx,hmo⟩:=hmo;exact⟨dW hm,dx,v,hmo,(hv1 h0).step (Step.cl (W:=λ_=>False) id s)⟩
theorem Nu (T:Txt w.params K mg A){i:Nat}:FnOk P w K mg base (CXX P w) 7 A.jt A.iH ["self","told"] (Qi A i):=by
 have ix:FnOk P w K mg base CX0 4 A.i8 A.eQ ["deed"] (R.Gd K):=R.ug T;refine T.zi.okX m6 (λvs H Q E h=>?_) (λcdv A' outer s H vs Q E hr h=>?_)
 ·obtain⟨o,t,c,st,N,d,rfl,_⟩:=h;rfl
 ·obtain⟨o,t,c,st,N,d,rfl,hc,I,hN,hd,hdc,q⟩:=h;obtain⟨dx,aM,aP,aA,aD,aF,aE,aR,ms,ds,ws,fs,es,X⟩:=hc.ex;have hu1:=hr.u1;have lim:de=16777216:=by decide
  refine⟨_,(aj (bA (jf (px (pv 0)) T.az T.ip (mU (i:=i) T) hr T.ir (pax (aa (pv 1) ae))))
 (aj (psx (aT (i:=2) m6.nd rfl (ro rfl) (av rg (bB Io (by rfl) T.il eC (aa (bF (pv 0) rfl) ae)) ao)))
 (aj (psx (xT hu1 (bF (pv 0) rfl) (pv 2) (bw (Nt T) (hr.mono (by decide)) rfl T.DY T.oM.kp T.DZ .nil a6 (aa (pv 1) ae)) rfl))
 (aj (psx (cS (ic Vj VA VB eP (bF (pv 0) rfl) (aa (pv 2) ae))))
 (aj (psx (bW (aL bf (aY bp (pv 1) ao (λ_ _=>rfl)) ag (aK _))
 (ak (xT hu1 (bF (pv 0) rfl) (pv 2) (dS dY (by rfl) T.rT lZ (aa (aY bp (pv 1) ao (λ_ _=>rfl)) ae)) rfl)
 (aq (xT hu1 (bF (pv 0) rfl) (pv 2) (bE ae) rfl)))
 aO))
 (aj (psx (cS (ic Vj VA VB eP (bF (pv 0) rfl) (aa (bw ix (hr.mono (by decide)) rfl T.oU T.jX.kp T.oV .nil a6 (aa (pv 1) ae)) ae))))
 (aC (psx (aI (pv 2)))))))))),?_⟩
  try dsimp only[bh]
  unfold nI at q;refine mtv rfl X.ob (kY (by trivial)) ⟨_,rfl,o,t,c,st,N,d,rfl,hc,I,hN,hd,hdc,λSb H1 s1=>?_,λx hx C e H1 s1 hat=>?_⟩
  case refine_2 =>
   rw[hx]at q;exact q (cC c H) H1 C e (Step.cl aW s1) (X.cl s1).at hat.1 (λa z=>dW (hat.2 a z))
  refine aX λGq gq=>?_
  rw[Sb]at q;have Sd:=Qh I hd Sb;have X1:=X.same s1;have st1:Step (dn i) c c H H1:=Step.same aW s1;have Qk:=hdc.step st1;obtain⟨v,ht,hv0,hv1⟩:=zR hd Qk;obtain⟨m,em⟩:∃m,m=f6 d:=⟨_,rfl⟩;rw[<-em]at ht hv0 hv1 q;have lm:=I.lm;have lr:=I.lr;have ml:=X1.mot.len;have lp:=I.pil.Qd;rw[da]at lp;have el:(bQ ((VQ 1 st.made.length).zip (ms.map V.ref))).length=st.made.length:=by
   unfold bQ;rw[da,List.length_zip,List.length_range',da,<-ml,Nat.min_self]
  have en:(((bQ ((VQ 1 st.made.length).zip (ms.map V.ref))).length:Nat):Int)+1=((st.made.length+1:Nat):Int):=by rw[el];omega
  refine gq ?_;refine iA rfl X1.ob T.az T.dB pB ⟨aM,_,rfl,X1.made.2,_,_,rfl,rfl,?_⟩;dsimp only[sN];rw[en];refine⟨_,rfl,LM ht hv0 hv1 λmo H2 s2 hmo=>?_⟩
  have X2:=X1.cl s2;have st2:Step (dn i) c (cC c H1) H1 H2:=Step.cl aW s2;refine iA rfl X2.ob T.az T.dB pB ⟨_,rfl,aM,_,rfl,B0.k (k:=U0 ((st.made.length+1:Nat):Int)) X2.made.2 (by omega),?_⟩
  obtain⟨st3,X3⟩:=X2.Nf hmo;have Ql:=st2.trans st3.EO;generalize upd H2 aM (.dK (putK (bQ ((VQ 1 st.made.length).zip (ms.map V.ref))) (U0 ((st.made.length+1:Nat):Int)) (.ref mo)))=H3 at Ql X3 ⊢;clear hmo st2 X2;generalize cC c H1=c3 at Ql X3;refine iA rfl X3.ob T.az T.cO lS ⟨.inl ⟨rfl,_,SqL.of X3.aV.2⟩,_,rfl,aP,_,_,rfl,rfl,X3.aV.2,by rw[da];show st.aV.length < _;omega,?_⟩
  obtain⟨st4,X4⟩:=X3.push (st.made.length+1);have Se:=Ql.trans st4.EO;have X4':ChX A i c3 (upd H3 aP (.lst (st.aV.map nV++[V.int ((st.made.length+1:Nat):Int)]))) o { st with made:=st.made++[m],aV:=st.aV++[st.made.length+1] } dx aM aP aA aD aF aE aR (ms++[mo]) ds ws fs es:=X4
  have Bs:Step (dn i) c c3 H1 (upd H3 aP (.lst (st.aV.map nV++[V.int ((st.made.length+1:Nat):Int)]))):=Se;clear X4 Se st4;generalize upd H3 aP (.lst (st.aV.map nV++[V.int ((st.made.length+1:Nat):Int)]))=H4 at X4' Bs ⊢;have nf:st.made.length+1∉st.zP:=λz=>by
   have:=(List.mem_filter.mp z).1;rw[List.mem_range'_1]at this;omega
  have ht4:=ht.step Bs
  by_cases h0:m.k=0
  ·obtain⟨L,tx,rfl,rfl,hL⟩:=hv0 h0;have hL4:=hL.step Bs;refine ixv rfl (SqT.of ht4.2) rfl ⟨rfl,tst (Gg 0 (by decide)) ?_⟩
   refine ixv rfl (SqT.of ht4.2) rfl ⟨L,_,rfl,.inl (SqL.of hL4.2),λp hp=>?_⟩
   have lf:st.firsts.length=fs.length:=X4'.first.len;have lff:st.firsts.length<=st.made.length:=by
    have:=congrArg List.length I.ff;rw[da]at this;rw[this];exact ku (List.length_filter_le _ _) (by rw[List.length_range'];exact kg _)
   have lkk:st.kept.length<=st.made.length:=by
    have:=congrArg List.length I.kk;rw[da]at this;rw[this];exact ku (List.length_filter_le _ _) (by rw[List.length_range'];exact kg _)
   have sp:=aw (o:=.lst (tx.map V.str)) hp;refine iA rfl (sp _ _ X4'.ob) T.az T.gB xG ⟨_,rfl,aF,_,rfl,B0.k (k:=U0 ((st.made.length+1:Nat):Int)) (sp _ _ X4'.firsts.2) ?_,?_⟩
   ·unfold bQ;rw[da,List.length_zip,da];show min st.firsts.length _ < _;omega
   obtain⟨st5,X5⟩:=X4'.LB (tx:=tx) hp (n:=st.made.length+1) (by show _∉st.firsts.map (·.1);rw[I.ff];exact nf)
   have X5':ChX A i (aZ c3 p (some (i,.jA (st.made.length+1)))) (upd (upd H4 p (.lst (tx.map V.str))) aF (.dK (putK (bQ ((st.firsts.map (·.1)).zip fs)) (U0 ((st.made.length+1:Nat):Int)) (.ref p)))) o { st with made:=st.made++[.mat tx],aV:=st.aV++[st.made.length+1],firsts:=st.firsts++[(st.made.length+1,tx)] } dx aM aP aA aD aF aE aR (ms++[mo]) ds ws (fs++[.ref p]) es:=X5
   have Qm:Step (dn i) c (aZ c3 p (some (i,.jA (st.made.length+1)))) H1 (upd (upd H4 p (.lst (tx.map V.str))) aF (.dK (putK (bQ ((st.firsts.map (·.1)).zip fs)) (U0 ((st.made.length+1:Nat):Int)) (.ref p)))):=Bs.trans st5.EO
   clear X5 st5;generalize aZ c3 p (some (i,.jA (st.made.length+1)))=c5 at X5' Qm;generalize upd (upd H4 p (.lst (tx.map V.str))) aF (.dK (putK (bQ ((st.firsts.map (·.1)).zip fs)) (U0 ((st.made.length+1:Nat):Int)) (.ref p)))=H5 at X5' Qm ⊢
   refine⟨(sl 0),λp2 hp2=>?_⟩
   have sp2:=aw (o:=.lst []) hp2;refine iA rfl (sp2 _ _ X5'.ob) T.az T.gJ zK ⟨_,rfl,aE,_,rfl,B0.k (k:=U0 ((st.made.length+1:Nat):Int)) (sp2 _ _ X5'.lR.2) ?_,?_⟩
   ·unfold bQ;rw[da,List.length_zip,da];show min st.kept.length _ < _;omega
   obtain⟨st6,X6⟩:=X5'.Nh hp2 (n:=st.made.length+1) (by show _∉st.kept.map (·.1);rw[I.kk];exact nf)
   have Sf:=Qm.trans st6.EO;have Qn:=Qk.step Sf;refine iA rfl X6.ob T.az T.d7 uh ⟨.inl ⟨rfl,_,SqL.of X6.rows.2⟩,_,rfl,t,d,rfl,Qn.at,Sd,λH7 s7=>?_⟩
   have X7:=X6.same s7;obtain⟨st8,X8⟩:=X7.row (R.fA d);refine⟨aR,_,_,rfl,rfl,X7.rows.2,by rw[da];show st.rows.length < _;omega,_,rfl,?_⟩
   exact q _ _ (((st1.trans Sf).trans (Step.same aW s7)).trans st8.EO) X8.at
  ·refine ixv rfl (SqT.of ht4.2) xV ⟨rfl,tsf ((Gg m.k m.k8).trans (decide_eq_false h0)) ?_⟩;have Qn:=Qk.step Bs;refine iA rfl X4'.ob T.az T.d7 uh ⟨.inl ⟨rfl,_,SqL.of X4'.rows.2⟩,_,rfl,t,d,rfl,Qn.at,Sd,λH7 s7=>?_⟩
   have X7:=X4'.same s7;obtain⟨st8,X8⟩:=X7.row (R.fA d);refine⟨aR,_,_,rfl,rfl,X7.rows.2,by rw[da];show st.rows.length < _;omega,_,rfl,?_⟩
   have e8:st.moved m (R.fA d)={ st with made:=st.made++[m],aV:=st.aV++[st.made.length+1],rows:=st.rows++[R.fA d] }:=by
    unfold Ch.moved;cases m with
    |mat tx=>exact absurd rfl h0
    |_=>rfl
   rw[e8]at q;exact q _ _ (((st1.trans Bs).trans (Step.same aW s7)).trans st8.EO) X8.at
end
def pG (n:Int):Ch:=⟨n,1,false,[],[],[],[],[],[],[]⟩
def Sg (A:Adr):Sp:=λvs H Q _=>∃(o dx:Addr) (n:Int),vs=[.ref o,.int n]/\H o=some (.ins A.aB dx []) /\
 ∀H',(∀(i:Nat) (c:Col),∃c',(∀a v,H a=some v->a≠o->H' a=some v/\c' a=c a)/\cV A i c' H' o (pG n))->Q .non H'
theorem fD {f:Str}{v:V}:∀ {fs:List (Str×V)},f∉fs.map (·.1)->fh f v fs=fs++[(f,v)]
 |[],_=>rfl
 | (g,x)::r,h=>by
  rw[fh,if_neg (λz=>h (by rw[<-z];exact kb)),fD λz=>h (kr _ z)]
  rfl
theorem nxt {H:Hp}{o a C dx:Addr}{fs fs':List (Str×V)}{v:HO}(ho:H o=some (.ins C dx fs))(ha:H a=none) :
  (upd (upd H a v) o (.ins C dx fs')) a=some v/\(upd (upd H a v) o (.ins C dx fs')) o=some (.ins C dx fs')/\a≠o/\∀b u,H b=some u->b≠o->(upd (upd H a v) o (.ins C dx fs')) b=some u/\b≠a:=by
 have na:a≠o:=(aQ ho ha).symm;refine⟨(ax na).trans af,af,na,λb u hb hbo=>?_⟩
 have nb:b≠a:=aQ hb ha;exact⟨(ax hbo).trans ((ax nb).trans hb),nb⟩
section
variable{P:ko}{w:World}{K:ba}{mg:Str->Option Value}{base:Heap}{A:Adr}
theorem LN (T:Txt w.params K mg A):FnOk P w K mg base CX0 2 A.js A.iG ["self","seats"] (Sg A):=by
 refine T.zg.ok w5 (λvs H Q E h=>?_) (λcdv A' outer s H vs Q E hr h=>?_)
 ·obtain⟨o,dx,n,rfl,_⟩:=h;rfl
 ·obtain⟨o,dx,n,rfl,ho,q⟩:=h;refine⟨_,(ak (eA (pv 0) (pv 1) rfl)
 (ak (eA (pv 0) ao rfl)
 (ak (eA (pv 0) lh rfl)
 (ak (eA (pv 0) n8 rfl)
 (ak (eA (pv 0) (bE ae) rfl)
 (ak (eA (pv 0) n8 rfl)
 (ak (eA (pv 0) (bE ae) rfl)
 (ak (eA (pv 0) n8 rfl)
 (ak (eA (pv 0) n8 rfl)
 (aq (eA (pv 0) (bE ae) rfl))))))))))),?_⟩
  try dsimp only[bh]
  refine⟨_,rfl,_,rfl,o,A.aB,dx,_,rfl,ho,T.az,T.lP,(by show 0 < 1000;decide),?_⟩
  refine⟨_,rfl,o,A.aB,dx,_,rfl,af,T.az,T.d5,(by show 1 < 1000;decide),?_⟩
  rw[sH];refine⟨_,rfl,o,A.aB,dx,_,rfl,af,T.az,T.et,(by show 2 < 1000;decide),?_⟩
  rw[sH];have e0:fh (ar "closed") (V.bl false) (fh (ar "sitting") (V.int 1) (fh (ar "seats") (V.int n) []))=[(ar "seats",V.int n),(ar "sitting",V.int 1),(ar "closed",V.bl false)]:=by
   have f1:fh (ar "seats") (V.int n) []=[(ar "seats",V.int n)]:=rfl;have f2:fh (ar "sitting") (V.int 1) [(ar "seats",V.int n)]=[(ar "seats",V.int n),(ar "sitting",V.int 1)]:=fD (by show _∉[ar "seats"];trivial)
   rw[f1,f2];exact fD (by show _∉[ar "seats",ar "sitting"];trivial)
  rw[e0];have o0:(upd H o (.ins A.aB dx [(ar "seats",V.int n),(ar "sitting",V.int 1),(ar "closed",V.bl false)])) o=some (.ins A.aB dx [(ar "seats",V.int n),(ar "sitting",V.int 1),(ar "closed",V.bl false)]):=af;have k0:∀b u,H b=some u->b≠o->(upd H o (.ins A.aB dx [(ar "seats",V.int n),(ar "sitting",V.int 1),(ar "closed",V.bl false)])) b=some u:=λb u hb hbo=>(ax hbo).trans hb
  generalize upd H o (.ins A.aB dx [(ar "seats",V.int n),(ar "sitting",V.int 1),(ar "closed",V.bl false)])=H0 at o0 k0 ⊢;refineλaM zaM=>?_
  have naM:o≠aM:=aQ o0 zaM;refine⟨_,rfl,o,A.aB,dx,_,rfl,(ax naM).trans o0,T.az,T.dB,(by show 3 < 1000;decide),?_⟩
  have e1:fh (ar "made") (V.ref aM) [(ar "seats",V.int n),(ar "sitting",V.int 1),(ar "closed",V.bl false)]=[(ar "seats",V.int n),(ar "sitting",V.int 1),(ar "closed",V.bl false),(ar "made",V.ref aM)]:=fD (by show _∉[ar "seats",ar "sitting",ar "closed"];trivial)
  rw[e1];refine aX λGq gq=>?_
  obtain⟨yaM,o1,_,waM⟩:=nxt (v:=.dK []) (fs':=[(ar "seats",V.int n),(ar "sitting",V.int 1),(ar "closed",V.bl false),(ar "made",V.ref aM)]) o0 zaM;have k1:=λb u (hb:H b=some u) (hbo:b≠o)=>waM b u (k0 b u hb hbo) hbo
  refine gq ?_;generalize upd (upd H0 aM (.dK [])) o (.ins A.aB dx [(ar "seats",V.int n),(ar "sitting",V.int 1),(ar "closed",V.bl false),(ar "made",V.ref aM)])=H1 at o1 k1 waM yaM ⊢;clear waM;refine⟨(sl 0),λaP zaP=>?_⟩
  have naP:o≠aP:=aQ o1 zaP;refine⟨_,rfl,o,A.aB,dx,_,rfl,(ax naP).trans o1,T.az,T.cO,(by show 4 < 1000;decide),?_⟩
  have e2:fh (ar "pile") (V.ref aP) [(ar "seats",V.int n),(ar "sitting",V.int 1),(ar "closed",V.bl false),(ar "made",V.ref aM)]=[(ar "seats",V.int n),(ar "sitting",V.int 1),(ar "closed",V.bl false),(ar "made",V.ref aM),(ar "pile",V.ref aP)]:=fD (by show _∉[ar "seats",ar "sitting",ar "closed",ar "made"];trivial)
  rw[e2];refine aX λGq gq=>?_
  obtain⟨yaP,o2,_,waP⟩:=nxt (v:=.lst []) (fs':=[(ar "seats",V.int n),(ar "sitting",V.int 1),(ar "closed",V.bl false),(ar "made",V.ref aM),(ar "pile",V.ref aP)]) o1 zaP;obtain⟨yaM,Si⟩:=waP _ _ yaM (UU naM);have k2:=λb u (hb:H b=some u) (hbo:b≠o)=>waP b u ((k1 b u hb hbo).1) hbo
  refine gq ?_;generalize upd (upd H1 aP (.lst [])) o (.ins A.aB dx [(ar "seats",V.int n),(ar "sitting",V.int 1),(ar "closed",V.bl false),(ar "made",V.ref aM),(ar "pile",V.ref aP)])=H2 at o2 k2 waP yaM yaP ⊢;clear waP;refineλaA zaA=>?_
  have naA:o≠aA:=aQ o2 zaA;refine⟨_,rfl,o,A.aB,dx,_,rfl,(ax naA).trans o2,T.az,T.g0,(by show 5 < 1000;decide),?_⟩
  have e3:fh (ar "aside") (V.ref aA) [(ar "seats",V.int n),(ar "sitting",V.int 1),(ar "closed",V.bl false),(ar "made",V.ref aM),(ar "pile",V.ref aP)]=[(ar "seats",V.int n),(ar "sitting",V.int 1),(ar "closed",V.bl false),(ar "made",V.ref aM),(ar "pile",V.ref aP),(ar "aside",V.ref aA)]:=fD (by show _∉[ar "seats",ar "sitting",ar "closed",ar "made",ar "pile"];trivial)
  rw[e3];refine aX λGq gq=>?_
  obtain⟨yaA,o3,_,waA⟩:=nxt (v:=.dK []) (fs':=[(ar "seats",V.int n),(ar "sitting",V.int 1),(ar "closed",V.bl false),(ar "made",V.ref aM),(ar "pile",V.ref aP),(ar "aside",V.ref aA)]) o2 zaA;obtain⟨yaM,Sj⟩:=waA _ _ yaM (UU naM);obtain⟨yaP,Sk⟩:=waA _ _ yaP (UU naP);have k3:=λb u (hb:H b=some u) (hbo:b≠o)=>waA b u ((k2 b u hb hbo).1) hbo
  refine gq ?_;generalize upd (upd H2 aA (.dK [])) o (.ins A.aB dx [(ar "seats",V.int n),(ar "sitting",V.int 1),(ar "closed",V.bl false),(ar "made",V.ref aM),(ar "pile",V.ref aP),(ar "aside",V.ref aA)])=H3 at o3 k3 waA yaM yaP yaA ⊢;clear waA;refine⟨(sl 0),λaD zaD=>?_⟩
  have naD:o≠aD:=aQ o3 zaD;refine⟨_,rfl,o,A.aB,dx,_,rfl,(ax naD).trans o3,T.az,T.fO,(by show 6 < 1000;decide),?_⟩
  have e4:fh (ar "decided") (V.ref aD) [(ar "seats",V.int n),(ar "sitting",V.int 1),(ar "closed",V.bl false),(ar "made",V.ref aM),(ar "pile",V.ref aP),(ar "aside",V.ref aA)]=[(ar "seats",V.int n),(ar "sitting",V.int 1),(ar "closed",V.bl false),(ar "made",V.ref aM),(ar "pile",V.ref aP),(ar "aside",V.ref aA),(ar "decided",V.ref aD)]:=fD (by show _∉[ar "seats",ar "sitting",ar "closed",ar "made",ar "pile",ar "aside"];trivial)
  rw[e4];refine aX λGq gq=>?_
  obtain⟨yaD,o4,_,waD⟩:=nxt (v:=.lst []) (fs':=[(ar "seats",V.int n),(ar "sitting",V.int 1),(ar "closed",V.bl false),(ar "made",V.ref aM),(ar "pile",V.ref aP),(ar "aside",V.ref aA),(ar "decided",V.ref aD)]) o3 zaD;obtain⟨yaM,Sl⟩:=waD _ _ yaM (UU naM);obtain⟨yaP,Sm⟩:=waD _ _ yaP (UU naP);obtain⟨yaA,Sn⟩:=waD _ _ yaA (UU naA);have k4:=λb u (hb:H b=some u) (hbo:b≠o)=>waD b u ((k3 b u hb hbo).1) hbo
  refine gq ?_;generalize upd (upd H3 aD (.lst [])) o (.ins A.aB dx [(ar "seats",V.int n),(ar "sitting",V.int 1),(ar "closed",V.bl false),(ar "made",V.ref aM),(ar "pile",V.ref aP),(ar "aside",V.ref aA),(ar "decided",V.ref aD)])=H4 at o4 k4 waD yaM yaP yaA yaD ⊢;clear waD;refineλaF zaF=>?_
  have naF:o≠aF:=aQ o4 zaF;refine⟨_,rfl,o,A.aB,dx,_,rfl,(ax naF).trans o4,T.az,T.gB,(by show 7 < 1000;decide),?_⟩
  have e5:fh (ar "first_texts") (V.ref aF) [(ar "seats",V.int n),(ar "sitting",V.int 1),(ar "closed",V.bl false),(ar "made",V.ref aM),(ar "pile",V.ref aP),(ar "aside",V.ref aA),(ar "decided",V.ref aD)]=[(ar "seats",V.int n),(ar "sitting",V.int 1),(ar "closed",V.bl false),(ar "made",V.ref aM),(ar "pile",V.ref aP),(ar "aside",V.ref aA),(ar "decided",V.ref aD),(ar "first_texts",V.ref aF)]:=fD (by show _∉[ar "seats",ar "sitting",ar "closed",ar "made",ar "pile",ar "aside",ar "decided"];trivial)
  rw[e5];refine aX λGq gq=>?_
  obtain⟨yaF,o5,_,waF⟩:=nxt (v:=.dK []) (fs':=[(ar "seats",V.int n),(ar "sitting",V.int 1),(ar "closed",V.bl false),(ar "made",V.ref aM),(ar "pile",V.ref aP),(ar "aside",V.ref aA),(ar "decided",V.ref aD),(ar "first_texts",V.ref aF)]) o4 zaF;obtain⟨yaM,So⟩:=waF _ _ yaM (UU naM);obtain⟨yaP,Sq⟩:=waF _ _ yaP (UU naP);obtain⟨yaA,Sr⟩:=waF _ _ yaA (UU naA);obtain⟨yaD,Ss⟩:=waF _ _ yaD (UU naD);have k5:=λb u (hb:H b=some u) (hbo:b≠o)=>waF b u ((k4 b u hb hbo).1) hbo
  refine gq ?_;generalize upd (upd H4 aF (.dK [])) o (.ins A.aB dx [(ar "seats",V.int n),(ar "sitting",V.int 1),(ar "closed",V.bl false),(ar "made",V.ref aM),(ar "pile",V.ref aP),(ar "aside",V.ref aA),(ar "decided",V.ref aD),(ar "first_texts",V.ref aF)])=H5 at o5 k5 waF yaM yaP yaA yaD yaF ⊢;clear waF;refineλaE zaE=>?_
  have naE:o≠aE:=aQ o5 zaE;refine⟨_,rfl,o,A.aB,dx,_,rfl,(ax naE).trans o5,T.az,T.gJ,(by show 8 < 1000;decide),?_⟩
  have e6:fh (ar "edits_kept") (V.ref aE) [(ar "seats",V.int n),(ar "sitting",V.int 1),(ar "closed",V.bl false),(ar "made",V.ref aM),(ar "pile",V.ref aP),(ar "aside",V.ref aA),(ar "decided",V.ref aD),(ar "first_texts",V.ref aF)]=[(ar "seats",V.int n),(ar "sitting",V.int 1),(ar "closed",V.bl false),(ar "made",V.ref aM),(ar "pile",V.ref aP),(ar "aside",V.ref aA),(ar "decided",V.ref aD),(ar "first_texts",V.ref aF),(ar "edits_kept",V.ref aE)]:=fD (by show _∉[ar "seats",ar "sitting",ar "closed",ar "made",ar "pile",ar "aside",ar "decided",ar "first_texts"];trivial)
  rw[e6];refine aX λGq gq=>?_
  obtain⟨yaE,o6,_,waE⟩:=nxt (v:=.dK []) (fs':=[(ar "seats",V.int n),(ar "sitting",V.int 1),(ar "closed",V.bl false),(ar "made",V.ref aM),(ar "pile",V.ref aP),(ar "aside",V.ref aA),(ar "decided",V.ref aD),(ar "first_texts",V.ref aF),(ar "edits_kept",V.ref aE)]) o5 zaE;obtain⟨yaM,Su⟩:=waE _ _ yaM (UU naM);obtain⟨yaP,Sv⟩:=waE _ _ yaP (UU naP);obtain⟨yaA,Sw⟩:=waE _ _ yaA (UU naA);obtain⟨yaD,Sx⟩:=waE _ _ yaD (UU naD);obtain⟨yaF,Sy⟩:=waE _ _ yaF (UU naF);have k6:=λb u (hb:H b=some u) (hbo:b≠o)=>waE b u ((k5 b u hb hbo).1) hbo
  refine gq ?_;generalize upd (upd H5 aE (.dK [])) o (.ins A.aB dx [(ar "seats",V.int n),(ar "sitting",V.int 1),(ar "closed",V.bl false),(ar "made",V.ref aM),(ar "pile",V.ref aP),(ar "aside",V.ref aA),(ar "decided",V.ref aD),(ar "first_texts",V.ref aF),(ar "edits_kept",V.ref aE)])=H6 at o6 k6 waE yaM yaP yaA yaD yaF yaE ⊢;clear waE;refine⟨(sl 0),λaR zaR=>?_⟩
  have naR:o≠aR:=aQ o6 zaR;refine⟨_,rfl,o,A.aB,dx,_,rfl,(ax naR).trans o6,T.az,T.d7,(by show 9 < 1000;decide),?_⟩
  have e7:fh (ar "rows") (V.ref aR) [(ar "seats",V.int n),(ar "sitting",V.int 1),(ar "closed",V.bl false),(ar "made",V.ref aM),(ar "pile",V.ref aP),(ar "aside",V.ref aA),(ar "decided",V.ref aD),(ar "first_texts",V.ref aF),(ar "edits_kept",V.ref aE)]=[(ar "seats",V.int n),(ar "sitting",V.int 1),(ar "closed",V.bl false),(ar "made",V.ref aM),(ar "pile",V.ref aP),(ar "aside",V.ref aA),(ar "decided",V.ref aD),(ar "first_texts",V.ref aF),(ar "edits_kept",V.ref aE),(ar "rows",V.ref aR)]:=fD (by show _∉[ar "seats",ar "sitting",ar "closed",ar "made",ar "pile",ar "aside",ar "decided",ar "first_texts",ar "edits_kept"];trivial)
  rw[e7];refine aX λGq gq=>?_
  obtain⟨yaR,o7,_,waR⟩:=nxt (v:=.lst []) (fs':=[(ar "seats",V.int n),(ar "sitting",V.int 1),(ar "closed",V.bl false),(ar "made",V.ref aM),(ar "pile",V.ref aP),(ar "aside",V.ref aA),(ar "decided",V.ref aD),(ar "first_texts",V.ref aF),(ar "edits_kept",V.ref aE),(ar "rows",V.ref aR)]) o6 zaR;obtain⟨yaM,Sz⟩:=waR _ _ yaM (UU naM);obtain⟨yaP,SA⟩:=waR _ _ yaP (UU naP);obtain⟨yaA,SD⟩:=waR _ _ yaA (UU naA);obtain⟨yaD,SE⟩:=waR _ _ yaD (UU naD);obtain⟨yaF,SG⟩:=waR _ _ yaF (UU naF);obtain⟨yaE,SH⟩:=waR _ _ yaE (UU naE);have k7:=λb u (hb:H b=some u) (hbo:b≠o)=>waR b u ((k6 b u hb hbo).1) hbo
  refine gq ?_;generalize upd (upd H6 aR (.lst [])) o (.ins A.aB dx [(ar "seats",V.int n),(ar "sitting",V.int 1),(ar "closed",V.bl false),(ar "made",V.ref aM),(ar "pile",V.ref aP),(ar "aside",V.ref aA),(ar "decided",V.ref aD),(ar "first_texts",V.ref aF),(ar "edits_kept",V.ref aE),(ar "rows",V.ref aR)])=H7 at o7 k7 waR yaM yaP yaA yaD yaF yaE yaR ⊢;clear waR;refine q H7 λi c=>⟨aZ (aZ (aZ (aZ (aZ (aZ (aZ (aZ c o (some (i,Rl.ob))) aM (some (i,Rl.made))) aP (some (i,Rl.aV))) aA (some (i,Rl.bg))) aD (some (i,Rl.decided))) aF (some (i,Rl.firsts))) aE (some (i,Rl.kept))) aR (some (i,Rl.rows)),λb u hb hbo=>⟨(k7 b u hb hbo).1,?_⟩,⟨dx,aM,aP,aA,aD,aF,aE,aR,[],[],[],[],[],?_⟩⟩
  ·rw[aG (k7 b u hb hbo).2,aG (k6 b u hb hbo).2,aG (k5 b u hb hbo).2,aG (k4 b u hb hbo).2,aG (k3 b u hb hbo).2,aG (k2 b u hb hbo).2,aG (k1 b u hb hbo).2,aG hbo]
  ·exact⟨by rw[aG naR,aG naE,aG naF,aG naD,aG naA,aG naP,aG naM,bD],o7,⟨by rw[aG Sz,aG Su,aG So,aG Sl,aG Sj,aG Si,bD],yaM⟩,.nil,⟨by rw[aG SA,aG Sv,aG Sq,aG Sm,aG Sk,bD],yaP⟩,⟨by rw[aG SD,aG Sw,aG Sr,aG Sn,bD],yaA⟩,.nil,⟨by rw[aG SE,aG Sx,aG Ss,bD],yaD⟩,.nil,⟨by rw[aG SG,aG Sy,bD],yaF⟩,.nil,⟨by rw[aG SH,bD],yaE⟩,.nil,⟨by rw[bD],yaR⟩⟩
end
def Uu (A:Adr)(i:Nat):Sp:=λvs H Q _=>∃(o:Addr) (n:Nat) (c:Col) (st:Ch) (x:Nat×Int×List Nat),vs=[.ref o,nV n]/\cV A i c H o st/\at1 n st.bg=some x /\
 ∀l u H',H l=none->H u=none->aS H H'->H' l=some (.lst (x.2.2.map nV))->H' u=some (.tup [nV n,.int x.2.1,.ref l])->Q (.ref u) H'
def Nv (st:Ch)(n:Int):Nat×Int×List Nat:=(at1 n.toNat st.bg).getD (0,0,[])
def mnD:Mn->PyData
 | .mat tx=>.tuple [.str (nm 0),.list (tx.map Vu)]
 | .chg e=>.tuple [.str (nm 1),edD e]
 | .mnd e=>.tuple [.str (nm 2),edD e]
 | .off u=>.tuple [.str (nm 3),.int u]
 | .cls=>.tuple [.str (nm 4)]
 | .lay=>.tuple [.str (nm 5)]
 | .rst=>.tuple [.str (nm 6)]
 | .pnt z=>.tuple [.str (nm 7),.str z]
def LO (A:Adr)(K:ba)(i:Nat):Sp:=λvs H Q E=>∃(o:Addr) (n:Nat) (c:Col) (st:Ch),vs=[.ref o,nV n]/\cV A i c H o st/\n < 10 ^ 10 /\
 (eY st n->∀u H',aS H H'->DV K H' (mnD (st.mo n)) (.ref u)->Q (.ref u) H')/\(¬eY st n->E (.ref A.bu) none H)
theorem bZ.dvs {α:Type}{K:ba}{H:Hp}{f:α->PyData}{R:α->V->Prop}(g:∀x v,R x v->DV K H (f x) v):∀ {xs:List α} {vs:List V},bZ R xs vs->DVs K H (xs.map f) vs
 |_,_,.nil=>by unfold DVs;rfl
 |_,_,.cons h t=>by
  rw[kx];unfold DVs;exact⟨_,_,rfl,g _ _ h,t.dvs g⟩
theorem bZ.mapR {α β γ:Type}{R:α->γ->Prop}{f:β->γ}:∀ {xs:List α} {ys:List β},bZ (λa b=>R a (f b)) xs ys->bZ R xs (ys.map f)
 |_,_,.nil=>.nil
 |_,_,.cons h t=>.cons h t.mapR
def I9 (H:Hp)(R:Addr)(x:Nat×Int×List Nat)(v:V):Prop:=∃u l,v=.ref u/\u≠R/\l≠R/\H u=some (.tup [nV x.1,.int x.2.1,.ref l])/\H l=some (.lst (x.2.2.map nV))
theorem I9.same {H H':Hp}{R:Addr}{x:Nat×Int×List Nat}{v:V}(s:aS H H'):I9 H R x v->I9 H' R x v
 |⟨u,l,e,h1,h2,h3,h4⟩=>⟨u,l,e,h1,h2,s _ _ h3,s _ _ h4⟩
theorem I9.upd {H:Hp}{R:Addr}{o:HO}{x:Nat×Int×List Nat}{v:V}:I9 H R x v->I9 (L2.upd H R o) R x v
 |⟨u,l,e,h1,h2,h3,h4⟩=>⟨u,l,e,h1,h2,(ax h1).trans h3,(ax h2).trans h4⟩
section
variable{P:ko}{w:World}{K:ba}{mg:Str->Option Value}{base:Heap}{A:Adr}
theorem AI (T:Txt w.params K mg A){i:Nat}:FnOk P w K mg base CX0 1 A.eF A.ef ["self","number"] (Uu A i):=by
 refine T.pd.ok gI (λvs H Q E h=>?_) (λcdv A' outer s H vs Q E hr h=>?_)
 ·obtain⟨o,n,c,st,x,rfl,_⟩:=h;rfl
 ·obtain⟨o,n,c,st,x,rfl,hc,hx,q⟩:=h;obtain⟨dx,aM,aP,aA,aD,aF,aE,aR,ms,ds,ws,fs,es,X⟩:=hc.ex;have hu1:=hr.u1;refine⟨_,(ak (aT (i:=2) gI.nd rfl (ro rfl) (s9 hu1 (bF (pv 0) rfl) (pv 1) (λ_ _=>rfl)))
 (aq (aI (a8 (aa (pv 1) (aa (aY bp (pv 2) ao (λ_ _=>rfl)) (aa (dS dY (by rfl) T.rT lZ (aa (aY bp (pv 2) ao (λ_ _=>rfl)) ae)) ae))))))),?_⟩
  try dsimp only[bh]
  refine aX λGq gq=>?_
  obtain⟨t,p,hv,ht,hl⟩:=X.waitOf hx;refine gq ?_;refine⟨_,rfl,o,A.aB,dx,_,.ref aA,rfl,X.ob,T.az,T.g0,Bl,_,rfl,aA,_,rfl,.inl ⟨_,U0 (n:Int),.inl X.bg.2,rfl,hv.symm⟩,?_⟩;refine⟨_,rfl,_,rfl,t,_,_,_,rfl,rfl,ht.sq,rfl,_,rfl,t,_,_,_,rfl,rfl,ht.sq,rfl,p,_,rfl,.inl (SqL.of hl.2),λl hl0=>⟨(sl 3),λu hu=>?_⟩⟩
  have nul:u≠l:=λz=>by rw[z,af]at hu;cases hu
  have hu0:H u=none:=by rw[ax nul]at hu;exact hu
  exact q l u _ hl0 hu0 ((aw hl0).new hu) ((ax (UU nul)).trans af) af
theorem Qo {c:Col}{H:Hp}{v:V}{t:Addr}:∀ {m:Mn},1<=m.k->m.Val c H v->SqT K H t (rowOf m.k v)->DV K H (mnD m) (.ref t)
 | .mat _,h,_,_=>absurd h (by simp[Mn.k])
 | .chg e,_,⟨te,ev,hte⟩,ht=>by
  subst ev;unfold mnD DV;refine⟨t,_,rfl,ht,?_⟩;unfold DVs;refine⟨_,_,rfl,by unfold DV;rfl,?_⟩
  unfold DVs;exact⟨_,_,rfl,Ga e hte.sq,by unfold DVs;rfl⟩
 | .mnd e,_,⟨te,ev,hte⟩,ht=>by
  subst ev;unfold mnD DV;refine⟨t,_,rfl,ht,?_⟩;unfold DVs;refine⟨_,_,rfl,by unfold DV;rfl,?_⟩
  unfold DVs;exact⟨_,_,rfl,Ga e hte.sq,by unfold DVs;rfl⟩
 | .off u,_,ev,ht=>by
  have ev':v=.int u:=ev;subst ev';unfold mnD DV;refine⟨t,_,rfl,ht,?_⟩;unfold DVs;refine⟨_,_,rfl,by unfold DV;rfl,?_⟩
  unfold DVs;exact⟨_,_,rfl,by unfold DV;rfl,by unfold DVs;rfl⟩
 | .pnt z,_,ev,ht=>by
  have ev':v=.str z:=ev;subst ev';unfold mnD DV;refine⟨t,_,rfl,ht,?_⟩;unfold DVs;refine⟨_,_,rfl,by unfold DV;rfl,?_⟩
  unfold DVs;exact⟨_,_,rfl,by unfold DV;rfl,by unfold DVs;rfl⟩
 | .cls,_,_,ht=>by
  unfold mnD DV;refine⟨t,_,rfl,ht,?_⟩;unfold DVs;exact⟨_,_,rfl,by unfold DV;rfl,by unfold DVs;rfl⟩
 | .lay,_,_,ht=>by
  unfold mnD DV;refine⟨t,_,rfl,ht,?_⟩;unfold DVs;exact⟨_,_,rfl,by unfold DV;rfl,by unfold DVs;rfl⟩
 | .rst,_,_,ht=>by
  unfold mnD DV;refine⟨t,_,rfl,ht,?_⟩;unfold DVs;exact⟨_,_,rfl,by unfold DV;rfl,by unfold DVs;rfl⟩
theorem Ja (T:Txt w.params K mg A){i:Nat}:FnOk P w K mg base (CXX P w) 3 A.gX A.gv ["self","number"] (LO A K i):=by
 have Gh:∀k,k < 8->FnOk P w K mg base CX0 2 (A.ft k) (A.ftd k) ["self"] (CY A K k):=EU T;refine T.u3.okX tE (λvs H Q E h=>?_) (λcdv A' outer s H vs Q E hr h=>?_)
 ·obtain⟨o,n,c,st,rfl,_⟩:=h;rfl
 ·obtain⟨o,n,c,st,rfl,hc,h10,q,qx⟩:=h;obtain⟨dx,aM,aP,aA,aD,aF,aE,aR,ms,ds,ws,fs,es,X⟩:=hc.ex;have hu1:=hr.u1;have hgd:=hr.gd;have lim:de=16777216:=by decide
  refine⟨_,(aj (bU (JB (A6 hu1 (pv 1) (bF (pv 0) rfl)))
 (aC (i7 T.EG rfl rfl T.rX (aa (vR (gi (kz (pv 1) nX))) ae)))
 (gf aO))
 (aC (psx (aI (lx (n:=8) (Cf:=A.C) (s9 hu1 (bF (pv 0) rfl) (pv 1) (λ_ _=>rfl)) T.cl T.Lb Gh hr T.Ld a6))))),?_⟩
  try dsimp only[bh]
  refine⟨_,rfl,iA rfl X.ob T.az T.dB pB ⟨aM,_,rfl,.inl ⟨_,U0 (n:Int),.inl X.made.2,rfl,rfl⟩,_,rfl,?_⟩⟩
  by_cases hn:eY st n
  ·obtain⟨mo,hv,hmo⟩:=X.Us hn;have q:=q hn;rw[hv];refine cf ?_;refine aX λGq gq=>?_
   obtain⟨_,dm,v,hm,hvv⟩:=hmo;refine gq ?_;refine⟨_,rfl,o,A.aB,dx,_,.ref aM,rfl,X.ob,T.az,T.dB,pB,_,rfl,aM,_,rfl,.inl ⟨_,U0 (n:Int),.inl X.made.2,rfl,hv.symm⟩,(st.mo n).k,(st.mo n).k8,mo,dm,_,rfl,hm,Hg _ v,?_⟩;generalize st.mo n=m at hm hvv q
   by_cases h0:m.k=0
   ·obtain⟨tx,rfl⟩:∃tx,m=.mat tx:=by cases m <;> first | exact⟨_,rfl⟩ | exact absurd h0 (by simp[Mn.k])
    refine aX λGq gq=>?_
    obtain⟨p,rfl,hp⟩:=hvv;refine gq ?_;refine .inl ⟨rfl,mo,dm,p,tx.map V.str,rfl,hm,SqL.of hp.2,λp2 u hp2 hu npu=>?_⟩
    have nu:(upd H p2 (.lst (tx.map V.str))) u=none:=(ax (UU npu)).trans hu;refine q u _ ((aw hp2).new nu) ?_;unfold mnD DV;refine⟨u,_,rfl,SqT.of af,?_⟩;unfold DVs;refine⟨_,_,rfl,by unfold DV;rfl,?_⟩
    unfold DVs;exact⟨_,_,rfl,sU (SqL.of ((ax npu).trans af)),by unfold DVs;rfl⟩
   ·refine .inr ⟨by omega,mo,dm,v,rfl,hm,λu hu=>?_⟩
    have su:=aw (o:=.tup (rowOf m.k v)) hu;exact q u _ su (Qo (by omega) (hvv.step (Step.same (W:=λ_=>False) id su)) (SqT.of af))
  ·have hnm:n∉VQ 1 st.made.length:=λz=>by
    rw[List.mem_range'_1]at z;exact hn ⟨z.1,by omega⟩
   rw[sy hnm];have l1:(U7++ar "no motion has the number ":Str).length=25:=by trivial
   have e10:(10:Nat) ^ 10=10000000000:=by decide
   have l3:(ar (toString (n:Int))).length<=20:=fZ (by omega) (by omega)
   refine dZ ⟨by rw[l1];omega,_,rfl,_,.int (dD (by omega) (by omega)),by omega,by rw[len_app,l1];omega,by rw[len_app,l1];omega,(sl 1),qx hn⟩
end
def bJ (st:Ch):R.br->Rs×Ch
 | .nums kd ns=>if kd=ar "vote" then Br st else if kd=ar "drop" then nH st else nI st (f6 (.nums kd ns)) (R.fA (.nums kd ns))
 |d=>nI st (f6 d) (R.fA d)
inductive EZ:R.br->Prop
 |drop:EZ (.nums (ar "drop") [])
 |move {d:R.br}:Gn d->EZ d
inductive DdV (st:Ch):R.br->Prop
 |ok {d:R.br}:EZ d->DdV st d
 |Qp {a b:Int}:st.aV=[]\/a+b > st.eJ->DdV st (.nums (ar "vote") [a,b])
theorem zS {st:Ch}{a b:Int}:bJ st (.nums (ar "vote") [a,b])=Br st:=by rw[bJ,if_pos rfl]
theorem jC {st:Ch}:bJ st (.nums (ar "drop") [])=nH st:=by rw[bJ,if_neg (by trivial),if_pos rfl]
theorem jD {st:Ch}{d:R.br}(h:Gn d):bJ st d=nI st (f6 d) (R.fA d):=by
 cases d with
 |nums kd ns =>
  rcases xX h.1 with ⟨u,rfl,rfl⟩ | ⟨rfl,rfl⟩ | ⟨rfl,rfl⟩ | ⟨rfl,rfl⟩ <;> rw[bJ,if_neg (by trivial),if_neg (by trivial)]
 |_=>rfl
theorem Inv.bJ {N:Nat}{st:Ch}(I:Inv N st){d:R.br}(h:EZ d):Inv (N+3) (bJ st d).2:=by
 cases h with
 |drop=>rw[jC];exact I.nH
 |move h=>rw[jD h];exact I.nI (LK h) _
theorem eZ {W:Option (Nat×Rl)->Prop}{c c':Col}{H H':Hp}(s:Step W c c' H H'){a:Addr}{v:HO}(h:c a=none)(hv:H a=some v):c' a=none/\H' a=some v:=by
 have hn:¬W (c a):=by rw[h];exact s.nn
 exact⟨by rw[s.col a _ hv hn];exact h,s.keep _ _ hv hn⟩
def Uv (A:Adr)(i:Nat):Sp:=λvs H Q E=>∃(o t:Addr) (c:Col) (st:Ch) (N:Nat) (d:R.br),vs=[.ref o,.ref t]/\cV A i c H o st/\Inv N st/\N<=800/\DdV st d/\j6 i c H d t/\Hs A i c H o (bJ st d) Q E
theorem Qq:∀k,k < 8->decide (V.str (nm k)=V.str (ar "vote"))=false:=by trivial
theorem Qr:∀k,k < 8->decide (V.str (nm k)=V.str (ar "drop"))=false:=by trivial
theorem Qs:∀k,k < 8->decide (V.str (nm k)=V.str (ar "take"))=false:=by trivial
section
variable{P:ko}{w:World}{K:ba}{mg:Str->Option Value}{base:Heap}{A:Adr}
theorem zT (T:Txt w.params K mg A){i:Nat}:FnOk P w K mg base (CXX P w) 8 A.Co A.rL ["chamber","deed"] (Uv A i):=by
 have zU:FnOk P w K mg base (CXX P w) 6 A.jw A.iK ["self","number"] (λ_ _ _ _=>False):=i4
 refine T.uZ.okX yS (λvs H Q E h=>?_) (λcdv A' outer s H vs Q E hr h=>?_)
 ·obtain⟨o,t,c,st,N,d,rfl,_⟩:=h;rfl
 ·obtain⟨o,t,c,st,N,d,rfl,hc,I,hN,hd,hdc,q⟩:=h;obtain⟨dx,aM,aP,aA,aD,aF,aE,aR,ms,ds,ws,fs,es,X⟩:=hc.ex;refine⟨_,(aj (psx (aT (i:=2) yS.nd rfl (ro rfl) (aY bp (pv 1) ao (λ_ _=>rfl))))
 (aj (bU (aL bf (pv 2) ag (aK _))
 (aC (b5 (jf (px (pv 0)) T.az T.zk (Np (i:=i) T) (hr.mono (by decide)) T.zo (pax (aa (aY bp (pv 1) ao (λ_ _=>rfl)) (aa (aY bp (pv 1) ao (λ_ _=>rfl)) ae))))))
 (gf aO))
 (aj (bU (aL bf (pv 2) ag (aK _))
 (aC (b5 (uF (px (pv 0)) T.az T.zp (Nr (i:=i) T) (hr.mono (by decide)) T.zr)))
 (gf aO))
 (aj (bU (aL bf (pv 2) ag (aK _))
 (aC (b5 (jf (px (pv 0)) T.az T.zt zU (hr.mono (by decide)) T.zu (pax (aa (aY bp (pv 1) ao (λ_ _=>rfl)) ae)))))
 (gf aO))
 (aC (b5 (jf (px (pv 0)) T.az T.zh (Nu (i:=i) T) hr T.zj (pax (aa (pv 1) ae))))))))),?_⟩
  try dsimp only[bh]
  rcases hd with hd | hv
  rotate_left
  ·rename_i a b;rw[zS]at q;have ht:SqT K H t [.str (ar "vote"),.int a,.int b]:=SqT.of hdc.2;refine ixv rfl ht rfl ⟨_,rfl,rfl,tst (by trivial) ?_⟩
   exact mtv rfl X.ob (kY (by trivial)) (ixv rfl ht rfl (ixv rfl ht rfl ⟨o,a,b,c,st,rfl,hc,hv,q⟩))
  cases hd with
  |drop =>
   rw[jC]at q;have ht:SqT K H t [.str (ar "drop")]:=SqT.of hdc.2;refine ixv rfl ht rfl ⟨_,rfl,rfl,tsf (by trivial) ⟨_,rfl,rfl,tst (by trivial) ?_⟩⟩
   exact mtv rfl X.ob (kY (by trivial)) ⟨o,c,st,N,rfl,hc,I,hN,q⟩
  |move hm =>
   refine aX λGq gq=>?_
   rw[jD hm]at q;obtain⟨v,ht,_,_⟩:=zR hm hdc;have k8:=(f6 d).k8;refine gq ?_;refine ixv rfl (SqT.of ht.2) xV ⟨_,rfl,rfl,tsf (Qq _ k8) ⟨_,rfl,rfl,tsf (Qr _ k8) ⟨_,rfl,rfl,tsf (Qs _ k8) ?_⟩⟩⟩;exact mtv rfl X.ob (kY (by trivial)) ⟨_,rfl,o,t,c,st,N,d,rfl,hc,I,hN,hm,hdc,q⟩
end
theorem cV.free {A:Adr}{i:Nat}{W:Option (Nat×Rl)->Prop}{c c':Col}{H H':Hp}{o:Addr}{st:Ch}(h:∀r,¬W (some (i,r)))(s:Step W c c' H H')(hc:cV A i c H o st):cV A i c' H' o st:=by
 obtain⟨dx,aM,aP,aA,aD,aF,aE,aR,ms,ds,ws,fs,es,X⟩:=hc.ex;exact(X.free h s).at
namespace R
def WAt (H:Hp):List Addr->List (List Str)->Prop
 |[],cs=>cs=[]
 |p::ps,cs=>∃ws r,cs=ws::r/\H p=some (.lst (ws.map V.str))/\WAt H ps r
theorem WAt.same {H H':Hp}(s:aS H H'):∀ {ps:List Addr} {cs:List (List Str)},WAt H ps cs->WAt H' ps cs
 |[],_,h=>h
 |_::_,_,⟨ws,r,e,h,t⟩=>⟨ws,r,e,s _ _ h,WAt.same s t⟩
theorem WAt.upd {H:Hp}{b:Addr}{o:HO}:∀ {ps:List Addr} {cs:List (List Str)},b∉ps->WAt H ps cs->WAt (upd H b o) ps cs
 |[],_,_,h=>h
 |p::ps,_,hb,⟨ws,r,e,h,t⟩=>⟨ws,r,e,(ax λz=>hb (by rw[z];exact kb)).trans h,WAt.upd (λz=>hb (kr _ z)) t⟩
theorem WAt.snoc {H:Hp}:∀ {ps:List Addr} {cs:List (List Str)} {p:Addr} {ws:List Str},WAt H ps cs->H p=some (.lst (ws.map V.str))->WAt H (ps++[p]) (cs++[ws])
 |[],_,p,ws,h,e=>by
  have h':_=[]:=h;subst h';exact⟨ws,[],rfl,e,rfl⟩
 |_::_,_,p,ws,⟨ws',r,e',h,t⟩,e=>⟨ws',r++[ws],by rw[e'];rfl,h,WAt.snoc t e⟩
theorem WAt.LP {H:Hp}:∀ {ps:List Addr} {cs:List (List Str)} {p:Addr},WAt H (ps++[p]) cs->∃ds d,cs=ds++[d]/\WAt H ps ds/\H p=some (.lst (d.map V.str))
 |[],_,p,⟨ws,r,e,h,t⟩=>by
  have t':r=[]:=t;exact⟨[],ws,by rw[e,t'];rfl,rfl,h⟩
 |_::_,_,p,⟨ws,r,e,h,t⟩=>by
  obtain⟨ds,d,e2,t2,h2⟩:=WAt.LP t;exact⟨ws::ds,d,by rw[e,e2];rfl,⟨ws,ds,rfl,h,t2⟩,h2⟩
theorem WAt.len {H:Hp}:∀ {ps:List Addr} {cs:List (List Str)},WAt H ps cs->ps.length=cs.length
 |[],_,h=>by
  have h':_=[]:=h;rw[h'];rfl
 |_::_,_,⟨ws,r,e,h,t⟩=>by rw[e,kf,kf,WAt.len t]
theorem WAt.get {H:Hp}:∀ {ps:List Addr} {cs:List (List Str)} {i:Nat} {p:Addr},WAt H ps cs->ps[i]?=some p->∃ws,cs[i]?=some ws/\H p=some (.lst (ws.map V.str))
 |[],_,_,_,_,g=>by simp at g
 |_::_,_,0,p,⟨ws,r,e,h,t⟩,g=>by
  obtain rfl:=ra g;exact⟨ws,by rw[e];rfl,h⟩
 |_::_,_,i+1,p,⟨ws,r,e,h,t⟩,g=>by
  obtain⟨x,h1,h2⟩:=WAt.get t (show _=some p from g)
  exact⟨x,by rw[e];exact h1,h2⟩
def df (H H':Hp):br->Addr->Prop
 | .mat cs,t=>∃L,H' t=some (.tup [.str (ar "matter"),.ref L])/\H L=none/\H' L=some (.lst ((cs.map (gp bl1)).map V.str))
 | .ed m k i ws,t=>∃e,H' t=some (.tup [.str (kEd m),.ref e])/\H e=none/\H' e=some (.tup (edR k i (gp bl1 ws)))
 | .pt ws,t=>H' t=some (.tup [.str (ar "point"),.str (gp bl1 ws)])
 | .nums kd ns,t=>H' t=some (.tup (.str kd::ns.map V.int))
theorem df.at {K:ba}{H H':Hp}:∀ {d:br} {t:Addr},df H H' d t->mP K H' d t
 | .mat _,_,⟨L,a,_,b⟩=>⟨L,SqT.of a,SqL.of b⟩
 | .ed _ _ _ _,_,⟨e,a,_,b⟩=>⟨e,SqT.of a,SqT.of b⟩
 | .pt _,_,h=>SqT.of h
 | .nums _ _,_,h=>SqT.of h
theorem df.back {H H1 H2:Hp}(s:aS H H1):∀ {d:br} {t:Addr},df H1 H2 d t->df H H2 d t
 | .mat _,_,⟨L,a,b,c⟩=>⟨L,a,s.free b,c⟩
 | .ed _ _ _ _,_,⟨e,a,b,c⟩=>⟨e,a,s.free b,c⟩
 | .pt _,_,h=>h
 | .nums _ _,_,h=>h
theorem df.top {H H':Hp}:∀ {d:br} {t:Addr},df H H' d t->∃xs,H' t=some (.tup (.str (j3 d)::xs))
 | .mat _,_,⟨_,a,_⟩=>⟨_,a⟩
 | .ed _ _ _ _,_,⟨_,a,_⟩=>⟨_,a⟩
 | .pt _,_,h=>⟨_,h⟩
 | .nums _ _,_,h=>⟨_,h⟩
theorem df.same {H H1 H2:Hp}(s:aS H1 H2):∀ {d:br} {t:Addr},df H H1 d t->df H H2 d t
 | .mat _,_,⟨L,a,b,c⟩=>⟨L,s _ _ a,b,s _ _ c⟩
 | .ed _ _ _ _,_,⟨e,a,n,b⟩=>⟨e,s _ _ a,n,s _ _ b⟩
 | .pt _,_,h=>s _ _ h
 | .nums _ _,_,h=>s _ _ h
def i5 (c:Nat):Bool:=decide (33<=c) && (decide (c<=126) && decide (c≠37))
def b7 (z:Str):Bool:=decide (1<=z.length) && (decide (z.length<=20) && (!decide (z=sl1) && z.cps.toList.all i5))
def kZ (c:Nat):Bool:=decide (48<=c) && decide (c<=57)
def cG (z:Str):Bool:=decide (z≠em) && (decide (z.length<=10) && (z.cps.toList.all kZ && (decide (z=ar "0") || !decide (z.cps.toList.head?=some 48))))
def eU (z:Str):Int:=(PySem.intText? z).getD 0
def clausesOf:List (List Str)->List Str->Option (List (List Str))
 |acc,[]=>some acc
 |acc,w::r=>if w=sl1 then clausesOf (acc++[[]]) r else if acc=[] then none else clausesOf (acc.dropLast++[acc.getLastD []++[w]]) r
def readText (ws:List Str):Option (List (List Str)):=(clausesOf [] ws).bind λcs=>if cs.all (λc=>c.all b7)=true then some cs else none
def fE:List Str->Option (Nat×Int×List Str)
 |k::p::th=>if cG p=true then (if k=kn 1 then (if th=[] then some (1,eU p,[]) else none) else if (k=kn 0\/k=kn 2)/\th.all b7=true then some (if k=kn 0 then 0 else 2,eU p,th) else none) else none
 |_=>none
def iy (ws:List Str):Option (Nat×Int×List Str):=(fE ws).bind λe=>if e.1=1\/ws.length=3 then some e else none
def qd:List Str->Option Int
 |[o,n]=>if o=ar "off"/\cG n=true/\1<=eU n/\eU n<=999999999 then some (eU n) else none
 |_=>none
def Jb:List Str:=[ar "close",ar "lay",ar "rest",ar "drop"]
def uq:List Str->Option br
 |[a,b]=>if cG a=true/\cG b=true then some (.nums (ar "vote") [eU a,eU b]) else none
 |_=>none
def ur:List Str->Option br
 |[a]=>if cG a=true then some (.nums (ar "take") [eU a]) else none
 |_=>none
def bR:List Str->Option br
 |[]=>none
 |k::ws =>
  if k=ar "matter" then (readText ws).map .mat
  else if k=ar "change" then (fE ws).map λe=>.ed false e.1 e.2.1 e.2.2
  else if k=ar "mend" then (iy ws).map λe=>.ed true e.1 e.2.1 e.2.2
  else if k=ar "put" then (qd ws).map λn=>.nums (ar "put off") [n]
  else if k=ar "point" then (if ws.all b7=true then some (.pt ws) else none)
  else if k=ar "vote" then uq ws
  else if k=ar "take" then ur ws
  else if k∈Jb/\ws=[] then some (.nums k []) else none
structure gM (ws:List Str):Prop where
 sz:(ws.map (·.length)).sum+ws.length<=60000
 asc:∀w∈ws,Asc w
theorem gM.len {ws:List Str}(o:gM ws):ws.length<=60000:=by have:=o.sz;omega
theorem LQ:∀ {ws:List Str} {w:Str},w∈ws->w.length<=(ws.map (·.length)).sum
 |x::r,w,h=>by
  rw[kx,Wq];rcases List.mem_cons.mp h with rfl | h
  ·omega
  ·have:=LQ h;omega
theorem gM.wl {ws:List Str}(o:gM ws){w:Str}(h:w∈ws):w.length<=60000:=by have:=o.sz;have:=LQ h;omega
theorem LR (ws:List Str)(n:Nat):((ws.drop n).map (·.length)).sum<=(ws.map (·.length)).sum:=by
 rw[List.map_drop]
 conv=>rhs;rw[<-List.take_append_drop n (ws.map (·.length)),List.sum_append]
 omega
theorem gM.drop {ws:List Str}(o:gM ws)(n:Nat):gM (ws.drop n) :=
 have h1:=LR ws n;have h2:=o.sz;have h3:(ws.drop n).length<=ws.length:=by rw[Ww];omega
 ⟨by omega,λw hw=>o.asc w (List.mem_of_mem_drop hw)⟩
def nK (A:Adr)(n:Int)(E:XK)(H:Hp):Prop:=∀(d:Addr) (H':Hp),aS H H'->H' d=some (.xd [("row",.int n)])->E (.ref A.bV) (some d) H'
theorem nK.same {A:Adr}{n:Int}{E:XK}{H H1:Hp}(e:nK A n E H)(s:aS H H1):nK A n E H1:=λd H' s' h=>e d H' (s.trans s') h
def vz (A:Adr):Sp:=λvs H Q E=>∃b:Bool,vs=[.bl b]/\(b=true->Q .non H)/\(b=false->nK A 1 E H)
def LS:Sp:=λvs H Q _=>∃c:Nat,vs=[.str ⟨#[c]⟩]/\Q (.bl (i5 c)) H
def LU:Sp:=λvs H Q _=>∃z:Str,vs=[.str z]/\z.length<=60000/\∀H',aS H H'->Q (.bl (b7 z)) H'
def Nx:Sp:=λvs H Q _=>∃z:Str,vs=[.str z]/\z.length<=60000/\∀H',aS H H'->Q (.bl (cG z)) H'
def LW (A:Adr):Sp:=λvs H Q E=>∃z:Str,vs=[.str z]/\z.length<=60000/\(cG z=true->∀H',aS H H'->Q (.int (eU z)) H')/\(cG z=false->nK A 1 E H)
def Jc (K:ba)(A:Adr):Sp:=λvs H Q E=>∃(a:Addr) (ws:List Str),vs=[.ref a]/\SqL K H a (ws.map V.str)/\gM ws/\(ws.all b7=true->∀H',aS H H'->Q (.str (gp bl1 ws)) H')/\(ws.all b7=false->nK A 1 E H)
theorem lt1 (a b:Nat):decide ([a] < [b])=decide (a < b):=by
 rw[Vn,decide_eq_true_iff,decide_eq_true_iff];constructor
 ·intro h;cases h with
  |rel h=>exact h
  |cons h=>cases h
 ·exactλh=>.rel h
section
variable{P:ko}{w:World}{K:ba}{mg:Str->Option Value}{base:Heap}{A:Adr}
theorem zV (T:Txt w.params K mg A):FnOk P w K mg base CX0 1 A.p4 A.lK ["self","row"] (uH A.bV "row"):=by
 refine T.Bj.ok qM (λvs H Q E h=>?_) (λcdv A' outer s H vs Q E hr h=>?_)
 ·obtain⟨e,v,rfl,_⟩:=h;rfl
 ·obtain⟨e,v,rfl,hx,⟨z,fz,zl⟩,q⟩:=h;refine⟨_,(ak (cS (nY T.d8 T.iu rfl T.cZ (aa (pv 0) (aa (vR (gi (kz (pv 1) nX))) ae))))
 (aq (sZ T.iu (pv 0) (pv 1)))),?_⟩
  try dsimp only[bh]
  have sz:de=16777216:=by decide
  have c5:(ar "refused at the row ").length=19:=by trivial
  have e5:(U7++ar "refused at the row ":Str).length=19:=by trivial
  refine⟨_,rfl,by rw[e5];omega,_,rfl,z,fz,by omega,by rw[len_app,e5];omega,by rw[len_app,e5];omega,e,_,rfl,hx,?_⟩
  exact⟨_,rfl,_,rfl,e,rfl,hx,λd hd=>q d hd⟩
theorem b8 (T:Txt w.params K mg A):FnOk P w K mg base (CXX P w) 3 A.tN A.jo ["holds"] (vz A):=by
 refine T.bO.okX FQ (λvs H Q E h=>?_) (λcdv A' outer s H vs Q E hr h=>?_)
 ·obtain⟨b,rfl,_⟩:=h;rfl
 ·obtain⟨b,rfl,h1,h2⟩:=h;refine⟨_,(aC (bU (q9 (q8 (pv 0)))
 (aC (jg T.iu (zV T) hr T.p6 rfl rfl T.p5 (aa ao ae)))
 (gf aO))),?_⟩
  try dsimp only[bh]
  refine⟨_,rfl,b,rfl,?_⟩;cases b with
  |true=>exact cf (h1 rfl)
  |false=>exact dZ ⟨_,rfl,⟨_,.int (by decide),by trivial⟩,λd hd=>h2 rfl d _ (aw hd) af⟩
theorem Gp (T:Txt w.params K mg A):FnOk P w K mg base CX0 1 A.Ck A.rH ["sign"] LS:=by
 refine T.Bc.ok FR (λvs H Q E h=>?_) (λcdv A' outer s H vs Q E hr h=>?_)
 ·obtain⟨c,rfl,_⟩:=h;rfl
 ·obtain⟨c,rfl,q⟩:=h;refine⟨_,(aq (aI (j9 (jc pQ pQ ag (pv 0) ag) (i9 (bL jb (bB JG (by rfl) T.RH O7 (aa (pv 0) ae)) (c8 (v:=V.int 37) rfl T.IF ⟨_,rfl⟩) (aK _)))))),?_⟩
  try dsimp only[bh]
  have e1:(ar "!").cps.toList=[33]:=by trivial
  have e2:(ar "~").cps.toList=[126]:=by trivial
  refine⟨_,rfl,_,_,rfl,rfl,_,rfl,?_⟩;rw[e1,show (⟨#[c]⟩:Str).cps.toList=[c] from rfl,lt1]
  by_cases h1:c < 33
  ·rw[decide_eq_true h1];refine cf ⟨_,rfl,cf ?_⟩;rw[i5,decide_eq_false (show ¬33<=c by omega)]at q
   exact q
  ·rw[decide_eq_false h1];refine dZ ⟨_,_,rfl,rfl,_,rfl,?_⟩;rw[e2,show (⟨#[c]⟩:Str).cps.toList=[c] from rfl,lt1]
   by_cases h2:126 < c
   ·rw[decide_eq_true h2];refine cf ?_;rw[i5,decide_eq_true (show 33<=c by omega),decide_eq_false (show ¬c<=126 by omega)]at q
    exact q
   ·rw[decide_eq_false h2];refine dZ ⟨_,rfl,_,rfl,rfl,rfl,?_⟩;rw[i5,decide_eq_true (show 33<=c by omega),decide_eq_true (show c<=126 by omega)]at q
    have e3:(!decide (V.int ((((⟨#[c]⟩:Str).cps.getD 0 0:Nat)):Int)=V.int 37))=decide (c≠37):=by
     rw[Vn];simp;omega
    rw[e3];exact q
theorem mV {α:Type}(p:α->Bool)(l:List α):(l.map p).all id=l.all p:=by
 induction l with
 |nil=>rfl
 |cons a l ih=>simp[ih]
theorem Gr (T:Txt w.params K mg A):FnOk P w K mg base CX0 2 A.Cm A.rJ ["word"] LU:=by
 refine T.Be.ok FT (λvs H Q E h=>?_) (λcdv A' outer s H vs Q E hr h=>?_)
 ·obtain⟨z,rfl,_⟩:=h;rfl
 ·obtain⟨z,rfl,zl,q⟩:=h;refine⟨_,(aq (aI (j9 (jc nO nO ao (bB lY (by rfl) T.il eC (aa (pv 0) ae)) (c8 (v:=V.int 20) rfl T.CF ⟨_,rfl⟩)) (j9 (bL jb (pv 0) ag (aK _)) (i9 (bB (sW rfl) (by rfl) T.G8 BL (aa (jP (scope:=qQ) Cb rfl (FL (pv 0)) (λ_ _ _ _ _=>(bw (Gp T) hr rfl T.Iw T.Bc.kp T.Iy .nil a6 (aa (pv 0) ae)))) ae))))))),?_⟩
  try dsimp only[bh]
  have sz:de=16777216:=by decide
  refine⟨_,rfl,z,rfl,by omega,_,_,rfl,rfl,_,rfl,?_⟩
  by_cases h1:1<=z.length
  ·rw[decide_eq_true (show (1:Int)<=(z.length:Int) by omega)]
   refine dZ ⟨_,_,rfl,rfl,_,rfl,?_⟩
   by_cases h2:z.length<=20
   ·rw[decide_eq_true (show (z.length:Int)<=20 by omega)]
    refine dZ ⟨_,rfl,rfl,_,rfl,?_⟩
    by_cases h3:z=sl1
    ·rw[decide_eq_true (show V.str z=V.str (ar "/") from congrArg V.str h3)]
     refine cf ?_;have:=q H (aS.refl H);rw[b7,decide_eq_true h1,decide_eq_true h2,decide_eq_true h3]at this;exact this
    ·rw[decide_eq_false (show ¬V.str z=V.str (ar "/") from λe=>h3 (by injection e))]
     refine dZ ⟨_,rfl,z,rfl,λD hD=>?_⟩
     refine uG i5 (by show z.length<=_;omega) hD (λc H2 Q2 hc s2 k=>⟨_,rfl,c,rfl,k H2 (aS.refl _)⟩) λH2 s2 h2'=>?_
     refine⟨D,z.cps.toList.map i5,rfl,SqL.of h2',?_⟩;have:=q H2 s2;rw[b7,decide_eq_true h1,decide_eq_true h2,decide_eq_false h3]at this;rw[mV];exact this
   ·rw[decide_eq_false (show ¬(z.length:Int)<=20 by omega)]
    refine cf ?_;have:=q H (aS.refl H);rw[b7,decide_eq_true h1,decide_eq_false h2]at this;exact this
  ·rw[decide_eq_false (show ¬(1:Int)<=(z.length:Int) by omega)]
   refine cf ⟨_,rfl,cf ?_⟩;have:=q H (aS.refl H);rw[b7,decide_eq_false h1]at this;exact this
theorem cQ {α:Type}{c:α}{r:List α}:atI (c::r) 0=some c:=by
 unfold atI ixN;simp
theorem Qt (c:Nat):(!(VF (ar "0123456789") ⟨#[c]⟩ 0 (ar "0123456789").length 1).isEmpty)=kZ c:=by
 rw[StrLaws.found_one];have e:(ar "0123456789").cps.toList=[48,49,50,51,52,53,54,55,56,57]:=by trivial
 rw[e,kZ,Vn];simp;omega
theorem C0 (T:Txt w.params K mg A):FnOk P w K mg base CX0 1 A.uP A.mf ["word"] Nx:=by
 refine T.wu.ok Cc (λvs H Q E h=>?_) (λcdv A' outer s H vs Q E hr h=>?_)
 ·obtain⟨z,rfl,_⟩:=h;rfl
 ·obtain⟨z,rfl,zl,q⟩:=h;refine⟨_,(ak (bW (PW.pt (pw_or (aL bf (pv 0) ag (aK _)) (pw_or1 (aL N7 (bB lY (by rfl) T.il eC (aa (pv 0) ae)) (c8 (v:=V.int 10) rfl T.zd ⟨_,rfl⟩) (aK _)))))
 (aq (aI lh))
 aO)
 (aq (aI (j9 (bB (sW rfl) (by rfl) T.G8 BL (aa (jP (scope:=m8) yP rfl (FL (pv 0)) (λ_ _ _ _ _=>(bL HQ (pv 0) (c8 (v:=V.str (ar "0123456789")) rfl T.IE ⟨_,rfl⟩) rfl))) ae)) (i9 (N5 (bL bf (pv 0) ag (aK _)) (i9 (bL jb (aY JP (pv 0) ao (λ_ _=>rfl)) ag (aK _))))))))),?_⟩
  try dsimp only[bh]
  have sz:de=16777216:=by decide
  refine⟨_,rfl,rfl,_,rfl,ie (λe=>?_) (λe=>?_)⟩
  ·refine dZ ?_;have e':z=em:=by injection of_decide_eq_true e
   have:=q H (aS.refl H);rw[cG,decide_eq_false (λz=>z e')]at this
   exact this
  ·have hne:z≠em:=λq=>e (decide_eq_true (congrArg V.str q))
   refine⟨_,rfl,z,rfl,by omega,_,_,rfl,rfl,_,rfl,ie (λe=>?_) (λe=>?_)⟩
   ·have e':(10:Int) < (z.length:Int):=of_decide_eq_true e;have:=q H (aS.refl H);rw[cG,decide_eq_true hne,decide_eq_false (show ¬z.length<=10 by omega)]at this
    exact this
   ·have e':¬(10:Int) < (z.length:Int):=λh=>e (decide_eq_true h)
    have hl:z.length<=10:=by omega
    have hq:=λH2 s2=>q H2 s2
    rw[cG,decide_eq_true hne,decide_eq_true hl]at hq;refine⟨_,rfl,z,rfl,λD hD=>?_⟩
    refine uG kZ (by show z.length<=_;omega) hD (λc H2 Q2 hc s2 k=>⟨_,rfl,_,_,rfl,rfl,by rw[Qt];exact k H2 (aS.refl _)⟩) λH2 s2 h2'=>?_
    refine⟨D,z.cps.toList.map kZ,rfl,SqL.of h2',_,rfl,?_⟩;have hq2:=hq H2 s2;rw[mV];cases ha:z.cps.toList.all kZ with
    |false=>rw[ha]at hq2;exact cf hq2
    |true =>
     rw[ha]at hq2;refine dZ ⟨_,rfl,rfl,_,rfl,?_⟩
     by_cases h0:z=ar "0"
     ·rw[decide_eq_true (congrArg V.str h0)];rw[decide_eq_true h0]at hq2;exact dZ hq2
     ·rw[decide_eq_false (show ¬V.str z=V.str (ar "0") from λe=>h0 (by injection e))]
      rw[decide_eq_false h0]at hq2;cases hz:z.cps.toList with
      |nil =>
       exfalso
       refine hne (jO ?_);rw[hz,EM]
      |cons c r =>
       rw[hz]at hq2;refine cf ⟨_,rfl,z,0,c,rfl,rfl,by omega,by rw[hz];exact cQ,rfl,?_⟩
       have e0:ar "0"=⟨#[48]⟩:=by trivial
       have e3:(!decide (V.str ⟨#[c]⟩=V.str (ar "0")))=(!decide ((c::r).head?=some 48)):=by
        rw[e0]
        congr 1
        rw[Vn];simp
       rw[e3];exact hq2
theorem Oy:∀(cs:List Nat) (acc:Nat),PySem.NumText.AllDigits cs->cs.foldl (λacc c=>acc * 10+(c - 48)) acc < (acc+1) * 10 ^ cs.length
 |[],acc,_=>by simp
 |c::cs,acc,h=>by
  have h1:=h.head;have h2:=Oy cs (acc * 10+(c - 48)) h.tail;rw[List.foldl_cons,kf,Nat.pow_succ];refine tm h2 ?_;rw[Nat.mul_comm (10 ^ cs.length) 10,<-Nat.mul_assoc];exact Nat.mul_le_mul_right _ (by omega)
theorem Ny {z:Str}(h:cG z=true):PySem.intText? z=some (eU z)/\z.length<=10/\0<=eU z/\eU z < 10 ^ 10:=by
 simp only[cG,gc,decide_eq_true_iff]at h;obtain⟨h1,h2,h3,_⟩:=h;have hd:PySem.NumText.AllDigits z.cps.toList:=λc hc=>by
  have:=List.all_eq_true.mp h3 c hc;simp only[kZ,gc,decide_eq_true_iff]at this;exact this
 have hne:z.cps.toList≠[]:=λe=>h1 (jO (by rw[e,EM]))
 have e:=PySem.intText_digits hd hne (ku h2 (by decide))
 have ev:eU z=((PySem.NumText.digitsVal z.cps.toList:Nat):Int):=by unfold eU;rw[e];rfl
 have lt:=Oy z.cps.toList 0 hd;have lt2:PySem.NumText.digitsVal z.cps.toList < 10 ^ 10:=by
  refine tm lt ?_;rw[Nat.zero_add,Nat.one_mul];exact Nat.pow_le_pow_right (by decide) (by rw[mO];exact h2)
 refine⟨by rw[e,ev],h2,by rw[ev];omega,by rw[ev];omega⟩
end
end R
namespace R
theorem zW {K:ba}{a D:Addr}{ws:List Str}{te:TE}{Q:VK}{σ:St}{H1:Hp}(p:Str->Bool)(hq:SqL K H1 a (ws.map V.str))(hz:ws.length<=de)(hD:H1 D=none)
  (hs:∀(x:Str) (H2:Hp) (Q2:VK),x∈ws->aS H1 H2->(∀H3,aS H2 H3->Q2 (.bl (p x)) H3)->te (some (.str x)::σ) H2 Q2)
  (hd:∀H2,aS H1 H2->H2 D=some (.lst ((ws.map p).map V.bl))->Q (.ref D) H2):lq (Itl K a) te σ D H1 Q:=by
 refine pO (K:=K) (a:=a) (xs:=ws.map V.str) (λi ys H2=>ys=((ws.take i).map p).map V.bl/\aS H1 H2/\H2 D=some (.lst ys)) ⟨by simp,aw hD,af⟩ (by rw[da];exact hz) ?_ ?_ ?_
 ·rintro i ys H2 hi ⟨rfl,s2,h2⟩;rw[da]at hi;exact⟨s2.seq hq,h2,by simp;omega⟩
 ·rintro i y ys H2 hi ⟨rfl,s2,h2⟩;rw[U5]at hi;cases hw:ws[i]? with
  |none=>rw[hw]at hi;cases hi
  |some x =>
   rw[hw]at hi;obtain rfl:V.str x=y:=ra hi;refine hs x H2 _ (ma hw) s2 λH3 s3=>?_
   refine dF.mk (by rw[da];exact(List.getElem?_eq_some_iff.mp hw).1) (s3 _ _ h2) ⟨?_,(s2.trans s3).own hD,af⟩
   rw[Wl,hw];simp
 ·rintro ys H2 ⟨rfl,s2,h2⟩;refine hd H2 s2 (h2.trans ?_);rw[da,VP]
def csD (cs:List (List Str)):PyData:=.list (cs.map λc=>.list (c.map Vu))
theorem WAt.dvs {K:ba}{H:Hp}:∀ {ps:List Addr} {cs:List (List Str)},WAt H ps cs->DVs K H (cs.map λc=>.list (c.map Vu)) (ps.map V.ref)
 |[],_,h=>by
  have h':_=[]:=h;subst h';simp only[V5];unfold DVs;rfl
 |_::_,_,⟨ws,r,e,h,t⟩=>by
  subst e;simp only[kx];unfold DVs;exact⟨_,_,rfl,sU (SqL.of h),WAt.dvs t⟩
theorem Gs {cs:List (List Str)}(h:∀c∈cs,∀w∈c,Asc w):SeqAt.shaped (csD cs)=true:=by
 have key:∀l:List (List Str),(∀c∈l,∀w∈c,Asc w)->VI (l.map λc=>.list (c.map Vu))=true/\Wg (l.map λc=>PyData.list (c.map Vu))<=10:=λl=>by
  induction l with
  |nil=>intro _;exact⟨rfl,Vg _⟩
  |cons c l ih =>
   intro h;obtain⟨i1,i2⟩:=ih λc hc=>h c (kr _ hc)
   have h1:=nP c λw hw=>(h c kb w hw).ok
   have h2:=rh c;refine⟨?_,?_⟩
   ·simp[VI,VG,h1,i1]
   ·simp only[kx,Wg,V6];omega
 obtain⟨k1,k2⟩:=key cs h;have k3:(csD cs).canLay0=true:=by simp[csD,VG,k1]
 have k4:(csD cs).depth<=64:=by simp only[csD,V6];omega
 show (VG (csD cs) && decide (V6 (csD cs)<=64))=true;rw[k3,decide_eq_true k4];rfl
theorem Nz (cs:List (List Str)):Wc (csD cs) (.list [])=decide (cs=[]):=by
 cases cs with
 |nil=>rfl
 |cons c r=>rfl
theorem strs_nil (cs:List Str):Wc (.list (cs.map Vu)) (.list [])=decide (cs=[]):=by
 cases cs with
 |nil=>rfl
 |cons c r=>rfl
def NA (K:ba)(A:Adr):Sp:=λvs H Q E=>∃(a:Addr) (ws:List Str),vs=[.ref a]/\SqL K H a (ws.map V.str)/\gM ws /\
 (∀cs,readText ws=some cs->∀L H',aS H H'->H L=none->H' L=some (.lst ((cs.map (gp bl1)).map V.str))->Q (.ref L) H')/\(readText ws=none->nK A 1 E H)
structure WOk (i:Nat)(ws:List Str)(cs:List (List Str)):Prop where
 cl:cs.length<=i
 ln:∀c∈cs,c.length<=i
 sm:∀c∈cs,(c.map (·.length)).sum<=((ws.take i).map (·.length)).sum
 mm:∀c∈cs,∀w∈c,w∈ws
theorem WOk.more {i:Nat}{ws:List Str}{cs:List (List Str)}{x:Str}(o:WOk i ws cs)(hx:ws[i]?=some x):WOk (i+1) ws (cs++[[]]):=by
 have t:((ws.take (i+1)).map (·.length)).sum=((ws.take i).map (·.length)).sum+x.length:=by rw[Wl,hx];simp
 refine⟨by rw[km];have:=o.cl;simp;omega,λc hc=>?_,λc hc=>?_,λc hc=>?_⟩
 all_goals
  rcases List.mem_append.mp hc with hc | hc
  ·first
    | (have:=o.ln c hc;omega)
    | (have:=o.sm c hc;omega)
    |exact o.mm c hc
  ·obtain rfl:=List.mem_singleton.mp hc;simp
theorem WOk.word {i:Nat}{ws:List Str}{ds:List (List Str)}{d:List Str}{x:Str}(o:WOk i ws (ds++[d]))(hx:ws[i]?=some x):WOk (i+1) ws (ds++[d++[x]]):=by
 have t:((ws.take (i+1)).map (·.length)).sum=((ws.take i).map (·.length)).sum+x.length:=by rw[Wl,hx];simp
 have dm:d∈ds++[d]:=di _ kb;refine⟨by have:=o.cl;rw[km]at this ⊢;simp at this ⊢;omega,λc hc=>?_,λc hc=>?_,λc hc=>?_⟩
 ·rcases List.mem_append.mp hc with hc | hc
  ·have:=o.ln c (Vc _ hc);omega
  ·obtain rfl:=List.mem_singleton.mp hc;have:=o.ln d dm;rw[km];simp;omega
 ·rcases List.mem_append.mp hc with hc | hc
  ·have:=o.sm c (Vc _ hc);omega
  ·obtain rfl:=List.mem_singleton.mp hc;have:=o.sm d dm;have e1:([x].map λx:Str=>x.length).sum=x.length:=by simp
   rw[UZ,List.sum_append,e1];omega
 ·rcases List.mem_append.mp hc with hc | hc
  ·exact o.mm c (Vc _ hc)
  ·obtain rfl:=List.mem_singleton.mp hc;intro w hw;rcases List.mem_append.mp hw with hw | hw
   ·exact o.mm d dm w hw
   ·rw[List.mem_singleton.mp hw];exact ma hx
section
variable{P:ko}{w:World}{K:ba}{mg:Str->Option Value}{base:Heap}{A:Adr}
theorem eK (T:Txt w.params K mg A):FnOk P w K mg base (CXX P w) 4 A.jU A.gu ["word"] (LW A):=by
 refine T.cX.okX yQ (λvs H Q E h=>?_) (λcdv A' outer s H vs Q E hr h=>?_)
 ·obtain⟨z,rfl,_⟩:=h;rfl
 ·obtain⟨z,rfl,zl,h1,h2⟩:=h;refine⟨_,(aj (bA (aU (b8 T) hr rfl T.bS T.bO.kp T.bT (pax (aa (bw (C0 T) (hr.mono (by decide)) rfl T.D8 T.wu.kp T.D9 .nil a6 (aa (pv 0) ae)) ae))))
 (aC (psx (aI (dS Ag (by rfl) T.Om JW (aa (pv 0) ae)))))),?_⟩
  try dsimp only[bh]
  refine⟨_,rfl,z,rfl,zl,λH2 s2=>⟨cG z,rfl,λhb=>?_,λhb=>(h2 hb).same s2⟩⟩
  refine aX λGq gq=>?_
  obtain⟨v1,v2,_⟩:=Ny hb;refine gq ?_;exact⟨_,rfl,z,eU z,rfl,v1,by omega,h1 hb H2 s2⟩
theorem jE (T:Txt w.params K mg A):FnOk P w K mg base (CXX P w) 4 A.oB A.jq ["words"] (Jc K A):=by
 refine T.hV.okX yR (λvs H Q E h=>?_) (λcdv A' outer s H vs Q E hr h=>?_)
 ·obtain⟨a,ws,rfl,_⟩:=h;rfl
 ·obtain⟨a,ws,rfl,hS,o,h1,h2⟩:=h;refine⟨_,(aj (bA (aU (b8 T) hr rfl T.bS T.bO.kp T.bT (pax (aa (bB (sW rfl) (by rfl) T.G8 BL (aa (jP (scope:=jT) uM rfl (g8 (pv 0)) (λ_ _ _ _ _=>(bw (Gr T) (hr.mono (by decide)) rfl T.Iz T.Be.kp T.IA .nil a6 (aa (pv 0) ae)))) ae)) ae))))
 (aC (psx (aI (bw (mQ T) (hr.mono (by decide)) rfl T.oJ T.jW.kp T.oK .nil a6 (aa (pv 0) ae)))))),?_⟩
  try dsimp only[bh]
  have sz:de=16777216:=by decide
  have ol:=o.len;have os:=o.sz;refine⟨_,rfl,a,rfl,⟨_,hS⟩,λD hD=>?_⟩
  refine zW b7 hS (by omega) hD (λx H2 Q2 hx s2 k=>⟨_,rfl,x,rfl,o.wl hx,k⟩) λH2 s2 h2'=>?_
  refine⟨D,ws.map b7,rfl,SqL.of h2',?_⟩;rw[mV];refine⟨ws.all b7,rfl,λhb=>?_,λhb=>(h2 hb).same s2⟩
  exact⟨_,rfl,a,ws,rfl,s2.seq hS,by omega,h1 hb H2 s2⟩
theorem Qu {α:Type}{l:List α}(h:l≠[]):∃(r:List α) (a:α),l=r++[a]:=⟨l.dropLast,l.getLast h,(List.dropLast_concat_getLast h).symm⟩
theorem yg {α:Type}{r:List α}{a:α}:atI (r++[a]) (-1)=some a:=by
 unfold atI ixN;rw[if_neg (by decide),if_pos (by rw[km,U4];omega),Vz,show ((-1:Int)+((r++[a]).length:Int)).toNat=r.length by rw[km,U4];omega]
 simp
theorem C1 (T:Txt w.params K mg A):FnOk P w K mg base (CXX P w) 5 A.uQ A.mh ["words"] (NA K A):=by
 refine T.wx.okX l8 (λvs H Q E h=>?_) (λcdv A' outer s H vs Q E hr h=>?_)
 ·obtain⟨a,ws,rfl,_⟩:=h;rfl
 ·obtain⟨a,ws,rfl,hS,o,h1,h2⟩:=h;have xE:=hr.units;refine⟨_,(aj (psx (aT (i:=1) l8.nd rfl (ro rfl) (bE ae)))
 (aj (BR ⟨rfl,rfl⟩ rfl (g8 (pv 0)) (eO (i:=2) l8.nd rfl (ro rfl))
 (aC (bU (aL bf (pv 2) ag (aK _))
 (aC (psx (cS (ic Vj VA VB eP (pv 1) (aa (bE ae) ae)))))
 (aj (bA (aU (b8 T) (hr.mono (by decide)) rfl T.bS T.bO.kp T.bT (pax (aa (bL (FG xE) (pv 1) (bE ae) (aK _)) ae))))
 (aC (psx (cS (ic Vj VA VB eP (aY bz (pv 1) (AR uA ao) (λ_ _=>rfl)) (aa (pv 2) ae)))))))))
 (aC (b5 (Kl (scope:=m9) ⟨rfl,rfl⟩ ot rfl (g8 (pv 1)) (λ_ _ _ _ _=>(eO (i:=0) ot.nd2 rfl (ro rfl))) (λ_ _ _ _ _=>(aU (jE T) hr rfl T.kR T.hV.kp T.kS (pax (aa (pv 0) ae))))))))),?_⟩
  try dsimp only[bh]
  have sz:de=16777216:=by decide
  have ol:=o.len;refine⟨Vg _,λC hC=>?_⟩
  refine⟨_,rfl,a,rfl,⟨_,(aw hC).seq hS⟩,?_⟩;refine yc (K:=K) (a:=a) (xs:=ws.map V.str) (λi σ H2=>∃(v2:Option V) (ps:List Addr) (cs:List (List Str)),σ=[some (.ref a),some (.ref C),v2]/\aS H H2/\H2 C=some (.lst (ps.map V.ref))/\WAt H2 ps cs/\ps.Nodup/\C∉ps/\(∀p∈ps,H p=none) /\
    clausesOf cs (ws.drop i)=clausesOf [] ws/\WOk i ws cs)
   ⟨_,[],[],rfl,aw hC,af,rfl,List.nodup_nil,(λz=>nomatch z),(λp hp=>nomatch hp),rfl,⟨kg _,(λc hc=>nomatch hc),(λc hc=>nomatch hc),λc hc=>nomatch hc⟩⟩ (λi σ H2 _ ⟨_,_,_,_,s2,_⟩=>s2.seq hS) ?_ ?_
  ·rintro i y σ H2 hi ⟨v2,ps,cs,rfl,s2,hCl,hW,nd,nC,hn,ecl,wo⟩;rw[U5]at hi;cases hx:ws[i]? with
   |none=>rw[hx]at hi;cases hi
   |some x =>
    rw[hx]at hi;obtain rfl:V.str x=y:=ra hi;have hil:i < ws.length:=(List.getElem?_eq_some_iff.mp hx).1;have dr:ws.drop i=x::ws.drop (i+1):=by
     rw[List.drop_eq_getElem_cons hil,(List.getElem?_eq_some_iff.mp hx).2]
    have pl:=hW.len;have cl:=wo.cl;refine⟨_,rfl,rfl,_,rfl,ie (λe=>?_) (λe=>?_)⟩
    ·have e':x=sl1:=by injection of_decide_eq_true e
     refine⟨_,rfl,.inl ⟨rfl,_,SqL.of hCl⟩,Vg _,λp hp=>?_⟩
     have nCp:C≠p:=aQ hCl hp;have SI:p∉ps:=λz=>by
      obtain⟨j,hj⟩:=List.getElem?_of_mem z;obtain⟨_,_,h3⟩:=hW.get hj;rw[hp]at h3;cases h3
     refine⟨C,_,_,rfl,rfl,(ax nCp).trans hCl,(by rw[da];omega),?_⟩
     refine⟨_,ps++[p],cs++[[]],rfl,((s2.new hp).own hC),?_,?_,?_,?_,?_,?_,wo.more hx⟩
     ·rw[af,UZ];rfl
     ·refine WAt.upd (by rw[WB,not_or];exact⟨nC,λz=>nCp (List.mem_singleton.mp z)⟩) (WAt.snoc (WAt.upd SI hW) ?_)
      rw[af];rfl
     ·exact List.nodup_append.mpr ⟨nd,by simp,λb hb c hc e=>SI (by rw[<-List.mem_singleton.mp hc,<-e];exact hb)⟩
     ·rw[WB,not_or];exact⟨nC,λz=>nCp (List.mem_singleton.mp z)⟩
     ·intro b hb;rcases List.mem_append.mp hb with hb | hb
      ·exact hn b hb
      ·rw[List.mem_singleton.mp hb];exact s2.free hp
     ·rw[<-ecl,dr,clausesOf,if_pos e']
    ·have e':¬x=sl1:=λz=>e (decide_eq_true (congrArg V.str z))
     refine⟨_,rfl,Vg _,λp hp=>?_⟩
     have s3:aS H2 (upd H2 p (.lst [])):=aw hp;refine⟨csD cs,.list [],?_,?_,Gs (λc hc w hw=>o.asc w (wo.mm c hc w hw)),by trivial,?_⟩
     ·unfold csD DV;exact⟨C,_,rfl,SqL.of (s3 _ _ hCl),(hW.same s3).dvs⟩
     ·unfold DV;exact⟨p,[],rfl,SqL.of af,by unfold DVs;rfl⟩
     ·rw[Nz];refine⟨!decide (cs=[]),rfl,λhb=>?_,λhb=>?_⟩
      ·have hcs:cs≠[]:=by simpa using hb
       refine aX λGq gq=>?_
       have hps:ps≠[]:=λz=>by rw[z]at pl;exact hcs (List.length_eq_zero_iff.mp pl.symm)
       obtain⟨qs,q,rfl⟩:=Qu hps;obtain⟨ds,d,rfl,hWd,hq⟩:=hW.LP;have nq:q≠p:=aQ hq hp;have nqs:q∉qs:=λz=>by
        have:=(List.nodup_append.mp nd).2.2 q z q (by simp)
        exact this rfl
       have nqC:q≠C:=λz=>nC (by rw[<-z];simp)
       have dl:=wo.ln d (by simp)
       refine gq ?_;refine⟨_,rfl,_,rfl,C,_,_,.ref q,rfl,rfl,SqL.of (s3 _ _ hCl),?_,.inl ⟨rfl,_,SqL.of (s3 _ _ hq)⟩,_,rfl,q,_,_,rfl,rfl,s3 _ _ hq,(by rw[da];omega),?_⟩
       ·rw[UZ];exact yg
       ·have hHq:H q=none:=hn q (by simp)
        refine⟨_,qs++[q],ds++[d++[x]],rfl,(s2.trans s3).own hHq,?_,?_,nd,nC,hn,?_,wo.word hx⟩
        ·exact(ax (UU nqC)).trans (s3 _ _ hCl)
        ·refine WAt.snoc (WAt.upd nqs (hWd.same s3)) ?_;rw[af,UZ];rfl
        ·rw[<-ecl,dr]
         conv=>rhs;rw[clausesOf]
         rw[if_neg e',if_neg (by simp)]
         simp
      ·have hcs:cs=[]:=by simpa using hb
       refine(h2 ?_).same (s2.trans s3);unfold readText;rw[<-ecl,hcs,dr,clausesOf,if_neg e',if_pos rfl];rfl
  ·rintro σ H2 ⟨v2,ps,cs,rfl,s2,hCl,hW,nd,nC,hn,ecl,wo⟩;rw[da,List.drop_length]at ecl;have ecs:clausesOf [] ws=some cs:=ecl.symm;rw[da]at wo;have pl:=hW.len;have cl:=wo.cl;refine⟨_,rfl,C,rfl,⟨_,SqL.of hCl⟩,λD hD=>?_⟩
   have nCD:C≠D:=aQ hCl hD;refine yu (K:=K) (a:=C) (xs:=ps.map V.ref) (λi ys H3=>ys=((cs.take i).map (gp bl1)).map V.str/\(cs.take i).all (λc=>c.all b7)=true/\aS H2 H3/\H3 D=some (.lst ys))
    ⟨rfl,rfl,aw hD,af⟩ (by rw[da];omega) ?_ ?_ ?_
   ·rintro i ys H3 hi ⟨rfl,_,s3,h3⟩;rw[da]at hi;exact⟨SqL.of (s3 _ _ hCl),h3,by simp;omega⟩
   ·rintro i y ys H3 hi ⟨rfl,al,s3,h3⟩;rw[U5]at hi;cases hp:ps[i]? with
    |none=>rw[hp]at hi;cases hi
    |some p =>
     refine aX λGq gq=>?_
     rw[hp]at hi;obtain rfl:V.ref p=y:=ra hi;obtain⟨c,hc,hpc⟩:=hW.get hp;have cm:=ma hc;have co:gM c:=⟨by have:=wo.ln c cm;have:=wo.sm c cm;have:=o.sz;rw[VP]at *;omega,λw hw=>o.asc w (wo.mm c cm w hw)⟩
     refine gq ?_;refine⟨_,rfl,p,c,rfl,SqL.of (s3 _ _ hpc),co,λok H4 s4=>?_,λbad=>(h2 ?_).same (s2.trans s3)⟩
     ·refine dF.mk (by rw[da];exact(List.getElem?_eq_some_iff.mp hp).1) (s4 _ _ h3) ⟨?_,?_,(s3.trans s4).own hD,af⟩
      ·rw[Wl,hc];simp
      ·rw[Wl,hc,List.all_append,al];simp[ok]
     ·unfold readText;rw[ecs];refine if_neg λz=>?_
      have:=List.all_eq_true.mp z c cm;rw[bad]at this;cases this
   ·rintro ys H3 ⟨rfl,al,s3,h3⟩;rw[da,pl,VP]at al h3;refine h1 cs ?_ D H3 (s2.trans s3) (s2.free hD) h3;unfold readText;rw[ecs];exact if_pos al
end
end R
namespace R
theorem mW {α:Type}{b c:α}{r:List α}:atI (b::c::r) 1=some c:=by
 unfold atI ixN;rw[if_pos (by decide),if_pos (by rw[kf,kf];omega)]
 rfl
theorem E1 (k a b:Str):inV (.str k) [.str a,.str b]=decide (k=a\/k=b):=by
 have e:∀x y:Str,eqV (.str x) (.str y)=decide (y=x):=λx y=>by
  show (x == y)=_;rw[Vn];simp;exact⟨λh=>h.symm,λh=>h.symm⟩
 unfold inV;simp only[V8,List.any_nil,e,Bool.or_false];rw[Vn];simp
theorem Hv:kn 0≠kn 1/\kn 2≠kn 1/\kn 0≠kn 2:=by trivial
def NB (K:ba)(A:Adr):Sp:=λvs H Q E=>∃(a:Addr) (ws:List Str),vs=[.ref a]/\SqL K H a (ws.map V.str)/\gM ws /\
 (∀k i th,fE ws=some (k,i,th)->∀t H',aS H H'->H t=none->H' t=some (.tup (edR k i (gp bl1 th)))->Q (.ref t) H')/\(fE ws=none->nK A 1 E H)
def NC (K:ba)(A:Adr):Sp:=λvs H Q E=>∃(a:Addr) (ws:List Str),vs=[.ref a]/\SqL K H a (ws.map V.str)/\gM ws /\
 (∀k i th,iy ws=some (k,i,th)->∀t H',aS H H'->H t=none->H' t=some (.tup (edR k i (gp bl1 th)))->Q (.ref t) H')/\(iy ws=none->nK A 1 E H)
def Qv (K:ba)(A:Adr):Sp:=λvs H Q E=>∃(a:Addr) (ws:List Str),vs=[.ref a]/\SqL K H a (ws.map V.str)/\gM ws /\
 (∀n,qd ws=some n->∀H',aS H H'->Q (.int n) H')/\(qd ws=none->nK A 1 E H)
def Hw (K:ba)(A:Adr):Sp:=λvs H Q E=>∃(z:Str),vs=[.str z]/\z.length<=50000/\Asc z /\
 (∀d,bR (Txt.split z bl1)=some d->∀t H',aS H H'->H t=none->df H H' d t->Q (.ref t) H')/\(bR (Txt.split z bl1)=none->nK A 1 E H)
theorem SJ (a b:V)(r:List V):kh (a::b::r) (some 2) none=r:=by
 rw[show (2:Int)=((2:Nat):Int) from rfl,yj]
 rfl
theorem LX (a:V)(r:List V):kh (a::r) (some 1) none=r:=by
 rw[show (1:Int)=((1:Nat):Int) from rfl,yj]
 rfl
section
variable{P:ko}{w:World}{K:ba}{mg:Str->Option Value}{base:Heap}{A:Adr}
theorem uu (T:Txt w.params K mg A):FnOk P w K mg base (CXX P w) 5 A.uR A.mi ["words"] (NB K A):=by
 have g7:FnOk P w K mg base (CXX P w) 3 A.tN A.jo ["holds"] (vz A):=b8 T;refine T.oO.okX iU (λvs H Q E h=>?_) (λcdv A' outer s H vs Q E hr h=>?_)
 ·obtain⟨a,ws,rfl,_⟩:=h;rfl
 ·obtain⟨a,ws,rfl,hS,o,h1,h2⟩:=h;have fS:Room 3 _:=hr.mono (by decide)
  have xE:=hr.units;refine⟨_,(aj (bA (aU g7 fS rfl T.bS T.bO.kp T.bT (pax (aa (bL N8 (bB bM (by rfl) T.il eC (aa (pv 0) ae)) ao (aK _)) ae))))
 (aj (psx (aT (i:=1) iU.nd rfl (ro rfl) (aY bz (pv 0) ao (λ_ _=>rfl))))
 (aj (sX (i:=2) iU.nd rfl (ro rfl) (aU (eK T) hr rfl T.dN T.cX.kp T.dO (pax (aa (aY bz (pv 0) ao (λ_ _=>rfl)) ae))))
 (aj (psx (aT (i:=3) iU.nd rfl (ro rfl) (jd pM (pv 0) (jM ao) pL)))
 (aj (bU (aL bf (pv 1) ag (aK _))
 (aj (bA (aU g7 fS rfl T.bS T.bO.kp T.bT (pax (aa (bL (FF xE) (pv 3) (bE ae) (aK _)) ae))))
 (aC (psx (aI (a8 (aa ag (aa (pv 2) ae)))))))
 (gf aO))
 (aj (bA (aU g7 fS rfl T.bS T.bO.kp T.bT (pax (aa (bL lj (pv 1) (a8 (aa ag (aa ag ae))) rfl) ae))))
 (aC (b5 (gh (a7 (px (pv 1)) (a7 (px (pv 2)) (a7 (aU (jE T) hr rfl T.kR T.hV.kp T.kS (pax (aa (pv 3) ae))) dH)))))))))))),?_⟩
  try dsimp only[bh]
  have sz:de=16777216:=by decide
  have ol:=o.len;refine⟨_,rfl,a,_,rfl,.inl hS,_,_,rfl,rfl,_,rfl,λhb=>?_,λhb=>h2 ?_⟩
  rotate_left
  ·have hb':=of_decide_eq_false hb;rw[da]at hb'
   match ws,hb' with
   |[],_=>rfl
   |[_],_=>rfl
   |_::_::r,h=>exact absurd (show (2:Int)<=((_::_::r).length:Int) by rw[kf,kf];omega) h
  refine aX λGq gq=>?_
  have hb':=of_decide_eq_true hb;rw[da]at hb';obtain⟨k,p,th,rfl⟩:∃k p th,ws=k::p::th:=by
   match ws,hb' with
   |[],h=>exact absurd h (by decide)
   |[_],h=>exact absurd h (by simp)
   |k::p::r,_=>exact⟨k,p,r,rfl⟩
  refine gq ?_;refine ixv rfl hS cQ ?_;refine⟨_,rfl,a,_,_,.str p,rfl,rfl,hS,mW,p,rfl,o.wl (by simp),λhn H2 s2=>?_,λhn=>h2 ?_⟩
  rotate_left
  ·show (if cG p=true then _ else none)=none
   rw[hn];rfl
  refine⟨_,rfl,_,rfl,a,_,rfl,s2.seq hS,λtp htp=>?_⟩
  have s3:aS H2 (upd H2 tp (.lst (kh (List.map V.str (k::p::th)) (some 2) none))):=aw htp;have e2:kh (List.map V.str (k::p::th)) (some 2) none=th.map V.str:=SJ _ _ _;rw[e2]at s3 ⊢;have oth:gM th:=o.drop 2;have US:=oth.len;have hth:upd H2 tp (.lst (th.map V.str)) tp=some (.lst (th.map V.str)):=af;generalize upd H2 tp (.lst (th.map V.str))=H3 at s3 hth ⊢;have s13:=s2.trans s3;have rE:fE (k::p::th)=if k=kn 1 then (if th=[] then some (1,eU p,[]) else none) else if (k=kn 0\/k=kn 2)/\th.all b7=true then some (if k=kn 0 then 0 else 2,eU p,th) else none:=by
   show (if cG p=true then _ else none)=_
   rw[if_pos hn]
  refine⟨_,rfl,rfl,_,rfl,ie (λe=>?_) (λe=>?_)⟩
  ·have ek:k=kn 1:=by injection of_decide_eq_true e
   rw[if_pos ek]at rE;refine⟨_,rfl,Vg _,λq hq=>?_⟩
   have s4:aS H3 (upd H3 q (.lst [])):=aw hq;refine⟨.list (th.map Vu),.list [],sU (s4.seq (SqL.of hth)),?_,nQ λw hw=>(oth.asc w hw).ok,by trivial,?_⟩
   ·unfold DV;exact⟨q,[],rfl,SqL.of af,by unfold DVs;rfl⟩
   ·rw[strs_nil];refine⟨_,rfl,λhb=>?_,λhb=>?_⟩
    ·have ht:=of_decide_eq_true hb;rw[if_pos ht]at rE;refine⟨_,rfl,(by show 2<=de;decide),λt ht2=>h1 _ _ _ rE t _ ((s13.trans s4).new ht2) ((s13.trans s4).free ht2) af⟩
    ·rw[if_neg (of_decide_eq_false hb)]at rE;exact(h2 rE).same (s13.trans s4)
  ·have ek:¬k=kn 1:=λz=>e (decide_eq_true (congrArg V.str z))
   rw[if_neg ek]at rE;refine⟨_,rfl,(by show 2<=de;decide),λq hq=>?_⟩
   have s4:aS H3 (upd H3 q (.tup [.str (ar "put"),.str (ar "turn")])):=aw hq;refine⟨q,_,rfl,.inr (SqT.of af),rfl,rfl,?_⟩;refine⟨_,rfl,λhb=>?_,λhb=>?_⟩
   ·have hb':inV (.str k) [.str (ar "put"),.str (ar "turn")]=true:=hb;rw[E1]at hb';have hk:k=kn 0\/k=kn 2:=of_decide_eq_true hb';refine⟨_,rfl,_,rfl,_,rfl,tp,th,rfl,SqL.of (s4 _ _ hth),oth,λok H5 s5=>?_,λbad=>?_⟩
    ·rw[if_pos ⟨hk,ok⟩]at rE;refine⟨(by show 3<=de;decide),λt ht=>h1 _ _ _ rE t _ (((s13.trans s4).trans s5).new ht) (((s13.trans s4).trans s5).free ht) ?_⟩
     rw[af];rcases hk with rfl | rfl
     ·rfl
     ·rw[if_neg (UU Hv.2.2)];rfl
    ·rw[if_neg (λz=>by rw[z.2]at bad;cases bad)]at rE
     exact(h2 rE).same (s13.trans s4)
   ·have hb':inV (.str k) [.str (ar "put"),.str (ar "turn")]=false:=hb;rw[E1]at hb';rw[if_neg (λz=>(of_decide_eq_false hb') z.1)]at rE
    exact(h2 rE).same (s13.trans s4)
theorem C2 (T:Txt w.params K mg A):FnOk P w K mg base (CXX P w) 6 A.uS A.mj ["words"] (NC K A):=by
 refine T.wA.okX tG (λvs H Q E h=>?_) (λcdv A' outer s H vs Q E hr h=>?_)
 ·obtain⟨a,ws,rfl,_⟩:=h;rfl
 ·obtain⟨a,ws,rfl,hS,o,h1,h2⟩:=h;refine⟨_,(aj (sX (i:=1) tG.nd rfl (ro rfl) (aU (uu T) hr rfl T.wy T.oO.kp T.wz (pax (aa (pv 0) ae))))
 (aj (bA (aU (b8 T) (hr.mono (by decide)) rfl T.bS T.bO.kp T.bT (pax (aa (N5 (bL bf (aY bp (pv 1) ao (λ_ _=>rfl)) ag (aK _)) (i9 (bL bf (bB bM (by rfl) T.il eC (aa (pv 0) ae)) ao (aK _)))) ae))))
 (aC (psx (aI (pv 1)))))),?_⟩
  try dsimp only[bh]
  refine⟨_,rfl,a,ws,rfl,hS,o,λk i th re t H2 s2 nt ht=>?_,λhn=>h2 (by unfold iy;rw[hn];rfl)⟩
  have rm:iy ws=if k=1\/ws.length=3 then some (k,i,th) else none:=by unfold iy;rw[re];rfl
  refine ixv rfl (SqT.of ht) (CU k i _) ⟨rfl,_,rfl,?_⟩;have kk:(V.str (kn k)=V.str (ar "cut"))↔k=1:=by
   refine CL ?_
   match ws,re with
   |x::p::r,re =>
    by_cases hp:cG p=true
    ·have re':=re;simp only[fE,if_pos hp]at re';split at re'
     ·split at re'
      ·simp at re';omega
      ·cases re'
     ·split at re'
      ·simp only[Option.some.injEq,WE]at re';rw[<-re'.1];split <;> simp
      ·cases re'
    ·simp only[fE,if_neg hp]at re;cases re
  by_cases hk:k=1
  ·rw[decide_eq_true (kk.mpr hk)];refine dZ ⟨true,rfl,λ_=>?_,λz=>nomatch z⟩
   rw[if_pos (.inl hk)]at rm;exact⟨_,rfl,h1 _ _ _ rm t H2 s2 nt ht⟩
  ·rw[decide_eq_false λz=>hk (kk.mp z)]
   refine cf ⟨_,rfl,a,_,rfl,.inl (s2.seq hS),rfl,_,rfl,λhb=>?_,λhb=>?_⟩
   ·have hl:ws.length=3:=by
     have:=of_decide_eq_true hb;rw[da]at this;injection this with this
     omega
    rw[if_pos (.inr hl)]at rm;exact⟨_,rfl,h1 _ _ _ rm t H2 s2 nt ht⟩
   ·have hl:¬ws.length=3:=λz=>by
     refine of_decide_eq_false hb ?_;rw[da,z];rfl
    rw[if_neg (by rintro (z | z);exact hk z;exact hl z)]at rm
    exact(h2 rm).same s2
theorem xK (T:Txt w.params K mg A):FnOk P w K mg base (CXX P w) 5 A.mn A.iD ["words"] (Qv K A):=by
 refine T.oQ.okX ng (λvs H Q E h=>?_) (λcdv A' outer s H vs Q E hr h=>?_)
 ·obtain⟨a,ws,rfl,_⟩:=h;rfl
 ·obtain⟨a,ws,rfl,hS,o,h1,h2⟩:=h;refine⟨_,(aj (bA (aU (b8 T) (hr.mono (by decide)) rfl T.bS T.bO.kp T.bT (pax (aa (j9 (bL bf (bB bM (by rfl) T.il eC (aa (pv 0) ae)) ao (aK _)) (i9 (bL bf (aY bz (pv 0) ao (λ_ _=>rfl)) ag (aK _)))) ae))))
 (aj (sX (i:=1) ng.nd rfl (ro rfl) (aU (eK T) hr rfl T.dN T.cX.kp T.dO (pax (aa (aY bz (pv 0) ao (λ_ _=>rfl)) ae))))
 (aj (bA (aU (b8 T) (hr.mono (by decide)) rfl T.bS T.bO.kp T.bT (pax (aa (jc nO nO ao (pv 1) (c8 (v:=V.int 999999999) rfl T.ze ⟨_,rfl⟩)) ae))))
 (aC (psx (aI (pv 1))))))),?_⟩
  try dsimp only[bh]
  refine⟨_,rfl,a,_,rfl,.inl hS,rfl,_,rfl,?_⟩;rw[da]
  by_cases hl:ws.length=2
  ·obtain⟨x,n,rfl⟩:∃x n,ws=[x,n]:=by
    match ws,hl with
    |[x,n],_=>exact⟨x,n,rfl⟩
   refine dZ ⟨_,rfl,a,_,_,.str x,rfl,rfl,hS,cQ,rfl,_,rfl,λhb=>?_,λhb=>?_⟩
   ·have hx:x=ar "off":=by injection of_decide_eq_true hb
    refine⟨_,rfl,a,_,_,.str n,rfl,rfl,hS,mW,n,rfl,o.wl (by simp),λhn H2 s2=>?_,λhn=>h2 ?_⟩
    ·refine⟨_,rfl,_,_,rfl,rfl,_,rfl,?_⟩
     by_cases b1:1<=eU n
     ·rw[decide_eq_true b1];refine dZ ⟨_,_,rfl,rfl,_,rfl,λb2=>?_,λb2=>?_⟩
      ·exact⟨_,rfl,h1 _ (if_pos ⟨hx,hn,b1,of_decide_eq_true b2⟩) H2 s2⟩
      ·exact(h2 (if_neg λz=>of_decide_eq_false b2 z.2.2.2)).same s2
     ·rw[decide_eq_false b1];exact cf ⟨false,rfl,(λz=>nomatch z),λ_=>(h2 (if_neg λz=>b1 z.2.2.1)).same s2⟩
    ·exact if_neg λz=>by rw[z.2.1]at hn;cases hn
   ·exact h2 (if_neg λz=>of_decide_eq_false hb (congrArg V.str z.1))
  ·rw[decide_eq_false (show ¬V.int (ws.length:Int)=V.int 2 from λz=>hl (by injection z with z;omega))]
   refine cf ⟨false,rfl,(λz=>nomatch z),λ_=>h2 ?_⟩
   match ws,hl with
   |[],_=>rfl
   |[_],_=>rfl
   |[_,_],h=>exact absurd rfl h
   |_::_::_::_,_=>rfl
end
theorem lU (c:Nat):∀ws:List Str,ws≠[]->(ws.map (·.length)).sum+ws.length=(gp ⟨#[c]⟩ ws).length+1
 |[],h=>absurd rfl h
 |[x],_=>by show _=x.length+1;simp
 |x::y::r,_=>by
  have ih:=lU c (y::r) (UX _ _);have e:(gp ⟨#[c]⟩ (x::y::r)).length=x.length+1+(gp ⟨#[c]⟩ (y::r)).length:=by
   have:=congrArg List.length (d0 c x y r);rw[km,kf,mO,mO,mO]at this;omega
  simp only[kx,Wq,kf]at ih ⊢;omega
theorem Bt (c:Nat):∀ws:List Str,Asc (gp ⟨#[c]⟩ ws)->∀w∈ws,Asc w
 |[],_,_,h=>nomatch h
 |[x],h,w,hw=>by rw[List.mem_singleton.mp hw];exact h
 |x::y::r,h,w,hw=>by
  have e:=d0 c x y r;rcases List.mem_cons.mp hw with rfl | hw
  ·exactλd hd=>h d (by rw[e];exact Vc _ hd)
  ·exact Bt c (y::r) (λd hd=>h d (by rw[e];exact di _ (kr _ hd))) w hw
theorem LY {z:Str}(h:z.length<=50000)(ha:Asc z):gM (Txt.split z bl1):=by
 have e:gp ⟨#[32]⟩ (Txt.split z ⟨#[32]⟩)=z:=StrLaws.join_split _ _;rw[dU];have s:=lU 32 _ (nS z ⟨#[32]⟩);rw[e]at s;exact⟨by omega,Bt 32 _ (by rw[e];exact ha)⟩
theorem E2 (k:Str):inV (.str k) [.str (ar "close"),.str (ar "lay"),.str (ar "rest"),.str (ar "drop")]=decide (k∈Jb):=by
 have e:∀x y:Str,eqV (.str x) (.str y)=decide (y=x):=λx y=>by
  show (x == y)=_;rw[Vn];simp;exact⟨λh=>h.symm,λh=>h.symm⟩
 unfold inV;simp only[V8,List.any_nil,e,Bool.or_false];rw[Vn];simp[Jb]
theorem iM {a b:Str}(h:¬decide (V.str a=V.str b)=true):¬a=b:=λz=>h (decide_eq_true (congrArg V.str z))
theorem iN {a b:Str}(h:decide (V.str a=V.str b)=true):a=b:=by injection of_decide_eq_true h
section
variable{P:ko}{w:World}{K:ba}{mg:Str->Option Value}{base:Heap}{A:Adr}
theorem uv (T:Txt w.params K mg A):FnOk P w K mg base (CXX P w) 7 A.pU A.iX ["row"] (Hw K A):=by
 have g7:FnOk P w K mg base (CXX P w) 3 A.tN A.jo ["holds"] (vz A):=b8 T;have k9:FnOk P w K mg base (CXX P w) 4 A.jU A.gu ["word"] (LW A):=eK T;refine T.oR.okX iV (λvs H Q E h=>?_) (λcdv A' outer s H vs Q E hr h=>?_)
 ·obtain⟨z,rfl,_⟩:=h;rfl
 ·obtain⟨z,rfl,zl,za,h1,h2⟩:=h;have fS:Room 3 _:=hr.mono (by decide)
  have jF:Room 4 _:=hr.mono (by decide)
  have xE:=hr.units;refine⟨_,(aj (psx (aT (i:=1) iV.nd rfl (ro rfl) (ic Vq PySem.F.slot_str_split PySem.F.type_str_split sV (pv 0) (aa ag ae))))
 (aj (psx (aT (i:=2) iV.nd rfl (ro rfl) (aY bz (pv 1) ao (λ_ _=>rfl))))
 (aj (psx (aT (i:=3) iV.nd rfl (ro rfl) (jd pM (pv 1) (jM ao) pL)))
 (aj (bU (aL bf (pv 2) ag (aK _))
 (aC (b5 (gh (a7 (px ag) (a7 (aU (C1 T) (hr.mono (by decide)) rfl T.Ea T.wx.kp T.Eb (pax (aa (pv 3) ae))) dH)))))
 (gf aO))
 (aj (bU (aL bf (pv 2) ag (aK _))
 (aC (b5 (gh (a7 (px ag) (a7 (aU (uu T) (hr.mono (by decide)) rfl T.wy T.oO.kp T.wz (pax (aa (pv 3) ae))) dH)))))
 (gf aO))
 (aj (bU (aL bf (pv 2) ag (aK _))
 (aC (b5 (gh (a7 (px ag) (a7 (aU (C2 T) hr rfl T.Ec T.wA.kp T.Ee (pax (aa (pv 3) ae))) dH)))))
 (gf aO))
 (aj (bU (aL bf (pv 2) ag (aK _))
 (aC (b5 (gh (a7 (px ag) (a7 (aU (xK T) (hr.mono (by decide)) rfl T.yY T.oQ.kp T.yZ (pax (aa (pv 3) ae))) dH)))))
 (gf aO))
 (aj (bU (aL bf (pv 2) ag (aK _))
 (aC (b5 (gh (a7 (px ag) (a7 (aU (jE T) (hr.mono (by decide)) rfl T.kR T.hV.kp T.kS (pax (aa (pv 3) ae))) dH)))))
 (gf aO))
 (aj (bU (aL bf (pv 2) ag (aK _))
 (aj (bA (aU g7 fS rfl T.bS T.bO.kp T.bT (pax (aa (bL bf (bB bM (by rfl) T.il eC (aa (pv 3) ae)) ao (aK _)) ae))))
 (aC (b5 (gh (a7 (px ag) (a7 (aU k9 jF rfl T.dN T.cX.kp T.dO (pax (aa (aY bz (pv 3) ao (λ_ _=>rfl)) ae))) (a7 (aU k9 jF rfl T.dN T.cX.kp T.dO (pax (aa (aY bz (pv 3) ao (λ_ _=>rfl)) ae))) dH)))))))
 (gf aO))
 (aj (bU (aL bf (pv 2) ag (aK _))
 (aj (bA (aU g7 fS rfl T.bS T.bO.kp T.bT (pax (aa (bL bf (bB bM (by rfl) T.il eC (aa (pv 3) ae)) ao (aK _)) ae))))
 (aC (b5 (gh (a7 (px ag) (a7 (aU k9 jF rfl T.dN T.cX.kp T.dO (pax (aa (aY bz (pv 3) ao (λ_ _=>rfl)) ae))) dH))))))
 (gf aO))
 (aj (bA (aU g7 fS rfl T.bS T.bO.kp T.bT (pax (aa (j9 (bL lj (pv 2) (c8 (v:=V.ref A.Cr) rfl T.PQ rfl) rfl) (i9 (bL (FF xE) (pv 3) (bE ae) (aK _)))) ae))))
 (aC (psx (aI (a8 (aa (pv 2) ae)))))))))))))))),?_⟩
  try dsimp only[bh]
  have sz:de=16777216:=by decide
  refine⟨_,rfl,rfl,z,bl1,rfl,rfl,by rw[dU];rfl,by omega,λW hW=>?_⟩
  have o:=LY zl za;have hsp:=nS z bl1;generalize Txt.split z bl1=sp at o hsp h1 h2 ⊢;refine aX λGq gq=>?_
  obtain⟨k,ws,rfl⟩:∃k ws,sp=k::ws:=by
   cases sp with
   |nil=>exact absurd rfl hsp
   |cons k ws=>exact⟨k,ws,rfl⟩
  have hWl:upd H W (.lst ((k::ws).map V.str)) W=some (.lst ((k::ws).map V.str)):=af;have s1:aS H (upd H W (.lst ((k::ws).map V.str))):=aw hW;refine gq ?_;generalize upd H W (.lst ((k::ws).map V.str))=H1 at hWl s1 ⊢;refine⟨_,rfl,W,_,_,.str k,rfl,rfl,SqL.of hWl,cQ,?_⟩;refine⟨_,rfl,_,rfl,W,_,rfl,SqL.of hWl,λB hB=>?_⟩
  have e1:kh (List.map V.str (k::ws)) (some 1) none=ws.map V.str:=LX _ _;rw[e1];have s2:aS H1 (upd H1 B (.lst (ws.map V.str))):=aw hB;have hBl:upd H1 B (.lst (ws.map V.str)) B=some (.lst (ws.map V.str)):=af;generalize upd H1 B (.lst (ws.map V.str))=H2 at s2 hBl ⊢;have s12:=s1.trans s2;have hB':SqL K H2 B (ws.map V.str):=SqL.of hBl;have ow:gM ws:=o.drop 1;have owl:=ow.len;have R:bR (k::ws)=_:=rfl;refine⟨_,rfl,rfl,_,rfl,ie (λe=>?_) (λe=>?_)⟩
  ·have R':bR (k::ws)=(readText ws).map .mat:=by rw[bR,if_pos (iN e)]
   refine⟨_,rfl,B,ws,rfl,hB',ow,λcs ec L H3 s3 nL hL=>⟨(by show 2<=de;decide),λt ht=>?_⟩,λen=>(h2 (by rw[R',en];rfl)).same s12⟩
   have nLt:L≠t:=aQ hL ht;exact h1 (.mat cs) (by rw[R',ec];rfl) t _ ((s12.trans s3).new ht) (s12.free (s3.free ht)) ⟨L,af,s12.free nL,(ax nLt).trans hL⟩
  have n1:=iM e;refine⟨_,rfl,rfl,_,rfl,ie (λe=>?_) (λe=>?_)⟩
  ·have R':bR (k::ws)=(fE ws).map λe=>.ed false e.1 e.2.1 e.2.2:=by rw[bR,if_neg n1,if_pos (iN e)]
   refine⟨_,rfl,B,ws,rfl,hB',ow,λkk i th ec ta H3 s3 nta hta=>⟨(by show 2<=de;decide),λt ht=>?_⟩,λen=>(h2 (by rw[R',en];rfl)).same s12⟩
   have nLt:ta≠t:=aQ hta ht;exact h1 (.ed false kk i th) (by rw[R',ec];rfl) t _ ((s12.trans s3).new ht) (s12.free (s3.free ht)) ⟨ta,af,s12.free nta,(ax nLt).trans hta⟩
  have n2:=iM e;refine⟨_,rfl,rfl,_,rfl,ie (λe=>?_) (λe=>?_)⟩
  ·have R':bR (k::ws)=(iy ws).map λe=>.ed true e.1 e.2.1 e.2.2:=by rw[bR,if_neg n1,if_neg n2,if_pos (iN e)]
   refine⟨_,rfl,B,ws,rfl,hB',ow,λkk i th ec ta H3 s3 nta hta=>⟨(by show 2<=de;decide),λt ht=>?_⟩,λen=>(h2 (by rw[R',en];rfl)).same s12⟩
   have nLt:ta≠t:=aQ hta ht;exact h1 (.ed true kk i th) (by rw[R',ec];rfl) t _ ((s12.trans s3).new ht) (s12.free (s3.free ht)) ⟨ta,af,s12.free nta,(ax nLt).trans hta⟩
  have n3:=iM e;refine⟨_,rfl,rfl,_,rfl,ie (λe=>?_) (λe=>?_)⟩
  ·have R':bR (k::ws)=(qd ws).map λn=>.nums (ar "put off") [n]:=by rw[bR,if_neg n1,if_neg n2,if_neg n3,if_pos (iN e)]
   refine⟨_,rfl,B,ws,rfl,hB',ow,λn ec H3 s3=>⟨(by show 2<=de;decide),λt ht=>?_⟩,λen=>(h2 (by rw[R',en];rfl)).same s12⟩
   exact h1 (.nums (ar "put off") [n]) (by rw[R',ec];rfl) t _ ((s12.trans s3).new ht) (s12.free (s3.free ht)) af
  have n4:=iM e;refine⟨_,rfl,rfl,_,rfl,ie (λe=>?_) (λe=>?_)⟩
  ·have R':bR (k::ws)=if ws.all b7=true then some (.pt ws) else none:=by rw[bR,if_neg n1,if_neg n2,if_neg n3,if_neg n4,if_pos (iN e)]
   refine⟨_,rfl,B,ws,rfl,hB',ow,λok H3 s3=>⟨(by show 2<=de;decide),λt ht=>?_⟩,λen=>(h2 (by rw[R',en];rfl)).same s12⟩
   exact h1 (.pt ws) (by rw[R',if_pos ok]) t _ ((s12.trans s3).new ht) (s12.free (s3.free ht)) af
  have n5:=iM e;refine⟨_,rfl,rfl,_,rfl,ie (λe=>?_) (λe=>?_)⟩
  ·have R':bR (k::ws)=uq ws:=by rw[bR,if_neg n1,if_neg n2,if_neg n3,if_neg n4,if_neg n5,if_pos (iN e)]
   refine⟨_,rfl,B,_,rfl,.inl hB',rfl,_,rfl,?_⟩;rw[da]
   by_cases hl:ws.length=2
   ·obtain⟨a,b,rfl⟩:∃x n,ws=[x,n]:=by
     match ws,hl with
     |[x,n],_=>exact⟨x,n,rfl⟩
    refine⟨λ_=>?_,λz=>nomatch z⟩
    have R2:bR [k,a,b]=if cG a=true/\cG b=true then some (.nums (ar "vote") [eU a,eU b]) else none:=R'
    refine⟨_,rfl,B,_,_,.str a,rfl,rfl,hB',cQ,a,rfl,ow.wl (by simp),λha H3 s3=>?_,λha=>(h2 (by rw[R2,if_neg (λz=>by rw[z.1]at ha;cases ha)])).same s12⟩
    refine⟨_,rfl,B,_,_,.str b,rfl,rfl,s3.seq hB',mW,b,rfl,ow.wl (by simp),λhb H4 s4=>?_,λhb=>(h2 (by rw[R2,if_neg (λz=>by rw[z.2]at hb;cases hb)])).same (s12.trans s3)⟩
    refine⟨(by show 3<=de;decide),λt ht=>?_⟩
    exact h1 (.nums (ar "vote") [eU a,eU b]) (by rw[R2,if_pos ⟨ha,hb⟩]) t _ (((s12.trans s3).trans s4).new ht) (s12.free (s3.free (s4.free ht))) af
   ·rw[decide_eq_false (show ¬V.int (ws.length:Int)=V.int 2 from λz=>hl (by injection z with z;omega))]
    refine⟨(λz=>nomatch z),λ_=>(h2 ?_).same s12⟩
    rw[R']
    match ws,hl with
    |[],_=>rfl
    |[_],_=>rfl
    |[_,_],h=>exact absurd rfl h
    |_::_::_::_,_=>rfl
  have n6:=iM e;refine⟨_,rfl,rfl,_,rfl,ie (λe=>?_) (λe=>?_)⟩
  ·have R':bR (k::ws)=ur ws:=by rw[bR,if_neg n1,if_neg n2,if_neg n3,if_neg n4,if_neg n5,if_neg n6,if_pos (iN e)]
   refine⟨_,rfl,B,_,rfl,.inl hB',rfl,_,rfl,?_⟩;rw[da]
   by_cases hl:ws.length=1
   ·obtain⟨a,rfl⟩:=List.length_eq_one_iff.mp hl;refine⟨λ_=>?_,λz=>nomatch z⟩
    have R2:bR [k,a]=if cG a=true then some (.nums (ar "take") [eU a]) else none:=R'
    refine⟨_,rfl,B,_,_,.str a,rfl,rfl,hB',cQ,a,rfl,ow.wl (by simp),λha H3 s3=>?_,λha=>(h2 (by rw[R2,if_neg (λz=>by rw[z]at ha;cases ha)])).same s12⟩
    refine⟨(by show 2<=de;decide),λt ht=>?_⟩
    exact h1 (.nums (ar "take") [eU a]) (by rw[R2,if_pos ha]) t _ ((s12.trans s3).new ht) (s12.free (s3.free ht)) af
   ·rw[decide_eq_false (show ¬V.int (ws.length:Int)=V.int 1 from λz=>hl (by injection z with z;omega))]
    refine⟨(λz=>nomatch z),λ_=>(h2 ?_).same s12⟩
    rw[R']
    match ws,hl with
    |[],_=>rfl
    |[_],h=>exact absurd rfl h
    |_::_::_,_=>rfl
  have n7:=iM e;have R':bR (k::ws)=if k∈Jb/\ws=[] then some (.nums k []) else none:=by rw[bR,if_neg n1,if_neg n2,if_neg n3,if_neg n4,if_neg n5,if_neg n6,if_neg n7]
  refine⟨_,rfl,A.Cr,_,rfl,.inr (T.PR _),rfl,rfl,_,rfl,?_⟩
  by_cases hk:k∈Jb
  ·have hi:inV (.str k) [.str (ar "close"),.str (ar "lay"),.str (ar "rest"),.str (ar "drop")]=true:=by rw[E2];exact decide_eq_true hk
   refine vQ (show (if false=true then _ else inV (.str k) _)=true from hi) ?_
   refine⟨_,rfl,Vg _,λq hq=>?_⟩
   have s4:aS H2 (upd H2 q (.lst [])):=aw hq;refine⟨.list (ws.map Vu),.list [],sU (s4.seq hB'),?_,nQ λw hw=>(ow.asc w hw).ok,by trivial,?_⟩
   ·unfold DV;exact⟨q,[],rfl,SqL.of af,by unfold DVs;rfl⟩
   ·rw[strs_nil];refine⟨_,rfl,λhb=>?_,λhb=>?_⟩
    ·have hw:=of_decide_eq_true hb;refine⟨_,rfl,(by show 1<=de;decide),λt ht=>?_⟩
     exact h1 (.nums k []) (by rw[R',if_pos ⟨hk,hw⟩]) t _ ((s12.trans s4).new ht) (s12.free (s4.free ht)) af
    ·exact(h2 (by rw[R',if_neg (λz=>of_decide_eq_false hb z.2)])).same (s12.trans s4)
  ·have hi:inV (.str k) [.str (ar "close"),.str (ar "lay"),.str (ar "rest"),.str (ar "drop")]=false:=by rw[E2];exact decide_eq_false hk
   refine qz (show (if false=true then _ else inV (.str k) _)=false from hi) ?_
   exact⟨false,rfl,(λz=>nomatch z),λ_=>(h2 (by rw[R',if_neg (λz=>hk z.1)])).same s12⟩
end
end R
namespace R
def LZ:br->Prop
 | .nums kd ns=>kd=ar "put off"->∀i∈ns,1<=i/\i<=999999999
 |_=>True
theorem Qw {x:Str}(h:nJ x):b7 x=true:=by
 unfold b7;rw[decide_eq_true h.l1,decide_eq_true h.l2,decide_eq_false h.ns];refine List.all_eq_true.mpr λc hc=>?_
 obtain⟨a,b,d⟩:=h.sgn c hc;unfold i5;rw[decide_eq_true a,decide_eq_true b,decide_eq_true d];rfl
theorem xY {ws:List Str}(h:∀w∈ws,nJ w):ws.all b7=true:=List.all_eq_true.mpr λw hw=>Qw (h w hw)
theorem E3:∀m:Nat,0 < m->∃c r,Nat.toDigits 10 m=c::r/\c≠'0':=by
 intro m
 induction m using Nat.strongRecOn with
 |_ m ih =>
  intro hm
  by_cases h:m < 10
  ·rw[Nat.toDigits_of_lt_base h];refine⟨_,_,rfl,?_⟩;have:∀d:Nat,d < 10->0 < d->Nat.digitChar d≠'0':=by decide
   exact this m h hm
  ·have hm2:m % 10 < 10:=Nat.mod_lt m (by decide)
   have t:Nat.toDigits 10 (m / 10)++Nat.toDigits 10 (m % 10)=Nat.toDigits 10 (10 * (m / 10)+m % 10):=Nat.toDigits_append_toDigits (by decide) (by omega) hm2
   rw[Nat.div_add_mod]at t;obtain⟨c,r,e,n⟩:=ih (m / 10) (by omega) (by omega)
   exact⟨c,r++Nat.toDigits 10 (m % 10),by rw[<-t,e];rfl,n⟩
theorem zX {i:Int}(h0:0<=i)(h1:i < 10 ^ 10):cG (num i)=true/\eU (num i)=i:=by
 have rd:=PySem.W.KIN.num_reads h0 h1;have hl:=CS h0 h1;obtain⟨m,rfl⟩:=Int.eq_ofNat_of_zero_le h0;have sg:=PySem.W.KIN.signs_num m;have hd:∀c∈(num ((m:Nat):Int)).cps.toList,kZ c=true:=λc hc=>by
  have hc':c∈(Nat.toDigits 10 m).map Char.toNat:=by rw[<-sg];exact hc
  obtain⟨ch,hch,e⟩:=List.mem_map.mp hc';have r:=PyProof.Rows.digit_range (Nat.isDigit_of_mem_toDigits (by decide) (by decide) hch)
  rw[<-e];unfold kZ;rw[decide_eq_true r.1,decide_eq_true r.2];rfl
 have hne:num ((m:Nat):Int)≠em:=λe=>by
  have e2:(num ((m:Nat):Int)).cps.toList=em.cps.toList:=congrArg (λz:Str=>z.cps.toList) e
  rw[show (num ((m:Nat):Int)).cps.toList=_ from sg,EM]at e2
  by_cases hm:0 < m
  ·obtain⟨c,r,e3,_⟩:=E3 m hm;rw[e3]at e2;cases e2
  ·obtain rfl:m=0:=by omega
   revert e2;decide
 refine⟨?_,by unfold eU;rw[show PySem.intText? (num ((m:Nat):Int))=_ from rd];rfl⟩
 unfold cG;rw[decide_eq_true hne,decide_eq_true hl,List.all_eq_true.mpr hd]
 by_cases hm:0 < m
 ·obtain⟨c,r,e3,n⟩:=E3 m hm;have:¬(num ((m:Nat):Int)).cps.toList.head?=some 48:=λz=>by
   rw[show (num ((m:Nat):Int)).cps.toList=_ from sg,e3]at z
   have z':c.toNat=48:=by simpa using z
   exact n (Char.ext (UInt32.toNat_inj.mp z'))
  rw[decide_eq_false this];simp
 ·obtain rfl:m=0:=by omega
  have:num ((0:Nat):Int)=ar "0":=by trivial
  rw[decide_eq_true this];simp
def norm:br->br
 | .ed m k i ws=>.ed m k i (if k=1 then [] else ws)
 |d=>d
theorem L3 (k:Nat)(i:Int)(ws:List Str):edR k i (gp bl1 (if k=1 then [] else ws))=edR k i (gp bl1 ws):=by
 unfold edR;split
 ·rfl
 ·rfl
theorem df.norm {H H':Hp}{d:br}{t:Addr}(h:df H H' (norm d) t):df H H' d t:=by
 cases d with
 |ed m k i ws =>
  obtain⟨e,a,n,b⟩:=h;exact⟨e,a,n,by rw[L3]at b;exact b⟩
 |_=>exact h
def C3:br->List Str
 | .nums kd ns=>if kd=ar "put off" then ar "put"::ar "off"::ns.map num else kd::ns.map num
 |d=>j3 d::d6 d
theorem Gu (d:br):fA d=gp bl1 (C3 d):=by
 cases d with
 |nums kd ns =>
  show gp bl1 (kd::ns.map num)=gp bl1 (if kd=ar "put off" then _ else _)
  split
  ·rename_i h;rw[h];have e:ar "put off"=gp bl1 [ar "put",ar "off"]:=by trivial
   rw[e];exact join_join bl1 [ar "put",ar "off"] (ns.map num) (UX _ _)
  ·rfl
 |_=>rfl
theorem E4 {i:Int}(h0:0<=i)(h1:i < 10 ^ 10):32∉(num i).cps.toList:=λz=>by
 have:=(zX h0 h1).1;simp only[cG,gc]at this;have:=List.all_eq_true.mp this.2.2.1 32 z;revert this;decide
theorem E5 {d:br}(o:DOk d):∀w∈C3 d,32∉w.cps.toList:=by
 have lit:∀x∈([ar "matter",sl1,ar "mend",ar "change",kn 0,kn 1,kn 2,ar "point",ar "put",ar "off",ar "vote",ar "take",ar "close",ar "lay",ar "rest",ar "drop"]:List Str),32∉x.cps.toList:=by trivial
 cases d with
 |mat cs =>
  intro w hw;have hw':w∈ar "matter"::cs.flatMap (λws=>sl1::ws):=hw
  rcases List.mem_cons.mp hw' with rfl | hw'
  ·exact lit _ (by simp)
  ·obtain⟨ws,h1,h2⟩:=List.mem_flatMap.mp hw';rcases List.mem_cons.mp h2 with rfl | h2
   ·exact lit _ (by simp)
   ·exact((o.2 ws h1).wd w h2).free
 |ed m k i ws =>
  obtain⟨o1,⟨i0,i1⟩,o3,_⟩:=o;intro w hw;have hw':w∈kEd m::kn k::num i::(if k=1 then [] else ws):=hw
  rcases List.mem_cons.mp hw' with rfl | hw'
  ·cases m <;> exact lit _ (by simp[kEd])
  rcases List.mem_cons.mp hw' with rfl | hw'
  ·rcases o1 with rfl | rfl | rfl <;> exact lit _ (by simp)
  rcases List.mem_cons.mp hw' with rfl | hw'
  ·exact E4 i0 i1
  split at hw'
  ·cases hw'
  ·exact(o3.wd w hw').free
 |pt ws =>
  intro w hw;have hw':w∈ar "point"::ws:=hw;rcases List.mem_cons.mp hw' with rfl | hw'
  ·exact lit _ (by simp)
  ·exact(o.wd w hw').free
 |nums kd ns =>
  obtain⟨o1,o2⟩:=o;intro w hw;have nf:∀w∈ns.map num,32∉w.cps.toList:=λw hw=>by
   obtain⟨i,hi,rfl⟩:=List.mem_map.mp hw;exact E4 (o2 i hi).1 (o2 i hi).2
  have hw':w∈(if kd=ar "put off" then ar "put"::ar "off"::ns.map num else kd::ns.map num):=hw
  split at hw'
  ·rcases List.mem_cons.mp hw' with rfl | hw'
   ·exact lit _ (by simp)
   rcases List.mem_cons.mp hw' with rfl | hw'
   ·exact lit _ (by simp)
   ·exact nf w hw'
  ·rename_i hk;rcases List.mem_cons.mp hw' with rfl | hw'
   ·simp only[fw,Wt,VO,or_false,WE]at o1;rcases o1 with ⟨rfl,_⟩ | ⟨rfl,_⟩ | ⟨rfl,_⟩ | ⟨rfl,_⟩ | ⟨rfl,_⟩ | ⟨rfl,_⟩ | ⟨rfl,_⟩
    ·exact absurd rfl hk
    all_goals exact lit _ (by simp)
   ·exact nf w hw'
theorem Bu {d:br}(o:DOk d):Txt.split (fA d) bl1=C3 d:=by
 rw[Gu,dU];refine l4 ?_ (E5 o);cases d with
 |nums kd ns =>
  show (if kd=ar "put off" then _ else _)≠[]
  split <;> exact UX _ _
 |_=>exact UX _ _
theorem qZ:∀(ws:List Str) (acc:List (List Str)) (c rest:List Str),(∀w∈ws,w≠sl1)->True->∀tl:List Str,clausesOf (acc++[c]) (ws++tl)=clausesOf (acc++[c++ws]) tl
 |[],acc,c,_,_,_,tl=>by simp
 |w::ws,acc,c,r,h,_,tl=>by
  show clausesOf (acc++[c]) (w::(ws++tl))=_;rw[clausesOf,if_neg (h w kb),if_neg (by simp)]
  have e1:(acc++[c]).dropLast=acc:=by simp
  have e2:(acc++[c]).getLastD []=c:=by simp
  rw[e1,e2,qZ ws acc (c++[w]) r (λx hx=>h x (kr _ hx)) trivial tl]
  simp
theorem uw:∀(cs acc:List (List Str)),(∀ws∈cs,∀w∈ws,w≠sl1)->clausesOf acc (cs.flatMap λws=>sl1::ws)=some (acc++cs)
 |[],acc,_=>by simp[clausesOf]
 |ws::cs,acc,h=>by
  rw[List.flatMap_cons];show clausesOf acc (sl1::(ws++cs.flatMap λws=>sl1::ws))=_
  rw[clausesOf,if_pos rfl,qZ ws acc [] [] (h ws kb) trivial,uw cs _ λx hx=>h x (kr _ hx)]
  simp
theorem Jd {kd:Str}(h:kd∈Jb)(r:¬kd=ar "matter"/\¬kd=ar "change"/\¬kd=ar "mend"/\¬kd=ar "put"/\¬kd=ar "point")
  (r2:¬kd=ar "vote"/\¬kd=ar "take"):bR [kd]=some (.nums kd []):=by
 rw[bR,if_neg r.1,if_neg r.2.1,if_neg r.2.2.1,if_neg r.2.2.2.1,if_neg r.2.2.2.2,if_neg r2.1,if_neg r2.2,if_pos ⟨h,rfl⟩]
theorem lJ {d:br}(o:DOk d)(so:LZ d):bR (C3 d)=some (norm d):=by
 have k1:¬ar "change"=ar "matter":=by trivial
 have k2:¬ar "mend"=ar "matter"/\¬ar "mend"=ar "change":=by trivial
 have k3:¬ar "put"=ar "matter"/\¬ar "put"=ar "change"/\¬ar "put"=ar "mend":=by trivial
 have k4:¬ar "point"=ar "matter"/\¬ar "point"=ar "change"/\¬ar "point"=ar "mend"/\¬ar "point"=ar "put":=by trivial
 have rest:∀kd∈([ar "vote",ar "take",ar "close",ar "lay",ar "rest",ar "drop"]:List Str),¬kd=ar "matter"/\¬kd=ar "change"/\¬kd=ar "mend"/\¬kd=ar "put"/\¬kd=ar "point":=by trivial
 cases d with
 |mat cs =>
  show bR (ar "matter"::cs.flatMap λws=>sl1::ws)=some (.mat cs)
  rw[bR,if_pos rfl];unfold readText;rw[uw cs [] λws hw w h=>((o.2 ws hw).wd w h).ns,Vz,if_pos]
  ·rfl
  ·exact List.all_eq_true.mpr λc hc=>xY (o.2 c (by simpa using hc)).wd
 |ed m k i ws =>
  obtain⟨o1,⟨i0,i1⟩,o3,o4⟩:=o;obtain⟨n1,n2⟩:=zX i0 i1;have re:fE (kn k::num i::(if k=1 then [] else ws))=some (k,i,if k=1 then [] else ws):=by
   rw[fE,if_pos n1,n2];rcases o1 with rfl | rfl | rfl
   ·rw[if_neg Hv.1,if_neg (show ¬(0=1) by decide),if_pos (show (kn 0=kn 0\/kn 0=kn 2)/\ws.all b7=true from ⟨.inl rfl,xY o3.wd⟩),if_pos rfl]
   ·rw[if_pos rfl];rfl
   ·rw[if_neg Hv.2.1,if_neg (show ¬(2=1) by decide),if_pos (show (kn 2=kn 0\/kn 2=kn 2)/\ws.all b7=true from ⟨.inr rfl,xY o3.wd⟩),if_neg (UU Hv.2.2)]
  show bR (kEd m::kn k::num i::(if k=1 then [] else ws))=some (.ed m k i (if k=1 then [] else ws))
  cases m with
  |false =>
   show bR (ar "change"::_)=_;rw[bR,if_neg k1,if_pos rfl,re];rfl
  |true =>
   show bR (ar "mend"::_)=_;rw[bR,if_neg k2.1,if_neg k2.2,if_pos rfl];unfold iy;rw[re,Vz,if_pos]
   ·rfl
   ·by_cases hk:k=1
    ·exact .inl hk
    ·right;rw[if_neg hk];have:=o4 rfl;simp[this]
 |pt ws =>
  show bR (ar "point"::ws)=some (.pt ws);rw[bR,if_neg k4.1,if_neg k4.2.1,if_neg k4.2.2.1,if_neg k4.2.2.2,if_pos rfl,if_pos (xY o.wd)]
 |nums kd ns =>
  obtain⟨o1,o2⟩:=o;show bR (if kd=ar "put off" then ar "put"::ar "off"::ns.map num else kd::ns.map num)=some (.nums kd ns)
  simp only[fw,Wt,VO,or_false,WE]at o1;rcases o1 with ⟨rfl,hl⟩ | ⟨rfl,hl⟩ | ⟨rfl,hl⟩ | ⟨rfl,hl⟩ | ⟨rfl,hl⟩ | ⟨rfl,hl⟩ | ⟨rfl,hl⟩
  ·obtain⟨n,rfl⟩:=List.length_eq_one_iff.mp hl;obtain⟨b1,b2⟩:=zX (o2 n (by simp)).1 (o2 n (by simp)).2
   obtain⟨s1,s2⟩:=so rfl n (by simp)
   rw[if_pos rfl,bR,if_neg k3.1,if_neg k3.2.1,if_neg k3.2.2,if_pos rfl];show (qd [ar "off",num n]).map _=_;rw[qd,b2,if_pos ⟨rfl,b1,s1,s2⟩];rfl
  ·obtain⟨a,b,rfl⟩:∃x n,ns=[x,n]:=by
    match ns,hl with
    |[x,n],_=>exact⟨x,n,rfl⟩
   obtain⟨b1,b2⟩:=zX (o2 a (by simp)).1 (o2 a (by simp)).2
   obtain⟨c1,c2⟩:=zX (o2 b (by simp)).1 (o2 b (by simp)).2
   obtain⟨r1,r2,r3,r4,r5⟩:=rest (ar "vote") (by simp)
   rw[if_neg (by trivial),bR,if_neg r1,if_neg r2,if_neg r3,if_neg r4,if_neg r5,if_pos rfl]
   show uq [num a,num b]=_;rw[uq,b2,c2,if_pos ⟨b1,c1⟩]
  ·obtain⟨n,rfl⟩:=List.length_eq_one_iff.mp hl;obtain⟨b1,b2⟩:=zX (o2 n (by simp)).1 (o2 n (by simp)).2
   obtain⟨r1,r2,r3,r4,r5⟩:=rest (ar "take") (by simp)
   rw[if_neg (by trivial),bR,if_neg r1,if_neg r2,if_neg r3,if_neg r4,if_neg r5,if_neg (by trivial),if_pos rfl]
   show ur [num n]=_;rw[ur,b2,if_pos b1]
  all_goals
   obtain rfl:=List.length_eq_zero_iff.mp hl;rw[if_neg (by trivial)]
   exact Jd (by trivial) (rest _ (by simp)) (by trivial)
theorem row_read {d:br}(o:DOk d)(so:LZ d):bR (Txt.split (fA d) bl1)=some (norm d):=by rw[Bu o,lJ o so]
theorem L4 {d:br}(o:DOk d):Asc (fA d):=by
 have e:=Bu o;have hne:∀w∈j3 d::d6 d,Asc w:=by
  have lit:∀x∈([ar "matter",sl1,ar "mend",ar "change",kn 0,kn 1,kn 2,ar "point",ar "put off",ar "vote",ar "take",ar "close",ar "lay",ar "rest",ar "drop"]:List Str),∀c∈x.cps.toList,c < 128:=by trivial
  have nf:∀ {i:Int},0<=i->i < 10 ^ 10->Asc (num i):=λh0 h1 c hc=>by
   have:=(zX h0 h1).1;simp only[cG,gc]at this;have:=List.all_eq_true.mp this.2.2.1 c hc;simp only[kZ,gc,decide_eq_true_iff]at this;omega
  cases d with
  |mat cs =>
   intro w hw;rcases List.mem_cons.mp hw with rfl | hw'
   ·exact lit _ (by simp[j3])
   ·obtain⟨ws,h1,h2⟩:=List.mem_flatMap.mp hw';rcases List.mem_cons.mp h2 with rfl | h2
    ·exact lit _ (by simp)
    ·exact((o.2 ws h1).wd w h2).asc
  |ed m k i ws =>
   obtain⟨o1,⟨i0,i1⟩,o3,_⟩:=o;intro w hw;have hw':w∈kEd m::kn k::num i::(if k=1 then [] else ws):=hw
   rcases List.mem_cons.mp hw' with rfl | hw'
   ·cases m <;> exact lit _ (by simp[kEd])
   rcases List.mem_cons.mp hw' with rfl | hw'
   ·rcases o1 with rfl | rfl | rfl <;> exact lit _ (by simp)
   rcases List.mem_cons.mp hw' with rfl | hw'
   ·exact nf i0 i1
   split at hw'
   ·cases hw'
   ·exact(o3.wd w hw').asc
  |pt ws =>
   intro w hw;rcases List.mem_cons.mp hw with rfl | hw'
   ·exact lit _ (by simp[j3])
   ·exact(o.wd w hw').asc
  |nums kd ns =>
   obtain⟨o1,o2⟩:=o;intro w hw;rcases List.mem_cons.mp hw with hk | hw'
   ·have o1':=o1;simp only[fw,Wt,VO,or_false,WE]at o1';rw[hk];show Asc kd;rcases o1' with ⟨rfl,_⟩ | ⟨rfl,_⟩ | ⟨rfl,_⟩ | ⟨rfl,_⟩ | ⟨rfl,_⟩ | ⟨rfl,_⟩ | ⟨rfl,_⟩ <;> exact lit _ (by simp)
   ·obtain⟨i,hi,rfl⟩:=List.mem_map.mp hw';exact nf (o2 i hi).1 (o2 i hi).2
 have hs:Asc bl1:=by
  rw[dU];intro c hc;have:c=32:=by simpa using hc
  omega
 exact iw hs _ hne
end R
mutual
theorem DV.same {K:ba}{H H':Hp}(s:aS H H'):∀(d:PyData) {x:V},DV K H d x->DV K H' d x
 | .none,_,h=>by unfold DV at h ⊢;exact h
 | .bool _,_,h=>by unfold DV at h ⊢;exact h
 | .int _,_,h=>by unfold DV at h ⊢;exact h
 | .str _,_,h=>by unfold DV at h ⊢;exact h
 | .list ds,_,h=>by
  unfold DV at h ⊢;obtain⟨a,xs,e,h1,h2⟩:=h;exact⟨a,xs,e,s.seq h1,DVs.same s ds h2⟩
 | .tuple ds,_,h=>by
  unfold DV at h ⊢;obtain⟨a,xs,e,h1,h2⟩:=h;exact⟨a,xs,e,eD s h1,DVs.same s ds h2⟩
 | .dict _,_,h=>by unfold DV at h;exact h.elim
theorem DVs.same {K:ba}{H H':Hp}(s:aS H H'):∀(ds:List PyData) {xs:List V},DVs K H ds xs->DVs K H' ds xs
 |[],_,h=>by unfold DVs at h ⊢;exact h
 |d::ds,_,h=>by
  unfold DVs at h ⊢;obtain⟨x,r,e,h1,h2⟩:=h;exact⟨x,r,e,DV.same s d h1,DVs.same s ds h2⟩
end
theorem Bv {d:PyData}(h1:d.canLay0=true)(h2:d.depth<=64):SeqAt.shaped d=true:=by
 show (d.canLay0 && decide (d.depth<=64))=true;rw[h1,decide_eq_true h2];rfl
def E6 (H H':Hp):R.br->Addr->Prop
 | .mat cs,t=>∃L,H t=none/\H L=none/\H' t=some (.tup [.str (ar "matter"),.ref L])/\H' L=some (.lst ((cs.map (gp R.bl1)).map V.str))
 | .ed m k j ws,t=>∃e,H t=none/\H e=none/\H' t=some (.tup [.str (R.kEd m),.ref e])/\H' e=some (.tup (R.edR k j (gp R.bl1 ws)))
 | .pt ws,t=>H t=none/\H' t=some (.tup [.str (ar "point"),.str (gp R.bl1 ws)])
 | .nums kd ns,t=>H t=none/\H' t=some (.tup (.str kd::ns.map V.int))
theorem E6.c {i:Nat}{c:Col}{H H':Hp}{t:Addr}:∀ {d:R.br},E6 H H' d t->j6 i (cC c H) H' d t
 | .mat _,⟨L,h1,h2,h3,h4⟩=>⟨L,⟨by rw[dW h1];exact aW,h3⟩,by rw[dW h2];exact aW,h4⟩
 | .ed _ _ _ _,⟨e,h1,h2,h3,h4⟩=>⟨e,⟨by rw[dW h1];exact aW,h3⟩,dW h2,.inl h4⟩
 | .pt _,⟨h1,h2⟩=>⟨by rw[dW h1];exact aW,h2⟩
 | .nums _ _,⟨h1,h2⟩=>⟨by rw[dW h1];exact aW,h2⟩
theorem E6.pre {H0 H H':Hp}(s:aS H0 H){t:Addr}:∀ {d:R.br},E6 H H' d t->E6 H0 H' d t
 | .mat _,⟨L,h1,h2,h3,h4⟩=>⟨L,same_none s h1,same_none s h2,h3,h4⟩
 | .ed _ _ _ _,⟨e,h1,h2,h3,h4⟩=>⟨e,same_none s h1,same_none s h2,h3,h4⟩
 | .pt _,⟨h1,h2⟩=>⟨same_none s h1,h2⟩
 | .nums _ _,⟨h1,h2⟩=>⟨same_none s h1,h2⟩
def vA (c:Col)(H:Hp)(t:Addr)(xs:List V):Prop:=c t=none/\H t=some (.tup xs)
def wQ (c:Col)(H:Hp):R.br->Addr->Prop
 | .mat cs,t=>∃L,vA c H t [.str (ar "matter"),.ref L]/\c L=none/\H L=some (.lst ((cs.map (gp R.bl1)).map V.str))
 | .ed m k j ws,t=>∃e,vA c H t [.str (R.kEd m),.ref e]/\TupAt c H e (R.edR k j (gp R.bl1 ws))
 | .pt ws,t=>vA c H t [.str (ar "point"),.str (gp R.bl1 ws)]
 | .nums kd ns,t=>vA c H t (.str kd::ns.map V.int)
theorem vA.c {i:Nat}{c:Col}{H:Hp}{t:Addr}{xs:List V}(h:vA c H t xs):vw i c H t xs:=⟨by rw[h.1];exact aW,h.2⟩
theorem vA.step {W:Option (Nat×Rl)->Prop}{c c':Col}{H H':Hp}{t:Addr}{xs:List V}(s:Step W c c' H H')(h:vA c H t xs):vA c' H' t xs:=eZ s h.1 h.2
theorem wQ.step {W:Option (Nat×Rl)->Prop}{c c':Col}{H H':Hp}{t:Addr}(s:Step W c c' H H'):∀ {d:R.br},wQ c H d t->wQ c' H' d t
 | .mat _,⟨L,a,b1,b2⟩=>⟨L,a.step s,eZ s b1 b2⟩
 | .ed _ _ _ _,⟨e,a,b⟩=>⟨e,a.step s,b.step s⟩
 | .pt _,h=>vA.step s h
 | .nums _ _,h=>vA.step s h
theorem wQ.c {i:Nat}{c:Col}{H:Hp}{t:Addr}:∀ {d:R.br},wQ c H d t->j6 i c H d t
 | .mat _,⟨L,a,b1,b2⟩=>⟨L,a.c,by rw[b1];exact aW,b2⟩
 | .ed _ _ _ _,⟨e,a,b⟩=>⟨e,a.c,b⟩
 | .pt _,h=>vA.c h
 | .nums _ _,h=>vA.c h
theorem wQ.kind {c:Col}{H:Hp}{t:Addr}:∀ {d:R.br},wQ c H d t->∃xs,H t=some (.tup (.str (R.j3 d)::xs))
 | .mat _,⟨_,a,_⟩=>⟨_,a.2⟩
 | .ed _ _ _ _,⟨_,a,_⟩=>⟨_,a.2⟩
 | .pt _,h=>⟨_,h.2⟩
 | .nums _ _,h=>⟨_,h.2⟩
theorem Bw {W:Option (Nat×Rl)->Prop}(n:¬W none){c c':Col}{H1 H2:Hp}{x dx:Addr}{o:HO}(hx:H1 x=none)(hdx:H1 dx=none)(hk:∀a v,(upd (upd H1 dx (.own x)) x o) a=some v->a≠x->H2 a=some v/\c' a=c a):Step W c c' H1 H2:=by
 have old:∀a v,H1 a=some v->H2 a=some v/\c' a=c a:=λa v h =>
  hk a v ((ax (aQ h hx)).trans ((ax (aQ h hdx)).trans h)) (aQ h hx)
 exact⟨n,λa v h _=>(old a v h).1,λa v h=>⟨v,(old a v h).1⟩,λa v h _=>(old a v h).2⟩
section
variable{P:ko}{w:World}{K:ba}{mg:Str->Option Value}{base:Heap}{A:Adr}
theorem Xc.mat (T:Txt w.params K mg A){H:Hp}{C:Value}{d:Option Addr}:∀ {x:Xc},x.At A H C d->kj K C (.ref A.bc)=some true
 | .zM _,⟨e,_⟩=>by rw[e];exact T.gC
 | .ui _,⟨e,_⟩=>by rw[e];exact T.kW
 | .Ly _,⟨e,_⟩=>by rw[e];exact T.mK
 | .zN,⟨e,_⟩=>by rw[e];exact T.kT
 | .noChange,⟨e,_⟩=>by rw[e];exact T.kU
 | .noFit,⟨e,_⟩=>by rw[e];exact T.gK
 | .nothing,⟨e,_⟩=>by rw[e];exact T.fX
 | .tooMany,⟨e,_⟩=>by rw[e];exact T.fY
 | .Hq,⟨e,_⟩=>by rw[e];exact T.lQ
 | .ER,⟨e,_⟩=>by rw[e];exact T.fv
end
def Je (A:Adr)(i:Nat):Sp:=λvs H Q _=>∃(o:Addr) (c:Col) (st:Ch),vs=[.ref o]/\cV A i c H o st/\∀l,H l=none->Q (.ref l) (upd H l (.lst (st.rows.map V.str)))
section
variable{P:ko}{w:World}{K:ba}{mg:Str->Option Value}{base:Heap}{A:Adr}
theorem Gv (T:Txt w.params K mg A){i:Nat}:FnOk P w K mg base CX0 1 A.gw A.fK ["self"] (Je A i):=by
 refine T.tX.ok rB (λvs H Q E h=>?_) (λcdv A' outer s H vs Q E hr h=>?_)
 ·obtain⟨o,c,st,rfl,_⟩:=h;rfl
 ·obtain⟨o,c,st,rfl,hc,q⟩:=h;obtain⟨dx,aM,aP,aA,aD,aF,aE,aR,ms,ds,ws,fs,es,X⟩:=hc.ex;refine⟨_,(aq (aI (dS dY (by rfl) T.rT lZ (aa (bF (pv 0) rfl) ae)))),?_⟩
  try dsimp only[bh]
  exact iA rfl X.ob T.az T.d7 uh ⟨aR,_,rfl,.inl (SqL.of X.rows.2),q⟩
end
def MnT (c:Col)(H:Hp)(m:Mn)(t:Addr):Prop:=c t=none/\∃v,H t=some (.tup (rowOf m.k v))/\m.Val c H v
theorem MnT.step {W:Option (Nat×Rl)->Prop}{c c':Col}{H H':Hp}{m:Mn}{t:Addr}(s:Step W c c' H H')(h:MnT c H m t):MnT c' H' m t:=by
 obtain⟨n,v,h,hv⟩:=h;have hn:¬W (c t):=by rw[n];exact s.nn
 exact⟨by rw[s.col t _ h hn];exact n,v,s.keep _ _ h hn,hv.step s⟩
theorem L5:∀(as:List (Nat×Int×List Nat)) (ws:List V),as.length=ws.length->(bQ ((as.map (·.1)).zip ws)).map (·.1)=(as.map λx=>(x.1:Int)).map U0:=by
 intro as
 induction as with
 |nil=>intro ws _;cases ws <;> rfl
 |cons a as ih =>
  intro ws h;cases ws with
  |nil=>cases h
  |cons w ws =>
   rw[kx,fR,kx,ih ws (by simpa using h)]
   rfl
def AsC (c:Col)(H:Hp)(x:Nat×Int×List Nat)(v:V):Prop:=∃u l,v=.ref u/\(c u=none/\H u=some (.tup [nV x.1,.int x.2.1,.ref l]))/\c l=none/\H l=some (.lst (x.2.2.map nV))
def DcC (c:Col)(H:Hp)(x:Nat×Str)(v:V):Prop:=∃t,v=.ref t/\TupAt c H t [nV x.1,.str x.2]
structure StX (c:Col)(H:Hp)(st:Ch)(ns:List Int)(u l1 R l2:Addr)(ys ds:List V):Prop where
 cu:c u=none
 hu:H u=some (.tup [.int st.bC,.bl st.closed,.ref l1,.ref R,.ref l2])
 c1:c l1=none
 h1:H l1=some (.lst (st.aV.map nV))
 cR:c R=none
 hR:H R=some (.lst ys)
 asd:bZ (AsC c H) (ns.map (Nv st)) ys
 c2:c l2=none
 h2:H l2=some (.lst ds)
 dec:bZ (DcC c H) st.decided ds
def ND (c:Col)(H:Hp)(st:Ch)(ns:List Int)(u:Addr):Prop:=∃l1 R l2 ys ds,StX c H st ns u l1 R l2 ys ds
theorem AsC.step {W:Option (Nat×Rl)->Prop}{c c':Col}{H H':Hp}{x:Nat×Int×List Nat}{v:V}(s:Step W c c' H H'):AsC c H x v->AsC c' H' x v
 |⟨u,l,e,⟨h1,h2⟩,h3,h4⟩=>⟨u,l,e,eZ s h1 h2,eZ s h3 h4⟩
theorem DcC.step {W:Option (Nat×Rl)->Prop}{c c':Col}{H H':Hp}{x:Nat×Str}{v:V}(s:Step W c c' H H'):DcC c H x v->DcC c' H' x v
 |⟨t,e,h⟩=>⟨t,e,h.step s⟩
theorem StX.step {W:Option (Nat×Rl)->Prop}{c c':Col}{H H':Hp}{st:Ch}{ns:List Int}{u l1 R l2:Addr}{ys ds:List V}(s:Step W c c' H H')(h:StX c H st ns u l1 R l2 ys ds):StX c' H' st ns u l1 R l2 ys ds :=
 ⟨(eZ s h.cu h.hu).1,(eZ s h.cu h.hu).2,(eZ s h.c1 h.h1).1,(eZ s h.c1 h.h1).2,(eZ s h.cR h.hR).1,(eZ s h.cR h.hR).2,h.asd.imp λ_ _ z=>z.step s,(eZ s h.c2 h.h2).1,(eZ s h.c2 h.h2).2,h.dec.imp λ_ _ z=>z.step s⟩
theorem ND.step {W:Option (Nat×Rl)->Prop}{c c':Col}{H H':Hp}{st:Ch}{ns:List Int}{u:Addr}(s:Step W c c' H H'):ND c H st ns u->ND c' H' st ns u
 |⟨l1,R,l2,ys,ds,h⟩=>⟨l1,R,l2,ys,ds,h.step s⟩
def L6 (A:Adr)(i:Nat):Sp:=λvs H Q _=>∃(o:Addr) (c:Col) (st:Ch),vs=[.ref o]/\cV A i c H o st/\st.bg.length < 64 /\
 ∀(ns:List Int) (u:Addr) (H':Hp),List.Perm ns (st.bg.map λx=>(x.1:Int))->ns.Pairwise (·<=·)->aS H H'->ND (cC c H) H' st ns u->Q (.ref u) H'
def AsN (H0 H:Hp)(R:Addr)(x:Nat×Int×List Nat)(v:V):Prop:=∃u l,v=.ref u/\(u≠R/\l≠R)/\(H0 u=none/\H0 l=none)/\H u=some (.tup [nV x.1,.int x.2.1,.ref l])/\H l=some (.lst (x.2.2.map nV))
theorem AsN.same {H0 H H':Hp}{R:Addr}{x:Nat×Int×List Nat}{v:V}(s:aS H H'):AsN H0 H R x v->AsN H0 H' R x v
 |⟨u,l,e,h1,h2,h3,h4⟩=>⟨u,l,e,h1,h2,s _ _ h3,s _ _ h4⟩
theorem AsN.upd {H0 H:Hp}{R:Addr}{o:HO}{x:Nat×Int×List Nat}{v:V}:AsN H0 H R x v->AsN H0 (L2.upd H R o) R x v
 |⟨u,l,e,h1,h2,h3,h4⟩=>⟨u,l,e,h1,h2,(ax h1.1).trans h3,(ax h1.2).trans h4⟩
section
variable{P:ko}{w:World}{K:ba}{mg:Str->Option Value}{base:Heap}{A:Adr}
theorem Jf (T:Txt w.params K mg A){i:Nat}:FnOk P w K mg base CX0 2 A.iL A.gW ["self"] (L6 A i):=by
 refine T.xx.ok uK (λvs H Q E h=>?_) (λcdv A' outer s H vs Q E hr h=>?_)
 ·obtain⟨o,c,st,rfl,_⟩:=h;rfl
 ·obtain⟨o,c,st,rfl,hc,hal,q⟩:=h;obtain⟨dx,aM,aP,aA,aD,aF,aE,aR,ms,ds,ws,fs,es,X⟩:=hc.ex;have lim:de=16777216:=by decide
  refine⟨_,(ak (FH (i:=1) (scope:=iP) rA rfl rfl (ro rfl) (g8 (bB (B1 hr.hd) (by rfl) T.K8 Iq (aa (bF (pv 0) rfl) ae))) (λ_ _ _ _ _=>(c9 (pv 1) T.az T.o9 (AI (i:=i) T) hr T.pf .nil a6 (aa (pv 0) ae))))
 (aq (aI (a8 (aa (bF (pv 0) rfl) (aa (bF (pv 0) rfl) (aa (dS dY (by rfl) T.rT lZ (aa (bF (pv 0) rfl) ae)) (aa (pv 1) (aa (dS dY (by rfl) T.rT lZ (aa (bF (pv 0) rfl) ae)) ae))))))))),?_⟩
  try dsimp only[bh]
  refine iA rfl X.ob T.az T.g0 Bl ⟨aA,_,_,rfl,X.bg.2,L5 st.bg ws X.wait.len,by rw[da];exact hal,λl0 ns pm so hl0=>?_⟩
  have nl:ns.length=st.bg.length:=by rw[pm.length_eq,da]
  have s0:=aw (o:=.lst (ns.map V.int)) hl0;have hB:SqL K (upd H l0 (.lst (ns.map V.int))) l0 (ns.map V.int):=SqL.of af;generalize upd H l0 (.lst (ns.map V.int))=H1 at s0 hB ⊢;refine⟨l0,rfl,⟨_,hB⟩,λR hR=>?_⟩
  have hR0:=same_none s0 hR;refine pO (K:=K) (a:=l0) (xs:=ns.map V.int) (λj ys H2=>aS H1 H2/\H2 R=some (.lst ys)/\bZ (AsN H H2 R) ((ns.take j).map (Nv st)) ys) ⟨aw hR,af,.nil⟩ (by rw[da];omega) ?_ ?_ ?_
  ·rintro j ys H2 hj ⟨s2,hR2,ha⟩;refine⟨s2.seq hB,hR2,?_⟩;rw[<-ha.len,da,Vy];rw[da]at hj;omega
  ·rintro j y ys H2 hy ⟨s2,hR2,ha⟩;refine aX λGq gq=>?_
   obtain⟨n,hn1,rfl⟩:∃n,ns[j]?=some n/\V.int n=y:=by
    rw[U5]at hy;cases ht:ns[j]? with
    |none=>rw[ht]at hy;cases hy
    |some t=>rw[ht]at hy;exact⟨t,rfl,ra hy⟩
   have Qj:n∈st.bg.map λx=>(x.1:Int):=pm.mem_iff.mp (ma hn1)
   obtain⟨x0,hx0,e0⟩:=List.mem_map.mp Qj;obtain⟨x,hx⟩:∃x,at1 x0.1 st.bg=some x:=by
    cases z:at1 x0.1 st.bg with
    |some x=>exact⟨x,rfl⟩
    |none=>exact absurd (List.mem_map_of_mem hx0) (LA z)
   have e0':((x0.1:Nat):Int)=n:=e0;subst e0';have s02:=s0.trans s2;have X2:=X.same s02;have ea:Nv st ((x0.1:Nat):Int)=x:=by unfold Nv;rw[Int.toNat_natCast,hx];rfl
   refine gq ?_;refine mtv rfl X2.ob (kY (by trivial)) ⟨_,rfl,o,x0.1,c,st,x,rfl,X2.at,hx,λl u H3 hl hu s3 h1 h2=>?_⟩
   have hR3:=s3 _ _ hR2;refine dF.mk (List.getElem?_eq_some_iff.mp hy).1 hR3 ⟨(s2.trans s3).own hR,af,?_⟩;rw[Wx,hn1,UZ];refine bZ.snoc (ha.imp λ_ _ z=>(z.same s3).upd) ?_
   rw[ea];refine AsN.upd ⟨u,l,rfl,⟨(λz=>by rw[z,hR2]at hu;cases hu),(λz=>by rw[z,hR2]at hl;cases hl)⟩,⟨same_none s02 hu,same_none s02 hl⟩,?_,h1⟩
   rw[(Hr hx).1];exact h2
  ·rintro ys H2 ⟨s2,hR2,ha⟩;rw[da,VP]at ha;have s02:=s0.trans s2;have X2:=X.same s02;refine iA rfl X2.ob T.az T.d5 pA (iA rfl X2.ob T.az T.et zJ (iA rfl X2.ob T.az T.cO lS ⟨aP,_,rfl,.inl (SqL.of X2.aV.2),λl1 hl1=>?_⟩))
   have s3:=aw (o:=.lst (st.aV.map nV)) hl1;have X3:=X2.same s3;have s03:=s02.trans s3;refine⟨_,rfl,iA rfl X3.ob T.az T.fO wO ⟨aD,_,rfl,.inl (SqL.of X3.dec.2),λl2 hl2=>⟨(sl 5),λu hu=>?_⟩⟩⟩
   have s4:=aw (o:=.lst (ds.map V.ref)) hl2;have s5:=aw (o:=.tup [V.int st.bC,.bl st.closed,.ref l1,.ref R,.ref l2]) hu;have s45:=s4.trans s5;have s05:=s03.trans s45;have X5:=X3.same s45;refine q ns u _ pm so s05 ⟨l1,R,l2,ys,ds.map V.ref,dW (same_none (s03.trans s4) hu),af,dW (same_none s02 hl1),s45 _ _ af,dW hR0,(s3.trans s45) _ _ hR2,?_,dW (same_none s03 hl2),s5 _ _ af,?_⟩
   ·refine ha.imp λx v z=>?_
    refine aX λGq gq=>?_
    obtain⟨u',l',e,_,⟨z1,z2⟩,z3,z4⟩:=z.same (s3.trans s45);refine gq ?_;exact⟨u',l',e,⟨dW z1,z3⟩,dW z2,z4⟩
   ·refine bZ.mapR (X5.CW.imp λx t h=>⟨t,rfl,?_,h.2⟩)
    unfold cC;split
    ·exact h.1
    ·rfl
end
def isX:Rs->Bool
 | .exc _=>true
 |_=>false
def E7 (d:R.br):Prop:=EZ d/\R.DOk d/\R.LZ d
theorem Gw {st:Ch}{d:R.br}(hd:EZ d){x:Xc}(h:(bJ st d).1=.exc x):(bJ st d).2=st:=by
 cases hd with
 |drop =>
  rw[jC]at h ⊢;unfold nH at h ⊢;split
  ·rfl
  ·rename_i n hn;rw[hn]at h;cases h
 |move hm =>
  rw[jD hm]at h ⊢;unfold nI at h ⊢;split
  ·rfl
  ·rename_i hc;rw[hc]at h;cases h
theorem Bx {st:Ch}{d:R.br}(hd:DdV st d){x:Xc}(h:(bJ st d).1=.exc x):(bJ st d).2=st:=by
 cases hd with
 |ok hd=>exact Gw hd h
 |Qp =>
  rw[zS];unfold Br;split <;> rfl
theorem Jg {st:Ch}{d:R.br}(hd:EZ d)(hn:R.DOk d)(h:isX (bJ st d).1=false):(bJ st d).2.rows=st.rows++[R.fA d]:=by
 cases hd with
 |drop =>
  rw[jC]at h ⊢;unfold nH at h ⊢;cases e:st.aV.getLast? with
  |none=>rw[e]at h;cases h
  |some n=>rfl
 |move hm =>
  rw[jD hm]at h ⊢;unfold nI at h ⊢;cases e:zQ st (f6 d) with
  |some x=>rw[e]at h;cases h
  |none=>rfl
def jG (n:Int)(ds:List R.br):Ch:=ds.foldl (λst d=>(bJ st d).2) (pG n)
theorem By (n:Int)(ds:List R.br)(d:R.br):jG n (ds++[d])=(bJ (jG n ds) d).2:=by
 unfold jG;rw[List.foldl_append];rfl
structure Rep (n:Int)(ds:List R.br)(st:Ch):Prop where
 run:jG n ds=st
 ok:∀d∈ds,E7 d
 good:∀i d,ds[i]?=some d->isX (bJ (jG n (ds.take i)) d).1=false
 rows:st.rows=ds.map R.fA
theorem Rep.nil (n:Int):Rep n [] (pG n):=⟨rfl,(λ_ h=>nomatch h),(λ_ _ h=>by simp at h),rfl⟩
theorem Rep.snoc {n:Int}{ds:List R.br}{st:Ch}{d:R.br}(h:Rep n ds st)(hd:E7 d)(hx:isX (bJ st d).1=false):Rep n (ds++[d]) (bJ st d).2:=by
 refine⟨by rw[By,h.run],λe he=>?_,λi e he=>?_,?_⟩
 ·rcases List.mem_append.mp he with he | he
  ·exact h.ok e he
  ·rw[wt]at he;rw[he];exact hd
 ·by_cases hi:i < ds.length
  ·rw[Vo hi]at he;rw[List.take_append_of_le_length (Nat.le_of_lt hi)];exact h.good i e he
  ·have hl:i < (ds++[d]).length:=(List.getElem?_eq_some_iff.mp he).1;rw[km,U4]at hl;obtain rfl:i=ds.length:=by omega
   rw[List.getElem?_concat_length]at he;cases he;rw[List.take_left,h.run];exact hx
 ·rw[Jg hd.1 hd.2.1 hx,h.rows,UZ];rfl
theorem Jh {d:R.br}(h:R.DOk d):(R.fA d).length<=50000:=by
 obtain⟨b1,b2,b3⟩:=R.vn h;have h1:=StrLaws.sumLen_le (B:=20) (R.j3 d::R.d6 d) (λw hw=>by
   rcases List.mem_cons.mp hw with rfl | hw
   ·exact b3
   ·exact b2 w hw)
 have h2:=ll 32 (R.j3 d::R.d6 d);unfold R.fA;rw[R.dU];rw[kf]at h1 h2;omega
theorem wR {c:Col}{H H':Hp}{t:Addr}(ht:H t=none)(hc:∀b,H b=none->c b=none):∀ {d:R.br},R.df H H' d t->wQ c H' d t
 | .mat _,⟨L,a,b,e⟩=>⟨L,⟨hc t ht,a⟩,hc L b,e⟩
 | .ed _ _ _ _,⟨e,a,n,b⟩=>⟨e,⟨hc t ht,a⟩,hc e n,.inl b⟩
 | .pt _,h=>⟨hc t ht,h⟩
 | .nums _ _,h=>⟨hc t ht,h⟩
theorem qf (n:Int):Inv 0 (pG n) :=
 ⟨kg 0,kg 0,kg 0,kg 0,(λ_ h=>nomatch h),⟨by show (1:Int)<=1;decide,by show (1:Int)<=_;decide⟩,(λ_ h=>nomatch h),(λ_ h=>nomatch h),List.nodup_nil,.nil,(λ_ h=>nomatch h),rfl,rfl,(λ_ h=>nomatch h)⟩
theorem C4 (st:Ch):st.opened.eJ=st.eJ:=by unfold Ch.opened;rfl
theorem E8 {st:Ch}{d:R.br}(h:EZ d):(bJ st d).2.eJ=st.eJ:=by
 cases h with
 |drop =>
  rw[jC];unfold nH;split
  ·rfl
  ·show ((_:Ch).AH _).eJ=_;unfold Ch.AH;rw[show ∀(x:Ch) (r:List Str),({ x.opened with rows:=r }:Ch).eJ=x.opened.eJ from λ_ _=>rfl,C4]
   rfl
 |move h =>
  rw[jD h];unfold nI;split <;> rfl
def wU (st:Ch)(z:Str):Prop:=z.length<=50000/\R.Asc z/\(R.bR (PySem.Txt.split z R.bl1)=none\/∃d,R.bR (PySem.Txt.split z R.bl1)=some d/\DdV st d/\isX (bJ st d).1=true)
def L7 (A:Adr)(i:Nat):Sp:=λvs H Q E=>∃(o:Addr) (z:Str) (n:Int) (c:Col) (st:Ch) (N:Nat),vs=[.ref o,.str z,.int n]/\cV A i c H o st/\Inv N st/\N<=600/\0<=n/\n<=1000 /\
  ((∃d,z=R.fA d/\E7 d/\isX (bJ st d).1=false/\∀c' H',Step (dn i) c c' H H'->cV A i c' H' o (bJ st d).2->Q .non H') \/
   (wU st z/\∀c' H' dd,Step (dn i) c c' H H'->H' dd=some (.xd [("row",.int n)])->E (.ref A.bV) (some dd) H'))
def Ji (A:Adr)(i:Nat):Sp:=λvs H Q E=>∃(n:Int) (l:Addr) (c:Col) (ds:List R.br) (st:Ch) (k:Nat) (tl:List Str),vs=[.int n,.ref l]/\c l=none/\H l=some (.lst (((ds.take k).map R.fA++tl).map V.str))/\Rep n ds st/\ds.length<=50/\k<=ds.length /\
 ((tl=[]/\∀o c' H',Step (dn i) c c' H H'->cV A i c' H' o (jG n (ds.take k))->Q (.ref o) H') \/
 (∃z r,tl=z::r/\wU (jG n (ds.take k)) z/\∀c' H' dd,Step (dn i) c c' H H'->H' dd=some (.xd [("row",.int ((k+1:Nat):Int))])->E (.ref A.bV) (some dd) H'))
section
variable{P:ko}{w:World}{K:ba}{mg:Str->Option Value}{base:Heap}{A:Adr}
theorem wV (T:Txt w.params K mg A):FnOkH P w K mg base 1 A.p4 A.lK ["self","row"] (uH A.bV "row"):=by
 refine T.Bj.okH qM (λvs H Q E h=>?_) (λcdv A' outer s H vs Q E hr h=>?_)
 ·obtain⟨e,v,rfl,_⟩:=h;rfl
 ·obtain⟨e,v,rfl,hx,⟨z,fz,zl⟩,q⟩:=h;refine⟨_,(ak (cS (nY T.d8 T.iu rfl T.cZ (aa (pv 0) (aa (vR (gi (kz (pv 1) nX))) ae))))
 (aq (sZ T.iu (pv 0) (pv 1)))),?_⟩
  try dsimp only[bh]
  have sz:de=16777216:=by decide
  have e5:(U7++ar "refused at the row ":Str).length=19:=by trivial
  refine⟨_,rfl,by rw[e5];omega,_,rfl,z,fz,by omega,by rw[len_app,e5];omega,by rw[len_app,e5];omega,e,_,rfl,hx,?_⟩
  exact⟨_,rfl,_,rfl,e,rfl,hx,λd hd=>q d hd⟩
theorem Gx (T:Txt w.params K mg A){i:Nat}:FnOk P w K mg base (CXB false P w) 9 A.FV A.uT ["chamber","row","number"] (L7 A i):=by
 have E9:FnOk P w K mg base (CXX P w) 7 A.pU A.iX ["row"] (R.Hw K A):=R.uv T;have vB:FnOkH P w K mg base 1 A.p4 A.lK ["self","row"] (uH A.bV "row"):=wV T;refine T.Ef.okXB Iu (λvs H Q E h=>?_) (λcdv A' outer s H vs Q E hr h=>?_)
 ·obtain⟨o,z,n,c,st,N,rfl,_⟩:=h;rfl
 ·obtain⟨o,z,n,c,st,N,rfl,hc,I,hN,n0,n1,q⟩:=h;have lg:n.natAbs.log2 < 1920:=dD (by omega) (by omega)
  have ln:(ar (toString n)).length<=20:=fZ (by omega) (by omega)
  refine⟨_,(aC (psx_tryB ⟨rfl,rfl⟩ (aC (bA (aU (zT (i:=i) T) hr rfl T.Bf T.uZ.kp T.Bg (a7 (px (pv 0)) (a7 (aU E9 (hr.mono (by decide)) rfl T.wB T.oR.kp T.wC (pax (aa (pv 1) ae))) dH)))))
 (phx_from rfl ⟨rfl,rfl⟩ T.iu vB (hr.mono (by decide)) T.p6 rfl T.cZ rfl T.p5 (λ_=>(aa (pv 2) ae)) (phx2_nil ⟨rfl,rfl⟩)))),?_⟩
  try dsimp only[bh]
  have go:∀(d:R.br) (t:Addr) (H1:Hp),aS H H1->H t=none->R.df H H1 d t->Step (dn i) c (cC c H) H H1/\cV A i (cC c H) H1 o st/\j6 i (cC c H) H1 d t:=λd t H1 s1 nt h1=>⟨Step.cl aW s1,hc.free (W:=λ_=>False) (λ_=>id) (Step.cl id s1),(wR nt (λ_ h=>dW h) h1).c⟩
  rcases q with ⟨d,rfl,hd,hx,q⟩ | ⟨⟨zl,za,hz⟩,q⟩
  ·refine⟨_,rfl,_,rfl,R.fA d,rfl,Jh hd.2.1,R.L4 hd.2.1,λe he t H1 s1 nt h1=>?_,λhe=>?_⟩
   ·rw[R.row_read hd.2.1 hd.2.2]at he;refine aX λGq gq=>?_
    cases he;obtain⟨t1,hc1,hd1⟩:=go d t H1 s1 nt (R.df.norm h1);refine gq ?_;refine⟨o,t,cC c H,st,N,d,rfl,hc1,I,by omega,.ok hd.1,hd1,?_⟩
    generalize bJ st d=rs at q hx ⊢;obtain⟨r,st'⟩:=rs;cases r with
    |num n=>exactλc2 H2 s2 hc2=>q c2 H2 (t1.trans s2) hc2
    |txt z=>exactλc2 H2 s2 hc2=>q c2 H2 (t1.trans s2) hc2
    |exc x=>cases hx
   ·rw[R.row_read hd.2.1 hd.2.2]at he;cases he
  ·refine⟨_,rfl,_,rfl,z,rfl,zl,za,λd he t H1 s1 nt h1=>?_,λhe dd H1 s1 hdd=>?_⟩
   ·rcases hz with hz | ⟨d',hz,hd,hx⟩
    ·rw[hz]at he;cases he
    ·rw[hz]at he;refine aX λGq gq=>?_
     cases he;obtain⟨t1,hc1,hd1⟩:=go d t H1 s1 nt h1;refine gq ?_;refine⟨o,t,cC c H,st,N,d,rfl,hc1,I,by omega,hd,hd1,?_⟩
     generalize bJ st d=rs at hx ⊢;obtain⟨r,st'⟩:=rs;cases r with
     |num n=>cases hx
     |txt z=>cases hx
     |exc x=>exactλc2 H2 C e s2 hc2 hat he=>⟨true,Xc.mat T hat,dZ ⟨_,rfl,_,rfl,⟨_,.int lg,ku ln (by decide)⟩,λd3 hd3=>q _ _ d3 ((t1.trans s2).trans (Step.new aW hd3 (x:=none))) af⟩⟩
   ·exact⟨true,T.gL,dZ ⟨_,rfl,_,rfl,⟨_,.int lg,ku ln (by decide)⟩,λd3 hd3=>q _ _ d3 ((Step.cl aW s1).trans (Step.new aW hd3 (x:=none))) af⟩⟩
theorem Gy (T:Txt w.params K mg A){i:Nat}:FnOk P w K mg base (CXB false P w) 10 A.replay A.uU ["seats","rows"] (Ji A i):=by
 refine T.Eg.okXB pR (λvs H Q E h=>?_) (λcdv A' outer s H vs Q E hr h=>?_)
 ·obtain⟨n,l,c,ds,st,k,tl,rfl,_⟩:=h;rfl
 ·obtain⟨n,l,c,ds,st,k,tl,rfl,cl,hl,rep,hN,hk,q⟩:=h;refine⟨_,(aj (psx (aT (i:=2) pR.nd rfl (ro rfl) (fF T.Bi (LN T) (hr.mono (by decide)) rfl T.Bh T.o8 .nil a6 (aa (pv 0) ae))))
 (aj (BR ⟨rfl,rfl⟩ rfl (pi_enum (k:=1) (by trivial) rfl T.wH (aa (pv 1) ae)) (BE rfl (hZ (eO (i:=3) pR.nd rfl (ro rfl)) (hZ (eO (i:=4) pR.nd rfl (ro rfl)) xP)))
 (aC (bA (pe_callXB rfl (Gx (i:=i) T) hr rfl T.K0 T.Ef.kp T.K1 (pax (aa (pv 2) (aa (pv 4) (aa (pv 3) ae))))))))
 (aC (psx (aI (pv 2)))))),?_⟩
  try dsimp only[bh]
  refine⟨_,rfl,λo d1 ho1 hd1 ne1=>⟨o,d1,n,rfl,af,λH2 h2=>⟨rfl,?_⟩⟩⟩
  refine aX λGq gq=>?_
  obtain⟨c1,k1,ch1⟩:=h2 i c;have st1:Step (dn i) c c1 H H2:=Bw aW ho1 hd1 k1;have kl:=eZ st1 cl hl;refine gq ?_
  try dsimp only[sN]
  have ltk:((ds.take k).map R.fA).length=k:=by rw[da,Vy];omega
  refine⟨_,rfl,l,rfl,⟨_,SqL.of kl.2⟩,?_⟩;refine for_enum (K:=K) (a:=l) (xs:=((ds.take k).map R.fA++tl).map V.str) (λj σ Hj=>∃(cj:Col) (v3 v4:Option V),σ=[some (.int n),some (.ref l),some (.ref o),v3,v4]/\Step (dn i) c cj H Hj/\cV A i cj Hj o (jG n (ds.take j))/\Inv (3 * j) (jG n (ds.take j))/\(jG n (ds.take j)).eJ=n/\j<=k)
   ⟨c1,_,_,rfl,st1,ch1,qf n,rfl,Vg _⟩ (λj σ Hj _ ⟨cj,_,_,_,sj,_⟩=>SqL.of (eZ sj cl hl).2) ?_ ?_
  ·rintro j y σ Hj t hy ⟨cj,v3,v4,rfl,sj,chj,Ij,sjn,jk⟩ ht;have sn:Step (dn i) cj (aZ cj t none) Hj (upd Hj t (.tup [.int ((j+1:Nat):Int),y])):=Step.new aW ht;have chn:=chj.free (W:=λ_=>False) (λ_=>id) (Step.new (x:=none) (o:=.tup [.int ((j+1:Nat):Int),y]) id ht)
   rw[U5]at hy
   by_cases hj:j < k
   ·obtain⟨d,hdj⟩:∃d,ds[j]?=some d:=⟨_,UT (by omega)⟩
    obtain rfl:V.str (R.fA d)=y:=by
     rw[Vo (by omega),U5,List.getElem?_take_of_lt hj,hdj]at hy
     exact ra hy
    have hd:=rep.ok d (ma hdj);refine⟨t,_,rfl,SqT.of af,rfl,_,_,rfl,_,_,rfl,rfl,?_⟩;refine⟨_,rfl,_,rfl,_,rfl,o,_,_,aZ cj t none,jG n (ds.take j),3 * j,rfl,chn,Ij,by omega,by omega,by omega,.inl ⟨d,rfl,hd,rep.good j d hdj,λc' H' s' ch'=>?_⟩⟩
    have e:jG n (ds.take (j+1))=(bJ (jG n (ds.take j)) d).2:=by rw[Wx,hdj];exact By _ _ _
    have I':=Ij.bJ hd.1;have es:=(E8 (st:=jG n (ds.take j)) hd.1).trans sjn;rw[<-e]at ch' I' es;exact⟨c',_,_,rfl,(sj.trans sn).trans s',ch',by rw[show 3 * (j+1)=3 * j+3 by omega];exact I',es,hj⟩
   ·obtain rfl:j=k:=by omega
    rw[Vb (by omega),ltk,Nat.sub_self]at hy
    rcases q with ⟨rfl,_⟩ | ⟨z,r,rfl,hz,q⟩
    ·cases hy
    ·obtain rfl:V.str z=y:=ra hy;refine⟨t,_,rfl,SqT.of af,rfl,_,_,rfl,_,_,rfl,rfl,?_⟩;exact⟨_,rfl,_,rfl,_,rfl,o,_,_,aZ cj t none,jG n (ds.take j),3 * j,rfl,chn,Ij,by omega,by omega,by omega,.inr ⟨hz,λc' H' dd s' hdd=>q c' H' dd ((sj.trans sn).trans s') hdd⟩⟩
  ·rintro σ Hj ⟨cj,v3,v4,rfl,sj,chj,Ij,sjn,jk⟩;rw[da,km,ltk]at chj jk;rcases q with ⟨rfl,q⟩ | ⟨z,r,rfl,_⟩
   ·exact⟨_,rfl,q o cj Hj sj chj⟩
   ·rw[kf]at jk;omega
end
def Qy (A:Adr)(i:Nat):Sp:=λvs H _ E=>∃(n:Int) (l:Addr) (c:Col) (ds:List R.br) (st:Ch) (k:Nat) (z:Str) (r:List Str),vs=[.int n,.ref l]/\c l=none/\H l=some (.lst (((ds.take k).map R.fA++z::r).map V.str))/\Rep n ds st/\ds.length<=50/\k<=ds.length/\wU (jG n (ds.take k)) z /\
 ∀c' H' dd,Step (dn i) c c' H H'->H' dd=some (.xd [("row",.int ((k+2:Nat):Int))])->E (.ref A.bV) (some dd) H'
section
variable{P:ko}{w:World}{K:ba}{mg:Str->Option Value}{base:Heap}{A:Adr}
theorem C5 (T:Txt w.params K mg A){i:Nat}:FnOk P w K mg base (CXG false true P w) 11 A.lJ A.mx ["seats","rows"] (Qy A i):=by
 have vB:FnOkH P w K mg base 1 A.p4 A.lK ["self","row"] (uH A.bV "row"):=wV T;refine T.wD.okXB tL (λvs H Q E h=>?_) (λcdv A' outer s H vs Q E hr h=>?_)
 ·obtain⟨n,l,c,ds,st,k,z,r,rfl,_⟩:=h;rfl
 ·obtain⟨n,l,c,ds,st,k,z,r,rfl,cl,hl,rep,hN,hk,hz,q⟩:=h;have e1:((k+1:Nat):Int)+1=((k+2:Nat):Int):=by omega
  have lg:((k+2:Nat):Int).natAbs.log2 < 1920:=dD (by omega) (by omega)
  have ln:(ar (toString ((k+2:Nat):Int))).length<=20:=fZ (by omega) (by omega)
  have lg1:((k+1:Nat):Int).natAbs.log2 < 1920:=dD (by omega) (by omega)
  refine⟨_,(aC (psx_tryC ⟨rfl,rfl⟩ (aC (b5 (pe_callXB rfl (Gy (i:=i) T) hr rfl T.K2 T.Eg.kp T.K4 (pax (aa (pv 0) (aa (pv 1) ae))))))
 (phx_fromAs (i:=2) rfl rfl ⟨rfl,rfl⟩ tL.nd rfl rfl T.iu vB (hr.mono (by decide)) T.p6 rfl T.p5 rfl T.p5 (λ_=>(aa (av rg (pe_xfldQK (K:=K) rfl (pv 2) rfl) ao) ae)) (phx3_nil ⟨rfl,rfl⟩)))),?_⟩
  try dsimp only[bh]
  refine⟨_,rfl,_,rfl,n,l,c,ds,st,k,z::r,rfl,cl,hl,rep,hN,hk,.inr ⟨z,r,rfl,hz,λc' H' dd s1 hdd=>?_⟩⟩
  refine⟨true,T.pk,dZ λea H1 hs hx=>?_⟩
  refine aX λGq gq=>?_
  obtain⟨φ,f1,hφ⟩:=hx;refine gq ?_;refine⟨_,rfl,ea,A.bV,dd,_,.int ((k+1:Nat):Int),rfl,⟨φ,f1,hφ⟩,hs dd _ hdd,T.EH,rfl,⟨_,.int lg1⟩,_,_,rfl,rfl,rfl,_,rfl,⟨_,.int (by rw[e1];exact lg),by rw[e1];exact ku ln (by decide)⟩,λd hd=>?_⟩
  dsimp only;rw[e1];exact q _ _ d ((s1.trans (Step.cl aW hs)).trans (Step.new aW hd (x:=none))) af
end
namespace R
def jH (c:Nat):Bool:=decide (97<=c) && decide (c<=122)
def bq (z:Str):Bool:=decide (1<=z.length) && (decide (z.length<=12) && z.cps.toList.all jH)
def ux (z:Str):Bool:=cG z && (decide (1<=eU z) && decide (eU z<=1000000000))
def Hx (A:Adr):Sp:=λvs H Q E=>∃z:Str,vs=[.str z]/\z.length<=60000/\(bq z=true->∀H',aS H H'->Q (.str z) H')/\(bq z=false->nK A 1 E H)
def L8 (A:Adr):Sp:=λvs H Q E=>∃z:Str,vs=[.str z]/\z.length<=60000/\(ux z=true->∀H',aS H H'->Q (.int (eU z)) H')/\(ux z=false->nK A 1 E H)
section
variable{P:ko}{w:World}{K:ba}{mg:Str->Option Value}{base:Heap}{A:Adr}
theorem C6 (T:Txt w.params K mg A):FnOk P w K mg base (CXX P w) 4 A.pV A.iY ["word"] (Hx A):=by
 refine T.jY.okX Ce (λvs H Q E h=>?_) (λcdv A' outer s H vs Q E hr h=>?_)
 ·obtain⟨z,rfl,_⟩:=h;rfl
 ·obtain⟨z,rfl,zl,h1,h2⟩:=h;refine⟨_,(aj (bA (aU (b8 T) hr rfl T.bS T.bO.kp T.bT (pax (aa (j9 (jc nO nO ao (bB lY (by rfl) T.il eC (aa (pv 0) ae)) (c8 (v:=V.int 12) rfl T.zf ⟨_,rfl⟩)) (i9 (bB (sW rfl) (by rfl) T.G8 BL (aa (jP (scope:=nv) yT rfl (FL (pv 0)) (λ_ _ _ _ _=>(jc pQ pQ ag (pv 0) ag))) ae)))) ae))))
 (aC (psx (aI (pv 0))))),?_⟩
  try dsimp only[bh]
  have sz:de=16777216:=by decide
  have e1:(ar "a").cps.toList=[97]:=by trivial
  have e2:(ar "z").cps.toList=[122]:=by trivial
  refine⟨_,rfl,z,rfl,by omega,_,_,rfl,rfl,_,rfl,?_⟩
  by_cases c1:1<=z.length
  ·rw[decide_eq_true (show (1:Int)<=(z.length:Int) by omega)]
   refine dZ ⟨_,_,rfl,rfl,_,rfl,?_⟩
   by_cases c2:z.length<=12
   ·rw[decide_eq_true (show (z.length:Int)<=12 by omega)]
    refine dZ ⟨_,rfl,z,rfl,λD hD=>?_⟩
    refine uG jH (by show z.length<=_;omega) hD (λc H2 Q2 hc s2 k=>?_) λH2 s2 h2'=>?_
    ·refine⟨_,rfl,_,_,rfl,rfl,_,rfl,?_⟩;rw[e1,show (⟨#[c]⟩:Str).cps.toList=[c] from rfl,lt1]
     by_cases d1:c < 97
     ·rw[decide_eq_true d1];refine cf ?_;have:=k H2 (aS.refl _);rw[jH,decide_eq_false (show ¬97<=c by omega)]at this
      exact this
     ·rw[decide_eq_false d1];refine dZ ⟨_,_,rfl,rfl,?_⟩;rw[e2,show (⟨#[c]⟩:Str).cps.toList=[c] from rfl,lt1]
      have:=k H2 (aS.refl _);rw[jH,decide_eq_true (show 97<=c by omega)]at this
      by_cases d2:122 < c
      ·rw[decide_eq_true d2];rw[decide_eq_false (show ¬c<=122 by omega)]at this
       exact this
      ·rw[decide_eq_false d2];rw[decide_eq_true (show c<=122 by omega)]at this
       exact this
    ·refine⟨D,z.cps.toList.map jH,rfl,SqL.of h2',?_⟩;rw[mV];rw[bq,decide_eq_true c1,decide_eq_true c2]at h1 h2;exact⟨_,rfl,λhb=>⟨_,rfl,h1 hb H2 s2⟩,λhb=>(h2 hb).same s2⟩
   ·rw[decide_eq_false (show ¬(z.length:Int)<=12 by omega)]
    refine cf ⟨_,rfl,(λhb=>nomatch hb),λ_=>h2 ?_⟩
    rw[bq,decide_eq_false c2,decide_eq_true c1];rfl
  ·rw[decide_eq_false (show ¬(1:Int)<=(z.length:Int) by omega)]
   refine cf ⟨_,rfl,cf ⟨_,rfl,(λhb=>nomatch hb),λ_=>h2 ?_⟩⟩
   rw[bq,decide_eq_false c1];rfl
theorem AJ (T:Txt w.params K mg A):FnOk P w K mg base (CXX P w) 5 A.rM A.kL ["word"] (L8 A):=by
 refine T.tQ.okX qS (λvs H Q E h=>?_) (λcdv A' outer s H vs Q E hr h=>?_)
 ·obtain⟨z,rfl,_⟩:=h;rfl
 ·obtain⟨z,rfl,zl,h1,h2⟩:=h;refine⟨_,(aj (sX (i:=1) qS.nd rfl (ro rfl) (aU (eK T) hr rfl T.dN T.cX.kp T.dO (pax (aa (pv 0) ae))))
 (aj (bA (aU (b8 T) (hr.mono (by decide)) rfl T.bS T.bO.kp T.bT (pax (aa (jc nO nO ao (pv 1) (c8 (v:=V.int 1000000000) rfl T.CH ⟨_,rfl⟩)) ae))))
 (aC (psx (aI (pv 1)))))),?_⟩
  try dsimp only[bh]
  refine⟨_,rfl,z,rfl,zl,λhn H2 s2=>?_,λhn=>h2 (by rw[ux,hn];rfl)⟩
  rw[ux,hn]at h1 h2;refine⟨_,rfl,_,_,rfl,rfl,_,rfl,?_⟩
  by_cases c1:1<=eU z
  ·rw[decide_eq_true c1]at h1 h2 ⊢;refine dZ ⟨_,_,rfl,rfl,?_⟩;exact⟨_,rfl,λhb=>⟨_,rfl,h1 hb H2 s2⟩,λhb=>(h2 hb).same s2⟩
  ·rw[decide_eq_false c1]at h2 ⊢;exact cf ⟨_,rfl,(λhb=>nomatch hb),λ_=>(h2 rfl).same s2⟩
end
end R
namespace R
inductive Ask where
 |no | xM (d:br) | num (i:Int)
def wW (H H':Hp):Ask->V->Prop
 | .no,v=>v=.non
 | .xM d,v=>∃t,v=.ref t/\H t=none/\df H H' d t
 | .num i,v=>v=.int i
def Gz:List Str:=[ar "order",ar "state",ar "minutes"]
def L9:List Str:=[ar "open",ar "read",ar "text"]
def GA (k:Str):List Str->Option Ask
 |[w]=>if k=ar "text" then (if cG w=true then some (.num (eU w)) else none) else if ux w=true then some (.num (eU w)) else none
 |_=>none
def dI (k:Str)(ws:List Str):Option Ask :=
 if k=ar "do" then (bR (Txt.split (gp bl1 ws) bl1)).map .xM
 else if k∈Gz then (if ws=[] then some .no else none)
 else if k∈L9 then GA k ws else none
theorem qg {a b c:Str}(k:Str):inV (.str k) [.str a,.str b,.str c]=decide (k∈[a,b,c]):=by
 have e:∀x y:Str,eqV (.str x) (.str y)=decide (y=x):=λx y=>by
  show (x == y)=_;rw[Vn];simp;exact⟨λh=>h.symm,λh=>h.symm⟩
 unfold inV;simp only[V8,List.any_nil,e,Bool.or_false];rw[Vn];simp
def Qz (K:ba)(A:Adr):Sp:=λvs H Q E=>∃(k:Str) (a:Addr) (ws:List Str),vs=[.str k,.ref a]/\SqL K H a (ws.map V.str)/\gM ws/\(gp bl1 ws).length<=50000/\Asc (gp bl1 ws) /\
 (∀x,dI k ws=some x->∀v H',aS H H'->wW H H' x v->Q v H')/\(dI k ws=none->nK A 1 E H)
section
variable{P:ko}{w:World}{K:ba}{mg:Str->Option Value}{base:Heap}{A:Adr}
theorem AK (T:Txt w.params K mg A):FnOk P w K mg base (CXX P w) 8 A.rN A.kM ["kind","words"] (Qz K A):=by
 refine T.tR.okX Ap (λvs H Q E h=>?_) (λcdv A' outer s H vs Q E hr h=>?_)
 ·obtain⟨k,a,ws,rfl,_⟩:=h;rfl
 ·obtain⟨k,a,ws,rfl,ha,o,jl,ja,h1,h2⟩:=h;have xE:=hr.units;refine⟨_,(aj (bU (aL bf (pv 0) ag (aK _))
 (aC (b5 (aU (uv T) hr rfl T.wB T.oR.kp T.wC (pax (aa (bw (mQ T) (hr.mono (by decide)) rfl T.oJ T.jW.kp T.oK .nil a6 (aa (pv 1) ae)) ae)))))
 (gf aO))
 (aj (bU (aL lj (pv 0) (c8 (v:=V.ref A.jV) rfl T.Er rfl) rfl)
 (aj (bA (aU (b8 T) (hr.mono (by decide)) rfl T.bS T.bO.kp T.bT (pax (aa (bL (FF xE) (pv 1) (bE ae) (aK _)) ae))))
 (aC (psx (aI Fq))))
 (gf aO))
 (aj (bA (aU (b8 T) (hr.mono (by decide)) rfl T.bS T.bO.kp T.bT (pax (aa (j9 (bL lj (pv 0) (c8 (v:=V.ref A.hU) rfl T.Aw rfl) rfl) (i9 (bL bf (bB bM (by rfl) T.il eC (aa (pv 1) ae)) ao (aK _)))) ae))))
 (aj (bU (aL bf (pv 0) ag (aK _))
 (aC (b5 (aU (eK T) (hr.mono (by decide)) rfl T.dN T.cX.kp T.dO (pax (aa (aY bz (pv 1) ao (λ_ _=>rfl)) ae)))))
 (gf aO))
 (aC (b5 (aU (AJ T) (hr.mono (by decide)) rfl T.Cs T.tQ.kp T.Ct (pax (aa (aY bz (pv 1) ao (λ_ _=>rfl)) ae))))))))),?_⟩
  try dsimp only[bh]
  have sz:de=16777216:=by decide
  have osz:=o.sz;refine⟨_,rfl,rfl,_,rfl,ie (λe=>?_) (λe=>?_)⟩
  ·have hk:=iN e;rw[dI,if_pos hk]at h1 h2;refine⟨_,rfl,a,ws,rfl,ha,by omega,_,rfl,jl,ja,λd hd t H' s' nt hn=>h1 (.xM d) (by rw[hd];rfl) _ H' s' ⟨t,rfl,nt,hn⟩,λhd=>h2 (by rw[hd];rfl)⟩
  have n1:=iM e;rw[dI,if_neg n1]at h1 h2;refine⟨_,rfl,A.jV,_,rfl,.inr (T.Es _),rfl,rfl,_,rfl,?_⟩
  by_cases hk:k∈Gz
  ·have hi:inV (.str k) [.str (ar "order"),.str (ar "state"),.str (ar "minutes")]=true:=by rw[qg];exact decide_eq_true hk
   rw[if_pos hk]at h1 h2;refine vQ (show (if false=true then _ else inV (.str k) _)=true from hi) ?_
   refine⟨_,rfl,Vg _,λq hq=>?_⟩
   have s4:aS H (upd H q (.lst [])):=aw hq;refine⟨.list (ws.map Vu),.list [],sU (s4.seq ha),?_,nQ λw hw=>(o.asc w hw).ok,by trivial,?_⟩
   ·unfold DV;exact⟨q,[],rfl,SqL.of af,by unfold DVs;rfl⟩
   ·rw[strs_nil];exact⟨_,rfl,λhb=>h1 .no (by rw[if_pos (of_decide_eq_true hb)]) _ _ s4 rfl,λhb=>(h2 (by rw[if_neg (of_decide_eq_false hb)])).same s4⟩
  have hi:inV (.str k) [.str (ar "order"),.str (ar "state"),.str (ar "minutes")]=false:=by rw[qg];exact decide_eq_false hk
  rw[if_neg hk]at h1 h2;refine qz (show (if false=true then _ else inV (.str k) _)=false from hi) ?_
  refine⟨_,rfl,A.hU,_,rfl,.inr (T.Ax _),rfl,rfl,_,rfl,?_⟩
  by_cases hk2:k∈L9
  ·have hi:inV (.str k) [.str (ar "open"),.str (ar "read"),.str (ar "text")]=true:=by rw[qg];exact decide_eq_true hk2
   rw[if_pos hk2]at h1 h2;refine vQ (show (if false=true then _ else inV (.str k) _)=true from hi) ?_
   refine⟨_,rfl,a,_,rfl,.inl ha,rfl,_,rfl,λhb=>?_,λhb=>h2 ?_⟩
   ·have hl:ws.length=1:=by
     have:=of_decide_eq_true hb;injection this with this
     rw[da]at this;omega
    refine aX λGq gq=>?_
    obtain⟨w,rfl⟩:=List.length_eq_one_iff.mp hl;have wl:w.length<=60000:=o.wl (List.mem_singleton.mpr rfl);refine gq ?_;refine⟨_,rfl,rfl,_,rfl,ie (λe=>?_) (λe=>?_)⟩
    ·have ht:=iN e;simp only[GA,if_pos ht]at h1 h2;exact⟨_,rfl,a,_,_,.str w,rfl,rfl,ha,cQ,w,rfl,wl,λhn H' s'=>h1 (.num (eU w)) (by rw[if_pos hn]) _ H' s' rfl,λhn=>h2 (by rw[if_neg (by rw[hn];exact gr)])⟩
    ·have ht:=iM e;simp only[GA,if_neg ht]at h1 h2;exact⟨_,rfl,a,_,_,.str w,rfl,rfl,ha,cQ,w,rfl,wl,λhn H' s'=>h1 (.num (eU w)) (by rw[if_pos hn]) _ H' s' rfl,λhn=>h2 (by rw[if_neg (by rw[hn];exact gr)])⟩
   ·have hl:ws.length≠1:=λz=>of_decide_eq_false hb (by rw[da,z];rfl)
    match ws,hl with
    |[],_=>rfl
    |[_],h=>exact absurd rfl h
    |_::_::_,_=>rfl
  ·have hi:inV (.str k) [.str (ar "open"),.str (ar "read"),.str (ar "text")]=false:=by rw[qg];exact decide_eq_false hk2
   rw[if_neg hk2]at h2;refine qz (show (if false=true then _ else inV (.str k) _)=false from hi) ?_
   exact⟨false,rfl,(λz=>nomatch z),λ_=>h2 rfl⟩
end
end R
namespace R
theorem wW.back {H H1 H2:Hp}(s:aS H H1):∀ {x:Ask} {v:V},wW H1 H2 x v->wW H H2 x v
 | .no,_,h=>h
 | .xM _,_,⟨t,e,n,d⟩=>⟨t,e,s.free n,d.back s⟩
 | .num _,_,h=>h
theorem wW.same {H H1 H2:Hp}(s:aS H1 H2):∀ {x:Ask} {v:V},wW H H1 x v->wW H H2 x v
 | .no,_,h=>h
 | .xM _,_,⟨t,e,n,d⟩=>⟨t,e,n,d.same s⟩
 | .num _,_,h=>h
def lV (k:Str):List Str->Option (Str×List Str×Ask)
 |[a,b]=>if bq a=true/\bq b=true then some (k,[a,b],.no) else none
 |_=>none
def j7 (k:Str):List Str->Option (Str×List Str×Ask)
 |a::r=>if bq a=true then (dI k r).map λx=>(k,[a],x) else none
 |[]=>none
def dP:List Str->Option (Str×List Str×Ask)
 |k::ws=>if k=ar "part" then lV k ws else j7 k ws
 |[]=>none
def Ma (A:Adr):Sp:=λvs H Q E=>∃z:Str,vs=[.str z]/\z.length<=50000/\Asc z /\
 (∀k ns x,dP (Txt.split z bl1)=some (k,ns,x)->∀t L v H',aS H H'->H t=none->H L=none->H' t=some (.tup [.str k,.ref L,v])->H' L=some (.lst (ns.map V.str))->wW H H' x v->Q (.ref t) H')/\(dP (Txt.split z bl1)=none->nK A 1 E H)
section
variable{P:ko}{w:World}{K:ba}{mg:Str->Option Value}{base:Heap}{A:Adr}
theorem AL (T:Txt w.params K mg A):FnOk P w K mg base (CXX P w) 9 A.mw A.hG ["row"] (Ma A):=by
 have pH:FnOk P w K mg base (CXX P w) 4 A.pV A.iY ["word"] (Hx A):=C6 T;refine T.tS.okX kD (λvs H Q E h=>?_) (λcdv A' outer s H vs Q E hr h=>?_)
 ·obtain⟨z,rfl,_⟩:=h;rfl
 ·obtain⟨z,rfl,zl,za,h1,h2⟩:=h;have mX:Room 4 _:=hr.mono (by decide)
  refine⟨_,(aj (psx (aT (i:=1) kD.nd rfl (ro rfl) (ic Vq PySem.F.slot_str_split PySem.F.type_str_split sV (pv 0) (aa ag ae))))
 (aj (psx (aT (i:=2) kD.nd rfl (ro rfl) (aY bz (pv 1) ao (λ_ _=>rfl))))
 (aj (bU (aL bf (pv 2) ag (aK _))
 (aj (bA (aU (b8 T) (hr.mono (by decide)) rfl T.bS T.bO.kp T.bT (pax (aa (bL bf (bB bM (by rfl) T.il eC (aa (pv 1) ae)) ao (aK _)) ae))))
 (aC (b5 (gh (a7 (px (pv 2)) (a7 (pex_lst (a7 (aU pH mX rfl T.oW T.jY.kp T.oX (pax (aa (aY bz (pv 1) ao (λ_ _=>rfl)) ae))) (a7 (aU pH mX rfl T.oW T.jY.kp T.oX (pax (aa (aY bz (pv 1) ao (λ_ _=>rfl)) ae))) dH))) (a7 (px Fq) dH)))))))
 (gf aO))
 (aj (bA (aU (b8 T) (hr.mono (by decide)) rfl T.bS T.bO.kp T.bT (pax (aa (bL N8 (bB bM (by rfl) T.il eC (aa (pv 1) ae)) ao (aK _)) ae))))
 (aC (b5 (gh (a7 (px (pv 2)) (a7 (pex_lst (a7 (aU pH mX rfl T.oW T.jY.kp T.oX (pax (aa (aY bz (pv 1) ao (λ_ _=>rfl)) ae))) dH)) (a7 (aU (AK T) hr rfl T.Cu T.tR.kp T.Cv (pax (aa (pv 2) (aa (jd pM (pv 1) (jM ao) pL) ae)))) dH)))))))))),?_⟩
  try dsimp only[bh]
  have sz:de=16777216:=by decide
  refine⟨_,rfl,rfl,z,bl1,rfl,rfl,by rw[dU];rfl,by omega,λW hW=>?_⟩
  have o:=LY zl za;have hsp:=nS z bl1;have tot:((Txt.split z bl1).map (·.length)).sum+(Txt.split z bl1).length<=50001:=by
   have e:gp ⟨#[32]⟩ (Txt.split z ⟨#[32]⟩)=z:=StrLaws.join_split _ _;have s:=lU 32 _ (nS z ⟨#[32]⟩);rw[e]at s;rw[dU];omega
  generalize Txt.split z bl1=sp at o hsp h1 h2 tot ⊢;refine aX λGq gq=>?_
  obtain⟨k,ws,rfl⟩:∃k ws,sp=k::ws:=by
   cases sp with
   |nil=>exact absurd rfl hsp
   |cons k ws=>exact⟨k,ws,rfl⟩
  have hWl:upd H W (.lst ((k::ws).map V.str)) W=some (.lst ((k::ws).map V.str)):=af;have s1:aS H (upd H W (.lst ((k::ws).map V.str))):=aw hW;refine gq ?_;generalize upd H W (.lst ((k::ws).map V.str))=H1 at hWl s1 ⊢;refine⟨_,rfl,W,_,_,.str k,rfl,rfl,SqL.of hWl,cQ,?_⟩;refine⟨_,rfl,rfl,_,rfl,ie (λe=>?_) (λe=>?_)⟩
  ·have hk:=iN e;rw[dP,if_pos hk]at h1 h2;refine⟨_,rfl,W,_,rfl,.inl (SqL.of hWl),rfl,_,rfl,λhb=>?_,λhb=>?_⟩
   ·have hl:ws.length=2:=by
     have:=of_decide_eq_true hb;injection this with this
     rw[da,kf]at this;omega
    match ws,hl with
    |[a,b],_ =>
     have al:a.length<=60000:=o.wl (by simp)
     have bl:b.length<=60000:=o.wl (by simp)
     refine⟨_,rfl,_,rfl,W,_,_,.str a,rfl,rfl,SqL.of hWl,mW,a,rfl,al,λha H2 s2=>?_,λha=>(h2 (by rw[lV,if_neg (by rw[ha];exactλz=>nomatch z.1)])).same s1⟩
     refine⟨_,rfl,W,_,_,.str b,rfl,rfl,SqL.of (s2 _ _ hWl),(fG (j:=2) rfl),b,rfl,bl,λhb2 H3 s3=>?_,λhb2=>(h2 (by rw[lV,if_neg (by rw[hb2];exactλz=>nomatch z.2)])).same (s1.trans s2)⟩
     have s13:=(s1.trans s2).trans s3;refine⟨(by show 2<=de;decide),λL hL=>⟨(by show 3<=de;decide),λt ht=>?_⟩⟩
     have s4:aS H3 (upd H3 L (.lst [.str a,.str b])):=aw hL;have f4:upd H3 L (.lst [V.str a,.str b]) L=some (.lst [.str a,.str b]):=af;generalize upd H3 L (.lst [V.str a,.str b])=H4 at s4 f4 ht ⊢;exact h1 k [a,b] .no (by rw[lV,if_pos ⟨ha,hb2⟩]) t L .non _ ((s13.trans s4).new ht) ((s13.trans s4).free ht) (s13.free hL) af (aw ht _ _ f4) rfl
   ·refine(h2 ?_).same s1;have hl:ws.length≠2:=λz=>of_decide_eq_false hb (by rw[da,kf,z];rfl)
    match ws,hl with
    |[],_=>rfl
    |[_],_=>rfl
    |[_,_],h=>exact absurd rfl h
    |_::_::_::_,_=>rfl
  have n1:=iM e;rw[dP,if_neg n1]at h1 h2;refine⟨_,rfl,W,_,rfl,.inl (SqL.of hWl),_,_,rfl,rfl,_,rfl,λhb=>?_,λhb=>?_⟩
  ·have hl:1<=ws.length:=by
    have:=of_decide_eq_true hb;rw[da,kf]at this;omega
   match ws,hl with
   |a::r,_ =>
    have al:a.length<=60000:=o.wl (by simp)
    refine⟨_,rfl,_,rfl,W,_,_,.str a,rfl,rfl,SqL.of hWl,mW,a,rfl,al,λha H2 s2=>?_,λha=>(h2 (by rw[j7,if_neg (by rw[ha];exact gr)])).same s1⟩
    rw[j7,if_pos ha]at h1 h2;have s12:=s1.trans s2;refine⟨(by show 1<=de;decide),λL hL=>?_⟩
    have s3:aS H2 (upd H2 L (.lst [.str a])):=aw hL;have f3:upd H2 L (.lst [V.str a]) L=some (.lst [.str a]):=af;generalize upd H2 L (.lst [V.str a])=H3 at s3 f3 ⊢;refine⟨_,rfl,_,rfl,_,rfl,W,_,rfl,SqL.of (s3 _ _ (s2 _ _ hWl)),λB hB=>?_⟩
    have e1:kh (List.map V.str (k::a::r)) (some 2) none=r.map V.str:=SJ _ _ _;rw[e1];have s4:aS H3 (upd H3 B (.lst (r.map V.str))):=aw hB;have hBl:upd H3 B (.lst (r.map V.str)) B=some (.lst (r.map V.str)):=af;generalize upd H3 B (.lst (r.map V.str))=H4 at s4 hBl ⊢;have s14:=(s12.trans s3).trans s4;have orr:gM r:=o.drop 2;have jl:(gp bl1 r).length<=50000:=by
     by_cases hr0:r=[]
     ·subst hr0;show (0:Nat)<=_;omega
     ·have:=lU 32 r hr0;rw[dU];simp only[kx,Wq,kf]at tot;omega
    have ja:Asc (gp bl1 r):=iw (by rw[dU];intro c hc;simp at hc;omega) r orr.asc
    refine⟨k,B,r,rfl,SqL.of hBl,orr,jl,ja,λx hx v H5 s5 hv=>?_,λhx=>(h2 (by rw[hx];rfl)).same s14⟩
    refine⟨(by show 3<=de;decide),λt ht=>?_⟩
    have s15:=s14.trans s5;exact h1 k [a] x (by rw[hx];rfl) t L v _ (s15.new ht) (s15.free ht) (s12.free hL) af (aw ht _ _ (s5 _ _ (s4 _ _ f3))) ((hv.back s14).same (aw ht))
  ·refine(h2 ?_).same s1
   match ws with
   |[]=>rfl
   |a::r =>
    have:=of_decide_eq_false hb;exact absurd (show (2:Int)<=((List.map V.str (k::a::r)).length:Int) by simp;omega) this
end
end R
namespace R
def eL (z:Str):Bool:=decide (Txt.stripChars z bl1=em)
def Hy (K:ba)(A:Adr):Sp:=λvs H Q E=>∃(a:Addr) (rs:List Str),vs=[.ref a]/\SqL K H a (rs.map V.str)/\(∀z∈rs,z.length<=60000)/\rs.length<=60000 /\
 ((rs.all eL=true/\∀H',aS H H'->Q .non H')\/∃ys z r,rs=ys++z::r/\ys.all eL=true/\eL z=false/\nK A ((ys.length+2:Nat):Int) E H)
section
variable{P:ko}{w:World}{K:ba}{mg:Str->Option Value}{base:Heap}{A:Adr}
theorem vC (T:Txt w.params K mg A):FnOk P w K mg base (CXX P w) 3 A.hJ A.eR ["rows"] (Hy K A):=by
 refine T.nF.okX gP (λvs H Q E h=>?_) (λcdv A' outer s H vs Q E hr h=>?_)
 ·obtain⟨a,rs,rfl,_⟩:=h;rfl
 ·obtain⟨a,rs,rfl,ha,zl,rl,q⟩:=h;refine⟨_,(aC (BR ⟨rfl,rfl⟩ rfl (pi_enum (k:=2) (by trivial) rfl T.wH (aa (pv 0) ae)) (BE rfl (hZ (eO (i:=1) gP.nd rfl (ro rfl)) (hZ (eO (i:=2) gP.nd rfl (ro rfl)) xP)))
 (aC (bU (aL jb (ic Vq PySem.F.slot_str_strip PySem.F.type_str_strip mt_strip (pv 2) (aa ag ae)) ag (aK _))
 (aC (jg T.iu (zV T) hr T.p6 rfl rfl T.p5 (aa (pv 1) ae)))
 (gf aO))))),?_⟩
  try dsimp only[bh]
  have sz:de=16777216:=by decide
  try dsimp only[sN]
  refine⟨_,rfl,a,rfl,⟨_,ha⟩,?_⟩;refine for_enum (K:=K) (a:=a) (xs:=rs.map V.str) (λj σ Hj=>∃(v1 v2:Option V),σ=[some (.ref a),v1,v2]/\aS H Hj/\(rs.take j).all eL=true)
   ⟨_,_,rfl,aS.refl H,rfl⟩ (λj σ Hj _ ⟨_,_,_,sj,_⟩=>sj.seq ha) ?_ ?_
  ·rintro j y σ Hj t hy ⟨v1,v2,rfl,sj,bj⟩ ht;have s1:aS Hj (upd Hj t (.tup [.int ((j+2:Nat):Int),y])):=aw ht;rw[U5]at hy;cases hz:rs[j]? with
   |none=>rw[hz]at hy;cases hy
   |some z =>
    rw[hz]at hy;obtain rfl:V.str z=y:=ra hy;have hzl:=zl z (ma hz);refine⟨t,_,rfl,SqT.of af,rfl,_,_,rfl,_,_,rfl,rfl,?_⟩;generalize upd Hj t (.tup [.int ((j+2:Nat):Int),V.str z])=H2 at s1 ⊢;refine⟨_,rfl,rfl,z,_,rfl,rfl,by omega,rfl,_,rfl,?_⟩
    have eb:decide (V.str (Txt.stripChars z (ar " "))=V.str (ar ""))=eL z:=by
     rw[eL,Vn,decide_eq_true_iff,decide_eq_true_iff];exact⟨λh=>by injection h,λh=>congrArg V.str h⟩
    rw[eb];have tk:(rs.take (j+1)).all eL=eL z:=by
     rw[Wx,hz,List.all_append,bj];simp
    cases hb:eL z with
    |true=>exact⟨_,_,rfl,sj.trans s1,tk.trans hb⟩
    |false =>
     have lg:((j+2:Nat):Int).natAbs.log2 < 1920:=dD (by have:=List.getElem?_eq_some_iff.mp hz;omega) (by have:=(List.getElem?_eq_some_iff.mp hz).1;omega)
     have ln:(ar (toString ((j+2:Nat):Int))).length<=20:=fZ (by omega) (by have:=(List.getElem?_eq_some_iff.mp hz).1;omega)
     rcases q with ⟨al,_⟩ | ⟨ys,z',r,rfl,hy,hn,er⟩
     ·have:=List.all_eq_true.mp al z (ma hz);rw[hb]at this;cases this
     ·obtain rfl:j=ys.length:=by
       rcases Nat.lt_trichotomy j ys.length with h | h | h
       ·rw[Vo h]at hz;have:=List.all_eq_true.mp hy z (ma hz);rw[hb]at this;cases this
       ·exact h
       ·have h3:z'∈(ys++z'::r).take j:=by
         refine ma (i:=ys.length) ?_;rw[List.getElem?_take_of_lt h,Vb (kg _),Nat.sub_self];rfl
        have:=List.all_eq_true.mp bj z' h3;rw[hn]at this;cases this
      exact⟨_,rfl,_,rfl,⟨_,.int lg,ku ln (by decide)⟩,λd hd=>er d _ ((sj.trans s1).new hd) af⟩
  ·rintro σ Hj ⟨v1,v2,rfl,sj,bj⟩;rw[da,VP]at bj;rcases q with ⟨_,q⟩ | ⟨ys,z',r,rfl,hy,hn,_⟩
   ·exact q Hj sj
   ·have:=List.all_eq_true.mp bj z' (by simp)
    rw[hn]at this;cases this
end
end R
def QA (A:Adr)(H:Hp)(o:Addr)(kvs:List (Key×V)):Prop:=∃dx D,H o=some (.ins A.cz dx [("chambers",.ref D)])/\H D=some (.dK kvs)
def Jj (A:Adr):Sp:=λvs H Q _=>∃(o dx:Addr),vs=[.ref o]/\H o=some (.ins A.cz dx [])/\∀D,H D=none->Q .non (upd (upd H D (.dK [])) o (.ins A.cz dx [("chambers",.ref D)]))
def QB (A:Adr):Sp:=λvs H Q _=>∃(o dx D:Addr) (z:Str) (v:V) (kvs:List (Key×V)),vs=[.ref o,.str z,v]/\H o=some (.ins A.cz dx [("chambers",.ref D)])/\H D=some (.dK kvs)/\kvs.length<=1000/\Q (.str (ar "ok")) (upd H D (.dK (putK kvs (U8 z) v)))
def Uw (A:Adr):Sp:=λvs H Q E=>∃(o:Addr) (z:Str) (kvs:List (Key×V)),vs=[.ref o,.str z]/\QA A H o kvs/\z.length<=10000 /\
 (∀v,ee kvs (U8 z)=some v->Q v H)/\(ee kvs (U8 z)=none->∀d H',aS H H'->H' d=some (.xd [("name",.str z)])->E (.ref A.bH) (some d) H')
section
variable{P:ko}{w:World}{K:ba}{mg:Str->Option Value}{base:Heap}{A:Adr}
theorem Fb (T:Txt w.params K mg A):FnOk P w K mg base CX0 1 A.yX A.uY ["self","name"] (uH A.bH "name"):=by
 refine T.F8.ok yL (λvs H Q E h=>?_) (λcdv A' outer s H vs Q E hr h=>?_)
 ·obtain⟨e,v,rfl,_⟩:=h;rfl
 ·obtain⟨e,v,rfl,hx,⟨z,fz,zl⟩,q⟩:=h;refine⟨_,(ak (cS (nY T.d8 T.vi rfl T.cZ (aa (pv 0) (aa (vR (gi (kz (pv 1) nX))) ae))))
 (aq (sZ T.vi (pv 0) (pv 1)))),?_⟩
  try dsimp only[bh]
  have sz:de=16777216:=by decide
  have e5:(U7++ar "no chamber by the name ":Str).length=23:=by trivial
  refine⟨_,rfl,by rw[e5];omega,_,rfl,z,fz,by omega,by rw[len_app,e5];omega,by rw[len_app,e5];omega,e,_,rfl,hx,?_⟩
  exact⟨_,rfl,_,rfl,e,rfl,hx,λd hd=>q d hd⟩
theorem Fc (T:Txt w.params K mg A):FnOk P w K mg base CX0 1 A.oF A.mB ["self"] (Jj A):=by
 refine T.EA.ok B7 (λvs H Q E h=>?_) (λcdv A' outer s H vs Q E hr h=>?_)
 ·obtain⟨o,dx,rfl,_⟩:=h;rfl
 ·obtain⟨o,dx,rfl,ho,q⟩:=h;refine⟨_,(aq (eA (pv 0) n8 rfl)),?_⟩
  try dsimp only[bh]
  intro D hD;have ne:o≠D:=λz=>by rw[z,hD]at ho;cases ho
  exact⟨_,rfl,o,A.cz,dx,_,rfl,(ax ne).trans ho,T.cK,T.eT,by decide,q D hD⟩
theorem Hz (T:Txt w.params K mg A):FnOk P w K mg base CX0 1 A.oG A.mD ["self","name","chamber"] (QB A):=by
 refine T.EC.ok B8 (λvs H Q E h=>?_) (λcdv A' outer s H vs Q E hr h=>?_)
 ·obtain⟨o,dx,D,z,v,kvs,rfl,_⟩:=h;rfl
 ·obtain⟨o,dx,D,z,v,kvs,rfl,ho,hD,hl,q⟩:=h;have hu1:=hr.u1;have sz:de=16777216:=by decide
  refine⟨_,(ak (xT hu1 (bF (pv 0) rfl) (pv 1) (pv 2) rfl)
 (aq (aI ag))),?_⟩
  try dsimp only[bh]
  exact⟨_,rfl,_,rfl,o,A.cz,dx,_,.ref D,rfl,ho,T.cK,T.eT,rfl,_,rfl,D,(_),rfl,.inl ⟨kvs,U8 z,hD,rfl,by omega,rfl⟩,q⟩
theorem AM (T:Txt w.params K mg A):FnOk P w K mg base (CXX P w) 3 A.gy A.fN ["self","name"] (Uw A):=by
 refine T.t7.okX rF (λvs H Q E h=>?_) (λcdv A' outer s H vs Q E hr h=>?_)
 ·obtain⟨o,z,kvs,rfl,_⟩:=h;rfl
 ·obtain⟨o,z,kvs,rfl,⟨dx,D,ho,hD⟩,zl,q,qx⟩:=h;have hu1:=hr.u1;refine⟨_,(aj (bU (JB (A6 hu1 (pv 1) (bF (pv 0) rfl)))
 (aC (jg T.vi (Fb T) hr T.F9 rfl rfl T.ED (aa (pv 1) ae)))
 (gf aO))
 (aC (psx (aI (s9 hu1 (bF (pv 0) rfl) (pv 1) (λ_ _=>rfl)))))),?_⟩
  try dsimp only[bh]
  refine⟨_,rfl,_,rfl,o,A.cz,dx,_,.ref D,rfl,ho,T.cK,T.eT,rfl,D,_,rfl,.inl ⟨_,U8 z,.inl hD,rfl,rfl⟩,_,rfl,?_⟩;cases hv:ee kvs (U8 z) with
  |some v =>
   refine cf ?_;exact⟨_,rfl,o,A.cz,dx,_,.ref D,rfl,ho,T.cK,T.eT,rfl,_,rfl,D,(_),rfl,.inl ⟨_,U8 z,.inl hD,rfl,hv.symm⟩,q v hv⟩
  |none=>exact dZ ⟨_,rfl,_,rfl,⟨_,.str,zl⟩,λd hd=>qx hv d _ (aw hd) af⟩
end
theorem NF {X:Cx}{K:ba}(ek:X.K=K):IxR X (Rh K):=by subst ek;exact bp
def HA (st:Ch):Str:=U7++ar (toString (st.aV.length:Int))++ar " "++ar (toString (0:Int))++ar " "++ar (toString (st.decided.length:Int))
def NG (A:Adr)(i:Nat):Sp:=λvs H Q _=>∃(o:Addr) (c:Col) (st:Ch),vs=[.ref o]/\cV A i c H o st/\st.bg=[]/\st.aV.length<=1000/\st.decided.length<=1000/\∀H',aS H H'->Q (.str (HA st)) H'
section
variable{P:ko}{w:World}{K:ba}{mg:Str->Option Value}{base:Heap}{A:Adr}
theorem AN (T:Txt w.params K mg A){i:Nat}:FnOk P w K mg base CX0 3 A.rO A.kO ["chamber"] (NG A i):=by
 refine T.tT.ok fm (λvs H Q E h=>?_) (λcdv A' outer s H vs Q E hr h=>?_)
 ·obtain⟨o,c,st,rfl,_⟩:=h;rfl
 ·obtain⟨o,c,st,rfl,hc,ha,hp,hd,q⟩:=h;obtain⟨dx,aM,aP,aA,aD,aF,aE,aR,ms,ds,ws,fs,es,X⟩:=hc.ex;have sz:de=16777216:=by decide
  refine⟨_,(ak (aT (i:=1) fm.nd rfl (ro rfl) (eB (pv 0) T.az T.xw (Jf (i:=i) T) hr T.xy .nil a6))
 (ak (aT (i:=2) fm.nd rfl (ro rfl) (bB bM (by rfl) T.il eC (aa (aY bp (pv 1) ao (λ_ _=>rfl)) ae)))
 (ak (aT (i:=3) fm.nd rfl (ro rfl) (bB (call_sum0 rfl) (by rfl) T.RI bt_sum (aa (jP (scope:=lH) w9 rfl (g8 (aY bp (pv 1) ao (λ_ _=>rfl))) (λ_ _ _ _ _=>(bB (call_len_seqK (K:=K) rfl) (by rfl) T.il eC (aa (aY (NF (K:=K) rfl) (pv 0) ao (λ_ _=>rfl)) ae)))) ae)))
 (ak (aT (i:=4) fm.nd rfl (ro rfl) (bB bM (by rfl) T.il eC (aa (aY bp (pv 1) ao (λ_ _=>rfl)) ae)))
 (aq (aI (vR (kz (pv 2) (gi (kz (pv 3) (gi (kz (pv 4) nX)))))))))))),?_⟩
  try dsimp only[bh]
  refine⟨_,rfl,o,dx,_,rfl,X.ob,rfl,o,c,st,rfl,hc,by rw[ha];decide,λns u H1 pm _ s1 hs=>?_⟩
  refine aX λGq gq=>?_
  rw[ha]at pm;obtain rfl:ns=[]:=List.Perm.eq_nil pm;obtain⟨l1,R,l2,ys,ds2,Y⟩:=hs;obtain rfl:ys=[]:=by have:=Y.asd;cases this;rfl
  refine gq ?_;refine⟨_,rfl,u,(_),_,_,rfl,rfl,SqT.of Y.hu,(fG (j:=2) rfl),l1,_,rfl,.inl (SqL.of Y.h1),?_⟩;refine⟨_,rfl,u,(_),_,_,rfl,rfl,SqT.of Y.hu,(fG (j:=3) rfl),?_⟩;refine⟨R,rfl,⟨_,SqL.of Y.hR⟩,λD hD=>?_⟩
  refine My.R.zW (ws:=[]) (λ_=>true) (SqL.of Y.hR) (Vg _) hD (λx _ _ hx=>nomatch hx) λH2 s2 h2=>?_
  refine⟨D,rfl,SqL.of h2,?_⟩;refine⟨_,rfl,u,(_),_,_,rfl,rfl,SqT.of (s2 _ _ Y.hu),(fG (j:=4) rfl),l2,_,rfl,.inl (SqL.of (s2 _ _ Y.h2)),?_⟩;have ld:ds2.length=st.decided.length:=(bZ.len Y.dec).symm;have fin:=q H2 (s1.trans s2);rw[HA]at fin;have p1:(ar (toString (st.aV.length:Int))).length<=20:=fZ (by omega) (by omega)
  have p2:(ar (toString (0:Int))).length<=20:=fZ (by omega) (by omega)
  have p3:(ar (toString (st.decided.length:Int))).length<=20:=fZ (by omega) (by omega)
  have b1:(ar " ").length=1:=by trivial
  have e0:(U7).length=0:=by trivial
  rw[da,ld];refine⟨_,rfl,_,.int (dD (by omega) (by omega)),by omega,by rw[len_app];omega,by rw[len_app,len_app];omega,_,rfl,_,.int (dD (by omega) (by omega)),by omega,by rw[len_app,len_app,len_app];omega,by rw[len_app,len_app,len_app,len_app];omega,
   _,rfl,_,.int (dD (by omega) (by omega)),by omega,by rw[len_app,len_app,len_app,len_app,len_app];omega,by rw[len_app,len_app,len_app,len_app,len_app];omega,?_⟩
  exact fin
end
def wX (A:Adr)(i:Nat)(c:Col)(H:Hp)(o:Addr):Rs×Ch->VK->XK->Prop
 | (.num n,st),Q,_=>n<=1000/\∀c' H',Step (dn i) c c' H H'->cV A i c' H' o st->Q (.str (ar (toString (n:Int)))) H'
 | (.txt _,_),_,_=>False
 | (.exc x,st),_,E=>∀c' H' C d,Step (dn i) c c' H H'->cV A i c' H' o st->x.At A H' C d->(∀a,d=some a->c' a=none)->E C d H'
def SK (A:Adr)(i:Nat):Sp:=λvs H Q E=>∃(k:Str) (o:Addr) (v:V) (c:Col) (st:Ch),vs=[.str k,.ref o,v]/\cV A i c H o st /\
  ((k=ar "do"/\∃t N d,v=.ref t/\Inv N st/\N<=800/\DdV st d/\j6 i c H d t/\wX A i c H o (bJ st d) Q E) \/
   (k=ar "state"/\st.bg=[]/\st.aV.length<=1000/\st.decided.length<=1000/\∀H',aS H H'->Q (.str (HA st)) H') \/
   (k=ar "text"/\∃n,v=nV n/\n < 10 ^ 10/\¬eY st n/\E (.ref A.bu) none H) \/
   (k=ar "minutes"/\(st.rows.map (·.length)).sum+st.rows.length<=1000000/\∀H',aS H H'->Q (.str (gp (ar "\n") st.rows)) H'))
section
variable{P:ko}{w:World}{K:ba}{mg:Str->Option Value}{base:Heap}{A:Adr}
theorem Jk (T:Txt w.params K mg A){i:Nat}:FnOk P w K mg base (CXX P w) 9 A.answer A.uV ["kind","chamber","asked"] (SK A i):=by
 have sC:FnOk P w K mg base CX0 1 A.fJ A.fb ["self"] (λ_ _ _ _=>False):=i4
 have ix:FnOk P w K mg base (CXX P w) 1 A.i8 A.eQ ["deed"] (λ_ _ _ _=>False):=i4
 refine T.Ej.okX Iv (λvs H Q E h=>?_) (λcdv A' outer s H vs Q E hr h=>?_)
 ·obtain⟨k,o,v,c,st,rfl,_⟩:=h;rfl
 ·obtain⟨k,o,v,c,st,rfl,hc,q⟩:=h;obtain⟨dx,aM,aP,aA,aD,aF,aE,aR,ms,ds,ws,fs,es,X⟩:=hc.ex;have sz:de=16777216:=by decide
  refine⟨_,(aj (bU (aL bf (pv 0) ag (aK _))
 (aC (b5 (pex_callTy (λ_=>lX) (by rfl) T.K7 FE (a7 (aU (zT (i:=i) T) hr rfl T.Bf T.uZ.kp T.Bg (pax (aa (pv 1) (aa (pv 2) ae)))) dH))))
 (gf aO))
 (aj (psx (bW (aL bf (pv 0) ag (aK _))
 (aq (aI (ic Vq PySem.F.slot_str_join PySem.F.type_str_join BM ag (aa (eB (pv 1) T.az T.rV sC (hr.mono (by decide)) T.rW .nil a6) ae))))
 aO))
 (aj (psx (bW (aL bf (pv 0) ag (aK _))
 (aq (aI (bw (AN (i:=i) T) (hr.mono (by decide)) rfl T.Cz T.tT.kp T.CA .nil a6 (aa (pv 1) ae))))
 aO))
 (aj (bU (aL bf (pv 0) ag (aK _))
 (aC (b5 (aU ix (hr.mono (by decide)) rfl T.oU T.jX.kp T.oV (a7 (jf (px (pv 1)) T.az T.u0 (Ja (i:=i) T) (hr.mono (by decide)) T.u4 (pax (aa (pv 2) ae))) dH))))
 (gf aO))
 (aC (psx (aI (ic Vq PySem.F.slot_str_join PySem.F.type_str_join BM ag (aa (eB (pv 1) T.az T.tW (Gv (i:=i) T) (hr.mono (by decide)) T.tY .nil a6) ae))))))))),?_⟩
  try dsimp only[bh]
  refine⟨_,rfl,rfl,_,rfl,?_⟩;rcases q with ⟨rfl,t,N,d,rfl,I,hN,hd,hdc,q⟩ | ⟨rfl,ha,hp,hdl,q⟩ | ⟨rfl,n,rfl,n10,nn,q⟩ | ⟨rfl,hs,q⟩
  ·refine vQ (by trivial) ?_
   refine⟨_,rfl,_,rfl,o,t,c,st,N,d,rfl,hc,I,hN,hd,hdc,?_⟩;generalize bJ st d=rs at q ⊢;obtain⟨r,st'⟩:=rs;cases r with
   |num n =>
    obtain⟨n1,q⟩:=q;intro c' H' s' hc';exact⟨_,rfl,dD (by omega) (by omega),q c' H' s' hc'⟩
   |txt z=>exact q.elim
   |exc x=>exact q
  ·refine qz (by trivial) ?_
   refine⟨_,rfl,rfl,tsf (by trivial) ?_⟩
   refine⟨_,rfl,rfl,tst (by trivial) ?_⟩
   exact⟨_,rfl,o,c,st,rfl,hc,ha,hp,hdl,q⟩
  ·refine qz (by trivial) ?_
   refine⟨_,rfl,rfl,tsf (by trivial) ?_⟩
   refine⟨_,rfl,rfl,tsf (by trivial) ?_⟩
   refine⟨_,rfl,rfl,tst (by trivial) ?_⟩
   exact⟨_,rfl,o,dx,_,rfl,X.ob,rfl,_,rfl,o,n,c,st,rfl,hc,n10,λh=>absurd h nn,λ_=>q⟩
  ·refine qz (by trivial) ?_
   refine⟨_,rfl,rfl,tsf (by trivial) ?_⟩
   refine⟨_,rfl,rfl,tsf (by trivial) ?_⟩
   refine⟨_,rfl,rfl,tsf (by trivial) ?_⟩
   refine⟨rfl,_,rfl,o,dx,_,rfl,X.ob,rfl,o,c,st,rfl,hc,λl hl=>?_⟩
   have e1:(ar "\n").length=1:=by trivial
   exact⟨_,l,st.rows,rfl,rfl,SqL.of af,by rw[e1];omega,q _ (aw hl)⟩
end
def uy (k m a l:Nat):Str:=Txt.mul (ar "k") (a:Int)++(⟨#[97+3 * k+l]⟩:Str)++Txt.mul (ar "k") ((m - 1 - a:Nat):Int)
theorem C7:∀k < 3,∀m < 13,∀a < m,∀l < 3,R.bq (uy k m a l)=true:=by trivial
theorem C8:∀a:Nat,a < 100->PySem.MulOk (ar "k") (a:Int):=λa h=>⟨by simp;omega,λh1 _=>by
  have e:(ar "k").length=1:=by trivial
  rw[e];have:(1:Int)<=(2 ^ 63 - 1) / (a:Int):=(Int.le_ediv_iff_mul_le (by omega)).mpr (by omega)
  omega,λh1 _=>by
  have e:(ar "k").length=1:=by trivial
  rw[e,Nat.one_mul];unfold Builtin.Str.tooLong;have:de=16777216:=by decide
  simp;omega⟩
def Mb:Sp:=λvs H Q _=>∃(z:Int) (k:Nat),vs=[.int z,.int (k:Int)]/\k < 3/\∀m a l:Nat,m < 13->a < m->l < 3->Q (.str (uy k m a l)) H
section
variable{P:ko}{w:World}{K:ba}{mg:Str->Option Value}{base:Heap}{A:Adr}
theorem Jl (T:Txt w.params K mg A):FnOk P w K mg base CX0 1 A.Cp A.pW ["_law_cell","_law_k"] Mb:=by
 refine T.tU.ok uN (λvs H Q E h=>?_) (λcdv A' outer s H vs Q E hr h=>?_)
 ·obtain⟨z,k,rfl,_⟩:=h;rfl
 ·obtain⟨z,k,rfl,hk,q⟩:=h;obtain⟨m,em,hm⟩:∃m:Nat,1+z % 12=(m:Int)/\m < 13/\1<=m:=⟨(1+z % 12).toNat,by omega,by omega,by omega⟩
  obtain⟨a,ea,ha⟩:∃a:Nat,z / 12 % (m:Int)=(a:Int)/\a < m:=by
   have h0:=Int.emod_nonneg (z / 12) (show (m:Int)≠0 by omega)
   have h1:=Int.emod_lt_of_pos (z / 12) (show (0:Int) < m by omega)
   exact⟨(z / 12 % (m:Int)).toNat,by omega,by omega⟩
  obtain⟨l,el,hl⟩:∃l:Nat,z / 144 % 3=(l:Int)/\l < 3:=⟨(z / 144 % 3).toNat,by omega,by omega⟩
  refine⟨_,(ak (aT (i:=2) uN.nd rfl (ro rfl) (av rg ao (av iz (pv 0) ao)))
 (ak (aT (i:=3) uN.nd rfl (ro rfl) (av iz (av jL (pv 0) ao) (pv 2)))
 (aq (aI (av ah (av ah (av l6 ag (pv 3)) (aY JP ag (av rg (av iz (av jL (pv 0) ao) ao) (av OP ao (pv 1))) (λ_ _=>rfl))) (av l6 ag (av JE (av JE (pv 2) ao) (pv 3)))))))),?_⟩
  try dsimp only[bh]
  refine⟨_,rfl,_,_,rfl,rfl,(by show (0:Int) < 12;decide),_,_,rfl,rfl,?_⟩
  dsimp only;rw[em];refine⟨_,rfl,_,_,rfl,rfl,⟨by decide,by decide⟩,_,rfl,_,_,rfl,rfl,(by show (0:Int) < m;omega),?_⟩
  dsimp only;rw[ea];refine⟨_,rfl,_,_,rfl,rfl,C8 a (by omega),_,rfl,_,_,rfl,rfl,⟨by decide,by decide⟩,_,_,rfl,rfl,(by show (0:Int) < 3;decide),_,rfl,_,_,rfl,rfl,?_,_,_,rfl,rfl,?_⟩
  ·exact .inl ⟨by decide,by decide⟩
  ·dsimp only;rw[el];have at_:∀k:Nat,k < 3->∀l:Nat,l < 3->atI (ar "abcdefghi").cps.toList ((l:Int)+3 * (k:Int))=some (97+3 * k+l):=by trivial
   have sz:de=16777216:=by decide
   have l1:∀a < 13,(Txt.mul (ar "k") ((a:Nat):Int)).length=a:=by trivial
   have e1:=l1 a (by omega)
   have e2:=l1 (m - 1 - a) (by omega)
   have e3:(m:Int) - 1 - (a:Int)=((m - 1 - a:Nat):Int):=by omega
   have one:(⟨#[97+3 * k+l]⟩:Str).length=1:=rfl;refine⟨_,_,_,rfl,rfl,(by show 9<=de;decide),at_ k hk l hl,_,_,rfl,rfl,by rw[e1,one];omega,?_⟩
   refine⟨_,rfl,_,_,rfl,rfl,_,rfl,_,_,rfl,rfl,?_⟩;dsimp only;rw[e3];refine⟨_,_,rfl,rfl,C8 _ (by omega),_,_,rfl,rfl,by rw[len_app,e1,e2,one];omega,?_⟩
   exact q m a l hm.1 ha hl
end
def Oz (sp:Sp):Prop:=∀vs H Q (E E':XK),(∀C d H1,E C d H1->E' C d H1)->sp vs H Q E->sp vs H Q E'
def zY (A:Adr)(K:ba)(sp:Sp):Sp:=λvs H Q _=>∃(d dx:Addr) (z:Str) (fs:List (Str×V)),vs=[.ref d,.str z]/\H d=some (.ins A.cz dx fs)/\fs.lookup (ar "say")=none /\
 sp vs H (λ_ H1=>Q (.bl false) H1) (λC _ H1=>kj K C (.ref A.bc)=some true/\Q (.bl true) H1)
section
variable{P:ko}{w:World}{K:ba}{mg:Str->Option Value}{base:Heap}{A:Adr}
theorem C9 (T:Txt w.params K mg A){sp:Sp}(mo:Oz sp)(bK:FnOk P w K mg base (CXG false true P w) 13 A.gY A.fV ["self","text"] sp):FnOk P w K mg base CX0 14 A.pY A.iZ ["_law_desk","_law_text"] (zY A K sp):=by
 refine FnOk.calmB (b:=false) (n:=true) ?_ (λvs H Q E h=>h)
 refine T.wG.okXB Ci (λvs H Q E h=>?_) (λcdv A' outer s H vs Q E hr h=>?_)
 ·obtain⟨d,dx,z,fs,rfl,_⟩:=h;rfl
 ·obtain⟨d,dx,z,fs,rfl,hd,hf,q⟩:=h;refine⟨_,(aj (GY ⟨rfl,rfl⟩ (aC (bA (pe_methXB rfl (px (pv 0)) T.cK T.cA bK hr T.cB (pax (aa (pv 1) ae)))))
 (nU rfl T.cZ (λ_=>(aq (aI lh))) (xS ⟨rfl,rfl⟩)))
 (aC (psx (aI lh)))),?_⟩
  try dsimp only[bh]
  refine⟨_,rfl,d,dx,fs,rfl,hd,hf,_,rfl,?_⟩;exact mo _ _ _ _ _ (λC dd H1 ⟨e,h⟩=>⟨true,e,dZ h⟩) q
end
theorem zZ {X:Cx}{K:ba}{e:Expr}{name:Str}{pos:Pos}{ta:TE}(ek:X.K=K)(he:PE X e ta)(hb:attributeBase e name X.env (eval e X.env)=eval e X.env):PE X (.Attribute e name pos)
  (λσ H Q=>ta σ H λx H1=>∃ea C d fs v,x=.ref ea/\H1 ea=some (xo ea (.ref C) (some d))/\H1 d=some (.xd fs)/\Ah K C name/\fs.lookup name=some v/\(∃z,sY v z)/\Q v H1):=by
 subst ek;exact MQ he hb
theorem Dc {X:Cx}{K:ba}(ek:X.K=K):eh X (.builtin "isinstance") (λxs H Q=>∃ea q C d fs b,∃cs:List Addr,xs=[.ref ea,.ref q]/\SqT K H q (cs.map V.ref)/\H ea=some (xo ea (.ref C) (some d))/\H d=some (.xd fs)/\A3 K C/\PySem.W.kitAny K (.ref C) (cs.map ky)=some b/\Q (.bl b) H):=by
 subst ek;exact call_isiXTD
def q0 (H:Hp)(Q:VK)(a:Str)(v:V):Prop:=∀t H',aS H H'->H t=none->H' t=some (.tup [.str a,v])->Q (.ref t) H'
def SM (A:Adr)(Q:VK):XK:=λC dd H =>
 (∃d n,C=.ref A.bV/\dd=some d/\H d=some (.xd [("row",.int n)])/\n.natAbs.log2 < 1920/\q0 H Q (ar "row") (.int n)) \/
 (∃d z,C=.ref A.bH/\dd=some d/\H d=some (.xd [("name",.str z)])/\q0 H Q (ar "name") (.str z)) \/
 (∃d n,C=.ref A.bP/\dd=some d/\H d=some (.xd [("bar",.int n)])/\n.natAbs.log2 < 1920/\q0 H Q (ar "bar") (.int n)) \/
 (C=.ref A.cJ/\q0 H Q (ar "fit") (.int 0))\/(C=.ref A.bu/\q0 H Q (ar "number") (.int 0)) \/
 (C=.ref A.bI/\q0 H Q (ar "nothing") (.int 0))\/(C=.ref A.bN/\q0 H Q (ar "many") (.int 0))
def z0 (A:Adr)(sp:Sp):Sp:=λvs H Q _=>∃(d dx:Addr) (z:Str) (fs:List (Str×V)),vs=[.ref d,.str z]/\H d=some (.ins A.cz dx fs)/\fs.lookup (ar "say")=none /\
 sp vs H (λv H1=>∀t,H1 t=none->Q (.ref t) (upd H1 t (.tup [.str (ar "told"),v]))) (SM A Q)
def SN (sp:Sp):Prop:=∀vs H (Q Q':VK) E,(∀v H1,Q v H1->Q' v H1)->sp vs H Q E->sp vs H Q' E
section
variable{P:ko}{w:World}{K:ba}{mg:Str->Option Value}{base:Heap}{A:Adr}
theorem Jm (T:Txt w.params K mg A){sp:Sp}(mo:Oz sp)(mq:SN sp)(bK:FnOk P w K mg base (CXG false true P w) 13 A.gY A.fV ["self","text"] sp):FnOk P w K mg base CX0 14 A.Cq A.pX ["_law_desk","_law_text"] (z0 A sp):=by
 refine FnOk.calmB (b:=false) (n:=true) ?_ (λvs H Q E h=>h)
 refine T.zc.okXB dA (λvs H Q E h=>?_) (λcdv A' outer s H vs Q E hr h=>?_)
 ·obtain⟨d,dx,z,fs,rfl,_⟩:=h;rfl
 ·obtain⟨d,dx,z,fs,rfl,hd,hf,q⟩:=h;refine⟨_,(aj (psx (aT (i:=2) dA.nd rfl (ro rfl) Fq))
 (aj (GY ⟨rfl,rfl⟩ (aC (b5 (gh (a7 (px ag) (a7 (pe_methXB rfl (px (pv 0)) T.cK T.cA bK hr T.cB (pax (aa (pv 1) ae))) dH)))))
 (FI (i:=3) dA.nd rfl rfl rfl T.p5 (λ_=>(aq (aT (i:=2) dA.nd rfl (ro rfl) (a8 (aa ag (aa (zZ (K:=K) rfl (pv 3) rfl) ae)))))) (FI (i:=3) dA.nd rfl rfl rfl T.ED (λ_=>(aq (aT (i:=2) dA.nd rfl (ro rfl) (a8 (aa (aY (Ki (K:=K) rfl) (bE (aa ag (aa ag ae))) (dS HS (by rfl) T.Om JW (aa (bB (Dc (K:=K) rfl) (by rfl) T.CD Ad (aa (pv 3) (aa (a8 (aa (c8 (v:=V.ref A.bI) rfl T.u6 rfl) (aa (c8 (v:=V.ref A.bu) rfl T.rX rfl) (aa (c8 (v:=V.ref A.cJ) rfl T.CI rfl) (aa (c8 (v:=V.ref A.bN) rfl T.u7 rfl) (aa (c8 (v:=V.ref A.bP) rfl T.zv rfl) ae)))))) ae))) ae)) (λ_ _=>rfl)) (aa (zZ (K:=K) rfl (pv 3) rfl) ae)))))) (FI (i:=3) dA.nd rfl rfl rfl T.zv (λ_=>(aq (aT (i:=2) dA.nd rfl (ro rfl) (a8 (aa ag (aa (zZ (K:=K) rfl (pv 3) rfl) ae)))))) (nU rfl T.CI (λ_=>(aq (aT (i:=2) dA.nd rfl (ro rfl) (a8 (aa ag (aa ao ae)))))) (nU rfl T.rX (λ_=>(aq (aT (i:=2) dA.nd rfl (ro rfl) (a8 (aa ag (aa ao ae)))))) (nU rfl T.u6 (λ_=>(aq (aT (i:=2) dA.nd rfl (ro rfl) (a8 (aa ag (aa ao ae)))))) (nU rfl T.u7 (λ_=>(aq (aT (i:=2) dA.nd rfl (ro rfl) (a8 (aa ag (aa ao ae)))))) (xS ⟨rfl,rfl⟩)))))))))
 (aC (psx (aI (pv 2)))))),?_⟩
  try dsimp only[bh]
  refine⟨_,rfl,d,dx,fs,rfl,hd,hf,_,rfl,?_⟩;refine mq _ _ _ _ _ (λv H1 h=>⟨(by show 2<=de;decide),h⟩) (mo _ _ _ _ _ (λC dd H1 h=>?_) q)
  have fin:∀ {ea:Addr} {o:HO} {a:Str} {v:V},H1 ea=none->q0 H1 Q a v->∀t,(upd H1 ea o) t=none->Q (.ref t) (upd (upd H1 ea o) t (.tup [.str a,v])):=λhe tl t ht=>tl t _ ((aw he).trans (aw ht)) ((aw he).free ht) af
  have NH:∀ {a:Str} {v:V},q0 H1 Q a v->∀t,H1 t=none->Q (.ref t) (upd H1 t (.tup [.str a,v])):=λtl t ht=>tl t _ (aw ht) ht af
  rcases h with ⟨dr,n,rfl,rfl,hx,lg,tl⟩ | ⟨dr,z2,rfl,rfl,hx,tl⟩ | ⟨dr,n,rfl,rfl,hx,lg,tl⟩ | ⟨rfl,tl⟩ | ⟨rfl,tl⟩ | ⟨rfl,tl⟩ | ⟨rfl,tl⟩
  ·exact⟨true,T.pk,dZ λea he=>⟨_,rfl,ea,A.bV,dr,_,.int n,rfl,af,aw he _ _ hx,T.EH,rfl,⟨_,.int lg⟩,(by show 2<=de;decide),λt ht=>⟨_,rfl,fin he tl t ht⟩⟩⟩
  ·refine⟨false,T.xD,cf ⟨true,T.vj,dZ λea he=>?_⟩⟩
   have fa:upd H1 ea (xo ea (.ref A.bH) (some dr)) ea=some (xo ea (.ref A.bH) (some dr)):=af;have sa:aS H1 (upd H1 ea (xo ea (.ref A.bH) (some dr))):=aw he;generalize upd H1 ea (xo ea (.ref A.bH) (some dr))=Ha at fa sa ⊢;refine⟨(by show 2<=de;decide),λL hL=>?_⟩
   have fL:upd Ha L (.lst [V.str (ar "name"),V.str (ar "under")]) L=some (.lst [V.str (ar "name"),V.str (ar "under")]):=af;have sb:aS Ha (upd Ha L (.lst [V.str (ar "name"),V.str (ar "under")])):=aw hL;generalize upd Ha L (.lst [V.str (ar "name"),V.str (ar "under")])=Hb at fL sb ⊢;refine⟨_,rfl,(by show 5<=de;decide),λq hq=>?_⟩
   have sc:=aw (o:=.tup [V.ref A.bI,V.ref A.bu,V.ref A.cJ,V.ref A.bN,V.ref A.bP]) hq;refine⟨ea,q,A.bH,dr,_,false,[A.bI,A.bu,A.cJ,A.bN,A.bP],rfl,SqT.of af,sc _ _ (sb _ _ fa),sc _ _ (sb _ _ (sa _ _ hx)),T.II,T.IJ,.inr ⟨false,rfl,?_⟩⟩;generalize upd Hb q (.tup [V.ref A.bI,V.ref A.bu,V.ref A.cJ,V.ref A.bN,V.ref A.bP])=Hc at sc ⊢;have s3:=(sa.trans sb).trans sc;refine⟨L,_,_,.str (ar "name"),rfl,rfl,SqL.of (sc _ _ fL),R.cQ,?_⟩;exact⟨_,rfl,ea,A.bH,dr,_,.str z2,rfl,sc _ _ (sb _ _ fa),s3 _ _ hx,T.IK,rfl,⟨_,.str⟩,(by show 2<=de;decide),λt ht=>⟨_,rfl,tl t _ (s3.trans (aw ht)) (s3.free ht) af⟩⟩
  ·exact⟨false,T.xC,cf ⟨false,T.vg,cf ⟨true,T.vh,dZ λea he=>⟨_,rfl,ea,A.bP,dr,_,.int n,rfl,af,aw he _ _ hx,T.IG,rfl,⟨_,.int lg⟩,(by show 2<=de;decide),λt ht=>⟨_,rfl,fin he tl t ht⟩⟩⟩⟩⟩
  ·exact⟨false,T.zw,cf ⟨false,T.xA,cf ⟨false,T.xB,cf ⟨true,T.zx,dZ ⟨(by show 2<=de;decide),λt ht=>⟨_,rfl,NH tl t ht⟩⟩⟩⟩⟩⟩
  ·exact⟨false,T.ud,cf ⟨false,T.r6,cf ⟨false,T.r8,cf ⟨false,T.ue,cf ⟨true,T.ph,dZ ⟨(by show 2<=de;decide),λt ht=>⟨_,rfl,NH tl t ht⟩⟩⟩⟩⟩⟩⟩
  ·exact⟨false,T.u9,cf ⟨false,T.t9,cf ⟨false,T.ua,cf ⟨false,T.vc,cf ⟨false,T.qu,cf ⟨true,T.rY,dZ ⟨(by show 2<=de;decide),λt ht=>⟨_,rfl,NH tl t ht⟩⟩⟩⟩⟩⟩⟩⟩
  ·exact⟨false,T.vd,cf ⟨false,T.ub,cf ⟨false,T.uc,cf ⟨false,T.ve,cf ⟨false,T.qv,cf ⟨false,T.rZ,cf ⟨true,T.r0,dZ ⟨(by show 2<=de;decide),λt ht=>⟨_,rfl,NH tl t ht⟩⟩⟩⟩⟩⟩⟩⟩⟩
end
def nl1:Str:=ar "\n"
structure TxS (z f:Str)(r:List Str):Prop where
 sp:Txt.split z nl1=f::r
 zl:z.length<=40000
 fl:f.length<=40000
 fa:R.Asc f
 rl:∀x∈r,x.length<=40000
 rn:r.length<=40000
def j8 (A:Adr)(c:Col)(H:Hp)(o:Addr)(kvs:List (Key×V)):Prop:=c o=none/\∃dx D,H o=some (.ins A.cz dx [("chambers",.ref D)])/\c D=some (0,.made)/\H D=some (.dK kvs)
theorem j8.step {A:Adr}{i:Nat}{c c':Col}{H H':Hp}{o:Addr}{kvs:List (Key×V)}(n:i≠0)(s:Step (dn i) c c' H H')(h:j8 A c H o kvs):j8 A c' H' o kvs:=by
 obtain⟨co,dx,D,ho,cD,hD⟩:=h;have no:¬dn i (c o):=by rw[co];exact aW
 have nD:¬dn i (c D):=by rw[cD];exact zE (UU n) _
 exact⟨by rw[s.col _ _ ho no];exact co,dx,D,s.keep _ _ ho no,by rw[s.col _ _ hD nD];exact cD,s.keep _ _ hD nD⟩
def KpN (c:Col)(H:Hp)(c':Col)(H':Hp):Prop:=∀a v,c a=none->H a=some v->c' a=none/\H' a=some v
def Kp (A:Adr)(i:Nat)(c:Col)(H:Hp)(c':Col)(H':Hp):Prop:=(∀j o st,j≠i->j≠0->cV A j c H o st->cV A j c' H' o st)/\KpN c H c' H'
theorem wX.pre {A:Adr}{i:Nat}{c c1:Col}{H H1:Hp}{o:Addr}{Q:VK}{E:XK}(s:Step (dn i) c c1 H H1):∀ {p:Rs×Ch},wX A i c H o p Q E->wX A i c1 H1 o p Q E
 | (.num _,_),⟨n,q⟩=>⟨n,λc' H' t=>q c' H' (s.trans t)⟩
 | (.txt _,_),q=>q
 | (.exc _,_),q=>λc' H' C d t=>q c' H' C d (s.trans t)
def GB (A:Adr)(i:Nat)(c:Col)(H:Hp)(oc:Addr)(st:Ch)(k:Str)(x:R.Ask)(Q:VK)(E:XK):Prop :=
 (k=ar "do"/\∃N d,x=.xM d/\Inv N st/\N<=800/\DdV st d/\wX A i c H oc (bJ st d) Q E) \/
 (k=ar "state"/\st.bg=[]/\st.aV.length<=1000/\st.decided.length<=1000/\∀H',aS H H'->Q (.str (HA st)) H') \/
 (k=ar "text"/\∃n:Nat,x=.num (n:Int)/\n < 10 ^ 10/\¬eY st n/\∀H',aS H H'->E (.ref A.bu) none H') \/
 (k=ar "minutes"/\(st.rows.map (·.length)).sum+st.rows.length<=1000000/\∀H',aS H H'->Q (.str (gp (ar "\n") st.rows)) H')
def Ux (A:Adr)(c:Col)(H:Hp)(o:Addr)(kvs:List (Key×V))(i:Nat)(k:Str)(ns:List Str)(x:R.Ask)(Q:VK)(E:XK):Prop :=
 (k=ar "open"/\∃a n,ns=[a]/\x=.num n/\∀oN c' H',Kp A i c H c' H'->j8 A c' H' o (putK kvs (U8 a) (.ref oN))->cV A i c' H' oN (pG n)->Q (.str (ar "ok")) H') \/
 (k≠ar "open"/\∃(ps:List Str) (a:Str) (r2:List Str),ns=ps++a::r2/\(∀p∈ps,∃v,ee kvs (U8 p)=some v)/\ee kvs (U8 a)=none/\∀d H',aS H H'->H' d=some (.xd [("name",.str a)])->E (.ref A.bH) (some d) H') \/
 (k≠ar "open"/\k≠ar "part"/\∃a oc st,ns=[a]/\ee kvs (U8 a)=some (.ref oc)/\cV A i c H oc st/\GB A i c H oc st k x Q E)
def SO (A:Adr)(c:Col)(H:Hp)(o:Addr)(kvs:List (Key×V))(i:Nat)(r:List Str)(k:Str)(ns:List Str)(x:R.Ask)(Q:VK)(E:XK):Prop :=
 (k=ar "read"/\∃a n ds st j z r',ns=[a]/\x=.num n/\r=(ds.take j).map R.fA++z::r'/\Rep n ds st/\ds.length<=50/\j<=ds.length/\wU (jG n (ds.take j)) z/\∀c' H' dd,Step (dn i) c c' H H'->H' dd=some (.xd [("row",.int ((j+2:Nat):Int))])->E (.ref A.bV) (some dd) H') \/
 (k≠ar "read"/\∃ys z r',r=ys++z::r'/\ys.all R.eL=true/\R.eL z=false/\R.nK A ((ys.length+2:Nat):Int) E H) \/
 (k≠ar "read"/\r.all R.eL=true/\kvs.length<=1000/\(∀p∈ns,p.length<=10000)/\ns.length<=2/\Ux A c H o kvs i k ns x Q E)
def Uy (A:Adr)(c:Col)(H:Hp)(o:Addr)(kvs:List (Key×V))(i:Nat)(f:Str)(r:List Str)(Q:VK)(E:XK):Prop :=
 (R.dP (Txt.split f R.bl1)=none/\R.nK A 1 E H)\/∃k ns x,R.dP (Txt.split f R.bl1)=some (k,ns,x)/\SO A c H o kvs i r k ns x Q E
def jI (A:Adr):Sp:=λvs H Q E=>∃(o:Addr) (z f:Str) (r:List Str) (kvs:List (Key×V)) (c:Col) (i:Nat),
 vs=[.ref o,.str z]/\j8 A c H o kvs/\i≠0/\TxS z f r/\Uy A c H o kvs i f r Q E
section
variable{P:ko}{w:World}{K:ba}{mg:Str->Option Value}{base:Heap}{A:Adr}
theorem QC (T:Txt w.params K mg A):FnOk P w K mg base (CXG false true P w) 13 A.gY A.fV ["self","text"] (jI A):=by
 have De:FnOk P w K mg base (CXX P w) 9 A.mw A.hG ["row"] (R.Ma A):=R.AL T;have xN:FnOk P w K mg base (CXX P w) 3 A.hJ A.eR ["rows"] (R.Hy K A):=R.vC T;have z5:FnOk P w K mg base CX0 1 A.my A.iF ["one","other"] (λ_ _ _ _=>False):=i4
 refine T.FZ.okXB fU (λvs H Q E h=>?_) (λcdv A' outer s H vs Q E hr h=>?_)
 ·obtain⟨o,z,f,r,kvs,c,i,rfl,_⟩:=h;rfl
 ·obtain⟨o,z,f,r,kvs,c,i,rfl,hd,hi,tx,q⟩:=h;have sz:de=16777216:=by decide
  have zl:=tx.zl;have fl:=tx.fl;refine⟨_,(aj (psx (aT (i:=2) fU.nd rfl (ro rfl) (ic Vq PySem.F.slot_str_split PySem.F.type_str_split sV (pv 1) (aa ag ae))))
 (aj (sX (i:=3) fU.nd rfl (ro rfl) (aU De (hr.mono (by decide)) rfl T.Cw T.tS.kp T.Cy (pax (aa (aY bz (pv 2) ao (λ_ _=>rfl)) ae))))
 (aj (psx (aT (i:=4) fU.nd rfl (ro rfl) (aY bp (pv 3) ao (λ_ _=>rfl))))
 (aj (psx (aT (i:=5) fU.nd rfl (ro rfl) (aY bp (pv 3) ao (λ_ _=>rfl))))
 (aj (psx (aT (i:=6) fU.nd rfl (ro rfl) (aY bp (pv 3) ao (λ_ _=>rfl))))
 (aj (bU (aL bf (pv 4) ag (aK _))
 (aC (b5 (jf (px (pv 0)) T.cK T.wI (Hz T).TZ (hr.mono (by decide)) T.wJ (a7 (px (aY bz (pv 5) ao (λ_ _=>rfl))) (a7 (pe_callXB rfl (C5 (i:=i) T) (hr.mono (by decide)) rfl T.Eh T.wD.kp T.Ei (pax (aa (pv 6) (aa (jd pM (pv 2) (jM ao) pL) ae)))) dH)))))
 (gf aO))
 (aj (bA (aU xN (hr.mono (by decide)) rfl T.xt T.nF.kp T.xu (pax (aa (jd pM (pv 2) (jM ao) pL) ae))))
 (aj (psx (bW (aL bf (pv 4) ag (aK _))
 (aq (aI (c9 (pv 0) T.cK T.wI (Hz T) (hr.mono (by decide)) T.wJ .nil a6 (aa (aY bz (pv 5) ao (λ_ _=>rfl)) (aa (fF T.Bi (LN T) (hr.mono (by decide)) rfl T.Bh T.o8 .nil a6 (aa (pv 6) ae)) ae)))))
 aO))
 (aj (DH (i:=7) (scope:=oi) ⟨rfl,rfl⟩ qO rfl rfl (ro rfl) (g8 (pv 5)) (λ_ _ _ _ _=>(eO (i:=0) qO.nd2 rfl (ro rfl))) (λ_ _ _ _ _=>(jf (px (pv 1)) T.cK T.t6 (AM T) (hr.mono (by decide)) T.t8 (pax (aa (pv 0) ae)))))
 (aj (psx (bW (aL bf (pv 4) ag (aK _))
 (aq (aI (bw z5 (hr.mono (by decide)) rfl T.y4 T.y6.kp T.y7 .nil a6 (aa (aY bz (pv 7) ao (λ_ _=>rfl)) (aa (aY bz (pv 7) ao (λ_ _=>rfl)) ae)))))
 aO))
 (aC (b5 (aU (Jk (i:=i) T) (hr.mono (by decide)) rfl T.K5 T.Ej.kp T.K6 (pax (aa (pv 4) (aa (aY bz (pv 7) ao (λ_ _=>rfl)) (aa (pv 6) ae))))))))))))))))),?_⟩
  try dsimp only[bh]
  refine⟨_,rfl,rfl,z,nl1,rfl,rfl,by trivial,by omega,λW hW=>?_⟩
  rw[tx.sp];have fW:upd H W (.lst ((f::r).map V.str)) W=some (.lst ((f::r).map V.str)):=af;have s1:aS H (upd H W (.lst ((f::r).map V.str))):=aw hW;generalize upd H W (.lst ((f::r).map V.str))=H1 at fW s1 ⊢;refine⟨_,rfl,W,_,_,.str f,rfl,rfl,SqL.of fW,R.cQ,?_⟩;refine⟨f,rfl,by omega,tx.fa,λk ns x hx t L v H2 s2 nt nL ht hL hv=>?_,λhn=>?_⟩
  rotate_left
  ·rcases q with ⟨_,e⟩ | ⟨k,ns,x,e,_⟩
   ·exact e.same s1
   ·rw[e]at hn;cases hn
  have qk:SO A c H o kvs i r k ns x Q E:=by
   rcases q with ⟨e,_⟩ | ⟨k',ns',x',e,q⟩
   ·rw[e]at hx;cases hx
   ·rw[e]at hx;cases hx;exact q
  have s12:=s1.trans s2;have fW2:=s2 _ _ fW;clear fW hW q;refine⟨_,rfl,t,_,_,.str k,rfl,rfl,SqT.of ht,R.cQ,?_⟩;refine⟨_,rfl,t,_,_,.ref L,rfl,rfl,SqT.of ht,R.mW,?_⟩;refine⟨_,rfl,t,_,_,v,rfl,rfl,SqT.of ht,(fG (j:=2) rfl),?_⟩;have stp:Step (dn i) c (cC c H) H H2:=Step.cl aW s12;have hd2:j8 A (cC c H) H2 o kvs:=hd.step hi stp;have LX:kh ((f::r).map V.str) (some 1) none=r.map V.str:=R.LX _ _;refine⟨_,rfl,rfl,_,rfl,ie (λe=>?_) (λe=>?_)⟩
  ·obtain rfl:=R.iN e;rcases qk with ⟨_,a,n,ds,st,j,z',r',rfl,rfl,rfl,rep,dl,jl,rz,q⟩ | ⟨n,_⟩ | ⟨n,_⟩
   ·obtain⟨co,dx,D,ho,cD,hD⟩:=hd2;refine⟨_,rfl,o,dx,_,rfl,ho,rfl,?_⟩;refine⟨_,rfl,L,(_),_,.str a,rfl,rfl,SqL.of hL,R.cQ,?_⟩;have ev:v=.int n:=hv;subst ev;refine⟨_,rfl,_,rfl,_,rfl,W,_,rfl,SqL.of fW2,λB hB=>?_⟩
    rw[LX];have sB:Step (dn i) (cC c H) (aZ (cC c H) B none) H2 (upd H2 B (.lst ((List.map R.fA (ds.take j)++z'::r').map V.str))):=Step.new aW hB;refine⟨n,B,aZ (cC c H) B none,ds,st,j,z',r',rfl,bD,af,rep,dl,jl,rz,λc' H' dd s' hdd=>?_⟩
    exact q c' H' dd ((stp.trans sB).trans s') hdd
   ·exact absurd rfl n
   ·exact absurd rfl n
  have nr:=R.iM e;have qr:=qk.resolve_left λz=>nr z.1
  clear qk;have Uz:∀x∈r,x.length<=60000:=λx hx=>ku (tx.rl x hx) (by decide)
  have UA:r.length<=60000:=ku tx.rn (by decide)
  refine⟨_,rfl,_,rfl,W,_,rfl,SqL.of fW2,λB hB=>?_⟩
  rw[LX];have sB:aS H2 (upd H2 B (.lst (r.map V.str))):=aw hB;have fB:upd H2 B (.lst (r.map V.str)) B=some (.lst (r.map V.str)):=af;generalize upd H2 B (.lst (r.map V.str))=H3 at sB fB ⊢;refine⟨B,r,rfl,SqL.of fB,Uz,UA,?_⟩;rcases qr with ⟨_,ys,z',r',rfl,yb,zb,er⟩ | ⟨_,rb,kl,nl,n2,qb⟩
  ·exact .inr ⟨ys,z',r',rfl,yb,zb,er.same (s12.trans sB)⟩
  refine .inl ⟨rb,λH4 s4=>?_⟩
  have s14:=s12.trans (sB.trans s4);have QD:Step (dn i) c (cC c H) H H4:=Step.cl aW s14;have hd4:j8 A (cC c H) H4 o kvs:=hd.step hi QD;have hL4:=s4 _ _ (sB _ _ hL);have hv4:=hv.same (sB.trans s4);clear hL hv ht fB sB s4 fW2 hB hd2 stp;refine⟨_,rfl,rfl,_,rfl,ie (λe=>?_) (λe=>?_)⟩
  ·obtain rfl:=R.iN e;rcases qb with ⟨_,a,n,rfl,rfl,q⟩ | ⟨n,_⟩ | ⟨n,_⟩
   ·have ev:v=.int n:=hv4;refine aX λGq gq=>?_
    subst ev;have UB:=hd4;obtain⟨co,dx,D,ho,cD,hD⟩:=UB;refine gq ?_;refine⟨_,rfl,o,dx,_,rfl,ho,rfl,_,rfl,L,(_),_,.str a,rfl,rfl,SqL.of hL4,R.cQ,?_⟩;refine⟨_,rfl,λoN d1 ho1 hd1 ne1=>⟨oN,d1,n,rfl,af,λH5 h5=>⟨rfl,?_⟩⟩⟩
    refine aX λGq gq=>?_
    obtain⟨c5,k5,ch5⟩:=h5 i (cC c H);have st5:Step (dn i) (cC c H) c5 H4 H5:=Bw aW ho1 hd1 k5;obtain⟨co,dx,D,ho,cD,hD⟩:=hd4.step hi st5;have su:Step (dn 0) c5 c5 H5 (upd H5 D (.dK (putK kvs (U8 a) (.ref oN)))):=Step.upd aW ⟨_,cD⟩;have nD:o≠D:=λz=>by rw[z,hD]at ho;cases ho
    refine gq ?_;exact⟨o,dx,D,a,.ref oN,kvs,rfl,ho,hD,kl,q oN c5 _ ⟨λj o' st hji hj0 hc=>cV.other hj0 su (cV.other hji (QD.trans st5) hc),λa v h hv=>let ⟨h1,h2⟩:=eZ (QD.trans st5) h hv;eZ su h1 h2⟩ ⟨co,dx,D,(ax nD).trans ho,cD,af⟩ (cV.other hi su ch5)⟩
   ·exact absurd rfl n
   ·exact absurd rfl n
  refine aX λGq gq=>?_
  have nk:=R.iM e;have qc:=qb.resolve_left λz=>nk z.1
  clear qb;obtain⟨co,dx,D,ho,cD,hD⟩:=hd4;refine gq ?_;refine⟨_,rfl,L,rfl,⟨_,SqL.of hL4⟩,λD2 hD2=>?_⟩
  refine yu (K:=K) (a:=L) (xs:=ns.map V.str) (λj ys H5=>ys.length=j/\(∀m y,ys[m]?=some y->∃a,ns[m]?=some a/\ee kvs (U8 a)=some y)/\aS H4 H5/\H5 D2=some (.lst ys))
   ⟨rfl,(λm y h=>by rw[List.getElem?_nil]at h;cases h),aw hD2,af⟩ (by rw[da];omega) ?_ ?_ ?_
  ·rintro j ys H5 hj ⟨yl,_,s5,h5⟩;exact⟨SqL.of (s5 _ _ hL4),h5,yl⟩
  ·rintro j y ys H5 hj ⟨yl,yv,s5,h5⟩;rw[U5]at hj;cases hp:ns[j]? with
   |none=>rw[hp]at hj;cases hj
   |some p =>
    rw[hp]at hj;obtain rfl:V.str p=y:=ra hj;refine⟨_,rfl,o,dx,_,rfl,s5 _ _ ho,rfl,_,rfl,o,p,kvs,rfl,⟨dx,D,s5 _ _ ho,s5 _ _ hD⟩,nl p (ma hp),λu hu=>?_,λhn d H6 s6 h6=>?_⟩
    ·refine dF.mk (by rw[da];exact(List.getElem?_eq_some_iff.mp hp).1) h5 ⟨by simp[yl],λm y hm=>?_,s5.own hD2,af⟩
     by_cases h:m < ys.length
     ·rw[Vo h]at hm;exact yv m y hm
     ·have hl:=(List.getElem?_eq_some_iff.mp hm).1;refine aX λGq gq=>?_
      rw[km,U4]at hl;obtain rfl:m=ys.length:=by omega
      rw[Vb (kg _),Nat.sub_self]at hm;cases hm;refine gq ?_;exact⟨p,by rw[yl];exact hp,hu⟩
    ·rcases qc with ⟨_,ps,a,r2,rfl,pv,na,q⟩ | ⟨_,np,a,oc,st,rfl,va,hc,q⟩
     ·have h:j=ps.length:=by
       rcases Nat.lt_trichotomy j ps.length with h | h | h
       ·rw[Vo h]at hp;obtain⟨v,hv⟩:=pv p (ma hp);rw[hv]at hn;cases hn
       ·exact h
       ·obtain⟨b,hb,hb2⟩:=yv ps.length _ (UT (by omega))
        rw[Vb (kg _),Nat.sub_self]at hb;obtain rfl:a=b:=ra hb;rw[na]at hb2;cases hb2
      refine aX λGq gq=>?_
      subst h;rw[Vb (kg _),Nat.sub_self]at hp;obtain rfl:a=p:=ra hp;refine gq ?_;exact q d H6 (s14.trans (s5.trans s6)) h6
     ·have h:=ma hp;rw[wt]at h;rw[h,va]at hn;cases hn
  ·rintro ys H5 ⟨yl,yv,s5,h5⟩;rw[da]at yl;rcases qc with ⟨_,ps,a,r2,rfl,pv,na,q⟩ | ⟨_,np,a,oc,st,rfl,va,hc,q⟩
   ·obtain⟨b,hb,hb2⟩:=yv ps.length _ (UT (by rw[yl,km,kf];omega))
    rw[Vb (kg _),Nat.sub_self]at hb;obtain rfl:a=b:=ra hb;rw[na]at hb2;cases hb2
   refine aX λGq gq=>?_
   obtain⟨y,rfl⟩:=List.length_eq_one_iff.mp yl;obtain rfl:y=.ref oc:=by
    obtain⟨b,hb,hb2⟩:=yv 0 y rfl;obtain rfl:a=b:=ra hb;rw[va]at hb2;exact(ra hb2).symm
   have s15:=s14.trans s5;have UC:Step (dn i) c (cC c H) H H5:=Step.cl aW s15;have hc5:cV A i (cC c H) H5 oc st:=hc.free (W:=λ_=>False) (λ_=>id) (Step.cl id s15)
   have hv5:=(hv4.same s5).back s1;refine gq ?_;refine⟨_,rfl,rfl,tsf (by show decide _=false;exact decide_eq_false λz=>np (by injection z)) ?_⟩
   refine⟨_,rfl,_,rfl,D2,(_),_,.ref oc,rfl,rfl,SqL.of h5,R.cQ,_,rfl,k,oc,v,cC c H,st,rfl,hc5,?_⟩;rcases q with ⟨rfl,N,d,rfl,I,hN,hdk,qa⟩ | ⟨rfl,ha,hp,hdl,qa⟩ | ⟨rfl,n,rfl,n10,nn,qa⟩ | ⟨rfl,hs,qa⟩
   ·obtain⟨td,rfl,ntd,hdn⟩:=hv5;exact .inl ⟨rfl,td,N,d,rfl,I,hN,hdk,(wR ntd (λ_ h=>dW h) hdn).c,qa.pre UC⟩
   ·exact .inr (.inl ⟨rfl,ha,hp,hdl,λH' s'=>qa H' (s15.trans s')⟩)
   ·exact .inr (.inr (.inl ⟨rfl,n,hv5,n10,nn,qa _ s15⟩))
   ·exact .inr (.inr (.inr ⟨rfl,hs,λH' s'=>qa H' (s15.trans s')⟩))
end
def frB (z:Str):Bool:=z.cps.toList.all λc=>decide (33<=c) && decide (c < 127)
def shB (z:Str):Bool:=frB z && decide (z.length<=100)
def rwB (z:Str):Bool:=(z.cps.toList.all λc=>decide (32<=c) && decide (c < 127)) && decide (z.length<=1000)
theorem bY {n:Str}(h:R.bq n=true):shB n=true:=by
 unfold R.bq at h;rw[gc,gc,decide_eq_true_iff,decide_eq_true_iff]at h;unfold shB frB;rw[gc,decide_eq_true_iff,V9];refine⟨λc hc=>?_,by omega⟩
 have:=List.all_eq_true.mp h.2.2 c hc;unfold R.jH at this;rw[gc,decide_eq_true_iff,decide_eq_true_iff]at this;rw[gc,decide_eq_true_iff,decide_eq_true_iff];omega
theorem dJ {n:Str}(h:R.bq n=true):n.length<=12:=by
 unfold R.bq at h;rw[gc,gc,decide_eq_true_iff,decide_eq_true_iff]at h;exact h.2.1
theorem HB {z:Str}(h:shB z=true){c:Nat}(hc:c∈z.cps.toList):33<=c/\c < 127:=by
 unfold shB frB at h;rw[gc]at h;have:=List.all_eq_true.mp h.1 c hc;rw[gc,decide_eq_true_iff,decide_eq_true_iff]at this;exact this
theorem QE {z:Str}(h:shB z=true):z.length<=100:=by
 unfold shB at h;rw[gc,decide_eq_true_iff]at h;exact h.2
theorem rw_at {z:Str}(h:rwB z=true):(∀c∈z.cps.toList,32<=c/\c < 127)/\z.length<=1000:=by
 unfold rwB at h;rw[gc,decide_eq_true_iff]at h;refine⟨λc hc=>?_,h.2⟩
 have:=List.all_eq_true.mp h.1 c hc;rw[gc,decide_eq_true_iff,decide_eq_true_iff]at this;exact this
theorem OA:nl1=⟨#[10]⟩:=by trivial
theorem NI {ws:List Str}(hw:ws.all shB=true):∀c∈(gp R.bl1 ws).cps.toList,32<=c/\c < 127:=by
 rw[R.dU]
 induction ws with
 |nil=>exactλc hc=>(VO (show c∈([]:List Nat) from hc)).elim
 |cons x r ih =>
  rw[Vk,gc]at hw;cases r with
  |nil=>exactλc hc=>by have:=HB hw.1 hc;omega
  |cons y r =>
   intro c hc;rw[d0]at hc;rcases List.mem_append.mp hc with hc | hc
   ·have:=HB hw.1 hc;omega
   ·rcases List.mem_cons.mp hc with rfl | hc
    ·omega
    ·exact ih hw.2 c hc
structure vD (z:Str)(ws rest:List Str):Prop where
 tx:TxS z (gp R.bl1 ws) rest
 sp:Txt.split (gp R.bl1 ws) R.bl1=ws
theorem CT {α:Type}(f:α->Nat)(m:Nat):∀l:List α,(∀x∈l,f x<=m)->(l.map f).sum<=m * l.length
 |[],_=>by simp
 |x::r,h=>by
  have h1:=h x kb;have h2:=CT f m r λy hy=>h y (kr _ hy)
  rw[kx,Wq,kf,Nat.mul_succ];omega
theorem Df {z:Str}{ws rest:List Str}(hz:z=gp nl1 (gp R.bl1 ws::rest))(h0:ws≠[])(hw:ws.all shB=true)(hl:ws.length<=10)(hr:rest.all rwB=true)(hn:rest.length<=10):vD z ws rest:=by
 have wl:∀w∈ws,w.length<=100:=λw h=>QE (List.all_eq_true.mp hw w h)
 have rl:∀x∈rest,x.length<=1000:=λx h=>(rw_at (List.all_eq_true.mp hr x h)).2
 have ja:=NI hw;have jl:(gp R.bl1 ws).length<=1010:=by
  have h1:=R.lU 32 ws h0;have h2:=CT (·.length) 100 ws wl
  rw[R.dU];omega
 have fre:∀x∈gp R.bl1 ws::rest,10∉x.cps.toList:=by
  intro x hx h10;rcases List.mem_cons.mp hx with rfl | hx
  ·have:=ja 10 h10;omega
  ·have:=(rw_at (List.all_eq_true.mp hr x hx)).1 10 h10;omega
 have zl:z.length<=40000:=by
  have h1:=R.lU 10 (gp R.bl1 ws::rest) (UX _ _);have h2:=CT (·.length) 1010 (gp R.bl1 ws::rest) (λx hx=>by
   rcases List.mem_cons.mp hx with rfl | hx
   ·exact jl
   ·have:=rl x hx;omega)
  rw[kf]at h1 h2;rw[hz,OA];omega
 refine⟨⟨?_,zl,by omega,λc hc=>by have:=ja c hc;omega,λx hx=>by have:=rl x hx;omega,by omega⟩,?_⟩
 ·rw[hz,OA];exact l4 (UX _ _) fre
 ·rw[R.dU];exact l4 h0 λw hw' h32=>by have:=HB (List.all_eq_true.mp hw w hw') h32;omega
def AO (p:Str)(xs:List Str)(q:Str)(r rest:List Str):Bool :=
 decide (p=gp R.bl1 xs++R.bl1) && (decide (U7++q=gp nl1 ((match r with | []=>U7 | _::_=>R.bl1++gp R.bl1 r)::rest)) && (decide (1<=xs.length) && (decide (xs.length<=2) && (xs.all shB && (r.all shB && (decide (r.length<=7) && (rest.all rwB && decide (rest.length<=10))))))))
theorem qh (a:Str):a++U7=a:=by
 apply jO;rw[cv];exact VH _
theorem NJ (a:Str):U7++a=a:=by
 apply jO;rw[cv];rfl
theorem join_one (s a:Str):gp s [a]=a:=rfl
theorem cL (s a b:Str)(r:List Str):gp s (a::b::r)=(a++s)++gp s (b::r):=rfl
theorem Fd (s a b:Str):∀r:List Str,a++gp s (b::r)=gp s ((a++b)::r)
 |[]=>rfl
 |c::r=>by rw[cL,cL,dz,dz,dz]
theorem nW (s b:Str)(r:List Str):∀xs:List Str,xs≠[]->gp s (xs++b::r)=(gp s xs++s)++gp s (b::r)
 |[],h=>absurd rfl h
 |[a],_=>rfl
 |a::c::xs,_=>by
  show gp s (a::c::(xs++b::r))=_;rw[cL,cL,show c::(xs++b::r)=(c::xs)++b::r from rfl,nW s b r (c::xs) (UX _ _)]
  simp only[dz]
theorem gG {n p q:Str}{xs r rest:List Str}(hn:shB n=true)(h:AO p xs q r rest=true):vD (p++n++q) (xs++n::r) rest:=by
 unfold AO at h;simp only[gc,decide_eq_true_iff]at h;obtain⟨hp,hq,h1,h2,hx,hr,hl,hrs,hln⟩:=h;rw[NJ]at hq;have h0:xs≠[]:=λe=>by rw[e]at h1;simp at h1
 refine Df ?_ (by simp) ?_ (by rw[km,kf];omega) hrs hln
 ·rw[hp,hq,Fd,nW _ _ _ _ h0]
  congr 1
  congr 1
  cases r with
  |nil=>rw[qh];rfl
  |cons y r=>rw[cL];simp only[dz]
 ·rw[List.all_append,Vk,hx,hn,hr];rfl
theorem sD {n p:Str}{xs:List Str}(hn:shB n=true)(h:AO p xs U7 [] []=true):vD (p++n) (xs++[n]) []:=by
 have:=gG hn h
 rwa [qh]at this
def QF (z:Str)(ws rest:List Str):Bool :=
 decide (z=gp nl1 (gp R.bl1 ws::rest)) && (decide (1<=ws.length) && (ws.all shB && (decide (ws.length<=10) && (rest.all rwB && decide (rest.length<=10)))))
theorem SQ {z:Str}{ws rest:List Str}(h:QF z ws rest=true):vD z ws rest:=by
 unfold QF at h;simp only[gc,decide_eq_true_iff]at h;obtain⟨hz,h1,hw,hl,hr,hln⟩:=h;exact Df hz (λe=>by rw[e]at h1;simp at h1) hw hl hr hln
theorem UD:∀k < 26,We (97+k)=[65+k]:=by trivial
theorem NK (x:Str):(Txt.upper x).cps.toList=(x.cps.toList.map We).flatten:=by
 unfold Txt.upper;have h:∀l:List Nat,l.mapIdx (λ_ c=>(We c).toArray)=l.map λc=>(We c).toArray:=λl=>by
  apply List.ext_getElem?;intro i;rw[List.getElem?_mapIdx,U5]
 simp[PySem.placed,h];rfl
theorem NL {n:Str}(h:R.bq n=true):∃m,(Txt.upper n).cps.toList=n.cps.toList.map m/\∀c∈n.cps.toList,65<=m c/\m c<=90:=by
 unfold R.bq at h;rw[gc,gc]at h;refine⟨λc=>c - 32,?_,λc hc=>?_⟩
 ·rw[NK];have:∀l:List Nat,l.all R.jH=true->(l.map We).flatten=l.map λc=>c - 32:=by
   intro l
   induction l with
   |nil=>exactλ_=>rfl
   |cons c r ih =>
    intro hl;rw[Vk,gc]at hl;have h1:=hl.1;unfold R.jH at h1;rw[gc,decide_eq_true_iff,decide_eq_true_iff]at h1;have e:=UD (c - 97) (by omega)
    rw[show 97+(c - 97)=c by omega,show 65+(c - 97)=c - 32 by omega]at e
    rw[kx,kx,List.flatten_cons,e,ih hl.2];rfl
  exact this _ h.2.2
 ·have h1:=List.all_eq_true.mp h.2.2 c hc;unfold R.jH at h1;rw[gc,decide_eq_true_iff,decide_eq_true_iff]at h1;dsimp only;omega
theorem len_list (z:Str):z.cps.toList.length=z.length:=by simp[Str.length]
theorem Mc {n:Str}(h:R.bq n=true):shB (Txt.upper n)=true/\R.bq (Txt.upper n)=false/\(Txt.upper n).length<=12:=by
 obtain⟨m,e,hm⟩:=NL h;have l:(Txt.upper n).length=n.length:=by rw[<-len_list,e,da,len_list]
 have ln:=dJ h;have l1:1<=n.length:=by
  unfold R.bq at h;rw[gc,decide_eq_true_iff]at h;exact h.1
 refine⟨?_,?_,by omega⟩
 ·unfold shB frB;rw[gc,decide_eq_true_iff,V9,e];refine⟨λc hc=>?_,by omega⟩
  obtain⟨d,hd,rfl⟩:=List.mem_map.mp hc;have:=hm d hd;rw[gc,decide_eq_true_iff,decide_eq_true_iff];omega
 ·unfold R.bq;cases hn:n.cps.toList with
  |nil=>rw[<-len_list,hn]at l1;simp at l1
  |cons c r =>
   have:=hm c (by rw[hn];exact kb)
   rw[e,hn,kx,Vk,show R.jH (m c)=false by unfold R.jH;rw[decide_eq_false (show ¬97<=m c by omega)];rfl]
   simp
inductive Rf where
 |row (n:Nat) | name (z:Str) | bar (n:Int) | fit | number | nothing | many
def Rf.At (A:Adr)(H:Hp):Rf->Value->Option Addr->Prop
 | .row n,C,dd=>C=.ref A.bV/\∃d,dd=some d/\H d=some (.xd [("row",.int (n:Int))])
 | .name z,C,dd=>C=.ref A.bH/\∃d,dd=some d/\H d=some (.xd [("name",.str z)])
 | .bar n,C,dd=>C=.ref A.bP/\∃d,dd=some d/\H d=some (.xd [("bar",.int n)])
 | .fit,C,_=>C=.ref A.cJ
 | .number,C,_=>C=.ref A.bu
 | .nothing,C,_=>C=.ref A.bI
 | .many,C,_=>C=.ref A.bN
def Rf.key:Rf->Str
 | .row _=>ar "row" | .name _=>ar "name" | .bar _=>ar "bar" | .fit=>ar "fit" | .number=>ar "number" | .nothing=>ar "nothing" | .many=>ar "many"
def Rf.val:Rf->PyData
 | .row n=>.int (n:Int) | .name z=>.str z | .bar n=>.int n | _=>.int 0
def Rf.due (x:Rf):PyData:=.tuple [.str x.key,x.val]
def Rf.v:Rf->V
 | .row n=>.int (n:Int) | .name z=>.str z | .bar n=>.int n | _=>.int 0
def Rf.Ok:Rf->Prop
 | .row n=>n<=1000 | .bar n=>0<=n/\n<=1000 | .name z=>R.bq z=true | _=>True
structure mY (A:Adr)(one other:Str)(o o1 o2:Addr)(S1 S2:Ch)(c:Col)(H:Hp):Prop where
 dk:j8 A c H o [(U8 one,.ref o1),(U8 other,.ref o2)]
 c1:cV A 1 c H o1 S1
 c2:cV A 2 c H o2 S2
section
variable{A:Adr}{one other:Str}{o o1 o2:Addr}{S1 S2:Ch}{c c':Col}{H H':Hp}{z:Str}{ws rest:List Str}
theorem mY.step (h:mY A one other o o1 o2 S1 S2 c H)(s:Step (dn 3) c c' H H'):mY A one other o o1 o2 S1 S2 c' H':=⟨h.dk.step (by decide) s,h.c1.other (by decide) s,h.c2.other (by decide) s⟩
theorem mY.same (h:mY A one other o o1 o2 S1 S2 c H)(s:aS H H'):mY A one other o o1 o2 S1 S2 (cC c H) H':=h.step (Step.cl aW s)
def Wd (x:Option (Nat×Rl)):Prop:=∃i r,i≠0/\x=some (i,r)
theorem qi:¬Wd none:=λ⟨_,_,_,e⟩=>nomatch e
theorem Dg {i:Nat}(n:i≠0)(s:Step (dn i) c c' H H'):Step Wd c c' H H':=s.mono (λ_ ⟨r,e⟩=>⟨i,r,n,e⟩) qi
def XE (A:Adr)(one other:Str)(o o1 o2:Addr)(S1 S2:Ch)(x:Rf)(c:Col)(H:Hp):XK:=λC dd H'=>x.At A H' C dd/\∃c',Step Wd c c' H H'/\mY A one other o o1 o2 S1 S2 c' H'
def f7 (A:Adr)(one other:Str)(o o1 o2:Addr)(S1 S2:Ch)(z:Str)(x:Rf):Prop :=
 ∀c H,mY A one other o o1 o2 S1 S2 c H->jI A [.ref o,.str z] H (λ_ _=>False) (XE A one other o o1 o2 S1 S2 x c H)
theorem i6 (h:vD z ws rest)(hn:R.dP ws=none):f7 A one other o o1 o2 S1 S2 z (.row 1):=λc H D =>
 ⟨o,z,_,rest,_,c,3,rfl,D.dk,by decide,h.tx,.inl ⟨by rw[h.sp];exact hn,λd H' s hd=>⟨⟨rfl,d,rfl,hd⟩,_,Step.cl qi s,D.same s⟩⟩⟩
theorem NM {a z':Str}{n:Int}{ds:List R.br}{st:Ch}{j:Nat}{r':List Str}(h:vD z ws rest)(hn:R.dP ws=some (ar "read",[a],.num n))(hr:rest=(ds.take j).map R.fA++z'::r')
  (rep:Rep n ds st) (dl:ds.length<=50) (jl:j<=ds.length) (rz:wU (jG n (ds.take j)) z'):f7 A one other o o1 o2 S1 S2 z (.row (j+2)):=λc H D =>
 ⟨o,z,_,rest,_,c,3,rfl,D.dk,by decide,h.tx,.inr ⟨_,_,_,by rw[h.sp];exact hn,.inl ⟨rfl,a,n,ds,st,j,z',r',rfl,rfl,hr,rep,dl,jl,rz,λc' H' dd s hd=>⟨⟨rfl,dd,rfl,hd⟩,_,Dg (by decide) s,D.step s⟩⟩⟩⟩
theorem HC {k z':Str}{ns:List Str}{x:R.Ask}{ys r':List Str}(h:vD z ws rest)(hn:R.dP ws=some (k,ns,x))(nk:k≠ar "read")(hr:rest=ys++z'::r')(hy:ys.all R.eL=true)(hz:R.eL z'=false) :
  f7 A one other o o1 o2 S1 S2 z (.row (ys.length+2)):=λc H D =>
 ⟨o,z,_,rest,_,c,3,rfl,D.dk,by decide,h.tx,.inr ⟨_,_,_,by rw[h.sp];exact hn,.inr (.inl ⟨nk,ys,z',r',hr,hy,hz,λd H' s hd=>⟨⟨rfl,d,rfl,hd⟩,_,Step.cl qi s,D.same s⟩⟩)⟩⟩
theorem val_one {v u:V}:ee [((U8 one:Key),v),(U8 other,u)] (U8 one)=some v:=by
 unfold ee;rw[List.find?_cons_of_pos (by exact decide_eq_true rfl)]
 rfl
theorem vE {v u:V}(ne:one≠other):ee [((U8 one:Key),v),(U8 other,u)] (U8 other)=some u:=by
 unfold ee;rw[VT (by rw[decide_eq_true_iff];exactλe=>ne (Sum.inr.inj e)),List.find?_cons_of_pos (by exact decide_eq_true rfl)]
 rfl
theorem Fe {v u:V}{a:Str}(n1:one≠a)(n2:other≠a):ee [((U8 one:Key),v),(U8 other,u)] (U8 a)=none:=by
 unfold ee;rw[VT (by rw[decide_eq_true_iff];exactλe=>n1 (Sum.inr.inj e)),VT (by rw[decide_eq_true_iff];exactλe=>n2 (Sum.inr.inj e))]
 rfl
theorem Dh {k a:Str}{ns:List Str}{x:R.Ask}{ps r2:List Str}(h:vD z ws [])(hn:R.dP ws=some (k,ns,x))(nk:k≠ar "read")(no:k≠ar "open")(hs:ns=ps++a::r2)(hl:∀p∈ns,p.length<=10000)(h2:ns.length<=2)
  (hp:∀p∈ps,p=one) (n1:one≠a) (n2:other≠a):f7 A one other o o1 o2 S1 S2 z (.name a):=λc H D =>
 ⟨o,z,_,[],_,c,3,rfl,D.dk,by decide,h.tx,.inr ⟨_,_,_,by rw[h.sp];exact hn,.inr (.inr ⟨nk,rfl,by simp,hl,h2,.inr (.inl ⟨no,ps,a,r2,hs,λp h=>⟨.ref o1,by rw[hp p h];exact val_one⟩,Fe n1 n2,λd H' s hd=>⟨⟨rfl,d,rfl,hd⟩,_,Step.cl qi s,D.same s⟩⟩)⟩)⟩⟩
theorem Md {k:Str}{x:R.Ask}{rf:Rf}(h:vD z ws [])(hn:R.dP ws=some (k,[one],x))(hl:one.length<=10000)(nk:k≠ar "read")(no:k≠ar "open")(np:k≠ar "part")
  (q:∀c H,mY A one other o o1 o2 S1 S2 c H->GB A 1 c H o1 S1 k x (λ_ _=>False) (XE A one other o o1 o2 S1 S2 rf c H)):f7 A one other o o1 o2 S1 S2 z rf:=λc H D =>
 ⟨o,z,_,[],_,c,1,rfl,D.dk,by decide,h.tx,.inr ⟨_,_,_,by rw[h.sp];exact hn,.inr (.inr ⟨nk,rfl,by simp,(λp hp=>by rw[wt]at hp;rw[hp];exact hl),by simp,.inr (.inr ⟨no,np,one,o1,S1,rfl,val_one,D.c1,q c H D⟩)⟩)⟩⟩
theorem Ff {k:Str}{x:R.Ask}{rf:Rf}(h:vD z ws [])(hn:R.dP ws=some (k,[other],x))(hl:other.length<=10000)(nk:k≠ar "read")(no:k≠ar "open")(np:k≠ar "part")(ne:one≠other)
  (q:∀c H,mY A one other o o1 o2 S1 S2 c H->GB A 2 c H o2 S2 k x (λ_ _=>False) (XE A one other o o1 o2 S1 S2 rf c H)):f7 A one other o o1 o2 S1 S2 z rf:=λc H D =>
 ⟨o,z,_,[],_,c,2,rfl,D.dk,by decide,h.tx,.inr ⟨_,_,_,by rw[h.sp];exact hn,.inr (.inr ⟨nk,rfl,by simp,(λp hp=>by rw[wt]at hp;rw[hp];exact hl),by simp,.inr (.inr ⟨no,np,other,o2,S2,rfl,vE ne,D.c2,q c H D⟩)⟩)⟩⟩
theorem NN {N:Nat}{d:R.br}{xc:Xc}{rf:Rf}(I:Inv N S1)(hN:N<=800)(hd:DdV S1 d)(e:(bJ S1 d).1=.exc xc)(im:∀H' C dd,xc.At A H' C dd->rf.At A H' C dd)(D:mY A one other o o1 o2 S1 S2 c H) :
  GB A 1 c H o1 S1 (ar "do") (.xM d) (λ_ _=>False) (XE A one other o o1 o2 S1 S2 rf c H):=by
 refine .inl ⟨rfl,N,d,rfl,I,hN,hd,?_⟩;have e2:(bJ S1 d).2=S1:=Bx hd e;generalize bJ S1 d=rs at e e2 ⊢;obtain⟨r,st⟩:=rs;subst e e2;exactλc' H' C dd s hc hx _=>⟨im H' C dd hx,c',Dg (by decide) s,D.dk.step (by decide) s,hc,D.c2.other (by decide) s⟩
theorem NO {N:Nat}{d:R.br}{xc:Xc}{rf:Rf}(I:Inv N S2)(hN:N<=800)(hd:DdV S2 d)(e:(bJ S2 d).1=.exc xc)(im:∀H' C dd,xc.At A H' C dd->rf.At A H' C dd)(D:mY A one other o o1 o2 S1 S2 c H) :
  GB A 2 c H o2 S2 (ar "do") (.xM d) (λ_ _=>False) (XE A one other o o1 o2 S1 S2 rf c H):=by
 refine .inl ⟨rfl,N,d,rfl,I,hN,hd,?_⟩;have e2:(bJ S2 d).2=S2:=Bx hd e;generalize bJ S2 d=rs at e e2 ⊢;obtain⟨r,st⟩:=rs;subst e e2;exactλc' H' C dd s hc hx _=>⟨im H' C dd hx,c',Dg (by decide) s,D.dk.step (by decide) s,D.c1.other (by decide) s,hc⟩
theorem Fg {i:Nat}{oc:Addr}{st:Ch}{n:Nat}(hn:n < 10 ^ 10)(nn:¬eY st n)(D:mY A one other o o1 o2 S1 S2 c H) :
  GB A i c H oc st (ar "text") (.num (n:Int)) (λ_ _=>False) (XE A one other o o1 o2 S1 S2 .number c H) :=
 .inr (.inr (.inl ⟨rfl,n,rfl,hn,nn,λH' s=>⟨rfl,_,Step.cl qi s,D.same s⟩⟩))
end
structure Nms (one other here:Str):Prop where
 n1:R.bq one=true
 n2:R.bq other=true
 n3:R.bq here=true
 d12:one≠other
 d13:one≠here
 d23:other≠here
def NP (x:Str)(r:List Str):Bool:=!decide (x=ar "part") && (R.dI x r).isNone
theorem SR {x n:Str}{r:List Str}(hn:R.bq n=true)(h:NP x r=true):R.dP (x::n::r)=none:=by
 unfold NP at h;rw[gc,Wm,decide_eq_false_iff_not,Option.isNone_iff_eq_none]at h;rw[R.dP,if_neg h.1,R.j7,if_pos hn,h.2];rfl
theorem dg {x n:Str}{r:List Str}{y:R.Ask}(hn:R.bq n=true)(hx:x≠ar "part")(h:R.dI x r=some y):R.dP (x::n::r)=some (x,[n],y):=by
 rw[R.dP,if_neg hx,R.j7,if_pos hn,h];rfl
theorem Di {n m:Str}(hn:R.bq n=true)(hm:R.bq m=true):R.dP [ar "part",n,m]=some (ar "part",[n,m],.no):=by
 rw[R.dP,if_pos rfl,R.lV,if_pos ⟨hn,hm⟩]
theorem Me {x n:Str}{r:List Str}(hx:x≠ar "part")(hn:R.bq n=false):R.dP (x::n::r)=none:=by
 rw[R.dP,if_neg hx,R.j7,if_neg (by rw[hn];exact gr)]
theorem Mf {n y:Str}{r:List Str}(h:R.bq y=true):R.dP (ar ""::y::n::r)=none:=by
 rw[R.dP,if_neg (by trivial),R.j7,if_pos h,R.dI,if_neg (by trivial),if_neg (by trivial),if_neg (by trivial)]
 rfl
theorem mZ {α:Type}{P:α->Prop}:∀z∈([]:List α),P z:=λ_ h=>nomatch h
theorem aH {α:Type}{P:α->Prop}{a:α}{l:List α}(h:P a)(hs:∀z∈l,P z):∀z∈a::l,P z:=λz hz=>by
 rcases List.mem_cons.mp hz with rfl | hz
 ·exact h
 ·exact hs z hz
def firsts (one here u:Str):List Str:=[ar "",
 ar " ",
 ar "open",
 ar "open "++one,
 ar "open "++one++ar " 0",
 ar "open "++one++ar " 1000000001",
 ar "open "++one++ar " 01",
 ar "open "++one++ar " 5 5",
 ar "open "++Txt.upper one++ar " 5",
 ar "open "++Txt.mul (ar "k") 13++ar " 5",
 ar " open "++one++ar " 5",
 ar "open  "++one++ar " 5",
 ar "opens "++one++ar " 5",
 ar "read "++one,
 ar "read "++here++u,
 ar "do "++one,
 ar "do "++one++ar " ",
 ar "do "++here++ar " vote 1",
 ar "do "++here++ar " vote 1 -1",
 ar "do "++one++ar " lay 1",
 ar "do "++one++ar " put off 0",
 ar "do "++one++ar " matter a",
 ar "do "++one++ar " mend put 0 a b",
 ar "order",
 ar "do "++one++ar " change cut 0 a",
 ar "order "++one++ar " "++one,
 ar "state a1",
 ar "text "++here,
 ar "text "++one++ar " x",
 ar "part "++one,
 ar "part "++one++ar " "++one++ar " "++one,
 ar "part "++one++ar " A",
 ar "minutes "++one++ar " 1"]
section
variable{A:Adr}{one other here u:Str}{o o1 o2:Addr}{S1 S2:Ch}
theorem nM {n p x q:Str}{r:List Str}(hn:R.bq n=true)(h:(AO p [x] q r [] && NP x r)=true):f7 A one other o o1 o2 S1 S2 (p++n++q) (.row 1):=by
 rw[gc]at h;exact i6 (gG (bY hn) h.1) (SR hn h.2)
theorem HD {n p x:Str}(hn:R.bq n=true)(h:(AO p [x] U7 [] [] && NP x [])=true):f7 A one other o o1 o2 S1 S2 (p++n) (.row 1):=by
 have:=nM (A:=A) (one:=one) (other:=other) (o:=o) (o1:=o1) (o2:=o2) (S1:=S1) (S2:=S2) hn h
 rwa [qh]at this
theorem Jn {z:Str}{ws:List Str}(h:(QF z ws [] && (R.dP ws).isNone)=true):f7 A one other o o1 o2 S1 S2 z (.row 1):=by
 rw[gc,Option.isNone_iff_eq_none]at h;exact i6 (SQ h.1) h.2
theorem SS {n:Str}(hn:R.bq n=true):f7 A one other o o1 o2 S1 S2 (ar "open "++Txt.upper n++ar " 5") (.row 1) :=
 i6 (gG (xs:=[ar "open"]) (r:=[ar "5"]) (rest:=[]) (Mc hn).1 (by trivial)) (Me (by trivial) (Mc hn).2.1)
theorem Mg {z:Str}{ws:List Str}(hz:z=gp R.bl1 ws)(h0:ws≠[])(hw:ws.all shB=true)(hl:ws.length<=10):vD z ws []:=Df hz h0 hw hl rfl (Vg _)
theorem GC:ar "part "=ar "part"++R.bl1:=by trivial
theorem NQ:ar " "=R.bl1:=rfl
theorem Jo {n:Str}(hn:R.bq n=true):f7 A one other o o1 o2 S1 S2 (ar "order "++n++ar " "++n) (.row 1):=by
 have e:ar "order "=ar "order"++R.bl1:=by trivial
 refine i6 (ws:=[ar "order",n,n]) (Mg (by rw[e,NQ,cL,cL,join_one];simp only[dz]) (UX _ _) ?_ (by simp)) ?_
 ·rw[Vk,Vk,Vk,bY hn];trivial
 ·rw[R.dP,if_neg (by trivial),R.j7,if_pos hn,R.dI,if_neg (by trivial),if_pos (by trivial),if_neg (UX _ _)]
  rfl
theorem Mh {n:Str}(hn:R.bq n=true):f7 A one other o o1 o2 S1 S2 (ar "part "++n++ar " "++n++ar " "++n) (.row 1):=by
 refine i6 (ws:=[ar "part",n,n,n]) (Mg (by rw[GC,NQ,cL,cL,cL,join_one];simp only[dz]) (UX _ _) ?_ (by simp)) rfl
 rw[Vk,Vk,Vk,Vk,bY hn];trivial
theorem Mi {n:Str}(hn:R.bq n=true):f7 A one other o o1 o2 S1 S2 (ar "part "++n++ar " A") (.row 1) :=
 i6 (gG (xs:=[ar "part"]) (r:=[ar "A"]) (rest:=[]) (bY hn) (by trivial)) (by
  show R.dP [ar "part",n,ar "A"]=none;rw[R.dP,if_pos rfl,R.lV,if_neg (λh=>absurd h.2 (by trivial))])
theorem Jq {n:Str}(hn:R.bq n=true):f7 A one other o o1 o2 S1 S2 (ar "read "++n++ar " 10000000000") (.row 1):=nM (x:=ar "read") (r:=[ar "10000000000"]) hn (by trivial)
theorem GD {n:Str}(hn:R.bq n=true):f7 A one other o o1 o2 S1 S2 (ar "read "++n++ar " 0") (.row 1):=nM (x:=ar "read") (r:=[ar "0"]) hn (by trivial)
theorem Jr (m:Nms one other here)(hu:f7 A one other o o1 o2 S1 S2 (ar "read "++here++u) (.row 1)):∀z∈firsts one here u,f7 A one other o o1 o2 S1 S2 z (.row 1) :=
 aH (Jn (ws:=[ar ""]) (by trivial)) <|
 aH (Jn (ws:=[ar "",ar ""]) (by trivial)) <|
 aH (Jn (ws:=[ar "open"]) (by trivial)) <|
 aH (HD (x:=ar "open") m.n1 (by trivial)) <|
 aH (nM (x:=ar "open") (r:=[ar "0"]) m.n1 (by trivial)) <|
 aH (nM (x:=ar "open") (r:=[ar "1000000001"]) m.n1 (by trivial)) <|
 aH (nM (x:=ar "open") (r:=[ar "01"]) m.n1 (by trivial)) <|
 aH (nM (x:=ar "open") (r:=[ar "5",ar "5"]) m.n1 (by trivial)) <|
 aH (SS m.n1) <|
 aH (Jn (ws:=[ar "open",Txt.mul (ar "k") 13,ar "5"]) (by trivial)) <|
 aH (i6 (gG (xs:=[ar "",ar "open"]) (r:=[ar "5"]) (rest:=[]) (bY m.n1) (by trivial)) (Mf (by trivial))) <|
 aH (i6 (gG (xs:=[ar "open",ar ""]) (r:=[ar "5"]) (rest:=[]) (bY m.n1) (by trivial)) (Me (by trivial) (by trivial))) <|
 aH (nM (x:=ar "opens") (r:=[ar "5"]) m.n1 (by trivial)) <|
 aH (HD (x:=ar "read") m.n1 (by trivial)) <|
 aH (hu) <|
 aH (HD (x:=ar "do") m.n1 (by trivial)) <|
 aH (nM (x:=ar "do") (r:=[ar ""]) m.n1 (by trivial)) <|
 aH (nM (x:=ar "do") (r:=[ar "vote",ar "1"]) m.n3 (by trivial)) <|
 aH (nM (x:=ar "do") (r:=[ar "vote",ar "1",ar "-1"]) m.n3 (by trivial)) <|
 aH (nM (x:=ar "do") (r:=[ar "lay",ar "1"]) m.n1 (by trivial)) <|
 aH (nM (x:=ar "do") (r:=[ar "put",ar "off",ar "0"]) m.n1 (by trivial)) <|
 aH (nM (x:=ar "do") (r:=[ar "matter",ar "a"]) m.n1 (by trivial)) <|
 aH (nM (x:=ar "do") (r:=[ar "mend",ar "put",ar "0",ar "a",ar "b"]) m.n1 (by trivial)) <|
 aH (Jn (ws:=[ar "order"]) (by trivial)) <|
 aH (nM (x:=ar "do") (r:=[ar "change",ar "cut",ar "0",ar "a"]) m.n1 (by trivial)) <|
 aH (Jo m.n1) <|
 aH (Jn (ws:=[ar "state",ar "a1"]) (by trivial)) <|
 aH (HD (x:=ar "text") m.n3 (by trivial)) <|
 aH (nM (x:=ar "text") (r:=[ar "x"]) m.n1 (by trivial)) <|
 aH (i6 (sD (xs:=[ar "part"]) (bY m.n1) (by trivial)) rfl) <|
 aH (Mh m.n1) <|
 aH (Mi m.n1) <|
 aH (nM (x:=ar "minutes") (r:=[ar "1"]) m.n1 (by trivial)) <|
 mZ
end
def NR:R.br->R.br->Bool
 | .mat a,.mat b=>decide (a=b)
 | .ed m k i w,.ed m' k' i' w'=>decide (m=m') && (decide (k=k') && (decide (i=i') && decide (w=w')))
 | .pt a,.pt b=>decide (a=b)
 | .nums a b,.nums c d=>decide (a=c) && decide (b=d)
 |_,_=>false
theorem NS {a b:R.br}(h:NR a b=true):a=b:=by
 cases a <;> cases b <;> simp[NR]at h <;> simp[h]
def rdB:Option R.br->R.br->Bool
 |some e,d=>NR e d
 |none,_=>false
theorem Mj {x:Option R.br}{d:R.br}(h:rdB x d=true):x=some d:=by
 cases x with
 |none=>cases h
 |some e=>rw[NS (show NR e d=true from h)]
def nuB:Option R.Ask->Int->Bool
 |some (.num j),i=>decide (j=i)
 |_,_=>false
theorem vF {x:Option R.Ask}{i:Int}(h:nuB x i=true):x=some (.num i):=by
 cases x with
 |none=>cases h
 |some y =>
  cases y with
  |no=>cases h
  |xM d=>cases h
  |num j=>rw[of_decide_eq_true (show decide (j=i)=true from h)]
theorem Dk {ws:List Str}{d:R.br}(h:rdB (R.bR (Txt.split (gp R.bl1 ws) R.bl1)) d=true):R.dI (ar "do") ws=some (.xM d):=by
 rw[R.dI,if_pos rfl,Mj h];rfl
def NT (z:Str):Bool:=(z.cps.toList.all λc=>decide (c < 128)) && decide (z.length<=1000)
theorem vG {st:Ch}{z:Str}(h:(NT z && (R.bR (Txt.split z R.bl1)).isNone)=true):wU st z:=by
 unfold NT at h;simp only[gc,decide_eq_true_iff,Option.isNone_iff_eq_none,V9]at h;exact⟨by omega,h.1.1,.inl h.2⟩
theorem vH {st:Ch}{z:Str}{d:R.br}(h:(NT z && rdB (R.bR (Txt.split z R.bl1)) d)=true)(hd:DdV st d)(hx:isX (bJ st d).1=true):wU st z:=by
 unfold NT at h;simp only[gc,decide_eq_true_iff,V9]at h;exact⟨by omega,h.1.1,.inr ⟨d,Mj h.2,hd,hx⟩⟩
def QG (ws:List Str):Bool:=decide (ws.length<=12) && ws.all R.b7
theorem Bz {ws:List Str}(h:QG ws=true):R.AE 12 ws:=by
 unfold QG at h;rw[gc,decide_eq_true_iff,V9]at h;refine⟨h.1,λw hw=>?_⟩
 have:=h.2 w hw;unfold R.b7 at this;simp only[gc,decide_eq_true_iff,Wm,decide_eq_false_iff_not,V9]at this;refine⟨this.1,this.2.1,λc hc=>?_,this.2.2.1⟩
 have:=this.2.2.2 c hc;unfold R.i5 at this;simp only[gc,decide_eq_true_iff]at this;exact this
def Fh:R.br:=.nums (ar "rest") []
def Fi:R.br:=.nums (ar "drop") []
theorem NU:E7 Fh:=⟨.move ⟨by trivial,λi h=>nomatch h⟩,⟨by trivial,λi h=>nomatch h⟩,λh=>absurd h (by trivial)⟩
theorem NV:E7 Fi:=⟨.drop,⟨by trivial,λi h=>nomatch h⟩,λh=>absurd h (by trivial)⟩
theorem GF {cs:List (List Str)}(h:(decide (cs.length<=12) && cs.all QG)=true):E7 (.mat cs):=by
 rw[gc,decide_eq_true_iff,V9]at h;exact⟨.move ⟨h.1,λws hw=>Bz (h.2 ws hw)⟩,⟨h.1,λws hw=>Bz (h.2 ws hw)⟩,trivial⟩
theorem z6 (n:Int):Rep n [Fh] (bJ (pG n) Fh).2:=(Rep.nil n).snoc NU rfl
theorem QH:Rep 3 [Fh,Fi] (bJ (bJ (pG 3) Fh).2 Fi).2:=(z6 3).snoc NV rfl
theorem NW:Rep 3 [.mat [[ar "a"]]] (bJ (pG 3) (.mat [[ar "a"]])).2:=(Rep.nil 3).snoc (GF (by trivial)) rfl
def sE (g:Nat):Str:=Txt.mul (ar "\n") (g:Int)
def Ml (p x a b:Str)(r:List Str)(g:Nat):Bool:=AO p [x] (a++(sE g++b)) r (Vt g U7++[b]) && (!decide (x=ar "part") && (!decide (x=ar "read") && ((R.dI x r).isSome && (!R.eL b && (Vt g U7).all R.eL))))
def SU (p x q:Str)(r rest:List Str)(n:Int)(ds:List R.br)(j:Nat)(z:Str)(r':List Str):Bool:=AO p [x] q r rest && (nuB (R.dI x r) n && (decide (x=ar "read") && (decide (rest=(ds.take j).map R.fA++z::r') && (decide (ds.length<=50) && decide (j<=ds.length)))))
def BB (one here:Str)(g:Nat):List (Str×Nat):=[
 (ar "order "++one++ar "\n"++sE g++ar "x",g+2),
 (ar "open "++here++ar " 3\n"++sE g++ar "drop",g+2),
 (ar "do "++here++ar " rest\n"++sE g++ar "rest",g+2),
 (ar "part "++one++ar " "++here++ar "\n"++sE g++ar "#",g+2),
 (ar "read "++one++ar " 3\nrest\ndrop\nrests",4),
 (ar "read "++here++ar " 3\nmatter / a\nchange cut 1",3),
 (ar "read "++one++ar " 3\nrest\n\nvote 1 0",3),
 (ar "read "++one++ar " 2\nrest\nvote 3 0\n",3),
 (ar "read "++one++ar " 9\ndrop",2),
 (ar "read "++one++ar " 1\n",2)]
section
variable{A:Adr}{one other here u:Str}{o o1 o2:Addr}{S1 S2:Ch}{g:Nat}
theorem QI {p x a b n:Str}{r:List Str}(hn:R.bq n=true)(h:Ml p x a b r g=true):f7 A one other o o1 o2 S1 S2 (p++n++a++sE g++b) (.row (g+2)):=by
 unfold Ml at h;simp only[gc,Wm,decide_eq_false_iff_not]at h;obtain⟨h1,h2,h3,h4,h5,h6⟩:=h;obtain⟨y,hy⟩:=Option.isSome_iff_exists.mp h4;rw[show p++n++a++sE g++b=p++n++(a++(sE g++b)) by simp only[dz]]
 have e:g+2=(Vt g U7).length+2:=by rw[VE]
 rw[e];exact HC (gG (bY hn) h1) (dg hn h2 hy) h3 rfl h6 h5
theorem Js {p x q n z:Str}{r rest r':List Str}{m:Int}{ds:List R.br}{j:Nat}{st:Ch}(hn:R.bq n=true)(rep:Rep m ds st)(rz:wU (jG m (ds.take j)) z)(h:SU p x q r rest m ds j z r'=true):f7 A one other o o1 o2 S1 S2 (p++n++q) (.row (j+2)):=by
 unfold SU at h;simp only[gc,decide_eq_true_iff]at h;obtain⟨h1,h2,rfl,h4,h5,h6⟩:=h;exact NM (gG (bY hn) h1) (dg hn (by trivial) (vF h2)) h4 rep h5 h6 rz
theorem SV {n k:Str}(hn:R.bq n=true)(hk:R.bq k=true)(hg:g < 4):f7 A one other o o1 o2 S1 S2 (ar "part "++n++ar " "++k++ar "\n"++sE g++ar "#") (.row (g+2)):=by
 have e1:∀g < 4,ar "\n"++(sE g++ar "#")=gp nl1 (U7::(Vt g U7++[ar "#"]))/\(Vt g U7++[ar "#"]).all rwB=true/\(Vt g U7).all R.eL=true:=by trivial
 obtain⟨e1,e2,e3⟩:=e1 g hg;have e:g+2=(Vt g U7).length+2:=by rw[VE]
 rw[e];refine HC (ws:=[ar "part",n,k]) (Df ?_ (UX _ _) ?_ (by simp) e2 (by simp;omega)) (Di hn hk) (by trivial) rfl e3 (by trivial)
 ·rw[show ar "part "++n++ar " "++k++ar "\n"++sE g++ar "#"=(ar "part "++n++ar " "++k)++(ar "\n"++(sE g++ar "#")) by simp only[dz],e1,Fd,qh]
  congr 1
  congr 1
  rw[GC,NQ,cL,cL,join_one];simp only[dz]
 ·rw[Vk,Vk,Vk,bY hn,bY hk];trivial
theorem Mm (m:Nms one other here)(hg:g < 4):∀p∈BB one here g,f7 A one other o o1 o2 S1 S2 p.1 (.row p.2):=by
 have h0:∀g < 4,Ml (ar "order ") (ar "order") (ar "\n") (ar "x") [] g=true:=by trivial
 have h1:∀g < 4,Ml (ar "open ") (ar "open") (ar " 3\n") (ar "drop") [ar "3"] g=true:=by trivial
 have h2:∀g < 4,Ml (ar "do ") (ar "do") (ar " rest\n") (ar "rest") [ar "rest"] g=true:=by trivial
 exact aH (QI m.n1 (h0 g hg)) <| aH (QI m.n3 (h1 g hg)) <| aH (QI m.n3 (h2 g hg)) <| aH (SV m.n1 m.n3 hg) <|
  aH (Js (x:=ar "read") (r:=[ar "3"]) (rest:=[ar "rest",ar "drop",ar "rests"]) (j:=2) (r':=[]) m.n1 QH (vG (z:=ar "rests") (by trivial)) (by trivial)) <|
  aH (Js (x:=ar "read") (r:=[ar "3"]) (rest:=[ar "matter / a",ar "change cut 1"]) (j:=1) (r':=[]) m.n3 NW (vH (z:=ar "change cut 1") (d:=.ed false 1 1 []) (by trivial) (.ok (.move ⟨.inr (.inl rfl),⟨by decide,by decide⟩,Bz rfl,λh=>nomatch h⟩)) (by trivial)) (by trivial)) <|
  aH (Js (x:=ar "read") (r:=[ar "3"]) (rest:=[ar "rest",ar "",ar "vote 1 0"]) (j:=1) (r':=[ar "vote 1 0"]) m.n1 (z6 3) (vG (z:=ar "") (by trivial)) (by trivial)) <|
  aH (Js (x:=ar "read") (r:=[ar "2"]) (rest:=[ar "rest",ar "vote 3 0",ar ""]) (j:=1) (r':=[ar ""]) m.n1 (z6 2) (vH (z:=ar "vote 3 0") (d:=.nums (ar "vote") [3,0]) (by trivial) (.Qp (.inr (by trivial))) (by trivial)) (by trivial)) <|
  aH (Js (x:=ar "read") (r:=[ar "9"]) (rest:=[ar "drop"]) (j:=0) (r':=[]) m.n1 (Rep.nil 9) (vH (z:=ar "drop") (d:=Fi) (by trivial) (.ok .drop) (by trivial)) (by trivial)) <|
  aH (Js (x:=ar "read") (r:=[ar "1"]) (rest:=[ar ""]) (j:=0) (r':=[]) m.n1 (Rep.nil 1) (vG (z:=ar "") (by trivial)) (by trivial)) <| mZ
end
def kB (k:Nat)(z:Str):Bool:=(z.cps.toList.any λc=>decide (97+3 * k<=c) && decide (c<=99+3 * k)) && z.cps.toList.all λc=>decide (c=107) || (decide (97+3 * k<=c) && decide (c<=99+3 * k))
theorem qj:∀k < 3,∀m < 13,∀a < m,∀l < 3,kB k (uy k m a l)=true:=by trivial
theorem Mo {k k':Nat}(hk:k < 3)(hk':k' < 3)(n:k≠k'){z z':Str}(h:kB k z=true)(h':kB k' z'=true):z≠z':=by
 rintro rfl;unfold kB at h h';rw[gc]at h h';obtain⟨c,hc,h1⟩:=List.any_eq_true.mp h.1;have h2:=List.all_eq_true.mp h'.2 c hc;simp only[gc,Bool.or_eq_true,decide_eq_true_iff]at h1 h2;omega
theorem QJ {m a l m' a' l' m2 a2 l2:Nat}(h1:m < 13)(h2:a < m)(h3:l < 3)(h4:m' < 13)(h5:a' < m')(h6:l' < 3)(h7:m2 < 13)(h8:a2 < m2)(h9:l2 < 3):Nms (uy 0 m a l) (uy 1 m' a' l') (uy 2 m2 a2 l2) :=
  ⟨C7 0 (by decide) m h1 a h2 l h3,C7 1 (by decide) m' h4 a' h5 l' h6,C7 2 (by decide) m2 h7 a2 h8 l2 h9,
   Mo (by decide) (by decide) (by decide) (qj 0 (by decide) m h1 a h2 l h3) (qj 1 (by decide) m' h4 a' h5 l' h6),
   Mo (by decide) (by decide) (by decide) (qj 0 (by decide) m h1 a h2 l h3) (qj 2 (by decide) m2 h7 a2 h8 l2 h9),
   Mo (by decide) (by decide) (by decide) (qj 1 (by decide) m' h4 a' h5 l' h6) (qj 2 (by decide) m2 h7 a2 h8 l2 h9)⟩
def sF (one:Str):List Str:=[ar "order ",ar "state ",ar "minutes ",ar "text ",ar "do ",ar "part ",ar "part "++one++ar " "]
def sG:List Str:=[ar "",ar "",ar "",ar " 1",ar " vote 9 9",ar " zz",ar ""]
def GG (one here:Str):List Str:=[ar "order "++here++ar "",ar "state "++here++ar "",ar "minutes "++here++ar "",ar "text "++here++ar " 1",ar "do "++here++ar " vote 9 9",ar "part "++here++ar " zz",ar "part "++one++ar " "++here++ar ""]
def chkN (p x q:Str)(r:List Str):Bool:=AO p [x] q r [] && (!decide (x=ar "part") && (!decide (x=ar "read") && (!decide (x=ar "open") && (R.dI x r).isSome)))
def dM:R.br:=.mat [[ar "a",ar "b"],[ar "c"]]
def dC:R.br:=.ed false 0 1 [ar "a",ar "b",ar "c"]
def stA:Ch:=jG 4 [dM,dC]
def stB:Ch:=pG 1000000000
theorem OB:E7 dM:=GF (by trivial)
theorem OC:E7 dC:=⟨.move ⟨.inl rfl,⟨by decide,by decide⟩,Bz (by trivial),λh=>nomatch h⟩,⟨.inl rfl,⟨by decide,by decide⟩,Bz (by trivial),λh=>nomatch h⟩,trivial⟩
theorem Mp:Inv 3 (jG 4 [dM]):=(qf 4).bJ OB.1
theorem SW:Inv 6 stA:=Mp.bJ OC.1
def Dl (one other:Str):List (Str×Rf):=[
 (ar "do "++one++ar " matter",.bar 1),(ar "do "++one++ar " mend turn 9 x",.fit),(ar "do "++other++ar " drop",.nothing),
 (ar "do "++one++ar " vote 3 2",.many),(ar "text "++one++ar " 3",.number),(ar "text "++other++ar " 0",.number)]
def OD:Rs->Bool
 | .exc .noFit=>true
 |_=>false
theorem Mq {r:Rs}(h:OD r=true):r=.exc .noFit:=by
 unfold OD at h;split at h
 ·rfl
 ·cases h
def SX (q:Str)(r:List Str)(d:R.br):Bool:=AO (ar "do ") [ar "do"] q r [] && rdB (R.bR (Txt.split (gp R.bl1 r) R.bl1)) d
def SY (q:Str)(r:List Str)(n:Nat):Bool:=AO (ar "text ") [ar "text"] q r [] && nuB (R.dI (ar "text") r) (n:Int)
section
variable{A:Adr}{one other here u:Str}{o o1 o2:Addr}{S1 S2:Ch}
theorem Jt {p x q n:Str}{r:List Str}(hn:R.bq n=true)(n1:one≠n)(n2:other≠n)(h:chkN p x q r=true):f7 A one other o o1 o2 S1 S2 (p++n++q) (.name n):=by
 unfold chkN at h;simp only[gc,Wm,decide_eq_false_iff_not]at h;obtain⟨h1,h2,h3,h4,h5⟩:=h;obtain⟨y,hy⟩:=Option.isSome_iff_exists.mp h5;exact Dh (ps:=[]) (r2:=[]) (gG (bY hn) h1) (dg hn h2 hy) h3 h4 rfl (λp hp=>by rw[wt]at hp;rw[hp];exact ku (dJ hn) (by decide)) (by simp) (λp hp=>nomatch hp) n1 n2
theorem Ju (m:Nms one other here):∀z∈GG one here,f7 A one other o o1 o2 S1 S2 z (.name here):=by
 refine aH (Jt (x:=ar "order") (r:=[]) m.n3 m.d13 m.d23 (by trivial)) <| aH (Jt (x:=ar "state") (r:=[]) m.n3 m.d13 m.d23 (by trivial)) <| aH (Jt (x:=ar "minutes") (r:=[]) m.n3 m.d13 m.d23 (by trivial)) <|
  aH (Jt (x:=ar "text") (r:=[ar "1"]) m.n3 m.d13 m.d23 (by trivial)) <| aH (Jt (x:=ar "do") (r:=[ar "vote",ar "9",ar "9"]) m.n3 m.d13 m.d23 (by trivial)) <| aH ?_ <| aH ?_ <| mZ
 ·refine Dh (ps:=[]) (r2:=[ar "zz"]) (gG (xs:=[ar "part"]) (r:=[ar "zz"]) (rest:=[]) (bY m.n3) (by trivial)) (Di m.n3 (by trivial)) (by trivial) (by trivial) rfl ?_ (by simp) (λp hp=>nomatch hp) m.d13 m.d23
  exact aH (ku (dJ m.n3) (by decide)) <| aH (by trivial) mZ
 ·refine Dh (ws:=[ar "part",one,here]) (ps:=[one]) (r2:=[]) (Mg ?_ (UX _ _) ?_ (by simp)) (Di m.n1 m.n3) (by trivial) (by trivial) rfl ?_ (by simp) (λp hp=>List.mem_singleton.mp hp) m.d13 m.d23
  ·rw[GC,NQ,cL,cL,join_one,show ar ""=U7 by trivial,qh]
   simp only[dz]
  ·rw[Vk,Vk,Vk,bY m.n1,bY m.n3];trivial
  ·exact aH (ku (dJ m.n1) (by decide)) <| aH (ku (dJ m.n3) (by decide)) mZ
theorem Mr {q:Str}{r:List Str}{d:R.br}{xc:Xc}{rf:Rf}(m:Nms one other here)(hd:DdV stA d)(e:(bJ stA d).1=.exc xc)(im:∀H' C dd,xc.At A H' C dd->rf.At A H' C dd)(h:SX q r d=true):f7 A one other o o1 o2 stA S2 (ar "do "++one++q) rf:=by
 unfold SX at h;rw[gc]at h;exact Md (gG (bY m.n1) h.1) (dg m.n1 (by trivial) (Dk h.2)) (ku (dJ m.n1) (by decide)) (by trivial) (by trivial) (by trivial) λc H D=>NN SW (by decide) hd e im D
theorem S0 {q:Str}{r:List Str}{n:Nat}(m:Nms one other here)(hn:n < 10 ^ 10)(nn:¬eY S1 n)(h:SY q r n=true):f7 A one other o o1 o2 S1 S2 (ar "text "++one++q) .number:=by
 unfold SY at h;rw[gc]at h;exact Md (gG (bY m.n1) h.1) (dg m.n1 (by trivial) (vF h.2)) (ku (dJ m.n1) (by decide)) (by trivial) (by trivial) (by trivial) λc H D=>Fg hn nn D
theorem Jv (m:Nms one other here):∀p∈Dl one other,f7 A one other o o1 o2 stA stB p.1 p.2:=by
 refine aH (Mr (r:=[ar "matter"]) (d:=.mat []) (xc:=.zM 1) m (.ok (GF rfl).1) rfl (λ_ _ _ h=>h) (by trivial)) <|
  aH (Mr (r:=[ar "mend",ar "turn",ar "9",ar "x"]) (d:=.ed true 2 9 [ar "x"]) (xc:=.noFit) m (.ok (.move ⟨.inr (.inr rfl),⟨by decide,by decide⟩,Bz (by trivial),λ_=>rfl⟩)) (Mq (by trivial)) (λ_ _ _ h=>h.1) (by trivial)) <|
  aH ?_ <| aH (Mr (r:=[ar "vote",ar "3",ar "2"]) (d:=.nums (ar "vote") [3,2]) (xc:=.tooMany) m (.Qp (.inr (by trivial))) rfl (λ_ _ _ h=>h.1) (by trivial)) <|
  aH (S0 (r:=[ar "3"]) (n:=3) m (by decide) (λh=>absurd h.2 (by show ¬3<=2;decide)) (by trivial)) <| aH ?_ mZ
 ·exact Ff (ws:=[ar "do",other,ar "drop"]) (gG (xs:=[ar "do"]) (r:=[ar "drop"]) (rest:=[]) (bY m.n2) (by trivial)) (dg m.n2 (by trivial) (Dk (d:=Fi) (by trivial))) (ku (dJ m.n2) (by decide)) (by trivial) (by trivial) (by trivial) m.d12
   λc H D=>NO (xc:=.nothing) (qf _) (by decide) (.ok .drop) rfl (λ_ _ _ h=>h.1) D
 ·exact Ff (ws:=[ar "text",other,ar "0"]) (gG (xs:=[ar "text"]) (r:=[ar "0"]) (rest:=[]) (bY m.n2) (by trivial)) (dg m.n2 (by trivial) (vF (i:=((0:Nat):Int)) (by trivial))) (ku (dJ m.n2) (by decide)) (by trivial) (by trivial) (by trivial) m.d12
   λc H D=>Fg (by decide) (λh=>absurd h.1 (by decide)) D
end
def Bd (one other here:Str)(z:Str)(x:Rf):Prop :=
 (∃u,(u=ar " 10000000000"\/u=ar " 0")/\z∈firsts one here u/\x=.row 1)\/(∃g n,g < 4/\(z,n)∈BB one here g/\x=.row n)\/(z∈GG one here/\x=.name here)\/(z,x)∈Dl one other
theorem QK {A:Adr}{one other here:Str}{o o1 o2:Addr}(m:Nms one other here){z:Str}{x:Rf}(h:Bd one other here z x):f7 A one other o o1 o2 stA stB z x/\x.Ok:=by
 rcases h with ⟨u,hu,hz,rfl⟩ | ⟨g,n,hg,hz,rfl⟩ | ⟨hz,rfl⟩ | hz
 ·refine⟨Jr m ?_ z hz,by show 1<=1000;decide⟩
  rcases hu with rfl | rfl
  ·exact Jq m.n3
  ·exact GD m.n3
 ·refine⟨Mm m hg _ hz,?_⟩;have:∀p∈BB one here g,p.2<=1000:=by
   unfold BB;refine aH ?_ <| aH ?_ <| aH ?_ <| aH ?_ <| aH ?_ <| aH ?_ <| aH ?_ <| aH ?_ <| aH ?_ <| aH ?_ mZ <;> (dsimp only;omega)
  exact this _ hz
 ·exact⟨Ju m z hz,m.n3⟩
 ·refine⟨Jv m _ hz,?_⟩;have:∀p∈Dl one other,p.2.Ok:=aH (by show 0<=(1:Int)/\(1:Int)<=1000;decide) <| aH trivial <| aH trivial <| aH trivial <| aH trivial <| aH trivial mZ
  exact this _ hz
mutual
def LV (c:Col)(H:Hp):PyData->V->Prop
 | .int n,v=>v=.int n
 | .str s,v=>v=.str s
 | .tuple ds,v=>∃t vs,v=.ref t/\(c t=none/\H t=some (.tup vs))/\LVs c H ds vs
 | .list ds,v=>∃t vs,v=.ref t/\(c t=none/\H t=some (.lst vs))/\LVs c H ds vs
 |_,_=>False
def LVs (c:Col)(H:Hp):List PyData->List V->Prop
 |[],vs=>vs=[]
 |d::ds,vs=>∃v r,vs=v::r/\LV c H d v/\LVs c H ds r
end
mutual
theorem LV.step {W:Option (Nat×Rl)->Prop}{c c':Col}{H H':Hp}(s:Step W c c' H H'):∀(d:PyData) {v:V},LV c H d v->LV c' H' d v
 | .none,_,h=>by unfold LV at h;exact h.elim
 | .bool _,_,h=>by unfold LV at h;exact h.elim
 | .dict _,_,h=>by unfold LV at h;exact h.elim
 | .int _,_,h=>by unfold LV at h ⊢;exact h
 | .str _,_,h=>by unfold LV at h ⊢;exact h
 | .tuple ds,_,h=>by
  unfold LV at h ⊢;obtain⟨t,vs,e,h1,h2⟩:=h;exact⟨t,vs,e,eZ s h1.1 h1.2,LVs.step s ds h2⟩
 | .list ds,_,h=>by
  unfold LV at h ⊢;obtain⟨t,vs,e,h1,h2⟩:=h;exact⟨t,vs,e,eZ s h1.1 h1.2,LVs.step s ds h2⟩
theorem LVs.step {W:Option (Nat×Rl)->Prop}{c c':Col}{H H':Hp}(s:Step W c c' H H'):∀(ds:List PyData) {vs:List V},LVs c H ds vs->LVs c' H' ds vs
 |[],_,h=>by unfold LVs at h ⊢;exact h
 |d::ds,_,h=>by
  unfold LVs at h ⊢;obtain⟨v,r,e,h1,h2⟩:=h;exact⟨v,r,e,LV.step s d h1,LVs.step s ds h2⟩
end
theorem LVs.len {c:Col}{H:Hp}:∀(ds:List PyData) {vs:List V},LVs c H ds vs->vs.length=ds.length
 |[],_,h=>by unfold LVs at h;rw[h];rfl
 |d::ds,_,h=>by
  unfold LVs at h;obtain⟨v,r,e,_,h2⟩:=h;rw[e,kf,kf,LVs.len ds h2]
theorem LVs.at_ {c:Col}{H:Hp}:∀(ds:List PyData) {vs:List V} {i:Nat} {v:V},LVs c H ds vs->vs[i]?=some v->∃d,ds[i]?=some d/\LV c H d v
 |[],_,_,_,h,e=>by unfold LVs at h;rw[h]at e;simp at e
 |d::ds,_,0,_,h,e=>by
  unfold LVs at h;obtain⟨v,r,rfl,h1,_⟩:=h;rw[VN]at e;cases e;exact⟨d,rfl,h1⟩
 |d::ds,_,i+1,_,h,e=>by
  unfold LVs at h;obtain⟨v,r,rfl,_,h2⟩:=h;rw[V0]at e;obtain⟨d',e1,e2⟩:=LVs.at_ ds h2 e;exact⟨d',by rw[V0];exact e1,e2⟩
theorem LVs.app {c:Col}{H:Hp}{es:List PyData}{ws:List V}(h2:LVs c H es ws):∀(ds:List PyData) {vs:List V},LVs c H ds vs->LVs c H (ds++es) (vs++ws)
 |[],_,h=>by unfold LVs at h;rw[h];exact h2
 |d::ds,_,h=>by
  unfold LVs at h;obtain⟨v,r,rfl,h1,h3⟩:=h;show LVs c H (d::(ds++es)) (v::(r++ws));unfold LVs;exact⟨v,_,rfl,h1,LVs.app h2 ds h3⟩
theorem OE {c:Col}{H:Hp}{ds:List PyData}{vs:List V}(l:LVs c H ds vs)(hl:ds.length<=100):vs.length<=de:=by
 have sz:de=16777216:=by decide
 rw[LVs.len ds l];omega
abbrev cN:Col:=λ_=>none
def Nw (cc:Col)(H0:Hp):Prop:=∀a,H0 a=none->cc a=none
theorem Nw.same {cc:Col}{H H':Hp}(s:aS H H')(n:Nw cc H):Nw cc H':=λa h=>n a (s.free h)
theorem LV.same {cc:Col}{H H':Hp}(s:aS H H'){d:PyData}{v:V}(h:LV cc H d v):LV cc H' d v:=LV.step (Step.same (W:=λ_=>False) id s) d h
theorem LVs.same {cc:Col}{H H':Hp}(s:aS H H'){ds:List PyData}{vs:List V}(h:LVs cc H ds vs):LVs cc H' ds vs:=LVs.step (Step.same (W:=λ_=>False) id s) ds h
def BT (cc:Col)(H0:Hp)(σ:St)(te:TE)(d:PyData):Prop:=∀H (Q:VK),aS H0 H->(∀v H',aS H H'->LV cc H' d v->Q v H')->te σ H Q
def BA (cc:Col)(H0:Hp)(σ:St)(ta:TA)(ds:List PyData):Prop:=∀H (Q:List V->Hp->Prop),aS H0 H->(∀vs H',aS H H'->LVs cc H' ds vs->Q vs H')->ta σ H Q
section
variable{cc:Col}{H0:Hp}{σ:St}{te tf:TE}{ta:TA}{d e:PyData}{ds es:List PyData}
theorem lt_str {s:Str}:BT cc H0 σ (tC (.str s)) (.str s):=λH _ _ q=>q _ H (aS.refl _) (by unfold LV;rfl)
theorem lt_int {n:Int}:BT cc H0 σ (tC (.int n)) (.int n):=λH _ _ q=>q _ H (aS.refl _) (by unfold LV;rfl)
theorem dq {i:Nat}{v:V}(h:σ[i]?=some (some v))(l:LV cc H0 d v):BT cc H0 σ (Ab i) d:=λH _ s q=>⟨v,h,q v H (aS.refl _) (LV.same s l)⟩
theorem bx:BA cc H0 σ Dx []:=λH _ _ q=>q [] H (aS.refl _) (by unfold LVs;rfl)
theorem au (h1:BT cc H0 σ te d)(h2:BA cc H0 σ ta ds):BA cc H0 σ (AS te ta) (d::ds):=λH Q s q =>
 h1 H _ s λv H1 s1 l1=>h2 H1 _ (s.trans s1) λvs H2 s2 l2=>q (v::vs) H2 (s1.trans s2) (by unfold LVs;exact⟨v,vs,rfl,LV.same s2 l1,l2⟩)
theorem du (nw:Nw cc H0)(h:BA cc H0 σ ta ds)(hl:ds.length<=100:=by exact Nat.le_of_ble_eq_true rfl):BT cc H0 σ (Rb ta) (.tuple ds):=λH Q s q =>
 h H _ s λvs H1 s1 l1=>⟨OE l1 hl,λp hp=>q _ _ (s1.new hp) (by unfold LV;exact⟨p,vs,rfl,⟨nw p ((s.trans s1).free hp),af⟩,LVs.same (aw hp) l1⟩)⟩
theorem dv (nw:Nw cc H0)(h:BA cc H0 σ ta ds)(hl:ds.length<=100:=by exact Nat.le_of_ble_eq_true rfl):BT cc H0 σ (OS ta) (.list ds):=λH Q s q =>
 h H _ s λvs H1 s1 l1=>⟨OE l1 hl,λp hp=>q _ _ (s1.new hp) (by unfold LV;exact⟨p,vs,rfl,⟨nw p ((s.trans s1).free hp),af⟩,LVs.same (aw hp) l1⟩)⟩
theorem eM (nw:Nw cc H0)(h1:BT cc H0 σ te (.list ds))(h2:BT cc H0 σ tf (.list es))(hl:ds.length+es.length<=100:=by exact Nat.le_of_ble_eq_true rfl) :
  BT cc H0 σ (tOp (λx y H Q=>∃l b xs zs,x=V.ref l/\y=V.ref b/\H l=some (.lst xs)/\H b=some (.lst zs)/\xs.length+zs.length<=de/\∀p,H p=none->Q (V.ref p) (upd H p (.lst (xs++zs)))) te tf) (.list (ds++es)):=λH Q s q =>
 h1 H _ s λv H1 s1 l1=>h2 H1 _ (s.trans s1) λu H2 s2 l2=>by
  have l1':=LV.same s2 l1;unfold LV at l1' l2;obtain⟨a,xs,ev,⟨_,ha⟩,la⟩:=l1';obtain⟨b,ys,eu,⟨_,hb⟩,lb⟩:=l2;have sz:de=16777216:=by decide
  refine⟨a,b,xs,ys,ev,eu,ha,hb,by rw[LVs.len _ la,LVs.len _ lb];omega,λp hp=>q _ _ ((s1.trans s2).new hp) ?_⟩
  unfold LV;exact⟨p,_,rfl,⟨nw p ((s.trans (s1.trans s2)).free hp),af⟩,LVs.same (aw hp) (LVs.app lb _ la)⟩
theorem dy {i:Nat}{t2:TS}{D:Ends}(h:BT cc H0 σ te d)(q:∀v H',aS H0 H'->LV cc H' d v->t2 D (σ.set i (some v)) H'):Mv (Mw te (sN i)) t2 D σ H0:=h H0 _ (aS.refl _) q
end
section
variable{cc:Col}{H0:Hp}{σ:St}{te tf:TE}{n m:Nat}{a b:Str}
def BS (cc:Col)(H0:Hp)(σ:St)(te:TE)(s:Str)(n:Nat):Prop:=(n<=16777216->BT cc H0 σ te (.str s))/\s.length<=n
theorem aN:BS cc H0 σ (tC (.str a)) a a.length:=⟨λ_=>lt_str,kg _⟩
theorem a9 {i:Nat}(h:σ[i]?=some (some (.str a)))(hl:a.length<=n):BS cc H0 σ (Ab i) a n:=⟨λ_=>dq h (by unfold LV;rfl),hl⟩
theorem aJ (h1:BS cc H0 σ te a n)(h2:BS cc H0 σ tf b m):BS cc H0 σ (tOp (λx y H Q=>∃i j,x=V.str i/\y=V.str j/\i.length+j.length<=de/\Q (V.str (i++j)) H) te tf) (a++b) (n+m):=by
 refine⟨λhn=>?_,by rw[len_app];have:=h1.2;have:=h2.2;omega⟩
 intro H Q s q;refine h1.1 (by omega) H _ s λv H1 s1 l1=>h2.1 (by omega) H1 _ (s.trans s1) λw H2 s2 l2=>?_
 unfold LV at l1 l2;refine⟨a,b,l1,l2,?_,q _ H2 (s1.trans s2) (by unfold LV;rfl)⟩
 have sz:de=16777216:=by decide
 have:=h1.2;have:=h2.2;omega
theorem BS.bt (h:BS cc H0 σ te a n)(hn:n<=16777216):BT cc H0 σ te (.str a):=h.1 hn
theorem LVs.get {H:Hp}{ds:List PyData}{vs:List V}(h:LVs cc H ds vs){i:Int}(h0:0<=i)(h1:i < ds.length):∃v d,atI vs i=some v/\d∈ds/\LV cc H d v:=by
 obtain⟨j,rfl⟩:∃j:Nat,i=(j:Int):=⟨i.toNat,by omega⟩
 have hl:=LVs.len ds h;have e:vs[j]?=some (vs[j]'(by omega)):=UT (by omega)
 obtain⟨d,hd,ld⟩:=LVs.at_ ds h e;exact⟨_,d,fG e,ma hd,ld⟩
end
def u14 (z:Int):Str:=if z / 33 % 2=0 then ar " 10000000000" else ar " 0"
theorem S3 {cc:Col}{H0:Hp}{σ:St}{K:ba}{i:Nat}{a:Str}(h:σ[i]?=some (some (.str a)))(hl:(Txt.upper a).length<=12):BS cc H0 σ (Ri K "str" (λx vs H Q=>∃z,x=V.str z/\vs=[]/\Builtin.Str.tooLong (Txt.upper z).length=false/\Q (V.str (Txt.upper z)) H) (Ab i)) (Txt.upper a) 12:=by
 refine⟨λ_=>λH Q s q=>⟨_,h,rfl,a,rfl,rfl,?_,q _ H (aS.refl _) (by unfold LV;rfl)⟩,hl⟩
 unfold Builtin.Str.tooLong;have:de=16777216:=by decide
 simp;omega
def NX:Sp:=λvs H Q _=>∃(one here:Str) (z:Int),vs=[.str one,.str here,.int z]/\R.bq one=true/\R.bq here=true/\∀t u H',(u=ar " 10000000000"\/u=ar " 0")->t∈firsts one here u->aS H H'->Q (.str t) H'
section
variable{P:ko}{w:World}{K:ba}{mg:Str->Option Value}{base:Heap}{A:Adr}
theorem z7 (T:Txt w.params K mg A):FnOk P w K mg base CX0 1 A.oE A.jr ["_law_one","_law_name_here","_law_cell"] NX:=by
 refine T.qW.ok bG (λvs H Q E h=>?_) (λcdv A' outer s H vs Q E hr h=>?_)
 ·obtain⟨one,here,z,rfl,_⟩:=h;rfl
 ·obtain⟨one,here,z,rfl,n1,n3,q⟩:=h;have l1:=dJ n1;have l3:=dJ n3;have up:=(Mc n1).2.2;have nw:∀ {H:Hp},Nw cN H:=λ_ _=>rfl
  have UE:∀ {σ:St} {H0:Hp},BS cN H0 σ (tOp (λx y H Q=>∃(z:Str) (n:Int),x=V.str z/\y=V.int n/\PySem.MulOk z n/\Q (V.str (Txt.mul z n)) H) (tC (V.str (ar "k"))) (tC (V.int 13))) (Txt.mul (ar "k") 13) 13:=λ{σ H0} =>
   ⟨λ_=>λH Q s q=>⟨_,_,rfl,rfl,C8 13 (by decide),q _ H (aS.refl _) (by unfold LV;rfl)⟩,by trivial⟩
  have UG:∀ {σ:St} {H0:Hp},σ[2]?=some (some (.int z))->BS cN H0 σ (tOp (OW K) (OS (AS (tC (V.str (ar " 10000000000"))) (AS (tC (V.str (ar " 0"))) Dx))) (tOp (rI (λ_ j=>0 < j) λi j=>V.int (i % j)) (tOp (rI Q5 λi j=>V.int (i / j)) (Ab 2) (tC (V.int 33))) (tC (V.int 2)))) (u14 z) 12:=λ{σ H0} h2=>by
   refine⟨λ_=>λH Q s q=>⟨(by show 2<=de;decide),λp hp=>⟨_,h2,_,_,rfl,rfl,⟨by decide,by decide⟩,_,_,rfl,rfl,(by show (0:Int) < 2;decide),p,_,_,.str (u14 z),rfl,rfl,SqL.of af,?_,q _ _ (aw hp) (by unfold LV;rfl)⟩⟩,?_⟩
   ·have e:z / 33 % 2=0\/z / 33 % 2=1:=by omega
    unfold u14;rcases e with e | e
    ·rw[e,if_pos rfl];exact R.cQ
    ·rw[e,if_neg (by decide)];exact R.mW
   ·unfold u14;split <;> trivial
  refine⟨_,(ak (aT (i:=3) bG.nd rfl (ro rfl) (bE (aa ag (aa ag (aa ag (aa (av ah ag (pv 0)) (aa (av ah (av ah ag (pv 0)) ag) (aa (av ah (av ah ag (pv 0)) ag) (aa (av ah (av ah ag (pv 0)) ag) ae)))))))))
 (ak (aT (i:=3) bG.nd rfl (ro rfl) (av cT (pv 3) (bE (aa (av ah (av ah ag (pv 0)) ag) (aa (av ah (av ah ag (JS Vq PySem.F.slot_str_upper PySem.F.type_str_upper mt_upper (pv 0))) ag) (aa (av ah (av ah ag (av l6 ag ao)) ag) ae))))))
 (ak (aT (i:=3) bG.nd rfl (ro rfl) (av cT (pv 3) (bE (aa (av ah (av ah ag (pv 0)) ag) ae))))
 (ak (aT (i:=3) bG.nd rfl (ro rfl) (av cT (pv 3) (bE (aa (av ah (av ah ag (pv 0)) ag) (aa (av ah (av ah ag (pv 0)) ag) (aa (av ah ag (pv 0)) ae))))))
 (ak (aT (i:=3) bG.nd rfl (ro rfl) (av cT (pv 3) (bE (aa (av ah (av ah ag (pv 1)) (aY bz (bE (aa ag (aa ag ae))) (av iz (av jL (pv 2) ao) ao) (λ_ _=>rfl))) ae))))
 (ak (aT (i:=3) bG.nd rfl (ro rfl) (av cT (pv 3) (bE (aa (av ah ag (pv 0)) (aa (av ah (av ah ag (pv 0)) ag) (aa (av ah (av ah ag (pv 1)) ag) (aa (av ah (av ah ag (pv 1)) ag) ae)))))))
 (ak (aT (i:=3) bG.nd rfl (ro rfl) (av cT (pv 3) (bE (aa (av ah (av ah ag (pv 0)) ag) ae))))
 (ak (aT (i:=3) bG.nd rfl (ro rfl) (av cT (pv 3) (bE (aa (av ah (av ah ag (pv 0)) ag) (aa (av ah (av ah ag (pv 0)) ag) (aa (av ah (av ah ag (pv 0)) ag) (aa ag ae)))))))
 (ak (aT (i:=3) bG.nd rfl (ro rfl) (av cT (pv 3) (bE (aa (av ah (av ah ag (pv 0)) ag) (aa (av ah (av ah (av ah ag (pv 0)) ag) (pv 0)) (aa ag (aa (av ah ag (pv 1)) ae)))))))
 (ak (aT (i:=3) bG.nd rfl (ro rfl) (av cT (pv 3) (bE (aa (av ah (av ah ag (pv 0)) ag) ae))))
 (ak (aT (i:=3) bG.nd rfl (ro rfl) (av cT (pv 3) (bE (aa (av ah ag (pv 0)) (aa (av ah (av ah (av ah (av ah (av ah ag (pv 0)) ag) (pv 0)) ag) (pv 0)) (aa (av ah (av ah ag (pv 0)) ag) (aa (av ah (av ah ag (pv 0)) ag) ae)))))))
 (aq (aI (aY bz (pv 3) (av iz (pv 2) ao) (λ_ _=>rfl))))))))))))))),?_⟩
  try dsimp only[bh]
  refine dy (dv nw (au lt_str (au lt_str (au lt_str (au (BS.bt (aJ aN (a9 rfl l1)) (by trivial)) (au (BS.bt (aJ (aJ aN (a9 rfl l1)) aN) (by trivial)) (au (BS.bt (aJ (aJ aN (a9 rfl l1)) aN) (by trivial)) (au (BS.bt (aJ (aJ aN (a9 rfl l1)) aN) (by trivial)) bx)))))))) λv1 H1 s1 lN=>?_
  have s0:=s1;clear s1;refine dy (eM nw (dq rfl lN) (dv nw (au (BS.bt (aJ (aJ aN (a9 rfl l1)) aN) (by trivial)) (au (BS.bt (aJ (aJ aN (S3 rfl up)) aN) (by trivial)) (au (BS.bt (aJ (aJ aN UE) aN) (by trivial)) bx))))) λv1 H1 s1 lM=>?_
  replace s0:=s0.trans s1
  replace lN:=lM
  clear lM s1;refine dy (eM nw (dq rfl lN) (dv nw (au (BS.bt (aJ (aJ aN (a9 rfl l1)) aN) (by trivial)) bx))) λv1 H1 s1 lM=>?_
  replace s0:=s0.trans s1
  replace lN:=lM
  clear lM s1;refine dy (eM nw (dq rfl lN) (dv nw (au (BS.bt (aJ (aJ aN (a9 rfl l1)) aN) (by trivial)) (au (BS.bt (aJ (aJ aN (a9 rfl l1)) aN) (by trivial)) (au (BS.bt (aJ aN (a9 rfl l1)) (by trivial)) bx))))) λv1 H1 s1 lM=>?_
  replace s0:=s0.trans s1
  replace lN:=lM
  clear lM s1;refine dy (eM nw (dq rfl lN) (dv nw (au (BS.bt (aJ (aJ aN (a9 rfl l3)) (UG rfl)) (by trivial)) bx))) λv1 H1 s1 lM=>?_
  replace s0:=s0.trans s1
  replace lN:=lM
  clear lM s1;refine dy (eM nw (dq rfl lN) (dv nw (au (BS.bt (aJ aN (a9 rfl l1)) (by trivial)) (au (BS.bt (aJ (aJ aN (a9 rfl l1)) aN) (by trivial)) (au (BS.bt (aJ (aJ aN (a9 rfl l3)) aN) (by trivial)) (au (BS.bt (aJ (aJ aN (a9 rfl l3)) aN) (by trivial)) bx)))))) λv1 H1 s1 lM=>?_
  replace s0:=s0.trans s1
  replace lN:=lM
  clear lM s1;refine dy (eM nw (dq rfl lN) (dv nw (au (BS.bt (aJ (aJ aN (a9 rfl l1)) aN) (by trivial)) bx))) λv1 H1 s1 lM=>?_
  replace s0:=s0.trans s1
  replace lN:=lM
  clear lM s1;refine dy (eM nw (dq rfl lN) (dv nw (au (BS.bt (aJ (aJ aN (a9 rfl l1)) aN) (by trivial)) (au (BS.bt (aJ (aJ aN (a9 rfl l1)) aN) (by trivial)) (au (BS.bt (aJ (aJ aN (a9 rfl l1)) aN) (by trivial)) (au lt_str bx)))))) λv1 H1 s1 lM=>?_
  replace s0:=s0.trans s1
  replace lN:=lM
  clear lM s1;refine dy (eM nw (dq rfl lN) (dv nw (au (BS.bt (aJ (aJ aN (a9 rfl l1)) aN) (by trivial)) (au (BS.bt (aJ (aJ (aJ aN (a9 rfl l1)) aN) (a9 rfl l1)) (by trivial)) (au lt_str (au (BS.bt (aJ aN (a9 rfl l3)) (by trivial)) bx)))))) λv1 H1 s1 lM=>?_
  replace s0:=s0.trans s1
  replace lN:=lM
  clear lM s1;refine dy (eM nw (dq rfl lN) (dv nw (au (BS.bt (aJ (aJ aN (a9 rfl l1)) aN) (by trivial)) bx))) λv1 H1 s1 lM=>?_
  replace s0:=s0.trans s1
  replace lN:=lM
  clear lM s1;refine dy (eM nw (dq rfl lN) (dv nw (au (BS.bt (aJ aN (a9 rfl l1)) (by trivial)) (au (BS.bt (aJ (aJ (aJ (aJ (aJ aN (a9 rfl l1)) aN) (a9 rfl l1)) aN) (a9 rfl l1)) (by trivial)) (au (BS.bt (aJ (aJ aN (a9 rfl l1)) aN) (by trivial)) (au (BS.bt (aJ (aJ aN (a9 rfl l1)) aN) (by trivial)) bx)))))) λv1 H1 s1 lM=>?_
  replace s0:=s0.trans s1
  replace lN:=lM
  refine aX λGq gq=>?_
  clear lM s1;unfold LV at lN;obtain⟨t,vs,rfl,⟨_,ht⟩,lN⟩:=lN;obtain⟨v,d,e1,e2,e3⟩:=LVs.get lN (i:=z % 33) (by omega) (by show z % 33 < 33;omega)
  refine gq ?_;refine⟨_,rfl,_,rfl,_,_,rfl,rfl,(by show (0:Int) < 33;decide),t,_,_,v,rfl,rfl,SqL.of ht,e1,?_⟩
  refine aX λGq gq=>?_
  have e4:d∈(firsts one here (u14 z)).map Vu:=e2;obtain⟨x,hx,rfl⟩:=List.mem_map.mp e4;unfold LV at e3;refine gq ?_;rw[e3];refine q x (u14 z) _ ?_ hx s0;unfold u14;split
  ·exact .inl rfl
  ·exact .inr rfl
end
def NY:Sp:=λvs H Q _=>∃(one here:Str) (z:Int),vs=[.str one,.str here,.int z]/\one.length<=12/\here.length<=12/\∀v t n g H',g < 4->(t,n)∈BB one here g->aS H H'->LV cN H' (.tuple [.str t,.int ((n:Nat):Int)]) v->Q v H'
section
variable{P:ko}{w:World}{K:ba}{mg:Str->Option Value}{base:Heap}{A:Adr}
theorem AQ (T:Txt w.params K mg A):FnOk P w K mg base CX0 1 A.rP A.kP ["_law_one","_law_name_here","_law_cell"] NY:=by
 refine T.tV.ok cE (λvs H Q E h=>?_) (λcdv A' outer s H vs Q E hr h=>?_)
 ·obtain⟨one,here,z,rfl,_⟩:=h;rfl
 ·obtain⟨one,here,z,rfl,l1,l3,q⟩:=h;have nw:∀ {H:Hp},Nw cN H:=λ_ _=>rfl
  obtain⟨g,eg,hg⟩:∃g:Nat,z % 4=(g:Int)/\g < 4:=⟨(z % 4).toNat,by omega,by omega⟩
  have lg:(sE g).length<=3:=(show ∀g < 4,(sE g).length<=3 by trivial) g hg
  refine⟨_,(ak (aT (i:=3) cE.nd rfl (ro rfl) (av l6 ag (av iz (pv 2) ao)))
 (ak (aT (i:=4) cE.nd rfl (ro rfl) (av rg ao (av iz (pv 2) ao)))
 (ak (aT (i:=5) cE.nd rfl (ro rfl) (bE (aa (a8 (aa (av ah (av ah (av ah (av ah ag (pv 0)) ag) (pv 3)) ag) (aa (pv 4) ae))) (aa (a8 (aa (av ah (av ah (av ah (av ah ag (pv 1)) ag) (pv 3)) ag) (aa (pv 4) ae))) ae))))
 (ak (aT (i:=5) cE.nd rfl (ro rfl) (av cT (pv 5) (bE (aa (a8 (aa (av ah (av ah (av ah (av ah ag (pv 1)) ag) (pv 3)) ag) (aa (pv 4) ae))) ae))))
 (ak (aT (i:=5) cE.nd rfl (ro rfl) (av cT (pv 5) (bE (aa (a8 (aa (av ah (av ah (av ah (av ah (av ah (av ah ag (pv 0)) ag) (pv 1)) ag) (pv 3)) ag) (aa (pv 4) ae))) ae))))
 (ak (aT (i:=5) cE.nd rfl (ro rfl) (av cT (pv 5) (bE (aa (a8 (aa (av ah (av ah ag (pv 0)) ag) (aa ao ae))) (aa (a8 (aa (av ah (av ah ag (pv 1)) ag) (aa ao ae))) ae)))))
 (ak (aT (i:=5) cE.nd rfl (ro rfl) (av cT (pv 5) (bE (aa (a8 (aa (av ah (av ah ag (pv 0)) ag) (aa ao ae))) (aa (a8 (aa (av ah (av ah ag (pv 0)) ag) (aa ao ae))) ae)))))
 (ak (aT (i:=5) cE.nd rfl (ro rfl) (av cT (pv 5) (bE (aa (a8 (aa (av ah (av ah ag (pv 0)) ag) (aa ao ae))) (aa (a8 (aa (av ah (av ah ag (pv 0)) ag) (aa ao ae))) ae)))))
 (aq (aI (aY bz (pv 5) (av iz (av jL (pv 2) ao) ao) (λ_ _=>rfl)))))))))))),?_⟩
  try dsimp only[bh]
  refine⟨_,rfl,_,_,rfl,rfl,(by show (0:Int) < 4;decide),_,_,rfl,rfl,?_⟩
  dsimp only;rw[eg];refine⟨C8 g (by omega),?_⟩
  refine⟨_,rfl,_,_,rfl,rfl,(by show (0:Int) < 4;decide),_,_,rfl,rfl,?_⟩
  dsimp only;rw[eg,show (2:Int)+(g:Int)=((g+2:Nat):Int) by omega]
  show Mv _ _ _ [some (V.str one),some (V.str here),some (V.int z),some (V.str (sE g)),some (V.int ((g+2:Nat):Int)),none] H;have lb:∀ {H:Hp},LV cN H (.int ((g+2:Nat):Int)) (.int ((g+2:Nat):Int)):=by intro H;unfold LV;rfl
  refine dy (dv nw (au (du nw (au (BS.bt (aJ (aJ (aJ (aJ aN (a9 rfl l1)) aN) (a9 rfl lg)) aN) (by trivial)) (au (dq rfl lb) bx))) (au (du nw (au (BS.bt (aJ (aJ (aJ (aJ aN (a9 rfl l3)) aN) (a9 rfl lg)) aN) (by trivial)) (au (dq rfl lb) bx))) bx))) λv1 H1 s1 lN=>?_
  have s0:=s1;clear s1;refine dy (eM nw (dq rfl lN) (dv nw (au (du nw (au (BS.bt (aJ (aJ (aJ (aJ aN (a9 rfl l3)) aN) (a9 rfl lg)) aN) (by trivial)) (au (dq rfl lb) bx))) bx))) λv1 H1 s1 lM=>?_
  replace s0:=s0.trans s1
  replace lN:=lM
  clear lM s1;refine dy (eM nw (dq rfl lN) (dv nw (au (du nw (au (BS.bt (aJ (aJ (aJ (aJ (aJ (aJ aN (a9 rfl l1)) aN) (a9 rfl l3)) aN) (a9 rfl lg)) aN) (by trivial)) (au (dq rfl lb) bx))) bx))) λv1 H1 s1 lM=>?_
  replace s0:=s0.trans s1
  replace lN:=lM
  clear lM s1;refine dy (eM nw (dq rfl lN) (dv nw (au (du nw (au (BS.bt (aJ (aJ aN (a9 rfl l1)) aN) (by trivial)) (au lt_int bx))) (au (du nw (au (BS.bt (aJ (aJ aN (a9 rfl l3)) aN) (by trivial)) (au lt_int bx))) bx)))) λv1 H1 s1 lM=>?_
  replace s0:=s0.trans s1
  replace lN:=lM
  clear lM s1;refine dy (eM nw (dq rfl lN) (dv nw (au (du nw (au (BS.bt (aJ (aJ aN (a9 rfl l1)) aN) (by trivial)) (au lt_int bx))) (au (du nw (au (BS.bt (aJ (aJ aN (a9 rfl l1)) aN) (by trivial)) (au lt_int bx))) bx)))) λv1 H1 s1 lM=>?_
  replace s0:=s0.trans s1
  replace lN:=lM
  clear lM s1;refine dy (eM nw (dq rfl lN) (dv nw (au (du nw (au (BS.bt (aJ (aJ aN (a9 rfl l1)) aN) (by trivial)) (au lt_int bx))) (au (du nw (au (BS.bt (aJ (aJ aN (a9 rfl l1)) aN) (by trivial)) (au lt_int bx))) bx)))) λv1 H1 s1 lM=>?_
  replace s0:=s0.trans s1
  replace lN:=lM
  refine aX λGq gq=>?_
  clear lM s1;unfold LV at lN;obtain⟨t,vs,rfl,⟨_,ht⟩,lN⟩:=lN;obtain⟨v,d,e1,e2,e3⟩:=LVs.get lN (i:=z / 4 % 10) (by omega) (by show z / 4 % 10 < 10;omega)
  refine gq ?_;refine⟨_,rfl,_,rfl,_,_,rfl,rfl,⟨by decide,by decide⟩,_,_,rfl,rfl,(by show (0:Int) < 10;decide),t,_,_,v,rfl,rfl,SqL.of ht,e1,?_⟩
  refine aX λGq gq=>?_
  have e4:d∈(BB one here g).map λp=>PyData.tuple [.str p.1,.int ((p.2:Nat):Int)]:=e2
  obtain⟨x,hx,rfl⟩:=List.mem_map.mp e4;refine gq ?_;exact q v x.1 x.2 g _ hg hx s0 e3
end
def OF (H H':Hp)(t:Str)(x:Rf)(v:V):Prop:=∃p q,v=.ref p/\H p=none/\H q=none/\H' p=some (.tup [.str t,.ref q])/\H' q=some (.tup [.str x.key,x.v])
def Jw (H:Hp):Col:=λa=>if (H a).isSome then some (0,.ob) else none
theorem NZ {H:Hp}:Nw (Jw H) H:=λa h=>by unfold Jw;rw[h];rfl
theorem Fj {H:Hp}{a:Addr}(h:Jw H a=none):H a=none:=by
 unfold Jw at h;cases e:H a with
 |none=>rfl
 |some v=>rw[e]at h;cases h
theorem QL {cc:Col}{H:Hp}:∀ {x:Rf} {v:V},LV cc H x.val v->v=x.v:=λ{x v} h=>by
 cases x <;> (unfold Rf.val LV at h;exact h)
theorem QM {H H':Hp}{t:Str}{x:Rf}{v:V}(h:LV (Jw H) H' (.tuple [.str t,x.due]) v):OF H H' t x v:=by
 unfold LV at h;obtain⟨p,vs,rfl,⟨cp,hp⟩,h⟩:=h;unfold LVs at h;obtain⟨v1,r1,rfl,h1,h⟩:=h;unfold LVs at h;obtain⟨v2,r2,rfl,h2,h⟩:=h;unfold LVs at h;subst h;unfold LV at h1;subst h1;unfold Rf.due LV at h2;obtain⟨q,ws,rfl,⟨cq,hq⟩,h2⟩:=h2;unfold LVs at h2;obtain⟨v3,r3,rfl,h3,h2⟩:=h2;unfold LVs at h2;obtain⟨v4,r4,rfl,h4,h2⟩:=h2;unfold LVs at h2;subst h2;unfold LV at h3;subst h3;exact⟨p,q,rfl,Fj cp,Fj cq,hp,by rw[QL h4]at hq;exact hq⟩
theorem LVs.strs {cc:Col}{H:Hp}:∀ {ss:List Str} {vs:List V},LVs cc H (ss.map Vu) vs->vs=ss.map V.str
 |[],_,h=>by
  rw[V5]at h;unfold LVs at h;exact h
 |a::r,_,h=>by
  rw[kx]at h;unfold LVs at h;obtain⟨v,w,rfl,h1,h2⟩:=h;unfold LV at h1;rw[h1,LVs.strs h2];rfl
theorem GH {one:Str}(h:one.length<=12):∀a∈sF one,a.length<=100 :=
 aH (by trivial) <| aH (by trivial) <| aH (by trivial) <| aH (by trivial) <| aH (by trivial) <| aH (by trivial) <| aH (by
  have e1:(ar "part ").length=5:=by trivial
  have e2:(ar " ").length=1:=by trivial
  rw[len_app,len_app,e1,e2];omega) mZ
theorem GI:∀a∈sG,a.length<=100:=by trivial
theorem Jx (one here:Str):GG one here=List.zipWith (λa b=>a++here++b) (sF one) sG:=rfl
def QN:Sp:=λvs H Q _=>∃(one other here:Str) (z:Int),vs=[.str one,.str other,.str here,.int z]/\Nms one other here/\∀v t x H',Bd one other here t x->aS H H'->OF H H' t x v->Q v H'
section
variable{P:ko}{w:World}{K:ba}{mg:Str->Option Value}{base:Heap}{A:Adr}
theorem Ms (T:Txt w.params K mg A):FnOk P w K mg base CX0 2 A.Ku A.yV ["_law_one","_law_other","_law_name_here","_law_cell"] QN:=by
 refine T.G7.ok fq (λvs H Q E h=>?_) (λcdv A' outer s H vs Q E hr h=>?_)
 ·obtain⟨one,other,here,z,rfl,_⟩:=h;rfl
 ·obtain⟨one,other,here,z,rfl,m,q⟩:=h;have l1:=dJ m.n1;have l2:=dJ m.n2;have l3:=dJ m.n3;have sz:de=16777216:=by decide
  have nw:∀ {H1:Hp},aS H H1->Nw (Jw H) H1:=λs=>NZ.same s
  refine⟨_,(ak (aT (i:=4) fq.nd rfl (ro rfl) (av iz (pv 3) ao))
 (ak (aT (i:=5) fq.nd rfl (ro rfl) (av jL (pv 3) ao))
 (ak (bW (aL bf (pv 4) ao (aK _))
 (aq (aI (a8 (aa (bw (z7 T) hr rfl T.Au T.qW.kp T.Av .nil a6 (aa (pv 0) (aa (pv 2) (aa (pv 5) ae)))) (aa (a8 (aa ag (aa ao ae))) ae)))))
 aO)
 (ak (bW (aL bf (pv 4) ao (aK _))
 (ak (JC (bw (AQ T) hr rfl T.CB T.tV.kp T.CC .nil a6 (aa (pv 0) (aa (pv 2) (aa (pv 5) ae)))) (BE rfl (hZ (eO (i:=6) fq.nd rfl (ro rfl)) (hZ (eO (i:=7) fq.nd rfl (ro rfl)) xP))))
 (aq (aI (a8 (aa (pv 6) (aa (a8 (aa ag (aa (pv 7) ae))) ae))))))
 aO)
 (ak (bW (aL bf (pv 4) ao (aK _))
 (ak (aT (i:=8) fq.nd rfl (ro rfl) (bE (aa ag (aa ag (aa ag (aa ag (aa ag (aa ag (aa (av ah (av ah ag (pv 0)) ag) ae)))))))))
 (ak (aT (i:=9) fq.nd rfl (ro rfl) (bE (aa ag (aa ag (aa ag (aa ag (aa ag (aa ag (aa ag ae)))))))))
 (aq (aI (a8 (aa (av ah (av ah (aY bz (pv 8) (av iz (pv 5) ao) (λ_ _=>rfl)) (pv 2)) (aY bz (pv 9) (av iz (pv 5) ao) (λ_ _=>rfl))) (aa (a8 (aa ag (aa (pv 2) ae))) ae)))))))
 aO)
 (ak (aT (i:=8) fq.nd rfl (ro rfl) (bE (aa (a8 (aa (av ah (av ah ag (pv 0)) ag) (aa (a8 (aa ag (aa ao ae))) ae))) (aa (a8 (aa (av ah (av ah ag (pv 0)) ag) (aa (a8 (aa ag (aa ao ae))) ae))) ae))))
 (ak (aT (i:=8) fq.nd rfl (ro rfl) (av cT (pv 8) (bE (aa (a8 (aa (av ah (av ah ag (pv 1)) ag) (aa (a8 (aa ag (aa ao ae))) ae))) (aa (a8 (aa (av ah (av ah ag (pv 0)) ag) (aa (a8 (aa ag (aa ao ae))) ae))) ae)))))
 (ak (aT (i:=8) fq.nd rfl (ro rfl) (av cT (pv 8) (bE (aa (a8 (aa (av ah (av ah ag (pv 0)) ag) (aa (a8 (aa ag (aa ao ae))) ae))) (aa (a8 (aa (av ah (av ah ag (pv 1)) ag) (aa (a8 (aa ag (aa ao ae))) ae))) ae)))))
 (aq (aI (aY bz (pv 8) (av iz (pv 5) ao) (λ_ _=>rfl)))))))))))),?_⟩
  try dsimp only[bh]
  refine⟨_,rfl,_,_,rfl,rfl,(by show (0:Int) < 4;decide),?_⟩
  refine⟨_,rfl,_,_,rfl,rfl,⟨by decide,by decide⟩,?_⟩
  refine⟨_,rfl,rfl,_,rfl,ie (λe=>?_) (λe=>?_)⟩
  ·refine⟨_,rfl,_,rfl,_,rfl,one,here,_,rfl,m.n1,m.n3,λt u H1 hu ht s1=>?_⟩
   refine⟨(by show 2<=de;decide),λb hb=>⟨(by show 2<=de;decide),λp hp=>?_⟩⟩
   exact q _ t (.row 1) _ (.inl ⟨u,hu,ht,rfl⟩) (s1.trans ((aw hb).trans (aw hp))) ⟨p,b,rfl,(s1.trans (aw hb)).free hp,s1.free hb,af,aw hp _ _ af⟩
  refine⟨_,rfl,rfl,_,rfl,ie (λe=>?_) (λe=>?_)⟩
  ·refine⟨_,rfl,_,rfl,_,rfl,one,here,_,rfl,l1,l3,λv t n g H1 hg ht s1 lv=>?_⟩
   refine aX λGq gq=>?_
   unfold LV at lv;obtain⟨p0,vs,rfl,⟨_,hp0⟩,lv⟩:=lv;unfold LVs at lv;obtain⟨v1,r1,rfl,h1,lv⟩:=lv;unfold LVs at lv;obtain⟨v2,r2,rfl,h2,lv⟩:=lv;unfold LVs at lv;subst lv;unfold LV at h1 h2;subst h1 h2;refine gq ?_;refine⟨p0,_,rfl,SqT.of hp0,rfl,_,_,rfl,_,_,rfl,rfl,?_⟩;refine⟨_,rfl,_,rfl,(by show 2<=de;decide),λb hb=>⟨(by show 2<=de;decide),λp hp=>?_⟩⟩
   exact q _ t (.row n) _ (.inr (.inl ⟨g,n,hg,ht,rfl⟩)) (s1.trans ((aw hb).trans (aw hp))) ⟨p,b,rfl,(s1.trans (aw hb)).free hp,s1.free hb,af,aw hp _ _ af⟩
  refine⟨_,rfl,rfl,_,rfl,ie (λe=>?_) (λe=>?_)⟩
  ·have nw:∀ {H1:Hp},Nw cN H1:=λ_ _=>rfl
   refine dy (dv nw (au lt_str (au lt_str (au lt_str (au lt_str (au lt_str (au lt_str (au (BS.bt (aJ (aJ aN (a9 rfl l1)) aN) (by trivial)) bx)))))))) λv1 H1 s1 lA=>?_
   refine dy (dv nw (au lt_str (au lt_str (au lt_str (au lt_str (au lt_str (au lt_str (au lt_str bx)))))))) λv2 H2 s2 lB=>?_
   replace lA:=LV.same s2 lA
   refine aX λGq gq=>?_
   unfold LV at lA lB;obtain⟨pa,va,rfl,⟨_,ha⟩,lA⟩:=lA;obtain⟨pb,vb,rfl,⟨_,hb⟩,lB⟩:=lB;obtain⟨j,ej,hj⟩:∃j:Nat,z / 4 % 7=(j:Int)/\j < 7:=⟨(z / 4 % 7).toNat,by omega,by omega⟩
   obtain rfl:=LVs.strs (ss:=sF one) lA;obtain rfl:=LVs.strs (ss:=sG) lB;have ea:(sF one)[j]?=some ((sF one)[j]'hj):=UT hj;have eb:sG[j]?=some (sG[j]'hj):=UT hj;refine gq ?_;generalize (sF one)[j]'hj=a at ea;generalize sG[j]'hj=b at eb;have la:=GH l1 a (ma ea);have lb:=GI b (ma eb);have ia:atI ((sF one).map V.str) (z / 4 % 7)=some (.str a):=by rw[ej];exact fG (by rw[U5,ea];rfl)
   have ib:atI (sG.map V.str) (z / 4 % 7)=some (.str b):=by rw[ej];exact fG (by rw[U5,eb];rfl)
   refine⟨_,rfl,_,rfl,_,_,rfl,rfl,(by show (0:Int) < 7;decide),pa,(_),_,.str a,rfl,rfl,SqL.of ha,ia,_,rfl,a,here,rfl,rfl,by omega,?_⟩
   refine⟨_,rfl,_,rfl,_,_,rfl,rfl,(by show (0:Int) < 7;decide),pb,(_),_,.str b,rfl,rfl,SqL.of hb,ib,a++here,b,rfl,rfl,by rw[len_app];omega,?_⟩
   refine⟨_,rfl,(by show 2<=de;decide),λb2 hb2=>⟨(by show 2<=de;decide),λp hp=>?_⟩⟩
   have s12:=s1.trans s2;refine q _ (a++here++b) (.name here) _ (.inr (.inr (.inl ⟨?_,rfl⟩))) (s12.trans ((aw hb2).trans (aw hp))) ⟨p,b2,rfl,(s12.trans (aw hb2)).free hp,s12.free hb2,af,aw hp _ _ af⟩;rw[Jx];exact ma (i:=j) (by rw[List.getElem?_zipWith,ea,eb])
  have nw:=nw (aS.refl H);refine dy (dv nw (au (du nw (au (BS.bt (aJ (aJ aN (a9 rfl l1)) aN) (by trivial)) (au (du nw (au lt_str (au lt_int bx))) bx))) (au (du nw (au (BS.bt (aJ (aJ aN (a9 rfl l1)) aN) (by trivial)) (au (du nw (au lt_str (au lt_int bx))) bx))) bx))) λv1 H1 s1 lN=>?_
  have s0:=s1
  replace nw:=nw.same s1
  clear s1;refine dy (eM nw (dq rfl lN) (dv nw (au (du nw (au (BS.bt (aJ (aJ aN (a9 rfl l2)) aN) (by trivial)) (au (du nw (au lt_str (au lt_int bx))) bx))) (au (du nw (au (BS.bt (aJ (aJ aN (a9 rfl l1)) aN) (by trivial)) (au (du nw (au lt_str (au lt_int bx))) bx))) bx)))) λv1 H1 s1 lM=>?_
  replace s0:=s0.trans s1
  replace nw:=nw.same s1
  replace lN:=lM
  clear lM s1;refine dy (eM nw (dq rfl lN) (dv nw (au (du nw (au (BS.bt (aJ (aJ aN (a9 rfl l1)) aN) (by trivial)) (au (du nw (au lt_str (au lt_int bx))) bx))) (au (du nw (au (BS.bt (aJ (aJ aN (a9 rfl l2)) aN) (by trivial)) (au (du nw (au lt_str (au lt_int bx))) bx))) bx)))) λv1 H1 s1 lM=>?_
  replace s0:=s0.trans s1
  replace nw:=nw.same s1
  replace lN:=lM
  refine aX λGq gq=>?_
  clear lM s1;unfold LV at lN;obtain⟨t,vs,rfl,⟨_,ht⟩,lN⟩:=lN;obtain⟨v,d,e1,e2,e3⟩:=LVs.get lN (i:=z / 4 % 6) (by omega) (by show z / 4 % 6 < 6;omega)
  refine gq ?_;refine⟨_,rfl,_,rfl,_,_,rfl,rfl,(by show (0:Int) < 6;decide),t,_,_,v,rfl,rfl,SqL.of ht,e1,?_⟩
  refine aX λGq gq=>?_
  have e4:d∈(Dl one other).map λp=>PyData.tuple [.str p.1,p.2.due]:=e2
  obtain⟨x,hx,rfl⟩:=List.mem_map.mp e4;refine gq ?_;exact q v x.1 x.2 _ (.inr (.inr (.inr hx))) s0 (QM e3)
end
theorem wX.mono {A:Adr}{i:Nat}{c:Col}{H:Hp}{o:Addr}{Q Q':VK}{E E':XK}(f:∀v H1,Q v H1->Q' v H1)(g:∀C d H1,E C d H1->E' C d H1):∀ {p:Rs×Ch},wX A i c H o p Q E->wX A i c H o p Q' E'
 | (.num _,_),⟨n,q⟩=>⟨n,λc' H' s hc=>f _ _ (q c' H' s hc)⟩
 | (.txt _,_),q=>q.elim
 | (.exc _,_),q=>λc' H' C d s hc hx hn=>g _ _ _ (q c' H' C d s hc hx hn)
theorem pI {A:Adr}{vs:List V}{H:Hp}{Q Q':VK}{E E':XK}(f:∀v H1,Q v H1->Q' v H1)(g:∀C d H1,E C d H1->E' C d H1)(h:jI A vs H Q E):jI A vs H Q' E':=by
 obtain⟨o,z,fr,r,kvs,c,i,e,hd,hi,tx,q⟩:=h;refine⟨o,z,fr,r,kvs,c,i,e,hd,hi,tx,?_⟩;rcases q with ⟨h1,h2⟩ | ⟨k,ns,x,h1,q⟩
 ·exact .inl ⟨h1,λd H' s hx=>g _ _ _ (h2 d H' s hx)⟩
 refine .inr ⟨k,ns,x,h1,?_⟩;rcases q with ⟨rfl,a,n,ds,st,j,z',r',e1,e2,e3,h4,h5,h6,h7,h8⟩ | ⟨h2,ys,z',r',e1,h3,h4,h5⟩ | ⟨h2,h3,h4,h5,h6,q⟩
 ·exact .inl ⟨rfl,a,n,ds,st,j,z',r',e1,e2,e3,h4,h5,h6,h7,λc' H' dd s hx=>g _ _ _ (h8 c' H' dd s hx)⟩
 ·exact .inr (.inl ⟨h2,ys,z',r',e1,h3,h4,λd H' s hx=>g _ _ _ (h5 d H' s hx)⟩)
 refine .inr (.inr ⟨h2,h3,h4,h5,h6,?_⟩);rcases q with ⟨rfl,a,n,e1,e2,q⟩ | ⟨h7,ps,a,r2,e1,h8,h9,q⟩ | ⟨h7,h8,a,oc,st,e1,h9,hc,q⟩
 ·exact .inl ⟨rfl,a,n,e1,e2,λoN c' H' a1 a2 a3=>f _ _ (q oN c' H' a1 a2 a3)⟩
 ·exact .inr (.inl ⟨h7,ps,a,r2,e1,h8,h9,λd H' s hx=>g _ _ _ (q d H' s hx)⟩)
 refine .inr (.inr ⟨h7,h8,a,oc,st,e1,h9,hc,?_⟩);rcases q with ⟨rfl,N,d,e2,I,hN,hd,q⟩ | ⟨rfl,a1,a2,a3,q⟩ | ⟨rfl,n,e2,a1,a2,q⟩ | ⟨rfl,a1,q⟩
 ·exact .inl ⟨rfl,N,d,e2,I,hN,hd,q.mono f g⟩
 ·exact .inr (.inl ⟨rfl,a1,a2,a3,λH' s=>f _ _ (q H' s)⟩)
 ·exact .inr (.inr (.inl ⟨rfl,n,e2,a1,a2,λH' s=>g _ _ _ (q H' s)⟩))
 ·exact .inr (.inr (.inr ⟨rfl,a1,λH' s=>f _ _ (q H' s)⟩))
section
variable{P:ko}{w:World}{K:ba}{mg:Str->Option Value}{base:Heap}{A:Adr}{one other here z:Str}{o o1 o2:Addr}{S1 S2:Ch}{c:Col}{H:Hp}{x:Rf}{Q:VK}{E:XK}{kvs:List (Key×V)}{ws:List Str}
theorem HE (h:f7 A one other o o1 o2 S1 S2 z x)(hx:x.Ok)(D:mY A one other o o1 o2 S1 S2 c H)(q:∀t c' H',Step Wd c c' H H'->mY A one other o o1 o2 S1 S2 c' H'->H' t=some (.tup [.str x.key,x.v])->Q (.ref t) H'):z0 A (jI A) [.ref o,.str z] H Q E:=by
 have D':=D;obtain⟨⟨_,dx,Dd,ho,_⟩,_,_⟩:=D';refine⟨o,dx,z,_,rfl,ho,rfl,pI (λ_ _ z=>z.elim) (λC dd H1 hh=>?_) (h c H D)⟩
 obtain⟨ha,c',st,D2⟩:=hh;have tl:q0 H1 Q x.key x.v:=λt H' s _ ht=>q t _ H' (st.trans (Step.cl qi s)) (D2.same s) ht
 cases x with
 |row n =>
  obtain⟨e,d,e2,hd⟩:=ha;exact .inl ⟨d,_,e,e2,hd,dD (by omega) (by have:n<=1000:=hx;omega),tl⟩
 |name y =>
  obtain⟨e,d,e2,hd⟩:=ha;exact .inr (.inl ⟨d,_,e,e2,hd,tl⟩)
 |bar n =>
  obtain⟨e,d,e2,hd⟩:=ha;exact .inr (.inr (.inl ⟨d,_,e,e2,hd,dD (by have:0<=n/\n<=1000:=hx;omega) (by have:0<=n/\n<=1000:=hx;omega),tl⟩))
 |fit=>exact .inr (.inr (.inr (.inl ⟨ha,tl⟩)))
 |number=>exact .inr (.inr (.inr (.inr (.inl ⟨ha,tl⟩))))
 |nothing=>exact .inr (.inr (.inr (.inr (.inr (.inl ⟨ha,tl⟩)))))
 |many=>exact .inr (.inr (.inr (.inr (.inr (.inr ⟨ha,tl⟩)))))
theorem N0 (T:Txt w.params K mg A)(h:f7 A one other o o1 o2 S1 S2 z x)(D:mY A one other o o1 o2 S1 S2 c H)(q:∀c' H',Step Wd c c' H H'->mY A one other o o1 o2 S1 S2 c' H'->Q (.bl true) H'):zY A K (jI A) [.ref o,.str z] H Q E:=by
 have D':=D;obtain⟨⟨_,dx,Dd,ho,_⟩,_,_⟩:=D';refine⟨o,dx,z,_,rfl,ho,rfl,pI (λ_ _ z=>z.elim) (λC dd H1 hh=>?_) (h c H D)⟩
 obtain⟨ha,c',st,D2⟩:=hh;refine⟨?_,q c' H1 st D2⟩;cases x with
 |row n=>obtain⟨rfl,_⟩:=ha;exact T.gL
 |name y=>obtain⟨rfl,_⟩:=ha;exact T.mL
 |bar n=>obtain⟨rfl,_⟩:=ha;exact T.gC
 |fit=>obtain rfl:=ha;exact T.gK
 |number=>obtain rfl:=ha;exact T.fv
 |nothing=>obtain rfl:=ha;exact T.fX
 |many=>obtain rfl:=ha;exact T.fY
theorem Dm {i:Nat}{a:Str}{n:Int}(h:vD z ws [])(hn:R.dP ws=some (ar "open",[a],.num n))(D:j8 A c H o kvs)(hi:i≠0)(kl:kvs.length<=1000)(al:a.length<=12)
  (q:∀oN c' H',Kp A i c H c' H'->j8 A c' H' o (putK kvs (U8 a) (.ref oN))->cV A i c' H' oN (pG n)->Q (.str (ar "ok")) H'):jI A [.ref o,.str z] H Q E :=
 ⟨o,z,_,[],kvs,c,i,rfl,D,hi,h.tx,.inr ⟨_,_,_,by rw[h.sp];exact hn,.inr (.inr ⟨by trivial,rfl,kl,(λp hp=>by rw[wt]at hp;rw[hp];omega),by simp,.inl ⟨rfl,a,n,rfl,rfl,q⟩⟩)⟩⟩
theorem pJ {i:Nat}{a k:Str}{x:R.Ask}{oc:Addr}{st:Ch}(h:vD z ws [])(hn:R.dP ws=some (k,[a],x))(D:j8 A c H o kvs)(hi:i≠0)(kl:kvs.length<=1000)(al:a.length<=12)(nk:k≠ar "read")(no:k≠ar "open")(np:k≠ar "part")
  (hv:ee kvs (U8 a)=some (.ref oc)) (hc:cV A i c H oc st) (q:GB A i c H oc st k x Q E):jI A [.ref o,.str z] H Q E :=
 ⟨o,z,_,[],kvs,c,i,rfl,D,hi,h.tx,.inr ⟨_,_,_,by rw[h.sp];exact hn,.inr (.inr ⟨nk,rfl,kl,(λp hp=>by rw[wt]at hp;rw[hp];omega),by simp,.inr (.inr ⟨no,np,a,oc,st,rfl,hv,hc,q⟩)⟩)⟩⟩
end
def QO (K:ba):Sp:=λvs H Q _=>∃(a:Addr) (ns:List Int) (k:Int),vs=[.ref a,.int k]/\SqL K H a (ns.map V.int)/\0<=k/\∀z:Int,Q (.int z) H
section
variable{P:ko}{w:World}{K:ba}{mg:Str->Option Value}{base:Heap}{A:Adr}
theorem Dp (T:Txt w.params K mg A):FnOk P w K mg base CX0 1 A.uW A.mz ["_law_script","_law_k"] (QO K):=by
 refine T.wF.ok Cg (λvs H Q E h=>?_) (λcdv A' outer s H vs Q E hr h=>?_)
 ·obtain⟨a,ns,k,rfl,_⟩:=h;rfl
 ·obtain⟨a,ns,k,rfl,hS,h0,q⟩:=h;refine⟨_,(ak (bW (aL N6 (pv 1) (bB bM (by rfl) T.il eC (aa (pv 0) ae)) (aK _))
 (aq (aI (aY bz (pv 0) (pv 1) (λ_ _=>rfl))))
 aO)
 (aq (aI ao))),?_⟩
  try dsimp only[bh]
  refine⟨_,rfl,_,rfl,a,_,rfl,.inl hS,_,_,rfl,rfl,_,rfl,ie (λe=>?_) (λ_=>q 0)⟩
  refine aX λGq gq=>?_
  have e':k < ((ns.map V.int).length:Int):=of_decide_eq_true e;rw[da]at e';obtain⟨c,hc,hm⟩:=Ro (xs:=ns.map V.int) (i:=k) (n:=ns.length) (da _) h0 e';obtain⟨z,_,rfl⟩:=List.mem_map.mp hm;refine gq ?_;exact⟨_,rfl,_,rfl,a,_,_,_,rfl,rfl,hS,hc,q z⟩
end
theorem N1 {xs:List V}{lo hi:Option Int}{x:V}(h:x∈kh xs lo hi):x∈xs:=by
 unfold kh at h;exact List.mem_of_mem_drop (List.mem_of_mem_take h)
def HF (K:ba):Sp:=λvs H Q _=>∃(a:Addr) (ns:List Int),vs=[.ref a]/\SqL K H a (ns.map V.int)/\ns.length<=63/\∀H',Q (.bl true) H'
def SqN (K:ba)(c:Col)(H:Hp)(a:Addr)(xs:List V):Prop:=(c a=none/\Rd H a (.lst xs))\/∀H',SqL K H' a xs
theorem SqN.sq {K:ba}{c:Col}{H:Hp}{a:Addr}{xs:List V}:SqN K c H a xs->SqL K H a xs
 | .inl h=>.inl h.2
 | .inr h=>h H
theorem SqN.of {K:ba}{H:Hp}{a:Addr}{xs:List V}:SqL K H a xs->SqN K cN H a xs
 | .inl h=>.inl ⟨rfl,h⟩
 | .inr h=>.inr λ_=>.inr h
theorem SqN.keep {K:ba}{c c':Col}{H H':Hp}{a:Addr}{xs:List V}(k:KpN c H c' H'):SqN K c H a xs->SqN K c' H' a xs
 | .inl ⟨h,.inl r⟩=>.inl ⟨(k _ _ h r).1,.inl (k _ _ h r).2⟩
 | .inl ⟨h,.inr ⟨o,r⟩⟩=>.inl ⟨(k _ _ h r).1,.inr ⟨o,(k _ _ h r).2⟩⟩
 | .inr h=>.inr h
theorem Fl {W:Option (Nat×Rl)->Prop}{c c':Col}{H H':Hp}(s:Step W c c' H H'):KpN c H c' H':=λ_ _ h hv=>eZ s h hv
theorem S4:bJ (pG 4) dM=(.num 1,jG 4 [dM]):=rfl
theorem S5:bJ (jG 4 [dM]) dC=(.num 2,stA):=rfl
theorem kv2 {one other:Str}{v u:V}(h:one≠other):putK [((U8 one:Key),v)] (U8 other) u=[(U8 one,v),(U8 other,u)]:=yx u (by
 unfold ee;rw[VT (by rw[decide_eq_true_iff];exactλe=>h (Sum.inr.inj e))]
 rfl)
theorem kv3 {one other here:Str}{v u x:V}(h1:one≠here)(h2:other≠here):putK [((U8 one:Key),v),(U8 other,u)] (U8 here) x=[(U8 one,v),(U8 other,u),(U8 here,x)]:=yx x (Fe h1 h2)
theorem UH {one other here:Str}{v u x:V}(h1:one≠here)(h2:other≠here):ee [((U8 one:Key),v),(U8 other,u),(U8 here,x)] (U8 here)=some x:=by
 unfold ee;rw[VT (by rw[decide_eq_true_iff];exactλe=>h1 (Sum.inr.inj e)),VT (by rw[decide_eq_true_iff];exactλe=>h2 (Sum.inr.inj e)),List.find?_cons_of_pos (by exact decide_eq_true rfl)]
 rfl
theorem UI {one:Str}{v:V}{r:List (Key×V)}:ee (((U8 one:Key),v)::r) (U8 one)=some v:=by
 unfold ee;rw[List.find?_cons_of_pos (by exact decide_eq_true rfl)]
 rfl
theorem QP {n:Str}(h:R.bq n=true):Vs n=true:=R.Asc.ok λc hc=>by have:=HB (bY h) hc;omega
theorem Dq {x:Rf}(h:x.Ok):x.due.canLay0=true:=by
 have hk:Vs x.key=true:=by cases x <;> (show Vs (ar _)=true) <;> trivial
 have hv:x.val.canLay0=true:=by
  cases x with
  |name z=>show VG (.str z)=true;rw[VG,QP h]
  |_=>rfl
 unfold Rf.due;simp only[VG,VI,hk,hv,Bool.and_self]
theorem HG (x:Rf):x.due.depth<=64:=by
 have hv:x.val.depth<=2:=by cases x <;> (unfold Rf.val;simp only[V6];omega)
 unfold Rf.due;simp only[V6,Wg];omega
theorem Dr {K:ba}{H:Hp}{t:Addr}{x:Rf}(h:H t=some (.tup [.str x.key,x.v])):DV K H x.due (.ref t):=by
 unfold Rf.due DV;refine⟨t,_,rfl,SqT.of h,?_⟩;unfold DVs;refine⟨_,_,rfl,by unfold DV;rfl,?_⟩
 unfold DVs;exact⟨_,_,rfl,by cases x <;> (unfold Rf.val DV;rfl),by unfold DVs;rfl⟩
theorem Fm {x:Rf}(h:x.Ok):(!Wc x.due x.due)=false:=by rw[eqv_refl _ (Dq h)];rfl
theorem N2 (xs:List V):(kh xs (some 1) (some 25)).length<=24:=by
 unfold kh;rw[show (1:Int)=((1:Nat):Int) from rfl,show (25:Int)=((25:Nat):Int) from rfl,HT.xQ,HT.xQ,Vy,Ww]
 omega
theorem vI {k:Str}(h:(!decide (k=ar "do") && decide (k∈R.Gz))=true):R.dI k []=some .no:=by
 rw[gc,Wm,decide_eq_false_iff_not,decide_eq_true_iff]at h;rw[R.dI,if_neg h.1,if_pos h.2,if_pos rfl]
theorem S6 {A:Adr}{one other n:Str}{o o1 o2:Addr}{S1 S2:Ch}(hn:R.bq n=true)(n1:one≠n)(n2:other≠n):f7 A one other o o1 o2 S1 S2 (ar "state "++n) (.name n):=by
 have:=Jt (A:=A) (o:=o) (o1:=o1) (o2:=o2) (S1:=S1) (S2:=S2) (p:=ar "state ") (x:=ar "state") (q:=U7) (r:=[]) hn n1 n2 (by trivial)
 rwa [qh]at this
theorem N3 {σ:St}{H:Hp}{Q:List V->Hp->Prop}(h:Q [] H):Dx σ H Q:=h
abbrev MA:R2:=λx y H Q=>∃i j,x=V.str i/\y=V.str j/\i.length+j.length<=de/\Q (V.str (i++j)) H
section
variable{A:Adr}{o:Addr}{c:Col}{H:Hp}{σ:St}{i:Nat}{p n r:Str}{Q:VK}{kvs:List (Key×V)}
theorem vJ (h5:σ[5]?=some (some (.ref o)))(hi:σ[i]?=some (some (.str n)))(hp:p.length<=100)(hn:n.length<=12)(D:j8 A c H o kvs)(h:jI A [.ref o,.str (p++n)] H Q E0) :
  GP A.cz (ar "say") (jI A) [] E0 (Ab 5) (AS (tOp MA (tC (.str p)) (Ab i)) Dx) σ H Q:=by
 obtain⟨_,dx,Dd,ho,_⟩:=D;have sz:de=16777216:=by decide
 exact⟨_,h5,o,dx,_,rfl,ho,rfl,_,hi,_,_,rfl,rfl,by omega,h⟩
theorem z8 (h5:σ[5]?=some (some (.ref o)))(hi:σ[i]?=some (some (.str n)))(hp:p.length<=100)(hr:r.length<=100)(hn:n.length<=12)(D:j8 A c H o kvs)(h:jI A [.ref o,.str (p++n++r)] H Q E0) :
  GP A.cz (ar "say") (jI A) [] E0 (Ab 5) (AS (tOp MA (tOp MA (tC (.str p)) (Ab i)) (tC (.str r))) Dx) σ H Q:=by
 obtain⟨_,dx,Dd,ho,_⟩:=D;have sz:de=16777216:=by decide
 exact⟨_,h5,o,dx,_,rfl,ho,rfl,_,hi,_,_,rfl,rfl,by omega,_,_,rfl,rfl,by rw[len_app];omega,h⟩
end
section
variable{P:ko}{w:World}{K:ba}{mg:Str->Option Value}{base:Heap}{A:Adr}
theorem QQ {f:Addr}{fd:gn}(F:Fun K "law" "law" Kt f fd)(T:Txt w.params K mg A):FnOk P w K mg base CX0 20 f fd ["_law_script"] (HF K):=by
 have z9:FnOk P w K mg base CX0 1 A.Cp A.pW ["_law_cell","_law_k"] Mb:=Jl T;have bK:FnOk P w K mg base (CXG false true P w) 13 A.gY A.fV ["self","text"] (jI A):=QC T;have Fn:FnOk P w K mg base CX0 14 A.Cq A.pX ["_law_desk","_law_text"] (z0 A (jI A)):=Jm T (λ_ _ _ _ _ g h=>pI (λ_ _ h=>h) g h) (λ_ _ _ _ _ f h=>pI f (λ_ _ _ h=>h) h) bK
 have Fo:FnOk P w K mg base CX0 14 A.pY A.iZ ["_law_desk","_law_text"] (zY A K (jI A)):=C9 T (λ_ _ _ _ _ g h=>pI (λ_ _ h=>h) g h) bK
 refine F.ok md (λvs H Q E h=>?_) (λcdv A' outer s H vs Q E hr h=>?_)
 ·obtain⟨a,ns,rfl,_⟩:=h;rfl
 ·obtain⟨a,ns,rfl,hS,hlen,q⟩:=h;have vK:Room 1 _:=hr.mono (by decide)
  have cH:Room 13 _:=hr.mono (by decide)
  have hu1:=hr.u1;have xE:=hr.units;refine⟨_,(ak (aT (i:=1) md.nd rfl (ro rfl) (bw (Dp T) (hr.mono (by decide)) rfl T.Ek T.wF.kp T.El .nil a6 (aa (pv 0) (aa ao ae))))
 (ak (aT (i:=2) md.nd rfl (ro rfl) (bw z9 vK rfl T.y8 T.tU.kp T.y9 .nil a6 (aa (pv 1) (aa ao ae))))
 (ak (aT (i:=3) md.nd rfl (ro rfl) (bw z9 vK rfl T.y8 T.tU.kp T.y9 .nil a6 (aa (av jL (pv 1) ao) (aa ao ae))))
 (ak (aT (i:=4) md.nd rfl (ro rfl) (bw z9 vK rfl T.y8 T.tU.kp T.y9 .nil a6 (aa (av jL (pv 1) ao) (aa ao ae))))
 (ak (aT (i:=5) md.nd rfl (ro rfl) (JK T.P0 (Fc T) (hr.mono (by decide)) rfl T.PZ T.EB .nil a6))
 (ak (bW (PW.pt (pw_or (aL jb (c9 (pv 5) T.cK T.cA bK cH T.cB .nil je (aa (av ah (av ah ag (pv 2)) ag) ae)) ag (aK _)) (pw_or1 (aL jb (c9 (pv 5) T.cK T.cA bK cH T.cB .nil je (aa (av ah (av ah ag (pv 3)) ag) ae)) ag (aK _)))))
 (aq (aI lh))
 aO)
 (ak (bW (PW.pt (pw_or (aL jb (c9 (pv 5) T.cK T.cA bK cH T.cB .nil je (aa (av ah (av ah ag (pv 2)) ag) ae)) ag (aK _)) (pw_or1 (aL jb (c9 (pv 5) T.cK T.cA bK cH T.cB .nil je (aa (av ah (av ah ag (pv 2)) ag) ae)) ag (aK _)))))
 (aq (aI lh))
 aO)
 (ak (JD PassesOwn.never rfl (g8 (av cT (jd pM (pv 0) (jM ao) (jM ao)) (bE (aa (av jL (pv 1) ao) ae)))) (eO (i:=6) md.nd rfl (ro rfl))
 (ak (JC (bw (Ms T) (hr.mono (by decide)) rfl T.MY T.G7.kp T.MZ .nil a6 (aa (pv 2) (aa (pv 3) (aa (pv 4) (aa (pv 6) ae))))) (BE rfl (hZ (eO (i:=7) md.nd rfl (ro rfl)) (hZ (eO (i:=8) md.nd rfl (ro rfl)) xP))))
 (aq (bW (PW.pt (pw_or (aL (FG xE) (bw Fn (hr.mono (by decide)) rfl T.Em T.zc.kp T.En .nil a6 (aa (pv 5) (aa (pv 7) ae))) (pv 8) (aK _)) (pw_or1 (q9 (q8 (bw Fo (hr.mono (by decide)) rfl T.Eo T.wG.kp T.Ep .nil a6 (aa (pv 5) (aa (pv 7) ae))))))))
 (aq (aI lh))
 aO))))
 (ak (bW (PW.pt (pw_or (aL jb (c9 (pv 5) T.cK T.cA bK cH T.cB .nil je (aa (av ah ag (pv 2)) ae)) ag (aK _)) (pw_or1 (aL jb (c9 (pv 5) T.cK T.cA bK cH T.cB .nil je (aa (av ah ag (pv 3)) ae)) ag (aK _)))))
 (aq (aI lh))
 aO)
 (ak (bW (PW.pt (pw_or (aL jb (c9 (pv 5) T.cK T.cA bK cH T.cB .nil je (aa (av ah ag (pv 2)) ae)) ag (aK _)) (pw_or1 (aL jb (c9 (pv 5) T.cK T.cA bK cH T.cB .nil je (aa (av ah ag (pv 3)) ae)) ag (aK _)))))
 (aq (aI lh))
 aO)
 (ak (bW (PW.pt (pw_or (aL (FG xE) (bw Fn (hr.mono (by decide)) rfl T.Em T.zc.kp T.En .nil a6 (aa (pv 5) (aa (av ah ag (pv 4)) ae))) (a8 (aa ag (aa (pv 4) ae))) (aK _)) (pw_or1 (aL jb (c9 (pv 5) T.cK T.cA bK cH T.cB .nil je (aa (av ah (av ah ag (pv 4)) ag) ae)) ag (aK _)))))
 (aq (aI lh))
 aO)
 (aq (aI (j9 (bL bf (c9 (pv 5) T.cK T.cA bK cH T.cB .nil je (aa (av ah ag (pv 4)) ae)) ag (aK _)) (i9 (bL bf (c9 (pv 5) T.cK T.cA bK cH T.cB .nil je (aa (av ah ag (pv 2)) ae)) ag (aK _))))))))))))))))),?_⟩
  try dsimp only[bh]
  have sz:de=16777216:=by decide
  refine⟨_,rfl,a,ns,0,rfl,hS,Int.le_refl _,λz=>?_⟩
  refine⟨_,rfl,z,0,rfl,by decide,λm1 a1 l1 h1 h2 h3=>?_⟩
  refine⟨_,rfl,_,_,rfl,rfl,⟨by decide,by decide⟩,_,1,rfl,by decide,λm2 a2 l2 h4 h5 h6=>?_⟩
  refine⟨_,rfl,_,_,rfl,rfl,⟨by decide,by decide⟩,_,2,rfl,by decide,λm3 a3 l3 h7 h8 h9=>?_⟩
  have m:=QJ h1 h2 h3 h4 h5 h6 h7 h8 h9;generalize uy 0 m1 a1 l1=one at m ⊢;generalize uy 1 m2 a2 l2=other at m ⊢;generalize uy 2 m3 a3 l3=here at m ⊢;clear h1 h2 h3 h4 h5 h6 h7 h8 h9;have n1:=dJ m.n1;have n2:=dJ m.n2;have n3:=dJ m.n3;refineλo d1 ho1 hd1 ne1=>⟨o,d1,rfl,af,λDd hDd=>⟨rfl,?_⟩⟩
  have s0:aS H (upd (upd H d1 (.own o)) o (.ins A.cz d1 [])):=λb v hb=>(ax (aQ hb ho1)).trans ((ax (aQ hb hd1)).trans hb)
  have ho2:upd (upd H d1 (.own o)) o (.ins A.cz d1 []) o=some (.ins A.cz d1 []):=af;generalize upd (upd H d1 (.own o)) o (.ins A.cz d1 [])=H1 at s0 hDd ho2 ⊢;have ne:o≠Dd:=aQ ho2 hDd;have D0:j8 A (aZ cN Dd (some (0,.made))) (upd (upd H1 Dd (.dK [])) o (.ins A.cz d1 [("chambers",.ref Dd)])) o []:=⟨aG ne,d1,Dd,af,bD,(ax ne.symm).trans af⟩;have st0:KpN cN H (aZ cN Dd (some (0,.made))) (upd (upd H1 Dd (.dK [])) o (.ins A.cz d1 [("chambers",.ref Dd)])):=λb v _ hb =>
   ⟨aG (aQ (s0 _ _ hb) hDd),(ax (aQ hb ho1)).trans ((ax (aQ (s0 _ _ hb) hDd)).trans (s0 _ _ hb))⟩
  replace hS:=(SqN.of hS).keep st0
  generalize upd (upd H1 Dd (.dK [])) o (.ins A.cz d1 [("chambers",.ref Dd)])=H2 at D0 hS ⊢;generalize aZ cN Dd (some (0,.made))=c0 at D0 hS;clear s0 hDd ne ho1 hd1 ne1 st0 ho2
  try dsimp only[sN]
  refine z8 rfl rfl (by trivial) (by trivial) n1 D0 (Dm (i:=1) (n:=4) (gG (xs:=[ar "open"]) (r:=[ar "4"]) (bY m.n1) (by trivial)) (dg m.n1 (by trivial) (vF (by trivial))) D0 (by decide) (by simp) n1 λo1 c1 H3 k1 D1 ch1=>?_)
  replace hS:=hS.keep k1.2
  clear k1 D0;refine⟨rfl,tsf (by trivial) ?_⟩
  refine z8 rfl rfl (by trivial) (by trivial) n2 D1 (Dm (i:=2) (n:=1000000000) (gG (xs:=[ar "open"]) (r:=[ar "1000000000"]) (bY m.n2) (by trivial)) (dg m.n2 (by trivial) (vF (by trivial))) D1 (by decide) (by show 1<=1000;decide) n2 λo2 c2 H4 k2 D2 ch2=>?_)
  replace hS:=hS.keep k2.2
  replace ch1:=k2.1 1 o1 _ (by decide) (by decide) ch1
  rw[show putK [] (U8 one) (.ref o1)=[((U8 one:Key),V.ref o1)] from rfl,kv2 m.d12]at D2
  clear k2 D1;refine⟨rfl,tsf (by trivial) ?_⟩
  refine z8 rfl rfl (by trivial) (by trivial) n1 D2 (pJ (i:=1) (x:=.xM dM) (gG (xs:=[ar "do"]) (r:=[ar "matter",ar "/",ar "a",ar "b",ar "/",ar "c"]) (bY m.n1) (by trivial)) (dg m.n1 (by trivial) (Dk (by trivial))) D2 (by decide) (by show 2<=1000;decide) n1 (by trivial) (by trivial) (by trivial) val_one ch1 (.inl ⟨rfl,0,dM,rfl,qf 4,by decide,.ok OB.1,?_⟩))
  rw[S4];refine⟨by decide,λc3 H5 s3 ch3=>?_⟩
  replace hS:=hS.keep (Fl s3)
  replace D2:=D2.step (by decide) s3
  replace ch2:=ch2.other (by decide) s3
  clear s3 ch1;refine⟨rfl,tsf (by trivial) ?_⟩
  refine z8 rfl rfl (by trivial) (by trivial) n1 D2 (pJ (i:=1) (x:=.xM dC) (gG (xs:=[ar "do"]) (r:=[ar "change",ar "put",ar "1",ar "a",ar "b",ar "c"]) (bY m.n1) (by trivial)) (dg m.n1 (by trivial) (Dk (by trivial))) D2 (by decide) (by show 2<=1000;decide) n1 (by trivial) (by trivial) (by trivial) val_one ch3 (.inl ⟨rfl,3,dC,rfl,Mp,by decide,.ok OC.1,?_⟩))
  rw[S5];refine⟨by decide,λc4 H6 s4 ch4=>?_⟩
  replace hS:=hS.keep (Fl s4)
  have D:mY A one other o o1 o2 stA stB c4 H6:=⟨D2.step (by decide) s4,ch4,ch2.other (by decide) s4⟩
  clear s4 ch3 D2 ch2;refine⟨rfl,tsf (by trivial) ?_⟩
  have cl:=N2 (ns.map V.int);have isI:∀x∈kh (ns.map V.int) (some 1) (some 25)++[V.int (z / 7)],∃y,x=V.int y:=λx hx=>by
   rcases List.mem_append.mp hx with hx | hx
   ·obtain⟨y,_,e⟩:=List.mem_map.mp (N1 hx);exact⟨y,e.symm⟩
   ·exact⟨_,List.mem_singleton.mp hx⟩
  refine⟨_,rfl,_,rfl,_,rfl,a,_,rfl,hS.sq,λl hl=>?_⟩
  generalize kh (ns.map V.int) (some 1) (some 25)=xs at cl isI ⊢;refine⟨_,rfl,_,_,rfl,rfl,⟨by decide,by decide⟩,(by show 1<=de;decide),λb hb=>?_⟩
  have sl:=aw (o:=.lst xs) hl;have sb:=aw (o:=.lst [V.int (z / 7)]) hb;refine⟨l,b,xs,[V.int (z / 7)],rfl,rfl,sb _ _ af,af,(by show xs.length+1<=de;omega),λp hp=>?_⟩
  have sp:=(sl.trans sb).trans (aw (o:=.lst (xs++[V.int (z / 7)])) hp);have hp0:=(sl.trans sb).free hp;have D3:=D.same sp;have cp:cC c4 H6 p=none:=dW hp0;have hp1:upd (upd (upd H6 l (.lst xs)) b (.lst [V.int (z / 7)])) p (.lst (xs++[V.int (z / 7)])) p=some (.lst (xs++[V.int (z / 7)])):=af;refine⟨p,rfl,⟨_,SqL.of af⟩,?_⟩;generalize upd (upd (upd H6 l (.lst xs)) b (.lst [V.int (z / 7)])) p (.lst (xs++[V.int (z / 7)]))=H7 at hp1 D3 ⊢;generalize cC c4 H6=c7 at D3 cp;clear sl sb sp hp0 hp hl hb D hS;generalize xs++[V.int (z / 7)]=ys at hp1 isI ⊢;refine yc (K:=K) (a:=p) (xs:=ys) (λj σ Hj=>∃(cj:Col) (v6 v7 v8:Option V),σ=[some (.ref a),some (.int z),some (.str one),some (.str other),some (.str here),some (.ref o),v6,v7,v8]/\mY A one other o o1 o2 stA stB cj Hj/\cj p=none/\Hj p=some (.lst ys))
   ⟨c7,_,_,_,rfl,D3,cp,hp1⟩ (λj σ Hj _ ⟨_,_,_,_,_,_,_,h⟩=>SqL.of h) ?_ ?_
  ·rintro j x σ Hj hx ⟨cj,v6,v7,v8,rfl,Dj,cpj,hpj⟩;refine aX λGq gq=>?_
   obtain⟨y,rfl⟩:=isI x (ma hx);refine gq ?_;refine⟨_,rfl,_,rfl,_,rfl,_,rfl,one,other,here,y,rfl,m,λv t x H1 bd s1 hb=>?_⟩
   refine aX λGq gq=>?_
   obtain⟨bs,bo⟩:=QK (A:=A) (o:=o) (o1:=o1) (o2:=o2) m bd;obtain⟨p1,q1,rfl,np,nq,hp1,hq1⟩:=hb;refine gq ?_;refine⟨p1,_,rfl,SqT.of hp1,rfl,_,_,rfl,_,_,rfl,rfl,?_⟩;have D1:=Dj.same s1;have cq:cC cj Hj q1=none:=dW nq;have cp1:cC cj Hj p=none:=by rw[Lv hpj];exact cpj
   have hpj:=s1 _ _ hpj;generalize cC cj Hj=c1 at D1 cq cp1;clear s1 np nq hp1 Dj cpj;refine⟨_,rfl,_,rfl,HE (E:=E0) bs bo D1 λt2 c2 Ht st2 D2 ht2=>?_⟩
   refine aX λGq gq=>?_
   obtain⟨cq2,hq2⟩:=eZ st2 cq hq1;obtain⟨cp2,hp2⟩:=eZ st2 cp1 hpj;have sh:=Bv (Dq bo) (HG x);refine gq ?_;refine⟨_,rfl,x.due,x.due,Dr ht2,Dr hq2,sh,sh,tsf (Fm bo) ?_⟩;refine⟨_,rfl,_,rfl,?_⟩;refine N3 ?_;refine N0 T bs D2 λc3 H3 st3 D3=>?_
   obtain⟨cp3,hp3⟩:=eZ st3 cp2 hp2;exact⟨true,rfl,qz rfl ⟨c3,_,_,_,rfl,D3,cp3,hp3⟩⟩
  rintro σ Hj ⟨cj,v6,v7,v8,rfl,D,_,_⟩;refine vJ rfl rfl (by trivial) n1 D.dk (pJ (i:=1) (x:=.no) (sD (xs:=[ar "minutes"]) (bY m.n1) (by trivial)) (dg m.n1 (by trivial) (vI (by trivial))) D.dk (by decide) (by show 2<=1000;decide) n1 (by trivial) (by trivial) (by trivial) val_one D.c1 (.inr (.inr (.inr ⟨rfl,by trivial,λH1 s1=>?_⟩))))
  replace D:=D.same s1
  clear s1;refine⟨rfl,tsf (by trivial) ?_⟩
  refine vJ rfl rfl (by trivial) n2 D.dk (pJ (i:=2) (x:=.no) (sD (xs:=[ar "minutes"]) (bY m.n2) (by trivial)) (dg m.n2 (by trivial) (vI (by trivial))) D.dk (by decide) (by show 2<=1000;decide) n2 (by trivial) (by trivial) (by trivial) (vE m.d12) D.c2 (.inr (.inr (.inr ⟨rfl,by trivial,λH1 s1=>?_⟩))))
  replace D:=D.same s1
  clear s1;refine⟨rfl,tsf (by trivial) ?_⟩
  refine vJ rfl rfl (by trivial) n1 D.dk (pJ (i:=1) (x:=.no) (sD (xs:=[ar "state"]) (bY m.n1) (by trivial)) (dg m.n1 (by trivial) (vI (by trivial))) D.dk (by decide) (by show 2<=1000;decide) n1 (by trivial) (by trivial) (by trivial) val_one D.c1 (.inr (.inl ⟨rfl,rfl,by trivial,by trivial,λH1 s1=>?_⟩)))
  replace D:=D.same s1
  clear s1;refine⟨rfl,tsf (by trivial) ?_⟩
  refine vJ rfl rfl (by trivial) n2 D.dk (pJ (i:=2) (x:=.no) (sD (xs:=[ar "state"]) (bY m.n2) (by trivial)) (dg m.n2 (by trivial) (vI (by trivial))) D.dk (by decide) (by show 2<=1000;decide) n2 (by trivial) (by trivial) (by trivial) (vE m.d12) D.c2 (.inr (.inl ⟨rfl,rfl,by trivial,by trivial,λH1 s1=>?_⟩)))
  replace D:=D.same s1
  clear s1;refine⟨rfl,tsf (by trivial) ?_⟩
  have ls:(ar "state ").length<=100:=by trivial
  refine⟨_,rfl,_,rfl,_,_,rfl,rfl,by omega,HE (E:=E0) (S6 m.n3 m.d13 m.d23) m.n3 D λt2 c2 H2 st2 D2 ht2=>?_⟩
  have sh:=Bv (Dq (x:=.name here) m.n3) (HG _);refine⟨_,rfl,(by show 2<=de;decide),λq2 hq2=>?_⟩
  refine⟨_,_,Dr (aw hq2 _ _ ht2),Dr (x:=.name here) af,sh,sh,tsf (Fm (x:=.name here) m.n3) ?_⟩
  replace D:=D2.same (aw (o:=.tup [V.str (ar "name"),V.str here]) hq2)
  refine z8 rfl rfl (by trivial) (by trivial) n3 D.dk (Dm (i:=3) (n:=5) (gG (xs:=[ar "open"]) (r:=[ar "5"]) (bY m.n3) (by trivial)) (dg m.n3 (by trivial) (vF (by trivial))) D.dk (by decide) (by show 2<=1000;decide) n3 λo3 c3 H3 k3 D3 ch3=>?_)
  replace D:=k3.1 1 o1 _ (by decide) (by decide) D.c1
  rw[kv3 m.d13 m.d23]at D3;clear k3 D2 ht2 st2;refine⟨rfl,tsf (by trivial) ?_⟩
  refine vJ rfl rfl (by trivial) n3 D3 (pJ (i:=3) (x:=.no) (sD (xs:=[ar "state"]) (bY m.n3) (by trivial)) (dg m.n3 (by trivial) (vI (by trivial))) D3 (by decide) (by show 3<=1000;decide) n3 (by trivial) (by trivial) (by trivial) (UH m.d13 m.d23) ch3 (.inr (.inl ⟨rfl,rfl,by trivial,by trivial,λH1 s1=>?_⟩)))
  replace D3:=D3.step (by decide) (Step.cl (aW (i:=1)) s1)
  replace D:=cV.other (j:=3) (by decide) (Step.cl aW s1) D
  refine⟨rfl,tst (by trivial) ?_⟩
  refine vJ rfl rfl (by trivial) n1 D3 (pJ (i:=1) (x:=.no) (sD (xs:=[ar "state"]) (bY m.n1) (by trivial)) (dg m.n1 (by trivial) (vI (by trivial))) D3 (by decide) (by show 3<=1000;decide) n1 (by trivial) (by trivial) (by trivial) UI D (.inr (.inl ⟨rfl,rfl,by trivial,by trivial,λH4 s4=>?_⟩)))
  refine⟨rfl,?_⟩;show Q (V.bl (decide _)) H4;rw[decide_eq_true (by trivial)]
  exact q _
end
end My
namespace L2
open PySem PySem.Spec PyProof.Rows
theorem UJ {p:Nat->Prop}(h0:p 0)(h1:p 1)(h2:p 2)(h3:p 3)(h4:p 4)(h5:p 5)(h6:p 6)(h7:p 7):∀k,k < 8->p k
 | 0,_=>h0 | 1,_=>h1 | 2,_=>h2 | 3,_=>h3 | 4,_=>h4 | 5,_=>h5 | 6,_=>h6 | 7,_=>h7 | n+8,h=>absurd h (by omega)
theorem three {p:Nat->Prop}(a:p 4)(b:p 5)(c:p 6):∀k,k=4\/k=5\/k=6->p k
 |_,.inl rfl=>a | _,.inr (.inl rfl)=>b | _,.inr (.inr rfl)=>c
section
variable{K:ba}{fd:gn}{a b c:Str}
theorem bd0 (h:bindArgs fd ⟨[],[]⟩=pure []):Binds K fd [] []:=.all λus hl=>match us,hl with | [],_=>h
theorem bd1 (h:∀u,bindArgs fd ⟨[u],[]⟩=pure [(a,u)]):Binds K fd [a] []:=.all λus hl=>match us,hl with | [u],_=>h u
theorem bd2 (h:∀u v,bindArgs fd ⟨[u,v],[]⟩=pure [(a,u),(b,v)]):Binds K fd [a,b] []:=.all λus hl=>match us,hl with | [u,v],_=>h u v
theorem bd4 {d:Str}(h:∀u v w x,bindArgs fd ⟨[u,v,w,x],[]⟩=pure [(a,u),(b,v),(c,w),(d,x)]):Binds K fd [a,b,c,d] []:=.all λus hl=>match us,hl with | [u,v,w,x],_=>h u v w x
theorem bd3 (h:∀u v w,bindArgs fd ⟨[u,v,w],[]⟩=pure [(a,u),(b,v),(c,w)]):Binds K fd [a,b,c] []:=.all λus hl=>match us,hl with | [u,v,w],_=>h u v w
theorem S7 {C:Addr}(h:UW K (.ref C) a=some none):cM K C a:=h
theorem QR {P:Params}{t:Addr}{es:Array DictEntry}{n:Nat}(h:K.lookup t=some ⟨.type "dict",none,.dict es n,#[]⟩)(k:PySem.W.KeysLit P es.toList):Pa P K t:=⟨_,_,h,k⟩
end
section
variable{K:ba}{C:Addr}{v nm q:Str}
theorem S8 {cd:ClassData}(g:UW K (.ref C) "__getattribute__"=some (some (.builtin "BaseException.__getattribute__")))(k:UW K (.ref C) "__getattr__"=some none)(b:WD K C (.type "BaseException")=some true)
  (c:Ws K C=some cd) (h:UW K (.ref C) "__class__"=some (some (.builtin "object.__class__"))) (n:PySem.W.specialIn K (.builtin "object.__class__") "__get__"=some (some (.builtin "getset_descriptor.__get__"))) (t:PySem.W.takesIn K (.builtin "object.__class__")=some true)
  (o:WD K C (.type "object")=some true):A3 K C:=⟨⟨g,k,b⟩,by rw[c];rfl,h,n,t,o⟩
theorem S9 (g:UW K (.ref C) "__getattribute__"=some (some (.builtin "BaseException.__getattribute__")))(k:UW K (.ref C) "__getattr__"=some none)(b:WD K C (.type "BaseException")=some true)
  (n:UW K (.ref C) v=some none) (d:PySem.W.hasDictIn K C=true):Ah K C v:=⟨⟨g,k,b⟩,n,d⟩
variable{N D M f:Addr}{bs su:List Value}{hd ab:Bool}{sn:List Str}{co:Option Bool}{dd d1 d2 d3:Option Addr}{k0 k1 k2 k3 k5:Option Value}{o1 o2 o3:Value}{e1 e2:Array DictEntry}{n1 n2:Nat}{s1 s2 s3:Array (Option Value)}{cl:ClassData}
theorem Ta (l:K.lookup C=some (Vm nm q C N bs (.ref D::GZ) hd sn su ab co dd k0 k1 k2 k3 k5 "ValueError.__new__"))(a:K.lookup N=some ⟨o1,d1,.dict e1 n1,s1⟩)(b:strKeys e1=true)(c:V7 K N "__init__"=some none)
  (m:K.lookup D=some ⟨o2,d2,.cls cl,s2⟩) (e:cl.ns=M) (x:K.lookup M=some ⟨o3,d3,.dict e2 n2,s3⟩) (y:strKeys e2=true) (z:V7 K M "__init__"=some none):BW K C:=by
 subst e;exact⟨⟨_,_,_,_,_,_,_,_,_,_,_,_,_,_,_,_,l,⟨⟨_,_,_,_,_,a,b⟩,c⟩,.own m ⟨⟨_,_,_,_,_,x,y⟩,z⟩ .base⟩⟩
theorem Tb (l:K.lookup C=some (Vm nm q C N bs (.ref D::GZ) true sn su ab co dd k0 k1 k2 k3 k5 "ValueError.__new__"))(a:K.lookup N=some ⟨o1,d1,.dict e1 n1,s1⟩)(b:strKeys e1=true)(c:V7 K N "__init__"=some (some (.ref f)))
  (m:K.lookup D=some ⟨o2,d2,.cls cl,s2⟩) (e:cl.ns=M) (x:K.lookup M=some ⟨o3,d3,.dict e2 n2,s3⟩) (y:strKeys e2=true) (z:V7 K M "__init__"=some none)
  (g:PySem.W.isFn K (.ref f)=true) (h:UW K (.ref C) "__setattr__"=some (some (.builtin "object.__setattr__"))) (n:UW K (.ref C) v=some none):ri K C f v:=by
 subst e;exact⟨⟨_,_,_,_,_,_,_,_,_,_,_,_,_,_,_,_,l,.own m ⟨⟨_,_,_,_,_,x,y⟩,z⟩ .base,rfl,⟨⟨_,_,_,_,_,a,b⟩,c⟩⟩,g,h,n⟩
end
theorem Jy {K:ba}{o:Addr}{d:Option Addr}{n:Nat}{s:Array (Option Value)}{t0 t1 t2 t3:Tok}(h:K.lookup o=some ⟨.type "tuple",d,.seq #[.str (ar "close") t0,.str (ar "lay") t1,.str (ar "rest") t2,.str (ar "drop") t3] n,s⟩):∀H,SqT K H o [.str (ar "close"),.str (ar "lay"),.str (ar "rest"),.str (ar "drop")]:=λ_=>.inr ⟨_,_,_,h,rfl,rfl,(by show 4<=de;decide),(.cons ⟨_,rfl⟩ (.cons ⟨_,rfl⟩ (.cons ⟨_,rfl⟩ (.cons ⟨_,rfl⟩ .nil))))⟩
theorem Aa {K:ba}{o:Addr}{d:Option Addr}{n:Nat}{s:Array (Option Value)}{t0 t1 t2:Tok}(h:K.lookup o=some ⟨.type "tuple",d,.seq #[.str (ar "order") t0,.str (ar "state") t1,.str (ar "minutes") t2] n,s⟩):∀H,SqT K H o [.str (ar "order"),.str (ar "state"),.str (ar "minutes")]:=λ_=>.inr ⟨_,_,_,h,rfl,rfl,(by show 3<=de;decide),(.cons ⟨_,rfl⟩ (.cons ⟨_,rfl⟩ (.cons ⟨_,rfl⟩ .nil)))⟩
theorem vL {K:ba}{o:Addr}{d:Option Addr}{n:Nat}{s:Array (Option Value)}{t0 t1 t2:Tok}(h:K.lookup o=some ⟨.type "tuple",d,.seq #[.str (ar "open") t0,.str (ar "read") t1,.str (ar "text") t2] n,s⟩):∀H,SqT K H o [.str (ar "open"),.str (ar "read"),.str (ar "text")]:=λ_=>.inr ⟨_,_,_,h,rfl,rfl,(by show 3<=de;decide),(.cons ⟨_,rfl⟩ (.cons ⟨_,rfl⟩ (.cons ⟨_,rfl⟩ .nil)))⟩
end L2
namespace My
open PySem L2
theorem fin {l:PySem.W.OpenLaw}{w:World}{K:ba}{mg:Str->Option Value}{fa:Addr}{A:Adr}(hfa:mg "law"=some (.ref fa))(T:Txt w.params K mg A):∃fd:gn,(∀(s:Shared) (v:Value),BindsTo s fd ⟨[v],[]⟩ [("_law_script",v)])/\∀base:Heap,K.In base->base.Ns mainGlobals mg->FnOk l.prog w K mg base CX0 20 fa fd ["_law_script"] (HF K):=by
 have e:=hfa.symm.trans T.RD;cases e;exact⟨_,T.RF,λbase _ _=>QQ T.RE T⟩
theorem walk {l:PySem.W.OpenLaw}{q:ko}{loose:List Str}{XP:(Str->Option Value)->Heap->Prop}{YP:World->Heap->Prop}{d:DefRec}{K:Params->ba}(hn:l.most=some 63)(hdf:d.params.defaults=[])
  (hY:∀(w:World) (h:Heap),YP w h->(K w.params).In h)
  (F:∀(w:World) (mg:Str->Option Value) (fa:Addr) (h:Heap),(K w.params).In h->h.Ns mainGlobals mg->mg d.name=some (.ref fa) ->
   ∃fd:gn,(∀(s:Shared) (u:Value),BindsTo s fd ⟨[u],[]⟩ [("_law_script",u)])/\∀base:Heap,(K w.params).In base->base.Ns mainGlobals mg->FnOk l.prog w (K w.params) mg base CX0 20 fa fd ["_law_script"] (HF (K w.params))) :
  PySem.W.WalkO q loose XP YP l.row.toRowW d [] (λf vs=>PySem.call f vs) :=
 L2.MH (n:=63) (k:=20) (x:="_law_script") (CX:=λ_=>CX0) (sp:=λw=>HF (K w.params)) hn (by decide) hdf ⟨rfl,by decide,by decide,rfl⟩ hY F (λ_ _ a ns hl _ hS=>⟨a,ns,rfl,hS,hl,λ_=>rfl⟩) λ_ _ _ _ _ z=>z
end My
structure PySem.W.Fast:Prop where(tw2648449187375466227 tw6891332375778068321 tw13981218124197642387 tw14580647213263099395 tw7223290298900033539 tw3891280224522285951 tw6956755171170692341 tw10333963163910913330 tw3083248759061140165 tw4662718622438607468 tw11049887480026764670 tw813144435100986809 tw8577624340742287418 tw1220625334112246891 tw15002569419375194978 tw10870224330155406374 tw16845582062601384055 tw833671777569394971 tw10155380710637786060 tw4778519511897215015 tw11533218888402014023 tw16999876606082564187 tw10315005402962773445 tw7569447391934136988 tw12349409902356196957 tw17585983500417511289 tw17578193400889914484 tw11920851234910807 tw3097446602928674348 tw14009117519800670487 tw2579704182723810978 tw5481237174113750767 tw10434931153354755238 tw12893468756795632881 tw7935640428963917492 tw3204558056521342616 tw11434156862977648341 tw12164862474338868871 tw5947172929305819863 tw473006551350597045 tw15021443489217118320 tw3427254338345736107 tw14275215203512857524 tw15481510634560234260 tw13019742421204208343 tw7652400795557156132 tw14122701180971602591 tw16135660127941974840 tw13346265004629687824 tw1504247377435440049 tw11663379498096508643 tw3617708117539805982 tw16252598124864975319 tw15607030488604568531 tw6817980557168889654 tw13551788095394271857 tw16170245150354240145 tw1480806145620413159 tw8566798804919213783 tw16822427178789019181 tw2115335927983728666 tw9053300524032596548 tw4118310914840855247 tw16860476177024826270 tw14810848007352178672 tw13938058682569623030 tw3982459554666375758 tw6252055042627766307 tw12153035410185616570 tw1507493584095793704 tw1821147435431364095 tw12550502164819251580 tw9756396324812131598 tw5519870081495048999 tw2781139886831899824 tw1250146727353716337 tw5027591799975186273 tw10665671599029835977 tw17574693830993394799 tw455480851084833490 tw9228743238815993240 tw13006022613301374549 tw9639052892549483118 tw10397483002588218925 tw6513484910986109873 tw17131779737485759912 tw14923081789215149184 tw9921144688190857894 tw13810791410777258172 tw13455293621722807233 tw16627347220841466984 tw1314478644409060338 tw17666434976118058561 tw12644273131957356003 tw4873158972138501988 tw15416612686907668019 tw12667620642833874243 tw12483172962066877500 tw13564511368183832668 tw7214665469832457647 tw18063803888069785780 tw11221737413415770512 tw3109247408020048605 tw4970090879069400367 tw5304306885558785061 tw7656605812455435039 tw14418327014593416247 tw8136417529089261903 tw7757455360519602421 tw17001894461016953447 tw13058245177668804932 tw13032864093494922263 tw14289166435005514715 tw1889281255569751364 tw6300907844502717342 tw14417859274284647444 tw6759381028395957254 tw11655415118698418112 tw12399308934096592000 tw9214649991434430554 tw2842197817764941069 tw18402517022483796154 tw6137812915663660548 tw5915242825147981266 tw12651529066055021707 tw14242332040814675163 tw8413906218060443521 tw15319641482291353707 tw2694278009386592709 tw13552227099047067825 tw18390432959321249553 tw8670717572334646721 tw18262490508464261112 tw14075721512657234641 tw11854888132869938257 tw7455798856896406979 tw18351363469789695314 tw3322572839210922847 tw3209793120802054800 tw2313261282019529353 tw4057922168359112669 tw10182565932862567460 tw17946081606517191432 tw6665533967415037258 tw10173892863451331150 tw2347847114126394563 tw592426231636074870 tw3660656652909838381 tw17206836779839089606 tw17725901866113663263 tw6215138125727876026 tw17315504412226454279 tw915249663177820323 tw18052168120006009199 tw717756439414232030 tw9152204734382006733 tw5954525271923618707 tw6140377356535618640 tw2365148551075174398 tw451089593477503328 tw388661721409172048 tw16702798511164828526 tw10922822481405407168 tw9998920440522453431 tw15148180471007151982 tw4816975522518161459 tw9221852469037934062 tw5831067694132053796 tw671852554986915037 tw4731654862433490518 tw2767049097207967550 tw2725350626203069525 tw12166166567508415829 tw12321208411857055711 tw7616355980950030883 tw9287752991257464710 tw5263063583557416152 tw18026046041318036851 tw1726805738123518928 tw13825156923446358361 tw10195826292591458912 tw13529121696640696477 tw9856733921416217273 tw1304452058612245519 tw10048963500522795796 tw4013698356113655429 tw11536416156850083340 tw4984727152943012841 tw9483457354058941124 tw13640552277628094094 tw8586406680958476488 tw6581092055207311268 tw9435360387750633571 tw3504329920601291074 tw13446185858571908974 tw17229869686345475135 tw16670355015538628711 tw7889167600694908521 tw2307520648975620718 tw5343248283803335105 tw13065524527508134871 tw2813482737085158455 tw16691057201636294027 tw11313424900935974305 tw1232513860006038116 tw5430529008864575360 tw14926586251934261144 tw7014596892258271638 tw859075054168430814 tw2910438753116519920 tw5734651848774640331 tw14429693092012588075 tw9372728732318545272 tw9669584419586547583 tw4364317846994647068 tw622321944472940594 tw9084070803499574825 tw13190007649939577333 tw9780118495807340648 tw17884539289831181663 tw15752405822463237493 tw1149982949751666303 tw3143339425868141871 tw8866377897221231777 tw15893698194978765952 tw10324732253415499797 tw12478284395524316806 tw12334520911369968404 tw681524567595611760 tw14110852627596496411 tw2511063252678252736 tw12937655491027048164 tw5703578268950266193 tw12072053345231874106 tw8091629001609418750 tw1836368379781230144 tw6902800783475598035 tw12407593332919020787 tw13401655159950876995 tw12375153069873995452 tw10126441951852104804 tw16487528949361083747 tw2300725414497600348 tw16841277216954093793 tw11835480806881271127 tw17327263783785979049 tw10979583716880281015 tw3496045590126456442 tw10056450694254636125 tw1083198735565009669 tw16727849478650120211 tw488747318349604233 tw988051462395913711 tw8592005054214704986 tw14882976615249264328 tw3129862343678624863 tw3141837889254555030 tw10448477489734449025 tw13861075438597993262 tw10647088762580165449 tw2620025429156187626 tw9780567965813684117 tw15790516370346558080 tw4812983624879187113 tw11012237722614059263 tw9403217596874305420 tw12133285636706317605 tw9605294683758463771 tw17755837197315217006 tw814481079780671452 tw17741166162210972626 tw8311932640450891157 tw443914935925695873 tw8520385368565985320 tw14174759372290891327 tw11750070276267301826 tw18438257250789305853 tw12155716433632463901 tw17730600161391100257 tw16859514086628024958 tw5048689831765211394 tw15782046616308852507 tw13902633090138526708 tw11931033101303878667 tw5411288916374205126 tw5797573413153104703 tw3417932998157501762 tw308272419609600564 tw12045478445958428418 tw2770656221794758086 tw1237143441842828851 tw17480064974247965972 tw13842370013934164817 tw12906309357207631798 tw5422516931452192272 tw11153938025347914263 tw12781808628330085831 tw1223341135786705078 tw243086611525457857 tw2564750731914976480 tw1359973134536574430 tw7792876361181651976 tw8902696841750139784 tw8087363209617545211 tw5480428442996158282 tw300684834974057033 tw17310034315756545027 tw12659434826361434276 tw16777639351542340890 tw8846765936457378497 tw524775283868829578 tw10094476438952902316 tw16089682279078348703 tw10471530485558428089 tw5223620678298485339 tw4075242134181498353 tw11895040649617645235 tw15701326389736192090 tw2186083584332627074 tw18402545241273740592 tw13844270837663490846 tw12169830009930113313 tw8776498053514855761 tw5418818567617939689 tw4285546638114352905 tw16489151651283071407 tw1946519987586124985 tw11563080816281339845 tw16629514540452013350 tw12496694049612732561 tw7338164552068072329 tw14867823418140746458 tw11515602026247906004 tw18125802085805048483 tw1426434152587042396 tw11451322690643253727 tw4524004234019100972 tw4760110818830578122 tw15902860948840746665 tw4027318601271518320 tw13757445759969927508 tw18039915025040209197 tw4249732132183749770 tw12636845831862885398 tw3149928432039753744 tw3417081276959933799 tw8693790099331912045 tw4951384281903792015 tw6451303520617546739 tw10798050579348704234 tw10400627922754625381 tw16560718614634840086 tw18192993760046898757 tw16770164312251613843 tw10707842053843958927 tw14442404428594408784 tw6406092687724677843 tw1545063534143382582 tw15838534418326210896 tw9259338204573597046 tw7789331906254560198 tw14246386665046315758 tw13759045856775404953 tw11705829638649855638 tw13866838746821585264 tw9770163909355981883 tw16981178276346156744 tw9898799514635357511 tw1069120293345688415 tw17232574030115070638 tw11874953868967910271 tw8874737150444507185 tw2990575502210713707 tw8551396651956344769 tw9512625801729542095 tw17014998737262522723 tw18273632972054177043 tw14256121608518393879 tw4229078752653387202 tw3671878392935147278 tw5927746731163869229 tw1861630031768821050 tw17296613335829117074 tw10531717690609583194 tw17384424102931980576 tw9848197849081186976 tw5864369143151602383 tw9303213096631882069 tw9956601838413577294 tw12198257233140705434 tw14857826902273761267 tw11245451301966726203 tw17475689364897314606 tw13430811016132038612 tw4204933630060856386 tw18070015680245275160 tw2555726972254785596 tw4183003177279116134 tw10134067638296925918 tw5530390290940884099 tw12367819502613558926 tw4364421694476171995 tw3007278797030913926 tw16461627557359716877 tw17083029650453125255 tw9183336413960342623 tw6193726963331678222 tw12269009434373539143 tw8501494742061348782 tw13577111289988046057 tw18209004400162459288 tw3704095267356766800 tw2591423858231072751 tw13088521005607034554 tw8240989667130172849 tw16839266578038376473 tw2301789906210470149 tw13481506928200991553 tw8813092911954413982 tw7623774144858244484 tw11577644559403601643 tw1935588842017453735 tw17992054394544793046 tw5378581392459754719 tw10924018243548154586 tw16145019553386416490 tw8870491520279621852 tw7791864988846994541 tw4300017369015088366 tw1167338894945470675 tw2158006867113654678 tw14589510810739915480 tw14955878910397941365 tw4854322317528953693 tw4499723584979797114 tw5628882668324819807 tw5681399632207013520 tw3113215620012805536 tw5511589308906541743 tw7019893898153325219 tw9534724275417397568 tw2268151019831644798 tw7959468379501639589 tw1679077528427120523 tw7664994958272016876 tw8944156596001925777 tw17146498544687978691 tw221313837526348821 tw15978305155832687158 tw10396794867943869602 tw9720025918954734537 tw2888539160838246244 tw1309655757471126945 tw288236215614351314 tw10558813704440908774 tw272820569817299242 tw6595571171356432966 tw3962761657923282650 tw17835087697354107056 tw2582028150589653375 tw8424224513734941932 tw1648877415950202910 tw920071903769225836 tw13843944167865760651 tw14201677071924159909 tw10792394352061831800 tw17067316003765326666 tw12819897880163088275 tw15062386618873112016 tw5035209729236347015 tw7432941673449152915 tw1039326623741766172 tw9119696619293299859 tw5476997012112752292 tw5692946408439021374 tw17162322441858149987 tw2880367480449650693 tw7963323720254138023 tw15244698881885292249 tw13122907227024966269 tw17321030167813808993 tw562088075930114223 tw16070884144743086381 tw16875100512268620936 tw6387775406777163038 tw11308672428288087025 tw589192178219579341 tw5073773462732501384 tw4112499368508817467 tw9889405049737716884 tw3212050423076300963 tw12015297279512223317 tw6915358621450099225 tw12111723698328030459 tw15989145605471675941 tw12964084096675053257 tw11241645281890837039 tw11399215072279760726 tw17243393142666362555 tw8855085429789678021 tw4186720822923795952 tw17013479570378286179 tw11010074417235483342 tw12822883870433683675 tw9852960683679224646 tw17352196166937324751 tw15397036103781876620 tw520254327169629007 tw7962792641605512310 tw6805111068393677141 tw7933579081966187734 tw6054939113511911738 tw15846344704822264737 tw1215787430865883343 tw6636207740971688860 tw13702341846414312327 tw12681595760821437299 tw3753890611937549235 tw11515590106263969058 tw11519202031055093175 tw2707938326707860477 tw13073379859158614948 tw17786853643394534988 tw6433981849528767305 tw4163501121635159736 tw8814798835779355917 tw4540115862766589897 tw6200936762099567922 tw15960771881438761716 tw16950136137560646028 tw531640595555005941 tw1902935355239752828 tw2750117061340899657 tw8773960348138773104 tw11283711427349611080 tw6886944091889715604 tw13497715909009374219 tw4017748361665895956 tw153528517970759804 tw15870637984156051747 tw1900186117730402268 tw13337152292880389820 tw500207042266294498 tw8334024819931067118 tw10220043889519926829 tw17095636938226177394 tw12986479152388039878 tw6879978329419619370 tw6638105209973092428 tw5818827069945173693 tw8854806085506980502 tw4436252690482430013 tw9850900673620016878 tw1202968033369813177 tw15117511664896909533 tw10880546618213597647 tw15369082979048748728 tw13095076198568057625 tw14892073318081791593 tw12244251853690086366 tw8830341197811313888 tw10175504272375895033 tw3061318197152983925 tw2123158756982978044 tw13135560957872513798 tw3815959714132241889 tw8304795723666508353 tw14275232575574861955 tw7106535342796587769 tw4104715910788011275 tw4388237178044921831 tw2585728012336889191 tw7251009970325910415 tw973661889556470204 tw213663650593858045 tw8232319356527007783 tw7920044452539549740 tw13351407589812218603 tw4783906167273968559 tw3281388701078186788 tw2983432272812138783 tw14741978824080028793 tw16884946791269169627 tw4396766766899909297 tw11118947746017637881 tw92213092607454971 tw11895929098978571732 tw1000435682877360983 tw10822193822254320360 tw17219404243600679321 tw10598523200323769013 tw12824597388585038018 tw3849498308317871525 tw13325544217520234803 tw15386110321412507124 tw18091321539825362869 tw2591531217016400783 tw9625927154839211477 tw3344447825640384308 tw9255713136564408967 tw11074264047741549132 tw2630354717133699442 tw2692727143009059734 tw17685739372472540621 tw7512811403310709392 tw4956014400248082587 tw16169020037185751944 tw2260424187997267999 tw2261208478903124565 tw6231988292778873483 tw14370006915660470000 tw423522101462159065 tw7196559676739908398 tw16376529923694783726 tw939941958962677809 tw14948954687343349731 tw13191434368221230712 tw6340122561484536809 tw12552135147587263153 tw11374031667153017334 tw11568368425094023276 tw17750764337091616152 tw2349474166639720718 tw12961005080382838468 tw16036773283309079679 tw14976999258591900097 tw3726876200851050838 tw7454656610093853593 tw18189902486404196835 tw5358181837297970141 tw1781068878747292904 tw9869277107872458974 tw18037797331593159156 tw12523118985779064749 tw10187021140650889791 tw15452605351402696919 tw8875732598369605516 tw3930616291301939602 tw14569056543620180368 tw15123210093732801957 tw17514719526858203299 tw18263279607330387467 tw12690800615148373839 tw4568191873689856592 tw3971103795107243135 tw535212418521135729 tw2837587062862192520 tw634993624396819401 tw1556281481925856812 tw11369585277241081377 tw8493191481078236753 tw9613003426876895365 tw2134153460630512472 tw7365642103579405032 tw17643496217593526901 tw768818560254186571 tw12979476887266030746 tw2941803580757988156 tw7015831765278932502 tw16308192336222771079 tw1384466183847209293 tw7741114813312396567 tw2212666017747278944 tw2416694575502079719 tw8759882975426078131 tw8532592653309370955 tw8888680229119928965 tw10853500594522414992 tw1126169572403096618 tw6387064097641634167 tw10905442999756361370 tw17532061201362495904 tw16789176256843573051 tw16170130618979410204 tw4526947408682399747 tw18318741129841722361 tw10903946420207447373 tw15395163785957240737 tw18080388328498823534 tw11258974395477924357 tw11334577577376233270 tw5945230470916967631 tw4117906564152109122 tw9231548754229402341 tw14674833223293379168 tw14119803036723655787 tw607858341504507397 tw10838291033115328264 tw15526482641480264087 tw1563484772104243105 tw9763084060397242038 tw12755242521586998432 tw13488807351651384115 tw16114884508207207264 tw3671033291541306569 tw17451373082058520452 tw10048878041892340475 tw8445653351004850296 tw217769152206597936 tw7491804313025505104 tw7375883625772771076 tw8464671713895376145 tw1990586844140618194 tw7705875962850975816 tw3980469489943561268 tw2602640601517567837 tw8218894265318938190 tw1765574875339700390 tw2309402466050255836 tw15169278653287248654 tw18326988821457419466 tw5922160031114127381 tw17173196950410539669 tw17426420513861810493 tw6758141843227996401 tw15452785858224573512 tw2805264733656857505 tw1483589646361782656 tw4157712167600903983 tw16072963233163499405 tw3173496191310807612 tw8638067261177972447 tw7781923468957948538 tw13334015678015651375 tw12331589197278422146 tw3602271785634287736 tw2806563845771441622 tw17083728086674874487 tw16544609197875059237 tw6705420592783686755 tw10780030728336002953 tw486319115324374022 tw3729328353120963081 tw13141483540473894371 tw6027373030334615699 tw11328840524943937751 tw14413306920836589656 tw13261770708655580075 tw10205887311659518335 tw7720250938820038112 tw16797865393835566422 tw272140383051028682 tw881900733880908553 tw15290228457368681821 tw14878330006786412722:True)
open PySem PySem.W PyProof.Rows
set_option maxRecDepth 100000 in
set_option maxHeartbeats 0 in
theorem PySem.Challenge.cw_moot_k35_orders_refused_holds : PySem.Challenge.rw_moot_k35_orders_refused.Holds := by
 w_on;o_law;k_head;(case hw=>w_witness2)
 k_fill;refine My.walk (l:=PySem.Challenge.rw_moot_k35_orders_refused) rfl rfl (λw h Y=>PySem.W.kIn_of Y) ?F
 case F =>
  intro w mg fa h KX G hmg;refine' My.fin (A:=.mk ..) hmg ?T
  case T =>
   apply My.Txt.mk
   all_goals try refine L2.UJ ?_ ?_ ?_ ?_ ?_ ?_ ?_ ?_
   all_goals try refine L2.three ?_ ?_ ?_
   all_goals try (delta My.Adr.C My.Adr.fk My.Adr.fkd My.Adr.fn My.Adr.fnd My.Adr.ft My.Adr.ftd My.nm;simp only)
   all_goals try dsimp only
   all_goals first
    | (apply PySem.W.mg_of KX G;k_is)
    | (apply PySem.W.mg_none_of KX G;k_is)
    | (apply L2.O4 <;> k_is)
    |exact L2.bd0 rfl
    |exact L2.bd1 λ_=>rfl
    |exact L2.bd2 λ_ _=>rfl
    |exact L2.bd3 λ_ _ _=>rfl
    |exact L2.bd4 λ_ _ _ _=>rfl
    | (apply L2.S7;k_is)
    |exact⟨_,by k_is⟩
    | (apply L2.QR;k_is;k_keys)
    | (apply L2.Jy;k_is)
    | (apply L2.Aa;k_is)
    | (apply L2.vL;k_is)
    |kts_exm
    |kit_is
    | (apply L2.S8 <;> k_is)
    | (apply L2.S9 <;> k_is)
    | (apply L2.Ta <;> first | k_is | with_unfolding_all rfl)
    | (apply L2.Tb <;> first | k_is | with_unfolding_all rfl)
    | (constructor <;> k_is)
    |exactλ_ _=>.of_eq rfl
