import PyProof.Rows.All
import Wide.All
import OpenK.AllK
import Wide.FinOn
import Lean
import PyProof.EqAt
import PyProof.EqKinds
import PyProof.TupleCall
import PySem.Challenge.RW_moot_k33_where_minutes_part
set_option Elab.async false
set_option linter.all false
set_option maxRecDepth 100000
set_option maxHeartbeats 4000000
local macro_rules|`(tactic|trivial)=>`(tactic|decide +kernel)
local macro_rules|`(tactic|omega)=>`(tactic|lia)
open PySem.Str renaming ofString → ar, join → ki, empty → Um
open PySem.W renaming Frag → ba, findIn → Ts, emptyDict → TV, exmOne → T4, instObj → T5, kia_one → T8, kitOne → Ua, methodCall_KW → Uu, nsIn → US, InstAt → UW, keepIn → UX, callWith_K → UZ, looks_findIn → U4, clsIn → Vd, findObj → Vh, mroIn → Vm
open List renaming length_map → bo, mem_cons_self → gc, mem_append_right → gn, length_append → gr, mem_cons_of_mem → kf, map_cons → ko, size_toArray → kx, length_cons → ky, map_append → ma, getElem?_eq_getElem → sr, getElem?_map → wt, mem_singleton → Te, length_singleton → Tg, mem_of_getElem? → Ti, length_take → To, getD_eq_getElem?_getD → Tv, range' → TF, cons_ne_nil → TK, mem_append_left → TL, length_drop → TQ, take_length → TY, append_nil → T9, lookup → Uc, length_range' → Ue, not_mem_nil → Ui, eq_nil_or_concat → Uj, concat_eq_append → Uk, getElem?_cons_zero → Uo, getElem?_append_left → Ur, take_succ → Uw, length_set → Ux, mem_cons → Uz, getElem?_append_right → UB, append_assoc → UC, length_replicate → UG, map_nil → UJ, getLast?_concat → UL, getElem?_cons_succ → UN, find?_cons → UP, map_congr_left → UR, range → UU, length → U5, take_add_one → U7, mem_of_mem_take → U8, map_map → U9, mem_of_mem_drop → Va, any_cons → Vc, replicate → Vf, lookup_cons → Vg, mem_append → Vi, length_zip → Vk, Perm → Vn, map_take → Vp
open PySem renaming wpAny_bind → de, sizeLine → eg, FuncData → gp, wpAny_pure → kj, Program → km, wpAny_mono → kq, starEach → Td, Spec → Tu, wpAny → Tw, wpAny_holding → TR, wpAny_standAt → T3, bootBuiltins → T6, excClassObj → Ud, keywordEach → Up, compareOp → Uq, mem_of_lookup → UD, wpAny_field → UE, wpAny_call → UO, sysModules → UT, backToKw → UY, callWith → Ve
open PySem.Heap renaming get?_push_of_some → fu, lt_size → ku, get?_push_size → tm, get?_update_other → TU, get?_update_self → T7, size_push → UK
open Nat renaming le_refl → kc, le_trans → ra, ne_of_lt → Tf, lt_of_lt_of_le → Th, le_succ_of_le → TB, zero_le → TM, le_succ → Ut, lt_irrefl → Vl
open Bool renaming false_ne_true → kg, and_eq_true → TH, and_self → Ub, eq_iff_iff → Ug
open Sum renaming inl → kr
open PySem.PyData renaming canLayAll0 → me, canLay0 → Tt, depthAll → TC, depth → TN, strOk → TX, str → TZ, eqv → T2, eqvAll → Uy
open Option.some renaming inj → om
open PySem.Value renaming ref → rf, none → Us, bool → UH
open PySem.F renaming plainAttrs_list → Tj, slot_list_append → Tx, type_list_append → Tz
open Or renaming inl → Tp
open False renaming elim → Tq
open Ne renaming symm → Tr
open PySem.Obj renaming mapFields → Uh
open PySem.Builtin.Str renaming occurrences → Ul
open PySem.NameKind renaming free → Uv
open True renaming intro → UA
open Option renaming bind_some → UI
open Int renaming toNat_natCast → UM
open PySem.Builtin.SmallTypes renaming fitsIndex → UQ
open PySem.Builtin.Slice renaming slicePlaces → U0
open PySem.Calls renaming evalArgs_plain → U6
open PySem.Builtin.Tuple renaming tupleExact → Vb
open PySem.PassesOwn renaming never → Vj
open Prod.mk renaming injEq → Vo
namespace L2
open PySem PySem.Spec PyProof.Rows
abbrev Key:=Sum Int Str
def xb:Key->Value->Bool
 | .inl k,v=>Value.isInt k v
 | .inr x,v=>Value.isStrOf x v
def RK (w:World):Key->Int
 | .inl k=>hashInt k
 | .inr x=>hashStr w x
theorem cH:∀ {k:Key} {v:Value},xb k v=true->(∃i t,k=kr i/\v=Value.int i t)\/(∃x t,k=Sum.inr x/\v=Value.str x t)
 | .inl i,v,h=>by
  obtain⟨t,e⟩:=Value.isInt_shape (k:=i) (v:=v) h;exact .inl ⟨i,t,rfl,e⟩
 | .inr x,v,h=>by
  obtain⟨t,e⟩:=Value.isStrOf_shape (x:=x) (v:=v) h;exact .inr ⟨x,t,rfl,e⟩
theorem GL (i:Int)(t:Tok):xb (.inl i) (.int i t)=true:=by simp[xb,Value.isInt]
theorem GN (x:Str)(t:Tok):xb (.inr x) (.str x t)=true:=by simp[xb,Value.isStrOf]
theorem Nu (a b:Int):decide ((kr a:Key)=kr b)=(a == b):=by
 by_cases e:a=b
 ·subst e;simp
 ·have h:¬(kr a:Key)=kr b:=λq=>e (Sum.inl.inj q)
  rw[decide_eq_false h];exact(beq_eq_false_iff_ne.mpr e).symm
theorem Nv (a b:Str):decide ((Sum.inr a:Key)=Sum.inr b)=decide (a=b):=by
 by_cases e:a=b
 ·subst e;simp
 ·have h:¬(Sum.inr a:Key)=Sum.inr b:=λq=>e (Sum.inr.inj q)
  rw[decide_eq_false h,decide_eq_false e]
theorem Nw (a:Int)(b:Str):decide ((kr a:Key)=Sum.inr b)=false:=decide_eq_false (λq=>nomatch q)
theorem Nx (a:Str)(b:Int):decide ((Sum.inr a:Key)=kr b)=false:=decide_eq_false (λq=>nomatch q)
def cz (prog:km)(w:World):PySem.KeyKind prog w Key where
 is:=xb
 hash:=RK w
 inj:=λv a b ha hb=>by
  rcases cH ha with ⟨i,t,rfl,rfl⟩ | ⟨x,t,rfl,rfl⟩
  ·rcases cH hb with ⟨j,u,rfl,e⟩ | ⟨y,u,rfl,e⟩
   ·injection e with e1 _;rw[e1]
   ·exact nomatch e
  ·rcases cH hb with ⟨j,u,rfl,e⟩ | ⟨y,u,rfl,e⟩
   ·exact nomatch e
   ·injection e with e1 _;rw[e1]
 byValue:=λk v h=>by
  rcases cH h with ⟨i,t,rfl,rfl⟩ | ⟨x,t,rfl,rfl⟩ <;> rfl
 pyHash:=λhv h=>by
  rcases cH hv with ⟨i,t,rfl,rfl⟩ | ⟨x,t,rfl,rfl⟩
  ·exact wpAny_pyHash_int h
  ·exact wpAny_pyHash_str h
 eqBool:=λhu hv h=>by
  rcases cH hu with ⟨i,t,rfl,rfl⟩ | ⟨x,t,rfl,rfl⟩
  ·rcases cH hv with ⟨j,u,rfl,rfl⟩ | ⟨y,u,rfl,rfl⟩
   ·rw[Nu]at h;exact wpAny_eqBool_int h
   ·rw[Nw]at h;exact SeqAt.EqAt.int_str i t y u _ _ _ _ h
  ·rcases cH hv with ⟨j,u,rfl,rfl⟩ | ⟨y,u,rfl,rfl⟩
   ·rw[Nx]at h;exact SeqAt.EqAt.str_int x t j u _ _ _ _ h
   ·rw[Nv]at h;exact wpAny_eqBool_str h
 «strs»:=λk x t v h=>by
  rcases cH h with ⟨i,u,rfl,e⟩ | ⟨y,u,rfl,e⟩
  ·exact nomatch e
  ·injection e with e1 _
   subst e1;cases v <;> rfl
theorem CB (prog:km)(w:World)(i:Int)(t:Tok):(cz prog w).is (.inl i) (.int i t)=true:=GL i t
theorem CC (prog:km)(w:World)(x:Str)(t:Tok):(cz prog w).is (.inr x) (.str x t)=true:=GN x t
inductive V where
 |non | bl (b:Bool) | int (i:Int) | str (x:Str) | byt (b:Array UInt8) | flt (b:UInt64) | ref (a:Addr) | ty (n:String)
 deriving DecidableEq
def RelV:V->Value->Prop
 | .non,u=>u=Us
 | .bl b,u=>u=UH b
 | .int i,u=>∃t,u=Value.int i t
 | .str x,u=>∃t,u=Value.str x t
 | .byt b,u=>∃t,u=Value.bytes b t
 | .flt b,u=>∃t,u=Value.float b t
 | .ref a,u=>u=rf a
 | .ty n,u=>u=Value.type n
abbrev Vals:List V->List Value->Prop:=Paired RelV
theorem Vals.length {xs:List V}{us:List Value}(r:Vals xs us):xs.length=us.length:=Paired.length r
theorem Vals.get:∀ {xs:List V} {us:List Value} {i:Nat} {x:V},Vals xs us->xs[i]?=some x->∃u,us[i]?=some u/\RelV x u
 |_,_,_,_,.nil,e=>by simp at e
 |_,_,0,_,.cons r _,e=>by simp at e;subst e;exact⟨_,rfl,r⟩
 |_,_,i+1,x,.cons _ t,e=>by
  obtain⟨u,h1,h2⟩:=Vals.get (i:=i) (x:=x) t (by simpa using e)
  exact⟨u,by simpa using h1,h2⟩
theorem Vals.set {x:V}{u:Value}(r:RelV x u):∀ {xs:List V} {us:List Value} (i:Nat),Vals xs us->Vals (xs.set i x) (us.set i u)
 |_,_,_,.nil=>.nil
 |_,_,0,.cons _ t=>.cons r t
 |_,_,i+1,.cons q t=>.cons q (Vals.set r i t)
theorem Vals.append:∀ {xs ys:List V} {us ws:List Value},Vals xs us->Vals ys ws->Vals (xs++ys) (us++ws)
 |_,_,_,_,.nil,s=>s
 |_,_,_,_,.cons r t,s=>.cons r (Vals.append t s)
theorem Vals.take:∀ {xs:List V} {us:List Value} (n:Nat),Vals xs us->Vals (xs.take n) (us.take n)
 |_,_,0,_=>.nil
 |_,_,_+1,.nil=>.nil
 |_,_,n+1,.cons r t=>.cons r (Vals.take n t)
theorem Vals.drop:∀ {xs:List V} {us:List Value} (n:Nat),Vals xs us->Vals (xs.drop n) (us.drop n)
 |_,_,0,r=>r
 |_,_,_+1,.nil=>.nil
 |_,_,n+1,.cons _ t=>Vals.drop n t
theorem Vals.none_of:∀ {xs:List V} {us:List Value} {i:Nat},Vals xs us->xs[i]?=none->us[i]?=none:=λ{xs us i} r e=>by
 have h1:=r.length;have h2:xs.length<=i:=List.getElem?_eq_none_iff.mp e;exact List.getElem?_eq_none_iff.mpr (by omega)
def lu:Option V->Option Value->Prop
 |some v,some u=>RelV v u
 |none,none=>True
 |_,_=>False
def KV {κ:Type}:List (κ×V)->List (κ×Value)->Prop:=Paired λ(p:κ×V) (q:κ×Value)=>p.1=q.1/\RelV p.2 q.2
def kV:Key->V
 | .inl i=>.int i
 | .inr x=>.str x
inductive HO where
 |lst (xs:List V)
 |tup (xs:List V)
 |dK (kvs:List (Key×V)) | dT (kvs:List (List Key×V))
 |set (S:Int->Bool) (n:Nat)
 |ins (C dx:Addr) (fs:List (Str×V))
 |own (x:Addr)
 |xd (fs:List (Str×V))
 |met (f x:Addr)
 |rng (lo hi:Int)
 |frz (o:Obj) (u:HO)
 |tbl (ps:Array Value)
 |ext (φ:Heap->Prop)
abbrev Hp:=Addr->Option HO
def upd (H:Hp)(a:Addr)(o:HO):Hp:=λb=>if b=a then some o else H b
theorem ae {H:Hp}{a:Addr}{o:HO}:upd H a o a=some o:=by unfold upd;rw[if_pos rfl]
theorem ao {H:Hp}{a b:Addr}{o:HO}(h:b≠a):upd H a o b=H b:=by unfold upd;rw[if_neg h]
theorem jW {H:Hp}{a:Addr}{o u:HO}:upd (upd H a o) a u=upd H a u:=by
 funext b;unfold upd;split <;> rfl
theorem Ab {H:Hp}{a b:Addr}{o u:HO}(h:H a=some o)(h':H b=some u)(d:o≠u):a≠b:=by
 intro e;subst e;rw[h]at h';exact d (om h')
theorem aG {H:Hp}{a b:Addr}{o:HO}(h:H a=some o)(h':H b=none):a≠b:=by
 intro e;subst e;rw[h]at h';cases h'
section
variable(P:km)(w:World)
def cf (H:Hp)(h:Heap)(a:Addr):HO->Prop
 | .lst xs=>xs.length<=eg/\∃(its:List Value) (n:Nat),Vals xs its/\h.get? a=some { cls:=.type "list",data:=.seq its.toArray n }
 | .tup xs=>xs.length<=eg/\∃its:List Value,Vals xs its/\IsTup h a its.toArray
 | .dK kvs=>kvs.length<=eg/\(a == UT)=false/\∃vs,KV kvs vs/\h.DictOf (cz P w) a vs
 | .dT kvs=>kvs.length<=eg/\(a == UT)=false/\∃xs:List (List Key×Addr×Value),
   Paired (λ(p:List Key×V) (q:List Key×Addr×Value)=>p.1=q.1/\H q.2.1=some (.tup (p.1.map kV))/\RelV p.2 q.2.2) kvs xs /\
   ∃o es ep,h.get? a=some o/\o.ExactDict/\o.data=.dict es ep/\es.toList=xs.map (entryOfKey (tupleKind (cz P w)))/\(xs.map (·.1)).Nodup
 | .set S n=>h.SetOf (intKind P w) a S n
 | .ins C dx fs=>H dx=some (.own a)/\fs.length<=1000/\dx≠a/\h.get? a=some (T5 C dx) /\
   ∃mA,h.Ns1 dx mA/\(∀f,lu (fs.lookup f) (mA f))/\PySem.Within mA (fs.map (·.1))
 | .own _=>∃o,h.get? a=some o
 | .xd fs=>∃mA,h.Ns1 a mA/\∀f,lu (fs.lookup f) (mA f)
 | .rng lo hi=>∃t u v,h.get? a=some { cls:=.type "range",data:=.fields #[.int lo t,.int hi u,.int 1 v] }
 | .frz o u=>h.get? a=some o/\cf H h a u
 | .tbl ps=>h.get? a=some { cls:=.none,data:=.fields ps }
 | .met f x=>h.get? a=some (PySem.W.methodObj (.ref f) (.ref x))
 | .ext φ=>φ h/\(∃o,h.get? a=some o)/\∀h1 h2:Heap,φ h1->(∀o,h1.get? a=some o->h2.get? a=some o)->φ h2
def HOk (H:Hp)(h:Heap):Prop:=∀a o,H a=some o->cf P w H h a o
end
section
variable{P:km}{w:World}{H H':Hp}{h h':Heap}{a:Addr}{o:HO}
theorem cf.lt (x:cf P w H h a o):a < h.objs.size:=by
 cases o with
 |lst xs=>obtain⟨_,_,_,_,e⟩:=x;exact ku e
 |tup xs=>obtain⟨_,_,_,p⟩:=x;exact p.lt
 |dK kvs=>obtain⟨_,_,_,_,o,_,_,e,_⟩:=x;exact ku e
 |dT kvs=>obtain⟨_,_,_,_,o,_,_,e,_⟩:=x;exact ku e
 |set S n=>obtain⟨o,_,_,_,e,_⟩:=x;exact ku e
 |ins C dx fs=>obtain⟨_,_,_,e,_⟩:=x;exact ku e
 |own y=>obtain⟨_,e⟩:=x;exact ku e
 |xd fs=>obtain⟨_,⟨_,_,_,e,_⟩,_⟩:=x;exact ku e
 |rng lo hi=>obtain⟨_,_,_,e⟩:=x;exact ku e
 |frz ob u=>obtain⟨e,_⟩:=x;exact ku e
 |tbl ps=>exact ku (show h.get? a=some _ from x)
 |met f y=>exact ku (show h.get? a=some _ from x)
 |ext φ=>obtain⟨_,⟨_,e⟩,_⟩:=x;exact ku e
theorem Paired.Ny {α β:Type}{F G:α->β->Prop}:∀ {l₁:List α} {l₂:List β},Paired F l₁ l₂->(∀a b,F a b->G a b)->Paired G l₁ l₂
 |_,_,.nil,_=>.nil
 |_,_,.cons r t,f=>.cons (f _ _ r) (Paired.Ny t f)
theorem cf.wm (x:cf P w H h a o)(k:∀b u,(b=a\/H b=some (.own a))->h.get? b=some u->h'.get? b=some u)
  (ho:∀b,H b=some (.own a)->H' b=some (.own a)) (ht:∀b xs,H b=some (.tup xs)->H' b=some (.tup xs)):cf P w H' h' a o:=by
 induction o with
 |lst xs=>obtain⟨z,its,n,r,e⟩:=x;exact⟨z,its,n,r,k _ _ (.inl rfl) e⟩
 |tup xs=>obtain⟨z,its,r,ob,e,c⟩:=x;exact⟨z,its,r,ob,k _ _ (.inl rfl) e,c⟩
 |dK kvs=>obtain⟨z,y,vs,r,ob,es,ep,e,c⟩:=x;exact⟨z,y,vs,r,ob,es,ep,k _ _ (.inl rfl) e,c⟩
 |dT kvs =>
  obtain⟨z,y,xs,r,ob,es,ep,e,c⟩:=x;exact⟨z,y,xs,Paired.Ny r λp q z=>⟨z.1,ht _ _ z.2.1,z.2.2⟩,ob,es,ep,k _ _ (.inl rfl) e,c⟩
 |set S n=>obtain⟨ob,es,ep,t,e,c⟩:=x;exact⟨ob,es,ep,t,k _ _ (.inl rfl) e,c⟩
 |ins C dx fs =>
  obtain⟨d,z,ne,e,mA,⟨od,es,ep,e2,c⟩,r⟩:=x;exact⟨ho _ d,z,ne,k _ _ (.inl rfl) e,mA,⟨od,es,ep,k _ _ (.inr d) e2,c⟩,r⟩
 |own y=>obtain⟨ob,e⟩:=x;exact⟨ob,k _ _ (.inl rfl) e⟩
 |xd fs=>obtain⟨mA,⟨od,es,ep,e,c⟩,r⟩:=x;exact⟨mA,⟨od,es,ep,k _ _ (.inl rfl) e,c⟩,r⟩
 |rng lo hi=>obtain⟨t,u,v,e⟩:=x;exact⟨t,u,v,k _ _ (.inl rfl) e⟩
 |frz ob u ih=>obtain⟨e,q⟩:=x;exact⟨k _ _ (.inl rfl) e,ih q⟩
 |tbl ps =>
  have e:h.get? a=some { cls:=.none,data:=.fields ps }:=x;show h'.get? a=some { cls:=.none,data:=.fields ps };exact k a _ (.inl rfl) e
 |met f y =>
  have e:h.get? a=some (PySem.W.methodObj (.ref f) (.ref y)):=x;show h'.get? a=some (PySem.W.methodObj (.ref f) (.ref y));exact k a _ (.inl rfl) e
 |ext φ=>obtain⟨p,⟨o,e⟩,st⟩:=x;exact⟨st _ _ p λo q=>k _ _ (.inl rfl) q,⟨o,k _ _ (.inl rfl) e⟩,st⟩
theorem HOk.lt (x:HOk P w H h)(e:H a=some o):a < h.objs.size:=(x a o e).lt
theorem HOk.fresh (x:HOk P w H h)(e:h.objs.size<=a):H a=none:=by
 cases q:H a with
 |none=>rfl
 |some u=>exact absurd (Th (x.lt q) e) (Vl _)
theorem HOk.kept (x:HOk P w H h)(k:∀b u,h.get? b=some u->h'.get? b=some u):HOk P w H h':=λa o e =>
 (x a o e).wm (λb u _ q=>k b u q) (λ_ q=>q) λ_ _ q=>q
theorem HOk.laid (x:HOk P w H h)(k:∀b u,h.get? b=some u->h'.get? b=some u)(hp:h.objs.size<=a)(new:cf P w (upd H a o) h' a o):HOk P w (upd H a o) h':=λb u e=>by
 have hn:=x.fresh hp
 by_cases hb:b=a
 ·subst hb;rw[ae]at e;cases e;exact new
 ·rw[ao hb]at e;exact(x b u e).wm (λc v _ q=>k c v q) (λc q=>by rw[ao (aG q hn)];exact q) λc xs q=>by rw[ao (aG q hn)];exact q
end
def Rd (H:Hp)(a:Addr)(u:HO):Prop:=H a=some u\/∃o,H a=some (.frz o u)
theorem Rd.of {H:Hp}{a:Addr}{u:HO}(h:H a=some u):Rd H a u:=.inl h
theorem Rd.ok {P:km}{w:World}{H:Hp}{h:Heap}{a:Addr}{u:HO}(r:Rd H a u)(x:HOk P w H h):cf P w H h a u:=by
 rcases r with r | ⟨o,r⟩
 ·exact x a u r
 ·obtain⟨_,q⟩:=x a _ r;exact q
def Mut:Option HO->Prop
 |some (.lst _)=>True
 |some (.dK _)=>True
 |some (.dT _)=>True
 |some (.set _ _)=>True
 |some (.ins _ _ _)=>True
 |some (.ext _)=>True
 |_=>False
section
variable{P:km}{w:World}{H:Hp}{h h':Heap}{x e:Addr}{o':HO}
theorem HOk.write (ok:HOk P w H h)(mu:Mut (H x))(he:e=x\/H e=some (.own x))(k:∀b u,b≠e->h.get? b=some u->h'.get? b=some u)(heo:∃u,h'.get? e=some u)
  (new:cf P w (upd H x o') h' x o'):HOk P w (upd H x o') h':=λb u q=>by
 have PX:∀c y,H c=some (.own y)->c≠x:=λc y r z=>by subst z;rw[r]at mu;exact mu
 have RL:∀c xs,H c=some (.tup xs)->c≠x:=λc xs r z=>by subst z;rw[r]at mu;exact mu
 by_cases hb:b=x
 ·subst hb;rw[ae]at q;cases q;exact new
 ·rw[ao hb]at q
  by_cases hbe:b=e
  ·have q':H b=some (.own x):=by
    rcases he with z | z
    ·exact absurd (hbe.trans z) hb
    ·rw[hbe];exact z
   rw[q]at q';cases q';obtain⟨v,hv⟩:=heo;exact⟨v,by rw[hbe];exact hv⟩
  ·refine(ok b u q).wm (λc v hc r=>k c v ?_ r) (λc r=>by rw[ao (PX c b r)];exact r) λc xs r=>by rw[ao (RL c xs r)];exact r
   rcases hc with rfl | hc
   ·exact hbe
   ·rintro rfl;rcases he with z | z
    ·exact PX c b hc z
    ·rw[hc]at z;cases z;exact hb rfl
end
structure Un (fs ex:List Addr)(H H':Hp)(h h':Heap):Prop where
 keep:∀b o,h.get? b=some o->H b=none->b∉fs->b∉ex->h'.get? b=some o
 slot:∀b o,h.get? b=some o->H b=none->b∈fs->b∉ex->∃sl,h'.get? b=some { o with slots:=sl }
 free:∀b o,h.get? b=some o->H b=none->b∉ex->H' b=none
 there:∀b o,h.get? b=some o->b∉ex->∃o',h'.get? b=some o'
 qR:∀b xs,H b=some (.tup xs)->H' b=some (.tup xs)
 nQ:∀b o u,H b=some (.frz o u)->H' b=some (.frz o u)
 qS:∀b ps,H b=some (.tbl ps)->∃more,H' b=some (.tbl (ps++more))
section
variable{fs fs' ex ex':List Addr}{H H1 H2:Hp}{h h1 h2 h':Heap}{a x e:Addr}{o:HO}
theorem Un.any (u:Un fs ex H H1 h h1){b:Addr}{ob:Obj}(q:h.get? b=some ob)(n:H b=none)(hx:b∉ex):∃sl,h1.get? b=some { ob with slots:=sl }:=by
 by_cases hb:b∈fs
 ·exact u.slot b ob q n hb hx
 ·exact⟨ob.slots,u.keep b ob q n hb hx⟩
theorem Un.trans (a:Un fs ex H H1 h h1)(b:Un fs ex H1 H2 h1 h2):Un fs ex H H2 h h2 where
 keep:=λc ob q n hc hx=>b.keep c ob (a.keep c ob q n hc hx) (a.free c ob q n hx) hc hx
 slot:=λc ob q n hc hx=>by
  obtain⟨sl,e1⟩:=a.slot c ob q n hc hx;obtain⟨sl',e2⟩:=b.slot c _ e1 (a.free c ob q n hx) hc hx;exact⟨sl',e2⟩
 free:=λc ob q n hx=>by
  obtain⟨o',e1⟩:=a.there c ob q hx;exact b.free c o' e1 (a.free c ob q n hx) hx
 there:=λc ob q hx=>by
  obtain⟨o',e1⟩:=a.there c ob q hx;exact b.there c o' e1 hx
 qR:=λc xs q=>b.qR c xs (a.qR c xs q)
 nQ:=λc ob xs q=>b.nQ c ob xs (a.nQ c ob xs q)
 qS:=λc ps q=>by
  obtain⟨m1,e1⟩:=a.qS c ps q;obtain⟨m2,e2⟩:=b.qS c _ e1;exact⟨m1++m2,by rw[e2,Array.append_assoc]⟩
theorem Un.kept (k:∀b u,h.get? b=some u->h'.get? b=some u):Un fs ex H H h h' :=
 ⟨λb ob q _ _ _=>k b ob q,λb ob q _ _ _=>⟨ob.slots,k b ob q⟩,λ_ _ _ n _=>n,λb ob q _=>⟨ob,k b ob q⟩,λ_ _ q=>q,λ_ _ _ q=>q,λ_ ps q=>⟨#[],by rw[q];simp⟩⟩
theorem Un.refl:Un fs ex H H h h:=Un.kept λ_ _ q=>q
theorem Un.laid (k:∀b u,h.get? b=some u->h'.get? b=some u)(hp:h.objs.size<=a)(hn:H a=none):Un fs ex H (upd H a o) h h' where
 keep:=λb u q _ _ _=>k b u q
 slot:=λb u q _ _ _=>⟨u.slots,k b u q⟩
 free:=λb u q n _=>by rw[ao (Tf (Th (ku q) hp))];exact n
 there:=λb u q _=>⟨u,k b u q⟩
 qR:=λb xs q=>by rw[ao (aG q hn)];exact q
 nQ:=λb u xs q=>by rw[ao (aG q hn)];exact q
 qS:=λb ps q=>⟨#[],by rw[ao (aG q hn),q];simp⟩
theorem Un.write (mu:Mut (H x))(he:e=x\/H e=some (.own x))(k:∀b u,b≠e->h.get? b=some u->h'.get? b=some u)(heo:∃u,h'.get? e=some u):Un fs ex H (upd H x o) h h':=by
 have hx:∀b,H b=none->b≠x:=λb n z=>by subst z;rw[n]at mu;exact mu
 have hb:∀b,H b=none->b≠e:=λb n z=>by
  subst z;rcases he with r | r
  ·exact hx b n r
  ·rw[n]at r;cases r
 have hm:∀b u,H b=some u->¬Mut (some u)->b≠x:=λb u q nm z=>by subst z;rw[q]at mu;exact nm mu
 refine⟨λb u q n _ _=>k b u (hb b n) q,λb u q n _ _=>⟨u.slots,k b u (hb b n) q⟩,λb u q n _=>by rw[ao (hx b n)];exact n,λb u q _=>?_,
  λb xs q=>by rw[ao (hm b _ q λz=>z)];exact q,λb u xs q=>by rw[ao (hm b _ q λz=>z)];exact q,λb ps q=>⟨#[],by rw[ao (hm b _ q λz=>z),q];simp⟩⟩
 by_cases hbe:b=e
 ·subst hbe;exact heo
 ·exact⟨u,k b u hbe q⟩
theorem Un.mono (u:Un fs ex H H1 h h1)(hs:∀b∈fs,b∈fs')(hx:∀b∈ex,b∈ex'):Un fs' ex' H H1 h h1 :=
 ⟨λb ob q n hb he=>u.keep b ob q n (λz=>hb (hs b z)) λz=>he (hx b z),λ_ _ q n _ he=>u.any q n λz=>he (hx _ z),λb ob q n he=>u.free b ob q n λz=>he (hx b z),λb ob q he=>u.there b ob q λz=>he (hx b z),u.qR,u.nQ,u.qS⟩
end
def trk (h:Heap)(H:Hp):List Addr:=(UU h.objs.size).filter λa=>(H a).isSome
def Ba (h:Heap)(H:Hp):Heap:=PySem.W.hideAll h (trk h H)
theorem GO (h:Heap)(H:Hp):(Ba h H).objs.size=h.objs.size:=PySem.W.hideAll_size _ _
theorem Iy {h:Heap}{H:Hp}{b:Addr}{o:Obj}(e:h.get? b=some o)(n:H b=none):(Ba h H).get? b=some o :=
 PySem.W.hideAll_get _ e λhm=>by
  have q:(H b).isSome=true:=(List.mem_filter.mp hm).2;rw[n]at q;simp at q
theorem Ls {h:Heap}{H:Hp}{b:Addr}{o:Obj}(e:(Ba h H).get? b=some o):h.get? b=some o/\H b=none:=by
 have e':h.get? b=some o:=PySem.W.of_hideAll (trk h H) e;refine⟨e',?_⟩;cases q:H b with
 |none=>rfl
 |some x =>
  have hm:b∈trk h H:=List.mem_filter.mpr ⟨List.mem_range.mpr (ku e'),by simp[q]⟩
  have z:(Ba h H).get? b=none:=PySem.W.hideAll_none (trk h H) hm;rw[z]at e;cases e
def Lu (g h:Heap)(L:Addr):List (Addr×Obj):=(UU h.objs.size).filterMap λa=>if a=L\/(g.get? a).isSome=true then none else (h.get? a).map λo=>(a,o)
def rest (g h:Heap)(L d:Addr):List (Addr×Obj):=(Lu g h L).filter λp=>decide (p.1≠d)
structure Mod (K:ba)(mg:Str->Option Value)(base:Heap):Prop where
 kin:K.In base
 glob:base.Ns mainGlobals mg
 blt:∃mb,base.Ns builtinsNs mb/\∀x:Str,x≠"__name__"->mb x=T6 x
 nolimit:base.NoLimit
structure Cx where
 prog:km
 w:World
 K:ba
 mg:Str->Option Value
 base:Heap
 A:Around
 N:List Str
 s₀:Shared
 H₀:Hp
 env:Env
 outer:List Env
 stack:List Env
 ex:List Addr
 fn:Str->Bool
 calm:Bool
 xc:Bool:=true
 pn:List (Addr×Obj)
 xe:Value->Shared->Prop
def frs (l:List Env):List Addr:=l.filterMap (·.frame)
abbrev Cx.fs (X:Cx):List Addr:=frs X.outer
def Vis (sc:Scope)(x:Str):Prop:=sc.names.lookup x=some .local\/sc.names.lookup x=some .cell\/sc.names.lookup x=some .free
def Loc (sc:Scope)(x:Str):Prop:=sc.names.lookup x=some .local\/sc.names.lookup x=some .cell
def Look (env:Env)(h:Heap)(m:Str->Option Value)(x:Str)(u:Value):Prop :=
 (env.kindOf x=some .local/\m x=some u)\/((env.kindOf x=some .cell\/env.kindOf x=some .free)/\∃c,env.cells.lookup x=some c/\h.IsCell c (some u))
structure Cx.Ok (X:Cx):Prop where
 mod:Mod X.K X.mg X.base
 kind:X.env.scope.kind=.function
 glob:X.env.globals=mainGlobals
 blt:X.env.builtins=builtinsNs
 above:X.s₀.heap.objs.size<=X.env.locals
 inj:∀x y c,X.env.cells.lookup x=some c->X.env.cells.lookup y=some c->x=y
 has:∀x,(X.env.kindOf x=some .cell\/X.env.kindOf x=some .free)->∃c,X.env.cells.lookup x=some c
 cab:∀x c,X.fn x=true->X.env.cells.lookup x=some c->X.s₀.heap.objs.size<=c
 hd:X.calm=true->X.A.handled=none
 frames:X.A.frames=some X.stack
 stk:X.stack=X.outer\/(X.stack=X.env::X.outer/\X.env.frame=some X.env.locals)
 exf:∀b∈X.ex,b≠X.env.locals/\∀x c,X.env.cells.lookup x=some c->c≠b
 bs:∀b o,X.base.get? b=some o->X.s₀.heap.get? b=some o/\X.H₀ b=none
 bsz:X.base.objs.size<=X.s₀.heap.objs.size
 wq:∀b o,X.base.get? b=some o->b∉X.ex
 wu:∀b∈X.ex,b∉X.fs
 ly:X.s₀.heap.FunFrames X.base X.outer
 frf:∀b∈X.fs,X.H₀ b=none
structure Inv (X:Cx)(pins:List (Addr×Obj))(σ:List (Option V))(H:Hp)(s:Shared):Prop where
 ok:X.Ok
 os:s.os=X.s₀.os
 bare:AllBare s.gens
 base:Un X.fs X.ex X.H₀ H X.s₀.heap s.heap
 loc:∃m,s.heap.Ns X.env.locals m/\∀(i:Nat) (x:Str) (v:V),X.N[i]?=some x->σ[i]?=some (some v)->Vis X.env.scope x->∃u,RelV v u/\Look X.env s.heap m x u
 cell:∀x c,X.env.cells.lookup x=some c->∃v,s.heap.IsCell c v
 free:H X.env.locals=none
 fS:∀x c,X.env.cells.lookup x=some c->H c=none
 pin:∀p∈X.pn++pins,s.heap.get? p.1=some p.2/\H p.1=none/\p.1≠X.env.locals/\p.1∉X.fs/\∀v,p.2.data≠.cell v
 hok:HOk X.prog X.w H s.heap
 len:σ.length=X.N.length
section
variable{X:Cx}{pins:List (Addr×Obj)}{σ:List (Option V)}{H H':Hp}{s:Shared}{h':Heap}
theorem Cx.Ok.RM (ok:X.Ok){b:Addr}{o:Obj}(e:X.base.get? b=some o):b∉X.fs:=λhb=>by
 have:=(ok.ly.mem hb).1;rw[e]at this;cases this
theorem Inv.bs (I:Inv X pins σ H s):∀b o,X.base.get? b=some o->s.heap.get? b=some o/\H b=none:=λb o e =>
 ⟨I.base.keep b o (I.ok.bs b o e).1 (I.ok.bs b o e).2 (I.ok.RM e) (I.ok.wq b o e),I.base.free b o (I.ok.bs b o e).1 (I.ok.bs b o e).2 (I.ok.wq b o e)⟩
theorem Inv.bk (I:Inv X pins σ H s):∀b o,X.base.get? b=some o->s.heap.get? b=some o:=λb o e=>(I.bs b o e).1
theorem Inv.mod (I:Inv X pins σ H s):Mod X.K X.mg X.base:=I.ok.mod
theorem Inv.kIn (I:Inv X pins σ H s):X.K.In s.heap:=I.ok.mod.kin.keeps I.bk
theorem Inv.nolimit (I:Inv X pins σ H s):s.heap.NoLimit:=I.ok.mod.nolimit.keeps I.bk
theorem Inv.fr (I:Inv X pins σ H s):∃m,Fr X.base X.env.locals s.heap m :=
 let ⟨m,hn,_⟩:=I.loc
 ⟨m,hn,I.bk,ra I.ok.bsz I.ok.above⟩
theorem Inv.lt (I:Inv X pins σ H s):X.env.locals < s.heap.objs.size:=let ⟨_,hn,_⟩:=I.loc;hn.lt
theorem Inv.sz (I:Inv X pins σ H s):X.s₀.heap.objs.size<=s.heap.objs.size:=ra I.ok.above (Nat.le_of_lt I.lt)
theorem Inv.RN (I:Inv X pins σ H s){a:Addr}(h:s.heap.objs.size<=a):a∉X.fs:=λhb=>by
 obtain⟨_,o,ho,_⟩:=I.ok.ly.mem hb;exact absurd (Th (ku ho) (ra I.sz h)) (Vl _)
theorem Inv.cne (I:Inv X pins σ H s):∀x c,X.env.cells.lookup x=some c->c≠X.env.locals:=λx c e z=>by
 obtain⟨v,o,ho,hd⟩:=I.cell x c e;obtain⟨m,⟨o',es,ep,ho',hd',_⟩,_⟩:=I.loc;rw[z,ho']at ho;cases ho;rw[hd']at hd;cases hd
theorem Inv.ly (I:Inv X pins σ H s):s.heap.FunFrames X.base X.outer:=by
 have all:∀(l:List Env),(∀b∈frs l,b∈X.fs)->X.s₀.heap.FunFrames X.base l->s.heap.FunFrames X.base l:=by
  intro l
  induction l with
  |nil=>intro _ _;trivial
  |cons env r ih =>
   intro hs hl;obtain⟨hk,⟨L,o,hf,hn,ho,hd⟩,hr⟩:=hl;have hL:L∈X.fs:=hs L (by unfold frs;rw[List.filterMap_cons,hf];exact gc)
   obtain⟨sl,e⟩:=I.base.slot L o ho (I.ok.frf L hL) hL λz=>I.ok.wu L z hL
   exact⟨hk,⟨L,_,hf,hn,e,hd⟩,ih (λb hb=>hs b (by unfold frs;rw[List.filterMap_cons,hf];exact kf _ hb)) hr⟩
 exact all X.outer (λ_ hb=>hb) I.ok.ly
theorem Inv.stack (I:Inv X pins σ H s):s.heap.FunFrames X.base X.stack:=by
 rcases I.ok.stk with e | ⟨e,hf⟩
 ·rw[e];exact I.ly
 ·rw[e];obtain⟨m,hn,_⟩:=I.loc;refine .cons (by rw[I.ok.kind];decide) hf hn ?_ I.ly
  exact Heap.get?_none_of_le (ra I.ok.bsz I.ok.above)
theorem Inv.xg (I:Inv X pins σ H s):∀b∈frs X.stack,b∈X.env.locals::X.fs:=λb hb=>by
 rcases I.ok.stk with e | ⟨e,hf⟩
 ·rw[e]at hb;exact kf _ hb
 ·rw[e]at hb;unfold frs at hb;rw[List.filterMap_cons,hf]at hb;exact hb
theorem Inv.wV (I:Inv X pins σ H s):∀b∈frs X.stack,H b=none:=λb hb=>by
 rcases List.mem_cons.mp (I.xg b hb) with e | hb
 ·rw[e];exact I.free
 ·obtain⟨_,o,ho,_⟩:=I.ok.ly.mem hb;exact I.base.free b o ho (I.ok.frf b hb) λz=>I.ok.wu b z hb
theorem Inv.step {g':Array GenState}{t':Nat}{d':Drawn}{ch:List Addr}(I:Inv X pins σ H s)
  (hch:∀b∈ch,(b∈X.ex\/X.s₀.heap.objs.size<=b)/\b≠X.env.locals/\(∀x c,X.env.cells.lookup x=some c->c≠b)/\∀p∈X.pn++pins,p.1≠b)
  (keep:∀b o,b≠X.env.locals->b∉X.fs->b∉ch->s.heap.get? b=some o->H b=none->h'.get? b=some o)
  (slot:∀b o,b≠X.env.locals->b∈X.fs->b∉ch->s.heap.get? b=some o->H b=none->∃sl,h'.get? b=some { o with slots:=sl }) (free:∀b o,b∉ch->s.heap.get? b=some o->H b=none->H' b=none)
  (there:∀b o,b∉ch->s.heap.get? b=some o->∃o',h'.get? b=some o')
  (qR:∀b xs,H b=some (.tup xs)->H' b=some (.tup xs)) (nQ:∀b o u,H b=some (.frz o u)->H' b=some (.frz o u)) (qS:∀b ps,H b=some (.tbl ps)->∃more,H' b=some (.tbl (ps++more)))
  (ns:∀m,s.heap.Ns X.env.locals m->h'.Ns X.env.locals m) (hok:HOk X.prog X.w H' h') (hg:AllBare g') :
  Inv X pins σ H' { s with heap:=h',gens:=g',drawn:=d',toks:=t' }:=by
 have neL:∀b o,X.s₀.heap.get? b=some o->b≠X.env.locals:=λb o e=>Tf (Th (ku e) I.ok.above)
 have neC:∀b o,X.s₀.heap.get? b=some o->b∉X.ex->b∉ch:=λb o e hx hb=>by
  rcases (hch b hb).1 with z | z
  ·exact hx z
  ·exact absurd (Th (ku e) z) (Vl _)
 have cellK:∀x c,X.env.cells.lookup x=some c->∀v,s.heap.IsCell c v->h'.IsCell c v:=λx c e v ⟨o,ho,hd⟩=>by
  have nch:c∉ch:=λz=>(hch c z).2.2.1 x c e rfl
  by_cases hc:c∈X.fs
  ·obtain⟨sl,q⟩:=slot c o (I.cne x c e) hc nch ho (I.fS x c e);exact⟨_,q,hd⟩
  ·exact⟨o,keep c o (I.cne x c e) hc nch ho (I.fS x c e),hd⟩
 refine⟨I.ok,I.os,hg,⟨λb o e n hb hx=>?_,λb o e n hb hx=>?_,λb o e n hx=>?_,λb o e hx=>?_,λb xs e=>qR b xs (I.base.qR b xs e),λb o xs e=>nQ b o xs (I.base.nQ b o xs e),λb ps e=>?_⟩,?_,λx c e=>?_,?_,λx c e=>?_,λp hp=>?_,hok,I.len⟩
 ·exact keep b o (neL b o e) hb (neC b o e hx) (I.base.keep b o e n hb hx) (I.base.free b o e n hx)
 ·obtain⟨sl,e1⟩:=I.base.slot b o e n hb hx;obtain⟨sl',e2⟩:=slot b _ (neL b o e) hb (neC b o e hx) e1 (I.base.free b o e n hx);exact⟨sl',e2⟩
 ·obtain⟨o',e1⟩:=I.base.there b o e hx;exact free b o' (neC b o e hx) e1 (I.base.free b o e n hx)
 ·obtain⟨o',e1⟩:=I.base.there b o e hx;exact there b o' (neC b o e hx) e1
 ·obtain⟨m1,e1⟩:=I.base.qS b ps e;obtain⟨m2,e2⟩:=qS b _ e1;exact⟨m1++m2,by rw[e2,Array.append_assoc]⟩
 ·obtain⟨m,hn,hl⟩:=I.loc;refine⟨m,ns m hn,λi x v e1 e2 e3=>?_⟩
  obtain⟨u,r,l⟩:=hl i x v e1 e2 e3;refine⟨u,r,?_⟩;rcases l with l | ⟨k,c,e,z⟩
  ·exact .inl l
  ·exact .inr ⟨k,c,e,cellK x c e _ z⟩
 ·obtain⟨v,z⟩:=I.cell x c e;exact⟨v,cellK x c e v z⟩
 ·obtain⟨m,⟨o,_,_,ho,_⟩,_⟩:=I.loc;exact free _ o (λz=>(hch _ z).2.1 rfl) ho I.free
 ·obtain⟨v,o,ho,hd⟩:=I.cell x c e;exact free c o (λz=>(hch c z).2.2.1 x c e rfl) ho (I.fS x c e)
 ·obtain⟨e,n,ne,nf,d⟩:=I.pin p hp;have nch:p.1∉ch:=λz=>(hch p.1 z).2.2.2 p hp rfl
  exact⟨keep p.1 p.2 ne nf nch e n,free p.1 p.2 nch e n,ne,nf,d⟩
theorem Inv.un {t':Nat}(I:Inv X pins σ H s)(u:Un X.fs [] H H' s.heap h')(hok:HOk X.prog X.w H' h'):Inv X pins σ H' { s with heap:=h',toks:=t' }:=by
 obtain⟨m,⟨o,es,ep,ho,r⟩,_⟩:=id I.loc;obtain⟨sl,hL⟩:=u.any ho I.free (by simp)
 exact I.step (g':=s.gens) (d':=s.drawn) (ch:=[]) (λ_ z=>nomatch z) (λb o _ hb _ e n=>u.keep b o e n hb (by simp)) (λb o _ hb _ e n=>u.slot b o e n hb (by simp)) (λb o _ e n=>u.free b o e n (by simp)) (λb o _ e=>u.there b o e (by simp)) u.qR u.nQ u.qS (λm' hm=>by
  obtain⟨o',es',ep',ho',r'⟩:=hm;rw[ho]at ho';cases ho';exact⟨_,es',ep',hL,r'⟩) hok I.bare
theorem Inv.call {g':Array GenState}{t':Nat}{d':Drawn}{ch:List Addr}(I:Inv X pins σ H s)(u:Un (frs X.stack) ch H H' s.heap h')(hok:HOk X.prog X.w H' h')(hg:AllBare g')
  (hch:∀b∈ch,(b∈X.ex\/X.s₀.heap.objs.size<=b)/\b≠X.env.locals/\(∀x c,X.env.cells.lookup x=some c->c≠b)/\∀p∈X.pn++pins,p.1≠b) :
  Inv X pins σ H' { s with heap:=h',gens:=g',drawn:=d',toks:=t' }:=by
 obtain⟨m,⟨o,es,ep,ho,r⟩,_⟩:=id I.loc;obtain⟨sl,hL⟩:=u.any ho I.free λz=>(hch _ z).2.1 rfl
 exact I.step (ch:=ch) hch (λb o hL hb hc e n=>u.keep b o e n (λz=>(List.mem_cons.mp (I.xg b z)).elim hL hb) hc) (λb o _ _ hc e n=>u.any e n hc) (λb o hc e n=>u.free b o e n hc) (λb o hc e=>u.there b o e hc) u.qR u.nQ u.qS (λm' hm=>by
  obtain⟨o',es',ep',ho',r'⟩:=hm;rw[ho]at ho';cases ho';exact⟨_,es',ep',hL,r'⟩) hok hg
theorem Inv.turned {t':Nat}{it:Addr}(I:Inv X pins σ H s)(k:∀b o,b≠it->s.heap.get? b=some o->h'.get? b=some o)(hn:H it=none)(hL:it≠X.env.locals)
  (h1:it∈X.ex\/X.s₀.heap.objs.size<=it) (h2:∀x c,X.env.cells.lookup x=some c->c≠it) (h3:∀p∈X.pn++pins,p.1≠it):Inv X pins σ H { s with heap:=h',toks:=t' }:=by
 have nit:∀b u,H b=some u->b≠it:=λb u e z=>by rw[z,hn]at e;cases e
 refine I.step (g':=s.gens) (d':=s.drawn) (ch:=[it]) (λb hb=>?_) (λb o _ _ hc e _=>k b o (λz=>hc (by simp[z])) e) (λb o _ _ hc e _=>⟨o.slots,k b o (λz=>hc (by simp[z])) e⟩) (λ_ _ _ _ n=>n)
  (λb o hc e=>⟨o,k b o (λz=>hc (by simp[z])) e⟩) (λ_ _ e=>e) (λ_ _ _ e=>e) (λb ps e=>⟨#[],by rw[e];simp⟩) (λm hm=>?_) (λb u e=>?_) I.bare
 ·have e:b=it:=by simpa using hb
  subst e;exact⟨h1,hL,h2,h3⟩
 ·obtain⟨o,es,ep,ho,r⟩:=hm;exact⟨o,es,ep,k _ o (Tr hL) ho,r⟩
 ·refine(I.hok b u e).wm (λc v hc q=>k c v ?_ q) (λ_ q=>q) λ_ _ q=>q
  rcases hc with z | z
  ·rw[z];exact nit b u e
  ·exact nit c _ z
theorem Inv.tok (I:Inv X pins σ H s)(t:Nat):Inv X pins σ H { s with toks:=t }:=I.un (h':=s.heap) (t':=t) Un.refl I.hok
theorem Inv.kept {t':Nat}(I:Inv X pins σ H s)(k:∀b u,s.heap.get? b=some u->h'.get? b=some u):Inv X pins σ H { s with heap:=h',toks:=t' }:=I.un (Un.kept k) (I.hok.kept k)
theorem Inv.laid {a:Addr}{o:HO}{t':Nat}(I:Inv X pins σ H s)(k:∀b u,s.heap.get? b=some u->h'.get? b=some u)(hp:s.heap.objs.size<=a)(new:cf X.prog X.w (upd H a o) h' a o) :
  Inv X pins σ (upd H a o) { s with heap:=h',toks:=t' }:=I.un (Un.laid k hp (I.hok.fresh hp)) (I.hok.laid k hp new)
theorem Inv.write {x e:Addr}{o:HO}{t':Nat}(I:Inv X pins σ H s)(mu:Mut (H x))(he:e=x\/H e=some (.own x))(k:∀b u,b≠e->s.heap.get? b=some u->h'.get? b=some u)(heo:∃u,h'.get? e=some u)
  (new:cf X.prog X.w (upd H x o) h' x o):Inv X pins σ (upd H x o) { s with heap:=h',toks:=t' }:=I.un (Un.write mu he k heo) (I.hok.write mu he k heo new)
theorem Inv.weak {σ':List (Option V)}(I:Inv X pins σ H s)(hl:σ'.length=σ.length)(w:∀(i:Nat) v,σ'[i]?=some (some v)->σ[i]?=some (some v)):Inv X pins σ' H s :=
 ⟨I.ok,I.os,I.bare,I.base,let ⟨m,hn,hl'⟩:=I.loc;⟨m,hn,λi x v e1 e2 e3=>hl' i x v e1 (w i v e2) e3⟩,I.cell,I.free,I.fS,I.pin,I.hok,hl.trans I.len⟩
theorem Inv.rO {MR:List (Addr×Obj)}(I:Inv X pins σ H s)(h:∀p∈MR,s.heap.get? p.1=some p.2/\H p.1=none/\p.1≠X.env.locals/\p.1∉X.fs/\∀v,p.2.data≠.cell v):Inv X MR σ H s :=
 ⟨I.ok,I.os,I.bare,I.base,I.loc,I.cell,I.free,I.fS,λp hp=>(List.mem_append.mp hp).elim (λz=>I.pin p (TL _ z)) (h p),I.hok,I.len⟩
theorem xh {N:List Str}(hN:N.Nodup){i j:Nat}{x:Str}(a:N[i]?=some x)(b:N[j]?=some x):i=j:=by
 obtain⟨h1,e1⟩:=List.getElem?_eq_some_iff.mp a;obtain⟨h2,e2⟩:=List.getElem?_eq_some_iff.mp b;exact(List.getElem_inj hN).mp (e1.trans e2.symm)
theorem GP {M:Model}{A:Around}{E:Value->Shared->Prop}{i:Nat}{x:Str}{v:V}{u:Value}{Q:Unit->Shared->Prop}(I:Inv X pins σ H s)(hN:X.N.Nodup)(hi:X.N[i]?=some x)(hx:Loc X.env.scope x)(r:RelV v u)
  (h:∀s',Inv X pins (σ.set i (some v)) H s'->(∃a,Heap.SameBut a s.heap s'.heap/\(a=X.env.locals\/X.env.cells.lookup x=some a))->Q () s') (hf:X.fn x=true\/X.env.scope.names.lookup x=some .local:=by first | exact .inl rfl | exact .inr rfl | assumption):wpAny M A (storeName X.env x u) Q E s:=by
 obtain⟨m,hn,hl⟩:=id I.loc;have RO:(X.env.scope.kind == .class || (X.env.scope.kind == .module && X.env.locals != X.env.globals))=false:=by rw[I.ok.kind];rfl
 have hiσ:i < σ.length:=by rw[I.len];exact(List.getElem?_eq_some_iff.mp hi).1
 have cne:=I.cne;have tracked:∀ {a:Addr} {h':Heap},(∃o,s.heap.get? a=some o/\H a=none)->Heap.SameBut a s.heap h'->HOk X.prog X.w H h':=λ{a h'} ha hs b ob e=>by
  obtain⟨_,_,MS⟩:=ha;refine(I.hok b ob e).wm (λc w' hc q=>(hs.2 c ?_).trans q) (λ_ q=>q) λ_ _ q=>q
  rintro rfl;rcases hc with rfl | hc
  ·rw[MS]at e;cases e
  ·rw[MS]at hc;cases hc
 rcases hx with hk | hk
 ·refine wpAny_storeName_local hk hn (λh' hn' hs=>?_) RO
  obtain⟨oL,_,_,hoL,_⟩:=id hn;refine h _ ⟨I.ok,I.os,I.bare,⟨λb o e n hb hx=>?_,λb o e n hb hx=>?_,I.base.free,λb o e hx=>?_,I.base.qR,I.base.nQ,I.base.qS⟩,⟨_,hn',λj y v' e1 e2 e3=>?_⟩,λy c e=>?_,I.free,I.fS,λp hp=>?_,tracked ⟨oL,hoL,I.free⟩ hs,by simpa using I.len⟩ ⟨_,hs,.inl rfl⟩
  ·exact(hs.2 b (Tf (Th (ku e) I.ok.above))).trans (I.base.keep b o e n hb hx)
  ·obtain⟨sl,e1⟩:=I.base.slot b o e n hb hx;exact⟨sl,(hs.2 b (Tf (Th (ku e) I.ok.above))).trans e1⟩
  ·obtain⟨o',e1⟩:=I.base.there b o e hx;exact⟨o',(hs.2 b (Tf (Th (ku e) I.ok.above))).trans e1⟩
  ·by_cases hj:j=i
   ·subst hj;rw[hi]at e1;cases e1;rw[List.getElem?_set_self hiσ]at e2;cases e2;exact⟨u,r,.inl ⟨hk,by simp⟩⟩
   ·rw[List.getElem?_set_ne (Tr hj)]at e2;obtain⟨u',r',q⟩:=hl j y v' e1 e2 e3;refine⟨u',r',?_⟩;rcases q with ⟨k,e⟩ | ⟨k,c,e,z⟩
    ·refine .inl ⟨k,?_⟩;have:y≠x:=λe=>hj (xh hN e1 (e▸hi))
     simp[this,e]
    ·exact .inr ⟨k,c,e,z.sameBut hs (cne y c e)⟩
  ·obtain⟨w',z⟩:=I.cell y c e;exact⟨w',z.sameBut hs (cne y c e)⟩
  ·obtain⟨e,n,ne,nf,d⟩:=I.pin p hp;exact⟨(hs.2 p.1 ne).trans e,n,ne,nf,d⟩
 ·have hfn:X.fn x=true:=by
   rcases hf with z | z
   ·exact z
   ·rw[z]at hk;cases hk
  obtain⟨c,hc⟩:=I.ok.has x (.inl hk);obtain⟨w',z⟩:=I.cell x c hc;refine wpAny_storeName_cell I.ok.kind hk hc z (λh' hc' hs=>?_)
  obtain⟨oc,hoc,RP⟩:=id z;refine h { s with heap:=h' } ⟨I.ok,I.os,I.bare,⟨λb o e n hb hx=>?_,λb o e n hb hx=>?_,I.base.free,λb o e hx=>?_,I.base.qR,I.base.nQ,I.base.qS⟩,⟨m,hn.sameBut hs (Tr (cne x c hc)),λj y v' e1 e2 e3=>?_⟩,λy c' e=>?_,I.free,I.fS,λp hp=>?_,tracked ⟨oc,hoc,I.fS x c hc⟩ hs,by simpa using I.len⟩ ⟨c,hs,.inr hc⟩
  ·exact(hs.2 b (Tf (Th (ku e) (I.ok.cab x c hfn hc)))).trans (I.base.keep b o e n hb hx)
  ·obtain⟨sl,e1⟩:=I.base.slot b o e n hb hx;exact⟨sl,(hs.2 b (Tf (Th (ku e) (I.ok.cab x c hfn hc)))).trans e1⟩
  ·obtain⟨o',e1⟩:=I.base.there b o e hx;exact⟨o',(hs.2 b (Tf (Th (ku e) (I.ok.cab x c hfn hc)))).trans e1⟩
  ·by_cases hj:j=i
   ·subst hj;rw[hi]at e1;cases e1;rw[List.getElem?_set_self hiσ]at e2;cases e2;exact⟨u,r,.inr ⟨.inl hk,c,hc,hc'⟩⟩
   ·rw[List.getElem?_set_ne (Tr hj)]at e2;obtain⟨u',r',q⟩:=hl j y v' e1 e2 e3;refine⟨u',r',?_⟩;rcases q with q | ⟨k,c',e,z'⟩
    ·exact .inl q
    ·refine .inr ⟨k,c',e,z'.sameBut hs ?_⟩;rintro rfl;exact hj (xh hN e1 (I.ok.inj _ _ _ e hc▸hi))
  ·by_cases hcc:c'=c
   ·subst hcc;exact⟨_,hc'⟩
   ·obtain⟨w2,z2⟩:=I.cell y c' e;exact⟨w2,z2.sameBut hs hcc⟩
  ·obtain⟨e,n,ne,nf,d⟩:=I.pin p hp;refine⟨(hs.2 p.1 ?_).trans e,n,ne,nf,d⟩;intro q;rw[q,hoc]at e;have q':oc=p.2:=om e;exact d w' (by rw[<-q'];exact RP)
theorem lz {M:Model}{A:Around}{E:Value->Shared->Prop}{i:Nat}{x:Str}{v:V}{u:Value}{Q:Unit->Shared->Prop}(I:Inv X pins σ H s)(hN:X.N.Nodup)(hi:X.N[i]?=some x)(hx:Loc X.env.scope x)(r:RelV v u)
  (h:∀s',Inv X pins (σ.set i (some v)) H s'->Q () s') (hf:X.fn x=true\/X.env.scope.names.lookup x=some .local:=by first | exact .inl rfl | exact .inr rfl | assumption):wpAny M A (storeName X.env x u) Q E s :=
 GP I hN hi hx r (λs' I' _=>h s' I') hf
theorem Inv.FG {s':Shared}{ch:List Addr}(I:Inv X pins σ H s)(ho:s'.os=s.os)(u:Un (frs X.stack) ch H H' s.heap s'.heap)(hok:HOk X.prog X.w H' s'.heap)(hg:AllBare s'.gens)
  (hch:∀b∈ch,(b∈X.ex\/X.s₀.heap.objs.size<=b)/\b≠X.env.locals/\(∀x c,X.env.cells.lookup x=some c->c≠b)/\∀p∈X.pn++pins,p.1≠b):Inv X pins σ H' s':=by
 obtain⟨h',g',d',t',o'⟩:=s';have e:o'=s.os:=ho;subst e;exact I.call (g':=g') (t':=t') (d':=d') u hok hg hch
end
abbrev XK:=Value->Option Addr->Hp->Prop
abbrev St:=List (Option V)
abbrev VK:=V->Hp->Prop
abbrev TE:=St->Hp->VK->Prop
abbrev TT:=St->Hp->(Bool->Hp->Prop)->Prop
abbrev TA:=St->Hp->(List V->Hp->Prop)->Prop
structure Ends where
 nx:St->Hp->Prop
 rt:VK
 bk:St->Hp->Prop:=λ_ _=>False
 ct:St->Hp->Prop:=λ_ _=>False
abbrev TS:=Ends->St->Hp->Prop
def EP (X:Cx)(pins:List (Addr×Obj))(σ:St)(Q:VK)(u:Value)(s':Shared):Prop:=∃v H',Inv X pins σ H' s'/\RelV v u/\Q v H'
def TP (X:Cx)(pins:List (Addr×Obj))(σ:St)(Q:Bool->Hp->Prop)(b:Bool)(s':Shared):Prop:=∃H',Inv X pins σ H' s'/\Q b H'
def AP (X:Cx)(pins:List (Addr×Obj))(σ:St)(Q:List V->Hp->Prop)(us:List Value)(s':Shared):Prop:=∃vs H',Inv X pins σ H' s'/\Vals vs us/\Q vs H'
def SP (X:Cx)(pins:List (Addr×Obj))(D:Ends)(f:Flow)(s':Shared):Prop :=
 match f with
 | .next=>∃σ' H',Inv X pins σ' H' s'/\D.nx σ' H'
 | .brk=>∃σ' H',Inv X pins σ' H' s'/\D.bk σ' H'
 | .cont=>∃σ' H',Inv X pins σ' H' s'/\D.ct σ' H'
 | .ret u=>∃v σ' H',Inv X pins σ' H' s'/\RelV v u/\D.rt v H'
def PE (X:Cx)(e:Expr)(t:TE):Prop :=
 ∀(pins:List (Addr×Obj)) (s:Shared) (σ:St) (H:Hp) (Q:VK),Inv X pins σ H s->t σ H Q->wpAny (model X.prog X.w) X.A (eval e X.env) (EP X pins σ Q) X.xe s
def PT (X:Cx)(e:Expr)(t:TT):Prop :=
 ∀(pins:List (Addr×Obj)) (s:Shared) (σ:St) (H:Hp) (Q:Bool->Hp->Prop),Inv X pins σ H s->t σ H Q->wpAny (model X.prog X.w) X.A (isTrue e X.env (eval e X.env)) (TP X pins σ Q) X.xe s
def PW (X:Cx)(e:Expr)(t:TT):Prop :=
 ∀(whole:Sem Value) (pins:List (Addr×Obj)) (s:Shared) (σ:St) (H:Hp) (Q:Bool->Hp->Prop),Inv X pins σ H s->t σ H Q->wpAny (model X.prog X.w) X.A (isTrue e X.env whole) (TP X pins σ Q) X.xe s
theorem PW.pt {X:Cx}{e:Expr}{t:TT}(h:PW X e t):PT X e t:=h _
def PA (X:Cx)(es:List Expr)(t:TA):Prop :=
 ∀(pos:Pos) (pins:List (Addr×Obj)) (s:Shared) (σ:St) (H:Hp) (Q:List V->Hp->Prop),Inv X pins σ H s->t σ H Q->wpAny (model X.prog X.w) X.A (spliced (backTo pos (Td es X.env))) (AP X pins σ Q) X.xe s
def PS (X:Cx)(st:Stmt)(t:TS):Prop :=
 ∀(pins:List (Addr×Obj)) (s:Shared) (σ:St) (H:Hp) (D:Ends),Inv X pins σ H s->t D σ H->wpAny (model X.prog X.w) X.A (exec st X.env) (SP X pins D) X.xe s
def PSs (X:Cx)(st:List Stmt)(t:TS):Prop :=
 ∀(pins:List (Addr×Obj)) (s:Shared) (σ:St) (H:Hp) (D:Ends),Inv X pins σ H s->t D σ H->wpAny (model X.prog X.w) X.A (execs st X.env) (SP X pins D) X.xe s
theorem thn {α:Type}{t:Sem α}{Q Q':α->Shared->Prop}{M:Model}{A:Around}{E:Value->Shared->Prop}{s:Shared}(h:wpAny M A t Q E s)(hQ:∀a s,Q a s->Q' a s):wpAny M A t Q' E s:=kq h hQ λ_ _ x=>x
section
variable{X:Cx}
theorem bin {a b:Expr}{ta tb:TE}(ha:PE X a ta)(hb:PE X b tb){pins:List (Addr×Obj)}{s:Shared}{σ:St}{H:Hp}{R:V->V->Hp->Prop}(I:Inv X pins σ H s)(h:ta σ H λx H1=>tb σ H1 λy H2=>R x y H2)
  {α:Type} {Q:α->Shared->Prop} {f:Value->Value->Sem α}
  (hf:∀v u s2 x y H2,Inv X pins σ H2 s2->RelV x v->RelV y u->R x y H2->wpAny (model X.prog X.w) X.A (f v u) Q X.xe s2) :
  wpAny (model X.prog X.w) X.A (eval a X.env) (λv s₁=>wpAny (model X.prog X.w) X.A (eval b X.env) (λu s₂=>wpAny (model X.prog X.w) X.A (f v u) Q X.xe s₂) X.xe s₁) X.xe s:=by
 refine thn (ha pins s σ H _ I h) λv s1 ⟨x,H1,I1,r1,q1⟩=>?_
 refine thn (hb pins s1 σ H1 _ I1 q1) λu s2 ⟨y,H2,I2,r2,q2⟩=>?_
 exact hf v u s2 x y H2 I2 r1 r2 q2
def PY (i:Nat):TE:=λσ H Q=>∃v,σ[i]?=some (some v)/\Q v H
def tC (v:V):TE:=λ_ H Q=>Q v H
theorem Nz {i:Nat}{x:Str}{pos:Pos}(hN:X.N[i]?=some x)(hv:Vis X.env.scope x)(hd:(x == ("__debug__":Str))=false:=by decide)(hcd:(x == ("__classdict__":Str))=false:=by decide):PE X (.Name x pos) (PY i):=by
 intro pins s σ H Q I h;obtain⟨v,e,h⟩:=h;obtain⟨m,hn,hl⟩:=I.loc;obtain⟨u,r,l⟩:=hl i x v hN e hv;have fin:EP X pins σ Q u s:=⟨v,H,I,r,h⟩;rcases l with ⟨hk,hm⟩ | ⟨hk,c,hc,iP⟩
 ·exact wpAny_Name (wpAny_loadName_local I.ok.kind hk hn hm fin) hd
 ·rcases hk with hk | hk
  ·exact wpAny_Name (wpAny_loadName_cell I.ok.kind hk hc iP fin) hd
  ·exact wpAny_Name (wpAny_loadName_free I.ok.kind hk hc iP fin hcd) hd
theorem aj {i j pos}:PE X (.Constant (.int i) j pos) (tC (.int i)):=λ_ _ _ H _ I h=>wpAny_Constant_int ⟨.int i,H,I.tok _,⟨_,rfl⟩,h⟩
theorem ni {b j pos}:PE X (.Constant (.bool b) j pos) (tC (.bl b)):=λ_ _ _ H _ I h=>Constant_bool ⟨.bl b,H,I,rfl,h⟩
theorem uf {j pos}:PE X (.Constant .none j pos) (tC .non):=λ_ _ _ H _ I h=>Constant_none ⟨.non,H,I,rfl,h⟩
theorem aw {x j pos}:PE X (.Constant (.str x) j pos) (tC (.str x)):=λ_ _ _ H _ I h=>Calls.Constant_str ⟨.str x,H,I.tok _,⟨_,rfl⟩,h⟩
def Gl (X:Cx)(x:Str):Prop:=X.env.kindOf x=some .globalImplicit
theorem fU {E:Value->Shared->Prop}{pins:List (Addr×Obj)}{s:Shared}{σ:St}{H:Hp}{x:Str}{u:Value}{pos:Pos}{Q:Value->Shared->Prop}(I:Inv X pins σ H s)(hg:Gl X x)(hm:X.mg x=some u)(h:Q u s)
  (hd:(x == ("__debug__":Str))=false:=by decide):wpAny (model X.prog X.w) X.A (eval (.Name x pos) X.env) Q E s :=
 Calls.Name_function_global I.ok.kind hg (Calls.loadGlobal_global (by rw[I.ok.glob];exact I.mod.glob.keeps I.bk) hm h) hd
theorem xj {E:Value->Shared->Prop}{pins:List (Addr×Obj)}{s:Shared}{σ:St}{H:Hp}{x:Str}{u:Value}{pos:Pos}{Q:Value->Shared->Prop}(I:Inv X pins σ H s)(hg:Gl X x)(hm:X.mg x=none)(hv:T6 x=some u)(h:Q u s)
  (hn:x≠"__name__":=by decide) (hd:(x == ("__debug__":Str))=false:=by decide):wpAny (model X.prog X.w) X.A (eval (.Name x pos) X.env) Q E s:=by
 obtain⟨mb,h1,h2⟩:=I.mod.blt;exact Calls.Name_function_global I.ok.kind hg (Calls.loadGlobal_builtin (by rw[I.ok.glob];exact I.mod.glob.keeps I.bk) hm (by rw[I.ok.blt];exact h1.keeps I.bk) ((h2 x hn).trans hv) h) hd
theorem hJ {x:Str}{v:V}{u:Value}{pos:Pos}(hg:Gl X x)(hm:X.mg x=some u)(r:RelV v u)(hd:(x == ("__debug__":Str))=false:=by decide):PE X (.Name x pos) (tC v) :=
 λ_ _ _ H _ I h=>fU I hg hm ⟨v,H,I,r,h⟩ hd
theorem FH {x:Str}{v:V}{u:Value}{pos:Pos}(hg:Gl X x)(hm:X.mg x=none)(hv:T6 x=some u)(r:RelV v u)(hn:x≠"__name__":=by decide)(hd:(x == ("__debug__":Str))=false:=by decide):PE X (.Name x pos) (tC v) :=
 λ_ _ _ H _ I h=>xj I hg hm hv ⟨v,H,I,r,h⟩ hn hd
variable{a b:Expr}{ta tb:TE}{pos:Pos}
def PC (X:Cx)(op:CmpOp)(a b:Expr)(t:TE):Prop :=
 ∀(pins:List (Addr×Obj)) (s:Shared) (σ:St) (H:Hp) (Q:VK),Inv X pins σ H s->t σ H Q ->
  wpAny (model X.prog X.w) X.A (eval a X.env) (λv s₁=>wpAny (model X.prog X.w) X.A (eval b X.env) (λu s₂=>wpAny (model X.prog X.w) X.A (Uq op v u) (EP X pins σ Q) X.xe s₂) X.xe s₁) X.xe s
theorem Iz (b:Expr){op:CmpOp}(h:op≠.In)(h2:op≠.NotIn):behindInMarks op b=false:=by
 have e1:(op == CmpOp.In)=false:=by cases op <;> first | rfl | exact absurd rfl h
 have e2:(op == CmpOp.NotIn)=false:=by cases op <;> first | rfl | exact absurd rfl h2
 cases b <;> simp[behindInMarks,e1,e2]
def tB (t:TE):TT:=λσ H Q=>t σ H λx H1=>∃c,x=.bl c/\Q c H1
theorem Ei {op:CmpOp}{t:TE}(h:PC X op a b t)(h1:behindInMarks op b=false:=by first | exact Iz _ (by decide) (by decide) | rfl):PT X (.Compare a [op] [b] pos) (tB t):=by
 intro pins s σ H Q I hw;refine wpAny_isTrue_Compare1 (thn (h pins s σ H _ I hw) λv s1 h1=>thn h1 λu s2 h2=>thn h2 λc s3 ⟨x,H1,I1,r1,q1⟩=>?_) h1
 obtain⟨d,rfl,q⟩:=q1;cases r1;exact wpAny_truthy_bool ⟨H1,I1,q⟩
theorem kL {e:Expr}{t:TE}(h:PE X e t)(he:∀whole,isTrue e X.env whole=(do let v <-whole;standAt e.pos;holding [v] (truthy v)):=by intro _;rfl):PT X e (tB t):=by
 intro pins s σ H Q I hw;refine isTrue_plain (thn (h pins s σ H _ I hw) λv s1 ⟨x,H1,I1,r1,q1⟩=>?_) (he _)
 obtain⟨d,rfl,q⟩:=q1;cases r1;exact wpAny_truthy_bool ⟨H1,I1,q⟩
variable{tA tB':TT}{rest:List Expr}
def RQ (t u:TT):TT:=λσ H Q=>t σ H λc H1=>if c=true then u σ H1 Q else Q false H1
def tOr (t u:TT):TT:=λσ H Q=>t σ H λc H1=>if c=true then Q true H1 else u σ H1 Q
def RS (t:TT):TT:=λσ H Q=>t σ H λc H1=>Q (!c) H1
theorem pw_and1 (ha:PT X a tA):PW X (.BoolOp .And [a] pos) tA:=by
 intro wh pins s σ H Q I h;refine isTrue_and (thn (ha pins s σ H Q I h) λc s1 e=>?_)
 cases c with
 |true=>exact isTrue_and_nil e
 |false=>exact e
theorem pw_or1 (ha:PT X a tA):PW X (.BoolOp .Or [a] pos) tA:=by
 intro wh pins s σ H Q I h;refine isTrue_or (thn (ha pins s σ H Q I h) λc s1 e=>?_)
 cases c with
 |false=>exact isTrue_or_nil e
 |true=>exact e
theorem pw_and (ha:PT X a tA)(hb:PW X (.BoolOp .And (b::rest) pos) tB'):PW X (.BoolOp .And (a::b::rest) pos) (RQ tA tB'):=by
 intro wh pins s σ H Q I h;refine isTrue_and (thn (ha pins s σ H _ I h) λc s1 ⟨H1,I1,q1⟩=>?_)
 cases c with
 |true=>exact hb wh pins s1 σ H1 Q I1 q1
 |false=>exact⟨H1,I1,q1⟩
theorem pw_or (ha:PT X a tA)(hb:PW X (.BoolOp .Or (b::rest) pos) tB'):PW X (.BoolOp .Or (a::b::rest) pos) (tOr tA tB'):=by
 intro wh pins s σ H Q I h;refine isTrue_or (thn (ha pins s σ H _ I h) λc s1 ⟨H1,I1,q1⟩=>?_)
 cases c with
 |true=>exact⟨H1,I1,q1⟩
 |false=>exact hb wh pins s1 σ H1 Q I1 q1
theorem kM (ha:PT X a tA):PT X (.UnaryOp .Not a pos) (RS tA):=by
 intro pins s σ H Q I h;exact isTrue_not (ha pins s σ H (λc H1=>Q (!c) H1) I h)
def PZ (ta tb:TE):TE:=λσ H Q=>ta σ H λx H1=>∃c,x=.bl c/\if c=true then tb σ H1 Q else Q (.bl false) H1
def RT (ta tb:TE):TE:=λσ H Q=>ta σ H λx H1=>∃c,x=.bl c/\if c=true then Q (.bl true) H1 else tb σ H1 Q
def P0 (ta:TE):TE:=λσ H Q=>ta σ H λx H1=>∃c,x=.bl c/\Q (.bl (!c)) H1
theorem gI {op}{t:TE}(h:PE X a t):PE X (.BoolOp op [a] pos) t:=λpins s σ H Q I hw=>BoolOp_one (h pins s σ H Q I hw)
theorem iA (ha:PE X a ta)(hb:PE X (.BoolOp .And (b::rest) pos) tb):PE X (.BoolOp .And (a::b::rest) pos) (PZ ta tb):=by
 intro pins s σ H Q I h;refine BoolOp_and (thn (ha pins s σ H _ I h) λv s1 ⟨x,H1,I1,r1,q1⟩=>?_)
 obtain⟨c,rfl,q1⟩:=q1;cases r1;refine wpAny_truthy_bool ?_;cases c with
 |true=>exact hb pins s1 σ H1 Q I1 q1
 |false=>exact⟨.bl false,H1,I1,rfl,q1⟩
theorem IA (ha:PE X a ta)(hb:PE X (.BoolOp .Or (b::rest) pos) tb):PE X (.BoolOp .Or (a::b::rest) pos) (RT ta tb):=by
 intro pins s σ H Q I h;refine BoolOp_or (thn (ha pins s σ H _ I h) λv s1 ⟨x,H1,I1,r1,q1⟩=>?_)
 obtain⟨c,rfl,q1⟩:=q1;cases r1;refine wpAny_truthy_bool ?_;cases c with
 |false=>exact hb pins s1 σ H1 Q I1 q1
 |true=>exact⟨.bl true,H1,I1,rfl,q1⟩
theorem NA (ha:PE X a ta):PE X (.UnaryOp .Not a pos) (P0 ta):=by
 intro pins s σ H Q I h;refine UnaryOp_ (thn (ha pins s σ H _ I h) λv s1 ⟨x,H1,I1,r1,q1⟩=>?_)
 obtain⟨c,rfl,q1⟩:=q1;cases r1;exact not_of (wpAny_truthy_bool ⟨.bl (!c),H1,I1,rfl,q1⟩)
def tIf (t:TT)(ta tb:TE):TE:=λσ H Q=>t σ H λc H1=>if c=true then ta σ H1 Q else tb σ H1 Q
theorem CD {c:Expr}(hc:PT X c tA)(ha:PE X a ta)(hb:PE X b tb):PE X (.IfExp c a b pos) (tIf tA ta tb):=by
 intro pins s σ H Q I h;refine wpAny_IfExp (thn (hc pins s σ H _ I h) λd s1 ⟨H1,I1,q1⟩=>?_)
 cases d with
 |true=>exact ha pins s1 σ H1 Q I1 q1
 |false=>exact hb pins s1 σ H1 Q I1 q1
end
def SqL (K:ba)(H:Hp)(a:Addr)(xs:List V):Prop :=
 Rd H a (.lst xs) \/
  ∃(o:Obj) (its:Array Value) (n:Nat),K.lookup a=some o/\o.cls=.type "list"/\o.dict=none/\o.data=.seq its n/\its.size<=eg/\Vals xs its.toList
def SqT (K:ba)(H:Hp)(a:Addr)(xs:List V):Prop :=
 Rd H a (.tup xs) \/
  ∃(o:Obj) (its:Array Value) (n:Nat),K.lookup a=some o/\o.cls=.type "tuple"/\o.data=.seq its n/\its.size<=eg/\Vals xs its.toList
def RU:Value->Option V
 | .none=>some .non
 | .bool b=>some (.bl b)
 | .int i _=>some (.int i)
 | .str x _=>some (.str x)
 | .bytes b _=>some (.byt b)
 | .float b _=>some (.flt b)
 | .ref a=>some (.ref a)
 | .type n=>some (.ty n)
 |_=>none
theorem RelV.abs {x:V}{u:Value}(r:RelV x u):RU u=some x:=by
 cases x with
 |non=>cases r;rfl
 |bl _=>cases r;rfl
 |int _=>obtain⟨t,rfl⟩:=r;rfl
 |str _=>obtain⟨t,rfl⟩:=r;rfl
 |byt _=>obtain⟨t,rfl⟩:=r;rfl
 |flt _=>obtain⟨t,rfl⟩:=r;rfl
 |ref _=>cases r;rfl
 |ty _=>cases r;rfl
theorem RelV.inj {x y:V}{u:Value}(r:RelV x u)(q:RelV y u):x=y:=om (r.abs.symm.trans q.abs)
theorem Vals.inj:∀ {xs ys:List V} {us:List Value},Vals xs us->Vals ys us->xs=ys
 |_,_,_,.nil,.nil=>rfl
 |_,_,_,.cons r t,.cons r' t'=>by rw[r.inj r',Vals.inj t t']
section
variable{X:Cx}{pins:List (Addr×Obj)}{σ:St}{H:Hp}{s:Shared}{a:Addr}{xs ys:List V}
theorem SqL.of {K:ba}(h:H a=some (.lst xs)):SqL K H a xs:=.inl (.inl h)
theorem SqT.of {K:ba}(h:H a=some (.tup xs)):SqT K H a xs:=.inl (.inl h)
theorem Inv.list (I:Inv X pins σ H s)(h:SqL X.K H a xs):∃its:List Value,Vals xs its/\PlainL s.heap a its.toArray/\xs.length<=eg:=by
 rcases h with h | ⟨o,its,n,hk,hc,hd,hs,hz,r⟩
 ·obtain⟨z,its,n,r,e⟩:=h.ok I.hok;exact⟨its,r,⟨_,n,e,rfl,rfl,rfl⟩,z⟩
 ·refine⟨its.toList,r,⟨o,n,I.kIn a o hk,hc,hd,by simpa using hs⟩,?_⟩
  have e:=r.length;simp only[Array.length_toList]at e;omega
theorem Inv.tuple (I:Inv X pins σ H s)(h:SqT X.K H a xs):∃its:List Value,Vals xs its/\IsTup s.heap a its.toArray/\xs.length<=eg:=by
 rcases h with h | ⟨o,its,n,hk,hc,hs,hz,r⟩
 ·obtain⟨z,its,r,p⟩:=h.ok I.hok;exact⟨its,r,p,z⟩
 ·refine⟨its.toList,r,⟨o,I.kIn a o hk,hc,n,by simpa using hs⟩,?_⟩
  have e:=r.length;simp only[Array.length_toList]at e;omega
theorem Inv.CF (I:Inv X pins σ H s)(h:SqL X.K H a xs)(h':SqL X.K H a ys):xs=ys:=by
 obtain⟨its,r,⟨o,n,e,_,_,d⟩,_⟩:=I.list h;obtain⟨its',r',⟨o',n',e',_,_,d'⟩,_⟩:=I.list h';rw[e]at e';cases e';rw[d]at d';injection d' with d1 _
 have:its=its':=by simpa using congrArg Array.toList d1
 subst this;exact r.inj r'
theorem Inv.GQ (I:Inv X pins σ H s)(h:SqT X.K H a xs)(h':SqT X.K H a ys):xs=ys:=by
 obtain⟨its,r,⟨o,e,_,n,d⟩,_⟩:=I.tuple h;obtain⟨its',r',⟨o',e',_,n',d'⟩,_⟩:=I.tuple h';rw[e]at e';cases e';rw[d]at d';injection d' with d1 _
 have:its=its':=by simpa using congrArg Array.toList d1
 subst this;exact r.inj r'
end
abbrev Cx.iB (X:Cx)(E:Value->Shared->Prop):Cx:={ X with xe:=E }
abbrev Cx.nox (X:Cx):Cx:=X.iB λ_ _=>False
theorem Cx.Ok.iB {X:Cx}(ok:X.Ok)(E:Value->Shared->Prop):(X.iB E).Ok :=
 ⟨ok.mod,ok.kind,ok.glob,ok.blt,ok.above,ok.inj,ok.has,ok.cab,ok.hd,ok.frames,ok.stk,ok.exf,ok.bs,ok.bsz,ok.wq,ok.wu,ok.ly,ok.frf⟩
theorem Cx.Ok.cB {X:Cx}{E:Value->Shared->Prop}(ok:(X.iB E).Ok):X.Ok :=
 ⟨ok.mod,ok.kind,ok.glob,ok.blt,ok.above,ok.inj,ok.has,ok.cab,ok.hd,ok.frames,ok.stk,ok.exf,ok.bs,ok.bsz,ok.wq,ok.wu,ok.ly,ok.frf⟩
section
variable{X:Cx}{pins:List (Addr×Obj)}{σ:St}{H:Hp}{s:Shared}{E:Value->Shared->Prop}
theorem Inv.iB (I:Inv X pins σ H s)(E:Value->Shared->Prop):Inv (X.iB E) pins σ H s:=⟨I.ok.iB E,I.os,I.bare,I.base,I.loc,I.cell,I.free,I.fS,I.pin,I.hok,I.len⟩
theorem Inv.cB (I:Inv (X.iB E) pins σ H s):Inv X pins σ H s:=⟨I.ok.cB,I.os,I.bare,I.base,I.loc,I.cell,I.free,I.fS,I.pin,I.hok,I.len⟩
theorem SP.cB {D:Ends}{f:Flow}{s':Shared}(h:SP (X.iB E) pins D f s'):SP X pins D f s':=by
 cases f with
 |next=>obtain⟨σ',H',I,q⟩:=h;exact⟨σ',H',I.cB,q⟩
 |brk=>obtain⟨σ',H',I,q⟩:=h;exact⟨σ',H',I.cB,q⟩
 |cont=>obtain⟨σ',H',I,q⟩:=h;exact⟨σ',H',I.cB,q⟩
 |ret u=>obtain⟨v,σ',H',I,r,q⟩:=h;exact⟨v,σ',H',I.cB,r,q⟩
theorem PE.nox {e:Expr}{t:TE}(h:PE X.nox e t):PE X e t:=λpins s σ H Q I hw =>
 kq (h pins s σ H Q (I.iB _) hw) (λ_ _ ⟨v,H',I',r,q⟩=>⟨v,H',I'.cB,r,q⟩) λ_ _ z=>Tq z
theorem PT.nox {e:Expr}{t:TT}(h:PT X.nox e t):PT X e t:=λpins s σ H Q I hw =>
 kq (h pins s σ H Q (I.iB _) hw) (λ_ _ ⟨H',I',q⟩=>⟨H',I'.cB,q⟩) λ_ _ z=>Tq z
theorem PSs.nox {st:List Stmt}{t:TS}(h:PSs X.nox st t):PSs X st t:=λpins s σ H D I hw =>
 kq (h pins s σ H D (I.iB _) hw) (λ_ _ q=>q.cB) λ_ _ z=>Tq z
end
section
variable{X:Cx}{st:Stmt}{rest:List Stmt}{t u:TS}{e:Expr}{te:TE}{pos:Pos}
def FI:TS:=λD σ H=>D.nx σ H
def P1 (t u:TS):TS:=λD σ H=>t { D with nx:=u D } σ H
theorem aO:PSs X [] FI:=λ_ _ σ H _ I h=>wpAny_execs_nil ⟨σ,H,I,h⟩
theorem ak (h1:PS X st t)(h2:PSs X rest u):PSs X (st::rest) (P1 t u):=by
 intro pins s σ H D I h;refine wpAny_execs_cons (thn (h1 pins s σ H { D with nx:=u D } I h) λf s1 q=>?_)
 cases f with
 |next =>
  obtain⟨σ',H',I',q⟩:=q;exact h2 pins s1 σ' H' D I' q
 |ret v=>exact q
 |brk=>exact q
 |cont=>exact q
theorem ai (h1:PS X st t):PSs X [st] t:=by
 intro pins s σ H D I h;refine wpAny_execs_cons (thn (h1 pins s σ H D I h) λf s1 q=>?_)
 cases f with
 |next=>exact wpAny_execs_nil q
 |ret v=>exact q
 |brk=>exact q
 |cont=>exact q
theorem Inv.quiet {pins:List (Addr×Obj)}{σ:St}{H:Hp}{s:Shared}(I:Inv X pins σ H s):interactive X.env=false:=by simp[interactive,I.ok.kind]
def P2 (te:TE):TS:=λD σ H=>te σ H λ_ H1=>D.nx σ H1
theorem bF (he:PE X e te)(hs:swapsWith e none pos.line X.env=pure false:=by rfl):PS X (.Expr e pos) (P2 te):=by
 intro pins s σ H D I h;exact wpAny_Expr_any (thn (he pins s σ H _ I h) λv s1 ⟨x,H1,I1,r1,q1⟩=>⟨σ,H1,I1,q1⟩) I.quiet hs
def RV (te:TE):TS:=λD σ H=>te σ H D.rt
theorem aB (he:PE X e te):PS X (.Return (some e) pos) (RV te):=by
 intro pins s σ H D I h;exact wpAny_Return_some (thn (he pins s σ H _ I h) λv s1 ⟨x,H1,I1,r1,q1⟩=>⟨x,σ,H1,I1,r1,q1⟩)
def RW (c:TT)(t u:TS):TS:=λD σ H=>c σ H λb H1=>if b=true then t D σ H1 else u D σ H1
theorem bE {c:Expr}{a b:List Stmt}{tc:TT}(hc:PT X c tc)(ha:PSs X a t)(hb:PSs X b u):PS X (.If c a b pos) (RW tc t u):=by
 intro pins s σ H D I h;refine wpAny_If (thn (hc pins s σ H _ I h) λd s1 ⟨H1,I1,q1⟩=>?_)
 cases d with
 |true=>exact ha pins s1 σ H1 D I1 q1
 |false=>exact hb pins s1 σ H1 D I1 q1
end
abbrev TG:=V->St->Hp->(St->Hp->Prop)->Prop
abbrev TGs:=List V->St->Hp->(St->Hp->Prop)->Prop
def PG (X:Cx)(target:Expr)(t:TG):Prop :=
 ∀(pins:List (Addr×Obj)) (s:Shared) (σ:St) (H:Hp) (v:V) (u:Value) (Q:St->Hp->Prop),Inv X pins σ H s->RelV v u->t v σ H Q ->
  wpAny (model X.prog X.w) X.A (assign target X.env u) (λ_ s'=>∃σ' H',Inv X pins σ' H' s'/\Q σ' H') X.xe s
def PGs (X:Cx)(ts:List Expr)(t:TGs):Prop :=
 ∀(pins:List (Addr×Obj)) (s:Shared) (σ:St) (H:Hp) (vs:List V) (us:List Value) (Q:St->Hp->Prop),Inv X pins σ H s->Vals vs us->t vs σ H Q ->
  wpAny (model X.prog X.w) X.A (assignInOrder ((assignEach ts X.env).map (·.2)) us) (λ_ s'=>∃σ' H',Inv X pins σ' H' s'/\Q σ' H') X.xe s
abbrev NB:=V->V->V->Hp->(Hp->Prop)->Prop
def P4 (X:Cx)(t:NB):Prop :=
 ∀(pins:List (Addr×Obj)) (s:Shared) (σ:St) (H:Hp) (o i v:V) (ov iv u:Value) (Q:Hp->Prop),Inv X pins σ H s->RelV o ov->RelV i iv->RelV v u->t o i v H Q ->
  wpAny (model X.prog X.w) X.A (setItem ov iv u) (λ_ s'=>∃H',Inv X pins σ H' s'/\Q H') X.xe s
section
variable{X:Cx}{pos:Pos}
def cX (i:Nat):TG:=λv σ H Q=>Q (σ.set i (some v)) H
theorem dI {i:Nat}{x:Str}(hN:X.N.Nodup)(hi:X.N[i]?=some x)(hx:Loc X.env.scope x)(hf:X.fn x=true\/X.env.scope.names.lookup x=some .local:=by first | exact .inl rfl | exact .inr rfl | assumption):PG X (.Name x pos) (cX i):=by
 intro pins s σ H v u Q I r h;exact wpAny_assign_Name (lz I hN hi hx r (λs' I'=>⟨_,H,I',h⟩) hf)
def RX:TGs:=λvs σ H Q=>vs=[]/\Q σ H
def P5 (t:TG)(u:TGs):TGs:=λvs σ H Q=>∃v r,vs=v::r/\t v σ H λσ' H'=>u r σ' H' Q
theorem Bb:PGs X [] RX:=by
 intro pins s σ H vs us Q I r h;obtain⟨e,h⟩:=h;subst e;cases r;exact assignInOrder_nil ⟨σ,H,I,h⟩
theorem lA {e:Expr}{es:List Expr}{t:TG}{u:TGs}(h1:PG X e t)(h2:PGs X es u)
  (hs:(assignEach (e::es) X.env).map (·.2)=assign e X.env::(assignEach es X.env).map (·.2):=by rfl):PGs X (e::es) (P5 t u):=by
 intro pins s σ H vs us Q I r h;obtain⟨v,vr,e1,h⟩:=h;subst e1;cases r with
 |cons r rr =>
  rw[hs];refine assignInOrder_cons (thn (h1 pins s σ H _ _ _ I r h) λ_ s1 ⟨σ1,H1,I1,q1⟩=>?_)
  exact h2 pins s1 σ1 H1 _ _ Q I1 rr q1
def RY (K:ba)(n:Nat)(t:TGs):TG:=λv σ H Q=>∃a xs,v=.ref a/\SqT K H a xs/\xs.length=n/\t xs σ H Q
theorem Ej {es:List Expr}{k:Nat}{t:TGs}{n:Nat}(hc:X.calm=true)(h:PGs X es t)
  (hn:(assignEach es X.env).length=n:=by rfl) (hst:(assignEach es X.env).findIdx? (·.1)=none:=by rfl):PG X (.Tuple es k pos) (RY X.K n t):=by
 intro pins s σ H v u Q I r hw;obtain⟨a,xs,e1,hq,hl,hw⟩:=hw;subst e1;cases r;obtain⟨its,rv,ht,hz⟩:=I.tuple hq;refine assign_Tuple_tuple (I.ok.hd hc) ht (by simp[hn,<-hl,rv.length]) hst λh' hx=>?_
 have I1:Inv X pins σ H { s with heap:=h' }:=I.kept (t':=s.toks) λb o e=>hx b o (Tf (ku e)) e
 exact h pins _ σ H xs _ Q I1 (by simpa using rv) hw
def RZ (to ti:TE)(t:NB):TG:=λv σ H Q=>to σ H λo H1=>ti σ H1 λi H2=>t o i v H2 λH3=>Q σ H3
theorem NC {o i:Expr}{to ti:TE}{t:NB}(ho:PE X o to)(hi:PE X i ti)(hs:P4 X t)
  (ha:∀v,assign (.Subscript o i pos) X.env v=(do
   let ov <-holding [v] (eval o X.env)
   let iv <-holding [v,ov] (eval i X.env)
   standAt pos
   holding [v,ov,iv] (setItem ov iv v)
   release [v,ov,iv] []):=by intro _;rfl):PG X (.Subscript o i pos) (RZ to ti t):=by
 intro pins s σ H v u Q I r h;rw[ha];refine de (TR (thn (ho pins s σ H _ I h) λov s1 ⟨x,H1,I1,r1,q1⟩=>?_))
 refine de (TR (thn (hi pins s1 σ H1 _ I1 q1) λiv s2 ⟨y,H2,I2,r2,q2⟩=>?_))
 refine de (T3 (de (TR (thn (hs pins s2 σ H2 x y v ov iv u _ I2 r1 r2 r q2) λ_ s3 ⟨H3,I3,q3⟩=>?_))))
 exact wpAny_release ⟨σ,H3,I3,q3⟩
def ND (te:TE)(g:TG):TS:=λD σ H=>te σ H λx H1=>g x σ H1 D.nx
theorem Ek {tg e:Expr}{te:TE}{g:TG}(he:PE X e te)(hg:PG X tg g)(hs:swapsWithSole [tg] e pos.line X.env=pure false:=by rfl)(hw:swappedStores [tg] e X.env=pure none:=by rfl)
  (h1:(assignEach [tg] X.env).map (·.2)=[assign tg X.env]:=by rfl):PS X (.Assign [tg] e pos) (ND te g):=by
 intro pins s σ H D I h;refine wpAny_Assign_stores (thn (he pins s σ H _ I h) λv s1 ⟨x,H1,I1,r1,q1⟩=>?_) hs hw
 rw[h1];exact thn (hg pins s1 σ H1 x v _ I1 r1 q1) λ_ s2 q=>q
theorem aY {i:Nat}{x:Str}{e:Expr}{te:TE}{pos':Pos}(hN:X.N.Nodup)(hi:X.N[i]?=some x)(hx:Loc X.env.scope x)(he:PE X e te)(hs:swapsWith e (some (.Name x pos')) pos.line X.env=pure false:=by rfl)(hf:X.fn x=true\/X.env.scope.names.lookup x=some .local:=by first | exact .inl rfl | exact .inr rfl | assumption) :
  PS X (.Assign [.Name x pos'] e pos) (ND te (cX i)):=by
 intro pins s σ H D I h;refine wpAny_Assign_Name (thn (he pins s σ H _ I h) λv s1 ⟨y,H1,I1,r1,q1⟩=>?_) hs
 exact lz I1 hN hi hx r1 (λs2 I2=>⟨_,H1,I2,q1⟩) hf
end
structure It where
 go:Nat->Hp->Prop
 yld:Nat->Hp->V->Hp->Prop
 stop:Nat->Hp->Prop
def dG (X:Cx)(pins:List (Addr×Obj))(H:Hp)(b:Addr):Prop :=
 H b=none/\b≠X.env.locals/\b∉X.fs/\(b∈X.ex\/X.s₀.heap.objs.size<=b)/\(∀x c,X.env.cells.lookup x=some c->c≠b)/\∀p∈X.pn++pins,p.1≠b
theorem Inv.rP {X:Cx}{pins:List (Addr×Obj)}{σ:St}{H H':Hp}{s:Shared}{b:Addr}(I:Inv X pins σ H s)(hb:s.heap.objs.size<=b)(hn:H' b=none):dG X pins H' b:=by
 refine⟨hn,Nat.ne_of_gt (Th I.lt hb),I.RN hb,.inr (ra I.sz hb),λx c e z=>?_,λp hp z=>?_⟩
 ·obtain⟨v,q⟩:=I.cell x c e;exact absurd (Th q.lt (by rw[z];exact hb)) (Vl _)
 ·exact absurd (Th (ku (I.pin p hp).1) (by rw[z];exact hb)) (Vl _)
structure Turn (P:km)(w:World)(K:ba)(tg:Expr)(J:It)(fp:List Addr)(it:Addr)(tn:Nat->Heap->Prop):Prop where
 mem:it∈fp
 obj:∀i h,tn i h->∀b∈fp,∃o,h.get? b=some o/\∀v,o.data≠.cell v
 keep:∀i h h',tn i h->(∀b∈fp,∀o,h.get? b=some o->h'.get? b=some o)->tn i h'
 item:∀(X:Cx),X.prog=P->X.w=w->X.K=K->X.calm=true->∀(i:Nat) (pins:List (Addr×Obj)) (s:Shared) (σ:St) (H:Hp) (E:Value->Shared->Prop),Inv X pins σ H s->(∀b∈fp,dG X pins H b)->tn i s.heap->J.go i H ->
  wpAny (model P w) X.A (pyNext (.ref it)) (λr s1=>∃u,r=some u /\
   wpAny (model P w) X.A (letOwnedTupleGo tg (.ref it) u) (λ_ s2=>∃x H',Inv X pins σ H' s2/\RelV x u/\J.yld i H x H'/\tn (i+1) s2.heap/\∀b∈fp,H' b=none) E s1) E s
 done:∀(X:Cx),X.prog=P->X.w=w->X.K=K->X.calm=true->∀(i:Nat) (pins:List (Addr×Obj)) (s:Shared) (σ:St) (H:Hp) (E:Value->Shared->Prop),Inv X pins σ H s->(∀b∈fp,dG X pins H b)->tn i s.heap->J.stop i H ->
  wpAny (model P w) X.A (pyNext (.ref it)) (λr s1=>r=none/\Inv X pins σ H s1) E s
 self:∀(A:Around) (i:Nat) (s:Shared) (Q:Value->Shared->Prop) (E:Value->Shared->Prop),tn i s.heap->Q (.ref it) s->wpAny (model P w) A (pyIter (.ref it)) Q E s
abbrev TI:=St->Hp->(It->Hp->Prop)->Prop
def PIE (X:Cx)(pins:List (Addr×Obj))(σ:St)(tg:Expr)(R:It->Hp->Prop)(itv:Value)(s2:Shared):Prop :=
 ∃(it:Addr) (fp:List Addr) (tn:Nat->Heap->Prop) (J:It) (H':Hp),itv=.ref it/\Inv X pins σ H' s2/\Turn X.prog X.w X.K tg J fp it tn/\tn 0 s2.heap/\(∀b∈fp,dG X pins H' b)/\R J H'
def PI (X:Cx)(tg iter:Expr)(wi:TI):Prop :=
 ∀(pins:List (Addr×Obj)) (s:Shared) (σ:St) (H:Hp) (R:It->Hp->Prop),Inv X pins σ H s->wi σ H R ->
  wpAny (model X.prog X.w) X.A (eval iter X.env) (λv s1=>wpAny (model X.prog X.w) X.A (pyIter v) (PIE X pins σ tg R) X.xe s1) X.xe s
theorem Ac {M:Model}{A:Around}{E:Value->Shared->Prop}{s:Shared}{tg:Expr}{it:Addr}{u:Value}{o:Obj}{n:String}{vs:Array Value}{Q:Unit->Shared->Prop}(ho:s.heap.get? it=some o)(hc:o.cls=.type n)(hd:o.data=.fields vs)
    (hn:["enumerate","zip","dict_itemiterator","dict_reverseitemiterator","odict_iterator","itertools.zip_longest","itertools.pairwise"].contains n=false) (hQ:Q () s):wpAny M A (letOwnedTupleGo tg (.ref it) u) Q E s:=by
  unfold letOwnedTupleGo
  cases tg <;> first
    |exact kj hQ
    | (cases u <;> first
        |exact kj hQ
        | (refine de (wpAny_load ho ?_)
           rw[hc,hd]
           show wpAny M A (if (["enumerate","zip","dict_itemiterator","dict_reverseitemiterator","odict_iterator","itertools.zip_longest","itertools.pairwise"].contains n && vs[0]? == some (rawInt _))=true then _ else _) Q E s
           rw[if_neg (by intro h;rw[hn,Bool.false_and]at h;cases h)]
           exact kj hQ))
def Itl (K:ba)(a:Addr):It :=
 ⟨λi H=>∃xs x,SqL K H a xs/\xs[i]?=some x,λi H x H'=>H'=H/\∀xs,SqL K H a xs->xs[i]?=some x,λi H=>∃xs,SqL K H a xs/\xs.length<=i⟩
def Itt (K:ba)(a:Addr):It :=
 ⟨λi H=>∃xs x,SqT K H a xs/\xs[i]?=some x,λi H x H'=>H'=H/\∀xs,SqT K H a xs->xs[i]?=some x,λi H=>∃xs,SqT K H a xs/\xs.length<=i⟩
def Itr (lo:Int)(n:Nat):It:=⟨λi _=>i < n,λi H x H'=>H'=H/\x=.int (lo+i),λi _=>n<=i⟩
theorem GR {P:km}{w:World}{K:ba}{tg:Expr}(a it:Addr):Turn P w K tg (Itl K a) [it] it (λi h=>h.IsListIter it a i) where
 mem:=by simp
 obj:=λi h st b hb=>by
  have e:b=it:=by simpa using hb
  subst e;obtain⟨o,e,c,d⟩:=st;exact⟨o,e,λv z=>by rw[d]at z;cases z⟩
 keep:=λi h h' st k=>st.at λo e=>k it (by simp) o e
 item:=by
  intro X hP hw hK hc i pins s σ H E I hf st hg;subst hP hw hK;obtain⟨xs,x,hq,hx⟩:=hg;obtain⟨its,rv,p,hz⟩:=I.list hq;obtain⟨u,hu,ru⟩:=rv.get hx;obtain⟨f0,f1,f2,f3,f4,f5⟩:=hf it (by simp)
  refine wpAny_pyNext_list_item st p.isList (x:=u) (by simpa using hu) λh' st' sb=>?_
  have I1:Inv X pins σ H { s with heap:=h' }:=I.turned (t':=s.toks) (λb o hb e=>(sb.2 b hb).trans e) f0 f1 f3 f4 f5
  obtain⟨o,e,c,d⟩:=id st';exact⟨u,rfl,Ac (s:={ s with heap:=h' }) e c d (by decide) ⟨x,H,I1,ru,⟨rfl,λys hy=>by rw[I.CF hy hq];exact hx⟩,st',λb hb=>(hf b hb).1⟩⟩
 done:=by
  intro X hP hw hK hc i pins s σ H E I hf st hg;subst hP hw hK;obtain⟨xs,hq,hx⟩:=hg;obtain⟨its,rv,p,hz⟩:=I.list hq;obtain⟨f0,f1,f2,f3,f4,f5⟩:=hf it (by simp)
  have hl:=rv.length;exact wpAny_pyNext_list_end (I.ok.hd hc) st p.isList (by simp;omega) λh' eb=>⟨rfl,I.turned (t':=s.toks) (λb o hb e=>eb b o hb e) f0 f1 f3 f4 f5⟩
 self:=λ_ _ _ _ _ st h=>wpAny_pyIter_listiter st h
theorem El {P:km}{w:World}{K:ba}{tg:Expr}(a it:Addr):Turn P w K tg (Itt K a) [it] it (λi h=>h.IsTupleIter it a i) where
 mem:=by simp
 obj:=λi h st b hb=>by
  have e:b=it:=by simpa using hb
  subst e;obtain⟨o,e,c,d⟩:=st;exact⟨o,e,λv z=>by rw[d]at z;cases z⟩
 keep:=λi h h' st k=>st.at λo e=>k it (by simp) o e
 item:=by
  intro X hP hw hK hc i pins s σ H E I hf st hg;subst hP hw hK;obtain⟨xs,x,hq,hx⟩:=hg;obtain⟨its,rv,p,hz⟩:=I.tuple hq;obtain⟨u,hu,ru⟩:=rv.get hx;obtain⟨f0,f1,f2,f3,f4,f5⟩:=hf it (by simp)
  refine wpAny_pyNext_tuple_item st (show s.heap.IsTuple a its.toArray from p) (x:=u) (by simpa using hu) λh' st' sb=>?_
  have I1:Inv X pins σ H { s with heap:=h' }:=I.turned (t':=s.toks) (λb o hb e=>(sb.2 b hb).trans e) f0 f1 f3 f4 f5
  obtain⟨o,e,c,d⟩:=id st';exact⟨u,rfl,Ac (s:={ s with heap:=h' }) e c d (by decide) ⟨x,H,I1,ru,⟨rfl,λys hy=>by rw[I.GQ hy hq];exact hx⟩,st',λb hb=>(hf b hb).1⟩⟩
 done:=by
  intro X hP hw hK hc i pins s σ H E I hf st hg;subst hP hw hK;obtain⟨xs,hq,hx⟩:=hg;obtain⟨its,rv,p,hz⟩:=I.tuple hq;obtain⟨f0,f1,f2,f3,f4,f5⟩:=hf it (by simp)
  have hl:=rv.length;exact wpAny_pyNext_tuple_end (I.ok.hd hc) st (show s.heap.IsTuple a its.toArray from p) (by simp;omega) λh' eb=>⟨rfl,I.turned (t':=s.toks) (λb o hb e=>eb b o hb e) f0 f1 f3 f4 f5⟩
 self:=λ_ _ _ _ _ st h=>wpAny_pyIter_tupleiter st h
theorem Em {P:km}{w:World}{K:ba}{tg:Expr}(it:Addr)(lo:Int)(n:Nat):Turn P w K tg (Itr lo n) [it] it (λi h=>IsRangeIter h it (lo+(i:Nat) * 1) ((n:Int) - (i:Nat)) 1) where
 mem:=by simp
 obj:=λi h st b hb=>by
  have e:b=it:=by simpa using hb
  subst e;exact⟨_,st,λv z=>by
   have z':Data.fields _=Data.cell v:=z;cases z'⟩
 keep:=λi h h' st k=>k it (by simp) _ st
 item:=by
  intro X hP hw hK hc i pins s σ H E I hf st hg;subst hP hw hK;obtain⟨f0,f1,f2,f3,f4,f5⟩:=hf it (by simp)
  have W:=Walks.range (prog:=X.prog) (w:=X.w) (I.ok.hd hc) it lo 1 n;refine W.item i s _ _ hg st λv h' tk hv st' kk=>?_
  obtain⟨t,rfl⟩:=hv;have I1:Inv X pins σ H { s with heap:=h',toks:=tk }:=I.turned (λb o hb e=>kk b o (by simpa using hb) e) f0 f1 f3 f4 f5
  refine⟨_,rfl,Ac (s:={ s with heap:=h',toks:=tk }) (n:="range_iterator") st' rfl rfl (by decide) ⟨.int (lo+i),H,I1,⟨t,?_⟩,⟨rfl,rfl⟩,st',λb hb=>(hf b hb).1⟩⟩
  rw[Int.mul_one]
 done:=by
  intro X hP hw hK hc i pins s σ H E I hf st hg;subst hP hw hK;obtain⟨f0,f1,f2,f3,f4,f5⟩:=hf it (by simp)
  exact wpAny_pyNext_range_end (I.ok.hd hc) st (by have:n<=i:=hg;omega) λh' eb=>⟨rfl,I.turned (t':=s.toks) (λb o hb e=>eb b o hb e) f0 f1 f3 f4 f5⟩
 self:=λ_ _ _ _ _ st h=>wpAny_pyIter_rangeiter st h
section
variable{X:Cx}{tg:Expr}
def P6 (K:ba)(tl:TE):TI:=λσ H R=>tl σ H λx H1=>∃a,x=.ref a/\(∃xs,SqL K H1 a xs)/\R (Itl K a) H1
def R0 (K:ba)(tl:TE):TI:=λσ H R=>tl σ H λx H1=>∃a,x=.ref a/\(∃xs,SqT K H1 a xs)/\R (Itt K a) H1
theorem hU {l:Expr}{tl:TE}(hl:PE X l tl):PI X tg l (P6 X.K tl):=by
 intro pins s σ H R I h;refine thn (hl pins s σ H _ I h) λv s1 ⟨x,H1,I1,r1,q1⟩=>?_
 obtain⟨a,e,⟨xs,hq⟩,q⟩:=q1;subst e;cases r1;obtain⟨its,rv,p,hz⟩:=I1.list hq;refine wpAny_pyIter_list p.isList ?_;refine⟨s1.heap.objs.size,[s1.heap.objs.size],_,_,H1,rfl,I1.kept (t':=s1.toks) λb o e=>fu _ e,GR a _,⟨_,tm _ rfl,rfl,rfl⟩,λb hb=>?_,q⟩
 have e:b=s1.heap.objs.size:=by simpa using hb
 subst e;exact I1.rP (kc _) (I1.hok.fresh (kc _))
theorem NF {l:Expr}{tl:TE}(hl:PE X l tl):PI X tg l (R0 X.K tl):=by
 intro pins s σ H R I h;refine thn (hl pins s σ H _ I h) λv s1 ⟨x,H1,I1,r1,q1⟩=>?_
 obtain⟨a,e,⟨xs,hq⟩,q⟩:=q1;subst e;cases r1;obtain⟨its,rv,p,hz⟩:=I1.tuple hq;refine wpAny_pyIter_tuple (show s1.heap.IsTuple a its.toArray from p) ?_
 refine⟨s1.heap.objs.size,[s1.heap.objs.size],_,_,H1,rfl,I1.kept (t':=s1.toks) λb o e=>fu _ e,El a _,⟨_,tm _ rfl,rfl,rfl⟩,λb hb=>?_,q⟩
 have e:b=s1.heap.objs.size:=by simpa using hb
 subst e;exact I1.rP (kc _) (I1.hok.fresh (kc _))
theorem IB {pins:List (Addr×Obj)}{σ:St}{H:Hp}{s:Shared}{R:It->Hp->Prop}{E:Value->Shared->Prop}{lo hi:Int}{t u v:Tok}{tk:Nat}(I:Inv X pins σ H s)(h1:-(2 ^ 62)<=lo)(h2:lo < 2 ^ 62)(h3:-(2 ^ 62)<=hi)(h4:hi < 2 ^ 62)
  (q:R (Itr lo (hi - lo).toNat) H):wpAny (model X.prog X.w) X.A (pyIter (.ref s.heap.objs.size)) (PIE X pins σ tg R) E { s with heap:=s.heap.push { cls:=.type "range",data:=.fields #[.int lo t,.int hi u,.int 1 v] },toks:=tk }:=by
 refine wpAny_pyIter_range (IsRange.new ..) (small_one h1 h2 h3 h4) ?_;have I1:Inv X pins σ H { s with heap:=s.heap.push { cls:=.type "range",data:=.fields #[.int lo t,.int hi u,.int 1 v] },toks:=tk }:=I.kept λb o e=>fu _ e
 refine⟨(s.heap.push { cls:=.type "range",data:=.fields #[.int lo t,.int hi u,.int 1 v] }).objs.size,[(s.heap.push { cls:=.type "range",data:=.fields #[.int lo t,.int hi u,.int 1 v] }).objs.size],_,_,H,rfl,
  I1.kept (t':=tk) λb o e=>fu _ e,Em _ lo (hi - lo).toNat,?_,λb hb=>?_,q⟩
 ·have e1:lo+((0:Nat):Int) * 1=lo:=by simp
  have e2:(((hi - lo).toNat:Nat):Int) - ((0:Nat):Int)=Builtin.Range.rangeSize lo hi 1:=by rw[rangeSize_one];split <;> omega
  show IsRangeIter _ _ (lo+((0:Nat):Int) * 1) ((((hi - lo).toNat:Nat):Int) - ((0:Nat):Int)) 1;rw[e1,e2];exact tm _ rfl
 ·have e:b=(s.heap.push { cls:=.type "range",data:=.fields #[.int lo t,.int hi u,.int 1 v] }).objs.size:=by simpa using hb
  subst e;exact I1.rP (kc _) (I1.hok.fresh (kc _))
def P7 (ta:TA):TI:=λσ H R=>ta σ H λvs H1=>∃j:Int,vs=[.int j]/\-(2 ^ 62)<=j/\j < 2 ^ 62/\R (Itr 0 j.toNat) H1
theorem lB {a:Expr}{ta:TA}{p pos:Pos}(hg:Gl X "range")(hm:X.mg "range"=none)(ha:PA X [a] ta)(hs:Td [a] X.env=[(false,eval a X.env)]:=by rfl):PI X tg (.Call (.Name "range" p) [a] [] pos) (P7 ta):=by
 intro pins s σ H R I h;refine Call_ (xj I hg hm boot_range (PyProof.Rows.callWith_type1 (thn (ha pos pins s σ H _ I h) λus s1 ⟨vs,H1,I1,r1,q1⟩=>?_) hs rfl))
 obtain⟨j,e,q1,q2,q⟩:=q1;subst e;cases r1 with
 |cons r rr =>
  cases rr;obtain⟨t,rfl⟩:=r;exact call_range_1 (IB I1 (by omega) (by omega) q1 q2 (by simpa using q))
def P8 (wi:TI)(g:TG)(tb:TS):TS:=λD σ H=>wi σ H λJ H1=>∃W:Nat->Nat->St->Hp->Prop,(∃m,W 0 m σ H1)/\∀i m σ H,W i m σ H ->
 (J.stop i H/\D.nx σ H)\/(J.go i H/\∃N:St->Hp->Prop,(∀σ' H',N σ' H'->∃m',m' < m/\W (i+1) m' σ' H')/\∀x H',J.yld i H x H'->g x σ H' λσ2 H2=>tb { D with nx:=N,ct:=N,bk:=D.nx } σ2 H2)
def xl (fp:List Addr)(h:Heap):List (Addr×Obj):=fp.filterMap λb=>(h.get? b).map λo=>(b,o)
theorem d8 {fp:List Addr}{h:Heap}{b:Addr}{o:Obj}(hb:b∈fp)(e:h.get? b=some o):(b,o)∈xl fp h:=List.mem_filterMap.mpr ⟨b,hb,by rw[e];rfl⟩
theorem GS {fp:List Addr}{h:Heap}{p:Addr×Obj}(hp:p∈xl fp h):p.1∈fp/\h.get? p.1=some p.2:=by
 obtain⟨b,hb,e⟩:=List.mem_filterMap.mp hp;cases q:h.get? b with
 |none=>rw[q]at e;cases e
 |some o =>
  rw[q]at e;have e':(b,o)=p:=om e;subst e';exact⟨hb,q⟩
theorem Inv.pinned {pins:List (Addr×Obj)}{σ:St}{H:Hp}{s:Shared}{fp:List Addr}(I:Inv X pins σ H s)(hf:∀b∈fp,dG X pins H b)(ho:∀b∈fp,∃o,s.heap.get? b=some o/\∀v,o.data≠.cell v):Inv X (pins++xl fp s.heap) σ H s :=
 I.rO λp hp=>(List.mem_append.mp hp).elim (λz=>I.pin p (gn _ z)) λz=>by
  obtain⟨hb,e⟩:=GS z;obtain⟨f0,f1,f2,_⟩:=hf p.1 hb;obtain⟨o,e',d⟩:=ho p.1 hb;rw[e]at e';cases e';exact⟨e,f0,f1,f2,d⟩
theorem Inv.cY {pins pl:List (Addr×Obj)}{σ:St}{H:Hp}{s:Shared}(I:Inv X (pins++pl) σ H s):Inv X pins σ H s:=I.rO λp hp=>I.pin p (gn _ (TL _ hp))
theorem ug {iter:Expr}{body:List Stmt}{wi:TI}{g:TG}{tb:TS}{pos:Pos}(hp:PassesOwn (model X.prog X.w) X.A X.env X.xe)(hc:X.calm=true)(hi:PI X tg iter wi)(hg:PG X tg g)(hb:PSs X body tb)
  (hs:∀x,foldedSetIterable iter X.env x=pure x:=by intro _;rfl):PS X (.For tg iter body [] pos) (P8 wi g tb):=by
 intro pins s σ H D I h;refine wpAny_For (thn (hi pins s σ H _ I h) λv s1 h1=>thn h1 λitv s2 h2=>?_) hs
 obtain⟨it,fp,tn,J,H2,e,I2,T,st2,f2,W,⟨m0,w0⟩,turn⟩:=h2;subst e;have stat:∀ {H':Hp},(∀b∈fp,H' b=none)->∀b∈fp,dG X pins H' b:=λhn b hb=>⟨hn b hb,(f2 b hb).2⟩
 refine codeAny_forLoop_any (λn s'=>∃i σ' H',Inv X pins σ' H' s'/\tn i s'.heap/\(∀b∈fp,H' b=none)/\W i n σ' H') ?_ m0 ⟨0,σ,H2,I2,st2,λb hb=>(f2 b hb).1,w0⟩
 rintro n s3 ⟨i,σ3,H3,I3,st3,fr3,w3⟩;rcases turn i n σ3 H3 w3 with ⟨stop,qn⟩ | ⟨go,N,hN,step⟩
 ·refine wpAny_passesOwn hp (thn (T.done X rfl rfl rfl hc i pins s3 σ3 H3 X.xe I3 (stat fr3) st3 stop) λr s4 ⟨hr,I4⟩=>?_)
  subst hr;exact wpAny_execs_nil ⟨σ3,H3,I4,qn⟩
 ·refine wpAny_passesOwn hp (thn (T.item X rfl rfl rfl hc i pins s3 σ3 H3 X.xe I3 (stat fr3) st3 go) λr s4 ⟨u,hr,h4⟩=>?_)
  subst hr;refine wpAny_passesOwn hp (thn h4 λ_ s5 ⟨x,H5,I5,r5,y5,st5,fr5⟩=>?_)
  have I5':=I5.pinned (stat fr5) (T.obj _ _ st5);refine wpAny_passesOwn hp (thn (hg _ s5 σ3 H5 x u _ I5' r5 (step x H5 y5)) λ_ s6 ⟨σ6,H6,I6,q6⟩=>?_)
  refine wpAny_passesOwn hp (thn (hb _ s6 σ6 H6 _ I6 q6) λf s7 q7=>?_)
  have again:∀ {σ7:St} {H7:Hp},Inv X (pins++xl fp s5.heap) σ7 H7 s7->N σ7 H7->∃m,m < n/\∃i σ' H',Inv X pins σ' H' s7/\tn i s7.heap/\(∀b∈fp,H' b=none)/\W i m σ' H':=λ{σ7 H7} I7 n7=>by
   obtain⟨m',hm,w7⟩:=hN σ7 H7 n7;refine⟨m',hm,i+1,σ7,H7,I7.cY,T.keep _ _ _ st5 λb hb o e=>(I7.pin (b,o) (gn _ (gn _ (d8 hb e)))).1,λb hb=>?_,w7⟩
   obtain⟨o,e,d⟩:=T.obj _ _ st5 b hb;exact(I7.pin (b,o) (gn _ (gn _ (d8 hb e)))).2.1
  cases f with
  |next=>obtain⟨σ7,H7,I7,n7⟩:=q7;exact again I7 n7
  |cont=>obtain⟨σ7,H7,I7,n7⟩:=q7;exact again I7 n7
  |brk=>obtain⟨σ7,H7,I7,q7⟩:=q7;exact⟨σ7,H7,I7.cY,q7⟩
  |ret v=>obtain⟨x7,σ7,H7,I7,r7,q7⟩:=q7;exact⟨x7,σ7,H7,I7.cY,r7,q7⟩
end
theorem rQ {K:ba}{a:Addr}{xs:List V}{g:TG}{tb:TS}{D:Ends}{σ:St}{H:Hp}(Pv:Nat->St->Hp->Prop)(h0:Pv 0 σ H)(hl:∀i σ H,i<=xs.length->Pv i σ H->SqL K H a xs)
  (hs:∀i x σ H,xs[i]?=some x->Pv i σ H->g x σ H λσ2 H2=>tb { D with nx:=Pv (i+1),ct:=Pv (i+1),bk:=D.nx } σ2 H2) (hd:∀σ H,Pv xs.length σ H->D.nx σ H) :
  ∃W:Nat->Nat->St->Hp->Prop,(∃m,W 0 m σ H)/\∀i m σ H,W i m σ H ->
   ((Itl K a).stop i H/\D.nx σ H)\/((Itl K a).go i H/\∃N:St->Hp->Prop,(∀σ' H',N σ' H'->∃m',m' < m/\W (i+1) m' σ' H')/\∀x H',(Itl K a).yld i H x H'->g x σ H' λσ2 H2=>tb { D with nx:=N,ct:=N,bk:=D.nx } σ2 H2):=by
 refine⟨λi m σ H=>m=xs.length - i/\i<=xs.length/\Pv i σ H,⟨xs.length,by simp,TM _,h0⟩,?_⟩
 rintro i m σ H ⟨rfl,hi,p⟩;have q:=hl i σ H hi p
 by_cases hlt:i < xs.length
 ·refine .inr ⟨⟨xs,xs[i],q,by simp[hlt]⟩,Pv (i+1),λσ' H' p'=>⟨xs.length - (i+1),by omega,rfl,hlt,p'⟩,λx H' y=>?_⟩
  obtain⟨e,y⟩:=y;subst e;exact hs i x σ _ (y xs q) p
 ·have e:i=xs.length:=by omega
  subst e;exact .inl ⟨⟨xs,q,kc _⟩,hd σ H p⟩
theorem pM {lo:Int}{n:Nat}{g:TG}{tb:TS}{D:Ends}{σ:St}{H:Hp}(Pv:Nat->St->Hp->Prop)(h0:Pv 0 σ H)
  (hs:∀i σ H,i < n->Pv i σ H->g (.int (lo+i)) σ H λσ2 H2=>tb { D with nx:=Pv (i+1),ct:=Pv (i+1),bk:=D.nx } σ2 H2) (hd:∀σ H,Pv n σ H->D.nx σ H) :
  ∃W:Nat->Nat->St->Hp->Prop,(∃m,W 0 m σ H)/\∀i m σ H,W i m σ H ->
   ((Itr lo n).stop i H/\D.nx σ H)\/((Itr lo n).go i H/\∃N:St->Hp->Prop,(∀σ' H',N σ' H'->∃m',m' < m/\W (i+1) m' σ' H')/\∀x H',(Itr lo n).yld i H x H'->g x σ H' λσ2 H2=>tb { D with nx:=N,ct:=N,bk:=D.nx } σ2 H2):=by
 refine⟨λi m σ H=>m=n - i/\i<=n/\Pv i σ H,⟨n,by simp,TM _,h0⟩,?_⟩
 rintro i m σ H ⟨rfl,hi,p⟩
 by_cases hlt:i < n
 ·refine .inr ⟨hlt,Pv (i+1),λσ' H' p'=>⟨n - (i+1),by omega,rfl,hlt,p'⟩,λx H' y=>?_⟩
  obtain⟨e,y⟩:=y;subst e y;exact hs i σ _ hlt p
 ·have e:i=n:=by omega
  subst e;exact .inl ⟨kc _,hd σ H p⟩
abbrev R2:=V->V->Hp->VK->Prop
def OpR (X:Cx)(f:Value->Value->Sem Value)(r:R2):Prop :=
 ∀(pins:List (Addr×Obj)) (s:Shared) (σ:St) (H:Hp) (x y:V) (v u:Value) (Q:VK),Inv X pins σ H s->RelV x v->RelV y u->r x y H Q ->
  wpAny (model X.prog X.w) X.A (f v u) (EP X pins σ Q) X.xe s
def UnR (X:Cx)(f:Value->Sem Value)(r:V->Hp->VK->Prop):Prop :=
 ∀(pins:List (Addr×Obj)) (s:Shared) (σ:St) (H:Hp) (x:V) (v:Value) (Q:VK),Inv X pins σ H s->RelV x v->r x H Q ->
  wpAny (model X.prog X.w) X.A (f v) (EP X pins σ Q) X.xe s
def eO (X:Cx)(f:Value)(r:List V->Hp->VK->Prop):Prop :=
 ∀(pins:List (Addr×Obj)) (s:Shared) (σ:St) (H:Hp) (xs:List V) (us:List Value) (Q:VK),Inv X pins σ H s->Vals xs us->r xs H Q ->
  wpAny (model X.prog X.w) X.A (call f us) (EP X pins σ Q) X.xe s
def R1 (X:Cx)(r:V->Hp->(Bool->Hp->Prop)->Prop):Prop :=
 ∀(pins:List (Addr×Obj)) (s:Shared) (σ:St) (H:Hp) (x:V) (v:Value) (Q:Bool->Hp->Prop),Inv X pins σ H s->RelV x v->r x H Q ->
  wpAny (model X.prog X.w) X.A (truthy v) (TP X pins σ Q) X.xe s
def tOp (r:R2)(ta tb:TE):TE:=λσ H Q=>ta σ H λx H1=>tb σ H1 λy H2=>r x y H2 Q
def tUn (r:V->Hp->VK->Prop)(ta:TE):TE:=λσ H Q=>ta σ H λx H1=>r x H1 Q
def rI (C:Int->Int->Prop)(g:Int->Int->V):R2:=λx y H Q=>∃i j,x=.int i/\y=.int j/\C i j/\Q (g i j) H
def rI0 (g:Int->Int->V):R2:=λx y H Q=>∃i j,x=.int i/\y=.int j/\Q (g i j) H
def rU (g:Int->V):V->Hp->VK->Prop:=λx H Q=>∃i,x=.int i/\Q (g i) H
section
variable{X:Cx}{a b c:Expr}{ta tb tc:TE}{pos:Pos}
theorem NG (ha:PE X a ta)(hb:PE X b tb){pins:List (Addr×Obj)}{s:Shared}{σ:St}{H:Hp}{R:V->V->Hp->Prop}(I:Inv X pins σ H s)
  (h:ta σ H λx H1=>tb σ H1 λy H2=>R x y H2) {Q:Value->Shared->Prop} {f:Value->Value->Sem Value}
  (hf:∀v u s2 x y H2,Inv X pins σ H2 s2->RelV x v->RelV y u->R x y H2->wpAny (model X.prog X.w) X.A (f v u) Q X.xe s2) :
  wpAny (model X.prog X.w) X.A (eval a X.env) (λv s₁=>wpAny (model X.prog X.w) X.A (eval b X.env) (λu s₂=>wpAny (model X.prog X.w) X.A (f v u) Q X.xe s₂) X.xe s₁) X.xe s:=by
 refine thn (ha pins s σ H _ I h) λv s1 ⟨x,H1,I1,r1,q1⟩=>?_
 refine thn (hb pins s1 σ H1 _ I1 q1) λu s2 ⟨y,H2,I2,r2,q2⟩=>?_
 exact hf v u s2 x y H2 I2 r1 r2 q2
theorem bA {op:Operator}{r:R2}(ho:OpR X (binaryOp op) r)(ha:PE X a ta)(hb:PE X b tb):PE X (.BinOp a op b pos) (tOp r ta tb):=by
 intro pins s σ H Q I h;exact wpAny_BinOp (NG ha hb I h λv u s2 x y H2 I2 rx ry q=>ho pins s2 σ H2 x y v u Q I2 rx ry q)
theorem xm {op:UnaryOp}{r:V->Hp->VK->Prop}(ho:UnR X (unaryOp op) r)(ha:PE X a ta):PE X (.UnaryOp op a pos) (tUn r ta):=by
 intro pins s σ H Q I h;exact UnaryOp_ (thn (ha pins s σ H _ I h) λv s1 ⟨x,H1,I1,r1,q1⟩=>ho pins s1 σ H1 x v Q I1 r1 q1)
theorem opI {f:Value->Value->Sem Value}{C:Int->Int->Prop}{g:Int->Int->Int}
  (rule:∀(i j:Int) (t u:Tok) (s:Shared) (Q:Value->Shared->Prop) (E:Value->Shared->Prop),C i j->Q (.int (g i j) s.toks) { s with toks:=s.toks+1 }->wpAny (model X.prog X.w) X.A (f (.int i t) (.int j u)) Q E s) :
  OpR X f (rI C λi j=>.int (g i j)):=by
 intro pins s σ H x y v u Q I rx ry h;obtain⟨i,j,rfl,rfl,hc,q⟩:=h;obtain⟨t,rfl⟩:=rx;obtain⟨t',rfl⟩:=ry;exact rule i j t t' s _ _ hc ⟨.int (g i j),H,I.tok _,⟨_,rfl⟩,q⟩
theorem P9 {f:Value->Value->Sem Value}{g:Int->Int->Int}
  (rule:∀(i j:Int) (t u:Tok) (s:Shared) (Q:Value->Shared->Prop) (E:Value->Shared->Prop),Q (.int (g i j) s.toks) { s with toks:=s.toks+1 }->wpAny (model X.prog X.w) X.A (f (.int i t) (.int j u)) Q E s) :
  OpR X f (rI0 λi j=>.int (g i j)):=by
 intro pins s σ H x y v u Q I rx ry h;obtain⟨i,j,rfl,rfl,q⟩:=h;obtain⟨t,rfl⟩:=rx;obtain⟨t',rfl⟩:=ry;exact rule i j t t' s _ _ ⟨.int (g i j),H,I.tok _,⟨_,rfl⟩,q⟩
theorem Lv {f:Value->Value->Sem Value}{g:Int->Int->Bool}
  (rule:∀(i j:Int) (t u:Tok) (s:Shared) (Q:Value->Shared->Prop) (E:Value->Shared->Prop),Q (.bool (g i j)) s->wpAny (model X.prog X.w) X.A (f (.int i t) (.int j u)) Q E s) :
  OpR X f (rI0 λi j=>.bl (g i j)):=by
 intro pins s σ H x y v u Q I rx ry h;obtain⟨i,j,rfl,rfl,q⟩:=h;obtain⟨t,rfl⟩:=rx;obtain⟨t',rfl⟩:=ry;exact rule i j t t' s _ _ ⟨.bl (g i j),H,I,rfl,q⟩
def R3 (i j:Int):Prop:=0 < j/\j < 1073741824
def NH (i j:Int):Prop:=(-(2 ^ 64) < i/\i < 2 ^ 64)\/(-(2 ^ 64) < j/\j < 2 ^ 64)
theorem NH.ok {i j:Int}(h:NH i j):IntMulOk i j:=by
 rcases h with ⟨h1,h2⟩ | ⟨h1,h2⟩
 ·exact .of_left (intBits_le_64 h1 h2)
 ·exact .of_right (intBits_le_64 h1 h2)
theorem cv:OpR X (binaryOp .Add) (rI0 λi j=>.int (i+j)):=P9 λ_ _ _ _ _ _ _ q=>add_int q
theorem IC:OpR X (binaryOp .Sub) (rI0 λi j=>.int (i - j)):=P9 λ_ _ _ _ _ _ _ q=>sub_int q
theorem En:OpR X (binaryOp .Mult) (rI NH λi j=>.int (i * j)):=opI λ_ _ _ _ _ _ _ hc q=>mul_int q hc.ok
theorem wW:OpR X (binaryOp .FloorDiv) (rI R3 λi j=>.int (i / j)):=opI λi j _ _ _ _ _ hc q=>by
 have h1:(0:Int) < j:=hc.1;have h2:j < 1073741824:=hc.2;exact floordiv_int (by omega) (by rw[Int.fdiv_eq_ediv_of_nonneg i (by omega)];exact q) (.inl (PyProof.noPylong_small (by omega)))
theorem dJ:OpR X (binaryOp .Mod) (rI (λ_ j=>0 < j) λi j=>.int (i % j)):=opI λi j _ _ _ _ _ hc q=>by
 have h1:(0:Int) < j:=hc;exact mod_int' (by omega) (by rw[Int.fmod_eq_emod_of_nonneg i (by omega)];exact q)
theorem unI {f:Value->Sem Value}{g:Int->Int}
  (rule:∀(i:Int) (t:Tok) (s:Shared) (Q:Value->Shared->Prop) (E:Value->Shared->Prop),Q (.int (g i) s.toks) { s with toks:=s.toks+1 }->wpAny (model X.prog X.w) X.A (f (.int i t)) Q E s) :
  UnR X f (rU λi=>.int (g i)):=by
 intro pins s σ H x v Q I rx h;obtain⟨i,rfl,q⟩:=h;obtain⟨t,rfl⟩:=rx;exact rule i t s _ _ ⟨.int (g i),H,I.tok _,⟨_,rfl⟩,q⟩
theorem qT:UnR X (unaryOp .USub) (rU λi=>.int (-i)):=unI λ_ _ _ _ _ q=>neg_int q
end
def Qa:V->V->Bool
 | .non,.non=>true | .non,.int _=>true | .int _,.non=>true | .non,.bl _=>true | .bl _,.non=>true | .non,.str _=>true | .str _,.non=>true
 | .int _,.int _=>true | .bl _,.bl _=>true | .str _,.str _=>true | .byt _,.byt _=>true
 | .int _,.str _=>true | .str _,.int _=>true | .bl _,.str _=>true | .str _,.bl _=>true
 |_,_=>false
def rEq:R2:=λx y H Q=>Qa x y=true/\Q (.bl (decide (x=y))) H
def rNe:R2:=λx y H Q=>Qa x y=true/\Q (.bl (!decide (x=y))) H
theorem FJ {i j:Int}:decide (V.int i=V.int j)=(i == j):=by
 rw[Ug];simp
theorem ID {i j:Bool}:decide (V.bl i=V.bl j)=(i == j):=by
 rw[Ug];simp
theorem FK {i j:Str}:decide (V.str i=V.str j)=(i == j):=by
 rw[Ug];simp
theorem FL {i j:Array UInt8}:decide (V.byt i=V.byt j)=(i.toList == j.toList):=by
 rw[Ug];cases i;cases j;simp
section
variable{X:Cx}{a b c:Expr}{ta tb tc:TE}{pos:Pos}
theorem bK {pins:List (Addr×Obj)}{σ:St}{H:Hp}{s:Shared}{Q:VK}{k k':Bool}(I:Inv X pins σ H s)(q:Q (.bl k) H)(e:k=k'):EP X pins σ Q (.bool k') s:=by
 subst e;exact⟨.bl k,H,I,rfl,q⟩
theorem bx:OpR X (Uq .Eq) rEq:=by
 intro pins s σ H x y v u Q I rx ry h;obtain⟨hs,q⟩:=h;cases x with
 |non =>
  cases rx;cases y with
  |non=>cases ry;exact PySem.EqNone.eq_none_none (bK I q (by simp))
  |bl j=>cases ry;exact PySem.EqNone.eq_none_bool (bK I q (by simp))
  |int j=>obtain⟨t',rfl⟩:=ry;exact PySem.EqNone.eq_none_int (bK I q (by simp))
  |str j=>obtain⟨t',rfl⟩:=ry;exact PySem.EqNone.eq_none_str (bK I q (by simp))
  |_=>exact absurd (show false=true from hs) kg
 |bl i =>
  cases rx;cases y with
  |non=>cases ry;exact PySem.EqNone.eq_bool_none (bK I q (by simp))
  |bl j=>cases ry;exact eq_bool (bK I q ID)
  |str j=>obtain⟨t',rfl⟩:=ry;exact PySem.EqMixed.eq_bool_str (bK I q (by simp))
  |_=>exact absurd (show false=true from hs) kg
 |int i =>
  obtain⟨t,rfl⟩:=rx;cases y with
  |non=>cases ry;exact PySem.EqNone.eq_int_none (bK I q (by simp))
  |int j=>obtain⟨t',rfl⟩:=ry;exact eq_int (bK I q FJ)
  |str j=>obtain⟨t',rfl⟩:=ry;exact PySem.EqMixed.eq_int_str (bK I q (by simp))
  |_=>exact absurd (show false=true from hs) kg
 |str i =>
  obtain⟨t,rfl⟩:=rx;cases y with
  |non=>cases ry;exact PySem.EqNone.eq_str_none (bK I q (by simp))
  |bl j=>cases ry;exact PySem.EqMixed.eq_str_bool (bK I q (by simp))
  |int j=>obtain⟨t',rfl⟩:=ry;exact PySem.EqMixed.eq_str_int (bK I q (by simp))
  |str j=>obtain⟨t',rfl⟩:=ry;exact eq_str (bK I q FK)
  |_=>exact absurd (show false=true from hs) kg
 |byt i =>
  obtain⟨t,rfl⟩:=rx;cases y with
  |byt j=>obtain⟨t',rfl⟩:=ry;exact PySem.W.eq_bytes (bK I q FL)
  |_=>exact absurd (show false=true from hs) kg
 |_=>cases y <;> exact absurd (show false=true from hs) kg
theorem Ad:OpR X (Uq .NotEq) rNe:=by
 intro pins s σ H x y v u Q I rx ry h;obtain⟨hs,q⟩:=h;cases x with
 |non =>
  cases rx;cases y with
  |non=>cases ry;exact PySem.EqNone.ne_none_none (bK I q (by simp))
  |bl j=>cases ry;exact PySem.EqNone.ne_none_bool (bK I q (by simp))
  |int j=>obtain⟨t',rfl⟩:=ry;exact PySem.EqNone.ne_none_int (bK I q (by simp))
  |str j=>obtain⟨t',rfl⟩:=ry;exact PySem.EqNone.ne_none_str (bK I q (by simp))
  |_=>exact absurd (show false=true from hs) kg
 |bl i =>
  cases rx;cases y with
  |non=>cases ry;exact PySem.EqNone.ne_bool_none (bK I q (by simp))
  |bl j=>cases ry;exact ne_bool (bK I q (congrArg not ID))
  |str j=>obtain⟨t',rfl⟩:=ry;exact PySem.EqMixed.ne_bool_str (bK I q (by simp))
  |_=>exact absurd (show false=true from hs) kg
 |int i =>
  obtain⟨t,rfl⟩:=rx;cases y with
  |non=>cases ry;exact PySem.EqNone.ne_int_none (bK I q (by simp))
  |int j=>obtain⟨t',rfl⟩:=ry;exact ne_int (bK I q (congrArg not FJ))
  |str j=>obtain⟨t',rfl⟩:=ry;exact PySem.EqMixed.ne_int_str (bK I q (by simp))
  |_=>exact absurd (show false=true from hs) kg
 |str i =>
  obtain⟨t,rfl⟩:=rx;cases y with
  |non=>cases ry;exact PySem.EqNone.ne_str_none (bK I q (by simp))
  |bl j=>cases ry;exact PySem.EqMixed.ne_str_bool (bK I q (by simp))
  |int j=>obtain⟨t',rfl⟩:=ry;exact PySem.EqMixed.ne_str_int (bK I q (by simp))
  |str j=>obtain⟨t',rfl⟩:=ry;exact ne_str (bK I q (congrArg not FK))
  |_=>exact absurd (show false=true from hs) kg
 |byt i =>
  obtain⟨t,rfl⟩:=rx;cases y with
  |byt j=>obtain⟨t',rfl⟩:=ry;exact PySem.W.ne_bytes (bK I q (congrArg not FL))
  |_=>exact absurd (show false=true from hs) kg
 |_=>cases y <;> exact absurd (show false=true from hs) kg
theorem xn:OpR X (Uq .Lt) (rI0 λi j=>.bl (decide (i < j))):=Lv λ_ _ _ _ _ _ _ q=>lt_int q
theorem vg:OpR X (Uq .LtE) (rI0 λi j=>.bl (decide (i<=j))):=Lv λ_ _ _ _ _ _ _ q=>le_int q
theorem MT:OpR X (Uq .Gt) (rI0 λi j=>.bl (decide (j < i))):=Lv λ_ _ _ _ _ _ _ q=>gt_int q
theorem MU:OpR X (Uq .GtE) (rI0 λi j=>.bl (decide (j<=i))):=Lv λ_ _ _ _ _ _ _ q=>ge_int q
theorem GU:OpR X (Uq .In) (λx y H Q=>∃i j,x=.str i/\y=.str j/\Q (.bl (!(Ul j i 0 j.length 1).isEmpty)) H):=by
 intro pins s σ H x y v u Q I rx ry h;obtain⟨i,j,rfl,rfl,q⟩:=h;obtain⟨t,rfl⟩:=rx;obtain⟨t',rfl⟩:=ry;exact in_str (bK I q rfl)
theorem IE:OpR X (Uq .Is) (λx y H Q=>y=.non/\Q (.bl (decide (x=.non))) H):=by
 intro pins s σ H x y v u Q I rx ry h;obtain⟨rfl,q⟩:=h;cases ry;refine is_none_gen (bK I q ?_);cases x <;> first
  | (cases rx;rfl)
  | (obtain⟨t,rfl⟩:=rx;rfl)
theorem Lw:OpR X (Uq .IsNot) (λx y H Q=>y=.non/\Q (.bl (!decide (x=.non))) H):=by
 intro pins s σ H x y v u Q I rx ry h;obtain⟨rfl,q⟩:=h;cases ry;refine isnot_none_gen (bK I q ?_);cases x <;> first
  | (cases rx;rfl)
  | (obtain⟨t,rfl⟩:=rx;rfl)
theorem OpR.or {f:Value->Value->Sem Value}{r r':R2}(h:OpR X f r)(h':OpR X f r'):OpR X f (λx y H Q=>r x y H Q\/r' x y H Q):=by
 intro pins s σ H x y v u Q I rx ry q;rcases q with q | q
 ·exact h pins s σ H x y v u Q I rx ry q
 ·exact h' pins s σ H x y v u Q I rx ry q
theorem aH (b:Expr){op:CmpOp}(h:op≠.In:=by decide)(h2:op≠.NotIn:=by decide):behindInMarks op b=false:=by
 have e1:(op == CmpOp.In)=false:=by cases op <;> first | rfl | exact absurd rfl h
 have e2:(op == CmpOp.NotIn)=false:=by cases op <;> first | rfl | exact absurd rfl h2
 cases b <;> simp[behindInMarks,e1,e2]
theorem bI {op:CmpOp}{r:R2}(ho:OpR X (Uq op) r)(ha:PE X a ta)(hb:PE X b tb)(hm:behindInMarks op b=false):PE X (.Compare a [op] [b] pos) (tOp r ta tb):=by
 intro pins s σ H Q I h;exact wpAny_Compare1 (NG ha hb I h λv u s2 x y H2 I2 rx ry q=>ho pins s2 σ H2 x y v u Q I2 rx ry q) hm
def Qb (t:TE):TT:=λσ H Q=>t σ H λx H'=>∃k,x=.bl k/\Q k H'
theorem aQ {op:CmpOp}{r:R2}(ho:OpR X (Uq op) r)(ha:PE X a ta)(hb:PE X b tb)(hm:behindInMarks op b=false):PT X (.Compare a [op] [b] pos) (Qb (tOp r ta tb)):=by
 intro pins s σ H Q I h;refine wpAny_isTrue_Compare1 (thn (ha pins s σ H _ I h) λv s1 ⟨x,H1,I1,r1,q1⟩=>thn (hb pins s1 σ H1 _ I1 q1) λu s2 ⟨y,H2,I2,r2,q2⟩ =>
  thn (ho pins s2 σ H2 x y v u _ I2 r1 r2 q2) λc s3 ⟨z,H3,I3,r3,k,e,q3⟩=>?_) hm
 subst e;cases r3;exact wpAny_truthy_bool ⟨H3,I3,q3⟩
def NI (r r':R2)(ta tb tc:TE):TE:=λσ H Q=>ta σ H λx H1=>tb σ H1 λy H2=>r x y H2 λz H3=>∃k,z=.bl k /\
 (if k=true then tc σ H3 λw' H4=>r' y w' H4 Q else Q (.bl false) H3)
theorem rR {op op':CmpOp}{r r':R2}(ho:OpR X (Uq op) r)(ho':OpR X (Uq op') r')(ha:PE X a ta)(hb:PE X b tb)(hc:PE X c tc)
  (hm:lastMarks [op,op'] [b,c]=false:=by with_unfolding_all rfl):PE X (.Compare a [op,op'] [b,c] pos) (NI r r' ta tb tc):=by
 intro pins s σ H Q I h;refine Compare_chain (thn (ha pins s σ H _ I h) λv s1 ⟨x,H1,I1,r1,q1⟩=>chain_link (thn (hb pins s1 σ H1 _ I1 q1) λu s2 ⟨y,H2,I2,r2,q2⟩ =>
  thn (ho pins s2 σ H2 x y v u _ I2 r1 r2 q2) λd s3 ⟨z,H3,I3,r3,k,e,q3⟩=>?_)) hm
 subst e;cases r3;refine wpAny_truthy_bool ?_;cases k with
 |false=>exact ite_ff ⟨.bl false,H3,I3,rfl,q3⟩
 |true=>exact ite_tt (chain_last (thn (hc pins s3 σ H3 _ I3 q3) λw' s4 ⟨z',H4,I4,r4,q4⟩=>ho' pins s4 σ H4 y z' u w' Q I4 r2 r4 q4))
def Qc (K:ba)(x:V)(H:Hp)(k:Bool):Prop :=
 match x with
 | .non=>k=false
 | .bl b=>k=b
 | .int i=>k=(i != 0)
 | .str y=>y.length<=eg/\k=((y.length:Int) != 0)
 | .byt y=>y.size<=eg/\k=((y.size:Int) != 0)
 | .ref p=>(∃xs,SqL K H p xs/\k=!xs.isEmpty)\/(∃xs,SqT K H p xs/\k=!xs.isEmpty)\/∃kvs,H p=some (.dK kvs)/\k=!kvs.isEmpty
 |_=>False
theorem Eo {κ:Type}{kvs:List (κ×V)}{vs:List (κ×Value)}(r:KV kvs vs):(!vs.isEmpty)=!kvs.isEmpty:=by
 cases r <;> rfl
theorem xq {xs:List V}{its:List Value}(r:Vals xs its):(!its.toArray.isEmpty)=!xs.isEmpty:=by
 cases r <;> simp
theorem qU:(eg:Nat) < 2 ^ 63:=by rw[sizeLine_eq];decide
theorem NJ:R1 X (λx H Q=>∃k,Qc X.K x H k/\Q k H):=by
 intro pins s σ H x v Q I rx h;obtain⟨k,e,q⟩:=h;have hl:=qU;have hs:eg=16777216:=sizeLine_eq;cases x with
 |non =>
  cases rx;have e':k=false:=e;subst e';exact truthy_none ⟨H,I,q⟩
 |bl b =>
  cases rx;have e':k=b:=e;subst e';exact wpAny_truthy_bool ⟨H,I,q⟩
 |int i =>
  obtain⟨t,rfl⟩:=rx;have e':k=(i != 0):=e;subst e';exact PySem.P.truthy_int ⟨H,I,q⟩
 |str y =>
  obtain⟨t,rfl⟩:=rx;obtain⟨hy,e'⟩:y.length<=eg/\k=((y.length:Int) != 0):=e;subst e';exact PySem.P.truthy_str (by omega) ⟨H,I.tok _,q⟩
 |byt y =>
  obtain⟨t,rfl⟩:=rx;obtain⟨hy,e'⟩:y.size<=eg/\k=((y.size:Int) != 0):=e;subst e';exact PySem.W.truthy_bytes (by omega) ⟨H,I.tok _,q⟩
 |ref p =>
  cases rx;have e':(∃xs,SqL X.K H p xs/\k=!xs.isEmpty)\/(∃xs,SqT X.K H p xs/\k=!xs.isEmpty)\/∃kvs,H p=some (.dK kvs)/\k=!kvs.isEmpty:=e;rcases e' with ⟨xs,hx,e'⟩ | ⟨xs,hx,e'⟩ | ⟨kvs,hx,e'⟩
  ·subst e';obtain⟨its,r,pl,hz⟩:=I.list hx;have hlen:=r.length;exact wpAny_truthy_list pl.isList (by simp only[kx];omega) ⟨H,I.tok _,by rw[xq r];exact q⟩
  ·subst e';obtain⟨its,r,pl,hz⟩:=I.tuple hx;have hlen:=r.length;exact truthy_tuple pl (by simp only[kx];omega) ⟨H,I.tok _,by rw[xq r];exact q⟩
  ·subst e';obtain⟨hz,hS,vs,r,m⟩:kvs.length<=eg/\(p == UT)=false/\∃vs,KV kvs vs/\s.heap.DictOf (cz X.prog X.w) p vs:=I.hok p _ hx;have hlen:kvs.length=vs.length:=Paired.length r;exact wpAny_truthy_dict hS m (by omega) ⟨H,I.tok _,by rw[Eo r];exact q⟩
 |_=>exact(show False from e).elim
theorem nS (ha:PE X a ta)(he:∀whole,isTrue a X.env whole=(do let v <-whole;standAt a.pos;holding [v] (truthy v))) :
  PT X a (λσ H Q=>ta σ H λx H'=>∃k,Qc X.K x H' k/\Q k H'):=by
 intro pins s σ H Q I h;exact isTrue_plain (thn (ha pins s σ H _ I h) λv s1 ⟨x,H1,I1,r1,q1⟩=>NJ pins s1 σ H1 x v Q I1 r1 q1) (he _)
theorem vals1 {x:V}{us:List Value}(r:Vals [x] us):∃u,us=[u]/\RelV x u:=by
 cases r with
 |cons r1 r2=>cases r2;exact⟨_,rfl,r1⟩
theorem vals2 {x y:V}{us:List Value}(r:Vals [x,y] us):∃u w',us=[u,w']/\RelV x u/\RelV y w':=by
 cases r with
 |cons r1 r2 =>
  cases r2 with
  |cons r3 r4=>cases r4;exact⟨_,_,rfl,r1,r3⟩
theorem GV (hc:X.calm=true):eO X (.builtin "max") (λxs H Q=>∃i j,xs=[.int i,.int j]/\Q (.int (if j > i then j else i)) H):=by
 intro pins s σ H xs us Q I r h;obtain⟨i,j,rfl,q⟩:=h;obtain⟨u,w',rfl,⟨t,rfl⟩,⟨t',rfl⟩⟩:=vals2 r;refine max_two_ints (I.ok.hd hc) λh' tk k=>⟨_,H,I.kept k,?_,q⟩
 by_cases hj:j > i
 ·rw[if_pos hj,if_pos hj];exact⟨_,rfl⟩
 ·rw[if_neg hj,if_neg hj];exact⟨_,rfl⟩
theorem uh (hc:X.calm=true):eO X (.builtin "min") (λxs H Q=>∃i j,xs=[.int i,.int j]/\Q (.int (if j < i then j else i)) H):=by
 intro pins s σ H xs us Q I r h;obtain⟨i,j,rfl,q⟩:=h;obtain⟨u,w',rfl,⟨t,rfl⟩,⟨t',rfl⟩⟩:=vals2 r;refine min_two_ints (I.ok.hd hc) λh' tk k=>⟨_,H,I.kept k,?_,q⟩
 by_cases hj:j < i
 ·rw[if_pos hj,if_pos hj];exact⟨_,rfl⟩
 ·rw[if_neg hj,if_neg hj];exact⟨_,rfl⟩
theorem Ae:eO X (.type "int") (λxs H Q=>(∃i,xs=[.int i]/\Q (.int i) H)\/∃k,xs=[.bl k]/\Q (.int (if k then 1 else 0)) H):=by
 intro pins s σ H xs us Q I r h;rcases h with ⟨i,rfl,q⟩ | ⟨k,rfl,q⟩
 ·obtain⟨u,rfl,t,rfl⟩:=vals1 r;exact call_int_int ⟨.int i,H,I,⟨_,rfl⟩,q⟩
 ·obtain⟨u,rfl,r1⟩:=vals1 r;cases r1;exact call_int_bool ⟨.int (if k then 1 else 0),H,I.tok _,⟨_,rfl⟩,q⟩
theorem rS:eO X (.type "str") (λxs H Q=>∃i,xs=[.int i]/\i.natAbs.log2 < 1920/\Q (.str (toString i)) H):=by
 intro pins s σ H xs us Q I r h;obtain⟨i,rfl,hz,q⟩:=h;obtain⟨u,rfl,t,rfl⟩:=vals1 r;exact PySem.P.str_of_int hz ⟨.str _,H,I.tok _,⟨_,rfl⟩,q⟩
theorem IF:eO X (.builtin "ord") (λxs H Q=>∃x,xs=[.str x]/\x.length=1/\Q (.int (x.cps.getD 0 0:Nat)) H):=by
 intro pins s σ H xs us Q I r h;obtain⟨x,rfl,hz,q⟩:=h;obtain⟨u,rfl,t,rfl⟩:=vals1 r;exact ord_of_one hz ⟨.int _,H,I.tok _,⟨_,rfl⟩,q⟩
end
structure Ep (h:Heap)(x dx C:Addr)(mA:Str->Option Value):Prop where
 obj:h.get? x=some (T5 C dx)
 ns:h.Ns1 dx mA
 ne:dx≠x
theorem Af {h:Heap}{dx:Addr}{mA:Str->Option Value}(n:h.Ns1 dx mA):∃od,h.get? dx=some od/\∀name,PySem.W.lookIn name od=some (mA name):=by
 obtain⟨o,es,ep,ho,hd,hk,_,hm⟩:=n;refine⟨o,ho,λname=>?_⟩
 have e:=hm name;unfold nsFind findBy at e;rw[<-Array.find?_toList]at e;unfold PySem.W.lookIn;rw[hd];dsimp only;split
 ·rename_i y q;rw[q]at e;exact congrArg some e
 ·rename_i q;rw[q]at e;have a:es.toList.any (·.refKey)=false:=by
   rw[List.any_eq_false];intro y hy;obtain⟨z,t,R4⟩:=hk y (Array.mem_toList_iff.mp hy);simp[DictEntry.refKey,R4]
  have a':¬es.toList.any (·.refKey)=true:=by rw[a];exact kg
  rw[if_neg a'];exact congrArg some e
theorem Ep.look {h:Heap}{x dx C:Addr}{mA:Str->Option Value}(I:Ep h x dx C mA):∃od,UW h x (T5 C dx) C (some od)/\∀name,PySem.W.lookIn name od=some (mA name) :=
 let ⟨od,ho,hl⟩:=Af I.ns
 ⟨od,⟨I.obj,rfl,rfl,ho⟩,hl⟩
section
variable{prog:km}{w:World}{A:Around}{E:Value->Shared->Prop}{s:Shared}{K:ba}{x dx C f:Addr}{mA:Str->Option Value}{name:Str}{v:Value}
theorem get_map {expr:Bool}{Q:Value->Shared->Prop}(X:K.In s.heap)(I:Ep s.heap x dx C mA)(hg:PySem.W.plainGet K C name=true)(hh:PySem.W.hasDictIn K C=true)
  (ha:Ts K (.ref C) name=some none) (hv:mA name=some v) (hv':PySem.W.handedIn v=true) (h:Q v { s with toks:=s.toks+1 }) :
  wpAny (model prog w) A (getAttr (.ref x) name expr) Q E s:=by
 obtain⟨od,J,hl⟩:=I.look;exact PySem.W.get_value X J (PySem.W.plainGet_of hg).1 (PySem.W.findObj_own hh ha rfl (by rw[hl,hv])) hv' h
theorem IG {pl:Sem Bool}{Q:Value×List Value->Shared->Prop}(X:K.In s.heap)(I:Ep s.heap x dx C mA)(hg:PySem.W.plainGet K C name=true)
  (hf:Ts K (.ref C) name=some (some (.ref f))) (ht:PySem.W.isFn K (.ref f)=true) (hv:mA name=none) (h:Q (.ref f,[.ref x]) s) :
  wpAny (model prog w) A (getMethod (.ref x) name pl) Q E s:=by
 obtain⟨od,J,hl⟩:=I.look;exact PySem.W.method_fn X J (PySem.W.plainGet_of hg).1 (PySem.W.plainGet_of hg).2 hf (beq_iff_eq.mp ht) (by show (PySem.W.lookIn name od).map (·.isSome)=some false;rw[hl,hv];rfl) h
theorem Lx {ns:List Str}{Q:Unit->Shared->Prop}(X:K.In s.heap)(I:Ep s.heap x dx C mA)
  (hs:Ts K (.ref C) "__setattr__"=some (some (.builtin "object.__setattr__"))) (hp:PySem.W.plainOver K C=true) (ht:PySem.W.takerIn K C name=some none) (hh:PySem.W.hasDictIn K C=true)
  (hw:PySem.Within mA ns) (hsz:ns.length<=eg)
  (h:∀h',Ep h' x dx C (λy=>if y=name then some v else mA y)->Heap.SameBut dx s.heap h'->Q () { s with heap:=h',toks:=s.toks+2 }) :
  wpAny (model prog w) A (setAttr (.ref x) name v) Q E s:=by
 obtain⟨od,J,hl⟩:=I.look;refine PySem.W.set_plain X J hs (PySem.W.osa_open (s:={ s with toks:=s.toks+1 }) (r:=none) X J hp ht λb=>?_)
 obtain⟨cd,hc,hd'⟩:=PySem.W.any_some hh;have hx:s.heap.get? x=some ⟨.ref C,some dx,.plain,#[]⟩:=I.obj;refine de (kj (de (de (wpAny_loadPart hx (de (PySem.W.Looks.here (s:={ s with toks:=s.toks+1 }) (PySem.W.looks_clsIn X hc) ?_))))))
 rw[hd'];refine kj (a:=some dx) (de (kj (de ?_)));refine wpAny_nsSet1 (s:={ s with toks:=s.toks+1 }) I.ns λh' hn2 hs2=>?_
 obtain⟨oD,esD,epD,hoD,hdD,hcD⟩:=hn2.count (PySem.Within.cons name v hw);refine de (wpAny_lookBehind hoD (by rw[hdD];exact pastItsLine_dict (ra hcD (by rw[ky];omega))) ?_)
 exact kj (h _ ⟨(hs2.2 _ (Tr I.ne)).trans I.obj,hn2,I.ne⟩ hs2)
theorem IH {R:Result->Shared->Prop}{vs:List Value}{kw:List (Str×Value)}(X:K.In s.heap)(hm:PySem.W.makesIn K C=true)
  (hi:Ts K (.ref C) "__init__"=some (some (.ref f))) (hf:PySem.W.typeIn K (.ref f)=some (.type "function"))
  (h:codeAny (model prog w) (A.under (.builtin "type.__call__" ⟨.ref C::vs,kw⟩)) (.call (.ref f) ⟨.ref (s.heap.objs.size+1)::vs,kw⟩) (PySem.W.InitBack (s.heap.objs.size+1) R)
   { s with heap:=(s.heap.push TV).push (T5 C s.heap.objs.size) }) :
  codeAny (model prog w) A (.call (.ref C) ⟨vs,kw⟩) R s:=by
 obtain⟨hh,g,d,t,os⟩:=s;exact PySem.W.make_core (PySem.W.makes_of X hm) (U4 X hi) (λself=>PySem.W.bind_fn X self hf) (.inl rfl) h
end
def d7 (f:Str)(v:V):List (Str×V)->List (Str×V)
 |[]=>[(f,v)]
 | (g,x)::r=>if g=f then (g,v)::r else (g,x)::d7 f v r
theorem vh (f g:Str)(v:V):∀fs:List (Str×V),(d7 f v fs).lookup g=if g=f then some v else fs.lookup g
 |[]=>by
  show Uc g [(f,v)]=_
  by_cases h:g=f
  ·have hb:(g == f)=true:=beq_iff_eq.mpr h;simp only[Uc,hb,if_pos h]
  ·have hb:(g == f)=false:=beq_eq_false_iff_ne.mpr h;simp only[Uc,hb,if_neg h]
 | (k,x)::r=>by
  have ih:=vh f g v r;rw[show d7 f v ((k,x)::r)=(if k=f then (k,v)::r else (k,x)::d7 f v r) from rfl]
  by_cases hk:k=f
  ·rw[if_pos hk]
   by_cases h:g=k
   ·have hb:(g == k)=true:=beq_iff_eq.mpr h;simp only[Uc,hb,if_pos (h.trans hk)]
   ·have hb:(g == k)=false:=beq_eq_false_iff_ne.mpr h;simp only[Uc,hb,if_neg (λe:g=f=>h (e.trans hk.symm))]
  ·rw[if_neg hk]
   by_cases h:g=k
   ·have hb:(g == k)=true:=beq_iff_eq.mpr h;simp only[Uc,hb,if_neg (λe:g=f=>hk (h.symm.trans e))]
   ·have hb:(g == k)=false:=beq_eq_false_iff_ne.mpr h;simp only[Uc,hb];exact ih
theorem ui (f:Str)(v:V):∀fs:List (Str×V),f∈(d7 f v fs).map (·.1)/\∀g,g∈fs.map (·.1)->g∈(d7 f v fs).map (·.1)
 |[]=>⟨by simp[d7],λg h=>by simp at h⟩
 | (k,x)::r=>by
  obtain⟨i1,i2⟩:=ui f v r;rw[show d7 f v ((k,x)::r)=(if k=f then (k,v)::r else (k,x)::d7 f v r) from rfl]
  by_cases hk:k=f
  ·rw[if_pos hk];subst hk;exact⟨by simp,λg h=>by simpa using h⟩
  ·rw[if_neg hk];refine⟨?_,λg h=>?_⟩
   ·rw[ko];exact kf _ i1
   ·rw[ko]at h ⊢;rcases List.mem_cons.mp h with e | e
    ·exact List.mem_cons.mpr (.inl e)
    ·exact kf _ (i2 g e)
theorem vi (f:Str)(v:V):∀fs:List (Str×V),(d7 f v fs).length<=fs.length+1
 |[]=>by simp[d7]
 | (k,x)::r=>by
  have ih:=vi f v r;rw[show d7 f v ((k,x)::r)=(if k=f then (k,v)::r else (k,x)::d7 f v r) from rfl]
  by_cases hk:k=f
  ·rw[if_pos hk,ky,ky];omega
  ·rw[if_neg hk,ky,ky];omega
theorem lu.some_of {v:V}{o:Option Value}(r:lu (some v) o):∃u,o=some u/\RelV v u:=by
 cases o with
 |none=>exact(show False from r).elim
 |some u=>exact⟨u,rfl,r⟩
theorem lu.none_of {o:Option Value}(r:lu none o):o=none:=by
 cases o with
 |none=>rfl
 |some u=>exact(show False from r).elim
theorem GW {v:V}{u:Value}(r:RelV v u):PySem.W.handedIn u=true:=by
 cases v with
 |non=>cases (show u=Us from r);rfl
 |bl b=>cases (show u=UH b from r);rfl
 |int i=>obtain⟨t,e⟩:=(show ∃t,u=Value.int i t from r);cases e;rfl
 |str x=>obtain⟨t,e⟩:=(show ∃t,u=Value.str x t from r);cases e;rfl
 |byt b=>obtain⟨t,e⟩:=(show ∃t,u=Value.bytes b t from r);cases e;rfl
 |flt b=>obtain⟨t,e⟩:=(show ∃t,u=Value.float b t from r);cases e;rfl
 |ref a=>cases (show u=rf a from r);rfl
 |ty n=>cases (show u=Value.type n from r);rfl
section
variable{P:km}{w:World}{H H':Hp}{h h':Heap}{a C dx:Addr}{fs fs':List (Str×V)}
theorem wX (hok:HOk P w H h)(e:H a=some (.ins C dx fs)):∃mA,Ep h a dx C mA/\(∀f,lu (fs.lookup f) (mA f))/\PySem.Within mA (fs.map (·.1))/\fs.length<=1000/\H dx=some (.own a):=by
 obtain⟨d,z,ne,ob,mA,n,r,q⟩:=(show cf P w H h a (.ins C dx fs) from hok a _ e)
 exact⟨mA,⟨ob,n,ne⟩,r,q,z,d⟩
end
structure Cls (K:ba)(C:Addr):Prop where
 pg:PySem.W.plainGet K C Um=true
 hd:PySem.W.hasDictIn K C=true
 po:PySem.W.plainOver K C=true
 sa:Ts K (.ref C) "__setattr__"=some (some (.builtin "object.__setattr__"))
theorem Cls.get {K:ba}{C:Addr}(c:Cls K C)(f:Str):PySem.W.plainGet K C f=true:=c.pg
def cD (K:ba)(C:Addr)(f:Str):Prop:=Ts K (.ref C) f=some none
theorem cD.Qd {K:ba}{C:Addr}{f:Str}(n:cD K C f):PySem.W.takerIn K C f=some none:=by
 unfold PySem.W.takerIn;rw[show Ts K (.ref C) f=some none from n]
 rfl
structure Con (K:ba)(C:Addr)(f:Str)(v:V)(u:Value):Prop where
 at_:Ts K (.ref C) f=some (some u)
 rel:RelV v u
 get:PySem.W.specialIn K u "__get__"=some none
 cp:PySem.W.copiedNames.contains f=false
structure Meth (K:ba)(C:Addr)(m:Str)(f:Addr):Prop where
 at_:Ts K (.ref C) m=some (some (.ref f))
 fn:PySem.W.isFn K (.ref f)=true
 kp:UX K (.ref f)=true
section
variable{X:Cx}{pins:List (Addr×Obj)}{σ:St}{H:Hp}{s:Shared}{a C dx:Addr}{fs:List (Str×V)}{f:Str}{v:V}{A:Around}{E:Value->Shared->Prop}
theorem Er {b:Bool}{Q:Value->Shared->Prop}(I:Inv X pins σ H s)(e:H a=some (.ins C dx fs))(c:Cls X.K C)(n:cD X.K C f)(l:fs.lookup f=some v)
  (h:∀u s',Inv X pins σ H s'->RelV v u->Q u s'):wpAny (model X.prog X.w) A (getAttr (.ref a) f b) Q E s:=by
 obtain⟨mA,O,r,_,_,_⟩:=wX I.hok e;obtain⟨u,hu,ru⟩:=lu.some_of (v:=v) (o:=mA f) (by rw[<-l];exact r f)
 exact get_map I.kIn O (c.get f) c.hd n hu (GW ru) (h u _ (I.tok _) ru)
theorem gJ {m:Str}{g:Addr}{pl:Sem Bool}{Q:Value×List Value->Shared->Prop}(I:Inv X pins σ H s)(e:H a=some (.ins C dx fs))(c:Cls X.K C)(k:Meth X.K C m g)(l:fs.lookup m=none)
  (h:Q (.ref g,[.ref a]) s):wpAny (model X.prog X.w) A (getMethod (.ref a) m pl) Q E s:=by
 obtain⟨mA,O,r,_,_,_⟩:=wX I.hok e;have hn:mA m=none:=lu.none_of (by rw[<-l];exact r m)
 exact IG I.kIn O (c.get m) k.at_ k.fn hn h
theorem Es {y:V}{u:Value}{Q:Unit->Shared->Prop}(I:Inv X pins σ H s)(e:H a=some (.ins C dx fs))(c:Cls X.K C)(n:cD X.K C f)(hl:fs.length < 1000)(ry:RelV y u)
  (h:∀s',Inv X pins σ (upd H a (.ins C dx (d7 f y fs))) s'->Q () s'):wpAny (model X.prog X.w) A (setAttr (.ref a) f u) Q E s:=by
 obtain⟨mA,O,r,wi,_,ho⟩:=wX I.hok e;have hz:(fs.map (·.1)).length<=eg:=by rw[bo,sizeLine_eq];omega
 refine Lx I.kIn O c.sa c.po n.Qd c.hd wi hz λh' O' sb=>h _ ?_
 have hd:∃o,h'.get? dx=some o:=let ⟨o,_,_,e',_⟩:=O'.ns;⟨o,e'⟩
 refine I.write (x:=a) (e:=dx) (by rw[e];exact UA) (.inr ho) (λb q hb z=>(sb.2 b hb).trans z) hd ?_
 refine⟨by rw[ao O.ne];exact ho,?_,O.ne,O'.obj,_,O'.ns,λg=>?_,λg hg=>?_⟩
 ·have:=vi f y fs;omega
 ·show lu ((d7 f y fs).lookup g) (if g=f then some u else mA g)
  rw[vh]
  by_cases q:g=f
  ·rw[if_pos q,if_pos q];exact ry
  ·rw[if_neg q,if_neg q];exact r g
 ·by_cases q:g=f
  ·rw[q];exact(ui f y fs).1
  ·refine(ui f y fs).2 g (wi g λz=>hg ?_)
   show (if g=f then some u else mA g)=none
   rw[if_neg q];exact z
theorem Inv.made (I:Inv X pins σ H s):Inv X pins σ (upd (upd H s.heap.objs.size (.own (s.heap.objs.size+1))) (s.heap.objs.size+1) (.ins C s.heap.objs.size []))
  { s with heap:=(s.heap.push TV).push (T5 C s.heap.objs.size) }:=by
 have e1:(s.heap.push TV).get? s.heap.objs.size=some TV:=tm s.heap rfl;have e2:((s.heap.push TV).push (T5 C s.heap.objs.size)).get? (s.heap.objs.size+1)=some (T5 C s.heap.objs.size):=by
  have:=tm (s.heap.push TV) (o:=T5 C s.heap.objs.size) rfl
  rwa [UK]at this
 have e3:(s.heap.push TV).Ns s.heap.objs.size (λ_=>none):=⟨TV,#[],_,e1,rfl,(λe he=>absurd he (by simp)),λ_=>rfl⟩
 have I1:=I.laid (a:=s.heap.objs.size) (o:=.own (s.heap.objs.size+1)) (h':=s.heap.push TV) (t':=s.toks) (λb u q=>fu _ q) (kc _) ⟨_,e1⟩
 refine I1.laid (a:=s.heap.objs.size+1) (o:=.ins C s.heap.objs.size []) (t':=s.toks) (λb u q=>fu _ q) (Nat.le_of_eq (UK _ _)) ?_
 have ne:s.heap.objs.size≠s.heap.objs.size+1:=Tf (Nat.lt_succ_self _);refine⟨by rw[ao ne,ae],TM _,ne,e2,λ_=>none,(Heap.Ns1.of_empty e3).at λo q=>fu _ q,λ_=>UA,λy hy=>absurd rfl hy⟩
theorem FN {prog:km}{w:World}{env:Env}{e:Expr}{f:Str}{pos:Pos}{s:Shared}{Q:Value->Shared->Prop}(hb:attributeBase e f env (eval e env)=eval e env)
  (h:wpAny (model prog w) A (eval e env) (λo s₁=>wpAny (model prog w) A (getAttr o f true) Q E s₁) E s):wpAny (model prog w) A (eval (.Attribute e f pos) env) Q E s :=
 Attribute_any_ h (by rw[arm_eval_Attribute,hb])
end
def Qe (K:ba)(ta:TE)(f:Str):TE:=λσ H Q=>ta σ H λx H1=>∃a C dx fs v,x=.ref a/\H1 a=some (.ins C dx fs)/\Cls K C/\cD K C f/\fs.lookup f=some v/\Q v H1
def R5 (K:ba)(ta tv:TE)(f:Str):TS:=λD σ H=>tv σ H λy H1=>ta σ H1 λx H2=>∃a C dx fs,x=.ref a/\H2 a=some (.ins C dx fs)/\Cls K C/\cD K C f/\fs.length < 1000 /\
 D.nx σ (upd H2 a (.ins C dx (d7 f y fs)))
section
variable{X:Cx}{o e value:Expr}{f:Str}{pos pos' R6:Pos}{ta tv:TE}
theorem aZ (he:PE X e ta)(hb:attributeBase e f X.env (eval e X.env)=eval e X.env):PE X (.Attribute e f pos) (Qe X.K ta f):=by
 intro pins s σ H Q I h;refine FN hb (thn (he pins s σ H _ I h) λu s1 ⟨x,H1,I1,rx,a,C,dx,fs,v,ex,ea,c,n,l,q⟩=>?_)
 subst ex;obtain rfl:u=rf a:=rx;exact Er I1 ea c n l λu' s2 I2 ru=>⟨v,H1,I2,ru,q⟩
theorem dA (ha:PE X o ta)(hv:PE X value tv)(hs:swapsWith value (some (.Attribute o f pos')) pos.line X.env=pure false):PS X (.Assign [.Attribute o f pos'] value pos) (R5 X.K ta tv f):=by
 intro pins s σ H D I h;refine plainObj_wpAny_Assign_Attribute (thn (hv pins s σ H _ I h) λu s1 ⟨y,H1,I1,ry,q⟩=>thn (ha pins s1 σ H1 _ I1 q) λov s2 ⟨x,H2,I2,rx,a,C,dx,fs,ex,ea,c,n,l,q2⟩=>?_) hs
 subst ex;obtain rfl:ov=rf a:=rx;exact Es I2 ea c n l ry λs3 I3=>⟨σ,_,I3,q2⟩
theorem MV {pl:Sem Bool}{m:Str}{apos:Pos}{args:List Expr}{pins:List (Addr×Obj)}{s:Shared}{σ:St}{H:Hp}{Q:Value->Shared->Prop}{te:TE}(he:PE X e te)(I:Inv X pins σ H s)
  (h:te σ H λx H1=>∃a C dx fs g,x=.ref a/\H1 a=some (.ins C dx fs)/\Cls X.K C/\Meth X.K C m g/\fs.lookup m=none /\
   ∀s1,Inv X pins σ H1 s1->wpAny (model X.prog X.w) X.A (Ve pos (.ref g) [.ref a] (backTo pos (Td args X.env)) (UY pos (Up [] X.env))) Q X.xe s1)
  (ht:eval (.Call (.Attribute e m apos) args [] pos) X.env=(do
   let ov <-eval e X.env
   standAt apos.atName
   let (f,first) <-holding [ov] (getMethod ov m pl)
   Ve pos f first (backTo pos (Td args X.env)) (UY pos (Up [] X.env)))) :
  wpAny (model X.prog X.w) X.A (eval (.Call (.Attribute e m apos) args [] pos) X.env) Q X.xe s:=by
 refine Uu (pl:=pl) (thn (he pins s σ H _ I h) λu s1 ⟨x,H1,I1,rx,a,C,dx,fs,g,ex,ea,c,k,l,q⟩=>?_) ht
 subst ex;obtain rfl:u=rf a:=rx;exact gJ I1 ea c k l (q s1 I1)
end
section
variable{X:Cx}{pins:List (Addr×Obj)}{σ:St}{H:Hp}{s:Shared}{A:Around}{E:Value->Shared->Prop}{Q:Value->Shared->Prop}{c:Value}{b:Bool}
inductive uj (K:ba)(H:Hp):V->Value->Prop where
 |non:uj K H .non (.type "NoneType")
 |bl (x:Bool):uj K H (.bl x) (.type "bool")
 |int (i:Int):uj K H (.int i) (.type "int")
 |str (x:Str):uj K H (.str x) (.type "str")
 |flt (x:UInt64):uj K H (.flt x) (.type "float")
 |lst {a:Addr} {xs:List V} (e:H a=some (.lst xs)):uj K H (.ref a) (.type "list")
 |frz {a:Addr} {o:Obj} {xs:List V} (e:H a=some (.frz o (.lst xs))):uj K H (.ref a) (.type "list")
 |tup {a:Addr} {xs:List V} (e:H a=some (.tup xs)):uj K H (.ref a) (.type "tuple")
 |dK {a:Addr} {kvs:List (Key×V)} (e:H a=some (.dK kvs)):uj K H (.ref a) (.type "dict")
 |dT {a:Addr} {kvs:List (List Key×V)} (e:H a=some (.dT kvs)):uj K H (.ref a) (.type "dict")
 |ins {a C dx:Addr} {fs:List (Str×V)} (e:H a=some (.ins C dx fs)) (cl:Cls K C) (ha:Ts K (.ref C) "__class__"=some (some (.builtin "object.__class__")))
   (hn:PySem.W.specialIn K (.builtin "object.__class__") "__get__"=some (some (.builtin "getset_descriptor.__get__"))) (htk:PySem.W.takesIn K (.builtin "object.__class__")=some true)
   (hm:Vm K C (.type "object")=some true):uj K H (.ref a) (.ref C)
theorem Ag {x:V}{u t:Value}(I:Inv X pins σ H s)(rx:RelV x u)(ty:uj X.K H x t)(e:Ua X.K t c=some b)(h:∀tk,Q (.bool b) { s with toks:=tk }) :
  wpAny (model X.prog X.w) A (call (.builtin "isinstance") [u,c]) Q E s:=by
 cases ty with
 |non=>cases (show u=Us from rx);exact T8 PySem.W.kitx_none I.kIn UA e (λz=>nomatch z) h
 |bl y=>cases (show u=UH y from rx);exact T8 PySem.W.kitx_bool I.kIn UA e (λz=>nomatch z) h
 |int i=>obtain⟨t,q⟩:=(show ∃t,u=Value.int i t from rx);cases q;exact T8 PySem.W.kitx_int I.kIn UA e (λz=>nomatch z) h
 |str y=>obtain⟨t,q⟩:=(show ∃t,u=Value.str y t from rx);cases q;exact T8 PySem.W.kitx_str I.kIn UA e (λz=>nomatch z) h
 |flt y=>obtain⟨t,q⟩:=(show ∃t,u=Value.float y t from rx);cases q;exact T8 PySem.W.kitx_float I.kIn UA e (λz=>nomatch z) h
 | @lst a xs ea =>
  cases (show u=rf a from rx)
  obtain⟨_,_,n,_,h1⟩:=(show cf X.prog X.w H s.heap a (.lst xs) from I.hok a _ ea)
  exact T8 PySem.W.kitx_list I.kIn ⟨_,h1,rfl⟩ e (λz=>nomatch z) h
 | @frz a ob xs ea =>
  cases (show u=rf a from rx)
  obtain⟨_,_,_,n,_,h1⟩:=(show cf X.prog X.w H s.heap a (.frz ob (.lst xs)) from I.hok a _ ea)
  exact T8 PySem.W.kitx_list I.kIn ⟨_,h1,rfl⟩ e (λz=>nomatch z) h
 | @tup a xs ea =>
  cases (show u=rf a from rx)
  obtain⟨_,_,_,p⟩:=(show cf X.prog X.w H s.heap a (.tup xs) from I.hok a _ ea)
  obtain⟨o,h1,h2,_⟩:=p;exact T8 PySem.W.kitx_tuple I.kIn ⟨o,h1,h2⟩ e (λz=>nomatch z) h
 | @dK a kvs ea =>
  cases (show u=rf a from rx)
  obtain⟨_,_,vs,_,p⟩:=(show cf X.prog X.w H s.heap a (.dK kvs) from I.hok a _ ea)
  obtain⟨o,es,ep,h1,h2,_⟩:=p;exact T8 PySem.W.kitx_dict I.kIn ⟨o,h1,h2.1⟩ e (λz=>nomatch z) h
 | @dT a kvs ea =>
  cases (show u=rf a from rx)
  obtain⟨_,_,xs,_,o,es,ep,h1,h2,_⟩:=(show cf X.prog X.w H s.heap a (.dT kvs) from I.hok a _ ea)
  exact T8 PySem.W.kitx_dict I.kIn ⟨o,h1,h2.1⟩ e (λz=>nomatch z) h
 | @ins a C dx fs ea cl ha hn htk hm =>
  cases (show u=rf a from rx)
  obtain⟨mA,O,_⟩:=wX I.hok ea;obtain⟨od,J,_⟩:=O.look;exact T8 (PySem.W.kitx_own (cl.get _) cl.hd ha hn htk hm) I.kIn J e (λz=>nomatch z) h
end
structure Room (k:Nat)(A:Around):Prop where
 hd:A.handled=none
 dp:A.depth+3 * k+5 < recursionLimit
 un:A.units+16 * k+200 < cLine
 gd:A.guards=some []
theorem Room.mono {j k:Nat}{A:Around}(r:Room k A)(h:j<=k):Room j A:=⟨r.hd,by have:=r.dp;omega,by have:=r.un;omega,r.gd⟩
theorem Room.deeper {k:Nat}{A:Around}(r:Room (k+1) A)(env:Env):Room k (A.deeper env) :=
 ⟨r.hd,by have:=r.dp;show A.depth+1+3 * k+5 < _;omega,by have:=r.un;show A.units+3+16 * k+200 < _;omega,r.gd⟩
theorem Room.in1 {k:Nat}{A:Around}(r:Room (k+1) A):Room k A.in1 :=
 ⟨r.hd,by have:=r.dp;show A.depth+3 * k+5 < _;omega,by have:=r.un;show A.units+1+16 * k+200 < _;omega,r.gd⟩
theorem Et {A:Around}{C:Addr}{us:List Value}{kw:List (Str×Value)}:(A.under (.builtin "type.__call__" ⟨.ref C::us,kw⟩)).depth=A.depth+1:=by
 first | rfl | simp[Around.under,Code.weight,Code.isCreation,Code.isGuard,Code.isCaller,Code.frames,Code.isFrame,guardIds]
theorem Eu {A:Around}{C:Addr}{us:List Value}{kw:List (Str×Value)}:(A.under (.builtin "type.__call__" ⟨.ref C::us,kw⟩)).units=A.units+1:=by
 first | rfl | simp[Around.under,Code.cUnits,Code.frames,Code.isFrame]
theorem Room.make {k:Nat}{A:Around}(r:Room (k+1) A)(C:Addr)(us:List Value)(kw:List (Str×Value)):Room k (A.under (.builtin "type.__call__" ⟨.ref C::us,kw⟩)) :=
 ⟨r.hd,by have:=r.dp;rw[Et];omega,by have:=r.un;rw[Eu];omega,by
  have g:=r.gd
  first | exact g | simp[Around.under,Code.guards,Code.isGuard,guardIds,pushGuards,g]⟩
theorem Room.depth {k:Nat}{A:Around}(r:Room k A):A.depth < recursionLimit:=by have:=r.dp;omega
theorem Room.units {k:Nat}{A:Around}(r:Room k A):A.units+64 < cLine:=by have:=r.un;omega
def Qf:TA:=λ_ H Q=>Q [] H
def Qg (ta:TE)(tr:TA):TA:=λσ H Q=>ta σ H λx H1=>tr σ H1 λxs H2=>Q (x::xs) H2
section
variable{X:Cx}{e:Expr}{es:List Expr}{te:TE}{t:TA}{pos:Pos}
theorem af:PA X [] Qf:=λ_ _ _ _ H Q I h=>Calls.spliced_nil ⟨[],H,I,.nil,h⟩
theorem aa (ha:PE X e te)(hr:PA X es t)(hs:Td (e::es) X.env=(false,eval e X.env)::Td es X.env:=by rfl):PA X (e::es) (Qg te t):=by
 intro pos pins s σ H Q I h;rw[hs];show wpAny _ _ (spliced ((false,eval e X.env)::backTo pos (Td es X.env))) _ _ s;refine Calls.spliced_cons (thn (ha pins s σ H _ I h) λu s1 ⟨x,H1,I1,r1,q1⟩=>?_)
 exact thn (hr pos pins s1 σ H1 _ I1 q1) λus s2 ⟨xs,H2,I2,r2,q2⟩=>⟨x::xs,H2,I2,.cons r1 r2,q2⟩
def R7 (t:TA):TE:=λσ H Q=>t σ H λxs H1=>xs.length<=eg/\∀p,H1 p=none->Q (.ref p) (upd H1 p (.tup xs))
def R8 (t:TA):TE:=λσ H Q=>t σ H λxs H1=>xs.length<=eg/\∀p,H1 p=none->Q (.ref p) (upd H1 p (.lst xs))
theorem bM {x1}(h:PA X es t):PE X (.Tuple es x1 pos) (R7 t):=by
 intro pins s σ H Q I hq;refine wpAny_Tuple_spliced (thn (h pos pins s σ H _ I hq) λus s1 ⟨xs,H1,I1,r,z,q⟩=>⟨by rw[<-r.length];exact z,?_⟩)
 have hf:H1 s1.heap.objs.size=none:=I1.hok.fresh (kc _);refine⟨.ref s1.heap.objs.size,upd H1 s1.heap.objs.size (.tup xs),I1.laid (t':=s1.toks) (λb u e=>fu _ e) (kc _) ?_,rfl,q _ hf⟩
 exact⟨z,us,r,⟨_,tm _ rfl,rfl,_,rfl⟩⟩
theorem bX (h:PA X es t):PE X (.List es pos) (R8 t):=by
 intro pins s σ H Q I hq;refine wpAny_List_spliced (thn (h pos pins s σ H _ I hq) λus s1 ⟨xs,H1,I1,r,z,q⟩=>⟨by rw[<-r.length];exact z,?_⟩)
 have hf:H1 s1.heap.objs.size=none:=I1.hok.fresh (kc _);refine⟨.ref s1.heap.objs.size,upd H1 s1.heap.objs.size (.lst xs),I1.laid (t':=s1.toks) (λb u e=>fu _ e) (kc _) ?_,rfl,q _ hf⟩
 exact⟨z,us,0,r,tm _ rfl⟩
end
abbrev Sp:=List V->Hp->VK->XK->Prop
abbrev CXT:=List Env->Hp->Shared->XK->Value->Shared->Prop
structure rT (P:km)(w:World)(K:ba)(mg:Str->Option Value)(base:Heap)(A:Around)(outer:List Env)(s:Shared)(H:Hp):Prop where
 frames:A.frames=some outer
 mod:Mod K mg base
 bs:∀b o,base.get? b=some o->s.heap.get? b=some o/\H b=none
 bsz:base.objs.size<=s.heap.objs.size
 ly:s.heap.FunFrames base outer
 frf:∀b∈frs outer,H b=none
 hok:HOk P w H s.heap
 bare:AllBare s.gens
def CE (outer:List Env)(P:km)(w:World)(H:Hp)(s:Shared)(Q:VK)(u:Value)(s':Shared):Prop :=
 ∃v H',s'.os=s.os/\AllBare s'.gens/\Un (frs outer) [] H H' s.heap s'.heap/\HOk P w H' s'.heap/\RelV v u/\Q v H'
def CR (CX:CXT)(outer:List Env)(P:km)(w:World)(H:Hp)(s:Shared)(Q:VK)(E:XK)(r:Result)(s':Shared):Prop :=
 match r with
 | .ok (.ret u)=>CE outer P w H s Q u s'
 | .ok _=>False
 | .error e=>CX outer H s E e s'
structure FnOk (P:km)(w:World)(K:ba)(mg:Str->Option Value)(base:Heap)(CX:CXT)(k:Nat)(f:Addr)(fd:gp)(ps:List Str)(sp:Sp):Prop where
 len:∀vs H Q E,sp vs H Q E->vs.length=ps.length
 run:∀(A:Around) (outer:List Env) (s:Shared) (H:Hp) (args:Args) (us:List Value) (vs:List V) (Q:VK) (E:XK),Room k A->rT P w K mg base A outer s H->BindsTo s fd args (ps.zip us)->Vals vs us->sp vs H Q E ->
  codeAny (model P w) A (.call (.ref f) args) (CR CX outer P w H s Q E) s
theorem FnOk.mono {P:km}{w:World}{K:ba}{mg:Str->Option Value}{base:Heap}{CX:CXT}{j k:Nat}{f:Addr}{fd:gp}{ps:List Str}{sp:Sp}(F:FnOk P w K mg base CX j f fd ps sp)(h:j<=k) :
  FnOk P w K mg base CX k f fd ps sp:=⟨F.len,λA outer s H args us vs Q E hr=>F.run A outer s H args us vs Q E (hr.mono h)⟩
theorem FnOk.imp {P:km}{w:World}{K:ba}{mg:Str->Option Value}{base:Heap}{CX:CXT}{k:Nat}{f:Addr}{fd:gp}{ps:List Str}{sp sp':Sp}(F:FnOk P w K mg base CX k f fd ps sp)
  (h:∀vs H Q E,sp' vs H Q E->sp vs H Q E):FnOk P w K mg base CX k f fd ps sp' :=
 ⟨λvs H Q E q=>F.len vs H Q E (h _ _ _ _ q),λA outer s H args us vs Q E hr he hb hv hs=>F.run A outer s H args us vs Q E hr he hb hv (h _ _ _ _ hs)⟩
theorem rT.make {P:km}{w:World}{K:ba}{mg:Str->Option Value}{base:Heap}{A:Around}{outer:List Env}{s:Shared}{H:Hp}(e:rT P w K mg base A outer s H)(C:Addr)(us:List Value)(kw:List (Str×Value)) :
  rT P w K mg base (A.under (.builtin "type.__call__" ⟨.ref C::us,kw⟩)) outer s H:=⟨by first | exact e.frames | (simpa [Around.under,Code.envs,Code.isFrame,pushEnvs] using e.frames),e.mod,e.bs,e.bsz,e.ly,e.frf,e.hok,e.bare⟩
theorem rT.in1 {P:km}{w:World}{K:ba}{mg:Str->Option Value}{base:Heap}{A:Around}{outer:List Env}{s:Shared}{H:Hp}(e:rT P w K mg base A outer s H) :
  rT P w K mg base A.in1 outer s H:=⟨e.frames,e.mod,e.bs,e.bsz,e.ly,e.frf,e.hok,e.bare⟩
section
variable{X:Cx}{pins:List (Addr×Obj)}{σ:St}{H:Hp}{s s':Shared}
theorem Inv.II (I:Inv X pins σ H s):rT X.prog X.w X.K X.mg X.base X.A X.stack s H :=
 ⟨I.ok.frames,I.ok.mod,I.bs,ra I.ok.bsz I.sz,I.stack,I.wV,I.hok,I.bare⟩
theorem Inv.after {Q:VK}{u:Value}(I:Inv X pins σ H s)(h:CE X.stack X.prog X.w H s Q u s'):EP X pins σ Q u s':=by
 obtain⟨v,H',os,bare,un,hok,r,q⟩:=h;obtain⟨hh,g,d,t,os'⟩:=s';obtain rfl:os'=s.os:=os;exact⟨v,H',I.call (h':=hh) (g':=g) (d':=d) (t':=t) (ch:=[]) un hok bare (λb z=>absurd z (by simp)),r,q⟩
end
def Qh (sp:Sp)(dvs:List V)(E:XK)(t:TA):TE:=λσ H Q=>t σ H λvs H1=>sp (vs++dvs) H1 Q E
def MW (C:Addr)(m:Str)(sp:Sp)(dvs:List V)(E:XK)(ta:TE)(t:TA):TE:=λσ H Q=>ta σ H λx H1=>∃a dx fs,x=.ref a/\H1 a=some (.ins C dx fs)/\fs.lookup m=none /\
 t σ H1 λvs H2=>sp (x::(vs++dvs)) H2 Q E
def Qi (C:Addr)(sp:Sp)(dvs:List V)(E:XK)(t:TA):TE:=λσ H Q=>t σ H λvs H1=>∀x dx,H1 x=none->H1 dx=none->dx≠x ->
 sp (.ref x::(vs++dvs)) (upd (upd H1 dx (.own x)) x (.ins C dx [])) (λv H2=>v=.non/\Q (.ref x) H2) E
def Binds (K:ba)(fd:gp)(ps:List Str)(ds:List Value):Prop :=
 ∀(s:Shared) (us:List Value),K.In s.heap->(us++ds).length=ps.length->BindsTo s fd ⟨us,[]⟩ (ps.zip (us++ds))
theorem Binds.all {K:ba}{fd:gp}{ps:List Str}(h:∀us:List Value,us.length=ps.length->bindArgs fd ⟨us,[]⟩=pure (ps.zip us)):Binds K fd ps []:=λs us _ hl=>by
 rw[T9]at hl ⊢;exact .of_eq (h us hl)
def Passes (CX:CXT)(X:Cx)(E:XK):Prop:=∀(pins:List (Addr×Obj)) (σ:St) (H:Hp) (s:Shared) (e:Value) (s':Shared),Inv X pins σ H s->CX X.stack H s E e s'->X.xe e s'
section
variable{X:Cx}{CX:CXT}{k:Nat}{f C:Addr}{fd:gp}{ps:List Str}{sp:Sp}{dvs:List V}{ds:List Value}{E:XK}{x m:Str}{p pos apos:Pos}{e o:Expr}{es:List Expr}{ta:TE}{t:TA}
theorem Bc {pins:List (Addr×Obj)}{σ:St}{H:Hp}{s:Shared}{Q:VK}{us:List Value}{vs:List V}(F:FnOk X.prog X.w X.K X.mg X.base CX k f fd ps sp)(hr:Room k X.A)(hb:Binds X.K fd ps ds)(hd:Vals dvs ds)(hx:Passes CX X E)
  (I:Inv X pins σ H s) (r:Vals vs us) (h:sp (vs++dvs) H Q E):wpAny (model X.prog X.w) X.A (call (.ref f) us) (EP X pins σ Q) X.xe s:=by
 have r2:Vals (vs++dvs) (us++ds):=r.append hd;have hl:(us++ds).length=ps.length:=by rw[<-r2.length];exact F.len _ _ _ _ h
 refine UO (codeAny_mono (F.run X.A X.stack s H ⟨us,[]⟩ (us++ds) (vs++dvs) Q E hr I.II (hb s us I.kIn hl) r2 h) λr s' hq=>?_)
 cases r with
 |error e=>exact hx pins σ H s e s' I hq
 |ok fl =>
  cases fl with
  |ret u=>exact I.after hq
  |next=>exact Tq hq
  |brk=>exact Tq hq
  |cont=>exact Tq hq
theorem aW (F:FnOk X.prog X.w X.K X.mg X.base CX k f fd ps sp)(hr:Room k X.A)(hg:Gl X x)(hm:X.mg x=some (.ref f))(hk:UX X.K (.ref f)=true)(hb:Binds X.K fd ps ds)(hd:Vals dvs ds)(hx:Passes CX X E)
  (ha:PA X (e::es) t) (hdb:(x == ("__debug__":Str))=false:=by decide) (he:Td (e::es) X.env=(false,eval e X.env)::Td es X.env:=by rfl) (hpl:(backTo pos (Td es X.env)).any (·.1)=false:=by rfl) :
  PE X (.Call (.Name x p) (e::es) [] pos) (Qh sp dvs E t):=by
 intro pins s σ H Q I h;refine wpAny_Call_Name_kw (fU I hg hm ?_ hdb);refine UZ (h₀:=X.base) I.ok.mod.kin hk (thn (ha pos pins s σ H _ I h) λus s1 ⟨vs,H1,I1,r,q⟩=>⟨I1.kIn,?_⟩) he hpl
 exact Bc F hr hb hd hx I1 r q
theorem fj {pl:Sem Bool}(he:PE X o ta)(c:Cls X.K C)(hm:Meth X.K C m f)(F:FnOk X.prog X.w X.K X.mg X.base CX k f fd ps sp)(hr:Room k X.A)(hb:Binds X.K fd ps ds)(hd:Vals dvs ds)(hx:Passes CX X E)(ha:PA X (e::es) t)
  (hst:Td (e::es) X.env=(false,eval e X.env)::Td es X.env:=by rfl) (hpl:(backTo pos (Td es X.env)).any (·.1)=false:=by rfl)
  (ht:eval (.Call (.Attribute o m apos) (e::es) [] pos) X.env=(do
   let ov <-eval o X.env
   standAt apos.atName
   let (f,first) <-holding [ov] (getMethod ov m pl)
   Ve pos f first (backTo pos (Td (e::es) X.env)) (UY pos (Up [] X.env))):=by rfl) :
  PE X (.Call (.Attribute o m apos) (e::es) [] pos) (MW C m sp dvs E ta t):=by
 intro pins s σ H Q I h;refine Uu (pl:=pl) (thn (he pins s σ H _ I h) λu s1 ⟨x,H1,I1,rx,a,dx,fs,ex,ea,l,q⟩=>?_) ht
 subst ex;obtain rfl:u=rf a:=rx;refine gJ I1 ea c hm l ?_;refine UZ (first:=[.ref a]) (h₀:=X.base) I.ok.mod.kin hm.kp (thn (ha pos pins s1 σ H1 _ I1 q) λus s2 ⟨vs,H2,I2,r,q2⟩=>⟨I2.kIn,?_⟩) hst hpl
 exact Bc (us:=.ref a::us) (vs:=.ref a::vs) F hr hb hd hx I2 (.cons rfl r) q2
theorem cJ {pl:Sem Bool}(he:PE X o ta)(c:Cls X.K C)(hm:Meth X.K C m f)(F:FnOk X.prog X.w X.K X.mg X.base CX k f fd ps sp)(hr:Room k X.A)(hb:Binds X.K fd ps ds)(hd:Vals dvs ds)(hx:Passes CX X E)
  (ht:eval (.Call (.Attribute o m apos) [] [] pos) X.env=(do
   let ov <-eval o X.env
   standAt apos.atName
   let (f,first) <-holding [ov] (getMethod ov m pl)
   Ve pos f first (backTo pos (Td [] X.env)) (UY pos (Up [] X.env))):=by rfl) :
  PE X (.Call (.Attribute o m apos) [] [] pos) (MW C m sp dvs E ta Qf):=by
 intro pins s σ H Q I h;refine Uu (pl:=pl) (thn (he pins s σ H _ I h) λu s1 ⟨x,H1,I1,rx,a,dx,fs,ex,ea,l,q⟩=>?_) ht
 subst ex;obtain rfl:u=rf a:=rx;refine gJ I1 ea c hm l ?_;exact PySem.W.callWith_K0 (first:=[.ref a]) I1.kIn hm.kp (Bc (us:=[.ref a]) (vs:=[.ref a]) F hr hb hd hx I1 (.cons rfl .nil) q)
structure Mk (K:ba)(C f:Addr):Prop where
 makes:PySem.W.makesIn K C=true
 init:Ts K (.ref C) "__init__"=some (some (.ref f))
 fn:PySem.W.isFn K (.ref f)=true
 kp:UX K (.ref C)=true
theorem IJ {pins:List (Addr×Obj)}{σ:St}{H:Hp}{s:Shared}{Q:VK}{us:List Value}{vs:List V}(M:Mk X.K C f)(F:FnOk X.prog X.w X.K X.mg X.base CX k f fd ps sp)(hr:Room (k+1) X.A)(hb:Binds X.K fd ps ds)(hd:Vals dvs ds)
  (hx:Passes CX X E) (I:Inv X pins σ H s) (r:Vals vs us)
  (h:∀x dx,H x=none->H dx=none->dx≠x->sp (.ref x::(vs++dvs)) (upd (upd H dx (.own x)) x (.ins C dx [])) (λv H2=>v=.non/\Q (.ref x) H2) E) :
  wpAny (model X.prog X.w) X.A (call (.ref C) us) (EP X pins σ Q) X.xe s:=by
 have hq:=h (s.heap.objs.size+1) s.heap.objs.size (I.hok.fresh (Ut _)) (I.hok.fresh (kc _)) (Tf (Nat.lt_succ_self _));have I2:=Inv.made (C:=C) I;have r2:Vals (V.ref (s.heap.objs.size+1)::(vs++dvs)) (rf (s.heap.objs.size+1)::(us++ds)):=.cons rfl (r.append hd);have hl:(rf (s.heap.objs.size+1)::us++ds).length=ps.length:=by
  have e:=r2.length;rw[F.len _ _ _ _ hq]at e;exact e.symm
 refine UO (IH (f:=f) I.kIn M.makes M.init (beq_iff_eq.mp M.fn) (codeAny_mono (F.run _ X.stack _ _ ⟨rf (s.heap.objs.size+1)::us,[]⟩ (rf (s.heap.objs.size+1)::(us++ds)) _ _ E (hr.make C us [])
  (I2.II.make C us []) (hb _ (rf (s.heap.objs.size+1)::us) I2.kIn hl) r2 hq) λr s' hq'=>?_))
 cases r with
 |error e=>exact hx pins σ _ _ e s' I2 hq'
 |ok fl =>
  cases fl with
  |ret u =>
   obtain⟨v,H',I3,rv,ev,q3⟩:=I2.after hq';subst ev;exact⟨rv,⟨V.ref (s.heap.objs.size+1),H',I3,rfl,q3⟩⟩
  |next=>exact Tq hq'
  |brk=>exact Tq hq'
  |cont=>exact Tq hq'
theorem cZ (M:Mk X.K C f)(F:FnOk X.prog X.w X.K X.mg X.base CX k f fd ps sp)(hr:Room (k+1) X.A)(hg:Gl X x)(hm:X.mg x=some (.ref C))(hb:Binds X.K fd ps ds)(hd:Vals dvs ds)(hx:Passes CX X E)
  (ha:PA X (e::es) t) (hdb:(x == ("__debug__":Str))=false:=by decide) (he:Td (e::es) X.env=(false,eval e X.env)::Td es X.env:=by rfl) (hpl:(backTo pos (Td es X.env)).any (·.1)=false:=by rfl) :
  PE X (.Call (.Name x p) (e::es) [] pos) (Qi C sp dvs E t):=by
 intro pins s σ H Q I h;refine wpAny_Call_Name_kw (fU I hg hm ?_ hdb);refine UZ (h₀:=X.base) I.ok.mod.kin M.kp (thn (ha pos pins s σ H _ I h) λus s1 ⟨vs,H1,I1,r,q⟩=>⟨I1.kIn,?_⟩) he hpl
 exact IJ M F hr hb hd hx I1 r q
end
section
variable{X:Cx}{CX:CXT}{k:Nat}{f C:Addr}{fd:gp}{ps ks:List Str}{sp:Sp}{E:XK}{x m:Str}{p pos apos S7:Pos}{e o:Expr}{es:List Expr}{kws:List Keyword}{te ta:TE}{t tk:TA}{nm:Option Str}
structure R9 (K:ba)(fd:gp)(ps ks:List Str)(g:List Value->List Value->List Value)(gV:List V->List V->List V):Prop where
 to:∀(s:Shared) (us ws:List Value),K.In s.heap->(g us ws).length=ps.length->BindsTo s fd ⟨us,ks.zip ws⟩ (ps.zip (g us ws))
 rel:∀ {vs:List V} {us:List Value} {zs:List V} {ws:List Value},Vals vs us->Vals zs ws->Vals (gV vs zs) (g us ws)
variable{g:List Value->List Value->List Value}{gV:List V->List V->List V}
end
structure ax (N P:List Str)(sc:Scope):Prop where
 kind:sc.kind=.function
 co:sc.isCoroutine=false
 gen:sc.isGenerator=false
 nd:N.Nodup
 pre:N.take P.length=P
 par:∀x∈P,sc.names.lookup x=some .local\/sc.names.lookup x=some .cell
 NK:∀y∈sc.names,y.2≠.free
theorem Ah {kindOf:Str->Option NameKind}{x:Str}:∀ {binds:List (Str×Value)} {m:Str->Option Value},(∀v,(x,v)∉binds)->bindL kindOf binds m x=m x
 |[],_,_=>rfl
 | (n,v)::r,m,h=>by
  unfold bindL;rw[Ah λw hw=>h w (kf _ hw)]
  split
  ·have:x≠n:=by rintro rfl;exact h v gc
   simp[this]
  ·rfl
theorem Ai {kindOf:Str->Option NameKind}{x:Str}:∀ {binds:List (Str×Value)} {m:Str->Option Value},(∀v,(x,v)∉binds)->bindC kindOf binds m x=m x
 |[],_,_=>rfl
 | (n,v)::r,m,h=>by
  unfold bindC;rw[Ai λw hw=>h w (kf _ hw)]
  split
  ·rfl
  ·have:x≠n:=by rintro rfl;exact h v gc
   simp[this]
theorem Aj {kindOf:Str->Option NameKind}{x:Str}{v:Value}:∀ {P:List Str} {vs:List Value} {i:Nat} {m:Str->Option Value},P.Nodup->P[i]?=some x->vs[i]?=some v->kindOf x=some .local ->
  bindL kindOf (P.zip vs) m x=some v
 |[],_,_,_,_,h,_,_=>by simp at h
 |_::_,[],_,_,_,_,h,_=>by simp at h
 |p::P,w::vs,0,m,nd,h1,h2,hk=>by
  simp at h1 h2;subst h1;subst h2;show bindL kindOf ((p,w)::P.zip vs) m p=_;unfold bindL;rw[Ah λv hv=>(List.nodup_cons.mp nd).1 (List.of_mem_zip hv).1,if_pos hk]
  simp
 |p::P,w::vs,i+1,m,nd,h1,h2,hk=>by
  show bindL kindOf ((p,w)::P.zip vs) m x=_;unfold bindL;exact Aj (i:=i) (List.nodup_cons.mp nd).2 (by simpa using h1) (by simpa using h2) hk
theorem Ak {kindOf:Str->Option NameKind}{x:Str}{v:Value}:∀ {P:List Str} {vs:List Value} {i:Nat} {m:Str->Option Value},P.Nodup->P[i]?=some x->vs[i]?=some v->kindOf x≠some .local ->
  bindC kindOf (P.zip vs) m x=some v
 |[],_,_,_,_,h,_,_=>by simp at h
 |_::_,[],_,_,_,_,h,_=>by simp at h
 |p::P,w::vs,0,m,nd,h1,h2,hk=>by
  simp at h1 h2;subst h1;subst h2;show bindC kindOf ((p,w)::P.zip vs) m p=_;unfold bindC;rw[Ai λv hv=>(List.nodup_cons.mp nd).1 (List.of_mem_zip hv).1,if_neg hk]
  simp
 |p::P,w::vs,i+1,m,nd,h1,h2,hk=>by
  show bindC kindOf ((p,w)::P.zip vs) m x=_;unfold bindC;exact Ak (i:=i) (List.nodup_cons.mp nd).2 (by simpa using h1) (by simpa using h2) hk
def start (N:List Str)(vs:List V):St:=vs.map some++Vf (N.length - vs.length) none
def br (CX:CXT)(P:km)(w:World)(K:ba)(mg:Str->Option Value)(base:Heap)(N:List Str)(qual:Str)(scope:Scope)(f:Addr)(cd:Value)(A:Around)(outer:List Env)(s:Shared)(H:Hp)(E:XK):Cx where
 prog:=P
 w:=w
 K:=K
 mg:=mg
 base:=base
 A:=A.deeper (envOfC qual scope s.heap.objs.size f cd)
 N:=N
 s₀:=s
 H₀:=H
 env:=envOfC qual scope s.heap.objs.size f cd
 outer:=outer
 stack:=envOfC qual scope s.heap.objs.size f cd::outer
 ex:=[]
 calm:=true
 fn:=λ_=>true
 pn:=[]
 xe:=λe s'=>wpAny (model P w) (A.deeper (envOfC qual scope s.heap.objs.size f cd)) (leaving (envOfC qual scope s.heap.objs.size f cd) e) (λ_ s''=>CX outer H s E e s'') (λe' s''=>CX outer H s E e' s'') s'
theorem CG {sc:Scope}{n:Nat}{x:Str}(h:sc.names.lookup x=some .cell):∃c,(cellsFrom n sc.names []).lookup x=some c:=by
 have q:=PySem.W.cellsFrom_some sc.names n [] (.inl h);exact Option.isSome_iff_exists.mp q
theorem Al {CX:CXT}{P:km}{w:World}{K:ba}{mg:Str->Option Value}{base:Heap}{N ps:List Str}{qual:Str}{scope:Scope}{f:Addr}{cd:Value}{A:Around}{outer:List Env}{s s1:Shared}{H:Hp}{E:XK}{us:List Value}{vs:List V}
  (S:ax N ps scope) (hd:A.handled=none) (e0:rT P w K mg base A outer s H) (hl:vs.length=ps.length) (r:Vals vs us)
  (x:InCallC s s.heap.objs.size (bindL (envOfC qual scope s.heap.objs.size f cd).kindOf (ps.zip us) λ_=>none) (cellsFrom (s.heap.objs.size+1) scope.names []) (bindC (envOfC qual scope s.heap.objs.size f cd).kindOf (ps.zip us) λ_=>none) s1) :
  Inv (br CX P w K mg base N qual scope f cd A outer s H E) [] (start N vs) H s1:=by
 have hpl:ps.length<=N.length:=by have:=congrArg U5 S.pre;rw[To]at this;omega
 obtain⟨h1,tk,rfl,hk⟩:=x.done;have noA:∀b:Addr,b∉(br CX P w K mg base N qual scope f cd A outer s H E).ex:=λb z=>absurd (show b∈([]:List Addr) from z) (by simp)
 refine⟨⟨e0.mod,S.kind,rfl,rfl,kc _,λy z c h1 h2=>?_,λy hy=>?_,λy c _ h=>?_,λ_=>hd,Around.frames_deeper e0.frames,.inr ⟨rfl,rfl⟩,λb z=>absurd z (noA b),e0.bs,e0.bsz,λb _ _=>noA b,λb z=>absurd z (noA b),e0.ly,e0.frf⟩,
  rfl,e0.bare,Un.kept hk,⟨_,x.toInCall.ns,λi y v h1 h2 h3=>?_⟩,λy c h=>⟨_,x.cell y c h⟩,e0.hok.fresh (kc _),λy c h=>?_,λp hp=>absurd (show p∈([]:List (Addr×Obj)) from hp) (by simp),e0.hok.kept hk,?_⟩
 ·exact name_of_addr x.apart (UD h1) (UD h2)
 ·have hy:scope.names.lookup y=some .cell\/scope.names.lookup y=some .free:=hy;rcases hy with hy | hy
  ·exact CG hy
  ·exact absurd rfl (S.NK _ (UD hy))
 ·exact Nat.le_of_lt (x.above y c (UD h))
 ·have hi:i < vs.length:=by
   unfold start at h2
   by_cases hi:i < vs.length
   ·exact hi
   ·rw[UB (by simpa using hi)]at h2
    rw[List.getElem?_replicate]at h2;split at h2 <;> cases h2
  have ha:vs[i]?=some v:=by
   unfold start at h2;rw[Ur (by simpa using hi),wt]at h2
   cases e:vs[i]? with
   |none=>rw[e]at h2;cases h2
   |some a=>rw[e]at h2;cases h2;rfl
  obtain⟨u,hu,rv⟩:=r.get ha;have hp:ps[i]?=some y:=by
   rw[<-S.pre,List.getElem?_take_of_lt (by omega)];exact h1
  have ndP:ps.Nodup:=by rw[<-S.pre];exact S.nd.sublist (List.take_sublist _ _)
  refine⟨u,rv,?_⟩;rcases S.par y (Ti hp) with k | k
  ·exact .inl ⟨k,Aj ndP hp hu k⟩
  ·obtain⟨c,e⟩:=CG (n:=s.heap.objs.size+1) k;refine .inr ⟨.inl k,c,e,?_⟩;have q:=x.cell y c e;rw[Ak ndP hp hu (by show scope.names.lookup y≠_;rw[k];decide)]at q
   exact q
 ·exact e0.hok.fresh (Nat.le_of_lt (x.above y c (UD h)))
 ·unfold start;show _=N.length;rw[gr,bo,UG];omega
theorem IK {CX:CXT}{P:km}{w:World}{K:ba}{mg:Str->Option Value}{base:Heap}{k:Nat}{f:Addr}{name qual:Str}{params:Arguments}{body:List Stmt}{scope:Scope}{dV kV doc pm cdv ct oc:Value}{an od:Option Addr}
  {osl:Array (Option Value)} {N ps:List Str} {sp:Sp} (lk:K.lookup f=some ⟨oc,od,.func (PySem.W.fnOf name qual params body scope dV kV doc pm an cdv ct),osl⟩) (hcd:PySem.W.codeIn K cdv qual=true) (S:ax N ps scope)
  (len:∀vs H Q E,sp vs H Q E->vs.length=ps.length)
  (rV:∀(A:Around) (outer:List Env) (s:Shared) (H:Hp) (vs:List V) (Q:VK) (E:XK),Room k (A.deeper (envOfC qual scope s.heap.objs.size f cdv))->sp vs H Q E ->
   ∃t,PSs (br CX P w K mg base N qual scope f cdv A outer s H E) body t/\t { nx:=λ_ H'=>Q .non H',rt:=Q } (start N vs) H) :
  FnOk P w K mg base CX (k+1) f (PySem.W.fnOf name qual params body scope dV kV doc pm an cdv ct) ps sp:=by
 refine⟨len,λA outer s H args us vs Q E hr e0 hb r hsp=>?_⟩
 have hl:=len _ _ _ _ hsp;have KX:K.In s.heap:=e0.mod.kin.keeps λb o e=>(e0.bs b o e).1
 have lim:s.heap.NoLimit:=e0.mod.nolimit.keeps λb o e=>(e0.bs b o e).1
 have IL:∀y∈ps.zip us,scope.names.lookup y.1=some .local\/(scope.names.lookup y.1=some .cell/\((cellsFrom (s.heap.objs.size+1) scope.names []).lookup y.1).isSome=true):=λ⟨n,v⟩ hy=>by
  rcases S.par n (List.of_mem_zip hy).1 with q | q
  ·exact .inl q
  ·exact .inr ⟨q,PySem.W.cellsFrom_some _ _ _ (.inl q)⟩
 refine codeAny_call_function hr.depth (KX _ _ lk) rfl S.co S.gen rfl (PySem.W.codeRec_of KX hcd) (hb _ _ _ _ ?_);refine wpAny_newFunctionEnv_cells S.kind IL λenv he s1 x=>?_
 subst he;refine⟨lim.keeps x.toInCall.keep,codeAny_func ?_⟩;obtain⟨t,ht,hq⟩:=rV A outer s H vs Q E (hr.deeper _) hsp;have I:Inv (br CX P w K mg base N qual scope f cdv A outer s H E) [] (start N vs) H s1:=Al S hr.hd e0 hl r x;refine kq (ht [] s1 (start N vs) H _ I hq) (λfl s' hs=>?_) λe s' hs=>hs
 have fin:∀ {σ':St} {H':Hp} {v:V} {u:Value},Inv (br CX P w K mg base N qual scope f cdv A outer s H E) [] σ' H' s'->RelV v u->Q v H'->CE outer P w H s Q u s' :=
  λ{σ' H' v u} J rv q=>⟨v,H',J.os,J.bare,J.base,J.hok,rv,q⟩
 cases fl with
 |ret u =>
  obtain⟨v,σ',H',J,rv,q⟩:=hs;exact fin J rv q
 |next =>
  obtain⟨σ',H',J,q⟩:=hs;exact fin (v:=V.non) (u:=Us) J rfl q
 |brk =>
  obtain⟨_,_,_,q⟩:=hs;exact Tq q
 |cont =>
  obtain⟨_,_,_,q⟩:=hs;exact Tq q
section
variable{X:Cx}{x:Str}{p pos:Pos}{e:Expr}{es:List Expr}{t:TA}{id T:String}{r:List V->Hp->VK->Prop}
def tCB (r:List V->Hp->VK->Prop)(t:TA):TE:=λσ H Q=>t σ H λvs H1=>r vs H1 Q
theorem bh (hc:eO X (.builtin id) r)(hg:Gl X x)(hm:X.mg x=none)(hv:T6 x=some (.builtin id))(ha:PA X (e::es) t)(hn:x≠"__name__":=by decide)(hdb:(x == ("__debug__":Str))=false:=by decide)
  (he:Td (e::es) X.env=(false,eval e X.env)::Td es X.env:=by rfl) (hpl:(backTo pos (Td es X.env)).any (·.1)=false:=by rfl):PE X (.Call (.Name x p) (e::es) [] pos) (tCB r t):=by
 intro pins s σ H Q I h;refine wpAny_Call_Name_kw (xj I hg hm hv ?_ hn hdb);exact PyProof.Rows.callWith_builtin1 (thn (ha pos pins s σ H _ I h) λus s1 ⟨vs,H1,I1,r1,q1⟩=>hc pins s1 σ H1 vs us Q I1 r1 q1) he hpl
theorem bP (hc:eO X (.type T) r)(hg:Gl X x)(hm:X.mg x=none)(hv:T6 x=some (.type T))(ha:PA X (e::es) t)(hn:x≠"__name__":=by decide)(hdb:(x == ("__debug__":Str))=false:=by decide)
  (he:Td (e::es) X.env=(false,eval e X.env)::Td es X.env:=by rfl) (hpl:(backTo pos (Td es X.env)).any (·.1)=false:=by rfl):PE X (.Call (.Name x p) (e::es) [] pos) (tCB r t):=by
 intro pins s σ H Q I h;refine wpAny_Call_Name_kw (xj I hg hm hv ?_ hn hdb);exact PyProof.Rows.callWith_type1 (thn (ha pos pins s σ H _ I h) λus s1 ⟨vs,H1,I1,r1,q1⟩=>hc pins s1 σ H1 vs us Q I1 r1 q1) he hpl
end
end L2
namespace HT
open PySem PyProof.Rows
section
open PySem.SeqAt
open PySem.AutoSeq1 (wpAny_loadPart')
open PySem.MeetsSeq PySem.MeetsSeq2 PySem.MeetsSeq3
end
section
variable{prog:km}{w:World}{A:Around}{E:Value->Shared->Prop}{s:Shared}
def sIx (n d:Nat):Option Int->Nat
 |none=>d
 |some v=>if v < 0 then (v+(n:Int)).toNat else min v.toNat n
theorem rW (n d:Nat):sIx n d none=d:=rfl
theorem mx (n d k:Nat):sIx n d (some (k:Int))=min k n:=by
 show (if (k:Int) < 0 then ((k:Int)+(n:Int)).toNat else min (k:Int).toNat n)=min k n
 rw[if_neg (by omega),UM]
theorem NL (n d:Nat)(hd:d<=n)(o:Option Int):sIx n d o<=n:=by
 cases o with
 |none=>exact hd
 |some v =>
  show (if v < 0 then (v+(n:Int)).toNat else min v.toNat n)<=n
  by_cases hv:v < 0
  ·rw[if_pos hv];omega
  ·rw[if_neg hv];exact Nat.min_le_right _ _
theorem FO (v:Int)(n d:Nat):(if v < 0 then max (v+(n:Int)) 0 else min v (n:Int))=((sIx n d (some v):Nat):Int):=by
 show (if v < 0 then max (v+(n:Int)) 0 else min v (n:Int))=(((if v < 0 then (v+(n:Int)).toNat else min v.toNat n):Nat):Int)
 by_cases hv:v < 0
 ·simp only[if_pos hv];omega
 ·simp only[if_neg hv];omega
theorem Ew (lo hi:Option Int)(n:Nat):Builtin.Slice.sliceAdjust lo hi 1 (n:Int)=(((sIx n 0 lo:Nat):Int),((sIx n n hi:Nat):Int)):=by
 have h1:¬((1:Int) < 0):=by omega
 unfold Builtin.Slice.sliceAdjust;simp only[h1,if_false];refine Prod.ext ?_ ?_
 ·cases lo with
  |none=>rfl
  |some v=>exact FO v n 0
 ·cases hi with
  |none=>rfl
  |some v=>exact FO v n n
theorem Ex (i j:Nat):U0 (i:Int) (j:Int) 1=j - i:=by
 unfold U0;have h1:(1:Int) > 0:=by omega
 simp only[h1,if_true,Int.ediv_one];split <;> omega
theorem xr {v:Value}{o:Option Int}{Q:Option Int->Shared->Prop}(p:IsPart v o)(h:Q o s):wpAny (model prog w) A (Builtin.Slice.slicePartIndex v) Q E s:=by
 cases p with
 |none=>exact slicePart_none h
 |int i t=>exact slicePart_int h
theorem uk {sl:Addr}{vl vu:Value}{lo hi:Option Int}{n:Nat}{Q:Int×Int×Nat->Shared->Prop}(hs:s.heap.IsSliceOf sl vl vu .none)(pl:IsPart vl lo)(pu:IsPart vu hi)
  (h:Q (((sIx n 0 lo:Nat):Int),1,sIx n n hi - sIx n 0 lo) s):wpAny (model prog w) A (Builtin.Slice.sliceApplied (.ref sl) (pure (n:Int))) Q E s:=by
 obtain⟨os,hos,hcs,hds⟩:=id hs;unfold Builtin.Slice.sliceApplied Builtin.Slice.sliceFields;refine de (de (UE hos hds (x:=vl) rfl (de (UE hos hds (x:=vu) rfl (de (UE hos hds (x:=.none) rfl (kj ?_)))))));refine de (slicePart_none ?_);show wpAny _ _ (if ((1:Int) == 0)=true then _ else _) _ _ s
 rw[if_neg (by decide)]
 refine de (xr pl (de (xr pu (de (kj ?_)))));show wpAny _ _ (match Builtin.Slice.sliceAdjust lo hi 1 (n:Int) with | (lo,hi)=>pure (lo,(1:Int),U0 lo hi 1)) _ _ s
 rw[Ew lo hi n];show wpAny _ _ (pure (((sIx n 0 lo:Nat):Int),(1:Int),U0 ((sIx n 0 lo:Nat):Int) ((sIx n n hi:Nat):Int) 1)) _ _ s;rw[Ex];exact kj h
theorem IM (xs:Array Value)(i k:Nat):((UU k).filterMap λ(m:Nat)=>xs[((i:Int)+(m:Int) * 1).toNat]?).toArray=((xs.toList.drop i).take k).toArray:=by
 have e:(λ(m:Nat)=>xs[((i:Int)+(m:Int) * 1).toNat]?)=λm=>xs[i+m]?:=by
  funext m
  have:((i:Int)+(m:Int) * 1).toNat=i+m:=by omega
  rw[this]
 rw[e];have:=pick_run xs i k;rw[List.filterMap_map]at this;have e2:((λx=>xs[x]?)∘λx=>i+x)=λm=>xs[i+m]?:=rfl
 rw[e2]at this;rw[this]
theorem rX {t sl:Addr}{items:Array Value}{vl vu:Value}{lo hi:Option Int}{Q:Value->Shared->Prop}(ht:IsTup s.heap t items)(hs:s.heap.IsSliceOf sl vl vu .none)(pl:IsPart vl lo)(pu:IsPart vu hi)
  (hw:¬(sIx items.size 0 lo=0/\sIx items.size items.size hi=items.size))
  (h:Q (.ref s.heap.objs.size) { s with heap:=s.heap.push { cls:=.type "tuple",data:=.seq ((items.toList.drop (sIx items.size 0 lo)).take (sIx items.size items.size hi - sIx items.size 0 lo)).toArray } })
  (hsz:items.size<=eg):wpAny (model prog w) A (getItem (.ref t) (.ref sl)) Q E s:=by
 have FP:sizeOk (.seq ((items.toList.drop (sIx items.size 0 lo)).take (sIx items.size items.size hi - sIx items.size 0 lo)).toArray):=by
  show ((items.toList.drop (sIx items.size 0 lo)).take (sIx items.size items.size hi - sIx items.size 0 lo)).toArray.size<=eg;rw[kx,To,TQ,Array.length_toList];omega
 have hj:sIx items.size items.size hi<=items.size:=NL _ _ (kc _) hi;obtain⟨os,hos,hcs,hds⟩:=id hs;have hTs:s.TypeIs (.ref sl) "slice":=⟨os,hos,hcs⟩;unfold getItem
 try with_reducible refine TR ?_
 first | refine de (kj ?_) | skip
 refine de (wpAny_sequenceKey ht.typeIs (by decide) ?_)
 refine de (wpAny_callSpecial?_slot (name:=ar "__getitem__") ht.typeIs PyProof.Rows.slot_tuple_getitem
  (wpAny_call_entry PyProof.Rows.slot_tuple_getitem ht.typeIs entry_tuple_getitem ?_ (args_tuple_getitem _ _)))
 show wpAny _ _ (Builtin.Tuple.tupleItemsOf (.ref t) >>= _) _ _ s;refine de (tupleItemsOf_ ht ?_);refine de (wpAny_typeOf hTs ?_);rw[if_pos (by decide)]
 refine de (uk hs pl pu ?_);have hno:¬((((sIx items.size 0 lo:Nat):Int) == 0 && (1:Int) == 1 && (sIx items.size items.size hi - sIx items.size 0 lo) == items.size)=true):=by
  intro q;rw[TH,TH]at q;have q1:((sIx items.size 0 lo:Nat):Int)=0:=eq_of_beq q.1.1;have q2:sIx items.size items.size hi - sIx items.size 0 lo=items.size:=eq_of_beq q.2;exact hw ⟨by omega,by omega⟩
 show wpAny _ _ (if (((sIx items.size 0 lo:Nat):Int) == 0 && (1:Int) == 1 && (sIx items.size items.size hi - sIx items.size 0 lo) == items.size)=true then _ else _) _ _ s
 rw[if_neg hno,IM]
 first
  |exact de (m:=Vb _) (wpAny_newObj_type (kj ⟨_,rfl,kj h⟩) FP)
  |exact de (m:=Vb _) (wpAny_newObj_type (de (kj (kj ⟨_,rfl,kj h⟩))) FP)
  |exact de (de (m:=Vb _) (wpAny_newObj_type (kj (kj ⟨_,rfl,kj h⟩)) FP))
  |exact de (de (m:=Vb _) (wpAny_newObj_type (kj ⟨_,rfl,kj h⟩) FP))
end
end HT
namespace L2
open PySem PySem.Spec PyProof.Rows
abbrev TO:=St->Hp->(Option Int->Hp->Prop)->Prop
def PO (X:Cx)(e:Option Expr)(t:TO):Prop :=
 ∀(pins:List (Addr×Obj)) (s:Shared) (σ:St) (H:Hp) (Q:Option Int->Hp->Prop),Inv X pins σ H s->t σ H Q ->
  wpAny (model X.prog X.w) X.A (evalPart e X.env) (λu s'=>∃o H',Inv X pins σ H' s'/\IsPart u o/\Q o H') X.xe s
def Ly:TO:=λ_ H Q=>Q none H
def Qj (t:TE):TO:=λσ H Q=>t σ H λx H1=>∃i,x=.int i/\Q (some i) H1
section
variable{X:Cx}{e:Expr}{te:TE}{lo hi:Option Expr}{tl th:TO}{pos p2:Pos}
theorem eG:PO X none Ly:=by
 intro pins s σ H Q I h;rw[evalPart_none];exact kj ⟨none,H,I,.none,h⟩
theorem dM (h:PE X e te):PO X (some e) (Qj te):=by
 intro pins s σ H Q I hw;rw[evalPart_some];refine thn (h pins s σ H _ I hw) λu s1 ⟨x,H1,I1,r1,q1⟩=>?_
 obtain⟨i,rfl,q⟩:=q1;obtain⟨t,rfl⟩:=r1;exact⟨some i,H1,I1,.int i t,q⟩
def SlR (X:Cx)(r:V->Option Int->Option Int->Hp->VK->Prop):Prop :=
 ∀(pins:List (Addr×Obj)) (s:Shared) (σ:St) (H:Hp) (x:V) (v vl vu:Value) (lo hi:Option Int) (sl:Addr) (Q:VK),Inv X pins σ H s->RelV x v->s.heap.IsSliceOf sl vl vu .none->IsPart vl lo->IsPart vu hi->r x lo hi H Q ->
  ∃T id,typeLookup (.type T) "__getitem__"=pure (some (.builtin id))/\s.TypeIs v T/\wpAny (model X.prog X.w) X.A (getItem v (.ref sl)) (EP X pins σ Q) X.xe s
theorem SlR.or {r r':V->Option Int->Option Int->Hp->VK->Prop}(h:SlR X r)(h':SlR X r'):SlR X (λx lo hi H Q=>r x lo hi H Q\/r' x lo hi H Q):=by
 intro pins s σ H x v vl vu lo hi sl Q I rx hs pl pu q;rcases q with q | q
 ·exact h pins s σ H x v vl vu lo hi sl Q I rx hs pl pu q
 ·exact h' pins s σ H x v vl vu lo hi sl Q I rx hs pl pu q
def tSl (r:V->Option Int->Option Int->Hp->VK->Prop)(te:TE)(tl th:TO):TE:=λσ H Q=>te σ H λx H1=>tl σ H1 λl H2=>th σ H2 λu H3=>r x l u H3 Q
theorem c9 {r:V->Option Int->Option Int->Hp->VK->Prop}(hr:SlR X r)(he:PE X e te)(hl:PO X lo tl)(hu:PO X hi th):PE X (.Subscript e (.Slice lo hi none p2) pos) (tSl r te tl th):=by
 intro pins s σ H Q I h;refine Subscript_ (thn (he pins s σ H _ I h) λv s1 ⟨x,H1,I1,r1,q1⟩=>?_)
 refine wpAny_Slice (thn (hl pins s1 σ H1 _ I1 q1) λvl s2 ⟨l,H2,I2,pl,q2⟩=>thn (hu pins s2 σ H2 _ I2 q2) λvu s3 ⟨u,H3,I3,pu,q3⟩=>?_)
 rw[evalPart_none];refine kj ?_;have I4:Inv X pins σ H3 { s3 with heap:=s3.heap.push { cls:=.type "slice",data:=.fields #[vl,vu,.none] } }:=I3.kept (t':=s3.toks) λb ob q=>fu _ q
 obtain⟨T,id,hT,ht,hg⟩:=hr pins { s3 with heap:=s3.heap.push { cls:=.type "slice",data:=.fields #[vl,vu,.none] } } σ H3 x v vl vu l u s3.heap.objs.size Q I4 r1 (Heap.IsSliceOf.new ..) pl pu q3
 show wpAny (model X.prog X.w) X.A (subscriptTail e (.Slice lo hi none p2) v (.ref s3.heap.objs.size)) (EP X pins σ Q) X.xe { s3 with heap:=s3.heap.push { cls:=.type "slice",data:=.fields #[vl,vu,.none] } }
 exact tail_any (ops:=[.ref s3.heap.objs.size,v]) ht hT hg (by with_unfolding_all rfl)
def fR (xs:List V)(lo hi:Option Int):List V:=(xs.drop (HT.sIx xs.length 0 lo)).take (HT.sIx xs.length xs.length hi - HT.sIx xs.length 0 lo)
theorem vj (xs:List V)(lo hi:Option Int):(fR xs lo hi).length<=xs.length:=by
 unfold fR;rw[To,TQ];omega
def Sa (K:ba):V->Option Int->Option Int->Hp->VK->Prop:=λx lo hi H Q=>∃a xs,x=.ref a/\SqT K H a xs /\
 ¬(HT.sIx xs.length 0 lo=0/\HT.sIx xs.length xs.length hi=xs.length)/\∀p,H p=none->Q (.ref p) (upd H p (.tup (fR xs lo hi)))
theorem NM:SlR X (Sa X.K):=by
 intro pins s σ H x v vl vu lo hi sl Q I rx hs pl pu h;obtain⟨a,xs,rfl,hx,hw,q⟩:=h;cases rx;obtain⟨its,r,ht,hz⟩:=I.tuple hx;have hlen:its.toArray.size=xs.length:=by rw[kx];exact r.length.symm
 refine⟨"tuple",_,PyProof.Rows.slot_tuple_getitem.lookup,ht.typeIs,?_⟩;refine HT.rX ht hs pl pu (by rw[hlen];exact hw) ?_ (by rw[hlen];exact hz)
 rw[hlen];refine⟨.ref s.heap.objs.size,_,I.laid (t':=s.toks) (o:=.tup (fR xs lo hi)) (λb ob q=>fu _ q) (kc _) ?_,rfl,q _ (I.hok.fresh (kc _))⟩
 exact⟨ra (vj xs lo hi) hz,_,(r.drop (HT.sIx xs.length 0 lo)).take (HT.sIx xs.length xs.length hi - HT.sIx xs.length 0 lo),IsTup.new _ _⟩
end
def ixN (n:Nat)(i:Int):Option Nat:=if 0<=i then (if i < n then some i.toNat else none) else if -(n:Int)<=i then some (i+n).toNat else none
def atI {α:Type}(xs:List α)(i:Int):Option α:=(ixN xs.length i).bind λj=>xs[j]?
theorem Bd {n:Nat}{i:Int}{j:Nat}(h:ixN n i=some j):seqIndex? i n=some j/\j < n/\-(n:Int)<=i/\i < n:=by
 unfold ixN at h
 by_cases h0:0<=i
 ·rw[if_pos h0]at h
  by_cases h1:i < n
  ·rw[if_pos h1]at h;have e:i.toNat=j:=om h;exact⟨by rw[seqIndex_of h0 h1,e],by omega,by omega,h1⟩
  ·rw[if_neg h1]at h;cases h
 ·rw[if_neg h0]at h
  by_cases h1:-(n:Int)<=i
  ·rw[if_pos h1]at h;have e:(i+n).toNat=j:=om h;exact⟨by rw[seqIndex_neg (by omega) h1,e],by omega,h1,by omega⟩
  ·rw[if_neg h1]at h;cases h
theorem Be {α:Type}{xs:List α}{i:Int}{v:α}(h:atI xs i=some v):∃j,seqIndex? i xs.length=some j/\xs[j]?=some v/\j < xs.length/\-(xs.length:Int)<=i/\i < xs.length:=by
 unfold atI at h;cases e:ixN xs.length i with
 |none=>rw[e]at h;cases h
 |some j =>
  rw[e]at h;obtain⟨h1,h2,h3,h4⟩:=Bd e;exact⟨j,h1,h,h2,h3,h4⟩
theorem jX {α:Type}{xs:List α}{j:Nat}{v:α}(h:xs[j]?=some v):atI xs (j:Int)=some v:=by
 have hj:j < xs.length:=(List.getElem?_eq_some_iff.mp h).1;have e:ixN xs.length (j:Int)=some j:=by
  unfold ixN;rw[if_pos (by omega),if_pos (by omega)];simp
 unfold atI;rw[e];exact h
theorem nU {α:Type}(xs:List α)(v:α):atI (xs++[v]) (-1)=some v:=by
 have hl:(xs++[v]).length=xs.length+1:=by simp
 have e:ixN (xs++[v]).length (-1)=some xs.length:=by
  unfold ixN;rw[hl,if_neg (by decide),if_pos (by omega)]
  congr 1
  omega
 unfold atI;rw[e];show (xs++[v])[xs.length]?=some v;simp
def Lz (b:Expr):Prop:=∀o i,subscripted b false o i=operate [o,i] (getItem o i)
def IxR (X:Cx)(r:R2):Prop :=
 ∀(value slice:Expr) (pins:List (Addr×Obj)) (s:Shared) (σ:St) (H:Hp) (x y:V) (v u:Value) (Q:VK),Inv X pins σ H s->RelV x v->RelV y u->r x y H Q ->
  subscripted slice false v u=operate [v,u] (getItem v u)->wpAny (model X.prog X.w) X.A (subscriptTail value slice v u) (EP X pins σ Q) X.xe s
def MtR (X:Cx)(id:String)(r:V->List V->Hp->VK->Prop):Prop :=
 ∀(pins:List (Addr×Obj)) (s:Shared) (σ:St) (H:Hp) (x:V) (xs:List V) (v:Value) (us:List Value) (Q:VK),Inv X pins σ H s->RelV x v->Vals xs us->r x xs H Q ->
  wpAny (model X.prog X.w) X.A (call (.builtin id) (v::us)) (EP X pins σ Q) X.xe s
section
variable{X:Cx}{a b:Expr}{ta tb:TE}{pos:Pos}
theorem IxR.or {r r':R2}(h:IxR X r)(h':IxR X r'):IxR X (λx y H Q=>r x y H Q\/r' x y H Q):=by
 intro value slice pins s σ H x y v u Q I rx ry q hs;rcases q with q | q
 ·exact h value slice pins s σ H x y v u Q I rx ry q hs
 ·exact h' value slice pins s σ H x y v u Q I rx ry q hs
theorem MtR.or {id:String}{r r':V->List V->Hp->VK->Prop}(h:MtR X id r)(h':MtR X id r'):MtR X id (λx xs H Q=>r x xs H Q\/r' x xs H Q):=by
 intro pins s σ H x xs v us Q I rx rs q;rcases q with q | q
 ·exact h pins s σ H x xs v us Q I rx rs q
 ·exact h' pins s σ H x xs v us Q I rx rs q
theorem aU {r:R2}(hr:IxR X r)(ha:PE X a ta)(hb:PE X b tb)(hs:Lz b):PE X (.Subscript a b pos) (tOp r ta tb):=by
 intro pins s σ H Q I h;exact Subscript_ (NG ha hb I h λv u s2 x y H2 I2 rx ry q=>hr a b pins s2 σ H2 x y v u Q I2 rx ry q (hs _ _))
def Qk (K:ba):R2:=λx y H Q=>∃p xs i v,x=.ref p/\y=.int i/\SqL K H p xs/\atI xs i=some v/\Q v H
def Ql (K:ba):R2:=λx y H Q=>∃p xs i v,x=.ref p/\y=.int i/\SqT K H p xs/\atI xs i=some v/\Q v H
def Qm:R2:=λx y H Q=>∃z i c,x=.str z/\y=.int i/\z.length<=eg/\atI z.cps.toList i=some c/\Q (.str ⟨#[c]⟩) H
theorem a8:IxR X (Qk X.K):=by
 intro value slice pins s σ H x y v u Q I rx ry h hs;obtain⟨p,xs,i,z,rfl,rfl,hq,he,q⟩:=h;cases rx;obtain⟨t,rfl⟩:=ry;obtain⟨its,r,pl,hz⟩:=I.list hq;obtain⟨j,h1,h2,h3,h4,h5⟩:=Be he;obtain⟨w,ew,rw'⟩:=r.get h2;have hl:=r.length;have hn:=qU;have fin:EP X pins σ Q w s:=⟨z,H,I,rw',q⟩
 by_cases h0:0<=i
 ·have hj:i.toNat=j:=by
   rw[seqIndex_of h0 h5]at h1;exact om h1
  exact item_listR pl.isList h0 (by omega) (by rw[hj];simpa using ew) fin hs
 ·have hj:(i+(its.toArray.size:Int)).toNat=j:=by
   rw[seqIndex_neg (by omega) h4]at h1
   rw[kx,<-hl];exact om h1
  exact subscriptTail_builtinR (x:=w) pl.isList.typeIs slot_list_getitem.lookup
   (wpAny_getItem_list_neg (Q:=λr s'=>r=w/\EP X pins σ Q r s') pl.isList (by omega) (by rw[kx] <;> omega) (by omega) (by rw[hj];simpa using ew) ⟨rfl,fin⟩) hs
theorem bq:IxR X (Ql X.K):=by
 intro value slice pins s σ H x y v u Q I rx ry h hs;obtain⟨p,xs,i,z,rfl,rfl,hq,he,q⟩:=h;cases rx;obtain⟨t,rfl⟩:=ry;obtain⟨its,r,pl,hz⟩:=I.tuple hq;obtain⟨j,h1,h2,h3,h4,h5⟩:=Be he;obtain⟨w,ew,rw'⟩:=r.get h2;have hl:=r.length;have hn:=qU;have fin:EP X pins σ Q w s:=⟨z,H,I,rw',q⟩;exact subscriptTail_builtinR (x:=w) pl.typeIs slot_tuple_getitem.lookup
  (getItem_tuple (j:=j) (Q:=λr s'=>r=w/\EP X pins σ Q r s') pl (by omega) (by omega) (by rw[kx,<-hl];exact h1) (by simpa using ew) ⟨rfl,fin⟩) hs
theorem IP:IxR X Qm:=by
 intro value slice pins s σ H x y v u Q I rx ry h hs;obtain⟨z,i,c,rfl,rfl,hz,he,q⟩:=h;obtain⟨t,rfl⟩:=rx;obtain⟨t',rfl⟩:=ry;obtain⟨j,h1,h2,h3,h4,h5⟩:=Be he;have hl:z.cps.toList.length=z.length:=by simp[Str.length]
 rw[hl]at h1 h4 h5;have hn:=qU;exact tail_any (typeIs_str s z t) slot_str_getitem.lookup (getItem_str (c:=c) (by
  have e1:decide (i < -(2 ^ 63:Int))=false:=decide_eq_false (by omega)
  have e2:decide (i≥2 ^ 63)=false:=decide_eq_false (by omega)
  rw[e1,e2,Bool.or_false]) (by rw[h1];simpa using h2) ⟨.str ⟨#[c]⟩,H,I.tok _,⟨_,rfl⟩,q⟩) hs
def rIx (K:ba):R2:=λx y H Q=>Qk K x y H Q\/Ql K x y H Q\/Qm x y H Q
theorem NN:IxR X (rIx X.K):=a8.or (bq.or IP)
theorem Ey (its:List Value)(n j:Nat)(u:Value):Obj.mapSeq (·.setIfInBounds j u) { cls:=.type "list",data:=.seq its.toArray n }={ cls:=.type "list",data:=.seq (its.set j u).toArray n }:=by
 simp[Obj.mapSeq]
theorem Inv.lst {pins:List (Addr×Obj)}{σ:St}{H:Hp}{s:Shared}{p:Addr}{xs:List V}(I:Inv X pins σ H s)(h:H p=some (.lst xs)) :
  ∃(its:List Value) (n:Nat),Vals xs its/\s.heap.get? p=some { cls:=.type "list",data:=.seq its.toArray n }/\xs.length<=eg:=by
 obtain⟨z,its,n,r,e⟩:=I.hok p _ h;exact⟨its,n,r,e,z⟩
theorem Inv.NO {pins:List (Addr×Obj)}{σ:St}{H:Hp}{s:Shared}{p:Addr}{xs ys:List V}{its its':List Value}{n n':Nat}{f:Obj->Obj}(I:Inv X pins σ H s)(h:H p=some (.lst xs))
  (ho:s.heap.get? p=some { cls:=.type "list",data:=.seq its.toArray n }) (hf:f { cls:=.type "list",data:=.seq its.toArray n }={ cls:=.type "list",data:=.seq its'.toArray n' }) (r:Vals ys its') (hz:ys.length<=eg) (t:Nat) :
  Inv X pins σ (upd H p (.lst ys)) { s with heap:=s.heap.update p f,toks:=t }:=by
 have e:(s.heap.update p f).get? p=some { cls:=.type "list",data:=.seq its'.toArray n' }:=by
  rw[T7 f ho (by rw[hf] <;> rfl),hf]
 refine I.write (x:=p) (e:=p) (by rw[h];trivial) (.inl rfl) (λb u hb q=>(TU _ _ (Tr hb)).trans q) ⟨_,e⟩ ?_
 exact⟨hz,its',n',r,e⟩
def Qn:V->V->V->Hp->(Hp->Prop)->Prop:=λo i v H Q=>∃p xs k j,o=.ref p/\i=.int k/\H p=some (.lst xs)/\ixN xs.length k=some j/\Q (upd H p (.lst (xs.set j v)))
theorem set_list:P4 X Qn:=by
 intro pins s σ H o i v ov iv u Q I ro ri rv h;obtain⟨p,xs,k,j,rfl,rfl,hp,hj,q⟩:=h;cases ro;obtain⟨t,rfl⟩:=ri;obtain⟨its,n,r,ho,hz⟩:=I.lst hp;obtain⟨h1,h2,h3,h4⟩:=Bd hj;have hl:=r.length;have hn:=qU;have I':Inv X pins σ (upd H p (.lst (xs.set j v))) { s with heap:=s.heap.update p (Obj.mapSeq (·.setIfInBounds j u)) } :=
  I.NO hp ho (Ey its n j u) (r.set rv j) (by rw[Ux];exact hz) s.toks
 by_cases h0:0<=k
 ·have hk:k.toNat=j:=by
   rw[seqIndex_of h0 h4]at h1;exact om h1
  exact PySem.W.ki_setAt ho h0 (by omega) (by rw[kx,<-hl];exact h4) (by rw[hk];exact⟨_,I',q⟩)
 ·have hk:(k+(its.toArray.size:Int)).toNat=j:=by
   rw[seqIndex_neg (by omega) h3]at h1
   rw[kx,<-hl];exact om h1
  exact PySem.W.ki_setBack ho (by omega) (by rw[kx,<-hl];exact h3) (by omega) (by rw[hk];exact⟨_,I',q⟩)
theorem Bf (lo hi:Option Int)(n:Nat):(sliceBounds lo hi none n).1=((HT.sIx n 0 lo:Nat):Int)/\(sliceBounds lo hi none n).2.1=((HT.sIx n n hi:Nat):Int)/\(sliceBounds lo hi none n).2.2=1:=by
 refine⟨?_,?_,rfl⟩
 ·cases lo with
  |none=>simp[sliceBounds,HT.sIx]
  |some i =>
   simp only[sliceBounds,HT.sIx,Option.getD_none,show (1:Int) > 0 by decide,if_true]
   by_cases h:i < 0
   ·simp only[h,if_true] <;> omega
   ·simp only[h,if_false] <;> omega
 ·cases hi with
  |none=>simp[sliceBounds,HT.sIx]
  |some i =>
   simp only[sliceBounds,HT.sIx,Option.getD_none,show (1:Int) > 0 by decide,if_true]
   by_cases h:i < 0
   ·simp only[h,if_true] <;> omega
   ·simp only[h,if_false] <;> omega
theorem zJ (its:List Value)(lo hi:Option Int):slicePick its.toArray lo hi none=((its.drop (HT.sIx its.length 0 lo)).take (HT.sIx its.length its.length hi - HT.sIx its.length 0 lo)).toArray:=by
 obtain⟨h1,h2,h3⟩:=Bf lo hi its.toArray.size;unfold slicePick;rw[h1,h2,h3];simp only[sliceRange_one,pick_run,kx] <;> rfl
def Sb (K:ba):V->Option Int->Option Int->Hp->VK->Prop:=λx lo hi H Q=>∃a xs,x=.ref a/\SqL K H a xs/\∀p,H p=none->Q (.ref p) (upd H p (.lst (fR xs lo hi)))
theorem eI:SlR X (Sb X.K):=by
 intro pins s σ H x v vl vu lo hi sl Q I rx hs pl pu h;obtain⟨a,xs,rfl,hx,q⟩:=h;cases rx;obtain⟨its,r,ht,hz⟩:=I.list hx;have hlen:=r.length;refine⟨"list",_,slot_list_getitem.lookup,ht.isList.typeIs,?_⟩;refine wpAny_getItem_list_slice ht.isList hs pl pu .none (by simp) ?_ (by rw[kx] <;> omega)
 rw[zJ,<-hlen];refine⟨.ref s.heap.objs.size,_,I.laid (t':=s.toks) (o:=.lst (fR xs lo hi)) (λb ob q=>fu _ q) (kc _) ?_,rfl,q _ (I.hok.fresh (kc _))⟩
 exact⟨ra (vj xs lo hi) hz,_,0,(r.drop (HT.sIx xs.length 0 lo)).take (HT.sIx xs.length xs.length hi - HT.sIx xs.length 0 lo),tm _ rfl⟩
def vk:V->Bool
 | .non=>true
 | .bl _=>true
 | .int _=>true
 | .str _=>true
 |_=>false
def eqV:V->V->Bool
 | .non,.non=>true
 | .bl a,.bl b=>a == b
 | .bl a,.int b=>(if a then 1 else 0) == b
 | .int a,.bl b=>a == (if b then 1 else 0)
 | .int a,.int b=>a == b
 | .str a,.str b=>a == b
 |_,_=>false
theorem NP {A:Around}{s:Shared}{y x:V}{u v:Value}(ry:RelV y u)(rx:RelV x v)(fy:vk y=true)(fx:vk x=true):SeqAt.EqAt A s u v (eqV y x):=by
 cases y with
 |non =>
  cases ry;cases x with
  |non=>cases rx;exact SeqAt.EqAt.same _
  |bl b=>cases rx;exact SeqAt.EqAt.none_bool b
  |int b=>obtain⟨t,rfl⟩:=rx;exact SeqAt.EqAt.none_int b t
  |str b=>obtain⟨t,rfl⟩:=rx;exact SeqAt.EqAt.none_str b t
  |_=>exact absurd (show false=true from fx) kg
 |bl a =>
  cases ry;cases x with
  |non=>cases rx;exact SeqAt.EqAt.bool_none a
  |bl b=>cases rx;exact SeqAt.EqAt.bool_bool a b
  |int b=>obtain⟨t,rfl⟩:=rx;exact SeqAt.EqAt.bool_int a b t
  |str b=>obtain⟨t,rfl⟩:=rx;exact SeqAt.EqAt.bool_str a b t
  |_=>exact absurd (show false=true from fx) kg
 |int a =>
  obtain⟨t',rfl⟩:=ry;cases x with
  |non=>cases rx;exact SeqAt.EqAt.int_none a t'
  |bl b=>cases rx;exact SeqAt.EqAt.int_bool a t' b
  |int b=>obtain⟨t,rfl⟩:=rx;exact SeqAt.EqAt.int_int a t' b t
  |str b=>obtain⟨t,rfl⟩:=rx;exact SeqAt.EqAt.int_str a t' b t
  |_=>exact absurd (show false=true from fx) kg
 |str a =>
  obtain⟨t',rfl⟩:=ry;cases x with
  |non=>cases rx;exact SeqAt.EqAt.str_none a t'
  |bl b=>cases rx;exact SeqAt.EqAt.str_bool a t' b
  |int b=>obtain⟨t,rfl⟩:=rx;exact SeqAt.EqAt.str_int a t' b t
  |str b=>obtain⟨t,rfl⟩:=rx;exact SeqAt.EqAt.str_str a t' b t
  |_=>exact absurd (show false=true from fx) kg
 |_=>exact absurd (show false=true from fy) kg
def eqU (x:V)(u:Value):Bool:=match u with
 | .none=>eqV .non x
 | .bool b=>eqV (.bl b) x
 | .int i _=>eqV (.int i) x
 | .str z _=>eqV (.str z) x
 |_=>false
theorem IQ {x y:V}{u:Value}(r:RelV y u)(f:vk y=true):eqU x u=eqV y x:=by
 cases y with
 |non=>cases r;rfl
 |bl b=>cases r;rfl
 |int i=>obtain⟨t,rfl⟩:=r;rfl
 |str z=>obtain⟨t,rfl⟩:=r;rfl
 |_=>exact absurd (show false=true from f) kg
theorem rY {x:V}:∀ {xs:List V} {us:List Value},Vals xs us->xs.all vk=true->us.any (eqU x)=xs.any λy=>eqV y x
 |_,_,.nil,_=>rfl
 |y::xs,u::us,.cons r t,f=>by
  rw[List.all_cons,TH]at f;rw[Vc,Vc,IQ r f.1,rY t f.2]
theorem nW {A:Around}{s:Shared}{x:V}{v:Value}(rx:RelV x v)(fx:vk x=true):∀ {xs:List V} {us:List Value},Vals xs us->xs.all vk=true->∀u∈us,SeqAt.EqAt A s u v (eqU x u)
 |_,_,.nil,_=>λu hu=>by cases hu
 |y::xs,u::us,.cons r t,f=>λu' hu=>by
  rw[List.all_cons,TH]at f;rcases List.mem_cons.mp hu with rfl | hu
  ·rw[IQ r f.1];exact NP r rx f.1 fx
  ·exact nW rx fx t f.2 u' hu
def inV (x:V)(xs:List V):Bool:=xs.any λy=>eqV y x
def rIn (K:ba)(neg:Bool):R2:=λx y H Q=>∃p xs,y=.ref p/\(SqL K H p xs\/SqT K H p xs)/\vk x=true/\xs.all vk=true/\Q (.bl (if neg then !inV x xs else inV x xs)) H
theorem um:OpR X (Uq .In) (rIn X.K false):=by
 intro pins s σ H x y v u Q I rx ry h;obtain⟨p,xs,rfl,hq,fx,fs,q⟩:=h;cases ry;rcases hq with hq | hq
 ·obtain⟨its,r,pl,hz⟩:=I.list hq;refine SeqAt.in_listAt (eqU x) pl.isList (λw hw=>nW rx fx r fs w (by simpa using hw)) ⟨.bl _,H,I,rfl,?_⟩
  rw[show its.toArray.any (eqU x)=its.any (eqU x) by simp,rY r fs]
  exact q
 ·obtain⟨its,r,pl,hz⟩:=I.tuple hq;refine SeqAt.in_tupleAt (eqU x) pl (λw hw=>nW rx fx r fs w (by simpa using hw)) ⟨.bl _,H,I,rfl,?_⟩
  rw[show its.toArray.any (eqU x)=its.any (eqU x) by simp,rY r fs]
  exact q
theorem Bg:OpR X (Uq .NotIn) (rIn X.K true):=by
 intro pins s σ H x y v u Q I rx ry h;obtain⟨p,xs,rfl,hq,fx,fs,q⟩:=h;cases ry;rcases hq with hq | hq
 ·obtain⟨its,r,pl,hz⟩:=I.list hq;refine SeqAt.notIn_listAt (eqU x) pl.isList (λw hw=>nW rx fx r fs w (by simpa using hw)) ⟨.bl _,H,I,rfl,?_⟩
  rw[show its.toArray.any (eqU x)=its.any (eqU x) by simp,rY r fs]
  exact q
 ·obtain⟨its,r,pl,hz⟩:=I.tuple hq;refine SeqAt.notIn_tupleAt (eqU x) pl (λw hw=>nW rx fx r fs w (by simpa using hw)) ⟨.bl _,H,I,rfl,?_⟩
  rw[show its.toArray.any (eqU x)=its.any (eqU x) by simp,rY r fs]
  exact q
theorem bt:eO X (.builtin "len") (λxs H Q=>∃p ys,xs=[.ref p]/\(SqL X.K H p ys\/SqT X.K H p ys)/\Q (.int ys.length) H):=by
 intro pins s σ H xs us Q I r h;obtain⟨p,ys,rfl,hq,q⟩:=h;obtain⟨u,rfl,rx⟩:=vals1 r;cases rx;have hn:=qU;rcases hq with hq | hq
 ·obtain⟨its,r',pl,hz⟩:=I.list hq;have hlen:=r'.length;exact Calls.call_len_list pl.isList (by simp only[kx] <;> omega) ⟨.int ys.length,H,I.tok _,⟨s.toks+1,by rw[kx,hlen]⟩,q⟩
 ·obtain⟨its,r',pl,hz⟩:=I.tuple hq;have hlen:=r'.length;exact len_tuple pl (by simp only[kx] <;> omega) ⟨.int ys.length,H,I.tok _,⟨s.toks+1,by rw[kx,hlen]⟩,q⟩
theorem rZ:eO X (.builtin "len") (λxs H Q=>∃z,xs=[.str z]/\z.length<=eg/\Q (.int z.length) H):=by
 intro pins s σ H xs us Q I r h;obtain⟨z,rfl,hz,q⟩:=h;obtain⟨u,rfl,t,rfl⟩:=vals1 r;have hn:=qU;exact len_str (by omega) ⟨.int z.length,H,I.tok _,⟨_,rfl⟩,q⟩
theorem eO.or {f:Value}{r r':List V->Hp->VK->Prop}(h:eO X f r)(h':eO X f r'):eO X f (λxs H Q=>r xs H Q\/r' xs H Q):=by
 intro pins s σ H xs us Q I rs q;rcases q with q | q
 ·exact h pins s σ H xs us Q I rs q
 ·exact h' pins s σ H xs us Q I rs q
theorem bN:eO X (.type "list") (λxs H Q=>∃p ys,xs=[.ref p]/\(SqL X.K H p ys\/SqT X.K H p ys)/\∀l,H l=none->Q (.ref l) (upd H l (.lst ys))):=by
 intro pins s σ H xs us Q I r h;obtain⟨p,ys,rfl,hq,q⟩:=h;obtain⟨u,rfl,rx⟩:=vals1 r;cases rx;have fin:∀(its:List Value),Vals ys its->ys.length<=eg->∀(h':Heap) (c':Nat),(∀b o',s.heap.get? b=some o'->h'.get? b=some o') ->
   h'.get? s.heap.objs.size=some { cls:=.type "list",dict:=none,data:=.seq its.toArray c',slots:=#[] }->EP X pins σ Q (.ref s.heap.objs.size) { s with heap:=h' }:=λits r' hz h' c' kp e =>
  ⟨.ref s.heap.objs.size,_,I.laid (t':=s.toks) kp (kc _) (show cf X.prog X.w _ h' _ (.lst ys) from ⟨hz,its,c',r',e⟩),rfl,q _ (I.hok.fresh (kc _))⟩
 rcases hq with hq | hq
 ·obtain⟨its,r',pl,hz⟩:=I.list hq;have hlen:=r'.length;obtain⟨o,ho,hc,n,hd⟩:=pl.isList;exact call_list_seq p (.inl rfl) ho hc hd (λh' c' kp e=>fin its r' hz h' c' kp e) (by simp only[kx] <;> omega)
 ·obtain⟨its,r',pl,hz⟩:=I.tuple hq;have hlen:=r'.length;obtain⟨o,ho,hc,n,hd⟩:=pl;exact call_list_seq p (.inr rfl) ho hc hd (λh' c' kp e=>fin its r' hz h' c' kp e) (by simp only[kx] <;> omega)
def tyV (K:ba)(T:String)(x:V)(H:Hp):Prop:=match x with
 | .str _=>T="str"
 | .int _=>T="int"
 | .ref p=>(T="list"/\∃xs,SqL K H p xs)\/(T="tuple"/\∃o,K.lookup p=some o/\o.cls=.type "tuple"/\o.dict=none) \/
   (T="dict"/\((∃kvs,H p=some (.dK kvs))\/∃kvs,H p=some (.dT kvs)))\/(T="set"/\∃S n,H p=some (.set S n))
 |_=>False
theorem IS {pins:List (Addr×Obj)}{σ:St}{H:Hp}{s:Shared}{T:String}{x:V}{v:Value}(I:Inv X pins σ H s)(r:RelV x v)(ty:tyV X.K T x H) :
  s.TypeIs v T/\∀a,v=.ref a->∃ob,s.heap.get? a=some ob/\ob.dict=none:=by
 cases x with
 |str z =>
  obtain⟨t,rfl⟩:=r;cases (show T="str" from ty)
  exact⟨typeIs_str s z t,λ_ e=>nomatch e⟩
 |int i =>
  obtain⟨t,rfl⟩:=r;cases (show T="int" from ty)
  exact⟨typeIs_int s i t,λ_ e=>nomatch e⟩
 |ref p =>
  cases r;rcases ty with ⟨rfl,xs,hq⟩ | ⟨rfl,o,hk,hc,hd⟩ | ⟨rfl,hk⟩ | ⟨rfl,S,n,hk⟩
  ·obtain⟨its,_,pl,_⟩:=I.list hq;refine⟨pl.isList.typeIs,λa e=>?_⟩
   cases e;obtain⟨o,n,e,c,hd,_⟩:=pl;exact⟨o,e,hd⟩
  ·refine⟨⟨o,I.kIn p o hk,hc⟩,λa e=>?_⟩
   cases e;exact⟨o,I.kIn _ o hk,hd⟩
  ·have z:∃o,s.heap.get? p=some o/\o.ExactDict:=by
    rcases hk with ⟨kvs,hk⟩ | ⟨kvs,hk⟩
    ·obtain⟨_,_,_,_,o,_,_,e,ex,_⟩:=I.hok p _ hk;exact⟨o,e,ex⟩
    ·obtain⟨_,_,_,_,o,_,_,e,ex,_⟩:=I.hok p _ hk;exact⟨o,e,ex⟩
   obtain⟨o,e,ex⟩:=z;refine⟨⟨o,e,ex.1⟩,λa e2=>?_⟩
   cases e2;exact⟨o,e,ex.2.1⟩
  ·obtain⟨o,_,_,_,e,ex,_⟩:=I.hok p _ hk;refine⟨⟨o,e,ex.1⟩,λa e2=>?_⟩
   cases e2;exact⟨o,e,ex.2.1⟩
 |_=>exact Tq ty
def Sd (K:ba)(T:String)(r:V->List V->Hp->VK->Prop)(to:TE):TE:=λσ H Q=>to σ H λx H1=>tyV K T x H1/\r x [] H1 Q
def tBM (K:ba)(T:String)(r:V->List V->Hp->VK->Prop)(to:TE)(t:TA):TE:=λσ H Q=>to σ H λx H1=>tyV K T x H1/\t σ H1 λxs H2=>r x xs H2 Q
variable{o e:Expr}{es:List Expr}{to:TE}{t:TA}{name:Str}{apos d9:Pos}{T id:String}{r:V->List V->Hp->VK->Prop}
theorem NQ (pa:PlainAttrs T)(slot:Slot T name id)(hty:typeOf (.builtin id)=pure (.type "method_descriptor"))(hm:MtR X id r)(ho:PE X o to)
  (xt:attributeBase o name X.env (eval o X.env)=eval o X.env:=by rfl) (IT:(apos.endLine == d9.line)=true:=by rfl):PE X (.Call (.Attribute o name apos) [] [] d9) (Sd X.K T r to):=by
 intro pins s σ H Q I h;refine wpAny_Call_method0_late xt IT (thn (ho pins s σ H _ I h) λv s1 ⟨x,H1,I1,r1,ty,q1⟩=>?_)
 obtain⟨h1,h2⟩:=IS I1 r1 ty;exact⟨T,id,pa,slot,hty,h1,h2,Calls.callWith_builtin rfl (PySem.evalArgs_none (hm pins s1 σ H1 x [] v [] Q I1 r1 .nil q1))⟩
theorem fV (pa:PlainAttrs T)(slot:Slot T name id)(hty:typeOf (.builtin id)=pure (.type "method_descriptor"))(hm:MtR X id r)(ho:PE X o to)(ha:PA X (e::es) t)
  (xt:attributeBase o name X.env (eval o X.env)=eval o X.env:=by rfl)
  (Se:((backTo d9 (Td (e::es) X.env)).all (λx=>!x.1) && (UY d9 (Up [] X.env)).all (λx=>x.1.isSome)
   && decide ((e::es).length+([]:List Keyword).length+(if ([]:List Keyword).isEmpty then 0 else 1) < 30))=true:=by rfl)
  (IT:(apos.endLine == d9.line)=true:=by rfl) (hs:Td (e::es) X.env=(false,eval e X.env)::Td es X.env:=by rfl) (NR:(backTo d9 (Td es X.env)).any (·.1)=false:=by rfl) :
  PE X (.Call (.Attribute o name apos) (e::es) [] d9) (tBM X.K T r to t):=by
 intro pins s σ H Q I h;refine wpAny_Call_method_late xt Se IT rfl (thn (ho pins s σ H _ I h) λv s1 ⟨x,H1,I1,r1,ty,q1⟩=>?_)
 obtain⟨h1,h2⟩:=IS I1 r1 ty;refine⟨T,id,pa,slot,hty,h1,h2,?_⟩;have hA:=ha d9 pins s1 σ H1 _ I1 q1;rw[hs]at hA ⊢;refine Calls.callWith_builtin (by show (false || (backTo d9 (Td es X.env)).any (·.1))=false;rw[NR] <;> rfl) (U6 ?_)
 exact thn hA λus s2 ⟨vs,H2,I2,r2,q2⟩=>hm pins s2 σ H2 x vs v us Q I2 r1 r2 q2
end
def MtM (X:Cx)(id:String)(r:V->List V->Hp->VK->Prop):Prop :=
 ∀(pins:List (Addr×Obj)) (s:Shared) (σ:St) (H:Hp) (x:V) (xs:List V) (v:Value) (us:List Value) (Q:VK),Inv X pins σ H s->RelV x v->Vals xs us->r x xs H Q ->
  wpAny (model X.prog X.w) X.A (call (.builtin id) (v::us)) (EP X pins σ Q) X.xe s
theorem Vals.one:∀ {x:V} {us:List Value},Vals [x] us->∃u,us=[u]/\RelV x u
 |_,_,.cons r .nil=>⟨_,rfl,r⟩
theorem Vals.two:∀ {x y:V} {us:List Value},Vals [x,y] us->∃u v,us=[u,v]/\RelV x u/\RelV y v
 |_,_,_,.cons r (.cons q .nil)=>⟨_,_,rfl,r,q⟩
theorem Vals.zero:∀ {us:List Value},Vals [] us->us=[]
 |_,.nil=>rfl
theorem Vals.dropLast {xs:List V}{us:List Value}(h:Vals xs us):Vals xs.dropLast us.dropLast:=by
 induction h with
 |nil=>exact .nil
 |cons r t ih =>
  cases t with
  |nil=>exact .nil
  |cons q t'=>exact .cons r ih
theorem Vals.eraseIdx:∀ {xs:List V} {us:List Value} (i:Nat),Vals xs us->Vals (xs.eraseIdx i) (us.eraseIdx i)
 |_,_,_,.nil=>.nil
 |_,_,0,.cons _ t=>t
 |_,_,i+1,.cons r t=>.cons r (Vals.eraseIdx i t)
theorem Vals.reverse {xs:List V}{us:List Value}(h:Vals xs us):Vals xs.reverse us.reverse:=by
 induction h with
 |nil=>exact .nil
 |cons r t ih=>rw[List.reverse_cons,List.reverse_cons];exact Vals.append ih (.cons r .nil)
theorem Vals.rep {xs:List V}{us:List Value}(h:Vals xs us):∀k:Nat,Vals (Vf k xs).flatten (Vf k us).flatten
 | 0=>.nil
 |k+1=>by
  rw[List.replicate_succ,List.replicate_succ,List.flatten_cons,List.flatten_cons];exact Vals.append h (Vals.rep h k)
theorem Ez {α:Type}(l:List α):l.eraseIdx (l.length - 1)=l.dropLast:=by
 induction l with
 |nil=>rfl
 |cons a r ih =>
  cases r with
  |nil=>rfl
  |cons b r =>
   have e:(a::b::r).length - 1=((b::r).length - 1)+1:=by
    have h1:(a::b::r).length=r.length+2:=rfl;have h2:(b::r).length=r.length+1:=rfl;omega
   rw[e,List.eraseIdx_cons_succ,ih]
   all_goals rfl
theorem Am {α:Type}:∀(l:List α) (i:Nat),(l.eraseIdx i).length<=l.length
 |[],_=>kc _
 |_::_,0=>Ut _
 |_::r,i+1=>Nat.succ_le_succ (Am r i)
section
variable{X:Cx}{pins:List (Addr×Obj)}{σ:St}{H:Hp}{s:Shared}{l b:Addr}{xs ys zs:List V}
theorem Inv.IU {its its':List Value}{n:Nat}{f:Array Value->Array Value}{t':Nat}(I:Inv X pins σ H s)(hH:H l=some (.lst xs))
  (e:s.heap.get? l=some { cls:=.type "list",data:=.seq its.toArray n }) (hf:f its.toArray=its'.toArray) (hv:Vals ys its') (hz:ys.length<=eg) :
  Inv X pins σ (upd H l (.lst ys)) { s with heap:=s.heap.update l (Obj.mapSeq f),toks:=t' }:=by
 have q:=PySem.IsL.update e f;rw[hf]at q;refine I.write (x:=l) (e:=l) (by rw[hH];exact trivial) (.inl rfl) (λb' u hb hu=>(TU s.heap (Obj.mapSeq f) (Tr hb)).trans hu) ⟨_,q⟩ ?_
 exact⟨hz,its',_,hv,q⟩
theorem Inv.Qo {its:List Value}{t':Nat}(I:Inv X pins σ H s)(hv:Vals ys its)(hz:ys.length<=eg) :
  Inv X pins σ (upd H s.heap.objs.size (.lst ys)) { s with heap:=s.heap.push { cls:=.type "list",data:=.seq its.toArray },toks:=t' } :=
 I.laid (λ_ _ q=>fu _ q) (kc _) ⟨hz,its,0,hv,tm _ rfl⟩
theorem Inv.fresh (I:Inv X pins σ H s):H s.heap.objs.size=none:=I.hok.fresh (kc _)
theorem Inv.CH (I:Inv X pins σ H s)(hH:H l=some (.lst xs)):xs.length<=eg/\∃(its:List Value) (n:Nat),Vals xs its/\xs.length=its.length/\s.heap.get? l=some { cls:=.type "list",data:=.seq its.toArray n }:=by
 obtain⟨z,its,n,r,e⟩:=I.hok l _ hH;exact⟨z,its,n,r,r.length,e⟩
theorem IV {n:Nat}(h:n<=eg):Builtin.List.listTooLong n=false:=by
 unfold Builtin.List.listTooLong;exact decide_eq_false (by omega)
end
section
variable{X:Cx}
def LC:V->List V->Hp->VK->Prop:=λx vs H Q=>∃l xs y,x=.ref l/\vs=[y]/\H l=some (.lst xs)/\xs.length < eg/\Q .non (upd H l (.lst (xs++[y])))
theorem cA:MtM X "list.append" LC:=by
 intro pins s σ H x vs v us Q I rx rv h;obtain⟨l,xs,y,rfl,rfl,hH,hz,q⟩:=h;cases rx;obtain⟨u,rfl,ru⟩:=rv.one;obtain⟨z,its,n,r,hl,e⟩:=I.CH hH;refine call_meets F.slot_list_append ⟨_,e,rfl⟩ F.entry_list_append (F.args_list_append_2 _ _) (PySem.list_append l its.toArray n u (by rw[kx];omega)) ⟨e,?_⟩
 refine⟨.non,_,I.IU (its':=its++[u]) hH e (by simp) (r.append (.cons ru .nil)) ?_,rfl,q⟩
 rw[gr,Tg];omega
def LD:V->List V->Hp->VK->Prop:=λx vs H Q=>∃l b xs zs,x=.ref l/\vs=[.ref b]/\H l=some (.lst xs)/\H b=some (.lst zs)/\xs.length+zs.length<=eg/\Q .non (upd H l (.lst (xs++zs)))
theorem An:MtM X "list.extend" LD:=by
 intro pins s σ H x vs v us Q I rx rv h;obtain⟨l,b,xs,zs,rfl,rfl,hH,hB,hz,q⟩:=h;cases rx;obtain⟨u,rfl,ru⟩:=rv.one;cases ru;obtain⟨z,its,n,r,hl,e⟩:=I.CH hH;obtain⟨z2,EA,n2,r2,hl2,e2⟩:=I.CH hB;have hsz:its.toArray.size+EA.toArray.size<=eg:=by rw[kx,kx];omega
 have Qp:¬(!its.toArray.isEmpty && Builtin.List.listTooLong (its.toArray.size+EA.toArray.size))=true:=by
  rw[IV hsz,Bool.and_false];exact kg
 refine call_meets F.slot_list_extend ⟨_,e,rfl⟩ F.entry_list_extend (F.args_list_extend_2 _ _)
  (AutoSeq1.list_extend_list_list_0 l its.toArray n b EA.toArray n2 Qp (by rw[kx];omega) (by omega)) ⟨e,e2,?_⟩
 refine⟨.non,_,I.IU (its':=its++EA) hH e (by simp) (r.append r2) ?_,rfl,q⟩
 rw[gr];omega
def Sf:V->List V->Hp->VK->Prop:=λx vs H Q=>∃l xs y,x=.ref l/\vs=[]/\H l=some (.lst xs)/\xs[xs.length - 1]?=some y/\Q y (upd H l (.lst xs.dropLast))
theorem NS:MtM X "list.pop" Sf:=by
 intro pins s σ H x vs v us Q I rx rv h;obtain⟨l,xs,y,rfl,rfl,hH,hy,q⟩:=h;cases rx;have hus:=rv.zero;subst hus;obtain⟨z,its,n,r,hl,e⟩:=I.CH hH;obtain⟨u,hu,ru⟩:=r.get hy;have hy':its.toArray[its.toArray.size - 1]?=some u:=by
  show its.toArray[its.length - 1]?=some u;rw[<-Array.getElem?_toList,<-hl];exact hu
 refine call_meets F.slot_list_pop ⟨_,e,rfl⟩ F.entry_list_pop (F.args_list_pop_1 _) (MeetsSeq.list_pop_last l its.toArray n u hy' (by rw[kx];omega)) ⟨e,?_⟩
 refine⟨y,_,I.IU (its':=its.dropLast) hH e ?_ r.dropLast ?_,ru,q⟩
 ·show its.toArray.eraseIdxIfInBounds (its.toArray.size - 1)=its.dropLast.toArray;rw[kx,List.eraseIdxIfInBounds_toArray,Ez]
 ·rw[List.length_dropLast];omega
def NT:V->List V->Hp->VK->Prop:=λx vs H Q=>∃l xs i k y,x=.ref l/\vs=[.int i]/\H l=some (.lst xs)/\-(2 ^ 63)<=i/\i < 2 ^ 63/\seqIndex? i xs.length=some k/\xs[k]?=some y/\Q y (upd H l (.lst (xs.eraseIdx k)))
theorem IW:MtM X "list.pop" NT:=by
 intro pins s σ H x vs v us Q I rx rv h;obtain⟨l,xs,i,k,y,rfl,rfl,hH,h1,h2,hk,hy,q⟩:=h;cases rx;obtain⟨u,rfl,ru⟩:=rv.one;obtain⟨t,rfl⟩:=ru;obtain⟨z,its,n,r,hl,e⟩:=I.CH hH;obtain⟨w,hw,rw'⟩:=r.get hy;refine call_meets F.slot_list_pop ⟨_,e,rfl⟩ F.entry_list_pop (F.args_list_pop_2 _ _)
  (MeetsSeq.list_pop_at l its.toArray n i t k w (fitsIndex_both h1 h2) (by rw[kx,<-hl];exact hk) (by rw[<-Array.getElem?_toList];exact hw) (by rw[kx];omega)) ⟨e,?_⟩
 refine⟨y,_,I.IU (its':=its.eraseIdx k) hH e ?_ (r.eraseIdx k) ?_,rw',q⟩
 ·show its.toArray.eraseIdxIfInBounds k=(its.eraseIdx k).toArray;rw[List.eraseIdxIfInBounds_toArray]
 ·have:=Am xs k;omega
def Sg:R2:=λx y H Q=>∃l b xs zs,x=.ref l/\y=.ref b/\H l=some (.lst xs)/\H b=some (.lst zs)/\xs.length+zs.length<=eg/\∀p,H p=none->Q (.ref p) (upd H p (.lst (xs++zs)))
theorem NU:OpR X (binaryOp .Add) Sg:=by
 intro pins s σ H x y v u Q I rx ry h;obtain⟨l,b,xs,zs,rfl,rfl,hH,hB,hz,q⟩:=h;cases rx;cases ry;obtain⟨z,its,n,r,hl,e⟩:=I.CH hH;obtain⟨z2,EA,n2,r2,hl2,e2⟩:=I.CH hB;refine PySem.P.add_list e e2 ?_ (by rw[kx,kx];omega)
 have ea:its.toArray++EA.toArray=(its++EA).toArray:=by simp
 rw[ea];exact⟨.ref _,_,I.Qo (t':=s.toks) (r.append r2) (by rw[gr];omega),rfl,q _ I.fresh⟩
end
end L2
namespace Att
open PySem PySem.W PySem.Calls PyProof.Rows
theorem wx {P:Params}{h:Heap}:∀(ns:List Int) (vs:List Value),WellAll P h vs (ns.map WData.int)->IntsAre vs ns:=by
 intro ns
 induction ns with
 |nil =>
  intro vs w;rw[UJ]at w;cases w;exact .nil
 |cons n ns ih =>
  intro vs w;rw[ko]at w;cases w with
  |cons a b =>
   cases a;exact .cons _ _ (ih _ b)
theorem GX {l:OpenLaw}{n:Nat}(hn:l.most=some n){P:Params}{h:Heap}{args:List WData}{vals:List Value}
  (LF:l.row.toRowW.claim.pre args=true) (hwl:WellAll P h vals args) :
  ∃a vs ns,vals=[rf a]/\args=[WData.list (ns.map WData.int)]/\h.get? a=some { cls:=.type "list",data:=.seq vs.toArray }/\IntsAre vs ns/\ns.length<=n:=by
 have hsh:WShape.hasAll [] args [.list .int]=true:=(pre_splitW LF).1;have hc:l.pre.holds [] { args:=args }=true:=(pre_splitW LF).2;obtain⟨d,r,rfl,h1,h2⟩:=hasAllW_cons hsh;obtain rfl:=hasAllW_nil h2;obtain⟨xs,rfl,h3⟩:=hasW_list h1;obtain⟨ns,rfl⟩:=items_int h3;have hlen:ns.length<=n:=by
  unfold OpenLaw.pre at hc;have h4:(WTm.not (.lt (.lit (.int (n:Int))) (.len (.arg 0)))).holds [] { args:=[.list (ns.map .int)] }=true:=by
   have h4:=(holds_andW hc).1;rw[hn]at h4;exact h4
  have h5:=condW_of h4 (w_not (w_lt w_lit (w_len_list (w_arg rfl))));rw[bo]at h5;refine Nat.le_of_not_lt λq=>?_
  have q':(n:Int) < ((ns.length:Nat):Int):=by omega
  first
   | (rw[decide_eq_true q']at h5;exact absurd h5 (by decide))
   | (simp at h5;omega)
 cases hwl with
 |cons w1 w2 =>
  cases w2;cases w1 with
  |list ho Si=>exact⟨_,_,ns,rfl,rfl,ho,wx ns _ Si,hlen⟩
theorem GY (l:OpenLaw)(args:List WData):l.row.toRowW.claim.post args (.bool true) args=true :=
 postW_of (r:=l.row.toRowW) (X:=(true == true))
  (show WShape.has [] (.bool true) .bool=true by first | rfl | decide | simp[WShape.has,WShape.arms,WShape.armsAll])
  (show (WTm.eq .res (.lit (.bool true))).value [] { args:=args,res:=some (.bool true),after:=args }=some (.bool (true == true)) from w_eq_bool (w_res rfl) w_lit) rfl
theorem CI {l:OpenLaw}{n:Nat}{q:km}{loose:List Str}{XP:(Str->Option Value)->Heap->Prop}{YP:World->Heap->Prop}{d:DefRec}
  (hn:l.most=some n) (hdf:d.params.defaults=[])
  (call:∀(w:World) (s₀ s₁:Shared) (mg mb:Str->Option Value) (fa:Addr) (o:Obj) (pm cd doc:Value) (a:Addr) (vs:List Value) (ns:List Int),
   Ground q loose [] XP w s₀ mg mb s₁.heap->YP w s₁.heap ->
   s₁.heap.get? fa=some o->o.data=.func (docDef d.name d.params d.body d.scope pm cd doc)->s₁.heap.CodeRec cd d.name->mg d.name=some (.ref fa) ->
   s₁.heap.get? a=some { cls:=.type "list",data:=.seq vs.toArray }->IntsAre vs ns->ns.length<=n->s₁.gens=#[] ->
   codeAny (model l.prog w) callerA (.call (.ref fa) ⟨[.ref a],[]⟩) (λr s'=>r=.ok (.ret (.bool true))/\OldK s₁.heap s'.heap/\s'.os=s₁.os/\AllBare s'.gens) s₁) :
  WalkO q loose XP YP l.row.toRowW d [] (λf vs=>PySem.call f vs):=by
 intro w s₀ s₁ mg mb G Y fa o pm cd doc dV kV ho hd hcd hD hmg hg args vals as LF S8 hrd hwl hlo;obtain rfl:dV=.none:=Dflts.none hD hdf;obtain rfl:kV=.none:=Dflts.noKw hD;obtain⟨a,vs,ns,rfl,rfl,NV,hints,hlen⟩:=GX hn LF hwl;refine enter_call (codeAny_mono (call w s₀ s₁ mg mb fa o pm cd doc a vs ns G Y ho (fd_plain hd) hcd hmg NV hints hlen hg) λr s' hq=>?_)
 obtain⟨rfl,h2,h3,h4⟩:=hq;exact⟨.inl ⟨.bool true,.bool true,[],rfl,λ_=>rfl,.bool true,GY l _,λ_=>⟨List.Pairwise.nil,λ_ hm=>(nomatch hm)⟩⟩,h2,h3,h4⟩
section
variable{prog:km}{w:World}{A:Around}{E:Value->Shared->Prop}{s:Shared}{K:Frag}
def ledger (h:Heap)(L d:Addr):List (Addr×Obj):=(UU h.objs.size).filterMap λa=>if a=L\/a=d then none else (h.get? a).map λo=>(a,o)
end
end Att
namespace L2
open PySem PySem.Spec PyProof.Rows
theorem Ao:∀ {vs:List Value} {ns:List Int},IntsAre vs ns->Vals (ns.map V.int) vs
 |_,_,.nil=>.nil
 |_,_,.cons n t h=>.cons ⟨t,rfl⟩ (Ao h)
def NW (H:Hp):Prop:=∀b,H b=none\/∃o xs,H b=some (.frz o (.lst xs))
theorem IZ {P:km}{w:World}{K:ba}{mg mb:Str->Option Value}{CX:CXT}{k:Nat}{fa a:Addr}{fd:gp}{x:Str}{sp:Sp}{s₁:Shared}{vs:List Value}{ns:List Int}
  (KX:K.In s₁.heap) (hns:s₁.heap.Ns mainGlobals mg) (hb:s₁.heap.Ns builtinsNs mb) (hbb:∀x:Str,x≠"__name__"->mb x=T6 x) (Sj:s₁.heap.NoLimit) (hg:s₁.gens=#[])
  (ha:s₁.heap.get? a=some { cls:=.type "list",data:=.seq vs.toArray }) (hi:IntsAre vs ns) (hl:ns.length<=eg) (hr:Room k callerA)
  (F:∀base:Heap,K.In base->base.Ns mainGlobals mg->FnOk P w K mg base CX k fa fd [x] sp) (Qq:∀(s:Shared) (u:Value),BindsTo s fd ⟨[u],[]⟩ [(x,u)])
  (hsp:∀H:Hp,NW H->SqL K H a (ns.map V.int)->sp [.ref a] H (λv _=>v=.bl true) λ_ _ _=>False)
  (hCX:∀H e s',CX [] H s₁ (λ_ _ _=>False) e s'->False) :
  codeAny (model P w) callerA (.call (.ref fa) ⟨[.ref a],[]⟩) (λr s'=>r=.ok (.ret (.bool true))/\OldK s₁.heap s'.heap/\s'.os=s₁.os/\AllBare s'.gens) s₁:=by
 have rv:=Ao hi;have Sk:=hi.length;have core:∀H:Hp,NW H->SqL K H a (ns.map V.int)->HOk P w H s₁.heap->(∀b,H b≠none->b=a)->(H a≠none->K.lookup a=none) ->
   codeAny (model P w) callerA (.call (.ref fa) ⟨[.ref a],[]⟩) (λr s'=>r=.ok (.ret (.bool true))/\OldK s₁.heap s'.heap/\s'.os=s₁.os/\AllBare s'.gens) s₁:=by
  intro H hO hS hok hA hK;have FQ:∀ {b:Addr} {o:Obj},s₁.heap.get? b=some o->H b=none->(Ba s₁.heap H).get? b=some o:=λe n=>Iy e n
  have noA:∀ {b:Addr} {o:Obj} {es:Array DictEntry} {ep:Nat},s₁.heap.get? b=some o->o.data=.dict es ep->H b=none:=λ{b o es ep} e d=>by
   cases q:H b with
   |none=>rfl
   |some u =>
    have e':b=a:=hA b (by rw[q];simp)
    subst e';rw[ha]at e;cases e;have d':Data.seq vs.toArray _=Data.dict es ep:=d;cases d'
  have nsK:∀ {b:Addr} {m:Str->Option Value},s₁.heap.Ns b m->(Ba s₁.heap H).Ns b m:=λ{b m} ⟨o,es,ep,e,d,r⟩=>⟨o,es,ep,FQ e (noA e d),d,r⟩
  have hKb:K.In (Ba s₁.heap H):=λb o e=>FQ (KX b o e) (by
   cases q:H b with
   |none=>rfl
   |some u =>
    have e':b=a:=hA b (by rw[q];simp)
    subst e';rw[hK (by rw[q];simp)]at e;cases e)
  have hM:Mod K mg (Ba s₁.heap H):=⟨hKb,nsK hns,⟨mb,nsK hb,hbb⟩,let ⟨mc,h1,h2⟩:=Sj;⟨mc,nsK h1,h2⟩⟩
  have e0:rT P w K mg (Ba s₁.heap H) callerA [] s₁ H:=⟨rfl,hM,λb o e=>Ls e,Nat.le_of_eq (GO _ _),trivial,λb hb=>absurd (show b∈([]:List Addr) from hb) (by simp),hok,.of_eq hg⟩
  refine codeAny_mono ((F _ hKb (nsK hns)).run callerA [] s₁ H ⟨[.ref a],[]⟩ [.ref a] [.ref a] _ _ hr e0 (Qq s₁ (.ref a)) (.cons rfl .nil) (hsp H hO hS)) λr s' h=>?_
  cases r with
  |error e=>exact(hCX H e s' h).elim
  |ok fl =>
   cases fl with
   |next=>exact Tq h
   |brk=>exact Tq h
   |cont=>exact Tq h
   |ret u =>
    obtain⟨v,H',os,bare,un,Sl,r',q⟩:=h;have q':v=.bl true:=q;subst q';obtain rfl:u=UH true:=r';refine⟨rfl,OldK.of_keep λb o e=>?_,os,bare⟩
    cases q:H b with
    |none=>exact un.keep b o e q (by intro z;exact absurd (show b∈([]:List Addr) from z) (by simp)) (by simp)
    |some u =>
     rcases hO b with z | ⟨ob,xs,z⟩
     ·rw[q]at z;cases z
     ·have z2:=un.nQ b ob _ z;obtain⟨e1,_⟩:=hok b _ z;obtain⟨e2,_⟩:=Sl b _ z2;rw[e]at e1;cases e1;exact e2
 cases hk:K.lookup a with
 |some o =>
  have e:=KX a o hk;rw[ha]at e;cases e;refine core (λ_=>none) (λ_=>.inl rfl) (.inr ⟨_,vs.toArray,_,hk,rfl,rfl,rfl,by rw[kx,Sk];exact hl,by simpa using rv⟩) (λb u z=>by have z':(none:Option HO)=some u:=z;cases z') (λb z=>absurd rfl z) λz=>absurd rfl z
 |none =>
  refine core (λb=>if b=a then some (.frz { cls:=.type "list",data:=.seq vs.toArray } (.lst (ns.map V.int))) else none) (λb=>?_) (.inl (.inr ⟨{ cls:=.type "list",data:=.seq vs.toArray },if_pos rfl⟩)) (λb u z=>?_) (λb z=>?_) λ_=>hk
  ·by_cases hb:b=a
   ·exact .inr ⟨_,_,if_pos hb⟩
   ·exact .inl (if_neg hb)
  ·by_cases hb:b=a
   ·have z':=(if_pos hb).symm.trans z;cases z';subst hb;exact⟨ha,by rw[bo];exact hl,vs,_,rv,ha⟩
   ·have z':=(if_neg hb).symm.trans z;cases z'
  ·by_cases hb:b=a
   ·exact hb
   ·exact absurd (if_neg hb) z
theorem LG {l:PySem.W.OpenLaw}{n k:Nat}{q:km}{loose:List Str}{XP:(Str->Option Value)->Heap->Prop}{YP:World->Heap->Prop}{d:DefRec}{K:Params->ba}{CX:World->CXT}{sp:World->Sp}{x:Str}
  (hn:l.most=some n) (hn2:n<=eg) (hdf:d.params.defaults=[]) (hr:Room k callerA)
  (hY:∀(w:World) (h:Heap),YP w h->(K w.params).In h)
  (F:∀(w:World) (mg:Str->Option Value) (fa:Addr) (h:Heap),(K w.params).In h->h.Ns mainGlobals mg->mg d.name=some (.ref fa) ->
   ∃fd:gp,(∀(s:Shared) (u:Value),BindsTo s fd ⟨[u],[]⟩ [(x,u)]) /\
    ∀base:Heap,(K w.params).In base->base.Ns mainGlobals mg->FnOk l.prog w (K w.params) mg base (CX w) k fa fd [x] (sp w))
  (hsp:∀(w:World) (H:Hp) (a:Addr) (ns:List Int),ns.length<=n->NW H->SqL (K w.params) H a (ns.map V.int)->sp w [.ref a] H (λv _=>v=.bl true) λ_ _ _=>False)
  (hCX:∀(w:World) (H:Hp) (s:Shared) (e:Value) (s':Shared),CX w [] H s (λ_ _ _=>False) e s'->False) :
  PySem.W.WalkO q loose XP YP l.row.toRowW d [] (λf vs=>PySem.call f vs):=by
 refine Att.CI hn hdf λw s₀ s₁ mg mb fa o pm cd doc a vs ns G Y ho hd hcd hmg NV hints hlen hg=>?_
 have KX:=hY w _ Y;obtain⟨fd,hb,hF⟩:=F w mg fa _ KX G.T.g hmg;exact IZ KX G.T.g G.T.b G.T.builtins G.T.nolimit hg NV hints (ra hlen hn2) hr hF hb (λH hO hS=>hsp w H a ns hlen hO hS) λH e s'=>hCX w H s₁ e s'
def inClass (s:Stmt)(j:Nat):Stmt:=match s with
 | .ClassDef _ _ _ body _ _ _ _ _ _ _=>body.getD j (.Pass ⟨0,0,0,0⟩)
 |_=>.Pass ⟨0,0,0,0⟩
def wY (s:Stmt):Arguments:=match s with
 | .FunctionDef _ a _ _ _ _ _ _ _ _=>a
 |_=>{ posonlyargs:=[],args:=[],vararg:=none,kwonlyargs:=[],kw_defaults:=[],kwarg:=none,defaults:=[] }
def jY (s:Stmt):List Stmt:=match s with
 | .FunctionDef _ _ b _ _ _ _ _ _ _=>b
 |_=>[]
def ah (s:Stmt):Scope:=match s with
 | .FunctionDef _ _ _ _ _ _ sc _ _ _=>sc
 |_=>{ kind:=.function,names:=[],isGenerator:=false,isCoroutine:=false }
abbrev CX0:CXT:=λ_ _ _ _ _ _=>False
abbrev E0:XK:=λ_ _ _=>False
theorem aV {X:Cx}:Passes CX0 X E0:=λ_ _ _ _ _ _ _ h=>h.elim
structure Fun (K:ba)(x qual:Str)(st:Stmt)(f:Addr)(fd:gp):Prop where
 ex:∃(oc:Value) (od:Option Addr) (kV doc pm:Value) (an:Option Addr) (cdv ct:Value) (osl:Array (Option Value)),
  fd=PySem.W.fnOf x qual (wY st) (jY st) (ah st) .none kV doc pm an cdv ct/\K.lookup f=some ⟨oc,od,.func fd,osl⟩/\PySem.W.codeIn K cdv qual=true
 kp:UX K (.ref f)=true
section
variable{P:km}{w:World}{K:ba}{mg:Str->Option Value}{base:Heap}
theorem Fun.ok {x qual:Str}{st:Stmt}{f:Addr}{fd:gp}{N ps:List Str}{k:Nat}{sp:Sp}(F:Fun K x qual st f fd)(S:ax N ps (ah st))(len:∀vs H Q E,sp vs H Q E->vs.length=ps.length)
  (rV:∀(cdv:Value) (A:Around) (outer:List Env) (s:Shared) (H:Hp) (vs:List V) (Q:VK) (E:XK),Room k (A.deeper (envOfC qual (ah st) s.heap.objs.size f cdv))->sp vs H Q E ->
   ∃t,PSs (br CX0 P w K mg base N qual (ah st) f cdv A outer s H E).nox (jY st) t/\t { nx:=λ_ H'=>Q .non H',rt:=Q } (start N vs) H):FnOk P w K mg base CX0 (k+1) f fd ps sp:=by
 obtain⟨oc,od,kV,doc,pm,an,cdv,ct,osl,rfl,lk,hcd⟩:=F.ex;refine IK lk hcd S len λA outer s H vs Q E hr hsp=>?_
 obtain⟨t,h,q⟩:=rV cdv A outer s H vs Q E hr hsp;exact⟨t,h.nox,q⟩
theorem Fun.binds {x qual:Str}{st:Stmt}{f:Addr}{fd:gp}{ps:List Str}(F:Fun K x qual st f fd)
  (h:∀(kV doc pm:Value) (an:Option Addr) (cdv ct:Value) (us:List Value),us.length=ps.length->bindArgs (PySem.W.fnOf x qual (wY st) (jY st) (ah st) .none kV doc pm an cdv ct) ⟨us,[]⟩=pure (ps.zip us)):Binds K fd ps []:=by
 obtain⟨oc,od,kV,doc,pm,an,cdv,ct,osl,rfl,lk,hcd⟩:=F.ex;exact .all (h kV doc pm an cdv ct)
theorem NX {x qual:Str}{st:Stmt}{f:Addr}{oc:Value}{od an:Option Addr}{osl:Array (Option Value)}{kV doc pm cdv ct:Value}(l:K.lookup f=some ⟨oc,od,.func (PySem.W.fnOf x qual (wY st) (jY st) (ah st) .none kV doc pm an cdv ct),osl⟩)
  (c:PySem.W.codeIn K cdv qual=true) (k:UX K (.ref f)=true):Fun K x qual st f (PySem.W.fnOf x qual (wY st) (jY st) (ah st) .none kV doc pm an cdv ct):=⟨⟨oc,od,kV,doc,pm,an,cdv,ct,osl,rfl,l,c⟩,k⟩
end
section
variable{X:Cx}
theorem pv (i:Nat){x:Str}{pos:Pos}(hN:X.N[i]?=some x:=by rfl)(hv:Vis X.env.scope x:=by first | exact Tp rfl | exact Or.inr (Tp rfl) | exact Or.inr (Or.inr rfl))(hd:(x == ("__debug__":Str))=false:=by decide)
  (hcd:(x == ("__classdict__":Str))=false:=by decide):PE X (.Name x pos) (PY i):=Nz hN hv hd hcd
end
theorem df {A B:Prop}(h:B):if false=true then A else B:=by
 rw[if_neg kg];exact h
theorem dN {A B:Prop}(h:A):if true=true then A else B:=by
 rw[if_pos rfl];exact h
theorem eX {c A B:Prop}[Decidable c](h1:c->A)(h2:¬c->B):if c then A else B:=by
 by_cases h:c
 ·rw[if_pos h];exact h1 h
 ·rw[if_neg h];exact h2 h
def aT (H H':Hp):Prop:=∀b o,H b=some o->H' b=some o
theorem aT.refl (H:Hp):aT H H:=λ_ _ h=>h
theorem aT.trans {H H1 H2:Hp}(a:aT H H1)(b:aT H1 H2):aT H H2:=λc o h=>b c o (a c o h)
theorem aT.free {H H':Hp}(e:aT H H'){l:Addr}(h:H' l=Option.none):H l=Option.none:=by
 cases q:H l with
 |none=>rfl
 |some o =>
  rw[e l o q]at h;cases h
theorem aT.seq {K:ba}{H H':Hp}{a:Addr}{xs:List V}(e:aT H H')(h:SqL K H a xs):SqL K H' a xs:=by
 rcases h with (h | ⟨o,h⟩) | h
 ·exact .inl (.inl (e _ _ h))
 ·exact .inl (.inr ⟨o,e _ _ h⟩)
 ·exact .inr h
theorem cQ:T6 "len"=some (.builtin "len"):=by trivial
theorem kO:T6 "isinstance"=some (.builtin "isinstance"):=by trivial
theorem NY:T6 "max"=some (.builtin "max"):=by trivial
theorem EB:T6 "min"=some (.builtin "min"):=by trivial
theorem NZ:T6 "any"=some (.builtin "any"):=by trivial
theorem EC:T6 "all"=some (.builtin "all"):=by trivial
theorem Bh:T6 "int"=some (.type "int"):=by trivial
theorem I0:T6 "str"=some (.type "str"):=by trivial
theorem LH:T6 "bool"=some (.type "bool"):=by trivial
theorem fm:T6 "list"=some (.type "list"):=by trivial
theorem N0:T6 "ord"=some (.builtin "ord"):=by trivial
mutual
def DV (K:ba)(H:Hp):PyData->V->Prop
 | .none,x=>x=.non
 | .bool b,x=>x=.bl b
 | .int i,x=>x=.int i
 | .str y,x=>x=.str y
 | .list ds,x=>∃a xs,x=.ref a/\SqL K H a xs/\DVs K H ds xs
 | .tuple ds,x=>∃a xs,x=.ref a/\SqT K H a xs/\DVs K H ds xs
 | .dict _,_=>False
def DVs (K:ba)(H:Hp):List PyData->List V->Prop
 |[],xs=>xs=[]
 |d::ds,xs=>∃x r,xs=x::r/\DV K H d x/\DVs K H ds r
end
section
variable{X:Cx}{pins:List (Addr×Obj)}{σ:St}{H:Hp}{s:Shared}
mutual
theorem DV.reads (I:Inv X pins σ H s):∀(d:PyData) {x:V} {u:Value},DV X.K H d x->RelV x u->∃as,Reads s.heap u d as
 | .none,_,_,h,r=>by
  have h':=h;unfold DV at h';subst h';cases r;exact⟨_,.none⟩
 | .bool b,_,_,h,r=>by
  have h':=h;unfold DV at h';subst h';cases r;exact⟨_,.bool b⟩
 | .int i,_,_,h,r=>by
  have h':=h;unfold DV at h';subst h';obtain⟨t,rfl⟩:=r;exact⟨_,.int i t⟩
 | .str y,_,_,h,r=>by
  have h':=h;unfold DV at h';subst h';obtain⟨t,rfl⟩:=r;exact⟨_,.str y t⟩
 | .list ds,_,_,h,r=>by
  have h':=h;unfold DV at h';obtain⟨a,xs,rfl,hq,hs⟩:=h';cases r;obtain⟨its,rv,⟨o,n,e,c,_,dt⟩,_⟩:=I.list hq;obtain⟨as,q⟩:=DVs.reads I ds hs rv;exact⟨_,.list e c dt (by simpa using q)⟩
 | .tuple ds,_,_,h,r=>by
  have h':=h;unfold DV at h';obtain⟨a,xs,rfl,hq,hs⟩:=h';cases r;obtain⟨its,rv,⟨o,e,c,n,dt⟩,_⟩:=I.tuple hq;obtain⟨as,q⟩:=DVs.reads I ds hs rv;exact⟨_,.tuple e c dt (by simpa using q)⟩
 | .dict _,_,_,h,_=>by
  have h':=h;unfold DV at h';exact h'.elim
theorem DVs.reads (I:Inv X pins σ H s):∀(ds:List PyData) {xs:List V} {us:List Value},DVs X.K H ds xs->Vals xs us->∃as,ReadsAll s.heap us ds as
 |[],_,_,h,r=>by
  have h':=h;unfold DVs at h';subst h';cases r;exact⟨_,.nil⟩
 |d::ds,_,_,h,r=>by
  have h':=h;unfold DVs at h';obtain⟨x,q,rfl,h1,h2⟩:=h';cases r with
  |cons r1 r2 =>
   obtain⟨as,e1⟩:=DV.reads I d h1 r1;obtain⟨bs,e2⟩:=DVs.reads I ds h2 r2;exact⟨_,.cons e1 e2⟩
end
def Sm (K:ba):R2:=λx y H Q=>∃d e,DV K H d x/\DV K H e y/\SeqAt.shaped d=true/\SeqAt.shaped e=true/\Q (.bl (T2 d e)) H
def Sn (K:ba):R2:=λx y H Q=>∃d e,DV K H d x/\DV K H e y/\SeqAt.shaped d=true/\SeqAt.shaped e=true/\Q (.bl (!T2 d e)) H
theorem xu (hu:X.A.units+64 < cLine):OpR X (Uq .Eq) (Sm X.K):=by
 intro pins s σ H x y v u Q I rx ry h;obtain⟨d,e,hd,he,sd,se,q⟩:=h;obtain⟨as,r1⟩:=DV.reads I d hd rx;obtain⟨bs,r2⟩:=DV.reads I e he ry;exact eq_dataH r1 r2 sd se hu ⟨.bl _,H,I,rfl,q⟩
theorem ED (hu:X.A.units+64 < cLine):OpR X (Uq .NotEq) (Sn X.K):=by
 intro pins s σ H x y v u Q I rx ry h;obtain⟨d,e,hd,he,sd,se,q⟩:=h;obtain⟨as,r1⟩:=DV.reads I d hd rx;obtain⟨bs,r2⟩:=DV.reads I e he ry;exact ne_dataH r1 r2 sd se hu ⟨.bl _,H,I,rfl,q⟩
end
theorem CJ (K:ba)(H:Hp):∀ws:List Str,DVs K H (ws.map TZ) (ws.map V.str)
 |[]=>by unfold DVs;rfl
 |w::ws=>by
  show DVs K H (TZ w::ws.map TZ) _;unfold DVs;exact⟨_,_,rfl,by unfold DV;rfl,CJ K H ws⟩
theorem pN {K:ba}{H:Hp}{a:Addr}{ws:List Str}(h:SqL K H a (ws.map V.str)):DV K H (.list (ws.map TZ)) (.ref a):=by
 unfold DV;exact⟨a,_,rfl,h,CJ K H ws⟩
theorem jZ:∀ws:List Str,(∀w∈ws,TX w=true)->me (ws.map TZ)=true
 |[],_=>by simp[me]
 |w::ws,h=>by
  simp only[ko,me,Tt,TH];exact⟨h w gc,jZ ws λv hv=>h v (kf _ hv)⟩
theorem my:∀ws:List Str,TC (ws.map TZ)<=1
 |[]=>by simp[TC]
 |w::ws=>by
  have:=my ws;simp only[ko,TC,TN];omega
theorem vm {ws:List Str}(h:∀w∈ws,TX w=true):SeqAt.shaped (.list (ws.map TZ))=true:=by
 have h1:=my ws;have h2:TN (.list (ws.map TZ))<=64:=by simp only[TN];omega
 show (Tt (.list (ws.map TZ)) && decide (TN (.list (ws.map TZ))<=64))=true;rw[TH];exact⟨by simp only[Tt];exact jZ ws h,decide_eq_true h2⟩
theorem xw:∀ {ys:List Str} {us:List Value},Vals (ys.map V.str) us->StrsAre us ys
 |[],_,.nil=>.nil
 |y::ys,_,.cons r t=>by
  obtain⟨tk,rfl⟩:=r;exact .cons y tk (xw t)
theorem nX:∀l:List (Str×Tok),Vals ((l.map (·.1)).map V.str) (strValues l)
 |[]=>.nil
 |p::l=>.cons ⟨p.2,rfl⟩ (nX l)
section
variable{X:Cx}
def rJoin (K:ba):V->List V->Hp->VK->Prop:=λx vs H Q=>∃sep a ys,x=.str sep/\vs=[.ref a]/\SqL K H a (ys.map V.str)/\(ys.map (·.length)).sum+ys.length * sep.length<=16777216/\Q (.str (ki sep ys)) H
theorem LI:MtR X "str.join" (rJoin X.K):=by
 intro pins s σ H x vs v us Q I rx rv h;obtain⟨sep,a,ys,rfl,rfl,hq,hz,q⟩:=h;obtain⟨t,rfl⟩:=rx;obtain⟨u,rfl,ru⟩:=rv.one;cases ru;obtain⟨its,r,pl,_⟩:=I.list hq;refine join_list pl.isList (xw (by simpa using r)) hz λt' k=>?_
 rw[show Txt.join sep ys=ki sep ys from StrLaws.glued_eq_join sep ys]
 exact⟨.str _,H,I.tok _,⟨_,rfl⟩,q⟩
def N1:V->List V->Hp->VK->Prop:=λx vs H Q=>∃z y,x=.str z/\vs=[.str y]/\(y.length == 0)=false/\z.length+2<=eg/\∀p,H p=none->Q (.ref p) (upd H p (.lst ((Txt.split z y).map V.str)))
theorem CK:MtR X "str.split" N1:=by
 intro pins s σ H x vs v us Q I rx rv h;obtain⟨x,y,rfl,rfl,hy,hsz,q⟩:=h;obtain⟨t,rfl⟩:=rx;obtain⟨_,rfl,u,rfl⟩:=rv.one;have hn:(Builtin.Str.partsBetween x (Ul x y 0 x.length (x.length+1)) y.length).length<=eg:=by
  have e1:=StrLaws.occ_length_le x y 0 x.length (x.length+1);rw[length_partsBetween];omega
 have fin:∀(l:List (Str×Tok)) (tk:Nat),l.map (·.1)=Txt.split x y->(Txt.split x y).length<=eg ->
   EP X pins σ Q (.ref s.heap.objs.size) { s with heap:=s.heap.push { cls:=.type "list",data:=.seq (strValues l).toArray },toks:=tk }:=λl tk e hz=>by
  refine⟨.ref _,_,I.Qo (t':=tk) (ys:=(Txt.split x y).map V.str) (by rw[<-e];exact nX l) (by rw[bo];exact hz),rfl,q _ I.fresh⟩
 have Qr:1<=eg:=by omega
 cases h1:(decide (x.length < y.length) || decide (Builtin.Str.strKind x < Builtin.Str.strKind y))
 ·cases hf:(Ul x y 0 x.length (x.length+1)).isEmpty
  ·refine call_meets F.slot_str_split (typeIs_str _ _ _) F.entry_str_split (F.args_str_split_2 _ _) (meets_str_split_sep x y t u h1 hy hf (by omega) hn) ?_
   have e:Txt.split x y=Builtin.Str.partsBetween x (Ul x y 0 x.length (x.length+1)) y.length:=(if_neg (ne_true_of_eq_false h1)).trans (if_neg (ne_true_of_eq_false hf));show wants (EP X pins σ Q) X.xe _ { s with toks:=_,heap:=s.heap.push { cls:=.type "list",data:=.seq (strsFrom s.toks (Builtin.Str.partsBetween x (Ul x y 0 x.length (x.length+1)) y.length)).toArray } }
   rw[strsFrom_eq];exact fin (numbered s.toks _) _ ((numbered_texts _ _).trans e.symm) (by rw[e];exact hn)
  ·have e:Txt.split x y=[x]:=(if_neg (ne_true_of_eq_false h1)).trans (if_pos hf);exact call_meets F.slot_str_split (typeIs_str _ _ _) F.entry_str_split (F.args_str_split_2 _ _) (meets_str_split_not_found x y t u h1 hy hf)
    (fin [(x,t)] s.toks e.symm (by rw[e];exact Qr))
 ·have e:Txt.split x y=[x]:=if_pos h1;exact call_meets F.slot_str_split (typeIs_str _ _ _) F.entry_str_split (F.args_str_split_2 _ _) (meets_str_split_cannot_occur x y t u h1)
   (fin [(x,t)] s.toks e.symm (by rw[e];exact Qr))
def EE:V->Value
 | .ty n=>.type n
 | .ref a=>.ref a
 |_=>.none
def isC:V->Bool
 | .ty _=>true
 | .ref _=>true
 |_=>false
theorem CL:eO X (.builtin "isinstance") (λxs H Q=>∃x c t b,xs=[x,c]/\isC c=true/\uj X.K H x t/\Ua X.K t (EE c)=some b/\Q (.bl b) H):=by
 intro pins s σ H xs us Q I r h;obtain⟨x,c,t,b,rfl,hc,ty,e,q⟩:=h;obtain⟨u,w',rfl,rx,rc⟩:=vals2 r;have fin:∀tk,EP X pins σ Q (.bool b) { s with toks:=tk }:=λtk=>⟨.bl b,H,I.tok _,rfl,q⟩
 cases c with
 |ty n=>cases rc;exact Ag I rx ty e fin
 |ref a=>cases rc;exact Ag I rx ty e fin
 |_=>exact absurd (show false=true from hc) kg
theorem pO:OpR X (binaryOp .Add) (λx y H Q=>∃l b xs zs,x=.ref l/\y=.ref b/\H l=some (.lst xs)/\H b=some (.lst zs)/\xs.length+zs.length<=eg/\∀p,H p=none->Q (.ref p) (upd H p (.lst (xs++zs)))):=NU
end
theorem cK (a b:Str):(a++b).cps.toList=a.cps.toList++b.cps.toList:=by
 show (a.cps++b.cps).toList=_;simp
theorem CM (c:Nat):∀(a b p q:List Nat),c∉a->c∉b->a++c::p=b++c::q->a=b/\p=q
 |[],[],p,q,_,_,e=>by simpa using e
 |[],y::b,p,q,_,hb,e=>by
  have e':c::p=y::(b++c::q):=e;injection e' with e1 _
  exact absurd (by rw[e1];exact gc) hb
 |x::a,[],p,q,ha,_,e=>by
  have e':x::(a++c::p)=c::q:=e;injection e' with e1 _
  exact absurd (by rw[<-e1];exact gc) ha
 |x::a,y::b,p,q,ha,hb,e=>by
  have e':x::(a++c::p)=y::(b++c::q):=e;injection e' with e1 e2
  obtain⟨h1,h2⟩:=CM c a b p q (λh=>ha (kf _ h)) (λh=>hb (kf _ h)) e2
  exact⟨by rw[e1,h1],h2⟩
theorem pP {a b:Str}(h:a.cps.toList=b.cps.toList):a=b:=by
 cases a;cases b;have:=Array.toList_inj.mp h;subst this;rfl
theorem ef (c:Nat)(x y:Str)(r:List Str):(ki ⟨#[c]⟩ (x::y::r)).cps.toList=x.cps.toList++c::(ki ⟨#[c]⟩ (y::r)).cps.toList:=by
 show ((x++⟨#[c]⟩)++ki ⟨#[c]⟩ (y::r)).cps.toList=_;rw[cK,cK];simp
theorem CN (c:Nat):∀(vs ws:List Str),vs≠[]->ws≠[]->(∀v∈vs,c∉v.cps.toList)->(∀w∈ws,c∉w.cps.toList)->ki ⟨#[c]⟩ vs=ki ⟨#[c]⟩ ws->vs=ws
 |[],_,h,_,_,_,_=>absurd rfl h
 |_,[],_,h,_,_,_=>absurd rfl h
 |[x],[y],_,_,_,_,e=>by rw[show x=y from e]
 |[x],y::z::r,_,_,hv,_,e=>by
  have e1:=congrArg (λt:Str=>t.cps.toList) e
  have e2:x.cps.toList=y.cps.toList++c::(ki ⟨#[c]⟩ (z::r)).cps.toList:=e1.trans (ef c y z r);exact absurd (by rw[e2];exact gn _ gc) (hv x gc)
 |x::z::r,[y],_,_,_,hw,e=>by
  have e1:=congrArg (λt:Str=>t.cps.toList) e
  have e2:x.cps.toList++c::(ki ⟨#[c]⟩ (z::r)).cps.toList=y.cps.toList:=(ef c x z r).symm.trans e1;exact absurd (by rw[<-e2];exact gn _ gc) (hw y gc)
 |x::x2::r,y::y2::q,_,_,hv,hw,e=>by
  have e1:=congrArg (λt:Str=>t.cps.toList) e
  have e2:=(ef c x x2 r).symm.trans (e1.trans (ef c y y2 q));obtain⟨h1,h2⟩:=CM c _ _ _ _ (hv x gc) (hw y gc) e2;have h3:=CN c (x2::r) (y2::q) (TK _ _) (TK _ _) (λv h=>hv v (kf _ h)) (λw h=>hw w (kf _ h)) (pP h2)
  rw[pP h1,h3]
theorem xx (x y:Str):Txt.split x y≠[]:=by
 unfold Txt.split;split
 ·exact TK _ _
 ·split
  ·exact TK _ _
  ·rw[StrLaws.partsBetween_eq];intro h;have:=congrArg U5 h;revert this;cases (Ul x y 0 x.length (x.length+1)) <;> simp[StrLaws.partsFrom]
theorem xy {c:Nat}{ws:List Str}(h0:ws≠[])(h:∀w∈ws,c∉w.cps.toList):Txt.split (ki ⟨#[c]⟩ ws) ⟨#[c]⟩=ws :=
 CN c _ _ (xx _ _) h0 (StrLaws.split_free _ c) h (StrLaws.join_split _ _)
theorem lC (c:Nat):∀ws:List Str,(ki ⟨#[c]⟩ ws).length<=(ws.map (·.length)).sum+ws.length
 |[]=>TM _
 |[x]=>by show x.length<=_;simp
 |x::y::r=>by
  have ih:=lC c (y::r);have e:(ki ⟨#[c]⟩ (x::y::r)).length=x.length+1+(ki ⟨#[c]⟩ (y::r)).length:=by
   have:=congrArg U5 (ef c x y r);rw[gr,ky]at this;have l1:∀z:Str,z.cps.toList.length=z.length:=λz=>by simp[Str.length]
   rw[l1,l1,l1]at this;omega
  simp only[ko,List.sum_cons,ky]at ih ⊢;omega
theorem zK {c:Nat}:∀ {ws:List Str},ws≠[]->(∀w∈ws,1<=w.length)->1<=(ki ⟨#[c]⟩ ws).length
 |[],h,_=>absurd rfl h
 |[x],_,h=>h x gc
 |x::y::r,_,h=>by
  have h1:=h x gc;have:=congrArg U5 (ef c x y r);rw[gr]at this;have l1:∀z:Str,z.cps.toList.length=z.length:=λz=>by simp[Str.length]
  rw[l1,l1]at this;omega
theorem N2 {b:Bool}{A B:Prop}(hb:b=true)(h:B):if (!b)=true then A else B:=by
 subst hb;exact df h
theorem xA {b:Bool}{A B:Prop}(hb:b=true)(h:A):if b=true then A else B:=by
 subst hb;exact dN h
theorem Aq {b:Bool}{A B:Prop}(hb:b=false)(h:B):if b=true then A else B:=by
 subst hb;exact df h
theorem av {H:Hp}{p:Addr}{o:HO}(h:H p=none):aT H (upd H p o):=λb u e=>by
 rw[ao (aG e h)];exact e
theorem aT.own {H H':Hp}{p:Addr}{o:HO}(s:aT H H')(h:H p=none):aT H (upd H' p o):=λb u e=>by
 rw[ao (aG e h)];exact s b u e
theorem aT.new {H H':Hp}{p:Addr}{o:HO}(s:aT H H')(h:H' p=none):aT H (upd H' p o):=s.trans (av h)
theorem aT.nn {H H':Hp}(s:aT H H'){p:Addr}{o:HO}(h:H p=none)(e:H' p=some o){b:Addr}{u:HO}(eb:H b=some u):b≠p:=aG eb h
theorem jn (xs:List V)(k:Nat):fR xs (some (k:Int)) none=xs.drop k:=by
 unfold fR;rw[HT.mx,HT.rW]
 by_cases h:k<=xs.length
 ·rw[Nat.min_eq_left h];exact List.take_of_length_le (by rw[TQ];exact kc _)
 ·have h':xs.length<=k:=by omega
  rw[Nat.min_eq_right h',List.drop_of_length_le h',List.drop_of_length_le (kc _)];simp
theorem I9 {α:Type}{xs:List α}{i:Int}{n:Nat}(hn:xs.length=n)(h0:0<=i)(h1:i < n):∃c,atI xs i=some c/\c∈xs:=by
 have hi:i.toNat < xs.length:=by omega
 have e:((i.toNat:Nat):Int)=i:=by omega
 refine⟨xs[i.toNat],?_,List.getElem_mem hi⟩;have q:=jX (sr hi);rw[e]at q;exact q
def bY (scope outer:Scope):Scope :=
 { scope with names:=scope.names.map λ(n,k)=>if (k == .free && outer.kind == .function && outer.names.lookup n == some .cell) then (n,.cell) else (n,k) }
structure bQ (scope outer:Scope)(x:Str)(N M:List Str):Prop where
 kind:scope.kind=.function
 Ja:outer.kind=.function
 xB:∀y∈scope.names,y.2≠.cell
 names:∀y∈scope.names,y.2=.local->scope.names.lookup y.1=some .local
 hx:scope.names.lookup x=some .local
 free:∀y∈scope.names,y.2=.free->outer.names.lookup y.1=some .cell
 nl:∀n∈M,(bY scope outer).names.lookup n≠some .local
 ndM:M.Nodup
 nd:N.Nodup
 len:M.length=N.length
 rel:∀i:Nat,i < N.length->M[i]?=N[i]?\/M[i]?=some Um
 em:(bY scope outer).names.lookup Um=none
theorem bQ.mem {scope outer:Scope}{x:Str}{N M:List Str}(S:bQ scope outer x N M){n:Str}{k:NameKind}(h:(bY scope outer).names.lookup n=some k)(hk:k=.cell\/k=.free) :
  k=.cell/\(n,Uv)∈scope.names/\outer.names.lookup n=some .cell:=by
 obtain⟨⟨n',k'⟩,hm,e⟩:=List.mem_map.mp (UD h);dsimp only at e
 by_cases hc:(k' == Uv && outer.kind == .function && outer.names.lookup n' == some .cell)=true
 ·rw[if_pos hc]at e;injection e with e1 e2
  subst e1 e2;rw[TH,TH]at hc;have hk':k'=.free:=beq_iff_eq.mp hc.1.1;subst hk';exact⟨rfl,hm,beq_iff_eq.mp hc.2⟩
 ·rw[if_neg hc]at e;injection e with e1 e2
  subst e1 e2;rcases hk with z | z
  ·exact absurd z (S.xB _ hm)
  ·subst z
   exfalso
   refine hc ?_;rw[S.free _ hm rfl,S.Ja];rfl
theorem Bi {env:Env}{f:Str×NameKind->List (Str×Addr)->Sem (ForInStep (List (Str×Addr)))}
  (h1:∀n k r,k≠Uv->f (n,k) r=pure (.yield r)) (h2:∀n r c,env.cells.lookup n=some c->f (n,.free) r=pure (.yield ((n,c)::r))) :
  ∀(ns:List (Str×NameKind)) (acc:List (Str×Addr)),(∀y∈ns,y.2=.free->∃c,env.cells.lookup y.1=some c)->(∀n c,acc.lookup n=some c->env.cells.lookup n=some c) ->
   ∃cl,(forIn ns acc f:Sem (List (Str×Addr)))=pure cl/\(∀n c,cl.lookup n=some c->env.cells.lookup n=some c)/\(∀n c,acc.lookup n=some c->(cl.lookup n).isSome=true)/\∀y∈ns,y.2=.free->(cl.lookup y.1).isSome=true
 |[],acc,_,ha=>⟨acc,by simp,ha,λn c e=>by rw[e];rfl,λy hy=>nomatch hy⟩
 | (n,k)::ns,acc,hn,ha=>by
  by_cases hk:k=Uv
  ·subst hk;obtain⟨c,hc⟩:=hn (n,.free) gc rfl;have ha':∀m d,((n,c)::acc).lookup m=some d->env.cells.lookup m=some d:=λm d e=>by
    rw[Vg]at e;split at e
    ·rename_i hb;have:m=n:=beq_iff_eq.mp hb;subst this;rw[<-om e];exact hc
    ·exact ha m d e
   obtain⟨cl,e,p1,p2,p3⟩:=Bi h1 h2 ns ((n,c)::acc) (λy hy=>hn y (kf _ hy)) ha'
   have hnn:(cl.lookup n).isSome=true:=p2 n c (by simp[Vg])
   refine⟨cl,?_,p1,λm d em=>?_,λy hy hf=>?_⟩
   ·rw[List.forIn_cons,h2 n acc c hc,pure_bind];exact e
   ·by_cases hm:m=n
    ·subst hm;exact hnn
    ·exact p2 m d (by rw[Vg,show (m == n)=false from beq_eq_false_iff_ne.mpr hm];exact em)
   ·rcases List.mem_cons.mp hy with rfl | hy
    ·exact hnn
    ·exact p3 y hy hf
  ·obtain⟨cl,e,p1,p2,p3⟩:=Bi h1 h2 ns acc (λy hy=>hn y (kf _ hy)) ha
   refine⟨cl,?_,p1,p2,λy hy hf=>?_⟩
   ·rw[List.forIn_cons,h1 n k acc hk,pure_bind];exact e
   ·rcases List.mem_cons.mp hy with rfl | hy
    ·exact absurd hf hk
    ·exact p3 y hy hf
theorem uo {scope:Scope}{env:Env}(h:∀y∈scope.names,y.2=.free->∃c,env.cells.lookup y.1=some c) :
  ∃cl,closureFor scope env=pure cl/\(∀n c,cl.lookup n=some c->env.cells.lookup n=some c)/\∀y∈scope.names,y.2=.free->(cl.lookup y.1).isSome=true:=by
 unfold closureFor;obtain⟨cl,e,p1,_,p3⟩:=Bi (env:=env) (f:=λx r=>match x with | (name,kind)=>if (kind == Uv)=true then do let a <-cellOf env name;pure (.yield ((name,a)::r)) else pure (.yield r))
  (λn k r hk=>by
   have:(k == Uv)=false:=beq_eq_false_iff_ne.mpr hk;simp only[this,Bool.false_eq_true,if_false])
  (λn r c hc=>by
   simp only[beq_self_eq_true,if_true];unfold cellOf;rw[hc];rw[pure_bind])
  scope.names [] h (λn c e=>by simp at e)
 refine⟨cl,?_,p1,p3⟩;have e':=congrArg (λz:Sem (List (Str×Addr))=>z >>= λcs=>pure cs) e
 simp only[pure_bind]at e';exact e'
def fW (X:Cx)(x:Str)(M:List Str)(scope:Scope)(cl:List (Str×Addr))(C:Addr)(s:Shared)(H:Hp)(fp:List Addr):Cx :=
 { X with N:=x::M,s₀:=s,H₀:=H,env:=compEnvC scope cl C X.env,outer:=X.stack,ex:=fp,fn:=λ_=>false,pn:=[],xe:=λ_ _=>False }
def hZ (J:It)(te:TE)(σ:St)(D:Addr)(H1:Hp)(Q:VK):Prop:=∃W:Nat->Nat->List V->Hp->Prop,(∃m,W 0 m [] (upd H1 D (.lst [])))/\∀i m ys H2,W i m ys H2 ->
 H2 D=some (.lst ys)/\((J.stop i H2/\Q (.ref D) H2)\/(J.go i H2/\ys.length < eg/\∀x H3,J.yld i H2 x H3->te (some x::σ) H3 λy H4=>H4 D=some (.lst ys)/\∃m',m' < m/\W (i+1) m' (ys++[y]) (upd H4 D (.lst (ys++[y])))))
def Jb (wi:TI)(te:TE):TE:=λσ H Q=>wi σ H λJ H1=>∀D,H1 D=none->hZ J te σ D H1 Q
section
variable{X:Cx}{pins:List (Addr×Obj)}{σ:St}{H:Hp}{s:Shared}{elt iter:Expr}{x:Str}{px pos:Pos}{scope:Scope}{wi:TI}{te:TE}{Q:VK}{M:List Str}
theorem LJ {cl:List (Str×Addr)}{C:Addr}{fp:List Addr}(S:bQ scope X.env.scope x X.N M)(I:Inv X pins σ H s)(hC:s.heap.objs.size<=C)(p1:∀n c,cl.lookup n=some c->X.env.cells.lookup n=some c)
  (p3:∀y∈scope.names,y.2=.free->(cl.lookup y.1).isSome=true) (f2:∀b∈fp,dG X pins H b) (fo:∀b∈fp,b < s.heap.objs.size):(fW X x M scope cl C s H fp).Ok where
 mod:=I.ok.mod
 kind:=S.kind
 glob:=I.ok.glob
 blt:=I.ok.blt
 above:=hC
 inj:=λy z c h1 h2=>I.ok.inj y z c (p1 y c h1) (p1 z c h2)
 has:=λy hy=>by
  have hy':(bY scope X.env.scope).names.lookup y=some .cell\/(bY scope X.env.scope).names.lookup y=some .free:=hy;have hm:(y,Uv)∈scope.names:=by
   rcases hy' with z | z
   ·exact(S.mem z (.inl rfl)).2.1
   ·exact(S.mem z (.inr rfl)).2.1
  exact Option.isSome_iff_exists.mp (p3 _ hm rfl)
 cab:=λy c h=>absurd h kg
 hd:=I.ok.hd
 frames:=I.ok.frames
 stk:=.inl rfl
 exf:=λb hb=>⟨Tf (Th (fo b hb) hC),λy c e=>(f2 b hb).2.2.2.2.1 y c (p1 y c e)⟩
 bs:=I.bs
 bsz:=ra I.ok.bsz I.sz
 wq:=λb o e hb=>by
  rcases (f2 b hb).2.2.2.1 with z | z
  ·exact I.ok.wq b o e z
  ·exact absurd (Th (ku (I.ok.bs b o e).1) z) (Vl _)
 wu:=λb hb z=>by
  rcases List.mem_cons.mp (I.xg b z) with e | e
  ·exact(f2 b hb).2.1 e
  ·exact(f2 b hb).2.2.1 e
 ly:=I.stack
 frf:=I.wV
theorem Jc {cl:List (Str×Addr)}{C D:Addr}{fp:List Addr}{h₁:Heap}{tk:Nat}{m:Str->Option Value}(S:bQ scope X.env.scope x X.N M)(I:Inv X pins σ H s)(hC:s.heap.objs.size<=C)(hD:s.heap.objs.size<=D)(hDC:D≠C)
  (p1:∀n c,cl.lookup n=some c->X.env.cells.lookup n=some c)
  (p3:∀y∈scope.names,y.2=.free->(cl.lookup y.1).isSome=true) (f2:∀b∈fp,dG X pins H b) (fo:∀b∈fp,b < s.heap.objs.size)
  (old:∀b o,s.heap.get? b=some o->h₁.get? b=some o) (hn:h₁.Ns C m) (hl:h₁.get? D=some { cls:=.type "list",data:=.seq ([]:List Value).toArray }) :
  Inv (fW X x M scope cl C s H fp) [] (none::σ) (upd H D (.lst [])) { s with heap:=h₁,toks:=tk }:=by
 have cellK:∀c v,s.heap.IsCell c v->h₁.IsCell c v:=λc v ⟨o,e,d⟩=>⟨o,old c o e,d⟩
 refine⟨LJ S I hC p1 p3 f2 fo,rfl,I.bare,Un.laid old hD (I.hok.fresh hD),⟨m,hn,λi n v h1 h2 h3=>?_⟩,λy c e=>?_,?_,λy c e=>?_,λp hp=>absurd (show p∈([]:List (Addr×Obj)) from hp) (by simp),I.hok.laid old hD ⟨TM _,[],0,.nil,hl⟩,?_⟩
 ·cases i with
  |zero =>
   have h2':(none:Option V)=some v:=by simpa using h2
   cases h2'
  |succ i =>
   have h0':M[i]?=some n:=by simpa [fW] using h1
   have h2':σ[i]?=some (some v):=by simpa using h2
   have h3':(bY scope X.env.scope).names.lookup n=some .local\/(bY scope X.env.scope).names.lookup n=some .cell\/(bY scope X.env.scope).names.lookup n=some .free:=h3;have iP:(bY scope X.env.scope).names.lookup n=some .cell/\(n,Uv)∈scope.names/\X.env.scope.names.lookup n=some .cell:=by
    rcases h3' with z | z | z
    ·exact absurd z (S.nl n (Ti h0'))
    ·exact⟨z,(S.mem z (.inl rfl)).2⟩
    ·exact absurd (S.mem z (.inr rfl)).1 (by decide)
   have h1':X.N[i]?=some n:=by
    have hi:i < X.N.length:=by rw[<-S.len];exact(List.getElem?_eq_some_iff.mp h0').1
    rcases S.rel i hi with z | z
    ·rw[<-z];exact h0'
    ·rw[h0']at z;have e:n=Um:=om z;rw[e,S.em]at iP;cases iP.1
   obtain⟨m0,hn0,hl0⟩:=I.loc;obtain⟨u,r,l⟩:=hl0 i n v h1' h2' (.inr (.inl iP.2.2));refine⟨u,r,.inr ⟨.inl iP.1,?_⟩⟩;obtain⟨c,hc⟩:=Option.isSome_iff_exists.mp (p3 _ iP.2.1 rfl);refine⟨c,hc,?_⟩;rcases l with ⟨k,_⟩ | ⟨_,c',hc',z⟩
   ·have k':X.env.scope.names.lookup n=some .local:=k;rw[iP.2.2]at k';cases k'
   ·rw[p1 n c hc]at hc';cases hc';exact cellK c _ z
 ·obtain⟨v,z⟩:=I.cell y c (p1 y c e);exact⟨v,cellK c v z⟩
 ·show (upd H D (.lst [])) C=none;rw[ao (Tr hDC)];exact I.hok.fresh hC
 ·obtain⟨v,z⟩:=I.cell y c (p1 y c e);rw[ao (Tf (Th z.lt hD))];exact I.fS y c (p1 y c e)
 ·show (none::σ).length=(x::M).length;rw[ky,ky,I.len,S.len]
theorem Ar {cl:List (Str×Addr)}{RR:Value->Addr->Result->Shared->Prop}(S:bQ scope X.env.scope x X.N M)(hc:X.calm=true)(hi:PI X (.Name x px) iter wi)
  (he:∀cl C s H fp,PE (fW X x M scope cl C s H fp) elt te) (I:Inv X pins σ H s) (h:Jb wi te σ H Q)
  (p1:∀n c,cl.lookup n=some c->X.env.cells.lookup n=some c) (p3:∀y∈scope.names,y.2=.free->(cl.lookup y.1).isSome=true)
  (hRR:∀D C H' s' o m,Inv X (pins++[(C,o)]) σ H' s'->s'.heap.get? C=some o->s'.heap.Ns C m->X.s₀.heap.objs.size<=C->(∀y c,X.env.cells.lookup y=some c->c≠C)->(∀p∈X.pn++pins,p.1≠C)->Q (.ref D) H'->RR (.ref D) C (.ok .next) s') :
  wpAny (model X.prog X.w) X.A (eval iter X.env) (λxv s₁=>wpAny (model X.prog X.w) X.A (pyIter xv) (λit s₂=>wpAny (model X.prog X.w) X.A (newList []) (λacc s₃ =>
   wpAny (model X.prog X.w) X.A (newFunctionEnv scope X.env.globals cl [] X.env.qual none .none (some X.env)) (λBj s₄ =>
    codeAny (model X.prog X.w) X.A (.compStart (.ListComp elt [⟨.Name x px,iter,[],0⟩] scope pos) 0 it acc { Bj with scope:=relabel scope X.env }) (RR acc Bj.locals) s₄) X.xe s₃) X.xe s₂) X.xe s₁) X.xe s:=by
 refine thn (hi pins s σ H _ I h) λv s1 h1=>thn h1 λitv s2 h2=>?_
 obtain⟨it,fp,tn,J,H2,rfl,I2,T,st2,f2,q⟩:=h2;refine wpAny_newObj_type (wpAny_newFunctionEnv S.xB (by intro y hy;simp at hy) (λh₁ hns₁ hsb₁=>?_) S.kind)
 dsimp only at hns₁ hsb₁ ⊢;generalize hHH:s2.heap.push { cls:=.type "list",dict:=none,data:=.seq ([]:List Value).toArray }=HH at hns₁ hsb₁ ⊢;have hCs:HH.objs.size=s2.heap.objs.size+1:=by rw[<-hHH,UK]
 have hDC:s2.heap.objs.size≠HH.objs.size:=by rw[hCs];exact Tf (Nat.lt_succ_self _)
 have Jd:s2.heap.objs.size<=HH.objs.size:=by rw[hCs];exact Ut _
 have below:∀b,b < s2.heap.objs.size->b≠HH.objs.size:=λb hb=>by rw[hCs];exact Tf (Nat.lt_succ_of_lt hb)
 have old:∀b o,s2.heap.get? b=some o->h₁.get? b=some o:=λb o e=>hsb₁.extBut b o (below b (ku e)) (fu _ (hHH▸fu _ e))
 have GZ:h₁.get? s2.heap.objs.size=some { cls:=.type "list",data:=.seq ([]:List Value).toArray }:=hsb₁.extBut _ _ hDC (fu _ (hHH▸tm _ rfl));have fo:∀b∈fp,b < s2.heap.objs.size:=λb hb=>by
  obtain⟨o,e,_⟩:=T.obj _ _ st2 b hb;exact ku e
 have IY:=Jc (tk:=s2.toks+([]:List (Str×Value)).length) S I2 Jd (kc _) hDC p1 p3 f2 fo old hns₁ GZ;have st1:tn 0 h₁:=T.keep _ _ _ st2 λb _ o e=>old b o e
 obtain⟨W,⟨m0,w0⟩,turn⟩:=q _ (I2.hok.fresh (kc _));generalize hC:HH.objs.size=C at *;generalize hDD:s2.heap.objs.size=D at *;have ndY:(fW X x M scope cl C s2 H2 fp).N.Nodup:=by
  refine List.nodup_cons.mpr ⟨λhm=>S.nl x hm (lookup_relabel_local S.hx),S.ndM⟩
 have stat:∀ {H':Hp},(∀b∈fp,H' b=none)->∀b∈fp,dG (fW X x M scope cl C s2 H2 fp) [] H' b:=λhn b hb =>
  ⟨hn b hb,below b (fo b hb),IY.ok.wu b hb,.inl hb,λy c e=>(f2 b hb).2.2.2.2.1 y c (p1 y c e),λp hp=>absurd (show p∈([]:List (Addr×Obj)) from hp) (by simp)⟩
 have loop:codeAny (model X.prog X.w) X.A (.compLoop (.ListComp elt [⟨.Name x px,iter,[],0⟩] scope pos) 0 (.ref it) (.ref D) (compEnvC scope cl C X.env)) (RR (.ref D) C) { s2 with heap:=h₁,toks:=s2.toks+([]:List (Str×Value)).length }:=by
  refine codeAny_compLoop_tests (λn s'=>∃i v0 ys H',Inv (fW X x M scope cl C s2 H2 fp) [] (v0::σ) H' s'/\tn i s'.heap/\(∀b∈fp,H' b=none)/\W i n ys H') ?_ m0 ⟨0,none,[],_,IY,st1,λb hb=>?_,w0⟩
  ·rintro n s3 ⟨i,v0,ys,H3,I3,st3,fr3,w3⟩;obtain⟨hDl,hw⟩:=turn i n ys H3 w3;rcases hw with ⟨stop,qn⟩ | ⟨go,hsz,step⟩
   ·refine thn (T.done (fW X x M scope cl C s2 H2 fp) rfl rfl rfl hc i [] s3 _ H3 _ I3 (stat fr3) st3 stop) λr s4 ⟨hr,I4⟩=>?_
    subst hr;obtain⟨m4,hn4,_⟩:=I4.loc;obtain⟨oC,es4,ep4,e4,r4⟩:=id hn4;have G0:s2.heap.objs.size<=C:=by rw[hDD];exact Jd
    have IX:Inv X pins σ H3 s4:=I2.FG (ch:=fp) I4.os I4.base I4.hok I4.bare λb hb=>⟨(f2 b hb).2.2.2.1,(f2 b hb).2.1,(f2 b hb).2.2.2.2.1,(f2 b hb).2.2.2.2.2⟩
    have fC:=I2.rP (H':=H3) G0 I4.free;have IX2:Inv X (pins++[(C,oC)]) σ H3 s4:=IX.rO λp hp=>(List.mem_append.mp hp).elim (λz=>IX.pin p (gn _ z)) λz=>by
     have e:p=(C,oC):=by simpa using z
     subst e;exact⟨e4,fC.1,fC.2.1,fC.2.2.1,λv z=>by rw[r4.1]at z;cases z⟩
    exact hRR D C H3 s4 oC m4 IX2 e4 hn4 (ra I2.sz G0) fC.2.2.2.2.1 fC.2.2.2.2.2 qn
   ·refine thn (T.item (fW X x M scope cl C s2 H2 fp) rfl rfl rfl hc i [] s3 _ H3 _ I3 (stat fr3) st3 go) λr s4 ⟨u,hr,h4⟩=>?_
    subst hr;have e0:∀k:Sem Unit,(letOwnedTupleGo (.Name x px) (.ref it) u >>= λ_=>k)=k:=λk=>by
     rw[show letOwnedTupleGo (.Name x px) (.ref it) u=pure () from rfl,pure_bind]
    show wpAny _ _ (assign (.Name x px) (compEnvC scope cl C X.env) u) _ _ s4;rw[<-e0 (assign (.Name x px) (compEnvC scope cl C X.env) u)];refine de (thn h4 λ_ s5 ⟨xv,H5,I5,r5,y5,st5,fr5⟩=>?_)
    have I5':=I5.pinned (stat fr5) (T.obj _ _ st5);have hxl:(fW X x M scope cl C s2 H2 fp).env.scope.names.lookup x=some .local:=lookup_relabel_local S.hx;refine wpAny_assign_Name (lz (X:=fW X x M scope cl C s2 H2 fp) (i:=0) I5' ndY rfl (Tp hxl) r5 (λs6 I6=>?_) (.inr hxl))
    refine wpAny_tests_nil ?_;rw[if_pos rfl];refine kq (he cl C s2 H2 fp _ s6 _ H5 _ I6 (step xv H5 y5)) (λy s7 ⟨yv,H7,I7,r7,hD7,m',hm',w7⟩=>?_) (λ_ _ f=>f.elim)
    refine kq (cA (X:=fW X x M scope cl C s2 H2 fp) _ s7 _ H7 (.ref D) [yv] (.ref D) [y] (λ_ H8=>H8=upd H7 D (.lst (ys++[yv]))) I7 rfl (.cons r7 .nil) ⟨D,ys,yv,rfl,rfl,hD7,hsz,rfl⟩)
     (λ_ s8 ⟨_,H8,I8,_,e8⟩=>?_) (λ_ _ f=>f.elim)
    subst e8;refine⟨m',hm',i+1,some xv,ys++[yv],_,I8.cY,T.keep _ _ _ st5 λb hb o e=>(I8.pin (b,o) (gn _ (gn _ (d8 hb e)))).1,λb hb=>?_,w7⟩
    obtain⟨o,e,d⟩:=T.obj _ _ st5 b hb;exact(I8.pin (b,o) (gn _ (gn _ (d8 hb e)))).2.1
  ·show (upd H2 D (.lst [])) b=none;rw[ao (Tf (fo b hb))];exact(f2 b hb).1
 exact codeAny_compStart_list loop (T.self _ 0 _ _ _ st1 loop)
theorem j3 (S:bQ scope X.env.scope x X.N M)(hc:X.calm=true)(hi:PI X (.Name x px) iter wi)(he:∀cl C s H fp,PE (fW X x M scope cl C s H fp) elt te)
  (hs:∀x,foldedSetIterable iter X.env x=pure x:=by intro _;rfl):PE X (.ListComp elt [⟨.Name x px,iter,[],0⟩] scope pos) (Jb wi te):=by
 intro pins s σ H Q I h;obtain⟨cl,CO,p1,p3⟩:=uo (scope:=scope) (env:=X.env) (λy hy hf=>I.ok.has y.1 (.inl (S.free y hy hf)))
 rw[eval_ListComp];refine wpAny_comprehension_free (use:=none) rfl hs CO S.kind S.names (Ar (RR:=λacc C=>compPost (model X.prog X.w) X.A X.xe none (EP X pins σ Q) acc C) S hc hi he I h p1 p3 ?_)
 intro D C H' s' o m I' e hn h0 h1 h2 q;refine⟨m,hn,λh' hs'=>?_⟩
 have pC:=I'.pin (C,o) (gn _ (gn _ (by simp)))
 have IX:Inv X pins σ H' s':=I'.cY;exact⟨.ref D,H',IX.turned (t':=s'.toks) (λb ob hb e=>(hs'.2 b hb).trans e) pC.2.1 pC.2.2.1 (.inr h0) h1 h2,rfl,q⟩
theorem xC {i:Nat}{y:Str}{py Qs:Pos}(S:bQ scope X.env.scope x X.N M)(hc:X.calm=true)(hj:X.N[i]?=some y)(hy:Loc X.env.scope y)(hi:PI X (.Name x px) iter wi)(he:∀cl C s H fp,PE (fW X x M scope cl C s H fp) elt te)
  (hsw:swapsWith (.ListComp elt [⟨.Name x px,iter,[],0⟩] scope pos) (some (.Name y py)) Qs.line X.env=pure true:=by rfl)
  (hf:X.fn y=true\/X.env.scope.names.lookup y=some .local:=by first | exact .inl rfl | exact .inr rfl | assumption)
  (hs:∀x,foldedSetIterable iter X.env x=pure x:=by intro _;rfl):PS X (.Assign [.Name y py] (.ListComp elt [⟨.Name x px,iter,[],0⟩] scope pos) Qs) (ND (Jb wi te) (cX i)):=by
 intro pins s σ H D I h;obtain⟨cl,CO,p1,p3⟩:=uo (scope:=scope) (env:=X.env) (λy hy hf=>I.ok.has y.1 (.inl (S.free y hy hf)))
 rw[exec_Assign_Name_used _ _ _ _ hsw];refine de (T3 (de ?_));show wpAny _ _ (do let _ <-comprehension (.ListComp elt [⟨.Name x px,iter,[],0⟩] scope pos) scope X.env _ (newList []) false (eval iter X.env) (some (assign (.Name y py) X.env))) _ _ s
 refine de (kq (wpAny_comprehension_free (use:=some (assign (.Name y py) X.env)) (Q:=λ_ s'=>SP X pins D .next s') rfl hs CO S.kind S.names
  (Ar (RR:=λacc C=>compPost (model X.prog X.w) X.A X.xe (some (assign (.Name y py) X.env)) (λ_ s'=>SP X pins D .next s') acc C) S hc hi he I h p1 p3 ?_)) (λ_ s' hq=>kj (kj hq)) λ_ _ e=>e)
 intro Dd C H' s' o m I' e hn h0 h1 h2 q;show wpAny _ _ (assign (.Name y py) X.env (.ref Dd)) _ _ s';refine wpAny_assign_Name (lz I' S.nd hj hy (v:=.ref Dd) rfl (λs'' I''=>?_) hf)
 have pC:=I''.pin (C,o) (gn _ (gn _ (by simp)))
 obtain⟨o',es,ep,e0,r⟩:=hn;rw[e]at e0;cases e0;have IX:Inv X pins _ H' s'':=I''.cY;refine⟨m,⟨o,es,ep,pC.1,r⟩,λh' hs'=>?_⟩
 exact⟨_,H',IX.turned (t':=s''.toks) (λb ob hb e=>(hs'.2 b hb).trans e) pC.2.1 pC.2.2.1 (.inr h0) h1 h2,q⟩
def bZ (D:Addr)(n:Nat)(Pv:Nat->List V->Hp->Prop)(i:Nat)(ys:List V):VK:=λy H4=>H4 D=some (.lst ys)/\∃m',m' < n - i/\m'=n - (i+1)/\i+1<=n/\Pv (i+1) (ys++[y]) (upd H4 D (.lst (ys++[y])))
theorem bZ.mk {D:Addr}{n:Nat}{Pv:Nat->List V->Hp->Prop}{i:Nat}{ys:List V}{y:V}{H4:Hp}(hi:i < n)(h1:H4 D=some (.lst ys))(h2:Pv (i+1) (ys++[y]) (upd H4 D (.lst (ys++[y])))):bZ D n Pv i ys y H4 :=
 ⟨h1,n - (i+1),by omega,rfl,hi,h2⟩
theorem lD {K:ba}{a D:Addr}{xs:List V}{te:TE}{Q:VK}{σ:St}{H1:Hp}(Pv:Nat->List V->Hp->Prop)(h0:Pv 0 [] (upd H1 D (.lst [])))(hz:xs.length<=eg)
  (hl:∀i ys H2,i<=xs.length->Pv i ys H2->SqL K H2 a xs/\H2 D=some (.lst ys)/\ys.length=i)
  (hs:∀i x ys H2,xs[i]?=some x->Pv i ys H2->te (some x::σ) H2 (bZ D xs.length Pv i ys)) (hd:∀ys H2,Pv xs.length ys H2->Q (.ref D) H2) :
  hZ (Itl K a) te σ D H1 Q:=by
 refine⟨λi m ys H=>m=xs.length - i/\i<=xs.length/\Pv i ys H,⟨xs.length,by simp,TM _,h0⟩,?_⟩
 rintro i m ys H2 ⟨rfl,hi,p⟩;obtain⟨q,q2,q3⟩:=hl i ys H2 hi p;refine⟨q2,?_⟩
 by_cases hlt:i < xs.length
 ·refine .inr ⟨⟨xs,xs[i],q,by simp[hlt]⟩,by omega,λx H3 y=>?_⟩
  obtain⟨e,y⟩:=y;subst e;exact hs i x ys _ (y xs q) p
 ·have e:i=xs.length:=by omega
  subst e;exact .inl ⟨⟨xs,q,kc _⟩,hd ys H2 p⟩
theorem EF {lo:Int}{n:Nat}{D:Addr}{te:TE}{Q:VK}{σ:St}{H1:Hp}(Pv:Nat->List V->Hp->Prop)(h0:Pv 0 [] (upd H1 D (.lst [])))(hz:n<=eg)
  (hl:∀i ys H2,i<=n->Pv i ys H2->H2 D=some (.lst ys)/\ys.length=i)
  (hs:∀i ys H2,i < n->Pv i ys H2->te (some (.int (lo+i))::σ) H2 (bZ D n Pv i ys)) (hd:∀ys H2,Pv n ys H2->Q (.ref D) H2) :
  hZ (Itr lo n) te σ D H1 Q:=by
 refine⟨λi m ys H=>m=n - i/\i<=n/\Pv i ys H,⟨n,by simp,TM _,h0⟩,?_⟩
 rintro i m ys H2 ⟨rfl,hi,p⟩;obtain⟨q2,q3⟩:=hl i ys H2 hi p;refine⟨q2,?_⟩
 by_cases hlt:i < n
 ·refine .inr ⟨hlt,by omega,λx H3 y=>?_⟩
  obtain⟨e,y⟩:=y;subst e y;exact hs i ys _ hlt p
 ·have e:i=n:=by omega
  subst e;exact .inl ⟨kc _,hd ys H2 p⟩
end
structure MkN (K:ba)(C:Addr):Prop where
 makes:PySem.W.makesIn K C=true
 init:Ts K (.ref C) "__init__"=some (some (.builtin "object.__init__"))
 kp:UX K (.ref C)=true
def N3 (C:Addr):TE:=λ_ H Q=>∀x dx,H x=none->H dx=none->dx≠x->Q (.ref x) (upd (upd H dx (.own x)) x (.ins C dx []))
section
variable{X:Cx}{C:Addr}{x:Str}{p pos:Pos}
theorem lE (M:MkN X.K C)(hg:Gl X x)(hm:X.mg x=some (.ref C))(hdb:(x == ("__debug__":Str))=false:=by decide):PE X (.Call (.Name x p) [] [] pos) (N3 C):=by
 intro pins s σ H Q I h;refine wpAny_Call_Name_kw (fU I hg hm ?_ hdb);refine PySem.W.callWith_K0 I.kIn M.kp (UO ?_);have I2:=Inv.made (C:=C) I;have q:=h (s.heap.objs.size+1) s.heap.objs.size (I.hok.fresh (Ut _)) (I.hok.fresh (kc _)) (Tf (Nat.lt_succ_self _));have fin:EP X pins σ Q (.ref (s.heap.objs.size+1)) { s with heap:=(s.heap.push TV).push (T5 C s.heap.objs.size) }:=⟨.ref _,_,I2,rfl,q⟩
 have X1:=I.kIn;have e2:((s.heap.push TV).push (T5 C s.heap.objs.size)).get? (s.heap.objs.size+1)=some (T5 C s.heap.objs.size):=by
  have:=tm (s.heap.push TV) (o:=T5 C s.heap.objs.size) rfl
  rwa [UK]at this
 clear I2 q h I;obtain⟨hh,g,d,t,os⟩:=s;have Y:=PySem.W.makes_of (M:=model X.prog X.w) X1 M.makes;refine PySem.W.make_core Y (U4 X1 M.init) (λself=>PySem.W.Looks.of_pure (PySem.W.oi_bind self)) (.inr ⟨rfl,rfl⟩) ?_
 have t1:PySem.W.Looks (model X.prog X.w) ((hh.push TV).push (T5 C hh.objs.size)) (typeOf (.ref (hh.objs.size+1))) (.ref C):=(PySem.W.Looks.ld e2).andThen .now;have t2:PySem.W.Looks (model X.prog X.w) ((hh.push TV).push (T5 C hh.objs.size)) (isInstance (.ref (hh.objs.size+1)) (.type "object")) true:=t1.andThen (Y.top.keeps λb o e=>fu _ (fu _ e))
 refine codeAny_call_builtin PySem.W.oi_plain PySem.W.entry_oi (@PySem.W.check_slot (model X.prog X.w) _ _ _ "object.__init__" "object" "__init__" (.ref (hh.objs.size+1)) [] [] _ PySem.W.oi_kind PySem.W.oi_split t2 (PySem.W.oi_args (.ref (hh.objs.size+1))) ?_);show wpAny _ _ (Builtin.«object.__init__» ⟨[.ref (hh.objs.size+1)],[]⟩) _ _ _;rw[PySem.W.oi_run];exact kj (And.intro rfl fin)
end
structure N4 (P:Params)(K:ba)(a:Addr):Prop where
 ex:∃es n,K.lookup a=some ⟨.type "dict",none,.dict es n,#[]⟩/\PySem.W.KeysLit P es.toList
section
variable{X:Cx}
theorem Je:IxR X (λx y H Q=>∃a z v u,x=.ref a/\y=.str z/\N4 X.w.params X.K a/\US X.K a z=some (some u)/\RelV v u/\Q v H):=by
 intro value slice pins s σ H x y v u Q I rx ry h hs;obtain⟨a,z,w',u',rfl,rfl,⟨es,n,hl,hk⟩,e,r,q⟩:=h;cases rx;obtain⟨t,rfl⟩:=ry;have hm:=PySem.W.mapOf_K (prog:=X.prog) I.kIn hl hk;exact tail_any hm.typeIs slot_dict_getitem.lookup (wpAny_getItem_of (strKind_is X.prog X.w z t) hm (PySem.W.find_K hl e) ⟨w',H,I.tok _,r,q⟩) hs
end
theorem LK (bs:List Bool):(UU bs.length).any (λi=>bs.getD i false)=bs.any id:=by
 have e:(UU bs.length).map (λi=>bs.getD i false)=bs:=by
  apply List.ext_getElem
  ·simp
  ·intro i h1 h2;simp[h2]
 calc _=((UU bs.length).map (λi=>bs.getD i false)).any id:=by rw[List.any_map];rfl
  _=_:=by rw[e]
theorem LL (bs:List Bool):(UU bs.length).all (λi=>bs.getD i false)=bs.all id:=by
 have e:(UU bs.length).map (λi=>bs.getD i false)=bs:=by
  apply List.ext_getElem
  ·simp
  ·intro i h1 h2;simp[h2]
 calc _=((UU bs.length).map (λi=>bs.getD i false)).all id:=by rw[List.all_map];rfl
  _=_:=by rw[e]
theorem xD:∀ {bs:List Bool} {us:List Value},Vals (bs.map V.bl) us->us=bs.map UH
 |[],_,.nil=>rfl
 |b::bs,_,.cons r t=>by
  cases r;rw[xD t];rfl
section
variable{X:Cx}
theorem Jf (hc:X.calm=true):eO X (.builtin "any") (λxs H Q=>∃(p:Addr) (bs:List Bool),xs=[.ref p]/\SqL X.K H p (bs.map V.bl)/\Q (.bl (bs.any id)) H):=by
 intro pins s σ H xs us Q I r h;obtain⟨p,bs,rfl,hq,q⟩:=h;obtain⟨u,rfl,rx⟩:=vals1 r;cases rx;obtain⟨its,rv,pl,hz⟩:=I.list hq;obtain rfl:=xD rv;refine call_any_walk (wpAny_pyIter_list pl.isList ?_);obtain⟨o,n,e,_⟩:=id pl;have hlt:p < s.heap.objs.size:=ku e;refine⟨s.heap.objs.size,_,_,_,_,_,λi=>bs.getD i false,rfl,Walks.list (A:=X.A.in1) (show X.A.in1.handled=none from I.ok.hd hc) s.heap.objs.size p (Tf hlt) (bs.map UH).toArray,⟨⟨_,tm _ rfl,rfl,rfl⟩,pl.isList.at λo e=>fu _ e⟩,?_,λh' tk kk=>?_⟩
 ·intro i v s' Q' E' hv q';have hv':v=UH (bs.getD i false):=by
   have h2:(bs.map UH)[i]?=some v:=by simpa using hv
   rw[wt]at h2;cases hb:bs[i]? with
   |none=>rw[hb]at h2;cases h2
   |some b =>
    rw[hb]at h2;rw[Tv,hb];exact(om h2).symm
  rw[hv'];exact wpAny_truthy_bool q'
 ·have I1:Inv X pins σ H { s with heap:=h',toks:=tk }:=I.kept λb o e=>kk b o (by simp;exact Tf (ku e)) (fu _ e)
  refine⟨.bl _,H,I1,rfl,?_⟩;have e1:(bs.map UH).toArray.size=bs.length:=by simp
  rw[e1,LK];exact q
theorem xE (hc:X.calm=true):eO X (.builtin "all") (λxs H Q=>∃(p:Addr) (bs:List Bool),xs=[.ref p]/\SqL X.K H p (bs.map V.bl)/\Q (.bl (bs.all id)) H):=by
 intro pins s σ H xs us Q I r h;obtain⟨p,bs,rfl,hq,q⟩:=h;obtain⟨u,rfl,rx⟩:=vals1 r;cases rx;obtain⟨its,rv,pl,hz⟩:=I.list hq;obtain rfl:=xD rv;refine call_all_walk (wpAny_pyIter_list pl.isList ?_);obtain⟨o,n,e,_⟩:=id pl;have hlt:p < s.heap.objs.size:=ku e;refine⟨s.heap.objs.size,_,_,_,_,_,λi=>bs.getD i false,rfl,Walks.list (A:=X.A.in1) (show X.A.in1.handled=none from I.ok.hd hc) s.heap.objs.size p (Tf hlt) (bs.map UH).toArray,⟨⟨_,tm _ rfl,rfl,rfl⟩,pl.isList.at λo e=>fu _ e⟩,?_,λh' tk kk=>?_⟩
 ·intro i v s' Q' E' hv q';have hv':v=UH (bs.getD i false):=by
   have h2:(bs.map UH)[i]?=some v:=by simpa using hv
   rw[wt]at h2;cases hb:bs[i]? with
   |none=>rw[hb]at h2;cases h2
   |some b =>
    rw[hb]at h2;rw[Tv,hb];exact(om h2).symm
  rw[hv'];exact wpAny_truthy_bool q'
 ·have I1:Inv X pins σ H { s with heap:=h',toks:=tk }:=I.kept λb o e=>kk b o (by simp;exact Tf (ku e)) (fu _ e)
  refine⟨.bl _,H,I1,rfl,?_⟩;have e1:(bs.map UH).toArray.size=bs.length:=by simp
  rw[e1,LL];exact q
end
def Qt (X:Cx)(pins:List (Addr×Obj))(H:Hp)(h:Heap)(e:Addr)(vs:Array Value):Option Value->Prop
 |none=>vs[1]?=some .none
 |some m=>∃(T:Addr) (oT:Obj) (ts:Array Value),vs[1]?=some (.ref T)/\T≠e/\dG X pins H T/\h.get? T=some oT/\oT.data=.fields ts/\ts[3]?=some m
structure Z2 (X:Cx)(vs:Array Value):Prop where
 sz:1 < vs.size
 cx:X.xc=true->vs[2]?=some .none
structure XAt (X:Cx)(pins:List (Addr×Obj))(H:Hp)(h:Heap)(e:Addr)(cls:Value)(xd:Option Addr)(m:Option Value):Prop where
 ok:dG X pins H e
 ex:∃(sl:Array (Option Value)) (vs:Array Value),h.get? e=some ⟨cls,xd,.fields vs,sl⟩/\Z2 X vs/\Qt X pins H h e vs m
def MOk (_:Cx)(m:Option Value):Prop:=m=none\/m=some .none\/∃v,m=some v
def XP (X:Cx)(pins:List (Addr×Obj))(σ:St)(E:XK)(e:Value)(s':Shared):Prop :=
 ∃(ea:Addr) (cls:Value) (xd:Option Addr) (m:Option Value) (H':Hp),e=.ref ea/\Inv X pins σ H' s'/\XAt X pins H' s'.heap ea cls xd m/\MOk X m/\E cls xd H'
abbrev SXK:=St->XK
def XPS (X:Cx)(pins:List (Addr×Obj))(E:SXK)(e:Value)(s':Shared):Prop:=∃σ',XP X pins σ' (E σ') e s'
structure Fr1 (X:Cx):Prop where
 stk:X.stack=X.env::X.outer
 fr:X.env.frame=some X.env.locals
section
variable{X:Cx}{pins:List (Addr×Obj)}{σ:St}{H H':Hp}{s:Shared}{e:Addr}{cls:Value}{xd:Option Addr}{m:Option Value}
theorem dG.So {b:Addr}(I:Inv X pins σ H s)(f:dG X pins H' b):b∉frs X.stack:=λz=>by
 rcases List.mem_cons.mp (I.xg b z) with q | q
 ·exact f.2.1 q
 ·exact f.2.2.1 q
theorem dG.drop {pl:List (Addr×Obj)}{b:Addr}(f:dG X (pins++pl) H b):dG X pins H b :=
 ⟨f.1,f.2.1,f.2.2.1,f.2.2.2.1,f.2.2.2.2.1,λp hp=>f.2.2.2.2.2 p ((List.mem_append.mp hp).elim (λz=>TL _ z) λz=>gn _ (TL _ z))⟩
theorem dG.clear {b:Addr}(f:dG X pins H b):dG X [] H b :=
 ⟨f.1,f.2.1,f.2.2.1,f.2.2.2.1,f.2.2.2.2.1,λp hp=>f.2.2.2.2.2 p ((List.mem_append.mp hp).elim (λz=>TL _ z) λz=>nomatch z)⟩
theorem XAt.drop {pl:List (Addr×Obj)}{h:Heap}(x:XAt X (pins++pl) H h e cls xd m):XAt X pins H h e cls xd m:=by
 obtain⟨ok,sl,vs,he,hz,hm⟩:=x;refine⟨ok.drop,sl,vs,he,hz,?_⟩;cases m with
 |none=>exact hm
 |some m=>obtain⟨T,oT,ts,a,b,c,d⟩:=hm;exact⟨T,oT,ts,a,b,c.drop,d⟩
theorem XAt.clear {h:Heap}(x:XAt X pins H h e cls xd m):XAt X [] H h e cls xd m:=by
 obtain⟨ok,sl,vs,he,hz,hm⟩:=x;refine⟨ok.clear,sl,vs,he,hz,?_⟩;cases m with
 |none=>exact hm
 |some m=>obtain⟨T,oT,ts,a,b,c,d⟩:=hm;exact⟨T,oT,ts,a,b,c.clear,d⟩
theorem XP.drop {pl:List (Addr×Obj)}{E:XK}{v:Value}(x:XP X (pins++pl) σ E v s):XP X pins σ E v s:=by
 obtain⟨ea,cls,xd,m,H',rfl,I,hx,hm,q⟩:=x;exact⟨ea,cls,xd,m,H',rfl,I.cY,hx.drop,hm,q⟩
theorem N5 {h':Heap}(I:Inv X pins σ H s)(he:dG X pins H e)(k1:∀b o,b∉frs X.stack->b≠e->s.heap.get? b=some o->h'.get? b=some o)
  (k2:∀b o,b≠e->s.heap.get? b=some o->∃sl,h'.get? b=some { o with slots:=sl }):Un (frs X.stack) [e] H H s.heap h'/\HOk X.prog X.w H h':=by
 refine⟨⟨λb o q _ hb hx=>k1 b o hb (by simpa using hx) q,λb o q _ _ hx=>k2 b o (by simpa using hx) q,λb o _ n _=>n,λb o q hx=>?_,λ_ _ q=>q,λ_ _ _ q=>q,λ_ ps q=>⟨#[],by rw[q];simp⟩⟩,λa o q=>?_⟩
 ·obtain⟨sl,z⟩:=k2 b o (by simpa using hx) q
  exact⟨_,z⟩
 ·refine(I.hok a o q).wm (λb u hb r=>k1 b u (λz=>?_) (λz=>?_) r) (λ_ z=>z) (λ_ _ z=>z)
  ·have n:=I.wV b z;rcases hb with rfl | hb
   ·rw[q]at n;cases n
   ·rw[hb]at n;cases n
  ·have n:=he.1;rw[<-z]at n;rcases hb with rfl | hb
   ·rw[q]at n;cases n
   ·rw[hb]at n;cases n
theorem LM {h':Heap}(I:Inv X pins σ H s)(he:dG X pins H e)(k1:∀b o,b∉frs X.stack->b≠e->s.heap.get? b=some o->h'.get? b=some o)
  (k2:∀b o,b≠e->s.heap.get? b=some o->∃sl,h'.get? b=some { o with slots:=sl }):Inv X pins σ H { s with heap:=h' }:=by
 obtain⟨u,ok⟩:=N5 I he k1 k2;refine I.call (g':=s.gens) (t':=s.toks) (d':=s.drawn) u ok I.bare λb hb=>?_
 obtain rfl:b=e:=by simpa using hb
 exact⟨he.2.2.2.1,he.2.1,he.2.2.2.2.1,he.2.2.2.2.2⟩
theorem FR {M:Model}{A:Around}{E:Value->Shared->Prop}{head:Value}{LN:Bool}{sl:Array (Option Value)}{vs:Array Value}{Q:Unit->Shared->Prop}(F:Fr1 X)(hA:A.frames=some X.stack)(I:Inv X pins σ H s)(ok:dG X pins H e)
  (he:s.heap.get? e=some ⟨cls,xd,.fields vs,sl⟩) (hz:Z2 X vs) (h:∀s',Inv X pins σ H s'->XAt X pins H s'.heap e cls xd (some (rawInt X.env.locals))->Q () s') :
  wpAny M A (do let a <-frameOf X.env;let pl <-entryPlaceOf X.env.locals LN;let b <-EntryCells.newEntry head a .none (rawInt X.env.locals) .none pl;setField (.ref e) 1 b) Q E s:=by
 have nE:e∉frs X.stack:=ok.So I;have fs:=I.stack;rw[F.stk]at hA fs nE;refine de (wpAny_frameOf_fun hA fs F.fr λh₁ so=>?_)
 refine de (wpAny_entryPlaceOf λpl hpl=>?_)
 unfold EntryCells.newEntry newFields;refine de (wpAny_newObj_type ?_ (hpl.sizeOk5 _ _ _ _ _));generalize ht:([head,.ref X.env.locals,.none,rawInt X.env.locals,.none]++(if pl.isEmpty then Vf 6 Us else pl)).toArray=ts
 have t3:ts[3]?=some (rawInt X.env.locals):=by rw[<-ht];simp
 have e1:h₁.get? e=some ⟨cls,xd,.fields vs,sl⟩:=(so.2.1 e nE).trans he;have e2:=fu (h:=h₁) { cls:=.type "traceback",dict:=none,data:=.fields ts } e1;refine wpAny_setField e2 rfl hz.sz ?_;have sz:h₁.objs.size=s.heap.objs.size:=so.1;have nT:h₁.objs.size≠e:=Nat.ne_of_gt (ku e1);have k0:∀b o,b≠e->h₁.get? b=some o->((h₁.push { cls:=.type "traceback",dict:=none,data:=.fields ts }).update e (Uh (·.setIfInBounds 1 (rf h₁.objs.size)))).get? b=some o:=λb o hb q =>
  (TU _ _ (Tr hb)).trans (fu _ q)
 have I':=LM (h':=(h₁.push { cls:=.type "traceback",dict:=none,data:=.fields ts }).update e (Uh (·.setIfInBounds 1 (rf h₁.objs.size)))) I ok
  (λb o hb hbe q=>k0 b o hbe ((so.2.1 b (by rw[<-F.stk];exact hb)).trans q)) (λb o hbe q=>by obtain⟨sl,z⟩:=so.2.2 b o q;exact⟨sl,k0 b _ hbe z⟩)
 have fT:dG X pins H h₁.objs.size:=I.rP (by rw[sz];exact kc _) (by rw[sz];exact I.fresh)
 have gE:((h₁.push { cls:=.type "traceback",dict:=none,data:=.fields ts }).update e (Uh (·.setIfInBounds 1 (rf h₁.objs.size)))).get? e=some ⟨cls,xd,.fields (vs.setIfInBounds 1 (rf h₁.objs.size)),sl⟩ :=
  T7 (Uh (·.setIfInBounds 1 (rf h₁.objs.size))) e2 rfl
 have gT:((h₁.push { cls:=.type "traceback",dict:=none,data:=.fields ts }).update e (Uh (·.setIfInBounds 1 (rf h₁.objs.size)))).get? h₁.objs.size=some { cls:=.type "traceback",dict:=none,data:=.fields ts } :=
  (TU _ _ (Tr nT)).trans (tm h₁ rfl)
 exact h _ I' ⟨ok,sl,_,gE,⟨by simpa using hz.sz,λz=>by rw[Array.getElem?_setIfInBounds_ne (by decide)];exact hz.cx z⟩,h₁.objs.size,_,ts,by simp[hz.sz],nT,fT,gT,rfl,t3⟩
theorem eh {M:Model}{A:Around}{E:Value->Shared->Prop}{f:Option Addr}{mv:Value}{Q:Unit->Shared->Prop}(I:Inv X pins σ H s)(x:XAt X pins H s.heap e cls xd (some mv))
  (h:∀s',Inv X pins σ H s'->XAt X pins H s'.heap e cls xd (some (f.elim .none λb=>rawInt b))->Q () s'):wpAny M A (setFlight (.ref e) f) Q E s:=by
 obtain⟨ok,sl,vs,he,hz,T,oT,ts,h1,nT,fT,hT,hd,h3⟩:=x;unfold setFlight;refine de (UE he rfl h1 ?_);rw[if_pos (show (rf T != Us)=true by simp)]
 have z3:3 < ts.size:=(Array.getElem?_eq_some_iff.mp h3).1;refine wpAny_setField hT hd z3 ?_;have other:∀b,b≠T->(s.heap.update T (Uh (·.setIfInBounds 3 (f.elim Us λb=>rawInt b)))).get? b=s.heap.get? b:=λb hb=>TU _ _ (Tr hb)
 have I':=I.turned (t':=s.toks) (h':=s.heap.update T (Uh (·.setIfInBounds 3 (f.elim Us λb=>rawInt b)))) (λb o hb q=>(other b hb).trans q) fT.1 fT.2.1 fT.2.2.2.1 fT.2.2.2.2.1 fT.2.2.2.2.2
 exact h _ I' ⟨ok,sl,vs,(other e (Tr nT)).trans he,hz,T,_,_,h1,nT,fT,T7 _ hT (Obj.isFreed_of_fields (Obj.data_mapFields hd _)),Obj.data_mapFields hd _,by simp[z3]⟩
theorem qV {M:Model}{A:Around}{E:Value->Shared->Prop}{Q:Unit->Shared->Prop}(F:Fr1 X)(hA:A.frames=some X.stack)(I:Inv X pins σ H s)(x:XAt X pins H s.heap e cls xd m)(hm:MOk X m)
  (h:∀s',Inv X pins σ H s'->XAt X pins H s'.heap e cls xd (some (rawInt X.env.locals))->Q () s'):wpAny M A (noteFrame (.ref e) X.env) Q E s:=by
 obtain⟨ok,sl,vs,he,hz,hv⟩:=x;unfold noteFrame;simp only[F.fr];cases m with
 |none =>
  refine de (UE he rfl hv ?_);rw[if_neg (by decide)]
  exact FR F hA I ok he hz h
 |some mv =>
  obtain⟨T,oT,ts,h1,nT,fT,hT,hd,h3⟩:=hv;refine de (UE he rfl h1 ?_);rw[if_pos (show (rf T != Us)=true by simp)]
  refine de (UE hT hd h3 ?_)
  by_cases hmv:mv=rawInt X.env.locals
  ·subst hmv;rw[if_pos (show (rawInt X.env.locals == rawInt X.env.locals)=true by simp)]
   exact kj (h s I ⟨ok,sl,vs,he,hz,T,oT,ts,h1,nT,fT,hT,hd,h3⟩)
  ·rw[if_neg (show ¬(mv == rawInt X.env.locals)=true from λz=>hmv (beq_iff_eq.mp z))]
   have z3:3 < ts.size:=(Array.getElem?_eq_some_iff.mp h3).1;refine de (wpAny_setField hT hd z3 ?_);have other:∀b,b≠T->(s.heap.update T (Uh (·.setIfInBounds 3 Us))).get? b=s.heap.get? b:=λb hb=>TU _ _ (Tr hb)
   have I':=I.turned (t':=s.toks) (h':=s.heap.update T (Uh (·.setIfInBounds 3 Us))) (λb o hb q=>(other b hb).trans q) fT.1 fT.2.1 fT.2.2.2.1 fT.2.2.2.2.1 fT.2.2.2.2.2
   exact FR F hA I' ok ((other e (Tr nT)).trans he) hz h
theorem Jg {E:SXK}(F:Fr1 X)(fr:X.A.frames=some X.stack):PassesOwn (model X.prog X.w) X.A X.env (XPS X pins E):=by
 rintro v s' ⟨σ',ea,cls,xd,m,H',rfl,I,hx,hm,q⟩;refine qV F fr I hx hm λs1 I1 x1=>?_
 unfold cameBackBy;obtain⟨ok,sl,vs,he,hz,T,oT,ts,h1,r⟩:=id x1;refine de (UE he rfl h1 ?_);rw[if_neg (show ¬((rf T == Us)=true) by simp)]
 have step:wpAny (model X.prog X.w) X.A (setFlight (.ref ea) X.env.frame) (λ_ s''=>XPS X pins E (.ref ea) s'') (XPS X pins E) s1 :=
  eh I1 x1 λs2 I2 x2=>⟨σ',ea,cls,xd,_,H',rfl,I2,x2,by rw[F.fr];exact .inr (.inr ⟨_,rfl⟩),q⟩
 first
  |exact step
  |exact de (kj step)
end
abbrev CXB (b:Bool)(P:km)(w:World):CXT:=λouter H s E e s'=>∃(ea T:Addr) (cls:Value) (xd:Option Addr) (H':Hp),e=.ref ea/\s'.os=s.os/\AllBare s'.gens/\Un (frs outer) [] H H' s.heap s'.heap/\HOk P w H' s'.heap /\
 (H' ea=none/\s.heap.objs.size<=ea)/\(H' T=none/\s.heap.objs.size<=T)/\T≠ea /\
 (∃(sl:Array (Option Value)) (vs:Array Value) (oT:Obj) (ts:Array Value),s'.heap.get? ea=some ⟨cls,xd,.fields vs,sl⟩/\(1 < vs.size/\(b=true->vs[2]?=some .none))/\vs[1]?=some (.ref T)/\s'.heap.get? T=some oT/\oT.data=.fields ts/\ts[3]?=some .none)/\E cls xd H'
abbrev CXX (P:km)(w:World):CXT:=CXB true P w
section
variable{X:Cx}{pins:List (Addr×Obj)}{σ:St}{H:Hp}{s s':Shared}{b:Bool}
theorem Jh {E:XK}{e:Value}(hb:X.xc=true->b=true)(I:Inv X pins σ H s)(h:CXB b X.prog X.w X.stack H s E e s'):XP X pins σ E e s':=by
 obtain⟨ea,T,cls,xd,H',rfl,os,bare,un,hok,⟨e1,e2⟩,⟨t1,t2⟩,ne,⟨sl,vs,oT,ts,g1,g2,g3,g4,g5,g6⟩,q⟩:=h;have I':Inv X pins σ H' s':=I.FG (ch:=[]) os un hok bare λb z=>absurd z (by simp)
 exact⟨ea,cls,xd,some .none,H',rfl,I',⟨I.rP e2 e1,sl,vs,g1,⟨g2.1,λz=>g2.2 (hb z)⟩,T,oT,ts,g3,ne,I.rP t2 t1,g4,g5,g6⟩,.inr (.inl rfl),q⟩
theorem mz:Passes (CXB b X.prog X.w) X E0:=λ_ _ _ _ _ _ _ ⟨_,_,_,_,_,_,_,_,_,_,_,_,_,_,z⟩=>z.elim
end
section
variable{P:km}{w:World}{K:ba}{mg:Str->Option Value}{base:Heap}{k:Nat}{f:Addr}{fd:gp}{ps:List Str}{sp:Sp}
theorem FnOk.calm (F:FnOk P w K mg base (CXX P w) k f fd ps sp)(h:∀vs H Q E,sp vs H Q E->sp vs H Q E0):FnOk P w K mg base CX0 k f fd ps sp:=by
 refine⟨F.len,λA outer s H args us vs Q E hr he hb hv hs=>codeAny_mono (F.run A outer s H args us vs Q E0 hr he hb hv (h _ _ _ _ hs)) λr s' q=>?_⟩
 cases r with
 |error e=>obtain⟨_,_,_,_,_,_,_,_,_,_,_,_,_,_,z⟩:=q;exact z.elim
 |ok fl=>cases fl <;> exact q
theorem LO {N:List Str}{qual:Str}{scope:Scope}{cd:Value}{A:Around}{outer:List Env}{s s':Shared}{H:Hp}{E:XK}{e:Value}{pins:List (Addr×Obj)}
  (h:XPS (br (CXX P w) P w K mg base N qual scope f cd A outer s H E) pins (λ_=>E) e s'):(br (CXX P w) P w K mg base N qual scope f cd A outer s H E).xe e s':=by
 obtain⟨σ',ea,cls,xd,m,H',rfl,I,hx,hm,q⟩:=h;have fr:(br (CXX P w) P w K mg base N qual scope f cd A outer s H E).A.frames=some (br (CXX P w) P w K mg base N qual scope f cd A outer s H E).stack:=I.ok.frames;have F1:Fr1 (br (CXX P w) P w K mg base N qual scope f cd A outer s H E):=⟨rfl,rfl⟩;show wpAny _ _ (leaving (br (CXX P w) P w K mg base N qual scope f cd A outer s H E).env (.ref ea)) _ _ s';unfold leaving;refine de (qV F1 fr I hx hm λs1 I1 x1=>eh I1 x1 λs2 I2 x2=>?_)
 obtain⟨ok,sl,vs,he,hz,T,oT,ts,h1,nT,fT,hT,hd,h3⟩:=x2;have old:∀ {b:Addr},dG (br (CXX P w) P w K mg base N qual scope f cd A outer s H E) pins H' b->s.heap.objs.size<=b:=λ{b} z=>by
  rcases z.2.2.2.1 with y | y
  ·exact absurd (show b∈([]:List Addr) from y) (by simp)
  ·exact y
 exact⟨ea,T,cls,xd,H',rfl,I2.os,I2.bare,I2.base,I2.hok,⟨ok.1,old ok⟩,⟨fT.1,old fT⟩,nT,⟨sl,vs,oT,ts,he,⟨hz.sz,λ_=>hz.cx rfl⟩,h1,hT,hd,h3⟩,q⟩
end
abbrev TEX:=St->Hp->VK->XK->Prop
abbrev TAX:=St->Hp->(List V->Hp->Prop)->XK->Prop
abbrev TSX:=Ends->SXK->St->Hp->Prop
def PEX (X:Cx)(e:Expr)(t:TEX):Prop :=
 ∀(pins:List (Addr×Obj)) (s:Shared) (σ:St) (H:Hp) (Q:VK) (E:XK),Inv X pins σ H s->t σ H Q E->wpAny (model X.prog X.w) X.A (eval e X.env) (EP X pins σ Q) (XP X pins σ E) s
def PAX (X:Cx)(es:List Expr)(t:TAX):Prop :=
 ∀(pos:Pos) (pins:List (Addr×Obj)) (s:Shared) (σ:St) (H:Hp) (Q:List V->Hp->Prop) (E:XK),Inv X pins σ H s->t σ H Q E->wpAny (model X.prog X.w) X.A (spliced (backTo pos (Td es X.env))) (AP X pins σ Q) (XP X pins σ E) s
def PSX (X:Cx)(st:Stmt)(t:TSX):Prop :=
 ∀(pins:List (Addr×Obj)) (s:Shared) (σ:St) (H:Hp) (D:Ends) (E:SXK),Inv X pins σ H s->t D E σ H->wpAny (model X.prog X.w) X.A (exec st X.env) (SP X pins D) (XPS X pins E) s
def xF (X:Cx)(st:List Stmt)(t:TSX):Prop :=
 ∀(pins:List (Addr×Obj)) (s:Shared) (σ:St) (H:Hp) (D:Ends) (E:SXK),Inv X pins σ H s->t D E σ H->wpAny (model X.prog X.w) X.A (execs st X.env) (SP X pins D) (XPS X pins E) s
def N6 (te:TE):TEX:=λσ H Q _=>te σ H Q
def N7 (ta:TA):TAX:=λσ H Q _=>ta σ H Q
def Ji (ts:TS):TSX:=λD _ σ H=>ts D σ H
def Jj (t1:TEX)(t2:TAX):TAX:=λσ H Q E=>t1 σ H (λx H1=>t2 σ H1 (λxs H2=>Q (x::xs) H2) E) E
def MX (t1 t2:TSX):TSX:=λD E σ H=>t1 { D with nx:=t2 D E } E σ H
def Qu (tc:TT)(t1 t2:TSX):TSX:=λD E σ H=>tc σ H λd H1=>if d=true then t1 D E σ H1 else t2 D E σ H1
def Jk (t:TEX):TSX:=λD E σ H=>t σ H (λ_ H1=>D.nx σ H1) (E σ)
def MY (t:TEX):TSX:=λD E σ H=>t σ H D.rt (E σ)
def MZ (i:Nat)(t:TEX):TSX:=λD E σ H=>t σ H (λv H1=>D.nx (σ.set i (some v)) H1) (E σ)
def Bk (t:TAX)(sp:Sp):TEX:=λσ H Q E=>t σ H (λvs H1=>sp vs H1 Q E) E
def Jl (C:Addr)(m:Str)(ta:TEX)(t:TAX)(sp:Sp):TEX:=λσ H Q E=>ta σ H (λx H1=>∃a dx fs,x=.ref a/\H1 a=some (.ins C dx fs)/\fs.lookup m=none/\t σ H1 (λvs H2=>sp (x::vs) H2 Q E) E) E
def FT (C:Addr)(m:Str)(ta:TEX)(sp:Sp):TEX:=λσ H Q E=>ta σ H (λx H1=>∃a dx fs,x=.ref a/\H1 a=some (.ins C dx fs)/\fs.lookup m=none/\sp [x] H1 Q E) E
section
variable{X:Cx}{e:Expr}{es:List Expr}{st:Stmt}{sts:List Stmt}{te:TE}{ta:TA}{ts:TS}{pos:Pos}
theorem EP.cB {pins:List (Addr×Obj)}{σ:St}{Q:VK}{u:Value}{s':Shared}{W:Value->Shared->Prop}(h:EP (X.iB W) pins σ Q u s'):EP X pins σ Q u s':=by
 obtain⟨v,H',I,r,q⟩:=h;exact⟨v,H',I.cB,r,q⟩
theorem px (h:PE X.nox e te):PEX X e (N6 te):=λpins s σ H Q _ I hw =>
 kq (h pins s σ H Q (I.iB _) hw) (λ_ _ q=>q.cB) λ_ _ z=>Tq z
theorem pax (h:PA X.nox es ta):PAX X es (N7 ta):=λpos pins s σ H Q _ I hw =>
 kq (h pos pins s σ H Q (I.iB _) hw) (λ_ _ ⟨vs,H',I',r,q⟩=>⟨vs,H',I'.cB,r,q⟩) λ_ _ z=>Tq z
theorem psx (h:PS X.nox st ts):PSX X st (Ji ts):=λpins s σ H D _ I hw =>
 kq (h pins s σ H D (I.iB _) hw) (λ_ _ q=>q.cB) λ_ _ z=>Tq z
theorem i3 (h:PSs X.nox sts ts):xF X sts (Ji ts):=λpins s σ H D _ I hw =>
 kq (h pins s σ H D (I.iB _) hw) (λ_ _ q=>q.cB) λ_ _ z=>Tq z
theorem i4:PAX X [] (λ_ H Q _=>Q [] H):=λ_ _ _ _ H Q _ I h=>Calls.spliced_nil ⟨[],H,I,.nil,h⟩
theorem bR {t1:TEX}{t2:TAX}(ha:PEX X e t1)(hr:PAX X es t2)(hs:Td (e::es) X.env=(false,eval e X.env)::Td es X.env:=by rfl) :
  PAX X (e::es) (Jj t1 t2):=by
 intro pos pins s σ H Q E I h;unfold Jj at h;rw[hs];refine Calls.spliced_cons (kq (ha pins s σ H _ E I h) (λu s1 ⟨x,H1,I1,r1,q1⟩=>?_) λ_ _ z=>z)
 exact kq (hr pos pins s1 σ H1 _ E I1 q1) (λus s2 ⟨xs,H2,I2,r2,q2⟩=>⟨x::xs,H2,I2,.cons r1 r2,q2⟩) λ_ _ z=>z
theorem au {t1 t2:TSX}(h1:PSX X st t1)(h2:xF X sts t2):xF X (st::sts) (MX t1 t2):=by
 intro pins s σ H D E I h;unfold MX at h;refine wpAny_execs_cons (thn (h1 pins s σ H { D with nx:=t2 D E } E I h) λf s1 q=>?_)
 cases f with
 |next =>
  obtain⟨σ',H',I',q⟩:=q;exact h2 pins s1 σ' H' D E I' q
 |ret v=>exact q
 |brk=>exact q
 |cont=>exact q
theorem aJ {t1:TSX}(h1:PSX X st t1):xF X [st] t1:=by
 intro pins s σ H D E I h;refine wpAny_execs_cons (thn (h1 pins s σ H D E I h) λf s1 q=>?_)
 cases f with
 |next=>exact wpAny_execs_nil q
 |ret v=>exact q
 |brk=>exact q
 |cont=>exact q
theorem b6 {c:Expr}{a b:List Stmt}{tc:TT}{t1 t2:TSX}(hc:PT X.nox c tc)(ha:xF X a t1)(hb:xF X b t2):PSX X (.If c a b pos) (Qu tc t1 t2):=by
 intro pins s σ H D E I h;unfold Qu at h;refine wpAny_If (kq (hc pins s σ H _ (I.iB _) h) (λd s1 ⟨H1,I1,q1⟩=>?_) λ_ _ z=>Tq z)
 cases d with
 |true=>exact ha pins s1 σ H1 D E I1.cB q1
 |false=>exact hb pins s1 σ H1 D E I1.cB q1
theorem bD {t:TEX}(he:PEX X e t)(hs:swapsWith e none pos.line X.env=pure false:=by rfl):PSX X (.Expr e pos) (Jk t):=by
 intro pins s σ H D E I h;unfold Jk at h;exact wpAny_Expr_any (kq (he pins s σ H _ _ I h) (λv s1 ⟨x,H1,I1,r1,q1⟩=>⟨σ,H1,I1,q1⟩) λ_ _ z=>⟨σ,z⟩) I.quiet hs
theorem eJ {t:TEX}(he:PEX X e t):PSX X (.Return (some e) pos) (MY t):=by
 intro pins s σ H D E I h;unfold MY at h;exact wpAny_Return_some (kq (he pins s σ H _ _ I h) (λv s1 ⟨x,H1,I1,r1,q1⟩=>⟨x,σ,H1,I1,r1,q1⟩) λ_ _ z=>⟨σ,z⟩)
theorem Bl {i:Nat}{x:Str}{t:TEX}{pos':Pos}(hN:X.N.Nodup)(hi:X.N[i]?=some x)(hx:Loc X.env.scope x)(he:PEX X e t)(hs:swapsWith e (some (.Name x pos')) pos.line X.env=pure false:=by rfl)(hf:X.fn x=true\/X.env.scope.names.lookup x=some .local:=by first | exact .inl rfl | exact .inr rfl | assumption) :
  PSX X (.Assign [.Name x pos'] e pos) (MZ i t):=by
 intro pins s σ H D E I h;unfold MZ at h;refine wpAny_Assign_Name (kq (he pins s σ H _ _ I h) (λv s1 ⟨y,H1,I1,r1,q1⟩=>?_) λ_ _ z=>⟨σ,z⟩) hs
 exact lz I1 hN hi hx r1 (λs2 I2=>⟨_,H1,I2,q1⟩) hf
end
section
variable{X:Cx}{k:Nat}{f C:Addr}{fd:gp}{ps:List Str}{sp:Sp}{x m:Str}{p pos apos:Pos}{e o:Expr}{es:List Expr}{t:TAX}
theorem Bm {pins:List (Addr×Obj)}{σ:St}{H:Hp}{s:Shared}{Q:VK}{E:XK}{us:List Value}{vs:List V}(F:FnOk X.prog X.w X.K X.mg X.base (CXX X.prog X.w) k f fd ps sp)(hr:Room k X.A)(hb:Binds X.K fd ps [])
  (I:Inv X pins σ H s) (r:Vals vs us) (h:sp vs H Q E):wpAny (model X.prog X.w) X.A (call (.ref f) us) (EP X pins σ Q) (XP X pins σ E) s:=by
 have hl:(us++[]).length=ps.length:=by rw[T9,<-r.length];exact F.len _ _ _ _ h
 have b:=hb s us I.kIn hl;rw[T9]at b;refine UO (codeAny_mono (F.run X.A X.stack s H ⟨us,[]⟩ us vs Q E hr I.II b r h) λr s' hq=>?_)
 cases r with
 |error e=>exact Jh (λ_=>rfl) I hq
 |ok fl =>
  cases fl with
  |ret u=>exact I.after hq
  |next=>exact Tq hq
  |brk=>exact Tq hq
  |cont=>exact Tq hq
theorem bu (F:FnOk X.prog X.w X.K X.mg X.base (CXX X.prog X.w) k f fd ps sp)(hr:Room k X.A)(hg:Gl X x)(hm:X.mg x=some (.ref f))(hk:UX X.K (.ref f)=true)(hb:Binds X.K fd ps [])(ha:PAX X (e::es) t)
  (hdb:(x == ("__debug__":Str))=false:=by decide) (he:Td (e::es) X.env=(false,eval e X.env)::Td es X.env:=by rfl) (hpl:(backTo pos (Td es X.env)).any (·.1)=false:=by rfl) :
  PEX X (.Call (.Name x p) (e::es) [] pos) (Bk t sp):=by
 intro pins s σ H Q E I h;unfold Bk at h;refine wpAny_Call_Name_kw (fU I hg hm ?_ hdb);exact UZ (h₀:=X.base) I.ok.mod.kin hk (thn (ha pos pins s σ H _ E I h) λus s1 ⟨vs,H1,I1,r,q⟩=>⟨I1.kIn,Bm F hr hb I1 r q⟩) he hpl
theorem r6 {pl:Sem Bool}{ta:TEX}(he:PEX X o ta)(c:Cls X.K C)(hm:Meth X.K C m f)(F:FnOk X.prog X.w X.K X.mg X.base (CXX X.prog X.w) k f fd ps sp)(hr:Room k X.A)(hb:Binds X.K fd ps [])(ha:PAX X (e::es) t)
  (hst:Td (e::es) X.env=(false,eval e X.env)::Td es X.env:=by rfl) (hpl:(backTo pos (Td es X.env)).any (·.1)=false:=by rfl)
  (ht:eval (.Call (.Attribute o m apos) (e::es) [] pos) X.env=(do
   let ov <-eval o X.env
   standAt apos.atName
   let (f,first) <-holding [ov] (getMethod ov m pl)
   Ve pos f first (backTo pos (Td (e::es) X.env)) (UY pos (Up [] X.env))):=by rfl) :
  PEX X (.Call (.Attribute o m apos) (e::es) [] pos) (Jl C m ta t sp):=by
 intro pins s σ H Q E I h;unfold Jl at h;refine Uu (pl:=pl) (thn (he pins s σ H _ E I h) λu s1 ⟨x,H1,I1,rx,a,dx,fs,ex,ea,l,q⟩=>?_) ht
 subst ex;obtain rfl:u=rf a:=rx;refine gJ I1 ea c hm l ?_;exact UZ (first:=[.ref a]) (h₀:=X.base) I.ok.mod.kin hm.kp (thn (ha pos pins s1 σ H1 _ E I1 q) λus s2 ⟨vs,H2,I2,r,q2⟩=>⟨I2.kIn,Bm (us:=.ref a::us) (vs:=.ref a::vs) F hr hb I2 (.cons rfl r) q2⟩) hst hpl
theorem uq {pl:Sem Bool}{ta:TEX}(he:PEX X o ta)(c:Cls X.K C)(hm:Meth X.K C m f)(F:FnOk X.prog X.w X.K X.mg X.base (CXX X.prog X.w) k f fd ps sp)(hr:Room k X.A)(hb:Binds X.K fd ps [])
  (ht:eval (.Call (.Attribute o m apos) [] [] pos) X.env=(do
   let ov <-eval o X.env
   standAt apos.atName
   let (f,first) <-holding [ov] (getMethod ov m pl)
   Ve pos f first (backTo pos (Td [] X.env)) (UY pos (Up [] X.env))):=by rfl) :
  PEX X (.Call (.Attribute o m apos) [] [] pos) (FT C m ta sp):=by
 intro pins s σ H Q E I h;unfold FT at h;refine Uu (pl:=pl) (thn (he pins s σ H _ E I h) λu s1 ⟨x,H1,I1,rx,a,dx,fs,ex,ea,l,q⟩=>?_) ht
 subst ex;obtain rfl:u=rf a:=rx;refine gJ I1 ea c hm l ?_;exact PySem.W.callWith_K0 (first:=[.ref a]) I1.kIn hm.kp (Bm (us:=[.ref a]) (vs:=[.ref a]) F hr hb I1 (.cons rfl .nil) q)
end
section
variable{P:km}{w:World}{K:ba}{mg:Str->Option Value}{base:Heap}
theorem Fun.okX {x qual:Str}{st:Stmt}{f:Addr}{fd:gp}{N ps:List Str}{k:Nat}{sp:Sp}(F:Fun K x qual st f fd)(S:ax N ps (ah st))(len:∀vs H Q E,sp vs H Q E->vs.length=ps.length)
  (rV:∀(cdv:Value) (A:Around) (outer:List Env) (s:Shared) (H:Hp) (vs:List V) (Q:VK) (E:XK),Room k (A.deeper (envOfC qual (ah st) s.heap.objs.size f cdv))->sp vs H Q E ->
   ∃t,xF (br (CXX P w) P w K mg base N qual (ah st) f cdv A outer s H E) (jY st) t/\t { nx:=λ_ H'=>Q .non H',rt:=Q } (λ_=>E) (start N vs) H):FnOk P w K mg base (CXX P w) (k+1) f fd ps sp:=by
 obtain⟨oc,od,kV,doc,pm,an,cdv,ct,osl,rfl,lk,hcd⟩:=F.ex;refine IK lk hcd S len λA outer s H vs Q E hr hsp=>?_
 obtain⟨t,h,q⟩:=rV cdv A outer s H vs Q E hr hsp;exact⟨λD σ H=>t D (λ_=>E) σ H,λpins s1 σ H1 D I hw=>kq (h pins s1 σ H1 D _ I hw) (λ_ _ z=>z) λ_ _ z=>LO z,q⟩
end
def xo (a:Addr)(cls:Value)(xd:Option Addr):HO:=.ext λh=>∃(sl:Array (Option Value)) (vs:Array Value),h.get? a=some ⟨cls,xd,.fields vs,sl⟩
abbrev hcx (X:Cx)(e:Addr):Cx:={ X with A:=X.A.mark (some (.ref e)),calm:=false,xe:=λ_ _=>False }
section
variable{X:Cx}{pins:List (Addr×Obj)}{σ:St}{H:Hp}{s:Shared}{e:Addr}{cls:Value}{xd:Option Addr}{m:Option Value}
theorem Bo (I:Inv X pins σ H s)(e:Addr):Inv (hcx X e) pins σ H s :=
 ⟨⟨I.ok.mod,I.ok.kind,I.ok.glob,I.ok.blt,I.ok.above,I.ok.inj,I.ok.has,I.ok.cab,λz=>absurd (show false=true from z) kg,I.ok.frames,I.ok.stk,I.ok.exf,I.ok.bs,I.ok.bsz,I.ok.wq,I.ok.wu,I.ok.ly,I.ok.frf⟩,I.os,I.bare,I.base,I.loc,I.cell,I.free,I.fS,I.pin,I.hok,I.len⟩
theorem i5 (ok:X.Ok)(I:Inv (hcx X e) pins σ H s):Inv X pins σ H s:=⟨ok,I.os,I.bare,I.base,I.loc,I.cell,I.free,I.fS,I.pin,I.hok,I.len⟩
theorem LP (I:Inv X pins σ H s)(x:XAt X pins H s.heap e cls xd m):Inv X pins σ (upd H e (xo e cls xd)) s:=by
 obtain⟨ok,sl,vs,he,hz,_⟩:=x;have nb:∀b u,H b=some u->b≠e:=λb u q z=>by rw[z,ok.1]at q;cases q
 have hk:HOk X.prog X.w (upd H e (xo e cls xd)) s.heap:=λb u q=>by
  by_cases hb:b=e
  ·subst hb;rw[ae]at q;cases q;exact⟨⟨sl,vs,he⟩,⟨_,he⟩,λh1 h2 ⟨sl',vs',z⟩ k=>⟨sl',vs',k _ z⟩⟩
  ·rw[ao hb]at q;exact(I.hok b u q).wm (λc v _ r=>r) (λc r=>by rw[ao (nb c _ r)];exact r) λc xs r=>by rw[ao (nb c _ r)];exact r
 exact I.step (g':=s.gens) (t':=s.toks) (d':=s.drawn) (h':=s.heap) (ch:=[e]) (λb hb=>by
   obtain rfl:b=e:=by simpa using hb
   exact⟨ok.2.2.2.1,ok.2.1,ok.2.2.2.2.1,ok.2.2.2.2.2⟩)
  (λ_ _ _ _ _ q _=>q) (λb o _ _ _ q _=>⟨o.slots,q⟩) (λb o hb _ n=>by rw[ao (by simpa using hb)];exact n) (λb o _ q=>⟨o,q⟩)
  (λb xs q=>by rw[ao (nb b _ q)];exact q) (λb o u q=>by rw[ao (nb b _ q)];exact q) (λb ps q=>⟨#[],by rw[ao (nb b _ q),q];simp⟩) (λ_ q=>q) hk I.bare
theorem Bp {M:Model}{A:Around}{E:Value->Shared->Prop}{n:Str}{i:Nat}{pos:Pos}{Q:Unit->Shared->Prop}(I:Inv X pins σ H s)(hN:X.N.Nodup)(hi:X.N[i]?=some n)(hl:X.env.kindOf n=some .local)
  (h:∀s',Inv X pins (σ.set i none) H s'->Q () s'):wpAny M A (do bindName X.env n .none;unbindBehindTheSuite X.env n pos) Q E s:=by
 obtain⟨mm,hn,Sq⟩:=I.loc;refine wpAny_nameGoes_keeps hl hn (by rw[I.ok.kind];rfl) λh' v hn' sb=>h _ ?_
 have ol:∃o,s.heap.get? X.env.locals=some o/\H X.env.locals=none:=by obtain⟨o,_,_,ho,_⟩:=hn;exact⟨o,ho,I.free⟩
 have keep:∀b o,b≠X.env.locals->s.heap.get? b=some o->h'.get? b=some o:=λb o hb q=>(sb.2 b hb).trans q
 have below:∀ {b:Addr} {o:Obj},X.s₀.heap.get? b=some o->b≠X.env.locals:=λ{b o} q=>Tf (Th (ku q) I.ok.above)
 refine⟨I.ok,I.os,I.bare,⟨λb o q nn hb hx=>keep b o (below q) (I.base.keep b o q nn hb hx),λb o q nn hb hx=>?_,I.base.free,λb o q hx=>?_,I.base.qR,I.base.nQ,I.base.qS⟩,⟨_,hn',λj y w e1 e2 e3=>?_⟩,λy c ec=>?_,I.free,I.fS,λp hp=>?_,λb u q=>?_,by rw[Ux];exact I.len⟩
 ·obtain⟨sl,z⟩:=I.base.slot b o q nn hb hx;exact⟨sl,keep b _ (below q) z⟩
 ·obtain⟨o',z⟩:=I.base.there b o q hx;exact⟨o',keep b _ (below q) z⟩
 ·have hj:j≠i:=λz=>by
   subst z
   by_cases hlt:j < σ.length
   ·rw[List.getElem?_set_self hlt]at e2;cases e2
   ·rw[List.getElem?_eq_none_iff.mpr (by rw[Ux];omega)]at e2;cases e2
  rw[List.getElem?_set_ne (Tr hj)]at e2;obtain⟨u,r,q⟩:=Sq j y w e1 e2 e3;refine⟨u,r,?_⟩;rcases q with ⟨k,z⟩ | ⟨k,c,z,hc⟩
  ·have:y≠n:=λz=>hj (xh hN e1 (z▸hi))
   exact .inl ⟨k,by simp only[this,if_false];exact z⟩
  ·obtain⟨o,ho,hd⟩:=hc;exact .inr ⟨k,c,z,o,keep c o (I.cne y c z) ho,hd⟩
 ·obtain⟨v',o,ho,hd⟩:=I.cell y c ec;exact⟨v',o,keep c o (I.cne y c ec) ho,hd⟩
 ·obtain⟨a1,a2,a3,a4,a5⟩:=I.pin p hp;exact⟨keep p.1 p.2 a3 a1,a2,a3,a4,a5⟩
 ·refine(I.hok b u q).wm (λc v hc r=>keep c v (λz=>?_) r) (λ_ z=>z) λ_ _ z=>z
  have fr:=I.free;rw[<-z]at fr;rcases hc with rfl | hc
  ·rw[q]at fr;cases fr
  ·rw[hc]at fr;cases fr
end
abbrev THX:=Ends->SXK->St->XK
def Jm (D:Ends)(i:Nat):Ends:={ nx:=λσ H=>D.nx (σ.set i none) H,rt:=D.rt,bk:=λσ H=>D.bk (σ.set i none) H,ct:=λσ H=>D.ct (σ.set i none) H }
def M0 (K:ba)(C:Addr)(ts:TS)(tr:THX):THX:=λD E σ cls xd H=>∃b,T4 K cls (.ref C)=some b/\if b=true then ts D σ H else tr D E σ cls xd H
def hAs (K:ba)(C:Addr)(i:Nat)(ts:TS)(tr:THX):THX:=λD E σ cls xd H=>∃b,T4 K cls (.ref C)=some b/\if b=true then ∀ea,H ea=none->ts (Jm D i) (σ.set i (some (.ref ea))) (upd H ea (xo ea cls xd)) else tr D E σ cls xd H
def FU (tb:TSX)(th:THX):TSX:=λD E σ H=>tb D (λσ' cls xd H'=>th D E σ' cls xd H') σ H
def PHX (X:Cx)(hs:List ExceptHandler)(t:THX):Prop :=
 ∀(pins:List (Addr×Obj)) (s:Shared) (σ:St) (H:Hp) (D:Ends) (E:SXK) (ea:Addr) (cls:Value) (xd:Option Addr),Inv X pins σ H s->XAt X pins H s.heap ea cls xd (some .none)->t D E σ cls xd H ->
  wpAny (model X.prog X.w) X.A (handleBy (.ref ea) X.env hs) (SP X pins D) (XPS X pins E) s
section
variable{X:Cx}{x n:Str}{C:Addr}{np pos:Pos}{b₀:Stmt}{FV:List Stmt}{rest:List ExceptHandler}{ts:TS}{tr:THX}
theorem Bq (F:Fr1 X):PHX X [] (λ_ E σ cls xd H=>E σ cls xd H):=by
 intro pins s σ H D E ea cls xd I hx h;refine wpAny_handleBy_nil ?_;unfold PySem.passOn;obtain⟨ok,sl,vs,he,hz,T,oT,ts,h1,r⟩:=id hx;refine de (UE he rfl h1 ?_);rw[if_neg (show ¬((rf T == Us)=true) by simp)]
 have step:wpAny (model X.prog X.w) X.A (do setFlight (.ref ea) X.env.frame;throw (.ref ea):Sem Flow) (SP X pins D) (XPS X pins E) s :=
  de (eh I hx λs2 I2 x2=>wpAny_throw ⟨σ,ea,cls,xd,_,H,rfl,I2,x2,by rw[F.fr];exact .inr (.inr ⟨_,rfl⟩),h⟩)
 first
  |exact step
  |exact de (kj step)
theorem Jn {pins:List (Addr×Obj)}{s:Shared}{σ:St}{H:Hp}{ea:Addr}{cls:Value}{xd:Option Addr}{b:Bool}{E:Value->Shared->Prop}{R:Bool->Shared->Prop}(I:Inv X pins σ H s)(hx:XAt X pins H s.heap ea cls xd (some .none))
  (hg:Gl X x) (hm:X.mg x=some (.ref C)) (eb:T4 X.K cls (.ref C)=some b) (h:R b s) (hd:(x == ("__debug__":Str))=false:=by decide) :
  wpAny (model X.prog X.w) (X.A.mark (some (.ref ea))) (eval (.Name x np) X.env) (λc s₁=>wpAny (model X.prog X.w) (X.A.mark (some (.ref ea))) (excMatches (.ref ea) c) R E s₁) E s:=by
 obtain⟨_,sl,vs,he,_⟩:=hx;refine fU (Bo I ea) hg hm ?_ hd;have lt:PySem.W.Looks (model X.prog X.w) s.heap (typeOf (.ref ea)) cls:=(PySem.W.Looks.ld he).andThen .now;exact PySem.W.exm_one I.kIn lt eb _ _ _ s (λ_ _ q=>q) h
theorem Jo (hg:Gl X x)(hm:X.mg x=some (.ref C))(hs:∀e,PSs (hcx X e) (b₀::FV) ts)(hr:PHX X rest tr)(hd:(x == ("__debug__":Str))=false:=by decide) :
  PHX X (.ExceptHandler (some (.Name x np)) none (b₀::FV) pos::rest) (M0 X.K C ts tr):=by
 intro pins s σ H D E ea cls xd I hx h;unfold M0 at h;obtain⟨b,eb,h⟩:=h;refine wpAny_handleBy_cons (codeAny_handlers_test (Jn I hx hg hm eb ?_ hd)) (by intro q;cases q)
 cases b with
 |true =>
  refine codeAny_handlers_suite (eh I hx λs1 I1 x1=>?_)
  refine kq (hs ea pins s1 σ H D (Bo I1 ea) h) (λf s2 q=>?_) λ_ _ z=>Tq z
  cases f with
  |next=>obtain⟨σ',H',I',q⟩:=q;exact⟨σ',H',i5 I.ok I',q⟩
  |brk=>obtain⟨σ',H',I',q⟩:=q;exact⟨σ',H',i5 I.ok I',q⟩
  |cont=>obtain⟨σ',H',I',q⟩:=q;exact⟨σ',H',i5 I.ok I',q⟩
  |ret u=>obtain⟨v,σ',H',I',r,q⟩:=q;exact⟨v,σ',H',i5 I.ok I',r,q⟩
 |false=>exact hr pins s σ H D E ea cls xd I hx h
theorem N8 {i:Nat}(hN:X.N.Nodup)(hi:X.N[i]?=some n)(hl:X.env.scope.names.lookup n=some .local)(hg:Gl X x)(hm:X.mg x=some (.ref C))(hs:∀e,PSs (hcx X e) (b₀::FV) ts)(hr:PHX X rest tr)(hd:(x == ("__debug__":Str))=false:=by decide) :
  PHX X (.ExceptHandler (some (.Name x np)) (some n) (b₀::FV) pos::rest) (hAs X.K C i ts tr):=by
 intro pins s σ H D E ea cls xd I hx h;unfold hAs at h;obtain⟨b,eb,h⟩:=h;refine wpAny_handleBy_cons (codeAny_handlers_test (Jn I hx hg hm eb ?_ hd)) (by intro q;cases q)
 cases b with
 |true =>
  refine codeAny_handlers_suite_as (eh I hx λs1 I1 x1=>?_)
  refine lz (X:=hcx X ea) (v:=.ref ea) (Bo (LP I1 x1) ea) hN hi (.inl hl) rfl (λs2 I2=>?_) (.inr hl)
  refine kq (hs ea pins s2 _ _ (Jm D i) I2 (h ea hx.ok.1)) (λf s3 q=>?_) λ_ _ z=>Tq z
  show wpAny _ _ _ _ _ _;cases f with
  |next=>obtain⟨σ',H',I',q⟩:=q;exact Bp (i5 I.ok I') hN hi hl λs4 I4=>⟨_,H',I4,q⟩
  |brk=>obtain⟨σ',H',I',q⟩:=q;exact Bp (i5 I.ok I') hN hi hl λs4 I4=>⟨_,H',I4,q⟩
  |cont=>obtain⟨σ',H',I',q⟩:=q;exact Bp (i5 I.ok I') hN hi hl λs4 I4=>⟨_,H',I4,q⟩
  |ret u=>obtain⟨v,σ',H',I',r,q⟩:=q;exact Bp (i5 I.ok I') hN hi hl λs4 I4=>⟨v,_,H',I4,r,q⟩
 |false=>exact hr pins s σ H D E ea cls xd I hx h
theorem FW {body:List Stmt}{h₀:ExceptHandler}{hs:List ExceptHandler}{tb:TSX}{th:THX}(F:Fr1 X)(hb:xF X body tb)(hh:PHX X (h₀::hs) th) :
  PSX X (.Try body (h₀::hs) [] [] pos) (FU tb th):=by
 intro pins s σ H D E I h;unfold FU at h;refine wpAny_Try_except (kq (hb pins s σ H D _ I h) (λf s1 q=>?_) (λv s1 q=>?_))
 ·cases f with
  |next=>exact wpAny_execs_nil q
  |ret v=>exact q
  |brk=>exact q
  |cont=>exact q
 ·obtain⟨σ',ea,cls,xd,m,H',rfl,I1,hx,hm,q⟩:=q;exact qV F I1.ok.frames I1 hx hm λs2 I2 x2=>eh I2 x2 λs3 I3 x3=>hh pins s3 σ' H' D E ea cls xd I3 x3 q
end
def Sr (tb:TSX)(E:SXK):TS:=λD σ H=>tb D E σ H
section
variable{X:Cx}{tg:Expr}
theorem Br {iter:Expr}{body:List Stmt}{wi:TI}{g:TG}{tb:TSX}{pos:Pos}(F:Fr1 X)(hc:X.calm=true)(hi:PI X.nox tg iter wi)(hg:PG X.nox tg g)(hb:xF X body tb)
  (hs:∀x,foldedSetIterable iter X.env x=pure x:=by intro _;rfl):PSX X (.For tg iter body [] pos) (λD E σ H=>P8 wi g (Sr tb E) D σ H):=by
 intro pins s σ H D E I h;refine wpAny_For (kq (hi pins s σ H _ (I.iB _) h) (λv s1 h1=>kq h1 (λitv s2 h2=>?_) λ_ _ z=>Tq z) λ_ _ z=>Tq z) hs
 obtain⟨it,fp,tn,J,H2,e,I2,T,st2,f2,W,⟨m0,w0⟩,turn⟩:=h2;subst e;have hp:PassesOwn (model X.prog X.w) X.A X.env (XPS X pins E):=Jg F I.ok.frames;have stat:∀ {H':Hp},(∀b∈fp,H' b=none)->∀b∈fp,dG X pins H' b:=λhn b hb=>⟨hn b hb,(f2 b hb).2⟩
 refine codeAny_forLoop_any (λn s'=>∃i σ' H',Inv X pins σ' H' s'/\tn i s'.heap/\(∀b∈fp,H' b=none)/\W i n σ' H') ?_ m0 ⟨0,σ,H2,I2.cB,st2,λb hb=>(f2 b hb).1,w0⟩
 rintro n s3 ⟨i,σ3,H3,I3,st3,fr3,w3⟩;rcases turn i n σ3 H3 w3 with ⟨stop,qn⟩ | ⟨go,N,hN,step⟩
 ·refine wpAny_passesOwn hp (thn (T.done X rfl rfl rfl hc i pins s3 σ3 H3 (XPS X pins E) I3 (stat fr3) st3 stop) λr s4 ⟨hr,I4⟩=>?_)
  subst hr;exact wpAny_execs_nil ⟨σ3,H3,I4,qn⟩
 ·refine wpAny_passesOwn hp (thn (T.item X rfl rfl rfl hc i pins s3 σ3 H3 (XPS X pins E) I3 (stat fr3) st3 go) λr s4 ⟨u,hr,h4⟩=>?_)
  subst hr;refine wpAny_passesOwn hp (thn h4 λ_ s5 ⟨x,H5,I5,r5,y5,st5,fr5⟩=>?_)
  have I5':=I5.pinned (stat fr5) (T.obj _ _ st5);refine wpAny_passesOwn hp (kq (hg _ s5 σ3 H5 x u _ (I5'.iB _) r5 (step x H5 y5)) (λ_ s6 ⟨σ6,H6,I6,q6⟩=>?_) λ_ _ z=>Tq z)
  refine wpAny_passesOwn hp (kq (hb _ s6 σ6 H6 _ E I6.cB q6) (λf s7 q7=>?_) λ_ _ ⟨σ',z⟩=>⟨σ',z.drop⟩)
  have again:∀ {σ7:St} {H7:Hp},Inv X (pins++xl fp s5.heap) σ7 H7 s7->N σ7 H7->∃m,m < n/\∃i σ' H',Inv X pins σ' H' s7/\tn i s7.heap/\(∀b∈fp,H' b=none)/\W i m σ' H':=λ{σ7 H7} I7 n7=>by
   obtain⟨m',hm,w7⟩:=hN σ7 H7 n7;refine⟨m',hm,i+1,σ7,H7,I7.cY,T.keep _ _ _ st5 λb hb o e=>(I7.pin (b,o) (gn _ (gn _ (d8 hb e)))).1,λb hb=>?_,w7⟩
   obtain⟨o,e,d⟩:=T.obj _ _ st5 b hb;exact(I7.pin (b,o) (gn _ (gn _ (d8 hb e)))).2.1
  cases f with
  |next=>obtain⟨σ7,H7,I7,n7⟩:=q7;exact again I7 n7
  |cont=>obtain⟨σ7,H7,I7,n7⟩:=q7;exact again I7 n7
  |brk=>obtain⟨σ7,H7,I7,q7⟩:=q7;exact⟨σ7,H7,I7.cY,q7⟩
  |ret v=>obtain⟨x7,σ7,H7,I7,r7,q7⟩:=q7;exact⟨x7,σ7,H7,I7.cY,r7,q7⟩
end
structure GaX (K:ba)(C:Addr):Prop where
 ga:Ts K (.ref C) "__getattribute__"=some (some (.builtin "BaseException.__getattribute__"))
 hk:Ts K (.ref C) "__getattr__"=some none
 mb:Vm K C (.type "BaseException")=some true
theorem CP:Slot "ValueError" "__getattribute__" "BaseException.__getattribute__":=F.attr_ValueError.ga
section
variable{prog:km}{w:World}{A:Around}{E:Value->Shared->Prop}{s:Shared}{K:ba}{x C:Addr}{ox:Obj}{od:Option Obj}{name:Str}
theorem Jp {M:Model}{M3:Value}{Q:Unit->Shared->Prop}(X:K.In s.heap)(I:UW s.heap x ox C od)(t:GaX K C)(hq:Q () s) :
  wpAny M A (checkBuiltinCall "BaseException.__getattribute__" ⟨[.ref x,M3],[]⟩) Q E s:=by
 have hk:builtinKind "BaseException.__getattribute__"=some .slot:=by trivial
 have N9:splitId "BaseException.__getattribute__"=some ("BaseException","__getattribute__"):=by trivial
 have L0:=I.type (M:=M);have L1:=PySem.W.looks_mroIn (M:=M) X t.mb;have ha:=F.args_bexc_ga (.ref x) M3;obtain⟨hh,g,d,tt,os⟩:=s;simp only[checkBuiltinCall,hk,N9];refine de ?_;unfold isInstance;refine de (L0.at (L1.at ?_))
 repeat (any_goals (first | assumption | wp_step))
def S5 (v:Value)(Q:Value->Shared->Prop):Fin->Shared->Prop:=λfin s'=>match fin with | .done (.ret u)=>u=v/\Q u s' | _=>False
theorem Jq {tk:Tok}{v:Value}{Q:Fin->Shared->Prop}(X:K.In s.heap)(I:UW s.heap x ox C od)(hf:Vh K C od name=some (.value v))(hq:Q (.done (.ret v)) s) :
  wpAny (model prog w) A (Builtin.«object.__getattribute__» ⟨[.ref x,.str name tk],[]⟩) Q E s:=by
 obtain⟨hh,g,d,tt,os⟩:=s;have L0:=I.type (M:=model prog w);have L1:=PySem.W.looks_find (M:=model prog w) X I hf;unfold Builtin.«object.__getattribute__»;refine de (kj (de (kj (de (L0.at (de (L1.at ?_)))))));exact kj hq
theorem G1 {tk:Tok}{g a:Value}{P:Value->Shared->Prop}(X:K.In s.heap)(I:UW s.heap x ox C od)(hf:Vh K C od name=some (.bind g a))(h:wpAny (model prog w) A (call g [a,.ref x,.ref C]) P E s) :
  wpAny (model prog w) A (Builtin.«object.__getattribute__» ⟨[.ref x,.str name tk],[]⟩) (λfin s'=>match fin with | .done (.ret v)=>P v s' | _=>False) E s:=by
 obtain⟨hh,gg,d,tt,os⟩:=s;have L0:=I.type (M:=model prog w);have L1:=PySem.W.looks_find (M:=model prog w) X I hf;unfold Builtin.«object.__getattribute__»;refine de (kj (de (kj (de (L0.at (de (L1.at ?_)))))));show wpAny _ _ (holding [a] (call g [a,.ref x,.ref C]) >>= ret) _ _ _;exact de (TR (kq h (λv s' z=>kj z) λ_ _ z=>z))
theorem M4 {tk:Tok}{fill ex:Bool}{Q:Value->Shared->Prop}(X:K.In s.heap)(I:UW s.heap x ox C od)(t:GaX K C)
  (h:wpAny (model prog w) A.in1 (Builtin.«object.__getattribute__» ⟨[.ref x,.str name tk],[]⟩) (λfin s'=>match fin with | .done (.ret v)=>PySem.W.handedIn v=true/\Q v s' | _=>False) (λ_ _=>False) s) :
  wpAny (model prog w) A (getAttrBy (.ref x) (.str name tk) fill ex) Q E s:=by
 obtain⟨hh,g,d,tt,os⟩:=s;have L0:=I.type (M:=model prog w);have L1:=U4 (M:=model prog w) X t.ga;have L2:=U4 (M:=model prog w) X t.hk;unfold getAttrBy;refine TR (de (L0.at (de (L1.at ?_))));show wpAny _ _ (if (onTheHeap (rf C) && Value.builtin "BaseException.__getattribute__" == Value.builtin "object.__getattribute__")=true then _ else getAttrByItsOwn _ _ _ _ _ _) _ _ _
 rw[if_neg (by rw[show (Value.builtin "BaseException.__getattribute__" == Value.builtin "object.__getattribute__")=false from by trivial];exactλz=>Bool.noConfusion z)]
 unfold getAttrByItsOwn hookBefore callGetattribute boundAndCalled;refine de ?_;show wpAny _ _ (typeLookup (.ref C) "__getattr__") _ _ _;refine L2.at ?_;refine de (wpAny_attempt (TR ?_));rw[if_neg (by cases ex <;> decide)]
 refine de (wpAny_of_eq (CP.bind _) ?_);show wpAny _ _ (call (.builtin "BaseException.__getattribute__") [.ref x,.str name tk]) _ _ _;refine UO (codeAny_call_builtin CP.plain F.entry_bexc_ga (Jp X I t (kq h (λfin s' z=>?_) λ_ _ z=>z.elim)))
 rcases fin with (_ | _ | _ | _) | _ <;> first | exact PySem.W.handed_on z.1 z.2 | exact z.elim
end
structure jo (K:ba)(C:Addr):Prop where
 ga:GaX K C
 cd:(Vd K C).isSome=true
 ha:Ts K (.ref C) "__class__"=some (some (.builtin "object.__class__"))
 hn:PySem.W.specialIn K (.builtin "object.__class__") "__get__"=some (some (.builtin "getset_descriptor.__get__"))
 htk:PySem.W.takesIn K (.builtin "object.__class__")=some true
 hm:Vm K C (.type "object")=some true
theorem Jr {K:ba}{C:Addr}(t:jo K C)(od:Option Obj):Vh K C od "__class__"=some (.bind (.builtin "getset_descriptor.__get__") (.builtin "object.__class__")):=by
 obtain⟨cd,hc⟩:=Option.isSome_iff_exists.mp t.cd;unfold Vh;rw[hc,UI,t.ha,UI];simp[t.hn,t.htk]
theorem FX {K:ba}{C x:Addr}{ox:Obj}{od:Option Obj}(t:jo K C):PySem.W.KitX K (.ref x) (.ref C) (λh=>UW h x ox C od) where
 ty:=λ_ _ _ I=>I.type
 it:=λ_ _ X _=>by
  obtain⟨cd,hc⟩:=Option.isSome_iff_exists.mp t.cd;unfold Vd at hc;split at hc
  ·rename_i ho;exactλA' Q' E' s' k q=>by
    unfold isType loadHead;exact de (wpAny_loadPart (k _ _ (X _ _ ho)) (kj q))
  ·cases hc
 ne:=λh tp dd its n sl X htp=>by
  obtain⟨cd,hc⟩:=Option.isSome_iff_exists.mp t.cd;refine Bool.eq_false_iff.mpr λq=>?_
  obtain rfl:C=tp:=Value.ref.inj (beq_iff_eq.mp q);unfold Vd at hc;split at hc
  ·rename_i ho;cases (X _ _ ho).symm.trans htp
  ·cases hc
 ca:=λ{prog w A E Q s} X I k=>by
  unfold getAttr? getAttrBy?;refine de (wpAny_mkText (de (wpAny_attempt (M4 (s:={ s with toks:=s.toks+1 }) X I t.ga (kq (G1 (s:={ s with toks:=s.toks+1 }) X I (Jr t _) (P:=λv s'=>v=.ref C/\s'={ s with toks:=s.toks+1 }) (E:=λ_ _=>False)
   (UO (PySem.W.class_get (s:={ s with toks:=s.toks+1 }) (ox:=ox) X I t.hm ⟨rfl,rfl⟩))) (λfin s' z=>?_) λ_ _ z=>z)))))
  rcases fin with (_ | _ | _ | _) | _ <;> first | (obtain⟨rfl,rfl⟩:=z;exact⟨rfl,kj k⟩) | exact z.elim
section
variable{prog:km}{w:World}{A:Around}{E:Value->Shared->Prop}{h:Heap}{g:Array GenState}{d:Drawn}{t:Nat}{os:OsState}
variable{nm q:Str}{C N:Addr}{bs bm bmB:List Value}{hdct:Bool}{sn:List Str}{sub:List Value}{ab:Bool}{col:Option Bool}{dd:Option Addr}{k0 k1 k2 k3 k5:Option Value}{B nid iid:String}
abbrev j4 (h:Heap)(C:Addr)(us:List Value):Heap:=(h.push { cls:=.type "tuple",data:=.seq us.toArray }).push ⟨.ref C,none,.fields #[.ref h.objs.size,.none,.none,.none,.bool false,.none],#[]⟩
theorem dS {us:List Value}{b:Addr}{o:Obj}(e:h.get? b=some o):(j4 h C us).get? b=some o:=fu _ (fu _ e)
theorem xG {us:List Value}:(j4 h C us).get? (h.objs.size+1)=some ⟨.ref C,none,.fields #[.ref h.objs.size,.none,.none,.none,.bool false,.none],#[]⟩:=by
 have:=tm (h.push { cls:=.type "tuple",data:=.seq us.toArray }) (o:=⟨.ref C,none,.fields #[.ref h.objs.size,.none,.none,.none,.bool false,.none],#[]⟩) rfl
 rwa [UK]at this
theorem EG (F:ExcBaseFacts B nid iid bmB)(T:OwnTail h bmB bm){mN:Str->Option Value}{us:List Value}{Q:Fin->Shared->Prop}
  (kC:h.get? C=some (Ud nm q C N bs bm hdct sn sub ab col dd k0 k1 k2 k3 k5 nid)) (kN:h.Ns N mN) (kI:mN "__init__"=none) (hz:us.length<=eg)
  (hq:∀h',(∀b o,h.get? b=some o->h'.get? b=some o)->(∃tp,h'.get? (h.objs.size+1)=some ⟨.ref C,none,.fields #[.ref tp,.none,.none,.none,.bool false,.none],#[]⟩)->Q (.done (.ret (.ref (h.objs.size+1)))) ⟨h',g,d,t,os⟩) :
  wpAny (model prog w) A (Builtin.«type.__call__» ⟨.ref C::us,[]⟩) Q E ⟨h,g,d,t,os⟩:=by
 repeat (first | with_reducible refine wpAny_loadPart_at kC ?_ | with_reducible refine wpAny_madeBy_exc kC ?_ | wp_step)
 refine codeAny_call_builtin_code (Code.quiet_builtin _ F.quiet) (wpAny_check_new_subT F T kC (codeAny_exc_new_subT F T kC ?_ hz));show wpAny _ _ _ _ _ _;have kC1:(j4 h C us).get? C=_:=dS kC;have kN1:(j4 h C us).Ns N mN:=kN.keeps λb o e=>dS e
 have T1:OwnTail (j4 h C us) bmB bm:=T.keeps λb o e=>dS e
 have kE:=xG (h:=h) (C:=C) (us:=us);have self:(rf C::bm).contains (.ref C)=true:=by simp
 unfold isInstance
 repeat (first | with_reducible refine wpAny_loadPart_at kE ?_ | (with_reducible refine wpAny_isSubtype_exc kC1 ?_;rw[self]) | wp_step)
 show wpAny _ _ (typeLookup (.ref C) _) _ _ _;refine wpAny_typeLookup_tail kC1 kN1 T1 F.mroIs F.init.lookup ?_;rw[kI];refine TR (de (wpAny_of_eq (F.init.bind _) ?_));refine de (UO (codeAny_call_builtin F.init.plain F.initEntry (wpAny_check_init_subT F T1 kC1 kE rfl ?_)))
 wp_walk
 refine hq _ (λb o e=>?_) ⟨h.objs.size+2,?_⟩
 ·rw[TU _ _ (Nat.ne_of_gt (Nat.lt_succ_of_lt (ku e)))];exact fu _ (dS e)
 ·refine(T7 _ (fu _ kE) rfl).trans ?_;simp only[UK];rfl
theorem G2 (F:ExcBaseFacts B nid iid bmB)(T:OwnTail h bmB bm){mN:Str->Option Value}{us:List Value}{Q:Value->Shared->Prop}
  (kC:h.get? C=some (Ud nm q C N bs bm hdct sn sub ab col dd k0 k1 k2 k3 k5 nid)) (kN:h.Ns N mN) (kI:mN "__init__"=none) (hz:us.length<=eg)
  (hq:∀h',(∀b o,h.get? b=some o->h'.get? b=some o)->(∃tp,h'.get? (h.objs.size+1)=some ⟨.ref C,none,.fields #[.ref tp,.none,.none,.none,.bool false,.none],#[]⟩)->Q (.ref (h.objs.size+1)) ⟨h',g,d,t,os⟩) :
  wpAny (model prog w) A (call (.ref C) us) Q E ⟨h,g,d,t,os⟩:=by
 have l1:=tc_lookup;have l2:=tc_bind (.ref C);have ty:(⟨h,g,d,t,os⟩:Shared).TypeIs (.ref C) "type":=⟨_,kC,rfl⟩;refine UO (codeAny_of_tree ?_);show wpAny _ _ (callAny (.ref C) _) _ _ _
 repeat (any_goals (first | assumption | with_reducible refine wpAny_loadPart_at kC ?_ | wp_step))
 refine⟨rfl,codeAny_call_builtin_at (Code.quiet_builtin _ (by trivial)) entry_typeCall (wpAny_check_type_call_sub kC (EG F T kC kN kI hz λh' k e=>?_))⟩
 exact hq h' k e
theorem pQ {M:Model}{env:Env}{s:Shared}{x:Sem Value}{Q:Flow->Shared->Prop}(xt:bm.contains (.type "BaseException")=true)(hh:A.handled=none)
  (hx:wpAny M A x (λv s₁=>∃(e:Addr) (xd:Option Addr) (a0:Value) (sl:Array (Option Value)),v=.ref e/\s₁.heap.get? C=some (Ud nm q C N bs bm hdct sn sub ab col dd k0 k1 k2 k3 k5 nid) /\
   s₁.heap.get? e=some ⟨.ref C,xd,.fields #[a0,.none,.none,.none,.bool false,.none],sl⟩/\E (.ref e) s₁) E s):wpAny M A (raiseStmt env (some x) none) Q E s:=by
 have top:(rf C::bm).contains (.type "BaseException")=true:=by rw[List.contains_cons,xt,Bool.or_true]
 unfold raiseStmt;refine de (kq hx (λv s₁ h₁=>?_) λ_ _ z=>z)
 obtain⟨e,xd,a0,sl,rfl,kC,kE,fin⟩:=h₁;obtain⟨hp,g',d',tk,os'⟩:=s₁
 repeat (first | with_reducible refine wpAny_loadPart_at kE ?_ | with_reducible refine wpAny_loadPart_at kC ?_ | (with_reducible refine wpAny_isSubtype_exc kC ?_;rw[top]) | wp_step)
 exact wpAny_raiseNew_none hh fin
end
abbrev FY:List Value:=[.type "ValueError",.type "Exception",.type "BaseException",.type "object"]
def strKeys (es:Array DictEntry):Bool:=es.toList.all λe=>match e.key with | .str _ _=>true | _=>false
structure Bs (K:ba)(N:Addr):Prop where
 ex:∃(c:Value) (dd:Option Addr) (es:Array DictEntry) (n:Nat) (sl:Array (Option Value)),K.lookup N=some ⟨c,dd,.dict es n,sl⟩/\strKeys es=true
 no:US K N "__init__"=some none
theorem Bs.ns {K:ba}{N:Addr}(x:Bs K N){h:Heap}(X:K.In h):∃mN,h.Ns N mN/\mN "__init__"=none:=by
 obtain⟨⟨c,dd,es,n,sl,l,sk⟩,no⟩:=x;have ns:h.Ns N (nsFind es):=⟨_,es,n,X _ _ l,rfl,λe he=>by
  have z:=List.all_eq_true.mp sk e (Array.mem_toList_iff.mpr he);cases hk:e.key with
  |str y t=>exact⟨y,t,rfl⟩
  |_=>rw[hk]at z;exact absurd z kg,λ_=>rfl⟩
 refine⟨_,ns,?_⟩;unfold US at no;rw[l]at no;dsimp only at no;unfold nsFind findBy;rw[<-Array.find?_toList];cases hf:es.toList.find? (λe=>e.key.isStr "__init__") with
 |none=>rfl
 |some e=>rw[hf]at no;cases no
inductive Bt (K:ba):List Value->Prop
 |base:Bt K FY
 |own {D:Addr} {c0:Value} {dd:Option Addr} {cd:ClassData} {sl:Array (Option Value)} {tl:List Value}:K.lookup D=some ⟨c0,dd,.cls cd,sl⟩->Bs K cd.ns->Bt K tl->Bt K (.ref D::tl)
theorem Bt.tail {K:ba}{bm:List Value}(x:Bt K bm){h:Heap}(X:K.In h):OwnTail h FY bm:=by
 induction x with
 |base=>exact .base
 |own l n _ ih =>
  obtain⟨mA,a,b⟩:=n.ns X;exact .own (X _ _ l) a b ih
structure Bu (K:ba)(C:Addr):Prop where
 ex:∃(nm q:Str) (N:Addr) (bs bm:List Value) (hdct:Bool) (sn:List Str) (sub:List Value) (ab:Bool) (col:Option Bool) (dd:Option Addr) (k0 k1 k2 k3 k5:Option Value),
  K.lookup C=some (Ud nm q C N bs bm hdct sn sub ab col dd k0 k1 k2 k3 k5 "ValueError.__new__")/\Bs K N/\Bt K bm
section
variable{X:Cx}{x:Str}{C:Addr}{np d9 pos:Pos}{e₀:Expr}{rest:List Expr}{ta:TA}
theorem fJ (ek:Bu X.K C)(hc:X.calm=true)(hg:Gl X x)(hm:X.mg x=some (.ref C))(ha:PA X.nox (e₀::rest) ta)(hdb:(x == ("__debug__":Str))=false:=by decide)
  (he:Td (e₀::rest) X.env=(false,eval e₀ X.env)::Td rest X.env:=by rfl) (hpl:(backTo d9 (Td rest X.env)).any (·.1)=false:=by rfl) :
  PSX X (.Raise (some (.Call (.Name x np) (e₀::rest) [] d9)) none pos) (λ_ E σ H=>ta σ H λvs H1=>vs.length<=eg/\E σ (.ref C) none H1):=by
 intro pins s σ H D E I h;obtain⟨nm,q,N,bs,bm,hdct,sn,sub,ab,col,dd,k0,k1,k2,k3,k5,l,n,T⟩:=ek.ex;have go:wpAny (model X.prog X.w) X.A (eval (.Call (.Name x np) (e₀::rest) [] d9) X.env) (λv s₁=>∃(e:Addr) (xd:Option Addr) (a0:Value) (sl:Array (Option Value)),v=.ref e/\s₁.heap.get? C=some (Ud nm q C N bs bm hdct sn sub ab col dd k0 k1 k2 k3 k5 "ValueError.__new__") /\
   s₁.heap.get? e=some ⟨.ref C,xd,.fields #[a0,.none,.none,.none,.bool false,.none],sl⟩/\XPS X pins E (.ref e) s₁) (XPS X pins E) s:=by
  refine wpAny_Call_Name_kw (fU I hg hm ?_ hdb);unfold Ve;rw[he];refine de (TR (U6 ?_));have ha':=ha d9 pins s σ H _ (I.iB _) h;rw[show X.nox.env=X.env from rfl,he]at ha'
  refine kq ha' (λus s₁ ⟨vs,H1,I1,r,hz,q1⟩=>de (T3 ?_)) λ_ _ z=>Tq z
  have I1':=I1.cB;have kC:=I1'.kIn _ _ l;obtain⟨mN,kN,kI⟩:=n.ns I1'.kIn;have T1:=T.tail I1'.kIn;have pl:(backTo d9 ((false,eval e₀ X.env)::Td rest X.env)).any (·.1)=false:=by
   show (false || (backTo d9 (Td rest X.env)).any (·.1))=false
   rw[hpl];rfl
  obtain⟨hp,g',d',tk,os'⟩:=s₁;simp only[pl];refine de (wpAny_keeperOf_exc kC ?_);refine de (G2 (F:=PySem.F.excBase_ValueError) T1 kC kN kI (by rw[List.nil_append,<-r.length];exact hz) λh' k ⟨tp,ke⟩=>de (TR (wpAny_point (kj ?_))))
  have I2:Inv X pins σ H1 ⟨h',g',d',tk,os'⟩:=I1'.kept (t':=tk) k;refine⟨_,none,_,#[],rfl,k _ _ kC,ke,σ,_,_,none,none,H1,rfl,I2,⟨I1'.rP (Ut _) (I1'.hok.fresh (Ut _)),_,_,ke,⟨by show 1 < 6;decide,λ_=>rfl⟩,rfl⟩,.inl rfl,q1⟩
 rw[arm_exec_Raise];have hb:bm.contains (.type "BaseException")=true:=(T.tail I.kIn).hasType (b:=true) (by trivial)
 first
  |exact de (T3 (pQ (C:=C) (nm:=nm) (q:=q) (N:=N) (bs:=bs) (bm:=bm) (hdct:=hdct) (sn:=sn) (sub:=sub) (ab:=ab) (col:=col) (dd:=dd) (k0:=k0) (k1:=k1) (k2:=k2) (k3:=k3) (k5:=k5) hb (I.ok.hd hc) (de (kq go (λv s₃ h₃=>de (T3 (kj h₃))) λ_ _ z=>z))))
  | (simp only[evalOpt,Option.map];exact de (T3 (pQ (C:=C) (nm:=nm) (q:=q) (N:=N) (bs:=bs) (bm:=bm) (hdct:=hdct) (sn:=sn) (sub:=sub) (ab:=ab) (col:=col) (dd:=dd) (k0:=k0) (k1:=k1) (k2:=k2) (k3:=k3) (k5:=k5) hb (I.ok.hd hc) (de (kq go (λv s₃ h₃=>de (T3 (kj h₃))) λ_ _ z=>z)))))
end
theorem As {α β:Type}(f:α->β):∀(xs:List α) (n:Nat),(xs.eraseIdx n).map f=(xs.map f).eraseIdx n
 |[],_=>rfl
 |_::_,0=>rfl
 |x::xs,n+1=>by
  show f x::(xs.eraseIdx n).map f=f x::(xs.map f).eraseIdx n;rw[As f xs n]
section
variable{X:Cx}{pos:Pos}
theorem Vals.insert {xs:List V}{us:List Value}(r:Vals xs us){y:V}{u:Value}(ry:RelV y u)(k:Nat):Vals (xs.take k++y::xs.drop k) (us.take k++u::us.drop k):=(r.take k).append (.cons ry (r.drop k))
def LQ:V->List V->Hp->VK->Prop:=λx vs H Q=>∃(l:Addr) (xs:List V) (i:Int) (k:Nat) (y:V),x=.ref l/\vs=[.int i,y]/\i=(k:Int)/\H l=some (.lst xs)/\k<=xs.length/\xs.length < eg/\Q .non (upd H l (.lst (xs.take k++y::xs.drop k)))
theorem G3:MtM X "list.insert" LQ:=by
 intro pins s σ H x vs v us Q I rx rv h;obtain⟨l,xs,i,k,y,rfl,rfl,hi,hH,hk,hz,q⟩:=h;cases rx;obtain⟨u1,u2,rfl,r1,r2⟩:=rv.two;obtain⟨t,rfl⟩:=r1;obtain⟨z,its,n,r,hl,e⟩:=I.CH hH;have lim:eg=16777216:=by decide
 have a2:its.toArray.size<=eg:=by rw[kx];omega
 have b:Builtin.List.listFitsIndex i=true:=fitsIndex_both (by omega) (by omega)
 have nb:¬(!Builtin.List.listFitsIndex i)=true:=by rw[b];decide
 refine call_meets F.slot_list_insert ⟨_,e,rfl⟩ F.entry_list_insert (F.args_list_insert_3 _ _ _) (AutoSeq1.list_insert_list_int_val_1 l its.toArray n i t u2 nb a2) ⟨e,?_⟩;refine⟨.non,_,I.IU (its':=its.take k++u2::its.drop k) hH e ?_ (r.insert r2 k) ?_,rfl,q⟩
 ·show (its.toArray.extract 0 (if i < 0 then (i+(its.toArray.size:Int)).toNat else min i.toNat its.toArray.size)).push u2++its.toArray.extract (if i < 0 then (i+(its.toArray.size:Int)).toNat else min i.toNat its.toArray.size)=_
  have e1:(if i < 0 then (i+(its.toArray.size:Int)).toNat else min i.toNat its.toArray.size)=k:=by
   rw[kx,if_neg (by omega)]
   omega
  rw[e1];apply Array.toList_inj.mp;simp;exact List.take_of_length_le (by rw[TQ];omega)
 ·rw[gr,ky,To,TQ];omega
end
section
variable{X:Cx}{e:Expr}{te:TE}{y:Str}{j:Nat}{p1 p2 pos:Pos}
def tFR (K:ba)(te:TE)(y:Str):TE:=λσ H Q=>te σ H λx H1=>∃(a:Addr) (d:PyData),x=.ref a/\DV K H1 d x/\d.showable=true/\d.hasDict=false/\d.depth<=60/\d.shown.length+y.length<=eg/\∀z:Str,Q (.str z) H1
theorem len_app (a b:Str):(a++b).length=a.length+b.length:=by
 show (a.cps++b.cps).size=_;simp[Str.length]
theorem Qv (hg:X.A.guards=some [])(hu:X.A.units+64 < cLine)(he:PE X e te):PE X (.JoinedStr [.FormattedValue e 114 none p1,.Constant (.str y) j p2] pos) (tFR X.K te y):=by
 intro pins s σ H Q I h;refine wpAny_JoinedStr ?_;show Joins _ _ _ [eval (.FormattedValue e 114 none p1) X.env,eval (.Constant (.str y) j p2) X.env] _ _ _;refine wpAny_FormattedValue_repr (thn (he pins s σ H _ I h) λv s1 ⟨x,H1,I1,r1,a,d,e1,hd,sh,nd,dp,sz,q⟩=>?_)
 subst e1;obtain rfl:v=rf a:=r1;obtain⟨as,rd⟩:=DV.reads I1 d hd rfl;refine pyReprObj_of_reads (h₀:=s1.heap) rd sh (λz=>absurd z (by rw[nd];decide)) hg (by omega) (λ_ _ z=>z) (λh' u tk hk=>?_) (by omega)
 have I2:Inv X pins σ H1 { s1 with heap:=h',toks:=tk }:=I1.kept hk
 have emp:(Um++d.shown:Str)=d.shown:=by
  apply pP;rw[cK];rfl
 have go:∀(t:Tok) (s2:Shared),Inv X pins σ H1 s2->∃z t',Value.str d.shown t=.str z t'/\(Um++z).length<=eg/\Joins (model X.prog X.w) X.A X.xe [eval (.Constant (.str y) j p2) X.env] (Um++z) (λout s₁=>out.length<=eg/\EP X pins σ Q (.str out s₁.toks) { s₁ with toks:=s₁.toks+1 }) s2:=λt s2 I3=>by
  refine⟨_,_,rfl,by rw[emp];omega,Calls.Constant_str ⟨y,_,rfl,?_,?_⟩⟩
  ·rw[emp,len_app];omega
  ·refine⟨by rw[emp,len_app];omega,.str _,H1,(I3.tok _).tok _,⟨_,rfl⟩,q _⟩
 exact wpAny_formatField_str (go _ _ I2) (go _ _ (I2.tok _)) (by omega)
end
theorem Js {K:ba}{a D:Addr}{xs:List V}{te:TE}{Q:VK}{σ:St}{H1:Hp}(Pv:Nat->List V->Hp->Prop)(h0:Pv 0 [] (upd H1 D (.lst [])))(hz:xs.length<=eg)
  (hl:∀i ys H2,i<=xs.length->Pv i ys H2->SqT K H2 a xs/\H2 D=some (.lst ys)/\ys.length=i)
  (hs:∀i x ys H2,xs[i]?=some x->Pv i ys H2->te (some x::σ) H2 (bZ D xs.length Pv i ys)) (hd:∀ys H2,Pv xs.length ys H2->Q (.ref D) H2) :
  hZ (Itt K a) te σ D H1 Q:=by
 refine⟨λi m ys H=>m=xs.length - i/\i<=xs.length/\Pv i ys H,⟨xs.length,by simp,TM _,h0⟩,?_⟩
 rintro i m ys H2 ⟨rfl,hi,p⟩;obtain⟨q,q2,q3⟩:=hl i ys H2 hi p;refine⟨q2,?_⟩
 by_cases hlt:i < xs.length
 ·refine .inr ⟨⟨xs,xs[i],q,by simp[hlt]⟩,by omega,λx H3 y=>?_⟩
  obtain⟨e,y⟩:=y;subst e;exact hs i x ys _ (y xs q) p
 ·have e:i=xs.length:=by omega
  subst e;exact .inl ⟨⟨xs,q,kc _⟩,hd ys H2 p⟩
theorem dg {K:ba}{H H':Hp}{t:Addr}{xs:List V}(s:aT H H')(h:SqT K H t xs):SqT K H' t xs:=by
 rcases h with (h | ⟨o,h⟩) | h
 ·exact .inl (.inl (s _ _ h))
 ·exact .inl (.inr ⟨o,s _ _ h⟩)
 ·exact .inr h
theorem G4 (a b c:Str):(a++b)++c=a++(b++c):=by
 apply pP;rw[cK,cK,cK,cK,UC]
theorem CQ (sep:Str):∀(a b:List Str),a≠[]->b≠[]->ki sep (a++b)=(ki sep a++sep)++ki sep b
 |[],_,h,_=>absurd rfl h
 |[x],[],_,h=>absurd rfl h
 |[x],y::b,_,_=>rfl
 |x::x2::a,b,_,hb=>by
  have ih:=CQ sep (x2::a) b (TK _ _) hb;show (x++sep)++ki sep (x2::a++b)=(((x++sep)++ki sep (x2::a))++sep)++ki sep b;rw[ih];simp only[G4]
theorem join_join (sep:Str)(a b:List Str)(ha:a≠[]):ki sep (ki sep a::b)=ki sep (a++b):=by
 cases b with
 |nil=>rw[T9];rfl
 |cons y b=>rw[CQ sep a (y::b) ha (TK _ _)];rfl
end L2
namespace L2
open PySem PySem.Spec PySem.Calls PyProof.Rows
def Oa (n:Nat)(Cf:Nat->Addr)(m:Str)(spf:Nat->Sp)(E:XK)(ta:TE):TE:=λσ H Q=>ta σ H λx H1=>∃k,k < n/\∃a dx fs,x=.ref a/\H1 a=some (.ins (Cf k) dx fs)/\fs.lookup m=none/\spf k [x] H1 Q E
section
variable{X:Cx}{o:Expr}{ta:TE}{m:Str}{apos pos:Pos}{n:Nat}{Cf ff:Nat->Addr}{fdf:Nat->gp}{spf:Nat->Sp}{kk:Nat}{ps:List Str}{CX:CXT}{E:XK}
theorem gK {pl:Sem Bool}(he:PE X o ta)(c:∀k,k < n->Cls X.K (Cf k))(hm:∀k,k < n->Meth X.K (Cf k) m (ff k))(F:∀k,k < n->FnOk X.prog X.w X.K X.mg X.base CX kk (ff k) (fdf k) ps (spf k))(hr:Room kk X.A)(hb:∀k,k < n->Binds X.K (fdf k) ps [])
  (hx:Passes CX X E)
  (ht:eval (.Call (.Attribute o m apos) [] [] pos) X.env=(do
   let ov <-eval o X.env
   standAt apos.atName
   let (f,first) <-holding [ov] (getMethod ov m pl)
   Ve pos f first (backTo pos (Td [] X.env)) (UY pos (Up [] X.env))):=by rfl) :
  PE X (.Call (.Attribute o m apos) [] [] pos) (Oa n Cf m spf E ta):=by
 intro pins s σ H Q I h;refine Uu (pl:=pl) (thn (he pins s σ H _ I h) λu s1 ⟨x,H1,I1,rx,k,hk,a,dx,fs,ex,ea,l,q⟩=>?_) ht
 subst ex;obtain rfl:u=rf a:=rx;refine gJ I1 ea (c k hk) (hm k hk) l ?_;exact PySem.W.callWith_K0 (first:=[.ref a]) I1.kIn (hm k hk).kp (Bc (us:=[.ref a]) (vs:=[.ref a]) (dvs:=[]) (F k hk) hr (hb k hk) .nil hx I1 (.cons rfl .nil) q)
theorem Qw {P:km}{w:World}{K:ba}{mg:Str->Option Value}{base:Heap}{CX:CXT}{k:Nat}{f:Addr}{fd:gp}{ps:List Str}{sp sp':Sp}(F:FnOk P w K mg base CX k f fd ps sp)(G:FnOk P w K mg base CX k f fd ps sp') :
  FnOk P w K mg base CX k f fd ps (λvs H Q E=>sp vs H Q E\/sp' vs H Q E) :=
 ⟨λvs H Q E z=>z.elim (F.len vs H Q E) (G.len vs H Q E),λa b c H d e vs Q E p q r s z=>z.elim (F.run a b c H d e vs Q E p q r s) (G.run a b c H d e vs Q E p q r s)⟩
end
def KeysAre:List DictEntry->List Str->Prop
 |[],ns=>ns=[]
 |e::r,ns=>∃x xs t,ns=x::xs/\e.key=.str x t/\KeysAre r xs
structure FZ (P:Params)(K:ba)(a:Addr)(ns:List Str):Prop where
 ex:∃es n,K.lookup a=some ⟨.type "dict",none,.dict es n,#[]⟩/\PySem.W.KeysLit P es.toList/\KeysAre es.toList ns
 nd:ns.Nodup
 lo:(a == UT)=false
theorem EH {prog:km}{w:World}:∀(es:List DictEntry) (ns:List Str),PySem.W.KeysLit w.params es->KeysAre es ns->∃kvs:List (Str×Value),Pairs (strKind prog w) es kvs/\kvs.map (·.1)=ns:=by
 intro es
 induction es with
 |nil =>
  intro ns _ h;have h':ns=[]:=h;subst h';exact⟨[],by first | exact .nil | exact trivial | exact rfl | constructor,rfl⟩
 |cons e r ih =>
  rintro ns ⟨⟨x,t,e1,e2⟩,hk⟩ ⟨y,ys,t',rfl,e3,hr⟩;obtain⟨kvs,h1,h2⟩:=ih ys hk hr;rw[e1]at e3;injection e3 with e4 _
  subst e4;exact⟨(x,e.val)::kvs,.cons (by rw[e1];exact strKind_is prog w x t) rfl h1,by rw[ko,h2]⟩
theorem FZ.at {prog:km}{w:World}{K:ba}{a:Addr}{ns:List Str}(T:FZ w.params K a ns):∃(kvs:List (Str×Value)) (n:Nat),kvs.map (·.1)=ns/\∀h:Heap,K.In h->h.DictAt (strKind prog w) a kvs n:=by
 obtain⟨es,n,hl,hk,ha⟩:=T.ex;obtain⟨kvs,h1,h2⟩:=EH (prog:=prog) es.toList ns hk ha;refine⟨kvs,n,h2,λh X=>⟨_,es,X _ _ hl,⟨rfl,rfl,rfl⟩,rfl,λe he=>?_,h1,by rw[h2];exact T.nd⟩⟩
 obtain⟨x,t,e1,e2⟩:=hk.all e (Array.mem_toList_iff.mpr he);exact⟨x,by rw[e1];exact strKind_is prog w x t,e2⟩
def CS (n:Nat)(Pv:Nat->List V->Hp->Prop)(i:Nat)(ys:List V)(H4:Hp):Prop:=∃m',m' < n - i/\m'=n - (i+1)/\i+1<=n/\Pv (i+1) ys H4
theorem CS.mk {n:Nat}{Pv:Nat->List V->Hp->Prop}{i:Nat}{ys:List V}{H4:Hp}(hi:i < n)(h:Pv (i+1) ys H4):CS n Pv i ys H4:=⟨n - (i+1),by omega,rfl,hi,h⟩
end L2
namespace L2
open PySem PySem.Spec PyProof.Rows
section
variable{X:Cx}
theorem Au:OpR X (Uq .LtE) (λx y H Q=>∃i j,x=.str i/\y=.str j/\Q (.bl (!decide (j.cps.toList < i.cps.toList))) H):=by
 intro pins s σ H x y v u Q I rx ry h;obtain⟨i,j,rfl,rfl,q⟩:=h;obtain⟨t,rfl⟩:=rx;obtain⟨t',rfl⟩:=ry;exact PySem.P.le_str ⟨.bl _,H,I,rfl,q⟩
theorem zL:eO X (.type "int") (λxs H Q=>∃(z:Str) (n:Int),xs=[.str z]/\PySem.intText? z=some n/\z.length<=640/\Q (.int n) H):=by
 intro pins s σ H xs us Q I r h;obtain⟨z,n,rfl,hn,hl,q⟩:=h;obtain⟨u,rfl,rx⟩:=Vals.one r;obtain⟨t,rfl⟩:=rx;exact PySem.W.KIN.call_text hn hl ⟨.int n,H,I.tok _,⟨_,rfl⟩,q⟩
end
def Itz (x:Str):It:=⟨λi _=>i < x.cps.size,λi H v H'=>H'=H/\∃c,x.cps[i]?=some c/\v=.str ⟨#[c]⟩,λi _=>x.cps.size<=i⟩
theorem G5 {P:km}{w:World}{K:ba}{tg:Expr}(it:Addr)(x:Str)(t:Tok):Turn P w K tg (Itz x) [it] it (λi h=>h.IsStrIter it "str_ascii_iterator" x t i) where
 mem:=by simp
 obj:=λi h st b hb=>by
  have e:b=it:=by simpa using hb
  subst e;obtain⟨o,e,c,d⟩:=st;exact⟨o,e,λv z=>by rw[d]at z;cases z⟩
 keep:=λi h h' st k=>let ⟨o,e,r⟩:=st;⟨o,k it (by simp) o e,r⟩
 item:=by
  intro X hP hw hK hc i pins s σ H E I hf st hg;subst hP hw hK;obtain⟨f0,f1,f2,f3,f4,f5⟩:=hf it (by simp)
  have hg':i < x.cps.size:=hg;refine wpAny_pyNext_ascii_item st (c:=x.cps[i]) (by simp[hg']) λh' st' sb=>?_
  have I1:Inv X pins σ H { s with heap:=h',toks:=s.toks+1 }:=I.turned (λb o hb e=>(sb.2 b hb).trans e) f0 f1 f3 f4 f5
  obtain⟨o,e,c,d⟩:=id st';exact⟨_,rfl,Ac (s:={ s with heap:=h',toks:=s.toks+1 }) e c d (by decide) ⟨.str ⟨#[x.cps[i]]⟩,H,I1,⟨_,rfl⟩,⟨rfl,_,by simp[hg'],rfl⟩,st',λb hb=>(hf b hb).1⟩⟩
 done:=by
  intro X hP hw hK hc i pins s σ H E I hf st hg;subst hP hw hK;obtain⟨f0,f1,f2,f3,f4,f5⟩:=hf it (by simp)
  have hg':x.cps.size<=i:=hg;exact wpAny_pyNext_ascii_end (I.ok.hd hc) st (by simp[hg']) λh' eb=>⟨rfl,I.turned (t':=s.toks) (λb o hb e=>eb b o hb e) f0 f1 f3 f4 f5⟩
 self:=λ_ _ _ _ _ st h=>wpAny_pyIter_striter_ascii st h
theorem G6 {P:km}{w:World}{K:ba}{tg:Expr}(it:Addr)(x:Str)(t:Tok):Turn P w K tg (Itz x) [it] it (λi h=>h.IsStrIter it "str_iterator" x t i) where
 mem:=by simp
 obj:=λi h st b hb=>by
  have e:b=it:=by simpa using hb
  subst e;obtain⟨o,e,c,d⟩:=st;exact⟨o,e,λv z=>by rw[d]at z;cases z⟩
 keep:=λi h h' st k=>let ⟨o,e,r⟩:=st;⟨o,k it (by simp) o e,r⟩
 item:=by
  intro X hP hw hK hc i pins s σ H E I hf st hg;subst hP hw hK;obtain⟨f0,f1,f2,f3,f4,f5⟩:=hf it (by simp)
  have hg':i < x.cps.size:=hg;refine wpAny_pyNext_wide_item st (c:=x.cps[i]) (by simp[hg']) λh' st' sb=>?_
  have I1:Inv X pins σ H { s with heap:=h',toks:=s.toks+1 }:=I.turned (λb o hb e=>(sb.2 b hb).trans e) f0 f1 f3 f4 f5
  obtain⟨o,e,c,d⟩:=id st';exact⟨_,rfl,Ac (s:={ s with heap:=h',toks:=s.toks+1 }) e c d (by decide) ⟨.str ⟨#[x.cps[i]]⟩,H,I1,⟨_,rfl⟩,⟨rfl,_,by simp[hg'],rfl⟩,st',λb hb=>(hf b hb).1⟩⟩
 done:=by
  intro X hP hw hK hc i pins s σ H E I hf st hg;subst hP hw hK;obtain⟨f0,f1,f2,f3,f4,f5⟩:=hf it (by simp)
  have hg':x.cps.size<=i:=hg;exact wpAny_pyNext_wide_end (I.ok.hd hc) st (by simp[hg']) λh' eb=>⟨rfl,I.turned (t':=s.toks) (λb o hb e=>eb b o hb e) f0 f1 f3 f4 f5⟩
 self:=λ_ _ _ _ _ st h=>wpAny_pyIter_striter_wide st h
section
variable{X:Cx}{tg:Expr}
def Ss (tl:TE):TI:=λσ H R=>tl σ H λx H1=>∃z,x=.str z/\R (Itz z) H1
theorem Jt {l:Expr}{tl:TE}(hl:PE X l tl):PI X tg l (Ss tl):=by
 intro pins s σ H R I h;refine thn (hl pins s σ H _ I h) λv s1 ⟨x,H1,I1,r1,z,e,q⟩=>?_
 subst e;obtain⟨t,rfl⟩:=r1;have fp:∀b∈[s1.heap.objs.size],dG X pins H1 b:=λb hb=>by
  have e:b=s1.heap.objs.size:=by simpa using hb
  subst e;exact I1.rP (kc _) (I1.hok.fresh (kc _))
 cases ha:z.cps.all (· < 128)
 ·exact wpAny_pyIter_wide ha ⟨s1.heap.objs.size,[s1.heap.objs.size],_,_,H1,rfl,I1.kept (t':=s1.toks) λb o e=>fu _ e,G6 _ z t,⟨_,tm _ rfl,rfl,rfl⟩,fp,q⟩
 ·exact wpAny_pyIter_ascii ha ⟨s1.heap.objs.size,[s1.heap.objs.size],_,_,H1,rfl,I1.kept (t':=s1.toks) λb o e=>fu _ e,G5 _ z t,⟨_,tm _ rfl,rfl,rfl⟩,fp,q⟩
end
theorem Ju {z:Str}{D:Addr}{te:TE}{Q:VK}{σ:St}{H1:Hp}(Pv:Nat->List V->Hp->Prop)(h0:Pv 0 [] (upd H1 D (.lst [])))(hz:z.cps.size<=eg)
  (hl:∀i ys H2,i<=z.cps.size->Pv i ys H2->H2 D=some (.lst ys)/\ys.length=i)
  (hs:∀i c ys H2,z.cps[i]?=some c->Pv i ys H2->te (some (.str ⟨#[c]⟩)::σ) H2 (bZ D z.cps.size Pv i ys)) (hd:∀ys H2,Pv z.cps.size ys H2->Q (.ref D) H2) :
  hZ (Itz z) te σ D H1 Q:=by
 refine⟨λi m ys H=>m=z.cps.size - i/\i<=z.cps.size/\Pv i ys H,⟨z.cps.size,by simp,TM _,h0⟩,?_⟩
 rintro i m ys H2 ⟨rfl,hi,p⟩;obtain⟨q2,q3⟩:=hl i ys H2 hi p;refine⟨q2,?_⟩
 by_cases hlt:i < z.cps.size
 ·refine .inr ⟨hlt,by omega,λx H3 y=>?_⟩
  obtain⟨e,c,y,ex⟩:=y;subst e ex;exact hs i c ys _ y p
 ·have e:i=z.cps.size:=by omega
  subst e;exact .inl ⟨kc _,hd ys H2 p⟩
theorem Av {z:Str}{D:Addr}{te:TE}{Q:VK}{σ:St}{H1:Hp}(p:Nat->Bool)(hz:z.cps.size<=eg)(hD:H1 D=none)
  (hs:∀(c:Nat) (H2:Hp) (Q2:VK),c∈z.cps.toList->aT H1 H2->(∀H3,aT H2 H3->Q2 (.bl (p c)) H3)->te (some (.str ⟨#[c]⟩)::σ) H2 Q2)
  (hd:∀H2,aT H1 H2->H2 D=some (.lst ((z.cps.toList.map p).map V.bl))->Q (.ref D) H2):hZ (Itz z) te σ D H1 Q:=by
 refine Ju (λi ys H2=>ys=((z.cps.toList.take i).map p).map V.bl/\aT H1 H2/\H2 D=some (.lst ys)) ⟨by simp,av hD,ae⟩ hz ?_ ?_ ?_
 ·rintro i ys H2 hi ⟨rfl,s2,h2⟩;exact⟨h2,by simp;omega⟩
 ·rintro i c ys H2 hi ⟨rfl,s2,h2⟩;have hi':z.cps.toList[i]?=some c:=by rw[Array.getElem?_toList];exact hi
  refine hs c H2 _ (Ti hi') s2 λH3 s3=>?_
  refine bZ.mk (Array.getElem?_eq_some_iff.mp hi).1 (s3 _ _ h2) ⟨?_,(s2.trans s3).own hD,ae⟩;rw[U7,hi'];simp
 ·rintro ys H2 ⟨rfl,s2,h2⟩;refine hd H2 s2 (h2.trans ?_);rw[List.take_of_length_le (by simp)]
inductive Ob:List Expr->List Str->Prop
 |nil:Ob [] []
 |cons {x:Str} {j:_} {p:Pos} {es:List Expr} {ss:List Str}:Ob es ss->Ob (.Constant (.str x) j p::es) (x::ss)
structure fv (scope outer:Scope)(xs N M:List Str):Prop where
 kind:scope.kind=.function
 Ja:outer.kind=.function
 xB:∀y∈scope.names,y.2≠.cell
 names:∀y∈scope.names,y.2=.local->scope.names.lookup y.1=some .local
 hx:∀x∈xs,scope.names.lookup x=some .local
 free:∀y∈scope.names,y.2=.free->outer.names.lookup y.1=some .cell
 nl:∀n∈M,(bY scope outer).names.lookup n≠some .local
 nd2:(xs++M).Nodup
 nd:N.Nodup
 len:M.length=N.length
 rel:∀i:Nat,i < N.length->M[i]?=N[i]?\/M[i]?=some Um
 em:(bY scope outer).names.lookup Um=none
theorem fv.mem {scope outer:Scope}{xs:List Str}{N M:List Str}(S:fv scope outer xs N M){n:Str}{k:NameKind}(h:(bY scope outer).names.lookup n=some k)(hk:k=.cell\/k=.free) :
  k=.cell/\(n,Uv)∈scope.names/\outer.names.lookup n=some .cell:=by
 obtain⟨⟨n',k'⟩,hm,e⟩:=List.mem_map.mp (UD h);dsimp only at e
 by_cases hc:(k' == Uv && outer.kind == .function && outer.names.lookup n' == some .cell)=true
 ·rw[if_pos hc]at e;injection e with e1 e2
  subst e1 e2;rw[TH,TH]at hc;have hk':k'=.free:=beq_iff_eq.mp hc.1.1;subst hk';exact⟨rfl,hm,beq_iff_eq.mp hc.2⟩
 ·rw[if_neg hc]at e;injection e with e1 e2
  subst e1 e2;rcases hk with z | z
  ·exact absurd z (S.xB _ hm)
  ·subst z
   exfalso
   refine hc ?_;rw[S.free _ hm rfl,S.Ja];rfl
def d4 (X:Cx)(xs M:List Str)(scope:Scope)(cl:List (Str×Addr))(C:Addr)(s:Shared)(H:Hp)(fp:List Addr):Cx :=
 { X with N:=xs++M,s₀:=s,H₀:=H,env:=compEnvC scope cl C X.env,outer:=X.stack,ex:=fp,fn:=λ_=>false,pn:=[],xe:=λ_ _=>False }
def Aw (n:Nat)(J:It)(g:TG)(te:TEX)(σ:St)(D:Addr)(H1:Hp)(Q:VK)(E:XK):Prop:=∃W:Nat->Nat->List V->Hp->Prop,(∃m,W 0 m [] (upd H1 D (.lst [])))/\∀i m ys H2,W i m ys H2 ->
 H2 D=some (.lst ys)/\((J.stop i H2/\Q (.ref D) H2)\/(J.go i H2/\ys.length < eg/\∀x H3,J.yld i H2 x H3->∀vs:St,vs.length=n->g x (vs++σ) H3 λσ' H4=>∃ws:St,ws.length=n/\σ'=ws++σ /\
  te σ' H4 (λy H5=>H5 D=some (.lst ys)/\∃m',m' < m/\W (i+1) m' (ys++[y]) (upd H5 D (.lst (ys++[y])))) E))
def Jv (n:Nat)(wi:TI)(g:TG)(te:TEX):TEX:=λσ H Q E=>wi σ H λJ H1=>∀D,H1 D=none->Aw n J g te σ D H1 Q E
section
variable{prog:km}{w:World}{A:Around}{R:Result->Shared->Prop}{s:Shared}
theorem EI {elt target iter:Expr}{scope:Scope}{pos:Pos}{it acc:Value}{env:Env}(I:Nat->Shared->Prop)
  (turn:∀n s,I n s->wpAny (model prog w) A (pyNext it) (λr s₁=>match r with
   |none=>R (.ok .next) s₁
   |some v=>wpAny (model prog w) A (letOwnedTupleGo target it v) (λ_ s₀=>wpAny (model prog w) A (assign target env v) (λ_ s₂ =>
     wpAny (model prog w) A (eval elt env) (λx s₄ =>
       wpAny (model prog w) A (call (.builtin "list.append") [acc,x]) (λ_ s₅=>∃m,m < n/\I m s₅) (notedBy (model prog w) A env λe s'=>R (.error e) s') s₄) (notedBy (model prog w) A env λe s'=>R (.error e) s') s₂)
      (notedBy (model prog w) A env λe s'=>R (.error e) s') s₀) (notedBy (model prog w) A env λe s'=>R (.error e) s') s₁) (notedBy (model prog w) A env λe s'=>R (.error e) s') s)
  (n:Nat) (h:I n s) :
  codeAny (model prog w) A (.compLoop (.ListComp elt [⟨target,iter,[],0⟩] scope pos) 0 it acc env) R s:=by
 refine codeAny_loop rfl I (λn s hI=>?_) n h
 show wpAny _ A ((compTurn (.ListComp elt [⟨target,iter,[],0⟩] scope pos) 0 it acc env).onRaise (λx=>do noteFrame x env;theTreesLotGoes x)) _ _ s
 refine wpAny_noted ?_;rw[compTurn_list];refine de (T3 (de (kq (turn n s hI) (λr s₁ h₁=>?_) λ_ _ h'=>h')))
 cases r with
 |none=>exact kj h₁
 |some v =>
  refine de (kq h₁ (λ_ s₀ h₀=>?_) λ_ _ h'=>h')
  refine de (kq h₀ (λ_ s₂ h₂=>de (wpAny_tests_nil ?_)) λ_ _ h'=>h')
  exact de (de (kq h₂ (λx s₄ h₄=>de (kq h₄ (λ_ s₅ h₅=>kj (kj ⟨rfl,h₅⟩)) λ_ _ h'=>h')) λ_ _ h'=>h'))
end
section
variable{X:Cx}{pins:List (Addr×Obj)}{σ:St}{H:Hp}{s:Shared}{elt iter tg:Expr}{xs:List Str}{px pos:Pos}{scope:Scope}{wi:TI}{te:TEX}{g:TG}{Q:VK}{E:XK}{M:List Str}
theorem Jw {cl:List (Str×Addr)}{C:Addr}{fp:List Addr}(S:fv scope X.env.scope xs X.N M)(I:Inv X pins σ H s)(hC:s.heap.objs.size<=C)(p1:∀n c,cl.lookup n=some c->X.env.cells.lookup n=some c)
  (p3:∀y∈scope.names,y.2=.free->(cl.lookup y.1).isSome=true) (f2:∀b∈fp,dG X pins H b) (fo:∀b∈fp,b < s.heap.objs.size):(d4 X xs M scope cl C s H fp).Ok where
 mod:=I.ok.mod
 kind:=S.kind
 glob:=I.ok.glob
 blt:=I.ok.blt
 above:=hC
 inj:=λy z c h1 h2=>I.ok.inj y z c (p1 y c h1) (p1 z c h2)
 has:=λy hy=>by
  have hy':(bY scope X.env.scope).names.lookup y=some .cell\/(bY scope X.env.scope).names.lookup y=some .free:=hy;have hm:(y,Uv)∈scope.names:=by
   rcases hy' with z | z
   ·exact(S.mem z (.inl rfl)).2.1
   ·exact(S.mem z (.inr rfl)).2.1
  exact Option.isSome_iff_exists.mp (p3 _ hm rfl)
 cab:=λy c h=>absurd h kg
 hd:=I.ok.hd
 frames:=I.ok.frames
 stk:=.inl rfl
 exf:=λb hb=>⟨Tf (Th (fo b hb) hC),λy c e=>(f2 b hb).2.2.2.2.1 y c (p1 y c e)⟩
 bs:=I.bs
 bsz:=ra I.ok.bsz I.sz
 wq:=λb o e hb=>by
  rcases (f2 b hb).2.2.2.1 with z | z
  ·exact I.ok.wq b o e z
  ·exact absurd (Th (ku (I.ok.bs b o e).1) z) (Vl _)
 wu:=λb hb z=>by
  rcases List.mem_cons.mp (I.xg b z) with e | e
  ·exact(f2 b hb).2.1 e
  ·exact(f2 b hb).2.2.1 e
 ly:=I.stack
 frf:=I.wV
theorem G7 {cl:List (Str×Addr)}{C D:Addr}{fp:List Addr}{h₁:Heap}{tk:Nat}{m:Str->Option Value}(S:fv scope X.env.scope xs X.N M)(I:Inv X pins σ H s)(hC:s.heap.objs.size<=C)(hD:s.heap.objs.size<=D)(hDC:D≠C)
  (p1:∀n c,cl.lookup n=some c->X.env.cells.lookup n=some c)
  (p3:∀y∈scope.names,y.2=.free->(cl.lookup y.1).isSome=true) (f2:∀b∈fp,dG X pins H b) (fo:∀b∈fp,b < s.heap.objs.size)
  (old:∀b o,s.heap.get? b=some o->h₁.get? b=some o) (hn:h₁.Ns C m) (hl:h₁.get? D=some { cls:=.type "list",data:=.seq ([]:List Value).toArray }) :
  Inv (d4 X xs M scope cl C s H fp) [] (Vf xs.length none++σ) (upd H D (.lst [])) { s with heap:=h₁,toks:=tk }:=by
 have cellK:∀c v,s.heap.IsCell c v->h₁.IsCell c v:=λc v ⟨o,e,d⟩=>⟨o,old c o e,d⟩
 refine⟨Jw S I hC p1 p3 f2 fo,rfl,I.bare,Un.laid old hD (I.hok.fresh hD),⟨m,hn,λi n v h1 h2 h3=>?_⟩,λy c e=>?_,?_,λy c e=>?_,λp hp=>absurd (show p∈([]:List (Addr×Obj)) from hp) (by simp),I.hok.laid old hD ⟨TM _,[],0,.nil,hl⟩,?_⟩
 ·have h1':(xs++M)[i]?=some n:=h1
  by_cases hi:i < xs.length
  ·rw[Ur (by rw[UG];exact hi),List.getElem?_replicate,if_pos hi]at h2
   cases h2
  ·rw[UB (by omega)]at h1'
   rw[UB (by rw[UG];omega),UG]at h2
   generalize i - xs.length=i at h1' h2;have h3':(bY scope X.env.scope).names.lookup n=some .local\/(bY scope X.env.scope).names.lookup n=some .cell\/(bY scope X.env.scope).names.lookup n=some .free:=h3;have iP:(bY scope X.env.scope).names.lookup n=some .cell/\(n,Uv)∈scope.names/\X.env.scope.names.lookup n=some .cell:=by
    rcases h3' with z | z | z
    ·exact absurd z (S.nl n (Ti h1'))
    ·exact⟨z,(S.mem z (.inl rfl)).2⟩
    ·exact absurd (S.mem z (.inr rfl)).1 (by decide)
   have Su:X.N[i]?=some n:=by
    have hi:i < X.N.length:=by rw[<-S.len];exact(List.getElem?_eq_some_iff.mp h1').1
    rcases S.rel i hi with z | z
    ·rw[<-z];exact h1'
    ·rw[h1']at z;have e:n=Um:=om z;rw[e,S.em]at iP;cases iP.1
   obtain⟨m0,hn0,hl0⟩:=I.loc;obtain⟨u,r,l⟩:=hl0 i n v Su h2 (.inr (.inl iP.2.2));refine⟨u,r,.inr ⟨.inl iP.1,?_⟩⟩;obtain⟨c,hc⟩:=Option.isSome_iff_exists.mp (p3 _ iP.2.1 rfl);refine⟨c,hc,?_⟩;rcases l with ⟨k,_⟩ | ⟨_,c',hc',z⟩
   ·have k':X.env.scope.names.lookup n=some .local:=k;rw[iP.2.2]at k';cases k'
   ·rw[p1 n c hc]at hc';cases hc';exact cellK c _ z
 ·obtain⟨v,z⟩:=I.cell y c (p1 y c e);exact⟨v,cellK c v z⟩
 ·show (upd H D (.lst [])) C=none;rw[ao (Tr hDC)];exact I.hok.fresh hC
 ·obtain⟨v,z⟩:=I.cell y c (p1 y c e);rw[ao (Tf (Th z.lt hD))];exact I.fS y c (p1 y c e)
 ·show (Vf xs.length none++σ).length=(xs++M).length;rw[gr,gr,UG,I.len,S.len]
def XPC (X:Cx)(pins:List (Addr×Obj))(σ:St)(E:XK)(C:Addr)(ea:Addr)(s':Shared):Prop :=
 ∃(cls:Value) (xd:Option Addr) (m:Value) (H':Hp) (o:Obj),Inv X (pins++[(C,o)]) σ H' s'/\(∃mC,s'.heap.Ns C mC)/\X.s₀.heap.objs.size<=C/\(∀y c,X.env.cells.lookup y=some c->c≠C)/\(∀p∈X.pn++pins,p.1≠C)/\XAt X (pins++[(C,o)]) H' s'.heap ea cls xd (some m)/\E cls xd H'
theorem EJ {cl:List (Str×Addr)}{RR:Value->Addr->Result->Shared->Prop}{xe:Value->Shared->Prop}(F1:Fr1 X)(S:fv scope X.env.scope xs X.N M)(hc:X.calm=true)(hi:PI X.nox tg iter wi)
  (hg:∀cl C s H fp,PG (d4 X xs M scope cl C s H fp) tg g)
  (he:∀cl C s H fp,PEX (d4 X xs M scope cl C s H fp) elt te) (I:Inv X pins σ H s) (h:Jv xs.length wi g te σ H Q E)
  (p1:∀n c,cl.lookup n=some c->X.env.cells.lookup n=some c) (p3:∀y∈scope.names,y.2=.free->(cl.lookup y.1).isSome=true)
  (hRR:∀D C H' s' o m,Inv X (pins++[(C,o)]) σ H' s'->s'.heap.get? C=some o->s'.heap.Ns C m->X.s₀.heap.objs.size<=C->(∀y c,X.env.cells.lookup y=some c->c≠C)->(∀p∈X.pn++pins,p.1≠C)->Q (.ref D) H'->RR (.ref D) C (.ok .next) s')
  (hRX:∀D C ea s',XPC X pins σ E C ea s'->RR (.ref D) C (.error (.ref ea)) s') :
  wpAny (model X.prog X.w) X.A (eval iter X.env) (λxv s₁=>wpAny (model X.prog X.w) X.A (pyIter xv) (λit s₂=>wpAny (model X.prog X.w) X.A (newList []) (λacc s₃ =>
   wpAny (model X.prog X.w) X.A (newFunctionEnv scope X.env.globals cl [] X.env.qual none .none (some X.env)) (λBj s₄ =>
    codeAny (model X.prog X.w) X.A (.compStart (.ListComp elt [⟨tg,iter,[],0⟩] scope pos) 0 it acc { Bj with scope:=relabel scope X.env }) (RR acc Bj.locals) s₄) xe s₃) xe s₂) xe s₁) xe s:=by
 refine kq (hi pins s σ H _ (I.iB _) h) (λv s1 h1=>kq h1 (λitv s2 h2=>?_) λ_ _ z=>Tq z) λ_ _ z=>Tq z
 obtain⟨it,fp,tn,J,H2,rfl,I2',T,st2,f2',q⟩:=h2;have I2:Inv X pins σ H2 s2:=I2'.cB;have f2:∀b∈fp,dG X pins H2 b:=f2';refine wpAny_newObj_type (wpAny_newFunctionEnv S.xB (by intro y hy;simp at hy) (λh₁ hns₁ hsb₁=>?_) S.kind)
 dsimp only at hns₁ hsb₁ ⊢;generalize hHH:s2.heap.push { cls:=.type "list",dict:=none,data:=.seq ([]:List Value).toArray }=HH at hns₁ hsb₁ ⊢;have hCs:HH.objs.size=s2.heap.objs.size+1:=by rw[<-hHH,UK]
 have hDC:s2.heap.objs.size≠HH.objs.size:=by rw[hCs];exact Tf (Nat.lt_succ_self _)
 have Jd:s2.heap.objs.size<=HH.objs.size:=by rw[hCs];exact Ut _
 have below:∀b,b < s2.heap.objs.size->b≠HH.objs.size:=λb hb=>by rw[hCs];exact Tf (Nat.lt_succ_of_lt hb)
 have old:∀b o,s2.heap.get? b=some o->h₁.get? b=some o:=λb o e=>hsb₁.extBut b o (below b (ku e)) (fu _ (hHH▸fu _ e))
 have GZ:h₁.get? s2.heap.objs.size=some { cls:=.type "list",data:=.seq ([]:List Value).toArray }:=hsb₁.extBut _ _ hDC (fu _ (hHH▸tm _ rfl));have fo:∀b∈fp,b < s2.heap.objs.size:=λb hb=>by
  obtain⟨o,e,_⟩:=T.obj _ _ st2 b hb;exact ku e
 have IY:=G7 (tk:=s2.toks+([]:List (Str×Value)).length) S I2 Jd (kc _) hDC p1 p3 f2 fo old hns₁ GZ;have st1:tn 0 h₁:=T.keep _ _ _ st2 λb _ o e=>old b o e
 obtain⟨W,⟨m0,w0⟩,turn⟩:=q _ (I2.hok.fresh (kc _));generalize hC:HH.objs.size=C at *;generalize hDD:s2.heap.objs.size=D at *;have G0:s2.heap.objs.size<=C:=by rw[hDD];exact Jd
 have stat:∀ {H':Hp},(∀b∈fp,H' b=none)->∀b∈fp,dG (d4 X xs M scope cl C s2 H2 fp) [] H' b:=λhn b hb =>
  ⟨hn b hb,below b (fo b hb),IY.ok.wu b hb,.inl hb,λy c e=>(f2 b hb).2.2.2.2.1 y c (p1 y c e),λp hp=>absurd (show p∈([]:List (Addr×Obj)) from hp) (by simp)⟩
 have out:∀ {H':Hp} {s':Shared} {σ':St} {pl:List (Addr×Obj)},Inv (d4 X xs M scope cl C s2 H2 fp) pl σ' H' s'->∃oC mC,Inv X (pins++[(C,oC)]) σ H' s'/\s'.heap.get? C=some oC/\s'.heap.Ns C mC/\dG X pins H' C:=λ{H' s' σ' pl} I4=>by
  obtain⟨m4,hn4,_⟩:=I4.loc;obtain⟨oC,es4,ep4,e4,r4⟩:=id hn4;have IX:Inv X pins σ H' s':=I2.FG (ch:=fp) I4.os I4.base I4.hok I4.bare λb hb=>⟨(f2 b hb).2.2.2.1,(f2 b hb).2.1,(f2 b hb).2.2.2.2.1,(f2 b hb).2.2.2.2.2⟩
  have fC:=I2.rP (H':=H') G0 I4.free;have IX2:Inv X (pins++[(C,oC)]) σ H' s':=IX.rO λp hp=>(List.mem_append.mp hp).elim (λz=>IX.pin p (gn _ z)) λz=>by
   have e:p=(C,oC):=by simpa using z
   subst e;exact⟨e4,fC.1,fC.2.1,fC.2.2.1,λv z=>by rw[r4.1]at z;cases z⟩
  exact⟨oC,m4,IX2,e4,hn4,fC⟩
 have exo:∀ {e:Value} {s':Shared} {σ':St} {pl:List (Addr×Obj)},XP (d4 X xs M scope cl C s2 H2 fp) pl σ' E e s'->notedBy (model X.prog X.w) X.A (compEnvC scope cl C X.env) (λe s''=>RR (.ref D) C (.error e) s'') e s':=λ{e s' σ' pl} xp=>by
  obtain⟨ea,cls,xd,m,H',rfl,I4,hx,_,qe⟩:=xp;obtain⟨oC,mC,IX2,e4,hn4,fC⟩:=out I4;have fpx:∀ {b:Addr},dG (d4 X xs M scope cl C s2 H2 fp) pl H' b->dG X (pins++[(C,oC)]) H' b:=λ{b} z=>by
   have base:dG X pins H' b:=by
    rcases z.2.2.2.1 with y | y
    ·exact⟨z.1,(f2 b y).2⟩
    ·exact I2.rP y z.1
   refine⟨base.1,base.2.1,base.2.2.1,base.2.2.2.1,base.2.2.2.2.1,λp hp=>?_⟩
   rcases List.mem_append.mp hp with y | y
   ·exact base.2.2.2.2.2 p (TL _ y)
   ·rcases List.mem_append.mp y with y | y
    ·exact base.2.2.2.2.2 p (gn _ y)
    ·have e:p=(C,oC):=by simpa using y
     subst e;exactλe=>z.2.1 e.symm
  have hx':XAt X (pins++[(C,oC)]) H' s'.heap ea cls xd m:=by
   obtain⟨ok,sl,vs,he',hz,hm⟩:=hx;refine⟨fpx ok,sl,vs,he',⟨hz.sz,λz=>hz.cx (by first | exact z | rfl)⟩,?_⟩
   cases m with
   |none=>exact hm
   |some m=>obtain⟨T',oT,ts,a,b,c,d⟩:=hm;exact⟨T',oT,ts,a,b,fpx c,d⟩
  have hmk:MOk X m:=by cases m with | none=>exact .inl rfl | some m=>exact .inr (.inr ⟨m,rfl⟩)
  show wpAny _ _ (noteFrame (.ref ea) X.env) _ _ s';refine qV F1 IX2.ok.frames IX2 hx' hmk λs5 I5 x5=>?_
  refine hRX D C ea s5 ⟨cls,xd,_,H',oC,I5,?_,ra I2.sz G0,fC.2.2.2.2.1,fC.2.2.2.2.2,x5,qe⟩;have pC:=I5.pin (C,oC) (gn _ (gn _ (by simp)))
  obtain⟨o',es,ep,e0,r⟩:=hn4;rw[e4]at e0;cases e0;exact⟨mC,oC,es,ep,pC.1,r⟩
 have loop:codeAny (model X.prog X.w) X.A (.compLoop (.ListComp elt [⟨tg,iter,[],0⟩] scope pos) 0 (.ref it) (.ref D) (compEnvC scope cl C X.env)) (RR (.ref D) C) { s2 with heap:=h₁,toks:=s2.toks+([]:List (Str×Value)).length }:=by
  refine EI (λn s'=>∃i vs ys H',Inv (d4 X xs M scope cl C s2 H2 fp) [] (vs++σ) H' s'/\vs.length=xs.length/\tn i s'.heap/\(∀b∈fp,H' b=none)/\W i n ys H') ?_ m0 ⟨0,Vf xs.length none,[],_,IY,UG,st1,λb hb=>?_,w0⟩
  ·rintro n s3 ⟨i,vs,ys,H3,I3,hvs,st3,fr3,w3⟩;obtain⟨hDl,hw⟩:=turn i n ys H3 w3;rcases hw with ⟨stop,qn⟩ | ⟨go,hsz,step⟩
   ·refine thn (T.done (d4 X xs M scope cl C s2 H2 fp) rfl rfl rfl hc i [] s3 _ H3 _ I3 (stat fr3) st3 stop) λr s4 ⟨hr,I4⟩=>?_
    subst hr;obtain⟨oC,m4,IX2,e4,hn4,fC⟩:=out I4;exact hRR D C H3 s4 oC m4 IX2 e4 hn4 (ra I2.sz G0) fC.2.2.2.2.1 fC.2.2.2.2.2 qn
   ·refine thn (T.item (d4 X xs M scope cl C s2 H2 fp) rfl rfl rfl hc i [] s3 _ H3 _ I3 (stat fr3) st3 go) λr s4 ⟨u,hr,h4⟩=>?_
    subst hr;refine thn h4 λ_ s5 ⟨xv,H5,I5,r5,y5,st5,fr5⟩=>?_
    have I5':=I5.pinned (stat fr5) (T.obj _ _ st5);refine kq (hg cl C s2 H2 fp _ s5 _ H5 xv u _ I5' r5 (step xv H5 y5 vs hvs)) (λ_ s6 ⟨σ6,H6,I6,ws,hws,e6,q6⟩=>?_) (λ_ _ f=>f.elim)
    subst e6;refine kq (he cl C s2 H2 fp _ s6 _ H6 _ E I6 q6) (λy s7 ⟨yv,H7,I7,r7,hD7,m',hm',w7⟩=>?_) (λ_ _ f=>exo f)
    refine kq (cA (X:=d4 X xs M scope cl C s2 H2 fp) _ s7 _ H7 (.ref D) [yv] (.ref D) [y] (λ_ H8=>H8=upd H7 D (.lst (ys++[yv]))) I7 rfl (.cons r7 .nil) ⟨D,ys,yv,rfl,rfl,hD7,hsz,rfl⟩)
     (λ_ s8 ⟨_,H8,I8,_,e8⟩=>?_) (λ_ _ f=>f.elim)
    subst e8;refine⟨m',hm',i+1,ws,ys++[yv],_,I8.cY,hws,T.keep _ _ _ st5 λb hb o e=>(I8.pin (b,o) (gn _ (gn _ (d8 hb e)))).1,λb hb=>?_,w7⟩
    obtain⟨o,e,d⟩:=T.obj _ _ st5 b hb;exact(I8.pin (b,o) (gn _ (gn _ (d8 hb e)))).2.1
  ·show (upd H2 D (.lst [])) b=none;rw[ao (Tf (fo b hb))];exact(f2 b hb).1
 exact codeAny_compStart_list loop (T.self _ 0 _ _ _ st1 loop)
theorem LR {C ea:Addr}{s':Shared}{h':Heap}{Bj:Env}{α:Type}{w1:String}{Q':α->Shared->Prop}(x:XPC X pins σ E C ea s')(hs':Heap.SameBut C s'.heap h') :
  wpAny (model X.prog X.w) X.A (passOn w1 (.ref ea) Bj:Sem α) Q' (XP X pins σ E) { s' with heap:=h' }:=by
 obtain⟨cls,xd,m,H',o,I5,⟨mC,hn⟩,h0,h1,h2,hx,qe⟩:=x;have pC:=I5.pin (C,o) (gn _ (gn _ (by simp)))
 have IX:Inv X pins σ H' s':=I5.cY;have I6:Inv X pins σ H' { s' with heap:=h' }:=IX.turned (t':=s'.toks) (λb ob hb e=>(hs'.2 b hb).trans e) pC.2.1 pC.2.2.1 (.inr h0) h1 h2
 have ne:∀ {b:Addr},dG X (pins++[(C,o)]) H' b->b≠C:=λ{b} z e=>z.2.2.2.2.2 (C,o) (gn _ (gn _ (by simp))) e.symm
 obtain⟨ok,sl,vs,he,hz,T,oT,ts,a1,nT,fT,hT,hd,h3⟩:=hx;have x6:XAt X pins H' h' ea cls xd (some m):=⟨ok.drop,sl,vs,(hs'.2 ea (ne ok)).trans he,hz,T,oT,ts,a1,nT,fT.drop,(hs'.2 T (ne fT)).trans hT,hd,h3⟩;unfold PySem.passOn;refine de (UE (s:={ s' with heap:=h' }) ((hs'.2 ea (ne ok)).trans he) rfl a1 ?_)
 rw[if_neg (show ¬((rf T == Us)=true) by simp)]
 have step:wpAny (model X.prog X.w) X.A (do setFlight (.ref ea) Bj.frame;throw (.ref ea):Sem α) Q' (XP X pins σ E) { s' with heap:=h' } :=
  de (eh I6 x6 λs2 I2 x2=>wpAny_throw ⟨ea,cls,xd,_,H',rfl,I2,x2,.inr (.inr ⟨_,rfl⟩),qe⟩)
 first
  |exact step
  |exact de (kj step)
theorem Jx (F1:Fr1 X)(S:fv scope X.env.scope xs X.N M)(hc:X.calm=true)(hi:PI X.nox tg iter wi)(hg:∀cl C s H fp,PG (d4 X xs M scope cl C s H fp) tg g)
  (he:∀cl C s H fp,PEX (d4 X xs M scope cl C s H fp) elt te)
  (hs:∀x,foldedSetIterable iter X.env x=pure x:=by intro _;rfl):PEX X (.ListComp elt [⟨tg,iter,[],0⟩] scope pos) (Jv xs.length wi g te):=by
 intro pins s σ H Q E I h;obtain⟨cl,CO,p1,p3⟩:=uo (scope:=scope) (env:=X.env) (λy hy hf=>I.ok.has y.1 (.inl (S.free y hy hf)))
 rw[eval_ListComp];refine wpAny_comprehension_free (use:=none) rfl hs CO S.kind S.names (EJ (RR:=λacc C=>compPost (model X.prog X.w) X.A (XP X pins σ E) none (EP X pins σ Q) acc C) F1 S hc hi hg he I h p1 p3 ?_ ?_)
 ·intro D C H' s' o m I' e hn h0 h1 h2 q;refine⟨m,hn,λh' hs'=>?_⟩
  have pC:=I'.pin (C,o) (gn _ (gn _ (by simp)))
  have IX:Inv X pins σ H' s':=I'.cY;exact⟨.ref D,H',IX.turned (t':=s'.toks) (λb ob hb e=>(hs'.2 b hb).trans e) pC.2.1 pC.2.2.1 (.inr h0) h1 h2,rfl,q⟩
 ·intro D C ea s' x;obtain⟨_,_,_,_,_,_,⟨mC,hn⟩,_⟩:=id x;exact⟨mC,hn,λh' hs' Bj _=>LR x hs'⟩
end
def Qx (t:TAX):TEX:=λσ H Q E=>t σ H (λxs H1=>xs.length<=eg/\∀p,H1 p=none->Q (.ref p) (upd H1 p (.tup xs))) E
theorem j5 {X:Cx}{es:List Expr}{t:TAX}{x1:_}{pos:Pos}(h:PAX X es t):PEX X (.Tuple es x1 pos) (Qx t):=by
 intro pins s σ H Q E I hq;refine wpAny_Tuple_spliced (thn (h pos pins s σ H _ E I hq) λus s1 ⟨xs,H1,I1,r,z,q⟩=>⟨by rw[<-r.length];exact z,?_⟩)
 have hf:H1 s1.heap.objs.size=none:=I1.hok.fresh (kc _);refine⟨.ref s1.heap.objs.size,upd H1 s1.heap.objs.size (.tup xs),I1.laid (t':=s1.toks) (λb u e=>fu _ e) (kc _) ?_,rfl,q _ hf⟩
 exact⟨z,us,r,⟨_,tm _ rfl,rfl,_,rfl⟩⟩
theorem EK {K:ba}{a D:Addr}{xs:List V}{te:TEX}{Q:VK}{E:XK}{σ:St}{H1:Hp}(Pv:Nat->List V->Hp->Prop)(h0:Pv 0 [] (upd H1 D (.lst [])))(hz:xs.length<=eg)
  (hl:∀i ys H2,i<=xs.length->Pv i ys H2->SqL K H2 a xs/\H2 D=some (.lst ys)/\ys.length=i)
  (hs:∀i x ys H2,xs[i]?=some x->Pv i ys H2->te (some x::σ) H2 (bZ D xs.length Pv i ys) E) (hd:∀ys H2,Pv xs.length ys H2->Q (.ref D) H2) :
  Aw 1 (Itl K a) (cX 0) te σ D H1 Q E:=by
 refine⟨λi m ys H=>m=xs.length - i/\i<=xs.length/\Pv i ys H,⟨xs.length,by simp,TM _,h0⟩,?_⟩
 rintro i m ys H2 ⟨rfl,hi,p⟩;obtain⟨q,q2,q3⟩:=hl i ys H2 hi p;refine⟨q2,?_⟩
 by_cases hlt:i < xs.length
 ·refine .inr ⟨⟨xs,xs[i],q,by simp[hlt]⟩,by omega,λx H3 y vs hv=>?_⟩
  obtain⟨e,y⟩:=y;subst e;obtain⟨v0,rfl⟩:=List.length_eq_one_iff.mp hv;exact⟨[some x],rfl,rfl,hs i x ys _ (y xs q) p⟩
 ·have e:i=xs.length:=by omega
  subst e;exact .inl ⟨⟨xs,q,kc _⟩,hd ys H2 p⟩
abbrev TJ:=St->Hp->Str->(Str->Hp->Prop)->Prop
def PJ (X:Cx)(es:List Expr)(t:TJ):Prop :=
 ∀(pins:List (Addr×Obj)) (s:Shared) (σ:St) (H:Hp) (acc:Str) (Q:Str->Hp->Prop),Inv X pins σ H s->t σ H acc Q ->
  Joins (model X.prog X.w) X.A X.xe (evalEach es X.env) acc (λout s1=>∃H1,Inv X pins σ H1 s1/\out.length<=eg/\Q out H1) s
theorem Joins.mono {M:Model}{A:Around}{E:Value->Shared->Prop}{Q Q':Str->Shared->Prop}(hQ:∀o s,Q o s->Q' o s):∀ {ps:List (Sem Value)} {acc:Str} {s:Shared},Joins M A E ps acc Q s->Joins M A E ps acc Q' s
 |[],_,_,h=>hQ _ _ h
 |_::_,_,_,h=>kq h (λ_ _ ⟨y,t,e,l,r⟩=>⟨y,t,e,l,Joins.mono hQ r⟩) λ_ _ z=>z
inductive zM:V->Str->Prop
 |int {i:Int}:i.natAbs.log2 < 1920->zM (.int i) (toString i)
 |str {x:Str}:zM (.str x) x
section
variable{X:Cx}{e:Expr}{es:List Expr}{te:TE}{t:TJ}{y:Str}{j:Nat}{p1 p2 pos:Pos}
theorem mB:PJ X [] (λ_ H acc Q=>acc.length<=eg/\Q acc H):=λ_ _ _ H _ _ I h=>⟨H,I,h.1,h.2⟩
theorem eY (h:PJ X es t):PJ X (.Constant (.str y) j p1::es) (λσ H acc Q=>(acc++y).length<=eg/\t σ H (acc++y) Q):=by
 intro pins s σ H acc Q I hw;show wpAny _ _ (eval (.Constant (.str y) j p1) X.env) _ _ s;exact Calls.Constant_str ⟨y,_,rfl,hw.1,h pins _ σ H _ Q (I.tok _) hw.2⟩
theorem mD (he:PE X e te)(h:PJ X es t):PJ X (.FormattedValue e (-1) none p1::es) (λσ H acc Q=>te σ H λx H1=>∃z,zM x z/\z.length<=eg/\(acc++z).length<=eg/\t σ H1 (acc++z) Q):=by
 intro pins s σ H acc Q I hw;show wpAny _ _ (eval (.FormattedValue e (-1) none p1) X.env) _ _ s;refine wpAny_FormattedValue_plain (thn (he pins s σ H _ I hw) λv s1 ⟨x,H1,I1,r1,z,fz,l1,l2,q⟩=>?_)
 cases fz with
 |int hl =>
  obtain⟨tk,rfl⟩:=r1;exact wpAny_formatField_int hl ⟨_,_,rfl,l2,h pins _ σ H1 _ Q ((I1.tok _).tok _) q⟩
 |str =>
  obtain⟨tk,rfl⟩:=r1;exact wpAny_formatField_str ⟨_,_,rfl,l2,h pins _ σ H1 _ Q I1 q⟩ ⟨_,_,rfl,l2,h pins _ σ H1 _ Q (I1.tok _) q⟩ l1
theorem r8 {e₂:Expr}(h:PJ X (e::e₂::es) t):PE X (.JoinedStr (e::e₂::es) pos) (λσ H Q=>t σ H Um λz H1=>Q (.str z) H1):=by
 intro pins s σ H Q I hw;refine wpAny_JoinedStr ?_;have:=h pins s σ H Um _ I hw;refine Joins.mono ?_ this;rintro out s1 ⟨H1,I1,l,q⟩;exact⟨l,.str out,H1,I1.tok _,⟨_,rfl⟩,q⟩
end
def xi (a C:Addr)(xd:Option Addr):HO:=.ext λh=>∃a0:Addr,h.get? a=some ⟨.ref C,xd,.fields #[.ref a0,.none,.none,.none,.bool false,.none],#[]⟩
section
variable{P:km}{w:World}{H:Hp}{h:Heap}{a C:Addr}{xd:Option Addr}
theorem Jy {a0:Addr}(e:h.get? a=some ⟨.ref C,xd,.fields #[.ref a0,.none,.none,.none,.bool false,.none],#[]⟩):cf P w H h a (xi a C xd) :=
 ⟨⟨a0,e⟩,⟨_,e⟩,λ_ _ ⟨b,z⟩ k=>⟨b,k _ z⟩⟩
theorem Jz (x:cf P w H h a (xi a C xd)):∃a0:Addr,h.get? a=some ⟨.ref C,xd,.fields #[.ref a0,.none,.none,.none,.bool false,.none],#[]⟩:=x.1
end
structure M5 (K:ba)(D:Addr):Prop where
 rd:PySem.W.readsIn K D (.type "type")=true
 sp:PySem.W.specialIn K (.ref D) "__getattribute__"=some (some (.builtin "type.__getattribute__"))
 fc:PySem.W.findCls K (.ref D) (.type "type") "__init__"=some (.val (.builtin "ValueError.__init__"))
structure Bv (K:ba)(N f:Addr):Prop where
 ex:∃(c:Value) (dd:Option Addr) (es:Array DictEntry) (n:Nat) (sl:Array (Option Value)),K.lookup N=some ⟨c,dd,.dict es n,sl⟩/\strKeys es=true
 at_:US K N "__init__"=some (some (.ref f))
theorem Bv.ns {K:ba}{N f:Addr}(x:Bv K N f){h:Heap}(X:K.In h):∃mN,h.Ns N mN/\mN "__init__"=some (.ref f):=by
 obtain⟨⟨c,dd,es,n,sl,l,sk⟩,no⟩:=x;have ns:h.Ns N (nsFind es):=⟨_,es,n,X _ _ l,rfl,λe he=>by
  have z:=List.all_eq_true.mp sk e (Array.mem_toList_iff.mpr he);cases hk:e.key with
  |str y t=>exact⟨y,t,rfl⟩
  |_=>rw[hk]at z;exact absurd z kg,λ_=>rfl⟩
 refine⟨_,ns,?_⟩;unfold US at no;rw[l]at no;dsimp only at no;unfold nsFind findBy;rw[<-Array.find?_toList];cases hf:es.toList.find? (λe=>e.key.isStr "__init__") with
 |none =>
  rw[hf]at no;dsimp only at no
  by_cases q:es.toList.any (·.refKey)=true
  ·rw[if_pos q]at no;cases no
  ·rw[if_neg q]at no;cases no
 |some e=>rw[hf]at no;exact om no
structure ur (K:ba)(C f:Addr)(name:Str):Prop where
 ex:∃(nm q:Str) (N:Addr) (bs bm:List Value) (hdct:Bool) (sn:List Str) (sub:List Value) (ab:Bool) (col:Option Bool) (dd:Option Addr) (k0 k1 k2 k3 k5:Option Value),
  K.lookup C=some (Ud nm q C N bs bm hdct sn sub ab col dd k0 k1 k2 k3 k5 "ValueError.__new__")/\Bt K bm/\hdct=true/\Bv K N f
 fn:PySem.W.isFn K (.ref f)=true
 sa:Ts K (.ref C) "__setattr__"=some (some (.builtin "object.__setattr__"))
 na:Ts K (.ref C) name=some none
section
variable{X:Cx}{pins:List (Addr×Obj)}{σ:St}{H:Hp}{s:Shared}{C f:Addr}{name:Str}
theorem Bt.pass {K:ba}{bm:List Value}(x:Bt K bm)(self:Value):refuseLoop self "__setattr__" bm=pure ():=by
 induction x with
 |base=>exact PySem.F.store_ValueError.passes self
 |own _ _ _ ih=>rw[refuseLoop_ref];exact ih
theorem EL {xk:ur X.K C f name}:eO X (.builtin "ValueError.__init__") (λxs H Q=>∃ea v,xs=[.ref ea,v]/\H ea=some (xi ea C none)/\Q .non H):=by
 intro pins s σ H xs us Q I r h;obtain⟨ea,v,rfl,hx,q⟩:=h;obtain⟨nm,qn,N,bs,bm,hdct,sn,sub,ab,col,dd,k0,k1,k2,k3,k5,l,T,hd,hi⟩:=xk.ex;obtain⟨u,u2,rfl,rx,rv⟩:=vals2 r;cases rx;obtain⟨a0,e⟩:=Jz (P:=X.prog) (w:=X.w) (I.hok _ _ hx);have kC:=I.kIn _ _ l;have T1:=T.tail I.kIn;have F:=PySem.F.excBase_ValueError;have ha:X.A.handled=X.A.handled:=rfl;obtain⟨hp,g,d,tk,os⟩:=s;dsimp only at e kC T1;refine UO (codeAny_call_builtin F.init.plain F.initEntry (wpAny_check_init_subT F T1 kC e rfl ?_))
 wp_walk
 have hE:ea≠hp.objs.size:=Tf (ku e);have e1:(hp.push { cls:=.type "tuple",data:=.seq #[u2] }).get? ea=_:=fu _ e;have k:∀b o,b≠ea->hp.get? b=some o->((hp.push { cls:=.type "tuple",data:=.seq #[u2] }).update ea (Uh λx=>x.setIfInBounds 0 (.ref hp.objs.size))).get? b=some o:=λb o hb q =>
  (TU _ _ (Tr hb)).trans (fu _ q)
 have e2:((hp.push { cls:=.type "tuple",data:=.seq #[u2] }).update ea (Uh λx=>x.setIfInBounds 0 (.ref hp.objs.size))).get? ea=some ⟨.ref C,none,.fields #[.ref hp.objs.size,.none,.none,.none,.bool false,.none],#[]⟩:=T7 _ e1 rfl
 have un:upd H ea (xi ea C none)=H:=by
  funext b
  by_cases z:b=ea
  ·rw[z,ae,hx]
  ·rw[ao z]
 have I2:=I.write (x:=ea) (e:=ea) (o:=xi ea C none) (t':=tk) (by rw[hx];exact UA) (.inl rfl) k ⟨_,e2⟩ (Jy e2)
 rw[un]at I2;exact⟨.non,H,I2,rfl,q⟩
end
end L2
namespace L2
open PySem PySem.Spec PyProof.Rows PySem.Builtin PySem.Builtin.ObjectAttr
section
variable{prog:km}{w:World}{A:Around}{E:Value->Shared->Prop}{K:ba}{x C f:Addr}{name:Str}{v:Value}
theorem JA {s:Shared}{vs:Array Value}{sl:Array (Option Value)}{Q:Unit->Shared->Prop}(X:K.In s.heap)(xk:ur K C f name)(hx:s.heap.get? x=some ⟨.ref C,none,.fields vs,sl⟩)
  (h:∀h' tk,h'.get? x=some ⟨.ref C,some s.heap.objs.size,.fields vs,sl⟩->h'.Ns1 s.heap.objs.size (λy=>if y=name then some v else none)->(∀b o,b≠x->s.heap.get? b=some o->h'.get? b=some o) ->
   Q () { s with heap:=h',toks:=tk }):wpAny (model prog w) A (setAttr (.ref x) name v) Q E s:=by
 obtain⟨nm,qn,N,bs,bm,hdct,sn,sub,ab,col,dd,k0,k1,k2,k3,k5,l,T,hd,hi⟩:=xk.ex;subst hd;obtain⟨hp,g,d,tk,os⟩:=s;dsimp only at hx h X;have J:UW hp x ⟨.ref C,none,.fields vs,sl⟩ C none:=⟨hx,rfl,rfl,trivial⟩;have SF:=PySem.F.store_object;have kC:=X _ _ l;have hT:=T.tail X;have hob:(rf C::bm).contains (.type "object")=true:=by rw[List.contains_cons,hT.hasType (b:=true) (by trivial),Bool.or_true]
 have pass:refuseLoop (.ref x) "__setattr__" (.ref C::bm)=pure ():=by rw[refuseLoop_ref];exact T.pass _
 refine PySem.W.set_plain X J xk.sa ?_;have sb:PySem.W.Looks (model prog w) hp (isInstance (.ref x) (.type "object")) true:=J.type.andThen (PySem.W.looks_mroIn X (by unfold Vm Vd;rw[l];simpa using hob))
 refine codeAny_call_builtin SF.slot.plain SF.entry (@PySem.W.check_slot (model prog w) _ _ ⟨hp,g,d,tk+1,os⟩ "object.__setattr__" "object" "__setattr__" (.ref x) [.str name tk,v] [] _ SF.kind SF.split sb (SF.args (.ref x) (.str name tk) v) ?_);have hm:PySem.W.Looks (model prog w) hp (mroOf (.ref C)) (.ref C::bm):=(PySem.W.looks_clsIn X (by unfold Vd;rw[l])).andThen .now
 rw[PySem.W.osa_eq,refuse_eq];refine de (de ((J.type (M:=model prog w)).at (de (hm.at ?_))));rw[pass];refine kj (de ((J.type (M:=model prog w)).at (de ((U4 X xk.na).at (de ((show PySem.W.Looks (model prog w) hp (storeTaker? none) none from .now).at ?_))))))
 have hxs:x≠hp.objs.size:=Tf (ku hx);obtain⟨cd,hcl,hdd⟩:∃cd,Vd K C=some cd/\cd.hasDict=true:=⟨_,by unfold Vd;rw[l],rfl⟩
 refine de (kj (de (de (wpAny_loadPart hx (de ((PySem.W.looks_clsIn X hcl).at ?_))))));rw[hdd];have hx₁:(hp.push { cls:=.type "dict",data:=.dict #[] }).get? x=some _:=fu _ hx;refine de (wpAny_alloc' ?_);refine de (wpAny_update' hx₁ ?_);refine kj ?_;have hgd:((hp.push { cls:=.type "dict",data:=.dict #[] }).update x λo=>{ cls:=o.cls,dict:=some hp.objs.size,data:=o.data,slots:=o.slots }).get? hp.objs.size
   = some { cls:=.type "dict",data:=.dict #[] } :=
  (Heap.get?_update_ne _ _ _ _ hxs.symm).trans (Heap.get?_push_at rfl rfl)
 have hnd:((hp.push { cls:=.type "dict",data:=.dict #[] }).update x λo=>{ cls:=o.cls,dict:=some hp.objs.size,data:=o.data,slots:=o.slots }).Ns hp.objs.size (λ_=>none) :=
  ⟨_,#[],_,hgd,rfl,λe he=>absurd he (by simp),λ_=>rfl⟩
 show wpAny _ _ (storeInDict hp.objs.size (.str name tk) name v) _ _ _;unfold storeInDict newKeyGuard;refine de (kj (de (wpAny_nsSet1 (Heap.Ns1.of_empty hnd) λh' hn' hs=>?_)))
 obtain⟨oD,esD,epD,hoD,hdD,hcD⟩:=hn'.count (Within.cons name v Within.nil);refine de (wpAny_lookBehind hoD (by rw[hdD];exact pastItsLine_dict (ra hcD (by rw[ky,List.length_nil,sizeLine_eq];omega))) ?_)
 refine kj (h h' _ ?_ hn' λb ob hbx hb=>(hs.2 b (Tf (ku hb))).trans ((Heap.get?_update_ne _ _ _ _ hbx).trans (fu _ hb)))
 exact(hs.2 x hxs).trans (T7 _ hx₁ rfl)
end
end L2
namespace L2
open PySem PySem.Spec PyProof.Rows
section
variable{prog:km}{w:World}{A:Around}{E:Value->Shared->Prop}{h:Heap}{g:Array GenState}{d:Drawn}{t:Nat}{os:OsState}
variable{nm q:Str}{C N fI:Addr}{bs bm bmB:List Value}{hdct:Bool}{sn:List Str}{sub:List Value}{ab:Bool}{col:Option Bool}{dd:Option Addr}{k0 k1 k2 k3 k5:Option Value}{B nid iid:String}{K:ba}
theorem G8 (X:K.In h)(F:ExcBaseFacts B nid iid bmB)(T:OwnTail h bmB bm){mN:Str->Option Value}{us:List Value}{Q:Fin->Shared->Prop}
  (kC:h.get? C=some (Ud nm q C N bs bm hdct sn sub ab col dd k0 k1 k2 k3 k5 nid)) (kN:h.Ns N mN) (kI:mN "__init__"=some (.ref fI)) (hf:PySem.W.typeIn K (.ref fI)=some (.type "function")) (hz:us.length<=eg)
  (hq:wpAny (model prog w) A (call (.ref fI) (.ref (h.objs.size+1)::us)) (λr s'=>r=.none/\Q (.done (.ret (.ref (h.objs.size+1)))) s') E ⟨j4 h C us,g,d,t,os⟩) :
  wpAny (model prog w) A (Builtin.«type.__call__» ⟨.ref C::us,[]⟩) Q E ⟨h,g,d,t,os⟩:=by
 repeat (first | with_reducible refine wpAny_loadPart_at kC ?_ | with_reducible refine wpAny_madeBy_exc kC ?_ | wp_step)
 refine codeAny_call_builtin_code (Code.quiet_builtin _ F.quiet) (wpAny_check_new_subT F T kC (codeAny_exc_new_subT F T kC ?_ hz));show wpAny _ _ _ _ _ _;have kC1:(j4 h C us).get? C=_:=dS kC;have kN1:(j4 h C us).Ns N mN:=kN.keeps λb o e=>dS e
 have X1:K.In (j4 h C us):=X.keeps λb o e=>dS e
 have T1:OwnTail (j4 h C us) bmB bm:=T.keeps λb o e=>dS e
 have kE:=xG (h:=h) (C:=C) (us:=us);have self:(rf C::bm).contains (.ref C)=true:=by simp
 unfold isInstance
 repeat (first | with_reducible refine wpAny_loadPart_at kE ?_ | (with_reducible refine wpAny_isSubtype_exc kC1 ?_;rw[self]) | wp_step)
 show wpAny _ _ (typeLookup (.ref C) _) _ _ _;refine wpAny_typeLookup_tail kC1 kN1 T1 F.mroIs F.init.lookup ?_;rw[kI];refine TR (de ((PySem.W.bind_fn X1 (.ref (h.objs.size+1)) hf).at ?_));refine de (kq hq (λr s' hr=>?_) λ_ _ z=>z)
 obtain⟨rfl,hQ⟩:=hr
 wp_walk
 exact hQ
theorem JB (X:K.In h)(F:ExcBaseFacts B nid iid bmB)(T:OwnTail h bmB bm){mN:Str->Option Value}{us:List Value}{Q:Value->Shared->Prop}
  (kC:h.get? C=some (Ud nm q C N bs bm hdct sn sub ab col dd k0 k1 k2 k3 k5 nid)) (kN:h.Ns N mN) (kI:mN "__init__"=some (.ref fI)) (hf:PySem.W.typeIn K (.ref fI)=some (.type "function")) (hz:us.length<=eg)
  (hq:wpAny (model prog w) (A.under (.builtin "type.__call__" ⟨.ref C::us,[]⟩)) (call (.ref fI) (.ref (h.objs.size+1)::us)) (λr s'=>r=.none/\Q (.ref (h.objs.size+1)) s') E ⟨j4 h C us,g,d,t,os⟩) :
  wpAny (model prog w) A (call (.ref C) us) Q E ⟨h,g,d,t,os⟩:=by
 have l1:=tc_lookup;have l2:=tc_bind (.ref C);have ty:(⟨h,g,d,t,os⟩:Shared).TypeIs (.ref C) "type":=⟨_,kC,rfl⟩;refine UO (codeAny_of_tree ?_);show wpAny _ _ (callAny (.ref C) _) _ _ _
 repeat (any_goals (first | assumption | with_reducible refine wpAny_loadPart_at kC ?_ | wp_step))
 exact⟨rfl,codeAny_call_builtin_at (Code.quiet_builtin _ (by trivial)) entry_typeCall (wpAny_check_type_call_sub kC (G8 X F T kC kN kI hf hz hq))⟩
end
def xH (C:Addr)(name:Str):Sp:=λvs H Q _=>∃(e:Addr) (v:V),vs=[.ref e,v]/\H e=some (xi e C none)/\(∃z,zM v z/\z.length<=10000)/\∀d,H d=none->Q .non (upd (upd H d (.xd [(name,v)])) e (xi e C (some d)))
section
variable{X:Cx}{pins:List (Addr×Obj)}{σ:St}{H:Hp}{s:Shared}{C f:Addr}{name x:Str}{fd:gp}{ps:List Str}{k:Nat}{np d9 pos:Pos}{e₀:Expr}{ta:TA}
theorem xI {E:Value->Shared->Prop}{v:V}{u:Value}{Q:Value->Shared->Prop}(xk:ur X.K C f name)(len:ps.length=2)(run:∀(s:Shared) (H:Hp) (us:List Value) (vs:List V) (Q:VK),rT X.prog X.w X.K X.mg X.base (X.A.under (.builtin "type.__call__" ⟨.ref C::[u],[]⟩)) X.stack s H->BindsTo s fd ⟨us,[]⟩ (ps.zip us)->Vals vs us->xH C name vs H Q E0->codeAny (model X.prog X.w) (X.A.under (.builtin "type.__call__" ⟨.ref C::[u],[]⟩)) (.call (.ref f) ⟨us,[]⟩) (CR CX0 X.stack X.prog X.w H s Q E0) s)(hb:Binds X.K fd ps [])(I:Inv X pins σ H s)(r:RelV v u)
  (hv:∃z,zM v z/\z.length<=10000)
  (h:∀(e d:Addr) (a0:Value) (s':Shared),H d=none->Inv X pins σ (upd H d (.xd [(name,v)])) s'->dG X pins (upd H d (.xd [(name,v)])) e->s'.heap.get? e=some ⟨.ref C,some d,.fields #[a0,.none,.none,.none,.bool false,.none],#[]⟩->Q (.ref e) s') :
  wpAny (model X.prog X.w) X.A (call (.ref C) [u]) Q E s:=by
 obtain⟨nm,qn,N,bs,bm,hdct,sn,sub,ab,col,dd,k0,k1,k2,k3,k5,l,T,hd,hi⟩:=xk.ex;obtain⟨mN,kN,kI⟩:=hi.ns I.kIn;have fre:=I.hok.fresh (kc _);obtain⟨hp,g,dr,tk,os⟩:=s;have ne:H (hp.objs.size+1)=none:=I.hok.fresh (Ut _);have I2:Inv X pins σ (upd H (hp.objs.size+1) (xi (hp.objs.size+1) C none)) ⟨j4 hp C [u],g,dr,tk,os⟩ :=
  I.laid (h':=j4 hp C [u]) (t':=tk) (λb o q=>dS q) (Ut _) (Jy xG)
 have r2:Vals [V.ref (hp.objs.size+1),v] [rf (hp.objs.size+1),u]:=.cons rfl (.cons r .nil);have hsp:xH C name [V.ref (hp.objs.size+1),v] (upd H (hp.objs.size+1) (xi (hp.objs.size+1) C none))
   (λv' H'=>v'=.non/\∃d,H d=none/\d≠hp.objs.size+1/\H'=upd (upd (upd H (hp.objs.size+1) (xi (hp.objs.size+1) C none)) d (.xd [(name,v)])) (hp.objs.size+1) (xi (hp.objs.size+1) C (some d))) E0:=by
  refine⟨_,v,rfl,ae,hv,λd hd=>⟨rfl,d,?_,?_,rfl⟩⟩
  ·by_cases z:d=hp.objs.size+1
   ·rw[z,ae]at hd;cases hd
   ·rwa [ao z]at hd
  ·intro z;rw[z,ae]at hd;cases hd
 have hl:[rf (hp.objs.size+1),u].length=ps.length:=len.symm;refine JB I.kIn (F:=PySem.F.excBase_ValueError) (T.tail I.kIn) (I.kIn _ _ l) kN kI (beq_iff_eq.mp xk.fn) (show 1<=eg by decide) (UO (codeAny_mono (run _ _ [rf (hp.objs.size+1),u] _ _
  (I2.II.make C [u] []) (by have b:=hb _ [rf (hp.objs.size+1),u] I2.kIn (by rw[T9];exact hl);rw[T9]at b;exact b) r2 hsp) λrr s' hq=>?_))
 cases rr with
 |error e=>exact hq.elim
 |ok fl =>
  cases fl with
  |ret u' =>
   obtain⟨v',H',os',bare,un,hok,rv,rfl,d,hd1,hd2,rfl⟩:=hq;cases rv;refine⟨rfl,?_⟩;have HeE:∀ {o:HO},upd (upd (upd H (hp.objs.size+1) (xi (hp.objs.size+1) C none)) d (.xd [(name,v)])) (hp.objs.size+1) o (hp.objs.size+1)=some o:=ae;have Hne:∀b,b≠hp.objs.size+1->upd (upd (upd H (hp.objs.size+1) (xi (hp.objs.size+1) C none)) d (.xd [(name,v)])) (hp.objs.size+1) (xi (hp.objs.size+1) C (some d)) b=upd H d (.xd [(name,v)]) b:=λb hb=>by
    rw[ao hb]
    by_cases z:b=d
    ·rw[z,ae,ae]
    ·rw[ao z,ao z,ao hb]
   have He2:upd H d (.xd [(name,v)]) (hp.objs.size+1)=none:=by rw[ao (Tr hd2)];exact ne
   have U1:Un (frs X.stack) [] H (upd H (hp.objs.size+1) (xi (hp.objs.size+1) C none)) hp (j4 hp C [u]):=Un.laid (λb o q=>dS q) (Ut _) ne
   have U2:=U1.trans un;have lt:∀b o,hp.get? b=some o->b≠hp.objs.size+1:=λb o q=>Tf (Nat.lt_succ_of_lt (ku q))
   have U3:Un (frs X.stack) [] H (upd H d (.xd [(name,v)])) hp s'.heap:=by
    refine⟨U2.keep,U2.slot,λb o q n hx=>?_,U2.there,λb xs q=>?_,λb o u q=>?_,λb p q=>?_⟩
    ·have z:=U2.free b o q n hx
     rwa [Hne b (lt b o q)]at z
    ·have z:=U2.qR b xs q
     rwa [Hne b (λe=>by rw[e,ne]at q;cases q)]at z
    ·have z:=U2.nQ b o u q
     rwa [Hne b (λe=>by rw[e,ne]at q;cases q)]at z
    ·obtain⟨m,z⟩:=U2.qS b p q;rw[Hne b (λe=>by rw[e,ne]at q;cases q)]at z
     exact⟨m,z⟩
   have K3:HOk X.prog X.w (upd H d (.xd [(name,v)])) s'.heap:=λa o q=>by
    have ha:a≠hp.objs.size+1:=λe=>by rw[e,He2]at q;cases q
    refine(hok a o (by rw[Hne a ha];exact q)).wm (λb u _ z=>z) (λb z=>?_) (λb xs z=>?_)
    ·rwa [Hne b (λe=>by rw[e,HeE]at z;cases z)]at z
    ·rwa [Hne b (λe=>by rw[e,HeE]at z;cases z)]at z
   obtain⟨a0,ea⟩:=Jz (P:=X.prog) (w:=X.w) (hok _ _ HeE);have I3:Inv X pins σ (upd H d (.xd [(name,v)])) s':=I.FG (ch:=[]) os' U3 K3 bare λb z=>absurd z (by simp)
   exact h _ d (.ref a0) s' hd1 I3 (I.rP (Ut _) He2) ea
  |next=>exact Tq hq
  |brk=>exact Tq hq
  |cont=>exact Tq hq
theorem G9 {E:Value->Shared->Prop}{v:V}{u:Value}{Q:Value->Shared->Prop}(xk:ur X.K C f name)(F:FnOk X.prog X.w X.K X.mg X.base CX0 k f fd ps (xH C name))(hr:Room (k+1) X.A)(hb:Binds X.K fd ps [])(I:Inv X pins σ H s)(r:RelV v u)
  (hv:∃z,zM v z/\z.length<=10000)
  (h:∀(e d:Addr) (a0:Value) (s':Shared),H d=none->Inv X pins σ (upd H d (.xd [(name,v)])) s'->dG X pins (upd H d (.xd [(name,v)])) e->s'.heap.get? e=some ⟨.ref C,some d,.fields #[a0,.none,.none,.none,.bool false,.none],#[]⟩->Q (.ref e) s') :
  wpAny (model X.prog X.w) X.A (call (.ref C) [u]) Q E s :=
 xI xk (by have z:=F.len [V.ref 0,v] (upd H 0 (xi 0 C none)) (λ_ _=>True) E0 ⟨0,v,rfl,ae,hv,λ_ _=>trivial⟩;exact z.symm) (λs H us vs Q e0 b r sp=>F.run _ X.stack s H ⟨us,[]⟩ us vs Q E0 (hr.make C [u] []) e0 b r sp) hb I r hv h
theorem jq (xk:ur X.K C f name)(F:FnOk X.prog X.w X.K X.mg X.base CX0 k f fd ps (xH C name))(hr:Room (k+1) X.A)(hb:Binds X.K fd ps [])(hc:X.calm=true)(hg:Gl X x)(hm:X.mg x=some (.ref C))(ha:PA X.nox [e₀] ta)
  (hdb:(x == ("__debug__":Str))=false:=by decide) (he:Td [e₀] X.env=[(false,eval e₀ X.env)]:=by rfl) :
  PSX X (.Raise (some (.Call (.Name x np) [e₀] [] d9)) none pos) (λ_ E σ H=>ta σ H λvs H1=>∃v,vs=[v]/\(∃z,zM v z/\z.length<=10000)/\∀d,H1 d=none->E σ (.ref C) (some d) (upd H1 d (.xd [(name,v)]))):=by
 intro pins s σ H D E I h;obtain⟨nm,q,N,bs,bm,hdct,sn,sub,ab,col,dd,k0,k1,k2,k3,k5,l,T,hd,hi⟩:=xk.ex;have go:wpAny (model X.prog X.w) X.A (eval (.Call (.Name x np) [e₀] [] d9) X.env) (λv s₁=>∃(e:Addr) (xd:Option Addr) (a0:Value) (sl:Array (Option Value)),v=.ref e/\s₁.heap.get? C=some (Ud nm q C N bs bm hdct sn sub ab col dd k0 k1 k2 k3 k5 "ValueError.__new__") /\
   s₁.heap.get? e=some ⟨.ref C,xd,.fields #[a0,.none,.none,.none,.bool false,.none],sl⟩/\XPS X pins E (.ref e) s₁) (XPS X pins E) s:=by
  refine wpAny_Call_Name_kw (fU I hg hm ?_ hdb);unfold Ve;rw[he];refine de (TR (U6 ?_));have ha':=ha d9 pins s σ H _ (I.iB _) h;rw[show X.nox.env=X.env from rfl,he]at ha'
  refine kq ha' (λus s₁ ⟨vs,H1,I1,r,v,hvs,hv,q1⟩=>de (T3 ?_)) λ_ _ z=>Tq z
  subst hvs;obtain⟨u,rfl,rv⟩:=Vals.one r;have I1':=I1.cB;have kC:=I1'.kIn _ _ l;have pl:(backTo d9 [(false,eval e₀ X.env)]).any (·.1)=false:=rfl
  have fin:wpAny (model X.prog X.w) X.A (call (.ref C) ([]++[u])) (λr s'=>∃(e:Addr) (xd:Option Addr) (a0:Value) (sl:Array (Option Value)),r=.ref e/\s'.heap.get? C=some (Ud nm q C N bs bm hdct sn sub ab col dd k0 k1 k2 k3 k5 "ValueError.__new__") /\
   s'.heap.get? e=some ⟨.ref C,xd,.fields #[a0,.none,.none,.none,.bool false,.none],sl⟩/\XPS X pins E (.ref e) s') (XPS X pins E) s₁:=by
   refine G9 xk F hr hb I1' rv hv λe d a0 s' hd1 I2 fp ke=>?_
   exact⟨e,some d,a0,#[],rfl,I2.kIn _ _ l,ke,σ,e,.ref C,some d,none,_,rfl,I2,⟨fp,_,_,ke,⟨by show 1 < 6;decide,λ_=>rfl⟩,rfl⟩,.inl rfl,q1 d hd1⟩
  obtain⟨hp,g',d',tk,os'⟩:=s₁;simp only[pl];refine de (wpAny_keeperOf_exc kC ?_);exact de (kq fin (λv s2 z=>de (TR (wpAny_point (kj z)))) λ_ _ z=>z)
 rw[arm_exec_Raise];have hbx:bm.contains (.type "BaseException")=true:=(T.tail I.kIn).hasType (b:=true) (by trivial)
 first
  |exact de (T3 (pQ (C:=C) (nm:=nm) (q:=q) (N:=N) (bs:=bs) (bm:=bm) (hdct:=hdct) (sn:=sn) (sub:=sub) (ab:=ab) (col:=col) (dd:=dd) (k0:=k0) (k1:=k1) (k2:=k2) (k3:=k3) (k5:=k5) hbx (I.ok.hd hc) (de (kq go (λv s₃ h₃=>de (T3 (kj h₃))) λ_ _ z=>z))))
  | (simp only[evalOpt,Option.map];exact de (T3 (pQ (C:=C) (nm:=nm) (q:=q) (N:=N) (bs:=bs) (bm:=bm) (hdct:=hdct) (sn:=sn) (sub:=sub) (ab:=ab) (col:=col) (dd:=dd) (k0:=k0) (k1:=k1) (k2:=k2) (k3:=k3) (k5:=k5) hbx (I.ok.hd hc) (de (kq go (λv s₃ h₃=>de (T3 (kj h₃))) λ_ _ z=>z)))))
end
section
variable{X:Cx}{pins:List (Addr×Obj)}{σ:St}{H:Hp}{s:Shared}{C D f:Addr}{name x:Str}{np apos d9 pos pos':Pos}{o e value:Expr}{ta tv:TE}{t:TA}
theorem nY {pl:Sem Bool}(ik:M5 X.K D)(xk:ur X.K C f name)(hg:Gl X x)(hm:X.mg x=some (.ref D))(ha:PA X [o,e] t)(hdb:(x == ("__debug__":Str))=false:=by decide)
  (hst:Td [o,e] X.env=(false,eval o X.env)::Td [e] X.env:=by rfl) (hpl:(backTo pos (Td [e] X.env)).any (·.1)=false:=by rfl)
  (ht:eval (.Call (.Attribute (.Name x np) "__init__" apos) [o,e] [] pos) X.env=(do
   let ov <-eval (.Name x np) X.env
   standAt apos.atName
   let (f,first) <-holding [ov] (getMethod ov "__init__" pl)
   Ve pos f first (backTo pos (Td [o,e] X.env)) (UY pos (Up [] X.env))):=by rfl) :
  PE X (.Call (.Attribute (.Name x np) "__init__" apos) [o,e] [] pos) (λσ H Q=>t σ H λvs H1=>∃ea v,vs=[.ref ea,v]/\H1 ea=some (xi ea C none)/\Q .non H1):=by
 intro pins s σ H Q I h;refine Uu (pl:=pl) (fU I hg hm ?_ hdb) ht;refine PySem.W.method_cls I.kIn ik.sp (PySem.W.cls_value I.kIn ik.rd ik.fc (by trivial) ?_)
 show wpAny _ _ (Ve pos (.builtin "ValueError.__init__") [] (backTo pos (Td [o,e] X.env)) []) _ _ _;exact PyProof.Rows.callWith_builtin1 (thn (ha pos pins _ σ H _ (I.tok _) h) λus s1 ⟨vs,H1,I1,r1,ea,v,hv,hx,q⟩=>EL (xk:=xk) pins s1 σ H1 vs us Q I1 r1 ⟨ea,v,hv,hx,q⟩) hst hpl
theorem r9 (xk:ur X.K C f name)(ha:PE X o ta)(hv:PE X value tv)(hs:swapsWith value (some (.Attribute o name pos')) pos.line X.env=pure false:=by rfl):PS X (.Assign [.Attribute o name pos'] value pos)
  (λD σ H=>tv σ H λy H1=>ta σ H1 λx H2=>∃ea,x=.ref ea/\H2 ea=some (xi ea C none)/\∀d,H2 d=none->D.nx σ (upd (upd H2 d (.xd [(name,y)])) ea (xi ea C (some d)))):=by
 intro pins s σ H D I h;refine plainObj_wpAny_Assign_Attribute (thn (hv pins s σ H _ I h) λu s1 ⟨y,H1,I1,ry,q⟩=>thn (ha pins s1 σ H1 _ I1 q) λov s2 ⟨x,H2,I2,rx,ea,ex,hx,q2⟩=>?_) hs
 subst ex;obtain rfl:ov=rf ea:=rx;obtain⟨a0,e0⟩:=Jz (P:=X.prog) (w:=X.w) (I2.hok _ _ hx);have fr:H2 s2.heap.objs.size=none:=I2.hok.fresh (kc _);refine JA I2.kIn xk e0 λh' tk hx' ns kk=>⟨σ,_,?_,q2 _ fr⟩
 have hde:ea≠s2.heap.objs.size:=aG hx fr;have old:∀b,b≠ea->b≠s2.heap.objs.size->upd (upd H2 s2.heap.objs.size (.xd [(name,y)])) ea (xi ea C (some s2.heap.objs.size)) b=H2 b:=λb h1 h2=>by rw[ao h1,ao h2]
 have lt:∀b ob,s2.heap.get? b=some ob->b≠s2.heap.objs.size:=λb ob q=>Tf (ku q)
 have nx:∀b,H2 b=none->b≠ea:=λb n z=>by rw[z,hx]at n;cases n
 have ns':∀b {o:HO},H2 b=some o->b≠s2.heap.objs.size:=λb _ n z=>by rw[z,fr]at n;cases n
 refine I2.un (t':=tk) ⟨λb ob q n _ _=>kk b ob (nx b n) q,λb ob q n _ _=>⟨ob.slots,kk b ob (nx b n) q⟩,λb ob q n _=>by rw[old b (nx b n) (lt b ob q)];exact n,λb ob q _=>?_,λb xs q=>?_,λb ob u q=>?_,λb ps q=>?_⟩ λa ob q=>?_
 ·by_cases z:b=ea
  ·exact⟨_,by rw[z];exact hx'⟩
  ·exact⟨ob,kk b ob z q⟩
 ·rw[old b (λz=>by rw[z,hx]at q;cases q) (ns' b q)];exact q
 ·rw[old b (λz=>by rw[z,hx]at q;cases q) (ns' b q)];exact q
 ·exact⟨#[],by rw[old b (λz=>by rw[z,hx]at q;cases q) (ns' b q),q];simp⟩
 ·by_cases z:a=ea
  ·subst z;rw[ae]at q;cases q;exact Jy hx'
  ·rw[ao z]at q
   by_cases z2:a=s2.heap.objs.size
   ·rw[z2,ae]at q;cases q;refine⟨_,by rw[z2];exact ns,λg=>?_⟩
    rw[Vg]
    by_cases hg:g=name
    ·rw[if_pos hg,show (g == name)=true from beq_iff_eq.mpr hg];exact ry
    ·rw[if_neg hg,show (g == name)=false from beq_eq_false_iff_ne.mpr hg];exact UA
   ·rw[ao z2]at q;refine(I2.hok a ob q).wm (λb u hb r=>kk b u ?_ r) (λb r=>?_) (λb xs r=>?_)
    ·rintro rfl;rcases hb with hb | hb
     ·exact z hb.symm
     ·rw[hx]at hb;cases hb
    ·rw[old b (λz=>by rw[z,hx]at r;cases r) (ns' b r)];exact r
    ·rw[old b (λz=>by rw[z,hx]at r;cases r) (ns' b r)];exact r
theorem CT {ea C d:Addr}{fs:List (Str×V)}(I:Inv X pins σ H s)(h:H ea=some (xo ea (.ref C) (some d)))(hd:H d=some (.xd fs)) :
  ∃ox od,UW s.heap ea ox C (some od)/\∃mA:Str->Option Value,(∀n,PySem.W.lookIn n od=some (mA n))/\∀n,lu (fs.lookup n) (mA n):=by
 obtain⟨⟨sl,vs,e⟩,_⟩:=(show cf X.prog X.w H s.heap ea (xo ea (.ref C) (some d)) from I.hok _ _ h)
 obtain⟨mA,ns,r⟩:=(show cf X.prog X.w H s.heap d (.xd fs) from I.hok _ _ hd)
 obtain⟨od,ho,lk⟩:=Af ns;exact⟨_,od,⟨e,rfl,rfl,ho⟩,mA,lk,r⟩
structure Hn (K:ba)(C:Addr)(name:Str):Prop where
 ga:GaX K C
 na:Ts K (.ref C) name=some none
 hd:PySem.W.hasDictIn K C=true
theorem F0 (he:PE X e ta)(hb:attributeBase e name X.env (eval e X.env)=eval e X.env):PE X (.Attribute e name pos)
  (λσ H Q=>ta σ H λx H1=>∃ea C d fs v,x=.ref ea/\H1 ea=some (xo ea (.ref C) (some d))/\H1 d=some (.xd fs)/\Hn X.K C name/\fs.lookup name=some v/\(∃z,zM v z)/\Q v H1):=by
 intro pins s σ H Q I h;refine FN hb (thn (he pins s σ H _ I h) λu s1 ⟨x,H1,I1,rx,ea,C,d,fs,v,ex,hx,hd,xf,lk,⟨z,fz⟩,q⟩=>?_)
 subst ex;obtain rfl:u=rf ea:=rx;obtain⟨ox,od,J,mA,li,rel⟩:=CT I1 hx hd;have rl:=rel name;rw[lk]at rl;cases hm:mA name with
 |none=>rw[hm]at rl;exact rl.elim
 |some u2 =>
  rw[hm]at rl;have rl':RelV v u2:=rl;have hh:PySem.W.handedIn u2=true:=by
   cases fz with
   |int _=>obtain⟨t,rfl⟩:=rl';rfl
   |str=>obtain⟨t,rfl⟩:=rl';rfl
  obtain⟨cd,hc,hdct⟩:=PySem.W.any_some xf.hd;have fo:Vh X.K C (some od) name=some (.value u2):=by
   unfold Vh;rw[hc,UI,xf.na,UI];simp only[UI,PySem.W.ownOf,hdct,if_true,li,hm]
  unfold getAttr;refine de (wpAny_mkText (M4 (s:={ s1 with toks:=s1.toks+1 }) I1.kIn J xf.ga (Jq (s:={ s1 with toks:=s1.toks+1 }) I1.kIn J fo ?_)))
  exact⟨hh,v,H1,I1.tok _,rl',q⟩
theorem EM:eO X (.builtin "isinstance") (λxs H Q=>∃ea c C d fs b,xs=[.ref ea,c]/\isC c=true/\H ea=some (xo ea (.ref C) (some d))/\H d=some (.xd fs)/\jo X.K C/\Ua X.K (.ref C) (EE c)=some b/\Q (.bl b) H):=by
 intro pins s σ H xs us Q I r h;obtain⟨ea,c,C,d,fs,b,rfl,hc,hx,hd,ty,e,q⟩:=h;obtain⟨u,w',rfl,rx,rc⟩:=vals2 r;cases rx;obtain⟨ox,od,J,_⟩:=CT I hx hd;have fin:∀tk,EP X pins σ Q (.bool b) { s with toks:=tk }:=λtk=>⟨.bl b,H,I.tok _,rfl,q⟩
 cases c with
 |ty n=>cases rc;exact T8 (FX ty) I.kIn J e (λz=>nomatch z) fin
 |ref a=>cases rc;exact T8 (FX ty) I.kIn J e (λz=>nomatch z) fin
 |_=>exact absurd (show false=true from hc) kg
end
section
variable{κ:Type}[DecidableEq κ]
def ia (kvs:List (κ×V))(k:κ):Option V:=(kvs.find? λkv=>decide (kv.1=k)).map (·.2)
def putK (kvs:List (κ×V))(k:κ)(v:V):List (κ×V) :=
 if (kvs.any λkv=>decide (kv.1=k))=true then kvs.map (λkv=>if kv.1=k then (kv.1,v) else kv) else kvs++[(k,v)]
def iQ (kvs:List (κ×V))(k:κ):List (κ×V):=kvs.filter λkv=>decide (kv.1≠k)
theorem jr {p:κ×V}{r:List (κ×V)}{k:κ}(e:p.1=k):ia (p::r) k=some p.2:=by simp[ia,UP,e]
theorem fX {p:κ×V}{r:List (κ×V)}{k:κ}(e:¬p.1=k):ia (p::r) k=ia r k:=by simp[ia,UP,e]
theorem sf (k:κ):∀kvs:List (κ×V),(kvs.any λkv=>decide (kv.1=k))=(ia kvs k).isSome
 |[]=>rfl
 |p::r=>by
  rw[Vc]
  by_cases e:p.1=k
  ·simp only[jr e,decide_eq_true e,Bool.true_or,Option.isSome_some]
  ·rw[fX e,decide_eq_false e,Bool.false_or];exact sf k r
theorem vn (kvs:List (κ×V))(k:κ)(v:V):(putK kvs k v).length<=kvs.length+1:=by
 unfold putK;split
 ·rw[bo];omega
 ·rw[gr,ky,List.length_nil];omega
theorem JC {kvs:List (κ×V)}{k:κ}(v:V)(h:ia kvs k=none):putK kvs k v=kvs++[(k,v)]:=by
 unfold putK;rw[sf,h];exact if_neg (by decide)
theorem lu.pR {o:Option V}{u:Option Value}(r:lu o u):o.isSome=u.isSome:=by
 cases o with
 |none=>cases u with
  |none=>rfl
  |some _=>exact(show False from r).elim
 |some _=>cases u with
  |none=>exact(show False from r).elim
  |some _=>rfl
theorem lu.getD {o:Option V}{u:Option Value}{d:V}{d':Value}(r:lu o u)(rd:RelV d d'):RelV (o.getD d) (u.getD d'):=by
 cases o with
 |none=>cases u with
  |none=>exact rd
  |some _=>exact(show False from r).elim
 |some _=>cases u with
  |none=>exact(show False from r).elim
  |some _=>exact r
theorem KV.val {kvs:List (κ×V)}{vs:List (κ×Value)}(r:KV kvs vs)(k:κ):lu (ia kvs k) (valueAt vs k):=by
 unfold KV at r
 induction r with
 |nil=>exact UA
 | @cons p q ps qs h t ih =>
  obtain⟨h1,h2⟩:=h
  by_cases e:p.1=k
  ·have e':q.1=k:=h1.symm.trans e;have b:valueAt (q::qs) k=some q.2:=by simp[valueAt,UP,e']
   rw[jr e,b];exact h2
  ·have e':¬q.1=k:=λz=>e (h1.trans z)
   have b:valueAt (q::qs) k=valueAt qs k:=by simp[valueAt,UP,e']
   rw[fX e,b];exact ih
theorem KV.any {kvs:List (κ×V)}{vs:List (κ×Value)}(r:KV kvs vs)(k:κ):(kvs.any λkv=>decide (kv.1=k))=vs.any λkv=>decide (kv.1=k):=by
 unfold KV at r
 induction r with
 |nil=>rfl
 |cons h t ih=>rw[Vc,Vc,ih,h.1]
theorem KV.Oc {kvs:List (κ×V)}{vs:List (κ×Value)}(r:KV kvs vs)(k:κ){y:V}{u:Value}(ry:RelV y u) :
  KV (kvs.map λkv=>if kv.1=k then (kv.1,y) else kv) (vs.map λkv=>if kv.1=k then (kv.1,u) else kv):=by
 unfold KV at r ⊢
 induction r with
 |nil=>exact .nil
 | @cons p q ps qs h t ih =>
  rw[ko,ko];refine .cons ?_ ih;obtain⟨h1,h2⟩:=h
  by_cases e:p.1=k
  ·rw[if_pos e,if_pos (h1.symm.trans e)];exact⟨h1,ry⟩
  ·rw[if_neg e,if_neg (λz=>e (h1.trans z))];exact⟨h1,h2⟩
theorem KV.put {kvs:List (κ×V)}{vs:List (κ×Value)}(r:KV kvs vs)(k:κ){y:V}{u:Value}(ry:RelV y u):KV (putK kvs k y) (stored vs k u):=by
 unfold putK stored;rw[r.any k]
 by_cases e:(vs.any λkv=>decide (kv.1=k))=true
 ·rw[if_pos e,if_pos e];exact r.Oc k ry
 ·rw[if_neg e,if_neg e];exact Paired.snoc r ⟨rfl,ry⟩
theorem KV.drop {kvs:List (κ×V)}{vs:List (κ×Value)}(r:KV kvs vs)(k:κ):KV (iQ kvs k) (without vs k):=by
 unfold KV at r ⊢;unfold iQ without
 induction r with
 |nil=>exact .nil
 | @cons p q ps qs h t ih =>
  obtain⟨h1,h2⟩:=h;rw[List.filter_cons,List.filter_cons]
  by_cases e:p.1=k
  ·have a:¬decide (p.1≠k)=true:=by simp[e]
   have b:¬decide (q.1≠k)=true:=by simp[h1.symm.trans e]
   rw[if_neg a,if_neg b];exact ih
  ·have e':¬q.1=k:=λz=>e (h1.trans z)
   have a:decide (p.1≠k)=true:=by simp[e]
   have b:decide (q.1≠k)=true:=by simp[e']
   rw[if_pos a,if_pos b];exact .cons ⟨h1,h2⟩ ih
theorem KV.keys {kvs:List (κ×V)}{vs:List (κ×Value)}(r:KV kvs vs):kvs.map (·.1)=vs.map (·.1):=by
 unfold KV at r
 induction r with
 |nil=>rfl
 |cons h t ih=>rw[ko,ko,ih,h.1]
theorem KV.length {kvs:List (κ×V)}{vs:List (κ×Value)}(r:KV kvs vs):kvs.length=vs.length:=Paired.length r
theorem CU (kvs:List (κ×V))(k:κ):(iQ kvs k).length<=kvs.length:=List.length_filter_le _ _
end
theorem Ax {P:km}{w:World}{k:Key}{u:Value}(r:RelV (kV k) u):(cz P w).is k u=true:=by
 cases k with
 |inl i=>obtain⟨t,e⟩:=(show ∃t,u=Value.int i t from r);subst e;exact CB P w i t
 |inr x=>obtain⟨t,e⟩:=(show ∃t,u=Value.str x t from r);subst e;exact CC P w x t
theorem Ay {P:km}{w:World}:∀ {ks:List Key} {us:List Value},Vals (ks.map kV) us->ItemsAre (cz P w) ks us
 |[],_,r=>by rw[UJ]at r;cases r;exact .nil
 |k::ks,_,r=>by
  rw[ko]at r;cases r with
  |cons h t=>exact .cons (Ax h) (Ay t)
abbrev KT (H:Hp):List (List Key×V)->List (List Key×Addr×Value)->Prop:=Paired λp q=>p.1=q.1/\H q.2.1=some (.tup (p.1.map kV))/\RelV p.2 q.2.2
theorem KT.val {H:Hp}{kvs:List (List Key×V)}{xs:List (List Key×Addr×Value)}(r:KT H kvs xs)(k:List Key):lu (ia kvs k) ((atKey xs k).map (·.2)):=by
 induction r with
 |nil=>exact UA
 | @cons p q ps qs h t ih =>
  obtain⟨h1,_,h2⟩:=h
  by_cases e:p.1=k
  ·have e':q.1=k:=h1.symm.trans e;have b:atKey (q::qs) k=some q.2:=by simp[atKey,UP,e']
   rw[jr e,b];exact h2
  ·have e':¬q.1=k:=λz=>e (h1.trans z)
   have b:atKey (q::qs) k=atKey qs k:=by simp[atKey,UP,e']
   rw[fX e,b];exact ih
theorem KT.Oc {H:Hp}{kvs:List (List Key×V)}{xs:List (List Key×Addr×Value)}(r:KT H kvs xs)(k:List Key){y:V}{u:Value}(ry:RelV y u) :
  KT H (kvs.map λkv=>if kv.1=k then (kv.1,y) else kv) (xs.map (putAt k u)):=by
 induction r with
 |nil=>exact .nil
 | @cons p q ps qs h t ih =>
  rw[ko,ko];refine .cons ?_ ih;obtain⟨h1,h2,h3⟩:=h;unfold putAt
  by_cases e:p.1=k
  ·rw[if_pos e,if_pos (h1.symm.trans e)];exact⟨h1,h2,ry⟩
  ·rw[if_neg e,if_neg (λz=>e (h1.trans z))];exact⟨h1,h2,h3⟩
theorem KT.put {H:Hp}{kvs:List (List Key×V)}{xs:List (List Key×Addr×Value)}(r:KT H kvs xs)(k:List Key){b:Addr}{y:V}{u:Value}(hb:H b=some (.tup (k.map kV)))(ry:RelV y u) :
  KT H (putK kvs k y) (storedH xs k b u):=by
 have e:(kvs.any λkv=>decide (kv.1=k))=(atKey xs k).isSome:=by
  rw[sf,(r.val k).pR,Option.isSome_map]
 unfold putK storedH;rw[e]
 by_cases q:(atKey xs k).isSome=true
 ·rw[if_pos q,if_pos q];exact r.Oc k ry
 ·rw[if_neg q,if_neg q];exact Paired.snoc r ⟨rfl,hb,ry⟩
theorem KT.keeps {H H':Hp}{kvs:List (List Key×V)}{xs:List (List Key×Addr×Value)}(r:KT H kvs xs)(ht:∀b ys,H b=some (.tup ys)->H' b=some (.tup ys)):KT H' kvs xs :=
 Paired.Ny r λ_ _ z=>⟨z.1,ht _ _ z.2.1,z.2.2⟩
section
variable{P:km}{w:World}{H:Hp}{h:Heap}{a:Addr}
theorem M6 {u:HO}(ok:HOk P w H h)(e:Rd H a u):cf P w H h a u:=e.ok ok
theorem Az {kvs:List (Key×V)}(ok:HOk P w H h)(e:Rd H a (.dK kvs)):kvs.length<=eg/\(a == UT)=false/\∃vs,KV kvs vs/\h.DictOf (cz P w) a vs :=
 show cf P w H h a (.dK kvs) from M6 ok e
theorem CV {kvs:List (Key×V)}(ok:HOk P w H h)(e:H a=some (.dK kvs)):kvs.length<=eg/\(a == UT)=false/\∃vs,KV kvs vs/\h.DictOf (cz P w) a vs:=Az ok (.inl e)
theorem Bw {ks:List Key}(ok:HOk P w H h)(e:H a=some (.tup (ks.map kV))):(tupleKind (cz P w)).is h ks a:=by
 obtain⟨_,its,r,o,h1,h2,n,h3⟩:=(show cf P w H h a (.tup (ks.map kV)) from ok a _ e)
 exact⟨o,its.toArray,n,h1,h2,h3,by simpa using Ay r⟩
theorem CW {kvs:List (List Key×V)}(ok:HOk P w H h)(e:Rd H a (.dT kvs)):kvs.length<=eg/\(a == UT)=false /\
  ∃xs,KT H kvs xs/\h.DictOfH (tupleKind (cz P w)) a xs:=by
 obtain⟨z,y,xs,r,o,es,ep,h1,h2,h3,h4,h5⟩:=(show cf P w H h a (.dT kvs) from M6 ok e)
 refine⟨z,y,xs,r,o,es,ep,h1,h2,h3,h4,λx hx=>?_,h5⟩
 have all:∀ {l:List (List Key×V)} {m:List (List Key×Addr×Value)},KT H l m->∀x∈m,(tupleKind (cz P w)).is h x.1 x.2.1:=by
  intro l m q
  induction q with
  |nil=>intro x hx;exact nomatch hx
  | @cons p q ps qs hq t ih =>
   intro x hx;rcases List.mem_cons.mp hx with e | hx
   ·subst e;exact Bw ok (by rw[<-hq.1];exact hq.2.1)
   ·exact ih x hx
 exact all r x hx
theorem Qy {kvs:List (List Key×V)}(ok:HOk P w H h)(e:H a=some (.dT kvs)):kvs.length<=eg/\(a == UT)=false /\
  ∃xs,KT H kvs xs/\h.DictOfH (tupleKind (cz P w)) a xs:=CW ok (.inl e)
end
def Bx (H:Hp)(a:Addr)(y:V)(r:Option V):Prop :=
 (∃kvs k,Rd H a (.dK kvs)/\y=kV k/\r=ia kvs k)\/∃kvs k b,Rd H a (.dT kvs)/\y=.ref b/\H b=some (.tup (k.map kV))/\r=ia kvs k
def wz (H:Hp)(a:Addr)(y v:V)(H':Hp):Prop :=
 (∃kvs k,H a=some (.dK kvs)/\y=kV k/\kvs.length < eg/\H'=upd H a (.dK (putK kvs k v))) \/
 ∃kvs k b,H a=some (.dT kvs)/\y=.ref b/\H b=some (.tup (k.map kV))/\kvs.length < eg/\H'=upd H a (.dT (putK kvs k v))
theorem Bx.k {H:Hp}{a:Addr}{kvs:List (Key×V)}{k:Key}(e:H a=some (.dK kvs)):Bx H a (kV k) (ia kvs k):=.inl ⟨kvs,k,.inl e,rfl,rfl⟩
theorem Bx.t {H:Hp}{a b:Addr}{kvs:List (List Key×V)}{k:List Key}(e:H a=some (.dT kvs))(eb:H b=some (.tup (k.map kV))):Bx H a (.ref b) (ia kvs k):=.inr ⟨kvs,k,b,.inl e,rfl,eb,rfl⟩
theorem wz.k {H:Hp}{a:Addr}{kvs:List (Key×V)}{k:Key}{v:V}(e:H a=some (.dK kvs))(hl:kvs.length < eg):wz H a (kV k) v (upd H a (.dK (putK kvs k v))):=.inl ⟨kvs,k,e,rfl,hl,rfl⟩
theorem wz.t {H:Hp}{a b:Addr}{kvs:List (List Key×V)}{k:List Key}{v:V}(e:H a=some (.dT kvs))(eb:H b=some (.tup (k.map kV)))(hl:kvs.length < eg) :
  wz H a (.ref b) v (upd H a (.dT (putK kvs k v))):=.inr ⟨kvs,k,b,e,rfl,eb,hl,rfl⟩
section
variable{X:Cx}{pins:List (Addr×Obj)}{σ:St}{H:Hp}{s:Shared}{a:Addr}{y v:V}{u r:Value}{o:Option V}{A:Around}{E:Value->Shared->Prop}
theorem Inv.big (I:Inv X pins σ H s):UT < s.heap.objs.size:=by
 have h:mainGlobals < s.heap.objs.size:=(I.mod.glob.keeps I.bk).lt;exact Nat.lt_trans (by decide) h
theorem Ho {Q:Value->Shared->Prop}(hu:A.units+1 < cLine)(I:Inv X pins σ H s)(g:Bx H a y (some v))(ry:RelV y u)(h:∀w' s',Inv X pins σ H s'->RelV v w'->Q w' s') :
  wpAny (model X.prog X.w) A (getItem (.ref a) u) Q E s:=by
 rcases g with ⟨kvs,k,e,ey,l⟩ | ⟨kvs,k,b,e,ey,eb,l⟩
 ·subst ey;obtain⟨z,hd,vs,rel,dd⟩:=Az I.hok e;obtain⟨w',hw,rw'⟩:=lu.some_of (v:=v) (o:=valueAt vs k) (by rw[l];exact rel.val k)
  exact wpAny_getItem_of (Ax ry) dd.mapOf hw (h w' _ (I.tok _) rw')
 ·subst ey;cases (show u=rf b from ry)
  obtain⟨z,hd,xs,rel,dd⟩:=CW I.hok e;obtain⟨w',hw,rw'⟩:=lu.some_of (v:=v) (o:=(atKey xs k).map (·.2)) (by rw[l];exact rel.val k)
  obtain⟨p,hp,hp2⟩:=Option.map_eq_some_iff.mp hw;refine wpAny_getItem_heap (tupleKind_room_in1 hu) (Bw I.hok eb) dd hp ?_;rw[hp2];exact h w' _ (I.tok _) rw'
theorem LS {Q:Value->Shared->Prop}(hu:A.units+1 < cLine)(I:Inv X pins σ H s)(g:Bx H a y o)(ry:RelV y u)(h:∀s',Inv X pins σ H s'->Q (.bool (!o.isSome)) s') :
  wpAny (model X.prog X.w) A (Uq .NotIn u (.ref a)) Q E s:=by
 rcases g with ⟨kvs,k,e,ey,l⟩ | ⟨kvs,k,b,e,ey,eb,l⟩
 ·subst ey;obtain⟨z,hd,vs,rel,dd⟩:=Az I.hok e;refine wpAny_notIn_of (Ax ry) hd dd.mapOf ?_;rw[<-(rel.val k).pR,<-l];exact h _ (I.tok _)
 ·subst ey;cases (show u=rf b from ry)
  obtain⟨z,hd,xs,rel,dd⟩:=CW I.hok e;refine wpAny_notIn_heap (tupleKind_room_in1 hu) (Bw I.hok eb) hd dd ?_;have q:=(rel.val k).pR;rw[Option.isSome_map]at q;rw[<-q,<-l];exact h _ (I.tok _)
theorem wZ {h':Heap}{t':Nat}{ob:HO}(I:Inv X pins σ H s)(mu:Mut (H a))(hs:Heap.SameBut a s.heap h')(he:∃q,h'.get? a=some q)(new:cf X.prog X.w (upd H a ob) h' a ob) :
  Inv X pins σ (upd H a ob) { s with heap:=h',toks:=t' } :=
 I.write (x:=a) (e:=a) mu (.inl rfl) (λb q hb z=>(hs.2 b hb).trans z) he new
theorem EN {P:km}{w:World}{H':Hp}{h':Heap}{kvs:List (Key×V)}{vs:List (Key×Value)}(z:kvs.length<=eg)(hd:(a == UT)=false)(rel:KV kvs vs)(dd:h'.DictOf (cz P w) a vs) :
  cf P w H' h' a (.dK kvs):=⟨z,hd,vs,rel,dd⟩
theorem Hq {H':Hp}{Q:Unit->Shared->Prop}(hu:A.units+1 < cLine)(I:Inv X pins σ H s)(g:wz H a y v H')(ry:RelV y u)(rv:RelV v r)(h:∀s',Inv X pins σ H' s'->Q () s') :
  wpAny (model X.prog X.w) A (setItem (.ref a) u r) Q E s:=by
 rcases g with ⟨kvs,k,e,ey,l,eH⟩ | ⟨kvs,k,b,e,ey,eb,l,eH⟩
 ·subst ey eH;obtain⟨z,hd,vs,rel,dd⟩:=CV I.hok e;have hz:vs.length<=eg:=by rw[<-rel.length];exact z
  have hl:(putK kvs k v).length<=eg:=by have:=vn kvs k v;omega
  refine wpAny_setItem_pairs (hsz:=hz) (Ax ry) dd λh' dd' hs=>h _ ?_
  have he:∃q,h'.get? a=some q:=let ⟨q,_,_,hq,_⟩:=dd';⟨q,hq⟩
  exact wZ I (by rw[e];exact UA) hs he (EN hl hd (rel.put k rv) dd')
 ·subst ey eH;cases (show u=rf b from ry)
  obtain⟨z,hd,xs,rel,dd⟩:=Qy I.hok e;have hz:xs.length<=eg:=by rw[<-Paired.length rel];exact z
  have hl:(putK kvs k v).length<=eg:=by have:=vn kvs k v;omega
  refine wpAny_setItem_heap (hsz:=hz) (tupleKind_room_in1 hu) (Bw I.hok eb) dd λh' dd' hs=>h _ ?_
  obtain⟨q,es,ep,hq,h2,h3,h4,_,h5⟩:=dd';refine wZ I (by rw[e];exact UA) hs ⟨q,hq⟩ ⟨hl,hd,_,(rel.put k eb rv).keeps λc ys ec=>?_,q,es,ep,hq,h2,h3,h4,h5⟩
  rw[ao (Ab ec e (λz=>nomatch z))]
  exact ec
end
section
variable{X:Cx}{pins:List (Addr×Obj)}{σ:St}{H:Hp}{s:Shared}{a:Addr}{kvs:List (Key×V)}{k:Key}{u:Value}{A:Around}{E:Value->Shared->Prop}
theorem PN {Q:Unit->Shared->Prop}(I:Inv X pins σ H s)(e:H a=some (.dK kvs))(ry:RelV (kV k) u)(l:(ia kvs k).isSome=true)(h:∀s',Inv X pins σ (upd H a (.dK (iQ kvs k))) s'->Q () s') :
  wpAny (model X.prog X.w) A (delItem (.ref a) u) Q E s:=by
 obtain⟨z,hd,vs,rel,dd⟩:=CV I.hok e;refine wpAny_delItem_slot dd.typeIs (by decide) PySem.F.slot_dict_delitem
  (call_meetsIn PySem.F.slot_dict_delitem dd.typeIs PySem.F.entry_dict_delitem (PySem.F.args_dict_delitem_2 _ _) (meets_dict_delitem_pairs (cz X.prog X.w) a (Ax ry)) ⟨vs,dd,by rw[<-rel.length];exact z,by rw[<-(rel.val k).pR];exact l,λh' dd' hs=>h _ ?_⟩)
 have he:∃q,h'.get? a=some q:=let ⟨q,_,_,hq,_⟩:=dd';⟨q,hq⟩
 exact wZ I (by rw[e];exact UA) hs he (EN (ra (CU kvs k) z) hd (rel.drop k) dd')
theorem Qz {v:V}{more:List Value}{Q:Value->Shared->Prop}(I:Inv X pins σ H s)(e:H a=some (.dK kvs))(ry:RelV (kV k) u)(l:ia kvs k=some v)(hm:more=[]\/∃x,more=[x])
  (h:∀w' s',Inv X pins σ (upd H a (.dK (iQ kvs k))) s'->RelV v w'->Q w' s'):wpAny (model X.prog X.w) A (call (.builtin "dict.pop") (.ref a::u::more)) Q E s:=by
 obtain⟨z,hd,vs,rel,dd⟩:=CV I.hok e;obtain⟨w',hw,rw'⟩:=lu.some_of (v:=v) (o:=valueAt vs k) (by rw[<-l];exact rel.val k)
 have hp:(keyPart u).isSome=true:=by
  cases k with
  |inl i=>obtain⟨t,q⟩:=(show ∃t,u=Value.int i t from ry);subst q;rfl
  |inr x=>obtain⟨t,q⟩:=(show ∃t,u=Value.str x t from ry);subst q;rfl
 have ha:argsOk "dict.pop" ⟨.ref a::u::more,[]⟩:=by
  rcases hm with q | ⟨x,q⟩
  ·subst q;exact PySem.F.args_dict_pop_2 _ _
  ·subst q;exact PySem.F.args_dict_pop_3 _ _ _
 refine call_meetsIn PySem.F.slot_dict_pop dd.typeIs PySem.F.entry_dict_pop ha (meets_dict_pop_there (cz X.prog X.w) a (Ax ry) more hm hp)
  ⟨vs,w',dd,by rw[<-rel.length];exact z,hw,λh' dd' hs=>h w' _ ?_ rw'⟩
 have he:∃q,h'.get? a=some q:=let ⟨q,_,_,hq,_⟩:=dd';⟨q,hq⟩
 exact wZ I (by rw[e];exact UA) hs he (EN (ra (CU kvs k) z) hd (rel.drop k) dd')
theorem QA {Q:Value->Shared->Prop}(I:Inv X pins σ H s)(e:Rd H a (.dK kvs))(h:∀t s',Inv X pins σ H s'->Q (.int kvs.length t) s'):wpAny (model X.prog X.w) A (call (.builtin "len") [.ref a]) Q E s:=by
 obtain⟨z,hd,vs,rel,dd⟩:=Az I.hok e;refine call_len_dict hd dd (by rw[<-rel.length];rw[sizeLine_eq]at z;omega) ?_
 rw[<-rel.length];exact h _ _ (I.tok _)
end
def QB (i:Expr):Prop:=∀ov iv,subscripted i false ov iv=operate [ov,iv] (getItem ov iv)
theorem LU {prog:km}{w:World}{A:Around}{E:Value->Shared->Prop}{s:Shared}{env:Env}{value slice:Expr}{pos:Pos}{T id:String}{Q:Value->Shared->Prop}
  (hl:typeLookup (.type T) "__getitem__"=pure (some (.builtin id))) (hs:QB slice)
  (h:wpAny (model prog w) A (eval value env) (λo s₁=>wpAny (model prog w) A (eval slice env) (λi s₂=>s₂.TypeIs o T/\wpAny (model prog w) A (getItem o i) Q E s₂) E s₁) E s) :
  wpAny (model prog w) A (eval (.Subscript value slice pos) env) Q E s:=by
 refine Subscript_ (kq h (λo s₁ h₁=>kq h₁ (λi s₂ h₂=>?_) λ_ _ x=>x) λ_ _ x=>x)
 obtain⟨hT,h₂⟩:=h₂;unfold subscriptTail;refine de ?_;rw[getitemInPython_of_ne hT.not_modules];refine de (wpAny_specialOf hT hl ?_);have fin:wpAny (model prog w) A (subscripted slice false o i) (λr s₃=>wpAny (model prog w) A (letTemporaryGo value o r >>= λ_=>pure r) Q E s₃) E s₂:=by
  rw[hs o i];exact wpAny_operating (kq h₂ (λr s₃ h₃=>de (wpAny_letTemporaryGo (kj h₃))) λ_ _ x=>x)
 first
  |exact kj (de fin)
  |exact de (kj (de fin))
  |exact de fin
theorem CY {X:Cx}{pins:List (Addr×Obj)}{σ:St}{H:Hp}{s:Shared}{a:Addr}{y:V}{o:Option V}(I:Inv X pins σ H s)(g:Bx H a y o):s.TypeIs (.ref a) "dict":=by
 rcases g with ⟨kvs,k,e,_,_⟩ | ⟨kvs,k,b,e,_,_,_⟩
 ·obtain⟨_,_,vs,_,dd⟩:=Az I.hok e;exact dd.typeIs
 ·obtain⟨_,_,xs,_,dd⟩:=CW I.hok e;exact dd.typeIs
def QC (td ty:TE):TE:=λσ H Q=>td σ H λx H1=>ty σ H1 λy H2=>∃a v,x=.ref a/\Bx H2 a y (some v)/\Q v H2
def LV (ty td:TE):TE:=λσ H Q=>ty σ H λy H1=>td σ H1 λx H2=>∃a o,x=.ref a/\Bx H2 a y o/\Q (.bl (!o.isSome)) H2
def QD (td ty tv:TE):TS:=λD σ H=>tv σ H λv H1=>td σ H1 λx H2=>ty σ H2 λy H3=>∃a H4,x=.ref a/\wz H3 a y v H4/\D.nx σ H4
section
variable{X:Cx}{o i e value:Expr}{pos pos' R6:Pos}{td ty tv:TE}
theorem i6 (hu:X.A.units+1 < cLine)(ho:PE X o td)(hi:PE X i ty)(hs:QB i):PE X (.Subscript o i pos) (QC td ty):=by
 intro pins s σ H Q I h;refine LU PySem.F.slot_dict_getitem.lookup hs (thn (ho pins s σ H _ I h) λu s1 ⟨x,H1,I1,rx,q1⟩=>thn (hi pins s1 σ H1 _ I1 q1) λiv s2 ⟨y,H2,I2,ry,a,v,ex,g,q2⟩=>?_)
 subst ex;obtain rfl:u=rf a:=rx;exact⟨CY I2 g,Ho hu I2 g ry λw' s3 I3 rw'=>⟨v,H2,I3,rw',q2⟩⟩
theorem uu (hu:X.A.units+1 < cLine)(hi:PE X i ty)(ho:PE X o td):PC X .NotIn i o (LV ty td):=by
 intro pins s σ H Q I h;refine thn (hi pins s σ H _ I h) λiv s1 ⟨y,H1,I1,ry,q1⟩=>thn (ho pins s1 σ H1 _ I1 q1) λu s2 ⟨x,H2,I2,rx,a,ov,ex,g,q2⟩=>?_
 subst ex;obtain rfl:u=rf a:=rx;exact LS hu I2 g ry λs3 I3=>⟨.bl (!ov.isSome),H2,I3,rfl,q2⟩
theorem pS (hu:X.A.units+1 < cLine)(ho:PE X o td)(hi:PE X i ty)(hv:PE X value tv)(hs:swapsWith value (some (.Subscript o i pos')) pos.line X.env=pure false) :
  PS X (.Assign [.Subscript o i pos'] value pos) (QD td ty tv):=by
 intro pins s σ H D I h;refine wpAny_Assign_Subscript (thn (hv pins s σ H _ I h) λr s1 ⟨v,H1,I1,rv,q1⟩=>thn (ho pins s1 σ H1 _ I1 q1) λu s2 ⟨x,H2,I2,rx,q2⟩=>thn (hi pins s2 σ H2 _ I2 q2) λiv s3 ⟨y,H3,I3,ry,a,H4,ex,g,q3⟩=>?_) hs
 subst ex;obtain rfl:u=rf a:=rx;exact Hq hu I3 g ry rv λs4 I4=>⟨σ,H4,I4,q3⟩
end
theorem JD {P:km}{w:World}{H:Hp}(h:Heap)(hb:UT < h.objs.size):cf P w H (h.push { cls:=.type "dict",data:=.dict #[] }) h.objs.size (.dK []) :=
 ⟨TM _,beq_eq_false_iff_ne.mpr (Tr (Tf hb)),[],.nil,Heap.DictOf.new h⟩
def Od:TE:=λ_ H Q=>∀p,H p=none->Q (.ref p) (upd H p (.dK []))
section
variable{X:Cx}{pos:Pos}
theorem sv:PE X (.Dict [] [] pos) Od:=λpins s σ H Q I h =>
 wpAny_Dict_empty ⟨.ref s.heap.objs.size,_,I.laid (a:=s.heap.objs.size) (o:=.dK []) (t':=s.toks) (λ_ _ q=>fu _ q) (kc _) (JD s.heap I.big),rfl,h _ (I.hok.fresh (kc _))⟩
end
structure M1 (X:Cx)(o:Expr)(m:Str)(apos:Pos)(e:Expr)(d9:Pos):Prop where
 base:attributeBase o m X.env (eval o X.env)=eval o X.env
 few:((backTo d9 (Td [e] X.env)).all (λx=>!x.1) && (UY d9 (Up [] X.env)).all (λx=>x.1.isSome)
  && decide (([e]:List Expr).length+([]:List Keyword).length+(if ([]:List Keyword).isEmpty then 0 else 1) < 30))=true
 line:(apos.endLine == d9.line)=true
 trees:backTo d9 (Td [e] X.env)=[(false,eval e X.env)]
structure M2 (X:Cx)(o:Expr)(m:Str)(apos:Pos)(e f:Expr)(d9:Pos):Prop where
 base:attributeBase o m X.env (eval o X.env)=eval o X.env
 few:((backTo d9 (Td [e,f] X.env)).all (λx=>!x.1) && (UY d9 (Up [] X.env)).all (λx=>x.1.isSome)
  && decide (([e,f]:List Expr).length+([]:List Keyword).length+(if ([]:List Keyword).isEmpty then 0 else 1) < 30))=true
 line:(apos.endLine == d9.line)=true
 trees:backTo d9 (Td [e,f] X.env)=[(false,eval e X.env),(false,eval f X.env)]
def IsD (H:Hp)(a:Addr):Prop:=(∃kvs,Rd H a (.dK kvs))\/∃kvs,Rd H a (.dT kvs)
theorem Oe {X:Cx}{pins:List (Addr×Obj)}{σ:St}{H:Hp}{s:Shared}{a:Addr}(I:Inv X pins σ H s)(d:IsD H a) :
  s.TypeIs (.ref a) "dict"/\(∀b,rf a=.ref b->∃ob,s.heap.get? b=some ob/\ob.dict=none)/\(a == UT)=false:=by
 rcases d with ⟨kvs,e⟩ | ⟨kvs,e⟩
 ·obtain⟨_,hd,vs,_,dd⟩:=Az I.hok e;refine⟨dd.typeIs,λb q=>?_,hd⟩
  cases q;obtain⟨ob,_,_,h1,h2,_⟩:=dd;exact⟨ob,h1,h2.2.1⟩
 ·obtain⟨_,hd,xs,_,dd⟩:=CW I.hok e;refine⟨dd.typeIs,λb q=>?_,hd⟩
  cases q;obtain⟨ob,_,_,h1,h2,_⟩:=dd;exact⟨ob,h1,h2.2.1⟩
def Of (td ty:TE):TE:=λσ H Q=>td σ H λx H1=>∃a,x=.ref a/\IsD H1 a/\ty σ H1 λy H2=>∃kvs k v,H2 a=some (.dK kvs)/\y=kV k/\ia kvs k=some v/\Q v (upd H2 a (.dK (iQ kvs k)))
section
variable{X:Cx}{o e f:Expr}{apos d9:Pos}{td ty tx:TE}
theorem JE (ho:PE X o td)(he:PE X e ty)(m:M1 X o "pop" apos e d9):PE X (.Call (.Attribute o "pop" apos) [e] [] d9) (Of td ty):=by
 intro pins s σ H Q I h;refine wpAny_Call_method m.base m.few m.line PySem.F.plainAttrs_dict PySem.F.slot_dict_pop PySem.F.type_dict_pop (thn (ho pins s σ H _ I h) λu s1 ⟨x,H1,I1,rx,a,ex,d,q1⟩=>?_)
 subst ex;obtain rfl:u=rf a:=rx;obtain⟨t1,t2,_⟩:=Oe I1 d;refine⟨t1,t2,?_⟩;rw[m.trees];refine Calls.callWith_builtin rfl (U6 (Calls.spliced_cons (thn (he pins s1 σ H1 _ I1 q1) λiv s2 ⟨y,H2,I2,ry,kvs,k,v,ea,ey,l,q2⟩=>Calls.spliced_nil ?_)))
 subst ey;exact Qz I2 ea ry l (.inl rfl) λw' s3 I3 rw'=>⟨v,_,I3,rw',q2⟩
end
section
variable{X:Cx}
theorem Hr:eO X (.builtin "len") (λxs H Q=>∃a kvs,xs=[V.ref a]/\H a=some (.dK kvs)/\Q (.int kvs.length) H):=by
 intro pins s σ H xs us Q I r h;obtain⟨a,kvs,rfl,ha,q⟩:=h;obtain⟨u,rfl,ru⟩:=vals1 r;cases ru;exact QA I (.inl ha) λt s' I'=>⟨.int kvs.length,H,I',⟨t,rfl⟩,q⟩
end
theorem Room.u1 {k:Nat}{A:Around}(r:Room k A):A.units+1 < cLine:=by have:=r.un;omega
theorem LW {X:Cx}{K:ba}{e:Expr}{f:Str}{pos:Pos}{ta:TE}(ek:X.K=K)(he:PE X e ta)(hb:attributeBase e f X.env (eval e X.env)=eval e X.env):PE X (.Attribute e f pos) (Qe K ta f):=by
 subst ek;exact aZ he hb
theorem ints_of:∀(l:List Value) (ns:List Int),l.length=ns.length->(∀(j:Nat) (v:Value),l[j]?=some v->∃n t,ns[j]?=some n/\v=Value.int n t)->IntsAre l ns
 |[],[],_,_=>.nil
 |[],_::_,h,_=>nomatch h
 |_::_,[],h,_=>nomatch h
 |v::l,n::ns,h,g=>by
  obtain⟨n',t,e1,e2⟩:=g 0 v rfl;have e3:n=n':=by simpa using e1
  subst e3;subst e2;exact .cons n t (ints_of l ns (by simpa using h) λj v hv=>g (j+1) v (by simpa using hv))
theorem CZ:∀ {vs:List Value} {ns:List Int},IntsAre vs ns->Vals (ns.map V.int) vs
 |_,_,.nil=>.nil
 |_,_,.cons n t h=>.cons ⟨t,rfl⟩ (CZ h)
theorem JF {κ:Type}:∀ {kvs:List (κ×V)} {vs:List (κ×Value)},KV kvs vs->∀(j:Nat) (q:κ×Value),vs[j]?=some q->(kvs.map (·.1))[j]?=some q.1
 |_,_,.nil,j,q,h=>by simp at h
 |_,_,.cons a r,0,q,h=>by
  rw[Uo]at h;cases h;rw[ko,Uo,a.1]
 |_,_,.cons a r,j+1,q,h=>by
  have:=JF r j q (by simpa using h)
  simpa using this
theorem F2 {P:km}{w:World}{n:Int}{v:Value}(h:(cz P w).is (kr n) v=true):∃t,v=Value.int n t:=by
 rcases cH (k:=kr n) (v:=v) (show xb (kr n) v=true from h) with ⟨i,t,e,rfl⟩ | ⟨x,t,e,rfl⟩
 ·cases e;exact⟨t,rfl⟩
 ·cases e
theorem By {X:Cx}(hh:X.A.handled=none):eO X (.builtin "sorted") (λxs H Q=>∃a kvs ns,xs=[V.ref a]/\H a=some (.dK kvs)/\kvs.map (·.1)=ns.map kr/\ns.length < 64 /\
  ∀l ns',Vn ns' ns->ns'.Pairwise (·<=·)->H l=none->Q (.ref l) (upd H l (.lst (ns'.map V.int)))):=by
 intro pins s σ H xs us Q I r h;obtain⟨a,kvs,ns,rfl,ha,hk,h64,q⟩:=h;obtain⟨u,rfl,ru⟩:=vals1 r;cases ru;obtain⟨z,hd,vs,rel,dd⟩:=CV I.hok ha;obtain⟨ep,hat⟩:=dd.dictAt;have hlen:vs.length=ns.length:=by
  have e1:=congrArg U5 hk;simp only[bo]at e1;rw[<-rel.length];exact e1
 refine Calls.call_function_entry kind_sorted plain_sorted entry_sorted (args_sorted1 _) ?_;unfold Builtin.«sorted»;refine de (m:=checkCount "sorted" 1 1 _) (kj ?_);refine de (PySem.W.kdu_collect (A:=X.A.in1) (PySem.W.kdl_dict (knd:=cz X.prog X.w) (kvs:=vs) (ep:=ep) hd) hh hat (by rw[<-rel.length];exact z) λh' tk acc kp GZ=>?_)
 have hsz:acc.toList.length=ns.length:=by rw[Array.length_toList];exact GZ.1.trans hlen
 have hI:IntsAre acc.toList ns:=ints_of _ _ hsz λj v hv=>by
  obtain⟨k,x,hx,hkv⟩:=GZ.2 j v (by rw[<-Array.getElem?_toList];exact hv)
  have e:=JF rel j _ hx;rw[hk,wt]at e;cases en:ns[j]? with
  |none=>rw[en]at e;cases e
  |some n =>
   rw[en]at e;have e':kr n=k:=by simpa using e
   subst e';obtain⟨t,rfl⟩:=F2 hkv;exact⟨n,t,rfl,rfl⟩
 refine de (wpAny_newList ?_ (by rw[hsz];rw[sizeLine_eq];omega))
 have hoL:(h'.push (seqObj "list" acc.toList.toArray 0)).get? h'.objs.size=some (seqObj "list" acc.toList.toArray 0):=tm _ rfl;refine de (TR (wpAny_call_entry slot_list_sort ⟨_,hoL,rfl⟩ entry_list_sort (list_sort_tree hoL hI (by omega) λout ns' a1 a2 a3=>⟨_,rfl,?_⟩) (args_list_sort _)))
 refine kj ⟨_,rfl,?_⟩;obtain⟨e,he⟩:=sortedHeap_at (out:=out) hoL;have I1:Inv X pins σ H { s with heap:=h',toks:=tk }:=I.un (Un.kept kp) (I.hok.kept kp)
 refine⟨.ref h'.objs.size,_,I1.laid (t':=tk) (λb o hb=>?_) (kc _) (show cf X.prog X.w _ _ _ (.lst (ns'.map V.int)) from ⟨?_,_,e,CZ a1,?_⟩),rfl,q _ ns' a2 a3 (I1.hok.fresh (kc _))⟩
 ·have hb':h'.get? b=some o:=hb;have hlt:=ku hb';rw[sortedHeap_old (Tf hlt) (by rw[size_push'];exact Nat.lt_succ_of_lt hlt)]
  exact fu _ hb'
 ·rw[bo,a2.length_eq,sizeLine_eq];omega
 ·rw[Array.toArray_toList];exact he
theorem Hs:T6 "sorted"=some (.builtin "sorted"):=by trivial
theorem PSX.ps {X:Cx}{st:Stmt}{t:TSX}(h:PSX X st t):PS X st (λD σ H=>t D (λ_=>E0) σ H):=λpins s σ H D I hw =>
 kq (h pins s σ H D (λ_=>E0) I hw) (λ_ _ z=>z) λ_ _ ⟨_,_,_,_,_,_,_,_,_,_,z⟩=>z.elim
theorem aL {P:Prop}(h:∀G:Prop,(P->G)->G):P:=h P id
theorem ixv {s:Option (Option V)}{p:Addr}{n:Int}{S:Addr->List V->Prop}{xs:List V}{z:V}{R:V->Prop}(h0:s=some (some (.ref p)))(h1:S p xs)(h2:atI xs n=some z)(h:R z):∃v,s=some (some v)/\∃q ys i w,v=.ref q/\V.int n=.int i/\S q ys/\atI ys i=some w/\R w :=
 ⟨_,h0,p,xs,n,z,rfl,rfl,h1,h2,h⟩
theorem dh {K:ba}{s:Option (Option V)}{H:Hp}{a C dx:Addr}{fs:List (Str×V)}{f:Str}{w:V}{R:V->Prop}(h0:s=some (some (.ref a)))(h1:H a=some (.ins C dx fs))(h2:Cls K C)(h3:cD K C f)(h4:fs.lookup f=some w)(h:R w) :
  ∃v,s=some (some v)/\∃a C dx fs w,v=.ref a/\H a=some (.ins C dx fs)/\Cls K C/\cD K C f/\fs.lookup f=some w/\R w:=⟨_,h0,a,C,dx,fs,w,rfl,h1,h2,h3,h4,h⟩
theorem mtv {s:Option (Option V)}{H:Hp}{a C dx:Addr}{fs:List (Str×V)}{m:Str}{R:V->Prop}(h0:s=some (some (.ref a)))(h1:H a=some (.ins C dx fs))(h2:fs.lookup m=none)(h:R (.ref a)) :
  ∃v,s=some (some v)/\∃a dx fs,v=.ref a/\H a=some (.ins C dx fs)/\fs.lookup m=none/\R v:=⟨_,h0,a,dx,fs,rfl,h1,h2,h⟩
theorem tsf {b:Bool}{P Q:Prop}(h:b=false)(q:Q):∃k,V.bl b=.bl k/\if k=true then P else Q:=⟨b,rfl,by rw[h];exact q⟩
theorem tst {b:Bool}{P Q:Prop}(h:b=true)(q:P):∃k,V.bl b=.bl k/\if k=true then P else Q:=⟨b,rfl,by rw[h];exact q⟩
def scB (N P:List Str)(sc:Scope):Bool:=(match sc.kind with | .function=>true | _=>false) && !sc.isCoroutine && !sc.isGenerator && decide N.Nodup && decide (N.take P.length=P) && decide (∀x∈P,sc.names.lookup x=some .local\/sc.names.lookup x=some .cell) && decide (∀y∈sc.names,y.2≠.free)
theorem fsc {N P:List Str}{sc:Scope}(h:scB N P sc=true):ax N P sc:=by
 unfold scB at h;simp only[TH,Bool.not_eq_true',decide_eq_true_eq]at h;obtain⟨⟨⟨⟨⟨⟨h1,h2⟩,h3⟩,h4⟩,h5⟩,h6⟩,h7⟩:=h;refine⟨?_,h2,h3,h4,h5,h6,h7⟩;split at h1
 ·assumption
 ·cases h1
end L2
namespace L2
open PySem
theorem Draws.shift {prog:km}{w:World}{A:Around}{it:Addr}{fp:List Addr}{n:Nat}{P:Nat->Value->Prop}{St:Nat->Heap->Prop}(k:Nat)(D:Draws prog w A it fp n P St) :
  Draws prog w A it fp (n+k) (λi v=>∃j,i=j+k/\P j v) (λi h=>∃j,i=j+k/\St j h) where
 live:=λ_ h ⟨j,_,st⟩=>D.live j h st
 frame:=λ_ h h' ⟨j,e,st⟩ q=>⟨j,e,D.frame j h h' st q⟩
 item:=λi s Q E hi ⟨j,e,st⟩ hQ=>by
  subst e;exact D.item j s Q E (by omega) st λx h' tk p st' sb=>hQ x h' tk ⟨j,rfl,p⟩ ⟨j+1,by omega,st'⟩ sb
 done:=λs Q E ⟨j,e,st⟩ hE=>by
  obtain rfl:j=n:=by omega
  exact D.done s Q E st hE
section
variable{prog:km}{w:World}{A:Around}{E:Value->Shared->Prop}{s:Shared}
abbrev kwS (v:Value):List (Str×Value):=[(ar "start",v)]
theorem meets_enumK (l:Addr)(its:Array Value)(n:Nat)(dc:Option Addr)(sl:Array (Option Value))(k:Int)(t:Tok)(hk:UQ k=true) :
  Meets (Builtin.«enumerate.__new__» ⟨[.type "enumerate",.ref l],kwS (.int k t)⟩) (λ_ R s=>s.heap.get? l=some { cls:=.type "list",dict:=dc,data:=.seq its n,slots:=sl } /\
   R (.ok (.ret (.ref (s.heap.objs.size+1)))) { s with heap:=(s.heap.push { cls:=.type "list_iterator",data:=.fields #[.ref l,.int 0 0] }).push { cls:=.type "enumerate",data:=.fields #[.none,.bool false,.ref s.heap.objs.size,rawInt k,.none,.none] } }) :=
 .of_wp λprog w A R s h=>by
  obtain⟨hp,g,d,tk,os⟩:=s;obtain⟨hl,h⟩:=h;have Sv:=sub_enumerate;have z:hp.objs.size+1=(hp.push { cls:=.type "list_iterator",data:=.fields #[.ref l,.int 0 0] }).objs.size:=(UK ..).symm;have hL:Heap.IsList (Shared.heap ⟨hp,g,d,tk,os⟩) l its:=⟨_,hl,rfl,n,rfl⟩;have nk:¬(!UQ k)=true:=by rw[hk];exact kg
  have h2:=h;dsimp only at h2;rw[z]at h2
  wp_walk using AutoSeq1.wpAny_loadPart' hl
  refine wpAny_stack_any λst=>kj ?_
  split
  ·rename_i c _ _ _ _ _;cases (c == Value.type "enumerate") <;> (wp_walk using AutoSeq1.wpAny_loadPart' hl,wpAny_pyIter_list hL;exact⟨_,rfl,h2⟩)
  ·wp_walk using AutoSeq1.wpAny_loadPart' hl,wpAny_pyIter_list hL
   exact⟨_,rfl,h2⟩
theorem argsK (o a v:Value):argsOk "object.__init__" ⟨[o,a],kwS v⟩:=by
 have e:=signature?_of (id:="object.__init__") (n:=("__init__".toList).reverse) (o:=("object".toList).reverse) (by kernel_rfl) F.owner_object
 show argsOk _ _;unfold argsOk;rw[e]
 kernel_rfl
theorem chkK (a v:Value):checkTypeCall "enumerate" ⟨[a],kwS v⟩=pure ():=by kernel_rfl
theorem chkN (a v:Value):checkBuiltinCall "enumerate.__new__" ⟨[.type "enumerate",a],kwS v⟩=pure ():=by kernel_rfl
theorem init_kw {T nw:String}{o a:Value}{kw:List (Str×Value)}(ft:TypeCalled T nw "object.__init__")(hne:(some nw != some "object.__new__")=true) :
  Meets (Builtin.«object.__init__» ⟨[o,a],kw⟩) (λ_ R s=>s.TypeIs o T/\R (.ok (.ret .none)) s):=by
 refine Meets.of_wp λprog w A R s ⟨hT,hq⟩=>?_
 have hl:=ft.init.lookup;have hm:=ft.made
 repeat (any_goals (first | assumption | wp_step))
 exact⟨_,rfl,hq⟩
theorem callType_kw {T nw:String}{Bn:Builtin}{a:Value}{kw:List (Str×Value)}{S:Spec}{Q:Value->Shared->Prop}(ft:TypeCalled T nw "object.__init__")(hne:(some nw != some "object.__new__")=true)
  (ct:checkTypeCall T ⟨[a],kw⟩=pure ()) (cn:checkBuiltinCall nw ⟨[.type T,a],kw⟩=pure ()) (ok:∀o,argsOk "object.__init__" ⟨[o,a],kw⟩) (en:entryFor table nw=some Bn) (g:Meets (Bn ⟨[.type T,a],kw⟩) S)
  (h:S A.in1 (wants (λo s1=>s1.TypeIs o T/\Q o s1) E) s):wpAny (model prog w) A (call (.type T) [a] kw) Q E s:=by
 obtain⟨c,tl,S9⟩:=ft.mro;have S6:=ft.made;have Sv:=ft.sub;refine UO (codeAny_of_tree ?_);refine kj ⟨Code.quiet_builtin _ (by trivial),codeAny_builtin F.entry_type_call ?_⟩
 rw[Around.under_plain (weight_type_call_type T [a] kw) (units_type_call_type T [a] kw)];have h1:=ft.notType;have h2:=ft.canCreate
 repeat (any_goals (first | assumption | wp_step))
 refine codeAny_mono (codeAny_call_builtin ft.plain en (wpAny_of_eq cn (g prog w A.in1 _ s h))) λr s1 hr=>?_
 cases r with
 |error e=>exact hr
 |ok fl=>cases fl with
  |ret o =>
   obtain⟨hT,hq⟩:=hr;have hli:=ft.init.lookup;have hbi:=ft.init.bind o
   repeat (any_goals (first | assumption | wp_step))
   refine codeAny_mono (codeAny_call_builtin ft.init.plain F.entry_object_init (ft.init.check _ _ _ _ _ _ _ _ hT (ok o) (init_kw ft hne prog w A.in1 (wants (λr s2=>r=.none/\Q o s2) E) s1 ⟨hT,rfl,hq⟩))) λr2 s2 hr2=>?_
   cases r2 with
   |error e=>exact hr2
   |ok f2=>cases f2 with
    |ret r =>
     obtain⟨rfl,hq⟩:=hr2
     repeat (any_goals (first | assumption | wp_step))
    |_=>exact hr2.elim
  |_=>exact hr.elim
theorem call_enumK {l:Addr}{its:Array Value}{k:Int}{t:Tok}{Q:Value->Shared->Prop}(hk:UQ k=true)(hL:s.heap.IsList l its)
  (h:∀h',IsEnum h' (s.heap.objs.size+1) s.heap.objs.size k .none->h'.IsListIter s.heap.objs.size l 0->(∀b o,s.heap.get? b=some o->h'.get? b=some o)->Q (.ref (s.heap.objs.size+1)) { s with heap:=h' }) :
  wpAny (model prog w) A (call (.type "enumerate") [.ref l] (kwS (.int k t))) Q E s:=by
 obtain⟨⟨c,dct,dt,sl⟩,hl,hc,n,hd⟩:=hL;obtain rfl:c=.type "list":=hc;obtain rfl:dt=.seq its n:=hd;refine callType_kw F.called_enumerate (by decide) (chkK _ _) (chkN _ _) (λo=>argsK o _ _) F.entry_enumerate_new (meets_enumK l its n dct sl k t hk) ⟨hl,?_⟩
 have z:(s.heap.push { cls:=.type "list_iterator",data:=.fields #[.ref l,.int 0 0] }).objs.size=s.heap.objs.size+1:=UK ..;have he:=tm (s.heap.push { cls:=.type "list_iterator",data:=.fields #[.ref l,.int 0 0] }) (o:={ cls:=.type "enumerate",data:=.fields #[.none,.bool false,.ref s.heap.objs.size,rawInt k,.none,.none] }) rfl;rw[z]at he;exact⟨⟨_,he,rfl⟩,h _ he ⟨_,fu _ (tm _ rfl),rfl,rfl⟩ λb o x=>fu _ (fu _ x)⟩
end
end L2
namespace L2
open PySem PySem.Spec PyProof.Rows
section
variable{prog:km}{w:World}{A:Around}{E:Value->Shared->Prop}{s:Shared}
theorem callWith_tyKw {M:Model}{env:Env}{pos:Pos}{T:String}{e:Expr}{kws:List Keyword}{Q:Value->Shared->Prop}
  (h:wpAny M A (spliced (backTo pos (Td [e] env))) (λvs s1=>wpAny M A (evalAll ((UY pos (Up kws env)).map (·.2))) (λks s2=>wpAny M A (call (.type T) vs (((UY pos (Up kws env)).filterMap (·.1)).zip ks)) Q E s2) E s1) E s)
  (he:backTo pos (Td [e] env)=[(false,eval e env)]:=by rfl) (ha:(UY pos (Up kws env)).all (·.1.isSome)=true:=by rfl) (hn:(UY pos (Up kws env)).any (·.1.isNone)=false:=by rfl) :
  wpAny M A (Ve pos (.type T) [] (backTo pos (Td [e] env)) (UY pos (Up kws env))) Q E s:=by
 unfold Ve;rw[he]at h ⊢;refine de (TR (kq (PyProof.Rows.evalArgs_kwB (Q:=λa s2=>wpAny M A (call (.type T) a.pos a.kw) Q E s2) ha h) (λa s1 h1=>de (T3 ?_)) λ_ _ x=>x))
 simp only[Vc,List.any_nil,Bool.or_false,hn];refine de (kj ?_);exact de (kq h1 (λr s2 hr=>de (TR (wpAny_point (kj hr)))) λ_ _ x=>x)
end
def Ite (K:ba)(a:Addr)(k:Nat):It :=
 ⟨λi H=>∃xs x,SqL K H a xs/\xs[i]?=some x,λi H y H'=>∃t x,y=.ref t/\H t=none/\H'=upd H t (.tup [.int ((i+k:Nat):Int),x])/\∀xs,SqL K H a xs->xs[i]?=some x,λi H=>∃xs,SqL K H a xs/\xs.length<=i⟩
def tnE (e it l:Addr)(k i:Nat)(h:Heap):Prop:=(∃old,IsEnum h e it ((i+k:Nat):Int) old)/\h.IsListIter it l i
theorem turn_enum {P:km}{w:World}{K:ba}{es:List Expr}{x1}{tp:Pos}(a e it:Addr)(k:Nat)(hei:e≠it):Turn P w K (.Tuple es x1 tp) (Ite K a k) [e,it] e (tnE e it a k) where
 mem:=by simp
 obj:=λi h st b hb=>by
  rcases List.mem_cons.mp hb with rfl | hb
  ·obtain⟨old,he⟩:=st.1;exact⟨_,he,λv z=>by cases z⟩
  ·rw[Te]at hb;subst hb;obtain⟨o,e,c,d⟩:=st.2;exact⟨o,e,λv z=>by rw[d]at z;cases z⟩
 keep:=λi h h' st q=>⟨let ⟨old,he⟩:=st.1;⟨old,q e (by simp) _ he⟩,st.2.at λo z=>q it (by simp) o z⟩
 item:=by
  intro X hP hw hK hc i pins s σ H E I hf st hg;subst hP hw hK;obtain⟨xs,x,hq,hx⟩:=hg;obtain⟨its,rv,p,hz⟩:=I.list hq;obtain⟨u,hu,ru⟩:=rv.get hx;obtain⟨⟨old,he⟩,hit⟩:=st;have hl:s.heap.IsList a its.toArray:=p.isList;have nli:a≠it:=λz=>by
   obtain⟨o1,g1,c1,_⟩:=hl;obtain⟨o2,g2,c2,_⟩:=hit;rw[z,g2]at g1;cases g1;rw[c2]at c1;exact absurd c1 (by decide)
  have nle:a≠e:=λz=>by
   obtain⟨o1,g1,c1,_⟩:=hl;rw[z,show s.heap.get? e=_ from he]at g1
   cases g1;exact absurd (show Value.type "enumerate"=Value.type "list" from c1) (by decide)
  have D:=Draws.shift k (Draws.list (prog:=X.prog) (w:=X.w) (A:=X.A.in1) (I.ok.hd hc) it a nli its.toArray);have hlt:i < its.length:=(List.getElem?_eq_some_iff.mp hu).1;refine wpAny_pyNext_enum_itemD (i:=i+k) D he ⟨i,rfl,hit,hl⟩ (by simp;omega) hei (by simp;exact⟨hei,Tr nle⟩) λv h1 tk hv ho hs1 hT hsz hk=>?_
  obtain⟨j,ej,hv⟩:=hv;obtain rfl:j=i:=by omega
  obtain rfl:v=u:=by
   have:its.toArray[j]?=some u:=by simpa using hu
   rw[this]at hv;exact(om hv).symm
  obtain⟨j2,ej2,st1,_⟩:=hs1;obtain rfl:j2=j+1:=by omega
  refine⟨_,rfl,wpAny_letOwnedTupleGo_enum ho λh2 he2 sb=>?_⟩
  have hel:e < s.heap.objs.size:=ku he;have hil:it < s.heap.objs.size:=by obtain⟨o,g,_⟩:=hit;exact ku g
  have nT:s.heap.objs.size≠e:=Nat.ne_of_gt hel;have kk:∀b o,b≠e->b≠it->s.heap.get? b=some o->h2.get? b=some o:=λb o h1 h2 g=>(sb.2 b h1).trans (hk b o h1 h2 g)
  have hT2:h2.get? s.heap.objs.size=some { cls:=.type "tuple",data:=.seq #[.int ((j+k:Nat):Int) tk,v] }:=(sb.2 _ nT).trans hT;have hf0:H s.heap.objs.size=none:=I.hok.fresh (kc _);have fe:=hf e (by simp)
  have fi:=hf it (by simp)
  have nb:∀b z,H b=some z->b≠s.heap.objs.size:=λb z q y=>by rw[y,hf0]at q;cases q
  have I2:Inv X pins σ (upd H s.heap.objs.size (.tup [.int ((j+k:Nat):Int),x])) { s with heap:=h2,toks:=tk+1 }:=by
   refine I.step (g':=s.gens) (d':=s.drawn) (ch:=[e,it]) (λb hb=>?_) (λb o _ _ hc g _=>kk b o (λz=>hc (by simp[z])) (λz=>hc (by simp[z])) g) (λb o _ _ hc g _=>⟨o.slots,kk b o (λz=>hc (by simp[z])) (λz=>hc (by simp[z])) g⟩)
    (λb o hc g n=>by rw[ao (Tf (ku g))];exact n) (λb o hc g=>⟨o,kk b o (λz=>hc (by simp[z])) (λz=>hc (by simp[z])) g⟩)
    (λb ys q=>by rw[ao (nb b _ q)];exact q) (λb o u q=>by rw[ao (nb b _ q)];exact q) (λb ps q=>⟨#[],by rw[ao (nb b _ q),q];simp⟩) (λm hm=>?_) (λb z q=>?_) I.bare
   ·rcases List.mem_cons.mp hb with rfl | hb
    ·exact⟨fe.2.2.2.1,fe.2.1,fe.2.2.2.2.1,fe.2.2.2.2.2⟩
    ·rw[Te]at hb;subst hb;exact⟨fi.2.2.2.1,fi.2.1,fi.2.2.2.2.1,fi.2.2.2.2.2⟩
   ·obtain⟨o,es,ep,ho,r⟩:=hm;exact⟨o,es,ep,kk _ o (Tr fe.2.1) (Tr fi.2.1) ho,r⟩
   ·by_cases hb:b=s.heap.objs.size
    ·subst hb;rw[ae]at q;cases q;exact⟨by show 2<=eg;decide,[.int ((j+k:Nat):Int) tk,v],.cons ⟨_,rfl⟩ (.cons ru .nil),⟨_,hT2,rfl,_,rfl⟩⟩
    ·rw[ao hb]at q;refine(I.hok b z q).wm (λc o hc g=>kk c o (λy=>?_) (λy=>?_) g) (λc r=>by rw[ao (nb c _ r)];exact r) λc ys r=>by rw[ao (nb c _ r)];exact r
     ·have n:=fe.1;rw[<-y]at n;rcases hc with rfl | hc
      ·rw[q]at n;cases n
      ·rw[hc]at n;cases n
     ·have n:=fi.1;rw[<-y]at n;rcases hc with rfl | hc
      ·rw[q]at n;cases n
      ·rw[hc]at n;cases n
  refine⟨.ref s.heap.objs.size,_,I2,rfl,⟨_,x,rfl,hf0,rfl,λys hy=>by rw[I.CF hy hq];exact hx⟩,⟨⟨v,?_⟩,?_⟩,λb hb=>?_⟩
  ·have:((j+1+k:Nat):Int)=((j+k:Nat):Int)+1:=by omega
   rw[this];exact he2
  ·exact st1.at λo z=>(sb.2 it (Tr hei)).trans z
  ·rcases List.mem_cons.mp hb with rfl | hb
   ·rw[ao (Tr nT)];exact fe.1
   ·rw[Te]at hb;subst hb;rw[ao (Tf hil)];exact fi.1
 done:=by
  intro X hP hw hK hc i pins s σ H E I hf st hg;subst hP hw hK;obtain⟨xs,hq,hx⟩:=hg;obtain⟨its,rv,p,hz⟩:=I.list hq;obtain⟨⟨old,he⟩,hit⟩:=st;obtain⟨f0,f1,f2,f3,f4,f5⟩:=hf it (by simp)
  have hl:=rv.length;have hn:its.toArray[i]?=none:=by simp;omega
  have D:Draws X.prog X.w X.A.in1 it [it,a] i (λ_ _=>False) (λj h=>j=i/\h.IsListIter it a i/\h.IsList a its.toArray) :=
   ⟨λ_ _ st=>let ⟨o,g,_⟩:=st.2.1;⟨o,g⟩,λ_ _ _ st q=>⟨st.1,st.2.1.at λo z=>q it (by simp) o z,st.2.2.at λo z=>q a (by simp) o z⟩,λj _ _ _ hj st _=>absurd st.1 (Tf hj),λ_ _ _ st hE=>wpAny_nextOf_list_end (I.ok.hd hc) st.2.1 st.2.2 hn hE⟩
  exact wpAny_pyNext_enum_endD D he ⟨rfl,hit,p.isList⟩ λh' eb=>⟨rfl,I.turned (t':=s.toks) (λb o hb e=>eb b o hb e) f0 f1 f3 f4 f5⟩
 self:=λ_ _ _ _ _ st h=>let ⟨_,he⟩:=st.1;wpAny_pyIter_enum he h
section
variable{X:Cx}
def iEnum (K:ba)(k:Nat)(ta:TA):TI:=λσ H R=>ta σ H λvs H1=>∃a,vs=[.ref a]/\(∃xs,SqL K H1 a xs)/\R (Ite K a k) H1
theorem pi_enum {l:Expr}{ta:TA}{es:List Expr}{x1}{tp p kp cp pos:Pos}{k:Nat}{j}(hk:UQ ((k:Nat):Int)=true)(hg:Gl X "enumerate")(hm:X.mg "enumerate"=none)(ha:PA X [l] ta)(hs:Td [l] X.env=[(false,eval l X.env)]:=by rfl) :
  PI X (.Tuple es x1 tp) (.Call (.Name "enumerate" p) [l] [⟨some (ar "start"),.Constant (.int ((k:Nat):Int)) j cp,kp⟩] pos) (iEnum X.K k ta):=by
 intro pins s σ H R I h;refine wpAny_Call_Name_kw (xj I hg hm PyProof.Rows.boot_enumerate ?_);refine callWith_tyKw (he:=by rw[hs];rfl) (thn (ha pos pins s σ H _ I h) λus s1 ⟨vs,H1,I1,r1,q1⟩=>?_)
 obtain⟨a,rfl,⟨xs,hq⟩,q⟩:=q1;cases r1 with
 |cons r rr =>
  cases rr;cases r;refine PyProof.Rows.kws_cons (wpAny_Constant_int ?_);refine PyProof.Rows.kws_nil ?_;obtain⟨its,rv,p,hz⟩:=I1.list hq;refine call_enumK (s:={ s1 with toks:=s1.toks+1 }) hk p.isList λh' he hit kk=>?_
  refine wpAny_pyIter_enum he ⟨s1.heap.objs.size+1,[s1.heap.objs.size+1,s1.heap.objs.size],tnE _ _ a k,_,H1,rfl,I1.kept (t':=s1.toks+1) kk,turn_enum a _ _ k (Nat.succ_ne_self _),⟨⟨.none,?_⟩,hit⟩,λb hb=>?_,q⟩
  ·rw[Nat.zero_add];exact he
  ·have hb':s1.heap.objs.size<=b:=by
    rcases List.mem_cons.mp hb with rfl | hb
    ·exact Ut _
    ·rw[List.mem_singleton.mp hb];exact kc _
   have I2:Inv X pins σ H1 { s1 with heap:=h',toks:=s1.toks+1 }:=I1.kept kk
   have z:=I1.rP hb' (I1.hok.fresh hb');exact z
end
theorem for_enum {K:ba}{a:Addr}{k:Nat}{xs:List V}{g:TG}{tb:TS}{D:Ends}{σ:St}{H:Hp}(Pv:Nat->St->Hp->Prop)(h0:Pv 0 σ H)(hl:∀i σ H,i<=xs.length->Pv i σ H->SqL K H a xs)
  (hs:∀i x σ H t,xs[i]?=some x->Pv i σ H->H t=none->g (.ref t) σ (upd H t (.tup [.int ((i+k:Nat):Int),x])) λσ2 H2=>tb { D with nx:=Pv (i+1),ct:=Pv (i+1),bk:=D.nx } σ2 H2) (hd:∀σ H,Pv xs.length σ H->D.nx σ H) :
  ∃W:Nat->Nat->St->Hp->Prop,(∃m,W 0 m σ H)/\∀i m σ H,W i m σ H ->
   ((Ite K a k).stop i H/\D.nx σ H)\/((Ite K a k).go i H/\∃N:St->Hp->Prop,(∀σ' H',N σ' H'->∃m',m' < m/\W (i+1) m' σ' H')/\∀x H',(Ite K a k).yld i H x H'->g x σ H' λσ2 H2=>tb { D with nx:=N,ct:=N,bk:=D.nx } σ2 H2):=by
 refine⟨λi m σ H=>m=xs.length - i/\i<=xs.length/\Pv i σ H,⟨xs.length,by simp,TM _,h0⟩,?_⟩
 rintro i m σ H ⟨rfl,hi,p⟩;have q:=hl i σ H hi p
 by_cases hlt:i < xs.length
 ·refine .inr ⟨⟨xs,xs[i],q,by simp[hlt]⟩,Pv (i+1),λσ' H' p'=>⟨xs.length - (i+1),by omega,rfl,hlt,p'⟩,λx H' y=>?_⟩
  obtain⟨t,x,rfl,ht,rfl,y⟩:=y;exact hs i x σ H t (y xs q) p ht
 ·have e:i=xs.length:=by omega
  subst e;exact .inl ⟨⟨xs,q,kc _⟩,hd σ H p⟩
abbrev clr (A:Around):Around:={ A with handled:=none }
structure FnOkH (P:km)(w:World)(K:ba)(mg:Str->Option Value)(base:Heap)(k:Nat)(f:Addr)(fd:gp)(ps:List Str)(sp:Sp):Prop where
 len:∀vs H Q E,sp vs H Q E->vs.length=ps.length
 run:∀(A:Around) (outer:List Env) (s:Shared) (H:Hp) (args:Args) (us:List Value) (vs:List V) (Q:VK) (E:XK),Room k (clr A)->rT P w K mg base A outer s H->BindsTo s fd args (ps.zip us)->Vals vs us->sp vs H Q E ->
  codeAny (model P w) A (.call (.ref f) args) (CR CX0 outer P w H s Q E) s
abbrev cxH (P:km)(w:World)(K:ba)(mg:Str->Option Value)(base:Heap)(N:List Str)(qual:Str)(scope:Scope)(f:Addr)(cd:Value)(A:Around)(outer:List Env)(s:Shared)(H:Hp)(E:XK):Cx:={ br CX0 P w K mg base N qual scope f cd A outer s H E with calm:=false }
section
variable{P:km}{w:World}{K:ba}{mg:Str->Option Value}{base:Heap}
theorem inv_starh {N ps:List Str}{qual:Str}{scope:Scope}{f:Addr}{cd:Value}{A:Around}{outer:List Env}{s s1:Shared}{H:Hp}{E:XK}{us:List Value}{vs:List V}
  (S:ax N ps scope) (e0:rT P w K mg base A outer s H) (hl:vs.length=ps.length) (r:Vals vs us)
  (x:InCallC s s.heap.objs.size (bindL (envOfC qual scope s.heap.objs.size f cd).kindOf (ps.zip us) λ_=>none) (cellsFrom (s.heap.objs.size+1) scope.names []) (bindC (envOfC qual scope s.heap.objs.size f cd).kindOf (ps.zip us) λ_=>none) s1) :
  Inv (cxH P w K mg base N qual scope f cd A outer s H E) [] (start N vs) H s1:=by
 have I:=Al (CX:=CX0) (A:=clr A) (E:=E) S rfl (⟨e0.frames,e0.mod,e0.bs,e0.bsz,e0.ly,e0.frf,e0.hok,e0.bare⟩:rT P w K mg base (clr A) outer s H) hl r x;exact⟨⟨I.ok.mod,I.ok.kind,I.ok.glob,I.ok.blt,I.ok.above,I.ok.inj,I.ok.has,I.ok.cab,λz=>absurd (show false=true from z) kg,Around.frames_deeper e0.frames,I.ok.stk,I.ok.exf,I.ok.bs,I.ok.bsz,I.ok.wq,I.ok.wu,I.ok.ly,I.ok.frf⟩,I.os,I.bare,I.base,I.loc,I.cell,I.free,I.fS,I.pin,I.hok,I.len⟩
theorem Fun.okH {x qual:Str}{st:Stmt}{f:Addr}{fd:gp}{N ps:List Str}{k:Nat}{sp:Sp}(F:Fun K x qual st f fd)(S:ax N ps (ah st))(len:∀vs H Q E,sp vs H Q E->vs.length=ps.length)
  (rV:∀(cdv:Value) (A:Around) (outer:List Env) (s:Shared) (H:Hp) (vs:List V) (Q:VK) (E:XK),Room k ((clr A).deeper (envOfC qual (ah st) s.heap.objs.size f cdv))->sp vs H Q E ->
   ∃t,PSs (cxH P w K mg base N qual (ah st) f cdv A outer s H E).nox (jY st) t/\t { nx:=λ_ H'=>Q .non H',rt:=Q } (start N vs) H):FnOkH P w K mg base (k+1) f fd ps sp:=by
 obtain⟨oc,od,kV,doc,pm,an,cdv,ct,osl,rfl,lk,hcd⟩:=F.ex;refine⟨len,λA outer s H args us vs Q E hr e0 hb r hsp=>?_⟩
 have hl:=len _ _ _ _ hsp;have KX:K.In s.heap:=e0.mod.kin.keeps λb o e=>(e0.bs b o e).1
 have lim:s.heap.NoLimit:=e0.mod.nolimit.keeps λb o e=>(e0.bs b o e).1
 have IL:∀y∈ps.zip us,(ah st).names.lookup y.1=some .local\/((ah st).names.lookup y.1=some .cell/\((cellsFrom (s.heap.objs.size+1) (ah st).names []).lookup y.1).isSome=true):=λ⟨n,v⟩ hy=>by
  rcases S.par n (List.of_mem_zip hy).1 with q | q
  ·exact .inl q
  ·exact .inr ⟨q,PySem.W.cellsFrom_some _ _ _ (.inl q)⟩
 refine codeAny_call_function (show A.depth < recursionLimit from hr.depth) (KX _ _ lk) rfl S.co S.gen rfl (PySem.W.codeRec_of KX hcd) (hb _ _ _ _ ?_)
 refine wpAny_newFunctionEnv_cells S.kind IL λenv he s1 x=>?_
 subst he;refine⟨lim.keeps x.toInCall.keep,codeAny_func ?_⟩;obtain⟨t,ht,hq⟩:=rV cdv A outer s H vs Q E (hr.deeper _) hsp;have I:Inv (cxH P w K mg base N qual (ah st) f cdv A outer s H E) [] (start N vs) H s1:=inv_starh S e0 hl r x;refine kq (ht [] s1 (start N vs) H _ (I.iB _) hq) (λfl s' hs=>?_) λe s' hs=>Tq hs
 have hs:=hs.cB;cases fl with
 |ret u =>
  obtain⟨v,σ',H',J,rv,q⟩:=hs;exact⟨v,H',J.os,J.bare,J.base,J.hok,rv,q⟩
 |next =>
  obtain⟨σ',H',J,q⟩:=hs;exact⟨V.non,H',J.os,J.bare,J.base,J.hok,rfl,q⟩
 |brk =>
  obtain⟨_,_,_,q⟩:=hs;exact Tq q
 |cont =>
  obtain⟨_,_,_,q⟩:=hs;exact Tq q
end
section
variable{prog:km}{w:World}{A:Around}{E:Value->Shared->Prop}
variable{nm q:Str}{C N:Addr}{bs bm:List Value}{hdct:Bool}{sn:List Str}{sub:List Value}{ab:Bool}{col:Option Bool}{dd:Option Addr}{k0 k1 k2 k3 k5:Option Value}{nid:String}
theorem entry_unchain:entryFor table "proto.unchain"=some Builtin.«proto.unchain»:=entryFor_of_tree (by kernel_rfl)
theorem raise_objF {env:Env}{s:Shared}{x c:Sem Value}{Q:Flow->Shared->Prop}{ea:Addr}(xt:bm.contains (.type "BaseException")=true)(hh:A.handled=some (.ref ea))
  (hc:∀(s:Shared) (R:Value->Shared->Prop),R .none s->wpAny (model prog w) A c R E s)
  (hx:wpAny (model prog w) A x (λv s₁=>∃(e:Addr) (xd:Option Addr) (a0:Value),v=.ref e/\e≠ea/\s₁.heap.get? C=some (Ud nm q C N bs bm hdct sn sub ab col dd k0 k1 k2 k3 k5 nid) /\
   s₁.heap.get? e=some ⟨.ref C,xd,.fields #[a0,.none,.none,.none,.bool false,.none],#[]⟩/\(∃(cl:Value) (d2:Option Addr) (vs:Array Value) (sl:Array (Option Value)),s₁.heap.get? ea=some ⟨cl,d2,.fields vs,sl⟩/\vs[2]?=some .none) /\
   ∀h',(∀b o,b≠e->s₁.heap.get? b=some o->h'.get? b=some o)->h'.get? e=some ⟨.ref C,xd,.fields #[a0,.none,.ref ea,.none,.bool true,.none],#[]⟩->E (.ref e) { s₁ with heap:=h' }) E s) :
  wpAny (model prog w) A (raiseStmt env (some x) (some c)) Q E s:=by
 have top:(rf C::bm).contains (.type "BaseException")=true:=by rw[List.contains_cons,xt,Bool.or_true]
 unfold raiseStmt;refine de (kq hx (λv s₁ h₁=>?_) λ_ _ z=>z)
 obtain⟨e,xd,a0,rfl,ne,kC,kE,⟨cl,d2,vs,sl,kH,h2⟩,fin⟩:=h₁;obtain⟨hp,g',d',tk,os'⟩:=s₁;dsimp only;refine de (TR (hc _ _ ?_))
 repeat (first | with_reducible refine wpAny_loadPart_at kE ?_ | with_reducible refine wpAny_loadPart_at kC ?_ | (with_reducible refine wpAny_isSubtype_exc kC ?_;rw[top]) | wp_step)
 have nC:C≠e:=λz=>by
  subst z;have:some (Ud nm q C N bs bm hdct sn sub ab col dd k0 k1 k2 k3 k5 nid)=some _:=kC.symm.trans kE;cases this
 generalize hg:(hp.update e (Uh λx=>x.setIfInBounds 3 Us)).update e (Uh λx=>x.setIfInBounds 4 (UH true))=hq
 have oth:∀b,b≠e->hq.get? b=hp.get? b:=λb hb=>by rw[<-hg,TU _ _ (Tr hb),TU _ _ (Tr hb)]
 have kE1:(hp.update e (Uh λx=>x.setIfInBounds 3 Us)).get? e=some ⟨.ref C,xd,.fields #[a0,.none,.none,.none,.bool false,.none],#[]⟩:=(T7 _ kE rfl).trans rfl
 have kE2:hq.get? e=some ⟨.ref C,xd,.fields #[a0,.none,.none,.none,.bool true,.none],#[]⟩:=by rw[<-hg];exact(T7 _ kE1 rfl).trans rfl
 have kC2:(⟨hq,g',d',tk,os'⟩:Shared).heap.get? C=_:=(oth C nC).trans kC;refine wpAny_loadPart_at kC2 ?_;refine kj ?_;rw[if_pos (show ((Ud nm q C N bs bm hdct sn sub ab col dd k0 k1 k2 k3 k5 nid).cls == Value.type "type")=true from by simp[Ud])]
 refine kj ?_;unfold setFlight;refine de (de (UE kE2 rfl (x:=.none) rfl ?_));rw[if_neg (by decide)]
 refine kj ?_;unfold raiseNew;refine de (wpAny_handled ?_);rw[hh];dsimp only;rw[if_pos (show (rf ea != rf e)=true by simp;exactλz=>ne z.symm)]
 have kH2:(⟨hq,g',d',tk,os'⟩:Shared).heap.get? ea=some ⟨cl,d2,.fields vs,sl⟩:=(oth ea (Tr ne)).trans kH;refine de (TR (wpAny_runValue (codeAny_builtin entry_unchain ?_)));unfold Builtin.«proto.unchain»;dsimp only;refine de (UE kH2 rfl h2 ?_);rw[if_pos (by decide)]
 repeat (first | wp_step)
 exact fin _ (λb o hb g=>(TU _ _ (Tr hb)).trans ((oth b hb).trans g)) ((T7 _ kE2 rfl).trans rfl)
end
section
variable{X:Cx}{pins:List (Addr×Obj)}{σ:St}{H:Hp}{s:Shared}{b:Bool}
theorem xc_in (I:Inv X pins σ H s)(b:Bool):Inv { X with xc:=b } pins σ H s :=
 ⟨⟨I.ok.mod,I.ok.kind,I.ok.glob,I.ok.blt,I.ok.above,I.ok.inj,I.ok.has,I.ok.cab,I.ok.hd,I.ok.frames,I.ok.stk,I.ok.exf,I.ok.bs,I.ok.bsz,I.ok.wq,I.ok.wu,I.ok.ly,I.ok.frf⟩,I.os,I.bare,I.base,I.loc,I.cell,I.free,I.fS,I.pin,I.hok,I.len⟩
theorem xc_out (I:Inv { X with xc:=b } pins σ H s):Inv X pins σ H s :=
 ⟨⟨I.ok.mod,I.ok.kind,I.ok.glob,I.ok.blt,I.ok.above,I.ok.inj,I.ok.has,I.ok.cab,I.ok.hd,I.ok.frames,I.ok.stk,I.ok.exf,I.ok.bs,I.ok.bsz,I.ok.wq,I.ok.wu,I.ok.ly,I.ok.frf⟩,I.os,I.bare,I.base,I.loc,I.cell,I.free,I.fS,I.pin,I.hok,I.len⟩
theorem sp_out {D:Ends}{f:Flow}(h:SP { X with xc:=b } pins D f s):SP X pins D f s:=by
 cases f with
 |next=>obtain⟨σ',H',I',q⟩:=h;exact⟨σ',H',xc_out I',q⟩
 |brk=>obtain⟨σ',H',I',q⟩:=h;exact⟨σ',H',xc_out I',q⟩
 |cont=>obtain⟨σ',H',I',q⟩:=h;exact⟨σ',H',xc_out I',q⟩
 |ret u=>obtain⟨v,σ',H',I',r,q⟩:=h;exact⟨v,σ',H',xc_out I',r,q⟩
theorem XAt.xc {h:Heap}{e:Addr}{cls:Value}{xd:Option Addr}{m:Option Value}(x:XAt { X with xc:=true } pins H h e cls xd m):XAt X pins H h e cls xd m:=by
 obtain⟨ok,sl,vs,he,hz,hm⟩:=x;refine⟨ok,sl,vs,he,⟨hz.sz,λ_=>hz.cx rfl⟩,?_⟩
 cases m with
 |none=>exact hm
 |some m=>exact hm
theorem came_x {E:SXK}{v:Value}{hv:Option Value}(F:Fr1 X)(fr:X.A.frames=some X.stack)(h:XPS X pins E v s):notedBy (model X.prog X.w) (X.A.mark hv) X.env (λx s2=>cameBackBy (model X.prog X.w) X.A X.env (XPS X pins E) x s2) v s:=by
 obtain⟨σ',ea,cls,xd,m,H',rfl,I,hx,hm,q⟩:=h;refine qV F fr I hx hm λs1 I1 x1=>?_
 unfold cameBackBy;obtain⟨ok,sl,vs,he,hz,T,oT,ts,h1,r⟩:=id x1;refine de (UE he rfl h1 ?_);rw[if_neg (show ¬((rf T == Us)=true) by simp)]
 have step:wpAny (model X.prog X.w) X.A (setFlight (.ref ea) X.env.frame) (λ_ s''=>XPS X pins E (.ref ea) s'') (XPS X pins E) s1 :=
  eh I1 x1 λs2 I2 x2=>⟨σ',ea,cls,xd,_,H',rfl,I2,x2,by rw[F.fr];exact .inr (.inr ⟨_,rfl⟩),q⟩
 first
  |exact step
  |exact de (kj step)
end
def PHX2 (X:Cx)(hs:List ExceptHandler)(t:THX):Prop :=
 ∀(pins:List (Addr×Obj)) (s:Shared) (σ:St) (H:Hp) (D:Ends) (E:SXK) (ea:Addr) (cls:Value) (xd:Option Addr),Inv X pins σ H s->XAt { X with xc:=true } pins H s.heap ea cls xd (some .none)->t D E σ cls xd H ->
  wpAny (model X.prog X.w) X.A (handleBy (.ref ea) X.env hs) (SP X pins D) (XPS X pins E) s
def hFrom (K:ba)(C D:Addr)(name:Str)(ta:TA)(tr:THX):THX:=λDn E σ cls xd H=>∃b,T4 K cls (.ref C)=some b/\if b=true then ta σ H (λvs H1=>∃v,vs=[v]/\(∃z,zM v z/\z.length<=10000)/\∀d,H1 d=none->E σ (.ref D) (some d) (upd H1 d (.xd [(name,v)]))) else tr Dn E σ cls xd H
section
variable{X:Cx}{x y name:Str}{C D f:Addr}{np yp cp kp rp pos:Pos}{j}{e₀:Expr}{rest:List ExceptHandler}{ta:TA}{tr:THX}{fd:gp}{ps:List Str}{k:Nat}
theorem phx2_nil (F:Fr1 X):PHX2 X [] (λ_ E σ cls xd H=>E σ cls xd H):=λpins s σ H D E ea cls xd I hx h=>Bq F pins s σ H D E ea cls xd I hx.xc h
theorem psx_tryB {body:List Stmt}{h₀:ExceptHandler}{hs:List ExceptHandler}{tb:TSX}{th:THX}(F:Fr1 X)(hb:xF { X with xc:=true } body tb)(hh:PHX2 X (h₀::hs) th) :
  PSX X (.Try body (h₀::hs) [] [] pos) (FU tb th):=by
 intro pins s σ H D E I h;unfold FU at h;refine wpAny_Try_except (kq (hb pins s σ H D _ (xc_in I true) h) (λf s1 q=>?_) (λv s1 q=>?_))
 ·have q:=sp_out q;cases f with
  |next=>exact wpAny_execs_nil q
  |ret v=>exact q
  |brk=>exact q
  |cont=>exact q
 ·obtain⟨σ',ea,cls,xd,m,H',rfl,I1,hx,hm,q⟩:=q;exact qV (X:={ X with xc:=true }) ⟨F.stk,F.fr⟩ I1.ok.frames I1 hx hm λs2 I2 x2=>eh I2 x2 λs3 I3 x3=>hh pins s3 σ' H' D E ea cls xd (xc_out I3) x3 q
theorem phx_from (nx:X.xc=false)(F1:Fr1 X)(xk:ur X.K D f name)(F:FnOkH X.prog X.w X.K X.mg X.base k f fd ps (xH D name))(hr:Room (k+1) X.A)(hb:Binds X.K fd ps [])(hg:Gl X x)(hm:X.mg x=some (.ref C))(hg2:Gl X y)(hm2:X.mg y=some (.ref D))
  (ha:∀e,PA (hcx X e).nox [e₀] ta) (M7:PHX2 X rest tr) (hd:(x == ("__debug__":Str))=false:=by decide) (hd2:(y == ("__debug__":Str))=false:=by decide) (hst:Td [e₀] X.env=[(false,eval e₀ X.env)]:=by rfl) :
  PHX2 X (.ExceptHandler (some (.Name x np)) none [.Raise (some (.Call (.Name y yp) [e₀] [] cp)) (some (.Constant .none j kp)) rp] pos::rest) (hFrom X.K C D name ta tr):=by
 intro pins s σ H D' E ea cls xd I hx h;unfold hFrom at h;obtain⟨b,eb,h⟩:=h;refine wpAny_handleBy_cons (codeAny_handlers_test (Jn I hx.xc hg hm eb ?_ hd)) (by intro q;cases q)
 cases b with
 |false=>exact M7 pins s σ H D' E ea cls xd I hx h
 |true =>
  refine codeAny_handlers_suite (eh (X:={ X with xc:=true }) (xc_in I true) hx λs1 I1 x1=>?_)
  refine wpAny_execs_cons (kq (Q:=λ_ _=>False) (E:=XPS X pins E) ?_ (λ_ _ z=>z.elim) λv s' z=>came_x F1 I.ok.frames z)
  obtain⟨ok,sl,vs,he,hz,hmk⟩:=x1;have I1:=xc_out I1;have Ip:Inv X (pins++[(ea,⟨cls,xd,.fields vs,sl⟩)]) σ H s1:=I1.rO λp hp=>by
   rcases List.mem_append.mp hp with z | z
   ·exact I1.pin p (gn _ z)
   ·rw[Te]at z;subst z;exact⟨he,ok.1,ok.2.1,ok.2.2.1,λv z=>by cases z⟩
  obtain⟨nm,qn,N,bs,bm,hdct,sn,sub,ab,col,dd,k0,k1,k2,k3,k5,l,T,hdd,hi⟩:=xk.ex;have hbx:bm.contains (.type "BaseException")=true:=(T.tail I.kIn).hasType (b:=true) (by trivial)
  rw[arm_exec_Raise];refine de (T3 ?_);refine raise_objF (ea:=ea) (C:=D) (nm:=nm) (q:=qn) (N:=N) (bs:=bs) (bm:=bm) (hdct:=hdct) (sn:=sn) (sub:=sub) (ab:=ab) (col:=col) (dd:=dd) (k0:=k0) (k1:=k1) (k2:=k2) (k3:=k3) (k5:=k5) (nid:="ValueError.__new__") hbx rfl (λs R hR=>de (Constant_none (de (T3 (kj hR))))) ?_
  have Ih:Inv (hcx X ea) (pins++[(ea,⟨cls,xd,.fields vs,sl⟩)]) σ H s1:=Bo Ip ea;refine de (kq (Q:=λv s₁=>∃(e:Addr) (xd2:Option Addr) (a0:Value),v=.ref e/\e≠ea/\s₁.heap.get? D=some (Ud nm qn D N bs bm hdct sn sub ab col dd k0 k1 k2 k3 k5 "ValueError.__new__") /\
   s₁.heap.get? e=some ⟨.ref D,xd2,.fields #[a0,.none,.none,.none,.bool false,.none],#[]⟩/\(∃(cl:Value) (d2:Option Addr) (vs:Array Value) (sl:Array (Option Value)),s₁.heap.get? ea=some ⟨cl,d2,.fields vs,sl⟩/\vs[2]?=some .none) /\
   ∀h',(∀b o,b≠e->s₁.heap.get? b=some o->h'.get? b=some o)->h'.get? e=some ⟨.ref D,xd2,.fields #[a0,.none,.ref ea,.none,.bool true,.none],#[]⟩->XPS X pins E (.ref e) { s₁ with heap:=h' }) (E:=XPS X pins E) ?_ (λv s₂ z=>de (T3 (kj z))) λ_ _ z=>z)
  refine wpAny_Call_Name_kw (fU Ih hg2 hm2 ?_ hd2);unfold Ve;rw[show (hcx X ea).env=X.env from rfl,hst]
  refine de (TR (U6 ?_));have ha':=ha ea cp _ s1 σ H _ (Ih.iB _) h;rw[show (hcx X ea).nox.env=X.env from rfl,hst]at ha'
  refine kq ha' (λus s₂ ⟨ws,H1,I2,r,v,hvs,hv,q1⟩=>de (T3 ?_)) λ_ _ z=>Tq z
  subst hvs;obtain⟨u,rfl,rv⟩:=Vals.one r;have I2':=I2.cB;have kC:=I2'.kIn _ _ l;have pl:(backTo cp [(false,eval e₀ X.env)]).any (·.1)=false:=rfl
  have Sw:ps.length=2:=(F.len [V.ref 0,v] (upd H 0 (xi 0 D none)) (λ_ _=>True) E0 ⟨0,v,rfl,ae,hv,λ_ _=>trivial⟩).symm
  have z:=hr.make D [u] [];have fin:=xI (X:=hcx X ea) (E:=XPS X pins E) (Q:=λv s₁=>∃(e:Addr) (xd2:Option Addr) (a0:Value),v=.ref e/\e≠ea/\s₁.heap.get? D=some (Ud nm qn D N bs bm hdct sn sub ab col dd k0 k1 k2 k3 k5 "ValueError.__new__") /\
   s₁.heap.get? e=some ⟨.ref D,xd2,.fields #[a0,.none,.none,.none,.bool false,.none],#[]⟩/\(∃(cl:Value) (d2:Option Addr) (vs:Array Value) (sl:Array (Option Value)),s₁.heap.get? ea=some ⟨cl,d2,.fields vs,sl⟩/\vs[2]?=some .none) /\
   ∀h',(∀b o,b≠e->s₁.heap.get? b=some o->h'.get? b=some o)->h'.get? e=some ⟨.ref D,xd2,.fields #[a0,.none,.ref ea,.none,.bool true,.none],#[]⟩->XPS X pins E (.ref e) { s₁ with heap:=h' }) xk Sw (λs H us vs Q e0 b r sp=>F.run _ _ s H ⟨us,[]⟩ us vs Q E0 ⟨rfl,z.dp,z.un,z.gd⟩ e0 b r sp) hb I2' rv hv λe d a0 s' hd1 I3 fp ke=>by
    have hea:=(I3.pin (ea,⟨cls,xd,.fields vs,sl⟩) (gn _ (gn _ (List.mem_singleton.mpr rfl)))).1;have ne:e≠ea:=λy=>fp.2.2.2.2.2 (ea,⟨cls,xd,.fields vs,sl⟩) (gn _ (gn _ (List.mem_singleton.mpr rfl))) y.symm
    refine⟨e,some d,a0,rfl,ne,I3.kIn _ _ l,ke,⟨cls,xd,vs,sl,hea,hz.cx rfl⟩,λh' kk ke'=>?_⟩
    have I4:Inv X pins σ (upd H1 d (.xd [(name,v)])) s':=(i5 Ip.ok I3).cY;have fp':dG X pins (upd H1 d (.xd [(name,v)])) e:=dG.drop (X:=X) (pl:=[(ea,⟨cls,xd,.fields vs,sl⟩)]) fp;have I5:Inv X pins σ (upd H1 d (.xd [(name,v)])) { s' with heap:=h' }:=I4.turned (t':=s'.toks) kk fp'.1 fp'.2.1 fp'.2.2.2.1 fp'.2.2.2.2.1 fp'.2.2.2.2.2
    exact⟨σ,e,.ref D,some d,none,_,rfl,I5,⟨fp',_,_,ke',⟨by show 1 < 6;decide,λc=>absurd (nx.symm.trans c) kg⟩,rfl⟩,.inl rfl,q1 d hd1⟩
  obtain⟨hp,g',d',tk,os'⟩:=s₂;simp only[pl];refine de (wpAny_keeperOf_exc kC ?_);exact de (kq fin (λv s2 z=>de (TR (wpAny_point (kj z)))) λ_ _ z=>z)
end
section
variable{P:km}{w:World}{K:ba}{mg:Str->Option Value}{base:Heap}
abbrev cxB (P:km)(w:World)(K:ba)(mg:Str->Option Value)(base:Heap)(N:List Str)(qual:Str)(scope:Scope)(f:Addr)(cd:Value)(A:Around)(outer:List Env)(s:Shared)(H:Hp)(E:XK):Cx:={ br (CXB false P w) P w K mg base N qual scope f cd A outer s H E with xc:=false }
theorem leave_xB {N:List Str}{qual:Str}{scope:Scope}{f:Addr}{cd:Value}{A:Around}{outer:List Env}{s s':Shared}{H:Hp}{E:XK}{e:Value}{pins:List (Addr×Obj)}
  (h:XPS (cxB P w K mg base N qual scope f cd A outer s H E) pins (λ_=>E) e s'):(br (CXB false P w) P w K mg base N qual scope f cd A outer s H E).xe e s':=by
 obtain⟨σ',ea,cls,xd,m,H',rfl,I,hx,hm,q⟩:=h;have F1:Fr1 (cxB P w K mg base N qual scope f cd A outer s H E):=⟨rfl,rfl⟩;show wpAny _ _ (leaving (cxB P w K mg base N qual scope f cd A outer s H E).env (.ref ea)) _ _ s';unfold leaving;refine de (qV F1 I.ok.frames I hx hm λs1 I1 x1=>eh I1 x1 λs2 I2 x2=>?_)
 obtain⟨ok,sl,vs,he,hz,T,oT,ts,h1,nT,fT,hT,hd,h3⟩:=x2;have old:∀ {b:Addr},dG (cxB P w K mg base N qual scope f cd A outer s H E) pins H' b->s.heap.objs.size<=b:=λ{b} z=>by
  rcases z.2.2.2.1 with y | y
  ·exact absurd (show b∈([]:List Addr) from y) (by simp)
  ·exact y
 exact⟨ea,T,cls,xd,H',rfl,I2.os,I2.bare,I2.base,I2.hok,⟨ok.1,old ok⟩,⟨fT.1,old fT⟩,nT,⟨sl,vs,oT,ts,he,⟨hz.sz,λz=>nomatch z⟩,h1,hT,hd,h3⟩,q⟩
theorem Fun.okXB {x qual:Str}{st:Stmt}{f:Addr}{fd:gp}{N ps:List Str}{k:Nat}{sp:Sp}(F:Fun K x qual st f fd)(S:ax N ps (ah st))(len:∀vs H Q E,sp vs H Q E->vs.length=ps.length)
  (rV:∀(cdv:Value) (A:Around) (outer:List Env) (s:Shared) (H:Hp) (vs:List V) (Q:VK) (E:XK),Room k (A.deeper (envOfC qual (ah st) s.heap.objs.size f cdv))->sp vs H Q E ->
   ∃t,xF (cxB P w K mg base N qual (ah st) f cdv A outer s H E) (jY st) t/\t { nx:=λ_ H'=>Q .non H',rt:=Q } (λ_=>E) (start N vs) H):FnOk P w K mg base (CXB false P w) (k+1) f fd ps sp:=by
 obtain⟨oc,od,kV,doc,pm,an,cdv,ct,osl,rfl,lk,hcd⟩:=F.ex;refine IK lk hcd S len λA outer s H vs Q E hr hsp=>?_
 obtain⟨t,h,q⟩:=rV cdv A outer s H vs Q E hr hsp;exact⟨λD σ H=>t D (λ_=>E) σ H,λpins s1 σ H1 D I hw=>kq (h pins s1 σ H1 D _ (xc_in I false) hw) (λ_ _ z=>sp_out z) λ_ _ z=>leave_xB z,q⟩
theorem FnOk.calmB {b:Bool}{k:Nat}{f:Addr}{fd:gp}{ps:List Str}{sp:Sp}(F:FnOk P w K mg base (CXB b P w) k f fd ps sp)(h:∀vs H Q E,sp vs H Q E->sp vs H Q E0):FnOk P w K mg base CX0 k f fd ps sp:=by
 refine⟨F.len,λA outer s H args us vs Q E hr he hb hv hs=>codeAny_mono (F.run A outer s H args us vs Q E0 hr he hb hv (h _ _ _ _ hs)) λr s' q=>?_⟩
 cases r with
 |error e=>obtain⟨_,_,_,_,_,_,_,_,_,_,_,_,_,_,z⟩:=q;exact z.elim
 |ok fl=>cases fl <;> exact q
end
section
variable{X:Cx}{k:Nat}{f:Addr}{fd:gp}{ps:List Str}{sp:Sp}{x:Str}{p pos:Pos}{e:Expr}{es:List Expr}{t:TAX}{b:Bool}
theorem run_fnXB {pins:List (Addr×Obj)}{σ:St}{H:Hp}{s:Shared}{Q:VK}{E:XK}{us:List Value}{vs:List V}(nx:X.xc=false)(F:FnOk X.prog X.w X.K X.mg X.base (CXB b X.prog X.w) k f fd ps sp)(hr:Room k X.A)(hb:Binds X.K fd ps [])
  (I:Inv X pins σ H s) (r:Vals vs us) (h:sp vs H Q E):wpAny (model X.prog X.w) X.A (call (.ref f) us) (EP X pins σ Q) (XP X pins σ E) s:=by
 have hl:(us++[]).length=ps.length:=by rw[T9,<-r.length];exact F.len _ _ _ _ h
 have bb:=hb s us I.kIn hl;rw[T9]at bb;refine UO (codeAny_mono (F.run X.A X.stack s H ⟨us,[]⟩ us vs Q E hr I.II bb r h) λr s' hq=>?_)
 cases r with
 |error e=>exact Jh (λz=>absurd (nx.symm.trans z) kg) I hq
 |ok fl =>
  cases fl with
  |ret u=>exact I.after hq
  |next=>exact Tq hq
  |brk=>exact Tq hq
  |cont=>exact Tq hq
theorem pe_callXB (nx:X.xc=false)(F:FnOk X.prog X.w X.K X.mg X.base (CXB b X.prog X.w) k f fd ps sp)(hr:Room k X.A)(hg:Gl X x)(hm:X.mg x=some (.ref f))(hk:UX X.K (.ref f)=true)(hb:Binds X.K fd ps [])(ha:PAX X (e::es) t)
  (hdb:(x == ("__debug__":Str))=false:=by decide) (he:Td (e::es) X.env=(false,eval e X.env)::Td es X.env:=by rfl) (hpl:(backTo pos (Td es X.env)).any (·.1)=false:=by rfl) :
  PEX X (.Call (.Name x p) (e::es) [] pos) (Bk t sp):=by
 intro pins s σ H Q E I h;unfold Bk at h;refine wpAny_Call_Name_kw (fU I hg hm ?_ hdb);exact UZ (h₀:=X.base) I.ok.mod.kin hk (thn (ha pos pins s σ H _ E I h) λus s1 ⟨vs,H1,I1,r,q⟩=>⟨I1.kIn,run_fnXB nx F hr hb I1 r q⟩) he hpl
end
section
variable{X:Cx}{pins:List (Addr×Obj)}{σ:List (Option V)}{H:Hp}{s:Shared}{a:Addr}{ob:Obj}{kvs:List (Key×V)}
theorem Inv.freeze (I:Inv X pins σ H s)(ha:H a=some (.dK kvs))(ho:s.heap.get? a=some ob):Inv X pins σ (upd H a (.frz ob (.dK kvs))) s:=by
 have mu:Mut (H a):=by rw[ha];trivial
 have new:cf X.prog X.w (upd H a (.frz ob (.dK kvs))) s.heap a (.frz ob (.dK kvs)):=⟨ho,(show cf X.prog X.w H s.heap a (.dK kvs) from I.hok a _ ha)⟩
 exact I.un (t':=s.toks) (Un.write mu (.inl rfl) (λ_ _ _ q=>q) ⟨ob,ho⟩) (I.hok.write mu (.inl rfl) (λ_ _ _ q=>q) ⟨ob,ho⟩ new)
theorem Inv.thaw (I:Inv X pins σ H s)(ha:H a=some (.frz ob (.dK kvs)))(hb:∀o u,X.H₀ a≠some (.frz o u)):Inv X pins σ (upd H a (.dK kvs)) s:=by
 have nn:∀ {b},H b=none->upd H a (.dK kvs) b=none:=λ{b} h=>by rw[ao (Tr (aG ha h))];exact h
 have old:=(show cf X.prog X.w H s.heap a (.frz ob (.dK kvs)) from I.hok a _ ha)
 refine⟨I.ok,I.os,I.bare,⟨I.base.keep,I.base.slot,λb o e n hx=>nn (I.base.free b o e n hx),I.base.there,λb xs e=>?_,λb o u e=>?_,λb ps e=>?_⟩,I.loc,I.cell,nn I.free,λx c e=>nn (I.fS x c e),λp hp=>?_,λb u e=>?_,I.len⟩
 ·have:=I.base.qR b xs e;rw[ao (Ab this ha (λz=>by cases z))];exact this
 ·have:=I.base.nQ b o u e
  by_cases h:b=a
  ·rw[h]at e;exact absurd e (hb o u)
  ·rw[ao h];exact this
 ·obtain⟨m,this⟩:=I.base.qS b ps e;exact⟨m,by rw[ao (Ab this ha (λz=>by cases z))];exact this⟩
 ·obtain⟨e,n,r⟩:=I.pin p hp;exact⟨e,nn n,r⟩
 ·by_cases h:b=a
  ·subst h;rw[ae]at e;cases e;exact old.2
  ·rw[ao h]at e;exact(I.hok b u e).wm (λ_ _ _ q=>q) (λc r=>by rw[ao (Ab r ha (λz=>by cases z))];exact r) λc xs r=>by rw[ao (Ab r ha (λz=>by cases z))];exact r
end
def Itd (a:Addr)(ob:Obj)(kvs:List (Key×V))(ns:List Int):It :=
 ⟨λi H=>i < ns.length/\H a=some (.frz ob (.dK kvs)),λi H x H'=>H'=H/\∃z,ns[i]?=some z/\x=.int z,λi H=>ns.length<=i/\H a=some (.frz ob (.dK kvs))⟩
theorem turn_dict {P:km}{w:World}{K:ba}{tg:Expr}{kvs:List (Key×V)}(it a:Addr)(ob:Obj)(ns:List Int)(vs:List (Key×Value))(ep:Nat)(hn:vs.map (·.1)=ns.map kr)(hd:∀h:Heap,h.get? a=some ob->h.DictAt (cz P w) a vs ep)(hne:a≠it) :
  Turn P w K tg (Itd a ob kvs ns) [it] it (λi h=>h.IsKeyIter it a i vs.length ep) where
 mem:=by simp
 obj:=λi h st b hb=>by
  have e:b=it:=by simpa using hb
  subst e;obtain⟨o,e,c,dd⟩:=st;exact⟨o,e,λv z=>by rw[dd]at z;cases z⟩
 keep:=λi h h' st k=>st.at λo e=>k it (by simp) o e
 item:=by
  intro X hP hw hK hc i pins s σ H E I hf st hg;subst hP hw hK;obtain⟨f0,f1,f2,f3,f4,f5⟩:=hf it (by simp)
  obtain⟨hg,ha⟩:=hg;have W:=Walks.dictKeys (knd:=cz X.prog X.w) (A:=X.A) (I.ok.hd hc) it a hne vs ep;have hlen:vs.length=ns.length:=by
   have:=congrArg U5 hn
   simpa only[bo] using this
  refine W.item i s _ _ (by rw[hlen];exact hg) ⟨st,hd _ (show cf X.prog X.w H s.heap a (.frz ob (.dK kvs)) from I.hok a _ ha).1⟩ λv h' tk hv st' kk=>?_
  obtain⟨k,x,hx,hk⟩:=hv;obtain⟨n,en⟩:∃n,ns[i]?=some n:=⟨_,sr hg⟩;have ek:k=kr n:=by
   have:(vs.map (·.1))[i]?=some k:=by rw[wt,hx];rfl
   rw[hn,wt,en]at this;exact(om this).symm
  subst ek;obtain⟨t,rfl⟩:=F2 hk;have I1:Inv X pins σ H { s with heap:=h',toks:=tk }:=I.turned (λb o hb e=>kk b o (by simpa using hb) e) f0 f1 f3 f4 f5
  obtain⟨oi,ei,ci,di⟩:=id st'.1;exact⟨_,rfl,Ac (s:={ s with heap:=h',toks:=tk }) (n:="dict_keyiterator") ei ci di (by decide) ⟨.int n,H,I1,⟨t,rfl⟩,⟨rfl,n,en,rfl⟩,st'.1,λb hb=>(hf b hb).1⟩⟩
 done:=by
  intro X hP hw hK hc i pins s σ H E I hf st hg;subst hP hw hK;obtain⟨f0,f1,f2,f3,f4,f5⟩:=hf it (by simp)
  obtain⟨hg,ha⟩:=hg;have hlen:vs.length=ns.length:=by
   have:=congrArg U5 hn
   simpa only[bo] using this
  exact wpAny_pyNext_dict_end (I.ok.hd hc) st (hd _ (show cf X.prog X.w H s.heap a (.frz ob (.dK kvs)) from I.hok a _ ha).1) (by first | omega | (rw[List.getElem?_eq_none_iff];omega)) λh' eb=>⟨rfl,I.turned (t':=s.toks) (λb o hb e=>eb b o hb e) f0 f1 f3 f4 f5⟩
 self:=λ_ _ _ _ _ st h=>wpAny_pyIter_keyiter st h
section
variable{X:Cx}{tg:Expr}
def iDict (te:TE):TI:=λσ H R=>te σ H λx H1=>∃a kvs,∃ns:List Int,x=.ref a/\H1 a=some (.dK kvs)/\kvs.map (·.1)=ns.map kr/\∀ob,R (Itd a ob kvs ns) (upd H1 a (.frz ob (.dK kvs)))
theorem pi_dict {l:Expr}{te:TE}(hl:PE X l te):PI X tg l (iDict te):=by
 intro pins s σ H R I h;refine thn (hl pins s σ H _ I h) λv s1 ⟨x,H1,I1,r1,q1⟩=>?_
 obtain⟨a,kvs,ns,rfl,ha,hk,q⟩:=q1;cases r1;obtain⟨z,lo,vs,rel,dd⟩:=CV I1.hok ha;obtain⟨ep,hat⟩:=dd.dictAt;obtain⟨ob,es,ho,r⟩:=id hat;have hn:vs.map (·.1)=ns.map kr:=by
  rw[<-hk];refine List.ext_getElem? λj=>?_
  rw[wt];cases e:vs[j]? with
  |none =>
   have:vs.length<=j:=List.getElem?_eq_none_iff.mp e;rw[<-rel.length]at this;rw[wt,List.getElem?_eq_none this];rfl
  |some y=>exact(JF rel j _ e).symm
 refine wpAny_pyIter_dict lo hat ?_;refine⟨s1.heap.objs.size,[s1.heap.objs.size],_,_,_,rfl,(I1.freeze ha ho).kept (t':=s1.toks) λb o e=>fu _ e,turn_dict _ a ob ns vs ep hn (λh' e=>⟨ob,es,e,r⟩) (Tf hat.lt_size),⟨_,tm _ rfl,rfl,rfl⟩,λb hb=>?_,q ob⟩
 have e:b=s1.heap.objs.size:=by simpa using hb
 subst e;have I2:=I1.freeze ha ho;exact I2.rP (kc _) (I2.hok.fresh (kc _))
def tThaw (t:TE):TE:=λσ H Q=>∃a kvs,H a=some (.dK kvs)/\t σ H λv H2=>∃ob,H2 a=some (.frz ob (.dK kvs))/\Q v (upd H2 a (.dK kvs))
theorem pe_thaw {e:Expr}{t:TE}(h:PE X e t):PE X e (tThaw t):=by
 intro pins s σ H Q I hw;obtain⟨a,kvs,ha,hw⟩:=hw;have nf:∀o u,X.H₀ a≠some (.frz o u):=λo u z=>by
  have:=I.base.nQ a o u z;rw[ha]at this;cases this
 exact thn (h pins s σ H _ I hw) λv s1 ⟨x,H1,I1,r1,ob,hf,q⟩=>⟨x,_,I1.thaw hf nf,r1,q⟩
end
theorem comp_dict {a D:Addr}{ob:Obj}{kvs:List (Key×V)}{ns:List Int}{te:TE}{Q:VK}{σ:St}{H1:Hp}(Pv:Nat->List V->Hp->Prop)(h0:Pv 0 [] (upd H1 D (.lst [])))(hz:ns.length<=eg)
  (hl:∀i ys H2,i<=ns.length->Pv i ys H2->H2 a=some (.frz ob (.dK kvs))/\H2 D=some (.lst ys)/\ys.length=i)
  (hs:∀i x ys H2,ns[i]?=some x->Pv i ys H2->te (some (.int x)::σ) H2 (bZ D ns.length Pv i ys)) (hd:∀ys H2,Pv ns.length ys H2->Q (.ref D) H2) :
  hZ (Itd a ob kvs ns) te σ D H1 Q:=by
 refine⟨λi m ys H=>m=ns.length - i/\i<=ns.length/\Pv i ys H,⟨ns.length,by simp,TM _,h0⟩,?_⟩
 rintro i m ys H2 ⟨rfl,hi,p⟩;obtain⟨q,q2,q3⟩:=hl i ys H2 hi p;refine⟨q2,?_⟩
 by_cases hlt:i < ns.length
 ·refine .inr ⟨⟨hlt,q⟩,by omega,λx H3 y=>?_⟩
  obtain⟨e,n,hn,rfl⟩:=y;subst e;exact hs i n ys _ hn p
 ·have e:i=ns.length:=by omega
  subst e;exact .inl ⟨⟨kc _,q⟩,hd ys H2 p⟩
end L2
namespace My
open PySem L2
seal PySem.wpAny
def top (i:Nat):Stmt:=PySem.Challenge.pw_moot_k33_where_minutes_part.main.body.getD i (.Pass ⟨0,0,0,0⟩)
abbrev qp:Stmt:=inClass (top 23) 1
theorem xJ:ax ["self"] ["self"] (ah qp):=fsc (by trivial)
abbrev qq:Stmt:=inClass (top 24) 1
theorem xK:ax ["self"] ["self"] (ah qq):=fsc (by trivial)
abbrev vo:Stmt:=inClass (top 25) 1
theorem Bz:ax ["self"] ["self"] (ah vo):=fsc (by trivial)
abbrev qr:Stmt:=inClass (top 26) 1
theorem xM:ax ["self"] ["self"] (ah qr):=fsc (by trivial)
abbrev sx:Stmt:=inClass (top 27) 0
theorem zN:ax ["self"] ["self"] (ah sx):=fsc (by trivial)
abbrev xN:Stmt:=inClass (top 28) 0
theorem C0:ax ["self"] ["self"] (ah xN):=fsc (by trivial)
abbrev vp:Stmt:=inClass (top 29) 0
theorem BA:ax ["self"] ["self"] (ah vp):=fsc (by trivial)
abbrev sy:Stmt:=inClass (top 30) 1
theorem zO:ax ["self"] ["self"] (ah sy):=fsc (by trivial)
abbrev qt:Stmt:=inClass (top 22) 1
theorem xO:ax ["self"] ["self"] (ah qt):=fsc (by trivial)
abbrev qu:Stmt:=inClass (top 22) 2
theorem xP:ax ["self"] ["self"] (ah qu):=fsc (by trivial)
abbrev sC:Stmt:=inClass (top 27) 1
theorem zP:ax ["self"] ["self"] (ah sC):=fsc (by trivial)
abbrev qv:Stmt:=inClass (top 22) 3
theorem xQ:ax ["self"] ["self"] (ah qv):=fsc (by trivial)
abbrev qw:Stmt:=inClass (top 23) 2
theorem xR:ax ["self"] ["self"] (ah qw):=fsc (by trivial)
abbrev qy:Stmt:=inClass (top 24) 2
theorem xS:ax ["self"] ["self"] (ah qy):=fsc (by trivial)
abbrev vq:Stmt:=inClass (top 25) 2
theorem BB:ax ["self"] ["self"] (ah vq):=fsc (by trivial)
abbrev qz:Stmt:=inClass (top 26) 2
theorem xT:ax ["self"] ["self"] (ah qz):=fsc (by trivial)
abbrev sD:Stmt:=inClass (top 30) 2
theorem zQ:ax ["self"] ["self"] (ah sD):=fsc (by trivial)
abbrev qA:Stmt:=inClass (top 23) 0
theorem xU:ax ["self","text"] ["self","text"] (ah qA):=fsc (by trivial)
abbrev qB:Stmt:=inClass (top 24) 0
theorem xV:ax ["self","edit"] ["self","edit"] (ah qB):=fsc (by trivial)
abbrev vt:Stmt:=inClass (top 25) 0
theorem BC:ax ["self","edit"] ["self","edit"] (ah vt):=fsc (by trivial)
abbrev qC:Stmt:=inClass (top 26) 0
theorem xW:ax ["self","sitting"] ["self","sitting"] (ah qC):=fsc (by trivial)
abbrev sE:Stmt:=inClass (top 30) 0
theorem zR:ax ["self","clause"] ["self","clause"] (ah sE):=fsc (by trivial)
abbrev qD:Stmt:=inClass (top 4) 0
theorem xX:ax ["self","bar"] ["self","bar"] (ah qD):=fsc (by trivial)
abbrev nj:Stmt:=inClass (top 7) 0
theorem uv:ax ["self","sitting"] ["self","sitting"] (ah nj):=fsc (by trivial)
abbrev qE:Stmt:=inClass (top 11) 0
theorem xY:ax ["self","sitting"] ["self","sitting"] (ah qE):=fsc (by trivial)
abbrev sF:Stmt:=inClass (top 13) 0
theorem qF:ax ["self","row"] ["self","row"] (ah sF):=fsc (by trivial)
abbrev nZ:Stmt:=inClass (top 64) 0
theorem wA:ax ["self","seats"] ["self","seats"] (ah nZ):=fsc (by trivial)
abbrev n8:Stmt:=inClass (top 64) 1
theorem nr:ax ["self","told","number"] ["self","told"] (ah n8):=fsc (by trivial)
abbrev oe:Stmt:=inClass (top 64) 2
theorem iC:ax ["self","ayes","noes","motion","word"] ["self","ayes","noes"] (ah oe):=fsc (by trivial)
abbrev og:Stmt:=inClass (top 64) 3
theorem wB:ax ["self"] ["self"] (ah og):=fsc (by trivial)
abbrev oh:Stmt:=inClass (top 64) 4
theorem nv:ax ["self","number","until"] ["self","number"] (ah oh):=fsc (by trivial)
abbrev iD:Stmt:=inClass (top 64) 6
theorem uw:ax ["self","aside"] ["self"] (ah iD):=fsc (by trivial)
abbrev iR:Scope:={ kind:=.function,names:=[(ar ".0",.local),(ar "number",.local),(ar "self",.free)],isGenerator:=false,isCoroutine:=false,more:=[] }
theorem qW:bQ iR (ah iD) "number" ["self","aside"] ["self","aside"]:=⟨rfl,rfl,by trivial,by trivial,rfl,by trivial,by trivial,by trivial,by trivial,rfl,by trivial,by trivial⟩
abbrev lF:Stmt:=inClass (top 64) 7
theorem j6:ax ["self","number"] ["self","number"] (ah lF):=fsc (by trivial)
abbrev dW:Stmt:=inClass (top 64) 8
theorem mE:ax ["self"] ["self"] (ah dW):=fsc (by trivial)
abbrev eP:Scope:={ kind:=.function,names:=[(ar ".0",.local),(ar "number",.local),(ar "self",.free)],isGenerator:=false,isCoroutine:=false,more:=[] }
theorem kP:bQ eP (ah dW) "number" ["self"] ["self"]:=⟨rfl,rfl,by trivial,by trivial,rfl,by trivial,by trivial,by trivial,by trivial,rfl,by trivial,by trivial⟩
abbrev j7:Stmt:=inClass (top 64) 11
theorem qX:ax ["self"] ["self"] (ah j7):=fsc (by trivial)
abbrev fY:Stmt:=inClass (top 64) 12
theorem qY:ax ["self"] ["self"] (ah fY):=fsc (by trivial)
abbrev gB:Scope:={ kind:=.function,names:=[(ar ".0",.local),(ar "number",.local),(ar "self",.free)],isGenerator:=false,isCoroutine:=false,more:=[] }
theorem oj:bQ gB (ah fY) "number" ["self"] ["self"]:=⟨rfl,rfl,by trivial,by trivial,rfl,by trivial,by trivial,by trivial,by trivial,rfl,by trivial,by trivial⟩
abbrev ib:Stmt:=inClass (top 64) 13
theorem gC:ax ["self","number","waiting"] ["self","number"] (ah ib):=fsc (by trivial)
abbrev dH:Stmt:=inClass (top 64) 14
theorem b7:ax ["self","told","kind","pile"] ["self","told"] (ah dH):=fsc (by trivial)
abbrev eQ:Stmt:=inClass (top 64) 15
theorem js:ax ["self"] ["self"] (ah eQ):=fsc (by trivial)
abbrev lG:Stmt:=inClass (top 64) 17
theorem sG:ax ["self","word"] ["self","word"] (ah lG):=fsc (by trivial)
abbrev fZ:Stmt:=inClass (top 64) 18
theorem lH:ax ["self","deed"] ["self","deed"] (ah fZ):=fsc (by trivial)
abbrev iS:Stmt:=inClass (top 64) 19
theorem ic:ax ["self","motion","kind"] ["self","motion"] (ah iS):=fsc (by trivial)
abbrev fK:Stmt:=inClass (top 64) 20
theorem eZ:ax ["self","edit","number"] ["self","edit"] (ah fK):=fsc (by trivial)
abbrev fL:Stmt:=inClass (top 64) 21
theorem cg:ax ["self","edit","number","change","words"] ["self","edit"] (ah fL):=fsc (by trivial)
abbrev iT:Stmt:=inClass (top 64) 22
theorem oo:ax ["self","until"] ["self","until"] (ah iT):=fsc (by trivial)
abbrev JG:Stmt:=top 15
theorem BD:ax ["things","edit","places"] ["things","edit"] (ah JG):=fsc (by trivial)
abbrev qG:Stmt:=top 16
theorem xZ:ax ["things","edit"] ["things","edit"] (ah qG):=fsc (by trivial)
abbrev JH:Stmt:=top 17
theorem w4:ax ["things","edit","kind","place","behind"] ["things","edit"] (ah JH):=fsc (by trivial)
abbrev ya:Stmt:=top 18
theorem C1:ax ["clause"] ["clause"] (ah ya):=fsc (by trivial)
abbrev vv:Stmt:=top 19
theorem BE:ax ["words"] ["words"] (ah vv):=fsc (by trivial)
abbrev vw:Stmt:=top 31
theorem i7:ax ["told","kind"] ["told"] (ah vw):=fsc (by trivial)
abbrev C2:Stmt:=top 34
theorem AA:ax ["pile","closed","bar"] ["pile","closed"] (ah C2):=fsc (by trivial)
abbrev mF:Stmt:=top 35
theorem zS:ax ["pile"] ["pile"] (ah mF):=fsc (by trivial)
abbrev lI:Scope:={ kind:=.function,names:=[(ar ".0",.local),(ar "motion",.local)],isGenerator:=false,isCoroutine:=false,more:=[] }
theorem wC:bQ lI (ah mF) "motion" ["pile"] ["pile"]:=⟨rfl,rfl,by trivial,by trivial,rfl,by trivial,by trivial,by trivial,by trivial,rfl,by trivial,by trivial⟩
abbrev ny:Stmt:=top 36
theorem lJ:ax ["pile","told"] ["pile"] (ah ny):=fsc (by trivial)
abbrev iU:Stmt:=top 37
theorem oq:ax ["kind","pile"] ["kind","pile"] (ah iU):=fsc (by trivial)
abbrev jt:Stmt:=top 38
theorem iV:ax ["kind","pile","closed","bar"] ["kind","pile","closed"] (ah jt):=fsc (by trivial)
abbrev AB:Stmt:=top 46
theorem EO:ax ["holds"] ["holds"] (ah AB):=fsc (by trivial)
abbrev AD:Stmt:=top 47
theorem ER:ax ["sign"] ["sign"] (ah AD):=fsc (by trivial)
abbrev ux:Stmt:=top 48
theorem ES:ax ["word"] ["word"] (ah ux):=fsc (by trivial)
abbrev qH:Scope:={ kind:=.function,names:=[(ar ".0",.local),(ar "sign",.local),(ar "is_sign",.globalImplicit)],isGenerator:=false,isCoroutine:=false,more:=[] }
theorem BF:bQ qH (ah ux) "sign" ["word"] ["word"]:=⟨rfl,rfl,by trivial,by trivial,rfl,by trivial,by trivial,by trivial,by trivial,rfl,by trivial,by trivial⟩
abbrev ot:Stmt:=top 49
theorem BG:ax ["word"] ["word"] (ah ot):=fsc (by trivial)
abbrev nz:Scope:={ kind:=.function,names:=[(ar ".0",.local),(ar "sign",.local),(ar "FIGURES",.globalImplicit)],isGenerator:=false,isCoroutine:=false,more:=[] }
theorem yb:bQ nz (ah ot) "sign" ["word"] ["word"]:=⟨rfl,rfl,by trivial,by trivial,rfl,by trivial,by trivial,by trivial,by trivial,rfl,by trivial,by trivial⟩
abbrev qI:Stmt:=top 50
theorem yc:ax ["word"] ["word"] (ah qI):=fsc (by trivial)
abbrev kQ:Stmt:=top 51
theorem yd:ax ["words"] ["words"] (ah kQ):=fsc (by trivial)
abbrev j8:Scope:={ kind:=.function,names:=[(ar ".0",.local),(ar "word",.local),(ar "is_word",.globalImplicit)],isGenerator:=false,isCoroutine:=false,more:=[] }
theorem uy:bQ j8 (ah kQ) "word" ["words"] ["words"]:=⟨rfl,rfl,by trivial,by trivial,rfl,by trivial,by trivial,by trivial,by trivial,rfl,by trivial,by trivial⟩
abbrev ou:Stmt:=top 52
theorem mG:ax ["words","clauses","word"] ["words"] (ah ou):=fsc (by trivial)
abbrev nA:Scope:={ kind:=.function,names:=[(ar ".0",.local),(ar "clause",.local),(ar "read_clause",.globalImplicit)],isGenerator:=false,isCoroutine:=false,more:=[] }
theorem oy:fv nA (ah ou) ["clause"] ["words","clauses","word"] ["words","clauses","word"]:=⟨rfl,rfl,by trivial,by trivial,by trivial,by trivial,by trivial,by trivial,by trivial,rfl,by trivial,by trivial⟩
abbrev vx:Stmt:=top 53
theorem i8:ax ["words","kind","place","thing"] ["words"] (ah vx):=fsc (by trivial)
abbrev vy:Stmt:=top 54
theorem sI:ax ["words","edit"] ["words"] (ah vy):=fsc (by trivial)
abbrev oz:Stmt:=top 55
theorem nB:ax ["words","sitting"] ["words"] (ah oz):=fsc (by trivial)
abbrev vz:Stmt:=top 56
theorem i9:ax ["row","words","kind","behind"] ["row"] (ah vz):=fsc (by trivial)
abbrev nD:Stmt:=top 57
theorem gL:ax ["text","words","clause"] ["text"] (ah nD):=fsc (by trivial)
abbrev nF:Stmt:=top 58
theorem lK:ax ["edit","words"] ["edit"] (ah nF):=fsc (by trivial)
abbrev ju:Stmt:=top 59
theorem nG:ax ["deed","kind"] ["deed"] (ah ju):=fsc (by trivial)
abbrev jv:Scope:={ kind:=.function,names:=[(ar ".0",.local),(ar "number",.local),(ar "str",.globalImplicit)],isGenerator:=false,isCoroutine:=false,more:=[] }
theorem sJ:bQ jv (ah ju) "number" ["deed","kind"] ["deed","kind"]:=⟨rfl,rfl,by trivial,by trivial,rfl,by trivial,by trivial,by trivial,by trivial,rfl,by trivial,by trivial⟩
abbrev vA:Stmt:=top 60
theorem BH:ax ["deed"] ["deed"] (ah vA):=fsc (by trivial)
abbrev AE:Stmt:=top 62
theorem ET:ax ["need","ayes","noes"] ["need","ayes","noes"] (ah AE):=fsc (by trivial)
abbrev AF:Stmt:=top 66
theorem ye:ax ["chamber","deed","kind"] ["chamber","deed"] (ah AF):=fsc (by trivial)
abbrev C3:Stmt:=top 67
theorem Ht:ax ["chamber","row","number"] ["chamber","row","number"] (ah C3):=fsc (by trivial)
abbrev C4:Stmt:=top 68
theorem pT:ax ["seats","rows","chamber","number","row"] ["seats","rows"] (ah C4):=fsc (by trivial)
abbrev vB:Stmt:=top 69
theorem BI:ax ["one","other"] ["one","other"] (ah vB):=fsc (by trivial)
abbrev C5:Stmt:=top 70
theorem jg:ax ["seats","one","other","first","second","shared","place","number"] ["seats","one","other"] (ah C5):=fsc (by trivial)
abbrev vC:Stmt:=top 72
theorem BJ:ax ["_law_script","_law_k"] ["_law_script","_law_k"] (ah vC):=fsc (by trivial)
abbrev AG:Stmt:=top 73
theorem EU:ax ["_law_found"] ["_law_found"] (ah AG):=fsc (by trivial)
abbrev yf:Stmt:=top 74
theorem ie:ax ["_law_cell","_law_many","_law_found","_law_number","_law_k"] ["_law_cell","_law_many"] (ah yf):=fsc (by trivial)
abbrev C6:Stmt:=top 75
theorem lL:ax ["_law_cell","_law_seats","_law_draws","_law_way","_law_clause","_law_ayes"] ["_law_cell","_law_seats"] (ah C6):=fsc (by trivial)
abbrev C7:Stmt:=top 76
theorem uz:ax ["_law_chamber","_law_deed_here","_law_done_here"] ["_law_chamber","_law_deed_here"] (ah C7):=fsc (by trivial)
abbrev vD:Stmt:=top 77
theorem f6:ax ["_law_deeds","_law_seats","_law_chamber","_law_many","_law_deed_here"] ["_law_deeds","_law_seats"] (ah vD):=fsc (by trivial)
abbrev uA:Stmt:=top 78
theorem fw:ax ["_law_rows","_law_seats","_law_chamber","_law_looks_here","_law_many","_law_row","_law_deed_here"] ["_law_rows","_law_seats"] (ah uA):=fsc (by trivial)
abbrev qJ:Scope:={ kind:=.function,names:=[(ar ".0",.local),(ar "_law_k",.local),(ar "_law_chamber",.free)],isGenerator:=false,isCoroutine:=false,more:=[] }
theorem BK:bQ qJ (ah uA) "_law_k" ["_law_rows","_law_seats","_law_chamber","_law_looks_here","_law_many","_law_row","_law_deed_here"] ["_law_rows","_law_seats","_law_chamber","_law_looks_here","_law_many","_law_row","_law_deed_here"]:=⟨rfl,rfl,by trivial,by trivial,rfl,by trivial,by trivial,by trivial,by trivial,rfl,by trivial,by trivial⟩
abbrev F3:Stmt:=top 79
theorem C8:ax ["_law_one","_law_other","_law_k"] ["_law_one","_law_other"] (ah F3):=fsc (by trivial)
abbrev C9:Stmt:=top 80
theorem Hu:ax ["_law_found","_law_due_here"] ["_law_found","_law_due_here"] (ah C9):=fsc (by trivial)
abbrev vE:Stmt:=top 81
theorem ja:ax ["_law_seats","_law_one","_law_other","_law_number","_law_caught","e"] ["_law_seats","_law_one","_law_other","_law_number"] (ah vE):=fsc (by trivial)
abbrev vF:Stmt:=top 82
theorem sL:ax ["_law_rows","_law_draw","_law_at"] ["_law_rows","_law_draw"] (ah vF):=fsc (by trivial)
abbrev F4:Stmt:=top 83
theorem f7:ax ["_law_script","_law_seats","_law_deeds","_law_draws","_law_at","_law_turned","_law_k","_law_one","_law_other","_law_due_here","_law_handed","_law_first","_law_number","_law_second","_law_another"] ["_law_script"] (ah F4):=fsc (by trivial)
abbrev AH:Scope:={ kind:=.function,names:=[(ar ".0",.local),(ar "_law_cell",.local),(ar "_law_deed",.globalImplicit),(ar "_law_seats",.free)],isGenerator:=false,isCoroutine:=false,more:=[] }
theorem JI:bQ AH (ah F4) "_law_cell" ["_law_script","_law_seats","_law_deeds","_law_draws","_law_at","_law_turned","_law_k","_law_one","_law_other","_law_due_here","_law_handed","_law_first","_law_number","_law_second","_law_another"] ["_law_script","_law_seats","_law_deeds","_law_draws","_law_at","_law_turned","_law_k","_law_one","_law_other","_law_due_here","_law_handed","_law_first","_law_number","_law_second","_law_another"]:=⟨rfl,rfl,by trivial,by trivial,rfl,by trivial,by trivial,by trivial,by trivial,rfl,by trivial,by trivial⟩
set_option genInjectivity false in
set_option genSizeOf false in
structure Adr where
 fits:Addr
 BL:gp
 oB:Addr
 jw:gp
 laid:Addr
 BM:gp
 words_of:Addr
 fM:gp
 lN:Addr
 f9:gp
 lO:Addr
 gb:gp
 EV:Addr
 uB:gp
 qZ:Addr
 kR:gp
 kS:Addr
 gM:gp
 gf:Addr
 et:gp
 gN:Addr
 eU:gp
 sM:Addr
 jx:gp
 BN:Addr
 q8:gp
 BO:Addr
 q9:gp
 uC:Addr
 mH:gp
 j9:Addr
 gh:gp
 oE:Addr
 jy:gp
 uD:Addr
 mI:gp
 uE:Addr
 mJ:gp
 uF:Addr
 mK:gp
 mL:Addr
 iE:gp
 lP:Addr
 gi:gp
 kT:Addr
 gO:gp
 kU:Addr
 gP:gp
 mM:Addr
 iF:gp
 jh:Addr
 eK:gp
 BP:Addr
 rb:gp
 sN:Addr
 jz:gp
 BQ:Addr
 pU:gp
 replay:Addr
 uG:gp
 uH:Addr
 mO:gp
 parted:Addr
 pV:gp
 uI:Addr
 mP:gp
 BR:Addr
 rg:gp
 yg:Addr
 oF:gp
 EW:Addr
 uJ:gp
 BS:Addr
 pW:gp
 uK:Addr
 mQ:gp
 BU:Addr
 rh:gp
 JJ:Addr
 yh:gp
 EX:Addr
 uL:gp
 pY:Addr
 jb:gp
 uM:Addr
 mR:gp
 law:Addr
 JK:gp
 EY:Tok
 wD:Tok
 zT:Tok
 wF:Tok
 EZ:Tok
 BV:Addr
 zU:Tok
 c0:Addr
 c1:Addr
 c2:Addr
 c3:Addr
 c4:Addr
 c5:Addr
 c6:Addr
 c7:Addr
 tab:Addr
 Og:Addr
 JL:gp
 Oh:Addr
 JM:gp
 Oi:Addr
 JN:gp
 Oj:Addr
 JO:gp
 Ol:Addr
 JP:gp
 Om:Addr
 JQ:gp
 Oo:Addr
 JR:gp
 Oq:Addr
 JS:gp
 f_r:Addr
 LX:gp
 f_n:Addr
 BW:gp
 Ot:Addr
 JT:gp
 f_t:Addr
 JU:gp
 Ou:Addr
 JV:gp
 Ov:Addr
 JW:gp
 Ow:Addr
 JX:gp
 Ox:Addr
 JY:gp
 Oy:Addr
 JZ:gp
 Oz:Addr
 J0:gp
 OA:Addr
 J1:gp
 OB:Addr
 J2:gp
 OC:Addr
 J3:gp
 OD:Addr
 J4:gp
 aq:Addr
 jA:Addr
 iG:gp
 jB:Addr
 iH:gp
 jC:Addr
 iI:gp
 jD:Addr
 iJ:gp
 jE:Addr
 iK:gp
 fq:Addr
 eM:gp
 eN:Addr
 d5:gp
 cO:Addr
 cE:gp
 gj:Addr
 fA:gp
 gk:Addr
 fB:gp
 eu:Addr
 dX:gp
 cw:Addr
 b8:gp
 cS:Addr
 cN:gp
 gQ:Addr
 gm:gp
 dO:Addr
 dB:gp
 eV:Addr
 ez:gp
 dC:Addr
 dj:gp
 dD:Addr
 dn:gp
 eW:Addr
 eA:gp
 bB:Addr
 kh:Addr
 ig:Addr
 gR:Addr
 gS:Addr
 eB:Addr
 gU:Addr
 ji:Addr
 jj:Addr
 ij:Addr
 gW:Addr
 bC:Addr
 yi:Addr
 uN:gp
 rj:Addr
 oG:gp
 yj:Addr
 uO:gp
 sO:Addr
 oH:gp
def Adr.C (A:Adr):Nat->Addr
 | 0=>A.c0
 | 1=>A.c1
 | 2=>A.c2
 | 3=>A.c3
 | 4=>A.c4
 | 5=>A.c5
 | 6=>A.c6
 |_=>A.c7
def Adr.fk (A:Adr):Nat->Addr
 | 0=>A.Og
 | 1=>A.Oh
 | 2=>A.Oi
 | 3=>A.Oj
 | 4=>A.Ol
 | 5=>A.Om
 | 6=>A.Oo
 |_=>A.Oq
def Adr.fkd (A:Adr):Nat->gp
 | 0=>A.JL
 | 1=>A.JM
 | 2=>A.JN
 | 3=>A.JO
 | 4=>A.JP
 | 5=>A.JQ
 | 6=>A.JR
 |_=>A.JS
def Adr.fn (A:Adr):Nat->Addr
 | 0=>A.f_n
 | 1=>A.f_n
 | 2=>A.f_n
 | 3=>A.f_n
 | 4=>A.Ot
 | 5=>A.f_n
 | 6=>A.f_n
 |_=>A.f_n
def Adr.fnd (A:Adr):Nat->gp
 | 0=>A.BW
 | 1=>A.BW
 | 2=>A.BW
 | 3=>A.BW
 | 4=>A.JT
 | 5=>A.BW
 | 6=>A.BW
 |_=>A.BW
def Adr.ft (A:Adr):Nat->Addr
 | 0=>A.Ou
 | 1=>A.Ov
 | 2=>A.Ow
 | 3=>A.Ox
 | 4=>A.f_t
 | 5=>A.f_t
 | 6=>A.f_t
 |_=>A.Oy
def Adr.ftd (A:Adr):Nat->gp
 | 0=>A.JV
 | 1=>A.JW
 | 2=>A.JX
 | 3=>A.JY
 | 4=>A.JU
 | 5=>A.JU
 | 6=>A.JU
 |_=>A.JZ
def nm:Nat->Str
 | 0=>ar "matter"
 | 1=>ar "change"
 | 2=>ar "mend"
 | 3=>ar "put off"
 | 4=>ar "close"
 | 5=>ar "lay"
 | 6=>ar "rest"
 |_=>ar "point"
structure Txt (P:Params)(K:ba)(mg:Str->Option Value)(A:Adr):Prop where
 OE:mg "fits"=some (.ref A.fits)
 J5:Fun K "fits" "fits" JG A.fits A.BL
 OF:Binds K A.BL ["things","edit"] []
 kW:mg "require_fit"=some (.ref A.oB)
 hV:Fun K "require_fit" "require_fit" qG A.oB A.jw
 kX:Binds K A.jw ["things","edit"] []
 J6:mg "laid"=some (.ref A.laid)
 E1:Fun K "laid" "laid" JH A.laid A.BM
 J7:Binds K A.BM ["things","edit"] []
 jF:mg "words_of"=some (.ref A.words_of)
 gX:Fun K "words_of" "words_of" ya A.words_of A.fM
 jG:Binds K A.fM ["clause"] []
 oI:mg "clause_of"=some (.ref A.lN)
 kz:Fun K "clause_of" "clause_of" vv A.lN A.f9
 oJ:Binds K A.f9 ["words"] []
 Dc:mg "motion_of"=some (.ref A.lO)
 oK:Fun K "motion_of" "motion_of" vw A.lO A.gb
 De:Binds K A.gb ["told"] []
 Df:mg "bar_of"=some (.ref A.EV)
 yk:Fun K "bar_of" "bar_of" C2 A.EV A.uB
 Dg:Binds K A.uB ["pile","closed"] []
 sP:mg "has_matter"=some (.ref A.qZ)
 mS:Fun K "has_matter" "has_matter" mF A.qZ A.kR
 sQ:Binds K A.kR ["pile"] []
 wG:mg "can_be_mended"=some (.ref A.kS)
 nH:Fun K "can_be_mended" "can_be_mended" ny A.kS A.gM
 wH:Binds K A.gM ["pile"] []
 qd:mg "has_what_it_needs"=some (.ref A.gf)
 iW:Fun K "has_what_it_needs" "has_what_it_needs" iU A.gf A.et
 qf:Binds K A.et ["kind","pile"] []
 rn:mg "require_in_order"=some (.ref A.gN)
 jH:Fun K "require_in_order" "require_in_order" jt A.gN A.eU
 rq:Binds K A.eU ["kind","pile","closed"] []
 cT:mg "require"=some (.ref A.sM)
 cI:Fun K "require" "require" AB A.sM A.jx
 cU:Binds K A.jx ["holds"] []
 Hv:mg "is_sign"=some (.ref A.BN)
 AI:Fun K "is_sign" "is_sign" AD A.BN A.q8
 Hw:Binds K A.q8 ["sign"] []
 Hx:mg "is_word"=some (.ref A.BO)
 AJ:Fun K "is_word" "is_word" ux A.BO A.q9
 Hy:Binds K A.q9 ["word"] []
 Dh:mg "is_number"=some (.ref A.uC)
 vG:Fun K "is_number" "is_number" ot A.uC A.mH
 Di:Binds K A.mH ["word"] []
 e9:mg "read_number"=some (.ref A.j9)
 dU:Fun K "read_number" "read_number" qI A.j9 A.gh
 fb:Binds K A.gh ["word"] []
 kY:mg "read_clause"=some (.ref A.oE)
 hX:Fun K "read_clause" "read_clause" kQ A.oE A.jy
 kZ:Binds K A.jy ["words"] []
 Dj:mg "read_text"=some (.ref A.uD)
 vH:Fun K "read_text" "read_text" ou A.uD A.mI
 Dk:Binds K A.mI ["words"] []
 vI:mg "read_edit"=some (.ref A.uE)
 oM:Fun K "read_edit" "read_edit" vx A.uE A.mJ
 vJ:Binds K A.mJ ["words"] []
 Dl:mg "read_mend"=some (.ref A.uF)
 vK:Fun K "read_mend" "read_mend" vy A.uF A.mK
 Dm:Binds K A.mK ["words"] []
 yl:mg "read_sitting"=some (.ref A.mL)
 oN:Fun K "read_sitting" "read_sitting" oz A.mL A.iE
 ym:Binds K A.iE ["words"] []
 vL:mg "read_deed"=some (.ref A.lP)
 oO:Fun K "read_deed" "read_deed" vz A.lP A.gi
 vM:Binds K A.gi ["row"] []
 wI:mg "words_of_text"=some (.ref A.kT)
 nI:Fun K "words_of_text" "words_of_text" nD A.kT A.gO
 wJ:Binds K A.gO ["text"] []
 wK:mg "words_of_edit"=some (.ref A.kU)
 nJ:Fun K "words_of_edit" "words_of_edit" nF A.kU A.gP
 wL:Binds K A.gP ["edit"] []
 yn:mg "words_behind"=some (.ref A.mM)
 oQ:Fun K "words_behind" "words_behind" ju A.mM A.iF
 yo:Binds K A.iF ["deed"] []
 oR:mg "show_deed"=some (.ref A.jh)
 kA:Fun K "show_deed" "show_deed" vA A.jh A.eK
 oS:Binds K A.eK ["deed"] []
 Hz:mg "is_kept"=some (.ref A.BP)
 AK:Fun K "is_kept" "is_kept" AE A.BP A.rb
 HA:Binds K A.rb ["need","ayes","noes"] []
 uP:mg "do_deed"=some (.ref A.sN)
 pZ:Fun K "do_deed" "do_deed" AF A.sN A.jz
 uQ:Binds K A.jz ["chamber","deed"] []
 yq:mg "do_row"=some (.ref A.BQ)
 sS:Fun K "do_row" "do_row" C3 A.BQ A.pU
 yr:Binds K A.pU ["chamber","row","number"] []
 Dp:mg "replay"=some (.ref A.replay)
 yt:Fun K "replay" "replay" C4 A.replay A.uG
 Dq:Binds K A.uG ["seats","rows"] []
 Dr:mg "are_alike"=some (.ref A.uH)
 vN:Fun K "are_alike" "are_alike" vB A.uH A.mO
 Ds:Binds K A.mO ["one","other"] []
 sU:mg "parted"=some (.ref A.parted)
 oU:Fun K "parted" "parted" C5 A.parted A.pV
 sV:Binds K A.pV ["seats","one","other"] []
 vO:mg "_law_cell_at"=some (.ref A.uI)
 oV:Fun K "_law_cell_at" "_law_cell_at" vC A.uI A.mP
 vP:Binds K A.mP ["_law_script","_law_k"] []
 AL:mg "_law_whole"=some (.ref A.BR)
 uR:Fun K "_law_whole" "_law_whole" AG A.BR A.rg
 AM:Binds K A.rg ["_law_found"] []
 yu:mg "_law_stream"=some (.ref A.yg)
 rz:Fun K "_law_stream" "_law_stream" yf A.yg A.oF
 yw:Binds K A.oF ["_law_cell","_law_many"] []
 Dt:mg "_law_deed"=some (.ref A.EW)
 yx:Fun K "_law_deed" "_law_deed" C6 A.EW A.uJ
 Du:Binds K A.uJ ["_law_cell","_law_seats"] []
 J8:mg "_law_done"=some (.ref A.BS)
 Dv:Fun K "_law_done" "_law_done" C7 A.BS A.pW
 J9:Binds K A.pW ["_law_chamber","_law_deed_here"] []
 vQ:mg "_law_minutes"=some (.ref A.uK)
 oW:Fun K "_law_minutes" "_law_minutes" vD A.uK A.mQ
 vR:Binds K A.mQ ["_law_deeds","_law_seats"] []
 AN:mg "_law_looks"=some (.ref A.BU)
 uS:Fun K "_law_looks" "_law_looks" uA A.BU A.rh
 AO:Binds K A.rh ["_law_rows","_law_seats"] []
 LY:mg "_law_due"=some (.ref A.JJ)
 F5:Fun K "_law_due" "_law_due" F3 A.JJ A.yh
 LZ:Binds K A.yh ["_law_one","_law_other"] []
 Dw:mg "_law_same"=some (.ref A.EX)
 yy:Fun K "_law_same" "_law_same" C9 A.EX A.uL
 Dx:Binds K A.uL ["_law_found","_law_due_here"] []
 vS:mg "_law_refused"=some (.ref A.pY)
 oX:Fun K "_law_refused" "_law_refused" vE A.pY A.jb
 vT:Binds K A.jb ["_law_seats","_law_one","_law_other","_law_number"] []
 vU:mg "_law_spoiled"=some (.ref A.uM)
 oY:Fun K "_law_spoiled" "_law_spoiled" vF A.uM A.mR
 vV:Binds K A.mR ["_law_rows","_law_draw"] []
 QE:mg "law"=some (.ref A.law)
 QF:Fun K "law" "law" F4 A.law A.JK
 QG:∀(s:Shared) (v:Value),BindsTo s A.JK ⟨[v],[]⟩ [("_law_script",v)]
 sX:mg "range"=none
 iL:mg "list"=none
 M8:mg "str"=none
 F6:mg "int"=none
 OG:mg "bool"=none
 mT:mg "isinstance"=none
 QH:mg "max"=none
 Ka:mg "min"=none
 eR:mg "len"=none
 Kb:mg "all"=none
 QI:mg "any"=none
 QJ:mg "ord"=none
 Kc:mg "sorted"=none
 Dy:mg "enumerate"=none
 HB:mg "FIGURES"=some (.str (ar "0123456789") A.EY)
 yz:mg "MOST_FIGURES"=some (.int 10 A.wD)
 BX:mg "MOST_SIGNS"=some (.int 20 A.zT)
 yA:mg "LAST_SITTING"=some (.int 999999999 A.wF)
 HC:mg "PERCENT"=some (.int 37 A.EZ)
 OH:mg "LONE"=some (.ref A.BV)
 OI:∀H,SqT K H A.BV [.str (ar "close"),.str (ar "lay"),.str (ar "rest"),.str (ar "drop")]
 BY:mg "CLOSED_BAR"=some (.int 4 A.zU)
 yB:mg "Matter"=some (.ref (A.C 0))
 yC:mg "Change"=some (.ref (A.C 1))
 Kd:mg "Mend"=some (.ref (A.C 2))
 Dz:mg "PutOff"=some (.ref (A.C 3))
 F7:mg "Close"=some (.ref (A.C 4))
 M9:mg "Lay"=some (.ref (A.C 5))
 Ke:mg "Rest"=some (.ref (A.C 6))
 F8:mg "Point"=some (.ref (A.C 7))
 cl:∀k,k < 8->Cls K (A.C k)
 F9:mg "RANKS"=some (.ref A.tab)
 tb:N4 P K A.tab
 rk:∀k,k < 8->∃t,US K A.tab (nm k)=some (some (.int k t))
 mU:∀k,k < 8->Meth K (A.C k) "kind" (A.fk k)
 OJ:∀k,k < 8->Meth K (A.C k) "need" (A.fn k)
 E2:∀k,k < 8->Meth K (A.C k) "told" (A.ft k)
 OK:∀k,k < 8->Meth K (A.C k) "rank" A.f_r
 yD:Mk K (A.C 0) A.Oz
 yE:Mk K (A.C 1) A.OA
 Kf:Mk K (A.C 2) A.OB
 DA:Mk K (A.C 3) A.OC
 Ga:Mk K (A.C 7) A.OD
 Sx:Fun K "kind" "Matter.kind" qp A.Og A.JL
 Sy:Fun K "kind" "Change.kind" qq A.Oh A.JM
 Sz:Fun K "kind" "Mend.kind" vo A.Oi A.JN
 SA:Fun K "kind" "PutOff.kind" qr A.Oj A.JO
 SD:Fun K "kind" "Close.kind" sx A.Ol A.JP
 SE:Fun K "kind" "Lay.kind" xN A.Om A.JQ
 SG:Fun K "kind" "Rest.kind" vp A.Oo A.JR
 SH:Fun K "kind" "Point.kind" sy A.Oq A.JS
 F_r:Fun K "rank" "Motion.rank" qt A.f_r A.LX
 F_n:Fun K "need" "Motion.need" qu A.f_n A.BW
 SI:Fun K "need" "Close.need" sC A.Ot A.JT
 F_t:Fun K "told" "Motion.told" qv A.f_t A.JU
 SJ:Fun K "told" "Matter.told" qw A.Ou A.JV
 SK:Fun K "told" "Change.told" qy A.Ov A.JW
 SM:Fun K "told" "Mend.told" vq A.Ow A.JX
 SN:Fun K "told" "PutOff.told" qz A.Ox A.JY
 SO:Fun K "told" "Point.told" sD A.Oy A.JZ
 SQ:Fun K "__init__" "Matter.__init__" qA A.Oz A.J0
 SR:Fun K "__init__" "Change.__init__" qB A.OA A.J1
 SS:Fun K "__init__" "Mend.__init__" vt A.OB A.J2
 SU:Fun K "__init__" "PutOff.__init__" qC A.OC A.J3
 SV:Fun K "__init__" "Point.__init__" sE A.OD A.J4
 mV:∀k,k < 8->Binds K (A.fkd k) ["self"] []
 OL:∀k,k < 8->Binds K (A.fnd k) ["self"] []
 E3:∀k,k < 8->Binds K (A.ftd k) ["self"] []
 OM:∀k,k < 8->Binds K A.LX ["self"] []
 ON:Binds K A.J0 ["self","text"] []
 na0:cD K (A.C 0) "text"
 OO:Binds K A.J1 ["self","edit"] []
 na1:cD K (A.C 1) "edit"
 QK:Binds K A.J2 ["self","edit"] []
 na2:cD K (A.C 2) "edit"
 QL:Binds K A.J3 ["self","sitting"] []
 na3:cD K (A.C 3) "sitting"
 QM:Binds K A.J4 ["self","clause"] []
 na7:cD K (A.C 7) "clause"
 mkn:∀k,k=4\/k=5\/k=6->MkN K (A.C k)
 lQ:mg "Chamber"=some (.ref A.aq)
 ag:Cls K A.aq
 lR:Mk K A.aq A.jA
 yF:Fun K "__init__" "Chamber.__init__" nZ A.jA A.iG
 eC:Binds K A.iG ["self","seats"] []
 yG:Meth K A.aq "move" A.jB
 yH:Fun K "move" "Chamber.move" n8 A.jB A.iH
 yI:Binds K A.iH ["self","told"] []
 yJ:Meth K A.aq "vote" A.jC
 yK:Fun K "vote" "Chamber.vote" oe A.jC A.iI
 yL:Binds K A.iI ["self","ayes","noes"] []
 yM:Meth K A.aq "drop" A.jD
 yN:Fun K "drop" "Chamber.drop" og A.jD A.iJ
 yO:Binds K A.iJ ["self"] []
 yP:Meth K A.aq "take" A.jE
 yQ:Fun K "take" "Chamber.take" oh A.jE A.iK
 yR:Binds K A.iK ["self","number"] []
 iM:Meth K A.aq "state" A.fq
 wM:Fun K "state" "Chamber.state" iD A.fq A.eM
 iN:Binds K A.eM ["self"] []
 lS:Meth K A.aq "motion" A.eN
 lT:Fun K "motion" "Chamber.motion" lF A.eN A.d5
 lU:Binds K A.d5 ["self","number"] []
 gD:Meth K A.aq "all_motions" A.cO
 nO:Fun K "all_motions" "Chamber.all_motions" dW A.cO A.cE
 gF:Binds K A.cE ["self"] []
 sY:Meth K A.aq "minutes" A.gj
 sZ:Fun K "minutes" "Chamber.minutes" j7 A.gj A.fA
 tf:Binds K A.fA ["self"] []
 kB:Meth K A.aq "pending" A.gk
 tj:Fun K "pending" "Chamber.pending" fY A.gk A.fB
 kD:Binds K A.fB ["self"] []
 oZ:Meth K A.aq "told_aside" A.eu
 o8:Fun K "told_aside" "Chamber.told_aside" ib A.eu A.dX
 o9:Binds K A.dX ["self","number"] []
 il:Meth K A.aq "require_can_be_made" A.cw
 ip:Fun K "require_can_be_made" "Chamber.require_can_be_made" dH A.cw A.b8
 iq:Binds K A.b8 ["self","told"] []
 eS:Meth K A.aq "require_pending" A.cS
 jV:Fun K "require_pending" "Chamber.require_pending" eQ A.cS A.cN
 eT:Binds K A.cN ["self"] []
 lV:Meth K A.aq "decide" A.gQ
 uT:Fun K "decide" "Chamber.decide" lG A.gQ A.gm
 lW:Binds K A.gm ["self","word"] []
 gs:Meth K A.aq "end_decision" A.dO
 mW:Fun K "end_decision" "Chamber.end_decision" fZ A.dO A.dB
 gu:Binds K A.dB ["self","deed"] []
 qg:Meth K A.aq "carry_out" A.eV
 qh:Fun K "carry_out" "Chamber.carry_out" iS A.eV A.ez
 qi:Binds K A.ez ["self","motion"] []
 lX:Meth K A.aq "lay_on_matter" A.dC
 lY:Fun K "lay_on_matter" "Chamber.lay_on_matter" fK A.dC A.dj
 lZ:Binds K A.dj ["self","edit"] []
 l4:Meth K A.aq "lay_on_change" A.dD
 l5:Fun K "lay_on_change" "Chamber.lay_on_change" fL A.dD A.dn
 l6:Binds K A.dn ["self","edit"] []
 iX:Meth K A.aq "put_aside" A.eW
 qj:Fun K "put_aside" "Chamber.put_aside" iT A.eW A.eA
 iY:Binds K A.eA ["self","until"] []
 l7:cD K A.aq "seats"
 bJ:cD K A.aq "sitting"
 bW:cD K A.aq "closed"
 bw:cD K A.aq "made"
 bg:cD K A.aq "pile"
 bS:cD K A.aq "aside"
 fD:cD K A.aq "decided"
 gv:cD K A.aq "first_texts"
 dY:cD K A.aq "edits_kept"
 cV:cD K A.aq "rows"
 cy:mg "ChamberError"=some (.ref A.bB)
 L3:mg "NoFit"=some (.ref A.kh)
 DB:mg "Barred"=some (.ref A.ig)
 E4:mg "NoMatter"=some (.ref A.gR)
 E5:mg "NoChange"=some (.ref A.gS)
 E6:mg "NotLater"=some (.ref A.eB)
 HD:mg "Nothing"=some (.ref A.gU)
 HE:mg "TooMany"=some (.ref A.ji)
 HF:mg "NoAside"=some (.ref A.jj)
 Kg:mg "NotYet"=some (.ref A.ij)
 yS:mg "NoNumber"=some (.ref A.gW)
 BZ:mg "NoRow"=some (.ref A.bC)
 dQ:M5 K A.bB
 QN:jo K A.kh
 Kh:Bu K A.kh
 nP:T4 K (.ref A.kh) (.ref A.bB)=some true
 Ki:Ua K (.ref A.kh) (.ref A.bC)=some false
 Na:jo K A.gR
 DC:Bu K A.gR
 k9:T4 K (.ref A.gR) (.ref A.bB)=some true
 Gb:Ua K (.ref A.gR) (.ref A.bC)=some false
 Nb:jo K A.gS
 DD:Bu K A.gS
 lb:T4 K (.ref A.gS) (.ref A.bB)=some true
 Gd:Ua K (.ref A.gS) (.ref A.bC)=some false
 OP:jo K A.gU
 E7:Bu K A.gU
 l8:T4 K (.ref A.gU) (.ref A.bB)=some true
 HG:Ua K (.ref A.gU) (.ref A.bC)=some false
 OQ:jo K A.ji
 E8:Bu K A.ji
 l9:T4 K (.ref A.ji) (.ref A.bB)=some true
 HI:Ua K (.ref A.ji) (.ref A.bC)=some false
 OR:jo K A.jj
 E9:Bu K A.jj
 md:T4 K (.ref A.jj) (.ref A.bB)=some true
 HJ:Ua K (.ref A.jj) (.ref A.bC)=some false
 Nc:jo K A.gW
 vW:Bu K A.gW
 lh:T4 K (.ref A.gW) (.ref A.bB)=some true
 Ge:Ua K (.ref A.gW) (.ref A.bC)=some false
 PQ:jo K A.ig
 p0:ur K A.ig A.yi "bar"
 Fb:Fun K "__init__" "Barred.__init__" qD A.yi A.uN
 yT:Binds K A.uN ["self","bar"] []
 PR:Hn K A.ig "bar"
 mX:T4 K (.ref A.ig) (.ref A.bB)=some true
 Iv:Ua K (.ref A.ig) (.ref A.bC)=some false
 Nd:jo K A.eB
 pd:ur K A.eB A.rj "sitting"
 B0:Fun K "__init__" "NotLater.__init__" nj A.rj A.oG
 B1:Binds K A.oG ["self","sitting"] []
 Nf:Hn K A.eB "sitting"
 lj:T4 K (.ref A.eB) (.ref A.bB)=some true
 Gf:Ua K (.ref A.eB) (.ref A.bC)=some false
 PU:jo K A.ij
 uU:ur K A.ij A.yj "sitting"
 Fc:Fun K "__init__" "NotYet.__init__" qE A.yj A.uO
 Fd:Binds K A.uO ["self","sitting"] []
 PV:Hn K A.ij "sitting"
 mY:T4 K (.ref A.ij) (.ref A.bB)=some true
 Iw:Ua K (.ref A.ij) (.ref A.bC)=some false
 Kj:jo K A.bC
 mf:ur K A.bC A.sO "row"
 AQ:Fun K "__init__" "NoRow.__init__" sF A.sO A.oH
 AR:Binds K A.oH ["self","row"] []
 DE:Hn K A.bC "row"
 gG:T4 K (.ref A.bC) (.ref A.bB)=some true
 yU:Ua K (.ref A.bC) (.ref A.bC)=some true
theorem sl (n:Nat)(h:n<=64:=by decide):n<=eg:=ra h (by decide)
abbrev bl1:Str:=ar " "
def Asc (x:Str):Prop:=∀c∈x.cps.toList,c < 128
theorem Asc.ok {x:Str}(h:Asc x):TX x=true:=by
 unfold TX;rw[Array.all_eq_true];intro i hi;have:=h x.cps[i] (by simp)
 exact decide_eq_true (by omega)
theorem jI {sep:Str}(hs:Asc sep):∀ws:List Str,(∀w∈ws,Asc w)->Asc (ki sep ws)
 |[],_=>λc hc=>by
  have:c∈([]:List Nat):=hc;cases this
 |[x],h=>h x gc
 |x::y::r,h=>λc hc=>by
  have hc':c∈((x++sep)++ki sep (y::r)).cps.toList:=hc;rw[cK,cK,Vi,Vi]at hc';rcases hc' with (h1 | h1) | h1
  ·exact h x gc c h1
  ·exact hs c h1
  ·exact jI hs (y::r) (λw hw=>h w (kf _ hw)) c h1
structure Sh (n:Nat)(x:Str):Prop where
 asc:Asc x
 len:x.length<=n
structure Ed where
 k:Nat
 at_:Int
 th:Str
def kn:Nat->Str
 | 0=>ar "put"
 | 1=>ar "cut"
 |_=>ar "turn"
def gw (e:Ed):List V:=match e.k with
 | 0=>[.str (kn 0),.int e.at_,.str e.th]
 | 1=>[.str (kn 1),.int e.at_]
 |_=>[.str (kn 2),.int e.at_,.str e.th]
def edD (e:Ed):PyData:=match e.k with
 | 0=>.tuple [.str (kn 0),.int e.at_,.str e.th]
 | 1=>.tuple [.str (kn 1),.int e.at_]
 |_=>.tuple [.str (kn 2),.int e.at_,.str e.th]
structure tw (e:Ed):Prop where
 k3:e.k=0\/e.k=1\/e.k=2
 lo:-9999999999<=e.at_
 hi:e.at_<=9999999999
 th:Sh 100000 e.th
def gx (n:Nat)(e:Ed):Bool:=decide (0<=e.at_) && decide (e.at_ < (n:Int)+(if e.k=0 then 1 else 0))
def bV (xs:List Str)(e:Ed):List Str:=match e.k with
 | 0=>xs.take e.at_.toNat++e.th::xs.drop e.at_.toNat
 | 1=>xs.eraseIdx e.at_.toNat
 |_=>xs.set e.at_.toNat e.th
theorem B2 (e:Ed):atI (gw e) 0=some (.str (kn e.k)):=by
 unfold gw;split
 ·rename_i h;rw[h];rfl
 ·rename_i h;rw[h];rfl
 ·rename_i h1 h2;have:kn e.k=kn 2:=by
   unfold kn;split
   ·rename_i h;exact absurd h h1
   ·rename_i h;exact absurd h h2
   ·rfl
  rw[this];rfl
theorem B3 (e:Ed):atI (gw e) 1=some (.int e.at_):=by
 unfold gw;split <;> rfl
theorem B4 {e:Ed}(h:e.k≠1):atI (gw e) 2=some (.str e.th):=by
 unfold gw;split
 ·rfl
 ·rename_i z;exact absurd z h
 ·rfl
theorem Fe (e:Ed){K:ba}{H:Hp}{t:Addr}(h:SqT K H t (gw e)):DV K H (edD e) (.ref t):=by
 unfold gw at h;unfold edD;split
 ·rename_i z;rw[z]at h;unfold DV;exact⟨t,_,rfl,h,by unfold DVs;exact⟨_,_,rfl,by unfold DV;rfl,by unfold DVs;exact⟨_,_,rfl,by unfold DV;rfl,by unfold DVs;exact⟨_,_,rfl,by unfold DV;rfl,by unfold DVs;rfl⟩⟩⟩⟩
 ·rename_i z;rw[z]at h;unfold DV;exact⟨t,_,rfl,h,by unfold DVs;exact⟨_,_,rfl,by unfold DV;rfl,by unfold DVs;exact⟨_,_,rfl,by unfold DV;rfl,by unfold DVs;rfl⟩⟩⟩
 ·rename_i z1 z2;split at h
  ·rename_i z;exact absurd z z1
  ·rename_i z;exact absurd z z2
  ·unfold DV;exact⟨t,_,rfl,h,by unfold DVs;exact⟨_,_,rfl,by unfold DV;rfl,by unfold DVs;exact⟨_,_,rfl,by unfold DV;rfl,by unfold DVs;exact⟨_,_,rfl,by unfold DV;rfl,by unfold DVs;rfl⟩⟩⟩⟩
theorem AS {i:Int}(h0:-9999999999<=i)(h1:i<=9999999999):i.natAbs.log2 < 1920:=by
 have e40:(2:Nat) ^ 40=1099511627776:=by decide
 have h:i.natAbs < 2 ^ 40:=by omega
 by_cases hz:i.natAbs=0
 ·rw[hz];decide
 ·exact Nat.lt_trans ((Nat.log2_lt hz).mpr h) (by decide)
theorem Kk {e:Ed}(o:tw e):(edD e).showable=true/\(edD e).hasDict=false/\(edD e).depth<=60:=by
 have lg:=AS o.lo o.hi;unfold edD;split <;> simp[PyData.showable,PyData.showableAll,PyData.hasDict,PyData.hasDictAll,TN,TC,lg]
theorem L4 {i:Int}(h0:-9999999999<=i)(h1:i<=9999999999):(ar (toString i)).length<=1921:=by
 have h:=int_text_length_le (a:=i) (k:=1920) (by decide) (AS h0 h1)
 have e:(ar (toString i)).length=(toString i).length:=by first | exact PySem.ofString_length _ | exact ofString_length _
 omega
theorem Sh.rep {n:Nat}{x:Str}(s:Sh n x):(reprText x).length<=10 * n+2:=by
 have h:=StrLaws.reprText_len x λc hc=>Nat.lt_trans (s.asc c hc) (by decide)
 have:=s.len;omega
theorem Kl (k:Nat):Sh 4 (kn k):=by
 unfold kn;split <;> exact⟨by unfold Asc;trivial,by trivial⟩
theorem L5 {e:Ed}(o:tw e):(edD e).shown.length<=1100000:=by
 have a:=(Kl 0).rep;have b:=(Kl 1).rep;have c:=(Kl 2).rep;have d:=o.th.rep;have i:=L4 o.lo o.hi;unfold edD;split
 ·have h:=tupleText_len_le [reprText (kn 0),ar (toString e.at_),reprText e.th];simp only[ko,UJ,List.sum_cons,List.sum_nil,ky,List.length_nil]at h;show (tupleText [reprText (kn 0),ar (toString e.at_),reprText e.th]).length<=_;omega
 ·have h:=tupleText_len_le [reprText (kn 1),ar (toString e.at_)];simp only[ko,UJ,List.sum_cons,List.sum_nil,ky,List.length_nil]at h;show (tupleText [reprText (kn 1),ar (toString e.at_)]).length<=_;omega
 ·have h:=tupleText_len_le [reprText (kn 2),ar (toString e.at_),reprText e.th];simp only[ko,UJ,List.sum_cons,List.sum_nil,ky,List.length_nil]at h;show (tupleText [reprText (kn 2),ar (toString e.at_),reprText e.th]).length<=_;omega
theorem B5 {e:Ed}(o:tw e):(V.str (kn e.k)=V.str (ar "put"))↔e.k=0:=by
 rcases o.k3 with h | h | h <;> rw[h] <;> trivial
theorem uV {e:Ed}(o:tw e):(V.str (kn e.k)=V.str (ar "cut"))↔e.k=1:=by
 rcases o.k3 with h | h | h <;> rw[h] <;> trivial
def OS (K:ba):Sp:=λvs H Q _=>∃(a t:Addr) (xs:List V) (e:Ed),vs=[.ref a,.ref t]/\SqL K H a xs/\SqT K H t (gw e)/\tw e/\Q (.bl (gx xs.length e)) H
def QO (A:Adr)(K:ba):Sp:=λvs H Q E=>∃(a t:Addr) (xs:List V) (e:Ed),vs=[.ref a,.ref t]/\SqL K H a xs/\SqT K H t (gw e)/\tw e/\(gx xs.length e=true->Q .non H)/\(gx xs.length e=false->E (.ref A.kh) none H)
def OT (A:Adr)(K:ba):Sp:=λvs H Q E=>∃(a t:Addr) (xs:List Str) (e:Ed),vs=[.ref a,.ref t]/\SqL K H a (xs.map V.str)/\xs.length<=1000/\SqT K H t (gw e)/\tw e /\
 (gx xs.length e=true->∀p,H p=none->Q (.ref p) (upd H p (.lst ((bV xs e).map V.str))))/\(gx xs.length e=false->E (.ref A.kh) none H)
theorem DF {n:Nat}{e:Ed}:gx n e=true↔0<=e.at_/\e.at_ < (n:Int)+(if e.k=0 then 1 else 0):=by
 unfold gx;rw[TH,decide_eq_true_iff,decide_eq_true_iff]
section
variable{P:km}{w:World}{K:ba}{mg:Str->Option Value}{base:Heap}{A:Adr}
theorem Km {H H':Hp}{t:Addr}{xs:List V}(s:aT H H')(h:SqT K H t xs):SqT K H' t xs:=by
 rcases h with (h | ⟨o,h⟩) | h
 ·exact .inl (.inl (s _ _ h))
 ·exact .inl (.inr ⟨o,s _ _ h⟩)
 ·exact .inr h
theorem L6 (T:Txt w.params K mg A):FnOk P w K mg base CX0 1 A.fits A.BL ["things","edit"] (OS K):=by
 refine T.J5.ok BD (λvs H Q E h=>?_) (λcdv A' outer s H vs Q E hr h=>?_)
 ·obtain⟨a,t,xs,e,rfl,_⟩:=h;rfl
 ·obtain⟨a,t,xs,e,rfl,ha,ht,o,q⟩:=h;refine⟨_,(ak (aY (i:=2) BD.nd rfl (Tp rfl) (bh bt (by rfl) T.eR cQ (aa (pv 0) af)))
 (ak (bE (aQ bx (aU bq (pv 1) aj (λ_ _=>rfl)) aw (aH _))
 (ai (aY (i:=2) BD.nd rfl (Tp rfl) (bA cv (pv 2) aj)))
 aO)
 (ai (aB (rR vg xn aj (aU bq (pv 1) aj (λ_ _=>rfl)) (pv 2)))))),?_⟩
  try dsimp only[br]
  refine⟨_,rfl,a,xs,rfl,.inl ha,?_⟩;refine ixv rfl ht (B2 e) ⟨rfl,_,rfl,eX (λz=>?_) (λz=>?_)⟩
  ·have hk:e.k=0:=(B5 o).mp (of_decide_eq_true z);refine⟨_,rfl,_,_,rfl,rfl,?_⟩;unfold gx at q;rw[if_pos hk]at q;refine ixv rfl ht (B3 e) ⟨_,_,rfl,rfl,_,rfl,eX (λz1=>?_) (λz1=>?_)⟩
   ·have h1:0<=e.at_:=of_decide_eq_true z1;rw[decide_eq_true h1,Bool.true_and]at q;exact⟨_,rfl,_,_,rfl,rfl,q⟩
   ·have h1:¬0<=e.at_:=λy=>z1 (decide_eq_true y)
    rw[decide_eq_false h1,Bool.false_and]at q;exact q
  ·have hk:¬e.k=0:=λy=>z (decide_eq_true ((B5 o).mpr y))
   unfold gx at q;rw[if_neg hk,Int.add_zero]at q;refine ixv rfl ht (B3 e) ⟨_,_,rfl,rfl,_,rfl,eX (λz1=>?_) (λz1=>?_)⟩
   ·have h1:0<=e.at_:=of_decide_eq_true z1;rw[decide_eq_true h1,Bool.true_and]at q;exact⟨_,rfl,_,_,rfl,rfl,q⟩
   ·have h1:¬0<=e.at_:=λy=>z1 (decide_eq_true y)
    rw[decide_eq_false h1,Bool.false_and]at q;exact q
theorem jJ (T:Txt w.params K mg A):FnOk P w K mg base (CXX P w) 2 A.oB A.jw ["things","edit"] (QO A K):=by
 refine T.hV.okX xZ (λvs H Q E h=>?_) (λcdv A' outer s H vs Q E hr h=>?_)
 ·obtain⟨a,t,xs,e,rfl,_⟩:=h;rfl
 ·obtain⟨a,t,xs,e,rfl,ha,ht,o,q1,q2⟩:=h;have hgd:=hr.gd;have qk:=hr.units;refine⟨_,(aJ (b6 (kM (kL (aW (L6 T) hr rfl T.OE T.J5.kp T.OF .nil aV (aa (pv 0) (aa (pv 1) af)))))
 (aJ (fJ T.Kh rfl rfl T.L3 (aa (Qv hgd qk (pv 1)) af)))
 (i3 aO))),?_⟩
  try dsimp only[br]
  refine⟨_,rfl,_,rfl,a,t,xs,e,rfl,ha,ht,o,_,rfl,?_⟩;cases hf:gx xs.length e with
  |true=>exact df (q1 hf)
  |false =>
   refine aL λGq gq=>?_
   obtain⟨s1,s2,s3⟩:=Kk o;have s4:=L5 o;refine gq ?_;refine dN ⟨_,rfl,t,edD e,rfl,Fe e ht,s1,s2,s3,ra (Nat.add_le_add_right s4 _) (by trivial),λz=>?_⟩
   exact⟨(sl 1),q2 hf⟩
theorem Gg (T:Txt w.params K mg A):FnOk P w K mg base (CXX P w) 3 A.laid A.BM ["things","edit"] (OT A K):=by
 refine T.E1.okX w4 (λvs H Q E h=>?_) (λcdv A' outer s H vs Q E hr h=>?_)
 ·obtain⟨a,t,xs,e,rfl,_⟩:=h;rfl
 ·obtain⟨a,t,xs,e,rfl,ha,hz,ht,o,q1,q2⟩:=h;refine⟨_,(au (bD (bu (jJ T) hr rfl T.kW T.hV.kp T.kX (pax (aa (pv 0) (aa (pv 1) af)))))
 (au (psx (aY (i:=2) w4.nd rfl (Tp rfl) (aU bq (pv 1) aj (λ_ _=>rfl))))
 (au (psx (aY (i:=3) w4.nd rfl (Tp rfl) (aU bq (pv 1) aj (λ_ _=>rfl))))
 (au (psx (aY (i:=4) w4.nd rfl (Tp rfl) (bP bN (by rfl) T.iL fm (aa (pv 0) af))))
 (au (psx (bE (aQ bx (pv 2) aw (aH _))
 (ai (bF (fV Tj PySem.F.slot_list_insert PySem.F.type_list_insert G3 (pv 4) (aa (pv 3) (aa (aU bq (pv 1) aj (λ_ _=>rfl)) af)))))
 (ai (bE (aQ bx (pv 2) aw (aH _))
 (ai (bF (fV Tj PySem.F.slot_list_pop PySem.F.type_list_pop IW (pv 4) (aa (pv 3) af))))
 (ai (Ek (aU bq (pv 1) aj (λ_ _=>rfl)) (NC (pv 4) (pv 3) set_list)))))))
 (aJ (psx (aB (pv 4))))))))),?_⟩
  try dsimp only[br]
  refine⟨_,rfl,_,rfl,a,t,_,e,rfl,ha,ht,o,λhf=>?_,λhf=>q2 (by rw[bo]at hf;exact hf)⟩
  refine aL λGq gq=>?_
  rw[bo]at hf;obtain⟨f0,f1⟩:=DF.mp hf;have q:=q1 hf;have lim:(1001:Nat) < eg:=by decide
  obtain⟨n,hn⟩:∃n:Nat,e.at_=(n:Int):=⟨e.at_.toNat,by omega⟩
  refine gq ?_;refine ixv rfl ht (B2 e) ?_;refine ixv rfl ht (B3 e) ?_;refine⟨_,rfl,a,_,rfl,.inl ha,λp hp=>?_⟩
  have sp:aT H (upd H p (.lst (xs.map V.str))):=av hp;have ht':=Km sp ht;have q:=q p hp;rw[hn];rw[hn]at f1;refine⟨_,rfl,rfl,_,rfl,eX (λz=>?_) (λz=>?_)⟩
  ·have hk:e.k=0:=(B5 o).mp (of_decide_eq_true z);rw[if_pos hk]at f1;refine⟨_,rfl,.inl ⟨rfl,_,SqL.of ae⟩,_,rfl,ixv rfl ht' (B4 (by omega)) ⟨p,_,_,n,_,rfl,rfl,rfl,ae,(by rw[bo];omega),(by rw[bo];omega),?_⟩⟩
   rw[jW];refine⟨_,rfl,?_⟩;have e1:(bV xs e).map V.str=(xs.map V.str).take n++V.str e.th::(xs.map V.str).drop n:=by
    unfold bV;rw[hk,hn];simp
   rw[e1]at q;exact q
  ·have hk0:¬e.k=0:=λy=>z (decide_eq_true ((B5 o).mpr y))
   rw[if_neg hk0,Int.add_zero]at f1;have hlt:n < xs.length:=by omega
   refine⟨_,rfl,rfl,_,rfl,eX (λz2=>?_) (λz2=>?_)⟩
   ·have hk:e.k=1:=(uV o).mp (of_decide_eq_true z2);refine⟨_,rfl,.inl ⟨rfl,_,SqL.of ae⟩,_,rfl,p,_,(n:Int),n,_,rfl,rfl,ae,by omega,by omega,?_,(by rw[sr (by rw[bo];exact hlt)]),?_⟩
    ·rw[bo];exact(Bd (by unfold ixN;rw[if_pos (by omega),if_pos (by omega)];rfl)).1
    ·rw[jW];refine⟨_,rfl,?_⟩;have e1:(bV xs e).map V.str=(xs.map V.str).eraseIdx n:=by
      unfold bV;rw[hk,hn];exact As V.str xs _
     rw[e1]at q;exact q
   ·have hk1:¬e.k=1:=λy=>z2 (decide_eq_true ((uV o).mpr y))
    have hk:e.k=2:=by have:=o.k3;omega
    refine ixv rfl ht' (B4 (by omega)) ⟨_,rfl,_,rfl,p,_,(n:Int),n,rfl,rfl,ae,?_,?_⟩
    ·rw[bo];unfold ixN;rw[if_pos (by omega),if_pos (by omega)];rfl
    ·rw[jW];refine⟨_,rfl,?_⟩;have e1:(bV xs e).map V.str=(xs.map V.str).set n (V.str e.th):=by
      unfold bV;rw[hk,hn];simp[List.map_set]
     rw[e1]at q;exact q
end
mutual
theorem eqv_refl:∀d:PyData,d.canLay0=true->T2 d d=true
 | .none,_=>by simp[T2]
 | .bool _,_=>by simp[T2]
 | .int _,_=>by simp[T2]
 | .str _,_=>by simp[T2]
 | .list xs,h=>by simp only[T2];exact eqvAll_refl xs (by simpa [Tt] using h)
 | .tuple xs,h=>by simp only[T2];exact eqvAll_refl xs (by simpa [Tt] using h)
 | .dict _,h=>by simp[Tt]at h
theorem eqvAll_refl:∀xs:List PyData,me xs=true->Uy xs xs=true
 |[],_=>by simp[Uy]
 |x::xs,h=>by
  have h':x.canLay0=true/\me xs=true:=by simpa [me] using h
  simp only[Uy,eqv_refl x h'.1,eqvAll_refl xs h'.2,Ub]
end
theorem vX:∀k,k < 8->TX (nm k)=true
 | 0,_=>by trivial
 | 1,_=>by trivial
 | 2,_=>by trivial
 | 3,_=>by trivial
 | 4,_=>by trivial
 | 5,_=>by trivial
 | 6,_=>by trivial
 | 7,_=>by trivial
 |n+8,h=>absurd h (by omega)
def nd (k:Nat):Str:=if k=4 then ar "two thirds" else ar "more"
def rowOf (k:Nat)(v:V):List V:=match k with
 | 4=>[.str (nm 4)]
 | 5=>[.str (nm 5)]
 | 6=>[.str (nm 6)]
 |k=>[.str (nm k),v]
def mh (k:Nat)(v:V):List (Str×V):=match k with
 | 0=>[(ar "text",v)]
 | 1=>[(ar "edit",v)]
 | 2=>[(ar "edit",v)]
 | 3=>[(ar "sitting",v)]
 | 4=>[]
 | 5=>[]
 | 6=>[]
 |_=>[(ar "clause",v)]
theorem Gh {m:Str}(h:m≠ar "text"/\m≠ar "edit"/\m≠ar "sitting"/\m≠ar "clause")(k:Nat)(v:V):(mh k v).lookup m=none:=by
 obtain⟨h1,h2,h3,h4⟩:=h;have b1:(m == ar "text")=false:=beq_eq_false_iff_ne.mpr h1;have b2:(m == ar "edit")=false:=beq_eq_false_iff_ne.mpr h2;have b3:(m == ar "sitting")=false:=beq_eq_false_iff_ne.mpr h3;have b4:(m == ar "clause")=false:=beq_eq_false_iff_ne.mpr h4;unfold mh;split <;> simp[Vg,b1,b2,b3,b4]
theorem jc (k:Nat)(v:V):(mh k v).lookup (ar "kind")=none:=Gh (by trivial) k v
theorem L7 (k:Nat)(v:V):(mh k v).lookup (ar "rank")=none:=Gh (by trivial) k v
theorem L8 (k:Nat)(v:V):(mh k v).lookup (ar "need")=none:=Gh (by trivial) k v
theorem B6 (k:Nat)(v:V):(mh k v).lookup (ar "told")=none:=Gh (by trivial) k v
def dZ (k:Nat):Sp:=λvs H Q _=>∃m:Addr,vs=[.ref m]/\Q (.str (nm k)) H
def Kn (A:Adr):Sp:=λvs H Q _=>∃(m:Addr) (k:Nat) (dx:Addr) (fs:List (Str×V)),k < 8/\vs=[.ref m]/\H m=some (.ins (A.C k) dx fs)/\fs.lookup (ar "kind")=none/\Q (.int k) H
def B7 (k:Nat):Sp:=λvs H Q _=>∃m:Addr,vs=[.ref m]/\Q (.str (nd k)) H
def Gi (A:Adr):Sp:=λvs H Q _=>∃(m:Addr) (k:Nat) (dx:Addr) (fs:List (Str×V)),k < 8/\vs=[.ref m]/\H m=some (.ins (A.C k) dx fs)/\fs.lookup (ar "kind")=none/\∀p,H p=none->Q (.ref p) (upd H p (.tup [.str (nm k)]))
def w5 (A:Adr)(k:Nat)(a:Str):Sp:=λvs H Q _=>∃(m dx:Addr) (fs:List (Str×V)) (v:V),vs=[.ref m]/\H m=some (.ins (A.C k) dx fs)/\fs.lookup (ar "kind")=none/\fs.lookup a=some v/\∀p,H p=none->Q (.ref p) (upd H p (.tup [.str (nm k),v]))
def Ff (A:Adr)(k:Nat):Sp:=λvs H Q _=>1<=k/\∃(m dx:Addr) (v:V),vs=[.ref m]/\H m=some (.ins (A.C k) dx (mh k v))/\∀p,H p=none->Q (.ref p) (upd H p (.tup (rowOf k v)))
def B8 (A:Adr)(k:Nat):Sp:=λvs H Q _=>∃(m dx:Addr) (v:V),vs=[.ref m,v]/\H m=some (.ins (A.C k) dx [])/\Q .non (upd H m (.ins (A.C k) dx (mh k v)))
def Gj (A:Adr)(K:ba):Sp:=λvs H Q _=>∃(m dx L:Addr) (xs:List V),vs=[.ref m]/\H m=some (.ins (A.C 0) dx (mh 0 (.ref L)))/\SqL K H L xs/\∀p q,H p=none->H q=none->p≠q->Q (.ref q) (upd (upd H p (.lst xs)) q (.tup [.str (nm 0),.ref p]))
def L9 (A:Adr)(K:ba):Sp:=λvs H Q _=>∃(m dx L:Addr) (xs:List V),vs=[.ref m,.ref L]/\H m=some (.ins (A.C 0) dx [])/\SqL K H L xs/\∀p,H p=none->Q .non (upd (upd H p (.lst xs)) m (.ins (A.C 0) dx (mh 0 (.ref p))))
def Gk (A:Adr):Sp:=λvs H Q _=>∃(t:Addr) (k:Nat) (v:V),1<=k/\k < 8/\vs=[.ref t]/\H t=some (.tup (rowOf k v))/\∀m H',aT H H'->H m=none->(∃dx,H' m=some (.ins (A.C k) dx (mh k v)))->Q (.ref m) H'
def DG (A:Adr)(K:ba):Sp:=λvs H Q _=>∃(t L:Addr) (xs:List V),vs=[.ref t]/\H t=some (.tup [.str (nm 0),.ref L])/\SqL K H L xs /\
 ∀m p H',aT H H'->H m=none->H p=none->H' p=some (.lst xs)->(∃dx,H' m=some (.ins (A.C 0) dx (mh 0 (.ref p))))->Q (.ref m) H'
section
variable{P:km}{w:World}{K:ba}{mg:Str->Option Value}{base:Heap}{A:Adr}
theorem yV (T:Txt w.params K mg A):FnOk P w K mg base CX0 1 A.Og A.JL ["self"] (dZ 0):=by
 refine T.Sx.ok xJ (λvs H Q E h=>?_) (λcdv A' outer s H vs Q E hr h=>?_)
 ·obtain⟨m,rfl,_⟩:=h;rfl
 ·obtain⟨m,rfl,q⟩:=h;exact⟨_,(ai (aB aw)),q⟩
theorem yW (T:Txt w.params K mg A):FnOk P w K mg base CX0 1 A.Oh A.JM ["self"] (dZ 1):=by
 refine T.Sy.ok xK (λvs H Q E h=>?_) (λcdv A' outer s H vs Q E hr h=>?_)
 ·obtain⟨m,rfl,_⟩:=h;rfl
 ·obtain⟨m,rfl,q⟩:=h;exact⟨_,(ai (aB aw)),q⟩
theorem B9 (T:Txt w.params K mg A):FnOk P w K mg base CX0 1 A.Oi A.JN ["self"] (dZ 2):=by
 refine T.Sz.ok Bz (λvs H Q E h=>?_) (λcdv A' outer s H vs Q E hr h=>?_)
 ·obtain⟨m,rfl,_⟩:=h;rfl
 ·obtain⟨m,rfl,q⟩:=h;exact⟨_,(ai (aB aw)),q⟩
theorem yX (T:Txt w.params K mg A):FnOk P w K mg base CX0 1 A.Oj A.JO ["self"] (dZ 3):=by
 refine T.SA.ok xM (λvs H Q E h=>?_) (λcdv A' outer s H vs Q E hr h=>?_)
 ·obtain⟨m,rfl,_⟩:=h;rfl
 ·obtain⟨m,rfl,q⟩:=h;exact⟨_,(ai (aB aw)),q⟩
theorem zV (T:Txt w.params K mg A):FnOk P w K mg base CX0 1 A.Ol A.JP ["self"] (dZ 4):=by
 refine T.SD.ok zN (λvs H Q E h=>?_) (λcdv A' outer s H vs Q E hr h=>?_)
 ·obtain⟨m,rfl,_⟩:=h;rfl
 ·obtain⟨m,rfl,q⟩:=h;exact⟨_,(ai (aB aw)),q⟩
theorem DH (T:Txt w.params K mg A):FnOk P w K mg base CX0 1 A.Om A.JQ ["self"] (dZ 5):=by
 refine T.SE.ok C0 (λvs H Q E h=>?_) (λcdv A' outer s H vs Q E hr h=>?_)
 ·obtain⟨m,rfl,_⟩:=h;rfl
 ·obtain⟨m,rfl,q⟩:=h;exact⟨_,(ai (aB aw)),q⟩
theorem Ca (T:Txt w.params K mg A):FnOk P w K mg base CX0 1 A.Oo A.JR ["self"] (dZ 6):=by
 refine T.SG.ok BA (λvs H Q E h=>?_) (λcdv A' outer s H vs Q E hr h=>?_)
 ·obtain⟨m,rfl,_⟩:=h;rfl
 ·obtain⟨m,rfl,q⟩:=h;exact⟨_,(ai (aB aw)),q⟩
theorem zW (T:Txt w.params K mg A):FnOk P w K mg base CX0 1 A.Oq A.JS ["self"] (dZ 7):=by
 refine T.SH.ok zO (λvs H Q E h=>?_) (λcdv A' outer s H vs Q E hr h=>?_)
 ·obtain⟨m,rfl,_⟩:=h;rfl
 ·obtain⟨m,rfl,q⟩:=h;exact⟨_,(ai (aB aw)),q⟩
theorem jd (T:Txt w.params K mg A):∀k,k < 8->FnOk P w K mg base CX0 1 (A.fk k) (A.fkd k) ["self"] (dZ k)
 | 0,_=>yV T
 | 1,_=>yW T
 | 2,_=>B9 T
 | 3,_=>yX T
 | 4,_=>zV T
 | 5,_=>DH T
 | 6,_=>Ca T
 | 7,_=>zW T
 |n+8,h=>absurd h (by omega)
theorem Ma (T:Txt w.params K mg A):FnOk P w K mg base CX0 2 A.f_r A.LX ["self"] (Kn A):=by
 have eD:∀k,k < 8->FnOk P w K mg base CX0 1 (A.fk k) (A.fkd k) ["self"] (dZ k):=jd T;refine T.F_r.ok xO (λvs H Q E h=>?_) (λcdv A' outer s H vs Q E hr h=>?_)
 ·obtain⟨m,k,dx,fs,_,rfl,_⟩:=h;rfl
 ·obtain⟨m,k,dx,fs,hk,rfl,hm,hl,q⟩:=h;obtain⟨t,ht⟩:=T.rk k hk;refine⟨_,(ai (aB (aU Je (hJ (v:=V.ref A.tab) rfl T.F9 rfl) (cJ (pv 0) (T.cl k hk) (T.mU k hk) (eD k hk) hr (T.mV k hk) .nil aV) (λ_ _=>rfl)))),?_⟩
  try dsimp only[br]
  exact⟨_,rfl,m,dx,fs,rfl,hm,hl,m,rfl,A.tab,nm k,.int k,_,rfl,rfl,T.tb,ht,⟨_,rfl⟩,q⟩
theorem uW (T:Txt w.params K mg A):FnOk P w K mg base CX0 2 A.f_t A.JU ["self"] (Gi A):=by
 have eD:∀k,k < 8->FnOk P w K mg base CX0 1 (A.fk k) (A.fkd k) ["self"] (dZ k):=jd T;refine T.F_t.ok xQ (λvs H Q E h=>?_) (λcdv A' outer s H vs Q E hr h=>?_)
 ·obtain⟨m,k,dx,fs,_,rfl,_⟩:=h;rfl
 ·obtain⟨m,k,dx,fs,hk,rfl,hm,hl,q⟩:=h;refine⟨_,(ai (aB (bM (aa (cJ (pv 0) (T.cl k hk) (T.mU k hk) (eD k hk) hr (T.mV k hk) .nil aV) af)))),?_⟩
  try dsimp only[br]
  exact⟨_,rfl,m,dx,fs,rfl,hm,hl,m,rfl,(sl 1),λp hp=>q p hp⟩
theorem yY (T:Txt w.params K mg A):FnOk P w K mg base CX0 2 A.Ov A.JW ["self"] (w5 A 1 "edit"):=by
 have eD:∀k,k < 8->FnOk P w K mg base CX0 1 (A.fk k) (A.fkd k) ["self"] (dZ k):=jd T;refine T.SK.ok xS (λvs H Q E h=>?_) (λcdv A' outer s H vs Q E hr h=>?_)
 ·obtain⟨m,dx,fs,v,rfl,_⟩:=h;rfl
 ·obtain⟨m,dx,fs,v,rfl,hm,hl,hv,q⟩:=h;obtain⟨k,hk,ek⟩:∃k,k < 8/\k=1:=⟨1,by decide,rfl⟩
  have hm':H m=some (.ins (A.C k) dx fs):=by rw[ek];exact hm
  refine⟨_,(ai (aB (bM (aa (cJ (pv 0) (T.cl k hk) (T.mU k hk) (eD k hk) hr (T.mV k hk) .nil aV) (aa (aZ (pv 0) rfl) af))))),?_⟩
  try dsimp only[br]
  subst ek;exact⟨_,rfl,m,dx,fs,rfl,hm,hl,m,rfl,_,rfl,m,A.C 1,dx,fs,v,rfl,hm,T.cl 1 hk,T.na1,hv,(sl 2),λp hp=>q p hp⟩
theorem jK (T:Txt w.params K mg A):FnOk P w K mg base CX0 1 A.OA A.J1 ["self","edit"] (B8 A 1):=by
 refine T.SR.ok xV (λvs H Q E h=>?_) (λcdv A' outer s H vs Q E hr h=>?_)
 ·obtain⟨m,dx,v,rfl,_⟩:=h;rfl
 ·obtain⟨m,dx,v,rfl,hm,q⟩:=h;refine⟨_,(ai (dA (pv 0) (pv 1) rfl)),?_⟩
  try dsimp only[br]
  exact⟨_,rfl,_,rfl,m,A.C 1,dx,[],rfl,hm,T.cl 1 (by decide),T.na1,by decide,q⟩
theorem Cb (T:Txt w.params K mg A):FnOk P w K mg base CX0 2 A.Ow A.JX ["self"] (w5 A 2 "edit"):=by
 have eD:∀k,k < 8->FnOk P w K mg base CX0 1 (A.fk k) (A.fkd k) ["self"] (dZ k):=jd T;refine T.SM.ok BB (λvs H Q E h=>?_) (λcdv A' outer s H vs Q E hr h=>?_)
 ·obtain⟨m,dx,fs,v,rfl,_⟩:=h;rfl
 ·obtain⟨m,dx,fs,v,rfl,hm,hl,hv,q⟩:=h;obtain⟨k,hk,ek⟩:∃k,k < 8/\k=2:=⟨2,by decide,rfl⟩
  have hm':H m=some (.ins (A.C k) dx fs):=by rw[ek];exact hm
  refine⟨_,(ai (aB (bM (aa (cJ (pv 0) (T.cl k hk) (T.mU k hk) (eD k hk) hr (T.mV k hk) .nil aV) (aa (aZ (pv 0) rfl) af))))),?_⟩
  try dsimp only[br]
  subst ek;exact⟨_,rfl,m,dx,fs,rfl,hm,hl,m,rfl,_,rfl,m,A.C 2,dx,fs,v,rfl,hm,T.cl 2 hk,T.na2,hv,(sl 2),λp hp=>q p hp⟩
theorem tD (T:Txt w.params K mg A):FnOk P w K mg base CX0 1 A.OB A.J2 ["self","edit"] (B8 A 2):=by
 refine T.SS.ok BC (λvs H Q E h=>?_) (λcdv A' outer s H vs Q E hr h=>?_)
 ·obtain⟨m,dx,v,rfl,_⟩:=h;rfl
 ·obtain⟨m,dx,v,rfl,hm,q⟩:=h;refine⟨_,(ai (dA (pv 0) (pv 1) rfl)),?_⟩
  try dsimp only[br]
  exact⟨_,rfl,_,rfl,m,A.C 2,dx,[],rfl,hm,T.cl 2 (by decide),T.na2,by decide,q⟩
theorem yZ (T:Txt w.params K mg A):FnOk P w K mg base CX0 2 A.Ox A.JY ["self"] (w5 A 3 "sitting"):=by
 have eD:∀k,k < 8->FnOk P w K mg base CX0 1 (A.fk k) (A.fkd k) ["self"] (dZ k):=jd T;refine T.SN.ok xT (λvs H Q E h=>?_) (λcdv A' outer s H vs Q E hr h=>?_)
 ·obtain⟨m,dx,fs,v,rfl,_⟩:=h;rfl
 ·obtain⟨m,dx,fs,v,rfl,hm,hl,hv,q⟩:=h;obtain⟨k,hk,ek⟩:∃k,k < 8/\k=3:=⟨3,by decide,rfl⟩
  have hm':H m=some (.ins (A.C k) dx fs):=by rw[ek];exact hm
  refine⟨_,(ai (aB (bM (aa (cJ (pv 0) (T.cl k hk) (T.mU k hk) (eD k hk) hr (T.mV k hk) .nil aV) (aa (aZ (pv 0) rfl) af))))),?_⟩
  try dsimp only[br]
  subst ek;exact⟨_,rfl,m,dx,fs,rfl,hm,hl,m,rfl,_,rfl,m,A.C 3,dx,fs,v,rfl,hm,T.cl 3 hk,T.na3,hv,(sl 2),λp hp=>q p hp⟩
theorem pe (T:Txt w.params K mg A):FnOk P w K mg base CX0 1 A.OC A.J3 ["self","sitting"] (B8 A 3):=by
 refine T.SU.ok xW (λvs H Q E h=>?_) (λcdv A' outer s H vs Q E hr h=>?_)
 ·obtain⟨m,dx,v,rfl,_⟩:=h;rfl
 ·obtain⟨m,dx,v,rfl,hm,q⟩:=h;refine⟨_,(ai (dA (pv 0) (pv 1) rfl)),?_⟩
  try dsimp only[br]
  exact⟨_,rfl,_,rfl,m,A.C 3,dx,[],rfl,hm,T.cl 3 (by decide),T.na3,by decide,q⟩
theorem zX (T:Txt w.params K mg A):FnOk P w K mg base CX0 2 A.Oy A.JZ ["self"] (w5 A 7 "clause"):=by
 have eD:∀k,k < 8->FnOk P w K mg base CX0 1 (A.fk k) (A.fkd k) ["self"] (dZ k):=jd T;refine T.SO.ok zQ (λvs H Q E h=>?_) (λcdv A' outer s H vs Q E hr h=>?_)
 ·obtain⟨m,dx,fs,v,rfl,_⟩:=h;rfl
 ·obtain⟨m,dx,fs,v,rfl,hm,hl,hv,q⟩:=h;obtain⟨k,hk,ek⟩:∃k,k < 8/\k=7:=⟨7,by decide,rfl⟩
  have hm':H m=some (.ins (A.C k) dx fs):=by rw[ek];exact hm
  refine⟨_,(ai (aB (bM (aa (cJ (pv 0) (T.cl k hk) (T.mU k hk) (eD k hk) hr (T.mV k hk) .nil aV) (aa (aZ (pv 0) rfl) af))))),?_⟩
  try dsimp only[br]
  subst ek;exact⟨_,rfl,m,dx,fs,rfl,hm,hl,m,rfl,_,rfl,m,A.C 7,dx,fs,v,rfl,hm,T.cl 7 hk,T.na7,hv,(sl 2),λp hp=>q p hp⟩
theorem qK (T:Txt w.params K mg A):FnOk P w K mg base CX0 1 A.OD A.J4 ["self","clause"] (B8 A 7):=by
 refine T.SV.ok zR (λvs H Q E h=>?_) (λcdv A' outer s H vs Q E hr h=>?_)
 ·obtain⟨m,dx,v,rfl,_⟩:=h;rfl
 ·obtain⟨m,dx,v,rfl,hm,q⟩:=h;refine⟨_,(ai (dA (pv 0) (pv 1) rfl)),?_⟩
  try dsimp only[br]
  exact⟨_,rfl,_,rfl,m,A.C 7,dx,[],rfl,hm,T.cl 7 (by decide),T.na7,by decide,q⟩
theorem Ko {k:Nat}{f:Addr}{fd:gp}{ps:List Str}{sp:Sp}(h:∀vs H Q E,¬sp vs H Q E):FnOk P w K mg base CX0 k f fd ps sp :=
 ⟨λvs H Q E z=>(h vs H Q E z).elim,λ_ _ _ H _ _ vs Q E _ _ _ _ z=>(h vs H Q E z).elim⟩
theorem rA {k:Nat}(hk:k=4\/k=5\/k=6):∀vs H Q E,Ff A k vs H Q E->Gi A vs H Q E:=λvs H Q E ⟨_,m,dx,v,e,hm,q⟩ =>
 ⟨m,k,dx,mh k v,by omega,e,hm,jc k v,λp hp=>by
  have:=q p hp;rcases hk with rfl | rfl | rfl <;> exact this⟩
theorem mZ (T:Txt w.params K mg A):∀k,k < 8->FnOk P w K mg base CX0 2 (A.ft k) (A.ftd k) ["self"] (Ff A k)
 | 0,_=>Ko λvs H Q E h=>absurd h.1 (by decide)
 | 1,_=>(yY T).imp λvs H Q E ⟨_,m,dx,v,e,hm,q⟩=>⟨m,dx,_,v,e,hm,jc 1 v,rfl,q⟩
 | 2,_=>(Cb T).imp λvs H Q E ⟨_,m,dx,v,e,hm,q⟩=>⟨m,dx,_,v,e,hm,jc 2 v,rfl,q⟩
 | 3,_=>(yZ T).imp λvs H Q E ⟨_,m,dx,v,e,hm,q⟩=>⟨m,dx,_,v,e,hm,jc 3 v,rfl,q⟩
 | 4,_=>(uW T).imp (rA (.inl rfl))
 | 5,_=>(uW T).imp (rA (.inr (.inl rfl)))
 | 6,_=>(uW T).imp (rA (.inr (.inr rfl)))
 | 7,_=>(zX T).imp λvs H Q E ⟨_,m,dx,v,e,hm,q⟩=>⟨m,dx,_,v,e,hm,jc 7 v,rfl,q⟩
 |n+8,h=>absurd h (by omega)
theorem y3 (T:Txt w.params K mg A):FnOk P w K mg base CX0 1 A.Oz A.J0 ["self","text"] (L9 A K):=by
 refine T.SQ.ok xU (λvs H Q E h=>?_) (λcdv A' outer s H vs Q E hr h=>?_)
 ·obtain⟨m,dx,L,xs,rfl,_⟩:=h;rfl
 ·obtain⟨m,dx,L,xs,rfl,hm,hL,q⟩:=h;refine⟨_,(ai (dA (pv 0) (bP bN (by rfl) T.iL fm (aa (pv 1) af)) rfl)),?_⟩
  try dsimp only[br]
  refine⟨_,rfl,L,xs,rfl,.inl hL,λp hp=>?_⟩
  have nmp:m≠p:=aG hm hp;exact⟨_,rfl,m,A.C 0,dx,[],rfl,(ao nmp).trans hm,T.cl 0 (by decide),T.na0,by decide,q p hp⟩
theorem Kp (T:Txt w.params K mg A):FnOk P w K mg base CX0 2 A.Ou A.JV ["self"] (Gj A K):=by
 have eD:∀k,k < 8->FnOk P w K mg base CX0 1 (A.fk k) (A.fkd k) ["self"] (dZ k):=jd T;refine T.SJ.ok xR (λvs H Q E h=>?_) (λcdv A' outer s H vs Q E hr h=>?_)
 ·obtain⟨m,dx,L,xs,rfl,_⟩:=h;rfl
 ·obtain⟨m,dx,L,xs,rfl,hm,hL,q⟩:=h;obtain⟨k,hk,ek⟩:∃k,k < 8/\k=0:=⟨0,by decide,rfl⟩
  refine⟨_,(ai (aB (bM (aa (cJ (pv 0) (T.cl k hk) (T.mU k hk) (eD k hk) hr (T.mV k hk) .nil aV) (aa (bP bN (by rfl) T.iL fm (aa (aZ (pv 0) rfl) af)) af))))),?_⟩
  try dsimp only[br]
  subst ek;refine⟨_,rfl,m,dx,_,rfl,hm,jc 0 _,m,rfl,_,rfl,m,A.C 0,dx,_,_,rfl,hm,T.cl 0 hk,T.na0,rfl,L,xs,rfl,.inl hL,λp hp=>⟨(sl 2),λq' hq'=>?_⟩⟩
  have npq:p≠q':=aG ae hq';have hq:H q'=none:=by rw[ao (Tr npq)]at hq';exact hq'
  exact q p q' hp hq npq
theorem Cc (T:Txt w.params K mg A):FnOk P w K mg base CX0 3 A.lO A.gb ["told"] (Gk A):=by
 refine T.oK.ok i7 (λvs H Q E h=>?_) (λcdv A' outer s H vs Q E hr h=>?_)
 ·obtain⟨t,k,v,_,_,rfl,_⟩:=h;rfl
 ·obtain⟨t,k,v,h1,h8,rfl,ht,q⟩:=h;have gy:=hr;refine⟨_,(ak (aY (i:=1) i7.nd rfl (Tp rfl) (aU bq (pv 0) aj (λ_ _=>rfl)))
 (ak (bE (aQ bx (pv 1) aw (aH _))
 (ai (aB (cZ T.yD (y3 T) gy rfl T.yB T.ON .nil aV (aa (aU bq (pv 0) aj (λ_ _=>rfl)) af))))
 aO)
 (ak (bE (aQ bx (pv 1) aw (aH _))
 (ai (aB (cZ T.yE (jK T) gy rfl T.yC T.OO .nil aV (aa (aU bq (pv 0) aj (λ_ _=>rfl)) af))))
 aO)
 (ak (bE (aQ bx (pv 1) aw (aH _))
 (ai (aB (cZ T.Kf (tD T) gy rfl T.Kd T.QK .nil aV (aa (aU bq (pv 0) aj (λ_ _=>rfl)) af))))
 aO)
 (ak (bE (aQ bx (pv 1) aw (aH _))
 (ai (aB (cZ T.DA (pe T) gy rfl T.Dz T.QL .nil aV (aa (aU bq (pv 0) aj (λ_ _=>rfl)) af))))
 aO)
 (ak (bE (aQ bx (pv 1) aw (aH _))
 (ai (aB (lE (T.mkn 4 (by decide)) rfl T.F7)))
 aO)
 (ak (bE (aQ bx (pv 1) aw (aH _))
 (ai (aB (lE (T.mkn 5 (by decide)) rfl T.M9)))
 aO)
 (ak (bE (aQ bx (pv 1) aw (aH _))
 (ai (aB (lE (T.mkn 6 (by decide)) rfl T.Ke)))
 aO)
 (ai (aB (cZ T.Ga (qK T) gy rfl T.F8 T.QM .nil aV (aa (aU bq (pv 0) aj (λ_ _=>rfl)) af)))))))))))),?_⟩
  try dsimp only[br]
  have h0:atI (rowOf k v) 0=some (.str (nm k)):=by
   have hk:k=1\/k=2\/k=3\/k=4\/k=5\/k=6\/k=7:=by omega
   rcases hk with rfl | rfl | rfl | rfl | rfl | rfl | rfl <;> rfl
  refine ixv rfl (SqT.of ht) h0 ?_;have hk:k=1\/k=2\/k=3\/k=4\/k=5\/k=6\/k=7:=by omega
  rcases hk with rfl | rfl | rfl | rfl | rfl | rfl | rfl
  ·refine⟨_,rfl,rfl,tsf (by trivial) ⟨_,rfl,rfl,tst (by trivial) ?_⟩⟩
   exact⟨_,rfl,t,_,_,v,rfl,rfl,SqT.of ht,rfl,λm dx nm ndx ne=>⟨m,dx,v,rfl,ae,rfl,q m _ ((((aT.refl H).own ndx).own nm).own nm) nm ⟨dx,ae⟩⟩⟩
  ·refine⟨_,rfl,rfl,tsf (by trivial) ⟨_,rfl,rfl,tsf (by trivial) ⟨_,rfl,rfl,tst (by trivial) ?_⟩⟩⟩
   exact⟨_,rfl,t,_,_,v,rfl,rfl,SqT.of ht,rfl,λm dx nm ndx ne=>⟨m,dx,v,rfl,ae,rfl,q m _ ((((aT.refl H).own ndx).own nm).own nm) nm ⟨dx,ae⟩⟩⟩
  ·refine⟨_,rfl,rfl,tsf (by trivial) ⟨_,rfl,rfl,tsf (by trivial) ⟨_,rfl,rfl,tsf (by trivial) ⟨_,rfl,rfl,tst (by trivial) ?_⟩⟩⟩⟩
   exact⟨_,rfl,t,_,_,v,rfl,rfl,SqT.of ht,rfl,λm dx nm ndx ne=>⟨m,dx,v,rfl,ae,rfl,q m _ ((((aT.refl H).own ndx).own nm).own nm) nm ⟨dx,ae⟩⟩⟩
  ·refine⟨_,rfl,rfl,tsf (by trivial) ⟨_,rfl,rfl,tsf (by trivial) ⟨_,rfl,rfl,tsf (by trivial) ⟨_,rfl,rfl,tsf (by trivial) ⟨_,rfl,rfl,tst (by trivial) ?_⟩⟩⟩⟩⟩
   exactλm dx nm ndx ne=>q m _ (((aT.refl H).own ndx).own nm) nm ⟨dx,ae⟩
  ·refine⟨_,rfl,rfl,tsf (by trivial) ⟨_,rfl,rfl,tsf (by trivial) ⟨_,rfl,rfl,tsf (by trivial) ⟨_,rfl,rfl,tsf (by trivial) ⟨_,rfl,rfl,tsf (by trivial) ⟨_,rfl,rfl,tst (by trivial) ?_⟩⟩⟩⟩⟩⟩
   exactλm dx nm ndx ne=>q m _ (((aT.refl H).own ndx).own nm) nm ⟨dx,ae⟩
  ·refine⟨_,rfl,rfl,tsf (by trivial) ⟨_,rfl,rfl,tsf (by trivial) ⟨_,rfl,rfl,tsf (by trivial) ⟨_,rfl,rfl,tsf (by trivial) ⟨_,rfl,rfl,tsf (by trivial) ⟨_,rfl,rfl,tsf (by trivial) ⟨_,rfl,rfl,tst (by trivial) ?_⟩⟩⟩⟩⟩⟩⟩
   exactλm dx nm ndx ne=>q m _ (((aT.refl H).own ndx).own nm) nm ⟨dx,ae⟩
  ·refine⟨_,rfl,rfl,tsf (by trivial) ⟨_,rfl,rfl,tsf (by trivial) ⟨_,rfl,rfl,tsf (by trivial) ⟨_,rfl,rfl,tsf (by trivial) ⟨_,rfl,rfl,tsf (by trivial) ⟨_,rfl,rfl,tsf (by trivial) ⟨_,rfl,rfl,tsf (by trivial) ?_⟩⟩⟩⟩⟩⟩⟩
   exact⟨_,rfl,t,_,_,v,rfl,rfl,SqT.of ht,rfl,λm dx nm ndx ne=>⟨m,dx,v,rfl,ae,rfl,q m _ ((((aT.refl H).own ndx).own nm).own nm) nm ⟨dx,ae⟩⟩⟩
theorem zY (T:Txt w.params K mg A):FnOk P w K mg base CX0 3 A.lO A.gb ["told"] (DG A K):=by
 refine T.oK.ok i7 (λvs H Q E h=>?_) (λcdv A' outer s H vs Q E hr h=>?_)
 ·obtain⟨t,L,xs,rfl,_⟩:=h;rfl
 ·obtain⟨t,L,xs,rfl,ht,hL,q⟩:=h;have gy:=hr;refine⟨_,(ak (aY (i:=1) i7.nd rfl (Tp rfl) (aU bq (pv 0) aj (λ_ _=>rfl)))
 (ak (bE (aQ bx (pv 1) aw (aH _))
 (ai (aB (cZ T.yD (y3 T) gy rfl T.yB T.ON .nil aV (aa (aU bq (pv 0) aj (λ_ _=>rfl)) af))))
 aO)
 (ak (bE (aQ bx (pv 1) aw (aH _))
 (ai (aB (cZ T.yE (jK T) gy rfl T.yC T.OO .nil aV (aa (aU bq (pv 0) aj (λ_ _=>rfl)) af))))
 aO)
 (ak (bE (aQ bx (pv 1) aw (aH _))
 (ai (aB (cZ T.Kf (tD T) gy rfl T.Kd T.QK .nil aV (aa (aU bq (pv 0) aj (λ_ _=>rfl)) af))))
 aO)
 (ak (bE (aQ bx (pv 1) aw (aH _))
 (ai (aB (cZ T.DA (pe T) gy rfl T.Dz T.QL .nil aV (aa (aU bq (pv 0) aj (λ_ _=>rfl)) af))))
 aO)
 (ak (bE (aQ bx (pv 1) aw (aH _))
 (ai (aB (lE (T.mkn 4 (by decide)) rfl T.F7)))
 aO)
 (ak (bE (aQ bx (pv 1) aw (aH _))
 (ai (aB (lE (T.mkn 5 (by decide)) rfl T.M9)))
 aO)
 (ak (bE (aQ bx (pv 1) aw (aH _))
 (ai (aB (lE (T.mkn 6 (by decide)) rfl T.Ke)))
 aO)
 (ai (aB (cZ T.Ga (qK T) gy rfl T.F8 T.QM .nil aV (aa (aU bq (pv 0) aj (λ_ _=>rfl)) af)))))))))))),?_⟩
  try dsimp only[br]
  refine ixv rfl (SqT.of ht) rfl ?_;refine⟨_,rfl,rfl,tst (by trivial) ?_⟩
  refine⟨_,rfl,t,_,_,.ref L,rfl,rfl,SqT.of ht,rfl,λm dx nm ndx ne=>⟨m,dx,L,xs,rfl,ae,(((aT.refl H).own ndx).own nm).seq hL,λp hp=>⟨rfl,?_⟩⟩⟩
  have s1:aT H (upd (upd H dx (.own m)) m (.ins (A.C 0) dx [])):=((aT.refl H).own ndx).own nm;have npm:p≠m:=λz=>by rw[z,ae]at hp;cases hp
  exact q m p _ ((s1.new hp).own nm) nm (s1.free hp) ((ao npm).trans ae) ⟨dx,ae⟩
end
abbrev Kq:Str:=ar "more"
def qL (n:Str)(a b:Int):Bool:=if a<=b then false else (decide (n=Kq) || decide (2 * b<=a))
def OU:Sp:=λvs H Q _=>∃(n:Str) (a b:Int),vs=[.str n,.int a,.int b]/\Q (.bl (qL n a b)) H
section
variable{P:km}{w:World}{K:ba}{mg:Str->Option Value}{base:Heap}{A:Adr}
theorem Fg (T:Txt w.params K mg A):FnOk P w K mg base CX0 1 A.BP A.rb ["need","ayes","noes"] OU:=by
 refine T.AK.ok ET (λvs H Q E h=>?_) (λcdv A' outer s H vs Q E hr h=>?_)
 ·obtain⟨n,a,b,rfl,_⟩:=h;rfl
 ·obtain⟨n,a,b,rfl,q⟩:=h;refine⟨_,(ak (bE (aQ vg (pv 1) (pv 2) (aH _))
 (ai (aB ni))
 aO)
 (ai (aB (IA (bI bx (pv 0) aw (aH _)) (gI (bI MU (pv 1) (bA En aj (pv 2)) (aH _))))))),?_⟩
  try dsimp only[br]
  refine⟨_,rfl,_,rfl,_,_,rfl,rfl,_,rfl,eX (λe=>?_) (λe=>?_)⟩
  ·have e':a<=b:=of_decide_eq_true e;rw[qL,if_pos e']at q;exact q
  ·have e':¬a<=b:=λz=>e (decide_eq_true z)
   rw[qL,if_neg e']at q;refine⟨_,rfl,rfl,_,rfl,eX (λe2=>?_) (λe2=>?_)⟩
   ·have h2:n=Kq:=by injection of_decide_eq_true e2
    rw[decide_eq_true h2,Bool.true_or]at q;exact q
   ·have h2:¬n=Kq:=λz=>e2 (decide_eq_true (by rw[z]))
    rw[decide_eq_false h2,Bool.false_or]at q;exact⟨_,rfl,_,rfl,_,_,rfl,rfl,.inl ⟨by decide,by decide⟩,_,_,rfl,rfl,q⟩
end
namespace R
abbrev bl1:Str:=ar " "
abbrev em:Str:=ar ""
theorem gY:bl1=⟨#[32]⟩:=by trivial
theorem DI:em=⟨#[]⟩:=by trivial
abbrev sg:Str:=ar "!\"#$&'()*+,-./0123456789:;<=>?@ABCDEFGHIJKLMNOPQRSTUVWXYZ[\\]^_`abcdefghijklmnopqrstuvwxyz{|}~"
def Sign (c:Nat):Prop:=33<=c/\c<=126/\c≠37
instance:DecidablePred Sign:=λc=>by unfold Sign;exact inferInstance
structure m3 (x:Str):Prop where
 l1:1<=x.length
 l2:x.length<=20
 sgn:∀c∈x.cps.toList,Sign c
 ns:x≠ar "/"
def Asc (x:Str):Prop:=∀c∈x.cps.toList,c < 128
theorem Asc.ok {x:Str}(h:Asc x):TX x=true:=by
 unfold TX;rw[Array.all_eq_true];intro i hi;have:=h x.cps[i] (by simp)
 exact decide_eq_true (by omega)
theorem m3.asc {x:Str}(w:m3 x):Asc x:=λc hc=>by have:=w.sgn c hc;unfold Sign at this;omega
theorem jI {sep:Str}(hs:Asc sep):∀ws:List Str,(∀w∈ws,Asc w)->Asc (ki sep ws)
 |[],_=>λc hc=>by
  have:c∈([]:List Nat):=hc;cases this
 |[x],h=>h x gc
 |x::y::r,h=>λc hc=>by
  have hc':c∈((x++sep)++ki sep (y::r)).cps.toList:=hc;rw[cK,cK,Vi,Vi]at hc';rcases hc' with (h1 | h1) | h1
  ·exact h x gc c h1
  ·exact hs c h1
  ·exact jI hs (y::r) (λw hw=>h w (kf _ hw)) c h1
theorem m5 (x:Str):x.cps.toList.length=x.length:=by simp[Str.length]
abbrev QP:List Str:=[ar "-",ar "put",ar "/a",ar "0",ar "off",ar "//",ar "matter",ar "a"]
theorem DJ {x:Str}(h:decide (1<=x.length/\x.length<=20/\(∀c∈x.cps.toList,Sign c)/\x≠ar "/")=true):m3 x:=by
 obtain⟨a,b,c,d⟩:=of_decide_eq_true h;exact⟨a,b,c,d⟩
theorem OV:∀x∈QP,m3 x:=by
 intro x hx;simp only[Uz,Ui,or_false]at hx;rcases hx with rfl | rfl | rfl | rfl | rfl | rfl | rfl | rfl <;> exact DJ (by trivial)
structure Clause (n:Nat)(x:Str)(ws:List Str):Prop where
 eq:x=ki bl1 ws
 len:ws.length<=n
 wd:∀w∈ws,m3 w
theorem Clause.asc {n:Nat}{x:Str}{ws:List Str}(c:Clause n x ws):Asc x:=by
 rw[c.eq];exact jI (by rw[gY];intro d hd;have:d=32:=(by simpa using hd);omega) ws λw hw=>(c.wd w hw).asc
theorem Gm {ws:List Str}(h:∀w∈ws,m3 w):(ws.map (·.length)).sum<=ws.length * 20:=StrLaws.sumLen_le ws λw hw=>(h w hw).l2
theorem Clause.size {n:Nat}{x:Str}{ws:List Str}(c:Clause n x ws):x.length<=n * 21:=by
 rw[c.eq,gY];have h1:=lC 32 ws;have h2:=Gm c.wd;have h3:=c.len;omega
def Kr:Sp:=λvs H Q _=>∃(c n:Int),vs=[.int c,.int n]/\0<=n/\n<=1000 /\
 ∀(zs:List Int) (p:Addr) (H':Hp),(zs.length:Int)=n->(∀z∈zs,0<=z/\z < 4294967311)->aT H H'->H p=none->H' p=some (.lst (zs.map V.int))->Q (.ref p) H'
abbrev sl1:Str:=ar "/"
def num (i:Int):Str:=ar (toString i)
theorem Cd {i:Int}(h0:0<=i)(h1:i < 10 ^ 10):(num i).length<=10:=PyProof.Rows.toString_length_le h0 (by decide) h1
theorem Gn {i:Int}(h0:0<=i)(h1:i < 10 ^ 10):i.natAbs.log2 < 1920:=by
 have h:i.natAbs < 2 ^ 34:=by
  have:(10:Int) ^ 10<=2 ^ 34:=by decide
  omega
 by_cases hz:i.natAbs=0
 ·rw[hz];decide
 ·exact Nat.lt_trans ((Nat.log2_lt hz).mpr h) (by decide)
def bG (z:Str):List Str:=if z=em then [] else PySem.Txt.split z bl1
theorem m3.free {x:Str}(w:m3 x):32∉x.cps.toList:=λz=>by have:=w.sgn _ z;unfold Sign at this;omega
theorem je {ws:List Str}(h:∀w∈ws,m3 w):bG (ki bl1 ws)=ws:=by
 cases ws with
 |nil=>exact if_pos (by rw[DI];rfl)
 |cons x r =>
  have l:=zK (c:=32) (TK x r) λw hw=>(h w hw).l1
  have ne:¬ki bl1 (x::r)=em:=λe=>by
   rw[gY]at e;rw[e,DI]at l;exact absurd l (by decide)
  unfold bG;rw[if_neg ne,gY];exact xy (TK x r) λw hw=>(h w hw).free
inductive bp where
 |mat (cs:List (List Str))
 |ed (m:Bool) (k:Nat) (i:Int) (ws:List Str)
 |pt (ws:List Str)
 |nums (kd:Str) (ns:List Int)
def kEd (m:Bool):Str:=if m then ar "mend" else ar "change"
def kn:Nat->Str
 | 0=>ar "put"
 | 1=>ar "cut"
 |_=>ar "turn"
def edR (k:Nat)(i:Int)(x:Str):List V:=if k=1 then [.str (kn 1),.int i] else [.str (kn k),.int i,.str x]
def cC:List (Str×Nat):=[(ar "put off",1),(ar "vote",2),(ar "take",1),(ar "close",0),(ar "lay",0),(ar "rest",0),(ar "drop",0)]
structure gA (n:Nat)(ws:List Str):Prop where
 len:ws.length<=n
 wd:∀w∈ws,m3 w
def DOk:bp->Prop
 | .mat cs=>cs.length<=12/\∀ws∈cs,gA 12 ws
 | .ed m k i ws=>(k=0\/k=1\/k=2)/\(0<=i/\i < 10 ^ 10)/\gA 12 ws/\(m=true->ws.length=1)
 | .pt ws=>gA 12 ws
 | .nums kd ns=>(kd,ns.length)∈cC/\∀i∈ns,0<=i/\i < 10 ^ 10
def m6 (K:ba)(H:Hp):bp->Addr->Prop
 | .mat cs,t=>∃L,SqT K H t [.str (ar "matter"),.ref L]/\SqL K H L ((cs.map (ki bl1)).map V.str)
 | .ed m k i ws,t=>∃e,SqT K H t [.str (kEd m),.ref e]/\SqT K H e (edR k i (ki bl1 ws))
 | .pt ws,t=>SqT K H t [.str (ar "point"),.str (ki bl1 ws)]
 | .nums kd ns,t=>SqT K H t (.str kd::ns.map V.int)
theorem m6.same {K:ba}{H H':Hp}(s:aT H H'):∀ {d:bp} {t:Addr},m6 K H d t->m6 K H' d t
 | .mat _,_,⟨L,a,b⟩=>⟨L,dg s a,s.seq b⟩
 | .ed _ _ _ _,_,⟨e,a,b⟩=>⟨e,dg s a,dg s b⟩
 | .pt _,_,a=>dg s a
 | .nums _ _,_,a=>dg s a
def gz:bp->Str
 | .mat _=>ar "matter"
 | .ed m _ _ _=>kEd m
 | .pt _=>ar "point"
 | .nums kd _=>kd
def dP:bp->List Str
 | .mat cs=>cs.flatMap λws=>sl1::ws
 | .ed _ k i ws=>kn k::num i::(if k=1 then [] else ws)
 | .pt ws=>ws
 | .nums _ ns=>ns.map num
def dq (d:bp):Str:=ki bl1 (gz d::dP d)
theorem OW (k:Nat):(kn k).length<=4:=by
 unfold kn;split <;> trivial
theorem Mb (m:Bool):(kEd m).length<=6:=by cases m <;> trivial
theorem kd_len {kd:Str}{n:Nat}(h:(kd,n)∈cC):kd.length<=7/\n<=2:=by
 simp only[cC,Uz,Ui,or_false,Vo]at h;rcases h with ⟨rfl,rfl⟩ | ⟨rfl,rfl⟩ | ⟨rfl,rfl⟩ | ⟨rfl,rfl⟩ | ⟨rfl,rfl⟩ | ⟨rfl,rfl⟩ | ⟨rfl,rfl⟩ <;> trivial
theorem uX {d:bp}(o:DOk d):(dP d).length<=200/\(∀w∈dP d,w.length<=20)/\(gz d).length<=20:=by
 cases d with
 |mat cs =>
  obtain⟨o1,o2⟩:=o;refine⟨?_,λw hw=>?_,by show (ar "matter").length<=20;trivial⟩
  ·show (cs.flatMap λws=>sl1::ws).length<=200
   have:∀l:List (List Str),(∀ws∈l,gA 12 ws)->(l.flatMap λws=>sl1::ws).length<=l.length * 13:=λl=>by
    induction l with
    |nil=>intro _;exact kc _
    |cons x l ih =>
     intro h;have h1:=(h x gc).len;have h2:=ih λw hw=>h w (kf _ hw)
     rw[List.flatMap_cons,gr,ky,ky];omega
   have:=this cs o2;omega
  ·obtain⟨ws,h1,h2⟩:=List.mem_flatMap.mp hw;rcases List.mem_cons.mp h2 with rfl | h2
   ·trivial
   ·exact((o2 ws h1).wd w h2).l2
 |ed m k i ws =>
  obtain⟨o1,⟨i0,i1⟩,o3,_⟩:=o;have l:=o3.len;refine⟨?_,λw hw=>?_,?_⟩
  ·show (kn k::num i::(if k=1 then [] else ws)).length<=200
   split <;> simp <;> omega
  ·have hw':w∈kn k::num i::(if k=1 then [] else ws):=hw
   rcases List.mem_cons.mp hw' with rfl | hw'
   ·have:=OW k;omega
   ·rcases List.mem_cons.mp hw' with rfl | hw'
    ·have:=Cd i0 i1;omega
    ·split at hw'
     ·cases hw'
     ·exact(o3.wd w hw').l2
  ·have:=Mb m;show (kEd m).length<=20;omega
 |pt ws=>exact⟨by have:=o.len;show ws.length<=200;omega,λw hw=>(o.wd w hw).l2,by show (ar "point").length<=20;trivial⟩
 |nums kd ns =>
  obtain⟨o1,o2⟩:=o;have:=kd_len o1;refine⟨by show (ns.map num).length<=200;rw[bo];omega,λw hw=>?_,by show kd.length<=20;omega⟩
  obtain⟨i,hi,rfl⟩:=List.mem_map.mp hw;have:=Cd (o2 i hi).1 (o2 i hi).2;omega
def p6:Sp:=λvs H Q _=>∃z,vs=[.str z]/\z.length+2<=eg/\∀p,H p=none->Q (.ref p) (upd H p (.lst ((bG z).map V.str)))
def rB (K:ba):Sp:=λvs H Q _=>∃a ws,vs=[.ref a]/\SqL K H a (ws.map V.str)/\(ws.map (·.length)).sum+ws.length<=16777216/\Q (.str (ki bl1 ws)) H
def OX (K:ba):Sp:=λvs H Q _=>∃(L:Addr) (cs:List (List Str)),vs=[.ref L]/\SqL K H L ((cs.map (ki bl1)).map V.str)/\DOk (.mat cs)/\∀p H',aT H H'->H p=none->H' p=some (.lst ((dP (.mat cs)).map V.str))->Q (.ref p) H'
def Mc (K:ba):Sp:=λvs H Q _=>∃(t:Addr) (m:Bool) (k:Nat) (i:Int) (ws:List Str),vs=[.ref t]/\SqT K H t (edR k i (ki bl1 ws))/\DOk (.ed m k i ws)/\∀p H',aT H H'->H p=none->H' p=some (.lst ((dP (.ed m k i ws)).map V.str))->Q (.ref p) H'
def Ks (K:ba):Sp:=λvs H Q _=>∃(t:Addr) (d:bp),vs=[.ref t]/\m6 K H d t/\DOk d/\∀p H',aT H H'->H p=none->H' p=some (.lst ((dP d).map V.str))->Q (.ref p) H'
def Ce (K:ba):Sp:=λvs H Q _=>∃(t:Addr) (d:bp),vs=[.ref t]/\m6 K H d t/\DOk d/\∀H',aT H H'->Q (.str (dq d)) H'
theorem uV {k:Nat}(h:k=0\/k=1\/k=2):(V.str (kn k)=V.str (ar "cut"))↔k=1:=by
 rcases h with rfl | rfl | rfl <;> trivial
theorem Cg (k:Nat)(i:Int)(x:Str):atI (edR k i x) 0=some (.str (kn k)):=by
 unfold edR;split
 ·rename_i h;rw[h];rfl
 ·rfl
theorem Md (k:Nat)(i:Int)(x:Str):atI (edR k i x) 1=some (.int i):=by
 unfold edR;split <;> rfl
theorem Me {k:Nat}(h:k≠1)(i:Int)(x:Str):atI (edR k i x) 2=some (.str x):=by
 unfold edR;rw[if_neg h];rfl
theorem rC {ws:List Str}(o:gA 12 ws):(ki bl1 ws).length<=300:=by
 have h1:=lC 32 ws;have h2:=Gm o.wd;have h3:=o.len;rw[gY];omega
theorem QQ {kd:Str}{n:Nat}(h:(kd,n)∈cC):V.str kd≠V.str (ar "matter")/\V.str kd≠V.str (ar "change")/\V.str kd≠V.str (ar "mend")/\V.str kd≠V.str (ar "point"):=by
 simp only[cC,Uz,Ui,or_false,Vo]at h;rcases h with ⟨rfl,rfl⟩ | ⟨rfl,rfl⟩ | ⟨rfl,rfl⟩ | ⟨rfl,rfl⟩ | ⟨rfl,rfl⟩ | ⟨rfl,rfl⟩ | ⟨rfl,rfl⟩ <;> trivial
section
variable{K:ba}
theorem m6.at0 {H:Hp}{d:bp}{t:Addr}(h:m6 K H d t):∃xs,SqT K H t xs/\atI xs 0=some (.str (gz d)):=by
 cases d with
 |mat cs=>obtain⟨L,a,b⟩:=h;exact⟨_,a,rfl⟩
 |ed m k i ws=>obtain⟨e,a,b⟩:=h;exact⟨_,a,rfl⟩
 |pt ws=>exact⟨_,h,rfl⟩
 |nums kd ns=>exact⟨_,h,jX (j:=0) rfl⟩
end
section
variable{P:km}{w:World}{K:ba}{mg:Str->Option Value}{base:Heap}{A:Adr}
theorem m7 (T:Txt w.params K mg A):FnOk P w K mg base CX0 1 A.lN A.f9 ["words"] (rB K):=by
 refine T.kz.ok BE (λvs H Q E h=>?_) (λcdv A' outer s H vs Q E hr h=>?_)
 ·obtain⟨a,ws,rfl,_⟩:=h;rfl
 ·obtain⟨a,ws,rfl,hq,hz,k⟩:=h;refine⟨_,(ai (aB (fV PySem.F.plainAttrs_str PySem.F.slot_str_join PySem.F.type_str_join LI aw (aa (pv 0) af)))),?_⟩
  try dsimp only[br]
  exact⟨rfl,_,rfl,bl1,a,ws,rfl,rfl,hq,by rw[gY];show _+ws.length * 1<=_;omega,k⟩
theorem ir (T:Txt w.params K mg A):FnOk P w K mg base CX0 1 A.words_of A.fM ["clause"] p6:=by
 refine T.gX.ok C1 (λvs H Q E h=>?_) (λcdv A' outer s H vs Q E hr h=>?_)
 ·obtain⟨z,rfl,_⟩:=h;rfl
 ·obtain⟨z,rfl,hz,k⟩:=h;refine⟨_,(ak (bE (aQ bx (pv 0) aw (aH _))
 (ai (aB (bX af)))
 aO)
 (ai (aB (fV PySem.F.plainAttrs_str PySem.F.slot_str_split PySem.F.type_str_split CK (pv 0) (aa aw af))))),?_⟩
  try dsimp only[br]
  refine⟨_,rfl,rfl,_,rfl,eX (λe=>?_) (λe=>?_)⟩
  ·have e':z=em:=by injection of_decide_eq_true e
   refine⟨TM _,λp hp=>?_⟩
   have:=k p hp;rw[bG,if_pos e']at this;exact this
  ·have e':¬z=em:=λq=>e (decide_eq_true (by rw[q]))
   refine⟨_,rfl,rfl,z,bl1,rfl,rfl,by rw[gY];rfl,hz,λp hp=>?_⟩
   have:=k p hp;rw[bG,if_neg e']at this;exact this
theorem uY (T:Txt w.params K mg A):FnOk P w K mg base CX0 2 A.kT A.gO ["text"] (OX K):=by
 refine T.nI.ok gL (λvs H Q E h=>?_) (λcdv A' outer s H vs Q E hr h=>?_)
 ·obtain⟨L,cs,rfl,_⟩:=h;rfl
 ·obtain⟨L,cs,rfl,hL,o,k⟩:=h;refine⟨_,(ak (aY (i:=1) gL.nd rfl (Tp rfl) (bX af))
 (ak (ug Vj rfl (hU (pv 0)) (dI (i:=2) gL.nd rfl (Tp rfl))
 (ak (bF (fV Tj Tx Tz cA (pv 1) (aa aw af)))
 (ai (bF (fV Tj PySem.F.slot_list_extend PySem.F.type_list_extend An (pv 1) (aa (aW (ir T) hr rfl T.jF T.gX.kp T.jG .nil aV (aa (pv 2) af)) af))))))
 (ai (aB (pv 1))))),?_⟩
  try dsimp only[br]
  have lim:eg=16777216:=by decide
  refine⟨TM _,λW hW=>?_⟩
  refine⟨_,rfl,L,rfl,⟨_,(av hW).seq hL⟩,?_⟩;refine rQ (K:=K) (a:=L) (xs:=(cs.map (ki bl1)).map V.str) (λi σ H2=>∃v2:Option V,σ=[some (.ref L),some (.ref W),v2]/\aT H H2/\H2 W=some (.lst ((dP (.mat (cs.take i))).map V.str)))
   ⟨_,rfl,av hW,ae⟩ (λi σ H2 _ ⟨_,_,s2,_⟩=>s2.seq hL) ?_ ?_
  ·rintro i y σ H2 hi ⟨v2,rfl,s2,h2⟩;rw[wt,wt]at hi;cases hc:cs[i]? with
   |none=>rw[hc]at hi;cases hi
   |some ws =>
    rw[hc]at hi;obtain rfl:V.str (ki bl1 ws)=y:=om hi;have ow:=o.2 ws (Ti hc);have hcl:=rC ow;have hil:i < cs.length:=(List.getElem?_eq_some_iff.mp hc).1;have hb:(dP (.mat (cs.take i))).length<=200:=(uX (d:=.mat (cs.take i)) ⟨by rw[To];have:=o.1;omega,λws hw=>o.2 ws (U8 hw)⟩).1
    refine⟨_,rfl,.inl ⟨rfl,_,SqL.of h2⟩,W,_,_,rfl,rfl,h2,(by rw[bo];omega),?_⟩
    refine⟨_,rfl,.inl ⟨rfl,_,SqL.of ae⟩,_,rfl,_,rfl,by omega,λp hp=>?_⟩
    rw[je ow.wd];have nWp:W≠p:=aG ae hp;have wl:=ow.len;refine⟨W,p,_,_,rfl,rfl,(ao nWp).trans ae,ae,(by rw[gr,bo,bo];show _+1+_<=_;omega),?_⟩
    refine⟨_,rfl,((s2.own hW).new hp).own hW,?_⟩;rw[ae,Uw,hc];show some (HO.lst _)=some (HO.lst (((cs.take i++[ws]).flatMap λws=>sl1::ws).map V.str))
    rw[List.flatMap_append];simp[dP]
  ·rintro σ H2 ⟨v2,rfl,s2,h2⟩;rw[bo,bo,TY]at h2;exact⟨_,rfl,k W H2 s2 hW h2⟩
theorem uZ (T:Txt w.params K mg A):FnOk P w K mg base CX0 2 A.kU A.gP ["edit"] (Mc K):=by
 refine T.nJ.ok lK (λvs H Q E h=>?_) (λcdv A' outer s H vs Q E hr h=>?_)
 ·obtain⟨t,m,k,i,ws,rfl,_⟩:=h;rfl
 ·obtain⟨t,m,k,i,ws,rfl,ht,⟨o1,⟨i0,i1⟩,o3,_⟩,q⟩:=h;refine⟨_,(ak (aY (i:=1) lK.nd rfl (Tp rfl) (bX (aa (aU bq (pv 0) aj (λ_ _=>rfl)) (aa (bP rS (by rfl) T.M8 I0 (aa (aU bq (pv 0) aj (λ_ _=>rfl)) af)) af))))
 (ak (bE (aQ Ad (aU bq (pv 0) aj (λ_ _=>rfl)) aw (aH _))
 (ai (bF (fV Tj PySem.F.slot_list_extend PySem.F.type_list_extend An (pv 1) (aa (aW (ir T) hr rfl T.jF T.gX.kp T.jG .nil aV (aa (aU bq (pv 0) aj (λ_ _=>rfl)) af)) af))))
 aO)
 (ai (aB (pv 1))))),?_⟩
  try dsimp only[br]
  have lim:eg=16777216:=by decide
  refine ixv rfl ht (Cg k i _) (ixv rfl ht (Md k i _) ⟨_,rfl,Gn i0 i1,(sl 2),λW hW=>?_⟩)
  have s1:aT H (upd H W (.lst [V.str (kn k),V.str (num i)])):=av hW;have hcl:=rC o3;refine ixv rfl (dg s1 ht) (Cg k i _) ⟨rfl,_,rfl,?_⟩
  by_cases hk:k=1
  ·rw[decide_eq_true ((uV o1).mpr hk)];refine df ⟨_,rfl,q W _ s1 hW ?_⟩;show (upd H W (.lst [V.str (kn k),V.str (num i)])) W=some (.lst ((kn k::num i::(if k=1 then [] else ws)).map V.str))
   rw[ae,if_pos hk];rfl
  ·rw[decide_eq_false λz=>hk ((uV o1).mp z)]
   refine dN ⟨_,rfl,.inl ⟨rfl,_,SqL.of ae⟩,ixv rfl (dg s1 ht) (Me hk i _) ⟨_,rfl,by omega,λp hp=>?_⟩⟩
   rw[je o3.wd];have nWp:W≠p:=aG ae hp;have wl:=o3.len;refine⟨W,p,_,_,rfl,rfl,(ao nWp).trans ae,ae,(by rw[bo];show 2+_<=_;omega),_,rfl,q W _ ((s1.new hp).own hW) hW ?_⟩
   show (upd (upd (upd H W (.lst [V.str (kn k),V.str (num i)])) p (.lst (ws.map V.str))) W (.lst ([V.str (kn k),V.str (num i)]++ws.map V.str))) W=some (.lst ((kn k::num i::(if k=1 then [] else ws)).map V.str))
   rw[ae,if_neg hk];rfl
theorem wN (T:Txt w.params K mg A):FnOk P w K mg base CX0 3 A.mM A.iF ["deed"] (Ks K):=by
 have jL:FnOk P w K mg base CX0 2 A.words_of A.fM ["clause"] p6:=(ir T).mono (by decide)
 refine T.oQ.ok nG (λvs H Q E h=>?_) (λcdv A' outer s H vs Q E hr h=>?_)
 ·obtain⟨t,d,rfl,_⟩:=h;rfl
 ·obtain⟨t,d,rfl,hd,o,q⟩:=h;refine⟨_,(ak (aY (i:=1) nG.nd rfl (Tp rfl) (aU bq (pv 0) aj (λ_ _=>rfl)))
 (ak (bE (aQ bx (pv 1) aw (aH _))
 (ai (aB (aW (uY T) hr rfl T.wI T.nI.kp T.wJ .nil aV (aa (aU bq (pv 0) aj (λ_ _=>rfl)) af))))
 aO)
 (ak (bE (PW.pt (pw_or (aQ bx (pv 1) aw (aH _)) (pw_or1 (aQ bx (pv 1) aw (aH _)))))
 (ai (aB (aW (uZ T) hr rfl T.wK T.nJ.kp T.wL .nil aV (aa (aU bq (pv 0) aj (λ_ _=>rfl)) af))))
 aO)
 (ak (bE (aQ bx (pv 1) aw (aH _))
 (ai (aB (aW jL hr rfl T.jF T.gX.kp T.jG .nil aV (aa (aU bq (pv 0) aj (λ_ _=>rfl)) af))))
 aO)
 (ai (aB (j3 (scope:=jv) sJ rfl (NF (c9 NM (pv 0) (dM aj) eG)) (λ_ _ _ _ _=>(bP rS (by rfl) T.M8 I0 (aa (pv 0) af)))))))))),?_⟩
  try dsimp only[br]
  have lim:eg=16777216:=by decide
  cases d with
  |mat cs =>
   refine aL λGq gq=>?_
   obtain⟨L,ht,hL⟩:=hd;refine gq ?_;refine ixv rfl ht rfl ?_;refine⟨_,rfl,rfl,tst (decide_eq_true rfl) ?_⟩;exact ixv rfl ht rfl ⟨L,cs,rfl,hL,o,q⟩
  |ed m k i ws =>
   refine aL λGq gq=>?_
   obtain⟨e,ht,he⟩:=hd;refine gq ?_;refine ixv rfl ht rfl ?_;refine⟨_,rfl,rfl,tsf (decide_eq_false (by cases m <;> trivial)) ?_⟩
   cases m with
   |false =>
    refine⟨_,rfl,rfl,tst (decide_eq_true rfl) ?_⟩;exact ixv rfl ht rfl ⟨e,false,k,i,ws,rfl,he,o,q⟩
   |true =>
    refine⟨_,rfl,rfl,tsf (decide_eq_false (by trivial)) ?_⟩
    refine⟨_,rfl,rfl,tst (decide_eq_true rfl) ?_⟩;exact ixv rfl ht rfl ⟨e,true,k,i,ws,rfl,he,o,q⟩
  |pt ws =>
   have ht:=hd;refine ixv rfl ht rfl ?_;refine⟨_,rfl,rfl,tsf (decide_eq_false (by trivial)) ?_⟩
   refine⟨_,rfl,rfl,tsf (decide_eq_false (by trivial)) ?_⟩
   refine⟨_,rfl,rfl,tsf (decide_eq_false (by trivial)) ?_⟩
   refine⟨_,rfl,rfl,tst (decide_eq_true rfl) ?_⟩;have hcl:=rC o;refine ixv rfl ht rfl ⟨_,rfl,by omega,λp hp=>q p _ (av hp) hp ?_⟩
   rw[ae,je o.wd];rfl
  |nums kd ns =>
   refine aL λGq gq=>?_
   have ht:=hd;obtain⟨o1,o2⟩:=o;obtain⟨n1,n2,n3,n4⟩:=QQ o1;have kl:=(kd_len o1).2;refine gq ?_;refine ixv rfl ht (jX (j:=0) rfl) ?_;refine⟨_,rfl,rfl,tsf (decide_eq_false n1) ?_⟩;refine⟨_,rfl,rfl,tsf (decide_eq_false n2) ?_⟩;refine⟨_,rfl,rfl,tsf (decide_eq_false n3) ?_⟩;refine⟨_,rfl,rfl,tsf (decide_eq_false n4) ?_⟩;refine⟨_,rfl,_,rfl,t,_,rfl,ht,λz=>?_,λp hp=>?_⟩
   ·have z1:=z.1;rw[show (1:Int)=((1:Nat):Int) from rfl,HT.mx,ky]at z1
    omega
   ·rw[show (1:Int)=((1:Nat):Int) from rfl,jn]
    show _;have hs1:aT H (upd H p (.tup (ns.map V.int))):=av hp;have hpp:(upd H p (.tup (ns.map V.int))) p=some (.tup (ns.map V.int)):=ae;refine⟨p,rfl,⟨_,SqT.of hpp⟩,λD hD=>?_⟩
    have npD:p≠D:=aG hpp hD;refine Js (K:=K) (a:=p) (xs:=ns.map V.int) (λi ys H3=>ys=(ns.take i).map (λn=>V.str (num n))/\H3=upd (upd H p (.tup (ns.map V.int))) D (.lst ys)) ⟨rfl,rfl⟩ (by rw[bo];omega) ?_ ?_ ?_
    ·rintro i ys H3 hi ⟨rfl,rfl⟩;rw[bo]at hi;exact⟨SqT.of ((ao npD).trans hpp),ae,by rw[bo,To];omega⟩
    ·rintro i y ys H3 hi ⟨rfl,rfl⟩;rw[wt]at hi;cases hc:ns[i]? with
     |none=>rw[hc]at hi;cases hi
     |some n =>
      refine aL λGq gq=>?_
      rw[hc]at hi;obtain rfl:V.int n=y:=om hi;obtain⟨b0,b1⟩:=o2 n (Ti hc);refine gq ?_;refine⟨_,rfl,_,rfl,Gn b0 b1,?_⟩;refine bZ.mk (by rw[bo];exact(List.getElem?_eq_some_iff.mp hc).1) ae ⟨?_,by rw[jW]⟩
      rw[Uw,hc,ma];rfl
    ·rintro ys H3 ⟨rfl,rfl⟩;rw[bo,TY];refine q D _ (hs1.new hD) (hs1.free hD) ?_;rw[ae];show some (HO.lst _)=some (HO.lst ((ns.map num).map V.str));rw[U9];rfl
theorem m8 (T:Txt w.params K mg A):FnOk P w K mg base CX0 4 A.jh A.eK ["deed"] (Ce K):=by
 have pf:FnOk P w K mg base CX0 3 A.lN A.f9 ["words"] (rB K):=(m7 T).mono (by decide)
 refine T.kA.ok BH (λvs H Q E h=>?_) (λcdv A' outer s H vs Q E hr h=>?_)
 ·obtain⟨t,d,rfl,_⟩:=h;rfl
 ·obtain⟨t,d,rfl,hd,o,q⟩:=h;refine⟨_,(ai (aB (aW pf hr rfl T.oI T.kz.kp T.oJ .nil aV (aa (bA pO (bX (aa (aU bq (pv 0) aj (λ_ _=>rfl)) af)) (aW (wN T) hr rfl T.yn T.oQ.kp T.yo .nil aV (aa (pv 0) af))) af)))),?_⟩
  try dsimp only[br]
  refine aL λGq gq=>?_
  have lim:eg=16777216:=by decide
  obtain⟨b1,b2,b3⟩:=uX o;obtain⟨xs,hx,hx0⟩:=hd.at0;refine gq ?_;refine ixv rfl hx hx0 ⟨(sl 1),λp hp=>?_⟩
  refine⟨_,rfl,t,d,rfl,hd.same (av hp),o,λp2 H2 s2 hn2 h2=>?_⟩
  have hp2:H2 p=some (.lst [V.str (gz d)]):=s2 _ _ ae;refine⟨p,p2,_,_,rfl,rfl,hp2,h2,(by rw[bo];show 1+_<=_;omega),λp3 hp3=>?_⟩
  refine⟨p3,gz d::dP d,rfl,SqL.of (by rw[ae];rfl),?_,q _ (((av hp).trans s2).new hp3)⟩
  have:=StrLaws.sumLen_le (B:=20) (gz d::dP d) (λw hw=>by
   rcases List.mem_cons.mp hw with rfl | hw
   ·exact b3
   ·exact b2 w hw)
  rw[ky]at this ⊢;omega
end
end R
inductive Rl where
 |ob | made | aI | aS | decided | firsts | kept | rows
 |jM (n:Nat) | ph (n:Nat) | jN (n:Nat)
abbrev Col:=Addr->Option (Nat×Rl)
def bT (i:Nat)(x:Option (Nat×Rl)):Prop:=∃r,x=some (i,r)
theorem jO {i j:Nat}(n:i≠j)(r:Rl):¬bT j (some (i,r)):=λ⟨_,e⟩=>by cases e;exact n rfl
theorem aC {i:Nat}:¬bT i none:=λ⟨_,e⟩=>by cases e
structure Step (W:Option (Nat×Rl)->Prop)(c c':Col)(H H':Hp):Prop where
 nn:¬W none
 keep:∀a v,H a=some v->¬W (c a)->H' a=some v
 there:∀a v,H a=some v->∃v',H' a=some v'
 col:∀a v,H a=some v->¬W (c a)->c' a=c a
section
variable{W W':Option (Nat×Rl)->Prop}{c c1 c2:Col}{H H' H1 H2:Hp}{a:Addr}{o:HO}
theorem Step.refl (n:¬W none):Step W c c H H:=⟨n,λ_ _ h _=>h,λ_ v h=>⟨v,h⟩,λ_ _ _ _=>rfl⟩
theorem Step.same (n:¬W none)(s:aT H H'):Step W c c H H':=⟨n,λa v h _=>s a v h,λa v h=>⟨v,s a v h⟩,λ_ _ _ _=>rfl⟩
theorem Step.mono (f:∀x,W x->W' x)(n:¬W' none)(s:Step W c c1 H H1):Step W' c c1 H H1 where
 nn:=n
 keep:=λa v h m=>s.keep a v h λz=>m (f _ z)
 there:=s.there
 col:=λa v h m=>s.col a v h λz=>m (f _ z)
theorem Step.trans (x:Step W c c1 H H1)(y:Step W c1 c2 H1 H2):Step W c c2 H H2 where
 nn:=x.nn
 keep:=λa v h n=>y.keep a v (x.keep a v h n) (by rw[x.col a v h n];exact n)
 there:=λa v h=>let ⟨v1,h1⟩:=x.there a v h;y.there a v1 h1
 col:=λa v h n=>(y.col a v (x.keep a v h n) (by rw[x.col a v h n];exact n)).trans (x.col a v h n)
theorem Step.upd (n:¬W none)(m:W (c a)):Step W c c H (L2.upd H a o) where
 nn:=n
 keep:=λb v h n=>by rw[ao (λz=>n (by rw[z];exact m))];exact h
 there:=λb v h=>by
  by_cases z:b=a
  ·rw[z];exact⟨o,ae⟩
  ·exact⟨v,by rw[ao z];exact h⟩
 col:=λ_ _ _ _=>rfl
def aN (c:Col)(a:Addr)(x:Option (Nat×Rl)):Col:=λb=>if b=a then x else c b
theorem bj {x:Option (Nat×Rl)}:aN c a x a=x:=if_pos rfl
theorem az {b:Addr}{x:Option (Nat×Rl)}(h:b≠a):aN c a x b=c b:=if_neg h
theorem Step.new {x:Option (Nat×Rl)}(n:¬W none)(h:H a=none):Step W c (aN c a x) H (L2.upd H a o) where
 nn:=n
 keep:=λb v e _=>av h b v e
 there:=λb v e=>⟨v,av h b v e⟩
 col:=λb v e _=>az (λz=>by rw[z,h]at e;cases e)
theorem Step.role {x:Option (Nat×Rl)}(n:¬W none)(m:W (c a)):Step W c (aN c a x) H H where
 nn:=n
 keep:=λ_ _ h _=>h
 there:=λ_ v h=>⟨v,h⟩
 col:=λb _ _ n=>az (λz=>n (by rw[z];exact m))
def bz (c:Col)(H:Hp):Col:=λa=>if (H a).isSome then c a else none
theorem bL (h:H a=none):bz c H a=none:=by unfold bz;rw[h];rfl
theorem rD {v:HO}(h:H a=some v):bz c H a=c a:=by unfold bz;rw[h];rfl
theorem Step.cl (n:¬W none)(s:aT H H'):Step W c (bz c H) H H':=⟨n,λa v h _=>s a v h,λa v h=>⟨v,s a v h⟩,λ_ _ h _=>rD h⟩
end
def Wr (i:Nat)(p:Rl->Bool)(x:Option (Nat×Rl)):Prop:=∃r,x=some (i,r)/\p r=true
section
variable{i:Nat}{p:Rl->Bool}{r:Rl}{c c':Col}{H H':Hp}{a:Addr}
theorem Wr.nn:¬Wr i p none:=λ⟨_,e,_⟩=>nomatch e
theorem Wr.no (h:p r=false):¬Wr i p (some (i,r)):=λ⟨_,e,z⟩=>by cases e;rw[h]at z;cases z
theorem Wr.yes (e:c a=some (i,r))(h:p r=true):Wr i p (c a):=⟨r,e,h⟩
theorem Step.pj (s:Step (Wr i p) c c' H H'):Step (bT i) c c' H H':=s.mono (λ_ ⟨r,e,_⟩=>⟨r,e⟩) aC
theorem rF {o:Addr}{v:HO}(h:p .ob=false)(s:Step (Wr i p) c c' H H')(h1:c o=some (i,.ob))(h2:H o=some v):c' o=some (i,.ob)/\H' o=some v:=by
 have hn:¬Wr i p (c o):=by rw[h1];exact Wr.no h
 exact⟨by rw[s.col o _ h2 hn];exact h1,s.keep _ _ h2 hn⟩
end
inductive Mn where
 |mat (tx:List Str) | chg (e:Ed) | mnd (e:Ed) | off (n:Int) | cls | lay | rst | pnt (z:Str)
def Mn.k:Mn->Nat
 | .mat _=>0 | .chg _=>1 | .mnd _=>2 | .off _=>3 | .cls=>4 | .lay=>5 | .rst=>6 | .pnt _=>7
theorem Mn.k8 (m:Mn):m.k < 8:=by cases m <;> simp only[Mn.k] <;> omega
def TupAt (c:Col)(H:Hp)(t:Addr)(xs:List V):Prop:=c t=none/\Rd H t (.tup xs)
theorem TupAt.sq {K:ba}{c:Col}{H:Hp}{t:Addr}{xs:List V}(h:TupAt c H t xs):SqT K H t xs:=.inl h.2
theorem TupAt.step {W:Option (Nat×Rl)->Prop}{c c':Col}{H H':Hp}{t:Addr}{xs:List V}(s:Step W c c' H H')(h:TupAt c H t xs):TupAt c' H' t xs:=by
 obtain⟨n,h⟩:=h;have hn:¬W (c t):=by rw[n];exact s.nn
 rcases h with h | ⟨o,h⟩
 ·exact⟨by rw[s.col t _ h hn];exact n,.inl (s.keep _ _ h hn)⟩
 ·exact⟨by rw[s.col t _ h hn];exact n,.inr ⟨o,s.keep _ _ h hn⟩⟩
def Gp (c:Col)(H:Hp)(p:Addr)(tx:List Str):Prop:=c p=none/\H p=some (.lst (tx.map V.str))
theorem Gp.step {W:Option (Nat×Rl)->Prop}{c c':Col}{H H':Hp}{p:Addr}{tx:List Str}(s:Step W c c' H H')(h:Gp c H p tx):Gp c' H' p tx :=
 have hn:¬W (c p):=by rw[h.1];exact s.nn
 ⟨by rw[s.col p _ h.2 hn];exact h.1,s.keep _ _ h.2 hn⟩
def Mn.Val (c:Col)(H:Hp):Mn->V->Prop
 | .mat tx,v=>∃p,v=.ref p/\Gp c H p tx
 | .chg e,v=>∃t,v=.ref t/\TupAt c H t (gw e)
 | .mnd e,v=>∃t,v=.ref t/\TupAt c H t (gw e)
 | .off n,v=>v=.int n
 | .pnt z,v=>v=.str z
 |_,_=>True
theorem Mn.Val.step {W:Option (Nat×Rl)->Prop}{c c':Col}{H H':Hp}(s:Step W c c' H H'):∀ {m:Mn} {v:V},m.Val c H v->m.Val c' H' v
 | .mat _,_,⟨p,e,h⟩=>⟨p,e,h.step s⟩
 | .chg _,_,⟨t,e,h⟩=>⟨t,e,h.step s⟩
 | .mnd _,_,⟨t,e,h⟩=>⟨t,e,h.step s⟩
 | .off _,_,h=>h
 | .pnt _,_,h=>h
 | .cls,_,_=>trivial
 | .lay,_,_=>trivial
 | .rst,_,_=>trivial
def jP (A:Adr)(c:Col)(H:Hp)(m:Mn)(o:Addr):Prop:=c o=none/\∃dx v,H o=some (.ins (A.C m.k) dx (mh m.k v))/\m.Val c H v
theorem jP.step {A:Adr}{W:Option (Nat×Rl)->Prop}{c c':Col}{H H':Hp}{m:Mn}{o:Addr}(s:Step W c c' H H')(h:jP A c H m o):jP A c' H' m o:=by
 obtain⟨n,dx,v,h,hv⟩:=h;have hn:¬W (c o):=by rw[n];exact s.nn
 exact⟨by rw[s.col o _ h hn];exact n,dx,v,s.keep _ _ h hn,hv.step s⟩
structure Ch where
 b5:Int
 a9:Int
 closed:Bool
 made:List Mn
 aI:List Nat
 aS:List (Nat×Int×List Nat)
 decided:List (Nat×Str)
 firsts:List (Nat×List Str)
 kept:List (Nat×List Ed)
 rows:List Str
def nV (n:Nat):V:=.int (n:Int)
def bc (xs:List (Nat×V)):List (Key×V):=xs.map λp=>(kr (p.1:Int),p.2)
inductive bf {α β:Type}(R:α->β->Prop):List α->List β->Prop
 |nil:bf R [] []
 |cons {a b as bs}:R a b->bf R as bs->bf R (a::as) (b::bs)
theorem bf.imp {α β:Type}{R R':α->β->Prop}(f:∀a b,R a b->R' a b):∀ {as:List α} {bs:List β},bf R as bs->bf R' as bs
 |_,_,.nil=>.nil
 |_,_,.cons h t=>.cons (f _ _ h) (t.imp f)
def LstAt (i:Nat)(c:Col)(H:Hp)(r:Rl)(a:Addr)(xs:List V):Prop:=c a=some (i,r)/\H a=some (.lst xs)
def iu (i:Nat)(c:Col)(H:Hp)(r:Rl)(a:Addr)(xs:List (Nat×V)):Prop:=c a=some (i,r)/\H a=some (.dK (bc xs))
def chF (v0 v1 v2 v3 v4 v5 v6 v7 v8 v9:V):List (Str×V):=[(ar "seats",v0),(ar "sitting",v1),(ar "closed",v2),(ar "made",v3),(ar "pile",v4),(ar "aside",v5),(ar "decided",v6),(ar "first_texts",v7),(ar "edits_kept",v8),(ar "rows",v9)]
abbrev Kt (i:Nat)(c:Col)(H:Hp)(x:Nat×Int×List Nat)(v:V):Prop:=∃t p,v=.ref t/\TupAt c H t [.int x.2.1,.ref p]/\LstAt i c H (.jM x.1) p (x.2.2.map nV)
abbrev Ci (i:Nat)(c:Col)(H:Hp)(x:Nat×List Str)(v:V):Prop:=∃p,v=.ref p/\LstAt i c H (.jN x.1) p (x.2.map V.str)
abbrev Gr (i:Nat)(c:Col)(H:Hp)(x:Nat×List Ed)(v:V):Prop:=∃p ts,v=.ref p/\LstAt i c H (.ph x.1) p (ts.map V.ref)/\bf (λe t=>TupAt c H t (gw e)) x.2 ts
structure ChX (A:Adr)(i:Nat)(c:Col)(H:Hp)(o:Addr)(st:Ch)(dx aM aP aA aD aF aE aR:Addr)(ms ds:List Addr)(ws fs es:List V):Prop where
 co:c o=some (i,.ob)
 ob:H o=some (.ins A.aq dx (chF (.int st.b5) (.int st.a9) (.bl st.closed) (.ref aM) (.ref aP) (.ref aA) (.ref aD) (.ref aF) (.ref aE) (.ref aR)))
 made:iu i c H .made aM ((TF 1 st.made.length).zip (ms.map V.ref))
 mot:bf (λm p=>jP A c H m p) st.made ms
 aI:LstAt i c H .aI aP (st.aI.map nV)
 aS:iu i c H .aS aA ((st.aS.map (·.1)).zip ws)
 wait:bf (Kt i c H) st.aS ws
 dec:LstAt i c H .decided aD (ds.map V.ref)
 wO:bf (λ(x:Nat×Str) t=>TupAt c H t [nV x.1,.str x.2]) st.decided ds
 firsts:iu i c H .firsts aF ((st.firsts.map (·.1)).zip fs)
 first:bf (Ci i c H) st.firsts fs
 iw:iu i c H .kept aE ((st.kept.map (·.1)).zip es)
 kept:bf (Gr i c H) st.kept es
 rows:LstAt i c H .rows aR (st.rows.map V.str)
structure b9 (A:Adr)(i:Nat)(c:Col)(H:Hp)(o:Addr)(st:Ch):Prop where
 ex:∃(dx aM aP aA aD aF aE aR:Addr) (ms ds:List Addr) (ws fs es:List V),ChX A i c H o st dx aM aP aA aD aF aE aR ms ds ws fs es
theorem LstAt.keep {i:Nat}{W:Option (Nat×Rl)->Prop}{c c':Col}{H H':Hp}{r:Rl}{a:Addr}{xs:List V}(n:¬W (some (i,r)))(s:Step W c c' H H')(h:LstAt i c H r a xs):LstAt i c' H' r a xs:=by
 have hn:¬W (c a):=by rw[h.1];exact n
 exact⟨by rw[s.col a _ h.2 hn];exact h.1,s.keep _ _ h.2 hn⟩
theorem iu.keep {i:Nat}{W:Option (Nat×Rl)->Prop}{c c':Col}{H H':Hp}{r:Rl}{a:Addr}{xs:List (Nat×V)}(n:¬W (some (i,r)))(s:Step W c c' H H')(h:iu i c H r a xs):iu i c' H' r a xs:=by
 have hn:¬W (c a):=by rw[h.1];exact n
 exact⟨by rw[s.col a _ h.2 hn];exact h.1,s.keep _ _ h.2 hn⟩
section
variable{A:Adr}{i:Nat}{p:Rl->Bool}{r:Rl}{c c':Col}{H H':Hp}{a o:Addr}
theorem LstAt.kp {xs:List V}(h:p r=false)(s:Step (Wr i p) c c' H H')(z:LstAt i c H r a xs):LstAt i c' H' r a xs:=z.keep (Wr.no h) s
theorem iu.kp {xs:List (Nat×V)}(h:p r=false)(s:Step (Wr i p) c c' H H')(z:iu i c H r a xs):iu i c' H' r a xs:=z.keep (Wr.no h) s
theorem bf.imp_mem {α β:Type}{R R':α->β->Prop}:∀ {as:List α} {bs:List β},(∀a∈as,∀b,R a b->R' a b)->bf R as bs->bf R' as bs
 |_,_,_,.nil=>.nil
 |_,_,f,.cons h t=>.cons (f _ gc _ h) (t.imp_mem λa m b=>f a (kf _ m) b)
theorem pq {as:List Mn}{ms:List Addr}{W:Option (Nat×Rl)->Prop}(s:Step W c c' H H')(z:bf (λm p=>jP A c H m p) as ms):bf (λm p=>jP A c' H' m p) as ms:=z.imp λ_ _ y=>y.step s
theorem pw {as:List (Nat×Str)}{ds:List Addr}{W:Option (Nat×Rl)->Prop}(s:Step W c c' H H')(z:bf (λ(x:Nat×Str) t=>TupAt c H t [nV x.1,.str x.2]) as ds):bf (λ(x:Nat×Str) t=>TupAt c' H' t [nV x.1,.str x.2]) as ds:=z.imp λ_ _ y=>y.step s
theorem qM {as:List (Nat×Int×List Nat)}{ws:List V}(h:∀x∈as,p (.jM x.1)=false)(s:Step (Wr i p) c c' H H')(z:bf (Kt i c H) as ws):bf (Kt i c' H') as ws :=
 z.imp_mem λx m v ⟨t,q,e,z1,z2⟩=>⟨t,q,e,z1.step s,z2.kp (h x m) s⟩
theorem qN {as:List (Nat×List Str)}{ws:List V}(h:∀x∈as,p (.jN x.1)=false)(s:Step (Wr i p) c c' H H')(z:bf (Ci i c H) as ws):bf (Ci i c' H') as ws :=
 z.imp_mem λx m v ⟨q,e,z2⟩=>⟨q,e,z2.kp (h x m) s⟩
theorem tE {as:List (Nat×List Ed)}{ws:List V}(h:∀x∈as,p (.ph x.1)=false)(s:Step (Wr i p) c c' H H')(z:bf (Gr i c H) as ws):bf (Gr i c' H') as ws :=
 z.imp_mem λx m v ⟨q,ts,e,z2,z3⟩=>⟨q,ts,e,z2.kp (h x m) s,z3.imp λ_ _ y=>y.step s⟩
end
theorem b9.other {A:Adr}{i j:Nat}(n:i≠j){c c':Col}{H H':Hp}{o:Addr}{st:Ch}(s:Step (bT j) c c' H H')(h:b9 A i c H o st):b9 A i c' H' o st:=by
 obtain⟨dx,aM,aP,aA,aD,aF,aE,aR,ms,ds,ws,fs,es,h1,h2,h3,h4,h5,h6,h7,h8,h9,h10,h11,h12,h13,h14⟩:=h.ex;have no:=λr=>jO n r
 have hn:¬bT j (c o):=by rw[h1];exact no _
 refine⟨dx,aM,aP,aA,aD,aF,aE,aR,ms,ds,ws,fs,es,by rw[s.col o _ h2 hn];exact h1,s.keep _ _ h2 hn,h3.keep (no _) s,h4.imp λ_ _ z=>z.step s,h5.keep (no _) s,h6.keep (no _) s,h7.imp ?_,h8.keep (no _) s,h9.imp λ_ _ z=>z.step s,
  h10.keep (no _) s,h11.imp ?_,h12.keep (no _) s,h13.imp ?_,h14.keep (no _) s⟩
 ·rintro x v ⟨t,p,e,z1,z2⟩;exact⟨t,p,e,z1.step s,z2.keep (no _) s⟩
 ·rintro x v ⟨p,e,z⟩;exact⟨p,e,z.keep (no _) s⟩
 ·rintro x v ⟨p,ts,e,z1,z2⟩;exact⟨p,ts,e,z1.keep (no _) s,z2.imp λ_ _ y=>y.step s⟩
section
variable{v0 v1 v2 v3 v4 v5 v6 v7 v8 v9 y:V}
theorem HK:(chF v0 v1 v2 v3 v4 v5 v6 v7 v8 v9).lookup (ar "seats")=some v0:=by simp only[chF,Uc,show (ar "seats" == ar "seats")=true from by trivial]
theorem fN:(chF v0 v1 v2 v3 v4 v5 v6 v7 v8 v9).lookup (ar "sitting")=some v1:=by simp only[chF,Uc,show (ar "sitting" == ar "seats")=false from by trivial,show (ar "sitting" == ar "sitting")=true from by trivial]
theorem m9:(chF v0 v1 v2 v3 v4 v5 v6 v7 v8 v9).lookup (ar "closed")=some v2:=by simp only[chF,Uc,show (ar "closed" == ar "seats")=false from by trivial,show (ar "closed" == ar "sitting")=false from by trivial,show (ar "closed" == ar "closed")=true from by trivial]
theorem dE:(chF v0 v1 v2 v3 v4 v5 v6 v7 v8 v9).lookup (ar "made")=some v3:=by simp only[chF,Uc,show (ar "made" == ar "seats")=false from by trivial,show (ar "made" == ar "sitting")=false from by trivial,show (ar "made" == ar "closed")=false from by trivial,show (ar "made" == ar "made")=true from by trivial]
theorem dF:(chF v0 v1 v2 v3 v4 v5 v6 v7 v8 v9).lookup (ar "pile")=some v4:=by simp only[chF,Uc,show (ar "pile" == ar "seats")=false from by trivial,show (ar "pile" == ar "sitting")=false from by trivial,show (ar "pile" == ar "closed")=false from by trivial,show (ar "pile" == ar "made")=false from by trivial,show (ar "pile" == ar "pile")=true from by trivial]
theorem gZ:(chF v0 v1 v2 v3 v4 v5 v6 v7 v8 v9).lookup (ar "aside")=some v5:=by simp only[chF,Uc,show (ar "aside" == ar "seats")=false from by trivial,show (ar "aside" == ar "sitting")=false from by trivial,show (ar "aside" == ar "closed")=false from by trivial,show (ar "aside" == ar "made")=false from by trivial,show (ar "aside" == ar "pile")=false from by trivial,show (ar "aside" == ar "aside")=true from by trivial]
theorem vY:(chF v0 v1 v2 v3 v4 v5 v6 v7 v8 v9).lookup (ar "decided")=some v6:=by simp only[chF,Uc,show (ar "decided" == ar "seats")=false from by trivial,show (ar "decided" == ar "sitting")=false from by trivial,show (ar "decided" == ar "closed")=false from by trivial,show (ar "decided" == ar "made")=false from by trivial,show (ar "decided" == ar "pile")=false from by trivial,show (ar "decided" == ar "aside")=false from by trivial,show (ar "decided" == ar "decided")=true from by trivial]
theorem wQ:(chF v0 v1 v2 v3 v4 v5 v6 v7 v8 v9).lookup (ar "first_texts")=some v7:=by simp only[chF,Uc,show (ar "first_texts" == ar "seats")=false from by trivial,show (ar "first_texts" == ar "sitting")=false from by trivial,show (ar "first_texts" == ar "closed")=false from by trivial,show (ar "first_texts" == ar "made")=false from by trivial,show (ar "first_texts" == ar "pile")=false from by trivial,show (ar "first_texts" == ar "aside")=false from by trivial,show (ar "first_texts" == ar "decided")=false from by trivial,show (ar "first_texts" == ar "first_texts")=true from by trivial]
theorem pD:(chF v0 v1 v2 v3 v4 v5 v6 v7 v8 v9).lookup (ar "edits_kept")=some v8:=by simp only[chF,Uc,show (ar "edits_kept" == ar "seats")=false from by trivial,show (ar "edits_kept" == ar "sitting")=false from by trivial,show (ar "edits_kept" == ar "closed")=false from by trivial,show (ar "edits_kept" == ar "made")=false from by trivial,show (ar "edits_kept" == ar "pile")=false from by trivial,show (ar "edits_kept" == ar "aside")=false from by trivial,show (ar "edits_kept" == ar "decided")=false from by trivial,show (ar "edits_kept" == ar "first_texts")=false from by trivial,show (ar "edits_kept" == ar "edits_kept")=true from by trivial]
theorem pE:(chF v0 v1 v2 v3 v4 v5 v6 v7 v8 v9).lookup (ar "rows")=some v9:=by simp only[chF,Uc,show (ar "rows" == ar "seats")=false from by trivial,show (ar "rows" == ar "sitting")=false from by trivial,show (ar "rows" == ar "closed")=false from by trivial,show (ar "rows" == ar "made")=false from by trivial,show (ar "rows" == ar "pile")=false from by trivial,show (ar "rows" == ar "aside")=false from by trivial,show (ar "rows" == ar "decided")=false from by trivial,show (ar "rows" == ar "first_texts")=false from by trivial,show (ar "rows" == ar "edits_kept")=false from by trivial,show (ar "rows" == ar "rows")=true from by trivial]
theorem DK:d7 (ar "sitting") y (chF v0 v1 v2 v3 v4 v5 v6 v7 v8 v9)=chF v0 y v2 v3 v4 v5 v6 v7 v8 v9:=by
 unfold chF;simp only[d7];rw[if_neg (by trivial),if_pos trivial]
theorem y4:d7 (ar "closed") y (chF v0 v1 v2 v3 v4 v5 v6 v7 v8 v9)=chF v0 v1 y v3 v4 v5 v6 v7 v8 v9:=by
 unfold chF;simp only[d7];rw[if_neg (by trivial),if_neg (by trivial),if_pos trivial]
theorem DL:d7 (ar "pile") y (chF v0 v1 v2 v3 v4 v5 v6 v7 v8 v9)=chF v0 v1 v2 v3 y v5 v6 v7 v8 v9:=by
 unfold chF;simp only[d7];rw[if_neg (by trivial),if_neg (by trivial),if_neg (by trivial),if_neg (by trivial),if_pos trivial]
end
def HL (A:Adr)(i:Nat):Sp:=λvs H Q E=>∃(o:Addr) (c:Col) (st:Ch),vs=[.ref o]/\b9 A i c H o st/\(st.aI≠[]->Q .non H)/\(st.aI=[]->E (.ref A.gU) none H)
section
variable{P:km}{w:World}{K:ba}{mg:Str->Option Value}{base:Heap}{A:Adr}
theorem jQ (T:Txt w.params K mg A){i:Nat}:FnOk P w K mg base (CXX P w) 1 A.cS A.cN ["self"] (HL A i):=by
 refine T.jV.okX js (λvs H Q E h=>?_) (λcdv A' outer s H vs Q E hr h=>?_)
 ·obtain⟨o,c,st,rfl,_⟩:=h;rfl
 ·obtain⟨o,c,st,rfl,hc,q1,q2⟩:=h;obtain⟨dx,aM,aP,aA,aD,aF,aE,aR,ms,ds,ws,fs,es,h1,h2,h3,h4,h5,h6,h7,h8,h9,h10,h11,h12,h13,h14⟩:=hc.ex;refine⟨_,(aJ (b6 (kM (nS (aZ (pv 0) rfl) (λ_=>rfl)))
 (aJ (fJ T.E7 rfl rfl T.HD (aa aw af)))
 (i3 aO))),?_⟩
  try dsimp only[br]
  refine dh rfl h2 T.ag T.bg dF ?_;refine⟨_,.inl ⟨_,.inl (.inl h5.2),rfl⟩,?_⟩;cases e:st.aI with
  |nil=>exact dN ⟨by decide,q2 e⟩
  |cons x r=>exact df (q1 (by rw[e];exact TK _ _))
end
theorem bf.len {α β:Type}{R:α->β->Prop}:∀ {as:List α} {bs:List β},bf R as bs->as.length=bs.length
 |_,_,.nil=>rfl
 |_,_,.cons _ t=>by rw[ky,ky,t.len]
theorem bf.get {α β:Type}{R:α->β->Prop}:∀ {as:List α} {bs:List β} {i:Nat} {a:α},bf R as bs->as[i]?=some a->∃b,bs[i]?=some b/\R a b
 |_,_,_,_,.nil,h=>by simp at h
 |_,_,0,_,.cons h t,e=>by
  rw[Uo]at e;cases e;exact⟨_,Uo,h⟩
 |_,_,i+1,_,.cons h t,e=>by
  rw[UN]at e;obtain⟨b,e1,e2⟩:=t.get e;exact⟨b,by rw[UN];exact e1,e2⟩
theorem y6:∀(ms:List Addr) (s k:Nat) {o:Addr},ms[k]?=some o->ia (bc ((TF s ms.length).zip (ms.map V.ref))) (kr ((s+k:Nat):Int))=some (.ref o)
 |[],_,_,_,h=>by simp at h
 |m::ms,s,0,o,h=>by
  rw[Uo]at h;cases h;exact jr (p:=(kr ((s:Nat):Int),V.ref m)) rfl
 |m::ms,s,k+1,o,h=>by
  rw[UN]at h;have ih:=y6 ms (s+1) k h;have e:s+(k+1)=s+1+k:=by omega
  rw[e];refine(fX (p:=(kr ((s:Nat):Int),V.ref m)) ?_).trans ih;intro z;have z':((s:Nat):Int)=((s+1+k:Nat):Int):=Sum.inl.inj z;omega
def Ch.mo (st:Ch)(n:Nat):Mn:=st.made.getD (n - 1) .cls
def eE (st:Ch)(n:Nat):Prop:=1<=n/\n<=st.made.length
def HM (A:Adr)(i:Nat):Sp:=λvs H Q _=>∃(o:Addr) (c:Col) (st:Ch),vs=[.ref o]/\b9 A i c H o st/\(∀n∈st.aI,eE st n)/\st.aI.length<=1000 /\
 ∀R os,H R=none->bf (λn m=>jP A c H (st.mo n) m) st.aI os->Q (.ref R) (upd H R (.lst (os.map V.ref)))
theorem Gs {A:Adr}{c:Col}{H:Hp}{st:Ch}{ms:List Addr}(h:bf (λm p=>jP A c H m p) st.made ms):∀(ns:List Nat),(∀n∈ns,eE st n)->bf (λn m=>jP A c H (st.mo n) m) ns (ns.map λn=>ms.getD (n - 1) 0)
 |[],_=>.nil
 |n::ns,g=>by
  have hn:=g n gc;have hlt:n - 1 < st.made.length:=by have:=hn.1;have:=hn.2;omega
  obtain⟨b,e1,e2⟩:=h.get (sr hlt);refine .cons ?_ (Gs h ns λn hn=>g n (kf _ hn))
  have e3:st.mo n=st.made[n - 1]:=by unfold Ch.mo;rw[Tv,sr hlt];rfl
  have e4:ms.getD (n - 1) 0=b:=by rw[Tv,e1];rfl
  show jP A c H (st.mo n) (ms.getD (n - 1) 0);rw[e3,e4];exact e2
section
variable{P:km}{w:World}{K:ba}{mg:Str->Option Value}{base:Heap}{A:Adr}
theorem y7 (T:Txt w.params K mg A){i:Nat}:FnOk P w K mg base CX0 1 A.gk A.fB ["self"] (HM A i):=by
 refine T.tj.ok qY (λvs H Q E h=>?_) (λcdv A' outer s H vs Q E hr h=>?_)
 ·obtain⟨o,c,st,rfl,_⟩:=h;rfl
 ·obtain⟨o,c,st,rfl,hc,hp,hpl,q⟩:=h;obtain⟨dx,aM,aP,aA,aD,aF,aE,aR,ms,ds,ws,fs,es,h1,h2,h3,h4,h5,h6,h7,h8,h9,h10,h11,h12,h13,h14⟩:=hc.ex;have hu1:=hr.u1;refine⟨_,(ai (aB (j3 (scope:=gB) oj rfl (hU (aZ (pv 0) rfl)) (λ_ _ _ _ _=>(i6 hu1 (LW (K:=K) rfl (pv 1) rfl) (pv 0) (λ_ _=>rfl)))))),?_⟩
  try dsimp only[br]
  have ml:=h4.len;refine dh rfl h2 T.ag T.bg dF ?_;have hB:SqL K H aP (st.aI.map nV):=SqL.of h5.2;refine⟨aP,rfl,⟨_,hB⟩,λR hR=>?_⟩
  have sR:∀ {o:HO},aT H (upd H R o):=av hR;refine lD (K:=K) (a:=aP) (xs:=st.aI.map nV) (λi ys H2=>ys=((st.aI.take i).map λn=>V.ref (ms.getD (n - 1) 0))/\H2=upd H R (.lst ys)) ⟨rfl,rfl⟩ (by rw[bo,sizeLine_eq];omega) ?_ ?_ ?_
  ·rintro i ys H2 hi ⟨rfl,rfl⟩;rw[bo]at hi;exact⟨sR.seq hB,ae,by rw[bo,To];omega⟩
  ·rintro i y ys H2 hy ⟨rfl,rfl⟩;refine aL λGq gq=>?_
   obtain⟨n,hn1,rfl⟩:∃n,st.aI[i]?=some n/\nV n=y:=by
    rw[wt]at hy;cases ht:st.aI[i]? with
    |none=>rw[ht]at hy;cases hy
    |some t=>rw[ht]at hy;exact⟨t,rfl,om hy⟩
   have hn:=hp n (Ti hn1);have hlt:n - 1 < ms.length:=by have:=hn.1;have:=hn.2;omega
   have hm:ms[n - 1]?=some (ms.getD (n - 1) 0):=by rw[Tv,sr hlt];rfl
   have hv:=y6 ms 1 (n - 1) hm;rw[<-ml,show 1+(n - 1)=n by have:=hn.1;omega]at hv
   refine gq ?_;refine dh rfl (sR _ _ h2) T.ag T.bw dE ?_;refine⟨_,rfl,aM,_,rfl,.inl ⟨_,kr (n:Int),.inl (sR _ _ h3.2),rfl,hv.symm⟩,?_⟩;refine bZ.mk (List.getElem?_eq_some_iff.mp hy).1 ae ⟨?_,by rw[jW]⟩
   rw[Uw,hn1,ma];rfl
  ·rintro ys H2 ⟨rfl,rfl⟩;rw[bo,TY];have:=q R _ hR (Gs h4 st.aI hp);rw[U9]at this;exact this
end
theorem bf.snoc {α β:Type}{R:α->β->Prop}:∀ {as:List α} {bs:List β} {a:α} {b:β},bf R as bs->R a b->bf R (as++[a]) (bs++[b])
 |_,_,_,_,.nil,h=>.cons h .nil
 |_,_,_,_,.cons g t,h=>.cons g (t.snoc h)
def Ku (A:Adr)(i:Nat):Sp:=λvs H Q _=>∃(o:Addr) (wd:Str) (c:Col) (st:Ch) (pre:List Nat) (n:Nat),vs=[.ref o,.str wd]/\b9 A i c H o st/\st.aI=pre++[n]/\st.aI.length<=1000/\st.decided.length<=1000 /\
 ∀c' H',Step (bT i) c c' H H'->b9 A i c' H' o { st with aI:=pre,decided:=st.decided++[(n,wd)] }->Q .non H'
section
variable{P:km}{w:World}{K:ba}{mg:Str->Option Value}{base:Heap}{A:Adr}
theorem AU (T:Txt w.params K mg A){i:Nat}:FnOk P w K mg base CX0 1 A.gQ A.gm ["self","word"] (Ku A i):=by
 refine T.uT.ok sG (λvs H Q E h=>?_) (λcdv A' outer s H vs Q E hr h=>?_)
 ·obtain⟨o,wd,c,st,pre,n,rfl,_⟩:=h;rfl
 ·obtain⟨o,wd,c,st,pre,n,rfl,hc,hp,hpl,hdl,q⟩:=h;obtain⟨dx,aM,aP,aA,aD,aF,aE,aR,ms,ds,ws,fs,es,h1,h2,h3,h4,h5,h6,h7,h8,h9,h10,h11,h12,h13,h14⟩:=hc.ex;refine⟨_,(ai (bF (fV Tj Tx Tz cA (aZ (pv 0) rfl) (aa (bM (aa (NQ Tj PySem.F.slot_list_pop PySem.F.type_list_pop NS (aZ (pv 0) rfl)) (aa (pv 1) af))) af)))),?_⟩
  try dsimp only[br]
  refine dh rfl h2 T.ag T.fD vY ?_;have hy:(st.aI.map nV)[(st.aI.map nV).length - 1]?=some (nV n):=by rw[hp];simp
  have hdr:(st.aI.map nV).dropLast=pre.map nV:=by rw[hp,ma];simp
  have nPD:aD≠aP:=λz=>by have:=h8.1;rw[z,h5.1]at this;cases this
  refine⟨.inl ⟨rfl,_,SqL.of h8.2⟩,dh rfl h2 T.ag T.bg dF ?_⟩;refine⟨.inl ⟨rfl,_,SqL.of h5.2⟩,aP,_,_,rfl,rfl,h5.2,hy,_,rfl,(sl 2),λp hp0=>?_⟩
  have np:∀ {a:Addr} {v:HO},H a=some v->a≠p:=by
   intro a v e z;subst z
   by_cases y:a=aP
   ·subst y;rw[ae]at hp0;cases hp0
   ·rw[ao y,e]at hp0;cases hp0
  have nn:¬(λx=>x=some (i,Rl.aI)\/x=some (i,Rl.decided)) (none:Option (Nat×Rl)):=by rintro (z | z) <;> cases z
  refine⟨aD,_,_,rfl,rfl,(ao (np h8.2)).trans ((ao nPD).trans h8.2),?_,?_⟩
  ·rw[bo,<-h9.len,sizeLine_eq];omega
  have sp:Step (λx=>x=some (i,Rl.aI)\/x=some (i,Rl.decided)) c (aN c p none) H (upd (upd (upd H aP (.lst (st.aI.map nV).dropLast)) p (.tup [nV n,.str wd])) aD (.lst (ds.map V.ref++[.ref p]))) :=
   ((Step.upd nn (.inl h5.1)).trans (Step.new nn hp0)).trans (Step.upd nn (.inr (by rw[az (np h8.2)];exact h8.1)))
  have ht:TupAt (aN c p none) (upd (upd (upd H aP (.lst (st.aI.map nV).dropLast)) p (.tup [nV n,.str wd])) aD (.lst (ds.map V.ref++[.ref p]))) p [nV n,.str wd] :=
   ⟨bj,.inl ((ao (np h8.2).symm).trans ae)⟩
  have kp:LstAt i (aN c p none) (upd (upd (upd H aP (.lst (st.aI.map nV).dropLast)) p (.tup [nV n,.str wd])) aD (.lst (ds.map V.ref++[.ref p]))) .aI aP (pre.map nV) :=
   ⟨by rw[az (np h5.2)];exact h5.1,by rw[ao nPD.symm,ao (np h5.2),ae,hdr]⟩
  have kd:LstAt i (aN c p none) (upd (upd (upd H aP (.lst (st.aI.map nV).dropLast)) p (.tup [nV n,.str wd])) aD (.lst (ds.map V.ref++[.ref p]))) .decided aD ((ds++[p]).map V.ref) :=
   ⟨by rw[az (np h8.2)];exact h8.1,by rw[ae,ma];rfl⟩
  generalize upd (upd (upd H aP (.lst (st.aI.map nV).dropLast)) p (.tup [nV n,.str wd])) aD (.lst (ds.map V.ref++[.ref p]))=H' at sp ht kp kd ⊢;generalize aN c p none=c' at sp ht kp kd;have no:∀r,r≠Rl.aI->r≠Rl.decided->¬(λx=>x=some (i,Rl.aI)\/x=some (i,Rl.decided)) (some (i,r)):=λr y1 y2=>by
   rintro (z | z)
   ·cases z;exact y1 rfl
   ·cases z;exact y2 rfl
  have hno:=no .ob (λz=>nomatch z) (λz=>nomatch z)
  refine q c' H' (sp.mono (by rintro x (z | z) <;> exact⟨_,z⟩) aC) ⟨dx,aM,aP,aA,aD,aF,aE,aR,ms,ds++[p],ws,fs,es,by rw[sp.col o _ h2 (by rw[h1];exact hno)];exact h1,sp.keep _ _ h2 (by rw[h1];exact hno),
   h3.keep (no .made (λz=>nomatch z) (λz=>nomatch z)) sp,h4.imp λ_ _ z=>z.step sp,kp,h6.keep (no .aS (λz=>nomatch z) (λz=>nomatch z)) sp,h7.imp ?_,kd,(h9.imp λ_ _ z=>z.step sp).snoc ht,
   h10.keep (no .firsts (λz=>nomatch z) (λz=>nomatch z)) sp,h11.imp ?_,h12.keep (no .kept (λz=>nomatch z) (λz=>nomatch z)) sp,h13.imp ?_,h14.keep (no .rows (λz=>nomatch z) (λz=>nomatch z)) sp⟩
  ·rintro x v ⟨t,a,e,z1,z2⟩;exact⟨t,a,e,z1.step sp,z2.keep (no (.jM x.1) (λz=>nomatch z) (λz=>nomatch z)) sp⟩
  ·rintro x v ⟨a,e,z⟩;exact⟨a,e,z.keep (no (.jN x.1) (λz=>nomatch z) (λz=>nomatch z)) sp⟩
  ·rintro x v ⟨a,ts,e,z1,z2⟩;exact⟨a,ts,e,z1.keep (no (.ph x.1) (λz=>nomatch z) (λz=>nomatch z)) sp,z2.imp λ_ _ y=>y.step sp⟩
end
inductive Xc where
 |y8 (b:Int) | y9 | noChange | noFit | tF (n:Int) | nothing | tooMany | Cj | Fh (n:Int) | DM
def Xc.At (A:Adr)(H:Hp):Xc->Value->Option Addr->Prop
 | .y8 b,C,d=>C=.ref A.ig/\∃a,d=some a/\H a=some (.xd [(ar "bar",.int b)])
 | .y9,C,d=>C=.ref A.gR/\d=none
 | .noChange,C,d=>C=.ref A.gS/\d=none
 | .noFit,C,d=>C=.ref A.kh/\d=none
 | .tF n,C,d=>C=.ref A.eB/\∃a,d=some a/\H a=some (.xd [(ar "sitting",.int n)])
 | .nothing,C,d=>C=.ref A.gU/\d=none
 | .tooMany,C,d=>C=.ref A.ji/\d=none
 | .Cj,C,d=>C=.ref A.jj/\d=none
 | .Fh n,C,d=>C=.ref A.ij/\∃a,d=some a/\H a=some (.xd [(ar "sitting",.int n)])
 | .DM,C,d=>C=.ref A.gW/\d=none
def Xc.New (A:Adr)(H H':Hp)(x:Xc)(C:Value)(d:Option Addr):Prop:=x.At A H' C d/\∀a,d=some a->H a=none
theorem same_none {H H':Hp}(s:aT H H'){a:Addr}(h:H' a=none):H a=none:=by
 cases z:H a with
 |none=>rfl
 |some v=>rw[s _ _ z]at h;cases h
theorem p7 {i:Int}(h0:-10000000000 < i)(h1:i < 10000000000):i.natAbs.log2 < 1920:=by
 have h:i.natAbs < 2 ^ 34:=by
  have:(10000000000:Int)<=2 ^ 34:=by decide
  omega
 by_cases hz:i.natAbs=0
 ·rw[hz];decide
 ·exact Nat.lt_trans ((Nat.log2_lt hz).mpr h) (by decide)
theorem u0 {i:Int}(h0:0<=i)(h1:i < 10000000000):(ar (toString i)).length<=20 :=
 ra (PyProof.Rows.toString_length_le h0 (by decide:(1:Nat)<=11) (by show i < (10:Int) ^ 11;omega)) (by decide)
theorem mi {i:Int}(h0:0<=i)(h1:i < 10000000000):∃z,zM (.int i) z/\z.length<=10000 :=
 ⟨_,.int (p7 (by omega) h1),ra (u0 h0 h1) (by decide)⟩
def pF (ms:List Mn):Int:=match ms.getLast? with
 |none=>-1
 |some m=>(m.k:Int)
def rG (cl:Bool)(ms:List Mn):Int:=if cl=true then (if (4:Int) > pF ms then 4 else pF ms) else pF ms
def HN (ms:List Mn):Bool:=ms.any λm=>decide (m.k=0)
def nc (ms:List Mn):Bool:=match ms.getLast? with
 |some (.chg e)=>!decide (e.k=1)
 |_=>false
def DN (ms:List Mn)(k:Nat):Bool:=if k=2 then nc ms else if k=1\/k=3\/k=4\/k=5 then HN ms else true
def zZ (cl:Bool)(ms:List Mn)(k:Nat):Option Xc :=
 if (k:Int)<=rG cl ms then some (.y8 (rG cl ms)) else if DN ms k=true then none else if HN ms=true then some .noChange else some .y9
theorem Kv (ms:List Mn):-1<=pF ms/\pF ms < 8:=by
 unfold pF;split
 ·omega
 ·rename_i m _;have:=m.k8;omega
theorem Fi (cl:Bool)(ms:List Mn):-1<=rG cl ms/\rG cl ms < 8:=by
 have:=Kv ms;unfold rG;split
 ·split <;> omega
 ·omega
def tG (A:Adr)(K:ba)(c:Col)(H:Hp)(B:Addr)(ms:List Mn)(os:List Addr):Prop:=SqL K H B (os.map V.ref)/\bf (λm p=>jP A c H m p) ms os
theorem jP.same {A:Adr}{c:Col}{H H':Hp}{m:Mn}{o:Addr}(s:aT H H')(h:jP A c H m o):jP A c H' m o:=h.step (Step.same (W:=λ_=>False) id s)
theorem tG.same {A:Adr}{K:ba}{c:Col}{H H':Hp}{B:Addr}{ms:List Mn}{os:List Addr}(s:aT H H')(h:tG A K c H B ms os):tG A K c H' B ms os:=⟨s.seq h.1,h.2.imp λ_ _ y=>y.same s⟩
def QR (A:Adr)(K:ba):Sp:=λvs H Q _=>∃(B:Addr) (cl:Bool) (c:Col) (ms:List Mn) (os:List Addr),vs=[.ref B,.bl cl]/\tG A K c H B ms os/\Q (.int (rG cl ms)) H
def QS (A:Adr)(K:ba):Sp:=λvs H Q _=>∃(B:Addr) (c:Col) (ms:List Mn) (os:List Addr),vs=[.ref B]/\tG A K c H B ms os/\ms.length<=1000/\∀H',aT H H'->Q (.bl (HN ms)) H'
def OY (A:Adr)(K:ba):Sp:=λvs H Q _=>∃(B:Addr) (c:Col) (ms:List Mn) (os:List Addr),vs=[.ref B]/\tG A K c H B ms os/\∀H',aT H H'->Q (.bl (nc ms)) H'
def Mf (A:Adr)(K:ba):Sp:=λvs H Q _=>∃(k:Nat) (B:Addr) (c:Col) (ms:List Mn) (os:List Addr),vs=[.str (nm k),.ref B]/\k < 8/\tG A K c H B ms os/\ms.length<=1000/\∀H',aT H H'->Q (.bl (DN ms k)) H'
def QT (A:Adr)(K:ba):Sp:=λvs H Q E=>∃(k:Nat) (B:Addr) (cl:Bool) (c:Col) (ms:List Mn) (os:List Addr),vs=[.str (nm k),.ref B,.bl cl]/\k < 8/\tG A K c H B ms os/\ms.length<=1000 /\
 (zZ cl ms k=none->∀H',aT H H'->Q .non H')/\∀x,zZ cl ms k=some x->∀C d H',aT H H'->x.New A H H' C d->E C d H'
def w6 (A:Adr)(K:ba)(k:Nat):Sp:=λvs H Q E=>(k=0/\Gj A K vs H Q E)\/Ff A k vs H Q E
theorem ze (pre:List Addr)(q:Addr):atI ((pre++[q]).map V.ref) (-1)=some (.ref q):=by
 rw[ma];exact nU _ _
theorem Fj:∀k,k < 8->decide (V.str (nm k)=V.str (ar "matter"))=decide (k=0):=by trivial
theorem d0:∀k,k < 8->decide (V.str (nm k)=V.str (ar "change"))=decide (k=1):=by trivial
theorem fE:∀k,k < 8->decide (V.str (nm k)=V.str (ar "mend"))=decide (k=2):=by trivial
theorem iO:∀k,k < 8->decide (V.str (nm k)=V.str (ar "put off"))=decide (k=3):=by trivial
theorem zf:∀k,k < 8->decide (V.str (nm k)=V.str (ar "close"))=decide (k=4):=by trivial
theorem Ck:∀k,k < 8->decide (V.str (nm k)=V.str (ar "lay"))=decide (k=5):=by trivial
theorem Fl:∀k,k < 8->decide (V.str (nm k)=V.str (ar "rest"))=decide (k=6):=by trivial
theorem w8:∀ {k:Nat} {v:V},atI (rowOf k v) 0=some (.str (nm k))
 | 0,_=>rfl
 | 1,_=>rfl
 | 2,_=>rfl
 | 3,_=>rfl
 | 4,_=>rfl
 | 5,_=>rfl
 | 6,_=>rfl
 | 7,_=>rfl
 |_+8,_=>rfl
theorem Mg:∀k,decide (V.str (kn k)=V.str (ar "cut"))=decide (k=1)
 | 0=>by trivial
 | 1=>by trivial
 |n+2=>by rw[decide_eq_false (show ¬n+2=1 by omega)];show decide (V.str (ar "turn")=_)=_;trivial
theorem bf.last {α β:Type}{R:α->β->Prop}{as:List α}{pre:List β}{b:β}(h:bf R as (pre++[b])):∃as' a,as=as'++[a]/\bf R as' pre/\R a b:=by
 induction pre generalizing as with
 |nil =>
  cases h with
  |cons h t=>cases t;exact⟨[],_,rfl,.nil,h⟩
 |cons x r ih =>
  cases h with
  |cons h t =>
   obtain⟨as',a,rfl,h1,h2⟩:=ih t;exact⟨_::as',a,rfl,.cons h h1,h2⟩
theorem p8 (ms:List Mn)(m:Mn):pF (ms++[m])=(m.k:Int):=by unfold pF;rw[UL]
section
variable{P:km}{w:World}{K:ba}{mg:Str->Option Value}{base:Heap}{A:Adr}
theorem vZ (T:Txt w.params K mg A):FnOk P w K mg base CX0 1 A.yi A.uN ["self","bar"] (xH A.ig "bar"):=by
 refine T.Fb.ok xX (λvs H Q E h=>?_) (λcdv A' outer s H vs Q E hr h=>?_)
 ·obtain⟨e,v,rfl,_⟩:=h;rfl
 ·obtain⟨e,v,rfl,hx,⟨z,fz,zl⟩,q⟩:=h;refine⟨_,(ak (bF (nY T.dQ T.p0 rfl T.cy (aa (pv 0) (aa (r8 (eY (mD (pv 1) mB))) af))))
 (ai (r9 T.p0 (pv 0) (pv 1)))),?_⟩
  try dsimp only[br]
  have sz:eg=16777216:=by decide
  have c5:(ar "barred by the bar ").length=18:=by trivial
  have e5:(Um++ar "barred by the bar ":Str).length=18:=by trivial
  refine⟨_,rfl,by rw[e5];omega,_,rfl,z,fz,by omega,by rw[len_app,e5];omega,by rw[len_app,e5];omega,e,_,rfl,hx,?_⟩
  exact⟨_,rfl,_,rfl,e,rfl,hx,λd hd=>q d hd⟩
theorem z5 (T:Txt w.params K mg A):FnOk P w K mg base CX0 1 A.rj A.oG ["self","sitting"] (xH A.eB "sitting"):=by
 refine T.B0.ok uv (λvs H Q E h=>?_) (λcdv A' outer s H vs Q E hr h=>?_)
 ·obtain⟨e,v,rfl,_⟩:=h;rfl
 ·obtain⟨e,v,rfl,hx,⟨z,fz,zl⟩,q⟩:=h;refine⟨_,(ak (bF (nY T.dQ T.pd rfl T.cy (aa (pv 0) (aa (r8 (eY (mD (pv 1) mB))) af))))
 (ai (r9 T.pd (pv 0) (pv 1)))),?_⟩
  try dsimp only[br]
  have sz:eg=16777216:=by decide
  have c5:(ar "not later than the sitting ").length=27:=by trivial
  have e5:(Um++ar "not later than the sitting ":Str).length=27:=by trivial
  refine⟨_,rfl,by rw[e5];omega,_,rfl,z,fz,by omega,by rw[len_app,e5];omega,by rw[len_app,e5];omega,e,_,rfl,hx,?_⟩
  exact⟨_,rfl,_,rfl,e,rfl,hx,λd hd=>q d hd⟩
theorem DO (T:Txt w.params K mg A):FnOk P w K mg base CX0 1 A.yj A.uO ["self","sitting"] (xH A.ij "sitting"):=by
 refine T.Fc.ok xY (λvs H Q E h=>?_) (λcdv A' outer s H vs Q E hr h=>?_)
 ·obtain⟨e,v,rfl,_⟩:=h;rfl
 ·obtain⟨e,v,rfl,hx,⟨z,fz,zl⟩,q⟩:=h;refine⟨_,(ak (bF (nY T.dQ T.uU rfl T.cy (aa (pv 0) (aa (r8 (eY (mD (pv 1) mB))) af))))
 (ai (r9 T.uU (pv 0) (pv 1)))),?_⟩
  try dsimp only[br]
  have sz:eg=16777216:=by decide
  have c5:(ar "aside until the sitting ").length=24:=by trivial
  have e5:(Um++ar "aside until the sitting ":Str).length=24:=by trivial
  refine⟨_,rfl,by rw[e5];omega,_,rfl,z,fz,by omega,by rw[len_app,e5];omega,by rw[len_app,e5];omega,e,_,rfl,hx,?_⟩
  exact⟨_,rfl,_,rfl,e,rfl,hx,λd hd=>q d hd⟩
theorem zg (T:Txt w.params K mg A):∀k,k < 8->FnOk P w K mg base CX0 2 (A.ft k) (A.ftd k) ["self"] (w6 A K k)
 | 0,_=>(Kp T).imp λvs H Q E h=>h.elim (λz=>z.2) (λz=>absurd z.1 (by decide))
 | 1,h=>(mZ T 1 h).imp λvs H Q E h=>h.elim (λz=>absurd z.1 (by decide)) id
 | 2,h=>(mZ T 2 h).imp λvs H Q E h=>h.elim (λz=>absurd z.1 (by decide)) id
 | 3,h=>(mZ T 3 h).imp λvs H Q E h=>h.elim (λz=>absurd z.1 (by decide)) id
 | 4,h=>(mZ T 4 h).imp λvs H Q E h=>h.elim (λz=>absurd z.1 (by decide)) id
 | 5,h=>(mZ T 5 h).imp λvs H Q E h=>h.elim (λz=>absurd z.1 (by decide)) id
 | 6,h=>(mZ T 6 h).imp λvs H Q E h=>h.elim (λz=>absurd z.1 (by decide)) id
 | 7,h=>(mZ T 7 h).imp λvs H Q E h=>h.elim (λz=>absurd z.1 (by decide)) id
 |n+8,h=>absurd h (by omega)
theorem AV (T:Txt w.params K mg A):FnOk P w K mg base CX0 3 A.EV A.uB ["pile","closed"] (QR A K):=by
 have OZ:∀k,k < 8->FnOk P w K mg base CX0 2 A.f_r A.LX ["self"] (Kn A):=λ_ _=>Ma T
 refine T.yk.ok AA (λvs H Q E h=>?_) (λcdv A' outer s H vs Q E hr h=>?_)
 ·obtain⟨B,cl,c,ms,os,rfl,_⟩:=h;rfl
 ·obtain⟨B,cl,c,ms,os,rfl,⟨hB,ho⟩,q⟩:=h;refine⟨_,(ak (aY (i:=2) AA.nd rfl (Tp rfl) (CD (nS (pv 0) (λ_=>rfl)) (gK (n:=8) (Cf:=A.C) (aU a8 (pv 0) (xm qT aj) (λ_ _=>rfl)) T.cl T.OK OZ hr T.OM aV) (xm qT aj)))
 (ak (bE (kL (pv 1))
 (ai (aB (bh (GV rfl) (by rfl) T.QH NY (aa (pv 2) (aa (hJ (v:=V.int 4) rfl T.BY ⟨_,rfl⟩) af)))))
 aO)
 (ai (aB (pv 2))))),?_⟩
  try dsimp only[br]
  unfold rG at q;rcases Uj os with h | ⟨pre,o,h⟩
  ·subst h;cases ho;refine⟨_,rfl,_,.inl ⟨_,hB,rfl⟩,df ⟨_,rfl,?_⟩⟩;refine⟨_,rfl,_,rfl,?_⟩;cases cl with
   |true=>exact dN ⟨_,rfl,_,_,rfl,q⟩
   |false=>exact df ⟨_,rfl,q⟩
  ·rw[Uk]at h;refine aL λGq gq=>?_
   subst h;obtain⟨ms',m,rfl,_,_,dx,v,hm,_⟩:=ho.last;rw[p8]at q;refine gq ?_;refine⟨_,rfl,_,.inl ⟨_,hB,rfl⟩,xA (by simp) ⟨_,rfl,_,rfl,B,_,_,_,rfl,rfl,hB,ze pre o,m.k,m.k8,o,dx,_,rfl,hm,L7 m.k v,o,m.k,dx,_,m.k8,rfl,hm,jc m.k v,?_⟩⟩
   refine⟨_,rfl,_,rfl,?_⟩;cases cl with
   |true=>exact dN ⟨_,rfl,_,_,rfl,q⟩
   |false=>exact df ⟨_,rfl,q⟩
theorem qO (T:Txt w.params K mg A):FnOk P w K mg base CX0 2 A.qZ A.kR ["pile"] (QS A K):=by
 have eD:∀k,k < 8->FnOk P w K mg base CX0 1 (A.fk k) (A.fkd k) ["self"] (dZ k):=jd T;refine T.mS.ok zS (λvs H Q E h=>?_) (λcdv A' outer s H vs Q E hr h=>?_)
 ·obtain⟨B,c,ms,os,rfl,_⟩:=h;rfl
 ·obtain⟨B,c,ms,os,rfl,⟨hB,ho⟩,hl,q⟩:=h;refine⟨_,(ai (aB (bh (Jf rfl) (by rfl) T.QI NZ (aa (j3 (scope:=lI) wC rfl (hU (pv 0)) (λ_ _ _ _ _=>(bI bx (gK (n:=8) (Cf:=A.C) (pv 0) T.cl T.mU eD hr T.mV aV) aw (aH _)))) af)))),?_⟩
  try dsimp only[br]
  have lim:eg=16777216:=by decide
  have ol:=ho.len;refine⟨_,rfl,B,rfl,⟨_,hB⟩,λR hR=>?_⟩
  have sR:∀ {o:HO},aT H (upd H R o):=av hR;refine lD (K:=K) (a:=B) (xs:=os.map V.ref) (λi ys H2=>ys=(ms.take i).map (λm=>V.bl (decide (m.k=0)))/\H2=upd H R (.lst ys)) ⟨rfl,rfl⟩ (by rw[bo];omega) ?_ ?_ ?_
  ·rintro i ys H2 hi ⟨rfl,rfl⟩;rw[bo]at hi;exact⟨sR.seq hB,ae,by rw[bo,To];omega⟩
  ·rintro i y ys H2 hy ⟨rfl,rfl⟩;refine aL λGq gq=>?_
   have hi:i < ms.length:=by have:=(List.getElem?_eq_some_iff.mp hy).1;rw[bo]at this;omega
   obtain⟨o,ho1,_,dx,v,ho2,_⟩:=ho.get (sr hi);rw[wt,ho1]at hy;cases hy;refine gq ?_;refine⟨_,rfl,ms[i].k,ms[i].k8,o,dx,_,rfl,sR _ _ ho2,jc _ v,o,rfl,rfl,?_⟩;rw[Fj _ ms[i].k8];refine bZ.mk (by rw[bo];omega) ae ⟨?_,by rw[jW]⟩
   rw[Uw,sr hi,ma];rfl
  ·rintro ys H2 ⟨rfl,rfl⟩;rw[bo,<-ol,TY];refine⟨R,ms.map (λm=>decide (m.k=0)),rfl,SqL.of (by rw[ae,U9];rfl),?_⟩
   rw[List.any_map];exact q _ sR
theorem u3 (T:Txt w.params K mg A):FnOk P w K mg base CX0 3 A.kS A.gM ["pile"] (OY A K):=by
 have zh:∀k,k < 8->FnOk P w K mg base CX0 2 (A.ft k) (A.ftd k) ["self"] (w6 A K k):=zg T;refine T.nH.ok lJ (λvs H Q E h=>?_) (λcdv A' outer s H vs Q E hr h=>?_)
 ·obtain⟨B,c,ms,os,rfl,_⟩:=h;rfl
 ·obtain⟨B,c,ms,os,rfl,⟨hB,ho⟩,q⟩:=h;refine⟨_,(ak (bE (kM (nS (pv 0) (λ_=>rfl)))
 (ai (aB ni))
 aO)
 (ak (aY (i:=1) lJ.nd rfl (Tp rfl) (gK (n:=8) (Cf:=A.C) (aU a8 (pv 0) (xm qT aj) (λ_ _=>rfl)) T.cl T.E2 zh hr T.E3 aV))
 (ai (aB (iA (bI bx (aU bq (pv 1) aj (λ_ _=>rfl)) aw (aH _)) (gI (bI Ad (aU bq (aU bq (pv 1) aj (λ_ _=>rfl)) aj (λ_ _=>rfl)) aw (aH _)))))))),?_⟩
  try dsimp only[br]
  rcases Uj os with h | ⟨pre,o,h⟩
  ·subst h;cases ho;refine⟨_,rfl,_,.inl ⟨_,hB,rfl⟩,dN ?_⟩;exact q H (aT.refl _)
  ·rw[Uk]at h;subst h;refine⟨_,rfl,_,.inl ⟨_,hB,rfl⟩,Aq (by simp) ?_⟩
   refine aL λGq gq=>?_
   obtain⟨ms',m,rfl,_,_,dx,v,hm,hv⟩:=ho.last;have gl:(ms'++[m]).getLast?=some m:=UL;unfold nc at q;rw[gl]at q;refine gq ?_;refine⟨_,rfl,_,rfl,B,_,_,_,rfl,rfl,hB,ze pre o,m.k,m.k8,o,dx,_,rfl,hm,B6 m.k v,?_⟩
   by_cases h0:m.k=0
   ·obtain⟨tx,rfl⟩:∃tx,m=.mat tx:=by cases m <;> first | exact⟨_,rfl⟩ | exact absurd h0 (by simp[Mn.k])
    refine aL λGq gq=>?_
    obtain⟨p,rfl,_,hp⟩:=hv;refine gq ?_;refine .inl ⟨rfl,o,dx,p,tx.map V.str,rfl,hm,SqL.of hp,λp2 u hp2 hu npu=>?_⟩
    have nu:(upd H p2 (.lst (tx.map V.str))) u=none:=(ao (Tr npu)).trans hu;refine ixv rfl (SqT.of ae) rfl ⟨rfl,_,rfl,?_⟩;rw[d0 0 (by decide)]
    exact df (q _ ((av hp2).new nu))
   ·refine .inr ⟨by omega,o,dx,v,rfl,hm,λu hu=>?_⟩
    have su:=av (o:=.tup (rowOf m.k v)) hu;refine ixv rfl (SqT.of ae) w8 ⟨rfl,_,rfl,?_⟩;rw[d0 m.k m.k8]
    by_cases h1:m.k=1
    ·obtain⟨e,rfl⟩:∃e,m=.chg e:=by cases m <;> first | exact⟨_,rfl⟩ | exact absurd h1 (by simp[Mn.k])
     refine aL λGq gq=>?_
     obtain⟨t,rfl,ht⟩:=hv;refine gq ?_;refine xA (decide_eq_true rfl) (ixv rfl (SqT.of ae) rfl ⟨t,_,_,_,rfl,rfl,dg su ht.sq,B2 e,rfl,?_⟩);rw[Mg];exact q _ su
    ·rw[decide_eq_false h1];have q':∀H',aT H H'->Q (.bl false) H':=by
      cases m with
      |chg e=>exact absurd rfl h1
      |_=>exact q
     exact df (q' _ su)
theorem pG (T:Txt w.params K mg A):FnOk P w K mg base CX0 4 A.gf A.et ["kind","pile"] (Mf A K):=by
 refine T.iW.ok oq (λvs H Q E h=>?_) (λcdv A' outer s H vs Q E hr h=>?_)
 ·obtain⟨k,B,c,ms,os,rfl,_⟩:=h;rfl
 ·obtain⟨k,B,c,ms,os,rfl,k8,hp,hl,q⟩:=h;refine⟨_,(ak (bE (aQ bx (pv 0) aw (aH _))
 (ai (aB (aW (u3 T) hr rfl T.wG T.nH.kp T.wH .nil aV (aa (pv 1) af))))
 aO)
 (ak (bE (aQ um (pv 0) (bM (aa aw (aa aw (aa aw (aa aw af))))) rfl)
 (ai (aB (aW (qO T) (hr.mono (by decide)) rfl T.sP T.mS.kp T.sQ .nil aV (aa (pv 1) af))))
 aO)
 (ai (aB ni)))),?_⟩
  try dsimp only[br]
  refine⟨_,rfl,rfl,_,rfl,?_⟩;rw[fE k k8];unfold DN at q
  by_cases h2:k=2
  ·rw[if_pos h2]at q;exact xA (decide_eq_true h2) ⟨_,rfl,B,c,ms,os,rfl,hp,q⟩
  ·rw[if_neg h2]at q;refine Aq (decide_eq_false h2) ?_;refine⟨_,rfl,(sl 4),λt ht=>?_⟩
   have st:=av (o:=.tup [V.str (ar "change"),V.str (ar "put off"),V.str (ar "close"),V.str (ar "lay")]) ht;refine⟨t,_,rfl,.inr (SqT.of ae),rfl,rfl,_,rfl,?_⟩;have ein:(if false=true then !inV (V.str (nm k)) [V.str (ar "change"),V.str (ar "put off"),V.str (ar "close"),V.str (ar "lay")] else inV (V.str (nm k)) [V.str (ar "change"),V.str (ar "put off"),V.str (ar "close"),V.str (ar "lay")])=decide (k=1\/k=3\/k=4\/k=5):=by
    have:∀k,k < 8->inV (V.str (nm k)) [V.str (ar "change"),V.str (ar "put off"),V.str (ar "close"),V.str (ar "lay")]=decide (k=1\/k=3\/k=4\/k=5):=by trivial
    exact this k k8
   rw[ein]
   by_cases h3:k=1\/k=3\/k=4\/k=5
   ·rw[if_pos h3]at q;exact xA (decide_eq_true h3) ⟨_,rfl,B,c,ms,os,rfl,hp.same st,hl,λH' s'=>q H' (st.trans s')⟩
   ·rw[if_neg h3]at q;exact Aq (decide_eq_false h3) (q _ st)
theorem qm (T:Txt w.params K mg A):FnOk P w K mg base (CXX P w) 5 A.gN A.eU ["kind","pile","closed"] (QT A K):=by
 refine T.jH.okX iV (λvs H Q E h=>?_) (λcdv A' outer s H vs Q E hr h=>?_)
 ·obtain⟨k,B,cl,c,ms,os,rfl,_⟩:=h;rfl
 ·obtain⟨k,B,cl,c,ms,os,rfl,k8,hp,hl,q,qx⟩:=h;refine⟨_,(au (psx (aY (i:=3) iV.nd rfl (Tp rfl) (aW (AV T) (hr.mono (by decide)) rfl T.Df T.yk.kp T.Dg .nil aV (aa (pv 1) (aa (pv 2) af)))))
 (au (b6 (aQ vg (aU Je (hJ (v:=V.ref A.tab) rfl T.F9 rfl) (pv 0) (λ_ _=>rfl)) (pv 3) (aH _))
 (aJ (jq T.p0 (vZ T) (hr.mono (by decide)) T.yT rfl rfl T.DB (aa (pv 3) af)))
 (i3 aO))
 (aJ (b6 (kM (kL (aW (pG T) hr rfl T.qd T.iW.kp T.qf .nil aV (aa (pv 0) (aa (pv 1) af)))))
 (au (b6 (kL (aW (qO T) (hr.mono (by decide)) rfl T.sP T.mS.kp T.sQ .nil aV (aa (pv 1) af)))
 (aJ (fJ T.DD rfl rfl T.E5 (aa aw af)))
 (i3 aO))
 (aJ (fJ T.DC rfl rfl T.E4 (aa (r8 (mD (pv 0) (eY mB))) af))))
 (i3 aO))))),?_⟩
  try dsimp only[br]
  refine⟨_,rfl,_,rfl,B,cl,c,ms,os,rfl,hp,?_⟩;obtain⟨tk,htk⟩:=T.rk k k8;refine⟨_,rfl,A.tab,nm k,.int k,_,rfl,rfl,T.tb,htk,⟨_,rfl⟩,_,rfl,_,_,rfl,rfl,_,rfl,eX (λe=>?_) (λe=>?_)⟩
  ·have e':(k:Int)<=rG cl ms:=of_decide_eq_true e;have hb:=Fi cl ms;refine⟨_,rfl,_,rfl,mi (by omega) (by omega),λd hd=>qx (.y8 (rG cl ms)) (by unfold zZ;rw[if_pos e']) _ _ _ (av hd) ⟨⟨rfl,d,rfl,ae⟩,λ_ z=>by cases z;exact hd⟩⟩
  ·have e':¬(k:Int)<=rG cl ms:=λz=>e (decide_eq_true z)
   unfold zZ at q qx;rw[if_neg e']at q qx;refine⟨_,rfl,_,rfl,k,B,c,ms,os,rfl,k8,hp,hl,λH' s'=>⟨_,rfl,?_⟩⟩
   cases hn:DN ms k with
   |true =>
    rw[hn,if_pos rfl]at q;exact df (q rfl _ s')
   |false =>
    rw[hn,if_neg kg]at qx;refine dN ⟨_,rfl,B,c,ms,os,rfl,hp.same s',hl,λH2 s2=>⟨_,rfl,?_⟩⟩
    cases hm:HN ms with
    |true =>
     rw[hm,if_pos rfl]at qx;exact dN ⟨by decide,qx _ rfl _ _ _ (s'.trans s2) ⟨⟨rfl,rfl⟩,λ_ z=>nomatch z⟩⟩
    |false =>
     rw[hm,if_neg kg]at qx;refine df ⟨_,rfl,nm k,.str,?_,?_,?_⟩
     ·have:∀k,k < 8->(nm k).length<=10:=by trivial
      exact ra (this k k8) (by decide)
     ·have:∀k,k < 8->(Um++nm k:Str).length<=10:=by trivial
      exact ra (this k k8) (by decide)
     ·have:∀k,k < 8->((Um++nm k)++ar " needs a matter on the pile":Str).length<=100:=by trivial
      have l:=ra (this k k8) (show 100<=eg by decide)
      exact⟨l,l,(sl 1),qx _ rfl _ _ _ (s'.trans s2) ⟨⟨rfl,rfl⟩,λ_ z=>nomatch z⟩⟩
theorem g0 (T:Txt w.params K mg A):FnOk P w K mg base CX0 1 A.f_n A.BW ["self"] (B7 0):=by
 refine T.F_n.ok xP (λvs H Q E h=>?_) (λcdv A' outer s H vs Q E hr h=>?_)
 ·obtain⟨m,rfl,_⟩:=h;rfl
 ·obtain⟨m,rfl,q⟩:=h;exact⟨_,(ai (aB aw)),q⟩
theorem HP (T:Txt w.params K mg A):FnOk P w K mg base CX0 1 A.Ot A.JT ["self"] (B7 4):=by
 refine T.SI.ok zP (λvs H Q E h=>?_) (λcdv A' outer s H vs Q E hr h=>?_)
 ·obtain⟨m,rfl,_⟩:=h;rfl
 ·obtain⟨m,rfl,q⟩:=h;exact⟨_,(ai (aB aw)),q⟩
theorem Mh (T:Txt w.params K mg A):∀k,k < 8->FnOk P w K mg base CX0 1 (A.fn k) (A.fnd k) ["self"] (B7 k)
 | 0,_=>g0 T
 | 1,_=>g0 T
 | 2,_=>g0 T
 | 3,_=>g0 T
 | 4,_=>HP T
 | 5,_=>g0 T
 | 6,_=>g0 T
 | 7,_=>g0 T
 |n+8,h=>absurd h (by omega)
end
theorem jf {a b:Nat}:((kr (a:Int):Key)=kr (b:Int))↔a=b:=⟨λh=>by have:=Sum.inl.inj h;omega,λh=>by rw[h]⟩
theorem cc {k:Nat}{v:V}{ks:List Nat}{vs:List V}:bc ((k::ks).zip (v::vs))=(kr (k:Int),v)::bc (ks.zip vs):=rfl
theorem rH {n:Nat}:∀ {ks:List Nat} {vs:List V},n∉ks->ia (bc (ks.zip vs)) (kr (n:Int))=none
 |[],_,_=>rfl
 |_::_,[],_=>rfl
 |k::ks,v::vs,h=>by
  rw[cc,fX (λz=>h (by rw[jf.mp z];exact gc))]
  exact rH λz=>h (kf _ z)
theorem AW {n:Nat}{v:V}:∀ {ks:List Nat} {vs:List V} {j:Nat},ks.Nodup->ks[j]?=some n->vs[j]?=some v->ia (bc (ks.zip vs)) (kr (n:Int))=some v
 |[],_,_,_,h,_=>by simp at h
 |_::_,[],_,_,_,h=>by simp at h
 |k::ks,u::vs,0,_,h,g=>by
  rw[Uo]at h g;cases h;cases g;exact jr rfl
 |k::ks,u::vs,j+1,nd,h,g=>by
  rw[UN]at h g;obtain⟨n1,n2⟩:=List.nodup_cons.mp nd;rw[cc,fX (λz=>n1 (by rw[jf.mp z];exact Ti h))]
  exact AW n2 h g
theorem tH {n:Nat}{v:V}:∀ {ks:List Nat} {vs:List V},n∉ks->(bc (ks.zip vs)).map (λkv=>if kv.1=(kr (n:Int):Key) then (kv.1,v) else kv)=bc (ks.zip vs)
 |[],_,_=>rfl
 |_::_,[],_=>rfl
 |k::ks,u::vs,h=>by
  rw[cc,ko,tH λz=>h (kf _ z),if_neg (λz=>h (by rw[jf.mp z];exact gc))]
theorem AX {n:Nat}{v:V}:∀ {ks:List Nat} {vs:List V} {j:Nat},ks.Nodup->ks[j]?=some n->(bc (ks.zip vs)).map (λkv=>if kv.1=(kr (n:Int):Key) then (kv.1,v) else kv)=bc (ks.zip (vs.set j v))
 |[],_,_,_,h=>by simp at h
 |k::ks,[],_,_,_=>by simp[bc]
 |k::ks,u::vs,0,nd,h=>by
  rw[Uo]at h;cases h;rw[cc,ko,tH (List.nodup_cons.mp nd).1,if_pos rfl];rfl
 |k::ks,u::vs,j+1,nd,h=>by
  rw[UN]at h;obtain⟨n1,n2⟩:=List.nodup_cons.mp nd;rw[cc,ko,AX n2 h,if_neg (λz=>n1 (by rw[jf.mp z];exact Ti h))]
  rfl
theorem HQ {n:Nat}{v:V}{ks:List Nat}{vs:List V}{j:Nat}(nd:ks.Nodup)(h:ks[j]?=some n)(l:ks.length=vs.length):putK (bc (ks.zip vs)) (kr (n:Int)) v=bc (ks.zip (vs.set j v)):=by
 have hj:j < vs.length:=by rw[<-l];exact(List.getElem?_eq_some_iff.mp h).1
 unfold putK;rw[sf,AW nd h (sr hj)];exact(if_pos rfl).trans (AX nd h)
theorem p9 {n:Nat}{v:V}{ks:List Nat}{vs:List V}(h:n∉ks)(l:ks.length=vs.length):putK (bc (ks.zip vs)) (kr (n:Int)) v=bc ((ks++[n]).zip (vs++[v])):=by
 rw[JC v (rH h),List.zip_append l];unfold bc;rw[ma];rfl
section
variable{β:Type}{R:Nat×β->V->Prop}
def at1 (n:Nat)(xs:List (Nat×β)):Option (Nat×β):=xs.find? λx=>decide (x.1=n)
theorem kF {n:Nat}{xs:List (Nat×β)}{x:Nat×β}(h:at1 n xs=some x):x.1=n/\x∈xs:=by
 unfold at1 at h;have:=List.find?_some h;exact⟨of_decide_eq_true this,List.mem_of_find?_eq_some h⟩
theorem zi {n:Nat}{xs:List (Nat×β)}(h:at1 n xs=none):n∉xs.map (·.1):=λz=>by
 obtain⟨x,hx,e⟩:=List.mem_map.mp z;have:=List.find?_eq_none.mp h x hx;exact this (decide_eq_true e)
theorem bf.val {n:Nat}:∀ {xs:List (Nat×β)} {ws:List V} {x:Nat×β},bf R xs ws->at1 n xs=some x->∃v,ia (bc ((xs.map (·.1)).zip ws)) (kr (n:Int))=some v/\R x v
 |_,_,_,.nil,h=>nomatch h
 |y::xs,w::ws,x,.cons g t,h=>by
  unfold at1 at h;rw[UP]at h
  by_cases e:y.1=n
  ·rw[decide_eq_true e]at h;cases h;exact⟨w,by rw[ko,cc];exact jr (jf.mpr e),g⟩
  ·rw[decide_eq_false e]at h;obtain⟨v,h1,h2⟩:=bf.val t h;exact⟨v,by rw[ko,cc,fX (λz=>e (jf.mp z))];exact h1,h2⟩
theorem bf.drop {n:Nat}:∀ {xs:List (Nat×β)} {ws:List V},bf R xs ws->∃ws',iQ (bc ((xs.map (·.1)).zip ws)) (kr (n:Int))=bc (((xs.filter λx=>decide (x.1≠n)).map (·.1)).zip ws')/\bf R (xs.filter λx=>decide (x.1≠n)) ws'
 |_,_,.nil=>⟨[],rfl,.nil⟩
 |y::xs,w::ws,.cons g t=>by
  obtain⟨ws',h1,h2⟩:=bf.drop (n:=n) t
  by_cases e:y.1=n
  ·refine⟨ws',?_,?_⟩
   ·rw[List.filter_cons_of_neg (by simp[e]),<-h1,ko,cc]
    unfold iQ;rw[List.filter_cons_of_neg (by simp[e])]
   ·rw[List.filter_cons_of_neg (by simp[e])];exact h2
  ·refine⟨w::ws',?_,?_⟩
   ·rw[List.filter_cons_of_pos (by simp[e]),ko,ko,cc,cc,<-h1]
    unfold iQ;have hne:(kr (y.1:Int):Key)≠kr (n:Int):=λz=>e (jf.mp z)
    rw[List.filter_cons_of_pos (by exact decide_eq_true hne)]
   ·rw[List.filter_cons_of_pos (by simp[e])];exact .cons g h2
theorem bf.QU {R':Nat×β->V->Prop}{n:Nat}{f:Nat×β->Nat×β}{v:V}(h1:∀x,x.1=n->R x v->R' (f x) v)(h2:∀x u,x.1≠n->R x u->R' x u):∀ {xs:List (Nat×β)} {ws:List V},bf R xs ws->(xs.map (·.1)).Nodup->ia (bc ((xs.map (·.1)).zip ws)) (kr (n:Int))=some v ->
  bf R' (xs.map λx=>if x.1=n then f x else x) ws
 |_,_,.nil,_,h=>nomatch h
 |y::xs,w::ws,.cons g t,nd,h=>by
  rw[ko]at nd;obtain⟨n1,n2⟩:=List.nodup_cons.mp nd;rw[ko,cc]at h;rw[ko]
  by_cases e:y.1=n
  ·rw[jr (jf.mpr e)]at h;cases h;rw[if_pos e];refine .cons (h1 y e g) ?_;have hne:∀x∈xs,x.1≠n:=λx hx z=>n1 (by rw[e,<-z];exact List.mem_map_of_mem hx)
   have em:xs.map (λx=>if x.1=n then f x else x)=xs:=by
    have:xs.map (λx=>if x.1=n then f x else x)=xs.map id:=UR λx hx=>if_neg (hne x hx)
    rw[this,List.map_id]
   rw[em];exact t.imp_mem λx hx u=>h2 x u (hne x hx)
  ·rw[fX (λz=>e (jf.mp z))]at h
   rw[if_neg e];exact .cons (h2 y w e g) (bf.QU h1 h2 t n2 h)
end
theorem bf.set {α β:Type}{R:α->β->Prop}:∀ {as:List α} {bs:List β} {a:α} {b:β} (j:Nat),bf R as bs->R a b->bf R (as.set j a) (bs.set j b)
 |_,_,_,_,_,.nil,_=>.nil
 |_,_,_,_,0,.cons _ t,h=>.cons h t
 |_,_,_,_,j+1,.cons g t,h=>.cons g (t.set j h)
def pOb:Rl->Bool | .ob=>true | _=>false
def Ng:Rl->Bool | .rows=>true | _=>false
def Gu:Rl->Bool | .made=>true | _=>false
def Nh:Rl->Bool | .aI=>true | _=>false
def QV:Rl->Bool | .ob=>true | .aI=>true | .aS=>true | _=>false
def Ni (n:Nat):Rl->Bool | .ph m=>decide (m=n) | _=>false
def QW:Rl->Bool | .firsts=>true | _=>false
def QX:Rl->Bool | .kept=>true | _=>false
def Nj (n:Nat):Rl->Bool | .ob=>true | .aS=>true | .jM m=>decide (m=n) | _=>false
theorem pH {i:Nat}{c:Col}{a b:Addr}{r r':Rl}(h:c a=some (i,r))(h':c b=some (i,r'))(n:r≠r'):a≠b:=λz=>by
 rw[z,h']at h;cases h;exact n rfl
section
variable{A:Adr}{i:Nat}{c c':Col}{H H':Hp}{o dx aM aP aA aD aF aE aR:Addr}{st:Ch}{ms ds:List Addr}{ws fs es:List V}
theorem ChX.free {W:Option (Nat×Rl)->Prop}(h:∀r,¬W (some (i,r)))(s:Step W c c' H H')(X:ChX A i c H o st dx aM aP aA aD aF aE aR ms ds ws fs es):ChX A i c' H' o st dx aM aP aA aD aF aE aR ms ds ws fs es:=by
 have hn:¬W (c o):=by rw[X.co];exact h _
 refine⟨by rw[s.col o _ X.ob hn];exact X.co,s.keep _ _ X.ob hn,X.made.keep (h _) s,pq s X.mot,X.aI.keep (h _) s,X.aS.keep (h _) s,X.wait.imp ?_,X.dec.keep (h _) s,pw s X.wO,X.firsts.keep (h _) s,X.first.imp ?_,X.iw.keep (h _) s,X.kept.imp ?_,X.rows.keep (h _) s⟩
 ·rintro x v ⟨t,p,e,z1,z2⟩;exact⟨t,p,e,z1.step s,z2.keep (h _) s⟩
 ·rintro x v ⟨p,e,z⟩;exact⟨p,e,z.keep (h _) s⟩
 ·rintro x v ⟨p,ts,e,z1,z2⟩;exact⟨p,ts,e,z1.keep (h _) s,z2.imp λ_ _ y=>y.step s⟩
theorem ChX.same (s:aT H H')(X:ChX A i c H o st dx aM aP aA aD aF aE aR ms ds ws fs es):ChX A i c H' o st dx aM aP aA aD aF aE aR ms ds ws fs es:=X.free (W:=λ_=>False) (λ_=>id) (Step.same id s)
theorem ChX.cl (s:aT H H')(X:ChX A i c H o st dx aM aP aA aD aF aE aR ms ds ws fs es):ChX A i (bz c H) H' o st dx aM aP aA aD aF aE aR ms ds ws fs es:=X.free (W:=λ_=>False) (λ_=>id) (Step.cl id s)
theorem ChX.at (X:ChX A i c H o st dx aM aP aA aD aF aE aR ms ds ws fs es):b9 A i c H o st:=⟨_,_,_,_,_,_,_,_,_,_,_,_,_,X⟩
theorem ChX.attr (X:ChX A i c H o st dx aM aP aA aD aF aE aR ms ds ws fs es)(n:Int)(b:Bool) :
  Step (Wr i pOb) c c H (upd H o (.ins A.aq dx (chF (.int st.b5) (.int n) (.bl b) (.ref aM) (.ref aP) (.ref aA) (.ref aD) (.ref aF) (.ref aE) (.ref aR)))) /\
  ChX A i c (upd H o (.ins A.aq dx (chF (.int st.b5) (.int n) (.bl b) (.ref aM) (.ref aP) (.ref aA) (.ref aD) (.ref aF) (.ref aE) (.ref aR)))) o { st with a9:=n,closed:=b } dx aM aP aA aD aF aE aR ms ds ws fs es:=by
 have s:Step (Wr i pOb) c c H (upd H o (.ins A.aq dx (chF (.int st.b5) (.int n) (.bl b) (.ref aM) (.ref aP) (.ref aA) (.ref aD) (.ref aF) (.ref aE) (.ref aR)))):=Step.upd Wr.nn (Wr.yes X.co rfl);exact⟨s,X.co,ae,X.made.kp rfl s,pq s X.mot,X.aI.kp rfl s,X.aS.kp rfl s,qM (λ_ _=>rfl) s X.wait,X.dec.kp rfl s,pw s X.wO,X.firsts.kp rfl s,qN (λ_ _=>rfl) s X.first,X.iw.kp rfl s,tE (λ_ _=>rfl) s X.kept,X.rows.kp rfl s⟩
theorem ChX.row (X:ChX A i c H o st dx aM aP aA aD aF aE aR ms ds ws fs es)(z:Str) :
  Step (Wr i Ng) c c H (upd H aR (.lst (st.rows.map V.str++[.str z])))/\ChX A i c (upd H aR (.lst (st.rows.map V.str++[.str z]))) o { st with rows:=st.rows++[z] } dx aM aP aA aD aF aE aR ms ds ws fs es:=by
 have s:Step (Wr i Ng) c c H (upd H aR (.lst (st.rows.map V.str++[.str z]))):=Step.upd Wr.nn (Wr.yes X.rows.1 rfl);have k:=rF rfl s X.co X.ob;exact⟨s,k.1,k.2,X.made.kp rfl s,pq s X.mot,X.aI.kp rfl s,X.aS.kp rfl s,qM (λ_ _=>rfl) s X.wait,X.dec.kp rfl s,pw s X.wO,X.firsts.kp rfl s,qN (λ_ _=>rfl) s X.first,X.iw.kp rfl s,tE (λ_ _=>rfl) s X.kept,X.rows.1,by rw[ae,ma];rfl⟩
theorem ChX.push (X:ChX A i c H o st dx aM aP aA aD aF aE aR ms ds ws fs es)(n:Nat) :
  Step (Wr i Nh) c c H (upd H aP (.lst (st.aI.map nV++[nV n])))/\ChX A i c (upd H aP (.lst (st.aI.map nV++[nV n]))) o { st with aI:=st.aI++[n] } dx aM aP aA aD aF aE aR ms ds ws fs es:=by
 have s:Step (Wr i Nh) c c H (upd H aP (.lst (st.aI.map nV++[nV n]))):=Step.upd Wr.nn (Wr.yes X.aI.1 rfl);have k:=rF rfl s X.co X.ob;exact⟨s,k.1,k.2,X.made.kp rfl s,pq s X.mot,⟨X.aI.1,by rw[ae,ma];rfl⟩,X.aS.kp rfl s,qM (λ_ _=>rfl) s X.wait,X.dec.kp rfl s,pw s X.wO,X.firsts.kp rfl s,qN (λ_ _=>rfl) s X.first,X.iw.kp rfl s,tE (λ_ _=>rfl) s X.kept,X.rows.kp rfl s⟩
theorem Kw {n k:Nat}(h1:1<=n)(h2:n<=k):(TF 1 k)[n - 1]?=some n:=by
 rw[List.getElem?_range' (by omega)]
 congr 1
 omega
theorem ChX.Gv (X:ChX A i c H o st dx aM aP aA aD aF aE aR ms ds ws fs es){n:Nat}{m:Mn}{x:Addr}(hn:eE st n)(hm:jP A c H m x) :
  Step (Wr i Gu) c c H (upd H aM (.dK (putK (bc ((TF 1 st.made.length).zip (ms.map V.ref))) (kr (n:Int)) (.ref x)))) /\
  ChX A i c (upd H aM (.dK (putK (bc ((TF 1 st.made.length).zip (ms.map V.ref))) (kr (n:Int)) (.ref x)))) o { st with made:=st.made.set (n - 1) m } dx aM aP aA aD aF aE aR (ms.set (n - 1) x) ds ws fs es:=by
 have s:Step (Wr i Gu) c c H (upd H aM (.dK (putK (bc ((TF 1 st.made.length).zip (ms.map V.ref))) (kr (n:Int)) (.ref x)))):=Step.upd Wr.nn (Wr.yes X.made.1 rfl);have k:=rF rfl s X.co X.ob;have ml:=X.mot.len;have e:=HQ (v:=.ref x) (List.nodup_range' (s:=1) (n:=st.made.length)) (Kw hn.1 hn.2) (vs:=ms.map V.ref) (by rw[Ue,bo];exact ml)
 have hd:iu i c (upd H aM (.dK (putK (bc ((TF 1 st.made.length).zip (ms.map V.ref))) (kr (n:Int)) (.ref x)))) .made aM ((TF 1 (st.made.set (n - 1) m).length).zip ((ms.set (n - 1) x).map V.ref)) :=
  ⟨X.made.1,by rw[ae,e,Ux,List.map_set]⟩
 exact⟨s,k.1,k.2,hd,(pq s X.mot).set _ (hm.step s),X.aI.kp rfl s,X.aS.kp rfl s,qM (λ_ _=>rfl) s X.wait,X.dec.kp rfl s,pw s X.wO,X.firsts.kp rfl s,qN (λ_ _=>rfl) s X.first,X.iw.kp rfl s,tE (λ_ _=>rfl) s X.kept,X.rows.kp rfl s⟩
theorem ChX.Mi (X:ChX A i c H o st dx aM aP aA aD aF aE aR ms ds ws fs es){m:Mn}{x:Addr}(hm:jP A c H m x) :
  Step (Wr i Gu) c c H (upd H aM (.dK (putK (bc ((TF 1 st.made.length).zip (ms.map V.ref))) (kr ((st.made.length+1:Nat):Int)) (.ref x)))) /\
  ChX A i c (upd H aM (.dK (putK (bc ((TF 1 st.made.length).zip (ms.map V.ref))) (kr ((st.made.length+1:Nat):Int)) (.ref x)))) o { st with made:=st.made++[m] } dx aM aP aA aD aF aE aR (ms++[x]) ds ws fs es:=by
 have s:Step (Wr i Gu) c c H (upd H aM (.dK (putK (bc ((TF 1 st.made.length).zip (ms.map V.ref))) (kr ((st.made.length+1:Nat):Int)) (.ref x)))):=Step.upd Wr.nn (Wr.yes X.made.1 rfl);have k:=rF rfl s X.co X.ob;have ml:=X.mot.len;have e:=p9 (v:=.ref x) (n:=st.made.length+1) (ks:=TF 1 st.made.length) (vs:=ms.map V.ref) (by rw[List.mem_range'_1];omega) (by rw[Ue,bo];exact ml)
 have hd:iu i c (upd H aM (.dK (putK (bc ((TF 1 st.made.length).zip (ms.map V.ref))) (kr ((st.made.length+1:Nat):Int)) (.ref x)))) .made aM ((TF 1 (st.made++[m]).length).zip ((ms++[x]).map V.ref)) :=
  ⟨X.made.1,by rw[ae,e,gr,Tg,List.range'_concat,ma,Nat.one_mul,Nat.add_comm 1];rfl⟩
 exact⟨s,k.1,k.2,hd,(pq s X.mot).snoc (hm.step s),X.aI.kp rfl s,X.aS.kp rfl s,qM (λ_ _=>rfl) s X.wait,X.dec.kp rfl s,pw s X.wO,X.firsts.kp rfl s,qN (λ_ _=>rfl) s X.first,X.iw.kp rfl s,tE (λ_ _=>rfl) s X.kept,X.rows.kp rfl s⟩
def DP (n:Nat)(e:Ed)(xs:List (Nat×List Ed)):List (Nat×List Ed):=xs.map λx=>if x.1=n then (x.1,x.2++[e]) else x
theorem ChX.O0 (X:ChX A i c H o st dx aM aP aA aD aF aE aR ms ds ws fs es){n:Nat}{x:Nat×List Ed}(hx:at1 n st.kept=some x):∃(p:Addr) (ts:List Addr),ia (bc ((st.kept.map (·.1)).zip es)) (kr (n:Int))=some (.ref p)/\LstAt i c H (.ph n) p (ts.map V.ref)/\ts.length=x.2.length:=by
 obtain⟨v,h1,p,ts,rfl,h2,h3⟩:=X.kept.val hx;rw[(kF hx).1]at h2;exact⟨p,ts,h1,h2,h3.len.symm⟩
theorem ChX.Mj (X:ChX A i c H o st dx aM aP aA aD aF aE aR ms ds ws fs es){n:Nat}{e:Ed}{t p:Addr}{ts:List Addr}(hv:ia (bc ((st.kept.map (·.1)).zip es)) (kr (n:Int))=some (.ref p))(hl:LstAt i c H (.ph n) p (ts.map V.ref))(nd:(st.kept.map (·.1)).Nodup)(ht:TupAt c H t (gw e)) :
  Step (Wr i (Ni n)) c c H (upd H p (.lst (ts.map V.ref++[.ref t])))/\ChX A i c (upd H p (.lst (ts.map V.ref++[.ref t]))) o { st with kept:=DP n e st.kept } dx aM aP aA aD aF aE aR ms ds ws fs es:=by
 have s:Step (Wr i (Ni n)) c c H (upd H p (.lst (ts.map V.ref++[.ref t]))):=Step.upd Wr.nn (Wr.yes hl.1 (decide_eq_true rfl));have k:=rF rfl s X.co X.ob;have ek:(DP n e st.kept).map (·.1)=st.kept.map (·.1):=by
  unfold DP;rw[U9];refine UR λx _=>?_
  show (if x.1=n then (x.1,x.2++[e]) else x).1=x.1
  split <;> rfl
 refine⟨s,k.1,k.2,X.made.kp rfl s,pq s X.mot,X.aI.kp rfl s,X.aS.kp rfl s,qM (λ_ _=>rfl) s X.wait,X.dec.kp rfl s,pw s X.wO,X.firsts.kp rfl s,qN (λ_ _=>rfl) s X.first,by show iu i c _ .kept aE (((DP n e st.kept).map (·.1)).zip es);rw[ek];exact X.iw.kp rfl s,?_,X.rows.kp rfl s⟩
 refine bf.QU (f:=λx=>(x.1,x.2++[e])) (v:=.ref p) ?_ ?_ X.kept nd hv
 ·rintro x e1 ⟨q,us,e2,z1,z2⟩;cases e2;have e3:us.map V.ref=ts.map V.ref:=by
   have:=z1.2;rw[hl.2]at this;injection this with this
   injection this with this
   exact this.symm
  refine⟨p,us++[t],rfl,⟨z1.1,?_⟩,(z2.imp λ_ _ y=>y.step s).snoc (ht.step s)⟩
  rw[ae,<-e3,ma];rfl
 ·rintro x u e1 ⟨q,us,rfl,z1,z2⟩;exact⟨q,us,rfl,z1.kp (decide_eq_false e1) s,z2.imp λ_ _ y=>y.step s⟩
theorem ChX.Kx (X:ChX A i c H o st dx aM aP aA aD aF aE aR ms ds ws fs es){n:Nat}{tx:List Str}{p:Addr}(hp:H p=none)(hn:n∉st.firsts.map (·.1)) :
  Step (Wr i QW) c (aN c p (some (i,.jN n))) H (upd (upd H p (.lst (tx.map V.str))) aF (.dK (putK (bc ((st.firsts.map (·.1)).zip fs)) (kr (n:Int)) (.ref p)))) /\
  ChX A i (aN c p (some (i,.jN n))) (upd (upd H p (.lst (tx.map V.str))) aF (.dK (putK (bc ((st.firsts.map (·.1)).zip fs)) (kr (n:Int)) (.ref p)))) o { st with firsts:=st.firsts++[(n,tx)] } dx aM aP aA aD aF aE aR ms ds ws (fs++[.ref p]) es:=by
 have np:∀ {a:Addr} {v:HO},H a=some v->a≠p:=λe=>aG e hp
 have s:Step (Wr i QW) c (aN c p (some (i,.jN n))) H (upd (upd H p (.lst (tx.map V.str))) aF (.dK (putK (bc ((st.firsts.map (·.1)).zip fs)) (kr (n:Int)) (.ref p)))) :=
  (Step.new Wr.nn hp).trans (Step.upd Wr.nn ⟨.firsts,by rw[az (np X.firsts.2)];exact X.firsts.1,rfl⟩)
 have k:=rF rfl s X.co X.ob;have e:=p9 (v:=.ref p) hn (vs:=fs) (by rw[bo];exact X.first.len)
 have hd:iu i (aN c p (some (i,.jN n))) (upd (upd H p (.lst (tx.map V.str))) aF (.dK (putK (bc ((st.firsts.map (·.1)).zip fs)) (kr (n:Int)) (.ref p)))) .firsts aF (((st.firsts++[(n,tx)]).map (·.1)).zip (fs++[.ref p])) :=
  ⟨by rw[az (np X.firsts.2)];exact X.firsts.1,by rw[ae,e,ma];rfl⟩
 have hl:Ci i (aN c p (some (i,.jN n))) (upd (upd H p (.lst (tx.map V.str))) aF (.dK (putK (bc ((st.firsts.map (·.1)).zip fs)) (kr (n:Int)) (.ref p)))) (n,tx) (.ref p) :=
  ⟨p,rfl,bj,(ao (np X.firsts.2).symm).trans ae⟩
 exact⟨s,k.1,k.2,X.made.kp rfl s,pq s X.mot,X.aI.kp rfl s,X.aS.kp rfl s,qM (λ_ _=>rfl) s X.wait,X.dec.kp rfl s,pw s X.wO,hd,(qN (λ_ _=>rfl) s X.first).snoc hl,X.iw.kp rfl s,tE (λ_ _=>rfl) s X.kept,X.rows.kp rfl s⟩
theorem ChX.Ml (X:ChX A i c H o st dx aM aP aA aD aF aE aR ms ds ws fs es){n:Nat}{p:Addr}(hp:H p=none)(hn:n∉st.kept.map (·.1)) :
  Step (Wr i QX) c (aN c p (some (i,.ph n))) H (upd (upd H p (.lst [])) aE (.dK (putK (bc ((st.kept.map (·.1)).zip es)) (kr (n:Int)) (.ref p)))) /\
  ChX A i (aN c p (some (i,.ph n))) (upd (upd H p (.lst [])) aE (.dK (putK (bc ((st.kept.map (·.1)).zip es)) (kr (n:Int)) (.ref p)))) o { st with kept:=st.kept++[(n,([]:List Ed))] } dx aM aP aA aD aF aE aR ms ds ws fs (es++[.ref p]):=by
 have np:∀ {a:Addr} {v:HO},H a=some v->a≠p:=λe=>aG e hp
 have s:Step (Wr i QX) c (aN c p (some (i,.ph n))) H (upd (upd H p (.lst [])) aE (.dK (putK (bc ((st.kept.map (·.1)).zip es)) (kr (n:Int)) (.ref p)))) :=
  (Step.new Wr.nn hp).trans (Step.upd Wr.nn ⟨.kept,by rw[az (np X.iw.2)];exact X.iw.1,rfl⟩)
 have k:=rF rfl s X.co X.ob;have e:=p9 (v:=.ref p) hn (vs:=es) (by rw[bo];exact X.kept.len)
 have hd:iu i (aN c p (some (i,.ph n))) (upd (upd H p (.lst [])) aE (.dK (putK (bc ((st.kept.map (·.1)).zip es)) (kr (n:Int)) (.ref p)))) .kept aE (((st.kept++[(n,([]:List Ed))]).map (·.1)).zip (es++[.ref p])) :=
  ⟨by rw[az (np X.iw.2)];exact X.iw.1,by rw[ae,e,ma];rfl⟩
 have hl:Gr i (aN c p (some (i,.ph n))) (upd (upd H p (.lst [])) aE (.dK (putK (bc ((st.kept.map (·.1)).zip es)) (kr (n:Int)) (.ref p)))) (n,[]) (.ref p) :=
  ⟨p,[],rfl,⟨bj,(ao (np X.iw.2).symm).trans ae⟩,.nil⟩
 exact⟨s,k.1,k.2,X.made.kp rfl s,pq s X.mot,X.aI.kp rfl s,X.aS.kp rfl s,qM (λ_ _=>rfl) s X.wait,X.dec.kp rfl s,pw s X.wO,X.firsts.kp rfl s,qN (λ_ _=>rfl) s X.first,hd,(tE (λ_ _=>rfl) s X.kept).snoc hl,X.rows.kp rfl s⟩
def Ch.qo (st:Ch)(n:Nat)(u:Int):Ch:={ st with aI:=[],aS:=st.aS++[(n,u,st.aI)] }
theorem ChX.qo (X:ChX A i c H o st dx aM aP aA aD aF aE aR ms ds ws fs es){n:Nat}{u:Int}{t p:Addr}(ht:H t=none)(hp:H p=none)(ntp:p≠t)(hn:n∉st.aS.map (·.1)) :
  ∃c',Step (Wr i QV) c c' H (upd (upd (upd (upd H t (.tup [.int u,.ref aP])) aA (.dK (putK (bc ((st.aS.map (·.1)).zip ws)) (kr (n:Int)) (.ref t)))) p (.lst [])) o (.ins A.aq dx (chF (.int st.b5) (.int st.a9) (.bl st.closed) (.ref aM) (.ref p) (.ref aA) (.ref aD) (.ref aF) (.ref aE) (.ref aR)))) /\
  ChX A i c' (upd (upd (upd (upd H t (.tup [.int u,.ref aP])) aA (.dK (putK (bc ((st.aS.map (·.1)).zip ws)) (kr (n:Int)) (.ref t)))) p (.lst [])) o (.ins A.aq dx (chF (.int st.b5) (.int st.a9) (.bl st.closed) (.ref aM) (.ref p) (.ref aA) (.ref aD) (.ref aF) (.ref aE) (.ref aR)))) o (st.qo n u) dx aM p aA aD aF aE aR ms ds (ws++[.ref t]) fs es:=by
 have nt:∀ {a:Addr} {v:HO},H a=some v->a≠t:=λe=>aG e ht
 have np:∀ {a:Addr} {v:HO},H a=some v->a≠p:=λe=>aG e hp
 have oA:o≠aA:=pH X.co X.aS.1 (λz=>nomatch z)
 have oP:o≠aP:=pH X.co X.aI.1 (λz=>nomatch z)
 have AP:aA≠aP:=pH X.aS.1 X.aI.1 (λz=>nomatch z)
 have e:=p9 (v:=.ref t) hn (vs:=ws) (by rw[bo];exact X.wait.len)
 have hp2:(upd (upd H t (.tup [.int u,.ref aP])) aA (.dK (putK (bc ((st.aS.map (·.1)).zip ws)) (kr (n:Int)) (.ref t)))) p=none:=by
  rw[ao (np X.aS.2).symm,ao ntp];exact hp
 refine⟨aN (aN (aN c t none) p (some (i,.aI))) aP (some (i,.jM n)),?_⟩;have s:Step (Wr i QV) c (aN (aN (aN c t none) p (some (i,.aI))) aP (some (i,.jM n))) H (upd (upd (upd (upd H t (.tup [.int u,.ref aP])) aA (.dK (putK (bc ((st.aS.map (·.1)).zip ws)) (kr (n:Int)) (.ref t)))) p (.lst [])) o (.ins A.aq dx (chF (.int st.b5) (.int st.a9) (.bl st.closed) (.ref aM) (.ref p) (.ref aA) (.ref aD) (.ref aF) (.ref aE) (.ref aR)))):=by
  refine((((Step.new Wr.nn ht).trans (Step.upd Wr.nn ⟨.aS,?_,rfl⟩)).trans (Step.new Wr.nn hp2)).trans (Step.upd Wr.nn ⟨.ob,?_,rfl⟩)).trans (Step.role Wr.nn ⟨.aI,?_,rfl⟩)
  ·rw[az (nt X.aS.2)];exact X.aS.1
  ·rw[az (np X.ob),az (nt X.ob)];exact X.co
  ·rw[az (np X.aI.2),az (nt X.aI.2)];exact X.aI.1
 have k1:aN (aN (aN c t none) p (some (i,.aI))) aP (some (i,.jM n)) o=some (i,.ob):=by
  rw[az oP,az (np X.ob),az (nt X.ob)];exact X.co
 have hd:iu i (aN (aN (aN c t none) p (some (i,.aI))) aP (some (i,.jM n))) (upd (upd (upd (upd H t (.tup [.int u,.ref aP])) aA (.dK (putK (bc ((st.aS.map (·.1)).zip ws)) (kr (n:Int)) (.ref t)))) p (.lst [])) o (.ins A.aq dx (chF (.int st.b5) (.int st.a9) (.bl st.closed) (.ref aM) (.ref p) (.ref aA) (.ref aD) (.ref aF) (.ref aE) (.ref aR)))) .aS aA (((st.aS++[(n,u,st.aI)]).map (·.1)).zip (ws++[.ref t])) :=
  ⟨by rw[az AP,az (np X.aS.2),az (nt X.aS.2)];exact X.aS.1,by rw[ao oA.symm,ao (np X.aS.2),ae,e,ma];rfl⟩
 have hl:LstAt i (aN (aN (aN c t none) p (some (i,.aI))) aP (some (i,.jM n))) (upd (upd (upd (upd H t (.tup [.int u,.ref aP])) aA (.dK (putK (bc ((st.aS.map (·.1)).zip ws)) (kr (n:Int)) (.ref t)))) p (.lst [])) o (.ins A.aq dx (chF (.int st.b5) (.int st.a9) (.bl st.closed) (.ref aM) (.ref p) (.ref aA) (.ref aD) (.ref aF) (.ref aE) (.ref aR)))) (.jM n) aP (st.aI.map nV) :=
  ⟨bj,by rw[ao oP.symm,ao (np X.aI.2),ao AP.symm,ao (nt X.aI.2)];exact X.aI.2⟩
 have hn':LstAt i (aN (aN (aN c t none) p (some (i,.aI))) aP (some (i,.jM n))) (upd (upd (upd (upd H t (.tup [.int u,.ref aP])) aA (.dK (putK (bc ((st.aS.map (·.1)).zip ws)) (kr (n:Int)) (.ref t)))) p (.lst [])) o (.ins A.aq dx (chF (.int st.b5) (.int st.a9) (.bl st.closed) (.ref aM) (.ref p) (.ref aA) (.ref aD) (.ref aF) (.ref aE) (.ref aR)))) .aI p [] :=
  ⟨by rw[az (np X.aI.2).symm,bj],by rw[ao (np X.ob).symm,ae]⟩
 have htt:TupAt (aN (aN (aN c t none) p (some (i,.aI))) aP (some (i,.jM n))) (upd (upd (upd (upd H t (.tup [.int u,.ref aP])) aA (.dK (putK (bc ((st.aS.map (·.1)).zip ws)) (kr (n:Int)) (.ref t)))) p (.lst [])) o (.ins A.aq dx (chF (.int st.b5) (.int st.a9) (.bl st.closed) (.ref aM) (.ref p) (.ref aA) (.ref aD) (.ref aF) (.ref aE) (.ref aR)))) t [.int u,.ref aP] :=
  ⟨by rw[az (nt X.aI.2).symm,az ntp.symm,bj],.inl (by rw[ao (nt X.ob).symm,ao ntp.symm,ao (nt X.aS.2).symm,ae])⟩
 exact⟨s,k1,ae,X.made.kp rfl s,pq s X.mot,hn',hd,(qM (λ_ _=>rfl) s X.wait).snoc ⟨t,aP,rfl,htt,hl⟩,X.dec.kp rfl s,pw s X.wO,X.firsts.kp rfl s,qN (λ_ _=>rfl) s X.first,X.iw.kp rfl s,tE (λ_ _=>rfl) s X.kept,X.rows.kp rfl s⟩
def Ch.tI (st:Ch)(n:Nat)(pl:List Nat):Ch:={ st with aI:=pl,aS:=st.aS.filter λx=>decide (x.1≠n) }
theorem ChX.waitOf (X:ChX A i c H o st dx aM aP aA aD aF aE aR ms ds ws fs es){n:Nat}{x:Nat×Int×List Nat}(hx:at1 n st.aS=some x):∃t p,ia (bc ((st.aS.map (·.1)).zip ws)) (kr (n:Int))=some (.ref t)/\TupAt c H t [.int x.2.1,.ref p]/\LstAt i c H (.jM n) p (x.2.2.map nV):=by
 obtain⟨v,h1,t,p,rfl,h2,h3⟩:=X.wait.val hx;rw[(kF hx).1]at h3;exact⟨t,p,h1,h2,h3⟩
theorem ChX.tI (X:ChX A i c H o st dx aM aP aA aD aF aE aR ms ds ws fs es){n:Nat}{p:Addr}{pl:List Nat}(hl:LstAt i c H (.jM n) p (pl.map nV)) :
  ∃c' ws',Step (Wr i (Nj n)) c c' H (upd (upd H aA (.dK (iQ (bc ((st.aS.map (·.1)).zip ws)) (kr (n:Int))))) o (.ins A.aq dx (chF (.int st.b5) (.int st.a9) (.bl st.closed) (.ref aM) (.ref p) (.ref aA) (.ref aD) (.ref aF) (.ref aE) (.ref aR)))) /\
  ChX A i c' (upd (upd H aA (.dK (iQ (bc ((st.aS.map (·.1)).zip ws)) (kr (n:Int))))) o (.ins A.aq dx (chF (.int st.b5) (.int st.a9) (.bl st.closed) (.ref aM) (.ref p) (.ref aA) (.ref aD) (.ref aF) (.ref aE) (.ref aR)))) o (st.tI n pl) dx aM p aA aD aF aE aR ms ds ws' fs es:=by
 have oA:o≠aA:=pH X.co X.aS.1 (λz=>nomatch z)
 have op:o≠p:=pH X.co hl.1 (λz=>nomatch z)
 have Ap:aA≠p:=pH X.aS.1 hl.1 (λz=>nomatch z)
 obtain⟨ws',e1,e2⟩:=X.wait.drop (n:=n);refine⟨aN c p (some (i,.aI)),ws',?_⟩;have s:Step (Wr i (Nj n)) c (aN c p (some (i,.aI))) H (upd (upd H aA (.dK (iQ (bc ((st.aS.map (·.1)).zip ws)) (kr (n:Int))))) o (.ins A.aq dx (chF (.int st.b5) (.int st.a9) (.bl st.closed) (.ref aM) (.ref p) (.ref aA) (.ref aD) (.ref aF) (.ref aE) (.ref aR)))) :=
  ((Step.upd Wr.nn ⟨.aS,X.aS.1,rfl⟩).trans (Step.upd Wr.nn ⟨.ob,X.co,rfl⟩)).trans (Step.role Wr.nn ⟨.jM n,hl.1,decide_eq_true rfl⟩)
 have k1:aN c p (some (i,.aI)) o=some (i,.ob):=by rw[az op];exact X.co
 have hd:iu i (aN c p (some (i,.aI))) (upd (upd H aA (.dK (iQ (bc ((st.aS.map (·.1)).zip ws)) (kr (n:Int))))) o (.ins A.aq dx (chF (.int st.b5) (.int st.a9) (.bl st.closed) (.ref aM) (.ref p) (.ref aA) (.ref aD) (.ref aF) (.ref aE) (.ref aR)))) .aS aA (((st.aS.filter λx=>decide (x.1≠n)).map (·.1)).zip ws') :=
  ⟨by rw[az Ap];exact X.aS.1,by rw[ao oA.symm,ae,e1]⟩
 have hpl:LstAt i (aN c p (some (i,.aI))) (upd (upd H aA (.dK (iQ (bc ((st.aS.map (·.1)).zip ws)) (kr (n:Int))))) o (.ins A.aq dx (chF (.int st.b5) (.int st.a9) (.bl st.closed) (.ref aM) (.ref p) (.ref aA) (.ref aD) (.ref aF) (.ref aE) (.ref aR)))) .aI p (pl.map nV) :=
  ⟨bj,by rw[ao op.symm,ao Ap.symm];exact hl.2⟩
 exact⟨s,k1,ae,X.made.kp rfl s,pq s X.mot,hpl,hd,qM (λx hx=>decide_eq_false (of_decide_eq_true (List.mem_filter.mp hx).2)) s e2,X.dec.kp rfl s,pw s X.wO,X.firsts.kp rfl s,qN (λ_ _=>rfl) s X.first,X.iw.kp rfl s,tE (λ_ _=>rfl) s X.kept,X.rows.kp rfl s⟩
end
def u4 (i:Nat)(c:Col)(H:Hp)(t:Addr)(xs:List V):Prop:=¬bT i (c t)/\H t=some (.tup xs)
def HR (i:Nat)(c:Col)(H:Hp)(t:Addr)(xs:List V):Prop:=¬bT i (c t)/\H t=some (.lst xs)
def jR (i:Nat)(c:Col)(H:Hp):R.bp->Addr->Prop
 | .mat cs,t=>∃L,u4 i c H t [.str (ar "matter"),.ref L]/\HR i c H L ((cs.map (ki R.bl1)).map V.str)
 | .ed m k j ws,t=>∃e,u4 i c H t [.str (R.kEd m),.ref e]/\TupAt c H e (R.edR k j (ki R.bl1 ws))
 | .pt ws,t=>u4 i c H t [.str (ar "point"),.str (ki R.bl1 ws)]
 | .nums kd ns,t=>u4 i c H t (.str kd::ns.map V.int)
section
variable{i:Nat}{c c':Col}{H H':Hp}{t:Addr}{xs:List V}
theorem u4.step (s:Step (bT i) c c' H H')(h:u4 i c H t xs):u4 i c' H' t xs:=⟨by rw[s.col t _ h.2 h.1];exact h.1,s.keep _ _ h.2 h.1⟩
theorem HR.step (s:Step (bT i) c c' H H')(h:HR i c H t xs):HR i c' H' t xs:=⟨by rw[s.col t _ h.2 h.1];exact h.1,s.keep _ _ h.2 h.1⟩
theorem jR.step (s:Step (bT i) c c' H H'):∀ {d:R.bp},jR i c H d t->jR i c' H' d t
 | .mat _,⟨L,a,b⟩=>⟨L,a.step s,b.step s⟩
 | .ed _ _ _ _,⟨e,a,b⟩=>⟨e,a.step s,b.step s⟩
 | .pt _,h=>u4.step s h
 | .nums _ _,h=>u4.step s h
theorem jR.at {K:ba}:∀ {d:R.bp},jR i c H d t->R.m6 K H d t
 | .mat _,⟨L,a,b⟩=>⟨L,SqT.of a.2,SqL.of b.2⟩
 | .ed _ _ _ _,⟨e,a,b⟩=>⟨e,SqT.of a.2,b.sq⟩
 | .pt _,h=>SqT.of h.2
 | .nums _ _,h=>SqT.of h.2
end
theorem Ky {k:Nat}{j:Int}{x:Str}(h:k=0\/k=1\/k=2):R.edR k j x=gw ⟨k,j,x⟩:=by
 rcases h with rfl | rfl | rfl <;> rfl
theorem Mm {t1 t2:TS}{D:Ends}{σ:St}{H:Hp}(J:St->Hp->Prop)(h2:∀σ' H',J σ' H'->t2 D σ' H')(h1:∀N:St->Hp->Prop,(∀σ' H',J σ' H'->N σ' H')->t1 { D with nx:=N } σ H):P1 t1 t2 D σ H:=h1 (t2 D) h2
def Ch.opened (st:Ch):Ch:={ st with closed:=if st.aI=[] then false else st.closed }
def Ch.wR (st:Ch)(row:Str):Ch:={ st.opened with rows:=st.rows++[row] }
def QY (A:Adr)(i:Nat):Sp:=λvs H Q _=>∃(o t:Addr) (c:Col) (st:Ch) (d:R.bp),vs=[.ref o,.ref t]/\b9 A i c H o st/\jR i c H d t/\R.DOk d/\st.rows.length<=1000 /\
 ∀c' H',Step (bT i) c c' H H'->b9 A i c' H' o (st.wR (R.dq d))->Q .non H'
def O1 (A:Adr)(i:Nat):Sp:=λvs H Q _=>∃(o:Addr) (u:Int) (c:Col) (st:Ch) (n:Nat) (r:List Nat),vs=[.ref o,.int u]/\b9 A i c H o st/\st.aI=n::r/\n∉st.aS.map (·.1)/\st.aS.length<=1000 /\
 ∀c' H',Step (bT i) c c' H H'->b9 A i c' H' o (st.qo n u)->Q .non H'
def Ch.Mo (st:Ch)(n:Nat)(tx:List Str)(e:Ed):Ch:={ st with made:=st.made.set (n - 1) (.mat (bV tx e)),kept:=DP n e st.kept }
def O2 (A:Adr)(i:Nat):Sp:=λvs H Q _=>∃(o t:Addr) (c:Col) (st:Ch) (n:Nat) (r:List Nat) (tx:List Str) (e:Ed) (x:Nat×List Ed),vs=[.ref o,.ref t]/\b9 A i c H o st/\st.aI=n::r/\eE st n/\st.mo n=.mat tx/\tx.length<=1000/\st.made.length<=1000 /\
 TupAt c H t (gw e)/\tw e/\gx tx.length e=true/\at1 n st.kept=some x/\x.2.length<=1000/\(st.kept.map (·.1)).Nodup /\
 ∀c' H',Step (bT i) c c' H H'->b9 A i c' H' o (st.Mo n tx e)->Q .non H'
def Ch.Mp (st:Ch)(n:Nat)(e:Ed)(ws:List Str):Ch:={ st with made:=st.made.set (n - 1) (.chg ⟨e.k,e.at_,ki R.bl1 ws⟩) }
def O3 (A:Adr)(i:Nat):Sp:=λvs H Q _=>∃(o t:Addr) (c:Col) (st:Ch) (n:Nat) (r:List Nat) (e f:Ed),vs=[.ref o,.ref t]/\b9 A i c H o st/\st.aI=r++[n]/\eE st n/\st.mo n=.chg e/\e.k≠1/\tw e/\(R.bG e.th).length<=1000/\st.made.length<=1000 /\
 TupAt c H t (gw f)/\tw f/\gx (R.bG e.th).length f=true/\((bV (R.bG e.th) f).map (·.length)).sum+(bV (R.bG e.th) f).length<=16777216 /\
 ∀c' H',Step (bT i) c c' H H'->b9 A i c' H' o (st.Mp n e (bV (R.bG e.th) f))->Q .non H'
theorem ChX.Kz {A:Adr}{i:Nat}{c:Col}{H:Hp}{o dx aM aP aA aD aF aE aR:Addr}{st:Ch}{ms ds:List Addr}{ws fs es:List V}(X:ChX A i c H o st dx aM aP aA aD aF aE aR ms ds ws fs es){n:Nat}(hn:eE st n) :
  ∃x,ia (bc ((TF 1 st.made.length).zip (ms.map V.ref))) (kr (n:Int))=some (.ref x)/\jP A c H (st.mo n) x:=by
 have ml:=X.mot.len;have hlt:n - 1 < st.made.length:=by have:=hn.1;have:=hn.2;omega
 obtain⟨x,e1,e2⟩:=X.mot.get (sr hlt);have hv:=y6 ms 1 (n - 1) e1;rw[<-ml,show 1+(n - 1)=n by have:=hn.1;omega]at hv
 have e3:st.mo n=st.made[n - 1]:=by unfold Ch.mo;rw[Tv,sr hlt];rfl
 exact⟨x,hv,by rw[e3];exact e2⟩
section
variable{P:km}{w:World}{K:ba}{mg:Str->Option Value}{base:Heap}{A:Adr}
theorem nK (T:Txt w.params K mg A){i:Nat}:FnOk P w K mg base CX0 5 A.dO A.dB ["self","deed"] (QY A i):=by
 have ix:FnOk P w K mg base CX0 4 A.jh A.eK ["deed"] (R.Ce K):=R.m8 T;refine T.mW.ok lH (λvs H Q E h=>?_) (λcdv A' outer s H vs Q E hr h=>?_)
 ·obtain⟨o,t,c,st,d,rfl,_⟩:=h;rfl
 ·obtain⟨o,t,c,st,d,rfl,hc,hd,hk,hl,q⟩:=h;refine⟨_,(ak (bE (kM (nS (aZ (pv 0) rfl) (λ_=>rfl)))
 (ai (dA (pv 0) ni rfl))
 aO)
 (ai (bF (fV Tj Tx Tz cA (aZ (pv 0) rfl) (aa (aW ix hr rfl T.oR T.kA.kp T.oS .nil aV (aa (pv 1) af)) af))))),?_⟩
  try dsimp only[br]
  have lim:eg=16777216:=by decide
  refine Mm (λσ' H'=>σ'=[some (.ref o),some (.ref t)]/\Step (bT i) c c H H'/\b9 A i c H' o st.opened) ?r (λN nN=>?f)
  case f =>
   refine aL λGq gq=>?_
   obtain⟨dx,aM,aP,aA,aD,aF,aE,aR,ms,ds,ws,fs,es,X⟩:=hc.ex;refine gq ?_;refine dh rfl X.ob T.ag T.bg dF ?_;refine⟨_,.inl ⟨_,.inl (.inl X.aI.2),rfl⟩,?_⟩;cases e:st.aI with
   |nil =>
    refine dN ⟨_,rfl,o,A.aq,dx,_,rfl,X.ob,T.ag,T.bW,(by show 10 < 1000;decide),?_⟩
    rw[y4];obtain⟨s1,X1⟩:=X.attr st.a9 false;refine nN _ _ ⟨rfl,s1.pj,?_⟩;have e1:st.opened={ st with a9:=st.a9,closed:=false }:=by unfold Ch.opened;rw[e,if_pos rfl]
    rw[e1];exact X1.at
   |cons x r =>
    refine df (nN _ _ ⟨rfl,Step.refl aC,?_⟩);have e1:st.opened=st:=by unfold Ch.opened;rw[e,if_neg (TK _ _)];cases st;cases e;rfl
    rw[e1];exact hc
  case r =>
   rintro σ' H1 ⟨rfl,s1,hc1⟩;refine aL λGq gq=>?_
   obtain⟨dx,aM,aP,aA,aD,aF,aE,aR,ms,ds,ws,fs,es,X⟩:=hc1.ex;refine gq ?_;refine dh rfl X.ob T.ag T.cV pE ?_;refine⟨.inl ⟨rfl,_,SqL.of X.rows.2⟩,_,rfl,t,d,rfl,(hd.step s1).at,hk,λH2 s2=>?_⟩
   have X2:=X.same s2;obtain⟨s3,X3⟩:=X2.row (R.dq d);refine⟨aR,_,_,rfl,rfl,X2.rows.2,by rw[bo];show st.rows.length < _;omega,?_⟩
   exact q c _ ((s1.trans (Step.same aC s2)).trans s3.pj) X3.at
theorem tJ (T:Txt w.params K mg A){i:Nat}:FnOk P w K mg base CX0 1 A.eW A.eA ["self","until"] (O1 A i):=by
 refine T.qj.ok oo (λvs H Q E h=>?_) (λcdv A' outer s H vs Q E hr h=>?_)
 ·obtain⟨o,u,c,st,n,r,rfl,_⟩:=h;rfl
 ·obtain⟨o,u,c,st,n,r,rfl,hc,hp,hn,hl,q⟩:=h;obtain⟨dx,aM,aP,aA,aD,aF,aE,aR,ms,ds,ws,fs,es,X⟩:=hc.ex;have hu1:=hr.u1;have lim:eg=16777216:=by decide
  refine⟨_,(ak (pS hu1 (aZ (pv 0) rfl) (aU a8 (aZ (pv 0) rfl) aj (λ_ _=>rfl)) (bM (aa (pv 1) (aa (aZ (pv 0) rfl) af))) rfl)
 (ai (dA (pv 0) (bX af) rfl))),?_⟩
  try dsimp only[br]
  refine⟨_,rfl,dh rfl X.ob T.ag T.bg dF ⟨(sl 2),λt ht=>?_⟩⟩
  have s1:=av (o:=.tup [V.int u,.ref aP]) ht;refine dh rfl (s1 _ _ X.ob) T.ag T.bS gZ ?_;have h0:atI (st.aI.map nV) 0=some (nV n):=by rw[hp];exact jX (j:=0) rfl
  refine dh rfl (s1 _ _ X.ob) T.ag T.bg dF ⟨aP,_,_,_,rfl,rfl,SqL.of (s1 _ _ X.aI.2),h0,?_⟩;refine⟨aA,_,rfl,wz.k (k:=kr (n:Int)) (s1 _ _ X.aS.2) ?_,?_⟩
  ·unfold bc;rw[bo,Vk,bo];omega
  have oA:o≠aA:=pH X.co X.aS.1 (λz=>nomatch z)
  refine⟨(sl 0),λp hp0=>?_⟩
  have npA:p≠aA:=λz=>by rw[z,ae]at hp0;cases hp0
  have npt:p≠t:=λz=>by rw[ao npA,z,ae]at hp0;cases hp0
  have hp1:H p=none:=by rw[ao npA,ao npt]at hp0;exact hp0
  have hob:(upd (upd (upd H t (.tup [V.int u,.ref aP])) aA (.dK (putK (bc ((st.aS.map (·.1)).zip ws)) (kr (n:Int)) (.ref t)))) p (.lst [])) o=some (.ins A.aq dx (chF (.int st.b5) (.int st.a9) (.bl st.closed) (.ref aM) (.ref aP) (.ref aA) (.ref aD) (.ref aF) (.ref aE) (.ref aR))):=by
   rw[ao (aG X.ob hp1),ao oA];exact s1 _ _ X.ob
  refine⟨_,rfl,o,A.aq,dx,_,rfl,hob,T.ag,T.bg,(by show 10 < 1000;decide),?_⟩
  rw[DL];refine aL λGq gq=>?_
  obtain⟨c',s2,X2⟩:=X.qo (u:=u) ht hp1 npt hn;refine gq ?_;exact q c' _ s2.pj X2.at
theorem u5 (T:Txt w.params K mg A){i:Nat}:FnOk P w K mg base CX0 4 A.dC A.dj ["self","edit"] (O2 A i):=by
 refine T.lY.ok eZ (λvs H Q E h=>?_) (λcdv A' outer s H vs Q E hr h=>?_)
 ·obtain⟨o,t,c,st,n,r,tx,e,x,rfl,_⟩:=h;rfl
 ·obtain⟨o,t,c,st,n,r,tx,e,x,rfl,hc,hp,hn,hm,htx,hml,ht,he,hf,hx,hxl,hnd,q⟩:=h;obtain⟨dx,aM,aP,aA,aD,aF,aE,aR,ms,ds,ws,fs,es,X⟩:=hc.ex;have hu1:=hr.u1;have lim:eg=16777216:=by decide
  refine⟨_,(ak (aY (i:=2) eZ.nd rfl (Tp rfl) (aU a8 (aZ (pv 0) rfl) aj (λ_ _=>rfl)))
 (ak (pS hu1 (aZ (pv 0) rfl) (pv 2) (cZ T.yD (y3 T) (hr.mono (by decide)) rfl T.yB T.ON .nil aV (aa (aW (Gg T) hr rfl T.J6 T.E1.kp T.J7 .nil mz (aa (aZ (i6 hu1 (aZ (pv 0) rfl) (pv 2) (λ_ _=>rfl)) rfl) (aa (pv 1) af))) af)) rfl)
 (ai (bF (fV Tj Tx Tz cA (i6 hu1 (aZ (pv 0) rfl) (pv 2) (λ_ _=>rfl)) (aa (pv 1) af)))))),?_⟩
  try dsimp only[br]
  refine aL λGq gq=>?_
  have h0:atI (st.aI.map nV) 0=some (nV n):=by rw[hp];exact jX (j:=0) rfl
  obtain⟨m,hv,hmo⟩:=X.Kz hn;rw[hm]at hmo;obtain⟨_,dm,v,O4,L,rfl,hL⟩:=hmo;refine gq ?_;refine dh rfl X.ob T.ag T.bg dF ⟨aP,_,_,_,rfl,rfl,SqL.of X.aI.2,h0,?_⟩;refine⟨_,rfl,o,A.aq,dx,_,.ref aM,rfl,X.ob,T.ag,T.bw,dE,_,rfl,aM,_,rfl,.inl ⟨_,kr (n:Int),.inl X.made.2,rfl,hv.symm⟩,?_⟩;refine⟨m,A.C 0,dm,_,.ref L,rfl,O4,T.cl 0 (by decide),T.na0,rfl,_,rfl,?_⟩
  refine⟨L,t,tx,e,rfl,SqL.of hL.2,htx,ht.sq,he,λ_ p hp0=>?_,λz=>by rw[hf]at z;cases z⟩
  refineλy dy hy hdy ndy=>?_
  refine⟨y,dy,p,(bV tx e).map V.str,rfl,ae,?_,λp2 hp2=>⟨rfl,?_⟩⟩
  ·exact(((av hdy).new ((ao (Tr ndy)).trans hy)).seq (SqL.of ae))
  have hy0:H y=none:=by
   by_cases z:y=p
   ·rw[z,ae]at hy;cases hy
   ·rw[ao z]at hy;exact hy
  have SW:H dy=none:=by
   by_cases z:dy=p
   ·rw[z,ae]at hdy;cases hdy
   ·rw[ao z]at hdy;exact hdy
  have sm0:aT H (upd (upd (upd H p (.lst ((bV tx e).map V.str))) dy (.own y)) y (.ins (A.C 0) dy [])):=((av hp0).own SW).own hy0;have QZ:H p2=none:=by
   cases z:H p2 with
   |none=>rfl
   |some v=>rw[sm0 _ _ z]at hp2;cases hp2
  have sm:aT H (upd (upd (upd (upd (upd H p (.lst ((bV tx e).map V.str))) dy (.own y)) y (.ins (A.C 0) dy [])) p2 (.lst ((bV tx e).map V.str))) y (.ins (A.C 0) dy (mh 0 (.ref p2)))):=(sm0.own QZ).own hy0;have nyp:y≠p2:=λz=>by rw[<-z,ae]at hp2;cases hp2
  have X1:=X.cl sm;have hmn:jP A (bz c H) (upd (upd (upd (upd (upd H p (.lst ((bV tx e).map V.str))) dy (.own y)) y (.ins (A.C 0) dy [])) p2 (.lst ((bV tx e).map V.str))) y (.ins (A.C 0) dy (mh 0 (.ref p2)))) (.mat (bV tx e)) y :=
   ⟨bL hy0,dy,.ref p2,ae,p2,rfl,bL QZ,(ao (Tr nyp)).trans ae⟩
  have st1:Step (bT i) c (bz c H) H _:=Step.cl aC sm;have ht1:=ht.step st1;generalize upd (upd (upd (upd (upd H p (.lst ((bV tx e).map V.str))) dy (.own y)) y (.ins (A.C 0) dy [])) p2 (.lst ((bV tx e).map V.str))) y (.ins (A.C 0) dy (mh 0 (.ref p2)))=H1 at X1 hmn st1 ht1 ⊢;generalize bz c H=c1 at X1 hmn st1 ht1;refine dh rfl X1.ob T.ag T.bw dE ⟨_,rfl,aM,_,rfl,wz.k (k:=kr (n:Int)) X1.made.2 ?_,?_⟩
  ·unfold bc;rw[bo,Vk,Ue];omega
  obtain⟨s2,X2⟩:=X1.Gv hn hmn;have ht2:=ht1.step s2.pj;generalize upd H1 aM (.dK (putK (bc ((TF 1 st.made.length).zip (ms.map V.ref))) (kr (n:Int)) (.ref y)))=H2 at s2 X2 ht2 ⊢;refine aL λGq gq=>?_
  obtain⟨pk,ts,hv2,hl2,tl⟩:=X2.O0 hx;refine gq ?_;refine⟨_,rfl,o,A.aq,dx,_,.ref aE,rfl,X2.ob,T.ag,T.dY,pD,_,rfl,aE,_,rfl,.inl ⟨_,kr (n:Int),.inl X2.iw.2,rfl,hv2.symm⟩,?_⟩;refine⟨.inl ⟨rfl,_,SqL.of hl2.2⟩,_,rfl,pk,_,_,rfl,rfl,hl2.2,by rw[bo];omega,?_⟩
  obtain⟨s3,X3⟩:=X2.Mj hv2 hl2 hnd ht2;exact q c1 _ ((st1.trans s2.pj).trans s3.pj) X3.at
theorem u6 (T:Txt w.params K mg A){i:Nat}:FnOk P w K mg base CX0 4 A.dD A.dn ["self","edit"] (O3 A i):=by
 have jL:FnOk P w K mg base CX0 1 A.words_of A.fM ["clause"] R.p6:=R.ir T;have pf:FnOk P w K mg base CX0 1 A.lN A.f9 ["words"] (R.rB K):=R.m7 T;refine T.l5.ok cg (λvs H Q E h=>?_) (λcdv A' outer s H vs Q E hr h=>?_)
 ·obtain⟨o,t,c,st,n,r,e,f,rfl,_⟩:=h;rfl
 ·obtain⟨o,t,c,st,n,r,e,f,rfl,hc,hp,hn,hm,hk1,heo,hwl,hml,ht,hfo,hf,hsz,q⟩:=h;obtain⟨dx,aM,aP,aA,aD,aF,aE,aR,ms,ds,ws,fs,es,X⟩:=hc.ex;have hu1:=hr.u1;have lim:eg=16777216:=by decide
  refine⟨_,(ak (aY (i:=2) cg.nd rfl (Tp rfl) (aU a8 (aZ (pv 0) rfl) (xm qT aj) (λ_ _=>rfl)))
 (ak (aY (i:=3) cg.nd rfl (Tp rfl) (aZ (i6 hu1 (aZ (pv 0) rfl) (pv 2) (λ_ _=>rfl)) rfl))
 (ak (aY (i:=4) cg.nd rfl (Tp rfl) (aW (Gg T) hr rfl T.J6 T.E1.kp T.J7 .nil mz (aa (aW jL (hr.mono (by decide)) rfl T.jF T.gX.kp T.jG .nil aV (aa (aU bq (pv 3) aj (λ_ _=>rfl)) af)) (aa (pv 1) af))))
 (ai (pS hu1 (aZ (pv 0) rfl) (pv 2) (cZ T.yE (jK T) (hr.mono (by decide)) rfl T.yC T.OO .nil aV (aa (bM (aa (aU bq (pv 3) aj (λ_ _=>rfl)) (aa (aU bq (pv 3) aj (λ_ _=>rfl)) (aa (aW pf (hr.mono (by decide)) rfl T.oI T.kz.kp T.oJ .nil aV (aa (pv 4) af)) af)))) af)) rfl))))),?_⟩
  try dsimp only[br]
  refine aL λGq gq=>?_
  have h0:atI (st.aI.map nV) (-1)=some (nV n):=by rw[hp,ma];exact nU _ _
  obtain⟨m,hv,hmo⟩:=X.Kz hn;rw[hm]at hmo;obtain⟨_,dm,v,O4,te,rfl,hte⟩:=hmo;refine gq ?_;refine⟨_,rfl,o,A.aq,dx,_,.ref aP,rfl,X.ob,T.ag,T.bg,dF,_,rfl,aP,_,_,_,rfl,rfl,SqL.of X.aI.2,h0,?_⟩;refine⟨_,rfl,o,A.aq,dx,_,.ref aM,rfl,X.ob,T.ag,T.bw,dE,_,rfl,aM,_,rfl,.inl ⟨_,kr (n:Int),.inl X.made.2,rfl,hv.symm⟩,?_⟩;refine⟨m,A.C 1,dm,_,.ref te,rfl,O4,T.cl 1 (by decide),T.na1,rfl,?_⟩
  have h2:=B4 (e:=e) hk1;refine ixv rfl hte.sq h2 ⟨e.th,rfl,?_,λp1 hp1=>?_⟩
  ·have:=heo.th.len;omega
  have s1:=av (o:=.lst ((R.bG e.th).map V.str)) hp1;refine⟨_,rfl,p1,t,R.bG e.th,f,rfl,SqL.of ae,hwl,dg s1 ht.sq,hfo,λ_ p2 hp2=>?_,λz=>by rw[hf]at z;cases z⟩
  have s2:=s1.new (o:=.lst ((bV (R.bG e.th) f).map V.str)) hp2;refine ixv rfl (dg s2 hte.sq) (B2 e) (ixv rfl (dg s2 hte.sq) (B3 e) ⟨_,rfl,p2,_,rfl,SqL.of ae,hsz,(sl 3),λtn htn=>?_⟩)
  have s3:=s2.new (o:=.tup [V.str (kn e.k),.int e.at_,.str (ki R.bl1 (bV (R.bG e.th) f))]) htn;refineλy dy hy hdy ndy=>?_
  refine⟨y,dy,.ref tn,rfl,ae,rfl,?_⟩;have hno:∀ {a:Addr},(upd (upd (upd H p1 (.lst ((R.bG e.th).map V.str))) p2 (.lst ((bV (R.bG e.th) f).map V.str))) tn (.tup [V.str (kn e.k),.int e.at_,.str (ki R.bl1 (bV (R.bG e.th) f))])) a=none->H a=none:=by
   intro a ha;cases z:H a with
   |none=>rfl
   |some v=>rw[s3 _ _ z]at ha;cases ha
  have nyt:y≠tn:=λz=>by rw[z,ae]at hy;cases hy
  have ndt:dy≠tn:=λz=>by rw[z,ae]at hdy;cases hdy
  have SX:H tn=none:=by
   cases z:H tn with
   |none=>rfl
   |some v=>rw[s2 _ _ z]at htn;cases htn
  have sm:=((s3.own (o:=.own y) (hno hdy)).own (o:=.ins (A.C 1) dy []) (hno hy)).own (o:=.ins (A.C 1) dy (mh 1 (.ref tn))) (hno hy);have X1:=X.cl sm;have er:gw ⟨e.k,e.at_,ki R.bl1 (bV (R.bG e.th) f)⟩=[V.str (kn e.k),.int e.at_,.str (ki R.bl1 (bV (R.bG e.th) f))]:=by
   obtain⟨k,a,th⟩:=e;have h3:=heo.k3;dsimp only at h3 hk1 ⊢;rcases h3 with rfl | rfl | rfl
   ·rfl
   ·exact absurd rfl hk1
   ·rfl
  have hmn:=(⟨bL (hno hy),dy,.ref tn,ae,tn,rfl,bL SX,.inl (by rw[ao (Tr nyt),ao (Tr nyt),ao (Tr ndt),ae,er])⟩:jP A (bz c H) (upd (upd (upd (upd (upd (upd H p1 (.lst ((R.bG e.th).map V.str))) p2 (.lst ((bV (R.bG e.th) f).map V.str))) tn (.tup [V.str (kn e.k),.int e.at_,.str (ki R.bl1 (bV (R.bG e.th) f))])) dy (.own y)) y (.ins (A.C 1) dy [])) y (.ins (A.C 1) dy (mh 1 (.ref tn)))) (.chg ⟨e.k,e.at_,ki R.bl1 (bV (R.bG e.th) f)⟩) y)
  have st1:Step (bT i) c (bz c H) H _:=Step.cl aC sm;generalize upd (upd (upd (upd (upd (upd H p1 (.lst ((R.bG e.th).map V.str))) p2 (.lst ((bV (R.bG e.th) f).map V.str))) tn (.tup [V.str (kn e.k),.int e.at_,.str (ki R.bl1 (bV (R.bG e.th) f))])) dy (.own y)) y (.ins (A.C 1) dy [])) y (.ins (A.C 1) dy (mh 1 (.ref tn)))=H1 at X1 hmn st1 ⊢;generalize bz c H=c1 at X1 hmn st1;refine dh rfl X1.ob T.ag T.bw dE ⟨_,rfl,aM,_,rfl,wz.k (k:=kr (n:Int)) X1.made.2 ?_,?_⟩
  ·unfold bc;rw[bo,Vk,Ue];omega
  obtain⟨s4,X2⟩:=X1.Gv hn hmn;exact q c1 _ (st1.trans s4.pj) X2.at
end
def zj (below:List Mn):Mn->Prop
 | .mat _=>below=[]
 | .chg e=>∃tx,below=[.mat tx]/\gx tx.length e=true
 | .mnd f=>∃tx e,below=[.mat tx,.chg e]/\e.k≠1/\gx (R.bG e.th).length f=true
 | .off _=>(∃tx r,below=.mat tx::r)/\∀b∈below,b.k < 3
 | .cls=>(∃tx r,below=.mat tx::r)/\∀b∈below,b.k < 4
 | .lay=>(∃tx r,below=.mat tx::r)/\∀b∈below,b.k < 5
 | .rst=>∀b∈below,b.k < 6
 | .pnt _=>∀b∈below,b.k < 7
inductive PMs:List Mn->Prop
 |nil:PMs []
 |snoc {ms:List Mn} {m:Mn}:PMs ms->zj ms m->PMs (ms++[m])
theorem PMs.pop {ms:List Mn}{m:Mn}(h:PMs (ms++[m])):PMs ms/\zj ms m:=by
 generalize e:ms++[m]=l at h;cases h with
 |nil=>simp at e
 |snoc h1 h2 =>
  obtain⟨e1,e2⟩:=List.append_inj' e rfl;cases e2;subst e1;exact⟨h1,h2⟩
theorem zj.lt {below:List Mn}:∀ {m:Mn},zj below m->∀b∈below,b.k < m.k
 | .mat _,h,b,hb=>by rw[h]at hb;cases hb
 | .chg _,⟨tx,h,_⟩,b,hb=>by
  rw[h,Te]at hb;rw[hb];show 0 < 1;decide
 | .mnd _,⟨tx,e,h,_,_⟩,b,hb=>by
  rw[h]at hb;rcases List.mem_cons.mp hb with rfl | hb
  ·show 0 < 2;decide
  ·rw[Te]at hb;rw[hb];show 1 < 2;decide
 | .off _,h,b,hb=>h.2 b hb
 | .cls,h,b,hb=>h.2 b hb
 | .lay,h,b,hb=>h.2 b hb
 | .rst,h,b,hb=>h b hb
 | .pnt _,h,b,hb=>h b hb
theorem PMs.le_top {ms:List Mn}(h:PMs ms):∀b∈ms,(b.k:Int)<=pF ms:=by
 cases h with
 |nil=>intro b hb;cases hb
 |snoc h1 h2 =>
  intro b hb;rw[p8];rcases List.mem_append.mp hb with hb | hb
  ·have:=h2.lt b hb;omega
  ·rw[Te]at hb;rw[hb];exact Int.le_refl _
theorem PMs.HS {ms:List Mn}(h:PMs ms):HN ms=true->∃tx r,ms=.mat tx::r:=by
 induction h with
 |nil=>intro h;cases h
 | @snoc ms m h1 h2 ih =>
  intro h;unfold HN at h ih;rw[List.any_append,Bool.or_eq_true]at h;rcases h with h | h
  ·obtain⟨tx,r,e⟩:=ih h;exact⟨tx,r++[m],by rw[e];rfl⟩
  ·cases m with
   |mat tx =>
    have:ms=[]:=h2;rw[this];exact⟨tx,[],rfl⟩
   |_=>simp[Mn.k]at h
theorem PMs.len {ms:List Mn}(h:PMs ms):(ms.length:Int)<=pF ms+1:=by
 induction h with
 |nil=>decide
 | @snoc ms m h1 h2 ih =>
  rw[p8,gr,Tg];have:pF ms < (m.k:Int):=by
   unfold pF;split
   ·omega
   ·rename_i b hb;have:=h2.lt b (List.mem_of_getLast? hb);omega
  omega
theorem PMs.HU {ms:List Mn}(h:PMs ms):ms.length<=8:=by
 have:=h.len;have:=Kv ms;omega
theorem pI (cl:Bool)(ms:List Mn):pF ms<=rG cl ms:=by
 unfold rG;split
 ·split <;> omega
 ·exact Int.le_refl _
theorem tK {cl:Bool}{ms:List Mn}{k:Nat}(h:zZ cl ms k=none):pF ms < (k:Int)/\DN ms k=true:=by
 have hb:=pI cl ms;unfold zZ at h;split at h
 ·cases h
 ·split at h
  ·exact⟨by omega,by assumption⟩
  ·split at h <;> cases h
theorem zk {ms:List Mn}(h:pF ms < 0):ms=[]:=by
 rcases Uj ms with e | ⟨r,b,e⟩
 ·exact e
 ·rw[e,Uk,p8]at h;omega
def Q0 (ms:List Mn):Mn->Prop
 | .chg e=>∀tx r,ms=.mat tx::r->gx tx.length e=true
 | .mnd f=>∀r e,ms=r++[.chg e]->gx (R.bG e.th).length f=true
 |_=>True
theorem qa {α:Type}{xs:List α}{x:α}(h:xs.getLast?=some x):∃r,xs=r++[x]:=by
 rcases Uj xs with e | ⟨r,b,e⟩
 ·rw[e]at h;cases h
 ·rw[Uk]at e;rw[e,UL]at h;cases h;exact⟨r,e⟩
theorem PMs.push {cl:Bool}{ms:List Mn}(h:PMs ms){m:Mn}(ho:zZ cl ms m.k=none)(hf:Q0 ms m):PMs (ms++[m]):=by
 obtain⟨h1,h2⟩:=tK ho;have lt:∀b∈ms,b.k < m.k:=λb hb=>by have:=h.le_top b hb;omega
 refine .snoc h ?_;cases m with
 |mat tx=>exact zk h1
 |chg e =>
  obtain⟨tx,r,e1⟩:=h.HS h2;refine⟨tx,?_,hf tx r e1⟩;rcases Uj r with e2 | ⟨r',b,e2⟩
  ·rw[e1,e2]
  ·rw[Uk]at e2;have hb:b.k < 1:=lt b (by rw[e1,e2];simp)
   rw[e1,e2,<-List.cons_append]at h;have ht:=h.pop.2;cases b with
   |mat ty=>exact absurd ht (TK _ _)
   |_=>simp[Mn.k]at hb
 |mnd f =>
  have h3:nc ms=true:=h2;unfold nc at h3;split at h3
  ·rename_i e he;obtain⟨r,e1⟩:=qa he;rw[e1]at h;obtain⟨tx,e2,_⟩:=h.pop.2;refine⟨tx,e,by rw[e1,e2];rfl,?_,hf r e e1⟩
   intro z;rw[z]at h3;cases h3
  ·cases h3
 |off n=>exact⟨h.HS h2,lt⟩
 |cls=>exact⟨h.HS h2,lt⟩
 |lay=>exact⟨h.HS h2,lt⟩
 |rst=>exact lt
 |pnt z=>exact lt
theorem Fm {st:Ch}{n:Nat}{m:Mn}(hn:eE st n){st':Ch}(h:st'.made=st.made.set (n - 1) m):st'.mo n=m:=by
 unfold Ch.mo;have:=hn.1;have:=hn.2;rw[h,Tv,List.getElem?_set_self (by omega)]
 rfl
theorem u7 {st:Ch}{n k:Nat}{m:Mn}(hn:eE st n)(h1:1<=k)(ne:k≠n){st':Ch}(h:st'.made=st.made.set (n - 1) m):st'.mo k=st.mo k:=by
 unfold Ch.mo;have:=hn.1;rw[h,Tv,List.getElem?_set_ne (by omega),<-Tv]
theorem KA {st:Ch}{m:Mn}{st':Ch}(h:st'.made=st.made++[m]){k:Nat}(hk:eE st k):st'.mo k=st.mo k:=by
 unfold Ch.mo;have:=hk.1;have:=hk.2;rw[h,Tv,Ur (by omega),<-Tv]
theorem KC {st:Ch}{m:Mn}{st':Ch}(h:st'.made=st.made++[m]):st'.mo (st.made.length+1)=m:=by
 unfold Ch.mo;rw[h,Tv,Nat.add_sub_cancel,UB (kc _),Nat.sub_self];rfl
def EdB (N:Nat)(e:Ed):Prop:=(e.k=0\/e.k=1\/e.k=2)/\-9999999999<=e.at_/\e.at_<=9999999999/\∃ws,e.th=ki R.bl1 ws/\(∀w∈ws,R.m3 w)/\ws.length<=N
def MOk (N:Nat):Mn->Prop
 | .mat tx=>tx.length<=12+N/\∀x∈tx,TX x=true
 | .chg e=>EdB (12+N) e
 | .mnd f=>EdB 1 f/\∃w,f.th=w/\R.m3 w
 | .off u=>-10000000000 < u/\u < 10000000000
 | .pnt z=>TX z=true
 |_=>True
theorem EdB.mono {N M:Nat}(h:N<=M){e:Ed}(z:EdB N e):EdB M e:=by
 obtain⟨a,b,c,ws,d,f,g⟩:=z;exact⟨a,b,c,ws,d,f,ra g h⟩
theorem MOk.mono {N M:Nat}(h:N<=M):∀ {m:Mn},MOk N m->MOk M m
 | .mat tx,z=>⟨ra z.1 (by omega),z.2⟩
 | .chg e,z=>EdB.mono (by omega) z
 | .mnd f,z=>z
 | .off u,z=>z
 | .cls,_=>trivial
 | .lay,_=>trivial
 | .rst,_=>trivial
 | .pnt _,z=>z
def Ch.all (st:Ch):List Nat:=st.aI++(st.aS.flatMap (·.2.2)++st.decided.map (·.1))
def Ch.u9 (st:Ch):List Nat:=(TF 1 st.made.length).filter λn=>decide ((st.mo n).k=0)
structure Inv (N:Nat)(st:Ch):Prop where
 lm:3 * st.made.length<=N
 lr:st.rows.length<=N
 ld:st.decided.length<=N
 la:st.aS.length<=N
 lk:∀x∈st.kept,x.2.length<=N
 sit:1<=st.a9/\st.a9<=N+1
 mok:∀m∈st.made,MOk N m
 num:∀n∈st.all,eE st n
 nd:st.all.Nodup
 pil:PMs (st.aI.map st.mo)
 asd:∀x∈st.aS,PMs (x.2.2.map st.mo)/\(∃r,x.2.2=x.1::r)/\-10000000000 < x.2.1/\x.2.1 < 10000000000
 kk:st.kept.map (·.1)=st.u9
 ff:st.firsts.map (·.1)=st.u9
 dw:∀x∈st.decided,TX x.2=true
theorem Inv.mono {N M:Nat}(h:N<=M){st:Ch}(I:Inv N st):Inv M st where
 lm:=ra I.lm h
 lr:=ra I.lr h
 ld:=ra I.ld h
 la:=ra I.la h
 lk:=λx hx=>ra (I.lk x hx) h
 sit:=⟨I.sit.1,by have:=I.sit.2;omega⟩
 mok:=λm hm=>(I.mok m hm).mono h
 num:=I.num
 nd:=I.nd
 pil:=I.pil
 asd:=I.asd
 kk:=I.kk
 ff:=I.ff
 dw:=I.dw
theorem Inv.Fn {N:Nat}{st:Ch}(I:Inv N st){n:Nat}(hn:eE st n):MOk N (st.mo n):=by
 have:=hn.1;have:=hn.2;have hlt:n - 1 < st.made.length:=by omega
 have e:st.mo n=st.made[n - 1]:=by unfold Ch.mo;rw[Tv,sr hlt];rfl
 rw[e];exact I.mok _ (List.getElem_mem hlt)
theorem Inv.dz {N:Nat}{st:Ch}(I:Inv N st):∀n∈st.aI,eE st n:=λn hn=>I.num n (TL _ hn)
theorem Inv.pJ {N:Nat}{st:Ch}(I:Inv N st){x:Nat×Int×List Nat}(hx:x∈st.aS):∀n∈x.2.2,eE st n:=λn hn =>
 I.num n (gn _ (TL _ (List.mem_flatMap.mpr ⟨x,hx,hn⟩)))
theorem Inv.Gw {N:Nat}{st:Ch}(I:Inv N st){n:Nat}(hn:n∈st.aI){x:Nat×Int×List Nat}(hx:x∈st.aS):n∉x.2.2:=λz =>
 (List.nodup_append.mp I.nd).2.2 n hn n (TL _ (List.mem_flatMap.mpr ⟨x,hx,z⟩)) rfl
theorem Inv.KD {N:Nat}{st:Ch}(I:Inv N st){n:Nat}(hn:n∈st.aI):n∉st.aS.map (·.1):=λz=>by
 obtain⟨x,hx,e⟩:=List.mem_map.mp z;obtain⟨r,er⟩:=(I.asd x hx).2.1;exact I.Gw hn hx (by rw[er,e];exact gc)
theorem Mq {st st':Ch}(hl:st'.made.length=st.made.length)(hk:∀n,eE st n->(st'.mo n).k=(st.mo n).k):st'.u9=st.u9:=by
 unfold Ch.u9;rw[hl];refine List.filter_congr λn hn=>?_
 rw[List.mem_range'_1]at hn;rw[hk n ⟨hn.1,by omega⟩]
theorem Fo (st:Ch):st.u9.Nodup:=List.filter_sublist.nodup List.nodup_range'
theorem Inv.keptAt {N:Nat}{st:Ch}(I:Inv N st){n:Nat}(hn:eE st n)(hk:(st.mo n).k=0):∃x,at1 n st.kept=some x/\x.2.length<=N:=by
 cases e:at1 n st.kept with
 |some x=>exact⟨x,rfl,I.lk x (kF e).2⟩
 |none =>
  have h:=zi e;rw[I.kk]at h;have hr:n∈TF 1 st.made.length:=by
   rw[List.mem_range'_1];have:=hn.1;have:=hn.2;omega
  exact absurd (show n∈st.u9 from List.mem_filter.mpr ⟨hr,by exact decide_eq_true hk⟩) h
def Ch.popped (st:Ch)(pre:List Nat)(n:Nat)(wd:Str):Ch:={ st with aI:=pre,decided:=st.decided++[(n,wd)] }
theorem Inv.pop {N:Nat}{st:Ch}(I:Inv N st){pre:List Nat}{n:Nat}(e:st.aI=pre++[n])(wd:Str)(hw:TX wd=true):Inv (N+1) (st.popped pre n wd)/\zj (pre.map st.mo) (st.mo n):=by
 have hp:=I.pil;rw[e,ma]at hp;obtain⟨p1,p2⟩:=PMs.pop hp;have perm:Vn (st.popped pre n wd).all st.all:=by
  unfold Ch.all Ch.popped;rw[e,ma];have:Vn (st.aS.flatMap (·.2.2)++(st.decided.map (·.1)++[(n,wd)].map (·.1))) ([n]++(st.aS.flatMap (·.2.2)++st.decided.map (·.1))):=by
   rw[<-UC];exact List.perm_append_comm
  exact(List.Perm.append_left pre this).trans (by rw[UC])
 refine⟨⟨TB I.lm,TB I.lr,?_,TB I.la,λx hx=>TB (I.lk x hx),⟨I.sit.1,by have:=I.sit.2;show st.a9<=_;omega⟩,λm hm=>(I.mok m hm).mono (by omega),λk hk=>I.num k (perm.mem_iff.mp hk),perm.nodup_iff.mpr I.nd,p1,I.asd,I.kk,I.ff,?_⟩,p2⟩
 ·show (st.decided++[(n,wd)]).length<=_;rw[gr,Tg];have:=I.ld;omega
 ·intro x hx;rcases List.mem_append.mp hx with h | h
  ·exact I.dw x h
  ·rw[Te]at h;rw[h];exact hw
theorem Inv.wR {N:Nat}{st:Ch}(I:Inv N st)(z:Str):Inv (N+1) (st.wR z):=by
 refine⟨TB I.lm,?_,TB I.ld,TB I.la,λx hx=>TB (I.lk x hx),⟨I.sit.1,by have:=I.sit.2;show st.a9<=_;omega⟩,λm hm=>(I.mok m hm).mono (by omega),I.num,I.nd,I.pil,I.asd,I.kk,I.ff,I.dw⟩
 show (st.rows++[z]).length<=_;rw[gr,Tg];have:=I.lr;omega
theorem Inv.Nk {N:Nat}{st:Ch}(I:Inv N st){n:Nat}{m:Mn}(hn:n∈st.aI)(hk:m.k=(st.mo n).k)(hm:MOk (N+1) m){kp:List (Nat×List Ed)}(ek:kp.map (·.1)=st.kept.map (·.1))(lk:∀x∈kp,x.2.length<=N+1)
  (hp:PMs (st.aI.map (Ch.mo { st with made:=st.made.set (n - 1) m,kept:=kp }))):Inv (N+1) { st with made:=st.made.set (n - 1) m,kept:=kp }:=by
 have hno:=I.dz n hn;have kinds:∀k,eE st k->(Ch.mo { st with made:=st.made.set (n - 1) m,kept:=kp } k).k=(st.mo k).k:=λk h=>by
  by_cases z:k=n
  ·subst z;rw[Fm hno rfl,hk]
  ·rw[u7 hno h.1 z rfl]
 have em:Ch.u9 { st with made:=st.made.set (n - 1) m,kept:=kp }=st.u9:=Mq (by show (st.made.set (n - 1) m).length=_;rw[Ux]) kinds
 refine⟨?_,TB I.lr,TB I.ld,TB I.la,lk,⟨I.sit.1,by have:=I.sit.2;show st.a9<=_;omega⟩,?_,?_,I.nd,hp,?_,by rw[em,<-I.kk];exact ek,by rw[em];exact I.ff,I.dw⟩
 ·show 3 * (st.made.set (n - 1) m).length<=_;rw[Ux];have:=I.lm;omega
 ·intro x hx;rcases List.mem_or_eq_of_mem_set hx with h | h
  ·exact(I.mok x h).mono (by omega)
  ·rw[h];exact hm
 ·intro k hk;have:=I.num k hk;exact⟨this.1,by show k<=(st.made.set (n - 1) m).length;rw[Ux];exact this.2⟩
 ·intro x hx;obtain⟨h1,h2⟩:=I.asd x hx;refine⟨?_,h2⟩;have:x.2.2.map (Ch.mo { st with made:=st.made.set (n - 1) m,kept:=kp })=x.2.2.map st.mo:=UR λk hk =>
   u7 hno (I.pJ hx k hk).1 (λz=>I.Gw hn hx (by rw[<-z];exact hk)) rfl
  rw[this];exact h1
theorem Inv.qo {N:Nat}{st:Ch}(I:Inv N st){n:Nat}{r:List Nat}(e:st.aI=n::r){u:Int}(h0:-10000000000 < u)(h1:u < 10000000000):Inv (N+1) (st.qo n u):=by
 have perm:Vn (st.qo n u).all st.all:=by
  unfold Ch.all Ch.qo;rw[List.flatMap_append,List.nil_append];show Vn ((st.aS.flatMap (·.2.2)++[(n,u,st.aI)].flatMap (·.2.2))++st.decided.map (·.1)) _
  rw[show [(n,u,st.aI)].flatMap (·.2.2)=st.aI by simp,<-UC]
  exact List.Perm.append_right _ List.perm_append_comm
 refine⟨TB I.lm,TB I.lr,TB I.ld,?_,λx hx=>TB (I.lk x hx),⟨I.sit.1,by have:=I.sit.2;show st.a9<=_;omega⟩,λm hm=>(I.mok m hm).mono (by omega),λk hk=>I.num k (perm.mem_iff.mp hk),perm.nodup_iff.mpr I.nd,.nil,?_,I.kk,I.ff,I.dw⟩
 ·show (st.aS++[(n,u,st.aI)]).length<=_;rw[gr,Tg];have:=I.la;omega
 ·intro x hx;rcases List.mem_append.mp hx with hx | hx
  ·exact I.asd x hx
  ·rw[Te]at hx;subst hx;exact⟨I.pil,⟨r,e⟩,h0,h1⟩
def Ch.carry (st:Ch):Mn->Ch
 | .chg e=>match st.aI with
  |n::_=>(match st.mo n with
   | .mat tx=>st.Mo n tx e
   |_=>st)
  |[]=>st
 | .mnd f=>match st.aI.getLast? with
  |some n=>(match st.mo n with
   | .chg e=>st.Mp n e (bV (R.bG e.th) f)
   |_=>st)
  |none=>st
 | .off u=>match st.aI with
  |n::_=>st.qo n u
  |[]=>st
 | .cls=>{ st with closed:=true }
 | .lay=>match st.aI with
  |n::_=>st.qo n st.a9
  |[]=>st
 | .rst=>{ st with a9:=st.a9+1 }
 |_=>st
theorem va (xs:List Str)(e:Ed):(bV xs e).length<=xs.length+1:=by
 unfold bV;split
 ·rw[gr,ky,To,TQ];omega
 ·exact TB (List.length_eraseIdx_le _ _)
 ·rw[Ux];omega
theorem AY {xs:List Str}{e:Ed}{x:Str}(h:x∈bV xs e):x∈xs\/x=e.th:=by
 unfold bV at h;split at h
 ·rcases List.mem_append.mp h with h | h
  ·exact .inl (U8 h)
  ·rcases List.mem_cons.mp h with h | h
   ·exact .inr h
   ·exact .inl (Va h)
 ·exact .inl (List.mem_of_mem_eraseIdx h)
 ·exact List.mem_or_eq_of_mem_set h
theorem O5 {α β:Type}{f:α->β}{xs:List α}{y:β}(h:xs.map f=[y]):∃a,xs=[a]/\f a=y:=by
 cases xs with
 |nil=>cases h
 |cons a r =>
  cases r with
  |nil=>exact⟨a,rfl,by simpa using h⟩
  |cons b r=>simp at h
theorem Q1 {α β:Type}{f:α->β}{xs:List α}{y z:β}(h:xs.map f=[y,z]):∃a b,xs=[a,b]/\f a=y/\f b=z:=by
 cases xs with
 |nil=>cases h
 |cons a r =>
  rw[ko]at h;obtain⟨b,rfl,e⟩:=O5 (List.cons.inj h).2;exact⟨a,b,rfl,(List.cons.inj h).1,e⟩
theorem Mr {α β:Type}{f:α->β}{xs:List α}{y:β}{r:List β}(h:xs.map f=y::r):∃a s,xs=a::s/\f a=y:=by
 cases xs with
 |nil=>cases h
 |cons a s=>exact⟨a,s,rfl,(List.cons.inj h).1⟩
theorem EdB.ok {N:Nat}{e:Ed}(h:EdB N e)(hN:N<=4000):tw e:=by
 obtain⟨a,b,c,ws,d,f,g⟩:=h;refine⟨a,b,c,?_,?_⟩
 ·rw[d];exact jI (λx hx=>by
   rw[show (R.bl1:Str).cps.toList=[32] by trivial,Te]at hx
   omega) ws λw hw=>λx hx=>by have:=(f w hw).sgn x hx;unfold R.Sign at this;omega
 ·rw[d,R.gY];have h1:=lC 32 ws;have h2:=R.Gm f;omega
theorem EdB.str {N:Nat}{e:Ed}(h:EdB N e):TX e.th=true:=by
 obtain⟨a,b,c,ws,d,f,g⟩:=h;rw[d];exact(jI (λx hx=>by
  rw[show (R.bl1:Str).cps.toList=[32] by trivial,Te]at hx
  omega) ws λw hw=>λx hx=>by have:=(f w hw).sgn x hx;unfold R.Sign at this;omega).ok
theorem EdB.words {N:Nat}{e:Ed}(h:EdB N e):(∀w∈R.bG e.th,R.m3 w)/\(R.bG e.th).length<=N:=by
 obtain⟨a,b,c,ws,d,f,g⟩:=h;rw[d,R.je f];exact⟨f,g⟩
theorem zm {ws:List Str}{f:Ed}(h:∀w∈ws,R.m3 w)(hf:R.m3 f.th):∀w∈bV ws f,R.m3 w:=λw hw=>by
 rcases AY hw with h1 | h1
 ·exact h w h1
 ·rw[h1];exact hf
theorem HV (n:Nat)(e:Ed)(xs:List (Nat×List Ed)):(DP n e xs).map (·.1)=xs.map (·.1):=by
 unfold DP;rw[U9];refine UR λx _=>?_
 show (if x.1=n then (x.1,x.2++[e]) else x).1=x.1
 split <;> rfl
theorem KG {n N:Nat}{e:Ed}{xs:List (Nat×List Ed)}(h:∀x∈xs,x.2.length<=N):∀x∈DP n e xs,x.2.length<=N+1:=by
 intro x hx;obtain⟨y,hy,rfl⟩:=List.mem_map.mp hx;have:=h y hy;split
 ·show (y.2++[e]).length<=_;rw[gr,Tg];omega
 ·omega
theorem Inv.carry {N:Nat}{st:Ch}(I:Inv N st)(hN:N<=900){m:Mn}(ht:zj (st.aI.map st.mo) m)(hm:MOk N m):Inv (N+1) (st.carry m):=by
 have J:=I.mono (Ut N);cases m with
 |mat tx=>exact J
 |pnt z=>exact J
 |chg e =>
  obtain⟨tx,h1,hf⟩:=ht;obtain⟨k,e1,e2⟩:=O5 h1;have hn:k∈st.aI:=by rw[e1];exact gc
  have htx:=I.Fn (I.dz k hn);rw[e2]at htx;have e3:st.carry (.chg e)=st.Mo k tx e:=by unfold Ch.carry;rw[e1];dsimp only;rw[e2]
  rw[e3];refine I.Nk hn (by rw[e2];rfl) ?_ (HV k e st.kept) (KG I.lk) ?_
  ·have:=va tx e;have h3:tx.length<=12+N:=htx.1;refine⟨by omega,λx hx=>?_⟩
   rcases AY hx with h | h
   ·exact htx.2 x h
   ·rw[h];exact EdB.str hm
  ·rw[e1,ko,UJ,Fm (I.dz k hn) rfl];exact PMs.snoc (ms:=[]) .nil rfl
 |mnd f =>
  obtain⟨tx,e,h1,hk,hf⟩:=ht;obtain⟨a,b,e1,e2,e3⟩:=Q1 h1;have ha:a∈st.aI:=by rw[e1];exact gc
  have hb:b∈st.aI:=by rw[e1];exact kf _ gc
  have he:=I.Fn (I.dz b hb);rw[e3]at he;have he':EdB (12+N) e:=he;obtain⟨w1,w2⟩:=he'.words;have e4:st.carry (.mnd f)=st.Mp b e (bV (R.bG e.th) f):=by unfold Ch.carry;rw[e1];show (match st.mo b with | .chg e=>_ | _=>st)=_;rw[e3];rfl
  rw[e4];obtain⟨_,w,hw,hw2⟩:=hm;refine I.Nk (kp:=st.kept) hb (by rw[e3];rfl) ?_ rfl (λx hx=>TB (I.lk x hx)) ?_
  ·refine⟨he'.1,he'.2.1,he'.2.2.1,_,rfl,zm w1 (by rw[hw];exact hw2),?_⟩
   have:=va (R.bG e.th) f;omega
  ·have ne:a≠b:=λz=>by rw[z,e3]at e2;cases e2
   have hp:=I.pil;rw[h1]at hp;obtain⟨tx',e5,e6⟩:=(PMs.pop (ms:=[.mat tx]) hp).2;cases e5;rw[e1,ko,ko,UJ,Fm (I.dz b hb) rfl,u7 (I.dz b hb) (I.dz a ha).1 ne rfl,e2];exact PMs.snoc (ms:=[.mat tx]) (PMs.snoc (ms:=[]) .nil rfl) ⟨tx,rfl,e6⟩
 |off u =>
  obtain⟨⟨tx,r,h1⟩,_⟩:=ht;obtain⟨k,s,e1,_⟩:=Mr h1;have e3:st.carry (.off u)=st.qo k u:=by unfold Ch.carry;rw[e1]
  rw[e3];exact I.qo e1 hm.1 hm.2
 |lay =>
  obtain⟨⟨tx,r,h1⟩,_⟩:=ht;obtain⟨k,s,e1,_⟩:=Mr h1;have e3:st.carry .lay=st.qo k st.a9:=by unfold Ch.carry;rw[e1]
  rw[e3];have:=I.sit;exact I.qo e1 (by omega) (by omega)
 |cls=>exact⟨J.lm,J.lr,J.ld,J.la,J.lk,J.sit,J.mok,J.num,J.nd,J.pil,J.asd,J.kk,J.ff,J.dw⟩
 |rst=>exact⟨J.lm,J.lr,J.ld,J.la,J.lk,⟨by have:=I.sit.1;show 1<=st.a9+1;omega,by have:=I.sit.2;show st.a9+1<=_;omega⟩,J.mok,J.num,J.nd,J.pil,J.asd,J.kk,J.ff,J.dw⟩
inductive Rs where
 |num (n:Nat) | txt (z:Str) | exc (x:Xc)
abbrev Nl:Str:=ar "kept"
abbrev Nm:Str:=ar "lost"
abbrev tL:Str:=ar "dropped"
def Fp (b:Bool):Str:=if b=true then Nl else Nm
theorem Gx (b:Bool):TX (Fp b)=true:=by
 unfold Fp;split <;> trivial
def kG (st:Ch)(a b:Int):Rs×Ch:=match st.aI.getLast? with
 |none=>(.exc .nothing,st)
 |some n=>if a+b > st.b5 then (.exc .tooMany,st) else
  (.txt (Fp (qL (nd (st.mo n).k) a b)),(if qL (nd (st.mo n).k) a b=true then (st.popped st.aI.dropLast n (Fp (qL (nd (st.mo n).k) a b))).carry (st.mo n) else st.popped st.aI.dropLast n (Fp (qL (nd (st.mo n).k) a b))).wR (R.dq (.nums (ar "vote") [a,b])))
def kJ (st:Ch):Rs×Ch:=match st.aI.getLast? with
 |none=>(.exc .nothing,st)
 |some n=>(.txt tL,(st.popped st.aI.dropLast n tL).wR (R.dq (.nums (ar "drop") [])))
def stepT (st:Ch)(n:Nat):Rs×Ch:=if st.aI=[] then (match at1 n st.aS with
 |none=>(.exc .Cj,st)
 |some x=>if st.a9 < x.2.1 then (.exc (.Fh x.2.1),st) else (.num n,{ st.tI n x.2.2 with rows:=st.rows++[R.dq (.nums (ar "take") [(n:Int)])] })) else (.exc (.y8 (rG st.closed (st.aI.map st.mo))),st)
def rJ (st:Ch):Mn->Option Xc
 | .chg e=>match st.aI.map st.mo with
  | .mat tx::_=>if gx tx.length e=true then none else some .noFit
  |_=>none
 | .mnd f=>match (st.aI.map st.mo).getLast? with
  |some (.chg e)=>if gx (R.bG e.th).length f=true then none else some .noFit
  |_=>none
 | .off u=>if u<=st.a9 then some (.tF st.a9) else none
 |_=>none
def zo (st:Ch)(m:Mn):Option Xc:=match zZ st.closed (st.aI.map st.mo) m.k with
 |some x=>some x
 |none=>rJ st m
def Ch.moved (st:Ch)(m:Mn)(row:Str):Ch:={ st with made:=st.made++[m],aI:=st.aI++[st.made.length+1],firsts:=(match m with | .mat tx=>st.firsts++[(st.made.length+1,tx)] | _=>st.firsts),kept:=(match m with | .mat _=>st.kept++[(st.made.length+1,([]:List Ed))] | _=>st.kept),rows:=st.rows++[row] }
def mj (st:Ch)(m:Mn)(row:Str):Rs×Ch:=match zo st m with
 |some x=>(.exc x,st)
 |none=>(.num (st.made.length+1),st.moved m row)
theorem Inv.moved {N:Nat}{st:Ch}(I:Inv N st){m:Mn}(hm:MOk N m)(hc:zo st m=none)(row:Str):Inv (N+3) (st.moved m row):=by
 have J:=I.mono (show N<=N+3 by omega)
 have ho:zZ st.closed (st.aI.map st.mo) m.k=none/\rJ st m=none:=by
  unfold zo at hc;split at hc
  ·cases hc
  ·exact⟨by assumption,hc⟩
 have hf:Q0 (st.aI.map st.mo) m:=by
  have h:=ho.2;cases m with
  |chg e =>
   intro tx r e1;unfold rJ at h;dsimp only at h;rw[e1]at h;dsimp only at h;split at h
   ·assumption
   ·cases h
  |mnd f =>
   intro r e e1;unfold rJ at h;dsimp only at h;rw[e1,UL]at h;dsimp only at h;split at h
   ·assumption
   ·cases h
  |_=>trivial
 have em:(st.moved m row).made=st.made++[m]:=rfl;have old:∀ks:List Nat,(∀k∈ks,eE st k)->ks.map (st.moved m row).mo=ks.map st.mo:=λks h=>UR λk hk=>KA em (h k hk)
 have nok:∀k,eE st k->eE (st.moved m row) k:=λk h=>⟨h.1,by show k<=(st.made++[m]).length;rw[gr];have:=h.2;omega⟩
 have perm:Vn (st.moved m row).all ((st.made.length+1)::st.all):=by
  unfold Ch.all Ch.moved;rw[UC];exact List.perm_middle
 have mt:(st.moved m row).u9=st.u9++(if m.k=0 then [st.made.length+1] else []):=by
  unfold Ch.u9;rw[em,gr,Tg,List.range'_concat,List.filter_append,Nat.one_mul,Nat.add_comm 1]
  congr 1
  ·refine List.filter_congr λk hk=>?_
   rw[List.mem_range'_1]at hk;rw[KA em ⟨hk.1,by omega⟩]
  ·rw[List.filter_cons,KC em]
   by_cases z:m.k=0
   ·rw[if_pos (decide_eq_true z),if_pos z];rfl
   ·rw[if_neg (by rw[decide_eq_false z];decide),if_neg z];rfl
 refine⟨?_,?_,J.ld,J.la,?_,J.sit,?_,?_,?_,?_,?_,?_,?_,J.dw⟩
 ·show 3 * (st.made++[m]).length<=_;rw[gr,Tg];have:=I.lm;omega
 ·show (st.rows++[row]).length<=_;rw[gr,Tg];have:=I.lr;omega
 ·intro x hx;have hx':x∈(match m with | .mat _=>st.kept++[(st.made.length+1,([]:List Ed))] | _=>st.kept):=hx
  cases m with
  |mat tx =>
   rcases List.mem_append.mp hx' with h | h
   ·exact J.lk x h
   ·rw[Te]at h;rw[h];exact TM _
  |_=>exact J.lk x hx'
 ·intro x hx;rcases List.mem_append.mp (show x∈st.made++[m] from hx) with h | h
  ·exact J.mok x h
  ·rw[Te]at h;rw[h];exact hm.mono (by omega)
 ·intro k hk;rcases List.mem_cons.mp (perm.mem_iff.mp hk) with h | h
  ·rw[h];exact⟨by omega,by show _<=(st.made++[m]).length;rw[gr,Tg];omega⟩
  ·exact nok k (I.num k h)
 ·rw[perm.nodup_iff,List.nodup_cons];exact⟨λz=>by have:=(I.num _ z).2;omega,I.nd⟩
 ·show PMs ((st.aI++[st.made.length+1]).map (st.moved m row).mo);rw[ma,old st.aI I.dz,ko,UJ,KC em];exact I.pil.push ho.1 hf
 ·intro x hx;obtain⟨h1,h2⟩:=I.asd x hx;exact⟨by rw[old _ (I.pJ hx)];exact h1,h2⟩
 ·rw[mt,<-I.kk];cases m with
  |mat tx=>show (st.kept++[(st.made.length+1,([]:List Ed))]).map (·.1)=_;rw[ma,if_pos (show (Mn.mat tx).k=0 from rfl)];rfl
  |_=>exact(T9 _).symm
 ·rw[mt,<-I.ff];cases m with
  |mat tx=>show (st.firsts++[(st.made.length+1,tx)]).map (·.1)=_;rw[ma,if_pos (show (Mn.mat tx).k=0 from rfl)];rfl
  |_=>exact(T9 _).symm
theorem AZ {n:Nat}{x:Nat×Int×List Nat}:∀ {as:List (Nat×Int×List Nat)},(as.flatMap (·.2.2)).Nodup->(∀y∈as,∃r,y.2.2=y.1::r)->at1 n as=some x->Vn (x.2.2++(as.filter λy=>decide (y.1≠n)).flatMap (·.2.2)) (as.flatMap (·.2.2))
 |[],_,_,h=>nomatch h
 |y::as,nd,hd,h=>by
  rw[List.flatMap_cons]at nd ⊢;obtain⟨n1,n2,n3⟩:=List.nodup_append.mp nd;unfold at1 at h;rw[UP]at h
  by_cases e:y.1=n
  ·rw[decide_eq_true e]at h;cases h;have:as.filter (λz=>decide (z.1≠n))=as:=by
    rw[List.filter_eq_self];intro z hz;refine decide_eq_true λq=>?_
    obtain⟨r,hr⟩:=hd z (kf _ hz);obtain⟨r',hr'⟩:=hd x gc;exact n3 n (by rw[hr',e];exact gc) n (List.mem_flatMap.mpr ⟨z,hz,by rw[hr,q];exact gc⟩) rfl
   rw[List.filter_cons_of_neg (by simp[e]),this]
  ·rw[decide_eq_false e]at h;have ih:=AZ n2 (λz hz=>hd z (kf _ hz)) h
   rw[List.filter_cons_of_pos (by simp[e]),List.flatMap_cons,<-UC]
   exact(List.Perm.append_right _ List.perm_append_comm).trans (by rw[UC];exact List.Perm.append_left _ ih)
theorem Inv.tI {N:Nat}{st:Ch}(I:Inv N st){n:Nat}{x:Nat×Int×List Nat}(hp:st.aI=[])(hx:at1 n st.aS=some x)(row:Str):Inv (N+1) { st.tI n x.2.2 with rows:=st.rows++[row] }:=by
 have J:=I.mono (Ut N);have hm:=(kF hx).2;have nd:=I.nd;unfold Ch.all at nd;rw[hp,List.nil_append]at nd;have pm:=AZ (List.nodup_append.mp nd).1 (λy hy=>(I.asd y hy).2.1) hx
 have perm:Vn (Ch.all { st.tI n x.2.2 with rows:=st.rows++[row] }) st.all:=by
  unfold Ch.all Ch.tI;rw[hp,List.nil_append,<-UC];exact List.Perm.append_right _ pm
 refine⟨J.lm,?_,J.ld,?_,J.lk,J.sit,J.mok,λk hk=>I.num k (perm.mem_iff.mp hk),perm.nodup_iff.mpr I.nd,(I.asd x hm).1,λy hy=>I.asd y (List.mem_filter.mp hy).1,I.kk,I.ff,I.dw⟩
 ·show (st.rows++[row]).length<=_;rw[gr,Tg];have:=I.lr;omega
 ·exact ra (List.length_filter_le _ _) J.la
theorem Inv.kG {N:Nat}{st:Ch}(I:Inv N st)(hN:N<=800)(a b:Int):Inv (N+3) (kG st a b).2:=by
 unfold My.kG;split
 ·exact I.mono (by omega)
 ·rename_i n h;obtain⟨pre,e⟩:=qa h;split
  ·exact I.mono (by omega)
  ·have ed:st.aI.dropLast=pre:=by rw[e];exact List.dropLast_concat
   obtain⟨I1,ht⟩:=I.pop e (Fp (qL (My.nd (st.mo n).k) a b)) (Gx _);rw[ed];have hn:n∈st.aI:=by rw[e];simp
   split
   ·exact(I1.carry (by omega) ht ((I.Fn (I.dz n hn)).mono (by omega))).wR _
   ·exact(I1.wR _).mono (by omega)
theorem Inv.kJ {N:Nat}{st:Ch}(I:Inv N st):Inv (N+3) (kJ st).2:=by
 unfold My.kJ;split
 ·exact I.mono (by omega)
 ·rename_i n h;obtain⟨pre,e⟩:=qa h;have ed:st.aI.dropLast=pre:=by rw[e];exact List.dropLast_concat
  rw[ed];exact((I.pop e tL (by trivial)).1.wR _).mono (by omega)
theorem Inv.stepT {N:Nat}{st:Ch}(I:Inv N st)(n:Nat):Inv (N+3) (stepT st n).2:=by
 unfold My.stepT;split
 ·split
  ·exact I.mono (by omega)
  ·split
   ·exact I.mono (by omega)
   ·exact(I.tI (by assumption) (by assumption) _).mono (by omega)
 ·exact I.mono (by omega)
theorem Inv.mj {N:Nat}{st:Ch}(I:Inv N st){m:Mn}(hm:MOk N m)(row:Str):Inv (N+3) (mj st m row).2:=by
 unfold My.mj;split
 ·exact I.mono (by omega)
 ·exact I.moved hm (by assumption) row
theorem zq:∀(L:Nat) (l:List Nat),l.Nodup->(∀n∈l,1<=n/\n<=L)->l.length<=L
 | 0,l,_,h=>by
  cases l with
  |nil=>exact kc 0
  |cons x r=>have:=h x gc;omega
 |L+1,l,nd,h=>by
  by_cases m:L+1∈l
  ·have ih:=zq L (l.erase (L+1)) (nd.erase _) (λn hn=>by
    obtain⟨h1,h2⟩:=nd.mem_erase_iff.mp hn;have:=h n h2;omega)
   rw[List.length_erase_of_mem m]at ih;omega
  ·have ih:=zq L l nd (λn hn=>by
    have:=h n hn;have:n≠L+1:=λz=>m (by rw[<-z];exact hn)
    omega)
   omega
theorem DQ:∀ {as:List (Nat×Int×List Nat)},(∀y∈as,∃r,y.2.2=y.1::r)->List.Sublist (as.map (·.1)) (as.flatMap (·.2.2))
 |[],_=>.slnil
 |y::as,h=>by
  obtain⟨r,hr⟩:=h y gc;rw[ko,List.flatMap_cons,hr,List.cons_append];exact .cons₂ _ ((DQ λz hz=>h z (kf _ hz)).trans (List.sublist_append_right _ _))
theorem Inv.O6 {N:Nat}{st:Ch}(I:Inv N st):(st.aS.map (·.1)).Nodup:=by
 have nd:=I.nd;unfold Ch.all at nd;exact(DQ λy hy=>(I.asd y hy).2.1).nodup (List.nodup_append.mp (List.nodup_append.mp nd).2.1).1
theorem Inv.zr {N:Nat}{st:Ch}(I:Inv N st):st.aS.length<=st.made.length:=by
 have h:=zq st.made.length (st.aS.map (·.1)) I.O6 (λn hn=>by
  obtain⟨x,hx,e⟩:=List.mem_map.mp hn;obtain⟨r,hr⟩:=(I.asd x hx).2.1;exact I.pJ hx n (by rw[hr,e];exact gc))
 rw[bo]at h;exact h
theorem HW (st:Ch)(m:Mn):(st.carry m).made.length=st.made.length:=by
 unfold Ch.carry;split
 ·split
  ·split
   ·show (st.made.set _ _).length=_;rw[Ux]
   ·rfl
  ·rfl
 ·split
  ·split
   ·show (st.made.set _ _).length=_;rw[Ux]
   ·rfl
  ·rfl
 ·split <;> rfl
 ·rfl
 ·split <;> rfl
 ·rfl
 ·rfl
theorem HX (st:Ch)(a b:Int):(kG st a b).2.made.length=st.made.length:=by
 unfold kG;split
 ·rfl
 ·split
  ·rfl
  ·show (if _ then _ else _:Ch).made.length=_
   split
   ·exact HW _ _
   ·rfl
theorem HY (st:Ch):(kJ st).2.made.length=st.made.length:=by
 unfold kJ;split <;> rfl
theorem HZ (st:Ch)(n:Nat):(stepT st n).2.made.length=st.made.length:=by
 unfold stepT;split
 ·split
  ·rfl
  ·split <;> rfl
 ·rfl
def DR (A:Adr)(i:Nat)(c:Col)(H:Hp)(o:Addr):Rs×Ch->VK->XK->Prop
 | (.num n,st),Q,_=>∀c' H',Step (bT i) c c' H H'->b9 A i c' H' o st->Q (nV n) H'
 | (.txt z,st),Q,_=>∀c' H',Step (bT i) c c' H H'->b9 A i c' H' o st->Q (.str z) H'
 | (.exc x,st),_,E=>∀c' H' C d,Step (bT i) c c' H H'->b9 A i c' H' o st->x.At A H' C d->(∀a,d=some a->c' a=none)->E C d H'
def Gy:List Str:=[ar "seats",ar "sitting",ar "closed",ar "made",ar "pile",ar "aside",ar "decided",ar "first_texts",ar "edits_kept",ar "rows"]
theorem bU {m:Str}{v0 v1 v2 v3 v4 v5 v6 v7 v8 v9:V}(h:m∉Gy):(chF v0 v1 v2 v3 v4 v5 v6 v7 v8 v9).lookup m=none:=by
 unfold Gy at h;simp only[Uz,Ui,or_false,not_or]at h;obtain⟨h0,h1,h2,h3,h4,h5,h6,h7,h8,h9⟩:=h;unfold chF;simp only[Uc,beq_eq_false_iff_ne.mpr h0,beq_eq_false_iff_ne.mpr h1,beq_eq_false_iff_ne.mpr h2,beq_eq_false_iff_ne.mpr h3,beq_eq_false_iff_ne.mpr h4,beq_eq_false_iff_ne.mpr h5,beq_eq_false_iff_ne.mpr h6,beq_eq_false_iff_ne.mpr h7,beq_eq_false_iff_ne.mpr h8,beq_eq_false_iff_ne.mpr h9]
def Ms (A:Adr)(i:Nat):Sp:=λvs H Q _=>∃(o mo:Addr) (c:Col) (st:Ch) (m:Mn) (N:Nat),vs=[.ref o,.ref mo]/\b9 A i c H o st/\jP A c H m mo/\Inv N st/\N<=900/\zj (st.aI.map st.mo) m/\MOk N m /\
 ∀c' H',Step (bT i) c c' H H'->b9 A i c' H' o (st.carry m)->Q .non H'
def O7 (A:Adr)(i:Nat):Sp:=λvs H Q E=>∃(o:Addr) (a b:Int) (c:Col) (st:Ch) (N:Nat),vs=[.ref o,.int a,.int b]/\b9 A i c H o st/\Inv N st/\N<=800/\(0<=a/\a < 10 ^ 10)/\(0<=b/\b < 10 ^ 10)/\DR A i c H o (kG st a b) Q E
def O8 (A:Adr)(i:Nat):Sp:=λvs H Q E=>∃(o:Addr) (c:Col) (st:Ch) (N:Nat),vs=[.ref o]/\b9 A i c H o st/\Inv N st/\N<=800/\DR A i c H o (kJ st) Q E
def O9 (A:Adr)(i:Nat):Sp:=λvs H Q E=>∃(o:Addr) (z:Int) (c:Col) (st:Ch) (N:Nat),vs=[.ref o,.int z]/\b9 A i c H o st/\Inv N st/\N<=800/\-1<=z/\z < 10 ^ 10/\DR A i c H o (stepT st z.toNat) Q E
theorem A0:∀ {ks:List Nat} {vs:List V},ia (bc (ks.zip vs)) (kr (-1))=none
 |[],_=>rfl
 |_::_,[]=>rfl
 |k::ks,v::vs=>by
  rw[cc,fX (λz=>by have:=Sum.inl.inj z;omega)]
  exact A0
theorem Inv.no0 {N:Nat}{st:Ch}(I:Inv N st):at1 0 st.aS=none:=by
 cases e:at1 0 st.aS with
 |none=>rfl
 |some x =>
  obtain⟨h1,h2⟩:=kF e;obtain⟨r,hr⟩:=(I.asd x h2).2.1;have:=(I.pJ h2 x.1 (by rw[hr];exact gc)).1
  omega
theorem Cm {i:Nat}{c:Col}{H:Hp}{t:Addr}{xs:List V}:u4 i (aN c t none) (upd H t (.tup xs)) t xs:=⟨by rw[bj];exact aC,ae⟩
theorem tM {A:Adr}{c:Col}{H H':Hp}{f:Nat->Mn}(s:aT H H'):∀ {ns:List Nat} {os:List Addr},bf (λn m=>jP A c H (f n) m) ns os->bf (λm p=>jP A c H' m p) (ns.map f) os
 |_,_,.nil=>.nil
 |_,_,.cons h t=>.cons (h.same s) (tM s t)
theorem zt {kd:Str}{ns:List Int}(h:(kd,ns.length)∈R.cC)(hn:∀i∈ns,0<=i/\i < 10 ^ 10):R.DOk (.nums kd ns):=⟨h,hn⟩
section
variable{P:km}{w:World}{K:ba}{mg:Str->Option Value}{base:Heap}{A:Adr}
theorem Cn (T:Txt w.params K mg A){i:Nat}:FnOk P w K mg base CX0 5 A.eV A.ez ["self","motion"] (Ms A i):=by
 have eD:∀k,k < 8->FnOk P w K mg base CX0 1 (A.fk k) (A.fkd k) ["self"] (dZ k):=jd T;refine T.qh.ok ic (λvs H Q E h=>?_) (λcdv A' outer s H vs Q E hr h=>?_)
 ·obtain⟨o,mo,c,st,m,N,rfl,_⟩:=h;rfl
 ·obtain⟨o,mo,c,st,m,N,rfl,hc,hmo,I,hN,Fq,KH,q⟩:=h;obtain⟨dx,aM,aP,aA,aD,aF,aE,aR,ms,ds,ws,fs,es,X⟩:=hc.ex;refine⟨_,(ak (aY (i:=2) ic.nd rfl (Tp rfl) (gK (n:=8) (Cf:=A.C) (pv 1) T.cl T.mU eD (hr.mono (by decide)) T.mV aV))
 (ai (bE (aQ bx (pv 2) aw (aH _))
 (ai (bF (fj (pv 0) T.ag T.lX (u5 (i:=i) T) hr T.lZ .nil aV (aa (aZ (pv 1) rfl) af))))
 (ai (bE (aQ bx (pv 2) aw (aH _))
 (ai (bF (fj (pv 0) T.ag T.l4 (u6 (i:=i) T) hr T.l6 .nil aV (aa (aZ (pv 1) rfl) af))))
 (ai (bE (aQ bx (pv 2) aw (aH _))
 (ai (bF (fj (pv 0) T.ag T.iX (tJ (i:=i) T) (hr.mono (by decide)) T.iY .nil aV (aa (aZ (pv 1) rfl) af))))
 (ai (bE (aQ bx (pv 2) aw (aH _))
 (ai (dA (pv 0) ni rfl))
 (ai (bE (aQ bx (pv 2) aw (aH _))
 (ai (bF (fj (pv 0) T.ag T.iX (tJ (i:=i) T) (hr.mono (by decide)) T.iY .nil aV (aa (aZ (pv 0) rfl) af))))
 (ai (bE (aQ bx (pv 2) aw (aH _))
 (ai (dA (pv 0) (bA cv (aZ (pv 0) rfl) aj) rfl))
 aO))))))))))))),?_⟩
  try dsimp only[br]
  refine aL λGq gq=>?_
  obtain⟨hcn,dm,v,hm,hv⟩:=hmo;refine gq ?_;refine⟨_,rfl,m.k,m.k8,mo,dm,_,rfl,hm,jc m.k v,mo,rfl,?_⟩;have lM:=I.lm;cases m with
  |mat tx=>exact⟨_,rfl,rfl,tsf (d0 0 (by decide)) ⟨_,rfl,rfl,tsf (fE 0 (by decide)) ⟨_,rfl,rfl,tsf (iO 0 (by decide)) ⟨_,rfl,rfl,tsf (zf 0 (by decide)) ⟨_,rfl,rfl,tsf (Ck 0 (by decide)) ⟨_,rfl,rfl,tsf (Fl 0 (by decide)) (q c H (Step.refl aC) hc)⟩⟩⟩⟩⟩⟩
  |pnt z=>exact⟨_,rfl,rfl,tsf (d0 7 (by decide)) ⟨_,rfl,rfl,tsf (fE 7 (by decide)) ⟨_,rfl,rfl,tsf (iO 7 (by decide)) ⟨_,rfl,rfl,tsf (zf 7 (by decide)) ⟨_,rfl,rfl,tsf (Ck 7 (by decide)) ⟨_,rfl,rfl,tsf (Fl 7 (by decide)) (q c H (Step.refl aC) hc)⟩⟩⟩⟩⟩⟩
  |chg e =>
   refine⟨_,rfl,rfl,tst (d0 1 (by decide)) ?_⟩
   refine aL λGq gq=>?_
   obtain⟨tx,h1,hf⟩:=Fq;obtain⟨k,e1,e2⟩:=O5 h1;have hn:k∈st.aI:=by rw[e1];exact gc
   have hno:=I.dz k hn;have htx:=I.Fn hno;rw[e2]at htx;have Ta:tx.length<=12+N:=htx.1;obtain⟨x,hx,hxl⟩:=I.keptAt hno (by rw[e2];rfl)
   have e3:st.carry (.chg e)=st.Mo k tx e:=by unfold Ch.carry;rw[e1];dsimp only;rw[e2]
   rw[e3]at q;have Q3:EdB (12+N) e:=KH;obtain⟨t,rfl,ht⟩:=hv;refine gq ?_;refine mtv rfl X.ob (bU (by trivial)) ⟨_,rfl,mo,A.C 1,dm,_,.ref t,rfl,hm,T.cl 1 (by decide),T.na1,rfl,?_⟩
   exact⟨o,t,c,st,k,[],tx,e,x,rfl,hc,e1,hno,e2,by omega,by omega,ht,Q3.ok (by omega),hf,hx,by omega,by rw[I.kk];exact Fo st,q⟩
  |mnd f =>
   refine⟨_,rfl,rfl,tsf (d0 2 (by decide)) ⟨_,rfl,rfl,tst (fE 2 (by decide)) ?_⟩⟩
   refine aL λGq gq=>?_
   obtain⟨tx,e,h1,hk,hf⟩:=Fq;obtain⟨a,b,e1,e2,e3⟩:=Q1 h1;have hb:b∈st.aI:=by rw[e1];exact kf _ gc
   have hno:=I.dz b hb;have he:=I.Fn hno;rw[e3]at he;have he':EdB (12+N) e:=he;obtain⟨w1,w2⟩:=he'.words;have e4:st.carry (.mnd f)=st.Mp b e (bV (R.bG e.th) f):=by unfold Ch.carry;rw[e1];show (match st.mo b with | .chg e=>_ | _=>st)=_;rw[e3];rfl
   rw[e4]at q;obtain⟨hf1,w0,hw0,hw1⟩:=KH;have l1:=va (R.bG e.th) f;have l2:=R.Gm (zm w1 (by rw[hw0];exact hw1):∀w∈bV (R.bG e.th) f,R.m3 w)
   obtain⟨t,rfl,ht⟩:=hv;refine gq ?_;refine mtv rfl X.ob (bU (by trivial)) ⟨_,rfl,mo,A.C 2,dm,_,.ref t,rfl,hm,T.cl 2 (by decide),T.na2,rfl,?_⟩
   exact⟨o,t,c,st,b,[a],e,f,rfl,hc,e1,hno,e3,hk,he'.ok (by omega),by omega,by omega,ht,hf1.ok (by omega),hf,by omega,q⟩
  |off u =>
   refine⟨_,rfl,rfl,tsf (d0 3 (by decide)) ⟨_,rfl,rfl,tsf (fE 3 (by decide)) ⟨_,rfl,rfl,tst (iO 3 (by decide)) ?_⟩⟩⟩
   refine aL λGq gq=>?_
   obtain⟨⟨tx,r,h1⟩,_⟩:=Fq;obtain⟨k,r',e1,_⟩:=Mr h1;have e3:st.carry (.off u)=st.qo k u:=by unfold Ch.carry;rw[e1]
   rw[e3]at q;have hv':v=.int u:=hv;subst hv';have:=I.la;refine gq ?_;refine mtv rfl X.ob (bU (by trivial)) ⟨_,rfl,mo,A.C 3,dm,_,.int u,rfl,hm,T.cl 3 (by decide),T.na3,rfl,?_⟩
   exact⟨o,u,c,st,k,r',rfl,hc,e1,I.KD (by rw[e1];exact gc),by omega,q⟩
  |cls =>
   refine⟨_,rfl,rfl,tsf (d0 4 (by decide)) ⟨_,rfl,rfl,tsf (fE 4 (by decide)) ⟨_,rfl,rfl,tsf (iO 4 (by decide)) ⟨_,rfl,rfl,tst (zf 4 (by decide)) ?_⟩⟩⟩⟩
   refine⟨_,rfl,o,A.aq,dx,_,rfl,X.ob,T.ag,T.bW,(by show 10 < 1000;decide),?_⟩
   rw[y4];obtain⟨s1,X1⟩:=X.attr st.a9 true;exact q c _ s1.pj X1.at
  |lay =>
   refine⟨_,rfl,rfl,tsf (d0 5 (by decide)) ⟨_,rfl,rfl,tsf (fE 5 (by decide)) ⟨_,rfl,rfl,tsf (iO 5 (by decide)) ⟨_,rfl,rfl,tsf (zf 5 (by decide)) ⟨_,rfl,rfl,tst (Ck 5 (by decide)) ?_⟩⟩⟩⟩⟩
   refine aL λGq gq=>?_
   obtain⟨⟨tx,r,h1⟩,_⟩:=Fq;obtain⟨k,r',e1,_⟩:=Mr h1;have e3:st.carry .lay=st.qo k st.a9:=by unfold Ch.carry;rw[e1]
   rw[e3]at q;have:=I.la;refine gq ?_;refine mtv rfl X.ob (bU (by trivial)) (dh rfl X.ob T.ag T.bJ fN ?_)
   exact⟨o,st.a9,c,st,k,r',rfl,hc,e1,I.KD (by rw[e1];exact gc),by omega,q⟩
  |rst =>
   refine⟨_,rfl,rfl,tsf (d0 6 (by decide)) ⟨_,rfl,rfl,tsf (fE 6 (by decide)) ⟨_,rfl,rfl,tsf (iO 6 (by decide)) ⟨_,rfl,rfl,tsf (zf 6 (by decide)) ⟨_,rfl,rfl,tsf (Ck 6 (by decide)) ⟨_,rfl,rfl,tst (Fl 6 (by decide)) ?_⟩⟩⟩⟩⟩⟩
   refine dh rfl X.ob T.ag T.bJ fN ⟨_,_,rfl,rfl,_,rfl,o,A.aq,dx,_,rfl,X.ob,T.ag,T.bJ,(by show 10 < 1000;decide),?_⟩
   rw[DK];obtain⟨s1,X1⟩:=X.attr (st.a9+1) st.closed;exact q c _ s1.pj X1.at
theorem Mt (T:Txt w.params K mg A){i:Nat}:FnOk P w K mg base (CXX P w) 6 A.jC A.iI ["self","ayes","noes"] (O7 A i):=by
 have Pa:∀k,k < 8->FnOk P w K mg base CX0 1 (A.fn k) (A.fnd k) ["self"] (B7 k):=Mh T;refine T.yK.okX iC (λvs H Q E h=>?_) (λcdv A' outer s H vs Q E hr h=>?_)
 ·obtain⟨o,a,b,c,st,N,rfl,_⟩:=h;rfl
 ·obtain⟨o,a,b,c,st,N,rfl,hc,I,hN,ha,hb,q⟩:=h;obtain⟨dx,aM,aP,aA,aD,aF,aE,aR,ms,ds,ws,fs,es,X⟩:=hc.ex;have hu1:=hr.u1;refine⟨_,(au (bD (uq (px (pv 0)) T.ag T.eS (jQ (i:=i) T) (hr.mono (by decide)) T.eT))
 (au (b6 (aQ MT (bA cv (pv 1) (pv 2)) (aZ (pv 0) rfl) (aH _))
 (aJ (fJ T.E8 rfl rfl T.HE (aa aw af)))
 (i3 aO))
 (au (psx (aY (i:=3) iC.nd rfl (Tp rfl) (i6 hu1 (aZ (pv 0) rfl) (aU a8 (aZ (pv 0) rfl) (xm qT aj) (λ_ _=>rfl)) (λ_ _=>rfl))))
 (au (psx (aY (i:=4) iC.nd rfl (Tp rfl) (CD (kL (aW (Fg T) (hr.mono (by decide)) rfl T.Hz T.AK.kp T.HA .nil aV (aa (gK (n:=8) (Cf:=A.C) (pv 3) T.cl T.OJ Pa (hr.mono (by decide)) T.OL aV) (aa (pv 1) (aa (pv 2) af))))) aw aw)))
 (au (psx (bF (fj (pv 0) T.ag T.lV (AU (i:=i) T) (hr.mono (by decide)) T.lW .nil aV (aa (pv 4) af))))
 (au (psx (bE (aQ bx (pv 4) aw (aH _))
 (ai (bF (fj (pv 0) T.ag T.qg (Cn (i:=i) T) hr T.qi .nil aV (aa (pv 3) af))))
 aO))
 (au (psx (bF (fj (pv 0) T.ag T.gs (nK (i:=i) T) hr T.gu .nil aV (aa (bM (aa aw (aa (pv 1) (aa (pv 2) af)))) af))))
 (aJ (psx (aB (pv 4))))))))))),?_⟩
  try dsimp only[br]
  refine mtv rfl X.ob (bU (by trivial)) ⟨o,c,st,rfl,hc,λhne=>?_,λhe=>?_⟩
  case refine_2 =>
   unfold kG at q;rw[he]at q;exact q c H _ _ (Step.refl aC) hc ⟨rfl,rfl⟩ (λ_ z=>nomatch z)
  refine aL λGq gq=>?_
  obtain⟨pre,n,e⟩:∃pre n,st.aI=pre++[n]:=by
   rcases Uj st.aI with e | ⟨pre,n,e⟩
   ·exact absurd e hne
   ·exact⟨pre,n,by rw[e,Uk]⟩
  have gl:st.aI.getLast?=some n:=by rw[e];exact UL
  have ed:st.aI.dropLast=pre:=by rw[e];exact List.dropLast_concat
  unfold kG at q;rw[gl]at q;dsimp only at q;rw[ed]at q;refine gq ?_;refine⟨_,rfl,_,rfl,_,_,rfl,rfl,dh rfl X.ob T.ag T.l7 HK ⟨_,_,rfl,rfl,_,rfl,eX (λz=>?_) (λz=>?_)⟩⟩
  ·have z':a+b > st.b5:=of_decide_eq_true z;rw[if_pos z']at q;exact⟨by decide,q c H _ _ (Step.refl aC) hc ⟨rfl,rfl⟩ (λ_ z=>nomatch z)⟩
  refine aL λGq gq=>?_
  have z':¬a+b > st.b5:=λy=>z (decide_eq_true y)
  rw[if_neg z']at q;have hn:n∈st.aI:=by rw[e];simp
  have hno:=I.dz n hn;obtain⟨mo,hv,hmo⟩:=X.Kz hno;have hcp:=hmo;obtain⟨_,dm,v,hm,_⟩:=hmo;have h0:atI (st.aI.map nV) (-1)=some (nV n):=by rw[e,ma];exact nU _ _
  refine gq ?_;refine⟨_,rfl,o,A.aq,dx,_,.ref aM,rfl,X.ob,T.ag,T.bw,dE,_,rfl,o,A.aq,dx,_,.ref aP,rfl,X.ob,T.ag,T.bg,dF,_,rfl,aP,_,_,_,rfl,rfl,SqL.of X.aI.2,h0,aM,_,rfl,.inl ⟨_,kr (n:Int),.inl X.made.2,rfl,hv.symm⟩,?_⟩;refine⟨_,rfl,(st.mo n).k,(st.mo n).k8,mo,dm,_,rfl,hm,L8 _ v,mo,rfl,_,rfl,_,rfl,nd (st.mo n).k,a,b,rfl,_,rfl,?_⟩;obtain⟨I1,Fq⟩:=I.pop e (Fp (qL (nd (st.mo n).k) a b)) (Gx _);have KH:=(I.Fn hno).mono (Ut N);have lp:=I.pil.HU;rw[bo]at lp;have ld:=I.ld;have lr:=I.lr;have dk:R.DOk (.nums (ar "vote") [a,b]):=zt (by show (ar "vote",2)∈R.cC;trivial) (by
   intro i hi;rcases List.mem_cons.mp hi with h | hi
   ·rw[h];exact ha
   ·rw[Te]at hi;rw[hi];exact hb)
  cases hk:qL (nd (st.mo n).k) a b with
  |true =>
   rw[hk]at q I1;rw[if_pos rfl]at q;refine dN (mtv rfl X.ob (bU (by trivial)) ⟨_,rfl,o,Nl,c,st,pre,n,rfl,hc,e,by omega,by omega,λc1 H1 s1 hc1=>?_⟩)
   refine aL λGq gq=>?_
   obtain⟨dx1,aM1,aP1,aA1,aD1,aF1,aE1,aR1,ms1,ds1,ws1,fs1,es1,X1⟩:=hc1.ex;refine gq ?_;refine⟨_,rfl,rfl,tst (by trivial) (mtv rfl X1.ob (bU (by trivial)) ⟨_,rfl,o,mo,c1,_,st.mo n,N+1,rfl,hc1,hcp.step s1,I1,by omega,Fq,KH,λc2 H2 s2 hc2=>?_⟩)⟩
   refine aL λGq gq=>?_
   obtain⟨dx2,aM2,aP2,aA2,aD2,aF2,aE2,aR2,ms2,ds2,ws2,fs2,es2,X2⟩:=hc2.ex;have I2:=I1.carry (by omega) Fq KH
   refine gq ?_;refine mtv rfl X2.ob (bU (by trivial)) ⟨_,rfl,_,rfl,(sl 3),λt ht=>?_⟩
   have s3:Step (bT i) c2 (aN c2 t none) H2 (upd H2 t (.tup [V.str (ar "vote"),.int a,.int b])):=Step.new aC ht;have X3:=X2.free (W:=λ_=>False) (λ_=>id) (Step.new (x:=none) (o:=.tup [V.str (ar "vote"),.int a,.int b]) id ht)
   have lr2:=I2.lr;refine⟨o,t,_,_,.nums (ar "vote") [a,b],rfl,X3.at,Cm,dk,ra lr2 (by omega),λc4 H4 s4 hc4=>⟨_,rfl,?_⟩⟩
   exact q c4 H4 (((s1.trans s2).trans s3).trans s4) hc4
  |false =>
   rw[hk]at q I1;rw[if_neg kg]at q;refine df (mtv rfl X.ob (bU (by trivial)) ⟨_,rfl,o,Nm,c,st,pre,n,rfl,hc,e,by omega,by omega,λc1 H1 s1 hc1=>?_⟩)
   refine aL λGq gq=>?_
   obtain⟨dx2,aM2,aP2,aA2,aD2,aF2,aE2,aR2,ms2,ds2,ws2,fs2,es2,X2⟩:=hc1.ex;refine gq ?_;refine⟨_,rfl,rfl,tsf (by trivial) ?_⟩
   refine mtv rfl X2.ob (bU (by trivial)) ⟨_,rfl,_,rfl,(sl 3),λt ht=>?_⟩
   have s3:Step (bT i) c1 (aN c1 t none) H1 (upd H1 t (.tup [V.str (ar "vote"),.int a,.int b])):=Step.new aC ht;have X3:=X2.free (W:=λ_=>False) (λ_=>id) (Step.new (x:=none) (o:=.tup [V.str (ar "vote"),.int a,.int b]) id ht)
   refine⟨o,t,_,_,.nums (ar "vote") [a,b],rfl,X3.at,Cm,dk,by show st.rows.length<=1000;omega,λc4 H4 s4 hc4=>⟨_,rfl,?_⟩⟩
   exact q c4 H4 ((s1.trans s3).trans s4) hc4
theorem Mu (T:Txt w.params K mg A){i:Nat}:FnOk P w K mg base (CXX P w) 6 A.jD A.iJ ["self"] (O8 A i):=by
 refine T.yN.okX wB (λvs H Q E h=>?_) (λcdv A' outer s H vs Q E hr h=>?_)
 ·obtain⟨o,c,st,N,rfl,_⟩:=h;rfl
 ·obtain⟨o,c,st,N,rfl,hc,I,hN,q⟩:=h;obtain⟨dx,aM,aP,aA,aD,aF,aE,aR,ms,ds,ws,fs,es,X⟩:=hc.ex;refine⟨_,(au (bD (uq (px (pv 0)) T.ag T.eS (jQ (i:=i) T) (hr.mono (by decide)) T.eT))
 (au (psx (bF (fj (pv 0) T.ag T.lV (AU (i:=i) T) (hr.mono (by decide)) T.lW .nil aV (aa aw af))))
 (au (psx (bF (fj (pv 0) T.ag T.gs (nK (i:=i) T) hr T.gu .nil aV (aa (bM (aa aw af)) af))))
 (aJ (psx (aB aw)))))),?_⟩
  try dsimp only[br]
  refine mtv rfl X.ob (bU (by trivial)) ⟨o,c,st,rfl,hc,λhne=>?_,λhe=>?_⟩
  case refine_2 =>
   unfold kJ at q;rw[he]at q;exact q c H _ _ (Step.refl aC) hc ⟨rfl,rfl⟩ (λ_ z=>nomatch z)
  refine aL λGq gq=>?_
  obtain⟨pre,n,e⟩:∃pre n,st.aI=pre++[n]:=by
   rcases Uj st.aI with e | ⟨pre,n,e⟩
   ·exact absurd e hne
   ·exact⟨pre,n,by rw[e,Uk]⟩
  have gl:st.aI.getLast?=some n:=by rw[e];exact UL
  have ed:st.aI.dropLast=pre:=by rw[e];exact List.dropLast_concat
  unfold kJ at q;rw[gl]at q;dsimp only at q;rw[ed]at q;have lp:=I.pil.HU;rw[bo]at lp;have ld:=I.ld;have lr:=I.lr;refine gq ?_;refine mtv rfl X.ob (bU (by trivial)) ⟨o,tL,c,st,pre,n,rfl,hc,e,by omega,by omega,λc1 H1 s1 hc1=>?_⟩
  refine aL λGq gq=>?_
  obtain⟨dx2,aM2,aP2,aA2,aD2,aF2,aE2,aR2,ms2,ds2,ws2,fs2,es2,X2⟩:=hc1.ex;refine gq ?_;refine mtv rfl X2.ob (bU (by trivial)) ⟨(sl 1),λt ht=>?_⟩
  have s3:Step (bT i) c1 (aN c1 t none) H1 (upd H1 t (.tup [V.str (ar "drop")])):=Step.new aC ht;have X3:=X2.free (W:=λ_=>False) (λ_=>id) (Step.new (x:=none) (o:=.tup [V.str (ar "drop")]) id ht)
  refine⟨o,t,_,_,.nums (ar "drop") [],rfl,X3.at,Cm,zt (by trivial) (λ_ h=>nomatch h),by show st.rows.length<=1000;omega,λc4 H4 s4 hc4=>?_⟩
  exact q c4 H4 ((s1.trans s3).trans s4) hc4
theorem Mv (T:Txt w.params K mg A){i:Nat}:FnOk P w K mg base (CXX P w) 6 A.jE A.iK ["self","number"] (O9 A i):=by
 have ix:FnOk P w K mg base CX0 4 A.jh A.eK ["deed"] (R.Ce K):=R.m8 T;refine T.yQ.okX nv (λvs H Q E h=>?_) (λcdv A' outer s H vs Q E hr h=>?_)
 ·obtain⟨o,z,c,st,N,rfl,_⟩:=h;rfl
 ·obtain⟨o,z,c,st,N,rfl,hc,I,hN,hz0,hz1,q⟩:=h;obtain⟨dx,aM,aP,aA,aD,aF,aE,aR,ms,ds,ws,fs,es,X⟩:=hc.ex;have hu1:=hr.u1;have hgd:=hr.gd;have lim:eg=16777216:=by decide
  refine⟨_,(au (b6 (nS (aZ (pv 0) rfl) (λ_=>rfl))
 (aJ (jq T.p0 (vZ T) (hr.mono (by decide)) T.yT rfl rfl T.DB (aa (aW (AV T) (hr.mono (by decide)) rfl T.Df T.yk.kp T.Dg .nil aV (aa (cJ (pv 0) T.ag T.kB (y7 (i:=i) T) (hr.mono (by decide)) T.kD .nil aV) (aa (aZ (pv 0) rfl) af))) af)))
 (i3 aO))
 (au (b6 (Ei (uu hu1 (pv 1) (aZ (pv 0) rfl)))
 (aJ (fJ T.E9 rfl rfl T.HF (aa (r8 (eY (mD (pv 1) (eY mB)))) af)))
 (i3 aO))
 (au (psx (aY (i:=2) nv.nd rfl (Tp rfl) (aU bq (i6 hu1 (aZ (pv 0) rfl) (pv 1) (λ_ _=>rfl)) aj (λ_ _=>rfl))))
 (au (b6 (aQ xn (aZ (pv 0) rfl) (pv 2) (aH _))
 (aJ (jq T.uU (DO T) (hr.mono (by decide)) T.Fd rfl rfl T.Kg (aa (pv 2) af)))
 (i3 aO))
 (au (psx (dA (pv 0) (aU NN (JE (aZ (pv 0) rfl) (pv 1) ⟨rfl,rfl,rfl,rfl⟩) aj (λ_ _=>rfl)) rfl))
 (au (psx (bF (fV Tj Tx Tz cA (aZ (pv 0) rfl) (aa (aW ix (hr.mono (by decide)) rfl T.oR T.kA.kp T.oS .nil aV (aa (bM (aa aw (aa (pv 1) af))) af)) af))))
 (aJ (psx (aB (pv 1)))))))))),?_⟩
  try dsimp only[br]
  by_cases hz:z=-1
  ·subst hz;refine dh rfl X.ob T.ag T.bg dF ⟨_,.inl ⟨_,.inl (.inl X.aI.2),rfl⟩,?_⟩;rw[show ((-1:Int).toNat)=0 from rfl]at q
   unfold stepT at q;cases e:st.aI with
   |cons k0 r0 =>
    rw[if_neg (by rw[e];exact TK _ _)]at q
    have lp:=I.pil.HU;rw[bo]at lp;have hb:=Fi st.closed (st.aI.map st.mo);have hb0:0<=rG st.closed (st.aI.map st.mo):=Int.le_trans (by
     by_cases z:pF (st.aI.map st.mo) < 0
     ·have:=zk z;rw[e]at this;cases this
     ·omega) (pI _ _)
    refine dN (mtv rfl X.ob (bU (by trivial)) ⟨o,c,st,rfl,hc,I.dz,by omega,λB os hB hos=>?_⟩)
    have sB:=av (o:=.lst (os.map V.ref)) hB;refine dh rfl (sB _ _ X.ob) T.ag T.bW m9 ⟨B,st.closed,c,st.aI.map st.mo,os,rfl,⟨SqL.of ae,tM sB hos⟩,?_⟩;refine⟨_,rfl,mi (by omega) (by omega),λd hd=>?_⟩
    exact q (bz c H) _ _ _ (Step.cl aC (sB.new hd)) (X.cl (sB.new hd)).at ⟨rfl,d,rfl,ae⟩ (λ_ z=>by cases z;exact bL (same_none sB hd))
   |nil =>
    rw[if_pos e,I.no0]at q;refine df ?_;refine⟨_,rfl,dh rfl X.ob T.ag T.bS gZ ⟨aA,_,rfl,.inl ⟨_,kr (-1),.inl X.aS.2,rfl,rfl⟩,_,rfl,?_⟩⟩;rw[A0];have l1:(Um++ar "no matter of the number ":Str).length=24:=by trivial
    have l2:(ar " is aside").length=9:=by trivial
    have l3:(ar (toString (-1:Int))).length=2:=by trivial
    refine dN ⟨by rw[l1];omega,_,rfl,_,.int (by decide),by rw[l3];omega,by rw[len_app,l1,l3];omega,by rw[len_app,len_app,l1,l2,l3];omega,by rw[len_app,len_app,l1,l2,l3];omega,(sl 1),?_⟩
    exact q c H _ _ (Step.refl aC) hc ⟨rfl,rfl⟩ (λ_ z=>nomatch z)
  refine aL λGq gq=>?_
  obtain⟨n,rfl⟩:∃n:Nat,z=(n:Int):=⟨z.toNat,by omega⟩
  rw[UM]at q;have Tb:n < 10 ^ 10:=by
   have:(10:Nat) ^ 10=10000000000:=by decide
   have:(10:Int) ^ 10=10000000000:=by decide
   omega
  clear hz hz0 hz1;refine gq ?_;refine dh rfl X.ob T.ag T.bg dF ⟨_,.inl ⟨_,.inl (.inl X.aI.2),rfl⟩,?_⟩;unfold stepT at q;cases e:st.aI with
  |cons k0 r0 =>
   rw[if_neg (by rw[e];exact TK _ _)]at q
   have lp:=I.pil.HU;rw[bo]at lp;have hb:=Fi st.closed (st.aI.map st.mo);have hb0:0<=rG st.closed (st.aI.map st.mo):=Int.le_trans (by
    by_cases z:pF (st.aI.map st.mo) < 0
    ·have:=zk z;rw[e]at this;cases this
    ·omega) (pI _ _)
   refine dN (mtv rfl X.ob (bU (by trivial)) ⟨o,c,st,rfl,hc,I.dz,by omega,λB os hB hos=>?_⟩)
   have sB:=av (o:=.lst (os.map V.ref)) hB;refine dh rfl (sB _ _ X.ob) T.ag T.bW m9 ⟨B,st.closed,c,st.aI.map st.mo,os,rfl,⟨SqL.of ae,tM sB hos⟩,?_⟩;refine⟨_,rfl,mi (by omega) (by omega),λd hd=>?_⟩
   exact q (bz c H) _ _ _ (Step.cl aC (sB.new hd)) (X.cl (sB.new hd)).at ⟨rfl,d,rfl,ae⟩ (λ_ z=>by cases z;exact bL (same_none sB hd))
  |nil =>
   rw[if_pos e]at q;refine df ?_;refine⟨_,rfl,dh rfl X.ob T.ag T.bS gZ ⟨aA,_,rfl,.inl ⟨_,kr (n:Int),.inl X.aS.2,rfl,rfl⟩,_,rfl,?_⟩⟩;cases hx:at1 n st.aS with
   |none =>
    rw[hx]at q;rw[rH (zi hx)];have l1:(Um++ar "no matter of the number ":Str).length=24:=by trivial
    have l2:(ar " is aside").length=9:=by trivial
    have e10:(10:Nat) ^ 10=10000000000:=by decide
    have l3:(ar (toString (n:Int))).length<=20:=u0 (by omega) (by omega)
    refine dN ⟨by rw[l1];omega,_,rfl,_,.int (p7 (by omega) (by omega)),by omega,by rw[len_app,l1];omega,by rw[len_app,len_app,l1,l2];omega,by rw[len_app,len_app,l1,l2];omega,(sl 1),?_⟩
    exact q c H _ _ (Step.refl aC) hc ⟨rfl,rfl⟩ (λ_ z=>nomatch z)
   |some x =>
    refine aL λGq gq=>?_
    rw[hx]at q;dsimp only at q;obtain⟨t,p,hv,ht,hl⟩:=X.waitOf hx;refine gq ?_;rw[hv];refine df ?_;refine⟨_,rfl,o,A.aq,dx,_,.ref aA,rfl,X.ob,T.ag,T.bS,gZ,_,rfl,aA,_,rfl,.inl ⟨_,kr (n:Int),.inl X.aS.2,rfl,hv.symm⟩,t,_,_,_,rfl,rfl,ht.sq,rfl,?_⟩;refine⟨_,rfl,o,A.aq,dx,_,.int st.a9,rfl,X.ob,T.ag,T.bJ,fN,_,rfl,_,_,rfl,rfl,_,rfl,eX (λz=>?_) (λz=>?_)⟩
    ·have z':st.a9 < x.2.1:=of_decide_eq_true z;refine aL λGq gq=>?_
     rw[if_pos z']at q;obtain⟨_,_,b1,b2⟩:=I.asd x (kF hx).2;refine gq ?_;refine⟨_,rfl,_,rfl,mi (by have:=I.sit.1;omega) b2,λd hd=>?_⟩
     exact q (bz c H) _ _ _ (Step.cl aC (av hd)) (X.cl (av hd)).at ⟨rfl,d,rfl,ae⟩ (λ_ z=>by cases z;exact bL hd)
    ·have z':¬st.a9 < x.2.1:=λy=>z (decide_eq_true y)
     rw[if_neg z']at q;have nAt:t≠aA:=λy=>by have:=ht.1;rw[y,X.aS.1]at this;cases this
     have ht':SqT K (upd H aA (.dK (iQ (bc ((st.aS.map (·.1)).zip ws)) (kr (n:Int))))) t [.int x.2.1,.ref p]:=by
      rcases ht.2 with h | ⟨u,h⟩
      ·exact .inl (.inl ((ao nAt).trans h))
      ·exact .inl (.inr ⟨u,(ao nAt).trans h⟩)
     have oA:o≠aA:=pH X.co X.aS.1 (λz=>nomatch z)
     refine dh rfl X.ob T.ag T.bS gZ ⟨aA,rfl,.inl ⟨_,.inl X.aS.2⟩,_,rfl,_,kr (n:Int),_,X.aS.2,rfl,hv,.inr (.inl ⟨t,_,1,.ref p,rfl,rfl,ht',rfl,?_⟩)⟩;refine⟨_,rfl,o,A.aq,dx,_,rfl,(ao oA).trans X.ob,T.ag,T.bg,(by show 10 < 1000;decide),?_⟩
     rw[DL];refine aL λGq gq=>?_
     obtain⟨c1,ws1,s1,X1⟩:=X.tI hl;refine gq ?_;generalize upd (upd H aA (.dK (iQ (bc ((st.aS.map (·.1)).zip ws)) (kr (n:Int))))) o (.ins A.aq dx (chF (.int st.b5) (.int st.a9) (.bl st.closed) (.ref aM) (.ref p) (.ref aA) (.ref aD) (.ref aF) (.ref aE) (.ref aR)))=H1 at s1 X1 ⊢
     have lr:=I.lr;have h10:(n:Int) < 10 ^ 10:=by
      have:(10:Nat) ^ 10=10000000000:=by decide
      have:(10:Int) ^ 10=10000000000:=by decide
      omega
     refine dh rfl X1.ob T.ag T.cV pE ⟨.inl ⟨rfl,_,SqL.of X1.rows.2⟩,_,rfl,(sl 2),λu hu=>?_⟩
     have s2:=av (o:=.tup [V.str (ar "take"),nV n]) hu;refine⟨u,.nums (ar "take") [(n:Int)],rfl,SqT.of ae,zt (by show (ar "take",1)∈R.cC;trivial) (by intro i hi;rw[Te]at hi;rw[hi];exact⟨by omega,h10⟩),λH2 s3=>?_⟩
     have X2:=X1.same (s2.trans s3);obtain⟨s4,X3⟩:=X2.row (R.dq (.nums (ar "take") [(n:Int)]));refine⟨aR,_,_,rfl,rfl,X2.rows.2,by rw[bo];show st.rows.length < _;omega,_,rfl,?_⟩
     exact q c1 _ ((s1.pj.trans (Step.same aC (s2.trans s3))).trans s4.pj) X3.at
end
theorem Gz {α:Type}{P:km}{w:World}{K:ba}{mg:Str->Option Value}{base:Heap}{CX:CXT}{k:Nat}{f:Addr}{fd:gp}{ps:List Str}{sp:α->Sp}(F:∀a,FnOk P w K mg base CX k f fd ps (sp a)) :
  FnOk P w K mg base CX k f fd ps (λvs H Q E=>∃a,sp a vs H Q E) :=
 ⟨λvs H Q E ⟨a,z⟩=>(F a).1 vs H Q E z,λx1 x2 x3 H x4 x5 vs Q E x6 x7 x8 x9 ⟨a,z⟩=>(F a).2 x1 x2 x3 H x4 x5 vs Q E x6 x7 x8 x9 z⟩
def fF:R.bp->Mn
 | .mat cs=>.mat (cs.map (ki R.bl1))
 | .ed m k j ws=>if m=true then .mnd ⟨k,j,ki R.bl1 ws⟩ else .chg ⟨k,j,ki R.bl1 ws⟩
 | .pt ws=>.pnt (ki R.bl1 ws)
 | .nums kd ns=>if kd=ar "put off" then .off (ns.getD 0 0) else if kd=ar "close" then .cls else if kd=ar "lay" then .lay else .rst
def tN:List (Str×Nat):=[(ar "put off",1),(ar "close",0),(ar "lay",0),(ar "rest",0)]
def Fs:R.bp->Prop
 | .mat cs=>cs.length<=12/\∀ws∈cs,R.gA 12 ws
 | .ed m k j ws=>(k=0\/k=1\/k=2)/\(-9999999999<=j/\j<=9999999999)/\R.gA 12 ws/\(m=true->ws.length=1)
 | .pt ws=>R.gA 12 ws
 | .nums kd ns=>(kd,ns.length)∈tN/\∀i∈ns,-10000000000 < i/\i < 10 ^ 10
theorem qb {kd:Str}{ns:List Int}(h:(kd,ns.length)∈tN):(∃u,kd=ar "put off"/\ns=[u])\/(kd=ar "close"/\ns=[])\/(kd=ar "lay"/\ns=[])\/(kd=ar "rest"/\ns=[]):=by
 unfold tN at h;simp only[Uz,Ui,or_false,Vo]at h;rcases h with ⟨h1,h2⟩ | ⟨h1,h2⟩ | ⟨h1,h2⟩ | ⟨h1,h2⟩
 ·cases ns with
  |nil=>simp at h2
  |cons u r =>
   cases r with
   |nil=>exact .inl ⟨u,h1,rfl⟩
   |cons _ _=>simp at h2
 ·exact .inr (.inl ⟨h1,List.length_eq_zero_iff.mp h2⟩)
 ·exact .inr (.inr (.inl ⟨h1,List.length_eq_zero_iff.mp h2⟩))
 ·exact .inr (.inr (.inr ⟨h1,List.length_eq_zero_iff.mp h2⟩))
theorem DS {n:Nat}{ws:List Str}(h:R.gA n ws):TX (ki R.bl1 ws)=true:=(R.Clause.asc (n:=n) ⟨rfl,h.len,h.wd⟩).ok
theorem KI {N:Nat}:∀ {d:R.bp},Fs d->MOk N (fF d)
 | .mat cs,h=>by
  refine⟨?_,?_⟩
  ·rw[bo];have:=h.1;omega
  ·intro x hx;obtain⟨ws,hw,rfl⟩:=List.mem_map.mp hx;exact DS (h.2 ws hw)
 | .ed m k j ws,h=>by
  obtain⟨h1,⟨h2,h3⟩,h4,h5⟩:=h;cases m with
  |true =>
   show EdB 1 ⟨k,j,ki R.bl1 ws⟩/\_;have hl:=h5 rfl
   match ws,hl,h4 with
   |[x],_,h4=>exact⟨⟨h1,h2,h3,[x],rfl,h4.wd,kc 1⟩,x,rfl,h4.wd x gc⟩
  |false =>
   show EdB (12+N) ⟨k,j,ki R.bl1 ws⟩;exact⟨h1,h2,h3,ws,rfl,h4.wd,by have:=h4.len;omega⟩
 | .pt ws,h=>DS h
 | .nums kd ns,h=>by
  obtain⟨h1,h2⟩:=h;rcases qb h1 with ⟨u,rfl,rfl⟩ | ⟨rfl,rfl⟩ | ⟨rfl,rfl⟩ | ⟨rfl,rfl⟩
  ·rw[fF,if_pos rfl];obtain⟨a,b⟩:=h2 u gc;have:(10:Int) ^ 10=10000000000:=by decide
   exact⟨a,by show u < _;omega⟩
  ·rw[fF,if_neg (by trivial),if_pos rfl];trivial
  ·rw[fF,if_neg (by trivial),if_neg (by trivial),if_pos rfl];trivial
  ·rw[fF,if_neg (by trivial),if_neg (by trivial),if_neg (by trivial)];trivial
theorem Nn {M:Nat}{e:Ed}(h:gx M e=true):0<=e.at_:=(DF.mp h).1
theorem Pb {N:Nat}{st:Ch}(I:Inv N st){d:R.bp}(h:Fs d)(hc:zo st (fF d)=none):R.DOk d:=by
 have ho:zZ st.closed (st.aI.map st.mo) (fF d).k=none/\rJ st (fF d)=none:=by
  unfold zo at hc;split at hc
  ·cases hc
  ·exact⟨by assumption,hc⟩
 obtain⟨h0,hf⟩:=ho;cases d with
 |mat cs=>exact h
 |pt ws=>exact h
 |ed m k j ws =>
  obtain⟨h1,⟨h2,h3⟩,h4,h5⟩:=h;have e10:(10:Int) ^ 10=10000000000:=by decide
  refine⟨h1,⟨?_,by omega⟩,h4,h5⟩
  cases m with
  |true =>
   rw[fF,if_pos rfl]at h0 hf;have h3:nc (st.aI.map st.mo)=true:=(tK h0).2;unfold nc at h3;split at h3
   ·rename_i e he;unfold rJ at hf;dsimp only at hf;rw[he]at hf;dsimp only at hf;split at hf
    ·rename_i h6;exact Nn h6
    ·cases hf
   ·cases h3
  |false =>
   rw[fF,if_neg kg]at h0 hf;obtain⟨tx,r,e1⟩:=I.pil.HS (tK h0).2;unfold rJ at hf;dsimp only at hf;rw[e1]at hf;dsimp only at hf;split at hf
   ·rename_i h6;exact Nn h6
   ·cases hf
 |nums kd ns =>
  obtain⟨h1,h2⟩:=h;have s1:=I.sit.1;rcases qb h1 with ⟨u,rfl,rfl⟩ | ⟨rfl,rfl⟩ | ⟨rfl,rfl⟩ | ⟨rfl,rfl⟩
  ·rw[fF,if_pos rfl]at hf;refine⟨by show (ar "put off",1)∈R.cC;trivial,λi hi=>?_⟩
   rw[Te]at hi;subst hi;unfold rJ at hf;dsimp only at hf;split at hf
   ·cases hf
   ·rename_i h6;have h7:¬i<=st.a9:=h6;exact⟨by omega,(h2 i gc).2⟩
  ·exact⟨by trivial,λ_ h=>nomatch h⟩
  ·exact⟨by trivial,λ_ h=>nomatch h⟩
  ·exact⟨by trivial,λ_ h=>nomatch h⟩
theorem zu {i:Nat}{c:Col}{H:Hp}{t:Addr}:∀ {d:R.bp},Fs d->jR i c H d t->∃v,u4 i c H t (rowOf (fF d).k v)/\((fF d).k=0->∃L tx,v=.ref L/\fF d=.mat tx/\HR i c H L (tx.map V.str))/\((fF d).k≠0->(fF d).Val c H v)
 | .mat cs,_,⟨L,a,b⟩=>⟨.ref L,a,λ_=>⟨L,_,rfl,rfl,b⟩,λz=>absurd rfl z⟩
 | .ed true k j ws,h,⟨e,a,b⟩=>⟨.ref e,a,λz=>(nomatch z),λ_=>⟨e,rfl,by rw[<-Ky h.1];exact b⟩⟩
 | .ed false k j ws,h,⟨e,a,b⟩=>⟨.ref e,a,λz=>(nomatch z),λ_=>⟨e,rfl,by rw[<-Ky h.1];exact b⟩⟩
 | .pt ws,_,a=>⟨.str (ki R.bl1 ws),a,λz=>(nomatch z),λ_=>rfl⟩
 | .nums kd ns,h,a=>by
  rcases qb h.1 with ⟨u,rfl,rfl⟩ | ⟨rfl,rfl⟩ | ⟨rfl,rfl⟩ | ⟨rfl,rfl⟩
  ·rw[fF,if_pos rfl];exact⟨.int u,a,λz=>(nomatch z),λ_=>rfl⟩
  ·rw[fF,if_neg (by trivial),if_pos rfl]
   exact⟨.non,a,λz=>(nomatch z),λ_=>trivial⟩
  ·rw[fF,if_neg (by trivial),if_neg (by trivial),if_pos rfl]
   exact⟨.non,a,λz=>(nomatch z),λ_=>trivial⟩
  ·rw[fF,if_neg (by trivial),if_neg (by trivial),if_neg (by trivial)]
   exact⟨.non,a,λz=>(nomatch z),λ_=>trivial⟩
def KJ (A:Adr)(K:ba):Sp:=λvs H Q E=>Gk A vs H Q E\/DG A K vs H Q E
def Q4 (A:Adr)(i:Nat):Sp:=λvs H Q E=>∃(o t:Addr) (c:Col) (st:Ch) (N:Nat) (d:R.bp),vs=[.ref o,.ref t]/\b9 A i c H o st/\Inv N st/\N<=800/\Fs d/\jR i c H d t /\
 (zo st (fF d)=none->∀H',aT H H'->Q .non H')/\∀x,zo st (fF d)=some x->∀C e H',aT H H'->x.New A H H' C e->E C e H'
def Pc (A:Adr)(i:Nat):Sp:=λvs H Q E=>∃(o t:Addr) (c:Col) (st:Ch) (N:Nat) (d:R.bp),vs=[.ref o,.ref t]/\b9 A i c H o st/\Inv N st/\N<=800/\Fs d/\jR i c H d t/\DR A i c H o (mj st (fF d) (R.dq d)) Q E
theorem MOk.ed1 {N:Nat}{e:Ed}(h:MOk N (.chg e))(hN:N<=800):tw e:=EdB.ok h (by omega)
theorem MOk.ed2 {N:Nat}{e:Ed}(h:MOk N (.mnd e)):tw e:=EdB.ok h.1 (by decide)
section
variable{P:km}{w:World}{K:ba}{mg:Str->Option Value}{base:Heap}{A:Adr}
theorem ng (T:Txt w.params K mg A){i:Nat}:FnOk P w K mg base (CXX P w) 6 A.cw A.b8 ["self","told"] (Q4 A i):=by
 have jL:FnOk P w K mg base CX0 1 A.words_of A.fM ["clause"] R.p6:=R.ir T;refine T.ip.okX b7 (λvs H Q E h=>?_) (λcdv A' outer s H vs Q E hr h=>?_)
 ·obtain⟨o,t,c,st,N,d,rfl,_⟩:=h;rfl
 ·obtain⟨o,t,c,st,N,d,rfl,hc,I,hN,hd,hdc,q,qx⟩:=h;obtain⟨dx,aM,aP,aA,aD,aF,aE,aR,ms,ds,ws,fs,es,X⟩:=hc.ex;have hu1:=hr.u1;refine⟨_,(au (psx (aY (i:=2) b7.nd rfl (Tp rfl) (aU bq (pv 1) aj (λ_ _=>rfl))))
 (au (psx (aY (i:=3) b7.nd rfl (Tp rfl) (cJ (pv 0) T.ag T.kB (y7 (i:=i) T) (hr.mono (by decide)) T.kD .nil aV)))
 (au (bD (bu (qm T) hr rfl T.rn T.jH.kp T.rq (pax (aa (pv 2) (aa (pv 3) (aa (aZ (pv 0) rfl) af))))))
 (aJ (b6 (aQ bx (pv 2) aw (aH _))
 (aJ (bD (bu (jJ T) (hr.mono (by decide)) rfl T.kW T.hV.kp T.kX (pax (aa (aZ (aU a8 (pv 3) aj (λ_ _=>rfl)) rfl) (aa (aU bq (pv 1) aj (λ_ _=>rfl)) af))))))
 (aJ (b6 (aQ bx (pv 2) aw (aH _))
 (aJ (bD (bu (jJ T) (hr.mono (by decide)) rfl T.kW T.hV.kp T.kX (pax (aa (aW jL (hr.mono (by decide)) rfl T.jF T.gX.kp T.jG .nil aV (aa (aU bq (aZ (aU a8 (pv 3) (xm qT aj) (λ_ _=>rfl)) rfl) aj (λ_ _=>rfl)) af)) (aa (aU bq (pv 1) aj (λ_ _=>rfl)) af))))))
 (aJ (b6 (PW.pt (pw_and (aQ bx (pv 2) aw (aH _)) (pw_and1 (aQ vg (aU bq (pv 1) aj (λ_ _=>rfl)) (aZ (pv 0) rfl) (aH _)))))
 (aJ (jq T.pd (z5 T) (hr.mono (by decide)) T.B1 rfl rfl T.E6 (aa (aZ (pv 0) rfl) af)))
 (i3 aO)))))))))),?_⟩
  try dsimp only[br]
  refine aL λGq gq=>?_
  obtain⟨v,ht,hv0,hv1⟩:=zu hd hdc;have hmk:=KI (N:=N) hd;refine gq ?_;generalize fF d=m at ht hv0 hv1 hmk q qx;have lp:=I.pil.HU;rw[bo]at lp;refine ixv rfl (SqT.of ht.2) w8 ?_;refine mtv rfl X.ob (bU (by trivial)) ⟨o,c,st,rfl,hc,I.dz,by omega,λB os hB hos=>?_⟩
  have sB:=av (o:=.lst (os.map V.ref)) hB;have hp:tG A K c (upd H B (.lst (os.map V.ref))) B (st.aI.map st.mo) os:=⟨SqL.of ae,tM sB hos⟩;generalize upd H B (.lst (os.map V.ref))=H1 at sB hp;refine⟨_,rfl,_,rfl,dh rfl (sB _ _ X.ob) T.ag T.bW m9 ⟨m.k,B,st.closed,c,st.aI.map st.mo,os,rfl,m.k8,hp,by rw[bo];omega,λho H2 s2=>?_,λx hx C e H2 s2 hat=>?_⟩⟩
  case refine_2=>exact qx x (by unfold zo;rw[hx]) C e H2 (sB.trans s2) ⟨hat.1,λa z=>same_none sB (hat.2 a z)⟩
  have ec:zo st m=rJ st m:=by unfold zo;rw[ho]
  rw[ec]at q qx;have s12:=sB.trans s2;have hp2:=hp.same s2;obtain⟨h1,h2⟩:=tK ho;have X2:=X.same s12;have ht2:H2 t=some (.tup (rowOf m.k v)):=s12 _ _ ht.2;cases m with
  |mat tx=>exact⟨_,rfl,rfl,tsf (d0 0 (by decide)) ⟨_,rfl,rfl,tsf (fE 0 (by decide)) ⟨_,rfl,rfl,tsf (iO 0 (by decide)) (df (q rfl H2 s12))⟩⟩⟩
  |pnt z=>exact⟨_,rfl,rfl,tsf (d0 7 (by decide)) ⟨_,rfl,rfl,tsf (fE 7 (by decide)) ⟨_,rfl,rfl,tsf (iO 7 (by decide)) (df (q rfl H2 s12))⟩⟩⟩
  |cls=>exact⟨_,rfl,rfl,tsf (d0 4 (by decide)) ⟨_,rfl,rfl,tsf (fE 4 (by decide)) ⟨_,rfl,rfl,tsf (iO 4 (by decide)) (df (q rfl H2 s12))⟩⟩⟩
  |lay=>exact⟨_,rfl,rfl,tsf (d0 5 (by decide)) ⟨_,rfl,rfl,tsf (fE 5 (by decide)) ⟨_,rfl,rfl,tsf (iO 5 (by decide)) (df (q rfl H2 s12))⟩⟩⟩
  |rst=>exact⟨_,rfl,rfl,tsf (d0 6 (by decide)) ⟨_,rfl,rfl,tsf (fE 6 (by decide)) ⟨_,rfl,rfl,tsf (iO 6 (by decide)) (df (q rfl H2 s12))⟩⟩⟩
  |chg e =>
   refine⟨_,rfl,rfl,tst (d0 1 (by decide)) ?_⟩
   refine aL λGq gq=>?_
   obtain⟨tx,r,e1⟩:=I.pil.HS h2;obtain⟨te,rfl,hte⟩:=hv1 (by simp[Mn.k])
   rw[e1]at hp2;obtain⟨hB2,ho2⟩:=hp2;refine gq ?_;cases ho2 with
   | @cons _ ob _ bs hm M7 =>
    refine aL λGq gq=>?_
    obtain⟨_,dm,v,hm2,L,rfl,hL⟩:=hm;refine gq ?_;refine ixv rfl hB2 (jX (j:=0) rfl) ⟨ob,A.C 0,dm,_,.ref L,rfl,hm2,T.cl 0 (by decide),T.na0,rfl,ixv rfl (SqT.of ht2) rfl ?_⟩
    refine⟨L,te,tx.map V.str,e,rfl,SqL.of hL.2,dg s12 hte.sq,hmk.ed1 hN,λhf=>?_,λhf=>?_⟩
    ·rw[bo]at hf;refine q ?_ H2 s12;unfold rJ;dsimp only;rw[e1];dsimp only;rw[if_pos hf]
    ·rw[bo]at hf;refine qx .noFit ?_ _ _ H2 s12 ⟨⟨rfl,rfl⟩,λ_ z=>nomatch z⟩
     unfold rJ;dsimp only;rw[e1];dsimp only;rw[if_neg (by rw[hf];decide)]
  |mnd f =>
   refine⟨_,rfl,rfl,tsf (d0 2 (by decide)) ⟨_,rfl,rfl,tst (fE 2 (by decide)) ?_⟩⟩
   refine aL λGq gq=>?_
   have h3:nc (st.aI.map st.mo)=true:=h2;unfold nc at h3;obtain⟨e,he,hk1⟩:∃e,(st.aI.map st.mo).getLast?=some (.chg e)/\e.k≠1:=by
    split at h3
    ·rename_i e he;exact⟨e,he,λz=>by rw[z]at h3;cases h3⟩
    ·cases h3
   obtain⟨r,e1⟩:=qa he;obtain⟨te,rfl,hte⟩:=hv1 (by simp[Mn.k])
   obtain⟨hB2,ho2⟩:=hp2;obtain⟨pre,ob,eo⟩:∃pre ob,os=pre++[ob]:=by
    have hl:=ho2.len;rw[e1,gr,Tg]at hl;rcases Uj os with e | ⟨pre,n,e⟩
    ·rw[e]at hl;simp at hl
    ·exact⟨pre,n,by rw[e,Uk]⟩
   subst eo;obtain⟨as',a,e3,_,hm⟩:=ho2.last;rw[e1]at e3;obtain⟨_,e4⟩:=List.append_inj' e3 rfl;cases e4;obtain⟨_,dm,v,hm2,tc,rfl,htc⟩:=hm;have hem:EdB (12+N) e:=by
    have Pd:Mn.chg e∈st.aI.map st.mo:=by rw[e1];simp
    obtain⟨k,hk,ek⟩:=List.mem_map.mp Pd;have:=I.Fn (I.dz k hk);rw[ek]at this;exact this
   have heo:tw e:=hem.ok (by omega)
   refine gq ?_;refine⟨_,rfl,_,rfl,B,_,_,_,rfl,rfl,hB2,ze pre ob,ob,A.C 1,dm,_,.ref tc,rfl,hm2,T.cl 1 (by decide),T.na1,rfl,tc,_,_,_,rfl,rfl,htc.sq,B4 hk1,e.th,rfl,?_,λp1 hp1=>?_⟩
   ·have:=heo.th.len;have lim:eg=16777216:=by decide
    omega
   have s3:=av (o:=.lst ((R.bG e.th).map V.str)) hp1;have s13:=s12.trans s3;refine ixv rfl (SqT.of (s3 _ _ ht2)) rfl ?_;refine⟨p1,te,(R.bG e.th).map V.str,f,rfl,SqL.of ae,dg s13 hte.sq,hmk.ed2,λhf=>?_,λhf=>?_⟩
   ·rw[bo]at hf;refine q ?_ _ s13;unfold rJ;dsimp only;rw[he];dsimp only;rw[if_pos hf]
   ·rw[bo]at hf;refine qx .noFit ?_ _ _ _ s13 ⟨⟨rfl,rfl⟩,λ_ z=>nomatch z⟩
    unfold rJ;dsimp only;rw[he];dsimp only;rw[if_neg (by rw[hf];decide)]
  |off u =>
   have hv':v=.int u:=hv1 (by simp[Mn.k])
   subst hv';refine⟨_,rfl,rfl,tsf (d0 3 (by decide)) ⟨_,rfl,rfl,tsf (fE 3 (by decide)) ⟨_,rfl,rfl,tst (iO 3 (by decide)) ?_⟩⟩⟩
   refine ixv rfl (SqT.of ht2) rfl (dh rfl X2.ob T.ag T.bJ fN ⟨_,_,rfl,rfl,_,rfl,eX (λz=>?_) (λz=>?_)⟩)
   ·have z':u<=st.a9:=of_decide_eq_true z;have:=I.sit;refine dh rfl X2.ob T.ag T.bJ fN ⟨_,rfl,mi (by omega) (by omega),λd hd=>?_⟩
    refine qx (.tF st.a9) ?_ _ _ _ (s12.new hd) ⟨⟨rfl,d,rfl,ae⟩,λ_ z=>by cases z;exact same_none s12 hd⟩
    unfold rJ;dsimp only;rw[if_pos z']
   ·have z':¬u<=st.a9:=λy=>z (decide_eq_true y)
    refine q ?_ _ s12;unfold rJ;dsimp only;rw[if_neg z']
theorem Mw (T:Txt w.params K mg A):FnOk P w K mg base CX0 3 A.lO A.gb ["told"] (KJ A K):=Qw (Cc T) (zY T)
theorem KL {i:Nat}{c:Col}{H:Hp}{t:Addr}{m:Mn}{v:V}{Q:VK}{E:XK}(ht:u4 i c H t (rowOf m.k v))(hv0:m.k=0->∃L tx,v=.ref L/\m=.mat tx/\HR i c H L (tx.map V.str))(hv1:m.k≠0->m.Val c H v)
  (q:∀mo H',aT H H'->jP A (bz c H) H' m mo->Q (.ref mo) H'):KJ A K [.ref t] H Q E:=by
 by_cases h0:m.k=0
 ·obtain⟨L,tx,rfl,rfl,hL⟩:=hv0 h0;refine .inr ⟨t,L,tx.map V.str,rfl,ht.2,SqL.of hL.2,λmo p H' s hm hp hp' hmo=>q mo H' s ?_⟩
  obtain⟨dx,hmo⟩:=hmo;exact⟨bL hm,dx,.ref p,hmo,p,rfl,bL hp,hp'⟩
 ·refine .inl ⟨t,m.k,v,by omega,m.k8,rfl,ht.2,λmo H' s hm hmo=>q mo H' s ?_⟩
  obtain⟨dx,hmo⟩:=hmo;exact⟨bL hm,dx,v,hmo,(hv1 h0).step (Step.cl (W:=λ_=>False) id s)⟩
theorem Mx (T:Txt w.params K mg A){i:Nat}:FnOk P w K mg base (CXX P w) 7 A.jB A.iH ["self","told"] (Pc A i):=by
 have ix:FnOk P w K mg base CX0 4 A.jh A.eK ["deed"] (R.Ce K):=R.m8 T;refine T.yH.okX nr (λvs H Q E h=>?_) (λcdv A' outer s H vs Q E hr h=>?_)
 ·obtain⟨o,t,c,st,N,d,rfl,_⟩:=h;rfl
 ·obtain⟨o,t,c,st,N,d,rfl,hc,I,hN,hd,hdc,q⟩:=h;obtain⟨dx,aM,aP,aA,aD,aF,aE,aR,ms,ds,ws,fs,es,X⟩:=hc.ex;have hu1:=hr.u1;have lim:eg=16777216:=by decide
  refine⟨_,(au (bD (r6 (px (pv 0)) T.ag T.il (ng (i:=i) T) hr T.iq (pax (aa (pv 1) af))))
 (au (psx (aY (i:=2) nr.nd rfl (Tp rfl) (bA cv (bh Hr (by rfl) T.eR cQ (aa (aZ (pv 0) rfl) af)) aj)))
 (au (psx (pS hu1 (aZ (pv 0) rfl) (pv 2) (aW (Mw T) (hr.mono (by decide)) rfl T.Dc T.oK.kp T.De .nil aV (aa (pv 1) af)) rfl))
 (au (psx (bF (fV Tj Tx Tz cA (aZ (pv 0) rfl) (aa (pv 2) af))))
 (au (psx (bE (aQ bx (aU bq (pv 1) aj (λ_ _=>rfl)) aw (aH _))
 (ak (pS hu1 (aZ (pv 0) rfl) (pv 2) (bP bN (by rfl) T.iL fm (aa (aU bq (pv 1) aj (λ_ _=>rfl)) af)) rfl)
 (ai (pS hu1 (aZ (pv 0) rfl) (pv 2) (bX af) rfl)))
 aO))
 (au (psx (bF (fV Tj Tx Tz cA (aZ (pv 0) rfl) (aa (aW ix (hr.mono (by decide)) rfl T.oR T.kA.kp T.oS .nil aV (aa (pv 1) af)) af))))
 (aJ (psx (aB (pv 2)))))))))),?_⟩
  try dsimp only[br]
  unfold mj at q;refine mtv rfl X.ob (bU (by trivial)) ⟨_,rfl,o,t,c,st,N,d,rfl,hc,I,hN,hd,hdc,λQ5 H1 s1=>?_,λx hx C e H1 s1 hat=>?_⟩
  case refine_2 =>
   rw[hx]at q;exact q (bz c H) H1 C e (Step.cl aC s1) (X.cl s1).at hat.1 (λa z=>bL (hat.2 a z))
  refine aL λGq gq=>?_
  rw[Q5]at q;have Q6:=Pb I hd Q5;have X1:=X.same s1;have st1:Step (bT i) c c H H1:=Step.same aC s1;have Pe:=hdc.step st1;obtain⟨v,ht,hv0,hv1⟩:=zu hd Pe;obtain⟨m,em⟩:∃m,m=fF d:=⟨_,rfl⟩;rw[<-em]at ht hv0 hv1 q;have lm:=I.lm;have lr:=I.lr;have ml:=X1.mot.len;have lp:=I.pil.HU;rw[bo]at lp;have el:(bc ((TF 1 st.made.length).zip (ms.map V.ref))).length=st.made.length:=by
   unfold bc;rw[bo,Vk,Ue,bo,<-ml,Nat.min_self]
  have en:(((bc ((TF 1 st.made.length).zip (ms.map V.ref))).length:Nat):Int)+1=((st.made.length+1:Nat):Int):=by rw[el];omega
  refine gq ?_;refine dh rfl X1.ob T.ag T.bw dE ⟨aM,_,rfl,X1.made.2,_,_,rfl,rfl,?_⟩;dsimp only[cX];rw[en];refine⟨_,rfl,KL ht hv0 hv1 λmo H2 s2 hmo=>?_⟩
  have X2:=X1.cl s2;have st2:Step (bT i) c (bz c H1) H1 H2:=Step.cl aC s2;refine dh rfl X2.ob T.ag T.bw dE ⟨_,rfl,aM,_,rfl,wz.k (k:=kr ((st.made.length+1:Nat):Int)) X2.made.2 (by omega),?_⟩
  obtain⟨st3,X3⟩:=X2.Mi hmo;have Pf:=st2.trans st3.pj;generalize upd H2 aM (.dK (putK (bc ((TF 1 st.made.length).zip (ms.map V.ref))) (kr ((st.made.length+1:Nat):Int)) (.ref mo)))=H3 at Pf X3 ⊢;clear hmo st2 X2;generalize bz c H1=c3 at Pf X3;refine dh rfl X3.ob T.ag T.bg dF ⟨.inl ⟨rfl,_,SqL.of X3.aI.2⟩,_,rfl,aP,_,_,rfl,rfl,X3.aI.2,by rw[bo];show st.aI.length < _;omega,?_⟩
  obtain⟨st4,X4⟩:=X3.push (st.made.length+1);have Q7:=Pf.trans st4.pj;have X4':ChX A i c3 (upd H3 aP (.lst (st.aI.map nV++[V.int ((st.made.length+1:Nat):Int)]))) o { st with made:=st.made++[m],aI:=st.aI++[st.made.length+1] } dx aM aP aA aD aF aE aR (ms++[mo]) ds ws fs es:=X4
  have A1:Step (bT i) c c3 H1 (upd H3 aP (.lst (st.aI.map nV++[V.int ((st.made.length+1:Nat):Int)]))):=Q7;clear X4 Q7 st4;generalize upd H3 aP (.lst (st.aI.map nV++[V.int ((st.made.length+1:Nat):Int)]))=H4 at X4' A1 ⊢;have nf:st.made.length+1∉st.u9:=λz=>by
   have:=(List.mem_filter.mp z).1;rw[List.mem_range'_1]at this;omega
  have ht4:=ht.step A1
  by_cases h0:m.k=0
  ·obtain⟨L,tx,rfl,rfl,hL⟩:=hv0 h0;have hL4:=hL.step A1;refine ixv rfl (SqT.of ht4.2) rfl ⟨rfl,tst (Fj 0 (by decide)) ?_⟩
   refine ixv rfl (SqT.of ht4.2) rfl ⟨L,_,rfl,.inl (SqL.of hL4.2),λp hp=>?_⟩
   have lf:st.firsts.length=fs.length:=X4'.first.len;have lff:st.firsts.length<=st.made.length:=by
    have:=congrArg U5 I.ff;rw[bo]at this;rw[this];exact ra (List.length_filter_le _ _) (by rw[Ue];exact kc _)
   have lkk:st.kept.length<=st.made.length:=by
    have:=congrArg U5 I.kk;rw[bo]at this;rw[this];exact ra (List.length_filter_le _ _) (by rw[Ue];exact kc _)
   have sp:=av (o:=.lst (tx.map V.str)) hp;refine dh rfl (sp _ _ X4'.ob) T.ag T.gv wQ ⟨_,rfl,aF,_,rfl,wz.k (k:=kr ((st.made.length+1:Nat):Int)) (sp _ _ X4'.firsts.2) ?_,?_⟩
   ·unfold bc;rw[bo,Vk,bo];show min st.firsts.length _ < _;omega
   obtain⟨st5,X5⟩:=X4'.Kx (tx:=tx) hp (n:=st.made.length+1) (by show _∉st.firsts.map (·.1);rw[I.ff];exact nf)
   have X5':ChX A i (aN c3 p (some (i,.jN (st.made.length+1)))) (upd (upd H4 p (.lst (tx.map V.str))) aF (.dK (putK (bc ((st.firsts.map (·.1)).zip fs)) (kr ((st.made.length+1:Nat):Int)) (.ref p)))) o { st with made:=st.made++[.mat tx],aI:=st.aI++[st.made.length+1],firsts:=st.firsts++[(st.made.length+1,tx)] } dx aM aP aA aD aF aE aR (ms++[mo]) ds ws (fs++[.ref p]) es:=X5
   have Pg:Step (bT i) c (aN c3 p (some (i,.jN (st.made.length+1)))) H1 (upd (upd H4 p (.lst (tx.map V.str))) aF (.dK (putK (bc ((st.firsts.map (·.1)).zip fs)) (kr ((st.made.length+1:Nat):Int)) (.ref p)))):=A1.trans st5.pj
   clear X5 st5;generalize aN c3 p (some (i,.jN (st.made.length+1)))=c5 at X5' Pg;generalize upd (upd H4 p (.lst (tx.map V.str))) aF (.dK (putK (bc ((st.firsts.map (·.1)).zip fs)) (kr ((st.made.length+1:Nat):Int)) (.ref p)))=H5 at X5' Pg ⊢
   refine⟨(sl 0),λp2 hp2=>?_⟩
   have sp2:=av (o:=.lst []) hp2;refine dh rfl (sp2 _ _ X5'.ob) T.ag T.dY pD ⟨_,rfl,aE,_,rfl,wz.k (k:=kr ((st.made.length+1:Nat):Int)) (sp2 _ _ X5'.iw.2) ?_,?_⟩
   ·unfold bc;rw[bo,Vk,bo];show min st.kept.length _ < _;omega
   obtain⟨st6,X6⟩:=X5'.Ml hp2 (n:=st.made.length+1) (by show _∉st.kept.map (·.1);rw[I.kk];exact nf)
   have Q8:=Pg.trans st6.pj;have Ph:=Pe.step Q8;refine dh rfl X6.ob T.ag T.cV pE ⟨.inl ⟨rfl,_,SqL.of X6.rows.2⟩,_,rfl,t,d,rfl,Ph.at,Q6,λH7 s7=>?_⟩
   have X7:=X6.same s7;obtain⟨st8,X8⟩:=X7.row (R.dq d);refine⟨aR,_,_,rfl,rfl,X7.rows.2,by rw[bo];show st.rows.length < _;omega,_,rfl,?_⟩
   exact q _ _ (((st1.trans Q8).trans (Step.same aC s7)).trans st8.pj) X8.at
  ·refine ixv rfl (SqT.of ht4.2) w8 ⟨rfl,tsf ((Fj m.k m.k8).trans (decide_eq_false h0)) ?_⟩;have Ph:=Pe.step A1;refine dh rfl X4'.ob T.ag T.cV pE ⟨.inl ⟨rfl,_,SqL.of X4'.rows.2⟩,_,rfl,t,d,rfl,Ph.at,Q6,λH7 s7=>?_⟩
   have X7:=X4'.same s7;obtain⟨st8,X8⟩:=X7.row (R.dq d);refine⟨aR,_,_,rfl,rfl,X7.rows.2,by rw[bo];show st.rows.length < _;omega,_,rfl,?_⟩
   have e8:st.moved m (R.dq d)={ st with made:=st.made++[m],aI:=st.aI++[st.made.length+1],rows:=st.rows++[R.dq d] }:=by
    unfold Ch.moved;cases m with
    |mat tx=>exact absurd rfl h0
    |_=>rfl
   rw[e8]at q;exact q _ _ (((st1.trans A1).trans (Step.same aC s7)).trans st8.pj) X8.at
end
def DT (n:Int):Ch:=⟨n,1,false,[],[],[],[],[],[],[]⟩
def Q9 (A:Adr):Sp:=λvs H Q _=>∃(o dx:Addr) (n:Int),vs=[.ref o,.int n]/\H o=some (.ins A.aq dx []) /\
 ∀H',(∀(i:Nat) (c:Col),∃c',(∀a v,H a=some v->a≠o->H' a=some v/\c' a=c a)/\b9 A i c' H' o (DT n))->Q .non H'
theorem fg {f:Str}{v:V}:∀ {fs:List (Str×V)},f∉fs.map (·.1)->d7 f v fs=fs++[(f,v)]
 |[],_=>rfl
 | (g,x)::r,h=>by
  rw[d7,if_neg (λz=>h (by rw[<-z];exact gc)),fg λz=>h (kf _ z)]
  rfl
theorem nxt {H:Hp}{o a C dx:Addr}{fs fs':List (Str×V)}{v:HO}(ho:H o=some (.ins C dx fs))(ha:H a=none) :
  (upd (upd H a v) o (.ins C dx fs')) a=some v/\(upd (upd H a v) o (.ins C dx fs')) o=some (.ins C dx fs')/\a≠o/\∀b u,H b=some u->b≠o->(upd (upd H a v) o (.ins C dx fs')) b=some u/\b≠a:=by
 have na:a≠o:=(aG ho ha).symm;refine⟨(ao na).trans ae,ae,na,λb u hb hbo=>?_⟩
 have nb:b≠a:=aG hb ha;exact⟨(ao hbo).trans ((ao nb).trans hb),nb⟩
section
variable{P:km}{w:World}{K:ba}{mg:Str->Option Value}{base:Heap}{A:Adr}
theorem zv (T:Txt w.params K mg A):FnOk P w K mg base CX0 2 A.jA A.iG ["self","seats"] (Q9 A):=by
 refine T.yF.ok wA (λvs H Q E h=>?_) (λcdv A' outer s H vs Q E hr h=>?_)
 ·obtain⟨o,dx,n,rfl,_⟩:=h;rfl
 ·obtain⟨o,dx,n,rfl,ho,q⟩:=h;refine⟨_,(ak (dA (pv 0) (pv 1) rfl)
 (ak (dA (pv 0) aj rfl)
 (ak (dA (pv 0) ni rfl)
 (ak (dA (pv 0) sv rfl)
 (ak (dA (pv 0) (bX af) rfl)
 (ak (dA (pv 0) sv rfl)
 (ak (dA (pv 0) (bX af) rfl)
 (ak (dA (pv 0) sv rfl)
 (ak (dA (pv 0) sv rfl)
 (ai (dA (pv 0) (bX af) rfl))))))))))),?_⟩
  try dsimp only[br]
  refine⟨_,rfl,_,rfl,o,A.aq,dx,_,rfl,ho,T.ag,T.l7,(by show 0 < 1000;decide),?_⟩
  refine⟨_,rfl,o,A.aq,dx,_,rfl,ae,T.ag,T.bJ,(by show 1 < 1000;decide),?_⟩
  rw[jW];refine⟨_,rfl,o,A.aq,dx,_,rfl,ae,T.ag,T.bW,(by show 2 < 1000;decide),?_⟩
  rw[jW];have e0:d7 (ar "closed") (V.bl false) (d7 (ar "sitting") (V.int 1) (d7 (ar "seats") (V.int n) []))=[(ar "seats",V.int n),(ar "sitting",V.int 1),(ar "closed",V.bl false)]:=by
   have f1:d7 (ar "seats") (V.int n) []=[(ar "seats",V.int n)]:=rfl;have f2:d7 (ar "sitting") (V.int 1) [(ar "seats",V.int n)]=[(ar "seats",V.int n),(ar "sitting",V.int 1)]:=fg (by show _∉[ar "seats"];trivial)
   rw[f1,f2];exact fg (by show _∉[ar "seats",ar "sitting"];trivial)
  rw[e0];have o0:(upd H o (.ins A.aq dx [(ar "seats",V.int n),(ar "sitting",V.int 1),(ar "closed",V.bl false)])) o=some (.ins A.aq dx [(ar "seats",V.int n),(ar "sitting",V.int 1),(ar "closed",V.bl false)]):=ae;have k0:∀b u,H b=some u->b≠o->(upd H o (.ins A.aq dx [(ar "seats",V.int n),(ar "sitting",V.int 1),(ar "closed",V.bl false)])) b=some u:=λb u hb hbo=>(ao hbo).trans hb
  generalize upd H o (.ins A.aq dx [(ar "seats",V.int n),(ar "sitting",V.int 1),(ar "closed",V.bl false)])=H0 at o0 k0 ⊢;refineλaM zaM=>?_
  have naM:o≠aM:=aG o0 zaM;refine⟨_,rfl,o,A.aq,dx,_,rfl,(ao naM).trans o0,T.ag,T.bw,(by show 3 < 1000;decide),?_⟩
  have e1:d7 (ar "made") (V.ref aM) [(ar "seats",V.int n),(ar "sitting",V.int 1),(ar "closed",V.bl false)]=[(ar "seats",V.int n),(ar "sitting",V.int 1),(ar "closed",V.bl false),(ar "made",V.ref aM)]:=fg (by show _∉[ar "seats",ar "sitting",ar "closed"];trivial)
  rw[e1];refine aL λGq gq=>?_
  obtain⟨yaM,o1,_,waM⟩:=nxt (v:=.dK []) (fs':=[(ar "seats",V.int n),(ar "sitting",V.int 1),(ar "closed",V.bl false),(ar "made",V.ref aM)]) o0 zaM;have k1:=λb u (hb:H b=some u) (hbo:b≠o)=>waM b u (k0 b u hb hbo) hbo
  refine gq ?_;generalize upd (upd H0 aM (.dK [])) o (.ins A.aq dx [(ar "seats",V.int n),(ar "sitting",V.int 1),(ar "closed",V.bl false),(ar "made",V.ref aM)])=H1 at o1 k1 waM yaM ⊢;clear waM;refine⟨(sl 0),λaP zaP=>?_⟩
  have naP:o≠aP:=aG o1 zaP;refine⟨_,rfl,o,A.aq,dx,_,rfl,(ao naP).trans o1,T.ag,T.bg,(by show 4 < 1000;decide),?_⟩
  have e2:d7 (ar "pile") (V.ref aP) [(ar "seats",V.int n),(ar "sitting",V.int 1),(ar "closed",V.bl false),(ar "made",V.ref aM)]=[(ar "seats",V.int n),(ar "sitting",V.int 1),(ar "closed",V.bl false),(ar "made",V.ref aM),(ar "pile",V.ref aP)]:=fg (by show _∉[ar "seats",ar "sitting",ar "closed",ar "made"];trivial)
  rw[e2];refine aL λGq gq=>?_
  obtain⟨yaP,o2,_,waP⟩:=nxt (v:=.lst []) (fs':=[(ar "seats",V.int n),(ar "sitting",V.int 1),(ar "closed",V.bl false),(ar "made",V.ref aM),(ar "pile",V.ref aP)]) o1 zaP;obtain⟨yaM,Ra⟩:=waP _ _ yaM (Tr naM);have k2:=λb u (hb:H b=some u) (hbo:b≠o)=>waP b u ((k1 b u hb hbo).1) hbo
  refine gq ?_;generalize upd (upd H1 aP (.lst [])) o (.ins A.aq dx [(ar "seats",V.int n),(ar "sitting",V.int 1),(ar "closed",V.bl false),(ar "made",V.ref aM),(ar "pile",V.ref aP)])=H2 at o2 k2 waP yaM yaP ⊢;clear waP;refineλaA zaA=>?_
  have naA:o≠aA:=aG o2 zaA;refine⟨_,rfl,o,A.aq,dx,_,rfl,(ao naA).trans o2,T.ag,T.bS,(by show 5 < 1000;decide),?_⟩
  have e3:d7 (ar "aside") (V.ref aA) [(ar "seats",V.int n),(ar "sitting",V.int 1),(ar "closed",V.bl false),(ar "made",V.ref aM),(ar "pile",V.ref aP)]=[(ar "seats",V.int n),(ar "sitting",V.int 1),(ar "closed",V.bl false),(ar "made",V.ref aM),(ar "pile",V.ref aP),(ar "aside",V.ref aA)]:=fg (by show _∉[ar "seats",ar "sitting",ar "closed",ar "made",ar "pile"];trivial)
  rw[e3];refine aL λGq gq=>?_
  obtain⟨yaA,o3,_,waA⟩:=nxt (v:=.dK []) (fs':=[(ar "seats",V.int n),(ar "sitting",V.int 1),(ar "closed",V.bl false),(ar "made",V.ref aM),(ar "pile",V.ref aP),(ar "aside",V.ref aA)]) o2 zaA;obtain⟨yaM,Rb⟩:=waA _ _ yaM (Tr naM);obtain⟨yaP,Rc⟩:=waA _ _ yaP (Tr naP);have k3:=λb u (hb:H b=some u) (hbo:b≠o)=>waA b u ((k2 b u hb hbo).1) hbo
  refine gq ?_;generalize upd (upd H2 aA (.dK [])) o (.ins A.aq dx [(ar "seats",V.int n),(ar "sitting",V.int 1),(ar "closed",V.bl false),(ar "made",V.ref aM),(ar "pile",V.ref aP),(ar "aside",V.ref aA)])=H3 at o3 k3 waA yaM yaP yaA ⊢;clear waA;refine⟨(sl 0),λaD zaD=>?_⟩
  have naD:o≠aD:=aG o3 zaD;refine⟨_,rfl,o,A.aq,dx,_,rfl,(ao naD).trans o3,T.ag,T.fD,(by show 6 < 1000;decide),?_⟩
  have e4:d7 (ar "decided") (V.ref aD) [(ar "seats",V.int n),(ar "sitting",V.int 1),(ar "closed",V.bl false),(ar "made",V.ref aM),(ar "pile",V.ref aP),(ar "aside",V.ref aA)]=[(ar "seats",V.int n),(ar "sitting",V.int 1),(ar "closed",V.bl false),(ar "made",V.ref aM),(ar "pile",V.ref aP),(ar "aside",V.ref aA),(ar "decided",V.ref aD)]:=fg (by show _∉[ar "seats",ar "sitting",ar "closed",ar "made",ar "pile",ar "aside"];trivial)
  rw[e4];refine aL λGq gq=>?_
  obtain⟨yaD,o4,_,waD⟩:=nxt (v:=.lst []) (fs':=[(ar "seats",V.int n),(ar "sitting",V.int 1),(ar "closed",V.bl false),(ar "made",V.ref aM),(ar "pile",V.ref aP),(ar "aside",V.ref aA),(ar "decided",V.ref aD)]) o3 zaD;obtain⟨yaM,Rf⟩:=waD _ _ yaM (Tr naM);obtain⟨yaP,Rg⟩:=waD _ _ yaP (Tr naP);obtain⟨yaA,Rh⟩:=waD _ _ yaA (Tr naA);have k4:=λb u (hb:H b=some u) (hbo:b≠o)=>waD b u ((k3 b u hb hbo).1) hbo
  refine gq ?_;generalize upd (upd H3 aD (.lst [])) o (.ins A.aq dx [(ar "seats",V.int n),(ar "sitting",V.int 1),(ar "closed",V.bl false),(ar "made",V.ref aM),(ar "pile",V.ref aP),(ar "aside",V.ref aA),(ar "decided",V.ref aD)])=H4 at o4 k4 waD yaM yaP yaA yaD ⊢;clear waD;refineλaF zaF=>?_
  have naF:o≠aF:=aG o4 zaF;refine⟨_,rfl,o,A.aq,dx,_,rfl,(ao naF).trans o4,T.ag,T.gv,(by show 7 < 1000;decide),?_⟩
  have e5:d7 (ar "first_texts") (V.ref aF) [(ar "seats",V.int n),(ar "sitting",V.int 1),(ar "closed",V.bl false),(ar "made",V.ref aM),(ar "pile",V.ref aP),(ar "aside",V.ref aA),(ar "decided",V.ref aD)]=[(ar "seats",V.int n),(ar "sitting",V.int 1),(ar "closed",V.bl false),(ar "made",V.ref aM),(ar "pile",V.ref aP),(ar "aside",V.ref aA),(ar "decided",V.ref aD),(ar "first_texts",V.ref aF)]:=fg (by show _∉[ar "seats",ar "sitting",ar "closed",ar "made",ar "pile",ar "aside",ar "decided"];trivial)
  rw[e5];refine aL λGq gq=>?_
  obtain⟨yaF,o5,_,waF⟩:=nxt (v:=.dK []) (fs':=[(ar "seats",V.int n),(ar "sitting",V.int 1),(ar "closed",V.bl false),(ar "made",V.ref aM),(ar "pile",V.ref aP),(ar "aside",V.ref aA),(ar "decided",V.ref aD),(ar "first_texts",V.ref aF)]) o4 zaF;obtain⟨yaM,Ri⟩:=waF _ _ yaM (Tr naM);obtain⟨yaP,Rj⟩:=waF _ _ yaP (Tr naP);obtain⟨yaA,Rk⟩:=waF _ _ yaA (Tr naA);obtain⟨yaD,Rm⟩:=waF _ _ yaD (Tr naD);have k5:=λb u (hb:H b=some u) (hbo:b≠o)=>waF b u ((k4 b u hb hbo).1) hbo
  refine gq ?_;generalize upd (upd H4 aF (.dK [])) o (.ins A.aq dx [(ar "seats",V.int n),(ar "sitting",V.int 1),(ar "closed",V.bl false),(ar "made",V.ref aM),(ar "pile",V.ref aP),(ar "aside",V.ref aA),(ar "decided",V.ref aD),(ar "first_texts",V.ref aF)])=H5 at o5 k5 waF yaM yaP yaA yaD yaF ⊢;clear waF;refineλaE zaE=>?_
  have naE:o≠aE:=aG o5 zaE;refine⟨_,rfl,o,A.aq,dx,_,rfl,(ao naE).trans o5,T.ag,T.dY,(by show 8 < 1000;decide),?_⟩
  have e6:d7 (ar "edits_kept") (V.ref aE) [(ar "seats",V.int n),(ar "sitting",V.int 1),(ar "closed",V.bl false),(ar "made",V.ref aM),(ar "pile",V.ref aP),(ar "aside",V.ref aA),(ar "decided",V.ref aD),(ar "first_texts",V.ref aF)]=[(ar "seats",V.int n),(ar "sitting",V.int 1),(ar "closed",V.bl false),(ar "made",V.ref aM),(ar "pile",V.ref aP),(ar "aside",V.ref aA),(ar "decided",V.ref aD),(ar "first_texts",V.ref aF),(ar "edits_kept",V.ref aE)]:=fg (by show _∉[ar "seats",ar "sitting",ar "closed",ar "made",ar "pile",ar "aside",ar "decided",ar "first_texts"];trivial)
  rw[e6];refine aL λGq gq=>?_
  obtain⟨yaE,o6,_,waE⟩:=nxt (v:=.dK []) (fs':=[(ar "seats",V.int n),(ar "sitting",V.int 1),(ar "closed",V.bl false),(ar "made",V.ref aM),(ar "pile",V.ref aP),(ar "aside",V.ref aA),(ar "decided",V.ref aD),(ar "first_texts",V.ref aF),(ar "edits_kept",V.ref aE)]) o5 zaE;obtain⟨yaM,Rn⟩:=waE _ _ yaM (Tr naM);obtain⟨yaP,Ro⟩:=waE _ _ yaP (Tr naP);obtain⟨yaA,Rp⟩:=waE _ _ yaA (Tr naA);obtain⟨yaD,Rq⟩:=waE _ _ yaD (Tr naD);obtain⟨yaF,Rt⟩:=waE _ _ yaF (Tr naF);have k6:=λb u (hb:H b=some u) (hbo:b≠o)=>waE b u ((k5 b u hb hbo).1) hbo
  refine gq ?_;generalize upd (upd H5 aE (.dK [])) o (.ins A.aq dx [(ar "seats",V.int n),(ar "sitting",V.int 1),(ar "closed",V.bl false),(ar "made",V.ref aM),(ar "pile",V.ref aP),(ar "aside",V.ref aA),(ar "decided",V.ref aD),(ar "first_texts",V.ref aF),(ar "edits_kept",V.ref aE)])=H6 at o6 k6 waE yaM yaP yaA yaD yaF yaE ⊢;clear waE;refine⟨(sl 0),λaR zaR=>?_⟩
  have naR:o≠aR:=aG o6 zaR;refine⟨_,rfl,o,A.aq,dx,_,rfl,(ao naR).trans o6,T.ag,T.cV,(by show 9 < 1000;decide),?_⟩
  have e7:d7 (ar "rows") (V.ref aR) [(ar "seats",V.int n),(ar "sitting",V.int 1),(ar "closed",V.bl false),(ar "made",V.ref aM),(ar "pile",V.ref aP),(ar "aside",V.ref aA),(ar "decided",V.ref aD),(ar "first_texts",V.ref aF),(ar "edits_kept",V.ref aE)]=[(ar "seats",V.int n),(ar "sitting",V.int 1),(ar "closed",V.bl false),(ar "made",V.ref aM),(ar "pile",V.ref aP),(ar "aside",V.ref aA),(ar "decided",V.ref aD),(ar "first_texts",V.ref aF),(ar "edits_kept",V.ref aE),(ar "rows",V.ref aR)]:=fg (by show _∉[ar "seats",ar "sitting",ar "closed",ar "made",ar "pile",ar "aside",ar "decided",ar "first_texts",ar "edits_kept"];trivial)
  rw[e7];refine aL λGq gq=>?_
  obtain⟨yaR,o7,_,waR⟩:=nxt (v:=.lst []) (fs':=[(ar "seats",V.int n),(ar "sitting",V.int 1),(ar "closed",V.bl false),(ar "made",V.ref aM),(ar "pile",V.ref aP),(ar "aside",V.ref aA),(ar "decided",V.ref aD),(ar "first_texts",V.ref aF),(ar "edits_kept",V.ref aE),(ar "rows",V.ref aR)]) o6 zaR;obtain⟨yaM,Ru⟩:=waR _ _ yaM (Tr naM);obtain⟨yaP,Rv⟩:=waR _ _ yaP (Tr naP);obtain⟨yaA,Rw⟩:=waR _ _ yaA (Tr naA);obtain⟨yaD,Rx⟩:=waR _ _ yaD (Tr naD);obtain⟨yaF,Ry⟩:=waR _ _ yaF (Tr naF);obtain⟨yaE,Rz⟩:=waR _ _ yaE (Tr naE);have k7:=λb u (hb:H b=some u) (hbo:b≠o)=>waR b u ((k6 b u hb hbo).1) hbo
  refine gq ?_;generalize upd (upd H6 aR (.lst [])) o (.ins A.aq dx [(ar "seats",V.int n),(ar "sitting",V.int 1),(ar "closed",V.bl false),(ar "made",V.ref aM),(ar "pile",V.ref aP),(ar "aside",V.ref aA),(ar "decided",V.ref aD),(ar "first_texts",V.ref aF),(ar "edits_kept",V.ref aE),(ar "rows",V.ref aR)])=H7 at o7 k7 waR yaM yaP yaA yaD yaF yaE yaR ⊢;clear waR;refine q H7 λi c=>⟨aN (aN (aN (aN (aN (aN (aN (aN c o (some (i,Rl.ob))) aM (some (i,Rl.made))) aP (some (i,Rl.aI))) aA (some (i,Rl.aS))) aD (some (i,Rl.decided))) aF (some (i,Rl.firsts))) aE (some (i,Rl.kept))) aR (some (i,Rl.rows)),λb u hb hbo=>⟨(k7 b u hb hbo).1,?_⟩,⟨dx,aM,aP,aA,aD,aF,aE,aR,[],[],[],[],[],?_⟩⟩
  ·rw[az (k7 b u hb hbo).2,az (k6 b u hb hbo).2,az (k5 b u hb hbo).2,az (k4 b u hb hbo).2,az (k3 b u hb hbo).2,az (k2 b u hb hbo).2,az (k1 b u hb hbo).2,az hbo]
  ·exact⟨by rw[az naR,az naE,az naF,az naD,az naA,az naP,az naM,bj],o7,⟨by rw[az Ru,az Rn,az Ri,az Rf,az Rb,az Ra,bj],yaM⟩,.nil,⟨by rw[az Rv,az Ro,az Rj,az Rg,az Rc,bj],yaP⟩,⟨by rw[az Rw,az Rp,az Rk,az Rh,bj],yaA⟩,.nil,⟨by rw[az Rx,az Rq,az Rm,bj],yaD⟩,.nil,⟨by rw[az Ry,az Rt,bj],yaF⟩,.nil,⟨by rw[az Rz,bj],yaE⟩,.nil,⟨by rw[bj],yaR⟩⟩
end
def SY (A:Adr)(i:Nat):Sp:=λvs H Q _=>∃(o:Addr) (n:Nat) (c:Col) (st:Ch) (x:Nat×Int×List Nat),vs=[.ref o,nV n]/\b9 A i c H o st/\at1 n st.aS=some x /\
 ∀l u H',H l=none->H u=none->aT H H'->H' l=some (.lst (x.2.2.map nV))->H' u=some (.tup [nV n,.int x.2.1,.ref l])->Q (.ref u) H'
def wc (ns:List Nat):PyData:=.list (ns.map λn:Nat=>.int (n:Int))
def asD (x:Nat×Int×List Nat):PyData:=.tuple [.int (x.1:Int),.int x.2.1,wc x.2.2]
def dcD (x:Nat×Str):PyData:=.tuple [.int (x.1:Int),.str x.2]
def z6 (st:Ch)(n:Int):Nat×Int×List Nat:=(at1 n.toNat st.aS).getD (0,0,[])
def stD (st:Ch)(ns:List Int):PyData:=.tuple [.int st.a9,.bool st.closed,wc st.aI,.list (ns.map λn=>asD (z6 st n)),.list (st.decided.map dcD)]
def mnD:Mn->PyData
 | .mat tx=>.tuple [.str (nm 0),.list (tx.map TZ)]
 | .chg e=>.tuple [.str (nm 1),edD e]
 | .mnd e=>.tuple [.str (nm 2),edD e]
 | .off u=>.tuple [.str (nm 3),.int u]
 | .cls=>.tuple [.str (nm 4)]
 | .lay=>.tuple [.str (nm 5)]
 | .rst=>.tuple [.str (nm 6)]
 | .pnt z=>.tuple [.str (nm 7),.str z]
theorem GA {α:Type}{K:ba}{H:Hp}{f:α->PyData}{g:α->V}:∀ {xs:List α},(∀x∈xs,DV K H (f x) (g x))->DVs K H (xs.map f) (xs.map g)
 |[],_=>by unfold DVs;rfl
 |x::xs,h=>by
  rw[ko,ko];unfold DVs;exact⟨g x,xs.map g,rfl,h x gc,GA λy hy=>h y (kf _ hy)⟩
theorem Co {K:ba}{H:Hp}{a:Addr}{ns:List Nat}(h:SqL K H a (ns.map nV)):DV K H (wc ns) (.ref a):=by
 unfold wc DV;exact⟨a,_,rfl,h,GA (f:=λn:Nat=>PyData.int (n:Int)) (g:=nV) λn _=>by unfold DV;rfl⟩
theorem bf.dvs {α:Type}{K:ba}{H:Hp}{f:α->PyData}{R:α->V->Prop}(g:∀x v,R x v->DV K H (f x) v):∀ {xs:List α} {vs:List V},bf R xs vs->DVs K H (xs.map f) vs
 |_,_,.nil=>by unfold DVs;rfl
 |_,_,.cons h t=>by
  rw[ko];unfold DVs;exact⟨_,_,rfl,g _ _ h,t.dvs g⟩
theorem bf.mapR {α β γ:Type}{R:α->γ->Prop}{f:β->γ}:∀ {xs:List α} {ys:List β},bf (λa b=>R a (f b)) xs ys->bf R xs (ys.map f)
 |_,_,.nil=>.nil
 |_,_,.cons h t=>.cons h t.mapR
def DU (H:Hp)(R:Addr)(x:Nat×Int×List Nat)(v:V):Prop:=∃u l,v=.ref u/\u≠R/\l≠R/\H u=some (.tup [nV x.1,.int x.2.1,.ref l])/\H l=some (.lst (x.2.2.map nV))
theorem DU.same {H H':Hp}{R:Addr}{x:Nat×Int×List Nat}{v:V}(s:aT H H'):DU H R x v->DU H' R x v
 |⟨u,l,e,h1,h2,h3,h4⟩=>⟨u,l,e,h1,h2,s _ _ h3,s _ _ h4⟩
theorem DU.upd {H:Hp}{R:Addr}{o:HO}{x:Nat×Int×List Nat}{v:V}:DU H R x v->DU (L2.upd H R o) R x v
 |⟨u,l,e,h1,h2,h3,h4⟩=>⟨u,l,e,h1,h2,(ao h1).trans h3,(ao h2).trans h4⟩
theorem DU.dv {K:ba}{H:Hp}{R:Addr}{x:Nat×Int×List Nat}{v:V}:DU H R x v->DV K H (asD x) v
 |⟨u,l,e,h1,h2,h3,h4⟩=>by
  unfold asD DV;refine⟨u,_,e,SqT.of h3,?_⟩;unfold DVs;refine⟨_,_,rfl,by unfold DV;rfl,?_⟩
  unfold DVs;refine⟨_,_,rfl,by unfold DV;rfl,?_⟩
  unfold DVs;exact⟨_,_,rfl,Co (SqL.of h4),by unfold DVs;rfl⟩
section
variable{P:km}{w:World}{K:ba}{mg:Str->Option Value}{base:Heap}{A:Adr}
theorem z7 (T:Txt w.params K mg A){i:Nat}:FnOk P w K mg base CX0 1 A.eu A.dX ["self","number"] (SY A i):=by
 refine T.o8.ok gC (λvs H Q E h=>?_) (λcdv A' outer s H vs Q E hr h=>?_)
 ·obtain⟨o,n,c,st,x,rfl,_⟩:=h;rfl
 ·obtain⟨o,n,c,st,x,rfl,hc,hx,q⟩:=h;obtain⟨dx,aM,aP,aA,aD,aF,aE,aR,ms,ds,ws,fs,es,X⟩:=hc.ex;have hu1:=hr.u1;refine⟨_,(ak (aY (i:=2) gC.nd rfl (Tp rfl) (i6 hu1 (aZ (pv 0) rfl) (pv 1) (λ_ _=>rfl)))
 (ai (aB (bM (aa (pv 1) (aa (aU bq (pv 2) aj (λ_ _=>rfl)) (aa (bP bN (by rfl) T.iL fm (aa (aU bq (pv 2) aj (λ_ _=>rfl)) af)) af))))))),?_⟩
  try dsimp only[br]
  refine aL λGq gq=>?_
  obtain⟨t,p,hv,ht,hl⟩:=X.waitOf hx;refine gq ?_;refine⟨_,rfl,o,A.aq,dx,_,.ref aA,rfl,X.ob,T.ag,T.bS,gZ,_,rfl,aA,_,rfl,.inl ⟨_,kr (n:Int),.inl X.aS.2,rfl,hv.symm⟩,?_⟩;refine⟨_,rfl,_,rfl,t,_,_,_,rfl,rfl,ht.sq,rfl,_,rfl,t,_,_,_,rfl,rfl,ht.sq,rfl,p,_,rfl,.inl (SqL.of hl.2),λl hl0=>⟨(sl 3),λu hu=>?_⟩⟩
  have nul:u≠l:=λz=>by rw[z,ae]at hu;cases hu
  have hu0:H u=none:=by rw[ao nul]at hu;exact hu
  exact q l u _ hl0 hu0 ((av hl0).new hu) ((ao (Tr nul)).trans ae) ae
theorem Pj {c:Col}{H:Hp}{v:V}{t:Addr}:∀ {m:Mn},1<=m.k->m.Val c H v->SqT K H t (rowOf m.k v)->DV K H (mnD m) (.ref t)
 | .mat _,h,_,_=>absurd h (by simp[Mn.k])
 | .chg e,_,⟨te,ev,hte⟩,ht=>by
  subst ev;unfold mnD DV;refine⟨t,_,rfl,ht,?_⟩;unfold DVs;refine⟨_,_,rfl,by unfold DV;rfl,?_⟩
  unfold DVs;exact⟨_,_,rfl,Fe e hte.sq,by unfold DVs;rfl⟩
 | .mnd e,_,⟨te,ev,hte⟩,ht=>by
  subst ev;unfold mnD DV;refine⟨t,_,rfl,ht,?_⟩;unfold DVs;refine⟨_,_,rfl,by unfold DV;rfl,?_⟩
  unfold DVs;exact⟨_,_,rfl,Fe e hte.sq,by unfold DVs;rfl⟩
 | .off u,_,ev,ht=>by
  have ev':v=.int u:=ev;subst ev';unfold mnD DV;refine⟨t,_,rfl,ht,?_⟩;unfold DVs;refine⟨_,_,rfl,by unfold DV;rfl,?_⟩
  unfold DVs;exact⟨_,_,rfl,by unfold DV;rfl,by unfold DVs;rfl⟩
 | .pnt z,_,ev,ht=>by
  have ev':v=.str z:=ev;subst ev';unfold mnD DV;refine⟨t,_,rfl,ht,?_⟩;unfold DVs;refine⟨_,_,rfl,by unfold DV;rfl,?_⟩
  unfold DVs;exact⟨_,_,rfl,by unfold DV;rfl,by unfold DVs;rfl⟩
 | .cls,_,_,ht=>by
  unfold mnD DV;refine⟨t,_,rfl,ht,?_⟩;unfold DVs;exact⟨_,_,rfl,by unfold DV;rfl,by unfold DVs;rfl⟩
 | .lay,_,_,ht=>by
  unfold mnD DV;refine⟨t,_,rfl,ht,?_⟩;unfold DVs;exact⟨_,_,rfl,by unfold DV;rfl,by unfold DVs;rfl⟩
 | .rst,_,_,ht=>by
  unfold mnD DV;refine⟨t,_,rfl,ht,?_⟩;unfold DVs;exact⟨_,_,rfl,by unfold DV;rfl,by unfold DVs;rfl⟩
end
def bH (st:Ch):R.bp->Rs×Ch
 | .nums kd ns=>if kd=ar "vote" then kG st (ns.getD 0 0) (ns.getD 1 0) else if kd=ar "drop" then kJ st else if kd=ar "take" then stepT st (ns.getD 0 0).toNat else mj st (fF (.nums kd ns)) (R.dq (.nums kd ns))
 |d=>mj st (fF d) (R.dq d)
inductive pK:R.bp->Prop
 |DW {a b:Int}:(0<=a/\a < 10 ^ 10)->(0<=b/\b < 10 ^ 10)->pK (.nums (ar "vote") [a,b])
 |drop:pK (.nums (ar "drop") [])
 |take {z:Int}:-1<=z->z < 10 ^ 10->pK (.nums (ar "take") [z])
 |move {d:R.bp}:Fs d->pK d
theorem g7 {st:Ch}{a b:Int}:bH st (.nums (ar "vote") [a,b])=kG st a b:=by rw[bH,if_pos rfl];rfl
theorem g8 {st:Ch}:bH st (.nums (ar "drop") [])=kJ st:=by rw[bH,if_neg (by trivial),if_pos rfl]
theorem fG {st:Ch}{z:Int}:bH st (.nums (ar "take") [z])=stepT st z.toNat:=by
 rw[bH,if_neg (by trivial),if_neg (by trivial),if_pos rfl]
 rfl
theorem g9 {st:Ch}{d:R.bp}(h:Fs d):bH st d=mj st (fF d) (R.dq d):=by
 cases d with
 |nums kd ns =>
  rcases qb h.1 with ⟨u,rfl,rfl⟩ | ⟨rfl,rfl⟩ | ⟨rfl,rfl⟩ | ⟨rfl,rfl⟩ <;> rw[bH,if_neg (by trivial),if_neg (by trivial),if_neg (by trivial)]
 |_=>rfl
theorem Inv.bH {N:Nat}{st:Ch}(I:Inv N st)(hN:N<=800){d:R.bp}(h:pK d):Inv (N+3) (bH st d).2:=by
 cases h with
 |DW=>rw[g7];exact I.kG hN _ _
 |drop=>rw[g8];exact I.kJ
 |take=>rw[fG];exact I.stepT _
 |move h=>rw[g9 h];exact I.mj (KI h) _
theorem fO {W:Option (Nat×Rl)->Prop}{c c':Col}{H H':Hp}(s:Step W c c' H H'){a:Addr}{v:HO}(h:c a=none)(hv:H a=some v):c' a=none/\H' a=some v:=by
 have hn:¬W (c a):=by rw[h];exact s.nn
 exact⟨by rw[s.col a _ hv hn];exact h,s.keep _ _ hv hn⟩
def Pk (A:Adr)(i:Nat):Sp:=λvs H Q E=>∃(o t:Addr) (c:Col) (st:Ch) (N:Nat) (d:R.bp),vs=[.ref o,.ref t]/\b9 A i c H o st/\Inv N st/\N<=800/\pK d/\jR i c H d t/\DR A i c H o (bH st d) Q E
theorem Pl:∀k,k < 8->decide (V.str (nm k)=V.str (ar "vote"))=false:=by trivial
theorem Pm:∀k,k < 8->decide (V.str (nm k)=V.str (ar "drop"))=false:=by trivial
theorem Pn:∀k,k < 8->decide (V.str (nm k)=V.str (ar "take"))=false:=by trivial
section
variable{P:km}{w:World}{K:ba}{mg:Str->Option Value}{base:Heap}{A:Adr}
theorem rK (T:Txt w.params K mg A){i:Nat}:FnOk P w K mg base (CXX P w) 8 A.sN A.jz ["chamber","deed"] (Pk A i):=by
 refine T.pZ.okX ye (λvs H Q E h=>?_) (λcdv A' outer s H vs Q E hr h=>?_)
 ·obtain⟨o,t,c,st,N,d,rfl,_⟩:=h;rfl
 ·obtain⟨o,t,c,st,N,d,rfl,hc,I,hN,hd,hdc,q⟩:=h;obtain⟨dx,aM,aP,aA,aD,aF,aE,aR,ms,ds,ws,fs,es,X⟩:=hc.ex;refine⟨_,(au (psx (aY (i:=2) ye.nd rfl (Tp rfl) (aU bq (pv 1) aj (λ_ _=>rfl))))
 (au (b6 (aQ bx (pv 2) aw (aH _))
 (aJ (eJ (r6 (px (pv 0)) T.ag T.yJ (Mt (i:=i) T) (hr.mono (by decide)) T.yL (pax (aa (aU bq (pv 1) aj (λ_ _=>rfl)) (aa (aU bq (pv 1) aj (λ_ _=>rfl)) af))))))
 (i3 aO))
 (au (b6 (aQ bx (pv 2) aw (aH _))
 (aJ (eJ (uq (px (pv 0)) T.ag T.yM (Mu (i:=i) T) (hr.mono (by decide)) T.yO)))
 (i3 aO))
 (au (b6 (aQ bx (pv 2) aw (aH _))
 (aJ (eJ (r6 (px (pv 0)) T.ag T.yP (Mv (i:=i) T) (hr.mono (by decide)) T.yR (pax (aa (aU bq (pv 1) aj (λ_ _=>rfl)) af)))))
 (i3 aO))
 (aJ (eJ (r6 (px (pv 0)) T.ag T.yG (Mx (i:=i) T) hr T.yI (pax (aa (pv 1) af))))))))),?_⟩
  try dsimp only[br]
  cases hd with
  | @DW a b ha hb =>
   rw[g7]at q;have ht:SqT K H t [.str (ar "vote"),.int a,.int b]:=SqT.of hdc.2;refine ixv rfl ht rfl ⟨_,rfl,rfl,tst (by trivial) ?_⟩
   exact mtv rfl X.ob (bU (by trivial)) (ixv rfl ht rfl (ixv rfl ht rfl ⟨o,a,b,c,st,N,rfl,hc,I,hN,ha,hb,q⟩))
  |drop =>
   rw[g8]at q;have ht:SqT K H t [.str (ar "drop")]:=SqT.of hdc.2;refine ixv rfl ht rfl ⟨_,rfl,rfl,tsf (by trivial) ⟨_,rfl,rfl,tst (by trivial) ?_⟩⟩
   exact mtv rfl X.ob (bU (by trivial)) ⟨o,c,st,N,rfl,hc,I,hN,q⟩
  | @take z h0 h1 =>
   rw[fG]at q;have ht:SqT K H t [.str (ar "take"),.int z]:=SqT.of hdc.2;refine ixv rfl ht rfl ⟨_,rfl,rfl,tsf (by trivial) ⟨_,rfl,rfl,tsf (by trivial) ⟨_,rfl,rfl,tst (by trivial) ?_⟩⟩⟩
   exact mtv rfl X.ob (bU (by trivial)) (ixv rfl ht rfl ⟨o,z,c,st,N,rfl,hc,I,hN,h0,h1,q⟩)
  |move hm =>
   refine aL λGq gq=>?_
   rw[g9 hm]at q;obtain⟨v,ht,_,_⟩:=zu hm hdc;have k8:=(fF d).k8;refine gq ?_;refine ixv rfl (SqT.of ht.2) w8 ⟨_,rfl,rfl,tsf (Pl _ k8) ⟨_,rfl,rfl,tsf (Pm _ k8) ⟨_,rfl,rfl,tsf (Pn _ k8) ?_⟩⟩⟩;exact mtv rfl X.ob (bU (by trivial)) ⟨_,rfl,o,t,c,st,N,d,rfl,hc,I,hN,hm,hdc,q⟩
end
theorem b9.free {A:Adr}{i:Nat}{W:Option (Nat×Rl)->Prop}{c c':Col}{H H':Hp}{o:Addr}{st:Ch}(h:∀r,¬W (some (i,r)))(s:Step W c c' H H')(hc:b9 A i c H o st):b9 A i c' H' o st:=by
 obtain⟨dx,aM,aP,aA,aD,aF,aE,aR,ms,ds,ws,fs,es,X⟩:=hc.ex;exact(X.free h s).at
namespace R
def WAt (H:Hp):List Addr->List (List Str)->Prop
 |[],cs=>cs=[]
 |p::ps,cs=>∃ws r,cs=ws::r/\H p=some (.lst (ws.map V.str))/\WAt H ps r
theorem WAt.same {H H':Hp}(s:aT H H'):∀ {ps:List Addr} {cs:List (List Str)},WAt H ps cs->WAt H' ps cs
 |[],_,h=>h
 |_::_,_,⟨ws,r,e,h,t⟩=>⟨ws,r,e,s _ _ h,WAt.same s t⟩
theorem WAt.upd {H:Hp}{b:Addr}{o:HO}:∀ {ps:List Addr} {cs:List (List Str)},b∉ps->WAt H ps cs->WAt (upd H b o) ps cs
 |[],_,_,h=>h
 |p::ps,_,hb,⟨ws,r,e,h,t⟩=>⟨ws,r,e,(ao λz=>hb (by rw[z];exact gc)).trans h,WAt.upd (λz=>hb (kf _ z)) t⟩
theorem WAt.snoc {H:Hp}:∀ {ps:List Addr} {cs:List (List Str)} {p:Addr} {ws:List Str},WAt H ps cs->H p=some (.lst (ws.map V.str))->WAt H (ps++[p]) (cs++[ws])
 |[],_,p,ws,h,e=>by
  have h':_=[]:=h;subst h';exact⟨ws,[],rfl,e,rfl⟩
 |_::_,_,p,ws,⟨ws',r,e',h,t⟩,e=>⟨ws',r++[ws],by rw[e'];rfl,h,WAt.snoc t e⟩
theorem WAt.KN {H:Hp}:∀ {ps:List Addr} {cs:List (List Str)} {p:Addr},WAt H (ps++[p]) cs->∃ds d,cs=ds++[d]/\WAt H ps ds/\H p=some (.lst (d.map V.str))
 |[],_,p,⟨ws,r,e,h,t⟩=>by
  have t':r=[]:=t;exact⟨[],ws,by rw[e,t'];rfl,rfl,h⟩
 |_::_,_,p,⟨ws,r,e,h,t⟩=>by
  obtain⟨ds,d,e2,t2,h2⟩:=WAt.KN t;exact⟨ws::ds,d,by rw[e,e2];rfl,⟨ws,ds,rfl,h,t2⟩,h2⟩
theorem WAt.len {H:Hp}:∀ {ps:List Addr} {cs:List (List Str)},WAt H ps cs->ps.length=cs.length
 |[],_,h=>by
  have h':_=[]:=h;rw[h'];rfl
 |_::_,_,⟨ws,r,e,h,t⟩=>by rw[e,ky,ky,WAt.len t]
theorem WAt.get {H:Hp}:∀ {ps:List Addr} {cs:List (List Str)} {i:Nat} {p:Addr},WAt H ps cs->ps[i]?=some p->∃ws,cs[i]?=some ws/\H p=some (.lst (ws.map V.str))
 |[],_,_,_,_,g=>by simp at g
 |_::_,_,0,p,⟨ws,r,e,h,t⟩,g=>by
  obtain rfl:=om g;exact⟨ws,by rw[e];rfl,h⟩
 |_::_,_,i+1,p,⟨ws,r,e,h,t⟩,g=>by
  obtain⟨x,h1,h2⟩:=WAt.get t (show _=some p from g)
  exact⟨x,by rw[e];exact h1,h2⟩
def cP (H H':Hp):bp->Addr->Prop
 | .mat cs,t=>∃L,H' t=some (.tup [.str (ar "matter"),.ref L])/\H L=none/\H' L=some (.lst ((cs.map (ki bl1)).map V.str))
 | .ed m k i ws,t=>∃e,H' t=some (.tup [.str (kEd m),.ref e])/\H e=none/\H' e=some (.tup (edR k i (ki bl1 ws)))
 | .pt ws,t=>H' t=some (.tup [.str (ar "point"),.str (ki bl1 ws)])
 | .nums kd ns,t=>H' t=some (.tup (.str kd::ns.map V.int))
theorem cP.at {K:ba}{H H':Hp}:∀ {d:bp} {t:Addr},cP H H' d t->m6 K H' d t
 | .mat _,_,⟨L,a,_,b⟩=>⟨L,SqT.of a,SqL.of b⟩
 | .ed _ _ _ _,_,⟨e,a,_,b⟩=>⟨e,SqT.of a,SqT.of b⟩
 | .pt _,_,h=>SqT.of h
 | .nums _ _,_,h=>SqT.of h
theorem cP.back {H H1 H2:Hp}(s:aT H H1):∀ {d:bp} {t:Addr},cP H1 H2 d t->cP H H2 d t
 | .mat _,_,⟨L,a,b,c⟩=>⟨L,a,s.free b,c⟩
 | .ed _ _ _ _,_,⟨e,a,b,c⟩=>⟨e,a,s.free b,c⟩
 | .pt _,_,h=>h
 | .nums _ _,_,h=>h
theorem cP.top {H H':Hp}:∀ {d:bp} {t:Addr},cP H H' d t->∃xs,H' t=some (.tup (.str (gz d)::xs))
 | .mat _,_,⟨_,a,_⟩=>⟨_,a⟩
 | .ed _ _ _ _,_,⟨_,a,_⟩=>⟨_,a⟩
 | .pt _,_,h=>⟨_,h⟩
 | .nums _ _,_,h=>⟨_,h⟩
theorem cP.same {H H1 H2:Hp}(s:aT H1 H2):∀ {d:bp} {t:Addr},cP H H1 d t->cP H H2 d t
 | .mat _,_,⟨L,a,b,c⟩=>⟨L,s _ _ a,b,s _ _ c⟩
 | .ed _ _ _ _,_,⟨e,a,n,b⟩=>⟨e,s _ _ a,n,s _ _ b⟩
 | .pt _,_,h=>s _ _ h
 | .nums _ _,_,h=>s _ _ h
def kK (c:Nat):Bool:=decide (33<=c) && (decide (c<=126) && decide (c≠37))
def cq (z:Str):Bool:=decide (1<=z.length) && (decide (z.length<=20) && (!decide (z=sl1) && z.cps.toList.all kK))
def ll (c:Nat):Bool:=decide (48<=c) && decide (c<=57)
def cF (z:Str):Bool:=decide (z≠em) && (decide (z.length<=10) && (z.cps.toList.all ll && (decide (z=ar "0") || !decide (z.cps.toList.head?=some 48))))
def iy (z:Str):Int:=(PySem.intText? z).getD 0
def clausesOf:List (List Str)->List Str->Option (List (List Str))
 |acc,[]=>some acc
 |acc,w::r=>if w=sl1 then clausesOf (acc++[[]]) r else if acc=[] then none else clausesOf (acc.dropLast++[acc.getLastD []++[w]]) r
def readText (ws:List Str):Option (List (List Str)):=(clausesOf [] ws).bind λcs=>if cs.all (λc=>c.all cq)=true then some cs else none
def fh:List Str->Option (Nat×Int×List Str)
 |k::p::th=>if cF p=true then (if k=kn 1 then (if th=[] then some (1,iy p,[]) else none) else if (k=kn 0\/k=kn 2)/\th.all cq=true then some (if k=kn 0 then 0 else 2,iy p,th) else none) else none
 |_=>none
def iz (ws:List Str):Option (Nat×Int×List Str):=(fh ws).bind λe=>if e.1=1\/ws.length=3 then some e else none
def qc:List Str->Option Int
 |[o,n]=>if o=ar "off"/\cF n=true/\1<=iy n/\iy n<=999999999 then some (iy n) else none
 |_=>none
def Ia:List Str:=[ar "close",ar "lay",ar "rest",ar "drop"]
def tO:List Str->Option bp
 |[a,b]=>if cF a=true/\cF b=true then some (.nums (ar "vote") [iy a,iy b]) else none
 |_=>none
def tP:List Str->Option bp
 |[a]=>if cF a=true then some (.nums (ar "take") [iy a]) else none
 |_=>none
def bO:List Str->Option bp
 |[]=>none
 |k::ws =>
  if k=ar "matter" then (readText ws).map .mat
  else if k=ar "change" then (fh ws).map λe=>.ed false e.1 e.2.1 e.2.2
  else if k=ar "mend" then (iz ws).map λe=>.ed true e.1 e.2.1 e.2.2
  else if k=ar "put" then (qc ws).map λn=>.nums (ar "put off") [n]
  else if k=ar "point" then (if ws.all cq=true then some (.pt ws) else none)
  else if k=ar "vote" then tO ws
  else if k=ar "take" then tP ws
  else if k∈Ia/\ws=[] then some (.nums k []) else none
structure iZ (ws:List Str):Prop where
 sz:(ws.map (·.length)).sum+ws.length<=60000
 asc:∀w∈ws,Asc w
theorem iZ.len {ws:List Str}(o:iZ ws):ws.length<=60000:=by have:=o.sz;omega
theorem KO:∀ {ws:List Str} {w:Str},w∈ws->w.length<=(ws.map (·.length)).sum
 |x::r,w,h=>by
  rw[ko,List.sum_cons];rcases List.mem_cons.mp h with rfl | h
  ·omega
  ·have:=KO h;omega
theorem iZ.wl {ws:List Str}(o:iZ ws){w:Str}(h:w∈ws):w.length<=60000:=by have:=o.sz;have:=KO h;omega
theorem KP (ws:List Str)(n:Nat):((ws.drop n).map (·.length)).sum<=(ws.map (·.length)).sum:=by
 rw[List.map_drop]
 conv=>rhs;rw[<-List.take_append_drop n (ws.map (·.length)),List.sum_append]
 omega
theorem iZ.drop {ws:List Str}(o:iZ ws)(n:Nat):iZ (ws.drop n) :=
 have h1:=KP ws n;have h2:=o.sz;have h3:(ws.drop n).length<=ws.length:=by rw[TQ];omega
 ⟨by omega,λw hw=>o.asc w (Va hw)⟩
def zw (A:Adr)(n:Int)(E:XK)(H:Hp):Prop:=∀(d:Addr) (H':Hp),aT H H'->H' d=some (.xd [("row",.int n)])->E (.ref A.bC) (some d) H'
theorem zw.same {A:Adr}{n:Int}{E:XK}{H H1:Hp}(e:zw A n E H)(s:aT H H1):zw A n E H1:=λd H' s' h=>e d H' (s.trans s') h
def vb (A:Adr):Sp:=λvs H Q E=>∃b:Bool,vs=[.bl b]/\(b=true->Q .non H)/\(b=false->zw A 1 E H)
def KQ:Sp:=λvs H Q _=>∃c:Nat,vs=[.str ⟨#[c]⟩]/\Q (.bl (kK c)) H
def KR:Sp:=λvs H Q _=>∃z:Str,vs=[.str z]/\z.length<=60000/\∀H',aT H H'->Q (.bl (cq z)) H'
def Mz:Sp:=λvs H Q _=>∃z:Str,vs=[.str z]/\z.length<=60000/\∀H',aT H H'->Q (.bl (cF z)) H'
def KS (A:Adr):Sp:=λvs H Q E=>∃z:Str,vs=[.str z]/\z.length<=60000/\(cF z=true->∀H',aT H H'->Q (.int (iy z)) H')/\(cF z=false->zw A 1 E H)
def Ib (K:ba)(A:Adr):Sp:=λvs H Q E=>∃(a:Addr) (ws:List Str),vs=[.ref a]/\SqL K H a (ws.map V.str)/\iZ ws/\(ws.all cq=true->∀H',aT H H'->Q (.str (ki bl1 ws)) H')/\(ws.all cq=false->zw A 1 E H)
theorem lt1 (a b:Nat):decide ([a] < [b])=decide (a < b):=by
 rw[Ug,decide_eq_true_iff,decide_eq_true_iff];constructor
 ·intro h;cases h with
  |rel h=>exact h
  |cons h=>cases h
 ·exactλh=>.rel h
section
variable{P:km}{w:World}{K:ba}{mg:Str->Option Value}{base:Heap}{A:Adr}
theorem Ft (T:Txt w.params K mg A):FnOk P w K mg base CX0 1 A.sO A.oH ["self","row"] (xH A.bC "row"):=by
 refine T.AQ.ok qF (λvs H Q E h=>?_) (λcdv A' outer s H vs Q E hr h=>?_)
 ·obtain⟨e,v,rfl,_⟩:=h;rfl
 ·obtain⟨e,v,rfl,hx,⟨z,fz,zl⟩,q⟩:=h;refine⟨_,(ak (bF (nY T.dQ T.mf rfl T.cy (aa (pv 0) (aa (r8 (eY (mD (pv 1) mB))) af))))
 (ai (r9 T.mf (pv 0) (pv 1)))),?_⟩
  try dsimp only[br]
  have sz:eg=16777216:=by decide
  have c5:(ar "refused at the row ").length=19:=by trivial
  have e5:(Um++ar "refused at the row ":Str).length=19:=by trivial
  refine⟨_,rfl,by rw[e5];omega,_,rfl,z,fz,by omega,by rw[len_app,e5];omega,by rw[len_app,e5];omega,e,_,rfl,hx,?_⟩
  exact⟨_,rfl,_,rfl,e,rfl,hx,λd hd=>q d hd⟩
theorem eF (T:Txt w.params K mg A):FnOk P w K mg base (CXX P w) 3 A.sM A.jx ["holds"] (vb A):=by
 refine T.cI.okX EO (λvs H Q E h=>?_) (λcdv A' outer s H vs Q E hr h=>?_)
 ·obtain⟨b,rfl,_⟩:=h;rfl
 ·obtain⟨b,rfl,h1,h2⟩:=h;refine⟨_,(aJ (b6 (kM (kL (pv 0)))
 (aJ (jq T.mf (Ft T) hr T.AR rfl rfl T.BZ (aa aj af)))
 (i3 aO))),?_⟩
  try dsimp only[br]
  refine⟨_,rfl,b,rfl,?_⟩;cases b with
  |true=>exact df (h1 rfl)
  |false=>exact dN ⟨_,rfl,⟨_,.int (by decide),by trivial⟩,λd hd=>h2 rfl d _ (av hd) ae⟩
theorem Fu (T:Txt w.params K mg A):FnOk P w K mg base CX0 1 A.BN A.q8 ["sign"] KQ:=by
 refine T.AI.ok ER (λvs H Q E h=>?_) (λcdv A' outer s H vs Q E hr h=>?_)
 ·obtain⟨c,rfl,_⟩:=h;rfl
 ·obtain⟨c,rfl,q⟩:=h;refine⟨_,(ai (aB (iA (rR Au Au aw (pv 0) aw) (gI (bI Ad (bh IF (by rfl) T.QJ N0 (aa (pv 0) af)) (hJ (v:=V.int 37) rfl T.HC ⟨_,rfl⟩) (aH _)))))),?_⟩
  try dsimp only[br]
  have e1:(ar "!").cps.toList=[33]:=by trivial
  have e2:(ar "~").cps.toList=[126]:=by trivial
  refine⟨_,rfl,_,_,rfl,rfl,_,rfl,?_⟩;rw[e1,show (⟨#[c]⟩:Str).cps.toList=[c] from rfl,lt1]
  by_cases h1:c < 33
  ·rw[decide_eq_true h1];refine df ⟨_,rfl,df ?_⟩;rw[kK,decide_eq_false (show ¬33<=c by omega)]at q
   exact q
  ·rw[decide_eq_false h1];refine dN ⟨_,_,rfl,rfl,_,rfl,?_⟩;rw[e2,show (⟨#[c]⟩:Str).cps.toList=[c] from rfl,lt1]
   by_cases h2:126 < c
   ·rw[decide_eq_true h2];refine df ?_;rw[kK,decide_eq_true (show 33<=c by omega),decide_eq_false (show ¬c<=126 by omega)]at q
    exact q
   ·rw[decide_eq_false h2];refine dN ⟨_,rfl,_,rfl,rfl,rfl,?_⟩;rw[kK,decide_eq_true (show 33<=c by omega),decide_eq_true (show c<=126 by omega)]at q
    have e3:(!decide (V.int ((((⟨#[c]⟩:Str).cps.getD 0 0:Nat)):Int)=V.int 37))=decide (c≠37):=by
     rw[Ug];simp;omega
    rw[e3];exact q
theorem rL {α:Type}(p:α->Bool)(l:List α):(l.map p).all id=l.all p:=by
 induction l with
 |nil=>rfl
 |cons a l ih=>simp[ih]
theorem Fv (T:Txt w.params K mg A):FnOk P w K mg base CX0 2 A.BO A.q9 ["word"] KR:=by
 refine T.AJ.ok ES (λvs H Q E h=>?_) (λcdv A' outer s H vs Q E hr h=>?_)
 ·obtain⟨z,rfl,_⟩:=h;rfl
 ·obtain⟨z,rfl,zl,q⟩:=h;refine⟨_,(ai (aB (iA (rR vg vg aj (bh rZ (by rfl) T.eR cQ (aa (pv 0) af)) (hJ (v:=V.int 20) rfl T.BX ⟨_,rfl⟩)) (iA (bI Ad (pv 0) aw (aH _)) (gI (bh (xE rfl) (by rfl) T.Kb EC (aa (j3 (scope:=qH) BF rfl (Jt (pv 0)) (λ_ _ _ _ _=>(aW (Fu T) hr rfl T.Hv T.AI.kp T.Hw .nil aV (aa (pv 0) af)))) af))))))),?_⟩
  try dsimp only[br]
  have sz:eg=16777216:=by decide
  refine⟨_,rfl,z,rfl,by omega,_,_,rfl,rfl,_,rfl,?_⟩
  by_cases h1:1<=z.length
  ·rw[decide_eq_true (show (1:Int)<=(z.length:Int) by omega)]
   refine dN ⟨_,_,rfl,rfl,_,rfl,?_⟩
   by_cases h2:z.length<=20
   ·rw[decide_eq_true (show (z.length:Int)<=20 by omega)]
    refine dN ⟨_,rfl,rfl,_,rfl,?_⟩
    by_cases h3:z=sl1
    ·rw[decide_eq_true (show V.str z=V.str (ar "/") from congrArg V.str h3)]
     refine df ?_;have:=q H (aT.refl H);rw[cq,decide_eq_true h1,decide_eq_true h2,decide_eq_true h3]at this;exact this
    ·rw[decide_eq_false (show ¬V.str z=V.str (ar "/") from λe=>h3 (by injection e))]
     refine dN ⟨_,rfl,z,rfl,λD hD=>?_⟩
     refine Av kK (by show z.length<=_;omega) hD (λc H2 Q2 hc s2 k=>⟨_,rfl,c,rfl,k H2 (aT.refl _)⟩) λH2 s2 h2'=>?_
     refine⟨D,z.cps.toList.map kK,rfl,SqL.of h2',?_⟩;have:=q H2 s2;rw[cq,decide_eq_true h1,decide_eq_true h2,decide_eq_false h3]at this;rw[rL];exact this
   ·rw[decide_eq_false (show ¬(z.length:Int)<=20 by omega)]
    refine df ?_;have:=q H (aT.refl H);rw[cq,decide_eq_true h1,decide_eq_false h2]at this;exact this
  ·rw[decide_eq_false (show ¬(1:Int)<=(z.length:Int) by omega)]
   refine df ⟨_,rfl,df ?_⟩;have:=q H (aT.refl H);rw[cq,decide_eq_false h1]at this;exact this
theorem mn {α:Type}{c:α}{r:List α}:atI (c::r) 0=some c:=by
 unfold atI ixN;simp
theorem Po (c:Nat):(!(Ul (ar "0123456789") ⟨#[c]⟩ 0 (ar "0123456789").length 1).isEmpty)=ll c:=by
 rw[StrLaws.found_one];have e:(ar "0123456789").cps.toList=[48,49,50,51,52,53,54,55,56,57]:=by trivial
 rw[e,ll,Ug];simp;omega
theorem Cp (T:Txt w.params K mg A):FnOk P w K mg base CX0 1 A.uC A.mH ["word"] Mz:=by
 refine T.vG.ok BG (λvs H Q E h=>?_) (λcdv A' outer s H vs Q E hr h=>?_)
 ·obtain⟨z,rfl,_⟩:=h;rfl
 ·obtain⟨z,rfl,zl,q⟩:=h;refine⟨_,(ak (bE (PW.pt (pw_or (aQ bx (pv 0) aw (aH _)) (pw_or1 (aQ MT (bh rZ (by rfl) T.eR cQ (aa (pv 0) af)) (hJ (v:=V.int 10) rfl T.yz ⟨_,rfl⟩) (aH _)))))
 (ai (aB ni))
 aO)
 (ai (aB (iA (bh (xE rfl) (by rfl) T.Kb EC (aa (j3 (scope:=nz) yb rfl (Jt (pv 0)) (λ_ _ _ _ _=>(bI GU (pv 0) (hJ (v:=V.str (ar "0123456789")) rfl T.HB ⟨_,rfl⟩) rfl))) af)) (gI (IA (bI bx (pv 0) aw (aH _)) (gI (bI Ad (aU IP (pv 0) aj (λ_ _=>rfl)) aw (aH _))))))))),?_⟩
  try dsimp only[br]
  have sz:eg=16777216:=by decide
  refine⟨_,rfl,rfl,_,rfl,eX (λe=>?_) (λe=>?_)⟩
  ·refine dN ?_;have e':z=em:=by injection of_decide_eq_true e
   have:=q H (aT.refl H);rw[cF,decide_eq_false (λz=>z e')]at this
   exact this
  ·have hne:z≠em:=λq=>e (decide_eq_true (congrArg V.str q))
   refine⟨_,rfl,z,rfl,by omega,_,_,rfl,rfl,_,rfl,eX (λe=>?_) (λe=>?_)⟩
   ·have e':(10:Int) < (z.length:Int):=of_decide_eq_true e;have:=q H (aT.refl H);rw[cF,decide_eq_true hne,decide_eq_false (show ¬z.length<=10 by omega)]at this
    exact this
   ·have e':¬(10:Int) < (z.length:Int):=λh=>e (decide_eq_true h)
    have hl:z.length<=10:=by omega
    have hq:=λH2 s2=>q H2 s2
    rw[cF,decide_eq_true hne,decide_eq_true hl]at hq;refine⟨_,rfl,z,rfl,λD hD=>?_⟩
    refine Av ll (by show z.length<=_;omega) hD (λc H2 Q2 hc s2 k=>⟨_,rfl,_,_,rfl,rfl,by rw[Po];exact k H2 (aT.refl _)⟩) λH2 s2 h2'=>?_
    refine⟨D,z.cps.toList.map ll,rfl,SqL.of h2',_,rfl,?_⟩;have hq2:=hq H2 s2;rw[rL];cases ha:z.cps.toList.all ll with
    |false=>rw[ha]at hq2;exact df hq2
    |true =>
     rw[ha]at hq2;refine dN ⟨_,rfl,rfl,_,rfl,?_⟩
     by_cases h0:z=ar "0"
     ·rw[decide_eq_true (congrArg V.str h0)];rw[decide_eq_true h0]at hq2;exact dN hq2
     ·rw[decide_eq_false (show ¬V.str z=V.str (ar "0") from λe=>h0 (by injection e))]
      rw[decide_eq_false h0]at hq2;cases hz:z.cps.toList with
      |nil =>
       exfalso
       refine hne (pP ?_);rw[hz,DI]
      |cons c r =>
       rw[hz]at hq2;refine df ⟨_,rfl,z,0,c,rfl,rfl,by omega,by rw[hz];exact mn,rfl,?_⟩
       have e0:ar "0"=⟨#[48]⟩:=by trivial
       have e3:(!decide (V.str ⟨#[c]⟩=V.str (ar "0")))=(!decide ((c::r).head?=some 48)):=by
        rw[e0]
        congr 1
        rw[Ug];simp
       rw[e3];exact hq2
theorem Np:∀(cs:List Nat) (acc:Nat),PySem.NumText.AllDigits cs->cs.foldl (λacc c=>acc * 10+(c - 48)) acc < (acc+1) * 10 ^ cs.length
 |[],acc,_=>by simp
 |c::cs,acc,h=>by
  have h1:=h.head;have h2:=Np cs (acc * 10+(c - 48)) h.tail;rw[List.foldl_cons,ky,Nat.pow_succ];refine Th h2 ?_;rw[Nat.mul_comm (10 ^ cs.length) 10,<-Nat.mul_assoc];exact Nat.mul_le_mul_right _ (by omega)
theorem MA {z:Str}(h:cF z=true):PySem.intText? z=some (iy z)/\z.length<=10/\0<=iy z/\iy z < 10 ^ 10:=by
 simp only[cF,TH,decide_eq_true_iff]at h;obtain⟨h1,h2,h3,_⟩:=h;have hd:PySem.NumText.AllDigits z.cps.toList:=λc hc=>by
  have:=List.all_eq_true.mp h3 c hc;simp only[ll,TH,decide_eq_true_iff]at this;exact this
 have hne:z.cps.toList≠[]:=λe=>h1 (pP (by rw[e,DI]))
 have e:=PySem.intText_digits hd hne (ra h2 (by decide))
 have ev:iy z=((PySem.NumText.digitsVal z.cps.toList:Nat):Int):=by unfold iy;rw[e];rfl
 have lt:=Np z.cps.toList 0 hd;have lt2:PySem.NumText.digitsVal z.cps.toList < 10 ^ 10:=by
  refine Th lt ?_;rw[Nat.zero_add,Nat.one_mul];exact Nat.pow_le_pow_right (by decide) (by rw[m5];exact h2)
 refine⟨by rw[e,ev],h2,by rw[ev];omega,by rw[ev];omega⟩
end
end R
namespace R
theorem Fw {K:ba}{a D:Addr}{ws:List Str}{te:TE}{Q:VK}{σ:St}{H1:Hp}(p:Str->Bool)(hq:SqL K H1 a (ws.map V.str))(hz:ws.length<=eg)(hD:H1 D=none)
  (hs:∀(x:Str) (H2:Hp) (Q2:VK),x∈ws->aT H1 H2->(∀H3,aT H2 H3->Q2 (.bl (p x)) H3)->te (some (.str x)::σ) H2 Q2)
  (hd:∀H2,aT H1 H2->H2 D=some (.lst ((ws.map p).map V.bl))->Q (.ref D) H2):hZ (Itl K a) te σ D H1 Q:=by
 refine lD (K:=K) (a:=a) (xs:=ws.map V.str) (λi ys H2=>ys=((ws.take i).map p).map V.bl/\aT H1 H2/\H2 D=some (.lst ys)) ⟨by simp,av hD,ae⟩ (by rw[bo];exact hz) ?_ ?_ ?_
 ·rintro i ys H2 hi ⟨rfl,s2,h2⟩;rw[bo]at hi;exact⟨s2.seq hq,h2,by simp;omega⟩
 ·rintro i y ys H2 hi ⟨rfl,s2,h2⟩;rw[wt]at hi;cases hw:ws[i]? with
  |none=>rw[hw]at hi;cases hi
  |some x =>
   rw[hw]at hi;obtain rfl:V.str x=y:=om hi;refine hs x H2 _ (Ti hw) s2 λH3 s3=>?_
   refine bZ.mk (by rw[bo];exact(List.getElem?_eq_some_iff.mp hw).1) (s3 _ _ h2) ⟨?_,(s2.trans s3).own hD,ae⟩
   rw[U7,hw];simp
 ·rintro ys H2 ⟨rfl,s2,h2⟩;refine hd H2 s2 (h2.trans ?_);rw[bo,TY]
def csD (cs:List (List Str)):PyData:=.list (cs.map λc=>.list (c.map TZ))
theorem WAt.dvs {K:ba}{H:Hp}:∀ {ps:List Addr} {cs:List (List Str)},WAt H ps cs->DVs K H (cs.map λc=>.list (c.map TZ)) (ps.map V.ref)
 |[],_,h=>by
  have h':_=[]:=h;subst h';simp only[UJ];unfold DVs;rfl
 |_::_,_,⟨ws,r,e,h,t⟩=>by
  subst e;simp only[ko];unfold DVs;exact⟨_,_,rfl,pN (SqL.of h),WAt.dvs t⟩
theorem Fx {cs:List (List Str)}(h:∀c∈cs,∀w∈c,Asc w):SeqAt.shaped (csD cs)=true:=by
 have key:∀l:List (List Str),(∀c∈l,∀w∈c,Asc w)->me (l.map λc=>.list (c.map TZ))=true/\TC (l.map λc=>PyData.list (c.map TZ))<=10:=λl=>by
  induction l with
  |nil=>intro _;exact⟨rfl,TM _⟩
  |cons c l ih =>
   intro h;obtain⟨i1,i2⟩:=ih λc hc=>h c (kf _ hc)
   have h1:=jZ c λw hw=>(h c gc w hw).ok
   have h2:=my c;refine⟨?_,?_⟩
   ·simp[me,Tt,h1,i1]
   ·simp only[ko,TC,TN];omega
 obtain⟨k1,k2⟩:=key cs h;have k3:(csD cs).canLay0=true:=by simp[csD,Tt,k1]
 have k4:(csD cs).depth<=64:=by simp only[csD,TN];omega
 show (Tt (csD cs) && decide (TN (csD cs)<=64))=true;rw[k3,decide_eq_true k4];rfl
theorem MB (cs:List (List Str)):T2 (csD cs) (.list [])=decide (cs=[]):=by
 cases cs with
 |nil=>rfl
 |cons c r=>rfl
theorem strs_nil (cs:List Str):T2 (.list (cs.map TZ)) (.list [])=decide (cs=[]):=by
 cases cs with
 |nil=>rfl
 |cons c r=>rfl
def MC (K:ba)(A:Adr):Sp:=λvs H Q E=>∃(a:Addr) (ws:List Str),vs=[.ref a]/\SqL K H a (ws.map V.str)/\iZ ws /\
 (∀cs,readText ws=some cs->∀L H',aT H H'->H L=none->H' L=some (.lst ((cs.map (ki bl1)).map V.str))->Q (.ref L) H')/\(readText ws=none->zw A 1 E H)
structure WOk (i:Nat)(ws:List Str)(cs:List (List Str)):Prop where
 cl:cs.length<=i
 ln:∀c∈cs,c.length<=i
 sm:∀c∈cs,(c.map (·.length)).sum<=((ws.take i).map (·.length)).sum
 mm:∀c∈cs,∀w∈c,w∈ws
theorem WOk.more {i:Nat}{ws:List Str}{cs:List (List Str)}{x:Str}(o:WOk i ws cs)(hx:ws[i]?=some x):WOk (i+1) ws (cs++[[]]):=by
 have t:((ws.take (i+1)).map (·.length)).sum=((ws.take i).map (·.length)).sum+x.length:=by rw[U7,hx];simp
 refine⟨by rw[gr];have:=o.cl;simp;omega,λc hc=>?_,λc hc=>?_,λc hc=>?_⟩
 all_goals
  rcases List.mem_append.mp hc with hc | hc
  ·first
    | (have:=o.ln c hc;omega)
    | (have:=o.sm c hc;omega)
    |exact o.mm c hc
  ·obtain rfl:=List.mem_singleton.mp hc;simp
theorem WOk.word {i:Nat}{ws:List Str}{ds:List (List Str)}{d:List Str}{x:Str}(o:WOk i ws (ds++[d]))(hx:ws[i]?=some x):WOk (i+1) ws (ds++[d++[x]]):=by
 have t:((ws.take (i+1)).map (·.length)).sum=((ws.take i).map (·.length)).sum+x.length:=by rw[U7,hx];simp
 have dm:d∈ds++[d]:=gn _ gc;refine⟨by have:=o.cl;rw[gr]at this ⊢;simp at this ⊢;omega,λc hc=>?_,λc hc=>?_,λc hc=>?_⟩
 ·rcases List.mem_append.mp hc with hc | hc
  ·have:=o.ln c (TL _ hc);omega
  ·obtain rfl:=List.mem_singleton.mp hc;have:=o.ln d dm;rw[gr];simp;omega
 ·rcases List.mem_append.mp hc with hc | hc
  ·have:=o.sm c (TL _ hc);omega
  ·obtain rfl:=List.mem_singleton.mp hc;have:=o.sm d dm;have e1:([x].map λx:Str=>x.length).sum=x.length:=by simp
   rw[ma,List.sum_append,e1];omega
 ·rcases List.mem_append.mp hc with hc | hc
  ·exact o.mm c (TL _ hc)
  ·obtain rfl:=List.mem_singleton.mp hc;intro w hw;rcases List.mem_append.mp hw with hw | hw
   ·exact o.mm d dm w hw
   ·rw[List.mem_singleton.mp hw];exact Ti hx
section
variable{P:km}{w:World}{K:ba}{mg:Str->Option Value}{base:Heap}{A:Adr}
theorem jS (T:Txt w.params K mg A):FnOk P w K mg base (CXX P w) 4 A.j9 A.gh ["word"] (KS A):=by
 refine T.dU.okX yc (λvs H Q E h=>?_) (λcdv A' outer s H vs Q E hr h=>?_)
 ·obtain⟨z,rfl,_⟩:=h;rfl
 ·obtain⟨z,rfl,zl,h1,h2⟩:=h;refine⟨_,(au (bD (bu (eF T) hr rfl T.cT T.cI.kp T.cU (pax (aa (aW (Cp T) (hr.mono (by decide)) rfl T.Dh T.vG.kp T.Di .nil aV (aa (pv 0) af)) af))))
 (aJ (psx (aB (bP zL (by rfl) T.F6 Bh (aa (pv 0) af)))))),?_⟩
  try dsimp only[br]
  refine⟨_,rfl,z,rfl,zl,λH2 s2=>⟨cF z,rfl,λhb=>?_,λhb=>(h2 hb).same s2⟩⟩
  refine aL λGq gq=>?_
  obtain⟨v1,v2,_⟩:=MA hb;refine gq ?_;exact⟨_,rfl,z,iy z,rfl,v1,by omega,h1 hb H2 s2⟩
theorem jT (T:Txt w.params K mg A):FnOk P w K mg base (CXX P w) 4 A.oE A.jy ["words"] (Ib K A):=by
 refine T.hX.okX yd (λvs H Q E h=>?_) (λcdv A' outer s H vs Q E hr h=>?_)
 ·obtain⟨a,ws,rfl,_⟩:=h;rfl
 ·obtain⟨a,ws,rfl,hS,o,h1,h2⟩:=h;refine⟨_,(au (bD (bu (eF T) hr rfl T.cT T.cI.kp T.cU (pax (aa (bh (xE rfl) (by rfl) T.Kb EC (aa (j3 (scope:=j8) uy rfl (hU (pv 0)) (λ_ _ _ _ _=>(aW (Fv T) (hr.mono (by decide)) rfl T.Hx T.AJ.kp T.Hy .nil aV (aa (pv 0) af)))) af)) af))))
 (aJ (psx (aB (aW (m7 T) (hr.mono (by decide)) rfl T.oI T.kz.kp T.oJ .nil aV (aa (pv 0) af)))))),?_⟩
  try dsimp only[br]
  have sz:eg=16777216:=by decide
  have ol:=o.len;have os:=o.sz;refine⟨_,rfl,a,rfl,⟨_,hS⟩,λD hD=>?_⟩
  refine Fw cq hS (by omega) hD (λx H2 Q2 hx s2 k=>⟨_,rfl,x,rfl,o.wl hx,k⟩) λH2 s2 h2'=>?_
  refine⟨D,ws.map cq,rfl,SqL.of h2',?_⟩;rw[rL];refine⟨ws.all cq,rfl,λhb=>?_,λhb=>(h2 hb).same s2⟩
  exact⟨_,rfl,a,ws,rfl,s2.seq hS,by omega,h1 hb H2 s2⟩
theorem Pp {α:Type}{l:List α}(h:l≠[]):∃(r:List α) (a:α),l=r++[a]:=⟨l.dropLast,l.getLast h,(List.dropLast_concat_getLast h).symm⟩
theorem nU {α:Type}{r:List α}{a:α}:atI (r++[a]) (-1)=some a:=by
 unfold atI ixN;rw[if_neg (by decide),if_pos (by rw[gr,Tg];omega),UI,show ((-1:Int)+((r++[a]).length:Int)).toNat=r.length by rw[gr,Tg];omega]
 simp
theorem Cq (T:Txt w.params K mg A):FnOk P w K mg base (CXX P w) 5 A.uD A.mI ["words"] (MC K A):=by
 refine T.vH.okX mG (λvs H Q E h=>?_) (λcdv A' outer s H vs Q E hr h=>?_)
 ·obtain⟨a,ws,rfl,_⟩:=h;rfl
 ·obtain⟨a,ws,rfl,hS,o,h1,h2⟩:=h;have qk:=hr.units;refine⟨_,(au (psx (aY (i:=1) mG.nd rfl (Tp rfl) (bX af)))
 (au (Br ⟨rfl,rfl⟩ rfl (hU (pv 0)) (dI (i:=2) mG.nd rfl (Tp rfl))
 (aJ (b6 (aQ bx (pv 2) aw (aH _))
 (aJ (psx (bF (fV Tj Tx Tz cA (pv 1) (aa (bX af) af)))))
 (au (bD (bu (eF T) (hr.mono (by decide)) rfl T.cT T.cI.kp T.cU (pax (aa (bI (ED qk) (pv 1) (bX af) (aH _)) af))))
 (aJ (psx (bF (fV Tj Tx Tz cA (aU a8 (pv 1) (xm qT aj) (λ_ _=>rfl)) (aa (pv 2) af)))))))))
 (aJ (eJ (Jx (scope:=nA) ⟨rfl,rfl⟩ oy rfl (hU (pv 1)) (λ_ _ _ _ _=>(dI (i:=0) oy.nd2 rfl (Tp rfl))) (λ_ _ _ _ _=>(bu (jT T) hr rfl T.kY T.hX.kp T.kZ (pax (aa (pv 0) af))))))))),?_⟩
  try dsimp only[br]
  have sz:eg=16777216:=by decide
  have ol:=o.len;refine⟨TM _,λC hC=>?_⟩
  refine⟨_,rfl,a,rfl,⟨_,(av hC).seq hS⟩,?_⟩;refine rQ (K:=K) (a:=a) (xs:=ws.map V.str) (λi σ H2=>∃(v2:Option V) (ps:List Addr) (cs:List (List Str)),σ=[some (.ref a),some (.ref C),v2]/\aT H H2/\H2 C=some (.lst (ps.map V.ref))/\WAt H2 ps cs/\ps.Nodup/\C∉ps/\(∀p∈ps,H p=none) /\
    clausesOf cs (ws.drop i)=clausesOf [] ws/\WOk i ws cs)
   ⟨_,[],[],rfl,av hC,ae,rfl,List.nodup_nil,(λz=>nomatch z),(λp hp=>nomatch hp),rfl,⟨kc _,(λc hc=>nomatch hc),(λc hc=>nomatch hc),λc hc=>nomatch hc⟩⟩ (λi σ H2 _ ⟨_,_,_,_,s2,_⟩=>s2.seq hS) ?_ ?_
  ·rintro i y σ H2 hi ⟨v2,ps,cs,rfl,s2,hCl,hW,nd,nC,hn,ecl,wo⟩;rw[wt]at hi;cases hx:ws[i]? with
   |none=>rw[hx]at hi;cases hi
   |some x =>
    rw[hx]at hi;obtain rfl:V.str x=y:=om hi;have hil:i < ws.length:=(List.getElem?_eq_some_iff.mp hx).1;have dr:ws.drop i=x::ws.drop (i+1):=by
     rw[List.drop_eq_getElem_cons hil,(List.getElem?_eq_some_iff.mp hx).2]
    have pl:=hW.len;have cl:=wo.cl;refine⟨_,rfl,rfl,_,rfl,eX (λe=>?_) (λe=>?_)⟩
    ·have e':x=sl1:=by injection of_decide_eq_true e
     refine⟨_,rfl,.inl ⟨rfl,_,SqL.of hCl⟩,TM _,λp hp=>?_⟩
     have nCp:C≠p:=aG hCl hp;have RA:p∉ps:=λz=>by
      obtain⟨j,hj⟩:=List.getElem?_of_mem z;obtain⟨_,_,h3⟩:=hW.get hj;rw[hp]at h3;cases h3
     refine⟨C,_,_,rfl,rfl,(ao nCp).trans hCl,(by rw[bo];omega),?_⟩
     refine⟨_,ps++[p],cs++[[]],rfl,((s2.new hp).own hC),?_,?_,?_,?_,?_,?_,wo.more hx⟩
     ·rw[ae,ma];rfl
     ·refine WAt.upd (by rw[Vi,not_or];exact⟨nC,λz=>nCp (List.mem_singleton.mp z)⟩) (WAt.snoc (WAt.upd RA hW) ?_)
      rw[ae];rfl
     ·exact List.nodup_append.mpr ⟨nd,by simp,λb hb c hc e=>RA (by rw[<-List.mem_singleton.mp hc,<-e];exact hb)⟩
     ·rw[Vi,not_or];exact⟨nC,λz=>nCp (List.mem_singleton.mp z)⟩
     ·intro b hb;rcases List.mem_append.mp hb with hb | hb
      ·exact hn b hb
      ·rw[List.mem_singleton.mp hb];exact s2.free hp
     ·rw[<-ecl,dr,clausesOf,if_pos e']
    ·have e':¬x=sl1:=λz=>e (decide_eq_true (congrArg V.str z))
     refine⟨_,rfl,TM _,λp hp=>?_⟩
     have s3:aT H2 (upd H2 p (.lst [])):=av hp;refine⟨csD cs,.list [],?_,?_,Fx (λc hc w hw=>o.asc w (wo.mm c hc w hw)),by trivial,?_⟩
     ·unfold csD DV;exact⟨C,_,rfl,SqL.of (s3 _ _ hCl),(hW.same s3).dvs⟩
     ·unfold DV;exact⟨p,[],rfl,SqL.of ae,by unfold DVs;rfl⟩
     ·rw[MB];refine⟨!decide (cs=[]),rfl,λhb=>?_,λhb=>?_⟩
      ·have hcs:cs≠[]:=by simpa using hb
       refine aL λGq gq=>?_
       have hps:ps≠[]:=λz=>by rw[z]at pl;exact hcs (List.length_eq_zero_iff.mp pl.symm)
       obtain⟨qs,q,rfl⟩:=Pp hps;obtain⟨ds,d,rfl,hWd,hq⟩:=hW.KN;have nq:q≠p:=aG hq hp;have nqs:q∉qs:=λz=>by
        have:=(List.nodup_append.mp nd).2.2 q z q (by simp)
        exact this rfl
       have nqC:q≠C:=λz=>nC (by rw[<-z];simp)
       have dl:=wo.ln d (by simp)
       refine gq ?_;refine⟨_,rfl,_,rfl,C,_,_,.ref q,rfl,rfl,SqL.of (s3 _ _ hCl),?_,.inl ⟨rfl,_,SqL.of (s3 _ _ hq)⟩,_,rfl,q,_,_,rfl,rfl,s3 _ _ hq,(by rw[bo];omega),?_⟩
       ·rw[ma];exact nU
       ·have hHq:H q=none:=hn q (by simp)
        refine⟨_,qs++[q],ds++[d++[x]],rfl,(s2.trans s3).own hHq,?_,?_,nd,nC,hn,?_,wo.word hx⟩
        ·exact(ao (Tr nqC)).trans (s3 _ _ hCl)
        ·refine WAt.snoc (WAt.upd nqs (hWd.same s3)) ?_;rw[ae,ma];rfl
        ·rw[<-ecl,dr]
         conv=>rhs;rw[clausesOf]
         rw[if_neg e',if_neg (by simp)]
         simp
      ·have hcs:cs=[]:=by simpa using hb
       refine(h2 ?_).same (s2.trans s3);unfold readText;rw[<-ecl,hcs,dr,clausesOf,if_neg e',if_pos rfl];rfl
  ·rintro σ H2 ⟨v2,ps,cs,rfl,s2,hCl,hW,nd,nC,hn,ecl,wo⟩;rw[bo,List.drop_length]at ecl;have ecs:clausesOf [] ws=some cs:=ecl.symm;rw[bo]at wo;have pl:=hW.len;have cl:=wo.cl;refine⟨_,rfl,C,rfl,⟨_,SqL.of hCl⟩,λD hD=>?_⟩
   have nCD:C≠D:=aG hCl hD;refine EK (K:=K) (a:=C) (xs:=ps.map V.ref) (λi ys H3=>ys=((cs.take i).map (ki bl1)).map V.str/\(cs.take i).all (λc=>c.all cq)=true/\aT H2 H3/\H3 D=some (.lst ys))
    ⟨rfl,rfl,av hD,ae⟩ (by rw[bo];omega) ?_ ?_ ?_
   ·rintro i ys H3 hi ⟨rfl,_,s3,h3⟩;rw[bo]at hi;exact⟨SqL.of (s3 _ _ hCl),h3,by simp;omega⟩
   ·rintro i y ys H3 hi ⟨rfl,al,s3,h3⟩;rw[wt]at hi;cases hp:ps[i]? with
    |none=>rw[hp]at hi;cases hi
    |some p =>
     refine aL λGq gq=>?_
     rw[hp]at hi;obtain rfl:V.ref p=y:=om hi;obtain⟨c,hc,hpc⟩:=hW.get hp;have cm:=Ti hc;have co:iZ c:=⟨by have:=wo.ln c cm;have:=wo.sm c cm;have:=o.sz;rw[TY]at *;omega,λw hw=>o.asc w (wo.mm c cm w hw)⟩
     refine gq ?_;refine⟨_,rfl,p,c,rfl,SqL.of (s3 _ _ hpc),co,λok H4 s4=>?_,λbad=>(h2 ?_).same (s2.trans s3)⟩
     ·refine bZ.mk (by rw[bo];exact(List.getElem?_eq_some_iff.mp hp).1) (s4 _ _ h3) ⟨?_,?_,(s3.trans s4).own hD,ae⟩
      ·rw[U7,hc];simp
      ·rw[U7,hc,List.all_append,al];simp[ok]
     ·unfold readText;rw[ecs];refine if_neg λz=>?_
      have:=List.all_eq_true.mp z c cm;rw[bad]at this;cases this
   ·rintro ys H3 ⟨rfl,al,s3,h3⟩;rw[bo,pl,TY]at al h3;refine h1 cs ?_ D H3 (s2.trans s3) (s2.free hD) h3;unfold readText;rw[ecs];exact if_pos al
end
end R
namespace R
theorem Cr {α:Type}{b c:α}{r:List α}:atI (b::c::r) 1=some c:=by
 unfold atI ixN;rw[if_pos (by decide),if_pos (by rw[ky,ky];omega)]
 rfl
theorem DX (k a b:Str):inV (.str k) [.str a,.str b]=decide (k=a\/k=b):=by
 have e:∀x y:Str,eqV (.str x) (.str y)=decide (y=x):=λx y=>by
  show (x == y)=_;rw[Ug];simp;exact⟨λh=>h.symm,λh=>h.symm⟩
 unfold inV;simp only[Vc,List.any_nil,e,Bool.or_false];rw[Ug];simp
theorem GB:kn 0≠kn 1/\kn 2≠kn 1/\kn 0≠kn 2:=by trivial
def MD (K:ba)(A:Adr):Sp:=λvs H Q E=>∃(a:Addr) (ws:List Str),vs=[.ref a]/\SqL K H a (ws.map V.str)/\iZ ws /\
 (∀k i th,fh ws=some (k,i,th)->∀t H',aT H H'->H t=none->H' t=some (.tup (edR k i (ki bl1 th)))->Q (.ref t) H')/\(fh ws=none->zw A 1 E H)
def ME (K:ba)(A:Adr):Sp:=λvs H Q E=>∃(a:Addr) (ws:List Str),vs=[.ref a]/\SqL K H a (ws.map V.str)/\iZ ws /\
 (∀k i th,iz ws=some (k,i,th)->∀t H',aT H H'->H t=none->H' t=some (.tup (edR k i (ki bl1 th)))->Q (.ref t) H')/\(iz ws=none->zw A 1 E H)
def Pq (K:ba)(A:Adr):Sp:=λvs H Q E=>∃(a:Addr) (ws:List Str),vs=[.ref a]/\SqL K H a (ws.map V.str)/\iZ ws /\
 (∀n,qc ws=some n->∀H',aT H H'->Q (.int n) H')/\(qc ws=none->zw A 1 E H)
def Cs (K:ba)(A:Adr):Sp:=λvs H Q E=>∃(z:Str),vs=[.str z]/\z.length<=50000/\Asc z /\
 (∀d,bO (Txt.split z bl1)=some d->∀t H',aT H H'->H t=none->cP H H' d t->Q (.ref t) H')/\(bO (Txt.split z bl1)=none->zw A 1 E H)
theorem S0 (a b:V)(r:List V):fR (a::b::r) (some 2) none=r:=by
 rw[show (2:Int)=((2:Nat):Int) from rfl,jn]
 rfl
theorem S1 (a:V)(r:List V):fR (a::r) (some 1) none=r:=by
 rw[show (1:Int)=((1:Nat):Int) from rfl,jn]
 rfl
section
variable{P:km}{w:World}{K:ba}{mg:Str->Option Value}{base:Heap}{A:Adr}
theorem tQ (T:Txt w.params K mg A):FnOk P w K mg base (CXX P w) 5 A.uE A.mJ ["words"] (MD K A):=by
 have hG:FnOk P w K mg base (CXX P w) 3 A.sM A.jx ["holds"] (vb A):=eF T;refine T.oM.okX i8 (λvs H Q E h=>?_) (λcdv A' outer s H vs Q E hr h=>?_)
 ·obtain⟨a,ws,rfl,_⟩:=h;rfl
 ·obtain⟨a,ws,rfl,hS,o,h1,h2⟩:=h;have fH:Room 3 _:=hr.mono (by decide)
  have qk:=hr.units;refine⟨_,(au (bD (bu hG fH rfl T.cT T.cI.kp T.cU (pax (aa (bI MU (bh bt (by rfl) T.eR cQ (aa (pv 0) af)) aj (aH _)) af))))
 (au (psx (aY (i:=1) i8.nd rfl (Tp rfl) (aU a8 (pv 0) aj (λ_ _=>rfl))))
 (au (Bl (i:=2) i8.nd rfl (Tp rfl) (bu (jS T) hr rfl T.e9 T.dU.kp T.fb (pax (aa (aU a8 (pv 0) aj (λ_ _=>rfl)) af))))
 (au (psx (aY (i:=3) i8.nd rfl (Tp rfl) (c9 eI (pv 0) (dM aj) eG)))
 (au (b6 (aQ bx (pv 1) aw (aH _))
 (au (bD (bu hG fH rfl T.cT T.cI.kp T.cU (pax (aa (bI (xu qk) (pv 3) (bX af) (aH _)) af))))
 (aJ (psx (aB (bM (aa aw (aa (pv 2) af)))))))
 (i3 aO))
 (au (bD (bu hG fH rfl T.cT T.cI.kp T.cU (pax (aa (bI um (pv 1) (bM (aa aw (aa aw af))) rfl) af))))
 (aJ (eJ (j5 (bR (px (pv 1)) (bR (px (pv 2)) (bR (bu (jT T) hr rfl T.kY T.hX.kp T.kZ (pax (aa (pv 3) af))) i4)))))))))))),?_⟩
  try dsimp only[br]
  have sz:eg=16777216:=by decide
  have ol:=o.len;refine⟨_,rfl,a,_,rfl,.inl hS,_,_,rfl,rfl,_,rfl,λhb=>?_,λhb=>h2 ?_⟩
  rotate_left
  ·have hb':=of_decide_eq_false hb;rw[bo]at hb'
   match ws,hb' with
   |[],_=>rfl
   |[_],_=>rfl
   |_::_::r,h=>exact absurd (show (2:Int)<=((_::_::r).length:Int) by rw[ky,ky];omega) h
  refine aL λGq gq=>?_
  have hb':=of_decide_eq_true hb;rw[bo]at hb';obtain⟨k,p,th,rfl⟩:∃k p th,ws=k::p::th:=by
   match ws,hb' with
   |[],h=>exact absurd h (by decide)
   |[_],h=>exact absurd h (by simp)
   |k::p::r,_=>exact⟨k,p,r,rfl⟩
  refine gq ?_;refine ixv rfl hS mn ?_;refine⟨_,rfl,a,_,_,.str p,rfl,rfl,hS,Cr,p,rfl,o.wl (by simp),λhn H2 s2=>?_,λhn=>h2 ?_⟩
  rotate_left
  ·show (if cF p=true then _ else none)=none
   rw[hn];rfl
  refine⟨_,rfl,_,rfl,a,_,rfl,s2.seq hS,λtp htp=>?_⟩
  have s3:aT H2 (upd H2 tp (.lst (fR (List.map V.str (k::p::th)) (some 2) none))):=av htp;have e2:fR (List.map V.str (k::p::th)) (some 2) none=th.map V.str:=S0 _ _ _;rw[e2]at s3 ⊢;have oth:iZ th:=o.drop 2;have Tc:=oth.len;have hth:upd H2 tp (.lst (th.map V.str)) tp=some (.lst (th.map V.str)):=ae;generalize upd H2 tp (.lst (th.map V.str))=H3 at s3 hth ⊢;have s13:=s2.trans s3;have rE:fh (k::p::th)=if k=kn 1 then (if th=[] then some (1,iy p,[]) else none) else if (k=kn 0\/k=kn 2)/\th.all cq=true then some (if k=kn 0 then 0 else 2,iy p,th) else none:=by
   show (if cF p=true then _ else none)=_
   rw[if_pos hn]
  refine⟨_,rfl,rfl,_,rfl,eX (λe=>?_) (λe=>?_)⟩
  ·have ek:k=kn 1:=by injection of_decide_eq_true e
   rw[if_pos ek]at rE;refine⟨_,rfl,TM _,λq hq=>?_⟩
   have s4:aT H3 (upd H3 q (.lst [])):=av hq;refine⟨.list (th.map TZ),.list [],pN (s4.seq (SqL.of hth)),?_,vm λw hw=>(oth.asc w hw).ok,by trivial,?_⟩
   ·unfold DV;exact⟨q,[],rfl,SqL.of ae,by unfold DVs;rfl⟩
   ·rw[strs_nil];refine⟨_,rfl,λhb=>?_,λhb=>?_⟩
    ·have ht:=of_decide_eq_true hb;rw[if_pos ht]at rE;refine⟨_,rfl,(by show 2<=eg;decide),λt ht2=>h1 _ _ _ rE t _ ((s13.trans s4).new ht2) ((s13.trans s4).free ht2) ae⟩
    ·rw[if_neg (of_decide_eq_false hb)]at rE;exact(h2 rE).same (s13.trans s4)
  ·have ek:¬k=kn 1:=λz=>e (decide_eq_true (congrArg V.str z))
   rw[if_neg ek]at rE;refine⟨_,rfl,(by show 2<=eg;decide),λq hq=>?_⟩
   have s4:aT H3 (upd H3 q (.tup [.str (ar "put"),.str (ar "turn")])):=av hq;refine⟨q,_,rfl,.inr (SqT.of ae),rfl,rfl,?_⟩;refine⟨_,rfl,λhb=>?_,λhb=>?_⟩
   ·have hb':inV (.str k) [.str (ar "put"),.str (ar "turn")]=true:=hb;rw[DX]at hb';have hk:k=kn 0\/k=kn 2:=of_decide_eq_true hb';refine⟨_,rfl,_,rfl,_,rfl,tp,th,rfl,SqL.of (s4 _ _ hth),oth,λok H5 s5=>?_,λbad=>?_⟩
    ·rw[if_pos ⟨hk,ok⟩]at rE;refine⟨(by show 3<=eg;decide),λt ht=>h1 _ _ _ rE t _ (((s13.trans s4).trans s5).new ht) (((s13.trans s4).trans s5).free ht) ?_⟩
     rw[ae];rcases hk with rfl | rfl
     ·rfl
     ·rw[if_neg (Tr GB.2.2)];rfl
    ·rw[if_neg (λz=>by rw[z.2]at bad;cases bad)]at rE
     exact(h2 rE).same (s13.trans s4)
   ·have hb':inV (.str k) [.str (ar "put"),.str (ar "turn")]=false:=hb;rw[DX]at hb';rw[if_neg (λz=>(of_decide_eq_false hb') z.1)]at rE
    exact(h2 rE).same (s13.trans s4)
theorem Ct (T:Txt w.params K mg A):FnOk P w K mg base (CXX P w) 6 A.uF A.mK ["words"] (ME K A):=by
 refine T.vK.okX sI (λvs H Q E h=>?_) (λcdv A' outer s H vs Q E hr h=>?_)
 ·obtain⟨a,ws,rfl,_⟩:=h;rfl
 ·obtain⟨a,ws,rfl,hS,o,h1,h2⟩:=h;refine⟨_,(au (Bl (i:=1) sI.nd rfl (Tp rfl) (bu (tQ T) hr rfl T.vI T.oM.kp T.vJ (pax (aa (pv 0) af))))
 (au (bD (bu (eF T) (hr.mono (by decide)) rfl T.cT T.cI.kp T.cU (pax (aa (IA (bI bx (aU bq (pv 1) aj (λ_ _=>rfl)) aw (aH _)) (gI (bI bx (bh bt (by rfl) T.eR cQ (aa (pv 0) af)) aj (aH _)))) af))))
 (aJ (psx (aB (pv 1)))))),?_⟩
  try dsimp only[br]
  refine⟨_,rfl,a,ws,rfl,hS,o,λk i th re t H2 s2 nt ht=>?_,λhn=>h2 (by unfold iz;rw[hn];rfl)⟩
  have rm:iz ws=if k=1\/ws.length=3 then some (k,i,th) else none:=by unfold iz;rw[re];rfl
  refine ixv rfl (SqT.of ht) (Cg k i _) ⟨rfl,_,rfl,?_⟩;have kk:(V.str (kn k)=V.str (ar "cut"))↔k=1:=by
   refine uV ?_
   match ws,re with
   |x::p::r,re =>
    by_cases hp:cF p=true
    ·have re':=re;simp only[fh,if_pos hp]at re';split at re'
     ·split at re'
      ·simp at re';omega
      ·cases re'
     ·split at re'
      ·simp only[Option.some.injEq,Vo]at re';rw[<-re'.1];split <;> simp
      ·cases re'
    ·simp only[fh,if_neg hp]at re;cases re
  by_cases hk:k=1
  ·rw[decide_eq_true (kk.mpr hk)];refine dN ⟨true,rfl,λ_=>?_,λz=>nomatch z⟩
   rw[if_pos (.inl hk)]at rm;exact⟨_,rfl,h1 _ _ _ rm t H2 s2 nt ht⟩
  ·rw[decide_eq_false λz=>hk (kk.mp z)]
   refine df ⟨_,rfl,a,_,rfl,.inl (s2.seq hS),rfl,_,rfl,λhb=>?_,λhb=>?_⟩
   ·have hl:ws.length=3:=by
     have:=of_decide_eq_true hb;rw[bo]at this;injection this with this
     omega
    rw[if_pos (.inr hl)]at rm;exact⟨_,rfl,h1 _ _ _ rm t H2 s2 nt ht⟩
   ·have hl:¬ws.length=3:=λz=>by
     refine of_decide_eq_false hb ?_;rw[bo,z];rfl
    rw[if_neg (by rintro (z | z);exact hk z;exact hl z)]at rm
    exact(h2 rm).same s2
theorem wU (T:Txt w.params K mg A):FnOk P w K mg base (CXX P w) 5 A.mL A.iE ["words"] (Pq K A):=by
 refine T.oN.okX nB (λvs H Q E h=>?_) (λcdv A' outer s H vs Q E hr h=>?_)
 ·obtain⟨a,ws,rfl,_⟩:=h;rfl
 ·obtain⟨a,ws,rfl,hS,o,h1,h2⟩:=h;refine⟨_,(au (bD (bu (eF T) (hr.mono (by decide)) rfl T.cT T.cI.kp T.cU (pax (aa (iA (bI bx (bh bt (by rfl) T.eR cQ (aa (pv 0) af)) aj (aH _)) (gI (bI bx (aU a8 (pv 0) aj (λ_ _=>rfl)) aw (aH _)))) af))))
 (au (Bl (i:=1) nB.nd rfl (Tp rfl) (bu (jS T) hr rfl T.e9 T.dU.kp T.fb (pax (aa (aU a8 (pv 0) aj (λ_ _=>rfl)) af))))
 (au (bD (bu (eF T) (hr.mono (by decide)) rfl T.cT T.cI.kp T.cU (pax (aa (rR vg vg aj (pv 1) (hJ (v:=V.int 999999999) rfl T.yA ⟨_,rfl⟩)) af))))
 (aJ (psx (aB (pv 1))))))),?_⟩
  try dsimp only[br]
  refine⟨_,rfl,a,_,rfl,.inl hS,rfl,_,rfl,?_⟩;rw[bo]
  by_cases hl:ws.length=2
  ·obtain⟨x,n,rfl⟩:∃x n,ws=[x,n]:=by
    match ws,hl with
    |[x,n],_=>exact⟨x,n,rfl⟩
   refine dN ⟨_,rfl,a,_,_,.str x,rfl,rfl,hS,mn,rfl,_,rfl,λhb=>?_,λhb=>?_⟩
   ·have hx:x=ar "off":=by injection of_decide_eq_true hb
    refine⟨_,rfl,a,_,_,.str n,rfl,rfl,hS,Cr,n,rfl,o.wl (by simp),λhn H2 s2=>?_,λhn=>h2 ?_⟩
    ·refine⟨_,rfl,_,_,rfl,rfl,_,rfl,?_⟩
     by_cases b1:1<=iy n
     ·rw[decide_eq_true b1];refine dN ⟨_,_,rfl,rfl,_,rfl,λb2=>?_,λb2=>?_⟩
      ·exact⟨_,rfl,h1 _ (if_pos ⟨hx,hn,b1,of_decide_eq_true b2⟩) H2 s2⟩
      ·exact(h2 (if_neg λz=>of_decide_eq_false b2 z.2.2.2)).same s2
     ·rw[decide_eq_false b1];exact df ⟨false,rfl,(λz=>nomatch z),λ_=>(h2 (if_neg λz=>b1 z.2.2.1)).same s2⟩
    ·exact if_neg λz=>by rw[z.2.1]at hn;cases hn
   ·exact h2 (if_neg λz=>of_decide_eq_false hb (congrArg V.str z.1))
  ·rw[decide_eq_false (show ¬V.int (ws.length:Int)=V.int 2 from λz=>hl (by injection z with z;omega))]
   refine df ⟨false,rfl,(λz=>nomatch z),λ_=>h2 ?_⟩
   match ws,hl with
   |[],_=>rfl
   |[_],_=>rfl
   |[_,_],h=>exact absurd rfl h
   |_::_::_::_,_=>rfl
end
theorem DY (c:Nat):∀ws:List Str,ws≠[]->(ws.map (·.length)).sum+ws.length=(ki ⟨#[c]⟩ ws).length+1
 |[],h=>absurd rfl h
 |[x],_=>by show _=x.length+1;simp
 |x::y::r,_=>by
  have ih:=DY c (y::r) (TK _ _);have e:(ki ⟨#[c]⟩ (x::y::r)).length=x.length+1+(ki ⟨#[c]⟩ (y::r)).length:=by
   have:=congrArg U5 (ef c x y r);rw[gr,ky,m5,m5,m5]at this;omega
  simp only[ko,List.sum_cons,ky]at ih ⊢;omega
theorem A2 (c:Nat):∀ws:List Str,Asc (ki ⟨#[c]⟩ ws)->∀w∈ws,Asc w
 |[],_,_,h=>nomatch h
 |[x],h,w,hw=>by rw[List.mem_singleton.mp hw];exact h
 |x::y::r,h,w,hw=>by
  have e:=ef c x y r;rcases List.mem_cons.mp hw with rfl | hw
  ·exactλd hd=>h d (by rw[e];exact TL _ hd)
  ·exact A2 c (y::r) (λd hd=>h d (by rw[e];exact gn _ (kf _ hd))) w hw
theorem Pr {z:Str}(h:z.length<=50000)(ha:Asc z):iZ (Txt.split z bl1):=by
 have e:ki ⟨#[32]⟩ (Txt.split z ⟨#[32]⟩)=z:=StrLaws.join_split _ _;rw[gY];have s:=DY 32 _ (xx z ⟨#[32]⟩);rw[e]at s;exact⟨by omega,A2 32 _ (by rw[e];exact ha)⟩
theorem DZ (k:Str):inV (.str k) [.str (ar "close"),.str (ar "lay"),.str (ar "rest"),.str (ar "drop")]=decide (k∈Ia):=by
 have e:∀x y:Str,eqV (.str x) (.str y)=decide (y=x):=λx y=>by
  show (x == y)=_;rw[Ug];simp;exact⟨λh=>h.symm,λh=>h.symm⟩
 unfold inV;simp only[Vc,List.any_nil,e,Bool.or_false];rw[Ug];simp[Ia]
theorem rM {a b:Str}(h:¬decide (V.str a=V.str b)=true):¬a=b:=λz=>h (decide_eq_true (congrArg V.str z))
theorem rN {a b:Str}(h:decide (V.str a=V.str b)=true):a=b:=by injection of_decide_eq_true h
section
variable{P:km}{w:World}{K:ba}{mg:Str->Option Value}{base:Heap}{A:Adr}
theorem tS (T:Txt w.params K mg A):FnOk P w K mg base (CXX P w) 7 A.lP A.gi ["row"] (Cs K A):=by
 have hG:FnOk P w K mg base (CXX P w) 3 A.sM A.jx ["holds"] (vb A):=eF T;have lq:FnOk P w K mg base (CXX P w) 4 A.j9 A.gh ["word"] (KS A):=jS T;refine T.oO.okX i9 (λvs H Q E h=>?_) (λcdv A' outer s H vs Q E hr h=>?_)
 ·obtain⟨z,rfl,_⟩:=h;rfl
 ·obtain⟨z,rfl,zl,za,h1,h2⟩:=h;have fH:Room 3 _:=hr.mono (by decide)
  have jU:Room 4 _:=hr.mono (by decide)
  have qk:=hr.units;refine⟨_,(au (psx (aY (i:=1) i9.nd rfl (Tp rfl) (fV PySem.F.plainAttrs_str PySem.F.slot_str_split PySem.F.type_str_split CK (pv 0) (aa aw af))))
 (au (psx (aY (i:=2) i9.nd rfl (Tp rfl) (aU a8 (pv 1) aj (λ_ _=>rfl))))
 (au (psx (aY (i:=3) i9.nd rfl (Tp rfl) (c9 eI (pv 1) (dM aj) eG)))
 (au (b6 (aQ bx (pv 2) aw (aH _))
 (aJ (eJ (j5 (bR (px aw) (bR (bu (Cq T) (hr.mono (by decide)) rfl T.Dj T.vH.kp T.Dk (pax (aa (pv 3) af))) i4)))))
 (i3 aO))
 (au (b6 (aQ bx (pv 2) aw (aH _))
 (aJ (eJ (j5 (bR (px aw) (bR (bu (tQ T) (hr.mono (by decide)) rfl T.vI T.oM.kp T.vJ (pax (aa (pv 3) af))) i4)))))
 (i3 aO))
 (au (b6 (aQ bx (pv 2) aw (aH _))
 (aJ (eJ (j5 (bR (px aw) (bR (bu (Ct T) hr rfl T.Dl T.vK.kp T.Dm (pax (aa (pv 3) af))) i4)))))
 (i3 aO))
 (au (b6 (aQ bx (pv 2) aw (aH _))
 (aJ (eJ (j5 (bR (px aw) (bR (bu (wU T) (hr.mono (by decide)) rfl T.yl T.oN.kp T.ym (pax (aa (pv 3) af))) i4)))))
 (i3 aO))
 (au (b6 (aQ bx (pv 2) aw (aH _))
 (aJ (eJ (j5 (bR (px aw) (bR (bu (jT T) (hr.mono (by decide)) rfl T.kY T.hX.kp T.kZ (pax (aa (pv 3) af))) i4)))))
 (i3 aO))
 (au (b6 (aQ bx (pv 2) aw (aH _))
 (au (bD (bu hG fH rfl T.cT T.cI.kp T.cU (pax (aa (bI bx (bh bt (by rfl) T.eR cQ (aa (pv 3) af)) aj (aH _)) af))))
 (aJ (eJ (j5 (bR (px aw) (bR (bu lq jU rfl T.e9 T.dU.kp T.fb (pax (aa (aU a8 (pv 3) aj (λ_ _=>rfl)) af))) (bR (bu lq jU rfl T.e9 T.dU.kp T.fb (pax (aa (aU a8 (pv 3) aj (λ_ _=>rfl)) af))) i4)))))))
 (i3 aO))
 (au (b6 (aQ bx (pv 2) aw (aH _))
 (au (bD (bu hG fH rfl T.cT T.cI.kp T.cU (pax (aa (bI bx (bh bt (by rfl) T.eR cQ (aa (pv 3) af)) aj (aH _)) af))))
 (aJ (eJ (j5 (bR (px aw) (bR (bu lq jU rfl T.e9 T.dU.kp T.fb (pax (aa (aU a8 (pv 3) aj (λ_ _=>rfl)) af))) i4))))))
 (i3 aO))
 (au (bD (bu hG fH rfl T.cT T.cI.kp T.cU (pax (aa (iA (bI um (pv 2) (hJ (v:=V.ref A.BV) rfl T.OH rfl) rfl) (gI (bI (xu qk) (pv 3) (bX af) (aH _)))) af))))
 (aJ (psx (aB (bM (aa (pv 2) af)))))))))))))))),?_⟩
  try dsimp only[br]
  have sz:eg=16777216:=by decide
  refine⟨_,rfl,rfl,z,bl1,rfl,rfl,by rw[gY];rfl,by omega,λW hW=>?_⟩
  have o:=Pr zl za;have hsp:=xx z bl1;generalize Txt.split z bl1=sp at o hsp h1 h2 ⊢;refine aL λGq gq=>?_
  obtain⟨k,ws,rfl⟩:∃k ws,sp=k::ws:=by
   cases sp with
   |nil=>exact absurd rfl hsp
   |cons k ws=>exact⟨k,ws,rfl⟩
  have hWl:upd H W (.lst ((k::ws).map V.str)) W=some (.lst ((k::ws).map V.str)):=ae;have s1:aT H (upd H W (.lst ((k::ws).map V.str))):=av hW;refine gq ?_;generalize upd H W (.lst ((k::ws).map V.str))=H1 at hWl s1 ⊢;refine⟨_,rfl,W,_,_,.str k,rfl,rfl,SqL.of hWl,mn,?_⟩;refine⟨_,rfl,_,rfl,W,_,rfl,SqL.of hWl,λB hB=>?_⟩
  have e1:fR (List.map V.str (k::ws)) (some 1) none=ws.map V.str:=S1 _ _;rw[e1];have s2:aT H1 (upd H1 B (.lst (ws.map V.str))):=av hB;have hBl:upd H1 B (.lst (ws.map V.str)) B=some (.lst (ws.map V.str)):=ae;generalize upd H1 B (.lst (ws.map V.str))=H2 at s2 hBl ⊢;have s12:=s1.trans s2;have hB':SqL K H2 B (ws.map V.str):=SqL.of hBl;have ow:iZ ws:=o.drop 1;have owl:=ow.len;have R:bO (k::ws)=_:=rfl;refine⟨_,rfl,rfl,_,rfl,eX (λe=>?_) (λe=>?_)⟩
  ·have R':bO (k::ws)=(readText ws).map .mat:=by rw[bO,if_pos (rN e)]
   refine⟨_,rfl,B,ws,rfl,hB',ow,λcs ec L H3 s3 nL hL=>⟨(by show 2<=eg;decide),λt ht=>?_⟩,λen=>(h2 (by rw[R',en];rfl)).same s12⟩
   have nLt:L≠t:=aG hL ht;exact h1 (.mat cs) (by rw[R',ec];rfl) t _ ((s12.trans s3).new ht) (s12.free (s3.free ht)) ⟨L,ae,s12.free nL,(ao nLt).trans hL⟩
  have n1:=rM e;refine⟨_,rfl,rfl,_,rfl,eX (λe=>?_) (λe=>?_)⟩
  ·have R':bO (k::ws)=(fh ws).map λe=>.ed false e.1 e.2.1 e.2.2:=by rw[bO,if_neg n1,if_pos (rN e)]
   refine⟨_,rfl,B,ws,rfl,hB',ow,λkk i th ec ta H3 s3 nta hta=>⟨(by show 2<=eg;decide),λt ht=>?_⟩,λen=>(h2 (by rw[R',en];rfl)).same s12⟩
   have nLt:ta≠t:=aG hta ht;exact h1 (.ed false kk i th) (by rw[R',ec];rfl) t _ ((s12.trans s3).new ht) (s12.free (s3.free ht)) ⟨ta,ae,s12.free nta,(ao nLt).trans hta⟩
  have n2:=rM e;refine⟨_,rfl,rfl,_,rfl,eX (λe=>?_) (λe=>?_)⟩
  ·have R':bO (k::ws)=(iz ws).map λe=>.ed true e.1 e.2.1 e.2.2:=by rw[bO,if_neg n1,if_neg n2,if_pos (rN e)]
   refine⟨_,rfl,B,ws,rfl,hB',ow,λkk i th ec ta H3 s3 nta hta=>⟨(by show 2<=eg;decide),λt ht=>?_⟩,λen=>(h2 (by rw[R',en];rfl)).same s12⟩
   have nLt:ta≠t:=aG hta ht;exact h1 (.ed true kk i th) (by rw[R',ec];rfl) t _ ((s12.trans s3).new ht) (s12.free (s3.free ht)) ⟨ta,ae,s12.free nta,(ao nLt).trans hta⟩
  have n3:=rM e;refine⟨_,rfl,rfl,_,rfl,eX (λe=>?_) (λe=>?_)⟩
  ·have R':bO (k::ws)=(qc ws).map λn=>.nums (ar "put off") [n]:=by rw[bO,if_neg n1,if_neg n2,if_neg n3,if_pos (rN e)]
   refine⟨_,rfl,B,ws,rfl,hB',ow,λn ec H3 s3=>⟨(by show 2<=eg;decide),λt ht=>?_⟩,λen=>(h2 (by rw[R',en];rfl)).same s12⟩
   exact h1 (.nums (ar "put off") [n]) (by rw[R',ec];rfl) t _ ((s12.trans s3).new ht) (s12.free (s3.free ht)) ae
  have n4:=rM e;refine⟨_,rfl,rfl,_,rfl,eX (λe=>?_) (λe=>?_)⟩
  ·have R':bO (k::ws)=if ws.all cq=true then some (.pt ws) else none:=by rw[bO,if_neg n1,if_neg n2,if_neg n3,if_neg n4,if_pos (rN e)]
   refine⟨_,rfl,B,ws,rfl,hB',ow,λok H3 s3=>⟨(by show 2<=eg;decide),λt ht=>?_⟩,λen=>(h2 (by rw[R',en];rfl)).same s12⟩
   exact h1 (.pt ws) (by rw[R',if_pos ok]) t _ ((s12.trans s3).new ht) (s12.free (s3.free ht)) ae
  have n5:=rM e;refine⟨_,rfl,rfl,_,rfl,eX (λe=>?_) (λe=>?_)⟩
  ·have R':bO (k::ws)=tO ws:=by rw[bO,if_neg n1,if_neg n2,if_neg n3,if_neg n4,if_neg n5,if_pos (rN e)]
   refine⟨_,rfl,B,_,rfl,.inl hB',rfl,_,rfl,?_⟩;rw[bo]
   by_cases hl:ws.length=2
   ·obtain⟨a,b,rfl⟩:∃x n,ws=[x,n]:=by
     match ws,hl with
     |[x,n],_=>exact⟨x,n,rfl⟩
    refine⟨λ_=>?_,λz=>nomatch z⟩
    have R2:bO [k,a,b]=if cF a=true/\cF b=true then some (.nums (ar "vote") [iy a,iy b]) else none:=R'
    refine⟨_,rfl,B,_,_,.str a,rfl,rfl,hB',mn,a,rfl,ow.wl (by simp),λha H3 s3=>?_,λha=>(h2 (by rw[R2,if_neg (λz=>by rw[z.1]at ha;cases ha)])).same s12⟩
    refine⟨_,rfl,B,_,_,.str b,rfl,rfl,s3.seq hB',Cr,b,rfl,ow.wl (by simp),λhb H4 s4=>?_,λhb=>(h2 (by rw[R2,if_neg (λz=>by rw[z.2]at hb;cases hb)])).same (s12.trans s3)⟩
    refine⟨(by show 3<=eg;decide),λt ht=>?_⟩
    exact h1 (.nums (ar "vote") [iy a,iy b]) (by rw[R2,if_pos ⟨ha,hb⟩]) t _ (((s12.trans s3).trans s4).new ht) (s12.free (s3.free (s4.free ht))) ae
   ·rw[decide_eq_false (show ¬V.int (ws.length:Int)=V.int 2 from λz=>hl (by injection z with z;omega))]
    refine⟨(λz=>nomatch z),λ_=>(h2 ?_).same s12⟩
    rw[R']
    match ws,hl with
    |[],_=>rfl
    |[_],_=>rfl
    |[_,_],h=>exact absurd rfl h
    |_::_::_::_,_=>rfl
  have n6:=rM e;refine⟨_,rfl,rfl,_,rfl,eX (λe=>?_) (λe=>?_)⟩
  ·have R':bO (k::ws)=tP ws:=by rw[bO,if_neg n1,if_neg n2,if_neg n3,if_neg n4,if_neg n5,if_neg n6,if_pos (rN e)]
   refine⟨_,rfl,B,_,rfl,.inl hB',rfl,_,rfl,?_⟩;rw[bo]
   by_cases hl:ws.length=1
   ·obtain⟨a,rfl⟩:=List.length_eq_one_iff.mp hl;refine⟨λ_=>?_,λz=>nomatch z⟩
    have R2:bO [k,a]=if cF a=true then some (.nums (ar "take") [iy a]) else none:=R'
    refine⟨_,rfl,B,_,_,.str a,rfl,rfl,hB',mn,a,rfl,ow.wl (by simp),λha H3 s3=>?_,λha=>(h2 (by rw[R2,if_neg (λz=>by rw[z]at ha;cases ha)])).same s12⟩
    refine⟨(by show 2<=eg;decide),λt ht=>?_⟩
    exact h1 (.nums (ar "take") [iy a]) (by rw[R2,if_pos ha]) t _ ((s12.trans s3).new ht) (s12.free (s3.free ht)) ae
   ·rw[decide_eq_false (show ¬V.int (ws.length:Int)=V.int 1 from λz=>hl (by injection z with z;omega))]
    refine⟨(λz=>nomatch z),λ_=>(h2 ?_).same s12⟩
    rw[R']
    match ws,hl with
    |[],_=>rfl
    |[_],h=>exact absurd rfl h
    |_::_::_,_=>rfl
  have n7:=rM e;have R':bO (k::ws)=if k∈Ia/\ws=[] then some (.nums k []) else none:=by rw[bO,if_neg n1,if_neg n2,if_neg n3,if_neg n4,if_neg n5,if_neg n6,if_neg n7]
  refine⟨_,rfl,A.BV,_,rfl,.inr (T.OI _),rfl,rfl,_,rfl,?_⟩
  by_cases hk:k∈Ia
  ·have hi:inV (.str k) [.str (ar "close"),.str (ar "lay"),.str (ar "rest"),.str (ar "drop")]=true:=by rw[DZ];exact decide_eq_true hk
   refine xA (show (if false=true then _ else inV (.str k) _)=true from hi) ?_
   refine⟨_,rfl,TM _,λq hq=>?_⟩
   have s4:aT H2 (upd H2 q (.lst [])):=av hq;refine⟨.list (ws.map TZ),.list [],pN (s4.seq hB'),?_,vm λw hw=>(ow.asc w hw).ok,by trivial,?_⟩
   ·unfold DV;exact⟨q,[],rfl,SqL.of ae,by unfold DVs;rfl⟩
   ·rw[strs_nil];refine⟨_,rfl,λhb=>?_,λhb=>?_⟩
    ·have hw:=of_decide_eq_true hb;refine⟨_,rfl,(by show 1<=eg;decide),λt ht=>?_⟩
     exact h1 (.nums k []) (by rw[R',if_pos ⟨hk,hw⟩]) t _ ((s12.trans s4).new ht) (s12.free (s4.free ht)) ae
    ·exact(h2 (by rw[R',if_neg (λz=>of_decide_eq_false hb z.2)])).same (s12.trans s4)
  ·have hi:inV (.str k) [.str (ar "close"),.str (ar "lay"),.str (ar "rest"),.str (ar "drop")]=false:=by rw[DZ];exact decide_eq_false hk
   refine Aq (show (if false=true then _ else inV (.str k) _)=false from hi) ?_
   exact⟨false,rfl,(λz=>nomatch z),λ_=>(h2 (by rw[R',if_neg (λz=>hk z.1)])).same s12⟩
end
end R
namespace R
def GC:bp->Prop
 | .nums kd ns=>kd=ar "put off"->∀i∈ns,1<=i/\i<=999999999
 |_=>True
theorem Pt {x:Str}(h:m3 x):cq x=true:=by
 unfold cq;rw[decide_eq_true h.l1,decide_eq_true h.l2,decide_eq_false h.ns];refine List.all_eq_true.mpr λc hc=>?_
 obtain⟨a,b,d⟩:=h.sgn c hc;unfold kK;rw[decide_eq_true a,decide_eq_true b,decide_eq_true d];rfl
theorem w9 {ws:List Str}(h:∀w∈ws,m3 w):ws.all cq=true:=List.all_eq_true.mpr λw hw=>Pt (h w hw)
theorem D0:∀m:Nat,0 < m->∃c r,Nat.toDigits 10 m=c::r/\c≠'0':=by
 intro m
 induction m using Nat.strongRecOn with
 |_ m ih =>
  intro hm
  by_cases h:m < 10
  ·rw[Nat.toDigits_of_lt_base h];refine⟨_,_,rfl,?_⟩;have:∀d:Nat,d < 10->0 < d->Nat.digitChar d≠'0':=by decide
   exact this m h hm
  ·have hm2:m % 10 < 10:=Nat.mod_lt m (by decide)
   have t:Nat.toDigits 10 (m / 10)++Nat.toDigits 10 (m % 10)=Nat.toDigits 10 (10 * (m / 10)+m % 10):=Nat.toDigits_append_toDigits (by decide) (by omega) hm2
   rw[Nat.div_add_mod]at t;obtain⟨c,r,e,n⟩:=ih (m / 10) (by omega) (by omega)
   exact⟨c,r++Nat.toDigits 10 (m % 10),by rw[<-t,e];rfl,n⟩
theorem zx {i:Int}(h0:0<=i)(h1:i < 10 ^ 10):cF (num i)=true/\iy (num i)=i:=by
 have rd:=PySem.W.KIN.num_reads h0 h1;have hl:=Cd h0 h1;obtain⟨m,rfl⟩:=Int.eq_ofNat_of_zero_le h0;have sg:=PySem.W.KIN.signs_num m;have hd:∀c∈(num ((m:Nat):Int)).cps.toList,ll c=true:=λc hc=>by
  have hc':c∈(Nat.toDigits 10 m).map Char.toNat:=by rw[<-sg];exact hc
  obtain⟨ch,hch,e⟩:=List.mem_map.mp hc';have r:=PyProof.Rows.digit_range (Nat.isDigit_of_mem_toDigits (by decide) (by decide) hch)
  rw[<-e];unfold ll;rw[decide_eq_true r.1,decide_eq_true r.2];rfl
 have hne:num ((m:Nat):Int)≠em:=λe=>by
  have e2:(num ((m:Nat):Int)).cps.toList=em.cps.toList:=congrArg (λz:Str=>z.cps.toList) e
  rw[show (num ((m:Nat):Int)).cps.toList=_ from sg,DI]at e2
  by_cases hm:0 < m
  ·obtain⟨c,r,e3,_⟩:=D0 m hm;rw[e3]at e2;cases e2
  ·obtain rfl:m=0:=by omega
   revert e2;decide
 refine⟨?_,by unfold iy;rw[show PySem.intText? (num ((m:Nat):Int))=_ from rd];rfl⟩
 unfold cF;rw[decide_eq_true hne,decide_eq_true hl,List.all_eq_true.mpr hd]
 by_cases hm:0 < m
 ·obtain⟨c,r,e3,n⟩:=D0 m hm;have:¬(num ((m:Nat):Int)).cps.toList.head?=some 48:=λz=>by
   rw[show (num ((m:Nat):Int)).cps.toList=_ from sg,e3]at z
   have z':c.toNat=48:=by simpa using z
   exact n (Char.ext (UInt32.toNat_inj.mp z'))
  rw[decide_eq_false this];simp
 ·obtain rfl:m=0:=by omega
  have:num ((0:Nat):Int)=ar "0":=by trivial
  rw[decide_eq_true this];simp
def norm:bp->bp
 | .ed m k i ws=>.ed m k i (if k=1 then [] else ws)
 |d=>d
theorem KU (k:Nat)(i:Int)(ws:List Str):edR k i (ki bl1 (if k=1 then [] else ws))=edR k i (ki bl1 ws):=by
 unfold edR;split
 ·rfl
 ·rfl
theorem cP.norm {H H':Hp}{d:bp}{t:Addr}(h:cP H H' (norm d) t):cP H H' d t:=by
 cases d with
 |ed m k i ws =>
  obtain⟨e,a,n,b⟩:=h;exact⟨e,a,n,by rw[KU]at b;exact b⟩
 |_=>exact h
def Cu:bp->List Str
 | .nums kd ns=>if kd=ar "put off" then ar "put"::ar "off"::ns.map num else kd::ns.map num
 |d=>gz d::dP d
theorem Fy (d:bp):dq d=ki bl1 (Cu d):=by
 cases d with
 |nums kd ns =>
  show ki bl1 (kd::ns.map num)=ki bl1 (if kd=ar "put off" then _ else _)
  split
  ·rename_i h;rw[h];have e:ar "put off"=ki bl1 [ar "put",ar "off"]:=by trivial
   rw[e];exact join_join bl1 [ar "put",ar "off"] (ns.map num) (TK _ _)
  ·rfl
 |_=>rfl
theorem D1 {i:Int}(h0:0<=i)(h1:i < 10 ^ 10):32∉(num i).cps.toList:=λz=>by
 have:=(zx h0 h1).1;simp only[cF,TH]at this;have:=List.all_eq_true.mp this.2.2.1 32 z;revert this;decide
theorem D2 {d:bp}(o:DOk d):∀w∈Cu d,32∉w.cps.toList:=by
 have lit:∀x∈([ar "matter",sl1,ar "mend",ar "change",kn 0,kn 1,kn 2,ar "point",ar "put",ar "off",ar "vote",ar "take",ar "close",ar "lay",ar "rest",ar "drop"]:List Str),32∉x.cps.toList:=by trivial
 cases d with
 |mat cs =>
  intro w hw;have hw':w∈ar "matter"::cs.flatMap (λws=>sl1::ws):=hw
  rcases List.mem_cons.mp hw' with rfl | hw'
  ·exact lit _ (by simp)
  ·obtain⟨ws,h1,h2⟩:=List.mem_flatMap.mp hw';rcases List.mem_cons.mp h2 with rfl | h2
   ·exact lit _ (by simp)
   ·exact((o.2 ws h1).wd w h2).free
 |ed m k i ws =>
  obtain⟨o1,⟨i0,i1⟩,o3,_⟩:=o;intro w hw;have hw':w∈kEd m::kn k::num i::(if k=1 then [] else ws):=hw
  rcases List.mem_cons.mp hw' with rfl | hw'
  ·cases m <;> exact lit _ (by simp[kEd])
  rcases List.mem_cons.mp hw' with rfl | hw'
  ·rcases o1 with rfl | rfl | rfl <;> exact lit _ (by simp)
  rcases List.mem_cons.mp hw' with rfl | hw'
  ·exact D1 i0 i1
  split at hw'
  ·cases hw'
  ·exact(o3.wd w hw').free
 |pt ws =>
  intro w hw;have hw':w∈ar "point"::ws:=hw;rcases List.mem_cons.mp hw' with rfl | hw'
  ·exact lit _ (by simp)
  ·exact(o.wd w hw').free
 |nums kd ns =>
  obtain⟨o1,o2⟩:=o;intro w hw;have nf:∀w∈ns.map num,32∉w.cps.toList:=λw hw=>by
   obtain⟨i,hi,rfl⟩:=List.mem_map.mp hw;exact D1 (o2 i hi).1 (o2 i hi).2
  have hw':w∈(if kd=ar "put off" then ar "put"::ar "off"::ns.map num else kd::ns.map num):=hw
  split at hw'
  ·rcases List.mem_cons.mp hw' with rfl | hw'
   ·exact lit _ (by simp)
   rcases List.mem_cons.mp hw' with rfl | hw'
   ·exact lit _ (by simp)
   ·exact nf w hw'
  ·rename_i hk;rcases List.mem_cons.mp hw' with rfl | hw'
   ·simp only[cC,Uz,Ui,or_false,Vo]at o1;rcases o1 with ⟨rfl,_⟩ | ⟨rfl,_⟩ | ⟨rfl,_⟩ | ⟨rfl,_⟩ | ⟨rfl,_⟩ | ⟨rfl,_⟩ | ⟨rfl,_⟩
    ·exact absurd rfl hk
    all_goals exact lit _ (by simp)
   ·exact nf w hw'
theorem A3 {d:bp}(o:DOk d):Txt.split (dq d) bl1=Cu d:=by
 rw[Fy,gY];refine xy ?_ (D2 o);cases d with
 |nums kd ns =>
  show (if kd=ar "put off" then _ else _)≠[]
  split <;> exact TK _ _
 |_=>exact TK _ _
theorem qP:∀(ws:List Str) (acc:List (List Str)) (c rest:List Str),(∀w∈ws,w≠sl1)->True->∀tl:List Str,clausesOf (acc++[c]) (ws++tl)=clausesOf (acc++[c++ws]) tl
 |[],acc,c,_,_,_,tl=>by simp
 |w::ws,acc,c,r,h,_,tl=>by
  show clausesOf (acc++[c]) (w::(ws++tl))=_;rw[clausesOf,if_neg (h w gc),if_neg (by simp)]
  have e1:(acc++[c]).dropLast=acc:=by simp
  have e2:(acc++[c]).getLastD []=c:=by simp
  rw[e1,e2,qP ws acc (c++[w]) r (λx hx=>h x (kf _ hx)) trivial tl]
  simp
theorem tU:∀(cs acc:List (List Str)),(∀ws∈cs,∀w∈ws,w≠sl1)->clausesOf acc (cs.flatMap λws=>sl1::ws)=some (acc++cs)
 |[],acc,_=>by simp[clausesOf]
 |ws::cs,acc,h=>by
  rw[List.flatMap_cons];show clausesOf acc (sl1::(ws++cs.flatMap λws=>sl1::ws))=_
  rw[clausesOf,if_pos rfl,qP ws acc [] [] (h ws gc) trivial,tU cs _ λx hx=>h x (kf _ hx)]
  simp
theorem Ic {kd:Str}(h:kd∈Ia)(r:¬kd=ar "matter"/\¬kd=ar "change"/\¬kd=ar "mend"/\¬kd=ar "put"/\¬kd=ar "point")
  (r2:¬kd=ar "vote"/\¬kd=ar "take"):bO [kd]=some (.nums kd []):=by
 rw[bO,if_neg r.1,if_neg r.2.1,if_neg r.2.2.1,if_neg r.2.2.2.1,if_neg r.2.2.2.2,if_neg r2.1,if_neg r2.2,if_pos ⟨h,rfl⟩]
theorem Ie {d:bp}(o:DOk d)(so:GC d):bO (Cu d)=some (norm d):=by
 have k1:¬ar "change"=ar "matter":=by trivial
 have k2:¬ar "mend"=ar "matter"/\¬ar "mend"=ar "change":=by trivial
 have k3:¬ar "put"=ar "matter"/\¬ar "put"=ar "change"/\¬ar "put"=ar "mend":=by trivial
 have k4:¬ar "point"=ar "matter"/\¬ar "point"=ar "change"/\¬ar "point"=ar "mend"/\¬ar "point"=ar "put":=by trivial
 have rest:∀kd∈([ar "vote",ar "take",ar "close",ar "lay",ar "rest",ar "drop"]:List Str),¬kd=ar "matter"/\¬kd=ar "change"/\¬kd=ar "mend"/\¬kd=ar "put"/\¬kd=ar "point":=by trivial
 cases d with
 |mat cs =>
  show bO (ar "matter"::cs.flatMap λws=>sl1::ws)=some (.mat cs)
  rw[bO,if_pos rfl];unfold readText;rw[tU cs [] λws hw w h=>((o.2 ws hw).wd w h).ns,UI,if_pos]
  ·rfl
  ·exact List.all_eq_true.mpr λc hc=>w9 (o.2 c (by simpa using hc)).wd
 |ed m k i ws =>
  obtain⟨o1,⟨i0,i1⟩,o3,o4⟩:=o;obtain⟨n1,n2⟩:=zx i0 i1;have re:fh (kn k::num i::(if k=1 then [] else ws))=some (k,i,if k=1 then [] else ws):=by
   rw[fh,if_pos n1,n2];rcases o1 with rfl | rfl | rfl
   ·rw[if_neg GB.1,if_neg (show ¬(0=1) by decide),if_pos (show (kn 0=kn 0\/kn 0=kn 2)/\ws.all cq=true from ⟨.inl rfl,w9 o3.wd⟩),if_pos rfl]
   ·rw[if_pos rfl];rfl
   ·rw[if_neg GB.2.1,if_neg (show ¬(2=1) by decide),if_pos (show (kn 2=kn 0\/kn 2=kn 2)/\ws.all cq=true from ⟨.inr rfl,w9 o3.wd⟩),if_neg (Tr GB.2.2)]
  show bO (kEd m::kn k::num i::(if k=1 then [] else ws))=some (.ed m k i (if k=1 then [] else ws))
  cases m with
  |false =>
   show bO (ar "change"::_)=_;rw[bO,if_neg k1,if_pos rfl,re];rfl
  |true =>
   show bO (ar "mend"::_)=_;rw[bO,if_neg k2.1,if_neg k2.2,if_pos rfl];unfold iz;rw[re,UI,if_pos]
   ·rfl
   ·by_cases hk:k=1
    ·exact .inl hk
    ·right;rw[if_neg hk];have:=o4 rfl;simp[this]
 |pt ws =>
  show bO (ar "point"::ws)=some (.pt ws);rw[bO,if_neg k4.1,if_neg k4.2.1,if_neg k4.2.2.1,if_neg k4.2.2.2,if_pos rfl,if_pos (w9 o.wd)]
 |nums kd ns =>
  obtain⟨o1,o2⟩:=o;show bO (if kd=ar "put off" then ar "put"::ar "off"::ns.map num else kd::ns.map num)=some (.nums kd ns)
  simp only[cC,Uz,Ui,or_false,Vo]at o1;rcases o1 with ⟨rfl,hl⟩ | ⟨rfl,hl⟩ | ⟨rfl,hl⟩ | ⟨rfl,hl⟩ | ⟨rfl,hl⟩ | ⟨rfl,hl⟩ | ⟨rfl,hl⟩
  ·obtain⟨n,rfl⟩:=List.length_eq_one_iff.mp hl;obtain⟨b1,b2⟩:=zx (o2 n (by simp)).1 (o2 n (by simp)).2
   obtain⟨s1,s2⟩:=so rfl n (by simp)
   rw[if_pos rfl,bO,if_neg k3.1,if_neg k3.2.1,if_neg k3.2.2,if_pos rfl];show (qc [ar "off",num n]).map _=_;rw[qc,b2,if_pos ⟨rfl,b1,s1,s2⟩];rfl
  ·obtain⟨a,b,rfl⟩:∃x n,ns=[x,n]:=by
    match ns,hl with
    |[x,n],_=>exact⟨x,n,rfl⟩
   obtain⟨b1,b2⟩:=zx (o2 a (by simp)).1 (o2 a (by simp)).2
   obtain⟨c1,c2⟩:=zx (o2 b (by simp)).1 (o2 b (by simp)).2
   obtain⟨r1,r2,r3,r4,r5⟩:=rest (ar "vote") (by simp)
   rw[if_neg (by trivial),bO,if_neg r1,if_neg r2,if_neg r3,if_neg r4,if_neg r5,if_pos rfl]
   show tO [num a,num b]=_;rw[tO,b2,c2,if_pos ⟨b1,c1⟩]
  ·obtain⟨n,rfl⟩:=List.length_eq_one_iff.mp hl;obtain⟨b1,b2⟩:=zx (o2 n (by simp)).1 (o2 n (by simp)).2
   obtain⟨r1,r2,r3,r4,r5⟩:=rest (ar "take") (by simp)
   rw[if_neg (by trivial),bO,if_neg r1,if_neg r2,if_neg r3,if_neg r4,if_neg r5,if_neg (by trivial),if_pos rfl]
   show tP [num n]=_;rw[tP,b2,if_pos b1]
  all_goals
   obtain rfl:=List.length_eq_zero_iff.mp hl;rw[if_neg (by trivial)]
   exact Ic (by trivial) (rest _ (by simp)) (by trivial)
theorem row_read {d:bp}(o:DOk d)(so:GC d):bO (Txt.split (dq d) bl1)=some (norm d):=by rw[A3 o,Ie o so]
theorem tV {d:bp}(o:DOk d):Asc (dq d):=by
 have e:=A3 o;have hne:∀w∈gz d::dP d,Asc w:=by
  have lit:∀x∈([ar "matter",sl1,ar "mend",ar "change",kn 0,kn 1,kn 2,ar "point",ar "put off",ar "vote",ar "take",ar "close",ar "lay",ar "rest",ar "drop"]:List Str),∀c∈x.cps.toList,c < 128:=by trivial
  have nf:∀ {i:Int},0<=i->i < 10 ^ 10->Asc (num i):=λh0 h1 c hc=>by
   have:=(zx h0 h1).1;simp only[cF,TH]at this;have:=List.all_eq_true.mp this.2.2.1 c hc;simp only[ll,TH,decide_eq_true_iff]at this;omega
  cases d with
  |mat cs =>
   intro w hw;rcases List.mem_cons.mp hw with rfl | hw'
   ·exact lit _ (by simp[gz])
   ·obtain⟨ws,h1,h2⟩:=List.mem_flatMap.mp hw';rcases List.mem_cons.mp h2 with rfl | h2
    ·exact lit _ (by simp)
    ·exact((o.2 ws h1).wd w h2).asc
  |ed m k i ws =>
   obtain⟨o1,⟨i0,i1⟩,o3,_⟩:=o;intro w hw;have hw':w∈kEd m::kn k::num i::(if k=1 then [] else ws):=hw
   rcases List.mem_cons.mp hw' with rfl | hw'
   ·cases m <;> exact lit _ (by simp[kEd])
   rcases List.mem_cons.mp hw' with rfl | hw'
   ·rcases o1 with rfl | rfl | rfl <;> exact lit _ (by simp)
   rcases List.mem_cons.mp hw' with rfl | hw'
   ·exact nf i0 i1
   split at hw'
   ·cases hw'
   ·exact(o3.wd w hw').asc
  |pt ws =>
   intro w hw;rcases List.mem_cons.mp hw with rfl | hw'
   ·exact lit _ (by simp[gz])
   ·exact(o.wd w hw').asc
  |nums kd ns =>
   obtain⟨o1,o2⟩:=o;intro w hw;rcases List.mem_cons.mp hw with hk | hw'
   ·have o1':=o1;simp only[cC,Uz,Ui,or_false,Vo]at o1';rw[hk];show Asc kd;rcases o1' with ⟨rfl,_⟩ | ⟨rfl,_⟩ | ⟨rfl,_⟩ | ⟨rfl,_⟩ | ⟨rfl,_⟩ | ⟨rfl,_⟩ | ⟨rfl,_⟩ <;> exact lit _ (by simp)
   ·obtain⟨i,hi,rfl⟩:=List.mem_map.mp hw';exact nf (o2 i hi).1 (o2 i hi).2
 have hs:Asc bl1:=by
  rw[gY];intro c hc;have:c=32:=by simpa using hc
  omega
 exact jI hs _ hne
end R
mutual
theorem DV.same {K:ba}{H H':Hp}(s:aT H H'):∀(d:PyData) {x:V},DV K H d x->DV K H' d x
 | .none,_,h=>by unfold DV at h ⊢;exact h
 | .bool _,_,h=>by unfold DV at h ⊢;exact h
 | .int _,_,h=>by unfold DV at h ⊢;exact h
 | .str _,_,h=>by unfold DV at h ⊢;exact h
 | .list ds,_,h=>by
  unfold DV at h ⊢;obtain⟨a,xs,e,h1,h2⟩:=h;exact⟨a,xs,e,s.seq h1,DVs.same s ds h2⟩
 | .tuple ds,_,h=>by
  unfold DV at h ⊢;obtain⟨a,xs,e,h1,h2⟩:=h;exact⟨a,xs,e,dg s h1,DVs.same s ds h2⟩
 | .dict _,_,h=>by unfold DV at h;exact h.elim
theorem DVs.same {K:ba}{H H':Hp}(s:aT H H'):∀(ds:List PyData) {xs:List V},DVs K H ds xs->DVs K H' ds xs
 |[],_,h=>by unfold DVs at h ⊢;exact h
 |d::ds,_,h=>by
  unfold DVs at h ⊢;obtain⟨x,r,e,h1,h2⟩:=h;exact⟨x,r,e,DV.same s d h1,DVs.same s ds h2⟩
end
theorem fP {d:PyData}(h1:d.canLay0=true)(h2:d.depth<=64):SeqAt.shaped d=true:=by
 show (d.canLay0 && decide (d.depth<=64))=true;rw[h1,decide_eq_true h2];rfl
theorem fQ {α:Type}{f:α->PyData}{k:Nat}(h:∀x,TN (f x)<=k):∀xs:List α,TC (xs.map f)<=k
 |[]=>by simp only[UJ,TC];omega
 |x::xs=>by
  have h1:=h x;have h2:=fQ h xs;simp only[ko,TC];omega
theorem tX {α:Type}{f:α->PyData}:∀ {xs:List α},(∀x∈xs,(f x).canLay0=true)->me (xs.map f)=true
 |[],_=>by simp only[UJ,me]
 |x::xs,h=>by
  simp only[ko,me,h x gc,tX λy hy=>h y (kf _ hy),Ub]
theorem D5 (ns:List Nat):(wc ns).canLay0=true:=by
 unfold wc;simp only[Tt];exact tX λn _=>by simp only[Tt]
theorem zy (ns:List Nat):(wc ns).depth<=2:=by
 unfold wc;have:=fQ (f:=λn:Nat=>PyData.int (n:Int)) (k:=0) (λn=>by simp only[TN];omega) ns
 simp only[TN];omega
theorem Pu (x:Nat×Int×List Nat):(asD x).canLay0=true:=by
 unfold asD;simp only[Tt,me,D5,Ub]
theorem KW (x:Nat×Int×List Nat):(asD x).depth<=10:=by
 have:=zy x.2.2;unfold asD;simp only[TN,TC];omega
theorem KY (x:Nat×Str):(dcD x).depth<=10:=by
 unfold dcD;simp only[TN,TC];omega
theorem Cv {N:Nat}{st:Ch}(I:Inv N st)(ns:List Int):(stD st ns).canLay0=true:=by
 have h1:me (ns.map λn=>asD (z6 st n))=true:=tX λn _=>Pu _
 have h2:me (st.decided.map dcD)=true:=tX λx hx=>by
  unfold dcD;simp only[Tt,me,I.dw x hx,Ub]
 unfold stD;simp only[Tt,me,D5,h1,h2,Ub]
theorem KZ (st:Ch)(ns:List Int):(stD st ns).depth<=64:=by
 have h0:=zy st.aI;have h1:=fQ (f:=λn=>asD (z6 st n)) (k:=10) (λn=>KW _) ns
 have h2:=fQ (f:=dcD) (k:=10) KY st.decided;unfold stD;simp only[TN,TC];omega
theorem K0:∀k,TX (kn k)=true
 | 0=>by trivial
 | 1=>by trivial
 |_+2=>by show TX (ar "turn")=true;trivial
theorem K1 {e:Ed}(h:TX e.th=true):(edD e).canLay0=true:=by
 have h0:=K0 0;have h1:=K0 1;have h2:=K0 2;unfold edD;split <;> simp only[Tt,me,h,h0,h1,h2,Ub]
theorem K2 (e:Ed):(edD e).depth<=10:=by
 unfold edD;split <;> simp only[TN,TC] <;> omega
theorem zz {tx:List Str}(h:∀x∈tx,TX x=true):(PyData.list (tx.map TZ)).canLay0=true:=by
 simp only[Tt];exact jZ tx h
theorem zB (tx:List Str):(PyData.list (tx.map TZ)).depth<=10:=by
 have:=my tx;simp only[TN];omega
theorem Pw {N:Nat}:∀ {m:Mn},MOk N m->(mnD m).canLay0=true
 | .mat tx,h=>by
  have h0:=vX 0 (by decide)
  have h1:=zz h.2;unfold mnD;simp only[Tt,me]at h1 ⊢;simp only[h0,h1,Ub]
 | .chg e,h=>by
  have h0:=vX 1 (by decide)
  have h1:=K1 (EdB.str h);unfold mnD;simp only[Tt,me,h0,h1,Ub]
 | .mnd e,h=>by
  have h0:=vX 2 (by decide)
  have h1:=K1 (EdB.str h.1);unfold mnD;simp only[Tt,me,h0,h1,Ub]
 | .off u,_=>by
  have h0:=vX 3 (by decide)
  unfold mnD;simp only[Tt,me,h0,Ub]
 | .cls,_=>by
  have h0:=vX 4 (by decide)
  unfold mnD;simp only[Tt,me,h0,Ub]
 | .lay,_=>by
  have h0:=vX 5 (by decide)
  unfold mnD;simp only[Tt,me,h0,Ub]
 | .rst,_=>by
  have h0:=vX 6 (by decide)
  unfold mnD;simp only[Tt,me,h0,Ub]
 | .pnt z,h=>by
  have h0:=vX 7 (by decide)
  have h1:TX z=true:=h;unfold mnD;simp only[Tt,me,h0,h1,Ub]
theorem we:∀ {xs ys:List Int},Vn xs ys->xs.Pairwise (·<=·)->ys.Pairwise (·<=·)->xs=ys
 |[],ys,p,_,_=>(List.Perm.nil_eq p)
 |x::xs,[],p,_,_=>absurd p.length_eq (by simp)
 |x::xs,y::ys,p,hx,hy=>by
  obtain⟨x1,x2⟩:=List.pairwise_cons.mp hx;obtain⟨y1,y2⟩:=List.pairwise_cons.mp hy;have e:x=y:=by
   have a:x∈y::ys:=p.mem_iff.mp gc;have b:y∈x::xs:=p.mem_iff.mpr gc;rcases List.mem_cons.mp a with a | a
   ·exact a
   ·rcases List.mem_cons.mp b with b | b
    ·exact b.symm
    ·exact Int.le_antisymm (x1 y b) (y1 x a)
  subst e;rw[we (List.perm_cons x |>.mp p) x2 y2]
def qQ (H H':Hp):R.bp->Addr->Prop
 | .mat cs,t=>∃L,H t=none/\H L=none/\H' t=some (.tup [.str (ar "matter"),.ref L])/\H' L=some (.lst ((cs.map (ki R.bl1)).map V.str))
 | .ed m k j ws,t=>∃e,H t=none/\H e=none/\H' t=some (.tup [.str (R.kEd m),.ref e])/\H' e=some (.tup (R.edR k j (ki R.bl1 ws)))
 | .pt ws,t=>H t=none/\H' t=some (.tup [.str (ar "point"),.str (ki R.bl1 ws)])
 | .nums kd ns,t=>H t=none/\H' t=some (.tup (.str kd::ns.map V.int))
theorem qQ.c {i:Nat}{c:Col}{H H':Hp}{t:Addr}:∀ {d:R.bp},qQ H H' d t->jR i (bz c H) H' d t
 | .mat _,⟨L,h1,h2,h3,h4⟩=>⟨L,⟨by rw[bL h1];exact aC,h3⟩,by rw[bL h2];exact aC,h4⟩
 | .ed _ _ _ _,⟨e,h1,h2,h3,h4⟩=>⟨e,⟨by rw[bL h1];exact aC,h3⟩,bL h2,.inl h4⟩
 | .pt _,⟨h1,h2⟩=>⟨by rw[bL h1];exact aC,h2⟩
 | .nums _ _,⟨h1,h2⟩=>⟨by rw[bL h1];exact aC,h2⟩
theorem qQ.pre {H0 H H':Hp}(s:aT H0 H){t:Addr}:∀ {d:R.bp},qQ H H' d t->qQ H0 H' d t
 | .mat _,⟨L,h1,h2,h3,h4⟩=>⟨L,same_none s h1,same_none s h2,h3,h4⟩
 | .ed _ _ _ _,⟨e,h1,h2,h3,h4⟩=>⟨e,same_none s h1,same_none s h2,h3,h4⟩
 | .pt _,⟨h1,h2⟩=>⟨same_none s h1,h2⟩
 | .nums _ _,⟨h1,h2⟩=>⟨same_none s h1,h2⟩
theorem vc (xs:List V)(k:Nat):fR xs none (some (k:Int))=xs.take k:=by
 unfold fR;rw[HT.mx,HT.rW,List.drop_zero,Nat.sub_zero,<-List.take_eq_take_min]
theorem MF {xs:List V}{lo hi:Option Int}{x:V}(h:x∈fR xs lo hi):x∈xs:=by
 unfold fR at h;exact Va (U8 h)
def K4 (K:ba):Sp:=λvs H Q _=>∃(a:Addr) (ns:List Int) (k:Int),vs=[.ref a,.int k]/\SqL K H a (ns.map V.int)/\0<=k/\∀z:Int,Q (.int z) H
theorem gA.up {n m:Nat}{ws:List Str}(h:R.gA n ws)(l:n<=m):R.gA m ws:=⟨ra h.len l,h.wd⟩
section
variable{P:km}{w:World}{K:ba}{mg:Str->Option Value}{base:Heap}{A:Adr}
theorem wg (T:Txt w.params K mg A):FnOk P w K mg base CX0 1 A.yg A.oF ["_law_cell","_law_many"] R.Kr:=by
 refine T.rz.ok ie (λvs H Q E h=>?_) (λcdv A' outer s H vs Q E hr h=>?_)
 ·obtain⟨c,n,rfl,_⟩:=h;rfl
 ·obtain⟨c,n,rfl,h0,h1,k⟩:=h;refine⟨_,(ak (aY (i:=2) ie.nd rfl (Tp rfl) (bX af))
 (ak (aY (i:=3) ie.nd rfl (Tp rfl) (bA cv (bA dJ (pv 0) aj) aj))
 (ak (ug Vj rfl (lB rfl T.sX (aa (bA cv (pv 1) aj) af)) (dI (i:=4) ie.nd rfl (Tp rfl))
 (ak (aY (i:=3) ie.nd rfl (Tp rfl) (bA dJ (bA cv (bA cv (bA En (pv 3) (pv 3)) (bA En aj (pv 3))) (pv 4)) aj))
 (ai (bF (fV Tj Tx Tz cA (pv 2) (aa (pv 3) af))))))
 (ai (aB (c9 eI (pv 2) (dM aj) eG)))))),?_⟩
  try dsimp only[br]
  have sz:eg=16777216:=by decide
  refine⟨TM _,λF hF=>?_⟩
  refine⟨_,rfl,_,_,rfl,rfl,(by show (0:Int) < 4294967311;decide),_,_,rfl,rfl,?_⟩
  refine⟨_,rfl,_,_,rfl,rfl,_,rfl,by omega,by omega,?_⟩
  refine pM (lo:=0) (n:=(n+1).toNat) (λi σ H2=>∃(zs:List Int) (m:Int) (kv:Option V),σ=[some (.int c),some (.int n),some (.ref F),some (.int m),kv]/\H2 F=some (.lst (zs.map V.int))/\zs.length=i/\(∀z∈zs,0<=z/\z < 4294967311)/\0<=m/\m < 4295015582/\aT H H2)
   ⟨[],_,_,rfl,ae,rfl,(λz hz=>nomatch hz),by omega,by omega,av hF⟩ ?_ ?_
  ·rintro i σ H2 hi ⟨zs,m,kv,rfl,h2,hl,hz,m0,m1,s2⟩;refine⟨_,rfl,_,rfl,_,_,rfl,rfl,.inl ⟨by omega,by omega⟩,_,rfl,_,_,rfl,rfl,.inl ⟨by decide,by decide⟩,_,_,rfl,rfl,_,rfl,_,_,rfl,rfl,_,_,rfl,rfl,(by show (0:Int) < 4294967311;decide),?_⟩
   refine⟨_,rfl,.inl ⟨rfl,_,SqL.of h2⟩,_,rfl,F,_,_,rfl,rfl,h2,(by rw[bo];omega),?_⟩
   have q0:0<=(m * m+69621 * m+(0+(i:Int))) % 4294967311:=Int.emod_nonneg _ (by decide)
   have q1:(m * m+69621 * m+(0+(i:Int))) % 4294967311 < 4294967311:=Int.emod_lt_of_pos _ (by decide)
   refine⟨zs++[(m * m+69621 * m+(0+(i:Int))) % 4294967311],_,_,rfl,?_,?_,λz h=>?_,q0,by omega,s2.own hF⟩
   ·rw[ae,ma];rfl
   ·rw[gr,hl];rfl
   ·rcases List.mem_append.mp h with h | h
    ·exact hz z h
    ·rw[List.mem_singleton.mp h];exact⟨q0,q1⟩
  ·rintro σ H2 ⟨zs,m,kv,rfl,h2,hl,hz,m0,m1,s2⟩;refine⟨_,rfl,_,rfl,F,_,rfl,SqL.of h2,λp hp=>?_⟩
   have e:fR (zs.map V.int) (some 1) none=(zs.drop 1).map V.int:=by
    rw[show (1:Int)=((1:Nat):Int) from rfl,jn,List.map_drop]
   rw[e];refine k (zs.drop 1) p _ (by rw[TQ];omega) (λz h=>hz z (Va h)) (s2.new hp) (s2.free hp) ae
theorem tY (T:Txt w.params K mg A):FnOk P w K mg base CX0 1 A.uI A.mP ["_law_script","_law_k"] (K4 K):=by
 refine T.oV.ok BJ (λvs H Q E h=>?_) (λcdv A' outer s H vs Q E hr h=>?_)
 ·obtain⟨a,ns,k,rfl,_⟩:=h;rfl
 ·obtain⟨a,ns,k,rfl,hS,h0,q⟩:=h;refine⟨_,(ak (bE (aQ xn (pv 1) (bh bt (by rfl) T.eR cQ (aa (pv 0) af)) (aH _))
 (ai (aB (aU a8 (pv 0) (pv 1) (λ_ _=>rfl))))
 aO)
 (ai (aB aj))),?_⟩
  try dsimp only[br]
  refine⟨_,rfl,_,rfl,a,_,rfl,.inl hS,_,_,rfl,rfl,_,rfl,eX (λe=>?_) (λ_=>q 0)⟩
  refine aL λGq gq=>?_
  have e':k < ((ns.map V.int).length:Int):=of_decide_eq_true e;rw[bo]at e';obtain⟨c,hc,hm⟩:=I9 (xs:=ns.map V.int) (i:=k) (n:=ns.length) (bo _) h0 e';obtain⟨z,_,rfl⟩:=List.mem_map.mp hm;refine gq ?_;exact⟨_,rfl,_,rfl,a,_,_,_,rfl,rfl,hS,hc,q z⟩
end
def vd (c:Col)(H:Hp)(t:Addr)(xs:List V):Prop:=c t=none/\H t=some (.tup xs)
def dR (c:Col)(H:Hp):R.bp->Addr->Prop
 | .mat cs,t=>∃L,vd c H t [.str (ar "matter"),.ref L]/\c L=none/\H L=some (.lst ((cs.map (ki R.bl1)).map V.str))
 | .ed m k j ws,t=>∃e,vd c H t [.str (R.kEd m),.ref e]/\TupAt c H e (R.edR k j (ki R.bl1 ws))
 | .pt ws,t=>vd c H t [.str (ar "point"),.str (ki R.bl1 ws)]
 | .nums kd ns,t=>vd c H t (.str kd::ns.map V.int)
theorem vd.c {i:Nat}{c:Col}{H:Hp}{t:Addr}{xs:List V}(h:vd c H t xs):u4 i c H t xs:=⟨by rw[h.1];exact aC,h.2⟩
theorem vd.step {W:Option (Nat×Rl)->Prop}{c c':Col}{H H':Hp}{t:Addr}{xs:List V}(s:Step W c c' H H')(h:vd c H t xs):vd c' H' t xs:=fO s h.1 h.2
theorem dR.step {W:Option (Nat×Rl)->Prop}{c c':Col}{H H':Hp}{t:Addr}(s:Step W c c' H H'):∀ {d:R.bp},dR c H d t->dR c' H' d t
 | .mat _,⟨L,a,b1,b2⟩=>⟨L,a.step s,fO s b1 b2⟩
 | .ed _ _ _ _,⟨e,a,b⟩=>⟨e,a.step s,b.step s⟩
 | .pt _,h=>vd.step s h
 | .nums _ _,h=>vd.step s h
theorem dR.c {i:Nat}{c:Col}{H:Hp}{t:Addr}:∀ {d:R.bp},dR c H d t->jR i c H d t
 | .mat _,⟨L,a,b1,b2⟩=>⟨L,a.c,by rw[b1];exact aC,b2⟩
 | .ed _ _ _ _,⟨e,a,b⟩=>⟨e,a.c,b⟩
 | .pt _,h=>vd.c h
 | .nums _ _,h=>vd.c h
theorem dR.kind {c:Col}{H:Hp}{t:Addr}:∀ {d:R.bp},dR c H d t->∃xs,H t=some (.tup (.str (R.gz d)::xs))
 | .mat _,⟨_,a,_⟩=>⟨_,a.2⟩
 | .ed _ _ _ _,⟨_,a,_⟩=>⟨_,a.2⟩
 | .pt _,h=>⟨_,h.2⟩
 | .nums _ _,h=>⟨_,h.2⟩
theorem mq {W:Option (Nat×Rl)->Prop}(n:¬W none){c c':Col}{H1 H2:Hp}{x dx:Addr}{o:HO}(hx:H1 x=none)(hdx:H1 dx=none)(hk:∀a v,(upd (upd H1 dx (.own x)) x o) a=some v->a≠x->H2 a=some v/\c' a=c a):Step W c c' H1 H2:=by
 have old:∀a v,H1 a=some v->H2 a=some v/\c' a=c a:=λa v h =>
  hk a v ((ao (aG h hx)).trans ((ao (aG h hdx)).trans h)) (aG h hx)
 exact⟨n,λa v h _=>(old a v h).1,λa v h=>⟨v,(old a v h).1⟩,λa v h _=>(old a v h).2⟩
section
variable{P:km}{w:World}{K:ba}{mg:Str->Option Value}{base:Heap}{A:Adr}
theorem Xc.mat (T:Txt w.params K mg A){H:Hp}{C:Value}{d:Option Addr}:∀ {x:Xc},x.At A H C d->T4 K C (.ref A.bB)=some true
 | .y8 _,⟨e,_⟩=>by rw[e];exact T.mX
 | .tF _,⟨e,_⟩=>by rw[e];exact T.lj
 | .Fh _,⟨e,_⟩=>by rw[e];exact T.mY
 | .y9,⟨e,_⟩=>by rw[e];exact T.k9
 | .noChange,⟨e,_⟩=>by rw[e];exact T.lb
 | .noFit,⟨e,_⟩=>by rw[e];exact T.nP
 | .nothing,⟨e,_⟩=>by rw[e];exact T.l8
 | .tooMany,⟨e,_⟩=>by rw[e];exact T.l9
 | .Cj,⟨e,_⟩=>by rw[e];exact T.md
 | .DM,⟨e,_⟩=>by rw[e];exact T.lh
end
def Ig (A:Adr)(i:Nat):Sp:=λvs H Q _=>∃(o:Addr) (c:Col) (st:Ch),vs=[.ref o]/\b9 A i c H o st/\∀l,H l=none->Q (.ref l) (upd H l (.lst (st.rows.map V.str)))
section
variable{P:km}{w:World}{K:ba}{mg:Str->Option Value}{base:Heap}{A:Adr}
theorem Fz (T:Txt w.params K mg A){i:Nat}:FnOk P w K mg base CX0 1 A.gj A.fA ["self"] (Ig A i):=by
 refine T.sZ.ok qX (λvs H Q E h=>?_) (λcdv A' outer s H vs Q E hr h=>?_)
 ·obtain⟨o,c,st,rfl,_⟩:=h;rfl
 ·obtain⟨o,c,st,rfl,hc,q⟩:=h;obtain⟨dx,aM,aP,aA,aD,aF,aE,aR,ms,ds,ws,fs,es,X⟩:=hc.ex;refine⟨_,(ai (aB (bP bN (by rfl) T.iL fm (aa (aZ (pv 0) rfl) af)))),?_⟩
  try dsimp only[br]
  exact dh rfl X.ob T.ag T.cV pE ⟨aR,_,rfl,.inl (SqL.of X.rows.2),q⟩
end
def MnT (c:Col)(H:Hp)(m:Mn)(t:Addr):Prop:=c t=none/\∃v,H t=some (.tup (rowOf m.k v))/\m.Val c H v
theorem MnT.step {W:Option (Nat×Rl)->Prop}{c c':Col}{H H':Hp}{m:Mn}{t:Addr}(s:Step W c c' H H')(h:MnT c H m t):MnT c' H' m t:=by
 obtain⟨n,v,h,hv⟩:=h;have hn:¬W (c t):=by rw[n];exact s.nn
 exact⟨by rw[s.col t _ h hn];exact n,v,s.keep _ _ h hn,hv.step s⟩
theorem MnT.dv {K:ba}{c:Col}{H:Hp}{m:Mn}{t:Addr}(h:MnT c H m t):DV K H (mnD m) (.ref t):=by
 obtain⟨_,v,ht,hv⟩:=h
 by_cases h0:m.k=0
 ·obtain⟨tx,rfl⟩:∃tx,m=.mat tx:=by cases m <;> first | exact⟨_,rfl⟩ | exact absurd h0 (by simp[Mn.k])
  obtain⟨p,rfl,hp⟩:=hv;unfold mnD DV;refine⟨t,_,rfl,SqT.of ht,?_⟩;unfold DVs;refine⟨_,_,rfl,by unfold DV;rfl,?_⟩
  unfold DVs;exact⟨_,_,rfl,pN (SqL.of hp.2),by unfold DVs;rfl⟩
 ·exact Pj (by omega) hv (SqT.of ht)
def Ii (A:Adr)(i:Nat):Sp:=λvs H Q _=>∃(o:Addr) (n:Nat) (c:Col) (st:Ch),vs=[.ref o,nV n]/\b9 A i c H o st/\eE st n/\∀u H',aT H H'->MnT (bz c H) H' (st.mo n) u->Q (.ref u) H'
section
variable{P:km}{w:World}{K:ba}{mg:Str->Option Value}{base:Heap}{A:Adr}
theorem FA (T:Txt w.params K mg A){i:Nat}:FnOk P w K mg base (CXX P w) 3 A.eN A.d5 ["self","number"] (Ii A i):=by
 have zh:∀k,k < 8->FnOk P w K mg base CX0 2 (A.ft k) (A.ftd k) ["self"] (w6 A K k):=zg T;refine T.lT.okX j6 (λvs H Q E h=>?_) (λcdv A' outer s H vs Q E hr h=>?_)
 ·obtain⟨o,n,c,st,rfl,_⟩:=h;rfl
 ·obtain⟨o,n,c,st,rfl,hc,hn,q⟩:=h;obtain⟨dx,aM,aP,aA,aD,aF,aE,aR,ms,ds,ws,fs,es,X⟩:=hc.ex;have hu1:=hr.u1;have hgd:=hr.gd;refine⟨_,(au (b6 (Ei (uu hu1 (pv 1) (aZ (pv 0) rfl)))
 (aJ (fJ T.vW rfl rfl T.yS (aa (r8 (eY (mD (pv 1) mB))) af)))
 (i3 aO))
 (aJ (psx (aB (gK (n:=8) (Cf:=A.C) (i6 hu1 (aZ (pv 0) rfl) (pv 1) (λ_ _=>rfl)) T.cl T.E2 zh hr T.E3 aV))))),?_⟩
  try dsimp only[br]
  refine⟨_,rfl,dh rfl X.ob T.ag T.bw dE ⟨aM,_,rfl,.inl ⟨_,kr (n:Int),.inl X.made.2,rfl,rfl⟩,_,rfl,?_⟩⟩;refine aL λGq gq=>?_
  obtain⟨mo,hv,hmo⟩:=X.Kz hn;refine gq ?_;rw[hv];refine df ?_;refine aL λGq gq=>?_
  obtain⟨_,dm,v,hm,hvv⟩:=hmo;refine gq ?_;refine⟨_,rfl,o,A.aq,dx,_,.ref aM,rfl,X.ob,T.ag,T.bw,dE,_,rfl,aM,_,rfl,.inl ⟨_,kr (n:Int),.inl X.made.2,rfl,hv.symm⟩,(st.mo n).k,(st.mo n).k8,mo,dm,_,rfl,hm,B6 _ v,?_⟩;generalize st.mo n=m at hm hvv q
  by_cases h0:m.k=0
  ·obtain⟨tx,rfl⟩:∃tx,m=.mat tx:=by cases m <;> first | exact⟨_,rfl⟩ | exact absurd h0 (by simp[Mn.k])
   refine aL λGq gq=>?_
   obtain⟨p,rfl,hp⟩:=hvv;refine gq ?_;refine .inl ⟨rfl,mo,dm,p,tx.map V.str,rfl,hm,SqL.of hp.2,λp2 u hp2 hu npu=>?_⟩
   have nu:(upd H p2 (.lst (tx.map V.str))) u=none:=(ao (Tr npu)).trans hu;exact q u _ ((av hp2).new nu) ⟨bL hu,.ref p2,ae,p2,rfl,bL hp2,(ao npu).trans ae⟩
  ·refine .inr ⟨by omega,mo,dm,v,rfl,hm,λu hu=>?_⟩
   have su:=av (o:=.tup (rowOf m.k v)) hu;exact q u _ su ⟨bL hu,v,ae,hvv.step (Step.cl (W:=λ_=>False) id su)⟩
end
theorem K5:∀(as:List (Nat×Int×List Nat)) (ws:List V),as.length=ws.length->(bc ((as.map (·.1)).zip ws)).map (·.1)=(as.map λx=>(x.1:Int)).map kr:=by
 intro as
 induction as with
 |nil=>intro ws _;cases ws <;> rfl
 |cons a as ih =>
  intro ws h;cases ws with
  |nil=>cases h
  |cons w ws =>
   rw[ko,cc,ko,ih ws (by simpa using h)]
   rfl
def AsC (c:Col)(H:Hp)(x:Nat×Int×List Nat)(v:V):Prop:=∃u l,v=.ref u/\(c u=none/\H u=some (.tup [nV x.1,.int x.2.1,.ref l]))/\c l=none/\H l=some (.lst (x.2.2.map nV))
def DcC (c:Col)(H:Hp)(x:Nat×Str)(v:V):Prop:=∃t,v=.ref t/\TupAt c H t [nV x.1,.str x.2]
structure StX (c:Col)(H:Hp)(st:Ch)(ns:List Int)(u l1 R l2:Addr)(ys ds:List V):Prop where
 cu:c u=none
 hu:H u=some (.tup [.int st.a9,.bl st.closed,.ref l1,.ref R,.ref l2])
 c1:c l1=none
 h1:H l1=some (.lst (st.aI.map nV))
 cR:c R=none
 hR:H R=some (.lst ys)
 asd:bf (AsC c H) (ns.map (z6 st)) ys
 c2:c l2=none
 h2:H l2=some (.lst ds)
 dec:bf (DcC c H) st.decided ds
def K6 (c:Col)(H:Hp)(st:Ch)(ns:List Int)(u:Addr):Prop:=∃l1 R l2 ys ds,StX c H st ns u l1 R l2 ys ds
theorem AsC.step {W:Option (Nat×Rl)->Prop}{c c':Col}{H H':Hp}{x:Nat×Int×List Nat}{v:V}(s:Step W c c' H H'):AsC c H x v->AsC c' H' x v
 |⟨u,l,e,⟨h1,h2⟩,h3,h4⟩=>⟨u,l,e,fO s h1 h2,fO s h3 h4⟩
theorem DcC.step {W:Option (Nat×Rl)->Prop}{c c':Col}{H H':Hp}{x:Nat×Str}{v:V}(s:Step W c c' H H'):DcC c H x v->DcC c' H' x v
 |⟨t,e,h⟩=>⟨t,e,h.step s⟩
theorem StX.step {W:Option (Nat×Rl)->Prop}{c c':Col}{H H':Hp}{st:Ch}{ns:List Int}{u l1 R l2:Addr}{ys ds:List V}(s:Step W c c' H H')(h:StX c H st ns u l1 R l2 ys ds):StX c' H' st ns u l1 R l2 ys ds :=
 ⟨(fO s h.cu h.hu).1,(fO s h.cu h.hu).2,(fO s h.c1 h.h1).1,(fO s h.c1 h.h1).2,(fO s h.cR h.hR).1,(fO s h.cR h.hR).2,h.asd.imp λ_ _ z=>z.step s,(fO s h.c2 h.h2).1,(fO s h.c2 h.h2).2,h.dec.imp λ_ _ z=>z.step s⟩
theorem K6.step {W:Option (Nat×Rl)->Prop}{c c':Col}{H H':Hp}{st:Ch}{ns:List Int}{u:Addr}(s:Step W c c' H H'):K6 c H st ns u->K6 c' H' st ns u
 |⟨l1,R,l2,ys,ds,h⟩=>⟨l1,R,l2,ys,ds,h.step s⟩
theorem AsC.dv {K:ba}{c:Col}{H:Hp}{x:Nat×Int×List Nat}{v:V}:AsC c H x v->DV K H (asD x) v
 |⟨u,l,e,⟨_,h3⟩,_,h4⟩=>by
  unfold asD DV;refine⟨u,_,e,SqT.of h3,?_⟩;unfold DVs;refine⟨_,_,rfl,by unfold DV;rfl,?_⟩
  unfold DVs;refine⟨_,_,rfl,by unfold DV;rfl,?_⟩
  unfold DVs;exact⟨_,_,rfl,Co (SqL.of h4),by unfold DVs;rfl⟩
theorem DcC.dv {K:ba}{c:Col}{H:Hp}{x:Nat×Str}{v:V}:DcC c H x v->DV K H (dcD x) v
 |⟨t,e,h⟩=>by
  subst e;unfold dcD DV;refine⟨t,_,rfl,h.sq,?_⟩;unfold DVs;refine⟨_,_,rfl,by unfold DV;rfl,?_⟩
  unfold DVs;exact⟨_,_,rfl,by unfold DV;rfl,by unfold DVs;rfl⟩
theorem StX.dv {K:ba}{c:Col}{H:Hp}{st:Ch}{ns:List Int}{u l1 R l2:Addr}{ys ds:List V}(h:StX c H st ns u l1 R l2 ys ds):DV K H (stD st ns) (.ref u):=by
 unfold stD DV;refine⟨u,_,rfl,SqT.of h.hu,?_⟩;unfold DVs;refine⟨_,_,rfl,by unfold DV;rfl,?_⟩
 unfold DVs;refine⟨_,_,rfl,by unfold DV;rfl,?_⟩
 unfold DVs;refine⟨_,_,rfl,Co (SqL.of h.h1),?_⟩;unfold DVs;refine⟨_,_,rfl,?_,?_⟩
 ·unfold DV;refine⟨R,ys,rfl,SqL.of h.hR,?_⟩;rw[show (ns.map λn=>asD (z6 st n))=(ns.map (z6 st)).map asD by rw[U9];rfl]
  exact bf.dvs (λx v h=>h.dv) h.asd
 ·unfold DVs;refine⟨_,_,rfl,?_,by unfold DVs;rfl⟩
  unfold DV;exact⟨l2,_,rfl,SqL.of h.h2,bf.dvs (λx v h=>h.dv) h.dec⟩
def D6 (A:Adr)(i:Nat):Sp:=λvs H Q _=>∃(o:Addr) (c:Col) (st:Ch),vs=[.ref o]/\b9 A i c H o st/\st.aS.length < 64 /\
 ∀(ns:List Int) (u:Addr) (H':Hp),Vn ns (st.aS.map λx=>(x.1:Int))->ns.Pairwise (·<=·)->aT H H'->K6 (bz c H) H' st ns u->Q (.ref u) H'
def AsN (H0 H:Hp)(R:Addr)(x:Nat×Int×List Nat)(v:V):Prop:=∃u l,v=.ref u/\(u≠R/\l≠R)/\(H0 u=none/\H0 l=none)/\H u=some (.tup [nV x.1,.int x.2.1,.ref l])/\H l=some (.lst (x.2.2.map nV))
theorem AsN.same {H0 H H':Hp}{R:Addr}{x:Nat×Int×List Nat}{v:V}(s:aT H H'):AsN H0 H R x v->AsN H0 H' R x v
 |⟨u,l,e,h1,h2,h3,h4⟩=>⟨u,l,e,h1,h2,s _ _ h3,s _ _ h4⟩
theorem AsN.upd {H0 H:Hp}{R:Addr}{o:HO}{x:Nat×Int×List Nat}{v:V}:AsN H0 H R x v->AsN H0 (L2.upd H R o) R x v
 |⟨u,l,e,h1,h2,h3,h4⟩=>⟨u,l,e,h1,h2,(ao h1.1).trans h3,(ao h1.2).trans h4⟩
section
variable{P:km}{w:World}{K:ba}{mg:Str->Option Value}{base:Heap}{A:Adr}
theorem A4 (T:Txt w.params K mg A){i:Nat}:FnOk P w K mg base CX0 2 A.fq A.eM ["self"] (D6 A i):=by
 refine T.wM.ok uw (λvs H Q E h=>?_) (λcdv A' outer s H vs Q E hr h=>?_)
 ·obtain⟨o,c,st,rfl,_⟩:=h;rfl
 ·obtain⟨o,c,st,rfl,hc,hal,q⟩:=h;obtain⟨dx,aM,aP,aA,aD,aF,aE,aR,ms,ds,ws,fs,es,X⟩:=hc.ex;have lim:eg=16777216:=by decide
  refine⟨_,(ak (xC (i:=1) (scope:=iR) qW rfl rfl (Tp rfl) (hU (bh (By hr.hd) (by rfl) T.Kc Hs (aa (aZ (pv 0) rfl) af))) (λ_ _ _ _ _=>(fj (pv 1) T.ag T.oZ (z7 (i:=i) T) hr T.o9 .nil aV (aa (pv 0) af))))
 (ai (aB (bM (aa (aZ (pv 0) rfl) (aa (aZ (pv 0) rfl) (aa (bP bN (by rfl) T.iL fm (aa (aZ (pv 0) rfl) af)) (aa (pv 1) (aa (bP bN (by rfl) T.iL fm (aa (aZ (pv 0) rfl) af)) af))))))))),?_⟩
  try dsimp only[br]
  refine dh rfl X.ob T.ag T.bS gZ ⟨aA,_,_,rfl,X.aS.2,K5 st.aS ws X.wait.len,by rw[bo];exact hal,λl0 ns pm so hl0=>?_⟩
  have nl:ns.length=st.aS.length:=by rw[pm.length_eq,bo]
  have s0:=av (o:=.lst (ns.map V.int)) hl0;have hB:SqL K (upd H l0 (.lst (ns.map V.int))) l0 (ns.map V.int):=SqL.of ae;generalize upd H l0 (.lst (ns.map V.int))=H1 at s0 hB ⊢;refine⟨l0,rfl,⟨_,hB⟩,λR hR=>?_⟩
  have hR0:=same_none s0 hR;refine lD (K:=K) (a:=l0) (xs:=ns.map V.int) (λj ys H2=>aT H1 H2/\H2 R=some (.lst ys)/\bf (AsN H H2 R) ((ns.take j).map (z6 st)) ys) ⟨av hR,ae,.nil⟩ (by rw[bo];omega) ?_ ?_ ?_
  ·rintro j ys H2 hj ⟨s2,hR2,ha⟩;refine⟨s2.seq hB,hR2,?_⟩;rw[<-ha.len,bo,To];rw[bo]at hj;omega
  ·rintro j y ys H2 hy ⟨s2,hR2,ha⟩;refine aL λGq gq=>?_
   obtain⟨n,hn1,rfl⟩:∃n,ns[j]?=some n/\V.int n=y:=by
    rw[wt]at hy;cases ht:ns[j]? with
    |none=>rw[ht]at hy;cases hy
    |some t=>rw[ht]at hy;exact⟨t,rfl,om hy⟩
   have Pd:n∈st.aS.map λx=>(x.1:Int):=pm.mem_iff.mp (Ti hn1)
   obtain⟨x0,hx0,e0⟩:=List.mem_map.mp Pd;obtain⟨x,hx⟩:∃x,at1 x0.1 st.aS=some x:=by
    cases z:at1 x0.1 st.aS with
    |some x=>exact⟨x,rfl⟩
    |none=>exact absurd (List.mem_map_of_mem hx0) (zi z)
   have e0':((x0.1:Nat):Int)=n:=e0;subst e0';have s02:=s0.trans s2;have X2:=X.same s02;have ea:z6 st ((x0.1:Nat):Int)=x:=by unfold z6;rw[UM,hx];rfl
   refine gq ?_;refine mtv rfl X2.ob (bU (by trivial)) ⟨_,rfl,o,x0.1,c,st,x,rfl,X2.at,hx,λl u H3 hl hu s3 h1 h2=>?_⟩
   have hR3:=s3 _ _ hR2;refine bZ.mk (List.getElem?_eq_some_iff.mp hy).1 hR3 ⟨(s2.trans s3).own hR,ae,?_⟩;rw[Uw,hn1,ma];refine bf.snoc (ha.imp λ_ _ z=>(z.same s3).upd) ?_
   rw[ea];refine AsN.upd ⟨u,l,rfl,⟨(λz=>by rw[z,hR2]at hu;cases hu),(λz=>by rw[z,hR2]at hl;cases hl)⟩,⟨same_none s02 hu,same_none s02 hl⟩,?_,h1⟩
   rw[(kF hx).1];exact h2
  ·rintro ys H2 ⟨s2,hR2,ha⟩;rw[bo,TY]at ha;have s02:=s0.trans s2;have X2:=X.same s02;refine dh rfl X2.ob T.ag T.bJ fN (dh rfl X2.ob T.ag T.bW m9 (dh rfl X2.ob T.ag T.bg dF ⟨aP,_,rfl,.inl (SqL.of X2.aI.2),λl1 hl1=>?_⟩))
   have s3:=av (o:=.lst (st.aI.map nV)) hl1;have X3:=X2.same s3;have s03:=s02.trans s3;refine⟨_,rfl,dh rfl X3.ob T.ag T.fD vY ⟨aD,_,rfl,.inl (SqL.of X3.dec.2),λl2 hl2=>⟨(sl 5),λu hu=>?_⟩⟩⟩
   have s4:=av (o:=.lst (ds.map V.ref)) hl2;have s5:=av (o:=.tup [V.int st.a9,.bl st.closed,.ref l1,.ref R,.ref l2]) hu;have s45:=s4.trans s5;have s05:=s03.trans s45;have X5:=X3.same s45;refine q ns u _ pm so s05 ⟨l1,R,l2,ys,ds.map V.ref,bL (same_none (s03.trans s4) hu),ae,bL (same_none s02 hl1),s45 _ _ ae,bL hR0,(s3.trans s45) _ _ hR2,?_,bL (same_none s03 hl2),s5 _ _ ae,?_⟩
   ·refine ha.imp λx v z=>?_
    refine aL λGq gq=>?_
    obtain⟨u',l',e,_,⟨z1,z2⟩,z3,z4⟩:=z.same (s3.trans s45);refine gq ?_;exact⟨u',l',e,⟨bL z1,z3⟩,bL z2,z4⟩
   ·refine bf.mapR (X5.wO.imp λx t h=>⟨t,rfl,?_,h.2⟩)
    unfold bz;split
    ·exact h.1
    ·rfl
end
def isX:Rs->Bool
 | .exc _=>true
 |_=>false
def mr (d:R.bp):Prop:=pK d/\R.DOk d/\R.GC d
theorem FC (st:Ch)(m:Mn):(st.carry m).rows=st.rows:=by
 unfold Ch.carry;split
 ·split
  ·split <;> rfl
  ·rfl
 ·split
  ·split <;> rfl
  ·rfl
 ·split <;> rfl
 ·rfl
 ·split <;> rfl
 ·rfl
 ·rfl
theorem Ik {st:Ch}{d:R.bp}(hd:pK d){x:Xc}(h:(bH st d).1=.exc x):(bH st d).2=st:=by
 cases hd with
 |DW =>
  rw[g7]at h ⊢;unfold kG at h ⊢;split
  ·rfl
  ·rename_i n hn;rw[hn]at h;dsimp only at h;split
   ·rfl
   ·rename_i z;rw[if_neg z]at h;cases h
 |drop =>
  rw[g8]at h ⊢;unfold kJ at h ⊢;split
  ·rfl
  ·rename_i n hn;rw[hn]at h;cases h
 |take =>
  rw[fG]at h ⊢;unfold stepT at h ⊢;split
  ·rename_i hp;rw[if_pos hp]at h;split
   ·rfl
   ·rename_i y hy;rw[hy]at h;dsimp only at h;split
    ·rfl
    ·rename_i z;rw[if_neg z]at h;cases h
  ·rfl
 |move hm =>
  rw[g9 hm]at h ⊢;unfold mj at h ⊢;split
  ·rfl
  ·rename_i hc;rw[hc]at h;cases h
theorem K7 {st:Ch}{d:R.bp}(hd:pK d)(h:isX (bH st d).1=true):(bH st d).2=st:=by
 cases e:(bH st d).1 with
 |exc x=>exact Ik hd e
 |num n=>rw[e]at h;cases h
 |txt z=>rw[e]at h;cases h
theorem Il {st:Ch}{d:R.bp}(hd:pK d)(hn:R.DOk d)(h:isX (bH st d).1=false):(bH st d).2.rows=st.rows++[R.dq d]:=by
 cases hd with
 | @DW a b ha hb =>
  rw[g7]at h ⊢;unfold kG at h ⊢;cases e:st.aI.getLast? with
  |none=>rw[e]at h;cases h
  |some n =>
   rw[e]at h;dsimp only at h ⊢;split at h
   ·cases h
   ·rename_i hz;rw[if_neg hz];show (if _ then _ else _:Ch).rows++[_]=_
    congr 1
    split
    ·exact FC _ _
    ·rfl
 |drop =>
  rw[g8]at h ⊢;unfold kJ at h ⊢;cases e:st.aI.getLast? with
  |none=>rw[e]at h;cases h
  |some n=>rfl
 | @take z z0 z1 =>
  have zp:0<=z:=(hn.2 z (by simp)).1
  rw[fG]at h ⊢;unfold stepT at h ⊢;split at h
  ·rename_i hp;rw[if_pos hp];cases e:at1 z.toNat st.aS with
   |none=>rw[e]at h;cases h
   |some x =>
    rw[e]at h;dsimp only at h ⊢;split at h
    ·cases h
    ·rename_i hs;rw[if_neg hs];show st.rows++[R.dq (.nums _ [((z.toNat:Nat):Int)])]=_;rw[Int.toNat_of_nonneg zp]
  ·cases h
 |move hm =>
  rw[g9 hm]at h ⊢;unfold mj at h ⊢;cases e:zo st (fF d) with
  |some x=>rw[e]at h;cases h
  |none=>rfl
def cG (n:Int)(ds:List R.bp):Ch:=ds.foldl (λst d=>(bH st d).2) (DT n)
theorem jl (n:Int)(ds:List R.bp)(d:R.bp):cG n (ds++[d])=(bH (cG n ds) d).2:=by
 unfold cG;rw[List.foldl_append];rfl
structure Rep (n:Int)(ds:List R.bp)(st:Ch):Prop where
 run:cG n ds=st
 ok:∀d∈ds,mr d
 good:∀i d,ds[i]?=some d->isX (bH (cG n (ds.take i)) d).1=false
 rows:st.rows=ds.map R.dq
theorem Rep.nil (n:Int):Rep n [] (DT n):=⟨rfl,(λ_ h=>nomatch h),(λ_ _ h=>by simp at h),rfl⟩
theorem Rep.snoc {n:Int}{ds:List R.bp}{st:Ch}{d:R.bp}(h:Rep n ds st)(hd:mr d)(hx:isX (bH st d).1=false):Rep n (ds++[d]) (bH st d).2:=by
 refine⟨by rw[jl,h.run],λe he=>?_,λi e he=>?_,?_⟩
 ·rcases List.mem_append.mp he with he | he
  ·exact h.ok e he
  ·rw[Te]at he;rw[he];exact hd
 ·by_cases hi:i < ds.length
  ·rw[Ur hi]at he;rw[List.take_append_of_le_length (Nat.le_of_lt hi)];exact h.good i e he
  ·have hl:i < (ds++[d]).length:=(List.getElem?_eq_some_iff.mp he).1;rw[gr,Tg]at hl;obtain rfl:i=ds.length:=by omega
   rw[List.getElem?_concat_length]at he;cases he;rw[List.take_left,h.run];exact hx
 ·rw[Il hd.1 hd.2.1 hx,h.rows,ma];rfl
theorem K8 {d:R.bp}(h:mr d):TX (R.dq d)=true:=(R.tV h.2.1).ok
theorem Rep.Nq {n:Int}{ds:List R.bp}{st:Ch}(h:Rep n ds st):∀r∈st.rows,TX r=true:=λr hr=>by
 rw[h.rows]at hr;obtain⟨d,hd,rfl⟩:=List.mem_map.mp hr;exact K8 (h.ok d hd)
theorem ve {d:R.bp}(h:R.DOk d):(R.dq d).length<=50000:=by
 obtain⟨b1,b2,b3⟩:=R.uX h;have h1:=StrLaws.sumLen_le (B:=20) (R.gz d::R.dP d) (λw hw=>by
   rcases List.mem_cons.mp hw with rfl | hw
   ·exact b3
   ·exact b2 w hw)
 have h2:=lC 32 (R.gz d::R.dP d);unfold R.dq;rw[R.gY];rw[ky]at h1 h2;omega
theorem wj {c:Col}{H H':Hp}{t:Addr}(ht:H t=none)(hc:∀b,H b=none->c b=none):∀ {d:R.bp},R.cP H H' d t->dR c H' d t
 | .mat _,⟨L,a,b,e⟩=>⟨L,⟨hc t ht,a⟩,hc L b,e⟩
 | .ed _ _ _ _,⟨e,a,n,b⟩=>⟨e,⟨hc t ht,a⟩,hc e n,.inl b⟩
 | .pt _,h=>⟨hc t ht,h⟩
 | .nums _ _,h=>⟨hc t ht,h⟩
theorem qQ.zc {c:Col}{H H':Hp}{t:Addr}(hc:∀b,H b=none->c b=none):∀ {d:R.bp},qQ H H' d t->dR c H' d t
 | .mat _,⟨L,h1,h2,h3,h4⟩=>⟨L,⟨hc _ h1,h3⟩,hc _ h2,h4⟩
 | .ed _ _ _ _,⟨e,h1,h2,h3,h4⟩=>⟨e,⟨hc _ h1,h3⟩,hc _ h2,.inl h4⟩
 | .pt _,⟨h1,h2⟩=>⟨hc _ h1,h2⟩
 | .nums _ _,⟨h1,h2⟩=>⟨hc _ h1,h2⟩
theorem jm (n:Int):Inv 0 (DT n) :=
 ⟨kc 0,kc 0,kc 0,kc 0,(λ_ h=>nomatch h),⟨by show (1:Int)<=1;decide,by show (1:Int)<=_;decide⟩,(λ_ h=>nomatch h),(λ_ h=>nomatch h),List.nodup_nil,.nil,(λ_ h=>nomatch h),rfl,rfl,(λ_ h=>nomatch h)⟩
theorem D7 (st:Ch)(m:Mn):(st.carry m).b5=st.b5:=by
 unfold Ch.carry;split
 ·split
  ·split <;> rfl
  ·rfl
 ·split
  ·split <;> rfl
  ·rfl
 ·split <;> rfl
 ·rfl
 ·split <;> rfl
 ·rfl
 ·rfl
theorem tZ (st:Ch):st.opened.b5=st.b5:=by unfold Ch.opened;rfl
theorem D8 {st:Ch}{d:R.bp}(h:pK d):(bH st d).2.b5=st.b5:=by
 cases h with
 |DW =>
  rw[g7];unfold kG;split
  ·rfl
  ·split
   ·rfl
   ·show ((if _ then _ else _:Ch).wR _).b5=_
    unfold Ch.wR;rw[show ∀(x:Ch) (r:List Str),({ x.opened with rows:=r }:Ch).b5=x.opened.b5 from λ_ _=>rfl,tZ]
    split
    ·rw[D7];rfl
    ·rfl
 |drop =>
  rw[g8];unfold kJ;split
  ·rfl
  ·show ((_:Ch).wR _).b5=_;unfold Ch.wR;rw[show ∀(x:Ch) (r:List Str),({ x.opened with rows:=r }:Ch).b5=x.opened.b5 from λ_ _=>rfl,tZ]
   rfl
 |take =>
  rw[fG];unfold stepT;split
  ·split
   ·rfl
   ·split <;> rfl
  ·rfl
 |move h =>
  rw[g9 h];unfold mj;split <;> rfl
theorem Px {cs:List (List Str)}(h:cs.length<=12)(hw:∀ws∈cs,R.gA 8 ws):mr (.mat cs) :=
 ⟨.move ⟨h,λws z=>gA.up (hw ws z) (by decide)⟩,⟨h,λws z=>gA.up (hw ws z) (by decide)⟩,trivial⟩
theorem Py {u:Int}(h1:1<=u)(h2:u<=5):mr (.nums (ar "put off") [u]):=by
 have e10:(10:Int) ^ 10=10000000000:=by decide
 have b:∀i∈[u],1<=i/\i<=5:=λi hi=>by rw[Te]at hi;rw[hi];exact⟨h1,h2⟩
 exact⟨.move ⟨by show (ar "put off",1)∈tN;trivial,λi hi=>by have:=b i hi;omega⟩,⟨by show (ar "put off",1)∈R.cC;trivial,λi hi=>by have:=b i hi;omega⟩,λ_ i hi=>by have:=b i hi;omega⟩
theorem Cw {kd:Str}(h:(kd,0)∈tN)(h2:(kd,0)∈R.cC)(h3:¬kd=ar "put off"):mr (.nums kd []):=⟨.move ⟨h,λ_ z=>nomatch z⟩,⟨h2,λ_ z=>nomatch z⟩,λz=>absurd z h3⟩
theorem RB {ws:List Str}(h:R.gA 8 ws):mr (.pt ws):=⟨.move (gA.up h (by decide)),gA.up h (by decide),trivial⟩
theorem MG {a b:Int}(ha:0<=a/\a < 10 ^ 10)(hb:0<=b/\b < 10 ^ 10):mr (.nums (ar "vote") [a,b]) :=
 ⟨.DW ha hb,⟨by show (ar "vote",2)∈R.cC;trivial,λi hi=>by
  rcases List.mem_cons.mp hi with rfl | hi
  ·exact ha
  ·rw[Te]at hi;rw[hi];exact hb⟩,λz=>absurd z (by trivial)⟩
theorem MH:mr (.nums (ar "drop") []):=⟨.drop,⟨by trivial,λ_ z=>nomatch z⟩,λz=>absurd z (by trivial)⟩
theorem GD {z:Int}(h0:0<=z)(h1:z < 10 ^ 10):mr (.nums (ar "take") [z]) :=
 ⟨.take (by omega) h1,⟨by show (ar "take",1)∈R.cC;trivial,λi hi=>by rw[Te]at hi;rw[hi];exact⟨h0,h1⟩⟩,λz=>absurd z (by trivial)⟩
def D9 (A:Adr)(i:Nat):Sp:=λvs H Q _=>∃(o t:Addr) (c:Col) (st:Ch) (N:Nat) (d:R.bp),vs=[.ref o,.ref t]/\b9 A i c H o st/\Inv N st/\N<=800/\pK d/\jR i c H d t /\
 ∀c' H',Step (bT i) c c' H H'->b9 A i c' H' o (bH st d).2->Q (.bl (!isX (bH st d).1)) H'
abbrev EE:List V:=[V.str (ar ""),V.str (ar "a"),V.str (ar "a b"),V.str (ar "- //")]
theorem ws1 {x:Str}(h:decide (1<=x.length/\x.length<=20/\(∀c∈x.cps.toList,R.Sign c)/\x≠ar "/")=true):R.gA 8 [x]:=⟨by show 1<=8;decide,λw hw=>by rw[Te]at hw;rw[hw];exact R.DJ h⟩
theorem ws2 {x y:Str}(h:R.gA 8 [x])(h':R.gA 8 [y]):R.gA 8 [x,y]:=⟨by show 2<=8;decide,λw hw=>by
 rcases List.mem_cons.mp hw with rfl | hw
 ·exact h.wd _ (by simp)
 ·exact h'.wd _ hw⟩
theorem Pz (i:Int):∃ws:List Str,R.gA 8 ws/\atI EE (i % 4)=some (.str (ki R.bl1 ws)):=by
 have h4:i % 4=0\/i % 4=1\/i % 4=2\/i % 4=3:=by omega
 have wa:R.gA 8 [ar "a"]:=ws1 (by trivial)
 rcases h4 with h | h | h | h
 ·exact⟨[],⟨by decide,λ_ z=>nomatch z⟩,by rw[h,show ki R.bl1 []=ar "" from by trivial];rfl⟩
 ·exact⟨[ar "a"],wa,by rw[h];rfl⟩
 ·exact⟨[ar "a",ar "b"],ws2 wa (ws1 (by trivial)),by rw[h,show ki R.bl1 [ar "a",ar "b"]=ar "a b" from by trivial];rfl⟩
 ·exact⟨[ar "-",ar "//"],ws2 (ws1 (by trivial)) (ws1 (by trivial)),by rw[h,show ki R.bl1 [ar "-",ar "//"]=ar "- //" from by trivial];rfl⟩
theorem K9 (i:Int):∃k:Nat,(k=0\/k=2)/\atI [V.str (ar "put"),V.str (ar "turn")] (i % 2)=some (.str (R.kn k)):=by
 have h2:i % 2=0\/i % 2=1:=by omega
 rcases h2 with h | h
 ·exact⟨0,.inl rfl,by rw[h];rfl⟩
 ·exact⟨2,.inr rfl,by rw[h];rfl⟩
theorem Nr {m:Bool}{k:Nat}{j:Int}{ws:List Str}(hk:k=0\/k=2)(j0:0<=j)(j1:j<=3)(hw:R.gA 8 ws)(hm:m=true->ws.length=1):mr (.ed m k j ws):=by
 have e10:(10:Int) ^ 10=10000000000:=by decide
 have hk3:k=0\/k=1\/k=2:=hk.elim .inl λh=>.inr (.inr h)
 exact⟨.move ⟨hk3,⟨by omega,by omega⟩,gA.up hw (by decide),hm⟩,⟨hk3,⟨j0,by omega⟩,gA.up hw (by decide),hm⟩,trivial⟩
theorem GF {k:Nat}(hk:k=0\/k=2)(j:Int)(x:Str):R.edR k j x=[V.str (R.kn k),.int j,.str x]:=by
 unfold R.edR;rw[if_neg (by rcases hk with rfl | rfl <;> decide)]
def La:Sp:=λvs H Q _=>∃(cl n:Int),vs=[.int cl,.int n]/\1<=n/\n<=1000000000 /\
 ∀(d:R.bp) (t:Addr) (H':Hp),mr d->aT H H'->qQ H H' d t->Q (.ref t) H'
def MI:Sp:=λvs H Q _=>∃n:Int,vs=[.int n]/\Q (.bl true) H
section
variable{P:km}{w:World}{K:ba}{mg:Str->Option Value}{base:Heap}{A:Adr}
theorem zC (T:Txt w.params K mg A):FnOk P w K mg base CX0 1 A.BR A.rg ["_law_found"] MI:=by
 refine T.uR.ok EU (λvs H Q E h=>?_) (λcdv A' outer s H vs Q E hr h=>?_)
 ·obtain⟨n,rfl,_⟩:=h;rfl
 ·obtain⟨n,rfl,q⟩:=h;refine⟨_,(ai (aB (iA (bh CL (by rfl) T.mT kO (aa (pv 0) (aa (FH (v:=V.ty "int") rfl T.F6 Bh rfl) af))) (gI (NA (bh CL (by rfl) T.mT kO (aa (pv 0) (aa (FH (v:=V.ty "bool") rfl T.OG LH rfl) af)))))))),?_⟩
  try dsimp only[br]
  exact⟨_,rfl,_,_,_,true,rfl,rfl,.int _,rfl,_,rfl,dN ⟨_,rfl,_,_,_,false,rfl,rfl,.int _,rfl,_,rfl,q⟩⟩
theorem A5 (T:Txt w.params K mg A):FnOk P w K mg base CX0 2 A.EW A.uJ ["_law_cell","_law_seats"] La:=by
 refine T.yx.ok lL (λvs H Q E h=>?_) (λcdv A' outer s H vs Q E hr h=>?_)
 ·obtain⟨cl,n,rfl,_⟩:=h;rfl
 ·obtain⟨cl,n,rfl,n0,n1,q⟩:=h;refine⟨_,(ak (aY (i:=2) lL.nd rfl (Tp rfl) (aW (wg T) hr rfl T.yu T.rz.kp T.yw .nil aV (aa (pv 0) (aa aj af))))
 (ak (aY (i:=3) lL.nd rfl (Tp rfl) (bA dJ (aU a8 (pv 2) aj (λ_ _=>rfl)) aj))
 (ak (aY (i:=4) lL.nd rfl (Tp rfl) (aU a8 (bX (aa aw (aa aw (aa aw (aa aw af))))) (bA dJ (aU a8 (pv 2) aj (λ_ _=>rfl)) aj) (λ_ _=>rfl)))
 (ak (bE (aQ xn (pv 3) aj (aH _))
 (ai (aB (bM (aa aw (aa (c9 eI (bX (aa (pv 4) (aa aw af))) eG (dM (bA dJ (aU a8 (pv 2) aj (λ_ _=>rfl)) aj))) af)))))
 aO)
 (ak (bE (aQ xn (pv 3) aj (aH _))
 (ai (aB (bM (aa aw (aa (bM (aa (aU a8 (bX (aa aw (aa aw af))) (bA dJ (bA wW (aU a8 (pv 2) aj (λ_ _=>rfl)) aj) aj) (λ_ _=>rfl)) (aa (bA dJ (aU a8 (pv 2) aj (λ_ _=>rfl)) aj) (aa (pv 4) af)))) af)))))
 aO)
 (ak (bE (aQ bx (pv 3) aj (aH _))
 (ai (aB (bM (aa aw (aa (bM (aa (aU a8 (bX (aa aw (aa aw af))) (bA dJ (bA wW (aU a8 (pv 2) aj (λ_ _=>rfl)) aj) aj) (λ_ _=>rfl)) (aa (bA dJ (aU a8 (pv 2) aj (λ_ _=>rfl)) aj) (aa aw af)))) af)))))
 aO)
 (ak (bE (aQ bx (pv 3) aj (aH _))
 (ai (aB (bM (aa aw (aa (bA cv aj (bA dJ (aU a8 (pv 2) aj (λ_ _=>rfl)) aj)) af)))))
 aO)
 (ak (bE (aQ xn (pv 3) aj (aH _))
 (ai (aB (bM (aa (aU a8 (bX (aa aw (aa aw (aa aw af)))) (bA IC (pv 3) aj) (λ_ _=>rfl)) af))))
 aO)
 (ak (bE (aQ bx (pv 3) aj (aH _))
 (ai (aB (bM (aa aw (aa (pv 4) af)))))
 aO)
 (ak (bE (aQ xn (pv 3) aj (aH _))
 (ak (aY (i:=5) lL.nd rfl (Tp rfl) (bA dJ (aU a8 (pv 2) aj (λ_ _=>rfl)) (bA cv (pv 1) aj)))
 (ai (aB (bM (aa aw (aa (pv 5) (aa (bA dJ (aU a8 (pv 2) aj (λ_ _=>rfl)) (bA cv (bA IC (pv 1) (pv 5)) aj)) af)))))))
 aO)
 (ak (bE (aQ bx (pv 3) aj (aH _))
 (ai (aB (bM (aa aw af))))
 aO)
 (ai (aB (bM (aa aw (aa (bA cv aj (bA dJ (aU a8 (pv 2) aj (λ_ _=>rfl)) aj)) af)))))))))))))))),?_⟩
  try dsimp only[br]
  refine⟨_,rfl,cl,3,rfl,by decide,by decide,λzs L H0 zl hz s00 npz hL=>?_⟩
  refine aL λGq gq=>?_
  obtain⟨z0,z1,z2,rfl⟩:∃z0 z1 z2,zs=[z0,z1,z2]:=by
   match zs,zl with
   |[z0,z1,z2],_=>exact⟨z0,z1,z2,rfl⟩
   |[],h=>exact absurd h (by decide)
   |[_],h=>exact absurd h (by simp)
   |[_,_],h=>exact absurd h (by simp)
   |_::_::_::_::_,h=>simp at h;omega
  have hL:SqL K H0 L [.int z0,.int z1,.int z2]:=SqL.of hL;have q:=λd t H' hd (s:aT H0 H') hn=>q d t H' hd (s00.trans s) (qQ.pre s00 hn)
  clear s00 npz hz zl;refine gq ?_
  try dsimp only[cX]
  have a0:atI [V.int z0,V.int z1,V.int z2] 0=some (.int z0):=rfl;have a1:atI [V.int z0,V.int z1,V.int z2] 1=some (.int z1):=rfl;have a2:atI [V.int z0,V.int z1,V.int z2] 2=some (.int z2):=rfl;have e10:(10:Int) ^ 10=10000000000:=by decide
  refine ixv rfl hL a0 ⟨_,_,rfl,rfl,(by show (0:Int) < 14;decide),?_⟩
  have w0:0<=z0 % 14:=by omega
  have w1:z0 % 14 < 14:=by omega
  try dsimp only[cX]
  generalize z0 % 14=wy at w0 w1 ⊢;refine aL λGq gq=>?_
  obtain⟨ws,hws,hc⟩:=Pz z1;refine gq ?_;refine⟨(by show 4<=eg;decide),λlc hlc=>?_⟩
  have s0:aT H0 (upd H0 lc (.lst EE)):=av hlc;refine ixv rfl (s0.seq hL) a1 ⟨_,_,rfl,rfl,(by show (0:Int) < 4;decide),lc,_,_,_,rfl,rfl,SqL.of ae,hc,?_⟩
  have hL1:=s0.seq hL;have q:=λd t H' hd (s:aT (upd H0 lc (.lst EE)) H') hn=>q d t H' hd (s0.trans s) (qQ.pre s0 hn)
  try dsimp only[cX]
  generalize upd H0 lc (.lst EE)=H1 at hL1 q ⊢;clear hL s0 hlc;refine⟨_,rfl,_,_,rfl,rfl,_,rfl,eX (λh=>?_) (λg1=>?_)⟩
  ·
   refine⟨_,rfl,(by show 2<=eg;decide),λl0 hl0=>?_⟩
   have s1:=av (o:=.lst [V.str (ki R.bl1 ws),V.str (ar "b")]) hl0;obtain⟨k,hk⟩:∃k:Nat,z2 % 3=(k:Int):=⟨(z2 % 3).toNat,by omega⟩
   refine ixv rfl (s1.seq hL1) a2 ⟨_,_,rfl,rfl,(by show (0:Int) < 3;decide),_,rfl,l0,_,rfl,SqL.of ae,λl1 hl1=>?_⟩
   rw[hk,vc];refine⟨(by show 2<=eg;decide),λt ht=>?_⟩
   have e:([V.str (ki R.bl1 ws),V.str (ar "b")]:List V).take k=((([ws,[ar "b"]]:List (List Str)).take k).map (ki R.bl1)).map V.str:=by
    rw[Vp,Vp];rfl
   rw[e]at ht ⊢;have nt:l1≠t:=aG ae ht;have s2:=s1.new (o:=.lst (((([ws,[ar "b"]]:List (List Str)).take k).map (ki R.bl1)).map V.str)) hl1;have wb:R.gA 8 [ar "b"]:=ws1 (by trivial)
   refine q (.mat (([ws,[ar "b"]]:List (List Str)).take k)) t _ (Px (by rw[To];show min k 2<=12;omega) λv hv=>?_) (s2.new ht) ⟨l1,same_none s2 ht,same_none s1 hl1,ae,(ao nt).trans ae⟩
   have:=U8 hv;simp only[Uz,Ui,or_false]at this;rcases this with rfl | rfl
   ·exact hws
   ·exact wb
  ·refine⟨_,rfl,_,_,rfl,rfl,_,rfl,eX (λh=>?_) (λg2=>?_)⟩
   ·
    refine aL λGq gq=>?_
    obtain⟨k,hk3,hk⟩:=K9 (z1 / 4);refine gq ?_;refine⟨(by show 2<=eg;decide),λl0 hl0=>?_⟩
    have s1:=av (o:=.lst [V.str (ar "put"),V.str (ar "turn")]) hl0;refine ixv rfl (s1.seq hL1) a1 ⟨_,_,rfl,rfl,⟨by decide,by decide⟩,_,_,rfl,rfl,(by show (0:Int) < 2;decide),l0,_,_,_,rfl,rfl,SqL.of ae,hk,ixv rfl (s1.seq hL1) a2 ⟨_,_,rfl,rfl,(by show (0:Int) < 3;decide),_,rfl,(by show 3<=eg;decide),λte hte=>⟨(by show 2<=eg;decide),λt ht=>?_⟩⟩⟩
    have nte:te≠t:=aG ae ht;refine q (.ed false k (z2 % 3) ws) t _ (Nr hk3 (by omega) (by omega) hws λz=>nomatch z) ((s1.new hte).new ht) ⟨te,same_none (s1.new hte) ht,same_none s1 hte,ae,?_⟩
    rw[GF hk3];exact(ao nte).trans ae
   ·refine⟨_,rfl,rfl,_,rfl,eX (λh=>?_) (λg3=>?_)⟩
    ·
     refine aL λGq gq=>?_
     obtain⟨k,hk3,hk⟩:=K9 (z1 / 4);refine gq ?_;refine⟨(by show 2<=eg;decide),λl0 hl0=>?_⟩
     have s1:=av (o:=.lst [V.str (ar "put"),V.str (ar "turn")]) hl0;refine ixv rfl (s1.seq hL1) a1 ⟨_,_,rfl,rfl,⟨by decide,by decide⟩,_,_,rfl,rfl,(by show (0:Int) < 2;decide),l0,_,_,_,rfl,rfl,SqL.of ae,hk,ixv rfl (s1.seq hL1) a2 ⟨_,_,rfl,rfl,(by show (0:Int) < 3;decide),(by show 3<=eg;decide),λte hte=>⟨(by show 2<=eg;decide),λt ht=>?_⟩⟩⟩
     have nte:te≠t:=aG ae ht;refine q (.ed true k (z2 % 3) [ar "c"]) t _ (Nr hk3 (by omega) (by omega) (ws1 (by trivial)) λ_=>rfl) ((s1.new hte).new ht) ⟨te,same_none (s1.new hte) ht,same_none s1 hte,ae,?_⟩
     rw[GF hk3];exact(ao nte).trans ae
    ·refine⟨_,rfl,rfl,_,rfl,eX (λh=>?_) (λg4=>?_)⟩
     ·refine ixv rfl hL1 a1 ⟨_,_,rfl,rfl,(by show (0:Int) < 5;decide),_,_,rfl,rfl,(by show 2<=eg;decide),λt ht=>?_⟩
      exact q (.nums (ar "put off") [1+z1 % 5]) t _ (Py (by omega) (by omega)) (av ht) ⟨ht,ae⟩
     ·refine⟨_,rfl,_,_,rfl,rfl,_,rfl,eX (λh2=>?_) (λh2=>?_)⟩
      ·refine⟨(by show 3<=eg;decide),λl0 hl0=>?_⟩
       refine aL λGq gq=>?_
       have s1:=av (o:=.lst [V.str (ar "close"),.str (ar "lay"),.str (ar "rest")]) hl0;obtain⟨kd,hkd,hk⟩:∃kd:Str,mr (.nums kd [])/\atI [V.str (ar "close"),.str (ar "lay"),.str (ar "rest")] (wy - 6)=some (.str kd):=by
        have e1:¬wy < 4:=λz=>g2 (decide_eq_true z)
        have e2:¬wy=4:=λz=>g3 (decide_eq_true (by rw[z]))
        have e4:¬wy=5:=λz=>g4 (decide_eq_true (by rw[z]))
        have e3:wy < 9:=of_decide_eq_true h2;have h3:wy - 6=0\/wy - 6=1\/wy - 6=2:=by omega
        rcases h3 with e | e | e
        ·exact⟨ar "close",Cw (by trivial) (by trivial) (by trivial),by rw[e];rfl⟩
        ·exact⟨ar "lay",Cw (by trivial) (by trivial) (by trivial),by rw[e];rfl⟩
        ·exact⟨ar "rest",Cw (by trivial) (by trivial) (by trivial),by rw[e];rfl⟩
       refine gq ?_;refine⟨_,rfl,_,_,rfl,rfl,l0,_,_,_,rfl,rfl,SqL.of ae,hk,(by show 1<=eg;decide),λt ht=>?_⟩
       exact q (.nums kd []) t _ hkd (s1.new ht) ⟨same_none s1 ht,ae⟩
      ·refine⟨_,rfl,rfl,_,rfl,eX (λh=>?_) (λh=>?_)⟩
       ·exact⟨_,rfl,(by show 2<=eg;decide),λt ht=>q (.pt ws) t _ (RB hws) (av ht) ⟨ht,ae⟩⟩
       ·refine⟨_,rfl,_,_,rfl,rfl,_,rfl,eX (λh=>?_) (λh=>?_)⟩
        ·refine ixv rfl hL1 a1 ⟨_,rfl,_,_,rfl,rfl,_,_,rfl,rfl,(by show (0:Int) < n+1;omega),?_⟩
         have y0:0<=z1 % (n+1):=Int.emod_nonneg _ (by omega)
         have y1:z1 % (n+1) < n+1:=Int.emod_lt_of_pos _ (by omega)
         dsimp only[cX];generalize z1 % (n+1)=ay at y0 y1 ⊢;refine⟨_,rfl,ixv rfl hL1 a2 ⟨_,rfl,_,rfl,_,_,rfl,rfl,_,_,rfl,rfl,_,_,rfl,rfl,(by show (0:Int) < n - ay+1;omega),(by show 3<=eg;decide),λt ht=>?_⟩⟩
         have x0:0<=z2 % (n - ay+1):=Int.emod_nonneg _ (by omega)
         have x1:z2 % (n - ay+1) < n - ay+1:=Int.emod_lt_of_pos _ (by omega)
         exact q (.nums (ar "vote") [ay,z2 % (n - ay+1)]) t _ (MG ⟨y0,by omega⟩ ⟨x0,by omega⟩) (av ht) ⟨ht,ae⟩
        ·refine⟨_,rfl,rfl,_,rfl,eX (λh=>?_) (λh=>?_)⟩
         ·exact⟨(by show 1<=eg;decide),λt ht=>q (.nums (ar "drop") []) t _ MH (av ht) ⟨ht,ae⟩⟩
         ·refine ixv rfl hL1 a1 ⟨_,_,rfl,rfl,(by show (0:Int) < 9;decide),_,_,rfl,rfl,(by show 2<=eg;decide),λt ht=>?_⟩
          exact q (.nums (ar "take") [1+z1 % 9]) t _ (GD (by omega) (by omega)) (av ht) ⟨ht,ae⟩
theorem FD (T:Txt w.params K mg A){i:Nat}:FnOk P w K mg base (CXX P w) 9 A.BS A.pW ["_law_chamber","_law_deed_here"] (D9 A i):=by
 refine T.Dv.okX uz (λvs H Q E h=>?_) (λcdv A' outer s H vs Q E hr h=>?_)
 ·obtain⟨o,t,c,st,N,d,rfl,_⟩:=h;rfl
 ·obtain⟨o,t,c,st,N,d,rfl,hc,I,hN,hd,hdc,q⟩:=h;refine⟨_,(au (psx (aY (i:=2) uz.nd rfl (Tp rfl) ni))
 (au (FW ⟨rfl,rfl⟩ (aJ (bD (bu (rK (i:=i) T) hr rfl T.uP T.pZ.kp T.uQ (pax (aa (pv 0) (aa (pv 1) af))))))
 (Jo rfl T.cy (λ_=>(ai (aY (i:=2) uz.nd rfl (Tp rfl) ni))) (Bq ⟨rfl,rfl⟩)))
 (aJ (psx (aB (pv 2)))))),?_⟩
  try dsimp only[br]
  refine⟨_,rfl,_,rfl,o,t,c,st,N,d,rfl,hc,I,hN,hd,hdc,?_⟩;generalize bH st d=rs at q ⊢;obtain⟨r,st'⟩:=rs;cases r with
  |num n=>exactλc1 H1 s1 hc1=>⟨_,rfl,q c1 H1 s1 hc1⟩
  |txt z=>exactλc1 H1 s1 hc1=>⟨_,rfl,q c1 H1 s1 hc1⟩
  |exc x=>exactλc1 H1 C e s1 hc1 hat he=>⟨true,Xc.mat T hat,dN ⟨_,rfl,q c1 H1 s1 hc1⟩⟩
theorem Im (T:Txt w.params K mg A):FnOk P w K mg base CX0 9 A.BS A.pW ["_law_chamber","_law_deed_here"] (λvs H Q E=>∃i,D9 A i vs H Q E) :=
 Gz λi=>(FD T).calm λ_ _ _ _ h=>h
end
def Cy (n:Int)(z:Str):Prop:=z.length<=50000/\R.Asc z/\(R.bO (PySem.Txt.split z R.bl1)=none\/∃d,R.bO (PySem.Txt.split z R.bl1)=some d/\pK d/\∀(N:Nat) (st:Ch),Inv N st->N<=600->st.b5=n->isX (bH st d).1=true)
theorem Lb {N:Nat}{st:Ch}(I:Inv N st)(hN:N<=600){z:Int}(h:z=0\/z=10000):isX (bH st (.nums (ar "take") [z])).1=true:=by
 have e:at1 z.toNat st.aS=none:=by
  cases e:at1 z.toNat st.aS with
  |none=>rfl
  |some x =>
   obtain⟨k1,k2⟩:=kF e;obtain⟨r,hr⟩:=(I.asd x k2).2.1;have hn:=I.pJ k2 x.1 (by rw[hr];exact gc)
   have h1:=hn.1;have h2:=hn.2;have h3:=I.lm;rcases h with rfl | rfl
   ·have:x.1=0:=k1;omega
   ·have:x.1=10000:=k1;omega
 rw[fG];unfold stepT;split
 ·rw[e];rfl
 ·rfl
theorem Lc {n:Int}{z:Str}{d:R.bp}(e:z=R.dq d)(o:R.DOk d)(so:R.GC d)(hn:R.norm d=d)(hd:pK d)(h:∀(N:Nat) (st:Ch),Inv N st->N<=600->st.b5=n->isX (bH st d).1=true):Cy n z:=by
 subst e;exact⟨ve o,R.tV o,.inr ⟨d,by rw[R.row_read o so,hn],hd,h⟩⟩
theorem A6 {n:Int}{z:Str}(h:decide (z.length<=50000/\(∀c∈z.cps.toList,c < 128)/\(R.bO (PySem.Txt.split z R.bl1)).isNone=true)=true):Cy n z:=by
 obtain⟨a,b,c⟩:=of_decide_eq_true h;refine⟨a,b,.inl ?_⟩;cases e:R.bO (PySem.Txt.split z R.bl1) with
 |none=>rfl
 |some d=>rw[e]at c;cases c
theorem bf.atB {α β:Type}{R:α->β->Prop}:∀ {as:List α} {bs:List β},bf R as bs->∀ {k:Nat} {b:β},bs[k]?=some b->∃a,as[k]?=some a/\R a b
 |_,_,.nil,k,b,h=>by simp at h
 |_,_,.cons h t,0,b,e=>⟨_,rfl,by cases e;exact h⟩
 |_,_,.cons h t,k+1,b,e=>t.atB (k:=k) (by simpa using e)
theorem S2 {n:Int}{z:Str}(h:z∈[ar "closed",ar "take 10000",ar ""]):Cy n z:=by
 have e10:(10:Int) ^ 10=10000000000:=by decide
 simp only[Uz,Ui,or_false]at h;rcases h with rfl | rfl | rfl
 ·exact A6 (by trivial)
 ·have r:mr (.nums (ar "take") [10000]):=GD (by omega) (by omega)
  exact Lc (d:=.nums (ar "take") [10000]) (by trivial) r.2.1 r.2.2 rfl r.1 λN st I hN _=>Lb I hN (.inr rfl)
 ·exact A6 (by trivial)
abbrev cNo:Col:=λ_=>none
def MJ (A:Adr)(K:ba):Sp:=λvs H Q _=>∃(l:Addr) (ts:List Addr) (es:List R.bp) (n:Int),vs=[.ref l,.int n]/\SqL K H l (ts.map V.ref)/\bf (dR cNo H) es ts/\(∀e∈es,mr e)/\es.length<=40 /\
 ∀ds st p H',Rep n ds st->ds.length<=40->aT H H'->H p=none->H' p=some (.lst (st.rows.map V.str))->Q (.ref p) H'
section
variable{P:km}{w:World}{K:ba}{mg:Str->Option Value}{base:Heap}{A:Adr}
theorem ua (T:Txt w.params K mg A):FnOk P w K mg base CX0 10 A.uK A.mQ ["_law_deeds","_law_seats"] (MJ A K):=by
 refine T.oW.ok f6 (λvs H Q E h=>?_) (λcdv A' outer s H vs Q E hr h=>?_)
 ·obtain⟨l,ts,es,n,rfl,_⟩:=h;rfl
 ·obtain⟨l,ts,es,n,rfl,hS,ha,hok,hel,q⟩:=h;refine⟨_,(ak (aY (i:=2) f6.nd rfl (Tp rfl) (cZ T.lR (zv T) (hr.mono (by decide)) rfl T.lQ T.eC .nil aV (aa (pv 1) af)))
 (ak (aY (i:=3) f6.nd rfl (Tp rfl) aj)
 (ak (ug Vj rfl (hU (pv 0)) (dI (i:=4) f6.nd rfl (Tp rfl))
 (ai (aY (i:=3) f6.nd rfl (Tp rfl) (bA cv (pv 3) (bP Ae (by rfl) T.F6 Bh (aa (aW (Im T) hr rfl T.J8 T.Dv.kp T.J9 .nil aV (aa (pv 2) (aa (pv 4) af))) af))))))
 (ai (aB (c9 eI (cJ (pv 2) T.ag T.sY (Fz (i:=1) T) (hr.mono (by decide)) T.tf .nil aV) eG (dM (pv 3)))))))),?_⟩
  try dsimp only[br]
  have etl:(ts.map V.ref).length=es.length:=by rw[bo,ha.len]
  refine⟨_,rfl,λo d1 ho1 hd1 ne1=>⟨o,d1,n,rfl,ae,λH2 h2=>⟨rfl,?_⟩⟩⟩
  refine aL λGq gq=>?_
  obtain⟨c1,k1,ch1⟩:=h2 1 cNo;have st1:Step (bT 1) cNo c1 H H2:=mq aC ho1 hd1 k1;have sm:∀ {c':Col} {H':Hp},Step (bT 1) cNo c' H H'->aT H H':=λs a v h=>s.keep a v h aC
  refine gq ?_
  try dsimp only[cX]
  refine⟨_,rfl,l,rfl,⟨_,(sm st1).seq hS⟩,?_⟩;refine rQ (K:=K) (a:=l) (xs:=ts.map V.ref) (λk σ Hk=>∃(v4:Option V) (ck:Col) (ds:List R.bp) (st:Ch),σ=[some (.ref l),some (.int n),some (.ref o),some (.int (ds.length:Int)),v4]/\Step (bT 1) cNo ck H Hk/\b9 A 1 ck Hk o st/\Rep n ds st/\Inv (3 * k) st/\ds.length<=k)
   ⟨_,c1,[],DT n,rfl,st1,ch1,Rep.nil n,jm n,kc _⟩ (λk σ Hk _ ⟨_,_,_,_,_,sk,_⟩=>(sm sk).seq hS) ?_ ?_
  ·rintro k y σ Hk hy ⟨v4,ck,ds,st,rfl,sk,chk,rep,I,hdl⟩;refine aL λGq gq=>?_
   have kl:k < es.length:=by rw[<-etl];exact(List.getElem?_eq_some_iff.mp hy).1
   rw[wt]at hy;obtain⟨t,ht,rfl⟩:∃t,ts[k]?=some t/\V.ref t=y:=by
    cases e:ts[k]? with
    |none=>rw[e]at hy;cases hy
    |some t=>rw[e]at hy;exact⟨t,rfl,om hy⟩
   obtain⟨d,hdk,hz⟩:=ha.atB ht;have hd:=hok d (Ti hdk);refine gq ?_;refine⟨_,rfl,_,rfl,_,rfl,1,o,t,ck,st,3 * k,d,rfl,chk,I,by omega,hd.1,(hz.step sk).c,λc7 H7 s7 ch7=>.inr ⟨_,rfl,_,_,rfl,rfl,?_⟩⟩
   have I':=I.bH (by omega) hd.1
   have e3:3 * (k+1)=3 * k+3:=by omega
   have t7:=sk.trans s7;cases hx:isX (bH st d).1 with
   |true =>
    rw[K7 hd.1 hx]at ch7;exact⟨some (.ref t),c7,ds,st,(by simp),t7,ch7,rep,by rw[e3];exact I.mono (by omega),by omega⟩
   |false =>
    refine⟨some (.ref t),c7,ds++[d],_,?_,t7,ch7,rep.snoc hd hx,by rw[e3];exact I',by rw[gr,Tg];omega⟩
    rw[gr,Tg];simp
  ·rintro σ Hk ⟨v4,ck,ds,st,rfl,sk,chk,rep,I,hdl⟩;refine aL λGq gq=>?_
   rw[etl]at hdl;obtain⟨dx,aM,aP,aA,aD,aF,aE,aR,ms,dss,ws,fs,es,X⟩:=chk.ex;have er:(st.rows.map V.str).length=ds.length:=by rw[rep.rows,bo,bo]
   refine gq ?_;refine mtv rfl X.ob (bU (by trivial)) ⟨o,ck,st,rfl,chk,λl2 hl2=>?_⟩
   have s2:=(sm sk).new (o:=.lst (st.rows.map V.str)) hl2;refine⟨_,rfl,_,rfl,l2,_,rfl,SqL.of ae,λp hp=>?_⟩
   rw[vc,<-er,TY];exact q ds st p _ rep (by omega) (s2.new hp) (s2.free hp) ae
end
def ub (st:Ch):PyData:=.list (st.made.map mnD)
theorem xa {N:Nat}{st:Ch}(I:Inv N st):(ub st).canLay0=true:=by
 unfold ub;simp only[Tt];exact tX λm hm=>Pw (I.mok m hm)
theorem Ea (m:Mn):(mnD m).depth<=12:=by
 cases m with
 |mat tx =>
  have:=zB tx;unfold mnD;simp only[TN,TC]at this ⊢;omega
 |chg e =>
  have:=K2 e;unfold mnD;simp only[TN,TC];omega
 |mnd e =>
  have:=K2 e;unfold mnD;simp only[TN,TC];omega
 |_=>unfold mnD;simp only[TN,TC];omega
theorem GG (st:Ch):(ub st).depth<=64:=by
 have:=fQ (f:=mnD) Ea st.made;unfold ub;simp only[TN];omega
theorem A7 {st:Ch}{k:Nat}(hk:k < st.made.length):st.made.take (k+1)=st.made.take k++[st.mo (k+1)]:=by
 rw[Uw,sr hk];unfold Ch.mo;simp[List.getD,hk]
def nsO (st:Ch):List Int:=(st.aS.map λx=>(x.1:Int)).mergeSort (λa b=>decide (a<=b))
theorem FE {st:Ch}{ns:List Int}(p:Vn ns (st.aS.map λx=>(x.1:Int)))(s:ns.Pairwise (·<=·)):ns=nsO st:=by
 refine we (p.trans (List.mergeSort_perm _ _).symm) s ?_;have:=List.pairwise_mergeSort (le:=λa b:Int=>decide (a<=b)) (by intro a b c h1 h2;simp at *;omega) (by intro a b;simp;omega) (st.aS.map λx=>(x.1:Int))
 exact this.imp λh=>of_decide_eq_true h
def al (s1 s2:Ch):Bool:=T2 (stD s1 (nsO s1)) (stD s2 (nsO s2)) && T2 (ub s1) (ub s2)
def Frz (c:Col)(H0 H:Hp):Prop:=∃a ob kvs,c a≠none/\H0 a=some (.dK kvs)/\H=upd H0 a (.frz ob (.dK kvs))
theorem Frz.rd {c:Col}{H0 H:Hp}(f:Frz c H0 H){b:Addr}{kvs:List (Key×V)}(h:H0 b=some (.dK kvs)):Rd H b (.dK kvs):=by
 obtain⟨a,ob,kv,_,ha,rfl⟩:=f
 by_cases e:b=a
 ·subst e;rw[ha]at h;cases h;exact .inr ⟨ob,ae⟩
 ·exact .inl ((ao e).trans h)
theorem Frz.at {c:Col}{H0 H:Hp}(f:Frz c H0 H){b:Addr}{v:HO}(h:H0 b=some v)(n:∀kvs,v≠.dK kvs):H b=some v:=by
 obtain⟨a,ob,kv,_,ha,rfl⟩:=f;exact(ao (Ab h ha (n kv))).trans h
theorem Frz.step {c:Col}{H0 H:Hp}(f:Frz c H0 H):Step (λx=>x≠none) c c H0 H:=by
 obtain⟨a,ob,kv,hc,ha,rfl⟩:=f;exact Step.upd (λh=>h rfl) hc
def Io (A:Adr)(i:Nat):Sp:=λvs H Q _=>∃(o:Addr) (n:Nat) (c:Col) (st:Ch) (H0:Hp),vs=[.ref o,nV n]/\Frz c H0 H/\b9 A i c H0 o st/\eE st n/\∀u H',aT H H'->MnT (bz c H) H' (st.mo n) u->Q (.ref u) H'
def Ld (A:Adr)(K:ba)(i:Nat):Sp:=λvs H Q _=>∃(o:Addr) (c:Col) (st:Ch) (N:Nat),vs=[.ref o]/\b9 A i c H o st/\Inv N st/\N<=800/\∀l H',aT H H'->DV K H' (ub st) (.ref l)->Q (.ref l) H'
section
variable{P:km}{w:World}{K:ba}{mg:Str->Option Value}{base:Heap}{A:Adr}
theorem FF (T:Txt w.params K mg A){i:Nat}:FnOk P w K mg base (CXX P w) 3 A.eN A.d5 ["self","number"] (Io A i):=by
 have zh:∀k,k < 8->FnOk P w K mg base CX0 2 (A.ft k) (A.ftd k) ["self"] (w6 A K k):=zg T;refine T.lT.okX j6 (λvs H Q E h=>?_) (λcdv A' outer s H vs Q E hr h=>?_)
 ·obtain⟨o,n,c,st,H0,rfl,_⟩:=h;rfl
 ·obtain⟨o,n,c,st,H0,rfl,f,hc,hn,q⟩:=h;obtain⟨dx,aM,aP,aA,aD,aF,aE,aR,ms,ds,ws,fs,es,X⟩:=hc.ex;have hu1:=hr.u1;have hgd:=hr.gd;refine⟨_,(au (b6 (Ei (uu hu1 (pv 1) (aZ (pv 0) rfl)))
 (aJ (fJ T.vW rfl rfl T.yS (aa (r8 (eY (mD (pv 1) mB))) af)))
 (i3 aO))
 (aJ (psx (aB (gK (n:=8) (Cf:=A.C) (i6 hu1 (aZ (pv 0) rfl) (pv 1) (λ_ _=>rfl)) T.cl T.E2 zh hr T.E3 aV))))),?_⟩
  try dsimp only[br]
  refine⟨_,rfl,dh rfl (f.at X.ob λ_ z=>nomatch z) T.ag T.bw dE ⟨aM,(_),rfl,.inl ⟨_,kr (n:Int),f.rd X.made.2,rfl,rfl⟩,_,rfl,?_⟩⟩
  refine aL λGq gq=>?_
  obtain⟨mo,hv,hmo⟩:=X.Kz hn;refine gq ?_;rw[hv];refine df ?_;refine aL λGq gq=>?_
  obtain⟨_,dm,v,hm,hvv⟩:=hmo;have hm:=f.at hm λ_ z=>nomatch z
  have hvv:=hvv.step f.step;refine gq ?_;refine dh rfl (f.at X.ob λ_ z=>nomatch z) T.ag T.bw dE ⟨_,rfl,aM,(_),rfl,.inl ⟨_,kr (n:Int),f.rd X.made.2,rfl,hv.symm⟩,(st.mo n).k,(st.mo n).k8,mo,dm,_,rfl,hm,B6 _ v,?_⟩
  generalize st.mo n=m at hm hvv q
  by_cases h0:m.k=0
  ·obtain⟨tx,rfl⟩:∃tx,m=.mat tx:=by cases m <;> first | exact⟨_,rfl⟩ | exact absurd h0 (by simp[Mn.k])
   refine aL λGq gq=>?_
   obtain⟨p,rfl,hp⟩:=hvv;refine gq ?_;refine .inl ⟨rfl,mo,dm,p,tx.map V.str,rfl,hm,SqL.of hp.2,λp2 u hp2 hu npu=>?_⟩
   have nu:(upd H p2 (.lst (tx.map V.str))) u=none:=(ao (Tr npu)).trans hu;exact q u _ ((av hp2).new nu) ⟨bL hu,.ref p2,ae,p2,rfl,bL hp2,(ao npu).trans ae⟩
  ·refine .inr ⟨by omega,mo,dm,v,rfl,hm,λu hu=>?_⟩
   have su:=av (o:=.tup (rowOf m.k v)) hu;exact q u _ su ⟨bL hu,v,ae,hvv.step (Step.cl (W:=λ_=>False) id su)⟩
theorem A8 {H:Hp}{a:Addr}{v u:HO}(h:H a=some v):upd (upd H a u) a v=H:=by
 funext b
 by_cases e:b=a
 ·rw[e,ae,h]
 ·rw[ao e,ao e]
theorem MK {H H':Hp}{a:Addr}{u:HO}(s:aT H H'):aT (upd H a u) (upd H' a u):=λb v h=>by
 by_cases e:b=a
 ·rw[e,ae]at h ⊢;exact h
 ·rw[ao e]at h ⊢;exact s b v h
theorem RC {c:Col}{H:Hp}{a:Addr}{v u:HO}(h:H a=some v):bz c (upd H a u)=bz c H:=by
 funext b
 unfold bz
 by_cases e:b=a
 ·rw[e,ae,h];rfl
 ·rw[ao e]
theorem zD {H:Hp}{a b:Addr}{u v:HO}(n:a≠b):upd (upd H b v) a u=upd (upd H a u) b v:=by
 funext x
 by_cases e:x=a
 ·rw[e,ae,ao n,ae]
 ·rw[ao e]
  by_cases f:x=b
  ·rw[f,ae,ae]
  ·rw[ao f,ao f,ao e]
theorem zE (T:Txt w.params K mg A){i:Nat}(hi:i≠0):FnOk P w K mg base CX0 4 A.cO A.cE ["self"] (Ld A K i):=by
 refine T.nO.ok mE (λvs H Q E h=>?_) (λcdv A' outer s H vs Q E hr h=>?_)
 ·obtain⟨o,c,st,N,rfl,_⟩:=h;rfl
 ·obtain⟨o,c,st,N,rfl,hc,I,hN,q⟩:=h;obtain⟨dx,aM,aP,aA,aD,aF,aE,aR,ms,ds,ws,fs,es,X⟩:=hc.ex;refine⟨_,(ai (aB (pe_thaw (j3 (scope:=eP) kP rfl (pi_dict (aZ (pv 0) rfl)) (λ_ _ _ _ _=>(fj (pv 1) T.ag T.lS (FF (i:=i) T) hr T.lU .nil mz (aa (pv 0) af))))))),?_⟩
  try dsimp only[br]
  have lim:eg=16777216:=by decide
  have lm:=I.lm;have ml:=X.mot.len;have hk:(bc ((TF 1 st.made.length).zip (ms.map V.ref))).map (·.1)=((TF 1 st.made.length).map λn:Nat=>(n:Int)).map kr:=by
   unfold bc;rw[U9,U9,<-List.map_fst_zip (l₁:=TF 1 st.made.length) (l₂:=ms.map V.ref) (by rw[Ue,bo];omega),U9,List.map_fst_zip (by rw[Ue,bo];omega)]
   rfl
  have nl:((TF 1 st.made.length).map λn:Nat=>(n:Int)).length=st.made.length:=by rw[bo,Ue]
  have cM0:c aM=some (i,.made):=X.made.1;have hM:H aM=some (.dK (bc ((TF 1 st.made.length).zip (ms.map V.ref)))):=X.made.2;refine⟨aM,_,hM,dh rfl X.ob T.ag T.bw dE ⟨aM,(_),_,rfl,hM,hk,λob R hR=>?_⟩⟩
  generalize bc ((TF 1 st.made.length).zip (ms.map V.ref))=kv at hM hR ⊢;have nR:aM≠R:=λz=>by rw[<-z,ae]at hR;cases hR
  have hR0:H R=none:=(ao (Tr nR)).symm.trans hR;have e0:upd (upd (upd H aM (.frz ob (.dK kv))) R (.lst [])) aM (.dK kv)=upd H R (.lst []):=by
   rw[zD nR]
   congr 1
   exact A8 hM
  have s0:Step (bT 0) c (aN c R (some (0,.ob))) H (upd H R (.lst [])):=Step.new aC hR0;refine comp_dict (λk ys H2=>∃(c2:Col) (ts:List Addr),aT H (upd H2 aM (.dK kv))/\H2 aM=some (.frz ob (.dK kv))/\H2 R=some (.lst ys)/\c2 R=some (0,.ob)/\c2 aM≠none/\ys=ts.map V.ref/\b9 A i c2 (upd H2 aM (.dK kv)) o st/\bf (MnT c2 H2) (st.made.take k) ts)
   ⟨aN c R (some (0,.ob)),[],(by rw[e0];exact av hR0),(ao nR).trans ae,ae,bj,(by rw[az nR,cM0];exactλz=>nomatch z),rfl,(by rw[e0];exact hc.free (λr=>jO hi r) s0),.nil⟩ (by omega) ?_ ?_ ?_
  ·rintro k ys H2 hk ⟨c2,ts,s2,hf,hR2,cR,cM,rfl,hc2,ha⟩;refine⟨hf,hR2,?_⟩;rw[bo,<-ha.len,To];omega
  ·rintro k x ys H2 hx ⟨c2,ts,s2,hf,hR2,cR,cM,rfl,hc2,ha⟩;refine aL λGq gq=>?_
   have hk:k < st.made.length:=by rw[<-nl];exact(List.getElem?_eq_some_iff.mp hx).1
   obtain rfl:((k+1:Nat):Int)=x:=by
    rw[wt,List.getElem?_range' hk]at hx;have:((1+1 * k:Nat):Int)=x:=om hx;omega
   have hn:eE st (k+1):=⟨by omega,by omega⟩
   have fz:Frz c2 (upd H2 aM (.dK kv)) H2:=⟨aM,ob,kv,cM,ae,(A8 hf).symm⟩;obtain⟨dx2,aM2,aP2,aA2,aD2,aF2,aE2,aR2,ms2,ds2,ws2,fs2,es2,X2⟩:=hc2.ex;refine gq ?_;refine mtv rfl (fz.at X2.ob λ_ z=>nomatch z) (bU (by trivial)) ⟨_,rfl,o,k+1,c2,st,_,rfl,fz,hc2,hn,λu H3 s3 hm=>?_⟩
   have t3:Step (bT 0) c2 (bz c2 H2) H2 H3:=Step.cl aC s3;have cR3:bz c2 H2 R=some (0,.ob):=(rD hR2).trans cR;have cM3:bz c2 H2 aM≠none:=by rw[rD hf];exact cM
   have t4:Step (bT 0) (bz c2 H2) (bz c2 H2) H3 (upd H3 R (.lst (ts.map V.ref++[.ref u]))):=Step.upd aC ⟨.ob,cR3⟩;have sT:aT (upd H2 aM (.dK kv)) (upd H3 aM (.dK kv)):=MK s3;have tT:Step (bT 0) c2 (bz c2 H2) (upd H2 aM (.dK kv)) (upd H3 aM (.dK kv)):=by
    have:=Step.cl (W:=bT 0) (c:=c2) aC sT;rw[RC hf]at this;exact this
   have tR:Step (bT 0) (bz c2 H2) (bz c2 H2) (upd H3 aM (.dK kv)) (upd (upd H3 aM (.dK kv)) R (.lst (ts.map V.ref++[.ref u]))):=Step.upd aC ⟨.ob,cR3⟩;refine bZ.mk (by omega) (s3 _ _ hR2) ⟨_,ts++[u],?_,(ao nR).trans (s3 _ _ hf),ae,cR3,cM3,?_,?_,?_⟩
   ·rw[zD nR];exact(s2.trans sT).own hR0
   ·rw[ma];rfl
   ·rw[zD nR];exact hc2.free (λr=>jO hi r) (tT.trans tR)
   ·rw[A7 hk];exact bf.snoc (ha.imp λ_ _ z=>(z.step t3).step t4) (hm.step t4)
  ·rintro ys H2 ⟨c2,ts,s2,hf,hR2,cR,cM,rfl,hc2,ha⟩;rw[nl,TY]at ha;refine⟨ob,hf,q R _ s2 ?_⟩;have tt:Step (λx=>x≠none) c2 c2 H2 (upd H2 aM (.dK kv)):=Step.upd (λh=>h rfl) cM
   unfold ub DV;exact⟨R,_,rfl,SqL.of ((ao (Tr nR)).trans hR2),bf.dvs (R:=λm v=>∃t,v=V.ref t/\MnT c2 (upd H2 aM (.dK kv)) m t) (λm v ⟨t,e,h⟩=>by rw[e];exact h.dv) (bf.mapR (ha.imp λm t h=>⟨t,rfl,h.step tt⟩))⟩
end
def Eb (A:Adr)(i:Nat):Sp:=λvs H Q E=>∃(o:Addr) (z:Str) (n:Int) (c:Col) (st:Ch) (N:Nat),vs=[.ref o,.str z,.int n]/\b9 A i c H o st/\Inv N st/\N<=600/\0<=n/\n<=1000 /\
  ((∃d,z=R.dq d/\mr d/\isX (bH st d).1=false/\∀c' H',Step (bT i) c c' H H'->b9 A i c' H' o (bH st d).2->Q .non H') \/
   (Cy st.b5 z/\∀c' H' dd,Step (bT i) c c' H H'->H' dd=some (.xd [("row",.int n)])->E (.ref A.bC) (some dd) H'))
def Iq (A:Adr)(i:Nat):Sp:=λvs H Q E=>∃(n:Int) (l:Addr) (c:Col) (ds:List R.bp) (st:Ch) (k:Nat) (tl:List Str),vs=[.int n,.ref l]/\c l=none/\H l=some (.lst (((ds.take k).map R.dq++tl).map V.str))/\Rep n ds st/\ds.length<=50/\k<=ds.length /\
 ((tl=[]/\∀o c' H',Step (bT i) c c' H H'->b9 A i c' H' o (cG n (ds.take k))->Q (.ref o) H') \/
 (∃z r,tl=z::r/\Cy n z/\∀c' H' dd,Step (bT i) c c' H H'->H' dd=some (.xd [("row",.int ((k+1:Nat):Int))])->E (.ref A.bC) (some dd) H'))
theorem GH:∀ {xs:List PyData},(∀x∈xs,∀y,T2 x y=T2 y x)->∀ys,Uy xs ys=Uy ys xs
 |[],_,[]=>rfl
 |[],_,_::_=>by simp only[Uy]
 |_::_,_,[]=>by simp only[Uy]
 |x::xs,h,y::ys=>by
  simp only[Uy];rw[h x gc y,GH (λz hz=>h z (kf _ hz)) ys]
theorem ML {α:Type}[BEq α][LawfulBEq α](a b:α):(a == b)=(b == a):=Bool.eq_iff_iff.mpr ⟨λh=>by rw[eq_of_beq h];exact beq_self_eq_true _,λh=>by rw[eq_of_beq h];exact beq_self_eq_true _⟩
theorem Le:∀(n:Nat) (a b:PyData),sizeOf a<=n->T2 a b=T2 b a:=by
 intro n
 induction n with
 |zero =>
  intro a b h;cases a <;> simp at h
 |succ n ih =>
  intro a b h;have go:∀xs:List PyData,sizeOf xs < sizeOf a->∀ys,Uy xs ys=Uy ys xs:=λxs hx ys=>GH (λx hm y=>ih x y (by have:=List.sizeOf_lt_of_mem hm;omega)) ys
  cases a <;> cases b <;> simp only[T2] <;> first | exact ML _ _ | exact go _ (by simp) _
theorem GI (a b:PyData):T2 a b=T2 b a:=Le _ a b (kc _)
theorem PB (s1 s2:Ch):al s1 s2=al s2 s1:=by unfold al;rw[GI (stD s1 _),GI (ub s1)]
def alN (n:Int)(d1 d2:List R.bp)(j:Nat):Bool:=al (cG n (d1.take (j+1))) (cG n (d2.take (j+1)))
def Due (n:Int)(d1 d2:List R.bp)(v:V):Prop:=(∃j,j < min d1.length d2.length/\alN n d1 d2 j=false/\(∀i,i < j->alN n d1 d2 i=true)/\v=.int ((j+1:Nat):Int)) \/
 ((∀i,i < min d1.length d2.length->alN n d1 d2 i=true)/\v=if d1.length=d2.length then .non else .int ((min d1.length d2.length+1:Nat):Int))
theorem Due.one {n:Int}{d1 d2:List R.bp}{v u:V}(h:Due n d1 d2 v)(g:Due n d1 d2 u):v=u:=by
 rcases h with ⟨j,h1,h2,h3,rfl⟩ | ⟨h3,rfl⟩ <;> rcases g with ⟨k,g1,g2,g3,rfl⟩ | ⟨g3,rfl⟩
 ·rcases Nat.lt_trichotomy j k with l | rfl | l
  ·rw[g3 j l]at h2;cases h2
  ·rfl
  ·rw[h3 k l]at g2;cases g2
 ·rw[g3 j h1]at h2;cases h2
 ·rw[h3 k g1]at g2;cases g2
 ·rfl
theorem Due.sym {n:Int}{d1 d2:List R.bp}{v:V}(h:Due n d1 d2 v):Due n d2 d1 v:=by
 have e:∀i,alN n d2 d1 i=alN n d1 d2 i:=λi=>PB _ _
 rcases h with ⟨j,h1,h2,h3,rfl⟩ | ⟨h3,rfl⟩
 ·exact .inl ⟨j,by omega,by rw[e];exact h2,λi hi=>by rw[e];exact h3 i hi,rfl⟩
 ·refine .inr ⟨λi hi=>by rw[e];exact h3 i (by omega),?_⟩
  rw[Nat.min_comm]
  by_cases h:d1.length=d2.length
  ·rw[if_pos h,if_pos h.symm]
  ·rw[if_neg h,if_neg (Tr h)]
structure d6 (n:Int)(H:Hp)(l:Addr)(ds:List R.bp)(k:Nat)(tl:List Str):Prop where
 at_:H l=some (.lst (((ds.take k).map R.dq++tl).map V.str))
 rep:∃st,Rep n ds st
 len:ds.length<=40
 kl:k<=ds.length
theorem d6.same {n:Int}{H H':Hp}{l:Addr}{ds:List R.bp}{k:Nat}{tl:List Str}(s:aT H H')(h:d6 n H l ds k tl):d6 n H' l ds k tl:=⟨s _ _ h.at_,h.rep,h.len,h.kl⟩
def RD (A:Adr):Sp:=λvs H Q _=>∃(i j:Nat) (o1 o2:Addr) (c:Col) (s1 s2:Ch) (N:Nat),vs=[.ref o1,.ref o2]/\b9 A (i+1) c H o1 s1/\b9 A (j+1) c H o2 s2/\Inv N s1/\Inv N s2/\N<=189/\∀H',aT H H'->Q (.bl (al s1 s2)) H'
def Ec (A:Adr):Sp:=λvs H Q E=>∃(n:Int) (l1 l2:Addr) (d1 d2:List R.bp) (k1 k2:Nat) (t1 t2:List Str),vs=[.int n,.ref l1,.ref l2]/\d6 n H l1 d1 k1 t1/\d6 n H l2 d2 k2 t2 /\
 ((∃z r,t1=z::r/\Cy n z/\∀H' dd,aT H H'->H' dd=some (.xd [("row",.int ((k1+1:Nat):Int))])->E (.ref A.bC) (some dd) H') \/
 (t1=[]/\((∃z r,t2=z::r/\Cy n z/\∀H' dd,aT H H'->H' dd=some (.xd [("row",.int ((k2+1:Nat):Int))])->E (.ref A.bC) (some dd) H') \/
 (t2=[]/\k1=d1.length/\k2=d2.length/\∀v H',Due n d1 d2 v->aT H H'->Q v H'))))
section
variable{P:km}{w:World}{K:ba}{mg:Str->Option Value}{base:Heap}{A:Adr}
theorem Ee (T:Txt w.params K mg A):FnOkH P w K mg base 1 A.sO A.oH ["self","row"] (xH A.bC "row"):=by
 refine T.AQ.okH qF (λvs H Q E h=>?_) (λcdv A' outer s H vs Q E hr h=>?_)
 ·obtain⟨e,v,rfl,_⟩:=h;rfl
 ·obtain⟨e,v,rfl,hx,⟨z,fz,zl⟩,q⟩:=h;refine⟨_,(ak (bF (nY T.dQ T.mf rfl T.cy (aa (pv 0) (aa (r8 (eY (mD (pv 1) mB))) af))))
 (ai (r9 T.mf (pv 0) (pv 1)))),?_⟩
  try dsimp only[br]
  have sz:eg=16777216:=by decide
  have e5:(Um++ar "refused at the row ":Str).length=19:=by trivial
  refine⟨_,rfl,by rw[e5];omega,_,rfl,z,fz,by omega,by rw[len_app,e5];omega,by rw[len_app,e5];omega,e,_,rfl,hx,?_⟩
  exact⟨_,rfl,_,rfl,e,rfl,hx,λd hd=>q d hd⟩
theorem zF (T:Txt w.params K mg A){i:Nat}:FnOk P w K mg base (CXB false P w) 9 A.BQ A.pU ["chamber","row","number"] (Eb A i):=by
 have pL:FnOk P w K mg base (CXX P w) 7 A.lP A.gi ["row"] (R.Cs K A):=R.tS T;have Ir:FnOkH P w K mg base 1 A.sO A.oH ["self","row"] (xH A.bC "row"):=Ee T;refine T.sS.okXB Ht (λvs H Q E h=>?_) (λcdv A' outer s H vs Q E hr h=>?_)
 ·obtain⟨o,z,n,c,st,N,rfl,_⟩:=h;rfl
 ·obtain⟨o,z,n,c,st,N,rfl,hc,I,hN,n0,n1,q⟩:=h;have lg:n.natAbs.log2 < 1920:=p7 (by omega) (by omega)
  have ln:(ar (toString n)).length<=20:=u0 (by omega) (by omega)
  refine⟨_,(aJ (psx_tryB ⟨rfl,rfl⟩ (aJ (bD (bu (rK (i:=i) T) hr rfl T.uP T.pZ.kp T.uQ (bR (px (pv 0)) (bR (bu pL (hr.mono (by decide)) rfl T.vL T.oO.kp T.vM (pax (aa (pv 1) af))) i4)))))
 (phx_from rfl ⟨rfl,rfl⟩ T.mf Ir (hr.mono (by decide)) T.AR rfl T.cy rfl T.BZ (λ_=>(aa (pv 2) af)) (phx2_nil ⟨rfl,rfl⟩)))),?_⟩
  try dsimp only[br]
  have go:∀(d:R.bp) (t:Addr) (H1:Hp),aT H H1->H t=none->R.cP H H1 d t->Step (bT i) c (bz c H) H H1/\b9 A i (bz c H) H1 o st/\jR i (bz c H) H1 d t:=λd t H1 s1 nt h1=>⟨Step.cl aC s1,hc.free (W:=λ_=>False) (λ_=>id) (Step.cl id s1),(wj nt (λ_ h=>bL h) h1).c⟩
  rcases q with ⟨d,rfl,hd,hx,q⟩ | ⟨⟨zl,za,hz⟩,q⟩
  ·refine⟨_,rfl,_,rfl,R.dq d,rfl,ve hd.2.1,R.tV hd.2.1,λe he t H1 s1 nt h1=>?_,λhe=>?_⟩
   ·rw[R.row_read hd.2.1 hd.2.2]at he;refine aL λGq gq=>?_
    cases he;obtain⟨t1,hc1,hd1⟩:=go d t H1 s1 nt (R.cP.norm h1);refine gq ?_;refine⟨o,t,bz c H,st,N,d,rfl,hc1,I,by omega,hd.1,hd1,?_⟩
    generalize bH st d=rs at q hx ⊢;obtain⟨r,st'⟩:=rs;cases r with
    |num n=>exactλc2 H2 s2 hc2=>q c2 H2 (t1.trans s2) hc2
    |txt z=>exactλc2 H2 s2 hc2=>q c2 H2 (t1.trans s2) hc2
    |exc x=>cases hx
   ·rw[R.row_read hd.2.1 hd.2.2]at he;cases he
  ·refine⟨_,rfl,_,rfl,z,rfl,zl,za,λd he t H1 s1 nt h1=>?_,λhe dd H1 s1 hdd=>?_⟩
   ·rcases hz with hz | ⟨d',hz,hd,hx⟩
    ·rw[hz]at he;cases he
    ·rw[hz]at he;refine aL λGq gq=>?_
     cases he;obtain⟨t1,hc1,hd1⟩:=go d t H1 s1 nt h1;refine gq ?_;refine⟨o,t,bz c H,st,N,d,rfl,hc1,I,by omega,hd,hd1,?_⟩
     have hx:=hx N st I hN rfl;generalize bH st d=rs at hx ⊢;obtain⟨r,st'⟩:=rs;cases r with
     |num n=>cases hx
     |txt z=>cases hx
     |exc x=>exactλc2 H2 C e s2 hc2 hat he=>⟨true,Xc.mat T hat,dN ⟨_,rfl,_,rfl,⟨_,.int lg,ra ln (by decide)⟩,λd3 hd3=>q _ _ d3 ((t1.trans s2).trans (Step.new aC hd3 (x:=none))) ae⟩⟩
   ·exact⟨true,T.gG,dN ⟨_,rfl,_,rfl,⟨_,.int lg,ra ln (by decide)⟩,λd3 hd3=>q _ _ d3 ((Step.cl aC s1).trans (Step.new aC hd3 (x:=none))) ae⟩⟩
theorem zG (T:Txt w.params K mg A){i:Nat}:FnOk P w K mg base (CXB false P w) 10 A.replay A.uG ["seats","rows"] (Iq A i):=by
 refine T.yt.okXB pT (λvs H Q E h=>?_) (λcdv A' outer s H vs Q E hr h=>?_)
 ·obtain⟨n,l,c,ds,st,k,tl,rfl,_⟩:=h;rfl
 ·obtain⟨n,l,c,ds,st,k,tl,rfl,cl,hl,rep,hN,hk,q⟩:=h;refine⟨_,(au (psx (aY (i:=2) pT.nd rfl (Tp rfl) (cZ T.lR (zv T) (hr.mono (by decide)) rfl T.lQ T.eC .nil aV (aa (pv 0) af))))
 (au (Br ⟨rfl,rfl⟩ rfl (pi_enum (k:=1) (by trivial) rfl T.Dy (aa (pv 1) af)) (Ej rfl (lA (dI (i:=3) pT.nd rfl (Tp rfl)) (lA (dI (i:=4) pT.nd rfl (Tp rfl)) Bb)))
 (aJ (bD (pe_callXB rfl (zF (i:=i) T) hr rfl T.yq T.sS.kp T.yr (pax (aa (pv 2) (aa (pv 4) (aa (pv 3) af))))))))
 (aJ (psx (aB (pv 2)))))),?_⟩
  try dsimp only[br]
  refine⟨_,rfl,λo d1 ho1 hd1 ne1=>⟨o,d1,n,rfl,ae,λH2 h2=>⟨rfl,?_⟩⟩⟩
  refine aL λGq gq=>?_
  obtain⟨c1,k1,ch1⟩:=h2 i c;have st1:Step (bT i) c c1 H H2:=mq aC ho1 hd1 k1;have kl:=fO st1 cl hl;refine gq ?_
  try dsimp only[cX]
  have ltk:((ds.take k).map R.dq).length=k:=by rw[bo,To];omega
  refine⟨_,rfl,l,rfl,⟨_,SqL.of kl.2⟩,?_⟩;refine for_enum (K:=K) (a:=l) (xs:=((ds.take k).map R.dq++tl).map V.str) (λj σ Hj=>∃(cj:Col) (v3 v4:Option V),σ=[some (.int n),some (.ref l),some (.ref o),v3,v4]/\Step (bT i) c cj H Hj/\b9 A i cj Hj o (cG n (ds.take j))/\Inv (3 * j) (cG n (ds.take j))/\(cG n (ds.take j)).b5=n/\j<=k)
   ⟨c1,_,_,rfl,st1,ch1,jm n,rfl,TM _⟩ (λj σ Hj _ ⟨cj,_,_,_,sj,_⟩=>SqL.of (fO sj cl hl).2) ?_ ?_
  ·rintro j y σ Hj t hy ⟨cj,v3,v4,rfl,sj,chj,Ij,sjn,jk⟩ ht;have sn:Step (bT i) cj (aN cj t none) Hj (upd Hj t (.tup [.int ((j+1:Nat):Int),y])):=Step.new aC ht;have chn:=chj.free (W:=λ_=>False) (λ_=>id) (Step.new (x:=none) (o:=.tup [.int ((j+1:Nat):Int),y]) id ht)
   rw[wt]at hy
   by_cases hj:j < k
   ·obtain⟨d,hdj⟩:∃d,ds[j]?=some d:=⟨_,sr (by omega)⟩
    obtain rfl:V.str (R.dq d)=y:=by
     rw[Ur (by omega),wt,List.getElem?_take_of_lt hj,hdj]at hy
     exact om hy
    have hd:=rep.ok d (Ti hdj);refine⟨t,_,rfl,SqT.of ae,rfl,_,_,rfl,_,_,rfl,rfl,?_⟩;refine⟨_,rfl,_,rfl,_,rfl,o,_,_,aN cj t none,cG n (ds.take j),3 * j,rfl,chn,Ij,by omega,by omega,by omega,.inl ⟨d,rfl,hd,rep.good j d hdj,λc' H' s' ch'=>?_⟩⟩
    have e:cG n (ds.take (j+1))=(bH (cG n (ds.take j)) d).2:=by rw[Uw,hdj];exact jl _ _ _
    have I':=Ij.bH (by omega) hd.1
    have es:=(D8 (st:=cG n (ds.take j)) hd.1).trans sjn;rw[<-e]at ch' I' es;exact⟨c',_,_,rfl,(sj.trans sn).trans s',ch',by rw[show 3 * (j+1)=3 * j+3 by omega];exact I',es,hj⟩
   ·obtain rfl:j=k:=by omega
    rw[UB (by omega),ltk,Nat.sub_self]at hy
    rcases q with ⟨rfl,_⟩ | ⟨z,r,rfl,hz,q⟩
    ·cases hy
    ·obtain rfl:V.str z=y:=om hy;refine⟨t,_,rfl,SqT.of ae,rfl,_,_,rfl,_,_,rfl,rfl,?_⟩;exact⟨_,rfl,_,rfl,_,rfl,o,_,_,aN cj t none,cG n (ds.take j),3 * j,rfl,chn,Ij,by omega,by omega,by omega,.inr ⟨by rw[sjn];exact hz,λc' H' dd s' hdd=>q c' H' dd ((sj.trans sn).trans s') hdd⟩⟩
  ·rintro σ Hj ⟨cj,v3,v4,rfl,sj,chj,Ij,sjn,jk⟩;rw[bo,gr,ltk]at chj jk;rcases q with ⟨rfl,q⟩ | ⟨z,r,rfl,_⟩
   ·exact⟨_,rfl,q o cj Hj sj chj⟩
   ·rw[ky]at jk;omega
theorem Cz (T:Txt w.params K mg A):FnOk P w K mg base CX0 5 A.uH A.mO ["one","other"] (RD A):=by
 have nM:FnOk P w K mg base CX0 2 A.fq A.eM ["self"] (λvs H Q E=>∃i,D6 A i vs H Q E):=Gz λi=>A4 T
 have gH:FnOk P w K mg base CX0 4 A.cO A.cE ["self"] (λvs H Q E=>∃k:Nat,Ld A K (k+1) vs H Q E):=Gz λk=>zE T (by omega)
 refine T.vN.ok BI (λvs H Q E h=>?_) (λcdv A' outer s H vs Q E hr h=>?_)
 ·obtain⟨i,j,o1,o2,c,s1,s2,N,rfl,_⟩:=h;rfl
 ·obtain⟨i,j,o1,o2,c,s1,s2,N,rfl,h1,h2,I1,I2,hN,q⟩:=h;have qk:=hr.units;refine⟨_,(ai (aB (iA (bI (xu qk) (cJ (pv 0) T.ag T.iM nM (hr.mono (by decide)) T.iN .nil aV) (cJ (pv 1) T.ag T.iM nM (hr.mono (by decide)) T.iN .nil aV) (aH _)) (gI (bI (xu qk) (cJ (pv 0) T.ag T.gD gH hr T.gF .nil aV) (cJ (pv 1) T.ag T.gD gH hr T.gF .nil aV) (aH _)))))),?_⟩
  try dsimp only[br]
  refine aL λGq gq=>?_
  have a1:=I1.zr;have a2:=I2.zr;have m1:=I1.lm;have m2:=I2.lm;obtain⟨dx1,aM1,aP1,aA1,aD1,aF1,aE1,aR1,ms1,ds1,ws1,fs1,es1,X1⟩:=h1.ex;obtain⟨dx2,aM2,aP2,aA2,aD2,aF2,aE2,aR2,ms2,ds2,ws2,fs2,es2,X2⟩:=h2.ex;refine gq ?_;refine mtv rfl X1.ob (bU (by trivial)) ⟨i+1,o1,c,_,rfl,h1,by omega,λns1 u1 H1 pm1 so1 t1 sa1=>?_⟩
  refine mtv rfl (t1 _ _ X2.ob) (bU (by trivial)) ⟨j+1,o2,c,_,rfl,(X2.same t1).at,by omega,λns2 u2 H2 pm2 so2 t2 sa2=>?_⟩
  refine aL λGq gq=>?_
  have e1:=FE pm1 so1;have e2:=FE pm2 so2;subst e1 e2;obtain⟨_,_,_,_,_,sa1⟩:=sa1;obtain⟨_,_,_,_,_,sa2⟩:=sa2;refine gq ?_;refine⟨stD _ _,stD _ _,DV.same t2 _ sa1.dv,sa2.dv,fP (Cv I1 _) (KZ _ _),fP (Cv I2 _) (KZ _ _),_,rfl,?_⟩;have t12:=t1.trans t2;unfold al at q;cases ee:T2 (stD s1 (nsO s1)) (stD s2 (nsO s2)) with
  |false =>
   rw[ee]at q;exact df (q H2 t12)
  |true =>
   rw[ee]at q;refine dN (mtv rfl (t12 _ _ X1.ob) (bU (by trivial)) ⟨i,o1,c,_,N,rfl,(X1.same t12).at,I1,by omega,λm1 H3 t3 v1=>?_⟩)
   have t13:=t12.trans t3;refine mtv rfl (t13 _ _ X2.ob) (bU (by trivial)) ⟨j,o2,c,_,N,rfl,(X2.same t13).at,I2,by omega,λm2 H4 t4 v2=>?_⟩
   exact⟨ub s1,ub s2,DV.same t4 _ v1,v2,fP (xa I1) (GG _),fP (xa I2) (GG _),q H4 (t13.trans t4)⟩
end
def z8 (x:Option (Nat×Rl)):Prop:=x≠none
theorem nh:¬z8 none:=λh=>h rfl
theorem Step.wall {W:Option (Nat×Rl)->Prop}{c c':Col}{H H':Hp}(s:Step W c c' H H'):Step z8 c c' H H':=s.mono (λx h e=>s.nn (e▸h)) nh
theorem mw {W:Option (Nat×Rl)->Prop}{c':Col}{H H':Hp}(s:Step W cNo c' H H'):aT H H':=λa v h=>s.keep a v h s.nn
theorem uc {α:Type}{xs:List α}{j:Nat}{v:α}(h:xs[j]?=some v):atI xs (0+(j:Int))=some v:=by rw[Int.zero_add];exact jX h
theorem d6.row {n:Int}{H:Hp}{l:Addr}{ds:List R.bp}{k:Nat}{tl:List Str}{d:R.bp}{j:Nat}(h:d6 n H l ds k tl)(hj:j < k)(hd:ds[j]?=some d):(((ds.take k).map R.dq++tl).map V.str)[j]?=some (.str (R.dq d)):=by
 rw[wt,Ur (by rw[bo,To];have:=h.kl;omega),wt,List.getElem?_take_of_lt hj,hd]
 rfl
section
variable{P:km}{w:World}{K:ba}{mg:Str->Option Value}{base:Heap}{A:Adr}
theorem A9 (T:Txt w.params K mg A):FnOk P w K mg base (CXB false P w) 11 A.parted A.pV ["seats","one","other"] (Ec A):=by
 have Ef:FnOk P w K mg base (CXB false P w) 9 A.BQ A.pU ["chamber","row","number"] (λvs H Q E=>∃i,Eb A i vs H Q E):=Gz λi=>zF T
 refine T.oU.okXB jg (λvs H Q E h=>?_) (λcdv A' outer s H vs Q E hr h=>?_)
 ·obtain⟨n,l1,l2,d1,d2,k1,k2,t1,t2,rfl,_⟩:=h;rfl
 ·obtain⟨n,l1,l2,d1,d2,k1,k2,t1,t2,rfl,p1,p2,q⟩:=h;refine⟨_,(au (bD (pe_callXB rfl (zG (i:=1) T) hr rfl T.Dp T.yt.kp T.Dq (pax (aa (pv 0) (aa (pv 1) af)))))
 (au (bD (pe_callXB rfl (zG (i:=1) T) hr rfl T.Dp T.yt.kp T.Dq (pax (aa (pv 0) (aa (pv 2) af)))))
 (au (psx (aY (i:=3) jg.nd rfl (Tp rfl) (cZ T.lR (zv T) (hr.mono (by decide)) rfl T.lQ T.eC .nil aV (aa (pv 0) af))))
 (au (psx (aY (i:=4) jg.nd rfl (Tp rfl) (cZ T.lR (zv T) (hr.mono (by decide)) rfl T.lQ T.eC .nil aV (aa (pv 0) af))))
 (au (psx (aY (i:=5) jg.nd rfl (Tp rfl) (bh (uh rfl) (by rfl) T.Ka EB (aa (bh bt (by rfl) T.eR cQ (aa (pv 1) af)) (aa (bh bt (by rfl) T.eR cQ (aa (pv 2) af)) af)))))
 (au (Br ⟨rfl,rfl⟩ rfl (lB rfl T.sX (aa (pv 5) af)) (dI (i:=6) jg.nd rfl (Tp rfl))
 (au (psx (aY (i:=7) jg.nd rfl (Tp rfl) (bA cv (pv 6) aj)))
 (au (bD (pe_callXB rfl Ef (hr.mono (by decide)) rfl T.yq T.sS.kp T.yr (pax (aa (pv 3) (aa (aU a8 (pv 1) (pv 6) (λ_ _=>rfl)) (aa (pv 7) af))))))
 (au (bD (pe_callXB rfl Ef (hr.mono (by decide)) rfl T.yq T.sS.kp T.yr (pax (aa (pv 4) (aa (aU a8 (pv 2) (pv 6) (λ_ _=>rfl)) (aa (pv 7) af))))))
 (aJ (psx (bE (kM (kL (aW (Cz T) (hr.mono (by decide)) rfl T.Dr T.vN.kp T.Ds .nil aV (aa (pv 3) (aa (pv 4) af)))))
 (ai (aB (pv 7)))
 aO)))))))
 (au (psx (bE (aQ bx (bh bt (by rfl) T.eR cQ (aa (pv 1) af)) (bh bt (by rfl) T.eR cQ (aa (pv 2) af)) (aH _))
 (ai (aB uf))
 aO))
 (aJ (psx (aB (bA cv (pv 5) aj))))))))))),?_⟩
  try dsimp only[br]
  refine aL λGq gq=>?_
  have lim:eg=16777216:=by decide
  obtain⟨sx1,rep1⟩:=p1.rep;obtain⟨sx2,rep2⟩:=p2.rep;have q1:=p1.len;have q2:=p2.len;refine gq ?_;refine⟨_,rfl,_,rfl,n,l1,cNo,d1,sx1,k1,t1,rfl,rfl,p1.at_,rep1,by omega,p1.kl,?_⟩
  rcases q with ⟨z,r,rfl,hz,q⟩ | ⟨rfl,q⟩
  ·exact .inr ⟨z,r,rfl,hz,λc' H' dd s hdd=>q H' dd (mw s) hdd⟩
  refine .inl ⟨rfl,λoa ca H1 sa _=>?_⟩
  have s1:=mw sa;have p1:=p1.same s1;have p2:=p2.same s1;refine⟨_,rfl,_,rfl,n,l2,cNo,d2,sx2,k2,t2,rfl,rfl,p2.at_,rep2,by omega,p2.kl,?_⟩
  rcases q with ⟨z,r,rfl,hz,q⟩ | ⟨rfl,e1,e2,q⟩
  ·exact .inr ⟨z,r,rfl,hz,λc' H' dd s hdd=>q H' dd (s1.trans (mw s)) hdd⟩
  refine .inl ⟨rfl,λob cb H2 sb _=>?_⟩
  have s2:=mw sb;have p1:=p1.same s2;have p2:=p2.same s2;have s12:=s1.trans s2;clear sa sb s1 s2;subst e1 e2;have q:=λv H' du (s:aT H2 H')=>q v H' du (s12.trans s)
  have e1:(((d1.take d1.length).map R.dq++[]).map V.str).length=d1.length:=by rw[TY,T9,bo,bo]
  have e2:(((d2.take d2.length).map R.dq++[]).map V.str).length=d2.length:=by rw[TY,T9,bo,bo]
  refine⟨_,rfl,λo1 dx1 ho1 hd1 ne1=>⟨o1,dx1,n,rfl,ae,λH3 h3=>⟨rfl,?_⟩⟩⟩
  refine aL λGq gq=>?_
  obtain⟨c3,g3,ch3⟩:=h3 1 cNo;have st3:Step z8 cNo c3 H2 H3:=mq nh ho1 hd1 g3;refine gq ?_
  try dsimp only[cX]
  refine⟨_,rfl,λo2 dx2 ho2 hd2 ne2=>⟨o2,dx2,n,rfl,ae,λH4 h4=>⟨rfl,?_⟩⟩⟩
  refine aL λGq gq=>?_
  obtain⟨c4,g4,ch4⟩:=h4 2 c3;have stn:Step (λ_=>False) c3 c4 H3 H4:=mq id ho2 hd2 g4
  have ch3:=ch3.free (λ_=>id) stn
  have st4:=st3.trans stn.wall;clear st3 stn h3 h4 g3 g4 ho1 ho2 hd1 hd2 ne1 ne2;have pa:=p1.same (mw st4);have pb:=p2.same (mw st4);refine gq ?_
  try dsimp only[cX]
  refine⟨_,rfl,l1,_,rfl,.inl (SqL.of pa.at_),_,rfl,l2,_,rfl,.inl (SqL.of pb.at_),_,_,rfl,?_⟩;have em:(if ((((d2.take d2.length).map R.dq++[]).map V.str).length:Int) < ((((d1.take d1.length).map R.dq++[]).map V.str).length:Int) then ((((d2.take d2.length).map R.dq++[]).map V.str).length:Int) else ((((d1.take d1.length).map R.dq++[]).map V.str).length:Int))=((min d1.length d2.length:Nat):Int):=by
   rw[e1,e2];split <;> omega
  try dsimp only[cX]
  rw[em];refine⟨_,rfl,_,rfl,by omega,by omega,?_⟩
  refine pM (lo:=0) (n:=((min d1.length d2.length:Nat):Int).toNat) (λk σ Hk=>∃(c:Col) (v6 v7:Option V),σ=[some (.int n),some (.ref l1),some (.ref l2),some (.ref o1),some (.ref o2),some (.int ((min d1.length d2.length:Nat):Int)),v6,v7]/\Step z8 cNo c H2 Hk/\b9 A 1 c Hk o1 (cG n (d1.take k))/\b9 A 2 c Hk o2 (cG n (d2.take k))/\Inv (3 * k) (cG n (d1.take k))/\Inv (3 * k) (cG n (d2.take k))/\∀i,i < k->alN n d1 d2 i=true)
   ⟨c4,_,_,rfl,st4,ch3,ch4,jm n,jm n,λi hi=>absurd hi (Nat.not_lt_zero i)⟩ ?_ ?_
  ·rintro k σ Hk hk ⟨c,v6,v7,rfl,sk,ch1,ch2,I1,I2,ha⟩;refine aL λGq gq=>?_
   rw[UM]at hk;have ek:0+(k:Int)+1=((k+1:Nat):Int):=by omega
   obtain⟨da,hda⟩:∃d,d1[k]?=some d:=⟨_,sr (by omega)⟩
   obtain⟨db,hdb⟩:∃d,d2[k]?=some d:=⟨_,sr (by omega)⟩
   have oka:=rep1.ok da (Ti hda);have okb:=rep2.ok db (Ti hdb);have pk1:=p1.same (mw sk);have pk2:=p2.same (mw sk);refine gq ?_;refine⟨_,rfl,_,_,rfl,rfl,?_⟩
   try dsimp only[cX]
   rw[ek];refine⟨_,rfl,_,rfl,_,rfl,l1,(_),_,_,rfl,rfl,SqL.of pk1.at_,uc (pk1.row (by omega) hda),_,rfl,1,o1,_,_,c,_,3 * k,rfl,ch1,I1,by omega,by omega,by omega,.inl ⟨da,rfl,oka,rep1.good k da hda,λc5 H5 s5 ch5=>?_⟩⟩
   have sk5:=sk.trans s5.wall;have pk5:=p2.same (mw sk5);refine⟨_,rfl,_,rfl,_,rfl,l2,(_),_,_,rfl,rfl,SqL.of pk5.at_,uc (pk5.row (by omega) hdb),_,rfl,2,o2,_,_,c5,_,3 * k,rfl,ch2.other (by decide) s5,I2,by omega,by omega,by omega,.inl ⟨db,rfl,okb,rep2.good k db hdb,λc6 H6 s6 ch6=>?_⟩⟩
   have sk6:=sk5.trans s6.wall;have ch5:=ch5.other (by decide) s6
   have ea:cG n (d1.take (k+1))=(bH (cG n (d1.take k)) da).2:=by rw[Uw,hda];exact jl _ _ _
   have eb:cG n (d2.take (k+1))=(bH (cG n (d2.take k)) db).2:=by rw[Uw,hdb];exact jl _ _ _
   have I1':=I1.bH (by omega) oka.1
   have I2':=I2.bH (by omega) okb.1
   rw[<-ea]at ch5 I1';rw[<-eb]at ch6 I2';refine⟨_,rfl,_,rfl,0,1,o1,o2,c6,_,_,3 * k+3,rfl,ch5,ch6,I1',I2',by omega,λH7 s7=>?_⟩
   cases e:alN n d1 d2 k with
   |true =>
    have e':al (cG n (d1.take (k+1))) (cG n (d2.take (k+1)))=true:=e;rw[e'];refine⟨_,rfl,df ⟨c6,_,_,rfl,sk6.trans (Step.same nh s7),?_,?_,I1',I2',λi hi=>?_⟩⟩
    ·obtain⟨dx,aM,aP,aA,aD,aF,aE,aR,ms,ds,ws,fs,es,X⟩:=ch5.ex;exact(X.same s7).at
    ·obtain⟨dx,aM,aP,aA,aD,aF,aE,aR,ms,ds,ws,fs,es,X⟩:=ch6.ex;exact(X.same s7).at
    ·by_cases h:i=k
     ·rw[h];exact e
     ·exact ha i (by omega)
   |false =>
    have e':al (cG n (d1.take (k+1))) (cG n (d2.take (k+1)))=false:=e;rw[e'];exact⟨_,rfl,dN ⟨_,rfl,q _ _ (.inl ⟨k,hk,e,ha,rfl⟩) (mw (sk6.trans (Step.same nh s7)))⟩⟩
  ·rintro σ Hk ⟨c,v6,v7,rfl,sk,ch1,ch2,I1,I2,ha⟩;rw[UM]at ha;have pk1:=p1.same (mw sk);have pk2:=p2.same (mw sk);refine⟨_,rfl,l1,_,rfl,.inl (SqL.of pk1.at_),_,rfl,l2,_,rfl,.inl (SqL.of pk2.at_),rfl,_,rfl,?_⟩
   by_cases h:d1.length=d2.length
   ·refine xA (decide_eq_true (by rw[e1,e2,h])) ?_
    exact q _ _ (.inr ⟨ha,by rw[if_pos h]⟩) (mw sk)
   ·refine Aq (decide_eq_false (by rw[e1,e2];exactλz=>h (by injection z with z;omega))) ?_
    refine⟨_,rfl,_,_,rfl,rfl,?_⟩;exact q _ _ (.inr ⟨ha,by rw[if_neg h];congr 1⟩) (mw sk)
end
def z9:R.bp->Bool
 | .nums kd _=>!(decide (kd=ar "vote") || decide (kd=ar "drop") || decide (kd=ar "take"))
 |_=>true
theorem MM {d:R.bp}(h:pK d):(!inV (V.str (R.gz d)) [V.str (ar "vote"),V.str (ar "drop"),V.str (ar "take")])=z9 d:=by
 cases h with
 |DW=>show (!inV (V.str (ar "vote")) _)=z9 (.nums (ar "vote") [_,_]);rw[show z9 (.nums (ar "vote") [_,_])=!(decide (ar "vote"=ar "vote") || decide (ar "vote"=ar "drop") || decide (ar "vote"=ar "take")) from rfl];trivial
 |drop=>trivial
 |take=>show (!inV (V.str (ar "take")) _)=!(decide (ar "take"=ar "vote") || decide (ar "take"=ar "drop") || decide (ar "take"=ar "take"));trivial
 |move h =>
  cases d with
  |mat cs=>show (!inV (V.str (ar "matter")) _)=true;trivial
  |ed m k j ws=>cases m <;> (show (!inV (V.str (R.kEd _)) _)=true;trivial)
  |pt ws=>show (!inV (V.str (ar "point")) _)=true;trivial
  |nums kd ns =>
   rcases qb h.1 with ⟨u,rfl,rfl⟩ | ⟨rfl,rfl⟩ | ⟨rfl,rfl⟩ | ⟨rfl,rfl⟩
   ·show (!inV (V.str (ar "put off")) _)=!(decide (ar "put off"=ar "vote") || decide (ar "put off"=ar "drop") || decide (ar "put off"=ar "take"));trivial
   ·trivial
   ·trivial
   ·trivial
theorem Lf {st:Ch}{d:R.bp}(h:pK d):((bH st d).2.made.length:Int)=(st.made.length:Int)+(if isX (bH st d).1=false/\z9 d=true then 1 else 0):=by
 cases h with
 |DW=>rw[g7,HX,if_neg (λz=>by have:=z.2;rw[z9]at this;simp at this)];omega
 |drop=>rw[g8,HY,if_neg (λz=>absurd z.2 (by trivial))];omega
 |take=>rw[fG,HZ,if_neg (λz=>by have:=z.2;rw[z9]at this;simp at this)];omega
 |move h =>
  have hmv:z9 d=true:=by
   cases d with
   |nums kd ns =>
    rcases qb h.1 with ⟨u,rfl,rfl⟩ | ⟨rfl,rfl⟩ | ⟨rfl,rfl⟩ | ⟨rfl,rfl⟩
    ·show (!(decide (ar "put off"=ar "vote") || decide (ar "put off"=ar "drop") || decide (ar "put off"=ar "take")))=true;trivial
    ·trivial
    ·trivial
    ·trivial
   |_=>rfl
  rw[g9 h];unfold mj;split
  ·rw[if_neg (λz=>absurd z.1 (by simp[isX]))];show (st.made.length:Int)=_;omega
  ·rw[if_pos ⟨rfl,hmv⟩];show ((st.made++[fF d]).length:Int)=_;rw[gr,Tg];omega
def lkD (st:Ch):PyData:=.tuple [stD st (nsO st),ub st]
def sts (n:Int)(ds:List R.bp):List Ch:=(UU ds.length).map λj=>cG n (ds.take (j+1))
structure Lk (c:Col)(H:Hp)(st:Ch)(u:Addr)(a b:Addr)(ts:List Addr):Prop where
 cu:c u=none
 hu:H u=some (.tup [.ref a,.ref b])
 sa:K6 c H st (nsO st) a
 cb:c b=none
 hb:H b=some (.lst (ts.map V.ref))
 mo:bf (MnT c H) st.made ts
def LkA (c:Col)(H:Hp)(st:Ch)(u:Addr):Prop:=∃a b ts,Lk c H st u a b ts
theorem LkA.step {W:Option (Nat×Rl)->Prop}{c c':Col}{H H':Hp}{st:Ch}{u:Addr}(s:Step W c c' H H'):LkA c H st u->LkA c' H' st u
 |⟨a,b,ts,h⟩=>⟨a,b,ts,(fO s h.cu h.hu).1,(fO s h.cu h.hu).2,h.sa.step s,(fO s h.cb h.hb).1,(fO s h.cb h.hb).2,h.mo.imp λ_ _ z=>z.step s⟩
theorem LkA.dv {K:ba}{c:Col}{H:Hp}{st:Ch}{u:Addr}:LkA c H st u->DV K H (lkD st) (.ref u)
 |⟨a,b,ts,h⟩=>by
  obtain⟨_,_,_,_,_,sa⟩:=h.sa;unfold lkD DV;refine⟨u,_,rfl,SqT.of h.hu,?_⟩;unfold DVs;refine⟨_,_,rfl,sa.dv,?_⟩;unfold DVs;refine⟨_,_,rfl,?_,by unfold DVs;rfl⟩
  unfold ub DV;exact⟨b,_,rfl,SqL.of h.hb,bf.dvs (R:=λm v=>∃t,v=V.ref t/\MnT c H m t) (λm v ⟨t,e,h⟩=>by rw[e];exact h.dv) (bf.mapR (h.mo.imp λm t h=>⟨t,rfl,h⟩))⟩
theorem Lg {N:Nat}{st:Ch}(I:Inv N st):(lkD st).canLay0=true:=by
 unfold lkD;simp only[Tt,me,Cv I _,xa I,Ub]
theorem PD (s1 s2:Ch):T2 (lkD s1) (lkD s2)=al s1 s2:=by
 unfold lkD al;simp only[T2,Uy,Bool.and_true]
theorem Eg {n:Int}{ds:List R.bp}{k:Nat}(hk:k<=ds.length):sts n (ds.take k)=(UU k).map λj=>cG n (ds.take (j+1)):=by
 unfold sts;rw[To,Nat.min_eq_left hk];exact UR λj hj=>by rw[List.take_take,Nat.min_eq_left (by have:=List.mem_range.mp hj;omega)]
theorem Lh {n:Int}{ds:List R.bp}{k:Nat}(hk:k < ds.length):sts n (ds.take (k+1))=sts n (ds.take k)++[cG n (ds.take (k+1))]:=by
 rw[Eg (by omega),Eg (by omega),List.range_succ,ma];rfl
theorem Step.unset {i:Nat}{r:Rl}{c:Col}{H:Hp}{a:Addr}(h:c a=some (i,r)):Step (bT i) c (aN c a none) H H :=
 ⟨aC,λ_ _ h _=>h,λ_ v h=>⟨v,h⟩,λb _ _ hn=>az (by rintro rfl;exact hn ⟨r,h⟩)⟩
def Nt (A:Adr)(i:Nat):Sp:=λvs H Q _=>∃(o t:Addr) (c:Col) (st:Ch) (N:Nat) (d:R.bp),vs=[.ref o,.ref t]/\b9 A i c H o st/\Inv N st/\N<=800/\pK d/\jR i c H d t/\isX (bH st d).1=false/\∀v c' H',Step (bT i) c c' H H'->b9 A i c' H' o (bH st d).2->Q v H'
def MN (A:Adr)(K:ba):Sp:=λvs H Q _=>∃(n:Int) (l:Addr) (ds:List R.bp) (st:Ch),vs=[.ref l,.int n]/\H l=some (.lst (st.rows.map V.str))/\Rep n ds st/\ds.length<=40 /\
 ∀L us H',aT H H'->H' L=some (.lst us)->bf (λst v=>DV K H' (lkD st) v) (sts n ds) us->Q (.ref L) H'
section
variable{P:km}{w:World}{K:ba}{mg:Str->Option Value}{base:Heap}{A:Adr}
theorem PF (T:Txt w.params K mg A){i:Nat}:FnOk P w K mg base (CXX P w) 8 A.sN A.jz ["chamber","deed"] (Nt A i):=by
 have F:FnOk P w K mg base (CXX P w) 8 A.sN A.jz ["chamber","deed"] (Pk A i):=rK T;have im:∀vs H Q E,Nt A i vs H Q E->Pk A i vs H Q E:=λvs H Q E ⟨o,t,c,st,N,d,e,hc,I,hN,hd,hz,hx,q⟩=>by
  refine⟨o,t,c,st,N,d,e,hc,I,hN,hd,hz,?_⟩;generalize bH st d=rs at q hx ⊢;obtain⟨r,st'⟩:=rs;cases r with
  |num n=>exactλc2 H2 s2 hc2=>q _ c2 H2 s2 hc2
  |txt z=>exactλc2 H2 s2 hc2=>q _ c2 H2 s2 hc2
  |exc x=>cases hx
 exact⟨λvs H Q E h=>F.len vs H Q E (im vs H Q E h),λA outer s H args us vs Q E hr he hb hv hs=>F.run A outer s H args us vs Q E hr he hb hv (im vs H Q E hs)⟩
theorem zH (T:Txt w.params K mg A):FnOk P w K mg base CX0 9 A.BU A.rh ["_law_rows","_law_seats"] (MN A K):=by
 have pL:FnOk P w K mg base (CXX P w) 7 A.lP A.gi ["row"] (R.Cs K A):=R.tS T;refine T.uS.ok fw (λvs H Q E h=>?_) (λcdv A' outer s H vs Q E hr h=>?_)
 ·obtain⟨n,l,ds,st,rfl,_⟩:=h;rfl
 ·obtain⟨n,l,ds,st,rfl,hl,rep,hN,q⟩:=h;refine⟨_,(ak (aY (i:=2) fw.nd rfl (Or.inr rfl) (cZ T.lR (zv T) (hr.mono (by decide)) rfl T.lQ T.eC .nil aV (aa (pv 1) af)))
 (ak (aY (i:=3) fw.nd rfl (Tp rfl) (bX af))
 (ak (aY (i:=4) fw.nd rfl (Tp rfl) aj)
 (ak (ug Vj rfl (hU (pv 0)) (dI (i:=5) fw.nd rfl (Tp rfl))
 (ak (aY (i:=6) fw.nd rfl (Tp rfl) (aW pL (hr.mono (by decide)) rfl T.vL T.oO.kp T.vM .nil mz (aa (pv 5) af)))
 (ak (bF (aW (PF (i:=1) T) hr rfl T.uP T.pZ.kp T.uQ .nil mz (aa (pv 2) (aa (pv 6) af))))
 (ak (aY (i:=4) fw.nd rfl (Tp rfl) (bA cv (pv 4) (bP Ae (by rfl) T.F6 Bh (aa (bI Bg (aU bq (pv 6) aj (λ_ _=>rfl)) (bM (aa aw (aa aw (aa aw af)))) rfl) af))))
 (ai (bF (fV Tj Tx Tz cA (pv 3) (aa (bM (aa (cJ (pv 2) T.ag T.iM (A4 (i:=1) T) (hr.mono (by decide)) T.iN .nil aV) (aa (j3 (scope:=qJ) BK rfl (lB rfl T.sX (aa (pv 4) af)) (λ_ _ _ _ _=>(fj (pv 3) T.ag T.lS (FA (i:=1) T) (hr.mono (by decide)) T.lU .nil mz (aa (bA cv (pv 0) aj) af)))) af))) af))))))))
 (ai (aB (pv 3))))))),?_⟩
  try dsimp only[br]
  have lim:eg=16777216:=by decide
  have ele:(st.rows.map V.str).length=ds.length:=by rw[rep.rows,bo,bo]
  refine⟨_,rfl,λo dx1 ho1 hd1 ne1=>⟨o,dx1,n,rfl,ae,λH2 h2=>⟨rfl,?_⟩⟩⟩
  refine aL λGq gq=>?_
  obtain⟨c1,g1,ch1⟩:=h2 1 cNo;have st1:Step z8 cNo c1 H H2:=mq nh ho1 hd1 g1;refine gq ?_
  try dsimp only[cX]
  refine⟨TM _,λL hL=>?_⟩
  have s2:Step (λ_=>False) c1 (aN c1 L (some (0,.ob))) H2 (upd H2 L (.lst [])):=Step.new id hL
  have ch2:=ch1.free (λ_=>id) s2
  have st2:=st1.trans s2.wall;have hL2:upd H2 L (.lst []) L=some (.lst []):=ae;have cL2:aN c1 L (some (0,.ob)) L=some (0,.ob):=bj
  try dsimp only[cX]
  generalize aN c1 L (some (0,.ob))=c2 at s2 ch2 st2 cL2;generalize upd H2 L (.lst [])=H3 at s2 ch2 st2 hL2 ⊢;clear s2 st1 ch1 h2 g1;refine⟨_,rfl,l,rfl,⟨_,SqL.of (mw st2 _ _ hl)⟩,?_⟩;refine rQ (K:=K) (a:=l) (xs:=st.rows.map V.str) (λk σ Hk=>∃(c:Col) (us:List Addr) (v5 v6:Option V),σ=[some (.ref l),some (.int n),some (.ref o),some (.ref L),some (.int ((cG n (ds.take k)).made.length:Int)),v5,v6]/\Step z8 cNo c H Hk/\b9 A 1 c Hk o (cG n (ds.take k))/\Inv (3 * k) (cG n (ds.take k))/\c L=some (0,.ob)/\Hk L=some (.lst (us.map V.ref))/\bf (LkA c Hk) (sts n (ds.take k)) us/\us.length=k)
   ⟨c2,[],_,_,rfl,st2,ch2,jm n,cL2,hL2,.nil,rfl⟩ (λk σ Hk _ ⟨_,_,_,_,_,sk,_⟩=>SqL.of (mw sk _ _ hl)) ?_ ?_
  ·rintro k y σ Hk hy ⟨c,us,v5,v6,rfl,sk,ch,I,cL,hLk,ha,hul⟩;refine aL λGq gq=>?_
   have hk:k < ds.length:=by rw[<-ele];exact(List.getElem?_eq_some_iff.mp hy).1
   obtain⟨d,hdk⟩:∃d,ds[k]?=some d:=⟨_,sr hk⟩;obtain rfl:V.str (R.dq d)=y:=by
    rw[rep.rows,wt,wt,hdk]at hy;exact om hy
   have hd:=rep.ok d (Ti hdk);have hx:=rep.good k d hdk;have e:cG n (ds.take (k+1))=(bH (cG n (ds.take k)) d).2:=by rw[Uw,hdk];exact jl _ _ _
   have I':=I.bH (by omega) hd.1
   refine gq ?_;refine⟨_,rfl,R.dq d,rfl,ve hd.2.1,R.tV hd.2.1,λe1 he t H4 s4 nt h4=>?_,λhe=>?_⟩
   ·rw[R.row_read hd.2.1 hd.2.2]at he;cases he;have z4:dR (bz c Hk) H4 d t:=wj nt (λ_ h=>bL h) (R.cP.norm h4)
    have t4:Step (λ_=>False) c (bz c Hk) Hk H4:=Step.cl id s4
    refine⟨_,rfl,_,rfl,o,t,bz c Hk,_,3 * k,d,rfl,ch.free (λ_=>id) t4,I,by omega,hd.1,z4.c,hx,λv c5 H5 s5 ch5=>?_⟩
    obtain⟨xs5,hk5⟩:=(z4.step s5).kind;have hL5:c5 L=some (0,.ob)/\H5 L=some (.lst (us.map V.ref)):=by
     have e4:bz c Hk L=some (0,.ob):=(rD hLk).trans cL;have n5:¬bT 1 (bz c Hk L):=by rw[e4];exact jO (by decide) _
     exact⟨by rw[s5.col L _ (s4 _ _ hLk) n5];exact e4,s5.keep _ _ (s4 _ _ hLk) n5⟩
    have a5:bf (LkA c5 H5) (sts n (ds.take k)) us:=ha.imp λ_ _ z=>(z.step t4).step s5
    have k5:Step z8 cNo c5 H H5:=(sk.trans t4.wall).trans s5.wall;rw[<-e]at ch5 I';have at0:∀xs:List V,atI (V.str (R.gz d)::xs) 0=some (.str (R.gz d)):=λxs=>jX (j:=0) rfl
    have ls:=Lf (st:=cG n (ds.take k)) hd.1;rw[<-e,hx]at ls;clear s4 s5 nt h4 z4 t4 ha hLk cL sk ch;refine⟨_,rfl,_,rfl,t,(_),_,_,rfl,rfl,SqT.of hk5,at0 _,(by show 3<=eg;decide),λu hu=>⟨u,_,rfl,.inr (SqT.of ae),rfl,rfl,.inr ⟨_,rfl,_,_,rfl,rfl,?_⟩⟩⟩
    have ein:(if true=true then !inV (V.str (R.gz d)) [V.str (ar "vote"),V.str (ar "drop"),V.str (ar "take")] else inV (V.str (R.gz d)) [V.str (ar "vote"),V.str (ar "drop"),V.str (ar "take")])=z9 d:=(if_pos rfl).trans (MM hd.1)
    rw[ein];have em:(((cG n (ds.take k)).made.length:Int)+if z9 d=true then 1 else 0)=((cG n (ds.take (k+1))).made.length:Int):=by
     rw[ls];cases z9 d <;> simp
    try dsimp only[cX]
    rw[em];have t6:Step (λ_=>False) c5 (aN c5 u none) H5 (upd H5 u (.tup [V.str (ar "vote"),V.str (ar "drop"),V.str (ar "take")])):=Step.new id hu
    have ch6:=ch5.free (λ_=>id) t6
    have nuL:L≠u:=aG hL5.2 hu;have hL6:aN c5 u none L=some (0,.ob)/\upd H5 u (.tup [V.str (ar "vote"),V.str (ar "drop"),V.str (ar "take")]) L=some (.lst (us.map V.ref)):=⟨by rw[az nuL];exact hL5.1,(ao nuL).trans hL5.2⟩
    have a6:bf (LkA _ _) (sts n (ds.take k)) us:=a5.imp λ_ _ z=>z.step t6
    have k6:=k5.trans t6.wall;generalize aN c5 u none=c6 at ch6 hL6 a6 k6 t6;generalize upd H5 u (.tup [V.str (ar "vote"),V.str (ar "drop"),V.str (ar "take")])=H6 at ch6 hL6 a6 k6 t6 ⊢;clear t6 ch5 hL5 a5 k5 hu nuL;have es:=Lh (n:=n) hk;generalize cG n (ds.take (k+1))=st' at ch6 I' es ⊢;refine aL λGq gq=>?_
    obtain⟨dx,aM,aP,aA,aD,aF,aE,aR,ms,ds',ws,fs,es',X⟩:=ch6.ex;have al:=I'.zr;have lm:=I'.lm;refine gq ?_;refine⟨_,rfl,.inl ⟨rfl,_,SqL.of hL6.2⟩,mtv rfl X.ob (bU (by trivial)) ⟨o,c6,st',rfl,ch6,by omega,λns a H7 pm so s7 sa=>?_⟩⟩
    have en:=FE pm so;subst en;have t7:Step (λ_=>False) c6 (bz c6 H6) H6 H7:=Step.cl id s7
    have ch7:=ch6.free (λ_=>id) t7
    have hL7:bz c6 H6 L=some (0,.ob)/\H7 L=some (.lst (us.map V.ref)):=⟨(rD hL6.2).trans hL6.1,s7 _ _ hL6.2⟩;have a7:bf (LkA (bz c6 H6) H7) (sts n (ds.take k)) us:=a6.imp λ_ _ z=>z.step t7
    have k7:=k6.trans t7.wall;generalize bz c6 H6=c7 at t7 ch7 hL7 a7 k7 sa;clear t7 s7 ch6 hL6 a6 k6 X;refine⟨_,rfl,_,rfl,by omega,by omega,λRr hR=>?_⟩
    have t8:Step (bT 3) c7 (aN c7 Rr (some (3,.ob))) H7 (upd H7 Rr (.lst [])):=Step.new aC hR;refine EF (lo:=0) (n:=st'.made.length) (λj ys H8=>∃(c8:Col) (ts:List Addr),Step (bT 3) c7 c8 H7 H8/\H8 Rr=some (.lst ys)/\c8 Rr=some (3,.ob)/\ys=ts.map V.ref/\b9 A 1 c8 H8 o st'/\bf (MnT c8 H8) (st'.made.take j) ts)
     ⟨_,[],t8,ae,bj,rfl,ch7.other (by decide) t8,.nil⟩ (by omega) ?_ ?_ ?_
    ·rintro j ys H8 hj ⟨c8,ts,s8,hR8,cR,rfl,hc8,hm⟩;refine⟨hR8,?_⟩;rw[bo,<-hm.len,To];omega
    ·rintro j ys H8 hj ⟨c8,ts,s8,hR8,cR,rfl,hc8,hm⟩;refine aL λGq gq=>?_
     have ek:0+(j:Int)+1=((j+1:Nat):Int):=by omega
     have hn:eE st' (j+1):=⟨by omega,by omega⟩
     obtain⟨dx,aM,aP,aA,aD,aF,aE,aR,ms,ds',ws,fs,es',X⟩:=hc8.ex;refine gq ?_;refine mtv rfl X.ob (bU (by trivial)) ⟨_,rfl,_,_,rfl,rfl,o,j+1,c8,st',by unfold nV;rw[<-ek];rfl,hc8,hn,λm H9 s9 h9=>?_⟩
     have t9:Step (bT 3) c8 (bz c8 H8) H8 H9:=Step.cl aC s9;have cR9:bz c8 H8 Rr=some (3,.ob):=(rD hR8).trans cR;have t10:Step (bT 3) (bz c8 H8) (bz c8 H8) H9 (upd H9 Rr (.lst (ts.map V.ref++[.ref m]))):=Step.upd aC ⟨.ob,cR9⟩;refine bZ.mk hj (s9 _ _ hR8) ⟨_,ts++[m],(s8.trans t9).trans t10,ae,cR9,?_,hc8.other (by decide) (t9.trans t10),?_⟩
     ·rw[ma];rfl
     ·rw[A7 hj];exact bf.snoc (hm.imp λ_ _ z=>(z.step t9).step t10) (h9.step t10)
    ·rintro ys H8 ⟨c8,ts,s8,hR8,cR,rfl,hc8,hm⟩;rw[TY]at hm;refine⟨(by show 2<=eg;decide),λtu htu=>?_⟩
     have t9:Step (bT 3) c8 (aN c8 Rr none) H8 H8:=Step.unset cR;have t10:Step (bT 3) (aN c8 Rr none) (aN (aN c8 Rr none) tu none) H8 (upd H8 tu (.tup [.ref a,.ref Rr])):=Step.new aC htu;have ntR:Rr≠tu:=aG hR8 htu;have PH:=t9.trans t10;have Li:=s8.trans PH;have n7:¬bT 3 (c7 L):=by rw[hL7.1];exact jO (by decide) _
     have Lj:aN (aN c8 Rr none) tu none L=some (0,.ob)/\upd H8 tu (.tup [.ref a,.ref Rr]) L=some (.lst (us.map V.ref)):=⟨by rw[Li.col L _ hL7.2 n7];exact hL7.1,Li.keep _ _ hL7.2 n7⟩
     have lk:LkA (aN (aN c8 Rr none) tu none) (upd H8 tu (.tup [.ref a,.ref Rr])) st' tu:=⟨a,Rr,ts,bj,ae,sa.step Li,by rw[az ntR];exact bj,(ao ntR).trans hR8,hm.imp λ_ _ z=>z.step PH⟩
     have PK:=hc8.other (by decide) PH
     have k10:=k7.trans Li.wall;have a10:bf (LkA _ _) (sts n (ds.take k)) us:=a7.imp λ_ _ z=>z.step Li
     generalize aN (aN c8 Rr none) tu none=c10 at Lj lk PK k10 a10;generalize upd H8 tu (.tup [.ref a,.ref Rr])=H10 at Lj lk PK k10 a10 ⊢;have t11:Step (bT 0) c10 c10 H10 (upd H10 L (.lst (us.map V.ref++[.ref tu]))):=Step.upd aC ⟨.ob,Lj.1⟩;refine⟨L,_,_,rfl,rfl,Lj.2,by rw[bo];omega,⟨c10,us++[tu],_,_,rfl,k10.trans t11.wall,PK.other (by decide) t11,by rw[show 3 * (k+1)=3 * k+3 by omega];exact I',Lj.1,?_,?_,?_⟩⟩
     ·rw[ma];exact ae
     ·rw[es];exact bf.snoc (a10.imp λ_ _ z=>z.step t11) (lk.step t11)
     ·rw[gr,hul];rfl
   ·rw[R.row_read hd.2.1 hd.2.2]at he;cases he
  ·rintro σ Hk ⟨c,us,v5,v6,rfl,sk,ch,I,cL,hLk,ha,hul⟩;rw[ele,TY]at ha;exact⟨_,rfl,q L _ Hk (mw sk) hLk (bf.mapR (ha.imp λ_ _ z=>z.dv))⟩
end
theorem Ll (st:Ch):(lkD st).depth<=64:=by
 have h0:=zy st.aI;have h1:=fQ (f:=λn=>asD (z6 st n)) (k:=10) (λn=>KW _) (nsO st)
 have h2:=fQ (f:=dcD) (k:=10) KY st.decided;have h3:=fQ (f:=mnD) Ea st.made;unfold lkD stD ub;simp only[TN,TC];omega
theorem CA {n:Int}{ds:List R.bp}{st:Ch}(h:Rep n ds st)(hl:ds.length<=40):∀k,k<=ds.length->Inv 120 (cG n (ds.take k)):=by
 have:∀k,k<=ds.length->Inv (3 * k) (cG n (ds.take k)):=by
  intro k
  induction k with
  |zero=>exactλ_=>jm n
  |succ k ih =>
   intro hk;obtain⟨d,hd⟩:∃d,ds[k]?=some d:=⟨_,sr (by omega)⟩
   have e:cG n (ds.take (k+1))=(bH (cG n (ds.take k)) d).2:=by rw[Uw,hd];exact jl _ _ _
   have I':=(ih (by omega)).bH (by omega) (h.ok d (Ti hd)).1
   rw[e,show 3 * (k+1)=3 * k+3 by omega]
   exact I'
 exactλk hk=>(this k hk).mono (by omega)
theorem Lm {n:Int}{ds:List R.bp}{j:Nat}(h:j < ds.length):(sts n ds)[j]?=some (cG n (ds.take (j+1))):=by
 unfold sts;rw[wt,List.getElem?_range h];rfl
def RE (K:ba):Sp:=λvs H Q _=>∃(n:Int) (L1 L2:Addr) (d1 d2:List R.bp) (s1 s2:Ch) (u1 u2:List V),vs=[.ref L1,.ref L2]/\Rep n d1 s1/\Rep n d2 s2/\d1.length<=40/\d2.length<=40/\H L1=some (.lst u1)/\H L2=some (.lst u2)/\bf (λst v=>DV K H (lkD st) v) (sts n d1) u1/\bf (λst v=>DV K H (lkD st) v) (sts n d2) u2/\∀v,Due n d1 d2 v->Q v H
def Ln:Sp:=λvs H Q _=>∃v:V,vs=[v,v]/\(v=.non\/∃i:Int,v=.int i)/\Q (.bl true) H
def Eh:Sp:=λvs H Q _=>∃(n:Int) (l1 l2:Addr) (d1 d2:List R.bp) (k1 k2 k:Nat) (t1 t2:List Str) (z:Str) (r:List Str),vs=[.int n,.ref l1,.ref l2,.int ((k+1:Nat):Int)]/\d6 n H l1 d1 k1 t1/\d6 n H l2 d2 k2 t2/\Cy n z/\((t1=z::r/\k=k1)\/(t1=[]/\t2=z::r/\k=k2))/\k<=40/\∀H',aT H H'->Q (.bl true) H'
def MO (K:ba):Sp:=λvs H Q _=>∃(l:Addr) (dr n:Int) (rs:List Str),vs=[.ref l,.int dr]/\H l=some (.lst (rs.map V.str))/\rs.length<=40 /\
 ∀t L k z H',k<=rs.length->Cy n z->aT H H'->H' t=some (.tup [.ref L,.int ((k+1:Nat):Int)])->H' L=some (.lst ((rs.take k++z::rs.drop k).map V.str))->Q (.ref t) H'
section
variable{P:km}{w:World}{K:ba}{mg:Str->Option Value}{base:Heap}{A:Adr}
theorem Lo (T:Txt w.params K mg A):FnOk P w K mg base CX0 1 A.JJ A.yh ["_law_one","_law_other"] (RE K):=by
 refine T.F5.ok C8 (λvs H Q E h=>?_) (λcdv A' outer s H vs Q E hr h=>?_)
 ·obtain⟨n,L1,L2,d1,d2,s1,s2,u1,u2,rfl,_⟩:=h;rfl
 ·obtain⟨n,L1,L2,d1,d2,s1,s2,u1,u2,rfl,r1,r2,b1,b2,h1,h2,a1,a2,q⟩:=h;have qk:=hr.units;refine⟨_,(ak (ug Vj rfl (lB rfl T.sX (aa (bh (uh rfl) (by rfl) T.Ka EB (aa (bh bt (by rfl) T.eR cQ (aa (pv 0) af)) (aa (bh bt (by rfl) T.eR cQ (aa (pv 1) af)) af))) af)) (dI (i:=2) C8.nd rfl (Tp rfl))
 (ai (bE (aQ (ED qk) (aU a8 (pv 0) (pv 2) (λ_ _=>rfl)) (aU a8 (pv 1) (pv 2) (λ_ _=>rfl)) (aH _))
 (ai (aB (bA cv (pv 2) aj)))
 aO)))
 (ak (bE (aQ Ad (bh bt (by rfl) T.eR cQ (aa (pv 0) af)) (bh bt (by rfl) T.eR cQ (aa (pv 1) af)) (aH _))
 (ai (aB (bA cv (bh (uh rfl) (by rfl) T.Ka EB (aa (bh bt (by rfl) T.eR cQ (aa (pv 0) af)) (aa (bh bt (by rfl) T.eR cQ (aa (pv 1) af)) af))) aj)))
 aO)
 (ai (aB uf)))),?_⟩
  try dsimp only[br]
  have e1:u1.length=d1.length:=by rw[<-a1.len];unfold sts;rw[bo,List.length_range]
  have e2:u2.length=d2.length:=by rw[<-a2.len];unfold sts;rw[bo,List.length_range]
  have em:(if (u2.length:Int) < (u1.length:Int) then (u2.length:Int) else (u1.length:Int))=((min d1.length d2.length:Nat):Int):=by
   rw[e1,e2];split <;> omega
  refine⟨_,rfl,L1,_,rfl,.inl (SqL.of h1),_,rfl,L2,_,rfl,.inl (SqL.of h2),_,_,rfl,?_⟩;rw[em];refine⟨_,rfl,by omega,by omega,?_⟩
  refine pM (lo:=0) (n:=((min d1.length d2.length:Nat):Int).toNat) (λk σ Hk=>∃v2:Option V,σ=[some (.ref L1),some (.ref L2),v2]/\Hk=H/\∀i,i < k->alN n d1 d2 i=true) ⟨_,rfl,rfl,λi hi=>absurd hi (Nat.not_lt_zero i)⟩ ?_ ?_
  ·rintro k σ Hk hk ⟨v2,rfl,rfl,ha⟩;refine aL λGq gq=>?_
   rw[UM]at hk;have ek:0+(k:Int)+1=((k+1:Nat):Int):=by omega
   obtain⟨x1,g1,v1⟩:=a1.get (Lm (n:=n) (ds:=d1) (j:=k) (by omega))
   obtain⟨x2,g2,v2'⟩:=a2.get (Lm (n:=n) (ds:=d2) (j:=k) (by omega))
   have I1:=CA r1 b1 (k+1) (by omega)
   have I2:=CA r2 b2 (k+1) (by omega)
   refine gq ?_;refine⟨_,rfl,_,rfl,L1,(_),_,_,rfl,rfl,SqL.of h1,uc g1,_,rfl,_,rfl,L2,(_),_,_,rfl,rfl,SqL.of h2,uc g2,_,_,v1,v2',fP (Lg I1) (Ll _),fP (Lg I2) (Ll _),_,rfl,?_⟩;rw[PD];cases e:alN n d1 d2 k with
   |true =>
    have e':al (cG n (d1.take (k+1))) (cG n (d2.take (k+1)))=true:=e;rw[e'];refine df ⟨_,rfl,rfl,λi hi=>?_⟩
    by_cases h:i=k
    ·rw[h];exact e
    ·exact ha i (by omega)
   |false =>
    have e':al (cG n (d1.take (k+1))) (cG n (d2.take (k+1)))=false:=e;rw[e'];refine dN ⟨_,rfl,_,_,rfl,rfl,?_⟩
    try dsimp only[cX]
    rw[ek];exact q _ (.inl ⟨k,hk,e,ha,rfl⟩)
  ·rintro σ Hk ⟨v2,rfl,rfl,ha⟩;rw[UM]at ha;refine⟨_,rfl,L1,_,rfl,.inl (SqL.of h1),_,rfl,L2,_,rfl,.inl (SqL.of h2),rfl,_,rfl,?_⟩
   by_cases h:d1.length=d2.length
   ·refine Aq (by rw[e1,e2,h];simp) ?_
    exact q _ (.inr ⟨ha,by rw[if_pos h]⟩)
   ·refine xA (by rw[e1,e2];simp;omega) ?_
    refine⟨_,rfl,L1,_,rfl,.inl (SqL.of h1),_,rfl,L2,_,rfl,.inl (SqL.of h2),_,_,rfl,_,_,rfl,rfl,?_⟩;rw[em];exact q _ (.inr ⟨ha,by rw[if_neg h];congr 1⟩)
theorem wk (T:Txt w.params K mg A):FnOk P w K mg base CX0 2 A.EX A.uL ["_law_found","_law_due_here"] Ln:=by
 refine T.yy.ok Hu (λvs H Q E h=>?_) (λcdv A' outer s H vs Q E hr h=>?_)
 ·obtain⟨v,rfl,_⟩:=h;rfl
 ·obtain⟨v,rfl,hv,q⟩:=h;have qk:=hr.units;refine⟨_,(ak (bE (aQ IE (pv 1) uf (aH _))
 (ai (aB (bI IE (pv 0) uf (aH _))))
 aO)
 (ai (aB (iA (aW (zC T) hr rfl T.AL T.uR.kp T.AM .nil aV (aa (pv 0) af)) (gI (bI (xu qk) (pv 0) (pv 1) (aH _))))))),?_⟩
  try dsimp only[br]
  rcases hv with rfl | ⟨i,rfl⟩
  ·exact⟨_,rfl,rfl,_,rfl,dN ⟨_,rfl,rfl,q⟩⟩
  ·refine⟨_,rfl,rfl,tsf (decide_eq_false λz=>nomatch z) ⟨_,rfl,i,rfl,_,rfl,dN ⟨_,rfl,_,rfl,.int i,.int i,(by unfold DV;rfl),(by unfold DV;rfl),rfl,rfl,?_⟩⟩⟩
   rw[show T2 (.int i) (.int i)=true from by simp[T2]]
   exact q
end
theorem jn (xs:List V)(k:Nat)(h:k<=xs.length):fR xs (some (k:Int)) none=xs.drop k:=by
 unfold fR;rw[HT.mx,HT.rW,Nat.min_eq_left h,List.take_of_length_le (by rw[TQ];omega)]
section
variable{P:km}{w:World}{K:ba}{mg:Str->Option Value}{base:Heap}{A:Adr}
theorem Aa (T:Txt w.params K mg A):FnOk P w K mg base (CXB false P w) 12 A.pY A.jb ["_law_seats","_law_one","_law_other","_law_number"] Eh:=by
 refine T.oX.okXB ja (λvs H Q E h=>?_) (λcdv A' outer s H vs Q E hr h=>?_)
 ·obtain⟨n,l1,l2,d1,d2,k1,k2,k,t1,t2,z,r,rfl,_⟩:=h;rfl
 ·obtain⟨n,l1,l2,d1,d2,k1,k2,k,t1,t2,z,r,rfl,p1,p2,hz,hq,hk,q⟩:=h;refine⟨_,(au (psx (aY (i:=4) ja.nd rfl (Tp rfl) uf))
 (au (FW ⟨rfl,rfl⟩ (aJ (bD (pe_callXB rfl (A9 T) hr rfl T.sU T.oU.kp T.sV (pax (aa (pv 0) (aa (pv 1) (aa (pv 2) af)))))))
 (N8 (i:=5) ja.nd rfl rfl rfl T.cy (λ_=>(ai (aY (i:=4) ja.nd rfl (Tp rfl) (pv 5)))) (Bq ⟨rfl,rfl⟩)))
 (aJ (psx (aB (iA (bh EM (by rfl) T.mT kO (aa (pv 4) (aa (hJ (v:=V.ref A.bC) rfl T.BZ rfl) af))) (iA (aW (zC T) (hr.mono (by decide)) rfl T.AL T.uR.kp T.AM .nil aV (aa (F0 (pv 4) rfl) af)) (gI (bI bx (F0 (pv 4) rfl) (pv 3) (aH _)))))))))),?_⟩
  try dsimp only[br]
  have lk:([(ar "row",V.int ((k+1:Nat):Int))]:List (Str×V)).lookup (ar "row")=some (V.int ((k+1:Nat):Int)):=by
   rw[Vg];rfl
  have lg:((k+1:Nat):Int).natAbs.log2 < 1920:=p7 (by omega) (by omega)
  refine⟨_,rfl,_,rfl,_,rfl,n,l1,l2,d1,d2,k1,k2,t1,t2,rfl,p1,p2,?_⟩;rcases hq with ⟨e1,e2⟩ | ⟨e1,e2,e3⟩
  refine .inl ⟨z,r,e1,hz,λH2 d s2 hd=>?_⟩
  rw[<-e2]at hd
  rotate_left
  refine .inr ⟨e1,.inl ⟨z,r,e2,hz,λH2 d s2 hd=>?_⟩⟩
  rw[<-e3]at hd
  all_goals
   refine⟨true,T.gG,dN λea hea=>?_⟩
   have nde:d≠ea:=aG hd hea;have s3:aT H (upd H2 ea (xo ea (.ref A.bC) (some d))):=s2.new hea;have hx:upd H2 ea (xo ea (.ref A.bC) (some d)) ea=some (xo ea (.ref A.bC) (some d)):=ae;have hd3:upd H2 ea (xo ea (.ref A.bC) (some d)) d=some (.xd [("row",.int ((k+1:Nat):Int))]):=(ao nde).trans hd;generalize upd H2 ea (xo ea (.ref A.bC) (some d))=H3 at s3 hx hd3 ⊢;refine⟨_,rfl,?_⟩;refine⟨_,rfl,ea,.ref A.bC,A.bC,d,_,true,rfl,rfl,hx,hd3,T.Kj,T.yU,_,rfl,dN ?_⟩;refine⟨_,rfl,ea,A.bC,d,_,.int _,rfl,hx,hd3,T.DE,lk,⟨_,.int lg⟩,_,rfl,_,rfl,dN ?_⟩;exact⟨_,rfl,ea,A.bC,d,_,.int _,rfl,hx,hd3,T.DE,lk,⟨_,.int lg⟩,_,rfl,(by show rEq _ _ _ _;unfold rEq;simp only[decide_true];exact⟨rfl,q H3 s3⟩)⟩
theorem ud (T:Txt w.params K mg A):FnOk P w K mg base CX0 12 A.pY A.jb ["_law_seats","_law_one","_law_other","_law_number"] Eh:=(Aa T).calmB λ_ _ _ _ h=>h
theorem ue (T:Txt w.params K mg A):FnOk P w K mg base CX0 1 A.uM A.mR ["_law_rows","_law_draw"] (MO K):=by
 refine T.oY.ok sL (λvs H Q E h=>?_) (λcdv A' outer s H vs Q E hr h=>?_)
 ·obtain⟨l,dr,n,rs,rfl,_⟩:=h;rfl
 ·obtain⟨l,dr,n,rs,rfl,hl,hrl,q⟩:=h;refine⟨_,(ak (aY (i:=2) sL.nd rfl (Tp rfl) (bA dJ (pv 1) (bA cv (bh bt (by rfl) T.eR cQ (aa (pv 0) af)) aj)))
 (ai (aB (bM (aa (bA pO (bA pO (c9 eI (pv 0) eG (dM (pv 2))) (bX (aa (aU a8 (bX (aa aw (aa aw (aa aw af)))) (bA dJ (bA wW (pv 1) aj) aj) (λ_ _=>rfl)) af))) (c9 eI (pv 0) (dM (pv 2)) eG)) (aa (bA cv (pv 2) aj) af)))))),?_⟩
  try dsimp only[br]
  have sz:eg=16777216:=by decide
  have el:(rs.map V.str).length=rs.length:=by rw[bo]
  refine⟨_,rfl,_,rfl,l,_,rfl,.inl (SqL.of hl),_,_,rfl,rfl,_,_,rfl,rfl,(by show (0:Int) < _+1;omega),?_⟩
  obtain⟨k,hk⟩:∃k:Nat,dr % (((rs.map V.str).length:Int)+1)=(k:Int):=⟨(dr % (((rs.map V.str).length:Int)+1)).toNat,by
   have:=Int.emod_nonneg dr (show (((rs.map V.str).length:Int)+1)≠0 by omega)
   omega⟩
  have kl:k<=rs.length:=by
   have:=Int.emod_lt_of_pos dr (show (0:Int) < (((rs.map V.str).length:Int)+1) by omega)
   omega
  try dsimp only[cX]
  rw[hk];refine⟨_,rfl,_,rfl,_,rfl,l,_,rfl,SqL.of hl,λp1 hp1=>?_⟩
  rw[vc,<-Vp];refine⟨(by show 3<=eg;decide),λq0 hq0=>?_⟩
  refine aL λGq gq=>?_
  obtain⟨v,hv,hm⟩:=I9 (xs:=[ar "closed",ar "take 10000",ar ""].map V.str) (i:=dr / 100 % 3) (n:=3) rfl (by omega) (by omega)
  obtain⟨z,hz,rfl⟩:=List.mem_map.mp hm;refine gq ?_;refine⟨_,rfl,_,_,rfl,rfl,⟨by decide,by decide⟩,_,_,rfl,rfl,(by show (0:Int) < 3;decide),q0,(_),_,_,rfl,rfl,SqL.of ae,hv,(by show 1<=eg;decide),λq1 hq1=>?_⟩
  have s1:aT H (upd H p1 (.lst ((rs.take k).map V.str))):=av hp1;have h1:upd H p1 (.lst ((rs.take k).map V.str)) p1=some (.lst ((rs.take k).map V.str)):=ae;generalize upd H p1 (.lst ((rs.take k).map V.str))=H1 at s1 h1 hq0 hq1 ⊢;have s2:=(av (o:=.lst [V.str (ar "closed"),V.str (ar "take 10000"),V.str (ar "")]) hq0).new (o:=.lst [V.str z]) hq1;refine⟨p1,q1,_,_,rfl,rfl,s2 _ _ h1,ae,(by rw[bo,To];show _+1<=_;omega),λp2 hp2=>?_⟩
  have s3:=(s1.trans s2).new (o:=.lst ((rs.take k).map V.str++[V.str z])) hp2;refine⟨_,rfl,_,rfl,_,rfl,l,_,rfl,SqL.of (s3 _ _ hl),λp3 hp3=>?_⟩
  rw[jn _ _ (by rw[bo];exact kl),<-List.map_drop]
  have n23:p2≠p3:=aG ae hp3;refine⟨p2,p3,_,_,rfl,rfl,(ao n23).trans ae,ae,(by rw[gr,bo,bo,To,TQ];show min _ _+1+_<=_;omega),λp4 hp4=>⟨_,rfl,_,_,rfl,rfl,(by show 2<=eg;decide),λt ht=>?_⟩⟩
  have s5:=((s3.new (o:=.lst ((rs.drop k).map V.str)) hp3).new (o:=.lst ((rs.take k).map V.str++[V.str z]++(rs.drop k).map V.str)) hp4).new (o:=.tup [.ref p4,.int ((k:Int)+1)]) ht;refine q t p4 k z _ kl (S2 hz) s5 ae ((ao (aG ae ht)).trans (ae.trans ?_));simp
end
def GJ (K:ba):Sp:=λvs H Q _=>∃(a:Addr) (ns:List Int),vs=[.ref a]/\SqL K H a (ns.map V.int)/\ns.length<=63/\∀H',Q (.bl true) H'
theorem MP (xs:List V):(fR xs (some 2) (some 26)).length<=24:=by
 unfold fR;rw[show (2:Int)=((2:Nat):Int) from rfl,show (26:Int)=((26:Nat):Int) from rfl,HT.mx,HT.mx,To,TQ]
 omega
theorem Lp (xs:List V)(k:Nat):fR xs (some (k:Int)) none=xs.drop k:=by
 by_cases h:k<=xs.length
 ·exact jn xs k h
 ·unfold fR;rw[HT.mx,HT.rW,List.drop_eq_nil_of_le (by omega),List.drop_eq_nil_of_le (by omega),List.take_nil]
theorem bf.GK {α β:Type}{R:α->β->Prop}:∀ {as:List α} {bs:List β} (n:Nat),bf R as bs->bf R (as.take n) (bs.take n)
 |_,_,0,_=>.nil
 |_,_,_+1,.nil=>.nil
 |_,_,n+1,.cons h t=>.cons h (t.GK n)
theorem bf.Lq {α β:Type}{R:α->β->Prop}:∀ {as:List α} {bs:List β} (n:Nat),bf R as bs->bf R (as.drop n) (bs.drop n)
 |_,_,0,h=>h
 |_,_,_+1,.nil=>.nil
 |_,_,n+1,.cons _ t=>t.Lq n
theorem bf.app {α β:Type}{R:α->β->Prop}:∀ {as as':List α} {bs bs':List β},bf R as bs->bf R as' bs'->bf R (as++as') (bs++bs')
 |_,_,_,_,.nil,h=>h
 |_,_,_,_,.cons h t,g=>.cons h (t.app g)
theorem dR.weak {c c':Col}{H:Hp}{t:Addr}(hc:∀b,c b=none->c' b=none):∀ {d:R.bp},dR c H d t->dR c' H d t
 | .mat _,⟨L,a,b1,b2⟩=>⟨L,⟨hc _ a.1,a.2⟩,hc _ b1,b2⟩
 | .ed _ _ _ _,⟨e,a,b⟩=>⟨e,⟨hc _ a.1,a.2⟩,hc _ b.1,b.2⟩
 | .pt _,h=>⟨hc _ h.1,h.2⟩
 | .nums _ _,h=>⟨hc _ h.1,h.2⟩
def Tn (c:Col)(H:Hp)(q:Addr):Prop:=∃(ts:List Addr) (es:List R.bp),c q=none/\H q=some (.lst (ts.map V.ref))/\bf (dR c H) es ts/\(∀e∈es,mr e)/\es.length<=40
theorem Tn.step {W:Option (Nat×Rl)->Prop}{c c':Col}{H H':Hp}{q:Addr}(s:Step W c c' H H'):Tn c H q->Tn c' H' q
 |⟨ts,es,h1,h2,h3,h4,h5⟩=>⟨ts,es,(fO s h1 h2).1,(fO s h1 h2).2,h3.imp λ_ _ z=>z.step s,h4,h5⟩
theorem MQ {N:Nat}{st:Ch}(I:Inv N st):al st st=true:=by
 unfold al;rw[eqv_refl _ (Cv I _),eqv_refl _ (xa I)];rfl
theorem Due.self {n:Int}{ds:List R.bp}{st:Ch}{v:V}(r:Rep n ds st)(hl:ds.length<=40)(h:Due n ds ds v):v=.non:=by
 rcases h with ⟨j,h1,h2,_⟩ | ⟨_,rfl⟩
 ·have e:alN n ds ds j=true:=MQ (CA r hl (j+1) (by omega))
  rw[e]at h2;cases h2
 ·rw[if_pos rfl]
theorem Due.val {n:Int}{d1 d2:List R.bp}{v:V}(h:Due n d1 d2 v):v=.non\/∃i:Int,v=.int i:=by
 rcases h with ⟨j,_,_,_,rfl⟩ | ⟨_,rfl⟩
 ·exact .inr ⟨_,rfl⟩
 ·split
  ·exact .inl rfl
  ·exact .inr ⟨_,rfl⟩
theorem d6.whole {n:Int}{H:Hp}{l:Addr}{ds:List R.bp}{st:Ch}(r:Rep n ds st)(hl:ds.length<=40)(h:H l=some (.lst (st.rows.map V.str))):d6 n H l ds ds.length [] :=
 ⟨by rw[TY,T9,<-r.rows];exact h,⟨st,r⟩,hl,kc _⟩
theorem d6.bad {n:Int}{H:Hp}{l:Addr}{ds:List R.bp}{st:Ch}{k:Nat}{z:Str}(r:Rep n ds st)(hl:ds.length<=40)(hk:k<=st.rows.length)(h:H l=some (.lst ((st.rows.take k++z::st.rows.drop k).map V.str))):d6 n H l ds k (z::st.rows.drop k) :=
 ⟨by rw[Vp,<-r.rows];exact h,⟨st,r⟩,hl,by rw[r.rows,bo]at hk;exact hk⟩
theorem Lr {K:ba}{H:Hp}{p x y:Addr}{r1 r2:List Str}(h:H p=some (.lst [.ref x,.ref y]))(hx:H x=some (.lst (r1.map V.str)))(hy:H y=some (.lst (r2.map V.str))):DV K H (.list [.list (r1.map TZ),.list (r2.map TZ)]) (.ref p):=by
 unfold DV;refine⟨p,_,rfl,SqL.of h,?_⟩;unfold DVs;refine⟨_,_,rfl,pN (SqL.of hx),?_⟩;unfold DVs;exact⟨_,_,rfl,pN (SqL.of hy),by unfold DVs;rfl⟩
section
variable{P:km}{w:World}{K:ba}{mg:Str->Option Value}{base:Heap}{A:Adr}
theorem PL {f:Addr}{fd:gp}(F:Fun K "law" "law" F4 f fd)(T:Txt w.params K mg A):FnOk P w K mg base CX0 20 f fd ["_law_script"] (GJ K):=by
 have zI:FnOk P w K mg base (CXB false P w) 11 A.parted A.pV ["seats","one","other"] (Ec A):=A9 T;refine F.ok f7 (λvs H Q E h=>?_) (λcdv A' outer s H vs Q E hr h=>?_)
 ·obtain⟨a,ns,rfl,_⟩:=h;rfl
 ·obtain⟨a,ns,rfl,hS,hlen,q⟩:=h;have vf:Room 11 _:=hr.mono (by decide)
  have qk:=hr.units;refine⟨_,(ak (aY (i:=1) f7.nd rfl (Or.inr rfl) (bA cv aj (bA dJ (aW (tY T) (hr.mono (by decide)) rfl T.vO T.oV.kp T.vP .nil aV (aa (pv 0) (aa aj af))) aj)))
 (ak (xC (i:=2) (scope:=AH) JI rfl rfl (Tp rfl) (hU (c9 eI (pv 0) (dM aj) (dM aj))) (λ_ _ _ _ _=>(aW (A5 T) (hr.mono (by decide)) rfl T.Dt T.yx.kp T.Du .nil aV (aa (pv 0) (aa (pv 2) af)))))
 (ak (aY (i:=3) f7.nd rfl (Tp rfl) (aW (wg T) (hr.mono (by decide)) rfl T.yu T.rz.kp T.yw .nil aV (aa (aW (tY T) (hr.mono (by decide)) rfl T.vO T.oV.kp T.vP .nil aV (aa (pv 0) (aa aj af))) (aa aj af))))
 (ak (aY (i:=4) f7.nd rfl (Tp rfl) (bA dJ (aU a8 (pv 3) aj (λ_ _=>rfl)) (bA cv (bh bt (by rfl) T.eR cQ (aa (pv 2) af)) aj)))
 (ak (aY (i:=5) f7.nd rfl (Tp rfl) (bX (aa (bP bN (by rfl) T.iL fm (aa (pv 2) af)) (aa (c9 eI (pv 2) eG (dM (pv 4))) (aa (bA pO (c9 eI (pv 2) eG (dM (pv 4))) (c9 eI (pv 2) (dM (bA cv (pv 4) aj)) eG)) af)))))
 (ak (ug Vj rfl (lB rfl T.sX (aa aj af)) (dI (i:=6) f7.nd rfl (Tp rfl))
 (ai (bF (fV Tj Tx Tz cA (pv 5) (aa (bA pO (bA pO (c9 eI (pv 2) eG (dM (pv 4))) (bX (aa (aW (A5 T) (hr.mono (by decide)) rfl T.Dt T.yx.kp T.Du .nil aV (aa (bA cv (aU a8 (pv 3) aj (λ_ _=>rfl)) (pv 6)) (aa (pv 1) af))) af))) (c9 eI (pv 2) (dM (bA cv (pv 4) aj)) eG)) af)))))
 (ak (aY (i:=7) f7.nd rfl (Tp rfl) (aW (ua T) (hr.mono (by decide)) rfl T.vQ T.oW.kp T.vR .nil aV (aa (pv 2) (aa (pv 1) af))))
 (ak (aY (i:=8) f7.nd rfl (Tp rfl) (aW (ua T) (hr.mono (by decide)) rfl T.vQ T.oW.kp T.vR .nil aV (aa (aU a8 (pv 5) (bA dJ (aU a8 (pv 3) aj (λ_ _=>rfl)) aj) (λ_ _=>rfl)) (aa (pv 1) af))))
 (ak (aY (i:=9) f7.nd rfl (Tp rfl) (aW (Lo T) (hr.mono (by decide)) rfl T.LY T.F5.kp T.LZ .nil aV (aa (aW (zH T) (hr.mono (by decide)) rfl T.AN T.uS.kp T.AO .nil aV (aa (pv 7) (aa (pv 1) af))) (aa (aW (zH T) (hr.mono (by decide)) rfl T.AN T.uS.kp T.AO .nil aV (aa (pv 8) (aa (pv 1) af))) af))))
 (ak (aY (i:=10) f7.nd rfl (Tp rfl) (bX (aa (bP bN (by rfl) T.iL fm (aa (pv 7) af)) (aa (bP bN (by rfl) T.iL fm (aa (pv 8) af)) af))))
 (ak (bE (PW.pt (pw_or (kM (kL (aW (wk T) (hr.mono (by decide)) rfl T.Dw T.yy.kp T.Dx .nil aV (aa (aW zI vf rfl T.sU T.oU.kp T.sV .nil mz (aa (pv 1) (aa (aU a8 (pv 10) aj (λ_ _=>rfl)) (aa (aU a8 (pv 10) aj (λ_ _=>rfl)) af)))) (aa (pv 9) af))))) (pw_or1 (aQ (ED qk) (pv 10) (bX (aa (pv 7) (aa (pv 8) af))) (aH _)))))
 (ai (aB ni))
 aO)
 (ak (bE (PW.pt (pw_or (kM (kL (aW (wk T) (hr.mono (by decide)) rfl T.Dw T.yy.kp T.Dx .nil aV (aa (aW zI vf rfl T.sU T.oU.kp T.sV .nil mz (aa (pv 1) (aa (pv 8) (aa (pv 7) af)))) (aa (pv 9) af))))) (pw_or1 (aQ Lw (aW zI vf rfl T.sU T.oU.kp T.sV .nil mz (aa (pv 1) (aa (pv 7) (aa (bP bN (by rfl) T.iL fm (aa (pv 7) af)) af)))) uf (aH _)))))
 (ai (aB ni))
 aO)
 (ak (Ek (aW (ue T) (hr.mono (by decide)) rfl T.vU T.oY.kp T.vV .nil aV (aa (pv 7) (aa (aU a8 (pv 3) aj (λ_ _=>rfl)) af))) (Ej rfl (lA (dI (i:=11) f7.nd rfl (Tp rfl)) (lA (dI (i:=12) f7.nd rfl (Tp rfl)) Bb))))
 (ak (Ek (aW (ue T) (hr.mono (by decide)) rfl T.vU T.oY.kp T.vV .nil aV (aa (pv 8) (aa (aU a8 (pv 3) aj (λ_ _=>rfl)) af))) (Ej rfl (lA (dI (i:=13) f7.nd rfl (Tp rfl)) (lA (dI (i:=14) f7.nd rfl (Tp rfl)) Bb))))
 (ak (bE (kM (kL (aW (ud T) (hr.mono (by decide)) rfl T.vS T.oX.kp T.vT .nil aV (aa (pv 1) (aa (pv 11) (aa (aU a8 (bX (aa (pv 8) (aa (pv 13) af))) (bA dJ (bA wW (aU a8 (pv 3) aj (λ_ _=>rfl)) aj) aj) (λ_ _=>rfl)) (aa (pv 12) af)))))))
 (ai (aB ni))
 aO)
 (ai (aB (aW (ud T) (hr.mono (by decide)) rfl T.vS T.oX.kp T.vT .nil aV (aa (pv 1) (aa (pv 7) (aa (pv 13) (aa (pv 14) af)))))))))))))))))))))),?_⟩
  try dsimp only[br]
  have sz:eg=16777216:=by decide
  refine⟨_,rfl,a,ns,0,rfl,hS,Int.le_refl _,λfi=>⟨_,_,rfl,rfl,(by show (0:Int) < 9;decide),_,_,rfl,rfl,?_⟩⟩
  have n1:1<=1+fi % 9:=by omega
  have n9:1+fi % 9<=9:=by omega
  try dsimp only[cX]
  generalize 1+fi % 9=n at n1 n9 ⊢;refine⟨_,rfl,_,rfl,_,rfl,a,_,rfl,hS,λl hl=>⟨l,rfl,⟨_,SqL.of ae⟩,λL hL=>?_⟩⟩
  have hcl:=MP (ns.map V.int);have isI:∀x∈fR (ns.map V.int) (some 2) (some 26),∃z,x=V.int z:=λx hx=>by
   obtain⟨z,_,e⟩:=List.mem_map.mp (MF hx);exact⟨z,e.symm⟩
  have hB:SqL K (upd H l (.lst (fR (ns.map V.int) (some 2) (some 26)))) l (fR (ns.map V.int) (some 2) (some 26)):=SqL.of ae;have hS:=(av (o:=.lst (fR (ns.map V.int) (some 2) (some 26))) hl).seq hS;generalize upd H l (.lst (fR (ns.map V.int) (some 2) (some 26)))=H2 at hB hL hS ⊢;generalize fR (ns.map V.int) (some 2) (some 26)=cs at hB hcl isI ⊢;have cR:∀(H':Hp),H' L≠none->∀b,H' b=none->aN cNo L (some (0,.ob)) b=none:=λH' h b hb=>by
   by_cases z:b=L
   ·rw[z]at hb;exact absurd hb h
   ·rw[az z]
  refine lD (K:=K) (a:=l) (xs:=cs) (λk ys H3=>aT H2 H3/\H3 L=some (.lst ys)/\∃(ds:List R.bp) (ts:List Addr),ys=ts.map V.ref/\ds.length=k/\(∀d∈ds,mr d)/\bf (dR (aN cNo L (some (0,.ob))) H3) ds ts)
   ⟨av hL,ae,[],[],rfl,rfl,(λ_ h=>nomatch h),.nil⟩ (by omega) ?_ ?_ ?_
  ·rintro k ys H3 hk ⟨s3,hL3,ds,ts,rfl,hdl,hok,ha⟩;refine⟨s3.seq hB,hL3,?_⟩;rw[bo,<-ha.len];exact hdl
  ·rintro k y ys H3 hy ⟨s3,hL3,ds,ts,rfl,hdl,hok,ha⟩;refine aL λGq gq=>?_
   obtain⟨z,rfl⟩:=isI _ (Ti hy);refine gq ?_;refine⟨_,rfl,_,rfl,z,n,rfl,n1,by omega,λd t H6 hd s6 hdn=>?_⟩
   have zd:dR (aN cNo L (some (0,.ob))) H6 d t:=hdn.zc (cR H3 (by rw[hL3];exactλz=>nomatch z))
   have t6:Step (bT 0) (aN cNo L (some (0,.ob))) (aN cNo L (some (0,.ob))) H6 (upd H6 L (.lst (ts.map V.ref++[.ref t]))):=Step.upd aC ⟨.ob,bj⟩;have t5:Step (bT 0) (aN cNo L (some (0,.ob))) (aN cNo L (some (0,.ob))) H3 H6:=Step.same aC s6;refine bZ.mk (List.getElem?_eq_some_iff.mp hy).1 (s6 _ _ hL3) ⟨(s3.trans s6).own hL,ae,ds++[d],ts++[t],?_,?_,?_,bf.snoc (ha.imp λ_ _ z=>(z.step t5).step t6) (zd.step t6)⟩
   ·rw[ma];rfl
   ·rw[gr,hdl];rfl
   ·intro e he;rcases List.mem_append.mp he with he | he
    ·exact hok e he
    ·rw[Te]at he;rw[he];exact hd
  ·rintro ys H3 ⟨s3,hL3,ds,ts,rfl,hdl,hok,ha0⟩;have ha:bf (dR cNo H3) ds ts:=ha0.imp λ_ _ z=>z.weak λ_ _=>rfl
   have etl:=ha.len;have d24:ds.length<=24:=by omega
   have hS:=s3.seq hS;clear ha0 hB s3 hL cR isI
   try dsimp only[cX]
   refine⟨_,rfl,a,ns,1,rfl,hS,by decide,λc1=>⟨c1,5,rfl,by decide,by decide,λzs pz H4 zl hz s4 npz hpz=>?_⟩⟩
   refine aL λGq gq=>?_
   obtain⟨z0,z1,z2,z3,z4,rfl⟩:∃z0 z1 z2 z3 z4,zs=[z0,z1,z2,z3,z4]:=by
    match zs,zl with
    |[z0,z1,z2,z3,z4],_=>exact⟨z0,z1,z2,z3,z4,rfl⟩
    |[],h=>exact absurd h (by decide)
    |[_],h=>exact absurd h (by simp)
    |[_,_],h=>exact absurd h (by simp)
    |[_,_,_],h=>exact absurd h (by simp)
    |[_,_,_,_],h=>exact absurd h (by simp)
    |_::_::_::_::_::_::_,h=>simp at h;omega
   have hpz:H4 pz=some (.lst [V.int z0,V.int z1,V.int z2,V.int z3,V.int z4]):=hpz;have a0:atI [V.int z0,V.int z1,V.int z2,V.int z3,V.int z4] 0=some (.int z0):=rfl;have a1:atI [V.int z0,V.int z1,V.int z2,V.int z3,V.int z4] 1=some (.int z1):=rfl;have a2:atI [V.int z0,V.int z1,V.int z2,V.int z3,V.int z4] 2=some (.int z2):=rfl;have a3:atI [V.int z0,V.int z1,V.int z2,V.int z3,V.int z4] 3=some (.int z3):=rfl;have a4:atI [V.int z0,V.int z1,V.int z2,V.int z3,V.int z4] 4=some (.int z4):=rfl;have hL4:=s4 _ _ hL3;have ha4:bf (dR cNo H4) ds ts:=ha.imp λ_ _ z=>z.step (Step.same (W:=λ_=>False) id s4)
   clear ha hL3 s4 npz hz zl hS;refine gq ?_
   try dsimp only[cX]
   refine ixv rfl (SqL.of hpz) a0 ⟨_,rfl,L,_,rfl,.inl (SqL.of hL4),_,_,rfl,rfl,_,_,rfl,rfl,(by show (0:Int) < _+1;omega),?_⟩
   obtain⟨k,hk⟩:∃k:Nat,z0 % (((ts.map V.ref).length:Int)+1)=(k:Int):=⟨(z0 % (((ts.map V.ref).length:Int)+1)).toNat,by
    have:=Int.emod_nonneg z0 (show (((ts.map V.ref).length:Int)+1)≠0 by omega)
    omega⟩
   try dsimp only[cX]
   rw[hk];refine⟨_,rfl,L,_,rfl,.inl (SqL.of hL4),λq1 hq1=>?_⟩
   have s1:aT H4 (upd H4 q1 (.lst (ts.map V.ref))):=av hq1;have g1:upd H4 q1 (.lst (ts.map V.ref)) q1=some (.lst (ts.map V.ref)):=ae;generalize upd H4 q1 (.lst (ts.map V.ref))=Ha at s1 g1 ⊢;refine⟨_,rfl,_,rfl,_,rfl,L,_,rfl,SqL.of (s1 _ _ hL4),λq2 hq2=>?_⟩
   rw[vc,<-Vp];have s2:aT Ha (upd Ha q2 (.lst ((ts.take k).map V.ref))):=av hq2;have g2:upd Ha q2 (.lst ((ts.take k).map V.ref)) q2=some (.lst ((ts.take k).map V.ref)):=ae;generalize upd Ha q2 (.lst ((ts.take k).map V.ref))=Hb at s2 g2 ⊢;refine⟨_,rfl,_,rfl,_,rfl,L,_,rfl,SqL.of (s2 _ _ (s1 _ _ hL4)),λq3 hq3=>?_⟩
   rw[vc,<-Vp];have s3:aT Hb (upd Hb q3 (.lst ((ts.take k).map V.ref))):=av hq3;have g3:upd Hb q3 (.lst ((ts.take k).map V.ref)) q3=some (.lst ((ts.take k).map V.ref)):=ae;generalize upd Hb q3 (.lst ((ts.take k).map V.ref))=Hc at s3 g3 ⊢;have ek1:(k:Int)+1=((k+1:Nat):Int):=by omega
   refine⟨_,rfl,_,rfl,_,_,rfl,rfl,_,rfl,L,_,rfl,SqL.of (s3 _ _ (s2 _ _ (s1 _ _ hL4))),λq4 hq4=>?_⟩
   rw[ek1,Lp,<-List.map_drop];have s4:aT Hc (upd Hc q4 (.lst ((ts.drop (k+1)).map V.ref))):=av hq4;have g4:upd Hc q4 (.lst ((ts.drop (k+1)).map V.ref)) q4=some (.lst ((ts.drop (k+1)).map V.ref)):=ae;generalize upd Hc q4 (.lst ((ts.drop (k+1)).map V.ref))=Hd at s4 g4 ⊢;refine⟨q3,q4,_,_,rfl,rfl,s4 _ _ g3,g4,(by rw[bo,bo,To,TQ];omega),λq5 hq5=>?_⟩
   rw[<-ma];have s5:aT Hd (upd Hd q5 (.lst ((ts.take k++ts.drop (k+1)).map V.ref))):=av hq5;have h5:upd Hd q5 (.lst ((ts.take k++ts.drop (k+1)).map V.ref)) q5=some (.lst ((ts.take k++ts.drop (k+1)).map V.ref)):=ae;generalize upd Hd q5 (.lst ((ts.take k++ts.drop (k+1)).map V.ref))=H5 at s5 h5 ⊢;have s25:=(s3.trans s4).trans s5;have h2:=s25 _ _ g2;have h1:=(s2.trans s25) _ _ g1;have s15:=s1.trans (s2.trans s25);clear s1 s2 s3 s4 s5 s25 g1 g2 g3 g4 hq1 hq2 hq3 hq4 hq5;refine⟨(by show 3<=eg;decide),λW hW=>?_⟩
   have ha5:bf (dR cNo H5) ds ts:=ha4.imp λ_ _ z=>z.step (Step.same (W:=λ_=>False) id s15)
   have tk:(ds.take k).length<=24:=by rw[To];omega
   have td:(ds.drop (k+1)).length<=24:=by rw[TQ];omega
   have okt:∀e∈ds.take k,mr e:=λe he=>hok e (U8 he)
   have okd:∀e∈ds.drop (k+1),mr e:=λe he=>hok e (Va he)
   have tn:∀q∈[q1,q2,q5],Tn cNo H5 q:=by
    intro q hq;simp only[Uz,Ui,or_false]at hq;rcases hq with rfl | rfl | rfl
    ·exact⟨ts,ds,rfl,h1,ha5,hok,by omega⟩
    ·exact⟨ts.take k,ds.take k,rfl,h2,ha5.GK k,okt,by omega⟩
    ·refine⟨ts.take k++ts.drop (k+1),ds.take k++ds.drop (k+1),rfl,h5,(ha5.GK k).app (ha5.Lq (k+1)),λe he=>?_,by rw[gr,To,TQ];omega⟩
     rcases List.mem_append.mp he with he | he
     ·exact okt e he
     ·exact okd e he
   have sW:Step z8 cNo (aN cNo W (some (0,.ob))) H5 (upd H5 W (.lst [V.ref q1,.ref q2,.ref q5])):=Step.new nh hW;have hL5:=s15 _ _ hL4;have hz5:=s15 _ _ hpz;clear h1 h2 h5 ha4 s15 hL4 hpz
   try dsimp only[cX]
   refine⟨_,rfl,by decide,by decide,?_⟩
   refine pM (lo:=0) (n:=(3:Int).toNat) (λj σ Hk=>∃(c:Col) (qs:List Addr) (kv:Option V),σ=[some (.ref a),some (.int n),some (.ref L),some (.ref pz),some (.int (k:Int)),some (.ref W),kv,none,none,none,none,none,none,none,none]/\Step z8 cNo c H5 Hk/\c W=some (0,.ob)/\Hk W=some (.lst (qs.map V.ref))/\qs.length=3+j/\∀q∈qs,Tn c Hk q)
    ⟨_,[q1,q2,q5],_,rfl,sW,bj,ae,rfl,λq hq=>(tn q hq).step sW⟩ ?_ ?_
   ·rintro j σ Hk hj ⟨c,qs,kv,rfl,sk,cW,hWk,ql,hq⟩;have hj3:j < 3:=hj;have hLk:=mw sk _ _ hL5;have hzk:=mw sk _ _ hz5;refine⟨_,rfl,.inl ⟨rfl,_,SqL.of hWk⟩,_,rfl,_,rfl,_,rfl,L,_,rfl,SqL.of hLk,λp1 hp1=>?_⟩
    rw[vc,<-Vp];have s1:aT Hk (upd Hk p1 (.lst ((ts.take k).map V.ref))):=av hp1;have g1:upd Hk p1 (.lst ((ts.take k).map V.ref)) p1=some (.lst ((ts.take k).map V.ref)):=ae;generalize upd Hk p1 (.lst ((ts.take k).map V.ref))=Ha at s1 g1 ⊢;refine⟨_,rfl,pz,(_),_,_,rfl,rfl,SqL.of (s1 _ _ hzk),a1,_,rfl,_,_,rfl,rfl,_,rfl,_,n,rfl,n1,by omega,λd t Hb hd s2 hdn=>⟨(by show 1<=eg;decide),λp2 hp2=>?_⟩⟩
    have z2:dR (bz c Hk) Hb d t:=(hdn.pre s1).zc λ_ h=>bL h
    have s3:aT Hb (upd Hb p2 (.lst [V.ref t])):=av hp2;have g2:upd Hb p2 (.lst [V.ref t]) p2=some (.lst [V.ref t]):=ae;generalize upd Hb p2 (.lst [V.ref t])=Hc at s3 g2 ⊢;refine⟨p1,p2,_,_,rfl,rfl,s3 _ _ (s2 _ _ g1),g2,(by rw[bo,To];show _+1<=_;omega),λp3 hp3=>?_⟩
    have s4:aT Hc (upd Hc p3 (.lst ((ts.take k).map V.ref++[V.ref t]))):=av hp3;have g3:upd Hc p3 (.lst ((ts.take k).map V.ref++[V.ref t])) p3=some (.lst ((ts.take k).map V.ref++[V.ref t])):=ae;generalize upd Hc p3 (.lst ((ts.take k).map V.ref++[V.ref t]))=Hd at s4 g3 ⊢;have s14:=s1.trans (s2.trans (s3.trans s4));refine⟨_,rfl,_,rfl,_,_,rfl,rfl,_,rfl,L,_,rfl,SqL.of (s14 _ _ hLk),λp4 hp4=>?_⟩
    rw[ek1,Lp,<-List.map_drop];have s5:aT Hd (upd Hd p4 (.lst ((ts.drop (k+1)).map V.ref))):=av hp4;have g4:upd Hd p4 (.lst ((ts.drop (k+1)).map V.ref)) p4=some (.lst ((ts.drop (k+1)).map V.ref)):=ae;generalize upd Hd p4 (.lst ((ts.drop (k+1)).map V.ref))=He at s5 g4 ⊢;refine⟨p3,p4,_,_,rfl,rfl,s5 _ _ g3,g4,(by rw[gr,bo,bo,To,TQ];show min _ _+1+_<=_;omega),λp5 hp5=>?_⟩
    have eL:(ts.take k).map V.ref++[V.ref t]++(ts.drop (k+1)).map V.ref=(ts.take k++([t]++ts.drop (k+1))).map V.ref:=by simp
    rw[eL];have s6:aT He (upd He p5 (.lst ((ts.take k++([t]++ts.drop (k+1))).map V.ref))):=av hp5;have g5:upd He p5 (.lst ((ts.take k++([t]++ts.drop (k+1))).map V.ref)) p5=some (.lst ((ts.take k++([t]++ts.drop (k+1))).map V.ref)):=ae;generalize upd He p5 (.lst ((ts.take k++([t]++ts.drop (k+1))).map V.ref))=Hf at s6 g5 ⊢;have s2f:=((s3.trans s4).trans s5).trans s6;have sA:aT Hk Hf:=s1.trans (s2.trans s2f);have tA:Step z8 c (bz c Hk) Hk Hf:=Step.cl nh sA;have n5:Hk p5=none:=same_none (s14.trans s5) hp5;have cW2:bz c Hk W=some (0,.ob):=(rD hWk).trans cW;have aA:bf (dR (bz c Hk) Hf) ds ts:=ha5.imp λ_ _ z=>(z.step sk).step tA
    have zA:dR (bz c Hk) Hf d t:=z2.step (Step.same (W:=λ_=>False) id s2f)
    have tq:Tn (bz c Hk) Hf p5:=by
     refine⟨_,ds.take k++([d]++ds.drop (k+1)),bL n5,g5,(aA.GK k).app ((bf.cons zA .nil).app (aA.Lq (k+1))),λe he=>?_,by rw[gr,gr,Tg,To,TQ];omega⟩
     rcases List.mem_append.mp he with he | he
     ·exact okt e he
     ·rcases List.mem_append.mp he with he | he
      ·rw[Te]at he;rw[he];exact hd
      ·exact okd e he
    have tW:Step (bT 0) (bz c Hk) (bz c Hk) Hf (upd Hf W (.lst (qs.map V.ref++[V.ref p5]))):=Step.upd aC ⟨.ob,cW2⟩;refine⟨W,_,_,rfl,rfl,sA _ _ hWk,by rw[bo];omega,⟨_,qs++[p5],_,rfl,(sk.trans tA).trans tW.wall,cW2,?_,?_,λq hq'=>?_⟩⟩
    ·rw[ma];exact ae
    ·rw[gr,ql];rfl
    ·rcases List.mem_append.mp hq' with h | h
     ·exact((hq q h).step tA).step tW
     ·rw[Te]at h;rw[h];exact tq.step tW
   ·rintro σ Hk ⟨c,qs,kv,rfl,sk,cW,hWk,ql,hq⟩;have ql6:qs.length=6:=ql;have sH:=mw sk;have hLk:=sH _ _ hL5;have hzk:=sH _ _ hz5;have aK:bf (dR cNo Hk) ds ts:=(ha5.imp λ_ _ z=>z.step sk).imp λ_ _ z=>z.weak λ_ _=>rfl
    refine⟨_,rfl,_,rfl,L,ts,ds,n,rfl,SqL.of hLk,aK,hok,by omega,λd1 x1 p1 H6 rep1 l1 s6 _ hp1=>?_⟩
    try dsimp only[cX]
    refine aL λGq gq=>?_
    obtain⟨v,hv,hm⟩:=I9 (xs:=qs.map V.ref) (i:=z2 % 6) (n:=6) (by rw[bo,ql6]) (by omega) (by omega)
    obtain⟨qx,hqx,rfl⟩:=List.mem_map.mp hm;obtain⟨tsx,esx,_,hqk,aX,okx,lx⟩:=hq qx hqx;have aX:bf (dR cNo H6) esx tsx:=(aX.imp λ_ _ z=>z.weak (c':=cNo) λ_ _=>rfl).imp λ_ _ z=>z.step (Step.same (W:=λ_=>False) id s6)
    have hzk:=s6 _ _ hzk;refine gq ?_;refine⟨_,rfl,_,rfl,pz,(_),_,_,rfl,rfl,SqL.of hzk,a2,_,_,rfl,rfl,(by show (0:Int) < 6;decide),W,(_),_,_,rfl,rfl,SqL.of (s6 _ _ hWk),hv,_,rfl,qx,tsx,esx,n,rfl,SqL.of (s6 _ _ hqk),aX,okx,lx,λd2 x2 p2 H7 rep2 l2 s7 _ hp2=>?_⟩
    have hzk:=s7 _ _ hzk;have hp1:=s7 _ _ hp1;clear aK hLk hL5 hz5 aX hqk hv hm hq hWk s6 s7 sk sH tn ha5
    try dsimp only[cX]
    refine⟨_,rfl,_,rfl,n,p1,d1,x1,rfl,hp1,rep1,l1,λL1 u1 H8 s8 hL1 b1=>⟨_,rfl,_,rfl,n,p2,d2,x2,rfl,s8 _ _ hp2,rep2,l2,λL2 u2 H9 s9 hL2 b2=>⟨n,L1,L2,d1,d2,x1,x2,u1,u2,rfl,rep1,rep2,l1,l2,s9 _ _ hL1,hL2,b1.imp λ_ _ z=>DV.same s9 _ z,b2,λv du=>?_⟩⟩⟩
    have s89:=s8.trans s9;have hzk:=s89 _ _ hzk;have hp1:=s89 _ _ hp1;have hp2:=s89 _ _ hp2;clear b1 b2 hL1 hL2 s8 s9 s89
    try dsimp only[cX]
    refine⟨_,rfl,p1,_,rfl,.inl (SqL.of hp1),λg1 hg1=>?_⟩
    have t1:aT H9 (upd H9 g1 (.lst (x1.rows.map V.str))):=av hg1;have e1:upd H9 g1 (.lst (x1.rows.map V.str)) g1=some (.lst (x1.rows.map V.str)):=ae;generalize upd H9 g1 (.lst (x1.rows.map V.str))=Ha at t1 e1 ⊢;refine⟨_,rfl,p2,_,rfl,.inl (SqL.of (t1 _ _ hp2)),λg2 hg2=>?_⟩
    have t2:aT Ha (upd Ha g2 (.lst (x2.rows.map V.str))):=av hg2;have e2:upd Ha g2 (.lst (x2.rows.map V.str)) g2=some (.lst (x2.rows.map V.str)):=ae;generalize upd Ha g2 (.lst (x2.rows.map V.str))=Hb at t2 e2 ⊢;refine⟨(by show 2<=eg;decide),λhh hhh=>?_⟩
    have t3:aT Hb (upd Hb hh (.lst [V.ref g1,.ref g2])):=av hhh;have e3:upd Hb hh (.lst [V.ref g1,.ref g2]) hh=some (.lst [V.ref g1,.ref g2]):=ae
    try dsimp only[cX]
    generalize upd Hb hh (.lst [V.ref g1,.ref g2])=Hc at t3 e3 ⊢;have t13:=t1.trans (t2.trans t3);have e1:=t3 _ _ (t2 _ _ e1);have e2:=t3 _ _ e2;have hzk:=t13 _ _ hzk;have hp1:=t13 _ _ hp1;have hp2:=t13 _ _ hp2;clear t1 t2 t3 t13 hg1 hg2 hhh;have ly1:=zz rep1.Nq;have ly2:=zz rep2.Nq;have i0:atI [V.ref g1,V.ref g2] 0=some (.ref g1):=rfl;have i1:atI [V.ref g1,V.ref g2] 1=some (.ref g2):=rfl;refine⟨_,rfl,_,rfl,hh,(_),_,_,rfl,rfl,SqL.of e3,i0,_,rfl,hh,(_),_,_,rfl,rfl,SqL.of e3,i1,n,g1,g2,d1,d2,d1.length,d2.length,[],[],rfl,d6.whole rep1 l1 e1,d6.whole rep2 l2 e2,.inr ⟨rfl,.inr ⟨rfl,rfl,rfl,λv' Hd du' s'=>⟨_,rfl,v,by rw[Due.one du' du];rfl,du.val,_,rfl,df ?_⟩⟩⟩⟩
    have e1:=s' _ _ e1;have e2:=s' _ _ e2;have e3:=s' _ _ e3;have hzk:=s' _ _ hzk;have hp1:=s' _ _ hp1;have hp2:=s' _ _ hp2;refine⟨_,rfl,_,rfl,_,rfl,(by show 2<=eg;decide),λg hg=>?_⟩
    have t1:aT Hd (upd Hd g (.lst [V.ref p1,.ref p2])):=av hg;have f1:upd Hd g (.lst [V.ref p1,.ref p2]) g=some (.lst [V.ref p1,.ref p2]):=ae;generalize upd Hd g (.lst [V.ref p1,.ref p2])=He at t1 f1 ⊢;have hzk:=t1 _ _ hzk;have hp1:=t1 _ _ hp1;have hp2:=t1 _ _ hp2;have lyy:(PyData.list [.list (x1.rows.map TZ),.list (x2.rows.map TZ)]).canLay0=true:=by
     simp only[Tt,me]at ly1 ly2 ⊢;rw[ly1,ly2];rfl
    have dpp:(PyData.list [.list (x1.rows.map TZ),.list (x2.rows.map TZ)]).depth<=64:=by
     have:=zB x1.rows;have:=zB x2.rows;simp only[TN,TC]at *;omega
    refine⟨_,_,Lr (t1 _ _ e3) (t1 _ _ e1) (t1 _ _ e2),Lr f1 hp1 hp2,fP lyy dpp,fP lyy dpp,_,rfl,N2 (eqv_refl _ lyy) ?_⟩
    try dsimp only[FI]
    clear e1 e2 e3 f1 t1 hg s';refine⟨_,rfl,_,rfl,_,rfl,n,p2,p1,d2,d1,d2.length,d1.length,[],[],rfl,d6.whole rep2 l2 hp2,d6.whole rep1 l1 hp1,.inr ⟨rfl,.inr ⟨rfl,rfl,rfl,λv' Hf du' s'=>⟨_,rfl,v,by rw[Due.one du'.sym du];rfl,du.val,_,rfl,df ?_⟩⟩⟩⟩
    have hzk:=s' _ _ hzk;have hp1:=s' _ _ hp1;have hp2:=s' _ _ hp2;refine⟨_,rfl,_,rfl,_,rfl,p1,_,rfl,.inl (SqL.of hp1),λg hg=>?_⟩
    have t1:aT Hf (upd Hf g (.lst (x1.rows.map V.str))):=av hg;have f1:upd Hf g (.lst (x1.rows.map V.str)) g=some (.lst (x1.rows.map V.str)):=ae;generalize upd Hf g (.lst (x1.rows.map V.str))=Hg at t1 f1 ⊢;refine⟨n,p1,g,d1,d1,d1.length,d1.length,[],[],rfl,d6.whole rep1 l1 (t1 _ _ hp1),d6.whole rep1 l1 f1,.inr ⟨rfl,.inr ⟨rfl,rfl,rfl,λv'' Hh S3 s''=>?_⟩⟩⟩
    rw[S3.self rep1 l1];refine⟨rfl,_,rfl,df ?_⟩
    try dsimp only[FI]
    have t2:=t1.trans s'';have hzk:=t2 _ _ hzk;have hp1:=t2 _ _ hp1;have hp2:=t2 _ _ hp2;clear t1 t2 s' s'' f1 hg;have lr1:x1.rows.length<=40:=by rw[rep1.rows,bo];exact l1
    have lr2:x2.rows.length<=40:=by rw[rep2.rows,bo];exact l2
    refine⟨_,rfl,_,rfl,pz,(_),_,_,rfl,rfl,SqL.of hzk,a3,p1,_,n,x1.rows,rfl,hp1,lr1,λt3 LA ka za Hi kla hza si hti hLA=>⟨t3,_,rfl,SqT.of hti,rfl,_,_,rfl,_,_,rfl,rfl,?_⟩⟩
    have hzk:=si _ _ hzk;have hp1:=si _ _ hp1;have hp2:=si _ _ hp2;refine⟨_,rfl,_,rfl,pz,(_),_,_,rfl,rfl,SqL.of hzk,a4,p2,_,n,x2.rows,rfl,hp2,lr2,λt4 LB kb zb Hj klb hzb sj htj hLB=>⟨t4,_,rfl,SqT.of htj,rfl,_,_,rfl,_,_,rfl,rfl,?_⟩⟩
    have hLA:=sj _ _ hLA;have hzk:=sj _ _ hzk;have hp1:=sj _ _ hp1;have hp2:=sj _ _ hp2;refine⟨_,rfl,_,rfl,_,rfl,_,rfl,(by show 2<=eg;decide),λg hg=>?_⟩
    have t1:aT Hj (upd Hj g (.lst [V.ref p2,.ref LB])):=av hg;have f1:upd Hj g (.lst [V.ref p2,.ref LB]) g=some (.lst [V.ref p2,.ref LB]):=ae;generalize upd Hj g (.lst [V.ref p2,.ref LB])=Hl at t1 f1 ⊢;refine aL λGq gq=>?_
    have hzk:=t1 _ _ hzk;have pA:=d6.bad rep1 l1 kla (t1 _ _ hLA);have pB:=d6.bad rep2 l2 klb (t1 _ _ hLB);have p1':=d6.whole rep1 l1 (t1 _ _ hp1);have p2':=d6.whole rep2 l2 (t1 _ _ hp2);obtain⟨lx,k2,t2',hvx,pX⟩:∃lx k2 t2',atI [V.ref p2,V.ref LB] (z2 / 6 % 2)=some (.ref lx)/\d6 n Hl lx d2 k2 t2':=by
     have h01:z2 / 6 % 2=0\/z2 / 6 % 2=1:=by omega
     rcases h01 with h | h
     ·exact⟨p2,_,_,by rw[h];rfl,p2'⟩
     ·exact⟨LB,_,_,by rw[h];rfl,pB⟩
    refine gq ?_;refine⟨_,rfl,pz,(_),_,_,rfl,rfl,SqL.of hzk,a2,_,_,rfl,rfl,⟨by decide,by decide⟩,_,_,rfl,rfl,(by show (0:Int) < 2;decide),g,(_),_,_,rfl,rfl,SqL.of f1,hvx,_,rfl,n,LA,lx,d1,d2,ka,k2,ka,_,t2',za,_,rfl,pA,pX,hza,.inl ⟨rfl,rfl⟩,by omega,λHm sm=>⟨_,rfl,df ?_⟩⟩
    try dsimp only[FI]
    exact⟨_,rfl,_,rfl,_,rfl,_,rfl,n,p1,LB,d1,d2,d1.length,kb,kb,[],_,zb,_,rfl,p1'.same sm,pB.same sm,hzb,.inr ⟨rfl,rfl,rfl⟩,by omega,λH' _=>q H'⟩
end
end My
namespace L2
open PySem PySem.Spec PyProof.Rows
theorem S4 {p:Nat->Prop}(h0:p 0)(h1:p 1)(h2:p 2)(h3:p 3)(h4:p 4)(h5:p 5)(h6:p 6)(h7:p 7):∀k,k < 8->p k
 | 0,_=>h0 | 1,_=>h1 | 2,_=>h2 | 3,_=>h3 | 4,_=>h4 | 5,_=>h5 | 6,_=>h6 | 7,_=>h7 | n+8,h=>absurd h (by omega)
theorem three {p:Nat->Prop}(a:p 4)(b:p 5)(c:p 6):∀k,k=4\/k=5\/k=6->p k
 |_,.inl rfl=>a | _,.inr (.inl rfl)=>b | _,.inr (.inr rfl)=>c
section
variable{K:ba}{fd:gp}{a b c:Str}
theorem bd1 (h:∀u,bindArgs fd ⟨[u],[]⟩=pure [(a,u)]):Binds K fd [a] []:=.all λus hl=>match us,hl with | [u],_=>h u
theorem bd2 (h:∀u v,bindArgs fd ⟨[u,v],[]⟩=pure [(a,u),(b,v)]):Binds K fd [a,b] []:=.all λus hl=>match us,hl with | [u,v],_=>h u v
theorem bd4 {d:Str}(h:∀u v w x,bindArgs fd ⟨[u,v,w,x],[]⟩=pure [(a,u),(b,v),(c,w),(d,x)]):Binds K fd [a,b,c,d] []:=.all λus hl=>match us,hl with | [u,v,w,x],_=>h u v w x
theorem bd3 (h:∀u v w,bindArgs fd ⟨[u,v,w],[]⟩=pure [(a,u),(b,v),(c,w)]):Binds K fd [a,b,c] []:=.all λus hl=>match us,hl with | [u,v,w],_=>h u v w
theorem RF {C:Addr}(h:Ts K (.ref C) a=some none):cD K C a:=h
theorem PM {P:Params}{t:Addr}{es:Array DictEntry}{n:Nat}(h:K.lookup t=some ⟨.type "dict",none,.dict es n,#[]⟩)(k:PySem.W.KeysLit P es.toList):N4 P K t:=⟨_,_,h,k⟩
end
section
variable{K:ba}{C:Addr}{v nm q:Str}
theorem RG {cd:ClassData}(g:Ts K (.ref C) "__getattribute__"=some (some (.builtin "BaseException.__getattribute__")))(k:Ts K (.ref C) "__getattr__"=some none)(b:Vm K C (.type "BaseException")=some true)
  (c:Vd K C=some cd) (h:Ts K (.ref C) "__class__"=some (some (.builtin "object.__class__"))) (n:PySem.W.specialIn K (.builtin "object.__class__") "__get__"=some (some (.builtin "getset_descriptor.__get__"))) (t:PySem.W.takesIn K (.builtin "object.__class__")=some true)
  (o:Vm K C (.type "object")=some true):jo K C:=⟨⟨g,k,b⟩,by rw[c];rfl,h,n,t,o⟩
theorem RH (g:Ts K (.ref C) "__getattribute__"=some (some (.builtin "BaseException.__getattribute__")))(k:Ts K (.ref C) "__getattr__"=some none)(b:Vm K C (.type "BaseException")=some true)
  (n:Ts K (.ref C) v=some none) (d:PySem.W.hasDictIn K C=true):Hn K C v:=⟨⟨g,k,b⟩,n,d⟩
variable{N D M f:Addr}{bs su:List Value}{hd ab:Bool}{sn:List Str}{co:Option Bool}{dd d1 d2 d3:Option Addr}{k0 k1 k2 k3 k5:Option Value}{o1 o2 o3:Value}{e1 e2:Array DictEntry}{n1 n2:Nat}{s1 s2 s3:Array (Option Value)}{cl:ClassData}
theorem RI (l:K.lookup C=some (Ud nm q C N bs (.ref D::FY) hd sn su ab co dd k0 k1 k2 k3 k5 "ValueError.__new__"))(a:K.lookup N=some ⟨o1,d1,.dict e1 n1,s1⟩)(b:strKeys e1=true)(c:US K N "__init__"=some none)
  (m:K.lookup D=some ⟨o2,d2,.cls cl,s2⟩) (e:cl.ns=M) (x:K.lookup M=some ⟨o3,d3,.dict e2 n2,s3⟩) (y:strKeys e2=true) (z:US K M "__init__"=some none):Bu K C:=by
 subst e;exact⟨⟨_,_,_,_,_,_,_,_,_,_,_,_,_,_,_,_,l,⟨⟨_,_,_,_,_,a,b⟩,c⟩,.own m ⟨⟨_,_,_,_,_,x,y⟩,z⟩ .base⟩⟩
theorem RJ (l:K.lookup C=some (Ud nm q C N bs (.ref D::FY) true sn su ab co dd k0 k1 k2 k3 k5 "ValueError.__new__"))(a:K.lookup N=some ⟨o1,d1,.dict e1 n1,s1⟩)(b:strKeys e1=true)(c:US K N "__init__"=some (some (.ref f)))
  (m:K.lookup D=some ⟨o2,d2,.cls cl,s2⟩) (e:cl.ns=M) (x:K.lookup M=some ⟨o3,d3,.dict e2 n2,s3⟩) (y:strKeys e2=true) (z:US K M "__init__"=some none)
  (g:PySem.W.isFn K (.ref f)=true) (h:Ts K (.ref C) "__setattr__"=some (some (.builtin "object.__setattr__"))) (n:Ts K (.ref C) v=some none):ur K C f v:=by
 subst e;exact⟨⟨_,_,_,_,_,_,_,_,_,_,_,_,_,_,_,_,l,.own m ⟨⟨_,_,_,_,_,x,y⟩,z⟩ .base,rfl,⟨⟨_,_,_,_,_,a,b⟩,c⟩⟩,g,h,n⟩
end
theorem Iu {K:ba}{o:Addr}{d:Option Addr}{n:Nat}{s:Array (Option Value)}{t0 t1 t2 t3:Tok}(h:K.lookup o=some ⟨.type "tuple",d,.seq #[.str (ar "close") t0,.str (ar "lay") t1,.str (ar "rest") t2,.str (ar "drop") t3] n,s⟩):∀H,SqT K H o [.str (ar "close"),.str (ar "lay"),.str (ar "rest"),.str (ar "drop")]:=λ_=>.inr ⟨_,_,_,h,rfl,rfl,(by show 4<=eg;decide),(.cons ⟨_,rfl⟩ (.cons ⟨_,rfl⟩ (.cons ⟨_,rfl⟩ (.cons ⟨_,rfl⟩ .nil))))⟩
end L2
namespace My
open PySem L2
theorem fin {l:PySem.W.OpenLaw}{w:World}{K:ba}{mg:Str->Option Value}{fa:Addr}{A:Adr}(hfa:mg "law"=some (.ref fa))(T:Txt w.params K mg A):∃fd:gp,(∀(s:Shared) (v:Value),BindsTo s fd ⟨[v],[]⟩ [("_law_script",v)])/\∀base:Heap,K.In base->base.Ns mainGlobals mg->FnOk l.prog w K mg base CX0 20 fa fd ["_law_script"] (GJ K):=by
 have e:=hfa.symm.trans T.QE;cases e;exact⟨_,T.QG,λbase _ _=>PL T.QF T⟩
theorem walk {l:PySem.W.OpenLaw}{q:km}{loose:List Str}{XP:(Str->Option Value)->Heap->Prop}{YP:World->Heap->Prop}{d:DefRec}{K:Params->ba}(hn:l.most=some 63)(hdf:d.params.defaults=[])
  (hY:∀(w:World) (h:Heap),YP w h->(K w.params).In h)
  (F:∀(w:World) (mg:Str->Option Value) (fa:Addr) (h:Heap),(K w.params).In h->h.Ns mainGlobals mg->mg d.name=some (.ref fa) ->
   ∃fd:gp,(∀(s:Shared) (u:Value),BindsTo s fd ⟨[u],[]⟩ [("_law_script",u)])/\∀base:Heap,(K w.params).In base->base.Ns mainGlobals mg->FnOk l.prog w (K w.params) mg base CX0 20 fa fd ["_law_script"] (GJ (K w.params))) :
  PySem.W.WalkO q loose XP YP l.row.toRowW d [] (λf vs=>PySem.call f vs) :=
 L2.LG (n:=63) (k:=20) (x:="_law_script") (CX:=λ_=>CX0) (sp:=λw=>GJ (K w.params)) hn (by decide) hdf ⟨rfl,by decide,by decide,rfl⟩ hY F (λ_ _ a ns hl _ hS=>⟨a,ns,rfl,hS,hl,λ_=>rfl⟩) λ_ _ _ _ _ z=>z
end My
structure PySem.W.Fast:Prop where(tw11817053476251391284 tw17418778217453368620 tw7630895092232012008 tw2654329753679560711 tw4813629969330582792 tw4314626525959506457 tw5382976938514716524 tw10416676577441151352 tw14684452642523704268 tw7125413662526049897 tw4152794307214244941 tw13580338978234270060 tw2462973830616580517 tw8978368956310959986 tw2240245872737515749 tw6269492122175971335 tw7748986485272597269 tw6022414939352021585 tw11331221430907164304 tw5885694300641902981 tw8355934671914809792 tw13699898118362097149 tw7416306396125119127 tw10468437303793836825 tw4882422139722396895 tw17424818120465304635 tw3665173302914516261 tw5461242098076715549 tw812858131467185267 tw6157598852318721856 tw18166261811985654527 tw2350971108741832850 tw17340477288280356493 tw4164967448929691512 tw11188376088774427990 tw3458292570891329831 tw12630084461097901920 tw10015940685643380584 tw10462792842557354542 tw8632291653354386152 tw16499559612722776556 tw18175905889720629988 tw6646952648312242366 tw10879323458553082517 tw12885979550167390965 tw11983818585965861270 tw12677098547061769198 tw7972764728627216113 tw16718060270630467480 tw11665220312819021206 tw15857459609372006988 tw6676451347249434728 tw8373249803698450080 tw3272690500297047336 tw9463890938716986832 tw12081357431423909214 tw4074776196715620143 tw8453763319617630287 tw12267674726452496574 tw9949412987146147555 tw9716955358229318211 tw16007936736637645905 tw10000196477634839463 tw7873585072413043512 tw5702914116953559731 tw1663873563646856394 tw954417352340241650 tw12396815427968441124 tw14367271490713472032 tw4092066050689265531 tw12145844122912033455 tw7396657638089904682 tw4151206184687204484 tw2421797639435638554 tw11086994338367290969 tw18174296324720484960 tw18358827439036877571 tw8498774329851933348 tw7553241275969722171 tw10568924273053847126 tw3723057166302339120 tw18059816116036897115 tw15260885835552345371 tw6303371632789149551 tw17263043880483327575 tw15111743392832370877 tw11235994552585081450 tw5647815920156623734 tw16960124096016539046 tw10923116620996150837 tw7640629322122655181 tw10255816234342218183 tw1833091824629649775 tw8838779592729180268 tw9975559403695594057 tw10431193186469818983 tw9442296532587279170 tw6914823287773544733 tw14125693201140363787 tw17165411865860202161 tw12625440853342733361 tw1091694625367408790 tw10411881298095113641 tw3250707679786659967 tw13925761151922240832 tw3541633876137520203 tw2582193776874278728 tw4690410437183891787 tw1599426919840456750 tw49220621953321967 tw4844214824205535930 tw3096815272405309571 tw12188067586265933473 tw17813690791376036746 tw14736392912805021719 tw520622958308294630 tw6316111021524156148 tw5542988173572363490 tw1457030432383582011 tw10205364539046142107 tw6689302135303508220 tw13015536328197351370 tw13256784656868697296 tw13130988070368248138 tw10805861608381855996 tw8533802119628790899 tw13148939074042533757 tw3690851207685193663 tw9167416303652803500 tw13158721974443577396 tw4394742753116221350 tw8618305936593535643 tw6109367274949264796 tw8569019172786828418 tw2619873020319467132 tw1571158009561036541 tw7712948341467421274 tw563441536745372310 tw15181842760406206370 tw17815328454883702841 tw573618056860494508 tw8778249952735698845 tw11260576916704179118 tw15554050772116583340 tw12818824002870601410 tw10643509802636457212 tw11254161011775087239 tw289318057972456419 tw16597279029727675675 tw8942781046324251585 tw9169217687307746092 tw8537248196193523308 tw15865828872844057069 tw1866866783792991106 tw13468844762209773768 tw15250127350116509302 tw17812568708239129507 tw10489624733382571417 tw8954484793038652159 tw15472666235219705220 tw9858591787257790353 tw4103621586589880764 tw3360816023439759294 tw14392454255683103067 tw9822613640450342647 tw4330308536530088577 tw12099926706343963714 tw5866189114110259565 tw1667045632165735484 tw4336668527536491325 tw11985729653231267339 tw2430542975885213739 tw9657501584692129533 tw10114165025193178053 tw12618795641835633506 tw14453273102507433290 tw18130904444242758813 tw14350546346039300500 tw5503163528535335886 tw17621464657156152220 tw9924673593993962265 tw16309236844212407856 tw8174773656545253682 tw12007266633653148943 tw5225137870813056145 tw5214762624204665698 tw3289926420126707951 tw16684820621614055204 tw8878465019556015010 tw9780279812727276713 tw9806552478394835299 tw3892875023611512281 tw15826889539457044686 tw8865756099476053836 tw10387635061136507763 tw9453605171001991964 tw13400713037525712681 tw11420488451753290177 tw18382991777716382978 tw1739180095834122269 tw18192088206492227806 tw16612988050843824788 tw4879468342774149275 tw16957401934059841776 tw922402375697639691 tw5046011185407920529 tw11003438919797542444 tw10979232085283075245 tw3596067165236830133 tw12648893667387452258 tw17936664733841642498 tw9506677571170277304 tw9779816212780119543 tw13616917927750300292 tw17168028631384639516 tw14201148909830151430 tw6578261763479619587 tw11772432883204883959 tw6290786341713847114 tw14575708768313892313 tw7420050818574463162 tw14513277292234056006 tw6265476203903939128 tw10004056707624793157 tw6382860037430850304 tw18429680416700109315 tw4343266740407301894 tw11074003604037522195 tw16110182017796133592 tw10846629794121820835 tw3377188313072670717 tw3952940970319002387 tw11903915331695677906 tw11258908353063498309 tw2797651667991424224 tw2059774341766862400 tw16369026282078223187 tw2459656436927323084 tw13620499628233758519 tw3787234760877330769 tw11467672342332570180 tw18427001329300427894 tw986507227333994791 tw13033192230626584953 tw1483821914042389469 tw18160733485649744685 tw8444687580606493044 tw753257575406356577 tw5638937263801778638 tw13938483287764797078 tw9439416792856929960 tw4492408900088989150 tw7155486560823735752 tw10834852989218815984 tw13328583750977970359 tw992922455439579770 tw11441139611434278421 tw1602409587638832913 tw6936989085647129154 tw4907802763097836788 tw16684256011247980821 tw16767670895385640994 tw17322953543764369565 tw7030765923863916645 tw7229987447548010221 tw1116660152204793069 tw623797001033671278 tw612010554263652227 tw4004420765231377267 tw9966045946586406050 tw16388735487713271490 tw16845437712536215025 tw10858605289922737783 tw11247872432549076014 tw11907346971379908375 tw4767280856378760427 tw18099284329742543675 tw18196838946941463865 tw11262498966724229423 tw5474828316043847850 tw11031426456704948349 tw9737473775558663578 tw3395438486120368109 tw12910408954227608027 tw8184952097124746410 tw15312536890037329018 tw5840834783057664226 tw4481840168620608443 tw10885367784399404034 tw16981449544403793244 tw17929093873532718918 tw12714659211037651109 tw6499799460395942647 tw5032628573928199042 tw13233194940196813114 tw5337141409840888758 tw15210758433752931379 tw12186109153342183720 tw3820080860770913580 tw9727279123046212929 tw6724225523726121124 tw4924967246434100428 tw1540046470446550639 tw3398281439003559553 tw3867909903800502447 tw10102337077513949180 tw8435777131309400718 tw1899577208908586596 tw8477023283933222460 tw4692355429329756952 tw15298451250460276076 tw6430362298592200294 tw15532208344955352545 tw9029097201643186374 tw6625557188303847224 tw6749324040102014194 tw10923085105068364923 tw8047801375818325397 tw7767250003477956637 tw12226448234441850693 tw6538311161138681979 tw3806164235359754325 tw10458342689415187826 tw104018684408343669 tw7728049718461206939 tw922876719014222224 tw17945295378095786436 tw10407518229971739023 tw18340131358169617096 tw7459139175247643174 tw8790849356599585609 tw9422624531336967261 tw9780246000669459577 tw8666573806682998872 tw6324495645340721994 tw11955948024914492467 tw13927966491103575413 tw10589446259563036156 tw9210483842363056312 tw15134585160291716170 tw4328956517842711881 tw11817766402967431924 tw2287163128250093245 tw11514518542743182046 tw10556167858593731729 tw10700205283462921320 tw4055936238547034801 tw13054270050047244028 tw3079451293545719275 tw3238748922425794678 tw13300384400907540861 tw13582973424052867720 tw18159473054556092189 tw4486562645180264436 tw3663109470931797989 tw17736644625346706395 tw11714498960257903551 tw13656608616069252785 tw14894416701739795208 tw6140110874495637109 tw5449109186210676325 tw12336464365386699377 tw5037582291413960008 tw5292663880783872719 tw14001816889671503130 tw1280499230911557297 tw13934394295446381445 tw9373745632412565726 tw3460950783843159675 tw8218963087611652911 tw5186695009165776354 tw7897213340106138355 tw4026277547477154800 tw15208120038723215623 tw1519876253824481273 tw17848119586627214141 tw16256535527313228673 tw3437608501152758986 tw17307575615510564633 tw4454711987477374133 tw1328543108474218957 tw4158351232199338999 tw1682797661154484148 tw644347683125002808 tw9274647892245832404 tw6972115118095049013 tw16768306309722255768 tw8875680556594072709 tw9783743271514195639 tw2503655393330913950 tw5238716634067900975 tw16559855298807283788 tw3259237434433002292 tw6147889564250790133 tw11276003265177935514 tw387272456827596619 tw2198318132397124945 tw4360913733145730743 tw3294728311405941391 tw6488194964000247292 tw5788553015635118353 tw14992433032666979896 tw1093980658523745363 tw8617226790905657215 tw8764605479076361100 tw9662676680696763818 tw8540035520986897290 tw2162759420400799941 tw4912858221274583600 tw439689237778435029 tw6565169640433882019 tw10885775496975367531 tw645687367339313678 tw11030927680985752714 tw5654112260373610400 tw10185414370527874812 tw10684659552510996059 tw6917959589472377103 tw6039584060834366375 tw9209680307080090143 tw4824803966068933252 tw13582698996483528422 tw4511376991739758333 tw7449696351028068333 tw13208274957785683592 tw17678603494495418699 tw10601791188288203811 tw5817695695447034280 tw12666769839161061979 tw8378868153212087178 tw3782999594941807077 tw13066289624666065300 tw7447447463103214634 tw3363761062633305651 tw16481120008550766656 tw2886039115119713636 tw10400775629066716445 tw944834204306647501 tw14576498867433566052 tw6352888179039445705 tw2272046027104358376 tw10700878809125969095 tw13706822436138779211 tw13994287231573580214 tw16915223888669539795 tw9316581395065994991 tw1307524434133159487 tw1412303033364104776 tw7325954962146694601 tw7318203720755342732 tw12232501049913225083 tw4491809475974467382 tw10760838985141550752 tw2425944496537755346 tw1637173174692578682 tw18318296011769903838 tw3044234749544801898 tw14938629022998693035 tw7725282437223230444 tw14887467345609479171 tw15603009152314580519 tw12190330354874255685 tw4448572300950695648 tw14189333191815106872 tw9486323476963475329 tw15838481169157304968 tw13430626345868256380 tw10142624798845563358 tw17484573362587996954 tw155267528615485585 tw624948831900026975 tw11207613315510382402 tw12902112283370886045 tw9976138853536302018 tw625485163628356784 tw12730826034130841466 tw16473479574733037991 tw12125595597191941444 tw11445458887228197681 tw1005297621515239487 tw4642962412444191851 tw13895532001523564879 tw4998795105929884888 tw15509755180315942059 tw4219458050466420931 tw4918067172506839823 tw13654729181740938167 tw15270248823540680015 tw12038424842796578618 tw1724974240598126344 tw680978473486752192 tw12188191355110683949 tw2002777939174083239 tw3554498041268808230 tw17057462444028495257 tw7049788507953149225 tw735019817327546795 tw8431648390526316927 tw14825628456100472225 tw6801046392181143877 tw9714982011549524085 tw16630080935001757070 tw3136850596163892165 tw4276483663453502357 tw5701282680783769007 tw14296602553944026701 tw7497727072513516759 tw15326179082498374208 tw10807362929719554086 tw2615320019756928885 tw5769983148202557642 tw10797523751387511339 tw4873011666753081479 tw7102080079740385249 tw2218271980498100796 tw15031448289572044549 tw16311012412898921522 tw11670942008180086079 tw9706809735156902927 tw17294349277708771938 tw18035959859406068780 tw2380305953430569962 tw5769025196906990394 tw8351148514262361494 tw15935082415651136506 tw12118246096586195687 tw8967306118245715204 tw18016293658999279648 tw7561279611645012668 tw15235538187405748638 tw621857683311368017 tw2710000248664440318 tw6442087254341084120 tw3163356388543079067 tw14417840407400636538 tw6097849649470881020 tw7862516742552670731 tw15103640700186346615 tw16741894989084776027 tw17457871910809800983 tw8353701981165465430 tw10381988000282623959 tw17559354653017176959 tw5163946852375995390 tw16770557814984069529 tw11926452096487016309 tw1635142820156012601 tw5513337570445244016 tw11252979284270235931 tw9898857438274990669 tw12479054697853214315 tw10193859513216555623 tw4756393223486448268 tw475901721885258331 tw8423051860580454813 tw919513176653173695 tw5064062249553036647 tw2718821294876947215 tw6502675976953856838 tw17746195173930306714 tw3427209584777574589 tw14049860678651109383 tw1995681289700911475 tw4815069892053486676 tw16151341010148285453 tw3354427167536220351 tw3925209926711127065 tw14417080376129007495 tw15669526049707621913 tw18316380014675875207 tw2887151192505194932 tw11017655209050991454 tw1694025423524232746 tw16116583451601430867 tw7537359377699877080 tw1086678784603455521 tw12067473210564715342 tw4482372864482464777 tw2561683365617485073 tw16918620492779580028 tw18022019962980760512 tw6640315336854279236 tw8191269665190321068 tw1077933943724065163 tw10463027085321400027 tw3931402597542784808 tw8643652618525261243 tw5794308814029759875 tw13193455538868179328 tw5107251908177241890 tw1100370101696594394 tw5754528319525484145 tw1813911537365274079 tw15526347462790378100 tw14805095345334417051 tw1097969686034702208 tw11672896793467308688 tw5665612756315352190 tw11324896658485400123 tw7487338810541312500 tw12803907871129583979 tw13443978898730286820 tw3465407145432513670 tw10608804518076317355 tw15224295035098445937 tw3513572103412343128 tw2106837559538095599 tw9666136343618237027 tw6915899034832629512 tw12053744192146536811 tw9692287175153959378 tw18019818678983566833 tw12852556137870419891 tw1765562627640449685 tw1859527705273893126 tw14626800282057870486 tw12991450911978118307 tw8126194688062282811 tw9088928584732735203 tw8573435988375176756 tw650669342817044398 tw3282146889639022486 tw1281196314172476471 tw2314234834100784883 tw17032911681312618410 tw2371501917199674925 tw9258987060768385579 tw14421657701827329999 tw3729311095578536364 tw1914224561544106422 tw4279697116885502217 tw6935603046645006101 tw14734447935412920322 tw14653199402973935001 tw10736789557756013788 tw1811986467882597806 tw3687480049319430317 tw14319114417134224484 tw1102003003022761152 tw17681590164547304003 tw15584366510608013750 tw17911869542786212031 tw2991281473424934988 tw12675902078307015709 tw479664551216203650 tw196974755653738472 tw5614583600568672132 tw9870531426766670378 tw14958815332726885059 tw4595673458374953452 tw17924717655535448028 tw1443981793424652862 tw7901792543167466281 tw15292999899680835812 tw13254572349850739757 tw307534206927444817 tw12126934778259662060 tw10573056338606609248 tw16639878579285319310 tw12094231589307725401 tw8699127836445265964 tw15846929743038705973 tw10320576929633722945 tw1216360386999756340 tw5195859759248295272 tw8197335822607485862 tw8314793670104702251 tw7104272122354430739 tw2156051255481941683 tw6393024766627157332 tw11782782960154301723 tw3878431519602559976 tw4767550801855578761 tw5726582749944100030 tw8150013159590180277:True)
open PySem PySem.W PyProof.Rows
set_option maxRecDepth 100000 in
set_option maxHeartbeats 0 in
theorem PySem.Challenge.cw_moot_k33_where_minutes_part_holds : PySem.Challenge.rw_moot_k33_where_minutes_part.Holds := by
 w_on;o_law;k_head;(case hw=>w_witness2)
 k_fill;refine My.walk (l:=PySem.Challenge.rw_moot_k33_where_minutes_part) rfl rfl (λw h Y=>PySem.W.kIn_of Y) ?F
 case F =>
  intro w mg fa h KX G hmg;refine' My.fin (A:=.mk ..) hmg ?T
  case T =>
   apply My.Txt.mk
   all_goals try refine L2.S4 ?_ ?_ ?_ ?_ ?_ ?_ ?_ ?_
   all_goals try refine L2.three ?_ ?_ ?_
   all_goals try (delta My.Adr.C My.Adr.fk My.Adr.fkd My.Adr.fn My.Adr.fnd My.Adr.ft My.Adr.ftd My.nm;simp only)
   all_goals try dsimp only
   all_goals first
    | (apply PySem.W.mg_of KX G;k_is)
    | (apply PySem.W.mg_none_of KX G;k_is)
    | (apply L2.NX <;> k_is)
    |exact L2.bd1 λ_=>rfl
    |exact L2.bd2 λ_ _=>rfl
    |exact L2.bd3 λ_ _ _=>rfl
    |exact L2.bd4 λ_ _ _ _=>rfl
    | (apply L2.RF;k_is)
    |exact⟨_,by k_is⟩
    | (apply L2.PM;k_is;k_keys)
    | (apply L2.Iu;k_is)
    |kts_exm
    |kit_is
    | (apply L2.RG <;> k_is)
    | (apply L2.RH <;> k_is)
    | (apply L2.RI <;> first | k_is | with_unfolding_all rfl)
    | (apply L2.RJ <;> first | k_is | with_unfolding_all rfl)
    | (constructor <;> k_is)
    |exactλ_ _=>.of_eq rfl
