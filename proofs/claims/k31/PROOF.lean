import PyProof.Rows.All
import Wide.All
import OpenK.AllK
import Wide.FinOn
import Lean
import PyProof.EqAt
import PyProof.EqKinds
import PyProof.TupleCall
import PySem.Challenge.RW_moot_k31_whole_minutes_read_back
set_option Elab.async false
set_option linter.all false
set_option maxRecDepth 100000
set_option maxHeartbeats 4000000
local macro_rules|`(tactic|trivial)=>`(tactic|decide +kernel)
open PySem.Str renaming ofString → ar, join → km, empty → anF
open PySem.W renaming Frag → ba, findIn → cb, keepIn → da, nsIn → de, codeIn → eg, fnOf → fu, mg_of → kf, isFn → kx, exmOne → anp, emptyDict → anD, mg_none_of → anE, hasDictIn → anI, instObj → anM, plainGet → anN, plainOver → anQ, makesIn → anV, kia_one → an5, methodCall_KW → an9, callWith_K → aoN
open List renaming length_map → bo, mem_append_right → gn, mem_cons_self → kb, length_append → ki, mem_cons_of_mem → kq, map_cons → ku, map_append → ky, size_toArray → om, mem_singleton → ra, length_cons → tm, length_singleton → anc, mem_of_getElem? → anh, getD_eq_getElem?_getD → ank, getElem?_eq_getElem → anm, getElem?_map → ant, mem_append_left → anx, cons_ne_nil → anB, length_take → anC, getElem?_cons_zero → anK, range' → anL, append_nil → anO, not_mem_nil → anP, lookup → anR, eq_nil_or_concat → anY, concat_eq_append → anZ, getElem?_cons_succ → an1, length_drop → an6, take_length → an8, mem_cons → aob, append_assoc → aog, length_replicate → aoi, length_range' → aol, map_nil → aom, mem_of_mem_take → aon, getLast?_concat → aoo, find?_cons → aor, getElem?_append_right → aou, length_filter_le → aov, getElem?_append_left → aow, length_set → aoy, take_add_one → aoA, mem_range'_1 → aoB, mem_of_mem_drop → aoC, dropLast_concat → aoD, range → aoE, any_cons → aoG, map_congr_left → aoI, replicate → aoK, take_succ → aoL, mem_append → aoP, length_zip → aoQ
open PySem renaming wpAny_bind → gc, sizeLine → gr, mainGlobals → ka, FuncData → kg, Program → rf, wpAny_mono → tu, wpAny_pure → wt, starEach → ane, Spec → ano, wpAny → anr, excClassObj → anJ, bootBuiltins → anS, wpAny_standAt → anW, keywordEach → an2, wpAny_holding → an4, DictEntry → an7, compareOp → aoc, mem_of_lookup → aoh, sysModules → aoq, backToKw → aot, callWith → aoO
open PySem.Heap renaming get?_push_of_some → gp, lt_size → me, get?_push_size → Lk, get?_update_other → anT, size_push → aof, get?_update_self → aoj
open Nat renaming le_refl → kj, le_trans → si, ne_of_lt → adm, lt_of_lt_of_le → ang, le_succ_of_le → anw, zero_le → anz, le_succ → an3, lt_succ_of_lt → aoz, lt_succ_self → aoJ, lt_irrefl → aoR
open Bool renaming false_ne_true → kr, and_eq_true → anA, and_self → anH, eq_iff_iff → anU
open Sum renaming inl → ma
open PySem.PyData renaming canLayAll0 → sr, strOk → am8, canLay0 → ana, depthAll → ani, depth → anl, str → anG, eqv → aoH, list → aoM
open PySem.F renaming plainAttrs_list → am9, slot_list_append → anu, type_list_append → anv
open Option.some renaming inj → anb
open PySem.Value renaming ref → anf, none → aok, bool → aop
open Ne renaming symm → anj
open Or renaming inl → anq
open False renaming elim → ans
open PySem.Builtin.Str renaming occurrences → an0
open PySem.NameKind renaming free → aoa
open PySem.Obj renaming mapFields → aod
open True renaming intro → aoe
open PySem.Builtin.SmallTypes renaming fitsIndex → aos
open PySem.Builtin.Slice renaming slicePlaces → aox
open PySem.Builtin.Tuple renaming tupleExact → aoF
open Prod.mk renaming injEq → aoS
namespace L2
open PySem PySem.Spec PyProof.Rows
abbrev Key:=Sum Int Str
def C3:Key->Value->Bool
 | .inl k,v=>Value.isInt k v
 | .inr x,v=>Value.isStrOf x v
def ake (w:World):Key->Int
 | .inl k=>hashInt k
 | .inr x=>hashStr w x
theorem eA:∀ {k:Key} {v:Value},C3 k v=true->(∃i t,k=ma i/\v=Value.int i t)\/(∃x t,k=Sum.inr x/\v=Value.str x t)
 | .inl i,v,h=>by
  obtain⟨t,e⟩:=Value.isInt_shape (k:=i) (v:=v) h;exact .inl ⟨i,t,rfl,e⟩
 | .inr x,v,h=>by
  obtain⟨t,e⟩:=Value.isStrOf_shape (x:=x) (v:=v) h;exact .inr ⟨x,t,rfl,e⟩
theorem OQ (i:Int)(t:Tok):C3 (.inl i) (.int i t)=true:=by simp[C3,Value.isInt]
theorem OR (x:Str)(t:Tok):C3 (.inr x) (.str x t)=true:=by simp[C3,Value.isStrOf]
theorem XM (a b:Int):decide ((ma a:Key)=ma b)=(a == b):=by
 by_cases e:a=b
 ·subst e;simp
 ·have h:¬(ma a:Key)=ma b:=λq=>e (Sum.inl.inj q)
  rw[decide_eq_false h];exact(beq_eq_false_iff_ne.mpr e).symm
theorem XN (a b:Str):decide ((Sum.inr a:Key)=Sum.inr b)=decide (a=b):=by
 by_cases e:a=b
 ·subst e;simp
 ·have h:¬(Sum.inr a:Key)=Sum.inr b:=λq=>e (Sum.inr.inj q)
  rw[decide_eq_false h,decide_eq_false e]
theorem XO (a:Int)(b:Str):decide ((ma a:Key)=Sum.inr b)=false:=decide_eq_false (λq=>nomatch q)
theorem XQ (a:Str)(b:Int):decide ((Sum.inr a:Key)=ma b)=false:=decide_eq_false (λq=>nomatch q)
def eP (prog:rf)(w:World):PySem.KeyKind prog w Key where
 is:=C3
 hash:=ake w
 inj:=λv a b ha hb=>by
  rcases eA ha with ⟨i,t,rfl,rfl⟩ | ⟨x,t,rfl,rfl⟩
  ·rcases eA hb with ⟨j,u,rfl,e⟩ | ⟨y,u,rfl,e⟩
   ·injection e with e1 _;rw[e1]
   ·exact nomatch e
  ·rcases eA hb with ⟨j,u,rfl,e⟩ | ⟨y,u,rfl,e⟩
   ·exact nomatch e
   ·injection e with e1 _;rw[e1]
 byValue:=λk v h=>by
  rcases eA h with ⟨i,t,rfl,rfl⟩ | ⟨x,t,rfl,rfl⟩ <;> rfl
 pyHash:=λhv h=>by
  rcases eA hv with ⟨i,t,rfl,rfl⟩ | ⟨x,t,rfl,rfl⟩
  ·exact wpAny_pyHash_int h
  ·exact wpAny_pyHash_str h
 eqBool:=λhu hv h=>by
  rcases eA hu with ⟨i,t,rfl,rfl⟩ | ⟨x,t,rfl,rfl⟩
  ·rcases eA hv with ⟨j,u,rfl,rfl⟩ | ⟨y,u,rfl,rfl⟩
   ·rw[XM]at h;exact wpAny_eqBool_int h
   ·rw[XO]at h;exact SeqAt.EqAt.int_str i t y u _ _ _ _ h
  ·rcases eA hv with ⟨j,u,rfl,rfl⟩ | ⟨y,u,rfl,rfl⟩
   ·rw[XQ]at h;exact SeqAt.EqAt.str_int x t j u _ _ _ _ h
   ·rw[XN]at h;exact wpAny_eqBool_str h
 «strs»:=λk x t v h=>by
  rcases eA h with ⟨i,u,rfl,e⟩ | ⟨y,u,rfl,e⟩
  ·exact nomatch e
  ·injection e with e1 _
   subst e1;cases v <;> rfl
theorem HV (prog:rf)(w:World)(i:Int)(t:Tok):(eP prog w).is (.inl i) (.int i t)=true:=OQ i t
theorem HW (prog:rf)(w:World)(x:Str)(t:Tok):(eP prog w).is (.inr x) (.str x t)=true:=OR x t
inductive V where
 |non | bl (b:Bool) | int (i:Int) | str (x:Str) | byt (b:Array UInt8) | flt (b:UInt64) | ref (a:Addr) | ty (n:String)
 deriving DecidableEq
def RelV:V->Value->Prop
 | .non,u=>u=aok
 | .bl b,u=>u=aop b
 | .int i,u=>∃t,u=Value.int i t
 | .str x,u=>∃t,u=Value.str x t
 | .byt b,u=>∃t,u=Value.bytes b t
 | .flt b,u=>∃t,u=Value.float b t
 | .ref a,u=>u=anf a
 | .ty n,u=>u=Value.type n
abbrev Vals:List V->List Value->Prop:=Paired RelV
theorem Vals.length {xs:List V}{us:List Value}(r:Vals xs us):xs.length=us.length:=Paired.length r
theorem Vals.get:∀ {xs:List V} {us:List Value} {i:Nat} {x:V},Vals xs us->xs[i]?=some x->∃u,us[i]?=some u/\RelV x u
 |_,_,_,_,.nil,e=>by simp at e
 |_,_,0,_,.cons r _,e=>by simp at e;subst e;exact⟨_,rfl,r⟩
 |_,_,i+1,x,.cons _ t,e=>by
  obtain⟨u,h1,h2⟩:=Vals.get (i:=i) (x:=x) t (by simpa using e)
  exact⟨u,by simpa using h1,h2⟩
theorem Vals.set {x:V}{u:Value}(r:RelV x u):∀ {xs:List V} {us:List Value} (i:Nat),Vals xs us->Vals (xs.set i x) (us.set i u)
 |_,_,_,.nil=>.nil
 |_,_,0,.cons _ t=>.cons r t
 |_,_,i+1,.cons q t=>.cons q (Vals.set r i t)
theorem Vals.append:∀ {xs ys:List V} {us ws:List Value},Vals xs us->Vals ys ws->Vals (xs++ys) (us++ws)
 |_,_,_,_,.nil,s=>s
 |_,_,_,_,.cons r t,s=>.cons r (Vals.append t s)
theorem Vals.take:∀ {xs:List V} {us:List Value} (n:Nat),Vals xs us->Vals (xs.take n) (us.take n)
 |_,_,0,_=>.nil
 |_,_,_+1,.nil=>.nil
 |_,_,n+1,.cons r t=>.cons r (Vals.take n t)
theorem Vals.drop:∀ {xs:List V} {us:List Value} (n:Nat),Vals xs us->Vals (xs.drop n) (us.drop n)
 |_,_,0,r=>r
 |_,_,_+1,.nil=>.nil
 |_,_,n+1,.cons _ t=>Vals.drop n t
theorem Vals.none_of:∀ {xs:List V} {us:List Value} {i:Nat},Vals xs us->xs[i]?=none->us[i]?=none:=λ{xs us i} r e=>by
 have h1:=r.length;have h2:xs.length<=i:=List.getElem?_eq_none_iff.mp e;exact List.getElem?_eq_none_iff.mpr (by omega)
def sD:Option V->Option Value->Prop
 |some v,some u=>RelV v u
 |none,none=>True
 |_,_=>False
def KV {κ:Type}:List (κ×V)->List (κ×Value)->Prop:=Paired λ(p:κ×V) (q:κ×Value)=>p.1=q.1/\RelV p.2 q.2
def kV:Key->V
 | .inl i=>.int i
 | .inr x=>.str x
inductive HO where
 |lst (xs:List V)
 |tup (xs:List V)
 |dK (kvs:List (Key×V)) | dT (kvs:List (List Key×V))
 |set (S:Int->Bool) (n:Nat)
 |ins (C dx:Addr) (fs:List (Str×V))
 |own (x:Addr)
 |xd (fs:List (Str×V))
 |met (f x:Addr)
 |rng (lo hi:Int)
 |frz (o:Obj) (u:HO)
 |tbl (ps:Array Value)
 |ext (φ:Heap->Prop)
abbrev Hp:=Addr->Option HO
def upd (H:Hp)(a:Addr)(o:HO):Hp:=λb=>if b=a then some o else H b
theorem ae {H:Hp}{a:Addr}{o:HO}:upd H a o a=some o:=by unfold upd;rw[if_pos rfl]
theorem av {H:Hp}{a b:Addr}{o:HO}(h:b≠a):upd H a o b=H b:=by unfold upd;rw[if_neg h]
theorem pN {H:Hp}{a:Addr}{o u:HO}:upd (upd H a o) a u=upd H a u:=by
 funext b;unfold upd;split <;> rfl
theorem acp {H:Hp}{a b:Addr}{o u:HO}(h:H a=some o)(h':H b=some u)(d:o≠u):a≠b:=by
 intro e;subst e;rw[h]at h';exact d (anb h')
theorem aU {H:Hp}{a b:Addr}{o:HO}(h:H a=some o)(h':H b=none):a≠b:=by
 intro e;subst e;rw[h]at h';cases h'
section
variable(P:rf)(w:World)
def eZ (H:Hp)(h:Heap)(a:Addr):HO->Prop
 | .lst xs=>xs.length<=gr/\∃(its:List Value) (n:Nat),Vals xs its/\h.get? a=some { cls:=.type "list",data:=.seq its.toArray n }
 | .tup xs=>xs.length<=gr/\∃its:List Value,Vals xs its/\IsTup h a its.toArray
 | .dK kvs=>kvs.length<=gr/\(a == aoq)=false/\∃vs,KV kvs vs/\h.DictOf (eP P w) a vs
 | .dT kvs=>kvs.length<=gr/\(a == aoq)=false/\∃xs:List (List Key×Addr×Value),
   Paired (λ(p:List Key×V) (q:List Key×Addr×Value)=>p.1=q.1/\H q.2.1=some (.tup (p.1.map kV))/\RelV p.2 q.2.2) kvs xs /\
   ∃o es ep,h.get? a=some o/\o.ExactDict/\o.data=.dict es ep/\es.toList=xs.map (entryOfKey (tupleKind (eP P w)))/\(xs.map (·.1)).Nodup
 | .set S n=>h.SetOf (intKind P w) a S n
 | .ins C dx fs=>H dx=some (.own a)/\fs.length<=1000/\dx≠a/\h.get? a=some (anM C dx) /\
   ∃mA,h.Ns1 dx mA/\(∀f,sD (fs.lookup f) (mA f))/\PySem.Within mA (fs.map (·.1))
 | .own _=>∃o,h.get? a=some o
 | .xd fs=>∃mA,h.Ns1 a mA/\∀f,sD (fs.lookup f) (mA f)
 | .rng lo hi=>∃t u v,h.get? a=some { cls:=.type "range",data:=.fields #[.int lo t,.int hi u,.int 1 v] }
 | .frz o u=>h.get? a=some o/\eZ H h a u
 | .tbl ps=>h.get? a=some { cls:=.none,data:=.fields ps }
 | .met f x=>h.get? a=some (PySem.W.methodObj (.ref f) (.ref x))
 | .ext φ=>φ h/\(∃o,h.get? a=some o)/\∀h1 h2:Heap,φ h1->(∀o,h1.get? a=some o->h2.get? a=some o)->φ h2
def HOk (H:Hp)(h:Heap):Prop:=∀a o,H a=some o->eZ P w H h a o
end
section
variable{P:rf}{w:World}{H H':Hp}{h h':Heap}{a:Addr}{o:HO}
theorem eZ.lt (x:eZ P w H h a o):a < h.objs.size:=by
 cases o with
 |lst xs=>obtain⟨_,_,_,_,e⟩:=x;exact me e
 |tup xs=>obtain⟨_,_,_,p⟩:=x;exact p.lt
 |dK kvs=>obtain⟨_,_,_,_,o,_,_,e,_⟩:=x;exact me e
 |dT kvs=>obtain⟨_,_,_,_,o,_,_,e,_⟩:=x;exact me e
 |set S n=>obtain⟨o,_,_,_,e,_⟩:=x;exact me e
 |ins C dx fs=>obtain⟨_,_,_,e,_⟩:=x;exact me e
 |own y=>obtain⟨_,e⟩:=x;exact me e
 |xd fs=>obtain⟨_,⟨_,_,_,e,_⟩,_⟩:=x;exact me e
 |rng lo hi=>obtain⟨_,_,_,e⟩:=x;exact me e
 |frz ob u=>obtain⟨e,_⟩:=x;exact me e
 |tbl ps=>exact me (show h.get? a=some _ from x)
 |met f y=>exact me (show h.get? a=some _ from x)
 |ext φ=>obtain⟨_,⟨_,e⟩,_⟩:=x;exact me e
theorem Paired.XR {α β:Type}{F G:α->β->Prop}:∀ {l₁:List α} {l₂:List β},Paired F l₁ l₂->(∀a b,F a b->G a b)->Paired G l₁ l₂
 |_,_,.nil,_=>.nil
 |_,_,.cons r t,f=>.cons (f _ _ r) (Paired.XR t f)
theorem eZ.ql (x:eZ P w H h a o)(k:∀b u,(b=a\/H b=some (.own a))->h.get? b=some u->h'.get? b=some u)
  (ho:∀b,H b=some (.own a)->H' b=some (.own a)) (ht:∀b xs,H b=some (.tup xs)->H' b=some (.tup xs)):eZ P w H' h' a o:=by
 induction o with
 |lst xs=>obtain⟨z,its,n,r,e⟩:=x;exact⟨z,its,n,r,k _ _ (.inl rfl) e⟩
 |tup xs=>obtain⟨z,its,r,ob,e,c⟩:=x;exact⟨z,its,r,ob,k _ _ (.inl rfl) e,c⟩
 |dK kvs=>obtain⟨z,y,vs,r,ob,es,ep,e,c⟩:=x;exact⟨z,y,vs,r,ob,es,ep,k _ _ (.inl rfl) e,c⟩
 |dT kvs =>
  obtain⟨z,y,xs,r,ob,es,ep,e,c⟩:=x;exact⟨z,y,xs,Paired.XR r λp q z=>⟨z.1,ht _ _ z.2.1,z.2.2⟩,ob,es,ep,k _ _ (.inl rfl) e,c⟩
 |set S n=>obtain⟨ob,es,ep,t,e,c⟩:=x;exact⟨ob,es,ep,t,k _ _ (.inl rfl) e,c⟩
 |ins C dx fs =>
  obtain⟨d,z,ne,e,mA,⟨od,es,ep,e2,c⟩,r⟩:=x;exact⟨ho _ d,z,ne,k _ _ (.inl rfl) e,mA,⟨od,es,ep,k _ _ (.inr d) e2,c⟩,r⟩
 |own y=>obtain⟨ob,e⟩:=x;exact⟨ob,k _ _ (.inl rfl) e⟩
 |xd fs=>obtain⟨mA,⟨od,es,ep,e,c⟩,r⟩:=x;exact⟨mA,⟨od,es,ep,k _ _ (.inl rfl) e,c⟩,r⟩
 |rng lo hi=>obtain⟨t,u,v,e⟩:=x;exact⟨t,u,v,k _ _ (.inl rfl) e⟩
 |frz ob u ih=>obtain⟨e,q⟩:=x;exact⟨k _ _ (.inl rfl) e,ih q⟩
 |tbl ps =>
  have e:h.get? a=some { cls:=.none,data:=.fields ps }:=x;show h'.get? a=some { cls:=.none,data:=.fields ps };exact k a _ (.inl rfl) e
 |met f y =>
  have e:h.get? a=some (PySem.W.methodObj (.ref f) (.ref y)):=x;show h'.get? a=some (PySem.W.methodObj (.ref f) (.ref y));exact k a _ (.inl rfl) e
 |ext φ=>obtain⟨p,⟨o,e⟩,st⟩:=x;exact⟨st _ _ p λo q=>k _ _ (.inl rfl) q,⟨o,k _ _ (.inl rfl) e⟩,st⟩
theorem HOk.lt (x:HOk P w H h)(e:H a=some o):a < h.objs.size:=(x a o e).lt
theorem HOk.fresh (x:HOk P w H h)(e:h.objs.size<=a):H a=none:=by
 cases q:H a with
 |none=>rfl
 |some u=>exact absurd (ang (x.lt q) e) (aoR _)
theorem HOk.kept (x:HOk P w H h)(k:∀b u,h.get? b=some u->h'.get? b=some u):HOk P w H h':=λa o e =>
 (x a o e).ql (λb u _ q=>k b u q) (λ_ q=>q) λ_ _ q=>q
theorem HOk.laid (x:HOk P w H h)(k:∀b u,h.get? b=some u->h'.get? b=some u)(hp:h.objs.size<=a)(new:eZ P w (upd H a o) h' a o):HOk P w (upd H a o) h':=λb u e=>by
 have hn:=x.fresh hp
 by_cases hb:b=a
 ·subst hb;rw[ae]at e;cases e;exact new
 ·rw[av hb]at e;exact(x b u e).ql (λc v _ q=>k c v q) (λc q=>by rw[av (aU q hn)];exact q) λc xs q=>by rw[av (aU q hn)];exact q
end
def Rd (H:Hp)(a:Addr)(u:HO):Prop:=H a=some u\/∃o,H a=some (.frz o u)
theorem Rd.of {H:Hp}{a:Addr}{u:HO}(h:H a=some u):Rd H a u:=.inl h
theorem Rd.ok {P:rf}{w:World}{H:Hp}{h:Heap}{a:Addr}{u:HO}(r:Rd H a u)(x:HOk P w H h):eZ P w H h a u:=by
 rcases r with r | ⟨o,r⟩
 ·exact x a u r
 ·obtain⟨_,q⟩:=x a _ r;exact q
def Mut:Option HO->Prop
 |some (.lst _)=>True
 |some (.dK _)=>True
 |some (.dT _)=>True
 |some (.set _ _)=>True
 |some (.ins _ _ _)=>True
 |some (.ext _)=>True
 |_=>False
section
variable{P:rf}{w:World}{H:Hp}{h h':Heap}{x e:Addr}{o':HO}
theorem HOk.write (ok:HOk P w H h)(mu:Mut (H x))(he:e=x\/H e=some (.own x))(k:∀b u,b≠e->h.get? b=some u->h'.get? b=some u)(heo:∃u,h'.get? e=some u)
  (new:eZ P w (upd H x o') h' x o'):HOk P w (upd H x o') h':=λb u q=>by
 have acq:∀c y,H c=some (.own y)->c≠x:=λc y r z=>by subst z;rw[r]at mu;exact mu
 have akf:∀c xs,H c=some (.tup xs)->c≠x:=λc xs r z=>by subst z;rw[r]at mu;exact mu
 by_cases hb:b=x
 ·subst hb;rw[ae]at q;cases q;exact new
 ·rw[av hb]at q
  by_cases hbe:b=e
  ·have q':H b=some (.own x):=by
    rcases he with z | z
    ·exact absurd (hbe.trans z) hb
    ·rw[hbe];exact z
   rw[q]at q';cases q';obtain⟨v,hv⟩:=heo;exact⟨v,by rw[hbe];exact hv⟩
  ·refine(ok b u q).ql (λc v hc r=>k c v ?_ r) (λc r=>by rw[av (acq c b r)];exact r) λc xs r=>by rw[av (akf c xs r)];exact r
   rcases hc with rfl | hc
   ·exact hbe
   ·rintro rfl;rcases he with z | z
    ·exact acq c b hc z
    ·rw[hc]at z;cases z;exact hb rfl
end
structure Un (fs ex:List Addr)(H H':Hp)(h h':Heap):Prop where
 keep:∀b o,h.get? b=some o->H b=none->b∉fs->b∉ex->h'.get? b=some o
 slot:∀b o,h.get? b=some o->H b=none->b∈fs->b∉ex->∃sl,h'.get? b=some { o with slots:=sl }
 free:∀b o,h.get? b=some o->H b=none->b∉ex->H' b=none
 there:∀b o,h.get? b=some o->b∉ex->∃o',h'.get? b=some o'
 zR:∀b xs,H b=some (.tup xs)->H' b=some (.tup xs)
 yw:∀b o u,H b=some (.frz o u)->H' b=some (.frz o u)
 zS:∀b ps,H b=some (.tbl ps)->∃more,H' b=some (.tbl (ps++more))
section
variable{fs fs' ex ex':List Addr}{H H1 H2:Hp}{h h1 h2 h':Heap}{a x e:Addr}{o:HO}
theorem Un.any (u:Un fs ex H H1 h h1){b:Addr}{ob:Obj}(q:h.get? b=some ob)(n:H b=none)(hx:b∉ex):∃sl,h1.get? b=some { ob with slots:=sl }:=by
 by_cases hb:b∈fs
 ·exact u.slot b ob q n hb hx
 ·exact⟨ob.slots,u.keep b ob q n hb hx⟩
theorem Un.trans (a:Un fs ex H H1 h h1)(b:Un fs ex H1 H2 h1 h2):Un fs ex H H2 h h2 where
 keep:=λc ob q n hc hx=>b.keep c ob (a.keep c ob q n hc hx) (a.free c ob q n hx) hc hx
 slot:=λc ob q n hc hx=>by
  obtain⟨sl,e1⟩:=a.slot c ob q n hc hx;obtain⟨sl',e2⟩:=b.slot c _ e1 (a.free c ob q n hx) hc hx;exact⟨sl',e2⟩
 free:=λc ob q n hx=>by
  obtain⟨o',e1⟩:=a.there c ob q hx;exact b.free c o' e1 (a.free c ob q n hx) hx
 there:=λc ob q hx=>by
  obtain⟨o',e1⟩:=a.there c ob q hx;exact b.there c o' e1 hx
 zR:=λc xs q=>b.zR c xs (a.zR c xs q)
 yw:=λc ob xs q=>b.yw c ob xs (a.yw c ob xs q)
 zS:=λc ps q=>by
  obtain⟨m1,e1⟩:=a.zS c ps q;obtain⟨m2,e2⟩:=b.zS c _ e1;exact⟨m1++m2,by rw[e2,Array.append_assoc]⟩
theorem Un.kept (k:∀b u,h.get? b=some u->h'.get? b=some u):Un fs ex H H h h' :=
 ⟨λb ob q _ _ _=>k b ob q,λb ob q _ _ _=>⟨ob.slots,k b ob q⟩,λ_ _ _ n _=>n,λb ob q _=>⟨ob,k b ob q⟩,λ_ _ q=>q,λ_ _ _ q=>q,λ_ ps q=>⟨#[],by rw[q];simp⟩⟩
theorem Un.refl:Un fs ex H H h h:=Un.kept λ_ _ q=>q
theorem Un.laid (k:∀b u,h.get? b=some u->h'.get? b=some u)(hp:h.objs.size<=a)(hn:H a=none):Un fs ex H (upd H a o) h h' where
 keep:=λb u q _ _ _=>k b u q
 slot:=λb u q _ _ _=>⟨u.slots,k b u q⟩
 free:=λb u q n _=>by rw[av (adm (ang (me q) hp))];exact n
 there:=λb u q _=>⟨u,k b u q⟩
 zR:=λb xs q=>by rw[av (aU q hn)];exact q
 yw:=λb u xs q=>by rw[av (aU q hn)];exact q
 zS:=λb ps q=>⟨#[],by rw[av (aU q hn),q];simp⟩
theorem Un.write (mu:Mut (H x))(he:e=x\/H e=some (.own x))(k:∀b u,b≠e->h.get? b=some u->h'.get? b=some u)(heo:∃u,h'.get? e=some u):Un fs ex H (upd H x o) h h':=by
 have hx:∀b,H b=none->b≠x:=λb n z=>by subst z;rw[n]at mu;exact mu
 have hb:∀b,H b=none->b≠e:=λb n z=>by
  subst z;rcases he with r | r
  ·exact hx b n r
  ·rw[n]at r;cases r
 have hm:∀b u,H b=some u->¬Mut (some u)->b≠x:=λb u q nm z=>by subst z;rw[q]at mu;exact nm mu
 refine⟨λb u q n _ _=>k b u (hb b n) q,λb u q n _ _=>⟨u.slots,k b u (hb b n) q⟩,λb u q n _=>by rw[av (hx b n)];exact n,λb u q _=>?_,
  λb xs q=>by rw[av (hm b _ q λz=>z)];exact q,λb u xs q=>by rw[av (hm b _ q λz=>z)];exact q,λb ps q=>⟨#[],by rw[av (hm b _ q λz=>z),q];simp⟩⟩
 by_cases hbe:b=e
 ·subst hbe;exact heo
 ·exact⟨u,k b u hbe q⟩
theorem Un.mono (u:Un fs ex H H1 h h1)(hs:∀b∈fs,b∈fs')(hx:∀b∈ex,b∈ex'):Un fs' ex' H H1 h h1 :=
 ⟨λb ob q n hb he=>u.keep b ob q n (λz=>hb (hs b z)) λz=>he (hx b z),λ_ _ q n _ he=>u.any q n λz=>he (hx _ z),λb ob q n he=>u.free b ob q n λz=>he (hx b z),λb ob q he=>u.there b ob q λz=>he (hx b z),u.zR,u.yw,u.zS⟩
end
def trk (h:Heap)(H:Hp):List Addr:=(aoE h.objs.size).filter λa=>(H a).isSome
def Gr (h:Heap)(H:Hp):Heap:=PySem.W.hideAll h (trk h H)
theorem OS (h:Heap)(H:Hp):(Gr h H).objs.size=h.objs.size:=PySem.W.hideAll_size _ _
theorem Qy {h:Heap}{H:Hp}{b:Addr}{o:Obj}(e:h.get? b=some o)(n:H b=none):(Gr h H).get? b=some o :=
 PySem.W.hideAll_get _ e λhm=>by
  have q:(H b).isSome=true:=(List.mem_filter.mp hm).2;rw[n]at q;simp at q
theorem T8 {h:Heap}{H:Hp}{b:Addr}{o:Obj}(e:(Gr h H).get? b=some o):h.get? b=some o/\H b=none:=by
 have e':h.get? b=some o:=PySem.W.of_hideAll (trk h H) e;refine⟨e',?_⟩;cases q:H b with
 |none=>rfl
 |some x =>
  have hm:b∈trk h H:=List.mem_filter.mpr ⟨List.mem_range.mpr (me e'),by simp[q]⟩
  have z:(Gr h H).get? b=none:=PySem.W.hideAll_none (trk h H) hm;rw[z]at e;cases e
def T9 (g h:Heap)(L:Addr):List (Addr×Obj):=(aoE h.objs.size).filterMap λa=>if a=L\/(g.get? a).isSome=true then none else (h.get? a).map λo=>(a,o)
def rest (g h:Heap)(L d:Addr):List (Addr×Obj):=(T9 g h L).filter λp=>decide (p.1≠d)
structure Mod (K:ba)(mg:Str->Option Value)(base:Heap):Prop where
 kin:K.In base
 glob:base.Ns ka mg
 blt:∃mb,base.Ns builtinsNs mb/\∀x:Str,x≠"__name__"->mb x=anS x
 nolimit:base.NoLimit
structure Cx where
 prog:rf
 w:World
 K:ba
 mg:Str->Option Value
 base:Heap
 A:Around
 N:List Str
 s₀:Shared
 H₀:Hp
 env:Env
 outer:List Env
 stack:List Env
 ex:List Addr
 fn:Str->Bool
 calm:Bool
 pn:List (Addr×Obj)
 xe:Value->Shared->Prop
def frs (l:List Env):List Addr:=l.filterMap (·.frame)
abbrev Cx.fs (X:Cx):List Addr:=frs X.outer
def Vis (sc:Scope)(x:Str):Prop:=sc.names.lookup x=some .local\/sc.names.lookup x=some .cell\/sc.names.lookup x=some .free
def Loc (sc:Scope)(x:Str):Prop:=sc.names.lookup x=some .local\/sc.names.lookup x=some .cell
def Look (env:Env)(h:Heap)(m:Str->Option Value)(x:Str)(u:Value):Prop :=
 (env.kindOf x=some .local/\m x=some u)\/((env.kindOf x=some .cell\/env.kindOf x=some .free)/\∃c,env.cells.lookup x=some c/\h.IsCell c (some u))
structure Cx.Ok (X:Cx):Prop where
 mod:Mod X.K X.mg X.base
 kind:X.env.scope.kind=.function
 glob:X.env.globals=ka
 blt:X.env.builtins=builtinsNs
 above:X.s₀.heap.objs.size<=X.env.locals
 inj:∀x y c,X.env.cells.lookup x=some c->X.env.cells.lookup y=some c->x=y
 has:∀x,(X.env.kindOf x=some .cell\/X.env.kindOf x=some .free)->∃c,X.env.cells.lookup x=some c
 cab:∀x c,X.fn x=true->X.env.cells.lookup x=some c->X.s₀.heap.objs.size<=c
 hd:X.calm=true->X.A.handled=none
 frames:X.A.frames=some X.stack
 stk:X.stack=X.outer\/(X.stack=X.env::X.outer/\X.env.frame=some X.env.locals)
 exf:∀b∈X.ex,b≠X.env.locals/\∀x c,X.env.cells.lookup x=some c->c≠b
 bs:∀b o,X.base.get? b=some o->X.s₀.heap.get? b=some o/\X.H₀ b=none
 bsz:X.base.objs.size<=X.s₀.heap.objs.size
 Gs:∀b o,X.base.get? b=some o->b∉X.ex
 EK:∀b∈X.ex,b∉X.fs
 wW:X.s₀.heap.FunFrames X.base X.outer
 frf:∀b∈X.fs,X.H₀ b=none
structure Inv (X:Cx)(pins:List (Addr×Obj))(σ:List (Option V))(H:Hp)(s:Shared):Prop where
 ok:X.Ok
 os:s.os=X.s₀.os
 bare:AllBare s.gens
 base:Un X.fs X.ex X.H₀ H X.s₀.heap s.heap
 loc:∃m,s.heap.Ns X.env.locals m/\∀(i:Nat) (x:Str) (v:V),X.N[i]?=some x->σ[i]?=some (some v)->Vis X.env.scope x->∃u,RelV v u/\Look X.env s.heap m x u
 cell:∀x c,X.env.cells.lookup x=some c->∃v,s.heap.IsCell c v
 free:H X.env.locals=none
 pO:∀x c,X.env.cells.lookup x=some c->H c=none
 pin:∀p∈X.pn++pins,s.heap.get? p.1=some p.2/\H p.1=none/\p.1≠X.env.locals/\p.1∉X.fs/\∀v,p.2.data≠.cell v
 hok:HOk X.prog X.w H s.heap
 len:σ.length=X.N.length
section
variable{X:Cx}{pins:List (Addr×Obj)}{σ:List (Option V)}{H H':Hp}{s:Shared}{h':Heap}
theorem Cx.Ok.akg (ok:X.Ok){b:Addr}{o:Obj}(e:X.base.get? b=some o):b∉X.fs:=λhb=>by
 have:=(ok.wW.mem hb).1;rw[e]at this;cases this
theorem Inv.bs (I:Inv X pins σ H s):∀b o,X.base.get? b=some o->s.heap.get? b=some o/\H b=none:=λb o e =>
 ⟨I.base.keep b o (I.ok.bs b o e).1 (I.ok.bs b o e).2 (I.ok.akg e) (I.ok.Gs b o e),I.base.free b o (I.ok.bs b o e).1 (I.ok.bs b o e).2 (I.ok.Gs b o e)⟩
theorem Inv.bk (I:Inv X pins σ H s):∀b o,X.base.get? b=some o->s.heap.get? b=some o:=λb o e=>(I.bs b o e).1
theorem Inv.mod (I:Inv X pins σ H s):Mod X.K X.mg X.base:=I.ok.mod
theorem Inv.kIn (I:Inv X pins σ H s):X.K.In s.heap:=I.ok.mod.kin.keeps I.bk
theorem Inv.nolimit (I:Inv X pins σ H s):s.heap.NoLimit:=I.ok.mod.nolimit.keeps I.bk
theorem Inv.fr (I:Inv X pins σ H s):∃m,Fr X.base X.env.locals s.heap m :=
 let ⟨m,hn,_⟩:=I.loc
 ⟨m,hn,I.bk,si I.ok.bsz I.ok.above⟩
theorem Inv.lt (I:Inv X pins σ H s):X.env.locals < s.heap.objs.size:=let ⟨_,hn,_⟩:=I.loc;hn.lt
theorem Inv.sz (I:Inv X pins σ H s):X.s₀.heap.objs.size<=s.heap.objs.size:=si I.ok.above (Nat.le_of_lt I.lt)
theorem Inv.akh (I:Inv X pins σ H s){a:Addr}(h:s.heap.objs.size<=a):a∉X.fs:=λhb=>by
 obtain⟨_,o,ho,_⟩:=I.ok.wW.mem hb;exact absurd (ang (me ho) (si I.sz h)) (aoR _)
theorem Inv.cne (I:Inv X pins σ H s):∀x c,X.env.cells.lookup x=some c->c≠X.env.locals:=λx c e z=>by
 obtain⟨v,o,ho,hd⟩:=I.cell x c e;obtain⟨m,⟨o',es,ep,ho',hd',_⟩,_⟩:=I.loc;rw[z,ho']at ho;cases ho;rw[hd']at hd;cases hd
theorem Inv.wW (I:Inv X pins σ H s):s.heap.FunFrames X.base X.outer:=by
 have all:∀(l:List Env),(∀b∈frs l,b∈X.fs)->X.s₀.heap.FunFrames X.base l->s.heap.FunFrames X.base l:=by
  intro l
  induction l with
  |nil=>intro _ _;trivial
  |cons env r ih =>
   intro hs hl;obtain⟨hk,⟨L,o,hf,hn,ho,hd⟩,hr⟩:=hl;have hL:L∈X.fs:=hs L (by unfold frs;rw[List.filterMap_cons,hf];exact kb)
   obtain⟨sl,e⟩:=I.base.slot L o ho (I.ok.frf L hL) hL λz=>I.ok.EK L z hL
   exact⟨hk,⟨L,_,hf,hn,e,hd⟩,ih (λb hb=>hs b (by unfold frs;rw[List.filterMap_cons,hf];exact kq _ hb)) hr⟩
 exact all X.outer (λ_ hb=>hb) I.ok.wW
theorem Inv.stack (I:Inv X pins σ H s):s.heap.FunFrames X.base X.stack:=by
 rcases I.ok.stk with e | ⟨e,hf⟩
 ·rw[e];exact I.wW
 ·rw[e];obtain⟨m,hn,_⟩:=I.loc;refine .cons (by rw[I.ok.kind];decide) hf hn ?_ I.wW
  exact Heap.get?_none_of_le (si I.ok.bsz I.ok.above)
theorem Inv.C4 (I:Inv X pins σ H s):∀b∈frs X.stack,b∈X.env.locals::X.fs:=λb hb=>by
 rcases I.ok.stk with e | ⟨e,hf⟩
 ·rw[e]at hb;exact kq _ hb
 ·rw[e]at hb;unfold frs at hb;rw[List.filterMap_cons,hf]at hb;exact hb
theorem Inv.CO (I:Inv X pins σ H s):∀b∈frs X.stack,H b=none:=λb hb=>by
 rcases List.mem_cons.mp (I.C4 b hb) with e | hb
 ·rw[e];exact I.free
 ·obtain⟨_,o,ho,_⟩:=I.ok.wW.mem hb;exact I.base.free b o ho (I.ok.frf b hb) λz=>I.ok.EK b z hb
theorem Inv.step {g':Array GenState}{t':Nat}{d':Drawn}{ch:List Addr}(I:Inv X pins σ H s)
  (hch:∀b∈ch,(b∈X.ex\/X.s₀.heap.objs.size<=b)/\b≠X.env.locals/\(∀x c,X.env.cells.lookup x=some c->c≠b)/\∀p∈X.pn++pins,p.1≠b)
  (keep:∀b o,b≠X.env.locals->b∉X.fs->b∉ch->s.heap.get? b=some o->H b=none->h'.get? b=some o)
  (slot:∀b o,b≠X.env.locals->b∈X.fs->b∉ch->s.heap.get? b=some o->H b=none->∃sl,h'.get? b=some { o with slots:=sl }) (free:∀b o,b∉ch->s.heap.get? b=some o->H b=none->H' b=none)
  (there:∀b o,b∉ch->s.heap.get? b=some o->∃o',h'.get? b=some o')
  (zR:∀b xs,H b=some (.tup xs)->H' b=some (.tup xs)) (yw:∀b o u,H b=some (.frz o u)->H' b=some (.frz o u)) (zS:∀b ps,H b=some (.tbl ps)->∃more,H' b=some (.tbl (ps++more)))
  (ns:∀m,s.heap.Ns X.env.locals m->h'.Ns X.env.locals m) (hok:HOk X.prog X.w H' h') (hg:AllBare g') :
  Inv X pins σ H' { s with heap:=h',gens:=g',drawn:=d',toks:=t' }:=by
 have neL:∀b o,X.s₀.heap.get? b=some o->b≠X.env.locals:=λb o e=>adm (ang (me e) I.ok.above)
 have neC:∀b o,X.s₀.heap.get? b=some o->b∉X.ex->b∉ch:=λb o e hx hb=>by
  rcases (hch b hb).1 with z | z
  ·exact hx z
  ·exact absurd (ang (me e) z) (aoR _)
 have cellK:∀x c,X.env.cells.lookup x=some c->∀v,s.heap.IsCell c v->h'.IsCell c v:=λx c e v ⟨o,ho,hd⟩=>by
  have nch:c∉ch:=λz=>(hch c z).2.2.1 x c e rfl
  by_cases hc:c∈X.fs
  ·obtain⟨sl,q⟩:=slot c o (I.cne x c e) hc nch ho (I.pO x c e);exact⟨_,q,hd⟩
  ·exact⟨o,keep c o (I.cne x c e) hc nch ho (I.pO x c e),hd⟩
 refine⟨I.ok,I.os,hg,⟨λb o e n hb hx=>?_,λb o e n hb hx=>?_,λb o e n hx=>?_,λb o e hx=>?_,λb xs e=>zR b xs (I.base.zR b xs e),λb o xs e=>yw b o xs (I.base.yw b o xs e),λb ps e=>?_⟩,?_,λx c e=>?_,?_,λx c e=>?_,λp hp=>?_,hok,I.len⟩
 ·exact keep b o (neL b o e) hb (neC b o e hx) (I.base.keep b o e n hb hx) (I.base.free b o e n hx)
 ·obtain⟨sl,e1⟩:=I.base.slot b o e n hb hx;obtain⟨sl',e2⟩:=slot b _ (neL b o e) hb (neC b o e hx) e1 (I.base.free b o e n hx);exact⟨sl',e2⟩
 ·obtain⟨o',e1⟩:=I.base.there b o e hx;exact free b o' (neC b o e hx) e1 (I.base.free b o e n hx)
 ·obtain⟨o',e1⟩:=I.base.there b o e hx;exact there b o' (neC b o e hx) e1
 ·obtain⟨m1,e1⟩:=I.base.zS b ps e;obtain⟨m2,e2⟩:=zS b _ e1;exact⟨m1++m2,by rw[e2,Array.append_assoc]⟩
 ·obtain⟨m,hn,hl⟩:=I.loc;refine⟨m,ns m hn,λi x v e1 e2 e3=>?_⟩
  obtain⟨u,r,l⟩:=hl i x v e1 e2 e3;refine⟨u,r,?_⟩;rcases l with l | ⟨k,c,e,z⟩
  ·exact .inl l
  ·exact .inr ⟨k,c,e,cellK x c e _ z⟩
 ·obtain⟨v,z⟩:=I.cell x c e;exact⟨v,cellK x c e v z⟩
 ·obtain⟨m,⟨o,_,_,ho,_⟩,_⟩:=I.loc;exact free _ o (λz=>(hch _ z).2.1 rfl) ho I.free
 ·obtain⟨v,o,ho,hd⟩:=I.cell x c e;exact free c o (λz=>(hch c z).2.2.1 x c e rfl) ho (I.pO x c e)
 ·obtain⟨e,n,ne,nf,d⟩:=I.pin p hp;have nch:p.1∉ch:=λz=>(hch p.1 z).2.2.2 p hp rfl
  exact⟨keep p.1 p.2 ne nf nch e n,free p.1 p.2 nch e n,ne,nf,d⟩
theorem Inv.un {t':Nat}(I:Inv X pins σ H s)(u:Un X.fs [] H H' s.heap h')(hok:HOk X.prog X.w H' h'):Inv X pins σ H' { s with heap:=h',toks:=t' }:=by
 obtain⟨m,⟨o,es,ep,ho,r⟩,_⟩:=id I.loc;obtain⟨sl,hL⟩:=u.any ho I.free (by simp)
 exact I.step (g':=s.gens) (d':=s.drawn) (ch:=[]) (λ_ z=>nomatch z) (λb o _ hb _ e n=>u.keep b o e n hb (by simp)) (λb o _ hb _ e n=>u.slot b o e n hb (by simp)) (λb o _ e n=>u.free b o e n (by simp)) (λb o _ e=>u.there b o e (by simp)) u.zR u.yw u.zS (λm' hm=>by
  obtain⟨o',es',ep',ho',r'⟩:=hm;rw[ho]at ho';cases ho';exact⟨_,es',ep',hL,r'⟩) hok I.bare
theorem Inv.call {g':Array GenState}{t':Nat}{d':Drawn}{ch:List Addr}(I:Inv X pins σ H s)(u:Un (frs X.stack) ch H H' s.heap h')(hok:HOk X.prog X.w H' h')(hg:AllBare g')
  (hch:∀b∈ch,(b∈X.ex\/X.s₀.heap.objs.size<=b)/\b≠X.env.locals/\(∀x c,X.env.cells.lookup x=some c->c≠b)/\∀p∈X.pn++pins,p.1≠b) :
  Inv X pins σ H' { s with heap:=h',gens:=g',drawn:=d',toks:=t' }:=by
 obtain⟨m,⟨o,es,ep,ho,r⟩,_⟩:=id I.loc;obtain⟨sl,hL⟩:=u.any ho I.free λz=>(hch _ z).2.1 rfl
 exact I.step (ch:=ch) hch (λb o hL hb hc e n=>u.keep b o e n (λz=>(List.mem_cons.mp (I.C4 b z)).elim hL hb) hc) (λb o _ _ hc e n=>u.any e n hc) (λb o hc e n=>u.free b o e n hc) (λb o hc e=>u.there b o e hc) u.zR u.yw u.zS (λm' hm=>by
  obtain⟨o',es',ep',ho',r'⟩:=hm;rw[ho]at ho';cases ho';exact⟨_,es',ep',hL,r'⟩) hok hg
theorem Inv.turned {t':Nat}{it:Addr}(I:Inv X pins σ H s)(k:∀b o,b≠it->s.heap.get? b=some o->h'.get? b=some o)(hn:H it=none)(hL:it≠X.env.locals)
  (h1:it∈X.ex\/X.s₀.heap.objs.size<=it) (h2:∀x c,X.env.cells.lookup x=some c->c≠it) (h3:∀p∈X.pn++pins,p.1≠it):Inv X pins σ H { s with heap:=h',toks:=t' }:=by
 have nit:∀b u,H b=some u->b≠it:=λb u e z=>by rw[z,hn]at e;cases e
 refine I.step (g':=s.gens) (d':=s.drawn) (ch:=[it]) (λb hb=>?_) (λb o _ _ hc e _=>k b o (λz=>hc (by simp[z])) e) (λb o _ _ hc e _=>⟨o.slots,k b o (λz=>hc (by simp[z])) e⟩) (λ_ _ _ _ n=>n)
  (λb o hc e=>⟨o,k b o (λz=>hc (by simp[z])) e⟩) (λ_ _ e=>e) (λ_ _ _ e=>e) (λb ps e=>⟨#[],by rw[e];simp⟩) (λm hm=>?_) (λb u e=>?_) I.bare
 ·have e:b=it:=by simpa using hb
  subst e;exact⟨h1,hL,h2,h3⟩
 ·obtain⟨o,es,ep,ho,r⟩:=hm;exact⟨o,es,ep,k _ o (anj hL) ho,r⟩
 ·refine(I.hok b u e).ql (λc v hc q=>k c v ?_ q) (λ_ q=>q) λ_ _ q=>q
  rcases hc with z | z
  ·rw[z];exact nit b u e
  ·exact nit c _ z
theorem Inv.tok (I:Inv X pins σ H s)(t:Nat):Inv X pins σ H { s with toks:=t }:=I.un (h':=s.heap) (t':=t) Un.refl I.hok
theorem Inv.kept {t':Nat}(I:Inv X pins σ H s)(k:∀b u,s.heap.get? b=some u->h'.get? b=some u):Inv X pins σ H { s with heap:=h',toks:=t' }:=I.un (Un.kept k) (I.hok.kept k)
theorem Inv.laid {a:Addr}{o:HO}{t':Nat}(I:Inv X pins σ H s)(k:∀b u,s.heap.get? b=some u->h'.get? b=some u)(hp:s.heap.objs.size<=a)(new:eZ X.prog X.w (upd H a o) h' a o) :
  Inv X pins σ (upd H a o) { s with heap:=h',toks:=t' }:=I.un (Un.laid k hp (I.hok.fresh hp)) (I.hok.laid k hp new)
theorem Inv.write {x e:Addr}{o:HO}{t':Nat}(I:Inv X pins σ H s)(mu:Mut (H x))(he:e=x\/H e=some (.own x))(k:∀b u,b≠e->s.heap.get? b=some u->h'.get? b=some u)(heo:∃u,h'.get? e=some u)
  (new:eZ X.prog X.w (upd H x o) h' x o):Inv X pins σ (upd H x o) { s with heap:=h',toks:=t' }:=I.un (Un.write mu he k heo) (I.hok.write mu he k heo new)
theorem Inv.weak {σ':List (Option V)}(I:Inv X pins σ H s)(hl:σ'.length=σ.length)(w:∀(i:Nat) v,σ'[i]?=some (some v)->σ[i]?=some (some v)):Inv X pins σ' H s :=
 ⟨I.ok,I.os,I.bare,I.base,let ⟨m,hn,hl'⟩:=I.loc;⟨m,hn,λi x v e1 e2 e3=>hl' i x v e1 (w i v e2) e3⟩,I.cell,I.free,I.pO,I.pin,I.hok,hl.trans I.len⟩
theorem Inv.yx {Wc:List (Addr×Obj)}(I:Inv X pins σ H s)(h:∀p∈Wc,s.heap.get? p.1=some p.2/\H p.1=none/\p.1≠X.env.locals/\p.1∉X.fs/\∀v,p.2.data≠.cell v):Inv X Wc σ H s :=
 ⟨I.ok,I.os,I.bare,I.base,I.loc,I.cell,I.free,I.pO,λp hp=>(List.mem_append.mp hp).elim (λz=>I.pin p (anx _ z)) (h p),I.hok,I.len⟩
theorem HX {N:List Str}(hN:N.Nodup){i j:Nat}{x:Str}(a:N[i]?=some x)(b:N[j]?=some x):i=j:=by
 obtain⟨h1,e1⟩:=List.getElem?_eq_some_iff.mp a;obtain⟨h2,e2⟩:=List.getElem?_eq_some_iff.mp b;exact(List.getElem_inj hN).mp (e1.trans e2.symm)
theorem OT {M:Model}{A:Around}{E:Value->Shared->Prop}{i:Nat}{x:Str}{v:V}{u:Value}{Q:Unit->Shared->Prop}(I:Inv X pins σ H s)(hN:X.N.Nodup)(hi:X.N[i]?=some x)(hx:Loc X.env.scope x)(r:RelV v u)
  (h:∀s',Inv X pins (σ.set i (some v)) H s'->(∃a,Heap.SameBut a s.heap s'.heap/\(a=X.env.locals\/X.env.cells.lookup x=some a))->Q () s') (hf:X.fn x=true\/X.env.scope.names.lookup x=some .local:=by first | exact .inl rfl | exact .inr rfl | assumption):wpAny M A (storeName X.env x u) Q E s:=by
 obtain⟨m,hn,hl⟩:=id I.loc;have aki:(X.env.scope.kind == .class || (X.env.scope.kind == .module && X.env.locals != X.env.globals))=false:=by rw[I.ok.kind];rfl
 have hiσ:i < σ.length:=by rw[I.len];exact(List.getElem?_eq_some_iff.mp hi).1
 have cne:=I.cne;have tracked:∀ {a:Addr} {h':Heap},(∃o,s.heap.get? a=some o/\H a=none)->Heap.SameBut a s.heap h'->HOk X.prog X.w H h':=λ{a h'} ha hs b ob e=>by
  obtain⟨_,_,Wd⟩:=ha;refine(I.hok b ob e).ql (λc w' hc q=>(hs.2 c ?_).trans q) (λ_ q=>q) λ_ _ q=>q
  rintro rfl;rcases hc with rfl | hc
  ·rw[Wd]at e;cases e
  ·rw[Wd]at hc;cases hc
 rcases hx with hk | hk
 ·refine wpAny_storeName_local hk hn (λh' hn' hs=>?_) aki
  obtain⟨oL,_,_,hoL,_⟩:=id hn;refine h _ ⟨I.ok,I.os,I.bare,⟨λb o e n hb hx=>?_,λb o e n hb hx=>?_,I.base.free,λb o e hx=>?_,I.base.zR,I.base.yw,I.base.zS⟩,⟨_,hn',λj y v' e1 e2 e3=>?_⟩,λy c e=>?_,I.free,I.pO,λp hp=>?_,tracked ⟨oL,hoL,I.free⟩ hs,by simpa using I.len⟩ ⟨_,hs,.inl rfl⟩
  ·exact(hs.2 b (adm (ang (me e) I.ok.above))).trans (I.base.keep b o e n hb hx)
  ·obtain⟨sl,e1⟩:=I.base.slot b o e n hb hx;exact⟨sl,(hs.2 b (adm (ang (me e) I.ok.above))).trans e1⟩
  ·obtain⟨o',e1⟩:=I.base.there b o e hx;exact⟨o',(hs.2 b (adm (ang (me e) I.ok.above))).trans e1⟩
  ·by_cases hj:j=i
   ·subst hj;rw[hi]at e1;cases e1;rw[List.getElem?_set_self hiσ]at e2;cases e2;exact⟨u,r,.inl ⟨hk,by simp⟩⟩
   ·rw[List.getElem?_set_ne (anj hj)]at e2;obtain⟨u',r',q⟩:=hl j y v' e1 e2 e3;refine⟨u',r',?_⟩;rcases q with ⟨k,e⟩ | ⟨k,c,e,z⟩
    ·refine .inl ⟨k,?_⟩;have:y≠x:=λe=>hj (HX hN e1 (e▸hi))
     simp[this,e]
    ·exact .inr ⟨k,c,e,z.sameBut hs (cne y c e)⟩
  ·obtain⟨w',z⟩:=I.cell y c e;exact⟨w',z.sameBut hs (cne y c e)⟩
  ·obtain⟨e,n,ne,nf,d⟩:=I.pin p hp;exact⟨(hs.2 p.1 ne).trans e,n,ne,nf,d⟩
 ·have hfn:X.fn x=true:=by
   rcases hf with z | z
   ·exact z
   ·rw[z]at hk;cases hk
  obtain⟨c,hc⟩:=I.ok.has x (.inl hk);obtain⟨w',z⟩:=I.cell x c hc;refine wpAny_storeName_cell I.ok.kind hk hc z (λh' hc' hs=>?_)
  obtain⟨oc,hoc,akj⟩:=id z;refine h { s with heap:=h' } ⟨I.ok,I.os,I.bare,⟨λb o e n hb hx=>?_,λb o e n hb hx=>?_,I.base.free,λb o e hx=>?_,I.base.zR,I.base.yw,I.base.zS⟩,⟨m,hn.sameBut hs (anj (cne x c hc)),λj y v' e1 e2 e3=>?_⟩,λy c' e=>?_,I.free,I.pO,λp hp=>?_,tracked ⟨oc,hoc,I.pO x c hc⟩ hs,by simpa using I.len⟩ ⟨c,hs,.inr hc⟩
  ·exact(hs.2 b (adm (ang (me e) (I.ok.cab x c hfn hc)))).trans (I.base.keep b o e n hb hx)
  ·obtain⟨sl,e1⟩:=I.base.slot b o e n hb hx;exact⟨sl,(hs.2 b (adm (ang (me e) (I.ok.cab x c hfn hc)))).trans e1⟩
  ·obtain⟨o',e1⟩:=I.base.there b o e hx;exact⟨o',(hs.2 b (adm (ang (me e) (I.ok.cab x c hfn hc)))).trans e1⟩
  ·by_cases hj:j=i
   ·subst hj;rw[hi]at e1;cases e1;rw[List.getElem?_set_self hiσ]at e2;cases e2;exact⟨u,r,.inr ⟨.inl hk,c,hc,hc'⟩⟩
   ·rw[List.getElem?_set_ne (anj hj)]at e2;obtain⟨u',r',q⟩:=hl j y v' e1 e2 e3;refine⟨u',r',?_⟩;rcases q with q | ⟨k,c',e,z'⟩
    ·exact .inl q
    ·refine .inr ⟨k,c',e,z'.sameBut hs ?_⟩;rintro rfl;exact hj (HX hN e1 (I.ok.inj _ _ _ e hc▸hi))
  ·by_cases hcc:c'=c
   ·subst hcc;exact⟨_,hc'⟩
   ·obtain⟨w2,z2⟩:=I.cell y c' e;exact⟨w2,z2.sameBut hs hcc⟩
  ·obtain⟨e,n,ne,nf,d⟩:=I.pin p hp;refine⟨(hs.2 p.1 ?_).trans e,n,ne,nf,d⟩;intro q;rw[q,hoc]at e;have q':oc=p.2:=anb e;exact d w' (by rw[<-q'];exact akj)
theorem qP {M:Model}{A:Around}{E:Value->Shared->Prop}{i:Nat}{x:Str}{v:V}{u:Value}{Q:Unit->Shared->Prop}(I:Inv X pins σ H s)(hN:X.N.Nodup)(hi:X.N[i]?=some x)(hx:Loc X.env.scope x)(r:RelV v u)
  (h:∀s',Inv X pins (σ.set i (some v)) H s'->Q () s') (hf:X.fn x=true\/X.env.scope.names.lookup x=some .local:=by first | exact .inl rfl | exact .inr rfl | assumption):wpAny M A (storeName X.env x u) Q E s :=
 OT I hN hi hx r (λs' I' _=>h s' I') hf
theorem Inv.HY {s':Shared}{ch:List Addr}(I:Inv X pins σ H s)(ho:s'.os=s.os)(u:Un (frs X.stack) ch H H' s.heap s'.heap)(hok:HOk X.prog X.w H' s'.heap)(hg:AllBare s'.gens)
  (hch:∀b∈ch,(b∈X.ex\/X.s₀.heap.objs.size<=b)/\b≠X.env.locals/\(∀x c,X.env.cells.lookup x=some c->c≠b)/\∀p∈X.pn++pins,p.1≠b):Inv X pins σ H' s':=by
 obtain⟨h',g',d',t',o'⟩:=s';have e:o'=s.os:=ho;subst e;exact I.call (g':=g') (t':=t') (d':=d') u hok hg hch
end
abbrev XK:=Value->Option Addr->Hp->Prop
abbrev St:=List (Option V)
abbrev VK:=V->Hp->Prop
abbrev TE:=St->Hp->VK->Prop
abbrev TT:=St->Hp->(Bool->Hp->Prop)->Prop
abbrev TA:=St->Hp->(List V->Hp->Prop)->Prop
structure Ends where
 nx:St->Hp->Prop
 rt:VK
 bk:St->Hp->Prop:=λ_ _=>False
 ct:St->Hp->Prop:=λ_ _=>False
abbrev TS:=Ends->St->Hp->Prop
def EP (X:Cx)(pins:List (Addr×Obj))(σ:St)(Q:VK)(u:Value)(s':Shared):Prop:=∃v H',Inv X pins σ H' s'/\RelV v u/\Q v H'
def TP (X:Cx)(pins:List (Addr×Obj))(σ:St)(Q:Bool->Hp->Prop)(b:Bool)(s':Shared):Prop:=∃H',Inv X pins σ H' s'/\Q b H'
def AP (X:Cx)(pins:List (Addr×Obj))(σ:St)(Q:List V->Hp->Prop)(us:List Value)(s':Shared):Prop:=∃vs H',Inv X pins σ H' s'/\Vals vs us/\Q vs H'
def SP (X:Cx)(pins:List (Addr×Obj))(D:Ends)(f:Flow)(s':Shared):Prop :=
 match f with
 | .next=>∃σ' H',Inv X pins σ' H' s'/\D.nx σ' H'
 | .brk=>∃σ' H',Inv X pins σ' H' s'/\D.bk σ' H'
 | .cont=>∃σ' H',Inv X pins σ' H' s'/\D.ct σ' H'
 | .ret u=>∃v σ' H',Inv X pins σ' H' s'/\RelV v u/\D.rt v H'
def PE (X:Cx)(e:Expr)(t:TE):Prop :=
 ∀(pins:List (Addr×Obj)) (s:Shared) (σ:St) (H:Hp) (Q:VK),Inv X pins σ H s->t σ H Q->wpAny (model X.prog X.w) X.A (eval e X.env) (EP X pins σ Q) X.xe s
def PT (X:Cx)(e:Expr)(t:TT):Prop :=
 ∀(pins:List (Addr×Obj)) (s:Shared) (σ:St) (H:Hp) (Q:Bool->Hp->Prop),Inv X pins σ H s->t σ H Q->wpAny (model X.prog X.w) X.A (isTrue e X.env (eval e X.env)) (TP X pins σ Q) X.xe s
def PW (X:Cx)(e:Expr)(t:TT):Prop :=
 ∀(whole:Sem Value) (pins:List (Addr×Obj)) (s:Shared) (σ:St) (H:Hp) (Q:Bool->Hp->Prop),Inv X pins σ H s->t σ H Q->wpAny (model X.prog X.w) X.A (isTrue e X.env whole) (TP X pins σ Q) X.xe s
theorem PW.pt {X:Cx}{e:Expr}{t:TT}(h:PW X e t):PT X e t:=h _
def PA (X:Cx)(es:List Expr)(t:TA):Prop :=
 ∀(pos:Pos) (pins:List (Addr×Obj)) (s:Shared) (σ:St) (H:Hp) (Q:List V->Hp->Prop),Inv X pins σ H s->t σ H Q->wpAny (model X.prog X.w) X.A (spliced (backTo pos (ane es X.env))) (AP X pins σ Q) X.xe s
def PS (X:Cx)(st:Stmt)(t:TS):Prop :=
 ∀(pins:List (Addr×Obj)) (s:Shared) (σ:St) (H:Hp) (D:Ends),Inv X pins σ H s->t D σ H->wpAny (model X.prog X.w) X.A (exec st X.env) (SP X pins D) X.xe s
def PSs (X:Cx)(st:List Stmt)(t:TS):Prop :=
 ∀(pins:List (Addr×Obj)) (s:Shared) (σ:St) (H:Hp) (D:Ends),Inv X pins σ H s->t D σ H->wpAny (model X.prog X.w) X.A (execs st X.env) (SP X pins D) X.xe s
theorem thn {α:Type}{t:Sem α}{Q Q':α->Shared->Prop}{M:Model}{A:Around}{E:Value->Shared->Prop}{s:Shared}(h:wpAny M A t Q E s)(hQ:∀a s,Q a s->Q' a s):wpAny M A t Q' E s:=tu h hQ λ_ _ x=>x
section
variable{X:Cx}
theorem bin {a b:Expr}{ta tb:TE}(ha:PE X a ta)(hb:PE X b tb){pins:List (Addr×Obj)}{s:Shared}{σ:St}{H:Hp}{R:V->V->Hp->Prop}(I:Inv X pins σ H s)(h:ta σ H λx H1=>tb σ H1 λy H2=>R x y H2)
  {α:Type} {Q:α->Shared->Prop} {f:Value->Value->Sem α}
  (hf:∀v u s2 x y H2,Inv X pins σ H2 s2->RelV x v->RelV y u->R x y H2->wpAny (model X.prog X.w) X.A (f v u) Q X.xe s2) :
  wpAny (model X.prog X.w) X.A (eval a X.env) (λv s₁=>wpAny (model X.prog X.w) X.A (eval b X.env) (λu s₂=>wpAny (model X.prog X.w) X.A (f v u) Q X.xe s₂) X.xe s₁) X.xe s:=by
 refine thn (ha pins s σ H _ I h) λv s1 ⟨x,H1,I1,r1,q1⟩=>?_
 refine thn (hb pins s1 σ H1 _ I1 q1) λu s2 ⟨y,H2,I2,r2,q2⟩=>?_
 exact hf v u s2 x y H2 I2 r1 r2 q2
def acr (i:Nat):TE:=λσ H Q=>∃v,σ[i]?=some (some v)/\Q v H
def tC (v:V):TE:=λ_ H Q=>Q v H
theorem XS {i:Nat}{x:Str}{pos:Pos}(hN:X.N[i]?=some x)(hv:Vis X.env.scope x)(hd:(x == ("__debug__":Str))=false:=by decide)(hcd:(x == ("__classdict__":Str))=false:=by decide):PE X (.Name x pos) (acr i):=by
 intro pins s σ H Q I h;obtain⟨v,e,h⟩:=h;obtain⟨m,hn,hl⟩:=I.loc;obtain⟨u,r,l⟩:=hl i x v hN e hv;have fin:EP X pins σ Q u s:=⟨v,H,I,r,h⟩;rcases l with ⟨hk,hm⟩ | ⟨hk,c,hc,mP⟩
 ·exact wpAny_Name (wpAny_loadName_local I.ok.kind hk hn hm fin) hd
 ·rcases hk with hk | hk
  ·exact wpAny_Name (wpAny_loadName_cell I.ok.kind hk hc mP fin) hd
  ·exact wpAny_Name (wpAny_loadName_free I.ok.kind hk hc mP fin hcd) hd
theorem ai {i j pos}:PE X (.Constant (.int i) j pos) (tC (.int i)):=λ_ _ _ H _ I h=>wpAny_Constant_int ⟨.int i,H,I.tok _,⟨_,rfl⟩,h⟩
theorem iM {b j pos}:PE X (.Constant (.bool b) j pos) (tC (.bl b)):=λ_ _ _ H _ I h=>Constant_bool ⟨.bl b,H,I,rfl,h⟩
theorem aq {x j pos}:PE X (.Constant (.str x) j pos) (tC (.str x)):=λ_ _ _ H _ I h=>Calls.Constant_str ⟨.str x,H,I.tok _,⟨_,rfl⟩,h⟩
def Gl (X:Cx)(x:Str):Prop:=X.env.kindOf x=some .globalImplicit
theorem lK {E:Value->Shared->Prop}{pins:List (Addr×Obj)}{s:Shared}{σ:St}{H:Hp}{x:Str}{u:Value}{pos:Pos}{Q:Value->Shared->Prop}(I:Inv X pins σ H s)(hg:Gl X x)(hm:X.mg x=some u)(h:Q u s)
  (hd:(x == ("__debug__":Str))=false:=by decide):wpAny (model X.prog X.w) X.A (eval (.Name x pos) X.env) Q E s :=
 Calls.Name_function_global I.ok.kind hg (Calls.loadGlobal_global (by rw[I.ok.glob];exact I.mod.glob.keeps I.bk) hm h) hd
theorem C5 {E:Value->Shared->Prop}{pins:List (Addr×Obj)}{s:Shared}{σ:St}{H:Hp}{x:Str}{u:Value}{pos:Pos}{Q:Value->Shared->Prop}(I:Inv X pins σ H s)(hg:Gl X x)(hm:X.mg x=none)(hv:anS x=some u)(h:Q u s)
  (hn:x≠"__name__":=by decide) (hd:(x == ("__debug__":Str))=false:=by decide):wpAny (model X.prog X.w) X.A (eval (.Name x pos) X.env) Q E s:=by
 obtain⟨mb,h1,h2⟩:=I.mod.blt;exact Calls.Name_function_global I.ok.kind hg (Calls.loadGlobal_builtin (by rw[I.ok.glob];exact I.mod.glob.keeps I.bk) hm (by rw[I.ok.blt];exact h1.keeps I.bk) ((h2 x hn).trans hv) h) hd
theorem lL {x:Str}{v:V}{u:Value}{pos:Pos}(hg:Gl X x)(hm:X.mg x=some u)(r:RelV v u)(hd:(x == ("__debug__":Str))=false:=by decide):PE X (.Name x pos) (tC v) :=
 λ_ _ _ H _ I h=>lK I hg hm ⟨v,H,I,r,h⟩ hd
theorem N0 {x:Str}{v:V}{u:Value}{pos:Pos}(hg:Gl X x)(hm:X.mg x=none)(hv:anS x=some u)(r:RelV v u)(hn:x≠"__name__":=by decide)(hd:(x == ("__debug__":Str))=false:=by decide):PE X (.Name x pos) (tC v) :=
 λ_ _ _ H _ I h=>C5 I hg hm hv ⟨v,H,I,r,h⟩ hn hd
variable{a b:Expr}{ta tb:TE}{pos:Pos}
def PC (X:Cx)(op:CmpOp)(a b:Expr)(t:TE):Prop :=
 ∀(pins:List (Addr×Obj)) (s:Shared) (σ:St) (H:Hp) (Q:VK),Inv X pins σ H s->t σ H Q ->
  wpAny (model X.prog X.w) X.A (eval a X.env) (λv s₁=>wpAny (model X.prog X.w) X.A (eval b X.env) (λu s₂=>wpAny (model X.prog X.w) X.A (aoc op v u) (EP X pins σ Q) X.xe s₂) X.xe s₁) X.xe s
theorem Qz (b:Expr){op:CmpOp}(h:op≠.In)(h2:op≠.NotIn):behindInMarks op b=false:=by
 have e1:(op == CmpOp.In)=false:=by cases op <;> first | rfl | exact absurd rfl h
 have e2:(op == CmpOp.NotIn)=false:=by cases op <;> first | rfl | exact absurd rfl h2
 cases b <;> simp[behindInMarks,e1,e2]
def tB (t:TE):TT:=λσ H Q=>t σ H λx H1=>∃c,x=.bl c/\Q c H1
theorem Lx {op:CmpOp}{t:TE}(h:PC X op a b t)(h1:behindInMarks op b=false:=by first | exact Qz _ (by decide) (by decide) | rfl):PT X (.Compare a [op] [b] pos) (tB t):=by
 intro pins s σ H Q I hw;refine wpAny_isTrue_Compare1 (thn (h pins s σ H _ I hw) λv s1 h1=>thn h1 λu s2 h2=>thn h2 λc s3 ⟨x,H1,I1,r1,q1⟩=>?_) h1
 obtain⟨d,rfl,q⟩:=q1;cases r1;exact wpAny_truthy_bool ⟨H1,I1,q⟩
theorem iP {e:Expr}{t:TE}(h:PE X e t)(he:∀whole,isTrue e X.env whole=(do let v <-whole;standAt e.pos;holding [v] (truthy v)):=by intro _;rfl):PT X e (tB t):=by
 intro pins s σ H Q I hw;refine isTrue_plain (thn (h pins s σ H _ I hw) λv s1 ⟨x,H1,I1,r1,q1⟩=>?_) (he _)
 obtain⟨d,rfl,q⟩:=q1;cases r1;exact wpAny_truthy_bool ⟨H1,I1,q⟩
variable{tA tB':TT}{rest:List Expr}
def akk (t u:TT):TT:=λσ H Q=>t σ H λc H1=>if c=true then u σ H1 Q else Q false H1
def tOr (t u:TT):TT:=λσ H Q=>t σ H λc H1=>if c=true then Q true H1 else u σ H1 Q
def akl (t:TT):TT:=λσ H Q=>t σ H λc H1=>Q (!c) H1
theorem pw_and1 (ha:PT X a tA):PW X (.BoolOp .And [a] pos) tA:=by
 intro wh pins s σ H Q I h;refine isTrue_and (thn (ha pins s σ H Q I h) λc s1 e=>?_)
 cases c with
 |true=>exact isTrue_and_nil e
 |false=>exact e
theorem pw_or1 (ha:PT X a tA):PW X (.BoolOp .Or [a] pos) tA:=by
 intro wh pins s σ H Q I h;refine isTrue_or (thn (ha pins s σ H Q I h) λc s1 e=>?_)
 cases c with
 |false=>exact isTrue_or_nil e
 |true=>exact e
theorem pw_and (ha:PT X a tA)(hb:PW X (.BoolOp .And (b::rest) pos) tB'):PW X (.BoolOp .And (a::b::rest) pos) (akk tA tB'):=by
 intro wh pins s σ H Q I h;refine isTrue_and (thn (ha pins s σ H _ I h) λc s1 ⟨H1,I1,q1⟩=>?_)
 cases c with
 |true=>exact hb wh pins s1 σ H1 Q I1 q1
 |false=>exact⟨H1,I1,q1⟩
theorem pw_or (ha:PT X a tA)(hb:PW X (.BoolOp .Or (b::rest) pos) tB'):PW X (.BoolOp .Or (a::b::rest) pos) (tOr tA tB'):=by
 intro wh pins s σ H Q I h;refine isTrue_or (thn (ha pins s σ H _ I h) λc s1 ⟨H1,I1,q1⟩=>?_)
 cases c with
 |true=>exact⟨H1,I1,q1⟩
 |false=>exact hb wh pins s1 σ H1 Q I1 q1
theorem jf (ha:PT X a tA):PT X (.UnaryOp .Not a pos) (akl tA):=by
 intro pins s σ H Q I h;exact isTrue_not (ha pins s σ H (λc H1=>Q (!c) H1) I h)
def acs (ta tb:TE):TE:=λσ H Q=>ta σ H λx H1=>∃c,x=.bl c/\if c=true then tb σ H1 Q else Q (.bl false) H1
def akm (ta tb:TE):TE:=λσ H Q=>ta σ H λx H1=>∃c,x=.bl c/\if c=true then Q (.bl true) H1 else tb σ H1 Q
theorem nK {op}{t:TE}(h:PE X a t):PE X (.BoolOp op [a] pos) t:=λpins s σ H Q I hw=>BoolOp_one (h pins s σ H Q I hw)
theorem sE (ha:PE X a ta)(hb:PE X (.BoolOp .And (b::rest) pos) tb):PE X (.BoolOp .And (a::b::rest) pos) (acs ta tb):=by
 intro pins s σ H Q I h;refine BoolOp_and (thn (ha pins s σ H _ I h) λv s1 ⟨x,H1,I1,r1,q1⟩=>?_)
 obtain⟨c,rfl,q1⟩:=q1;cases r1;refine wpAny_truthy_bool ?_;cases c with
 |true=>exact hb pins s1 σ H1 Q I1 q1
 |false=>exact⟨.bl false,H1,I1,rfl,q1⟩
theorem QA (ha:PE X a ta)(hb:PE X (.BoolOp .Or (b::rest) pos) tb):PE X (.BoolOp .Or (a::b::rest) pos) (akm ta tb):=by
 intro pins s σ H Q I h;refine BoolOp_or (thn (ha pins s σ H _ I h) λv s1 ⟨x,H1,I1,r1,q1⟩=>?_)
 obtain⟨c,rfl,q1⟩:=q1;cases r1;refine wpAny_truthy_bool ?_;cases c with
 |false=>exact hb pins s1 σ H1 Q I1 q1
 |true=>exact⟨.bl true,H1,I1,rfl,q1⟩
def tIf (t:TT)(ta tb:TE):TE:=λσ H Q=>t σ H λc H1=>if c=true then ta σ H1 Q else tb σ H1 Q
theorem HZ {c:Expr}(hc:PT X c tA)(ha:PE X a ta)(hb:PE X b tb):PE X (.IfExp c a b pos) (tIf tA ta tb):=by
 intro pins s σ H Q I h;refine wpAny_IfExp (thn (hc pins s σ H _ I h) λd s1 ⟨H1,I1,q1⟩=>?_)
 cases d with
 |true=>exact ha pins s1 σ H1 Q I1 q1
 |false=>exact hb pins s1 σ H1 Q I1 q1
end
def SqL (K:ba)(H:Hp)(a:Addr)(xs:List V):Prop :=
 Rd H a (.lst xs) \/
  ∃(o:Obj) (its:Array Value) (n:Nat),K.lookup a=some o/\o.cls=.type "list"/\o.dict=none/\o.data=.seq its n/\its.size<=gr/\Vals xs its.toList
def SqT (K:ba)(H:Hp)(a:Addr)(xs:List V):Prop :=
 Rd H a (.tup xs) \/
  ∃(o:Obj) (its:Array Value) (n:Nat),K.lookup a=some o/\o.cls=.type "tuple"/\o.data=.seq its n/\its.size<=gr/\Vals xs its.toList
def akn:Value->Option V
 | .none=>some .non
 | .bool b=>some (.bl b)
 | .int i _=>some (.int i)
 | .str x _=>some (.str x)
 | .bytes b _=>some (.byt b)
 | .float b _=>some (.flt b)
 | .ref a=>some (.ref a)
 | .type n=>some (.ty n)
 |_=>none
theorem RelV.abs {x:V}{u:Value}(r:RelV x u):akn u=some x:=by
 cases x with
 |non=>cases r;rfl
 |bl _=>cases r;rfl
 |int _=>obtain⟨t,rfl⟩:=r;rfl
 |str _=>obtain⟨t,rfl⟩:=r;rfl
 |byt _=>obtain⟨t,rfl⟩:=r;rfl
 |flt _=>obtain⟨t,rfl⟩:=r;rfl
 |ref _=>cases r;rfl
 |ty _=>cases r;rfl
theorem RelV.inj {x y:V}{u:Value}(r:RelV x u)(q:RelV y u):x=y:=anb (r.abs.symm.trans q.abs)
theorem Vals.inj:∀ {xs ys:List V} {us:List Value},Vals xs us->Vals ys us->xs=ys
 |_,_,_,.nil,.nil=>rfl
 |_,_,_,.cons r t,.cons r' t'=>by rw[r.inj r',Vals.inj t t']
section
variable{X:Cx}{pins:List (Addr×Obj)}{σ:St}{H:Hp}{s:Shared}{a:Addr}{xs ys:List V}
theorem SqL.of {K:ba}(h:H a=some (.lst xs)):SqL K H a xs:=.inl (.inl h)
theorem SqT.of {K:ba}(h:H a=some (.tup xs)):SqT K H a xs:=.inl (.inl h)
theorem Inv.list (I:Inv X pins σ H s)(h:SqL X.K H a xs):∃its:List Value,Vals xs its/\PlainL s.heap a its.toArray/\xs.length<=gr:=by
 rcases h with h | ⟨o,its,n,hk,hc,hd,hs,hz,r⟩
 ·obtain⟨z,its,n,r,e⟩:=h.ok I.hok;exact⟨its,r,⟨_,n,e,rfl,rfl,rfl⟩,z⟩
 ·refine⟨its.toList,r,⟨o,n,I.kIn a o hk,hc,hd,by simpa using hs⟩,?_⟩
  have e:=r.length;simp only[Array.length_toList]at e;omega
theorem Inv.tuple (I:Inv X pins σ H s)(h:SqT X.K H a xs):∃its:List Value,Vals xs its/\IsTup s.heap a its.toArray/\xs.length<=gr:=by
 rcases h with h | ⟨o,its,n,hk,hc,hs,hz,r⟩
 ·obtain⟨z,its,r,p⟩:=h.ok I.hok;exact⟨its,r,p,z⟩
 ·refine⟨its.toList,r,⟨o,I.kIn a o hk,hc,n,by simpa using hs⟩,?_⟩
  have e:=r.length;simp only[Array.length_toList]at e;omega
theorem Inv.Ia (I:Inv X pins σ H s)(h:SqL X.K H a xs)(h':SqL X.K H a ys):xs=ys:=by
 obtain⟨its,r,⟨o,n,e,_,_,d⟩,_⟩:=I.list h;obtain⟨its',r',⟨o',n',e',_,_,d'⟩,_⟩:=I.list h';rw[e]at e';cases e';rw[d]at d';injection d' with d1 _
 have:its=its':=by simpa using congrArg Array.toList d1
 subst this;exact r.inj r'
theorem Inv.OU (I:Inv X pins σ H s)(h:SqT X.K H a xs)(h':SqT X.K H a ys):xs=ys:=by
 obtain⟨its,r,⟨o,e,_,n,d⟩,_⟩:=I.tuple h;obtain⟨its',r',⟨o',e',_,n',d'⟩,_⟩:=I.tuple h';rw[e]at e';cases e';rw[d]at d';injection d' with d1 _
 have:its=its':=by simpa using congrArg Array.toList d1
 subst this;exact r.inj r'
end
abbrev Cx.nM (X:Cx)(E:Value->Shared->Prop):Cx:={ X with xe:=E }
abbrev Cx.nox (X:Cx):Cx:=X.nM λ_ _=>False
theorem Cx.Ok.nM {X:Cx}(ok:X.Ok)(E:Value->Shared->Prop):(X.nM E).Ok :=
 ⟨ok.mod,ok.kind,ok.glob,ok.blt,ok.above,ok.inj,ok.has,ok.cab,ok.hd,ok.frames,ok.stk,ok.exf,ok.bs,ok.bsz,ok.Gs,ok.EK,ok.wW,ok.frf⟩
theorem Cx.Ok.eG {X:Cx}{E:Value->Shared->Prop}(ok:(X.nM E).Ok):X.Ok :=
 ⟨ok.mod,ok.kind,ok.glob,ok.blt,ok.above,ok.inj,ok.has,ok.cab,ok.hd,ok.frames,ok.stk,ok.exf,ok.bs,ok.bsz,ok.Gs,ok.EK,ok.wW,ok.frf⟩
section
variable{X:Cx}{pins:List (Addr×Obj)}{σ:St}{H:Hp}{s:Shared}{E:Value->Shared->Prop}
theorem Inv.nM (I:Inv X pins σ H s)(E:Value->Shared->Prop):Inv (X.nM E) pins σ H s:=⟨I.ok.nM E,I.os,I.bare,I.base,I.loc,I.cell,I.free,I.pO,I.pin,I.hok,I.len⟩
theorem Inv.eG (I:Inv (X.nM E) pins σ H s):Inv X pins σ H s:=⟨I.ok.eG,I.os,I.bare,I.base,I.loc,I.cell,I.free,I.pO,I.pin,I.hok,I.len⟩
theorem SP.eG {D:Ends}{f:Flow}{s':Shared}(h:SP (X.nM E) pins D f s'):SP X pins D f s':=by
 cases f with
 |next=>obtain⟨σ',H',I,q⟩:=h;exact⟨σ',H',I.eG,q⟩
 |brk=>obtain⟨σ',H',I,q⟩:=h;exact⟨σ',H',I.eG,q⟩
 |cont=>obtain⟨σ',H',I,q⟩:=h;exact⟨σ',H',I.eG,q⟩
 |ret u=>obtain⟨v,σ',H',I,r,q⟩:=h;exact⟨v,σ',H',I.eG,r,q⟩
theorem PE.nox {e:Expr}{t:TE}(h:PE X.nox e t):PE X e t:=λpins s σ H Q I hw =>
 tu (h pins s σ H Q (I.nM _) hw) (λ_ _ ⟨v,H',I',r,q⟩=>⟨v,H',I'.eG,r,q⟩) λ_ _ z=>ans z
theorem PT.nox {e:Expr}{t:TT}(h:PT X.nox e t):PT X e t:=λpins s σ H Q I hw =>
 tu (h pins s σ H Q (I.nM _) hw) (λ_ _ ⟨H',I',q⟩=>⟨H',I'.eG,q⟩) λ_ _ z=>ans z
theorem PSs.nox {st:List Stmt}{t:TS}(h:PSs X.nox st t):PSs X st t:=λpins s σ H D I hw =>
 tu (h pins s σ H D (I.nM _) hw) (λ_ _ q=>q.eG) λ_ _ z=>ans z
end
section
variable{X:Cx}{st:Stmt}{rest:List Stmt}{t u:TS}{e:Expr}{te:TE}{pos:Pos}
def yy:TS:=λD σ H=>D.nx σ H
def acu (t u:TS):TS:=λD σ H=>t { D with nx:=u D } σ H
theorem aI:PSs X [] yy:=λ_ _ σ H _ I h=>wpAny_execs_nil ⟨σ,H,I,h⟩
theorem ak (h1:PS X st t)(h2:PSs X rest u):PSs X (st::rest) (acu t u):=by
 intro pins s σ H D I h;refine wpAny_execs_cons (thn (h1 pins s σ H { D with nx:=u D } I h) λf s1 q=>?_)
 cases f with
 |next =>
  obtain⟨σ',H',I',q⟩:=q;exact h2 pins s1 σ' H' D I' q
 |ret v=>exact q
 |brk=>exact q
 |cont=>exact q
theorem aj (h1:PS X st t):PSs X [st] t:=by
 intro pins s σ H D I h;refine wpAny_execs_cons (thn (h1 pins s σ H D I h) λf s1 q=>?_)
 cases f with
 |next=>exact wpAny_execs_nil q
 |ret v=>exact q
 |brk=>exact q
 |cont=>exact q
def acv:TS:=λD σ H=>D.ct σ H
theorem Ib:PS X (.Continue pos) acv:=λ_ _ σ H _ I h=>wpAny_Continue ⟨σ,H,I,h⟩
theorem Inv.quiet {pins:List (Addr×Obj)}{σ:St}{H:Hp}{s:Shared}(I:Inv X pins σ H s):interactive X.env=false:=by simp[interactive,I.ok.kind]
def acw (te:TE):TS:=λD σ H=>te σ H λ_ H1=>D.nx σ H1
theorem bR (he:PE X e te)(hs:swapsWith e none pos.line X.env=pure false:=by rfl):PS X (.Expr e pos) (acw te):=by
 intro pins s σ H D I h;exact wpAny_Expr_any (thn (he pins s σ H _ I h) λv s1 ⟨x,H1,I1,r1,q1⟩=>⟨σ,H1,I1,q1⟩) I.quiet hs
def ako (te:TE):TS:=λD σ H=>te σ H D.rt
theorem aG (he:PE X e te):PS X (.Return (some e) pos) (ako te):=by
 intro pins s σ H D I h;exact wpAny_Return_some (thn (he pins s σ H _ I h) λv s1 ⟨x,H1,I1,r1,q1⟩=>⟨x,σ,H1,I1,r1,q1⟩)
def akp (c:TT)(t u:TS):TS:=λD σ H=>c σ H λb H1=>if b=true then t D σ H1 else u D σ H1
theorem bJ {c:Expr}{a b:List Stmt}{tc:TT}(hc:PT X c tc)(ha:PSs X a t)(hb:PSs X b u):PS X (.If c a b pos) (akp tc t u):=by
 intro pins s σ H D I h;refine wpAny_If (thn (hc pins s σ H _ I h) λd s1 ⟨H1,I1,q1⟩=>?_)
 cases d with
 |true=>exact ha pins s1 σ H1 D I1 q1
 |false=>exact hb pins s1 σ H1 D I1 q1
end
abbrev TG:=V->St->Hp->(St->Hp->Prop)->Prop
abbrev TGs:=List V->St->Hp->(St->Hp->Prop)->Prop
def PG (X:Cx)(target:Expr)(t:TG):Prop :=
 ∀(pins:List (Addr×Obj)) (s:Shared) (σ:St) (H:Hp) (v:V) (u:Value) (Q:St->Hp->Prop),Inv X pins σ H s->RelV v u->t v σ H Q ->
  wpAny (model X.prog X.w) X.A (assign target X.env u) (λ_ s'=>∃σ' H',Inv X pins σ' H' s'/\Q σ' H') X.xe s
def PGs (X:Cx)(ts:List Expr)(t:TGs):Prop :=
 ∀(pins:List (Addr×Obj)) (s:Shared) (σ:St) (H:Hp) (vs:List V) (us:List Value) (Q:St->Hp->Prop),Inv X pins σ H s->Vals vs us->t vs σ H Q ->
  wpAny (model X.prog X.w) X.A (assignInOrder ((assignEach ts X.env).map (·.2)) us) (λ_ s'=>∃σ' H',Inv X pins σ' H' s'/\Q σ' H') X.xe s
abbrev XT:=V->V->V->Hp->(Hp->Prop)->Prop
def acx (X:Cx)(t:XT):Prop :=
 ∀(pins:List (Addr×Obj)) (s:Shared) (σ:St) (H:Hp) (o i v:V) (ov iv u:Value) (Q:Hp->Prop),Inv X pins σ H s->RelV o ov->RelV i iv->RelV v u->t o i v H Q ->
  wpAny (model X.prog X.w) X.A (setItem ov iv u) (λ_ s'=>∃H',Inv X pins σ H' s'/\Q H') X.xe s
section
variable{X:Cx}{pos:Pos}
def jr (i:Nat):TG:=λv σ H Q=>Q (σ.set i (some v)) H
theorem pP {i:Nat}{x:Str}(hN:X.N.Nodup)(hi:X.N[i]?=some x)(hx:Loc X.env.scope x)(hf:X.fn x=true\/X.env.scope.names.lookup x=some .local:=by first | exact .inl rfl | exact .inr rfl | assumption):PG X (.Name x pos) (jr i):=by
 intro pins s σ H v u Q I r h;exact wpAny_assign_Name (qP I hN hi hx r (λs' I'=>⟨_,H,I',h⟩) hf)
def akq:TGs:=λvs σ H Q=>vs=[]/\Q σ H
def acy (t:TG)(u:TGs):TGs:=λvs σ H Q=>∃v r,vs=v::r/\t v σ H λσ' H'=>u r σ' H' Q
theorem Ua:PGs X [] akq:=by
 intro pins s σ H vs us Q I r h;obtain⟨e,h⟩:=h;subst e;cases r;exact assignInOrder_nil ⟨σ,H,I,h⟩
theorem Ic {e:Expr}{es:List Expr}{t:TG}{u:TGs}(h1:PG X e t)(h2:PGs X es u)
  (hs:(assignEach (e::es) X.env).map (·.2)=assign e X.env::(assignEach es X.env).map (·.2):=by rfl):PGs X (e::es) (acy t u):=by
 intro pins s σ H vs us Q I r h;obtain⟨v,vr,e1,h⟩:=h;subst e1;cases r with
 |cons r rr =>
  rw[hs];refine assignInOrder_cons (thn (h1 pins s σ H _ _ _ I r h) λ_ s1 ⟨σ1,H1,I1,q1⟩=>?_)
  exact h2 pins s1 σ1 H1 _ _ Q I1 rr q1
def akr (K:ba)(n:Nat)(t:TGs):TG:=λv σ H Q=>∃a xs,v=.ref a/\SqT K H a xs/\xs.length=n/\t xs σ H Q
theorem XU {es:List Expr}{k:Nat}{t:TGs}{n:Nat}(hc:X.calm=true)(h:PGs X es t)
  (hn:(assignEach es X.env).length=n:=by rfl) (hst:(assignEach es X.env).findIdx? (·.1)=none:=by rfl):PG X (.Tuple es k pos) (akr X.K n t):=by
 intro pins s σ H v u Q I r hw;obtain⟨a,xs,e1,hq,hl,hw⟩:=hw;subst e1;cases r;obtain⟨its,rv,ht,hz⟩:=I.tuple hq;refine assign_Tuple_tuple (I.ok.hd hc) ht (by simp[hn,<-hl,rv.length]) hst λh' hx=>?_
 have I1:Inv X pins σ H { s with heap:=h' }:=I.kept (t':=s.toks) λb o e=>hx b o (adm (me e)) e
 exact h pins _ σ H xs _ Q I1 (by simpa using rv) hw
def aks (to ti:TE)(t:XT):TG:=λv σ H Q=>to σ H λo H1=>ti σ H1 λi H2=>t o i v H2 λH3=>Q σ H3
theorem XW {o i:Expr}{to ti:TE}{t:XT}(ho:PE X o to)(hi:PE X i ti)(hs:acx X t)
  (ha:∀v,assign (.Subscript o i pos) X.env v=(do
   let ov <-holding [v] (eval o X.env)
   let iv <-holding [v,ov] (eval i X.env)
   standAt pos
   holding [v,ov,iv] (setItem ov iv v)
   release [v,ov,iv] []):=by intro _;rfl):PG X (.Subscript o i pos) (aks to ti t):=by
 intro pins s σ H v u Q I r h;rw[ha];refine gc (an4 (thn (ho pins s σ H _ I h) λov s1 ⟨x,H1,I1,r1,q1⟩=>?_))
 refine gc (an4 (thn (hi pins s1 σ H1 _ I1 q1) λiv s2 ⟨y,H2,I2,r2,q2⟩=>?_))
 refine gc (anW (gc (an4 (thn (hs pins s2 σ H2 x y v ov iv u _ I2 r1 r2 r q2) λ_ s3 ⟨H3,I3,q3⟩=>?_))))
 exact wpAny_release ⟨σ,H3,I3,q3⟩
def XX (te:TE)(g:TG):TS:=λD σ H=>te σ H λx H1=>g x σ H1 D.nx
theorem XY {tg e:Expr}{te:TE}{g:TG}(he:PE X e te)(hg:PG X tg g)(hs:swapsWithSole [tg] e pos.line X.env=pure false:=by rfl)(hw:swappedStores [tg] e X.env=pure none:=by rfl)
  (h1:(assignEach [tg] X.env).map (·.2)=[assign tg X.env]:=by rfl):PS X (.Assign [tg] e pos) (XX te g):=by
 intro pins s σ H D I h;refine wpAny_Assign_stores (thn (he pins s σ H _ I h) λv s1 ⟨x,H1,I1,r1,q1⟩=>?_) hs hw
 rw[h1];exact thn (hg pins s1 σ H1 x v _ I1 r1 q1) λ_ s2 q=>q
theorem bh {i:Nat}{x:Str}{e:Expr}{te:TE}{pos':Pos}(hN:X.N.Nodup)(hi:X.N[i]?=some x)(hx:Loc X.env.scope x)(he:PE X e te)(hs:swapsWith e (some (.Name x pos')) pos.line X.env=pure false:=by rfl)(hf:X.fn x=true\/X.env.scope.names.lookup x=some .local:=by first | exact .inl rfl | exact .inr rfl | assumption) :
  PS X (.Assign [.Name x pos'] e pos) (XX te (jr i)):=by
 intro pins s σ H D I h;refine wpAny_Assign_Name (thn (he pins s σ H _ I h) λv s1 ⟨y,H1,I1,r1,q1⟩=>?_) hs
 exact qP I1 hN hi hx r1 (λs2 I2=>⟨_,H1,I2,q1⟩) hf
end
structure It where
 go:Nat->Hp->Prop
 yld:Nat->Hp->V->Hp->Prop
 stop:Nat->Hp->Prop
def gP (X:Cx)(pins:List (Addr×Obj))(H:Hp)(b:Addr):Prop :=
 H b=none/\b≠X.env.locals/\b∉X.fs/\(b∈X.ex\/X.s₀.heap.objs.size<=b)/\(∀x c,X.env.cells.lookup x=some c->c≠b)/\∀p∈X.pn++pins,p.1≠b
theorem Inv.xx {X:Cx}{pins:List (Addr×Obj)}{σ:St}{H H':Hp}{s:Shared}{b:Addr}(I:Inv X pins σ H s)(hb:s.heap.objs.size<=b)(hn:H' b=none):gP X pins H' b:=by
 refine⟨hn,Nat.ne_of_gt (ang I.lt hb),I.akh hb,.inr (si I.sz hb),λx c e z=>?_,λp hp z=>?_⟩
 ·obtain⟨v,q⟩:=I.cell x c e;exact absurd (ang q.lt (by rw[z];exact hb)) (aoR _)
 ·exact absurd (ang (me (I.pin p hp).1) (by rw[z];exact hb)) (aoR _)
structure Turn (P:rf)(w:World)(K:ba)(tg:Expr)(J:It)(fp:List Addr)(it:Addr)(tn:Nat->Heap->Prop):Prop where
 mem:it∈fp
 obj:∀i h,tn i h->∀b∈fp,∃o,h.get? b=some o/\∀v,o.data≠.cell v
 keep:∀i h h',tn i h->(∀b∈fp,∀o,h.get? b=some o->h'.get? b=some o)->tn i h'
 item:∀(X:Cx),X.prog=P->X.w=w->X.K=K->X.calm=true->∀(i:Nat) (pins:List (Addr×Obj)) (s:Shared) (σ:St) (H:Hp) (E:Value->Shared->Prop),Inv X pins σ H s->(∀b∈fp,gP X pins H b)->tn i s.heap->J.go i H ->
  wpAny (model P w) X.A (pyNext (.ref it)) (λr s1=>∃u,r=some u /\
   wpAny (model P w) X.A (letOwnedTupleGo tg (.ref it) u) (λ_ s2=>∃x H',Inv X pins σ H' s2/\RelV x u/\J.yld i H x H'/\tn (i+1) s2.heap/\∀b∈fp,H' b=none) E s1) E s
 done:∀(X:Cx),X.prog=P->X.w=w->X.K=K->X.calm=true->∀(i:Nat) (pins:List (Addr×Obj)) (s:Shared) (σ:St) (H:Hp) (E:Value->Shared->Prop),Inv X pins σ H s->(∀b∈fp,gP X pins H b)->tn i s.heap->J.stop i H ->
  wpAny (model P w) X.A (pyNext (.ref it)) (λr s1=>r=none/\Inv X pins σ H s1) E s
 self:∀(A:Around) (i:Nat) (s:Shared) (Q:Value->Shared->Prop) (E:Value->Shared->Prop),tn i s.heap->Q (.ref it) s->wpAny (model P w) A (pyIter (.ref it)) Q E s
abbrev TI:=St->Hp->(It->Hp->Prop)->Prop
def PIE (X:Cx)(pins:List (Addr×Obj))(σ:St)(tg:Expr)(R:It->Hp->Prop)(itv:Value)(s2:Shared):Prop :=
 ∃(it:Addr) (fp:List Addr) (tn:Nat->Heap->Prop) (J:It) (H':Hp),itv=.ref it/\Inv X pins σ H' s2/\Turn X.prog X.w X.K tg J fp it tn/\tn 0 s2.heap/\(∀b∈fp,gP X pins H' b)/\R J H'
def PI (X:Cx)(tg iter:Expr)(wi:TI):Prop :=
 ∀(pins:List (Addr×Obj)) (s:Shared) (σ:St) (H:Hp) (R:It->Hp->Prop),Inv X pins σ H s->wi σ H R ->
  wpAny (model X.prog X.w) X.A (eval iter X.env) (λv s1=>wpAny (model X.prog X.w) X.A (pyIter v) (PIE X pins σ tg R) X.xe s1) X.xe s
theorem Fn {M:Model}{A:Around}{E:Value->Shared->Prop}{s:Shared}{tg:Expr}{it:Addr}{u:Value}{o:Obj}{n:String}{vs:Array Value}{Q:Unit->Shared->Prop}(ho:s.heap.get? it=some o)(hc:o.cls=.type n)(hd:o.data=.fields vs)
    (hn:["enumerate","zip","dict_itemiterator","dict_reverseitemiterator","odict_iterator","itertools.zip_longest","itertools.pairwise"].contains n=false) (hQ:Q () s):wpAny M A (letOwnedTupleGo tg (.ref it) u) Q E s:=by
  unfold letOwnedTupleGo
  cases tg <;> first
    |exact wt hQ
    | (cases u <;> first
        |exact wt hQ
        | (refine gc (wpAny_load ho ?_)
           rw[hc,hd]
           show wpAny M A (if (["enumerate","zip","dict_itemiterator","dict_reverseitemiterator","odict_iterator","itertools.zip_longest","itertools.pairwise"].contains n && vs[0]? == some (rawInt _))=true then _ else _) Q E s
           rw[if_neg (by intro h;rw[hn,Bool.false_and]at h;cases h)]
           exact wt hQ))
def Itl (K:ba)(a:Addr):It :=
 ⟨λi H=>∃xs x,SqL K H a xs/\xs[i]?=some x,λi H x H'=>H'=H/\∀xs,SqL K H a xs->xs[i]?=some x,λi H=>∃xs,SqL K H a xs/\xs.length<=i⟩
def Itt (K:ba)(a:Addr):It :=
 ⟨λi H=>∃xs x,SqT K H a xs/\xs[i]?=some x,λi H x H'=>H'=H/\∀xs,SqT K H a xs->xs[i]?=some x,λi H=>∃xs,SqT K H a xs/\xs.length<=i⟩
def Itr (lo:Int)(n:Nat):It:=⟨λi _=>i < n,λi H x H'=>H'=H/\x=.int (lo+i),λi _=>n<=i⟩
theorem OV {P:rf}{w:World}{K:ba}{tg:Expr}(a it:Addr):Turn P w K tg (Itl K a) [it] it (λi h=>h.IsListIter it a i) where
 mem:=by simp
 obj:=λi h st b hb=>by
  have e:b=it:=by simpa using hb
  subst e;obtain⟨o,e,c,d⟩:=st;exact⟨o,e,λv z=>by rw[d]at z;cases z⟩
 keep:=λi h h' st k=>st.at λo e=>k it (by simp) o e
 item:=by
  intro X hP hw hK hc i pins s σ H E I hf st hg;subst hP hw hK;obtain⟨xs,x,hq,hx⟩:=hg;obtain⟨its,rv,p,hz⟩:=I.list hq;obtain⟨u,hu,ru⟩:=rv.get hx;obtain⟨f0,f1,f2,f3,f4,f5⟩:=hf it (by simp)
  refine wpAny_pyNext_list_item st p.isList (x:=u) (by simpa using hu) λh' st' sb=>?_
  have I1:Inv X pins σ H { s with heap:=h' }:=I.turned (t':=s.toks) (λb o hb e=>(sb.2 b hb).trans e) f0 f1 f3 f4 f5
  obtain⟨o,e,c,d⟩:=id st';exact⟨u,rfl,Fn (s:={ s with heap:=h' }) e c d (by decide) ⟨x,H,I1,ru,⟨rfl,λys hy=>by rw[I.Ia hy hq];exact hx⟩,st',λb hb=>(hf b hb).1⟩⟩
 done:=by
  intro X hP hw hK hc i pins s σ H E I hf st hg;subst hP hw hK;obtain⟨xs,hq,hx⟩:=hg;obtain⟨its,rv,p,hz⟩:=I.list hq;obtain⟨f0,f1,f2,f3,f4,f5⟩:=hf it (by simp)
  have hl:=rv.length;exact wpAny_pyNext_list_end (I.ok.hd hc) st p.isList (by simp;omega) λh' eb=>⟨rfl,I.turned (t':=s.toks) (λb o hb e=>eb b o hb e) f0 f1 f3 f4 f5⟩
 self:=λ_ _ _ _ _ st h=>wpAny_pyIter_listiter st h
theorem Ly {P:rf}{w:World}{K:ba}{tg:Expr}(a it:Addr):Turn P w K tg (Itt K a) [it] it (λi h=>h.IsTupleIter it a i) where
 mem:=by simp
 obj:=λi h st b hb=>by
  have e:b=it:=by simpa using hb
  subst e;obtain⟨o,e,c,d⟩:=st;exact⟨o,e,λv z=>by rw[d]at z;cases z⟩
 keep:=λi h h' st k=>st.at λo e=>k it (by simp) o e
 item:=by
  intro X hP hw hK hc i pins s σ H E I hf st hg;subst hP hw hK;obtain⟨xs,x,hq,hx⟩:=hg;obtain⟨its,rv,p,hz⟩:=I.tuple hq;obtain⟨u,hu,ru⟩:=rv.get hx;obtain⟨f0,f1,f2,f3,f4,f5⟩:=hf it (by simp)
  refine wpAny_pyNext_tuple_item st (show s.heap.IsTuple a its.toArray from p) (x:=u) (by simpa using hu) λh' st' sb=>?_
  have I1:Inv X pins σ H { s with heap:=h' }:=I.turned (t':=s.toks) (λb o hb e=>(sb.2 b hb).trans e) f0 f1 f3 f4 f5
  obtain⟨o,e,c,d⟩:=id st';exact⟨u,rfl,Fn (s:={ s with heap:=h' }) e c d (by decide) ⟨x,H,I1,ru,⟨rfl,λys hy=>by rw[I.OU hy hq];exact hx⟩,st',λb hb=>(hf b hb).1⟩⟩
 done:=by
  intro X hP hw hK hc i pins s σ H E I hf st hg;subst hP hw hK;obtain⟨xs,hq,hx⟩:=hg;obtain⟨its,rv,p,hz⟩:=I.tuple hq;obtain⟨f0,f1,f2,f3,f4,f5⟩:=hf it (by simp)
  have hl:=rv.length;exact wpAny_pyNext_tuple_end (I.ok.hd hc) st (show s.heap.IsTuple a its.toArray from p) (by simp;omega) λh' eb=>⟨rfl,I.turned (t':=s.toks) (λb o hb e=>eb b o hb e) f0 f1 f3 f4 f5⟩
 self:=λ_ _ _ _ _ st h=>wpAny_pyIter_tupleiter st h
theorem Lz {P:rf}{w:World}{K:ba}{tg:Expr}(it:Addr)(lo:Int)(n:Nat):Turn P w K tg (Itr lo n) [it] it (λi h=>IsRangeIter h it (lo+(i:Nat) * 1) ((n:Int) - (i:Nat)) 1) where
 mem:=by simp
 obj:=λi h st b hb=>by
  have e:b=it:=by simpa using hb
  subst e;exact⟨_,st,λv z=>by
   have z':Data.fields _=Data.cell v:=z;cases z'⟩
 keep:=λi h h' st k=>k it (by simp) _ st
 item:=by
  intro X hP hw hK hc i pins s σ H E I hf st hg;subst hP hw hK;obtain⟨f0,f1,f2,f3,f4,f5⟩:=hf it (by simp)
  have W:=Walks.range (prog:=X.prog) (w:=X.w) (I.ok.hd hc) it lo 1 n;refine W.item i s _ _ hg st λv h' tk hv st' kk=>?_
  obtain⟨t,rfl⟩:=hv;have I1:Inv X pins σ H { s with heap:=h',toks:=tk }:=I.turned (λb o hb e=>kk b o (by simpa using hb) e) f0 f1 f3 f4 f5
  refine⟨_,rfl,Fn (s:={ s with heap:=h',toks:=tk }) (n:="range_iterator") st' rfl rfl (by decide) ⟨.int (lo+i),H,I1,⟨t,?_⟩,⟨rfl,rfl⟩,st',λb hb=>(hf b hb).1⟩⟩
  rw[Int.mul_one]
 done:=by
  intro X hP hw hK hc i pins s σ H E I hf st hg;subst hP hw hK;obtain⟨f0,f1,f2,f3,f4,f5⟩:=hf it (by simp)
  exact wpAny_pyNext_range_end (I.ok.hd hc) st (by have:n<=i:=hg;omega) λh' eb=>⟨rfl,I.turned (t':=s.toks) (λb o hb e=>eb b o hb e) f0 f1 f3 f4 f5⟩
 self:=λ_ _ _ _ _ st h=>wpAny_pyIter_rangeiter st h
section
variable{X:Cx}{tg:Expr}
def acz (K:ba)(tl:TE):TI:=λσ H R=>tl σ H λx H1=>∃a,x=.ref a/\(∃xs,SqL K H1 a xs)/\R (Itl K a) H1
def akt (K:ba)(tl:TE):TI:=λσ H R=>tl σ H λx H1=>∃a,x=.ref a/\(∃xs,SqT K H1 a xs)/\R (Itt K a) H1
theorem jL {l:Expr}{tl:TE}(hl:PE X l tl):PI X tg l (acz X.K tl):=by
 intro pins s σ H R I h;refine thn (hl pins s σ H _ I h) λv s1 ⟨x,H1,I1,r1,q1⟩=>?_
 obtain⟨a,e,⟨xs,hq⟩,q⟩:=q1;subst e;cases r1;obtain⟨its,rv,p,hz⟩:=I1.list hq;refine wpAny_pyIter_list p.isList ?_;refine⟨s1.heap.objs.size,[s1.heap.objs.size],_,_,H1,rfl,I1.kept (t':=s1.toks) λb o e=>gp _ e,OV a _,⟨_,Lk _ rfl,rfl,rfl⟩,λb hb=>?_,q⟩
 have e:b=s1.heap.objs.size:=by simpa using hb
 subst e;exact I1.xx (kj _) (I1.hok.fresh (kj _))
theorem XZ {l:Expr}{tl:TE}(hl:PE X l tl):PI X tg l (akt X.K tl):=by
 intro pins s σ H R I h;refine thn (hl pins s σ H _ I h) λv s1 ⟨x,H1,I1,r1,q1⟩=>?_
 obtain⟨a,e,⟨xs,hq⟩,q⟩:=q1;subst e;cases r1;obtain⟨its,rv,p,hz⟩:=I1.tuple hq;refine wpAny_pyIter_tuple (show s1.heap.IsTuple a its.toArray from p) ?_
 refine⟨s1.heap.objs.size,[s1.heap.objs.size],_,_,H1,rfl,I1.kept (t':=s1.toks) λb o e=>gp _ e,Ly a _,⟨_,Lk _ rfl,rfl,rfl⟩,λb hb=>?_,q⟩
 have e:b=s1.heap.objs.size:=by simpa using hb
 subst e;exact I1.xx (kj _) (I1.hok.fresh (kj _))
theorem QB {pins:List (Addr×Obj)}{σ:St}{H:Hp}{s:Shared}{R:It->Hp->Prop}{E:Value->Shared->Prop}{lo hi:Int}{t u v:Tok}{tk:Nat}(I:Inv X pins σ H s)(h1:-(2 ^ 62)<=lo)(h2:lo < 2 ^ 62)(h3:-(2 ^ 62)<=hi)(h4:hi < 2 ^ 62)
  (q:R (Itr lo (hi - lo).toNat) H):wpAny (model X.prog X.w) X.A (pyIter (.ref s.heap.objs.size)) (PIE X pins σ tg R) E { s with heap:=s.heap.push { cls:=.type "range",data:=.fields #[.int lo t,.int hi u,.int 1 v] },toks:=tk }:=by
 refine wpAny_pyIter_range (IsRange.new ..) (small_one h1 h2 h3 h4) ?_;have I1:Inv X pins σ H { s with heap:=s.heap.push { cls:=.type "range",data:=.fields #[.int lo t,.int hi u,.int 1 v] },toks:=tk }:=I.kept λb o e=>gp _ e
 refine⟨(s.heap.push { cls:=.type "range",data:=.fields #[.int lo t,.int hi u,.int 1 v] }).objs.size,[(s.heap.push { cls:=.type "range",data:=.fields #[.int lo t,.int hi u,.int 1 v] }).objs.size],_,_,H,rfl,
  I1.kept (t':=tk) λb o e=>gp _ e,Lz _ lo (hi - lo).toNat,?_,λb hb=>?_,q⟩
 ·have e1:lo+((0:Nat):Int) * 1=lo:=by simp
  have e2:(((hi - lo).toNat:Nat):Int) - ((0:Nat):Int)=Builtin.Range.rangeSize lo hi 1:=by rw[rangeSize_one];split <;> omega
  show IsRangeIter _ _ (lo+((0:Nat):Int) * 1) ((((hi - lo).toNat:Nat):Int) - ((0:Nat):Int)) 1;rw[e1,e2];exact Lk _ rfl
 ·have e:b=(s.heap.push { cls:=.type "range",data:=.fields #[.int lo t,.int hi u,.int 1 v] }).objs.size:=by simpa using hb
  subst e;exact I1.xx (kj _) (I1.hok.fresh (kj _))
def acA (ta:TA):TI:=λσ H R=>ta σ H λvs H1=>∃j:Int,vs=[.int j]/\-(2 ^ 62)<=j/\j < 2 ^ 62/\R (Itr 0 j.toNat) H1
theorem zT {a:Expr}{ta:TA}{p pos:Pos}(hg:Gl X "range")(hm:X.mg "range"=none)(ha:PA X [a] ta)(hs:ane [a] X.env=[(false,eval a X.env)]:=by rfl):PI X tg (.Call (.Name "range" p) [a] [] pos) (acA ta):=by
 intro pins s σ H R I h;refine Call_ (C5 I hg hm boot_range (PyProof.Rows.callWith_type1 (thn (ha pos pins s σ H _ I h) λus s1 ⟨vs,H1,I1,r1,q1⟩=>?_) hs rfl))
 obtain⟨j,e,q1,q2,q⟩:=q1;subst e;cases r1 with
 |cons r rr =>
  cases rr;obtain⟨t,rfl⟩:=r;exact call_range_1 (QB I1 (by omega) (by omega) q1 q2 (by simpa using q))
def acB (wi:TI)(g:TG)(tb:TS):TS:=λD σ H=>wi σ H λJ H1=>∃W:Nat->Nat->St->Hp->Prop,(∃m,W 0 m σ H1)/\∀i m σ H,W i m σ H ->
 (J.stop i H/\D.nx σ H)\/(J.go i H/\∃N:St->Hp->Prop,(∀σ' H',N σ' H'->∃m',m' < m/\W (i+1) m' σ' H')/\∀x H',J.yld i H x H'->g x σ H' λσ2 H2=>tb { D with nx:=N,ct:=N,bk:=D.nx } σ2 H2)
def C6 (fp:List Addr)(h:Heap):List (Addr×Obj):=fp.filterMap λb=>(h.get? b).map λo=>(b,o)
theorem d0 {fp:List Addr}{h:Heap}{b:Addr}{o:Obj}(hb:b∈fp)(e:h.get? b=some o):(b,o)∈C6 fp h:=List.mem_filterMap.mpr ⟨b,hb,by rw[e];rfl⟩
theorem OW {fp:List Addr}{h:Heap}{p:Addr×Obj}(hp:p∈C6 fp h):p.1∈fp/\h.get? p.1=some p.2:=by
 obtain⟨b,hb,e⟩:=List.mem_filterMap.mp hp;cases q:h.get? b with
 |none=>rw[q]at e;cases e
 |some o =>
  rw[q]at e;have e':(b,o)=p:=anb e;subst e';exact⟨hb,q⟩
theorem Inv.pinned {pins:List (Addr×Obj)}{σ:St}{H:Hp}{s:Shared}{fp:List Addr}(I:Inv X pins σ H s)(hf:∀b∈fp,gP X pins H b)(ho:∀b∈fp,∃o,s.heap.get? b=some o/\∀v,o.data≠.cell v):Inv X (pins++C6 fp s.heap) σ H s :=
 I.yx λp hp=>(List.mem_append.mp hp).elim (λz=>I.pin p (gn _ z)) λz=>by
  obtain⟨hb,e⟩:=OW z;obtain⟨f0,f1,f2,_⟩:=hf p.1 hb;obtain⟨o,e',d⟩:=ho p.1 hb;rw[e]at e';cases e';exact⟨e,f0,f1,f2,d⟩
theorem Inv.d6 {pins pl:List (Addr×Obj)}{σ:St}{H:Hp}{s:Shared}(I:Inv X (pins++pl) σ H s):Inv X pins σ H s:=I.yx λp hp=>I.pin p (gn _ (anx _ hp))
theorem C7 {iter:Expr}{body:List Stmt}{wi:TI}{g:TG}{tb:TS}{pos:Pos}(hp:PassesOwn (model X.prog X.w) X.A X.env X.xe)(hc:X.calm=true)(hi:PI X tg iter wi)(hg:PG X tg g)(hb:PSs X body tb)
  (hs:∀x,foldedSetIterable iter X.env x=pure x:=by intro _;rfl):PS X (.For tg iter body [] pos) (acB wi g tb):=by
 intro pins s σ H D I h;refine wpAny_For (thn (hi pins s σ H _ I h) λv s1 h1=>thn h1 λitv s2 h2=>?_) hs
 obtain⟨it,fp,tn,J,H2,e,I2,T,st2,f2,W,⟨m0,w0⟩,turn⟩:=h2;subst e;have stat:∀ {H':Hp},(∀b∈fp,H' b=none)->∀b∈fp,gP X pins H' b:=λhn b hb=>⟨hn b hb,(f2 b hb).2⟩
 refine codeAny_forLoop_any (λn s'=>∃i σ' H',Inv X pins σ' H' s'/\tn i s'.heap/\(∀b∈fp,H' b=none)/\W i n σ' H') ?_ m0 ⟨0,σ,H2,I2,st2,λb hb=>(f2 b hb).1,w0⟩
 rintro n s3 ⟨i,σ3,H3,I3,st3,fr3,w3⟩;rcases turn i n σ3 H3 w3 with ⟨stop,qn⟩ | ⟨go,N,hN,step⟩
 ·refine wpAny_passesOwn hp (thn (T.done X rfl rfl rfl hc i pins s3 σ3 H3 X.xe I3 (stat fr3) st3 stop) λr s4 ⟨hr,I4⟩=>?_)
  subst hr;exact wpAny_execs_nil ⟨σ3,H3,I4,qn⟩
 ·refine wpAny_passesOwn hp (thn (T.item X rfl rfl rfl hc i pins s3 σ3 H3 X.xe I3 (stat fr3) st3 go) λr s4 ⟨u,hr,h4⟩=>?_)
  subst hr;refine wpAny_passesOwn hp (thn h4 λ_ s5 ⟨x,H5,I5,r5,y5,st5,fr5⟩=>?_)
  have I5':=I5.pinned (stat fr5) (T.obj _ _ st5);refine wpAny_passesOwn hp (thn (hg _ s5 σ3 H5 x u _ I5' r5 (step x H5 y5)) λ_ s6 ⟨σ6,H6,I6,q6⟩=>?_)
  refine wpAny_passesOwn hp (thn (hb _ s6 σ6 H6 _ I6 q6) λf s7 q7=>?_)
  have again:∀ {σ7:St} {H7:Hp},Inv X (pins++C6 fp s5.heap) σ7 H7 s7->N σ7 H7->∃m,m < n/\∃i σ' H',Inv X pins σ' H' s7/\tn i s7.heap/\(∀b∈fp,H' b=none)/\W i m σ' H':=λ{σ7 H7} I7 n7=>by
   obtain⟨m',hm,w7⟩:=hN σ7 H7 n7;refine⟨m',hm,i+1,σ7,H7,I7.d6,T.keep _ _ _ st5 λb hb o e=>(I7.pin (b,o) (gn _ (gn _ (d0 hb e)))).1,λb hb=>?_,w7⟩
   obtain⟨o,e,d⟩:=T.obj _ _ st5 b hb;exact(I7.pin (b,o) (gn _ (gn _ (d0 hb e)))).2.1
  cases f with
  |next=>obtain⟨σ7,H7,I7,n7⟩:=q7;exact again I7 n7
  |cont=>obtain⟨σ7,H7,I7,n7⟩:=q7;exact again I7 n7
  |brk=>obtain⟨σ7,H7,I7,q7⟩:=q7;exact⟨σ7,H7,I7.d6,q7⟩
  |ret v=>obtain⟨x7,σ7,H7,I7,r7,q7⟩:=q7;exact⟨x7,σ7,H7,I7.d6,r7,q7⟩
end
theorem C8 {K:ba}{a:Addr}{xs:List V}{g:TG}{tb:TS}{D:Ends}{σ:St}{H:Hp}(Pv:Nat->St->Hp->Prop)(h0:Pv 0 σ H)(hl:∀i σ H,i<=xs.length->Pv i σ H->SqL K H a xs)
  (hs:∀i x σ H,xs[i]?=some x->Pv i σ H->g x σ H λσ2 H2=>tb { D with nx:=Pv (i+1),ct:=Pv (i+1),bk:=D.nx } σ2 H2) (hd:∀σ H,Pv xs.length σ H->D.nx σ H) :
  ∃W:Nat->Nat->St->Hp->Prop,(∃m,W 0 m σ H)/\∀i m σ H,W i m σ H ->
   ((Itl K a).stop i H/\D.nx σ H)\/((Itl K a).go i H/\∃N:St->Hp->Prop,(∀σ' H',N σ' H'->∃m',m' < m/\W (i+1) m' σ' H')/\∀x H',(Itl K a).yld i H x H'->g x σ H' λσ2 H2=>tb { D with nx:=N,ct:=N,bk:=D.nx } σ2 H2):=by
 refine⟨λi m σ H=>m=xs.length - i/\i<=xs.length/\Pv i σ H,⟨xs.length,by simp,anz _,h0⟩,?_⟩
 rintro i m σ H ⟨rfl,hi,p⟩;have q:=hl i σ H hi p
 by_cases hlt:i < xs.length
 ·refine .inr ⟨⟨xs,xs[i],q,by simp[hlt]⟩,Pv (i+1),λσ' H' p'=>⟨xs.length - (i+1),by omega,rfl,hlt,p'⟩,λx H' y=>?_⟩
  obtain⟨e,y⟩:=y;subst e;exact hs i x σ _ (y xs q) p
 ·have e:i=xs.length:=by omega
  subst e;exact .inl ⟨⟨xs,q,kj _⟩,hd σ H p⟩
theorem Fo {lo:Int}{n:Nat}{g:TG}{tb:TS}{D:Ends}{σ:St}{H:Hp}(Pv:Nat->St->Hp->Prop)(h0:Pv 0 σ H)
  (hs:∀i σ H,i < n->Pv i σ H->g (.int (lo+i)) σ H λσ2 H2=>tb { D with nx:=Pv (i+1),ct:=Pv (i+1),bk:=D.nx } σ2 H2) (hd:∀σ H,Pv n σ H->D.nx σ H) :
  ∃W:Nat->Nat->St->Hp->Prop,(∃m,W 0 m σ H)/\∀i m σ H,W i m σ H ->
   ((Itr lo n).stop i H/\D.nx σ H)\/((Itr lo n).go i H/\∃N:St->Hp->Prop,(∀σ' H',N σ' H'->∃m',m' < m/\W (i+1) m' σ' H')/\∀x H',(Itr lo n).yld i H x H'->g x σ H' λσ2 H2=>tb { D with nx:=N,ct:=N,bk:=D.nx } σ2 H2):=by
 refine⟨λi m σ H=>m=n - i/\i<=n/\Pv i σ H,⟨n,by simp,anz _,h0⟩,?_⟩
 rintro i m σ H ⟨rfl,hi,p⟩
 by_cases hlt:i < n
 ·refine .inr ⟨hlt,Pv (i+1),λσ' H' p'=>⟨n - (i+1),by omega,rfl,hlt,p'⟩,λx H' y=>?_⟩
  obtain⟨e,y⟩:=y;subst e y;exact hs i σ _ hlt p
 ·have e:i=n:=by omega
  subst e;exact .inl ⟨kj _,hd σ H p⟩
abbrev R2:=V->V->Hp->VK->Prop
def OpR (X:Cx)(f:Value->Value->Sem Value)(r:R2):Prop :=
 ∀(pins:List (Addr×Obj)) (s:Shared) (σ:St) (H:Hp) (x y:V) (v u:Value) (Q:VK),Inv X pins σ H s->RelV x v->RelV y u->r x y H Q ->
  wpAny (model X.prog X.w) X.A (f v u) (EP X pins σ Q) X.xe s
def UnR (X:Cx)(f:Value->Sem Value)(r:V->Hp->VK->Prop):Prop :=
 ∀(pins:List (Addr×Obj)) (s:Shared) (σ:St) (H:Hp) (x:V) (v:Value) (Q:VK),Inv X pins σ H s->RelV x v->r x H Q ->
  wpAny (model X.prog X.w) X.A (f v) (EP X pins σ Q) X.xe s
def jM (X:Cx)(f:Value)(r:List V->Hp->VK->Prop):Prop :=
 ∀(pins:List (Addr×Obj)) (s:Shared) (σ:St) (H:Hp) (xs:List V) (us:List Value) (Q:VK),Inv X pins σ H s->Vals xs us->r xs H Q ->
  wpAny (model X.prog X.w) X.A (call f us) (EP X pins σ Q) X.xe s
def aku (X:Cx)(r:V->Hp->(Bool->Hp->Prop)->Prop):Prop :=
 ∀(pins:List (Addr×Obj)) (s:Shared) (σ:St) (H:Hp) (x:V) (v:Value) (Q:Bool->Hp->Prop),Inv X pins σ H s->RelV x v->r x H Q ->
  wpAny (model X.prog X.w) X.A (truthy v) (TP X pins σ Q) X.xe s
def tOp (r:R2)(ta tb:TE):TE:=λσ H Q=>ta σ H λx H1=>tb σ H1 λy H2=>r x y H2 Q
def tUn (r:V->Hp->VK->Prop)(ta:TE):TE:=λσ H Q=>ta σ H λx H1=>r x H1 Q
def rI (C:Int->Int->Prop)(g:Int->Int->V):R2:=λx y H Q=>∃i j,x=.int i/\y=.int j/\C i j/\Q (g i j) H
def rI0 (g:Int->Int->V):R2:=λx y H Q=>∃i j,x=.int i/\y=.int j/\Q (g i j) H
def rU (g:Int->V):V->Hp->VK->Prop:=λx H Q=>∃i,x=.int i/\Q (g i) H
section
variable{X:Cx}{a b c:Expr}{ta tb tc:TE}{pos:Pos}
theorem X0 (ha:PE X a ta)(hb:PE X b tb){pins:List (Addr×Obj)}{s:Shared}{σ:St}{H:Hp}{R:V->V->Hp->Prop}(I:Inv X pins σ H s)
  (h:ta σ H λx H1=>tb σ H1 λy H2=>R x y H2) {Q:Value->Shared->Prop} {f:Value->Value->Sem Value}
  (hf:∀v u s2 x y H2,Inv X pins σ H2 s2->RelV x v->RelV y u->R x y H2->wpAny (model X.prog X.w) X.A (f v u) Q X.xe s2) :
  wpAny (model X.prog X.w) X.A (eval a X.env) (λv s₁=>wpAny (model X.prog X.w) X.A (eval b X.env) (λu s₂=>wpAny (model X.prog X.w) X.A (f v u) Q X.xe s₂) X.xe s₁) X.xe s:=by
 refine thn (ha pins s σ H _ I h) λv s1 ⟨x,H1,I1,r1,q1⟩=>?_
 refine thn (hb pins s1 σ H1 _ I1 q1) λu s2 ⟨y,H2,I2,r2,q2⟩=>?_
 exact hf v u s2 x y H2 I2 r1 r2 q2
theorem bY {op:Operator}{r:R2}(ho:OpR X (binaryOp op) r)(ha:PE X a ta)(hb:PE X b tb):PE X (.BinOp a op b pos) (tOp r ta tb):=by
 intro pins s σ H Q I h;exact wpAny_BinOp (X0 ha hb I h λv u s2 x y H2 I2 rx ry q=>ho pins s2 σ H2 x y v u Q I2 rx ry q)
theorem xg {op:UnaryOp}{r:V->Hp->VK->Prop}(ho:UnR X (unaryOp op) r)(ha:PE X a ta):PE X (.UnaryOp op a pos) (tUn r ta):=by
 intro pins s σ H Q I h;exact UnaryOp_ (thn (ha pins s σ H _ I h) λv s1 ⟨x,H1,I1,r1,q1⟩=>ho pins s1 σ H1 x v Q I1 r1 q1)
theorem opI {f:Value->Value->Sem Value}{C:Int->Int->Prop}{g:Int->Int->Int}
  (rule:∀(i j:Int) (t u:Tok) (s:Shared) (Q:Value->Shared->Prop) (E:Value->Shared->Prop),C i j->Q (.int (g i j) s.toks) { s with toks:=s.toks+1 }->wpAny (model X.prog X.w) X.A (f (.int i t) (.int j u)) Q E s) :
  OpR X f (rI C λi j=>.int (g i j)):=by
 intro pins s σ H x y v u Q I rx ry h;obtain⟨i,j,rfl,rfl,hc,q⟩:=h;obtain⟨t,rfl⟩:=rx;obtain⟨t',rfl⟩:=ry;exact rule i j t t' s _ _ hc ⟨.int (g i j),H,I.tok _,⟨_,rfl⟩,q⟩
theorem acC {f:Value->Value->Sem Value}{g:Int->Int->Int}
  (rule:∀(i j:Int) (t u:Tok) (s:Shared) (Q:Value->Shared->Prop) (E:Value->Shared->Prop),Q (.int (g i j) s.toks) { s with toks:=s.toks+1 }->wpAny (model X.prog X.w) X.A (f (.int i t) (.int j u)) Q E s) :
  OpR X f (rI0 λi j=>.int (g i j)):=by
 intro pins s σ H x y v u Q I rx ry h;obtain⟨i,j,rfl,rfl,q⟩:=h;obtain⟨t,rfl⟩:=rx;obtain⟨t',rfl⟩:=ry;exact rule i j t t' s _ _ ⟨.int (g i j),H,I.tok _,⟨_,rfl⟩,q⟩
theorem Ub {f:Value->Value->Sem Value}{g:Int->Int->Bool}
  (rule:∀(i j:Int) (t u:Tok) (s:Shared) (Q:Value->Shared->Prop) (E:Value->Shared->Prop),Q (.bool (g i j)) s->wpAny (model X.prog X.w) X.A (f (.int i t) (.int j u)) Q E s) :
  OpR X f (rI0 λi j=>.bl (g i j)):=by
 intro pins s σ H x y v u Q I rx ry h;obtain⟨i,j,rfl,rfl,q⟩:=h;obtain⟨t,rfl⟩:=rx;obtain⟨t',rfl⟩:=ry;exact rule i j t t' s _ _ ⟨.bl (g i j),H,I,rfl,q⟩
def akv (i j:Int):Prop:=0 < j/\j < 1073741824
def akw (i j:Int):Prop:=0<=j/\j<=1000000/\i.natAbs < 2 ^ 64
def X9 (i j:Int):Prop:=(-(2 ^ 64) < i/\i < 2 ^ 64)\/(-(2 ^ 64) < j/\j < 2 ^ 64)
theorem X9.ok {i j:Int}(h:X9 i j):IntMulOk i j:=by
 rcases h with ⟨h1,h2⟩ | ⟨h1,h2⟩
 ·exact .of_left (intBits_le_64 h1 h2)
 ·exact .of_right (intBits_le_64 h1 h2)
theorem fJ:OpR X (binaryOp .Add) (rI0 λi j=>.int (i+j)):=acC λ_ _ _ _ _ _ _ q=>add_int q
theorem QC:OpR X (binaryOp .Sub) (rI0 λi j=>.int (i - j)):=acC λ_ _ _ _ _ _ _ q=>sub_int q
theorem LA:OpR X (binaryOp .Mult) (rI X9 λi j=>.int (i * j)):=opI λ_ _ _ _ _ _ _ hc q=>mul_int q hc.ok
theorem yz:OpR X (binaryOp .FloorDiv) (rI akv λi j=>.int (i / j)):=opI λi j _ _ _ _ _ hc q=>by
 have h1:(0:Int) < j:=hc.1;have h2:j < 1073741824:=hc.2;exact floordiv_int (by omega) (by rw[Int.fdiv_eq_ediv_of_nonneg i (by omega)];exact q) (.inl (PyProof.noPylong_small (by omega)))
theorem hG:OpR X (binaryOp .Mod) (rI (λ_ j=>0 < j) λi j=>.int (i % j)):=opI λi j _ _ _ _ _ hc q=>by
 have h1:(0:Int) < j:=hc;exact mod_int' (by omega) (by rw[Int.fmod_eq_emod_of_nonneg i (by omega)];exact q)
theorem Ya:OpR X (binaryOp .Pow) (rI akw λi j=>.int (i ^ j.toNat)):=opI λ_ _ _ _ _ _ _ hc q=>pow_int_small hc.1 hc.2.1 hc.2.2 q
theorem unI {f:Value->Sem Value}{g:Int->Int}
  (rule:∀(i:Int) (t:Tok) (s:Shared) (Q:Value->Shared->Prop) (E:Value->Shared->Prop),Q (.int (g i) s.toks) { s with toks:=s.toks+1 }->wpAny (model X.prog X.w) X.A (f (.int i t)) Q E s) :
  UnR X f (rU λi=>.int (g i)):=by
 intro pins s σ H x v Q I rx h;obtain⟨i,rfl,q⟩:=h;obtain⟨t,rfl⟩:=rx;exact rule i t s _ _ ⟨.int (g i),H,I.tok _,⟨_,rfl⟩,q⟩
theorem qm:UnR X (unaryOp .USub) (rU λi=>.int (-i)):=unI λ_ _ _ _ _ q=>neg_int q
end
def acD:V->V->Bool
 | .non,.non=>true | .non,.int _=>true | .int _,.non=>true | .non,.bl _=>true | .bl _,.non=>true | .non,.str _=>true | .str _,.non=>true
 | .int _,.int _=>true | .bl _,.bl _=>true | .str _,.str _=>true | .byt _,.byt _=>true
 | .int _,.str _=>true | .str _,.int _=>true | .bl _,.str _=>true | .str _,.bl _=>true
 |_,_=>false
def rEq:R2:=λx y H Q=>acD x y=true/\Q (.bl (decide (x=y))) H
def rNe:R2:=λx y H Q=>acD x y=true/\Q (.bl (!decide (x=y))) H
theorem N1 {i j:Int}:decide (V.int i=V.int j)=(i == j):=by
 rw[anU];simp
theorem QD {i j:Bool}:decide (V.bl i=V.bl j)=(i == j):=by
 rw[anU];simp
theorem N2 {i j:Str}:decide (V.str i=V.str j)=(i == j):=by
 rw[anU];simp
theorem N3 {i j:Array UInt8}:decide (V.byt i=V.byt j)=(i.toList == j.toList):=by
 rw[anU];cases i;cases j;simp
section
variable{X:Cx}{a b c:Expr}{ta tb tc:TE}{pos:Pos}
theorem cA {pins:List (Addr×Obj)}{σ:St}{H:Hp}{s:Shared}{Q:VK}{k k':Bool}(I:Inv X pins σ H s)(q:Q (.bl k) H)(e:k=k'):EP X pins σ Q (.bool k') s:=by
 subst e;exact⟨.bl k,H,I,rfl,q⟩
theorem bF:OpR X (aoc .Eq) rEq:=by
 intro pins s σ H x y v u Q I rx ry h;obtain⟨hs,q⟩:=h;cases x with
 |non =>
  cases rx;cases y with
  |non=>cases ry;exact PySem.EqNone.eq_none_none (cA I q (by simp))
  |bl j=>cases ry;exact PySem.EqNone.eq_none_bool (cA I q (by simp))
  |int j=>obtain⟨t',rfl⟩:=ry;exact PySem.EqNone.eq_none_int (cA I q (by simp))
  |str j=>obtain⟨t',rfl⟩:=ry;exact PySem.EqNone.eq_none_str (cA I q (by simp))
  |_=>exact absurd (show false=true from hs) kr
 |bl i =>
  cases rx;cases y with
  |non=>cases ry;exact PySem.EqNone.eq_bool_none (cA I q (by simp))
  |bl j=>cases ry;exact eq_bool (cA I q QD)
  |str j=>obtain⟨t',rfl⟩:=ry;exact PySem.EqMixed.eq_bool_str (cA I q (by simp))
  |_=>exact absurd (show false=true from hs) kr
 |int i =>
  obtain⟨t,rfl⟩:=rx;cases y with
  |non=>cases ry;exact PySem.EqNone.eq_int_none (cA I q (by simp))
  |int j=>obtain⟨t',rfl⟩:=ry;exact eq_int (cA I q N1)
  |str j=>obtain⟨t',rfl⟩:=ry;exact PySem.EqMixed.eq_int_str (cA I q (by simp))
  |_=>exact absurd (show false=true from hs) kr
 |str i =>
  obtain⟨t,rfl⟩:=rx;cases y with
  |non=>cases ry;exact PySem.EqNone.eq_str_none (cA I q (by simp))
  |bl j=>cases ry;exact PySem.EqMixed.eq_str_bool (cA I q (by simp))
  |int j=>obtain⟨t',rfl⟩:=ry;exact PySem.EqMixed.eq_str_int (cA I q (by simp))
  |str j=>obtain⟨t',rfl⟩:=ry;exact eq_str (cA I q N2)
  |_=>exact absurd (show false=true from hs) kr
 |byt i =>
  obtain⟨t,rfl⟩:=rx;cases y with
  |byt j=>obtain⟨t',rfl⟩:=ry;exact PySem.W.eq_bytes (cA I q N3)
  |_=>exact absurd (show false=true from hs) kr
 |_=>cases y <;> exact absurd (show false=true from hs) kr
theorem Fp:OpR X (aoc .NotEq) rNe:=by
 intro pins s σ H x y v u Q I rx ry h;obtain⟨hs,q⟩:=h;cases x with
 |non =>
  cases rx;cases y with
  |non=>cases ry;exact PySem.EqNone.ne_none_none (cA I q (by simp))
  |bl j=>cases ry;exact PySem.EqNone.ne_none_bool (cA I q (by simp))
  |int j=>obtain⟨t',rfl⟩:=ry;exact PySem.EqNone.ne_none_int (cA I q (by simp))
  |str j=>obtain⟨t',rfl⟩:=ry;exact PySem.EqNone.ne_none_str (cA I q (by simp))
  |_=>exact absurd (show false=true from hs) kr
 |bl i =>
  cases rx;cases y with
  |non=>cases ry;exact PySem.EqNone.ne_bool_none (cA I q (by simp))
  |bl j=>cases ry;exact ne_bool (cA I q (congrArg not QD))
  |str j=>obtain⟨t',rfl⟩:=ry;exact PySem.EqMixed.ne_bool_str (cA I q (by simp))
  |_=>exact absurd (show false=true from hs) kr
 |int i =>
  obtain⟨t,rfl⟩:=rx;cases y with
  |non=>cases ry;exact PySem.EqNone.ne_int_none (cA I q (by simp))
  |int j=>obtain⟨t',rfl⟩:=ry;exact ne_int (cA I q (congrArg not N1))
  |str j=>obtain⟨t',rfl⟩:=ry;exact PySem.EqMixed.ne_int_str (cA I q (by simp))
  |_=>exact absurd (show false=true from hs) kr
 |str i =>
  obtain⟨t,rfl⟩:=rx;cases y with
  |non=>cases ry;exact PySem.EqNone.ne_str_none (cA I q (by simp))
  |bl j=>cases ry;exact PySem.EqMixed.ne_str_bool (cA I q (by simp))
  |int j=>obtain⟨t',rfl⟩:=ry;exact PySem.EqMixed.ne_str_int (cA I q (by simp))
  |str j=>obtain⟨t',rfl⟩:=ry;exact ne_str (cA I q (congrArg not N2))
  |_=>exact absurd (show false=true from hs) kr
 |byt i =>
  obtain⟨t,rfl⟩:=rx;cases y with
  |byt j=>obtain⟨t',rfl⟩:=ry;exact PySem.W.ne_bytes (cA I q (congrArg not N3))
  |_=>exact absurd (show false=true from hs) kr
 |_=>cases y <;> exact absurd (show false=true from hs) kr
theorem C9:OpR X (aoc .Lt) (rI0 λi j=>.bl (decide (i < j))):=Ub λ_ _ _ _ _ _ _ q=>lt_int q
theorem Ba:OpR X (aoc .LtE) (rI0 λi j=>.bl (decide (i<=j))):=Ub λ_ _ _ _ _ _ _ q=>le_int q
theorem QE:OpR X (aoc .Gt) (rI0 λi j=>.bl (decide (j < i))):=Ub λ_ _ _ _ _ _ _ q=>gt_int q
theorem We:OpR X (aoc .GtE) (rI0 λi j=>.bl (decide (j<=i))):=Ub λ_ _ _ _ _ _ _ q=>ge_int q
theorem OX:OpR X (aoc .In) (λx y H Q=>∃i j,x=.str i/\y=.str j/\Q (.bl (!(an0 j i 0 j.length 1).isEmpty)) H):=by
 intro pins s σ H x y v u Q I rx ry h;obtain⟨i,j,rfl,rfl,q⟩:=h;obtain⟨t,rfl⟩:=rx;obtain⟨t',rfl⟩:=ry;exact in_str (cA I q rfl)
theorem OpR.or {f:Value->Value->Sem Value}{r r':R2}(h:OpR X f r)(h':OpR X f r'):OpR X f (λx y H Q=>r x y H Q\/r' x y H Q):=by
 intro pins s σ H x y v u Q I rx ry q;rcases q with q | q
 ·exact h pins s σ H x y v u Q I rx ry q
 ·exact h' pins s σ H x y v u Q I rx ry q
theorem aK (b:Expr){op:CmpOp}(h:op≠.In:=by decide)(h2:op≠.NotIn:=by decide):behindInMarks op b=false:=by
 have e1:(op == CmpOp.In)=false:=by cases op <;> first | rfl | exact absurd rfl h
 have e2:(op == CmpOp.NotIn)=false:=by cases op <;> first | rfl | exact absurd rfl h2
 cases b <;> simp[behindInMarks,e1,e2]
theorem cH {op:CmpOp}{r:R2}(ho:OpR X (aoc op) r)(ha:PE X a ta)(hb:PE X b tb)(hm:behindInMarks op b=false):PE X (.Compare a [op] [b] pos) (tOp r ta tb):=by
 intro pins s σ H Q I h;exact wpAny_Compare1 (X0 ha hb I h λv u s2 x y H2 I2 rx ry q=>ho pins s2 σ H2 x y v u Q I2 rx ry q) hm
def acE (t:TE):TT:=λσ H Q=>t σ H λx H'=>∃k,x=.bl k/\Q k H'
theorem aJ {op:CmpOp}{r:R2}(ho:OpR X (aoc op) r)(ha:PE X a ta)(hb:PE X b tb)(hm:behindInMarks op b=false):PT X (.Compare a [op] [b] pos) (acE (tOp r ta tb)):=by
 intro pins s σ H Q I h;refine wpAny_isTrue_Compare1 (thn (ha pins s σ H _ I h) λv s1 ⟨x,H1,I1,r1,q1⟩=>thn (hb pins s1 σ H1 _ I1 q1) λu s2 ⟨y,H2,I2,r2,q2⟩ =>
  thn (ho pins s2 σ H2 x y v u _ I2 r1 r2 q2) λc s3 ⟨z,H3,I3,r3,k,e,q3⟩=>?_) hm
 subst e;cases r3;exact wpAny_truthy_bool ⟨H3,I3,q3⟩
def Yb (r r':R2)(ta tb tc:TE):TE:=λσ H Q=>ta σ H λx H1=>tb σ H1 λy H2=>r x y H2 λz H3=>∃k,z=.bl k /\
 (if k=true then tc σ H3 λw' H4=>r' y w' H4 Q else Q (.bl false) H3)
theorem yA {op op':CmpOp}{r r':R2}(ho:OpR X (aoc op) r)(ho':OpR X (aoc op') r')(ha:PE X a ta)(hb:PE X b tb)(hc:PE X c tc)
  (hm:lastMarks [op,op'] [b,c]=false:=by with_unfolding_all rfl):PE X (.Compare a [op,op'] [b,c] pos) (Yb r r' ta tb tc):=by
 intro pins s σ H Q I h;refine Compare_chain (thn (ha pins s σ H _ I h) λv s1 ⟨x,H1,I1,r1,q1⟩=>chain_link (thn (hb pins s1 σ H1 _ I1 q1) λu s2 ⟨y,H2,I2,r2,q2⟩ =>
  thn (ho pins s2 σ H2 x y v u _ I2 r1 r2 q2) λd s3 ⟨z,H3,I3,r3,k,e,q3⟩=>?_)) hm
 subst e;cases r3;refine wpAny_truthy_bool ?_;cases k with
 |false=>exact ite_ff ⟨.bl false,H3,I3,rfl,q3⟩
 |true=>exact ite_tt (chain_last (thn (hc pins s3 σ H3 _ I3 q3) λw' s4 ⟨z',H4,I4,r4,q4⟩=>ho' pins s4 σ H4 y z' u w' Q I4 r2 r4 q4))
def acF (K:ba)(x:V)(H:Hp)(k:Bool):Prop :=
 match x with
 | .non=>k=false
 | .bl b=>k=b
 | .int i=>k=(i != 0)
 | .str y=>y.length<=gr/\k=((y.length:Int) != 0)
 | .byt y=>y.size<=gr/\k=((y.size:Int) != 0)
 | .ref p=>(∃xs,SqL K H p xs/\k=!xs.isEmpty)\/(∃xs,SqT K H p xs/\k=!xs.isEmpty)\/∃kvs,H p=some (.dK kvs)/\k=!kvs.isEmpty
 |_=>False
theorem LB {κ:Type}{kvs:List (κ×V)}{vs:List (κ×Value)}(r:KV kvs vs):(!vs.isEmpty)=!kvs.isEmpty:=by
 cases r <;> rfl
theorem Dc {xs:List V}{its:List Value}(r:Vals xs its):(!its.toArray.isEmpty)=!xs.isEmpty:=by
 cases r <;> simp
theorem xy:(gr:Nat) < 2 ^ 63:=by rw[sizeLine_eq];decide
theorem Yc:aku X (λx H Q=>∃k,acF X.K x H k/\Q k H):=by
 intro pins s σ H x v Q I rx h;obtain⟨k,e,q⟩:=h;have hl:=xy;have hs:gr=16777216:=sizeLine_eq;cases x with
 |non =>
  cases rx;have e':k=false:=e;subst e';exact truthy_none ⟨H,I,q⟩
 |bl b =>
  cases rx;have e':k=b:=e;subst e';exact wpAny_truthy_bool ⟨H,I,q⟩
 |int i =>
  obtain⟨t,rfl⟩:=rx;have e':k=(i != 0):=e;subst e';exact PySem.P.truthy_int ⟨H,I,q⟩
 |str y =>
  obtain⟨t,rfl⟩:=rx;obtain⟨hy,e'⟩:y.length<=gr/\k=((y.length:Int) != 0):=e;subst e';exact PySem.P.truthy_str (by omega) ⟨H,I.tok _,q⟩
 |byt y =>
  obtain⟨t,rfl⟩:=rx;obtain⟨hy,e'⟩:y.size<=gr/\k=((y.size:Int) != 0):=e;subst e';exact PySem.W.truthy_bytes (by omega) ⟨H,I.tok _,q⟩
 |ref p =>
  cases rx;have e':(∃xs,SqL X.K H p xs/\k=!xs.isEmpty)\/(∃xs,SqT X.K H p xs/\k=!xs.isEmpty)\/∃kvs,H p=some (.dK kvs)/\k=!kvs.isEmpty:=e;rcases e' with ⟨xs,hx,e'⟩ | ⟨xs,hx,e'⟩ | ⟨kvs,hx,e'⟩
  ·subst e';obtain⟨its,r,pl,hz⟩:=I.list hx;have hlen:=r.length;exact wpAny_truthy_list pl.isList (by simp only[om];omega) ⟨H,I.tok _,by rw[Dc r];exact q⟩
  ·subst e';obtain⟨its,r,pl,hz⟩:=I.tuple hx;have hlen:=r.length;exact truthy_tuple pl (by simp only[om];omega) ⟨H,I.tok _,by rw[Dc r];exact q⟩
  ·subst e';obtain⟨hz,hS,vs,r,m⟩:kvs.length<=gr/\(p == aoq)=false/\∃vs,KV kvs vs/\s.heap.DictOf (eP X.prog X.w) p vs:=I.hok p _ hx;have hlen:kvs.length=vs.length:=Paired.length r;exact wpAny_truthy_dict hS m (by omega) ⟨H,I.tok _,by rw[LB r];exact q⟩
 |_=>exact(show False from e).elim
theorem uI (ha:PE X a ta)(he:∀whole,isTrue a X.env whole=(do let v <-whole;standAt a.pos;holding [v] (truthy v))) :
  PT X a (λσ H Q=>ta σ H λx H'=>∃k,acF X.K x H' k/\Q k H'):=by
 intro pins s σ H Q I h;exact isTrue_plain (thn (ha pins s σ H _ I h) λv s1 ⟨x,H1,I1,r1,q1⟩=>Yc pins s1 σ H1 x v Q I1 r1 q1) (he _)
theorem vals1 {x:V}{us:List Value}(r:Vals [x] us):∃u,us=[u]/\RelV x u:=by
 cases r with
 |cons r1 r2=>cases r2;exact⟨_,rfl,r1⟩
theorem vals2 {x y:V}{us:List Value}(r:Vals [x,y] us):∃u w',us=[u,w']/\RelV x u/\RelV y w':=by
 cases r with
 |cons r1 r2 =>
  cases r2 with
  |cons r3 r4=>cases r4;exact⟨_,_,rfl,r1,r3⟩
theorem OY (hc:X.calm=true):jM X (.builtin "max") (λxs H Q=>∃i j,xs=[.int i,.int j]/\Q (.int (if j > i then j else i)) H):=by
 intro pins s σ H xs us Q I r h;obtain⟨i,j,rfl,q⟩:=h;obtain⟨u,w',rfl,⟨t,rfl⟩,⟨t',rfl⟩⟩:=vals2 r;refine max_two_ints (I.ok.hd hc) λh' tk k=>⟨_,H,I.kept k,?_,q⟩
 by_cases hj:j > i
 ·rw[if_pos hj,if_pos hj];exact⟨_,rfl⟩
 ·rw[if_neg hj,if_neg hj];exact⟨_,rfl⟩
theorem yB:jM X (.type "str") (λxs H Q=>∃i,xs=[.int i]/\i.natAbs.log2 < 1920/\Q (.str (toString i)) H):=by
 intro pins s σ H xs us Q I r h;obtain⟨i,rfl,hz,q⟩:=h;obtain⟨u,rfl,t,rfl⟩:=vals1 r;exact PySem.P.str_of_int hz ⟨.str _,H,I.tok _,⟨_,rfl⟩,q⟩
theorem QF:jM X (.builtin "ord") (λxs H Q=>∃x,xs=[.str x]/\x.length=1/\Q (.int (x.cps.getD 0 0:Nat)) H):=by
 intro pins s σ H xs us Q I r h;obtain⟨x,rfl,hz,q⟩:=h;obtain⟨u,rfl,t,rfl⟩:=vals1 r;exact ord_of_one hz ⟨.int _,H,I.tok _,⟨_,rfl⟩,q⟩
end
structure LC (h:Heap)(x dx C:Addr)(mA:Str->Option Value):Prop where
 obj:h.get? x=some (anM C dx)
 ns:h.Ns1 dx mA
 ne:dx≠x
theorem OZ {h:Heap}{dx:Addr}{mA:Str->Option Value}(n:h.Ns1 dx mA):∃od,h.get? dx=some od/\∀name,PySem.W.lookIn name od=some (mA name):=by
 obtain⟨o,es,ep,ho,hd,hk,_,hm⟩:=n;refine⟨o,ho,λname=>?_⟩
 have e:=hm name;unfold nsFind findBy at e;rw[<-Array.find?_toList]at e;unfold PySem.W.lookIn;rw[hd];dsimp only;split
 ·rename_i y q;rw[q]at e;exact congrArg some e
 ·rename_i q;rw[q]at e;have a:es.toList.any (·.refKey)=false:=by
   rw[List.any_eq_false];intro y hy;obtain⟨z,t,akx⟩:=hk y (Array.mem_toList_iff.mp hy);simp[DictEntry.refKey,akx]
  have a':¬es.toList.any (·.refKey)=true:=by rw[a];exact kr
  rw[if_neg a'];exact congrArg some e
theorem LC.look {h:Heap}{x dx C:Addr}{mA:Str->Option Value}(I:LC h x dx C mA):∃od,PySem.W.InstAt h x (anM C dx) C (some od)/\∀name,PySem.W.lookIn name od=some (mA name) :=
 let ⟨od,ho,hl⟩:=OZ I.ns
 ⟨od,⟨I.obj,rfl,rfl,ho⟩,hl⟩
section
variable{prog:rf}{w:World}{A:Around}{E:Value->Shared->Prop}{s:Shared}{K:ba}{x dx C f:Addr}{mA:Str->Option Value}{name:Str}{v:Value}
theorem get_map {expr:Bool}{Q:Value->Shared->Prop}(X:K.In s.heap)(I:LC s.heap x dx C mA)(hg:anN K C name=true)(hh:anI K C=true)
  (ha:cb K (.ref C) name=some none) (hv:mA name=some v) (hv':PySem.W.handedIn v=true) (h:Q v { s with toks:=s.toks+1 }) :
  wpAny (model prog w) A (getAttr (.ref x) name expr) Q E s:=by
 obtain⟨od,J,hl⟩:=I.look;exact PySem.W.get_value X J (PySem.W.plainGet_of hg).1 (PySem.W.findObj_own hh ha rfl (by rw[hl,hv])) hv' h
theorem QG {pl:Sem Bool}{Q:Value×List Value->Shared->Prop}(X:K.In s.heap)(I:LC s.heap x dx C mA)(hg:anN K C name=true)
  (hf:cb K (.ref C) name=some (some (.ref f))) (ht:kx K (.ref f)=true) (hv:mA name=none) (h:Q (.ref f,[.ref x]) s) :
  wpAny (model prog w) A (getMethod (.ref x) name pl) Q E s:=by
 obtain⟨od,J,hl⟩:=I.look;exact PySem.W.method_fn X J (PySem.W.plainGet_of hg).1 (PySem.W.plainGet_of hg).2 hf (beq_iff_eq.mp ht) (by show (PySem.W.lookIn name od).map (·.isSome)=some false;rw[hl,hv];rfl) h
theorem Uc {ns:List Str}{Q:Unit->Shared->Prop}(X:K.In s.heap)(I:LC s.heap x dx C mA)
  (hs:cb K (.ref C) "__setattr__"=some (some (.builtin "object.__setattr__"))) (hp:anQ K C=true) (ht:PySem.W.takerIn K C name=some none) (hh:anI K C=true)
  (hw:PySem.Within mA ns) (hsz:ns.length<=gr)
  (h:∀h',LC h' x dx C (λy=>if y=name then some v else mA y)->Heap.SameBut dx s.heap h'->Q () { s with heap:=h',toks:=s.toks+2 }) :
  wpAny (model prog w) A (setAttr (.ref x) name v) Q E s:=by
 obtain⟨od,J,hl⟩:=I.look;refine PySem.W.set_plain X J hs (PySem.W.osa_open (s:={ s with toks:=s.toks+1 }) (r:=none) X J hp ht λb=>?_)
 obtain⟨cd,hc,hd'⟩:=PySem.W.any_some hh;have hx:s.heap.get? x=some ⟨.ref C,some dx,.plain,#[]⟩:=I.obj;refine gc (wt (gc (gc (wpAny_loadPart hx (gc (PySem.W.Looks.here (s:={ s with toks:=s.toks+1 }) (PySem.W.looks_clsIn X hc) ?_))))))
 rw[hd'];refine wt (a:=some dx) (gc (wt (gc ?_)));refine wpAny_nsSet1 (s:={ s with toks:=s.toks+1 }) I.ns λh' hn2 hs2=>?_
 obtain⟨oD,esD,epD,hoD,hdD,hcD⟩:=hn2.count (PySem.Within.cons name v hw);refine gc (wpAny_lookBehind hoD (by rw[hdD];exact pastItsLine_dict (si hcD (by rw[tm];omega))) ?_)
 exact wt (h _ ⟨(hs2.2 _ (anj I.ne)).trans I.obj,hn2,I.ne⟩ hs2)
theorem QH {R:Result->Shared->Prop}{vs:List Value}{kw:List (Str×Value)}(X:K.In s.heap)(hm:anV K C=true)
  (hi:cb K (.ref C) "__init__"=some (some (.ref f))) (hf:PySem.W.typeIn K (.ref f)=some (.type "function"))
  (h:codeAny (model prog w) (A.under (.builtin "type.__call__" ⟨.ref C::vs,kw⟩)) (.call (.ref f) ⟨.ref (s.heap.objs.size+1)::vs,kw⟩) (PySem.W.InitBack (s.heap.objs.size+1) R)
   { s with heap:=(s.heap.push anD).push (anM C s.heap.objs.size) }) :
  codeAny (model prog w) A (.call (.ref C) ⟨vs,kw⟩) R s:=by
 obtain⟨hh,g,d,t,os⟩:=s;exact PySem.W.make_core (PySem.W.makes_of X hm) (PySem.W.looks_findIn X hi) (λself=>PySem.W.bind_fn X self hf) (.inl rfl) h
end
def g9 (f:Str)(v:V):List (Str×V)->List (Str×V)
 |[]=>[(f,v)]
 | (g,x)::r=>if g=f then (g,v)::r else (g,x)::g9 f v r
theorem Bb (f g:Str)(v:V):∀fs:List (Str×V),(g9 f v fs).lookup g=if g=f then some v else fs.lookup g
 |[]=>by
  show anR g [(f,v)]=_
  by_cases h:g=f
  ·have hb:(g == f)=true:=beq_iff_eq.mpr h;simp only[anR,hb,if_pos h]
  ·have hb:(g == f)=false:=beq_eq_false_iff_ne.mpr h;simp only[anR,hb,if_neg h]
 | (k,x)::r=>by
  have ih:=Bb f g v r;rw[show g9 f v ((k,x)::r)=(if k=f then (k,v)::r else (k,x)::g9 f v r) from rfl]
  by_cases hk:k=f
  ·rw[if_pos hk]
   by_cases h:g=k
   ·have hb:(g == k)=true:=beq_iff_eq.mpr h;simp only[anR,hb,if_pos (h.trans hk)]
   ·have hb:(g == k)=false:=beq_eq_false_iff_ne.mpr h;simp only[anR,hb,if_neg (λe:g=f=>h (e.trans hk.symm))]
  ·rw[if_neg hk]
   by_cases h:g=k
   ·have hb:(g == k)=true:=beq_iff_eq.mpr h;simp only[anR,hb,if_neg (λe:g=f=>hk (h.symm.trans e))]
   ·have hb:(g == k)=false:=beq_eq_false_iff_ne.mpr h;simp only[anR,hb];exact ih
theorem zU (f:Str)(v:V):∀fs:List (Str×V),f∈(g9 f v fs).map (·.1)/\∀g,g∈fs.map (·.1)->g∈(g9 f v fs).map (·.1)
 |[]=>⟨by simp[g9],λg h=>by simp at h⟩
 | (k,x)::r=>by
  obtain⟨i1,i2⟩:=zU f v r;rw[show g9 f v ((k,x)::r)=(if k=f then (k,v)::r else (k,x)::g9 f v r) from rfl]
  by_cases hk:k=f
  ·rw[if_pos hk];subst hk;exact⟨by simp,λg h=>by simpa using h⟩
  ·rw[if_neg hk];refine⟨?_,λg h=>?_⟩
   ·rw[ku];exact kq _ i1
   ·rw[ku]at h ⊢;rcases List.mem_cons.mp h with e | e
    ·exact List.mem_cons.mpr (.inl e)
    ·exact kq _ (i2 g e)
theorem Bc (f:Str)(v:V):∀fs:List (Str×V),(g9 f v fs).length<=fs.length+1
 |[]=>by simp[g9]
 | (k,x)::r=>by
  have ih:=Bc f v r;rw[show g9 f v ((k,x)::r)=(if k=f then (k,v)::r else (k,x)::g9 f v r) from rfl]
  by_cases hk:k=f
  ·rw[if_pos hk,tm,tm];omega
  ·rw[if_neg hk,tm,tm];omega
theorem sD.some_of {v:V}{o:Option Value}(r:sD (some v) o):∃u,o=some u/\RelV v u:=by
 cases o with
 |none=>exact(show False from r).elim
 |some u=>exact⟨u,rfl,r⟩
theorem sD.none_of {o:Option Value}(r:sD none o):o=none:=by
 cases o with
 |none=>rfl
 |some u=>exact(show False from r).elim
theorem O0 {v:V}{u:Value}(r:RelV v u):PySem.W.handedIn u=true:=by
 cases v with
 |non=>cases (show u=aok from r);rfl
 |bl b=>cases (show u=aop b from r);rfl
 |int i=>obtain⟨t,e⟩:=(show ∃t,u=Value.int i t from r);cases e;rfl
 |str x=>obtain⟨t,e⟩:=(show ∃t,u=Value.str x t from r);cases e;rfl
 |byt b=>obtain⟨t,e⟩:=(show ∃t,u=Value.bytes b t from r);cases e;rfl
 |flt b=>obtain⟨t,e⟩:=(show ∃t,u=Value.float b t from r);cases e;rfl
 |ref a=>cases (show u=anf a from r);rfl
 |ty n=>cases (show u=Value.type n from r);rfl
section
variable{P:rf}{w:World}{H H':Hp}{h h':Heap}{a C dx:Addr}{fs fs':List (Str×V)}
theorem CP (hok:HOk P w H h)(e:H a=some (.ins C dx fs)):∃mA,LC h a dx C mA/\(∀f,sD (fs.lookup f) (mA f))/\PySem.Within mA (fs.map (·.1))/\fs.length<=1000/\H dx=some (.own a):=by
 obtain⟨d,z,ne,ob,mA,n,r,q⟩:=(show eZ P w H h a (.ins C dx fs) from hok a _ e)
 exact⟨mA,⟨ob,n,ne⟩,r,q,z,d⟩
end
structure Cls (K:ba)(C:Addr):Prop where
 pg:anN K C anF=true
 hd:anI K C=true
 po:anQ K C=true
 sa:cb K (.ref C) "__setattr__"=some (some (.builtin "object.__setattr__"))
theorem Cls.get {K:ba}{C:Addr}(c:Cls K C)(f:Str):anN K C f=true:=c.pg
def eI (K:ba)(C:Addr)(f:Str):Prop:=cb K (.ref C) f=some none
theorem eI.acG {K:ba}{C:Addr}{f:Str}(n:eI K C f):PySem.W.takerIn K C f=some none:=by
 unfold PySem.W.takerIn;rw[show cb K (.ref C) f=some none from n]
 rfl
structure Con (K:ba)(C:Addr)(f:Str)(v:V)(u:Value):Prop where
 at_:cb K (.ref C) f=some (some u)
 rel:RelV v u
 get:PySem.W.specialIn K u "__get__"=some none
 cp:PySem.W.copiedNames.contains f=false
structure Meth (K:ba)(C:Addr)(m:Str)(f:Addr):Prop where
 at_:cb K (.ref C) m=some (some (.ref f))
 fn:kx K (.ref f)=true
 kp:da K (.ref f)=true
section
variable{X:Cx}{pins:List (Addr×Obj)}{σ:St}{H:Hp}{s:Shared}{a C dx:Addr}{fs:List (Str×V)}{f:Str}{v:V}{A:Around}{E:Value->Shared->Prop}
theorem LD {b:Bool}{Q:Value->Shared->Prop}(I:Inv X pins σ H s)(e:H a=some (.ins C dx fs))(c:Cls X.K C)(n:eI X.K C f)(l:fs.lookup f=some v)
  (h:∀u s',Inv X pins σ H s'->RelV v u->Q u s'):wpAny (model X.prog X.w) A (getAttr (.ref a) f b) Q E s:=by
 obtain⟨mA,O,r,_,_,_⟩:=CP I.hok e;obtain⟨u,hu,ru⟩:=sD.some_of (v:=v) (o:=mA f) (by rw[<-l];exact r f)
 exact get_map I.kIn O (c.get f) c.hd n hu (O0 ru) (h u _ (I.tok _) ru)
theorem kD {m:Str}{g:Addr}{pl:Sem Bool}{Q:Value×List Value->Shared->Prop}(I:Inv X pins σ H s)(e:H a=some (.ins C dx fs))(c:Cls X.K C)(k:Meth X.K C m g)(l:fs.lookup m=none)
  (h:Q (.ref g,[.ref a]) s):wpAny (model X.prog X.w) A (getMethod (.ref a) m pl) Q E s:=by
 obtain⟨mA,O,r,_,_,_⟩:=CP I.hok e;have hn:mA m=none:=sD.none_of (by rw[<-l];exact r m)
 exact QG I.kIn O (c.get m) k.at_ k.fn hn h
theorem LF {y:V}{u:Value}{Q:Unit->Shared->Prop}(I:Inv X pins σ H s)(e:H a=some (.ins C dx fs))(c:Cls X.K C)(n:eI X.K C f)(hl:fs.length < 1000)(ry:RelV y u)
  (h:∀s',Inv X pins σ (upd H a (.ins C dx (g9 f y fs))) s'->Q () s'):wpAny (model X.prog X.w) A (setAttr (.ref a) f u) Q E s:=by
 obtain⟨mA,O,r,wi,_,ho⟩:=CP I.hok e;have hz:(fs.map (·.1)).length<=gr:=by rw[bo,sizeLine_eq];omega
 refine Uc I.kIn O c.sa c.po n.acG c.hd wi hz λh' O' sb=>h _ ?_
 have hd:∃o,h'.get? dx=some o:=let ⟨o,_,_,e',_⟩:=O'.ns;⟨o,e'⟩
 refine I.write (x:=a) (e:=dx) (by rw[e];exact aoe) (.inr ho) (λb q hb z=>(sb.2 b hb).trans z) hd ?_
 refine⟨by rw[av O.ne];exact ho,?_,O.ne,O'.obj,_,O'.ns,λg=>?_,λg hg=>?_⟩
 ·have:=Bc f y fs;omega
 ·show sD ((g9 f y fs).lookup g) (if g=f then some u else mA g)
  rw[Bb]
  by_cases q:g=f
  ·rw[if_pos q,if_pos q];exact ry
  ·rw[if_neg q,if_neg q];exact r g
 ·by_cases q:g=f
  ·rw[q];exact(zU f y fs).1
  ·refine(zU f y fs).2 g (wi g λz=>hg ?_)
   show (if g=f then some u else mA g)=none
   rw[if_neg q];exact z
theorem Inv.made (I:Inv X pins σ H s):Inv X pins σ (upd (upd H s.heap.objs.size (.own (s.heap.objs.size+1))) (s.heap.objs.size+1) (.ins C s.heap.objs.size []))
  { s with heap:=(s.heap.push anD).push (anM C s.heap.objs.size) }:=by
 have e1:(s.heap.push anD).get? s.heap.objs.size=some anD:=Lk s.heap rfl;have e2:((s.heap.push anD).push (anM C s.heap.objs.size)).get? (s.heap.objs.size+1)=some (anM C s.heap.objs.size):=by
  have:=Lk (s.heap.push anD) (o:=anM C s.heap.objs.size) rfl
  rwa [aof]at this
 have e3:(s.heap.push anD).Ns s.heap.objs.size (λ_=>none):=⟨anD,#[],_,e1,rfl,(λe he=>absurd he (by simp)),λ_=>rfl⟩
 have I1:=I.laid (a:=s.heap.objs.size) (o:=.own (s.heap.objs.size+1)) (h':=s.heap.push anD) (t':=s.toks) (λb u q=>gp _ q) (kj _) ⟨_,e1⟩
 refine I1.laid (a:=s.heap.objs.size+1) (o:=.ins C s.heap.objs.size []) (t':=s.toks) (λb u q=>gp _ q) (Nat.le_of_eq (aof _ _)) ?_
 have ne:s.heap.objs.size≠s.heap.objs.size+1:=adm (aoJ _);refine⟨by rw[av ne,ae],anz _,ne,e2,λ_=>none,(Heap.Ns1.of_empty e3).at λo q=>gp _ q,λ_=>aoe,λy hy=>absurd rfl hy⟩
theorem Ud {prog:rf}{w:World}{env:Env}{e:Expr}{f:Str}{pos:Pos}{s:Shared}{Q:Value->Shared->Prop}(hb:attributeBase e f env (eval e env)=eval e env)
  (h:wpAny (model prog w) A (eval e env) (λo s₁=>wpAny (model prog w) A (getAttr o f true) Q E s₁) E s):wpAny (model prog w) A (eval (.Attribute e f pos) env) Q E s :=
 Attribute_any_ h (by rw[arm_eval_Attribute,hb])
end
def acH (K:ba)(ta:TE)(f:Str):TE:=λσ H Q=>ta σ H λx H1=>∃a C dx fs v,x=.ref a/\H1 a=some (.ins C dx fs)/\Cls K C/\eI K C f/\fs.lookup f=some v/\Q v H1
def aky (K:ba)(ta tv:TE)(f:Str):TS:=λD σ H=>tv σ H λy H1=>ta σ H1 λx H2=>∃a C dx fs,x=.ref a/\H2 a=some (.ins C dx fs)/\Cls K C/\eI K C f/\fs.length < 1000 /\
 D.nx σ (upd H2 a (.ins C dx (g9 f y fs)))
section
variable{X:Cx}{o e value:Expr}{f:Str}{pos pos' akz:Pos}{ta tv:TE}
theorem bf (he:PE X e ta)(hb:attributeBase e f X.env (eval e X.env)=eval e X.env):PE X (.Attribute e f pos) (acH X.K ta f):=by
 intro pins s σ H Q I h;refine Ud hb (thn (he pins s σ H _ I h) λu s1 ⟨x,H1,I1,rx,a,C,dx,fs,v,ex,ea,c,n,l,q⟩=>?_)
 subst ex;obtain rfl:u=anf a:=rx;exact LD I1 ea c n l λu' s2 I2 ru=>⟨v,H1,I2,ru,q⟩
theorem fK (ha:PE X o ta)(hv:PE X value tv)(hs:swapsWith value (some (.Attribute o f pos')) pos.line X.env=pure false):PS X (.Assign [.Attribute o f pos'] value pos) (aky X.K ta tv f):=by
 intro pins s σ H D I h;refine plainObj_wpAny_Assign_Attribute (thn (hv pins s σ H _ I h) λu s1 ⟨y,H1,I1,ry,q⟩=>thn (ha pins s1 σ H1 _ I1 q) λov s2 ⟨x,H2,I2,rx,a,C,dx,fs,ex,ea,c,n,l,q2⟩=>?_) hs
 subst ex;obtain rfl:ov=anf a:=rx;exact LF I2 ea c n l ry λs3 I3=>⟨σ,_,I3,q2⟩
theorem Wf {pl:Sem Bool}{m:Str}{apos:Pos}{args:List Expr}{pins:List (Addr×Obj)}{s:Shared}{σ:St}{H:Hp}{Q:Value->Shared->Prop}{te:TE}(he:PE X e te)(I:Inv X pins σ H s)
  (h:te σ H λx H1=>∃a C dx fs g,x=.ref a/\H1 a=some (.ins C dx fs)/\Cls X.K C/\Meth X.K C m g/\fs.lookup m=none /\
   ∀s1,Inv X pins σ H1 s1->wpAny (model X.prog X.w) X.A (aoO pos (.ref g) [.ref a] (backTo pos (ane args X.env)) (aot pos (an2 [] X.env))) Q X.xe s1)
  (ht:eval (.Call (.Attribute e m apos) args [] pos) X.env=(do
   let ov <-eval e X.env
   standAt apos.atName
   let (f,first) <-holding [ov] (getMethod ov m pl)
   aoO pos f first (backTo pos (ane args X.env)) (aot pos (an2 [] X.env)))) :
  wpAny (model X.prog X.w) X.A (eval (.Call (.Attribute e m apos) args [] pos) X.env) Q X.xe s:=by
 refine an9 (pl:=pl) (thn (he pins s σ H _ I h) λu s1 ⟨x,H1,I1,rx,a,C,dx,fs,g,ex,ea,c,k,l,q⟩=>?_) ht
 subst ex;obtain rfl:u=anf a:=rx;exact kD I1 ea c k l (q s1 I1)
end
section
variable{X:Cx}{pins:List (Addr×Obj)}{σ:St}{H:Hp}{s:Shared}{A:Around}{E:Value->Shared->Prop}{Q:Value->Shared->Prop}{c:Value}{b:Bool}
inductive zV (K:ba)(H:Hp):V->Value->Prop where
 |non:zV K H .non (.type "NoneType")
 |bl (x:Bool):zV K H (.bl x) (.type "bool")
 |int (i:Int):zV K H (.int i) (.type "int")
 |str (x:Str):zV K H (.str x) (.type "str")
 |flt (x:UInt64):zV K H (.flt x) (.type "float")
 |lst {a:Addr} {xs:List V} (e:H a=some (.lst xs)):zV K H (.ref a) (.type "list")
 |frz {a:Addr} {o:Obj} {xs:List V} (e:H a=some (.frz o (.lst xs))):zV K H (.ref a) (.type "list")
 |tup {a:Addr} {xs:List V} (e:H a=some (.tup xs)):zV K H (.ref a) (.type "tuple")
 |dK {a:Addr} {kvs:List (Key×V)} (e:H a=some (.dK kvs)):zV K H (.ref a) (.type "dict")
 |dT {a:Addr} {kvs:List (List Key×V)} (e:H a=some (.dT kvs)):zV K H (.ref a) (.type "dict")
 |ins {a C dx:Addr} {fs:List (Str×V)} (e:H a=some (.ins C dx fs)) (cl:Cls K C) (ha:cb K (.ref C) "__class__"=some (some (.builtin "object.__class__")))
   (hn:PySem.W.specialIn K (.builtin "object.__class__") "__get__"=some (some (.builtin "getset_descriptor.__get__"))) (htk:PySem.W.takesIn K (.builtin "object.__class__")=some true)
   (hm:PySem.W.mroIn K C (.type "object")=some true):zV K H (.ref a) (.ref C)
theorem Fq {x:V}{u t:Value}(I:Inv X pins σ H s)(rx:RelV x u)(ty:zV X.K H x t)(e:PySem.W.kitOne X.K t c=some b)(h:∀tk,Q (.bool b) { s with toks:=tk }) :
  wpAny (model X.prog X.w) A (call (.builtin "isinstance") [u,c]) Q E s:=by
 cases ty with
 |non=>cases (show u=aok from rx);exact an5 PySem.W.kitx_none I.kIn aoe e (λz=>nomatch z) h
 |bl y=>cases (show u=aop y from rx);exact an5 PySem.W.kitx_bool I.kIn aoe e (λz=>nomatch z) h
 |int i=>obtain⟨t,q⟩:=(show ∃t,u=Value.int i t from rx);cases q;exact an5 PySem.W.kitx_int I.kIn aoe e (λz=>nomatch z) h
 |str y=>obtain⟨t,q⟩:=(show ∃t,u=Value.str y t from rx);cases q;exact an5 PySem.W.kitx_str I.kIn aoe e (λz=>nomatch z) h
 |flt y=>obtain⟨t,q⟩:=(show ∃t,u=Value.float y t from rx);cases q;exact an5 PySem.W.kitx_float I.kIn aoe e (λz=>nomatch z) h
 | @lst a xs ea =>
  cases (show u=anf a from rx)
  obtain⟨_,_,n,_,h1⟩:=(show eZ X.prog X.w H s.heap a (.lst xs) from I.hok a _ ea)
  exact an5 PySem.W.kitx_list I.kIn ⟨_,h1,rfl⟩ e (λz=>nomatch z) h
 | @frz a ob xs ea =>
  cases (show u=anf a from rx)
  obtain⟨_,_,_,n,_,h1⟩:=(show eZ X.prog X.w H s.heap a (.frz ob (.lst xs)) from I.hok a _ ea)
  exact an5 PySem.W.kitx_list I.kIn ⟨_,h1,rfl⟩ e (λz=>nomatch z) h
 | @tup a xs ea =>
  cases (show u=anf a from rx)
  obtain⟨_,_,_,p⟩:=(show eZ X.prog X.w H s.heap a (.tup xs) from I.hok a _ ea)
  obtain⟨o,h1,h2,_⟩:=p;exact an5 PySem.W.kitx_tuple I.kIn ⟨o,h1,h2⟩ e (λz=>nomatch z) h
 | @dK a kvs ea =>
  cases (show u=anf a from rx)
  obtain⟨_,_,vs,_,p⟩:=(show eZ X.prog X.w H s.heap a (.dK kvs) from I.hok a _ ea)
  obtain⟨o,es,ep,h1,h2,_⟩:=p;exact an5 PySem.W.kitx_dict I.kIn ⟨o,h1,h2.1⟩ e (λz=>nomatch z) h
 | @dT a kvs ea =>
  cases (show u=anf a from rx)
  obtain⟨_,_,xs,_,o,es,ep,h1,h2,_⟩:=(show eZ X.prog X.w H s.heap a (.dT kvs) from I.hok a _ ea)
  exact an5 PySem.W.kitx_dict I.kIn ⟨o,h1,h2.1⟩ e (λz=>nomatch z) h
 | @ins a C dx fs ea cl ha hn htk hm =>
  cases (show u=anf a from rx)
  obtain⟨mA,O,_⟩:=CP I.hok ea;obtain⟨od,J,_⟩:=O.look;exact an5 (PySem.W.kitx_own (cl.get _) cl.hd ha hn htk hm) I.kIn J e (λz=>nomatch z) h
end
structure Room (k:Nat)(A:Around):Prop where
 hd:A.handled=none
 dp:A.depth+3 * k+5 < recursionLimit
 un:A.units+16 * k+200 < cLine
 gd:A.guards=some []
theorem Room.mono {j k:Nat}{A:Around}(r:Room k A)(h:j<=k):Room j A:=⟨r.hd,by have:=r.dp;omega,by have:=r.un;omega,r.gd⟩
theorem Room.deeper {k:Nat}{A:Around}(r:Room (k+1) A)(env:Env):Room k (A.deeper env) :=
 ⟨r.hd,by have:=r.dp;show A.depth+1+3 * k+5 < _;omega,by have:=r.un;show A.units+3+16 * k+200 < _;omega,r.gd⟩
theorem Room.in1 {k:Nat}{A:Around}(r:Room (k+1) A):Room k A.in1 :=
 ⟨r.hd,by have:=r.dp;show A.depth+3 * k+5 < _;omega,by have:=r.un;show A.units+1+16 * k+200 < _;omega,r.gd⟩
theorem LG {A:Around}{C:Addr}{us:List Value}{kw:List (Str×Value)}:(A.under (.builtin "type.__call__" ⟨.ref C::us,kw⟩)).depth=A.depth+1:=by
 first | rfl | simp[Around.under,Code.weight,Code.isCreation,Code.isGuard,Code.isCaller,Code.frames,Code.isFrame,guardIds]
theorem LH {A:Around}{C:Addr}{us:List Value}{kw:List (Str×Value)}:(A.under (.builtin "type.__call__" ⟨.ref C::us,kw⟩)).units=A.units+1:=by
 first | rfl | simp[Around.under,Code.cUnits,Code.frames,Code.isFrame]
theorem Room.make {k:Nat}{A:Around}(r:Room (k+1) A)(C:Addr)(us:List Value)(kw:List (Str×Value)):Room k (A.under (.builtin "type.__call__" ⟨.ref C::us,kw⟩)) :=
 ⟨r.hd,by have:=r.dp;rw[LG];omega,by have:=r.un;rw[LH];omega,by
  have g:=r.gd
  first | exact g | simp[Around.under,Code.guards,Code.isGuard,guardIds,pushGuards,g]⟩
theorem Room.depth {k:Nat}{A:Around}(r:Room k A):A.depth < recursionLimit:=by have:=r.dp;omega
theorem Room.units {k:Nat}{A:Around}(r:Room k A):A.units+64 < cLine:=by have:=r.un;omega
def acI:TA:=λ_ H Q=>Q [] H
def acJ (ta:TE)(tr:TA):TA:=λσ H Q=>ta σ H λx H1=>tr σ H1 λxs H2=>Q (x::xs) H2
section
variable{X:Cx}{e:Expr}{es:List Expr}{te:TE}{t:TA}{pos:Pos}
theorem ag:PA X [] acI:=λ_ _ _ _ H Q I h=>Calls.spliced_nil ⟨[],H,I,.nil,h⟩
theorem aa (ha:PE X e te)(hr:PA X es t)(hs:ane (e::es) X.env=(false,eval e X.env)::ane es X.env:=by rfl):PA X (e::es) (acJ te t):=by
 intro pos pins s σ H Q I h;rw[hs];show wpAny _ _ (spliced ((false,eval e X.env)::backTo pos (ane es X.env))) _ _ s;refine Calls.spliced_cons (thn (ha pins s σ H _ I h) λu s1 ⟨x,H1,I1,r1,q1⟩=>?_)
 exact thn (hr pos pins s1 σ H1 _ I1 q1) λus s2 ⟨xs,H2,I2,r2,q2⟩=>⟨x::xs,H2,I2,.cons r1 r2,q2⟩
def akA (t:TA):TE:=λσ H Q=>t σ H λxs H1=>xs.length<=gr/\∀p,H1 p=none->Q (.ref p) (upd H1 p (.tup xs))
def akB (t:TA):TE:=λσ H Q=>t σ H λxs H1=>xs.length<=gr/\∀p,H1 p=none->Q (.ref p) (upd H1 p (.lst xs))
theorem cI {x1}(h:PA X es t):PE X (.Tuple es x1 pos) (akA t):=by
 intro pins s σ H Q I hq;refine wpAny_Tuple_spliced (thn (h pos pins s σ H _ I hq) λus s1 ⟨xs,H1,I1,r,z,q⟩=>⟨by rw[<-r.length];exact z,?_⟩)
 have hf:H1 s1.heap.objs.size=none:=I1.hok.fresh (kj _);refine⟨.ref s1.heap.objs.size,upd H1 s1.heap.objs.size (.tup xs),I1.laid (t':=s1.toks) (λb u e=>gp _ e) (kj _) ?_,rfl,q _ hf⟩
 exact⟨z,us,r,⟨_,Lk _ rfl,rfl,_,rfl⟩⟩
theorem dn (h:PA X es t):PE X (.List es pos) (akB t):=by
 intro pins s σ H Q I hq;refine wpAny_List_spliced (thn (h pos pins s σ H _ I hq) λus s1 ⟨xs,H1,I1,r,z,q⟩=>⟨by rw[<-r.length];exact z,?_⟩)
 have hf:H1 s1.heap.objs.size=none:=I1.hok.fresh (kj _);refine⟨.ref s1.heap.objs.size,upd H1 s1.heap.objs.size (.lst xs),I1.laid (t':=s1.toks) (λb u e=>gp _ e) (kj _) ?_,rfl,q _ hf⟩
 exact⟨z,us,0,r,Lk _ rfl⟩
end
abbrev Sp:=List V->Hp->VK->XK->Prop
abbrev CXT:=List Env->Hp->Shared->XK->Value->Shared->Prop
structure EL (P:rf)(w:World)(K:ba)(mg:Str->Option Value)(base:Heap)(A:Around)(outer:List Env)(s:Shared)(H:Hp):Prop where
 frames:A.frames=some outer
 mod:Mod K mg base
 bs:∀b o,base.get? b=some o->s.heap.get? b=some o/\H b=none
 bsz:base.objs.size<=s.heap.objs.size
 wW:s.heap.FunFrames base outer
 frf:∀b∈frs outer,H b=none
 hok:HOk P w H s.heap
 bare:AllBare s.gens
def CE (outer:List Env)(P:rf)(w:World)(H:Hp)(s:Shared)(Q:VK)(u:Value)(s':Shared):Prop :=
 ∃v H',s'.os=s.os/\AllBare s'.gens/\Un (frs outer) [] H H' s.heap s'.heap/\HOk P w H' s'.heap/\RelV v u/\Q v H'
def CR (CX:CXT)(outer:List Env)(P:rf)(w:World)(H:Hp)(s:Shared)(Q:VK)(E:XK)(r:Result)(s':Shared):Prop :=
 match r with
 | .ok (.ret u)=>CE outer P w H s Q u s'
 | .ok _=>False
 | .error e=>CX outer H s E e s'
structure aT (P:rf)(w:World)(K:ba)(mg:Str->Option Value)(base:Heap)(CX:CXT)(k:Nat)(f:Addr)(fd:kg)(ps:List Str)(sp:Sp):Prop where
 len:∀vs H Q E,sp vs H Q E->vs.length=ps.length
 run:∀(A:Around) (outer:List Env) (s:Shared) (H:Hp) (args:Args) (us:List Value) (vs:List V) (Q:VK) (E:XK),Room k A->EL P w K mg base A outer s H->BindsTo s fd args (ps.zip us)->Vals vs us->sp vs H Q E ->
  codeAny (model P w) A (.call (.ref f) args) (CR CX outer P w H s Q E) s
theorem aT.mono {P:rf}{w:World}{K:ba}{mg:Str->Option Value}{base:Heap}{CX:CXT}{j k:Nat}{f:Addr}{fd:kg}{ps:List Str}{sp:Sp}(F:aT P w K mg base CX j f fd ps sp)(h:j<=k) :
  aT P w K mg base CX k f fd ps sp:=⟨F.len,λA outer s H args us vs Q E hr=>F.run A outer s H args us vs Q E (hr.mono h)⟩
theorem aT.imp {P:rf}{w:World}{K:ba}{mg:Str->Option Value}{base:Heap}{CX:CXT}{k:Nat}{f:Addr}{fd:kg}{ps:List Str}{sp sp':Sp}(F:aT P w K mg base CX k f fd ps sp)
  (h:∀vs H Q E,sp' vs H Q E->sp vs H Q E):aT P w K mg base CX k f fd ps sp' :=
 ⟨λvs H Q E q=>F.len vs H Q E (h _ _ _ _ q),λA outer s H args us vs Q E hr he hb hv hs=>F.run A outer s H args us vs Q E hr he hb hv (h _ _ _ _ hs)⟩
theorem EL.make {P:rf}{w:World}{K:ba}{mg:Str->Option Value}{base:Heap}{A:Around}{outer:List Env}{s:Shared}{H:Hp}(e:EL P w K mg base A outer s H)(C:Addr)(us:List Value)(kw:List (Str×Value)) :
  EL P w K mg base (A.under (.builtin "type.__call__" ⟨.ref C::us,kw⟩)) outer s H:=⟨by first | exact e.frames | (simpa [Around.under,Code.envs,Code.isFrame,pushEnvs] using e.frames),e.mod,e.bs,e.bsz,e.wW,e.frf,e.hok,e.bare⟩
theorem EL.in1 {P:rf}{w:World}{K:ba}{mg:Str->Option Value}{base:Heap}{A:Around}{outer:List Env}{s:Shared}{H:Hp}(e:EL P w K mg base A outer s H) :
  EL P w K mg base A.in1 outer s H:=⟨e.frames,e.mod,e.bs,e.bsz,e.wW,e.frf,e.hok,e.bare⟩
section
variable{X:Cx}{pins:List (Addr×Obj)}{σ:St}{H:Hp}{s s':Shared}
theorem Inv.Ue (I:Inv X pins σ H s):EL X.prog X.w X.K X.mg X.base X.A X.stack s H :=
 ⟨I.ok.frames,I.ok.mod,I.bs,si I.ok.bsz I.sz,I.stack,I.CO,I.hok,I.bare⟩
theorem Inv.after {Q:VK}{u:Value}(I:Inv X pins σ H s)(h:CE X.stack X.prog X.w H s Q u s'):EP X pins σ Q u s':=by
 obtain⟨v,H',os,bare,un,hok,r,q⟩:=h;obtain⟨hh,g,d,t,os'⟩:=s';obtain rfl:os'=s.os:=os;exact⟨v,H',I.call (h':=hh) (g':=g) (d':=d) (t':=t) (ch:=[]) un hok bare (λb z=>absurd z (by simp)),r,q⟩
end
def acK (sp:Sp)(dvs:List V)(E:XK)(t:TA):TE:=λσ H Q=>t σ H λvs H1=>sp (vs++dvs) H1 Q E
def Wg (C:Addr)(m:Str)(sp:Sp)(dvs:List V)(E:XK)(ta:TE)(t:TA):TE:=λσ H Q=>ta σ H λx H1=>∃a dx fs,x=.ref a/\H1 a=some (.ins C dx fs)/\fs.lookup m=none /\
 t σ H1 λvs H2=>sp (x::(vs++dvs)) H2 Q E
def acL (C:Addr)(sp:Sp)(dvs:List V)(E:XK)(t:TA):TE:=λσ H Q=>t σ H λvs H1=>∀x dx,H1 x=none->H1 dx=none->dx≠x ->
 sp (.ref x::(vs++dvs)) (upd (upd H1 dx (.own x)) x (.ins C dx [])) (λv H2=>v=.non/\Q (.ref x) H2) E
def Binds (K:ba)(fd:kg)(ps:List Str)(ds:List Value):Prop :=
 ∀(s:Shared) (us:List Value),K.In s.heap->(us++ds).length=ps.length->BindsTo s fd ⟨us,[]⟩ (ps.zip (us++ds))
theorem Binds.all {K:ba}{fd:kg}{ps:List Str}(h:∀us:List Value,us.length=ps.length->bindArgs fd ⟨us,[]⟩=pure (ps.zip us)):Binds K fd ps []:=λs us _ hl=>by
 rw[anO]at hl ⊢;exact .of_eq (h us hl)
def Passes (CX:CXT)(X:Cx)(E:XK):Prop:=∀(pins:List (Addr×Obj)) (σ:St) (H:Hp) (s:Shared) (e:Value) (s':Shared),Inv X pins σ H s->CX X.stack H s E e s'->X.xe e s'
section
variable{X:Cx}{CX:CXT}{k:Nat}{f C:Addr}{fd:kg}{ps:List Str}{sp:Sp}{dvs:List V}{ds:List Value}{E:XK}{x m:Str}{p pos apos:Pos}{e o:Expr}{es:List Expr}{ta:TE}{t:TA}
theorem Gu {pins:List (Addr×Obj)}{σ:St}{H:Hp}{s:Shared}{Q:VK}{us:List Value}{vs:List V}(F:aT X.prog X.w X.K X.mg X.base CX k f fd ps sp)(hr:Room k X.A)(hb:Binds X.K fd ps ds)(hd:Vals dvs ds)(hx:Passes CX X E)
  (I:Inv X pins σ H s) (r:Vals vs us) (h:sp (vs++dvs) H Q E):wpAny (model X.prog X.w) X.A (call (.ref f) us) (EP X pins σ Q) X.xe s:=by
 have r2:Vals (vs++dvs) (us++ds):=r.append hd;have hl:(us++ds).length=ps.length:=by rw[<-r2.length];exact F.len _ _ _ _ h
 refine wpAny_call (codeAny_mono (F.run X.A X.stack s H ⟨us,[]⟩ (us++ds) (vs++dvs) Q E hr I.Ue (hb s us I.kIn hl) r2 h) λr s' hq=>?_)
 cases r with
 |error e=>exact hx pins σ H s e s' I hq
 |ok fl =>
  cases fl with
  |ret u=>exact I.after hq
  |next=>exact ans hq
  |brk=>exact ans hq
  |cont=>exact ans hq
theorem bb (F:aT X.prog X.w X.K X.mg X.base CX k f fd ps sp)(hr:Room k X.A)(hg:Gl X x)(hm:X.mg x=some (.ref f))(hk:da X.K (.ref f)=true)(hb:Binds X.K fd ps ds)(hd:Vals dvs ds)(hx:Passes CX X E)
  (ha:PA X (e::es) t) (hdb:(x == ("__debug__":Str))=false:=by decide) (he:ane (e::es) X.env=(false,eval e X.env)::ane es X.env:=by rfl) (hpl:(backTo pos (ane es X.env)).any (·.1)=false:=by rfl) :
  PE X (.Call (.Name x p) (e::es) [] pos) (acK sp dvs E t):=by
 intro pins s σ H Q I h;refine wpAny_Call_Name_kw (lK I hg hm ?_ hdb);refine aoN (h₀:=X.base) I.ok.mod.kin hk (thn (ha pos pins s σ H _ I h) λus s1 ⟨vs,H1,I1,r,q⟩=>⟨I1.kIn,?_⟩) he hpl
 exact Gu F hr hb hd hx I1 r q
theorem f7 {pl:Sem Bool}(he:PE X o ta)(c:Cls X.K C)(hm:Meth X.K C m f)(F:aT X.prog X.w X.K X.mg X.base CX k f fd ps sp)(hr:Room k X.A)(hb:Binds X.K fd ps ds)(hd:Vals dvs ds)(hx:Passes CX X E)(ha:PA X (e::es) t)
  (hst:ane (e::es) X.env=(false,eval e X.env)::ane es X.env:=by rfl) (hpl:(backTo pos (ane es X.env)).any (·.1)=false:=by rfl)
  (ht:eval (.Call (.Attribute o m apos) (e::es) [] pos) X.env=(do
   let ov <-eval o X.env
   standAt apos.atName
   let (f,first) <-holding [ov] (getMethod ov m pl)
   aoO pos f first (backTo pos (ane (e::es) X.env)) (aot pos (an2 [] X.env))):=by rfl) :
  PE X (.Call (.Attribute o m apos) (e::es) [] pos) (Wg C m sp dvs E ta t):=by
 intro pins s σ H Q I h;refine an9 (pl:=pl) (thn (he pins s σ H _ I h) λu s1 ⟨x,H1,I1,rx,a,dx,fs,ex,ea,l,q⟩=>?_) ht
 subst ex;obtain rfl:u=anf a:=rx;refine kD I1 ea c hm l ?_;refine aoN (first:=[.ref a]) (h₀:=X.base) I.ok.mod.kin hm.kp (thn (ha pos pins s1 σ H1 _ I1 q) λus s2 ⟨vs,H2,I2,r,q2⟩=>⟨I2.kIn,?_⟩) hst hpl
 exact Gu (us:=.ref a::us) (vs:=.ref a::vs) F hr hb hd hx I2 (.cons rfl r) q2
theorem dJ {pl:Sem Bool}(he:PE X o ta)(c:Cls X.K C)(hm:Meth X.K C m f)(F:aT X.prog X.w X.K X.mg X.base CX k f fd ps sp)(hr:Room k X.A)(hb:Binds X.K fd ps ds)(hd:Vals dvs ds)(hx:Passes CX X E)
  (ht:eval (.Call (.Attribute o m apos) [] [] pos) X.env=(do
   let ov <-eval o X.env
   standAt apos.atName
   let (f,first) <-holding [ov] (getMethod ov m pl)
   aoO pos f first (backTo pos (ane [] X.env)) (aot pos (an2 [] X.env))):=by rfl) :
  PE X (.Call (.Attribute o m apos) [] [] pos) (Wg C m sp dvs E ta acI):=by
 intro pins s σ H Q I h;refine an9 (pl:=pl) (thn (he pins s σ H _ I h) λu s1 ⟨x,H1,I1,rx,a,dx,fs,ex,ea,l,q⟩=>?_) ht
 subst ex;obtain rfl:u=anf a:=rx;refine kD I1 ea c hm l ?_;exact PySem.W.callWith_K0 (first:=[.ref a]) I1.kIn hm.kp (Gu (us:=[.ref a]) (vs:=[.ref a]) F hr hb hd hx I1 (.cons rfl .nil) q)
structure Mk (K:ba)(C f:Addr):Prop where
 makes:anV K C=true
 init:cb K (.ref C) "__init__"=some (some (.ref f))
 fn:kx K (.ref f)=true
 kp:da K (.ref C)=true
theorem QI {pins:List (Addr×Obj)}{σ:St}{H:Hp}{s:Shared}{Q:VK}{us:List Value}{vs:List V}(M:Mk X.K C f)(F:aT X.prog X.w X.K X.mg X.base CX k f fd ps sp)(hr:Room (k+1) X.A)(hb:Binds X.K fd ps ds)(hd:Vals dvs ds)
  (hx:Passes CX X E) (I:Inv X pins σ H s) (r:Vals vs us)
  (h:∀x dx,H x=none->H dx=none->dx≠x->sp (.ref x::(vs++dvs)) (upd (upd H dx (.own x)) x (.ins C dx [])) (λv H2=>v=.non/\Q (.ref x) H2) E) :
  wpAny (model X.prog X.w) X.A (call (.ref C) us) (EP X pins σ Q) X.xe s:=by
 have hq:=h (s.heap.objs.size+1) s.heap.objs.size (I.hok.fresh (an3 _)) (I.hok.fresh (kj _)) (adm (aoJ _));have I2:=Inv.made (C:=C) I;have r2:Vals (V.ref (s.heap.objs.size+1)::(vs++dvs)) (anf (s.heap.objs.size+1)::(us++ds)):=.cons rfl (r.append hd);have hl:(anf (s.heap.objs.size+1)::us++ds).length=ps.length:=by
  have e:=r2.length;rw[F.len _ _ _ _ hq]at e;exact e.symm
 refine wpAny_call (QH (f:=f) I.kIn M.makes M.init (beq_iff_eq.mp M.fn) (codeAny_mono (F.run _ X.stack _ _ ⟨anf (s.heap.objs.size+1)::us,[]⟩ (anf (s.heap.objs.size+1)::(us++ds)) _ _ E (hr.make C us [])
  (I2.Ue.make C us []) (hb _ (anf (s.heap.objs.size+1)::us) I2.kIn hl) r2 hq) λr s' hq'=>?_))
 cases r with
 |error e=>exact hx pins σ _ _ e s' I2 hq'
 |ok fl =>
  cases fl with
  |ret u =>
   obtain⟨v,H',I3,rv,ev,q3⟩:=I2.after hq';subst ev;exact⟨rv,⟨V.ref (s.heap.objs.size+1),H',I3,rfl,q3⟩⟩
  |next=>exact ans hq'
  |brk=>exact ans hq'
  |cont=>exact ans hq'
theorem f9 (M:Mk X.K C f)(F:aT X.prog X.w X.K X.mg X.base CX k f fd ps sp)(hr:Room (k+1) X.A)(hg:Gl X x)(hm:X.mg x=some (.ref C))(hb:Binds X.K fd ps ds)(hd:Vals dvs ds)(hx:Passes CX X E)
  (ha:PA X (e::es) t) (hdb:(x == ("__debug__":Str))=false:=by decide) (he:ane (e::es) X.env=(false,eval e X.env)::ane es X.env:=by rfl) (hpl:(backTo pos (ane es X.env)).any (·.1)=false:=by rfl) :
  PE X (.Call (.Name x p) (e::es) [] pos) (acL C sp dvs E t):=by
 intro pins s σ H Q I h;refine wpAny_Call_Name_kw (lK I hg hm ?_ hdb);refine aoN (h₀:=X.base) I.ok.mod.kin M.kp (thn (ha pos pins s σ H _ I h) λus s1 ⟨vs,H1,I1,r,q⟩=>⟨I1.kIn,?_⟩) he hpl
 exact QI M F hr hb hd hx I1 r q
end
section
variable{X:Cx}{CX:CXT}{k:Nat}{f C:Addr}{fd:kg}{ps ks:List Str}{sp:Sp}{E:XK}{x m:Str}{p pos apos am0:Pos}{e o:Expr}{es:List Expr}{kws:List Keyword}{te ta:TE}{t tk:TA}{nm:Option Str}
structure akC (K:ba)(fd:kg)(ps ks:List Str)(g:List Value->List Value->List Value)(gV:List V->List V->List V):Prop where
 to:∀(s:Shared) (us ws:List Value),K.In s.heap->(g us ws).length=ps.length->BindsTo s fd ⟨us,ks.zip ws⟩ (ps.zip (g us ws))
 rel:∀ {vs:List V} {us:List Value} {zs:List V} {ws:List Value},Vals vs us->Vals zs ws->Vals (gV vs zs) (g us ws)
variable{g:List Value->List Value->List Value}{gV:List V->List V->List V}
end
structure ax (N P:List Str)(sc:Scope):Prop where
 kind:sc.kind=.function
 co:sc.isCoroutine=false
 gen:sc.isGenerator=false
 nd:N.Nodup
 pre:N.take P.length=P
 par:∀x∈P,sc.names.lookup x=some .local\/sc.names.lookup x=some .cell
 Yd:∀y∈sc.names,y.2≠.free
theorem Fs {kindOf:Str->Option NameKind}{x:Str}:∀ {binds:List (Str×Value)} {m:Str->Option Value},(∀v,(x,v)∉binds)->bindL kindOf binds m x=m x
 |[],_,_=>rfl
 | (n,v)::r,m,h=>by
  unfold bindL;rw[Fs λw hw=>h w (kq _ hw)]
  split
  ·have:x≠n:=by rintro rfl;exact h v kb
   simp[this]
  ·rfl
theorem Ft {kindOf:Str->Option NameKind}{x:Str}:∀ {binds:List (Str×Value)} {m:Str->Option Value},(∀v,(x,v)∉binds)->bindC kindOf binds m x=m x
 |[],_,_=>rfl
 | (n,v)::r,m,h=>by
  unfold bindC;rw[Ft λw hw=>h w (kq _ hw)]
  split
  ·rfl
  ·have:x≠n:=by rintro rfl;exact h v kb
   simp[this]
theorem Fu {kindOf:Str->Option NameKind}{x:Str}{v:Value}:∀ {P:List Str} {vs:List Value} {i:Nat} {m:Str->Option Value},P.Nodup->P[i]?=some x->vs[i]?=some v->kindOf x=some .local ->
  bindL kindOf (P.zip vs) m x=some v
 |[],_,_,_,_,h,_,_=>by simp at h
 |_::_,[],_,_,_,_,h,_=>by simp at h
 |p::P,w::vs,0,m,nd,h1,h2,hk=>by
  simp at h1 h2;subst h1;subst h2;show bindL kindOf ((p,w)::P.zip vs) m p=_;unfold bindL;rw[Fs λv hv=>(List.nodup_cons.mp nd).1 (List.of_mem_zip hv).1,if_pos hk]
  simp
 |p::P,w::vs,i+1,m,nd,h1,h2,hk=>by
  show bindL kindOf ((p,w)::P.zip vs) m x=_;unfold bindL;exact Fu (i:=i) (List.nodup_cons.mp nd).2 (by simpa using h1) (by simpa using h2) hk
theorem Fv {kindOf:Str->Option NameKind}{x:Str}{v:Value}:∀ {P:List Str} {vs:List Value} {i:Nat} {m:Str->Option Value},P.Nodup->P[i]?=some x->vs[i]?=some v->kindOf x≠some .local ->
  bindC kindOf (P.zip vs) m x=some v
 |[],_,_,_,_,h,_,_=>by simp at h
 |_::_,[],_,_,_,_,h,_=>by simp at h
 |p::P,w::vs,0,m,nd,h1,h2,hk=>by
  simp at h1 h2;subst h1;subst h2;show bindC kindOf ((p,w)::P.zip vs) m p=_;unfold bindC;rw[Ft λv hv=>(List.nodup_cons.mp nd).1 (List.of_mem_zip hv).1,if_neg hk]
  simp
 |p::P,w::vs,i+1,m,nd,h1,h2,hk=>by
  show bindC kindOf ((p,w)::P.zip vs) m x=_;unfold bindC;exact Fv (i:=i) (List.nodup_cons.mp nd).2 (by simpa using h1) (by simpa using h2) hk
def start (N:List Str)(vs:List V):St:=vs.map some++aoK (N.length - vs.length) none
def bE (CX:CXT)(P:rf)(w:World)(K:ba)(mg:Str->Option Value)(base:Heap)(N:List Str)(qual:Str)(scope:Scope)(f:Addr)(cd:Value)(A:Around)(outer:List Env)(s:Shared)(H:Hp)(E:XK):Cx where
 prog:=P
 w:=w
 K:=K
 mg:=mg
 base:=base
 A:=A.deeper (envOfC qual scope s.heap.objs.size f cd)
 N:=N
 s₀:=s
 H₀:=H
 env:=envOfC qual scope s.heap.objs.size f cd
 outer:=outer
 stack:=envOfC qual scope s.heap.objs.size f cd::outer
 ex:=[]
 calm:=true
 fn:=λ_=>true
 pn:=[]
 xe:=λe s'=>wpAny (model P w) (A.deeper (envOfC qual scope s.heap.objs.size f cd)) (leaving (envOfC qual scope s.heap.objs.size f cd) e) (λ_ s''=>CX outer H s E e s'') (λe' s''=>CX outer H s E e' s'') s'
theorem Ie {sc:Scope}{n:Nat}{x:Str}(h:sc.names.lookup x=some .cell):∃c,(cellsFrom n sc.names []).lookup x=some c:=by
 have q:=PySem.W.cellsFrom_some sc.names n [] (.inl h);exact Option.isSome_iff_exists.mp q
theorem O1 {CX:CXT}{P:rf}{w:World}{K:ba}{mg:Str->Option Value}{base:Heap}{N ps:List Str}{qual:Str}{scope:Scope}{f:Addr}{cd:Value}{A:Around}{outer:List Env}{s s1:Shared}{H:Hp}{E:XK}{us:List Value}{vs:List V}
  (S:ax N ps scope) (hd:A.handled=none) (e0:EL P w K mg base A outer s H) (hl:vs.length=ps.length) (r:Vals vs us)
  (x:InCallC s s.heap.objs.size (bindL (envOfC qual scope s.heap.objs.size f cd).kindOf (ps.zip us) λ_=>none) (cellsFrom (s.heap.objs.size+1) scope.names []) (bindC (envOfC qual scope s.heap.objs.size f cd).kindOf (ps.zip us) λ_=>none) s1) :
  Inv (bE CX P w K mg base N qual scope f cd A outer s H E) [] (start N vs) H s1:=by
 have hpl:ps.length<=N.length:=by have:=congrArg List.length S.pre;rw[anC]at this;omega
 obtain⟨h1,tk,rfl,hk⟩:=x.done;have noA:∀b:Addr,b∉(bE CX P w K mg base N qual scope f cd A outer s H E).ex:=λb z=>absurd (show b∈([]:List Addr) from z) (by simp)
 refine⟨⟨e0.mod,S.kind,rfl,rfl,kj _,λy z c h1 h2=>?_,λy hy=>?_,λy c _ h=>?_,λ_=>hd,Around.frames_deeper e0.frames,.inr ⟨rfl,rfl⟩,λb z=>absurd z (noA b),e0.bs,e0.bsz,λb _ _=>noA b,λb z=>absurd z (noA b),e0.wW,e0.frf⟩,
  rfl,e0.bare,Un.kept hk,⟨_,x.toInCall.ns,λi y v h1 h2 h3=>?_⟩,λy c h=>⟨_,x.cell y c h⟩,e0.hok.fresh (kj _),λy c h=>?_,λp hp=>absurd (show p∈([]:List (Addr×Obj)) from hp) (by simp),e0.hok.kept hk,?_⟩
 ·exact name_of_addr x.apart (aoh h1) (aoh h2)
 ·have hy:scope.names.lookup y=some .cell\/scope.names.lookup y=some .free:=hy;rcases hy with hy | hy
  ·exact Ie hy
  ·exact absurd rfl (S.Yd _ (aoh hy))
 ·exact Nat.le_of_lt (x.above y c (aoh h))
 ·have hi:i < vs.length:=by
   unfold start at h2
   by_cases hi:i < vs.length
   ·exact hi
   ·rw[aou (by simpa using hi)]at h2
    rw[List.getElem?_replicate]at h2;split at h2 <;> cases h2
  have ha:vs[i]?=some v:=by
   unfold start at h2;rw[aow (by simpa using hi),ant]at h2
   cases e:vs[i]? with
   |none=>rw[e]at h2;cases h2
   |some a=>rw[e]at h2;cases h2;rfl
  obtain⟨u,hu,rv⟩:=r.get ha;have hp:ps[i]?=some y:=by
   rw[<-S.pre,List.getElem?_take_of_lt (by omega)];exact h1
  have ndP:ps.Nodup:=by rw[<-S.pre];exact S.nd.sublist (List.take_sublist _ _)
  refine⟨u,rv,?_⟩;rcases S.par y (anh hp) with k | k
  ·exact .inl ⟨k,Fu ndP hp hu k⟩
  ·obtain⟨c,e⟩:=Ie (n:=s.heap.objs.size+1) k;refine .inr ⟨.inl k,c,e,?_⟩;have q:=x.cell y c e;rw[Fv ndP hp hu (by show scope.names.lookup y≠_;rw[k];decide)]at q
   exact q
 ·exact e0.hok.fresh (Nat.le_of_lt (x.above y c (aoh h)))
 ·unfold start;show _=N.length;rw[ki,bo,aoi];omega
theorem Wh {CX:CXT}{P:rf}{w:World}{K:ba}{mg:Str->Option Value}{base:Heap}{k:Nat}{f:Addr}{name qual:Str}{params:Arguments}{body:List Stmt}{scope:Scope}{dV kV doc pm cdv ct oc:Value}{an od:Option Addr}
  {osl:Array (Option Value)} {N ps:List Str} {sp:Sp} (lk:K.lookup f=some ⟨oc,od,.func (fu name qual params body scope dV kV doc pm an cdv ct),osl⟩) (hcd:eg K cdv qual=true) (S:ax N ps scope)
  (len:∀vs H Q E,sp vs H Q E->vs.length=ps.length)
  (Ig:∀(A:Around) (outer:List Env) (s:Shared) (H:Hp) (vs:List V) (Q:VK) (E:XK),Room k (A.deeper (envOfC qual scope s.heap.objs.size f cdv))->sp vs H Q E ->
   ∃t,PSs (bE CX P w K mg base N qual scope f cdv A outer s H E) body t/\t { nx:=λ_ H'=>Q .non H',rt:=Q } (start N vs) H) :
  aT P w K mg base CX (k+1) f (fu name qual params body scope dV kV doc pm an cdv ct) ps sp:=by
 refine⟨len,λA outer s H args us vs Q E hr e0 hb r hsp=>?_⟩
 have hl:=len _ _ _ _ hsp;have KX:K.In s.heap:=e0.mod.kin.keeps λb o e=>(e0.bs b o e).1
 have lim:s.heap.NoLimit:=e0.mod.nolimit.keeps λb o e=>(e0.bs b o e).1
 have acM:∀y∈ps.zip us,scope.names.lookup y.1=some .local\/(scope.names.lookup y.1=some .cell/\((cellsFrom (s.heap.objs.size+1) scope.names []).lookup y.1).isSome=true):=λ⟨n,v⟩ hy=>by
  rcases S.par n (List.of_mem_zip hy).1 with q | q
  ·exact .inl q
  ·exact .inr ⟨q,PySem.W.cellsFrom_some _ _ _ (.inl q)⟩
 refine codeAny_call_function hr.depth (KX _ _ lk) rfl S.co S.gen rfl (PySem.W.codeRec_of KX hcd) (hb _ _ _ _ ?_);refine wpAny_newFunctionEnv_cells S.kind acM λenv he s1 x=>?_
 subst he;refine⟨lim.keeps x.toInCall.keep,codeAny_func ?_⟩;obtain⟨t,ht,hq⟩:=Ig A outer s H vs Q E (hr.deeper _) hsp;have I:Inv (bE CX P w K mg base N qual scope f cdv A outer s H E) [] (start N vs) H s1:=O1 S hr.hd e0 hl r x;refine tu (ht [] s1 (start N vs) H _ I hq) (λfl s' hs=>?_) λe s' hs=>hs
 have fin:∀ {σ':St} {H':Hp} {v:V} {u:Value},Inv (bE CX P w K mg base N qual scope f cdv A outer s H E) [] σ' H' s'->RelV v u->Q v H'->CE outer P w H s Q u s' :=
  λ{σ' H' v u} J rv q=>⟨v,H',J.os,J.bare,J.base,J.hok,rv,q⟩
 cases fl with
 |ret u =>
  obtain⟨v,σ',H',J,rv,q⟩:=hs;exact fin J rv q
 |next =>
  obtain⟨σ',H',J,q⟩:=hs;exact fin (v:=V.non) (u:=aok) J rfl q
 |brk =>
  obtain⟨_,_,_,q⟩:=hs;exact ans q
 |cont =>
  obtain⟨_,_,_,q⟩:=hs;exact ans q
section
variable{X:Cx}{x:Str}{p pos:Pos}{e:Expr}{es:List Expr}{t:TA}{id T:String}{r:List V->Hp->VK->Prop}
def tCB (r:List V->Hp->VK->Prop)(t:TA):TE:=λσ H Q=>t σ H λvs H1=>r vs H1 Q
theorem bT (hc:jM X (.builtin id) r)(hg:Gl X x)(hm:X.mg x=none)(hv:anS x=some (.builtin id))(ha:PA X (e::es) t)(hn:x≠"__name__":=by decide)(hdb:(x == ("__debug__":Str))=false:=by decide)
  (he:ane (e::es) X.env=(false,eval e X.env)::ane es X.env:=by rfl) (hpl:(backTo pos (ane es X.env)).any (·.1)=false:=by rfl):PE X (.Call (.Name x p) (e::es) [] pos) (tCB r t):=by
 intro pins s σ H Q I h;refine wpAny_Call_Name_kw (C5 I hg hm hv ?_ hn hdb);exact PyProof.Rows.callWith_builtin1 (thn (ha pos pins s σ H _ I h) λus s1 ⟨vs,H1,I1,r1,q1⟩=>hc pins s1 σ H1 vs us Q I1 r1 q1) he hpl
theorem dQ (hc:jM X (.type T) r)(hg:Gl X x)(hm:X.mg x=none)(hv:anS x=some (.type T))(ha:PA X (e::es) t)(hn:x≠"__name__":=by decide)(hdb:(x == ("__debug__":Str))=false:=by decide)
  (he:ane (e::es) X.env=(false,eval e X.env)::ane es X.env:=by rfl) (hpl:(backTo pos (ane es X.env)).any (·.1)=false:=by rfl):PE X (.Call (.Name x p) (e::es) [] pos) (tCB r t):=by
 intro pins s σ H Q I h;refine wpAny_Call_Name_kw (C5 I hg hm hv ?_ hn hdb);exact PyProof.Rows.callWith_type1 (thn (ha pos pins s σ H _ I h) λus s1 ⟨vs,H1,I1,r1,q1⟩=>hc pins s1 σ H1 vs us Q I1 r1 q1) he hpl
end
end L2
namespace HT
open PySem PyProof.Rows
section
open PySem.SeqAt
open PySem.AutoSeq1 (wpAny_loadPart')
open PySem.MeetsSeq PySem.MeetsSeq2 PySem.MeetsSeq3
end
section
variable{prog:rf}{w:World}{A:Around}{E:Value->Shared->Prop}{s:Shared}
def sIx (n d:Nat):Option Int->Nat
 |none=>d
 |some v=>if v < 0 then (v+(n:Int)).toNat else min v.toNat n
theorem De (n d:Nat):sIx n d none=d:=rfl
theorem yC (n d k:Nat):sIx n d (some (k:Int))=min k n:=by
 show (if (k:Int) < 0 then ((k:Int)+(n:Int)).toNat else min (k:Int).toNat n)=min k n
 rw[if_neg (by omega),Int.toNat_natCast]
theorem Ye (n d:Nat)(hd:d<=n)(o:Option Int):sIx n d o<=n:=by
 cases o with
 |none=>exact hd
 |some v =>
  show (if v < 0 then (v+(n:Int)).toNat else min v.toNat n)<=n
  by_cases hv:v < 0
  ·rw[if_pos hv];omega
  ·rw[if_neg hv];exact Nat.min_le_right _ _
theorem N4 (v:Int)(n d:Nat):(if v < 0 then max (v+(n:Int)) 0 else min v (n:Int))=((sIx n d (some v):Nat):Int):=by
 show (if v < 0 then max (v+(n:Int)) 0 else min v (n:Int))=(((if v < 0 then (v+(n:Int)).toNat else min v.toNat n):Nat):Int)
 by_cases hv:v < 0
 ·simp only[if_pos hv];omega
 ·simp only[if_neg hv];omega
theorem LI (lo hi:Option Int)(n:Nat):Builtin.Slice.sliceAdjust lo hi 1 (n:Int)=(((sIx n 0 lo:Nat):Int),((sIx n n hi:Nat):Int)):=by
 have h1:¬((1:Int) < 0):=by omega
 unfold Builtin.Slice.sliceAdjust;simp only[h1,if_false];refine Prod.ext ?_ ?_
 ·cases lo with
  |none=>rfl
  |some v=>exact N4 v n 0
 ·cases hi with
  |none=>rfl
  |some v=>exact N4 v n n
theorem LJ (i j:Nat):aox (i:Int) (j:Int) 1=j - i:=by
 unfold aox;have h1:(1:Int) > 0:=by omega
 simp only[h1,if_true,Int.ediv_one];split <;> omega
theorem Df {v:Value}{o:Option Int}{Q:Option Int->Shared->Prop}(p:IsPart v o)(h:Q o s):wpAny (model prog w) A (Builtin.Slice.slicePartIndex v) Q E s:=by
 cases p with
 |none=>exact slicePart_none h
 |int i t=>exact slicePart_int h
theorem zW {sl:Addr}{vl vu:Value}{lo hi:Option Int}{n:Nat}{Q:Int×Int×Nat->Shared->Prop}(hs:s.heap.IsSliceOf sl vl vu .none)(pl:IsPart vl lo)(pu:IsPart vu hi)
  (h:Q (((sIx n 0 lo:Nat):Int),1,sIx n n hi - sIx n 0 lo) s):wpAny (model prog w) A (Builtin.Slice.sliceApplied (.ref sl) (pure (n:Int))) Q E s:=by
 obtain⟨os,hos,hcs,hds⟩:=id hs;unfold Builtin.Slice.sliceApplied Builtin.Slice.sliceFields;refine gc (gc (wpAny_field hos hds (x:=vl) rfl (gc (wpAny_field hos hds (x:=vu) rfl (gc (wpAny_field hos hds (x:=.none) rfl (wt ?_)))))));refine gc (slicePart_none ?_);show wpAny _ _ (if ((1:Int) == 0)=true then _ else _) _ _ s
 rw[if_neg (by decide)]
 refine gc (Df pl (gc (Df pu (gc (wt ?_)))));show wpAny _ _ (match Builtin.Slice.sliceAdjust lo hi 1 (n:Int) with | (lo,hi)=>pure (lo,(1:Int),aox lo hi 1)) _ _ s
 rw[LI lo hi n];show wpAny _ _ (pure (((sIx n 0 lo:Nat):Int),(1:Int),aox ((sIx n 0 lo:Nat):Int) ((sIx n n hi:Nat):Int) 1)) _ _ s;rw[LJ];exact wt h
theorem QJ (xs:Array Value)(i k:Nat):((aoE k).filterMap λ(m:Nat)=>xs[((i:Int)+(m:Int) * 1).toNat]?).toArray=((xs.toList.drop i).take k).toArray:=by
 have e:(λ(m:Nat)=>xs[((i:Int)+(m:Int) * 1).toNat]?)=λm=>xs[i+m]?:=by
  funext m
  have:((i:Int)+(m:Int) * 1).toNat=i+m:=by omega
  rw[this]
 rw[e];have:=pick_run xs i k;rw[List.filterMap_map]at this;have e2:((λx=>xs[x]?)∘λx=>i+x)=λm=>xs[i+m]?:=rfl
 rw[e2]at this;rw[this]
theorem yD {t sl:Addr}{items:Array Value}{vl vu:Value}{lo hi:Option Int}{Q:Value->Shared->Prop}(ht:IsTup s.heap t items)(hs:s.heap.IsSliceOf sl vl vu .none)(pl:IsPart vl lo)(pu:IsPart vu hi)
  (hw:¬(sIx items.size 0 lo=0/\sIx items.size items.size hi=items.size))
  (h:Q (.ref s.heap.objs.size) { s with heap:=s.heap.push { cls:=.type "tuple",data:=.seq ((items.toList.drop (sIx items.size 0 lo)).take (sIx items.size items.size hi - sIx items.size 0 lo)).toArray } })
  (hsz:items.size<=gr):wpAny (model prog w) A (getItem (.ref t) (.ref sl)) Q E s:=by
 have N5:sizeOk (.seq ((items.toList.drop (sIx items.size 0 lo)).take (sIx items.size items.size hi - sIx items.size 0 lo)).toArray):=by
  show ((items.toList.drop (sIx items.size 0 lo)).take (sIx items.size items.size hi - sIx items.size 0 lo)).toArray.size<=gr;rw[om,anC,an6,Array.length_toList];omega
 have hj:sIx items.size items.size hi<=items.size:=Ye _ _ (kj _) hi;obtain⟨os,hos,hcs,hds⟩:=id hs;have hTs:s.TypeIs (.ref sl) "slice":=⟨os,hos,hcs⟩;unfold getItem
 try with_reducible refine an4 ?_
 first | refine gc (wt ?_) | skip
 refine gc (wpAny_sequenceKey ht.typeIs (by decide) ?_)
 refine gc (wpAny_callSpecial?_slot (name:=ar "__getitem__") ht.typeIs PyProof.Rows.slot_tuple_getitem
  (wpAny_call_entry PyProof.Rows.slot_tuple_getitem ht.typeIs entry_tuple_getitem ?_ (args_tuple_getitem _ _)))
 show wpAny _ _ (Builtin.Tuple.tupleItemsOf (.ref t) >>= _) _ _ s;refine gc (tupleItemsOf_ ht ?_);refine gc (wpAny_typeOf hTs ?_);rw[if_pos (by decide)]
 refine gc (zW hs pl pu ?_);have hno:¬((((sIx items.size 0 lo:Nat):Int) == 0 && (1:Int) == 1 && (sIx items.size items.size hi - sIx items.size 0 lo) == items.size)=true):=by
  intro q;rw[anA,anA]at q;have q1:((sIx items.size 0 lo:Nat):Int)=0:=eq_of_beq q.1.1;have q2:sIx items.size items.size hi - sIx items.size 0 lo=items.size:=eq_of_beq q.2;exact hw ⟨by omega,by omega⟩
 show wpAny _ _ (if (((sIx items.size 0 lo:Nat):Int) == 0 && (1:Int) == 1 && (sIx items.size items.size hi - sIx items.size 0 lo) == items.size)=true then _ else _) _ _ s
 rw[if_neg hno,QJ]
 first
  |exact gc (m:=aoF _) (wpAny_newObj_type (wt ⟨_,rfl,wt h⟩) N5)
  |exact gc (m:=aoF _) (wpAny_newObj_type (gc (wt (wt ⟨_,rfl,wt h⟩))) N5)
  |exact gc (gc (m:=aoF _) (wpAny_newObj_type (wt (wt ⟨_,rfl,wt h⟩)) N5))
  |exact gc (gc (m:=aoF _) (wpAny_newObj_type (wt ⟨_,rfl,wt h⟩) N5))
end
end HT
namespace L2
open PySem PySem.Spec PyProof.Rows
abbrev TO:=St->Hp->(Option Int->Hp->Prop)->Prop
def PO (X:Cx)(e:Option Expr)(t:TO):Prop :=
 ∀(pins:List (Addr×Obj)) (s:Shared) (σ:St) (H:Hp) (Q:Option Int->Hp->Prop),Inv X pins σ H s->t σ H Q ->
  wpAny (model X.prog X.w) X.A (evalPart e X.env) (λu s'=>∃o H',Inv X pins σ H' s'/\IsPart u o/\Q o H') X.xe s
def Ug:TO:=λ_ H Q=>Q none H
def acN (t:TE):TO:=λσ H Q=>t σ H λx H1=>∃i,x=.int i/\Q (some i) H1
section
variable{X:Cx}{e:Expr}{te:TE}{lo hi:Option Expr}{tl th:TO}{pos p2:Pos}
theorem mW:PO X none Ug:=by
 intro pins s σ H Q I h;rw[evalPart_none];exact wt ⟨none,H,I,.none,h⟩
theorem jN (h:PE X e te):PO X (some e) (acN te):=by
 intro pins s σ H Q I hw;rw[evalPart_some];refine thn (h pins s σ H _ I hw) λu s1 ⟨x,H1,I1,r1,q1⟩=>?_
 obtain⟨i,rfl,q⟩:=q1;obtain⟨t,rfl⟩:=r1;exact⟨some i,H1,I1,.int i t,q⟩
def SlR (X:Cx)(r:V->Option Int->Option Int->Hp->VK->Prop):Prop :=
 ∀(pins:List (Addr×Obj)) (s:Shared) (σ:St) (H:Hp) (x:V) (v vl vu:Value) (lo hi:Option Int) (sl:Addr) (Q:VK),Inv X pins σ H s->RelV x v->s.heap.IsSliceOf sl vl vu .none->IsPart vl lo->IsPart vu hi->r x lo hi H Q ->
  ∃T id,typeLookup (.type T) "__getitem__"=pure (some (.builtin id))/\s.TypeIs v T/\wpAny (model X.prog X.w) X.A (getItem v (.ref sl)) (EP X pins σ Q) X.xe s
theorem SlR.or {r r':V->Option Int->Option Int->Hp->VK->Prop}(h:SlR X r)(h':SlR X r'):SlR X (λx lo hi H Q=>r x lo hi H Q\/r' x lo hi H Q):=by
 intro pins s σ H x v vl vu lo hi sl Q I rx hs pl pu q;rcases q with q | q
 ·exact h pins s σ H x v vl vu lo hi sl Q I rx hs pl pu q
 ·exact h' pins s σ H x v vl vu lo hi sl Q I rx hs pl pu q
def tSl (r:V->Option Int->Option Int->Hp->VK->Prop)(te:TE)(tl th:TO):TE:=λσ H Q=>te σ H λx H1=>tl σ H1 λl H2=>th σ H2 λu H3=>r x l u H3 Q
theorem iX {r:V->Option Int->Option Int->Hp->VK->Prop}(hr:SlR X r)(he:PE X e te)(hl:PO X lo tl)(hu:PO X hi th):PE X (.Subscript e (.Slice lo hi none p2) pos) (tSl r te tl th):=by
 intro pins s σ H Q I h;refine Subscript_ (thn (he pins s σ H _ I h) λv s1 ⟨x,H1,I1,r1,q1⟩=>?_)
 refine wpAny_Slice (thn (hl pins s1 σ H1 _ I1 q1) λvl s2 ⟨l,H2,I2,pl,q2⟩=>thn (hu pins s2 σ H2 _ I2 q2) λvu s3 ⟨u,H3,I3,pu,q3⟩=>?_)
 rw[evalPart_none];refine wt ?_;have I4:Inv X pins σ H3 { s3 with heap:=s3.heap.push { cls:=.type "slice",data:=.fields #[vl,vu,.none] } }:=I3.kept (t':=s3.toks) λb ob q=>gp _ q
 obtain⟨T,id,hT,ht,hg⟩:=hr pins { s3 with heap:=s3.heap.push { cls:=.type "slice",data:=.fields #[vl,vu,.none] } } σ H3 x v vl vu l u s3.heap.objs.size Q I4 r1 (Heap.IsSliceOf.new ..) pl pu q3
 show wpAny (model X.prog X.w) X.A (subscriptTail e (.Slice lo hi none p2) v (.ref s3.heap.objs.size)) (EP X pins σ Q) X.xe { s3 with heap:=s3.heap.push { cls:=.type "slice",data:=.fields #[vl,vu,.none] } }
 exact tail_any (ops:=[.ref s3.heap.objs.size,v]) ht hT hg (by with_unfolding_all rfl)
def kF (xs:List V)(lo hi:Option Int):List V:=(xs.drop (HT.sIx xs.length 0 lo)).take (HT.sIx xs.length xs.length hi - HT.sIx xs.length 0 lo)
theorem Bd (xs:List V)(lo hi:Option Int):(kF xs lo hi).length<=xs.length:=by
 unfold kF;rw[anC,an6];omega
def akD (K:ba):V->Option Int->Option Int->Hp->VK->Prop:=λx lo hi H Q=>∃a xs,x=.ref a/\SqT K H a xs /\
 ¬(HT.sIx xs.length 0 lo=0/\HT.sIx xs.length xs.length hi=xs.length)/\∀p,H p=none->Q (.ref p) (upd H p (.tup (kF xs lo hi)))
theorem Yf:SlR X (akD X.K):=by
 intro pins s σ H x v vl vu lo hi sl Q I rx hs pl pu h;obtain⟨a,xs,rfl,hx,hw,q⟩:=h;cases rx;obtain⟨its,r,ht,hz⟩:=I.tuple hx;have hlen:its.toArray.size=xs.length:=by rw[om];exact r.length.symm
 refine⟨"tuple",_,PyProof.Rows.slot_tuple_getitem.lookup,ht.typeIs,?_⟩;refine HT.yD ht hs pl pu (by rw[hlen];exact hw) ?_ (by rw[hlen];exact hz)
 rw[hlen];refine⟨.ref s.heap.objs.size,_,I.laid (t':=s.toks) (o:=.tup (kF xs lo hi)) (λb ob q=>gp _ q) (kj _) ?_,rfl,q _ (I.hok.fresh (kj _))⟩
 exact⟨si (Bd xs lo hi) hz,_,(r.drop (HT.sIx xs.length 0 lo)).take (HT.sIx xs.length xs.length hi - HT.sIx xs.length 0 lo),IsTup.new _ _⟩
end
def ixN (n:Nat)(i:Int):Option Nat:=if 0<=i then (if i < n then some i.toNat else none) else if -(n:Int)<=i then some (i+n).toNat else none
def atI {α:Type}(xs:List α)(i:Int):Option α:=(ixN xs.length i).bind λj=>xs[j]?
theorem Gv {n:Nat}{i:Int}{j:Nat}(h:ixN n i=some j):seqIndex? i n=some j/\j < n/\-(n:Int)<=i/\i < n:=by
 unfold ixN at h
 by_cases h0:0<=i
 ·rw[if_pos h0]at h
  by_cases h1:i < n
  ·rw[if_pos h1]at h;have e:i.toNat=j:=anb h;exact⟨by rw[seqIndex_of h0 h1,e],by omega,by omega,h1⟩
  ·rw[if_neg h1]at h;cases h
 ·rw[if_neg h0]at h
  by_cases h1:-(n:Int)<=i
  ·rw[if_pos h1]at h;have e:(i+n).toNat=j:=anb h;exact⟨by rw[seqIndex_neg (by omega) h1,e],by omega,h1,by omega⟩
  ·rw[if_neg h1]at h;cases h
theorem Gw {α:Type}{xs:List α}{i:Int}{v:α}(h:atI xs i=some v):∃j,seqIndex? i xs.length=some j/\xs[j]?=some v/\j < xs.length/\-(xs.length:Int)<=i/\i < xs.length:=by
 unfold atI at h;cases e:ixN xs.length i with
 |none=>rw[e]at h;cases h
 |some j =>
  rw[e]at h;obtain⟨h1,h2,h3,h4⟩:=Gv e;exact⟨j,h1,h,h2,h3,h4⟩
theorem pQ {α:Type}{xs:List α}{j:Nat}{v:α}(h:xs[j]?=some v):atI xs (j:Int)=some v:=by
 have hj:j < xs.length:=(List.getElem?_eq_some_iff.mp h).1;have e:ixN xs.length (j:Int)=some j:=by
  unfold ixN;rw[if_pos (by omega),if_pos (by omega)];simp
 unfold atI;rw[e];exact h
theorem uJ {α:Type}(xs:List α)(v:α):atI (xs++[v]) (-1)=some v:=by
 have hl:(xs++[v]).length=xs.length+1:=by simp
 have e:ixN (xs++[v]).length (-1)=some xs.length:=by
  unfold ixN;rw[hl,if_neg (by decide),if_pos (by omega)]
  congr 1
  omega
 unfold atI;rw[e];show (xs++[v])[xs.length]?=some v;simp
def Uh (b:Expr):Prop:=∀o i,subscripted b false o i=operate [o,i] (getItem o i)
def IxR (X:Cx)(r:R2):Prop :=
 ∀(value slice:Expr) (pins:List (Addr×Obj)) (s:Shared) (σ:St) (H:Hp) (x y:V) (v u:Value) (Q:VK),Inv X pins σ H s->RelV x v->RelV y u->r x y H Q ->
  subscripted slice false v u=operate [v,u] (getItem v u)->wpAny (model X.prog X.w) X.A (subscriptTail value slice v u) (EP X pins σ Q) X.xe s
def MtR (X:Cx)(id:String)(r:V->List V->Hp->VK->Prop):Prop :=
 ∀(pins:List (Addr×Obj)) (s:Shared) (σ:St) (H:Hp) (x:V) (xs:List V) (v:Value) (us:List Value) (Q:VK),Inv X pins σ H s->RelV x v->Vals xs us->r x xs H Q ->
  wpAny (model X.prog X.w) X.A (call (.builtin id) (v::us)) (EP X pins σ Q) X.xe s
section
variable{X:Cx}{a b:Expr}{ta tb:TE}{pos:Pos}
theorem IxR.or {r r':R2}(h:IxR X r)(h':IxR X r'):IxR X (λx y H Q=>r x y H Q\/r' x y H Q):=by
 intro value slice pins s σ H x y v u Q I rx ry q hs;rcases q with q | q
 ·exact h value slice pins s σ H x y v u Q I rx ry q hs
 ·exact h' value slice pins s σ H x y v u Q I rx ry q hs
theorem MtR.or {id:String}{r r':V->List V->Hp->VK->Prop}(h:MtR X id r)(h':MtR X id r'):MtR X id (λx xs H Q=>r x xs H Q\/r' x xs H Q):=by
 intro pins s σ H x xs v us Q I rx rs q;rcases q with q | q
 ·exact h pins s σ H x xs v us Q I rx rs q
 ·exact h' pins s σ H x xs v us Q I rx rs q
theorem aZ {r:R2}(hr:IxR X r)(ha:PE X a ta)(hb:PE X b tb)(hs:Uh b):PE X (.Subscript a b pos) (tOp r ta tb):=by
 intro pins s σ H Q I h;exact Subscript_ (X0 ha hb I h λv u s2 x y H2 I2 rx ry q=>hr a b pins s2 σ H2 x y v u Q I2 rx ry q (hs _ _))
def Yg (K:ba):R2:=λx y H Q=>∃p xs i v,x=.ref p/\y=.int i/\SqL K H p xs/\atI xs i=some v/\Q v H
def acO (K:ba):R2:=λx y H Q=>∃p xs i v,x=.ref p/\y=.int i/\SqT K H p xs/\atI xs i=some v/\Q v H
def acP:R2:=λx y H Q=>∃z i c,x=.str z/\y=.int i/\z.length<=gr/\atI z.cps.toList i=some c/\Q (.str ⟨#[c]⟩) H
theorem bz:IxR X (Yg X.K):=by
 intro value slice pins s σ H x y v u Q I rx ry h hs;obtain⟨p,xs,i,z,rfl,rfl,hq,he,q⟩:=h;cases rx;obtain⟨t,rfl⟩:=ry;obtain⟨its,r,pl,hz⟩:=I.list hq;obtain⟨j,h1,h2,h3,h4,h5⟩:=Gw he;obtain⟨w,ew,rw'⟩:=r.get h2;have hl:=r.length;have hn:=xy;have fin:EP X pins σ Q w s:=⟨z,H,I,rw',q⟩
 by_cases h0:0<=i
 ·have hj:i.toNat=j:=by
   rw[seqIndex_of h0 h5]at h1;exact anb h1
  exact item_listR pl.isList h0 (by omega) (by rw[hj];simpa using ew) fin hs
 ·have hj:(i+(its.toArray.size:Int)).toNat=j:=by
   rw[seqIndex_neg (by omega) h4]at h1
   rw[om,<-hl];exact anb h1
  exact subscriptTail_builtinR (x:=w) pl.isList.typeIs slot_list_getitem.lookup
   (wpAny_getItem_list_neg (Q:=λr s'=>r=w/\EP X pins σ Q r s') pl.isList (by omega) (by rw[om] <;> omega) (by omega) (by rw[hj];simpa using ew) ⟨rfl,fin⟩) hs
theorem bx:IxR X (acO X.K):=by
 intro value slice pins s σ H x y v u Q I rx ry h hs;obtain⟨p,xs,i,z,rfl,rfl,hq,he,q⟩:=h;cases rx;obtain⟨t,rfl⟩:=ry;obtain⟨its,r,pl,hz⟩:=I.tuple hq;obtain⟨j,h1,h2,h3,h4,h5⟩:=Gw he;obtain⟨w,ew,rw'⟩:=r.get h2;have hl:=r.length;have hn:=xy;have fin:EP X pins σ Q w s:=⟨z,H,I,rw',q⟩;exact subscriptTail_builtinR (x:=w) pl.typeIs slot_tuple_getitem.lookup
  (getItem_tuple (j:=j) (Q:=λr s'=>r=w/\EP X pins σ Q r s') pl (by omega) (by omega) (by rw[om,<-hl];exact h1) (by simpa using ew) ⟨rfl,fin⟩) hs
theorem QK:IxR X acP:=by
 intro value slice pins s σ H x y v u Q I rx ry h hs;obtain⟨z,i,c,rfl,rfl,hz,he,q⟩:=h;obtain⟨t,rfl⟩:=rx;obtain⟨t',rfl⟩:=ry;obtain⟨j,h1,h2,h3,h4,h5⟩:=Gw he;have hl:z.cps.toList.length=z.length:=by simp[Str.length]
 rw[hl]at h1 h4 h5;have hn:=xy;exact tail_any (typeIs_str s z t) slot_str_getitem.lookup (getItem_str (c:=c) (by
  have e1:decide (i < -(2 ^ 63:Int))=false:=decide_eq_false (by omega)
  have e2:decide (i≥2 ^ 63)=false:=decide_eq_false (by omega)
  rw[e1,e2,Bool.or_false]) (by rw[h1];simpa using h2) ⟨.str ⟨#[c]⟩,H,I.tok _,⟨_,rfl⟩,q⟩) hs
def rIx (K:ba):R2:=λx y H Q=>Yg K x y H Q\/acO K x y H Q\/acP x y H Q
theorem Yh:IxR X (rIx X.K):=bz.or (bx.or QK)
theorem LK (its:List Value)(n j:Nat)(u:Value):Obj.mapSeq (·.setIfInBounds j u) { cls:=.type "list",data:=.seq its.toArray n }={ cls:=.type "list",data:=.seq (its.set j u).toArray n }:=by
 simp[Obj.mapSeq]
theorem Inv.lst {pins:List (Addr×Obj)}{σ:St}{H:Hp}{s:Shared}{p:Addr}{xs:List V}(I:Inv X pins σ H s)(h:H p=some (.lst xs)) :
  ∃(its:List Value) (n:Nat),Vals xs its/\s.heap.get? p=some { cls:=.type "list",data:=.seq its.toArray n }/\xs.length<=gr:=by
 obtain⟨z,its,n,r,e⟩:=I.hok p _ h;exact⟨its,n,r,e,z⟩
theorem Inv.Yi {pins:List (Addr×Obj)}{σ:St}{H:Hp}{s:Shared}{p:Addr}{xs ys:List V}{its its':List Value}{n n':Nat}{f:Obj->Obj}(I:Inv X pins σ H s)(h:H p=some (.lst xs))
  (ho:s.heap.get? p=some { cls:=.type "list",data:=.seq its.toArray n }) (hf:f { cls:=.type "list",data:=.seq its.toArray n }={ cls:=.type "list",data:=.seq its'.toArray n' }) (r:Vals ys its') (hz:ys.length<=gr) (t:Nat) :
  Inv X pins σ (upd H p (.lst ys)) { s with heap:=s.heap.update p f,toks:=t }:=by
 have e:(s.heap.update p f).get? p=some { cls:=.type "list",data:=.seq its'.toArray n' }:=by
  rw[aoj f ho (by rw[hf] <;> rfl),hf]
 refine I.write (x:=p) (e:=p) (by rw[h];trivial) (.inl rfl) (λb u hb q=>(anT _ _ (anj hb)).trans q) ⟨_,e⟩ ?_
 exact⟨hz,its',n',r,e⟩
def acQ:V->V->V->Hp->(Hp->Prop)->Prop:=λo i v H Q=>∃p xs k j,o=.ref p/\i=.int k/\H p=some (.lst xs)/\ixN xs.length k=some j/\Q (upd H p (.lst (xs.set j v)))
theorem set_list:acx X acQ:=by
 intro pins s σ H o i v ov iv u Q I ro ri rv h;obtain⟨p,xs,k,j,rfl,rfl,hp,hj,q⟩:=h;cases ro;obtain⟨t,rfl⟩:=ri;obtain⟨its,n,r,ho,hz⟩:=I.lst hp;obtain⟨h1,h2,h3,h4⟩:=Gv hj;have hl:=r.length;have hn:=xy;have I':Inv X pins σ (upd H p (.lst (xs.set j v))) { s with heap:=s.heap.update p (Obj.mapSeq (·.setIfInBounds j u)) } :=
  I.Yi hp ho (LK its n j u) (r.set rv j) (by rw[aoy];exact hz) s.toks
 by_cases h0:0<=k
 ·have hk:k.toNat=j:=by
   rw[seqIndex_of h0 h4]at h1;exact anb h1
  exact PySem.W.ki_setAt ho h0 (by omega) (by rw[om,<-hl];exact h4) (by rw[hk];exact⟨_,I',q⟩)
 ·have hk:(k+(its.toArray.size:Int)).toNat=j:=by
   rw[seqIndex_neg (by omega) h3]at h1
   rw[om,<-hl];exact anb h1
  exact PySem.W.ki_setBack ho (by omega) (by rw[om,<-hl];exact h3) (by omega) (by rw[hk];exact⟨_,I',q⟩)
theorem Gx (lo hi:Option Int)(n:Nat):(sliceBounds lo hi none n).1=((HT.sIx n 0 lo:Nat):Int)/\(sliceBounds lo hi none n).2.1=((HT.sIx n n hi:Nat):Int)/\(sliceBounds lo hi none n).2.2=1:=by
 refine⟨?_,?_,rfl⟩
 ·cases lo with
  |none=>simp[sliceBounds,HT.sIx]
  |some i =>
   simp only[sliceBounds,HT.sIx,Option.getD_none,show (1:Int) > 0 by decide,if_true]
   by_cases h:i < 0
   ·simp only[h,if_true] <;> omega
   ·simp only[h,if_false] <;> omega
 ·cases hi with
  |none=>simp[sliceBounds,HT.sIx]
  |some i =>
   simp only[sliceBounds,HT.sIx,Option.getD_none,show (1:Int) > 0 by decide,if_true]
   by_cases h:i < 0
   ·simp only[h,if_true] <;> omega
   ·simp only[h,if_false] <;> omega
theorem EM (its:List Value)(lo hi:Option Int):slicePick its.toArray lo hi none=((its.drop (HT.sIx its.length 0 lo)).take (HT.sIx its.length its.length hi - HT.sIx its.length 0 lo)).toArray:=by
 obtain⟨h1,h2,h3⟩:=Gx lo hi its.toArray.size;unfold slicePick;rw[h1,h2,h3];simp only[sliceRange_one,pick_run,om] <;> rfl
def akE (K:ba):V->Option Int->Option Int->Hp->VK->Prop:=λx lo hi H Q=>∃a xs,x=.ref a/\SqL K H a xs/\∀p,H p=none->Q (.ref p) (upd H p (.lst (kF xs lo hi)))
theorem mX:SlR X (akE X.K):=by
 intro pins s σ H x v vl vu lo hi sl Q I rx hs pl pu h;obtain⟨a,xs,rfl,hx,q⟩:=h;cases rx;obtain⟨its,r,ht,hz⟩:=I.list hx;have hlen:=r.length;refine⟨"list",_,slot_list_getitem.lookup,ht.isList.typeIs,?_⟩;refine wpAny_getItem_list_slice ht.isList hs pl pu .none (by simp) ?_ (by rw[om] <;> omega)
 rw[EM,<-hlen];refine⟨.ref s.heap.objs.size,_,I.laid (t':=s.toks) (o:=.lst (kF xs lo hi)) (λb ob q=>gp _ q) (kj _) ?_,rfl,q _ (I.hok.fresh (kj _))⟩
 exact⟨si (Bd xs lo hi) hz,_,0,(r.drop (HT.sIx xs.length 0 lo)).take (HT.sIx xs.length xs.length hi - HT.sIx xs.length 0 lo),Lk _ rfl⟩
def Be:V->Bool
 | .non=>true
 | .bl _=>true
 | .int _=>true
 | .str _=>true
 |_=>false
def eqV:V->V->Bool
 | .non,.non=>true
 | .bl a,.bl b=>a == b
 | .bl a,.int b=>(if a then 1 else 0) == b
 | .int a,.bl b=>a == (if b then 1 else 0)
 | .int a,.int b=>a == b
 | .str a,.str b=>a == b
 |_,_=>false
theorem Yj {A:Around}{s:Shared}{y x:V}{u v:Value}(ry:RelV y u)(rx:RelV x v)(fy:Be y=true)(fx:Be x=true):SeqAt.EqAt A s u v (eqV y x):=by
 cases y with
 |non =>
  cases ry;cases x with
  |non=>cases rx;exact SeqAt.EqAt.same _
  |bl b=>cases rx;exact SeqAt.EqAt.none_bool b
  |int b=>obtain⟨t,rfl⟩:=rx;exact SeqAt.EqAt.none_int b t
  |str b=>obtain⟨t,rfl⟩:=rx;exact SeqAt.EqAt.none_str b t
  |_=>exact absurd (show false=true from fx) kr
 |bl a =>
  cases ry;cases x with
  |non=>cases rx;exact SeqAt.EqAt.bool_none a
  |bl b=>cases rx;exact SeqAt.EqAt.bool_bool a b
  |int b=>obtain⟨t,rfl⟩:=rx;exact SeqAt.EqAt.bool_int a b t
  |str b=>obtain⟨t,rfl⟩:=rx;exact SeqAt.EqAt.bool_str a b t
  |_=>exact absurd (show false=true from fx) kr
 |int a =>
  obtain⟨t',rfl⟩:=ry;cases x with
  |non=>cases rx;exact SeqAt.EqAt.int_none a t'
  |bl b=>cases rx;exact SeqAt.EqAt.int_bool a t' b
  |int b=>obtain⟨t,rfl⟩:=rx;exact SeqAt.EqAt.int_int a t' b t
  |str b=>obtain⟨t,rfl⟩:=rx;exact SeqAt.EqAt.int_str a t' b t
  |_=>exact absurd (show false=true from fx) kr
 |str a =>
  obtain⟨t',rfl⟩:=ry;cases x with
  |non=>cases rx;exact SeqAt.EqAt.str_none a t'
  |bl b=>cases rx;exact SeqAt.EqAt.str_bool a t' b
  |int b=>obtain⟨t,rfl⟩:=rx;exact SeqAt.EqAt.str_int a t' b t
  |str b=>obtain⟨t,rfl⟩:=rx;exact SeqAt.EqAt.str_str a t' b t
  |_=>exact absurd (show false=true from fx) kr
 |_=>exact absurd (show false=true from fy) kr
def eqU (x:V)(u:Value):Bool:=match u with
 | .none=>eqV .non x
 | .bool b=>eqV (.bl b) x
 | .int i _=>eqV (.int i) x
 | .str z _=>eqV (.str z) x
 |_=>false
theorem QL {x y:V}{u:Value}(r:RelV y u)(f:Be y=true):eqU x u=eqV y x:=by
 cases y with
 |non=>cases r;rfl
 |bl b=>cases r;rfl
 |int i=>obtain⟨t,rfl⟩:=r;rfl
 |str z=>obtain⟨t,rfl⟩:=r;rfl
 |_=>exact absurd (show false=true from f) kr
theorem yE {x:V}:∀ {xs:List V} {us:List Value},Vals xs us->xs.all Be=true->us.any (eqU x)=xs.any λy=>eqV y x
 |_,_,.nil,_=>rfl
 |y::xs,u::us,.cons r t,f=>by
  rw[List.all_cons,anA]at f;rw[aoG,aoG,QL r f.1,yE t f.2]
theorem uK {A:Around}{s:Shared}{x:V}{v:Value}(rx:RelV x v)(fx:Be x=true):∀ {xs:List V} {us:List Value},Vals xs us->xs.all Be=true->∀u∈us,SeqAt.EqAt A s u v (eqU x u)
 |_,_,.nil,_=>λu hu=>by cases hu
 |y::xs,u::us,.cons r t,f=>λu' hu=>by
  rw[List.all_cons,anA]at f;rcases List.mem_cons.mp hu with rfl | hu
  ·rw[QL r f.1];exact Yj r rx f.1 fx
  ·exact uK rx fx t f.2 u' hu
def inV (x:V)(xs:List V):Bool:=xs.any λy=>eqV y x
def rIn (K:ba)(neg:Bool):R2:=λx y H Q=>∃p xs,y=.ref p/\(SqL K H p xs\/SqT K H p xs)/\Be x=true/\xs.all Be=true/\Q (.bl (if neg then !inV x xs else inV x xs)) H
theorem zX:OpR X (aoc .In) (rIn X.K false):=by
 intro pins s σ H x y v u Q I rx ry h;obtain⟨p,xs,rfl,hq,fx,fs,q⟩:=h;cases ry;rcases hq with hq | hq
 ·obtain⟨its,r,pl,hz⟩:=I.list hq;refine SeqAt.in_listAt (eqU x) pl.isList (λw hw=>uK rx fx r fs w (by simpa using hw)) ⟨.bl _,H,I,rfl,?_⟩
  rw[show its.toArray.any (eqU x)=its.any (eqU x) by simp,yE r fs]
  exact q
 ·obtain⟨its,r,pl,hz⟩:=I.tuple hq;refine SeqAt.in_tupleAt (eqU x) pl (λw hw=>uK rx fx r fs w (by simpa using hw)) ⟨.bl _,H,I,rfl,?_⟩
  rw[show its.toArray.any (eqU x)=its.any (eqU x) by simp,yE r fs]
  exact q
theorem Gy:OpR X (aoc .NotIn) (rIn X.K true):=by
 intro pins s σ H x y v u Q I rx ry h;obtain⟨p,xs,rfl,hq,fx,fs,q⟩:=h;cases ry;rcases hq with hq | hq
 ·obtain⟨its,r,pl,hz⟩:=I.list hq;refine SeqAt.notIn_listAt (eqU x) pl.isList (λw hw=>uK rx fx r fs w (by simpa using hw)) ⟨.bl _,H,I,rfl,?_⟩
  rw[show its.toArray.any (eqU x)=its.any (eqU x) by simp,yE r fs]
  exact q
 ·obtain⟨its,r,pl,hz⟩:=I.tuple hq;refine SeqAt.notIn_tupleAt (eqU x) pl (λw hw=>uK rx fx r fs w (by simpa using hw)) ⟨.bl _,H,I,rfl,?_⟩
  rw[show its.toArray.any (eqU x)=its.any (eqU x) by simp,yE r fs]
  exact q
theorem cf:jM X (.builtin "len") (λxs H Q=>∃p ys,xs=[.ref p]/\(SqL X.K H p ys\/SqT X.K H p ys)/\Q (.int ys.length) H):=by
 intro pins s σ H xs us Q I r h;obtain⟨p,ys,rfl,hq,q⟩:=h;obtain⟨u,rfl,rx⟩:=vals1 r;cases rx;have hn:=xy;rcases hq with hq | hq
 ·obtain⟨its,r',pl,hz⟩:=I.list hq;have hlen:=r'.length;exact Calls.call_len_list pl.isList (by simp only[om] <;> omega) ⟨.int ys.length,H,I.tok _,⟨s.toks+1,by rw[om,hlen]⟩,q⟩
 ·obtain⟨its,r',pl,hz⟩:=I.tuple hq;have hlen:=r'.length;exact len_tuple pl (by simp only[om] <;> omega) ⟨.int ys.length,H,I.tok _,⟨s.toks+1,by rw[om,hlen]⟩,q⟩
theorem yF:jM X (.builtin "len") (λxs H Q=>∃z,xs=[.str z]/\z.length<=gr/\Q (.int z.length) H):=by
 intro pins s σ H xs us Q I r h;obtain⟨z,rfl,hz,q⟩:=h;obtain⟨u,rfl,t,rfl⟩:=vals1 r;have hn:=xy;exact len_str (by omega) ⟨.int z.length,H,I.tok _,⟨_,rfl⟩,q⟩
theorem jM.or {f:Value}{r r':List V->Hp->VK->Prop}(h:jM X f r)(h':jM X f r'):jM X f (λxs H Q=>r xs H Q\/r' xs H Q):=by
 intro pins s σ H xs us Q I rs q;rcases q with q | q
 ·exact h pins s σ H xs us Q I rs q
 ·exact h' pins s σ H xs us Q I rs q
theorem cM:jM X (.type "list") (λxs H Q=>∃p ys,xs=[.ref p]/\(SqL X.K H p ys\/SqT X.K H p ys)/\∀l,H l=none->Q (.ref l) (upd H l (.lst ys))):=by
 intro pins s σ H xs us Q I r h;obtain⟨p,ys,rfl,hq,q⟩:=h;obtain⟨u,rfl,rx⟩:=vals1 r;cases rx;have fin:∀(its:List Value),Vals ys its->ys.length<=gr->∀(h':Heap) (c':Nat),(∀b o',s.heap.get? b=some o'->h'.get? b=some o') ->
   h'.get? s.heap.objs.size=some { cls:=.type "list",dict:=none,data:=.seq its.toArray c',slots:=#[] }->EP X pins σ Q (.ref s.heap.objs.size) { s with heap:=h' }:=λits r' hz h' c' kp e =>
  ⟨.ref s.heap.objs.size,_,I.laid (t':=s.toks) kp (kj _) (show eZ X.prog X.w _ h' _ (.lst ys) from ⟨hz,its,c',r',e⟩),rfl,q _ (I.hok.fresh (kj _))⟩
 rcases hq with hq | hq
 ·obtain⟨its,r',pl,hz⟩:=I.list hq;have hlen:=r'.length;obtain⟨o,ho,hc,n,hd⟩:=pl.isList;exact call_list_seq p (.inl rfl) ho hc hd (λh' c' kp e=>fin its r' hz h' c' kp e) (by simp only[om] <;> omega)
 ·obtain⟨its,r',pl,hz⟩:=I.tuple hq;have hlen:=r'.length;obtain⟨o,ho,hc,n,hd⟩:=pl;exact call_list_seq p (.inr rfl) ho hc hd (λh' c' kp e=>fin its r' hz h' c' kp e) (by simp only[om] <;> omega)
def tyV (K:ba)(T:String)(x:V)(H:Hp):Prop:=match x with
 | .str _=>T="str"
 | .int _=>T="int"
 | .ref p=>(T="list"/\∃xs,SqL K H p xs)\/(T="tuple"/\∃o,K.lookup p=some o/\o.cls=.type "tuple"/\o.dict=none) \/
   (T="dict"/\((∃kvs,H p=some (.dK kvs))\/∃kvs,H p=some (.dT kvs)))\/(T="set"/\∃S n,H p=some (.set S n))
 |_=>False
theorem QM {pins:List (Addr×Obj)}{σ:St}{H:Hp}{s:Shared}{T:String}{x:V}{v:Value}(I:Inv X pins σ H s)(r:RelV x v)(ty:tyV X.K T x H) :
  s.TypeIs v T/\∀a,v=.ref a->∃ob,s.heap.get? a=some ob/\ob.dict=none:=by
 cases x with
 |str z =>
  obtain⟨t,rfl⟩:=r;cases (show T="str" from ty)
  exact⟨typeIs_str s z t,λ_ e=>nomatch e⟩
 |int i =>
  obtain⟨t,rfl⟩:=r;cases (show T="int" from ty)
  exact⟨typeIs_int s i t,λ_ e=>nomatch e⟩
 |ref p =>
  cases r;rcases ty with ⟨rfl,xs,hq⟩ | ⟨rfl,o,hk,hc,hd⟩ | ⟨rfl,hk⟩ | ⟨rfl,S,n,hk⟩
  ·obtain⟨its,_,pl,_⟩:=I.list hq;refine⟨pl.isList.typeIs,λa e=>?_⟩
   cases e;obtain⟨o,n,e,c,hd,_⟩:=pl;exact⟨o,e,hd⟩
  ·refine⟨⟨o,I.kIn p o hk,hc⟩,λa e=>?_⟩
   cases e;exact⟨o,I.kIn _ o hk,hd⟩
  ·have z:∃o,s.heap.get? p=some o/\o.ExactDict:=by
    rcases hk with ⟨kvs,hk⟩ | ⟨kvs,hk⟩
    ·obtain⟨_,_,_,_,o,_,_,e,ex,_⟩:=I.hok p _ hk;exact⟨o,e,ex⟩
    ·obtain⟨_,_,_,_,o,_,_,e,ex,_⟩:=I.hok p _ hk;exact⟨o,e,ex⟩
   obtain⟨o,e,ex⟩:=z;refine⟨⟨o,e,ex.1⟩,λa e2=>?_⟩
   cases e2;exact⟨o,e,ex.2.1⟩
  ·obtain⟨o,_,_,_,e,ex,_⟩:=I.hok p _ hk;refine⟨⟨o,e,ex.1⟩,λa e2=>?_⟩
   cases e2;exact⟨o,e,ex.2.1⟩
 |_=>exact ans ty
def akF (K:ba)(T:String)(r:V->List V->Hp->VK->Prop)(to:TE):TE:=λσ H Q=>to σ H λx H1=>tyV K T x H1/\r x [] H1 Q
def tBM (K:ba)(T:String)(r:V->List V->Hp->VK->Prop)(to:TE)(t:TA):TE:=λσ H Q=>to σ H λx H1=>tyV K T x H1/\t σ H1 λxs H2=>r x xs H2 Q
variable{o e:Expr}{es:List Expr}{to:TE}{t:TA}{name:Str}{apos hJ:Pos}{T id:String}{r:V->List V->Hp->VK->Prop}
theorem QN (pa:PlainAttrs T)(slot:Slot T name id)(hty:typeOf (.builtin id)=pure (.type "method_descriptor"))(hm:MtR X id r)(ho:PE X o to)
  (Ih:attributeBase o name X.env (eval o X.env)=eval o X.env:=by rfl) (QO:(apos.endLine == hJ.line)=true:=by rfl):PE X (.Call (.Attribute o name apos) [] [] hJ) (akF X.K T r to):=by
 intro pins s σ H Q I h;refine wpAny_Call_method0_late Ih QO (thn (ho pins s σ H _ I h) λv s1 ⟨x,H1,I1,r1,ty,q1⟩=>?_)
 obtain⟨h1,h2⟩:=QM I1 r1 ty;exact⟨T,id,pa,slot,hty,h1,h2,Calls.callWith_builtin rfl (PySem.evalArgs_none (hm pins s1 σ H1 x [] v [] Q I1 r1 .nil q1))⟩
theorem js (pa:PlainAttrs T)(slot:Slot T name id)(hty:typeOf (.builtin id)=pure (.type "method_descriptor"))(hm:MtR X id r)(ho:PE X o to)(ha:PA X (e::es) t)
  (Ih:attributeBase o name X.env (eval o X.env)=eval o X.env:=by rfl)
  (akG:((backTo hJ (ane (e::es) X.env)).all (λx=>!x.1) && (aot hJ (an2 [] X.env)).all (λx=>x.1.isSome)
   && decide ((e::es).length+([]:List Keyword).length+(if ([]:List Keyword).isEmpty then 0 else 1) < 30))=true:=by rfl)
  (QO:(apos.endLine == hJ.line)=true:=by rfl) (hs:ane (e::es) X.env=(false,eval e X.env)::ane es X.env:=by rfl) (Yk:(backTo hJ (ane es X.env)).any (·.1)=false:=by rfl) :
  PE X (.Call (.Attribute o name apos) (e::es) [] hJ) (tBM X.K T r to t):=by
 intro pins s σ H Q I h;refine wpAny_Call_method_late Ih akG QO rfl (thn (ho pins s σ H _ I h) λv s1 ⟨x,H1,I1,r1,ty,q1⟩=>?_)
 obtain⟨h1,h2⟩:=QM I1 r1 ty;refine⟨T,id,pa,slot,hty,h1,h2,?_⟩;have hA:=ha hJ pins s1 σ H1 _ I1 q1;rw[hs]at hA ⊢;refine Calls.callWith_builtin (by show (false || (backTo hJ (ane es X.env)).any (·.1))=false;rw[Yk] <;> rfl) (Calls.evalArgs_plain ?_)
 exact thn hA λus s2 ⟨vs,H2,I2,r2,q2⟩=>hm pins s2 σ H2 x vs v us Q I2 r1 r2 q2
end
def MtM (X:Cx)(id:String)(r:V->List V->Hp->VK->Prop):Prop :=
 ∀(pins:List (Addr×Obj)) (s:Shared) (σ:St) (H:Hp) (x:V) (xs:List V) (v:Value) (us:List Value) (Q:VK),Inv X pins σ H s->RelV x v->Vals xs us->r x xs H Q ->
  wpAny (model X.prog X.w) X.A (call (.builtin id) (v::us)) (EP X pins σ Q) X.xe s
theorem Vals.one:∀ {x:V} {us:List Value},Vals [x] us->∃u,us=[u]/\RelV x u
 |_,_,.cons r .nil=>⟨_,rfl,r⟩
theorem Vals.two:∀ {x y:V} {us:List Value},Vals [x,y] us->∃u v,us=[u,v]/\RelV x u/\RelV y v
 |_,_,_,.cons r (.cons q .nil)=>⟨_,_,rfl,r,q⟩
theorem Vals.zero:∀ {us:List Value},Vals [] us->us=[]
 |_,.nil=>rfl
theorem Vals.dropLast {xs:List V}{us:List Value}(h:Vals xs us):Vals xs.dropLast us.dropLast:=by
 induction h with
 |nil=>exact .nil
 |cons r t ih =>
  cases t with
  |nil=>exact .nil
  |cons q t'=>exact .cons r ih
theorem Vals.eraseIdx:∀ {xs:List V} {us:List Value} (i:Nat),Vals xs us->Vals (xs.eraseIdx i) (us.eraseIdx i)
 |_,_,_,.nil=>.nil
 |_,_,0,.cons _ t=>t
 |_,_,i+1,.cons r t=>.cons r (Vals.eraseIdx i t)
theorem Vals.reverse {xs:List V}{us:List Value}(h:Vals xs us):Vals xs.reverse us.reverse:=by
 induction h with
 |nil=>exact .nil
 |cons r t ih=>rw[List.reverse_cons,List.reverse_cons];exact Vals.append ih (.cons r .nil)
theorem Vals.rep {xs:List V}{us:List Value}(h:Vals xs us):∀k:Nat,Vals (aoK k xs).flatten (aoK k us).flatten
 | 0=>.nil
 |k+1=>by
  rw[List.replicate_succ,List.replicate_succ,List.flatten_cons,List.flatten_cons];exact Vals.append h (Vals.rep h k)
theorem LL {α:Type}(l:List α):l.eraseIdx (l.length - 1)=l.dropLast:=by
 induction l with
 |nil=>rfl
 |cons a r ih =>
  cases r with
  |nil=>rfl
  |cons b r =>
   have e:(a::b::r).length - 1=((b::r).length - 1)+1:=by
    have h1:(a::b::r).length=r.length+2:=rfl;have h2:(b::r).length=r.length+1:=rfl;omega
   rw[e,List.eraseIdx_cons_succ,ih]
   all_goals rfl
theorem Fw {α:Type}:∀(l:List α) (i:Nat),(l.eraseIdx i).length<=l.length
 |[],_=>kj _
 |_::_,0=>an3 _
 |_::r,i+1=>Nat.succ_le_succ (Fw r i)
section
variable{X:Cx}{pins:List (Addr×Obj)}{σ:St}{H:Hp}{s:Shared}{l b:Addr}{xs ys zs:List V}
theorem Inv.O2 {its its':List Value}{n:Nat}{f:Array Value->Array Value}{t':Nat}(I:Inv X pins σ H s)(hH:H l=some (.lst xs))
  (e:s.heap.get? l=some { cls:=.type "list",data:=.seq its.toArray n }) (hf:f its.toArray=its'.toArray) (hv:Vals ys its') (hz:ys.length<=gr) :
  Inv X pins σ (upd H l (.lst ys)) { s with heap:=s.heap.update l (Obj.mapSeq f),toks:=t' }:=by
 have q:=PySem.IsL.update e f;rw[hf]at q;refine I.write (x:=l) (e:=l) (by rw[hH];exact trivial) (.inl rfl) (λb' u hb hu=>(anT s.heap (Obj.mapSeq f) (anj hb)).trans hu) ⟨_,q⟩ ?_
 exact⟨hz,its',_,hv,q⟩
theorem Inv.acR {its:List Value}{t':Nat}(I:Inv X pins σ H s)(hv:Vals ys its)(hz:ys.length<=gr) :
  Inv X pins σ (upd H s.heap.objs.size (.lst ys)) { s with heap:=s.heap.push { cls:=.type "list",data:=.seq its.toArray },toks:=t' } :=
 I.laid (λ_ _ q=>gp _ q) (kj _) ⟨hz,its,0,hv,Lk _ rfl⟩
theorem Inv.fresh (I:Inv X pins σ H s):H s.heap.objs.size=none:=I.hok.fresh (kj _)
theorem Inv.Gz (I:Inv X pins σ H s)(hH:H l=some (.lst xs)):xs.length<=gr/\∃(its:List Value) (n:Nat),Vals xs its/\xs.length=its.length/\s.heap.get? l=some { cls:=.type "list",data:=.seq its.toArray n }:=by
 obtain⟨z,its,n,r,e⟩:=I.hok l _ hH;exact⟨z,its,n,r,r.length,e⟩
theorem QP {n:Nat}(h:n<=gr):Builtin.List.listTooLong n=false:=by
 unfold Builtin.List.listTooLong;exact decide_eq_false (by omega)
end
section
variable{X:Cx}
def Ui:V->List V->Hp->VK->Prop:=λx vs H Q=>∃l xs y,x=.ref l/\vs=[y]/\H l=some (.lst xs)/\xs.length < gr/\Q .non (upd H l (.lst (xs++[y])))
theorem dq:MtM X "list.append" Ui:=by
 intro pins s σ H x vs v us Q I rx rv h;obtain⟨l,xs,y,rfl,rfl,hH,hz,q⟩:=h;cases rx;obtain⟨u,rfl,ru⟩:=rv.one;obtain⟨z,its,n,r,hl,e⟩:=I.Gz hH;refine call_meets F.slot_list_append ⟨_,e,rfl⟩ F.entry_list_append (F.args_list_append_2 _ _) (PySem.list_append l its.toArray n u (by rw[om];omega)) ⟨e,?_⟩
 refine⟨.non,_,I.O2 (its':=its++[u]) hH e (by simp) (r.append (.cons ru .nil)) ?_,rfl,q⟩
 rw[ki,anc];omega
def Uj:V->List V->Hp->VK->Prop:=λx vs H Q=>∃l b xs zs,x=.ref l/\vs=[.ref b]/\H l=some (.lst xs)/\H b=some (.lst zs)/\xs.length+zs.length<=gr/\Q .non (upd H l (.lst (xs++zs)))
theorem Fx:MtM X "list.extend" Uj:=by
 intro pins s σ H x vs v us Q I rx rv h;obtain⟨l,b,xs,zs,rfl,rfl,hH,hB,hz,q⟩:=h;cases rx;obtain⟨u,rfl,ru⟩:=rv.one;cases ru;obtain⟨z,its,n,r,hl,e⟩:=I.Gz hH;obtain⟨z2,LM,n2,r2,hl2,e2⟩:=I.Gz hB;have hsz:its.toArray.size+LM.toArray.size<=gr:=by rw[om,om];omega
 have acS:¬(!its.toArray.isEmpty && Builtin.List.listTooLong (its.toArray.size+LM.toArray.size))=true:=by
  rw[QP hsz,Bool.and_false];exact kr
 refine call_meets F.slot_list_extend ⟨_,e,rfl⟩ F.entry_list_extend (F.args_list_extend_2 _ _)
  (AutoSeq1.list_extend_list_list_0 l its.toArray n b LM.toArray n2 acS (by rw[om];omega) (by omega)) ⟨e,e2,?_⟩
 refine⟨.non,_,I.O2 (its':=its++LM) hH e (by simp) (r.append r2) ?_,rfl,q⟩
 rw[ki];omega
def akH:V->List V->Hp->VK->Prop:=λx vs H Q=>∃l xs y,x=.ref l/\vs=[]/\H l=some (.lst xs)/\xs[xs.length - 1]?=some y/\Q y (upd H l (.lst xs.dropLast))
theorem Yl:MtM X "list.pop" akH:=by
 intro pins s σ H x vs v us Q I rx rv h;obtain⟨l,xs,y,rfl,rfl,hH,hy,q⟩:=h;cases rx;have hus:=rv.zero;subst hus;obtain⟨z,its,n,r,hl,e⟩:=I.Gz hH;obtain⟨u,hu,ru⟩:=r.get hy;have hy':its.toArray[its.toArray.size - 1]?=some u:=by
  show its.toArray[its.length - 1]?=some u;rw[<-Array.getElem?_toList,<-hl];exact hu
 refine call_meets F.slot_list_pop ⟨_,e,rfl⟩ F.entry_list_pop (F.args_list_pop_1 _) (MeetsSeq.list_pop_last l its.toArray n u hy' (by rw[om];omega)) ⟨e,?_⟩
 refine⟨y,_,I.O2 (its':=its.dropLast) hH e ?_ r.dropLast ?_,ru,q⟩
 ·show its.toArray.eraseIdxIfInBounds (its.toArray.size - 1)=its.dropLast.toArray;rw[om,List.eraseIdxIfInBounds_toArray,LL]
 ·rw[List.length_dropLast];omega
def Ym:V->List V->Hp->VK->Prop:=λx vs H Q=>∃l xs i k y,x=.ref l/\vs=[.int i]/\H l=some (.lst xs)/\-(2 ^ 63)<=i/\i < 2 ^ 63/\seqIndex? i xs.length=some k/\xs[k]?=some y/\Q y (upd H l (.lst (xs.eraseIdx k)))
theorem QQ:MtM X "list.pop" Ym:=by
 intro pins s σ H x vs v us Q I rx rv h;obtain⟨l,xs,i,k,y,rfl,rfl,hH,h1,h2,hk,hy,q⟩:=h;cases rx;obtain⟨u,rfl,ru⟩:=rv.one;obtain⟨t,rfl⟩:=ru;obtain⟨z,its,n,r,hl,e⟩:=I.Gz hH;obtain⟨w,hw,rw'⟩:=r.get hy;refine call_meets F.slot_list_pop ⟨_,e,rfl⟩ F.entry_list_pop (F.args_list_pop_2 _ _)
  (MeetsSeq.list_pop_at l its.toArray n i t k w (fitsIndex_both h1 h2) (by rw[om,<-hl];exact hk) (by rw[<-Array.getElem?_toList];exact hw) (by rw[om];omega)) ⟨e,?_⟩
 refine⟨y,_,I.O2 (its':=its.eraseIdx k) hH e ?_ (r.eraseIdx k) ?_,rw',q⟩
 ·show its.toArray.eraseIdxIfInBounds k=(its.eraseIdx k).toArray;rw[List.eraseIdxIfInBounds_toArray]
 ·have:=Fw xs k;omega
def Yn:V->List V->Hp->VK->Prop:=λx vs H Q=>∃l xs,x=.ref l/\vs=[]/\H l=some (.lst xs)/\Q .non (upd H l (.lst []))
theorem QR:MtM X "list.clear" Yn:=by
 intro pins s σ H x vs v us Q I rx rv h;obtain⟨l,xs,rfl,rfl,hH,q⟩:=h;cases rx;have hus:=rv.zero;subst hus;obtain⟨z,its,n,r,hl,e⟩:=I.Gz hH;refine call_meets F.slot_list_clear ⟨_,e,rfl⟩ F.entry_list_clear (F.args_list_clear_1 _) (AutoSeq1.list_clear_list_0 l its.toArray n (by rw[om];omega)) ⟨e,?_⟩
 exact⟨.non,_,I.O2 (its':=[]) (ys:=[]) hH e rfl .nil (anz _),rfl,q⟩
def akI:R2:=λx y H Q=>∃l b xs zs,x=.ref l/\y=.ref b/\H l=some (.lst xs)/\H b=some (.lst zs)/\xs.length+zs.length<=gr/\∀p,H p=none->Q (.ref p) (upd H p (.lst (xs++zs)))
theorem Yo:OpR X (binaryOp .Add) akI:=by
 intro pins s σ H x y v u Q I rx ry h;obtain⟨l,b,xs,zs,rfl,rfl,hH,hB,hz,q⟩:=h;cases rx;cases ry;obtain⟨z,its,n,r,hl,e⟩:=I.Gz hH;obtain⟨z2,LM,n2,r2,hl2,e2⟩:=I.Gz hB;refine PySem.P.add_list e e2 ?_ (by rw[om,om];omega)
 have ea:its.toArray++LM.toArray=(its++LM).toArray:=by simp
 rw[ea];exact⟨.ref _,_,I.acR (t':=s.toks) (r.append r2) (by rw[ki];omega),rfl,q _ I.fresh⟩
end
end L2
namespace Att
open PySem PySem.W PySem.Calls PyProof.Rows
theorem BK {P:Params}{h:Heap}:∀(ns:List Int) (vs:List Value),WellAll P h vs (ns.map WData.int)->IntsAre vs ns:=by
 intro ns
 induction ns with
 |nil =>
  intro vs w;rw[aom]at w;cases w;exact .nil
 |cons n ns ih =>
  intro vs w;rw[ku]at w;cases w with
  |cons a b =>
   cases a;exact .cons _ _ (ih _ b)
theorem O3 {l:OpenLaw}{n:Nat}(hn:l.most=some n){P:Params}{h:Heap}{args:List WData}{vals:List Value}
  (Uk:l.row.toRowW.claim.pre args=true) (hwl:WellAll P h vals args) :
  ∃a vs ns,vals=[anf a]/\args=[WData.list (ns.map WData.int)]/\h.get? a=some { cls:=.type "list",data:=.seq vs.toArray }/\IntsAre vs ns/\ns.length<=n:=by
 have hsh:WShape.hasAll [] args [.list .int]=true:=(pre_splitW Uk).1;have hc:l.pre.holds [] { args:=args }=true:=(pre_splitW Uk).2;obtain⟨d,r,rfl,h1,h2⟩:=hasAllW_cons hsh;obtain rfl:=hasAllW_nil h2;obtain⟨xs,rfl,h3⟩:=hasW_list h1;obtain⟨ns,rfl⟩:=items_int h3;have hlen:ns.length<=n:=by
  unfold OpenLaw.pre at hc;have h4:(WTm.not (.lt (.lit (.int (n:Int))) (.len (.arg 0)))).holds [] { args:=[.list (ns.map .int)] }=true:=by
   have h4:=(holds_andW hc).1;rw[hn]at h4;exact h4
  have h5:=condW_of h4 (w_not (w_lt w_lit (w_len_list (w_arg rfl))));rw[bo]at h5;refine Nat.le_of_not_lt λq=>?_
  have q':(n:Int) < ((ns.length:Nat):Int):=by omega
  first
   | (rw[decide_eq_true q']at h5;exact absurd h5 (by decide))
   | (simp at h5;omega)
 cases hwl with
 |cons w1 w2 =>
  cases w2;cases w1 with
  |list ho akJ=>exact⟨_,_,ns,rfl,rfl,ho,BK ns _ akJ,hlen⟩
theorem O4 (l:OpenLaw)(args:List WData):l.row.toRowW.claim.post args (.bool true) args=true :=
 postW_of (r:=l.row.toRowW) (X:=(true == true))
  (show WShape.has [] (.bool true) .bool=true by first | rfl | decide | simp[WShape.has,WShape.arms,WShape.armsAll])
  (show (WTm.eq .res (.lit (.bool true))).value [] { args:=args,res:=some (.bool true),after:=args }=some (.bool (true == true)) from w_eq_bool (w_res rfl) w_lit) rfl
theorem Ii {l:OpenLaw}{n:Nat}{q:rf}{loose:List Str}{XP:(Str->Option Value)->Heap->Prop}{YP:World->Heap->Prop}{d:DefRec}
  (hn:l.most=some n) (hdf:d.params.defaults=[])
  (call:∀(w:World) (s₀ s₁:Shared) (mg mb:Str->Option Value) (fa:Addr) (o:Obj) (pm cd doc:Value) (a:Addr) (vs:List Value) (ns:List Int),
   Ground q loose [] XP w s₀ mg mb s₁.heap->YP w s₁.heap ->
   s₁.heap.get? fa=some o->o.data=.func (docDef d.name d.params d.body d.scope pm cd doc)->s₁.heap.CodeRec cd d.name->mg d.name=some (.ref fa) ->
   s₁.heap.get? a=some { cls:=.type "list",data:=.seq vs.toArray }->IntsAre vs ns->ns.length<=n->s₁.gens=#[] ->
   codeAny (model l.prog w) callerA (.call (.ref fa) ⟨[.ref a],[]⟩) (λr s'=>r=.ok (.ret (.bool true))/\OldK s₁.heap s'.heap/\s'.os=s₁.os/\AllBare s'.gens) s₁) :
  WalkO q loose XP YP l.row.toRowW d [] (λf vs=>PySem.call f vs):=by
 intro w s₀ s₁ mg mb G Y fa o pm cd doc dV kV ho hd hcd hD hmg hg args vals as Uk am1 hrd hwl hlo;obtain rfl:dV=.none:=Dflts.none hD hdf;obtain rfl:kV=.none:=Dflts.noKw hD;obtain⟨a,vs,ns,rfl,rfl,Yp,hints,hlen⟩:=O3 hn Uk hwl;refine enter_call (codeAny_mono (call w s₀ s₁ mg mb fa o pm cd doc a vs ns G Y ho (fd_plain hd) hcd hmg Yp hints hlen hg) λr s' hq=>?_)
 obtain⟨rfl,h2,h3,h4⟩:=hq;exact⟨.inl ⟨.bool true,.bool true,[],rfl,λ_=>rfl,.bool true,O4 l _,λ_=>⟨List.Pairwise.nil,λ_ hm=>(nomatch hm)⟩⟩,h2,h3,h4⟩
section
variable{prog:rf}{w:World}{A:Around}{E:Value->Shared->Prop}{s:Shared}{K:Frag}
def ledger (h:Heap)(L d:Addr):List (Addr×Obj):=(aoE h.objs.size).filterMap λa=>if a=L\/a=d then none else (h.get? a).map λo=>(a,o)
end
end Att
namespace L2
open PySem PySem.Spec PyProof.Rows
theorem Fy:∀ {vs:List Value} {ns:List Int},IntsAre vs ns->Vals (ns.map V.int) vs
 |_,_,.nil=>.nil
 |_,_,.cons n t h=>.cons ⟨t,rfl⟩ (Fy h)
def Yq (H:Hp):Prop:=∀b,H b=none\/∃o xs,H b=some (.frz o (.lst xs))
theorem QS {P:rf}{w:World}{K:ba}{mg mb:Str->Option Value}{CX:CXT}{k:Nat}{fa a:Addr}{fd:kg}{x:Str}{sp:Sp}{s₁:Shared}{vs:List Value}{ns:List Int}
  (KX:K.In s₁.heap) (hns:s₁.heap.Ns ka mg) (hb:s₁.heap.Ns builtinsNs mb) (hbb:∀x:Str,x≠"__name__"->mb x=anS x) (akK:s₁.heap.NoLimit) (hg:s₁.gens=#[])
  (ha:s₁.heap.get? a=some { cls:=.type "list",data:=.seq vs.toArray }) (hi:IntsAre vs ns) (hl:ns.length<=gr) (hr:Room k callerA)
  (F:∀base:Heap,K.In base->base.Ns ka mg->aT P w K mg base CX k fa fd [x] sp) (acT:∀(s:Shared) (u:Value),BindsTo s fd ⟨[u],[]⟩ [(x,u)])
  (hsp:∀H:Hp,Yq H->SqL K H a (ns.map V.int)->sp [.ref a] H (λv _=>v=.bl true) λ_ _ _=>False)
  (hCX:∀H e s',CX [] H s₁ (λ_ _ _=>False) e s'->False) :
  codeAny (model P w) callerA (.call (.ref fa) ⟨[.ref a],[]⟩) (λr s'=>r=.ok (.ret (.bool true))/\OldK s₁.heap s'.heap/\s'.os=s₁.os/\AllBare s'.gens) s₁:=by
 have rv:=Fy hi;have akL:=hi.length;have core:∀H:Hp,Yq H->SqL K H a (ns.map V.int)->HOk P w H s₁.heap->(∀b,H b≠none->b=a)->(H a≠none->K.lookup a=none) ->
   codeAny (model P w) callerA (.call (.ref fa) ⟨[.ref a],[]⟩) (λr s'=>r=.ok (.ret (.bool true))/\OldK s₁.heap s'.heap/\s'.os=s₁.os/\AllBare s'.gens) s₁:=by
  intro H hO hS hok hA hK;have N6:∀ {b:Addr} {o:Obj},s₁.heap.get? b=some o->H b=none->(Gr s₁.heap H).get? b=some o:=λe n=>Qy e n
  have noA:∀ {b:Addr} {o:Obj} {es:Array an7} {ep:Nat},s₁.heap.get? b=some o->o.data=.dict es ep->H b=none:=λ{b o es ep} e d=>by
   cases q:H b with
   |none=>rfl
   |some u =>
    have e':b=a:=hA b (by rw[q];simp)
    subst e';rw[ha]at e;cases e;have d':Data.seq vs.toArray _=Data.dict es ep:=d;cases d'
  have nsK:∀ {b:Addr} {m:Str->Option Value},s₁.heap.Ns b m->(Gr s₁.heap H).Ns b m:=λ{b m} ⟨o,es,ep,e,d,r⟩=>⟨o,es,ep,N6 e (noA e d),d,r⟩
  have hKb:K.In (Gr s₁.heap H):=λb o e=>N6 (KX b o e) (by
   cases q:H b with
   |none=>rfl
   |some u =>
    have e':b=a:=hA b (by rw[q];simp)
    subst e';rw[hK (by rw[q];simp)]at e;cases e)
  have hM:Mod K mg (Gr s₁.heap H):=⟨hKb,nsK hns,⟨mb,nsK hb,hbb⟩,let ⟨mc,h1,h2⟩:=akK;⟨mc,nsK h1,h2⟩⟩
  have e0:EL P w K mg (Gr s₁.heap H) callerA [] s₁ H:=⟨rfl,hM,λb o e=>T8 e,Nat.le_of_eq (OS _ _),trivial,λb hb=>absurd (show b∈([]:List Addr) from hb) (by simp),hok,.of_eq hg⟩
  refine codeAny_mono ((F _ hKb (nsK hns)).run callerA [] s₁ H ⟨[.ref a],[]⟩ [.ref a] [.ref a] _ _ hr e0 (acT s₁ (.ref a)) (.cons rfl .nil) (hsp H hO hS)) λr s' h=>?_
  cases r with
  |error e=>exact(hCX H e s' h).elim
  |ok fl =>
   cases fl with
   |next=>exact ans h
   |brk=>exact ans h
   |cont=>exact ans h
   |ret u =>
    obtain⟨v,H',os,bare,un,akM,r',q⟩:=h;have q':v=.bl true:=q;subst q';obtain rfl:u=aop true:=r';refine⟨rfl,OldK.of_keep λb o e=>?_,os,bare⟩
    cases q:H b with
    |none=>exact un.keep b o e q (by intro z;exact absurd (show b∈([]:List Addr) from z) (by simp)) (by simp)
    |some u =>
     rcases hO b with z | ⟨ob,xs,z⟩
     ·rw[q]at z;cases z
     ·have z2:=un.yw b ob _ z;obtain⟨e1,_⟩:=hok b _ z;obtain⟨e2,_⟩:=akM b _ z2;rw[e]at e1;cases e1;exact e2
 cases hk:K.lookup a with
 |some o =>
  have e:=KX a o hk;rw[ha]at e;cases e;refine core (λ_=>none) (λ_=>.inl rfl) (.inr ⟨_,vs.toArray,_,hk,rfl,rfl,rfl,by rw[om,akL];exact hl,by simpa using rv⟩) (λb u z=>by have z':(none:Option HO)=some u:=z;cases z') (λb z=>absurd rfl z) λz=>absurd rfl z
 |none =>
  refine core (λb=>if b=a then some (.frz { cls:=.type "list",data:=.seq vs.toArray } (.lst (ns.map V.int))) else none) (λb=>?_) (.inl (.inr ⟨{ cls:=.type "list",data:=.seq vs.toArray },if_pos rfl⟩)) (λb u z=>?_) (λb z=>?_) λ_=>hk
  ·by_cases hb:b=a
   ·exact .inr ⟨_,_,if_pos hb⟩
   ·exact .inl (if_neg hb)
  ·by_cases hb:b=a
   ·have z':=(if_pos hb).symm.trans z;cases z';subst hb;exact⟨ha,by rw[bo];exact hl,vs,_,rv,ha⟩
   ·have z':=(if_neg hb).symm.trans z;cases z'
  ·by_cases hb:b=a
   ·exact hb
   ·exact absurd (if_neg hb) z
theorem Ul {l:PySem.W.OpenLaw}{n k:Nat}{q:rf}{loose:List Str}{XP:(Str->Option Value)->Heap->Prop}{YP:World->Heap->Prop}{d:DefRec}{K:Params->ba}{CX:World->CXT}{sp:World->Sp}{x:Str}
  (hn:l.most=some n) (hn2:n<=gr) (hdf:d.params.defaults=[]) (hr:Room k callerA)
  (hY:∀(w:World) (h:Heap),YP w h->(K w.params).In h)
  (F:∀(w:World) (mg:Str->Option Value) (fa:Addr) (h:Heap),(K w.params).In h->h.Ns ka mg->mg d.name=some (.ref fa) ->
   ∃fd:kg,(∀(s:Shared) (u:Value),BindsTo s fd ⟨[u],[]⟩ [(x,u)]) /\
    ∀base:Heap,(K w.params).In base->base.Ns ka mg->aT l.prog w (K w.params) mg base (CX w) k fa fd [x] (sp w))
  (hsp:∀(w:World) (H:Hp) (a:Addr) (ns:List Int),ns.length<=n->Yq H->SqL (K w.params) H a (ns.map V.int)->sp w [.ref a] H (λv _=>v=.bl true) λ_ _ _=>False)
  (hCX:∀(w:World) (H:Hp) (s:Shared) (e:Value) (s':Shared),CX w [] H s (λ_ _ _=>False) e s'->False) :
  PySem.W.WalkO q loose XP YP l.row.toRowW d [] (λf vs=>PySem.call f vs):=by
 refine Att.Ii hn hdf λw s₀ s₁ mg mb fa o pm cd doc a vs ns G Y ho hd hcd hmg Yp hints hlen hg=>?_
 have KX:=hY w _ Y;obtain⟨fd,hb,hF⟩:=F w mg fa _ KX G.T.g hmg;exact QS KX G.T.g G.T.b G.T.builtins G.T.nolimit hg Yp hints (si hlen hn2) hr hF hb (λH hO hS=>hsp w H a ns hlen hO hS) λH e s'=>hCX w H s₁ e s'
def inClass (s:Stmt)(j:Nat):Stmt:=match s with
 | .ClassDef _ _ _ body _ _ _ _ _ _ _=>body.getD j (.Pass ⟨0,0,0,0⟩)
 |_=>.Pass ⟨0,0,0,0⟩
def az (s:Stmt):Arguments:=match s with
 | .FunctionDef _ a _ _ _ _ _ _ _ _=>a
 |_=>{ posonlyargs:=[],args:=[],vararg:=none,kwonlyargs:=[],kw_defaults:=[],kwarg:=none,defaults:=[] }
def aw (s:Stmt):List Stmt:=match s with
 | .FunctionDef _ _ b _ _ _ _ _ _ _=>b
 |_=>[]
def af (s:Stmt):Scope:=match s with
 | .FunctionDef _ _ _ _ _ _ sc _ _ _=>sc
 |_=>{ kind:=.function,names:=[],isGenerator:=false,isCoroutine:=false }
abbrev CX0:CXT:=λ_ _ _ _ _ _=>False
abbrev E0:XK:=λ_ _ _=>False
theorem aW {X:Cx}:Passes CX0 X E0:=λ_ _ _ _ _ _ _ h=>h.elim
structure Fun (K:ba)(x qual:Str)(st:Stmt)(f:Addr)(fd:kg):Prop where
 ex:∃(oc:Value) (od:Option Addr) (kV doc pm:Value) (an:Option Addr) (cdv ct:Value) (osl:Array (Option Value)),
  fd=fu x qual (az st) (aw st) (af st) .none kV doc pm an cdv ct/\K.lookup f=some ⟨oc,od,.func fd,osl⟩/\eg K cdv qual=true
 kp:da K (.ref f)=true
section
variable{P:rf}{w:World}{K:ba}{mg:Str->Option Value}{base:Heap}
theorem Fun.ok {x qual:Str}{st:Stmt}{f:Addr}{fd:kg}{N ps:List Str}{k:Nat}{sp:Sp}(F:Fun K x qual st f fd)(S:ax N ps (af st))(len:∀vs H Q E,sp vs H Q E->vs.length=ps.length)
  (Ig:∀(cdv:Value) (A:Around) (outer:List Env) (s:Shared) (H:Hp) (vs:List V) (Q:VK) (E:XK),Room k (A.deeper (envOfC qual (af st) s.heap.objs.size f cdv))->sp vs H Q E ->
   ∃t,PSs (bE CX0 P w K mg base N qual (af st) f cdv A outer s H E).nox (aw st) t/\t { nx:=λ_ H'=>Q .non H',rt:=Q } (start N vs) H):aT P w K mg base CX0 (k+1) f fd ps sp:=by
 obtain⟨oc,od,kV,doc,pm,an,cdv,ct,osl,rfl,lk,hcd⟩:=F.ex;refine Wh lk hcd S len λA outer s H vs Q E hr hsp=>?_
 obtain⟨t,h,q⟩:=Ig cdv A outer s H vs Q E hr hsp;exact⟨t,h.nox,q⟩
theorem Fun.binds {x qual:Str}{st:Stmt}{f:Addr}{fd:kg}{ps:List Str}(F:Fun K x qual st f fd)
  (h:∀(kV doc pm:Value) (an:Option Addr) (cdv ct:Value) (us:List Value),us.length=ps.length->bindArgs (fu x qual (az st) (aw st) (af st) .none kV doc pm an cdv ct) ⟨us,[]⟩=pure (ps.zip us)):Binds K fd ps []:=by
 obtain⟨oc,od,kV,doc,pm,an,cdv,ct,osl,rfl,lk,hcd⟩:=F.ex;exact .all (h kV doc pm an cdv ct)
theorem aL {x qual:Str}{st:Stmt}{f:Addr}{oc:Value}{od an:Option Addr}{osl:Array (Option Value)}{kV doc pm cdv ct:Value}(l:K.lookup f=some ⟨oc,od,.func (fu x qual (az st) (aw st) (af st) .none kV doc pm an cdv ct),osl⟩)
  (c:eg K cdv qual=true) (k:da K (.ref f)=true):Fun K x qual st f (fu x qual (az st) (aw st) (af st) .none kV doc pm an cdv ct):=⟨⟨oc,od,kV,doc,pm,an,cdv,ct,osl,rfl,l,c⟩,k⟩
end
section
variable{X:Cx}
theorem pv (i:Nat){x:Str}{pos:Pos}(hN:X.N[i]?=some x:=by rfl)(hv:Vis X.env.scope x:=by first | exact anq rfl | exact Or.inr (anq rfl) | exact Or.inr (Or.inr rfl))(hd:(x == ("__debug__":Str))=false:=by decide)
  (hcd:(x == ("__classdict__":Str))=false:=by decide):PE X (.Name x pos) (acr i):=XS hN hv hd hcd
end
theorem et {A B:Prop}(h:B):if false=true then A else B:=by
 rw[if_neg kr];exact h
theorem iQ {A B:Prop}(h:A):if true=true then A else B:=by
 rw[if_pos rfl];exact h
theorem iY {c A B:Prop}[Decidable c](h1:c->A)(h2:¬c->B):if c then A else B:=by
 by_cases h:c
 ·rw[if_pos h];exact h1 h
 ·rw[if_neg h];exact h2 h
def a9 (H H':Hp):Prop:=∀b o,H b=some o->H' b=some o
theorem a9.refl (H:Hp):a9 H H:=λ_ _ h=>h
theorem a9.trans {H H1 H2:Hp}(a:a9 H H1)(b:a9 H1 H2):a9 H H2:=λc o h=>b c o (a c o h)
theorem a9.free {H H':Hp}(e:a9 H H'){l:Addr}(h:H' l=Option.none):H l=Option.none:=by
 cases q:H l with
 |none=>rfl
 |some o =>
  rw[e l o q]at h;cases h
theorem a9.seq {K:ba}{H H':Hp}{a:Addr}{xs:List V}(e:a9 H H')(h:SqL K H a xs):SqL K H' a xs:=by
 rcases h with (h | ⟨o,h⟩) | h
 ·exact .inl (.inl (e _ _ h))
 ·exact .inl (.inr ⟨o,e _ _ h⟩)
 ·exact .inr h
theorem iR:anS "len"=some (.builtin "len"):=by trivial
theorem xh:anS "isinstance"=some (.builtin "isinstance"):=by trivial
theorem Yr:anS "max"=some (.builtin "max"):=by trivial
theorem Ys:anS "any"=some (.builtin "any"):=by trivial
theorem LN:anS "all"=some (.builtin "all"):=by trivial
theorem Yt:anS "int"=some (.type "int"):=by trivial
theorem LO:anS "str"=some (.type "str"):=by trivial
theorem jb:anS "list"=some (.type "list"):=by trivial
theorem Yu:anS "ord"=some (.builtin "ord"):=by trivial
mutual
def DV (K:ba)(H:Hp):PyData->V->Prop
 | .none,x=>x=.non
 | .bool b,x=>x=.bl b
 | .int i,x=>x=.int i
 | .str y,x=>x=.str y
 | .list ds,x=>∃a xs,x=.ref a/\SqL K H a xs/\DVs K H ds xs
 | .tuple ds,x=>∃a xs,x=.ref a/\SqT K H a xs/\DVs K H ds xs
 | .dict _,_=>False
def DVs (K:ba)(H:Hp):List PyData->List V->Prop
 |[],xs=>xs=[]
 |d::ds,xs=>∃x r,xs=x::r/\DV K H d x/\DVs K H ds r
end
section
variable{X:Cx}{pins:List (Addr×Obj)}{σ:St}{H:Hp}{s:Shared}
mutual
theorem DV.reads (I:Inv X pins σ H s):∀(d:PyData) {x:V} {u:Value},DV X.K H d x->RelV x u->∃as,Reads s.heap u d as
 | .none,_,_,h,r=>by
  have h':=h;unfold DV at h';subst h';cases r;exact⟨_,.none⟩
 | .bool b,_,_,h,r=>by
  have h':=h;unfold DV at h';subst h';cases r;exact⟨_,.bool b⟩
 | .int i,_,_,h,r=>by
  have h':=h;unfold DV at h';subst h';obtain⟨t,rfl⟩:=r;exact⟨_,.int i t⟩
 | .str y,_,_,h,r=>by
  have h':=h;unfold DV at h';subst h';obtain⟨t,rfl⟩:=r;exact⟨_,.str y t⟩
 | .list ds,_,_,h,r=>by
  have h':=h;unfold DV at h';obtain⟨a,xs,rfl,hq,hs⟩:=h';cases r;obtain⟨its,rv,⟨o,n,e,c,_,dt⟩,_⟩:=I.list hq;obtain⟨as,q⟩:=DVs.reads I ds hs rv;exact⟨_,.list e c dt (by simpa using q)⟩
 | .tuple ds,_,_,h,r=>by
  have h':=h;unfold DV at h';obtain⟨a,xs,rfl,hq,hs⟩:=h';cases r;obtain⟨its,rv,⟨o,e,c,n,dt⟩,_⟩:=I.tuple hq;obtain⟨as,q⟩:=DVs.reads I ds hs rv;exact⟨_,.tuple e c dt (by simpa using q)⟩
 | .dict _,_,_,h,_=>by
  have h':=h;unfold DV at h';exact h'.elim
theorem DVs.reads (I:Inv X pins σ H s):∀(ds:List PyData) {xs:List V} {us:List Value},DVs X.K H ds xs->Vals xs us->∃as,ReadsAll s.heap us ds as
 |[],_,_,h,r=>by
  have h':=h;unfold DVs at h';subst h';cases r;exact⟨_,.nil⟩
 |d::ds,_,_,h,r=>by
  have h':=h;unfold DVs at h';obtain⟨x,q,rfl,h1,h2⟩:=h';cases r with
  |cons r1 r2 =>
   obtain⟨as,e1⟩:=DV.reads I d h1 r1;obtain⟨bs,e2⟩:=DVs.reads I ds h2 r2;exact⟨_,.cons e1 e2⟩
end
def akN (K:ba):R2:=λx y H Q=>∃d e,DV K H d x/\DV K H e y/\SeqAt.shaped d=true/\SeqAt.shaped e=true/\Q (.bl (aoH d e)) H
def akO (K:ba):R2:=λx y H Q=>∃d e,DV K H d x/\DV K H e y/\SeqAt.shaped d=true/\SeqAt.shaped e=true/\Q (.bl (!aoH d e)) H
theorem GA (hu:X.A.units+64 < cLine):OpR X (aoc .Eq) (akN X.K):=by
 intro pins s σ H x y v u Q I rx ry h;obtain⟨d,e,hd,he,sd,se,q⟩:=h;obtain⟨as,r1⟩:=DV.reads I d hd rx;obtain⟨bs,r2⟩:=DV.reads I e he ry;exact eq_dataH r1 r2 sd se hu ⟨.bl _,H,I,rfl,q⟩
theorem sF (hu:X.A.units+64 < cLine):OpR X (aoc .NotEq) (akO X.K):=by
 intro pins s σ H x y v u Q I rx ry h;obtain⟨d,e,hd,he,sd,se,q⟩:=h;obtain⟨as,r1⟩:=DV.reads I d hd rx;obtain⟨bs,r2⟩:=DV.reads I e he ry;exact ne_dataH r1 r2 sd se hu ⟨.bl _,H,I,rfl,q⟩
end
theorem Ik (K:ba)(H:Hp):∀ws:List Str,DVs K H (ws.map anG) (ws.map V.str)
 |[]=>by unfold DVs;rfl
 |w::ws=>by
  show DVs K H (anG w::ws.map anG) _;unfold DVs;exact⟨_,_,rfl,by unfold DV;rfl,Ik K H ws⟩
theorem e9 {K:ba}{H:Hp}{a:Addr}{ws:List Str}(h:SqL K H a (ws.map V.str)):DV K H (.list (ws.map anG)) (.ref a):=by
 unfold DV;exact⟨a,_,rfl,h,Ik K H ws⟩
theorem pR:∀ws:List Str,(∀w∈ws,am8 w=true)->sr (ws.map anG)=true
 |[],_=>by simp[sr]
 |w::ws,h=>by
  simp only[ku,sr,ana,anA];exact⟨h w kb,pR ws λv hv=>h v (kq _ hv)⟩
theorem sG:∀ws:List Str,ani (ws.map anG)<=1
 |[]=>by simp[ani]
 |w::ws=>by
  have:=sG ws;simp only[ku,ani,anl];omega
theorem Bf {ws:List Str}(h:∀w∈ws,am8 w=true):SeqAt.shaped (.list (ws.map anG))=true:=by
 have h1:=sG ws;have h2:anl (.list (ws.map anG))<=64:=by simp only[anl];omega
 show (ana (.list (ws.map anG)) && decide (anl (.list (ws.map anG))<=64))=true;rw[anA];exact⟨by simp only[ana];exact pR ws h,decide_eq_true h2⟩
theorem Dg:∀ {ys:List Str} {us:List Value},Vals (ys.map V.str) us->StrsAre us ys
 |[],_,.nil=>.nil
 |y::ys,_,.cons r t=>by
  obtain⟨tk,rfl⟩:=r;exact .cons y tk (Dg t)
theorem uL:∀l:List (Str×Tok),Vals ((l.map (·.1)).map V.str) (strValues l)
 |[]=>.nil
 |p::l=>.cons ⟨p.2,rfl⟩ (uL l)
section
variable{X:Cx}
def rJoin (K:ba):V->List V->Hp->VK->Prop:=λx vs H Q=>∃sep a ys,x=.str sep/\vs=[.ref a]/\SqL K H a (ys.map V.str)/\(ys.map (·.length)).sum+ys.length * sep.length<=16777216/\Q (.str (km sep ys)) H
theorem N7:MtR X "str.join" (rJoin X.K):=by
 intro pins s σ H x vs v us Q I rx rv h;obtain⟨sep,a,ys,rfl,rfl,hq,hz,q⟩:=h;obtain⟨t,rfl⟩:=rx;obtain⟨u,rfl,ru⟩:=rv.one;cases ru;obtain⟨its,r,pl,_⟩:=I.list hq;refine join_list pl.isList (Dg (by simpa using r)) hz λt' k=>?_
 rw[show Txt.join sep ys=km sep ys from StrLaws.glued_eq_join sep ys]
 exact⟨.str _,H,I.tok _,⟨_,rfl⟩,q⟩
def Yv:V->List V->Hp->VK->Prop:=λx vs H Q=>∃z y,x=.str z/\vs=[.str y]/\(y.length == 0)=false/\z.length+2<=gr/\∀p,H p=none->Q (.ref p) (upd H p (.lst ((Txt.split z y).map V.str)))
theorem Il:MtR X "str.split" Yv:=by
 intro pins s σ H x vs v us Q I rx rv h;obtain⟨x,y,rfl,rfl,hy,hsz,q⟩:=h;obtain⟨t,rfl⟩:=rx;obtain⟨_,rfl,u,rfl⟩:=rv.one;have hn:(Builtin.Str.partsBetween x (an0 x y 0 x.length (x.length+1)) y.length).length<=gr:=by
  have e1:=StrLaws.occ_length_le x y 0 x.length (x.length+1);rw[length_partsBetween];omega
 have fin:∀(l:List (Str×Tok)) (tk:Nat),l.map (·.1)=Txt.split x y->(Txt.split x y).length<=gr ->
   EP X pins σ Q (.ref s.heap.objs.size) { s with heap:=s.heap.push { cls:=.type "list",data:=.seq (strValues l).toArray },toks:=tk }:=λl tk e hz=>by
  refine⟨.ref _,_,I.acR (t':=tk) (ys:=(Txt.split x y).map V.str) (by rw[<-e];exact uL l) (by rw[bo];exact hz),rfl,q _ I.fresh⟩
 have acU:1<=gr:=by omega
 cases h1:(decide (x.length < y.length) || decide (Builtin.Str.strKind x < Builtin.Str.strKind y))
 ·cases hf:(an0 x y 0 x.length (x.length+1)).isEmpty
  ·refine call_meets F.slot_str_split (typeIs_str _ _ _) F.entry_str_split (F.args_str_split_2 _ _) (meets_str_split_sep x y t u h1 hy hf (by omega) hn) ?_
   have e:Txt.split x y=Builtin.Str.partsBetween x (an0 x y 0 x.length (x.length+1)) y.length:=(if_neg (ne_true_of_eq_false h1)).trans (if_neg (ne_true_of_eq_false hf));show wants (EP X pins σ Q) X.xe _ { s with toks:=_,heap:=s.heap.push { cls:=.type "list",data:=.seq (strsFrom s.toks (Builtin.Str.partsBetween x (an0 x y 0 x.length (x.length+1)) y.length)).toArray } }
   rw[strsFrom_eq];exact fin (numbered s.toks _) _ ((numbered_texts _ _).trans e.symm) (by rw[e];exact hn)
  ·have e:Txt.split x y=[x]:=(if_neg (ne_true_of_eq_false h1)).trans (if_pos hf);exact call_meets F.slot_str_split (typeIs_str _ _ _) F.entry_str_split (F.args_str_split_2 _ _) (meets_str_split_not_found x y t u h1 hy hf)
    (fin [(x,t)] s.toks e.symm (by rw[e];exact acU))
 ·have e:Txt.split x y=[x]:=if_pos h1;exact call_meets F.slot_str_split (typeIs_str _ _ _) F.entry_str_split (F.args_str_split_2 _ _) (meets_str_split_cannot_occur x y t u h1)
   (fin [(x,t)] s.toks e.symm (by rw[e];exact acU))
def akP:V->Value
 | .ty n=>.type n
 | .ref a=>.ref a
 |_=>.none
def isC:V->Bool
 | .ty _=>true
 | .ref _=>true
 |_=>false
theorem Im:jM X (.builtin "isinstance") (λxs H Q=>∃x c t b,xs=[x,c]/\isC c=true/\zV X.K H x t/\PySem.W.kitOne X.K t (akP c)=some b/\Q (.bl b) H):=by
 intro pins s σ H xs us Q I r h;obtain⟨x,c,t,b,rfl,hc,ty,e,q⟩:=h;obtain⟨u,w',rfl,rx,rc⟩:=vals2 r;have fin:∀tk,EP X pins σ Q (.bool b) { s with toks:=tk }:=λtk=>⟨.bl b,H,I.tok _,rfl,q⟩
 cases c with
 |ty n=>cases rc;exact Fq I rx ty e fin
 |ref a=>cases rc;exact Fq I rx ty e fin
 |_=>exact absurd (show false=true from hc) kr
theorem Um:OpR X (binaryOp .Add) (λx y H Q=>∃l b xs zs,x=.ref l/\y=.ref b/\H l=some (.lst xs)/\H b=some (.lst zs)/\xs.length+zs.length<=gr/\∀p,H p=none->Q (.ref p) (upd H p (.lst (xs++zs)))):=Yo
end
theorem eJ (a b:Str):(a++b).cps.toList=a.cps.toList++b.cps.toList:=by
 show (a.cps++b.cps).toList=_;simp
theorem Io (c:Nat):∀(a b p q:List Nat),c∉a->c∉b->a++c::p=b++c::q->a=b/\p=q
 |[],[],p,q,_,_,e=>by simpa using e
 |[],y::b,p,q,_,hb,e=>by
  have e':c::p=y::(b++c::q):=e;injection e' with e1 _
  exact absurd (by rw[e1];exact kb) hb
 |x::a,[],p,q,ha,_,e=>by
  have e':x::(a++c::p)=c::q:=e;injection e' with e1 _
  exact absurd (by rw[<-e1];exact kb) ha
 |x::a,y::b,p,q,ha,hb,e=>by
  have e':x::(a++c::p)=y::(b++c::q):=e;injection e' with e1 e2
  obtain⟨h1,h2⟩:=Io c a b p q (λh=>ha (kq _ h)) (λh=>hb (kq _ h)) e2
  exact⟨by rw[e1,h1],h2⟩
theorem wj {a b:Str}(h:a.cps.toList=b.cps.toList):a=b:=by
 cases a;cases b;have:=Array.toList_inj.mp h;subst this;rfl
theorem hU (c:Nat)(x y:Str)(r:List Str):(km ⟨#[c]⟩ (x::y::r)).cps.toList=x.cps.toList++c::(km ⟨#[c]⟩ (y::r)).cps.toList:=by
 show ((x++⟨#[c]⟩)++km ⟨#[c]⟩ (y::r)).cps.toList=_;rw[eJ,eJ];simp
theorem Ip (c:Nat):∀(vs ws:List Str),vs≠[]->ws≠[]->(∀v∈vs,c∉v.cps.toList)->(∀w∈ws,c∉w.cps.toList)->km ⟨#[c]⟩ vs=km ⟨#[c]⟩ ws->vs=ws
 |[],_,h,_,_,_,_=>absurd rfl h
 |_,[],_,h,_,_,_=>absurd rfl h
 |[x],[y],_,_,_,_,e=>by rw[show x=y from e]
 |[x],y::z::r,_,_,hv,_,e=>by
  have e1:=congrArg (λt:Str=>t.cps.toList) e
  have e2:x.cps.toList=y.cps.toList++c::(km ⟨#[c]⟩ (z::r)).cps.toList:=e1.trans (hU c y z r);exact absurd (by rw[e2];exact gn _ kb) (hv x kb)
 |x::z::r,[y],_,_,_,hw,e=>by
  have e1:=congrArg (λt:Str=>t.cps.toList) e
  have e2:x.cps.toList++c::(km ⟨#[c]⟩ (z::r)).cps.toList=y.cps.toList:=(hU c x z r).symm.trans e1;exact absurd (by rw[<-e2];exact gn _ kb) (hw y kb)
 |x::x2::r,y::y2::q,_,_,hv,hw,e=>by
  have e1:=congrArg (λt:Str=>t.cps.toList) e
  have e2:=(hU c x x2 r).symm.trans (e1.trans (hU c y y2 q));obtain⟨h1,h2⟩:=Io c _ _ _ _ (hv x kb) (hw y kb) e2;have h3:=Ip c (x2::r) (y2::q) (anB _ _) (anB _ _) (λv h=>hv v (kq _ h)) (λw h=>hw w (kq _ h)) (wj h2)
  rw[wj h1,h3]
theorem Dh (x y:Str):Txt.split x y≠[]:=by
 unfold Txt.split;split
 ·exact anB _ _
 ·split
  ·exact anB _ _
  ·rw[StrLaws.partsBetween_eq];intro h;have:=congrArg List.length h;revert this;cases (an0 x y 0 x.length (x.length+1)) <;> simp[StrLaws.partsFrom]
theorem Di {c:Nat}{ws:List Str}(h0:ws≠[])(h:∀w∈ws,c∉w.cps.toList):Txt.split (km ⟨#[c]⟩ ws) ⟨#[c]⟩=ws :=
 Ip c _ _ (Dh _ _) h0 (StrLaws.split_free _ c) h (StrLaws.join_split _ _)
theorem qQ (c:Nat):∀ws:List Str,(km ⟨#[c]⟩ ws).length<=(ws.map (·.length)).sum+ws.length
 |[]=>anz _
 |[x]=>by show x.length<=_;simp
 |x::y::r=>by
  have ih:=qQ c (y::r);have e:(km ⟨#[c]⟩ (x::y::r)).length=x.length+1+(km ⟨#[c]⟩ (y::r)).length:=by
   have:=congrArg List.length (hU c x y r);rw[ki,tm]at this;have l1:∀z:Str,z.cps.toList.length=z.length:=λz=>by simp[Str.length]
   rw[l1,l1,l1]at this;omega
  simp only[ku,List.sum_cons,tm]at ih ⊢;omega
theorem EN {c:Nat}:∀ {ws:List Str},ws≠[]->(∀w∈ws,1<=w.length)->1<=(km ⟨#[c]⟩ ws).length
 |[],h,_=>absurd rfl h
 |[x],_,h=>h x kb
 |x::y::r,_,h=>by
  have h1:=h x kb;have:=congrArg List.length (hU c x y r);rw[ki]at this;have l1:∀z:Str,z.cps.toList.length=z.length:=λz=>by simp[Str.length]
  rw[l1,l1]at this;omega
theorem uM {b:Bool}{A B:Prop}(hb:b=true)(h:B):if (!b)=true then A else B:=by
 subst hb;exact et h
theorem Bg {b:Bool}{A B:Prop}(hb:b=true)(h:A):if b=true then A else B:=by
 subst hb;exact iQ h
theorem Dj {b:Bool}{A B:Prop}(hb:b=false)(h:B):if b=true then A else B:=by
 subst hb;exact et h
theorem aB {H:Hp}{p:Addr}{o:HO}(h:H p=none):a9 H (upd H p o):=λb u e=>by
 rw[av (aU e h)];exact e
theorem a9.own {H H':Hp}{p:Addr}{o:HO}(s:a9 H H')(h:H p=none):a9 H (upd H' p o):=λb u e=>by
 rw[av (aU e h)];exact s b u e
theorem a9.new {H H':Hp}{p:Addr}{o:HO}(s:a9 H H')(h:H' p=none):a9 H (upd H' p o):=s.trans (aB h)
theorem a9.nn {H H':Hp}(s:a9 H H'){p:Addr}{o:HO}(h:H p=none)(e:H' p=some o){b:Addr}{u:HO}(eb:H b=some u):b≠p:=aU eb h
theorem uN (xs:List V)(k:Nat):kF xs (some (k:Int)) none=xs.drop k:=by
 unfold kF;rw[HT.yC,HT.De]
 by_cases h:k<=xs.length
 ·rw[Nat.min_eq_left h];exact List.take_of_length_le (by rw[an6];exact kj _)
 ·have h':xs.length<=k:=by omega
  rw[Nat.min_eq_right h',List.drop_of_length_le h',List.drop_of_length_le (kj _)];simp
theorem N8 {α:Type}{xs:List α}{i:Int}{n:Nat}(hn:xs.length=n)(h0:0<=i)(h1:i < n):∃c,atI xs i=some c/\c∈xs:=by
 have hi:i.toNat < xs.length:=by omega
 have e:((i.toNat:Nat):Int)=i:=by omega
 refine⟨xs[i.toNat],?_,List.getElem_mem hi⟩;have q:=pQ (anm hi);rw[e]at q;exact q
def dj (scope outer:Scope):Scope :=
 { scope with names:=scope.names.map λ(n,k)=>if (k == .free && outer.kind == .function && outer.names.lookup n == some .cell) then (n,.cell) else (n,k) }
structure bU (scope outer:Scope)(x:Str)(N M:List Str):Prop where
 kind:scope.kind=.function
 QT:outer.kind=.function
 zY:∀y∈scope.names,y.2≠.cell
 names:∀y∈scope.names,y.2=.local->scope.names.lookup y.1=some .local
 hx:scope.names.lookup x=some .local
 free:∀y∈scope.names,y.2=.free->outer.names.lookup y.1=some .cell
 nl:∀n∈M,(dj scope outer).names.lookup n≠some .local
 ndM:M.Nodup
 nd:N.Nodup
 len:M.length=N.length
 rel:∀i:Nat,i < N.length->M[i]?=N[i]?\/M[i]?=some anF
 em:(dj scope outer).names.lookup anF=none
theorem bU.mem {scope outer:Scope}{x:Str}{N M:List Str}(S:bU scope outer x N M){n:Str}{k:NameKind}(h:(dj scope outer).names.lookup n=some k)(hk:k=.cell\/k=.free) :
  k=.cell/\(n,aoa)∈scope.names/\outer.names.lookup n=some .cell:=by
 obtain⟨⟨n',k'⟩,hm,e⟩:=List.mem_map.mp (aoh h);dsimp only at e
 by_cases hc:(k' == aoa && outer.kind == .function && outer.names.lookup n' == some .cell)=true
 ·rw[if_pos hc]at e;injection e with e1 e2
  subst e1 e2;rw[anA,anA]at hc;have hk':k'=.free:=beq_iff_eq.mp hc.1.1;subst hk';exact⟨rfl,hm,beq_iff_eq.mp hc.2⟩
 ·rw[if_neg hc]at e;injection e with e1 e2
  subst e1 e2;rcases hk with z | z
  ·exact absurd z (S.zY _ hm)
  ·subst z
   exfalso
   refine hc ?_;rw[S.free _ hm rfl,S.QT];rfl
theorem GB {env:Env}{f:Str×NameKind->List (Str×Addr)->Sem (ForInStep (List (Str×Addr)))}
  (h1:∀n k r,k≠aoa->f (n,k) r=pure (.yield r)) (h2:∀n r c,env.cells.lookup n=some c->f (n,.free) r=pure (.yield ((n,c)::r))) :
  ∀(ns:List (Str×NameKind)) (acc:List (Str×Addr)),(∀y∈ns,y.2=.free->∃c,env.cells.lookup y.1=some c)->(∀n c,acc.lookup n=some c->env.cells.lookup n=some c) ->
   ∃cl,(forIn ns acc f:Sem (List (Str×Addr)))=pure cl/\(∀n c,cl.lookup n=some c->env.cells.lookup n=some c)/\(∀n c,acc.lookup n=some c->(cl.lookup n).isSome=true)/\∀y∈ns,y.2=.free->(cl.lookup y.1).isSome=true
 |[],acc,_,ha=>⟨acc,by simp,ha,λn c e=>by rw[e];rfl,λy hy=>nomatch hy⟩
 | (n,k)::ns,acc,hn,ha=>by
  by_cases hk:k=aoa
  ·subst hk;obtain⟨c,hc⟩:=hn (n,.free) kb rfl;have ha':∀m d,((n,c)::acc).lookup m=some d->env.cells.lookup m=some d:=λm d e=>by
    rw[List.lookup_cons]at e;split at e
    ·rename_i hb;have:m=n:=beq_iff_eq.mp hb;subst this;rw[<-anb e];exact hc
    ·exact ha m d e
   obtain⟨cl,e,p1,p2,p3⟩:=GB h1 h2 ns ((n,c)::acc) (λy hy=>hn y (kq _ hy)) ha'
   have hnn:(cl.lookup n).isSome=true:=p2 n c (by simp[List.lookup_cons])
   refine⟨cl,?_,p1,λm d em=>?_,λy hy hf=>?_⟩
   ·rw[List.forIn_cons,h2 n acc c hc,pure_bind];exact e
   ·by_cases hm:m=n
    ·subst hm;exact hnn
    ·exact p2 m d (by rw[List.lookup_cons,show (m == n)=false from beq_eq_false_iff_ne.mpr hm];exact em)
   ·rcases List.mem_cons.mp hy with rfl | hy
    ·exact hnn
    ·exact p3 y hy hf
  ·obtain⟨cl,e,p1,p2,p3⟩:=GB h1 h2 ns acc (λy hy=>hn y (kq _ hy)) ha
   refine⟨cl,?_,p1,p2,λy hy hf=>?_⟩
   ·rw[List.forIn_cons,h1 n k acc hk,pure_bind];exact e
   ·rcases List.mem_cons.mp hy with rfl | hy
    ·exact absurd hf hk
    ·exact p3 y hy hf
theorem wk {scope:Scope}{env:Env}(h:∀y∈scope.names,y.2=.free->∃c,env.cells.lookup y.1=some c) :
  ∃cl,closureFor scope env=pure cl/\(∀n c,cl.lookup n=some c->env.cells.lookup n=some c)/\∀y∈scope.names,y.2=.free->(cl.lookup y.1).isSome=true:=by
 unfold closureFor;obtain⟨cl,e,p1,_,p3⟩:=GB (env:=env) (f:=λx r=>match x with | (name,kind)=>if (kind == aoa)=true then do let a <-cellOf env name;pure (.yield ((name,a)::r)) else pure (.yield r))
  (λn k r hk=>by
   have:(k == aoa)=false:=beq_eq_false_iff_ne.mpr hk;simp only[this,Bool.false_eq_true,if_false])
  (λn r c hc=>by
   simp only[beq_self_eq_true,if_true];unfold cellOf;rw[hc];rw[pure_bind])
  scope.names [] h (λn c e=>by simp at e)
 refine⟨cl,?_,p1,p3⟩;have e':=congrArg (λz:Sem (List (Str×Addr))=>z >>= λcs=>pure cs) e
 simp only[pure_bind]at e';exact e'
def dM (X:Cx)(x:Str)(M:List Str)(scope:Scope)(cl:List (Str×Addr))(C:Addr)(s:Shared)(H:Hp)(fp:List Addr):Cx :=
 { X with N:=x::M,s₀:=s,H₀:=H,env:=compEnvC scope cl C X.env,outer:=X.stack,ex:=fp,fn:=λ_=>false,pn:=[],xe:=λ_ _=>False }
def nO (J:It)(te:TE)(σ:St)(D:Addr)(H1:Hp)(Q:VK):Prop:=∃W:Nat->Nat->List V->Hp->Prop,(∃m,W 0 m [] (upd H1 D (.lst [])))/\∀i m ys H2,W i m ys H2 ->
 H2 D=some (.lst ys)/\((J.stop i H2/\Q (.ref D) H2)\/(J.go i H2/\ys.length < gr/\∀x H3,J.yld i H2 x H3->te (some x::σ) H3 λy H4=>H4 D=some (.lst ys)/\∃m',m' < m/\W (i+1) m' (ys++[y]) (upd H4 D (.lst (ys++[y])))))
def QU (wi:TI)(te:TE):TE:=λσ H Q=>wi σ H λJ H1=>∀D,H1 D=none->nO J te σ D H1 Q
section
variable{X:Cx}{pins:List (Addr×Obj)}{σ:St}{H:Hp}{s:Shared}{elt iter:Expr}{x:Str}{px pos:Pos}{scope:Scope}{wi:TI}{te:TE}{Q:VK}{M:List Str}
theorem Uo {cl:List (Str×Addr)}{C:Addr}{fp:List Addr}(S:bU scope X.env.scope x X.N M)(I:Inv X pins σ H s)(hC:s.heap.objs.size<=C)(p1:∀n c,cl.lookup n=some c->X.env.cells.lookup n=some c)
  (p3:∀y∈scope.names,y.2=.free->(cl.lookup y.1).isSome=true) (f2:∀b∈fp,gP X pins H b) (fo:∀b∈fp,b < s.heap.objs.size):(dM X x M scope cl C s H fp).Ok where
 mod:=I.ok.mod
 kind:=S.kind
 glob:=I.ok.glob
 blt:=I.ok.blt
 above:=hC
 inj:=λy z c h1 h2=>I.ok.inj y z c (p1 y c h1) (p1 z c h2)
 has:=λy hy=>by
  have hy':(dj scope X.env.scope).names.lookup y=some .cell\/(dj scope X.env.scope).names.lookup y=some .free:=hy;have hm:(y,aoa)∈scope.names:=by
   rcases hy' with z | z
   ·exact(S.mem z (.inl rfl)).2.1
   ·exact(S.mem z (.inr rfl)).2.1
  exact Option.isSome_iff_exists.mp (p3 _ hm rfl)
 cab:=λy c h=>absurd h kr
 hd:=I.ok.hd
 frames:=I.ok.frames
 stk:=.inl rfl
 exf:=λb hb=>⟨adm (ang (fo b hb) hC),λy c e=>(f2 b hb).2.2.2.2.1 y c (p1 y c e)⟩
 bs:=I.bs
 bsz:=si I.ok.bsz I.sz
 Gs:=λb o e hb=>by
  rcases (f2 b hb).2.2.2.1 with z | z
  ·exact I.ok.Gs b o e z
  ·exact absurd (ang (me (I.ok.bs b o e).1) z) (aoR _)
 EK:=λb hb z=>by
  rcases List.mem_cons.mp (I.C4 b z) with e | e
  ·exact(f2 b hb).2.1 e
  ·exact(f2 b hb).2.2.1 e
 wW:=I.stack
 frf:=I.CO
theorem Iq {cl:List (Str×Addr)}{C D:Addr}{fp:List Addr}{h₁:Heap}{tk:Nat}{m:Str->Option Value}(S:bU scope X.env.scope x X.N M)(I:Inv X pins σ H s)(hC:s.heap.objs.size<=C)(hD:s.heap.objs.size<=D)(hDC:D≠C)
  (p1:∀n c,cl.lookup n=some c->X.env.cells.lookup n=some c)
  (p3:∀y∈scope.names,y.2=.free->(cl.lookup y.1).isSome=true) (f2:∀b∈fp,gP X pins H b) (fo:∀b∈fp,b < s.heap.objs.size)
  (old:∀b o,s.heap.get? b=some o->h₁.get? b=some o) (hn:h₁.Ns C m) (hl:h₁.get? D=some { cls:=.type "list",data:=.seq ([]:List Value).toArray }) :
  Inv (dM X x M scope cl C s H fp) [] (none::σ) (upd H D (.lst [])) { s with heap:=h₁,toks:=tk }:=by
 have cellK:∀c v,s.heap.IsCell c v->h₁.IsCell c v:=λc v ⟨o,e,d⟩=>⟨o,old c o e,d⟩
 refine⟨Uo S I hC p1 p3 f2 fo,rfl,I.bare,Un.laid old hD (I.hok.fresh hD),⟨m,hn,λi n v h1 h2 h3=>?_⟩,λy c e=>?_,?_,λy c e=>?_,λp hp=>absurd (show p∈([]:List (Addr×Obj)) from hp) (by simp),I.hok.laid old hD ⟨anz _,[],0,.nil,hl⟩,?_⟩
 ·cases i with
  |zero =>
   have h2':(none:Option V)=some v:=by simpa using h2
   cases h2'
  |succ i =>
   have h0':M[i]?=some n:=by simpa [dM] using h1
   have h2':σ[i]?=some (some v):=by simpa using h2
   have h3':(dj scope X.env.scope).names.lookup n=some .local\/(dj scope X.env.scope).names.lookup n=some .cell\/(dj scope X.env.scope).names.lookup n=some .free:=h3;have mP:(dj scope X.env.scope).names.lookup n=some .cell/\(n,aoa)∈scope.names/\X.env.scope.names.lookup n=some .cell:=by
    rcases h3' with z | z | z
    ·exact absurd z (S.nl n (anh h0'))
    ·exact⟨z,(S.mem z (.inl rfl)).2⟩
    ·exact absurd (S.mem z (.inr rfl)).1 (by decide)
   have h1':X.N[i]?=some n:=by
    have hi:i < X.N.length:=by rw[<-S.len];exact(List.getElem?_eq_some_iff.mp h0').1
    rcases S.rel i hi with z | z
    ·rw[<-z];exact h0'
    ·rw[h0']at z;have e:n=anF:=anb z;rw[e,S.em]at mP;cases mP.1
   obtain⟨m0,hn0,hl0⟩:=I.loc;obtain⟨u,r,l⟩:=hl0 i n v h1' h2' (.inr (.inl mP.2.2));refine⟨u,r,.inr ⟨.inl mP.1,?_⟩⟩;obtain⟨c,hc⟩:=Option.isSome_iff_exists.mp (p3 _ mP.2.1 rfl);refine⟨c,hc,?_⟩;rcases l with ⟨k,_⟩ | ⟨_,c',hc',z⟩
   ·have k':X.env.scope.names.lookup n=some .local:=k;rw[mP.2.2]at k';cases k'
   ·rw[p1 n c hc]at hc';cases hc';exact cellK c _ z
 ·obtain⟨v,z⟩:=I.cell y c (p1 y c e);exact⟨v,cellK c v z⟩
 ·show (upd H D (.lst [])) C=none;rw[av (anj hDC)];exact I.hok.fresh hC
 ·obtain⟨v,z⟩:=I.cell y c (p1 y c e);rw[av (adm (ang z.lt hD))];exact I.pO y c (p1 y c e)
 ·show (none::σ).length=(x::M).length;rw[tm,tm,I.len,S.len]
theorem Fz {cl:List (Str×Addr)}{RR:Value->Addr->Result->Shared->Prop}(S:bU scope X.env.scope x X.N M)(hc:X.calm=true)(hi:PI X (.Name x px) iter wi)
  (he:∀cl C s H fp,PE (dM X x M scope cl C s H fp) elt te) (I:Inv X pins σ H s) (h:QU wi te σ H Q)
  (p1:∀n c,cl.lookup n=some c->X.env.cells.lookup n=some c) (p3:∀y∈scope.names,y.2=.free->(cl.lookup y.1).isSome=true)
  (hRR:∀D C H' s' o m,Inv X (pins++[(C,o)]) σ H' s'->s'.heap.get? C=some o->s'.heap.Ns C m->X.s₀.heap.objs.size<=C->(∀y c,X.env.cells.lookup y=some c->c≠C)->(∀p∈X.pn++pins,p.1≠C)->Q (.ref D) H'->RR (.ref D) C (.ok .next) s') :
  wpAny (model X.prog X.w) X.A (eval iter X.env) (λxv s₁=>wpAny (model X.prog X.w) X.A (pyIter xv) (λit s₂=>wpAny (model X.prog X.w) X.A (newList []) (λacc s₃ =>
   wpAny (model X.prog X.w) X.A (newFunctionEnv scope X.env.globals cl [] X.env.qual none .none (some X.env)) (λBL s₄ =>
    codeAny (model X.prog X.w) X.A (.compStart (.ListComp elt [⟨.Name x px,iter,[],0⟩] scope pos) 0 it acc { BL with scope:=relabel scope X.env }) (RR acc BL.locals) s₄) X.xe s₃) X.xe s₂) X.xe s₁) X.xe s:=by
 refine thn (hi pins s σ H _ I h) λv s1 h1=>thn h1 λitv s2 h2=>?_
 obtain⟨it,fp,tn,J,H2,rfl,I2,T,st2,f2,q⟩:=h2;refine wpAny_newObj_type (wpAny_newFunctionEnv S.zY (by intro y hy;simp at hy) (λh₁ hns₁ hsb₁=>?_) S.kind)
 dsimp only at hns₁ hsb₁ ⊢;generalize hHH:s2.heap.push { cls:=.type "list",dict:=none,data:=.seq ([]:List Value).toArray }=HH at hns₁ hsb₁ ⊢;have hCs:HH.objs.size=s2.heap.objs.size+1:=by rw[<-hHH,aof]
 have hDC:s2.heap.objs.size≠HH.objs.size:=by rw[hCs];exact adm (aoJ _)
 have Ir:s2.heap.objs.size<=HH.objs.size:=by rw[hCs];exact an3 _
 have below:∀b,b < s2.heap.objs.size->b≠HH.objs.size:=λb hb=>by rw[hCs];exact adm (aoz hb)
 have old:∀b o,s2.heap.get? b=some o->h₁.get? b=some o:=λb o e=>hsb₁.extBut b o (below b (me e)) (gp _ (hHH▸gp _ e))
 have Iu:h₁.get? s2.heap.objs.size=some { cls:=.type "list",data:=.seq ([]:List Value).toArray }:=hsb₁.extBut _ _ hDC (gp _ (hHH▸Lk _ rfl));have fo:∀b∈fp,b < s2.heap.objs.size:=λb hb=>by
  obtain⟨o,e,_⟩:=T.obj _ _ st2 b hb;exact me e
 have IY:=Iq (tk:=s2.toks+([]:List (Str×Value)).length) S I2 Ir (kj _) hDC p1 p3 f2 fo old hns₁ Iu;have st1:tn 0 h₁:=T.keep _ _ _ st2 λb _ o e=>old b o e
 obtain⟨W,⟨m0,w0⟩,turn⟩:=q _ (I2.hok.fresh (kj _));generalize hC:HH.objs.size=C at *;generalize hDD:s2.heap.objs.size=D at *;have ndY:(dM X x M scope cl C s2 H2 fp).N.Nodup:=by
  refine List.nodup_cons.mpr ⟨λhm=>S.nl x hm (lookup_relabel_local S.hx),S.ndM⟩
 have stat:∀ {H':Hp},(∀b∈fp,H' b=none)->∀b∈fp,gP (dM X x M scope cl C s2 H2 fp) [] H' b:=λhn b hb =>
  ⟨hn b hb,below b (fo b hb),IY.ok.EK b hb,.inl hb,λy c e=>(f2 b hb).2.2.2.2.1 y c (p1 y c e),λp hp=>absurd (show p∈([]:List (Addr×Obj)) from hp) (by simp)⟩
 have loop:codeAny (model X.prog X.w) X.A (.compLoop (.ListComp elt [⟨.Name x px,iter,[],0⟩] scope pos) 0 (.ref it) (.ref D) (compEnvC scope cl C X.env)) (RR (.ref D) C) { s2 with heap:=h₁,toks:=s2.toks+([]:List (Str×Value)).length }:=by
  refine codeAny_compLoop_tests (λn s'=>∃i v0 ys H',Inv (dM X x M scope cl C s2 H2 fp) [] (v0::σ) H' s'/\tn i s'.heap/\(∀b∈fp,H' b=none)/\W i n ys H') ?_ m0 ⟨0,none,[],_,IY,st1,λb hb=>?_,w0⟩
  ·rintro n s3 ⟨i,v0,ys,H3,I3,st3,fr3,w3⟩;obtain⟨hDl,hw⟩:=turn i n ys H3 w3;rcases hw with ⟨stop,qn⟩ | ⟨go,hsz,step⟩
   ·refine thn (T.done (dM X x M scope cl C s2 H2 fp) rfl rfl rfl hc i [] s3 _ H3 _ I3 (stat fr3) st3 stop) λr s4 ⟨hr,I4⟩=>?_
    subst hr;obtain⟨m4,hn4,_⟩:=I4.loc;obtain⟨oC,es4,ep4,e4,r4⟩:=id hn4;have GC:s2.heap.objs.size<=C:=by rw[hDD];exact Ir
    have IX:Inv X pins σ H3 s4:=I2.HY (ch:=fp) I4.os I4.base I4.hok I4.bare λb hb=>⟨(f2 b hb).2.2.2.1,(f2 b hb).2.1,(f2 b hb).2.2.2.2.1,(f2 b hb).2.2.2.2.2⟩
    have fC:=I2.xx (H':=H3) GC I4.free;have IX2:Inv X (pins++[(C,oC)]) σ H3 s4:=IX.yx λp hp=>(List.mem_append.mp hp).elim (λz=>IX.pin p (gn _ z)) λz=>by
     have e:p=(C,oC):=by simpa using z
     subst e;exact⟨e4,fC.1,fC.2.1,fC.2.2.1,λv z=>by rw[r4.1]at z;cases z⟩
    exact hRR D C H3 s4 oC m4 IX2 e4 hn4 (si I2.sz GC) fC.2.2.2.2.1 fC.2.2.2.2.2 qn
   ·refine thn (T.item (dM X x M scope cl C s2 H2 fp) rfl rfl rfl hc i [] s3 _ H3 _ I3 (stat fr3) st3 go) λr s4 ⟨u,hr,h4⟩=>?_
    subst hr;have e0:∀k:Sem Unit,(letOwnedTupleGo (.Name x px) (.ref it) u >>= λ_=>k)=k:=λk=>by
     rw[show letOwnedTupleGo (.Name x px) (.ref it) u=pure () from rfl,pure_bind]
    show wpAny _ _ (assign (.Name x px) (compEnvC scope cl C X.env) u) _ _ s4;rw[<-e0 (assign (.Name x px) (compEnvC scope cl C X.env) u)];refine gc (thn h4 λ_ s5 ⟨xv,H5,I5,r5,y5,st5,fr5⟩=>?_)
    have I5':=I5.pinned (stat fr5) (T.obj _ _ st5);have hxl:(dM X x M scope cl C s2 H2 fp).env.scope.names.lookup x=some .local:=lookup_relabel_local S.hx;refine wpAny_assign_Name (qP (X:=dM X x M scope cl C s2 H2 fp) (i:=0) I5' ndY rfl (anq hxl) r5 (λs6 I6=>?_) (.inr hxl))
    refine wpAny_tests_nil ?_;rw[if_pos rfl];refine tu (he cl C s2 H2 fp _ s6 _ H5 _ I6 (step xv H5 y5)) (λy s7 ⟨yv,H7,I7,r7,hD7,m',hm',w7⟩=>?_) (λ_ _ f=>f.elim)
    refine tu (dq (X:=dM X x M scope cl C s2 H2 fp) _ s7 _ H7 (.ref D) [yv] (.ref D) [y] (λ_ H8=>H8=upd H7 D (.lst (ys++[yv]))) I7 rfl (.cons r7 .nil) ⟨D,ys,yv,rfl,rfl,hD7,hsz,rfl⟩)
     (λ_ s8 ⟨_,H8,I8,_,e8⟩=>?_) (λ_ _ f=>f.elim)
    subst e8;refine⟨m',hm',i+1,some xv,ys++[yv],_,I8.d6,T.keep _ _ _ st5 λb hb o e=>(I8.pin (b,o) (gn _ (gn _ (d0 hb e)))).1,λb hb=>?_,w7⟩
    obtain⟨o,e,d⟩:=T.obj _ _ st5 b hb;exact(I8.pin (b,o) (gn _ (gn _ (d0 hb e)))).2.1
  ·show (upd H2 D (.lst [])) b=none;rw[av (adm (fo b hb))];exact(f2 b hb).1
 exact codeAny_compStart_list loop (T.self _ 0 _ _ _ st1 loop)
theorem pS (S:bU scope X.env.scope x X.N M)(hc:X.calm=true)(hi:PI X (.Name x px) iter wi)(he:∀cl C s H fp,PE (dM X x M scope cl C s H fp) elt te)
  (hs:∀x,foldedSetIterable iter X.env x=pure x:=by intro _;rfl):PE X (.ListComp elt [⟨.Name x px,iter,[],0⟩] scope pos) (QU wi te):=by
 intro pins s σ H Q I h;obtain⟨cl,Dk,p1,p3⟩:=wk (scope:=scope) (env:=X.env) (λy hy hf=>I.ok.has y.1 (.inl (S.free y hy hf)))
 rw[eval_ListComp];refine wpAny_comprehension_free (use:=none) rfl hs Dk S.kind S.names (Fz (RR:=λacc C=>compPost (model X.prog X.w) X.A X.xe none (EP X pins σ Q) acc C) S hc hi he I h p1 p3 ?_)
 intro D C H' s' o m I' e hn h0 h1 h2 q;refine⟨m,hn,λh' hs'=>?_⟩
 have pC:=I'.pin (C,o) (gn _ (gn _ (by simp)))
 have IX:Inv X pins σ H' s':=I'.d6;exact⟨.ref D,H',IX.turned (t':=s'.toks) (λb ob hb e=>(hs'.2 b hb).trans e) pC.2.1 pC.2.2.1 (.inr h0) h1 h2,rfl,q⟩
theorem xA {i:Nat}{y:Str}{py acV:Pos}(S:bU scope X.env.scope x X.N M)(hc:X.calm=true)(hj:X.N[i]?=some y)(hy:Loc X.env.scope y)(hi:PI X (.Name x px) iter wi)(he:∀cl C s H fp,PE (dM X x M scope cl C s H fp) elt te)
  (hsw:swapsWith (.ListComp elt [⟨.Name x px,iter,[],0⟩] scope pos) (some (.Name y py)) acV.line X.env=pure true:=by rfl)
  (hf:X.fn y=true\/X.env.scope.names.lookup y=some .local:=by first | exact .inl rfl | exact .inr rfl | assumption)
  (hs:∀x,foldedSetIterable iter X.env x=pure x:=by intro _;rfl):PS X (.Assign [.Name y py] (.ListComp elt [⟨.Name x px,iter,[],0⟩] scope pos) acV) (XX (QU wi te) (jr i)):=by
 intro pins s σ H D I h;obtain⟨cl,Dk,p1,p3⟩:=wk (scope:=scope) (env:=X.env) (λy hy hf=>I.ok.has y.1 (.inl (S.free y hy hf)))
 rw[exec_Assign_Name_used _ _ _ _ hsw];refine gc (anW (gc ?_));show wpAny _ _ (do let _ <-comprehension (.ListComp elt [⟨.Name x px,iter,[],0⟩] scope pos) scope X.env _ (newList []) false (eval iter X.env) (some (assign (.Name y py) X.env))) _ _ s
 refine gc (tu (wpAny_comprehension_free (use:=some (assign (.Name y py) X.env)) (Q:=λ_ s'=>SP X pins D .next s') rfl hs Dk S.kind S.names
  (Fz (RR:=λacc C=>compPost (model X.prog X.w) X.A X.xe (some (assign (.Name y py) X.env)) (λ_ s'=>SP X pins D .next s') acc C) S hc hi he I h p1 p3 ?_)) (λ_ s' hq=>wt (wt hq)) λ_ _ e=>e)
 intro Dd C H' s' o m I' e hn h0 h1 h2 q;show wpAny _ _ (assign (.Name y py) X.env (.ref Dd)) _ _ s';refine wpAny_assign_Name (qP I' S.nd hj hy (v:=.ref Dd) rfl (λs'' I''=>?_) hf)
 have pC:=I''.pin (C,o) (gn _ (gn _ (by simp)))
 obtain⟨o',es,ep,e0,r⟩:=hn;rw[e]at e0;cases e0;have IX:Inv X pins _ H' s'':=I''.d6;refine⟨m,⟨o,es,ep,pC.1,r⟩,λh' hs'=>?_⟩
 exact⟨_,H',IX.turned (t':=s''.toks) (λb ob hb e=>(hs'.2 b hb).trans e) pC.2.1 pC.2.2.1 (.inr h0) h1 h2,q⟩
def cB (D:Addr)(n:Nat)(Pv:Nat->List V->Hp->Prop)(i:Nat)(ys:List V):VK:=λy H4=>H4 D=some (.lst ys)/\∃m',m' < n - i/\m'=n - (i+1)/\i+1<=n/\Pv (i+1) (ys++[y]) (upd H4 D (.lst (ys++[y])))
theorem cB.mk {D:Addr}{n:Nat}{Pv:Nat->List V->Hp->Prop}{i:Nat}{ys:List V}{y:V}{H4:Hp}(hi:i < n)(h1:H4 D=some (.lst ys))(h2:Pv (i+1) (ys++[y]) (upd H4 D (.lst (ys++[y])))):cB D n Pv i ys y H4 :=
 ⟨h1,n - (i+1),by omega,rfl,hi,h2⟩
theorem kG {K:ba}{a D:Addr}{xs:List V}{te:TE}{Q:VK}{σ:St}{H1:Hp}(Pv:Nat->List V->Hp->Prop)(h0:Pv 0 [] (upd H1 D (.lst [])))(hz:xs.length<=gr)
  (hl:∀i ys H2,i<=xs.length->Pv i ys H2->SqL K H2 a xs/\H2 D=some (.lst ys)/\ys.length=i)
  (hs:∀i x ys H2,xs[i]?=some x->Pv i ys H2->te (some x::σ) H2 (cB D xs.length Pv i ys)) (hd:∀ys H2,Pv xs.length ys H2->Q (.ref D) H2) :
  nO (Itl K a) te σ D H1 Q:=by
 refine⟨λi m ys H=>m=xs.length - i/\i<=xs.length/\Pv i ys H,⟨xs.length,by simp,anz _,h0⟩,?_⟩
 rintro i m ys H2 ⟨rfl,hi,p⟩;obtain⟨q,q2,q3⟩:=hl i ys H2 hi p;refine⟨q2,?_⟩
 by_cases hlt:i < xs.length
 ·refine .inr ⟨⟨xs,xs[i],q,by simp[hlt]⟩,by omega,λx H3 y=>?_⟩
  obtain⟨e,y⟩:=y;subst e;exact hs i x ys _ (y xs q) p
 ·have e:i=xs.length:=by omega
  subst e;exact .inl ⟨⟨xs,q,kj _⟩,hd ys H2 p⟩
theorem LP {lo:Int}{n:Nat}{D:Addr}{te:TE}{Q:VK}{σ:St}{H1:Hp}(Pv:Nat->List V->Hp->Prop)(h0:Pv 0 [] (upd H1 D (.lst [])))(hz:n<=gr)
  (hl:∀i ys H2,i<=n->Pv i ys H2->H2 D=some (.lst ys)/\ys.length=i)
  (hs:∀i ys H2,i < n->Pv i ys H2->te (some (.int (lo+i))::σ) H2 (cB D n Pv i ys)) (hd:∀ys H2,Pv n ys H2->Q (.ref D) H2) :
  nO (Itr lo n) te σ D H1 Q:=by
 refine⟨λi m ys H=>m=n - i/\i<=n/\Pv i ys H,⟨n,by simp,anz _,h0⟩,?_⟩
 rintro i m ys H2 ⟨rfl,hi,p⟩;obtain⟨q2,q3⟩:=hl i ys H2 hi p;refine⟨q2,?_⟩
 by_cases hlt:i < n
 ·refine .inr ⟨hlt,by omega,λx H3 y=>?_⟩
  obtain⟨e,y⟩:=y;subst e y;exact hs i ys _ hlt p
 ·have e:i=n:=by omega
  subst e;exact .inl ⟨kj _,hd ys H2 p⟩
end
structure MkN (K:ba)(C:Addr):Prop where
 makes:anV K C=true
 init:cb K (.ref C) "__init__"=some (some (.builtin "object.__init__"))
 kp:da K (.ref C)=true
def Yw (C:Addr):TE:=λ_ H Q=>∀x dx,H x=none->H dx=none->dx≠x->Q (.ref x) (upd (upd H dx (.own x)) x (.ins C dx []))
section
variable{X:Cx}{C:Addr}{x:Str}{p pos:Pos}
theorem qR (M:MkN X.K C)(hg:Gl X x)(hm:X.mg x=some (.ref C))(hdb:(x == ("__debug__":Str))=false:=by decide):PE X (.Call (.Name x p) [] [] pos) (Yw C):=by
 intro pins s σ H Q I h;refine wpAny_Call_Name_kw (lK I hg hm ?_ hdb);refine PySem.W.callWith_K0 I.kIn M.kp (wpAny_call ?_);have I2:=Inv.made (C:=C) I;have q:=h (s.heap.objs.size+1) s.heap.objs.size (I.hok.fresh (an3 _)) (I.hok.fresh (kj _)) (adm (aoJ _));have fin:EP X pins σ Q (.ref (s.heap.objs.size+1)) { s with heap:=(s.heap.push anD).push (anM C s.heap.objs.size) }:=⟨.ref _,_,I2,rfl,q⟩
 have X1:=I.kIn;have e2:((s.heap.push anD).push (anM C s.heap.objs.size)).get? (s.heap.objs.size+1)=some (anM C s.heap.objs.size):=by
  have:=Lk (s.heap.push anD) (o:=anM C s.heap.objs.size) rfl
  rwa [aof]at this
 clear I2 q h I;obtain⟨hh,g,d,t,os⟩:=s;have Y:=PySem.W.makes_of (M:=model X.prog X.w) X1 M.makes;refine PySem.W.make_core Y (PySem.W.looks_findIn X1 M.init) (λself=>PySem.W.Looks.of_pure (PySem.W.oi_bind self)) (.inr ⟨rfl,rfl⟩) ?_
 have t1:PySem.W.Looks (model X.prog X.w) ((hh.push anD).push (anM C hh.objs.size)) (typeOf (.ref (hh.objs.size+1))) (.ref C):=(PySem.W.Looks.ld e2).andThen .now;have t2:PySem.W.Looks (model X.prog X.w) ((hh.push anD).push (anM C hh.objs.size)) (isInstance (.ref (hh.objs.size+1)) (.type "object")) true:=t1.andThen (Y.top.keeps λb o e=>gp _ (gp _ e))
 refine codeAny_call_builtin PySem.W.oi_plain PySem.W.entry_oi (@PySem.W.check_slot (model X.prog X.w) _ _ _ "object.__init__" "object" "__init__" (.ref (hh.objs.size+1)) [] [] _ PySem.W.oi_kind PySem.W.oi_split t2 (PySem.W.oi_args (.ref (hh.objs.size+1))) ?_);show wpAny _ _ (Builtin.«object.__init__» ⟨[.ref (hh.objs.size+1)],[]⟩) _ _ _;rw[PySem.W.oi_run];exact wt (And.intro rfl fin)
end
structure Yx (P:Params)(K:ba)(a:Addr):Prop where
 ex:∃es n,K.lookup a=some ⟨.type "dict",none,.dict es n,#[]⟩/\PySem.W.KeysLit P es.toList
section
variable{X:Cx}
theorem LQ:IxR X (λx y H Q=>∃a z v u,x=.ref a/\y=.str z/\Yx X.w.params X.K a/\de X.K a z=some (some u)/\RelV v u/\Q v H):=by
 intro value slice pins s σ H x y v u Q I rx ry h hs;obtain⟨a,z,w',u',rfl,rfl,⟨es,n,hl,hk⟩,e,r,q⟩:=h;cases rx;obtain⟨t,rfl⟩:=ry;have hm:=PySem.W.mapOf_K (prog:=X.prog) I.kIn hl hk;exact tail_any hm.typeIs slot_dict_getitem.lookup (wpAny_getItem_of (strKind_is X.prog X.w z t) hm (PySem.W.find_K hl e) ⟨w',H,I.tok _,r,q⟩) hs
end
theorem Up (bs:List Bool):(aoE bs.length).any (λi=>bs.getD i false)=bs.any id:=by
 have e:(aoE bs.length).map (λi=>bs.getD i false)=bs:=by
  apply List.ext_getElem
  ·simp
  ·intro i h1 h2;simp[h2]
 calc _=((aoE bs.length).map (λi=>bs.getD i false)).any id:=by rw[List.any_map];rfl
  _=_:=by rw[e]
theorem Uq (bs:List Bool):(aoE bs.length).all (λi=>bs.getD i false)=bs.all id:=by
 have e:(aoE bs.length).map (λi=>bs.getD i false)=bs:=by
  apply List.ext_getElem
  ·simp
  ·intro i h1 h2;simp[h2]
 calc _=((aoE bs.length).map (λi=>bs.getD i false)).all id:=by rw[List.all_map];rfl
  _=_:=by rw[e]
theorem Dl:∀ {bs:List Bool} {us:List Value},Vals (bs.map V.bl) us->us=bs.map aop
 |[],_,.nil=>rfl
 |b::bs,_,.cons r t=>by
  cases r;rw[Dl t];rfl
section
variable{X:Cx}
theorem QV (hc:X.calm=true):jM X (.builtin "any") (λxs H Q=>∃(p:Addr) (bs:List Bool),xs=[.ref p]/\SqL X.K H p (bs.map V.bl)/\Q (.bl (bs.any id)) H):=by
 intro pins s σ H xs us Q I r h;obtain⟨p,bs,rfl,hq,q⟩:=h;obtain⟨u,rfl,rx⟩:=vals1 r;cases rx;obtain⟨its,rv,pl,hz⟩:=I.list hq;obtain rfl:=Dl rv;refine call_any_walk (wpAny_pyIter_list pl.isList ?_);obtain⟨o,n,e,_⟩:=id pl;have hlt:p < s.heap.objs.size:=me e;refine⟨s.heap.objs.size,_,_,_,_,_,λi=>bs.getD i false,rfl,Walks.list (A:=X.A.in1) (show X.A.in1.handled=none from I.ok.hd hc) s.heap.objs.size p (adm hlt) (bs.map aop).toArray,⟨⟨_,Lk _ rfl,rfl,rfl⟩,pl.isList.at λo e=>gp _ e⟩,?_,λh' tk kk=>?_⟩
 ·intro i v s' Q' E' hv q';have hv':v=aop (bs.getD i false):=by
   have h2:(bs.map aop)[i]?=some v:=by simpa using hv
   rw[ant]at h2;cases hb:bs[i]? with
   |none=>rw[hb]at h2;cases h2
   |some b =>
    rw[hb]at h2;rw[ank,hb];exact(anb h2).symm
  rw[hv'];exact wpAny_truthy_bool q'
 ·have I1:Inv X pins σ H { s with heap:=h',toks:=tk }:=I.kept λb o e=>kk b o (by simp;exact adm (me e)) (gp _ e)
  refine⟨.bl _,H,I1,rfl,?_⟩;have e1:(bs.map aop).toArray.size=bs.length:=by simp
  rw[e1,Up];exact q
theorem Dm (hc:X.calm=true):jM X (.builtin "all") (λxs H Q=>∃(p:Addr) (bs:List Bool),xs=[.ref p]/\SqL X.K H p (bs.map V.bl)/\Q (.bl (bs.all id)) H):=by
 intro pins s σ H xs us Q I r h;obtain⟨p,bs,rfl,hq,q⟩:=h;obtain⟨u,rfl,rx⟩:=vals1 r;cases rx;obtain⟨its,rv,pl,hz⟩:=I.list hq;obtain rfl:=Dl rv;refine call_all_walk (wpAny_pyIter_list pl.isList ?_);obtain⟨o,n,e,_⟩:=id pl;have hlt:p < s.heap.objs.size:=me e;refine⟨s.heap.objs.size,_,_,_,_,_,λi=>bs.getD i false,rfl,Walks.list (A:=X.A.in1) (show X.A.in1.handled=none from I.ok.hd hc) s.heap.objs.size p (adm hlt) (bs.map aop).toArray,⟨⟨_,Lk _ rfl,rfl,rfl⟩,pl.isList.at λo e=>gp _ e⟩,?_,λh' tk kk=>?_⟩
 ·intro i v s' Q' E' hv q';have hv':v=aop (bs.getD i false):=by
   have h2:(bs.map aop)[i]?=some v:=by simpa using hv
   rw[ant]at h2;cases hb:bs[i]? with
   |none=>rw[hb]at h2;cases h2
   |some b =>
    rw[hb]at h2;rw[ank,hb];exact(anb h2).symm
  rw[hv'];exact wpAny_truthy_bool q'
 ·have I1:Inv X pins σ H { s with heap:=h',toks:=tk }:=I.kept λb o e=>kk b o (by simp;exact adm (me e)) (gp _ e)
  refine⟨.bl _,H,I1,rfl,?_⟩;have e1:(bs.map aop).toArray.size=bs.length:=by simp
  rw[e1,Uq];exact q
end
def acW (X:Cx)(pins:List (Addr×Obj))(H:Hp)(h:Heap)(e:Addr)(vs:Array Value):Option Value->Prop
 |none=>vs[1]?=some .none
 |some m=>∃(T:Addr) (oT:Obj) (ts:Array Value),vs[1]?=some (.ref T)/\T≠e/\gP X pins H T/\h.get? T=some oT/\oT.data=.fields ts/\ts[3]?=some m
structure XAt (X:Cx)(pins:List (Addr×Obj))(H:Hp)(h:Heap)(e:Addr)(cls:Value)(xd:Option Addr)(m:Option Value):Prop where
 ok:gP X pins H e
 ex:∃(sl:Array (Option Value)) (vs:Array Value),h.get? e=some ⟨cls,xd,.fields vs,sl⟩/\1 < vs.size/\acW X pins H h e vs m
def MOk (_:Cx)(m:Option Value):Prop:=m=none\/m=some .none\/∃v,m=some v
def XP (X:Cx)(pins:List (Addr×Obj))(σ:St)(E:XK)(e:Value)(s':Shared):Prop :=
 ∃(ea:Addr) (cls:Value) (xd:Option Addr) (m:Option Value) (H':Hp),e=.ref ea/\Inv X pins σ H' s'/\XAt X pins H' s'.heap ea cls xd m/\MOk X m/\E cls xd H'
abbrev SXK:=St->XK
def XPS (X:Cx)(pins:List (Addr×Obj))(E:SXK)(e:Value)(s':Shared):Prop:=∃σ',XP X pins σ' (E σ') e s'
structure Fr1 (X:Cx):Prop where
 stk:X.stack=X.env::X.outer
 fr:X.env.frame=some X.env.locals
section
variable{X:Cx}{pins:List (Addr×Obj)}{σ:St}{H H':Hp}{s:Shared}{e:Addr}{cls:Value}{xd:Option Addr}{m:Option Value}
theorem gP.akQ {b:Addr}(I:Inv X pins σ H s)(f:gP X pins H' b):b∉frs X.stack:=λz=>by
 rcases List.mem_cons.mp (I.C4 b z) with q | q
 ·exact f.2.1 q
 ·exact f.2.2.1 q
theorem gP.drop {pl:List (Addr×Obj)}{b:Addr}(f:gP X (pins++pl) H b):gP X pins H b :=
 ⟨f.1,f.2.1,f.2.2.1,f.2.2.2.1,f.2.2.2.2.1,λp hp=>f.2.2.2.2.2 p ((List.mem_append.mp hp).elim (λz=>anx _ z) λz=>gn _ (anx _ z))⟩
theorem gP.clear {b:Addr}(f:gP X pins H b):gP X [] H b :=
 ⟨f.1,f.2.1,f.2.2.1,f.2.2.2.1,f.2.2.2.2.1,λp hp=>f.2.2.2.2.2 p ((List.mem_append.mp hp).elim (λz=>anx _ z) λz=>nomatch z)⟩
theorem XAt.drop {pl:List (Addr×Obj)}{h:Heap}(x:XAt X (pins++pl) H h e cls xd m):XAt X pins H h e cls xd m:=by
 obtain⟨ok,sl,vs,he,hz,hm⟩:=x;refine⟨ok.drop,sl,vs,he,hz,?_⟩;cases m with
 |none=>exact hm
 |some m=>obtain⟨T,oT,ts,a,b,c,d⟩:=hm;exact⟨T,oT,ts,a,b,c.drop,d⟩
theorem XAt.clear {h:Heap}(x:XAt X pins H h e cls xd m):XAt X [] H h e cls xd m:=by
 obtain⟨ok,sl,vs,he,hz,hm⟩:=x;refine⟨ok.clear,sl,vs,he,hz,?_⟩;cases m with
 |none=>exact hm
 |some m=>obtain⟨T,oT,ts,a,b,c,d⟩:=hm;exact⟨T,oT,ts,a,b,c.clear,d⟩
theorem XP.drop {pl:List (Addr×Obj)}{E:XK}{v:Value}(x:XP X (pins++pl) σ E v s):XP X pins σ E v s:=by
 obtain⟨ea,cls,xd,m,H',rfl,I,hx,hm,q⟩:=x;exact⟨ea,cls,xd,m,H',rfl,I.d6,hx.drop,hm,q⟩
theorem Yy {h':Heap}(I:Inv X pins σ H s)(he:gP X pins H e)(k1:∀b o,b∉frs X.stack->b≠e->s.heap.get? b=some o->h'.get? b=some o)
  (k2:∀b o,b≠e->s.heap.get? b=some o->∃sl,h'.get? b=some { o with slots:=sl }):Un (frs X.stack) [e] H H s.heap h'/\HOk X.prog X.w H h':=by
 refine⟨⟨λb o q _ hb hx=>k1 b o hb (by simpa using hx) q,λb o q _ _ hx=>k2 b o (by simpa using hx) q,λb o _ n _=>n,λb o q hx=>?_,λ_ _ q=>q,λ_ _ _ q=>q,λ_ ps q=>⟨#[],by rw[q];simp⟩⟩,λa o q=>?_⟩
 ·obtain⟨sl,z⟩:=k2 b o (by simpa using hx) q
  exact⟨_,z⟩
 ·refine(I.hok a o q).ql (λb u hb r=>k1 b u (λz=>?_) (λz=>?_) r) (λ_ z=>z) (λ_ _ z=>z)
  ·have n:=I.CO b z;rcases hb with rfl | hb
   ·rw[q]at n;cases n
   ·rw[hb]at n;cases n
  ·have n:=he.1;rw[<-z]at n;rcases hb with rfl | hb
   ·rw[q]at n;cases n
   ·rw[hb]at n;cases n
theorem Ur {h':Heap}(I:Inv X pins σ H s)(he:gP X pins H e)(k1:∀b o,b∉frs X.stack->b≠e->s.heap.get? b=some o->h'.get? b=some o)
  (k2:∀b o,b≠e->s.heap.get? b=some o->∃sl,h'.get? b=some { o with slots:=sl }):Inv X pins σ H { s with heap:=h' }:=by
 obtain⟨u,ok⟩:=Yy I he k1 k2;refine I.call (g':=s.gens) (t':=s.toks) (d':=s.drawn) u ok I.bare λb hb=>?_
 obtain rfl:b=e:=by simpa using hb
 exact⟨he.2.2.2.1,he.2.1,he.2.2.2.2.1,he.2.2.2.2.2⟩
theorem N9 {M:Model}{A:Around}{E:Value->Shared->Prop}{head:Value}{Us:Bool}{sl:Array (Option Value)}{vs:Array Value}{Q:Unit->Shared->Prop}(F:Fr1 X)(hA:A.frames=some X.stack)(I:Inv X pins σ H s)(ok:gP X pins H e)
  (he:s.heap.get? e=some ⟨cls,xd,.fields vs,sl⟩) (hz:1 < vs.size) (h:∀s',Inv X pins σ H s'->XAt X pins H s'.heap e cls xd (some (rawInt X.env.locals))->Q () s') :
  wpAny M A (do let a <-frameOf X.env;let pl <-entryPlaceOf X.env.locals Us;let b <-EntryCells.newEntry head a .none (rawInt X.env.locals) .none pl;setField (.ref e) 1 b) Q E s:=by
 have nE:e∉frs X.stack:=ok.akQ I;have fs:=I.stack;rw[F.stk]at hA fs nE;refine gc (wpAny_frameOf_fun hA fs F.fr λh₁ so=>?_)
 refine gc (wpAny_entryPlaceOf λpl hpl=>?_)
 unfold EntryCells.newEntry newFields;refine gc (wpAny_newObj_type ?_ (hpl.sizeOk5 _ _ _ _ _));generalize ht:([head,.ref X.env.locals,.none,rawInt X.env.locals,.none]++(if pl.isEmpty then aoK 6 aok else pl)).toArray=ts
 have t3:ts[3]?=some (rawInt X.env.locals):=by rw[<-ht];simp
 have e1:h₁.get? e=some ⟨cls,xd,.fields vs,sl⟩:=(so.2.1 e nE).trans he;have e2:=gp (h:=h₁) { cls:=.type "traceback",dict:=none,data:=.fields ts } e1;refine wpAny_setField e2 rfl hz ?_;have sz:h₁.objs.size=s.heap.objs.size:=so.1;have nT:h₁.objs.size≠e:=Nat.ne_of_gt (me e1);have k0:∀b o,b≠e->h₁.get? b=some o->((h₁.push { cls:=.type "traceback",dict:=none,data:=.fields ts }).update e (aod (·.setIfInBounds 1 (anf h₁.objs.size)))).get? b=some o:=λb o hb q =>
  (anT _ _ (anj hb)).trans (gp _ q)
 have I':=Ur (h':=(h₁.push { cls:=.type "traceback",dict:=none,data:=.fields ts }).update e (aod (·.setIfInBounds 1 (anf h₁.objs.size)))) I ok
  (λb o hb hbe q=>k0 b o hbe ((so.2.1 b (by rw[<-F.stk];exact hb)).trans q)) (λb o hbe q=>by obtain⟨sl,z⟩:=so.2.2 b o q;exact⟨sl,k0 b _ hbe z⟩)
 have fT:gP X pins H h₁.objs.size:=I.xx (by rw[sz];exact kj _) (by rw[sz];exact I.fresh)
 have gE:((h₁.push { cls:=.type "traceback",dict:=none,data:=.fields ts }).update e (aod (·.setIfInBounds 1 (anf h₁.objs.size)))).get? e=some ⟨cls,xd,.fields (vs.setIfInBounds 1 (anf h₁.objs.size)),sl⟩ :=
  aoj (aod (·.setIfInBounds 1 (anf h₁.objs.size))) e2 rfl
 have gT:((h₁.push { cls:=.type "traceback",dict:=none,data:=.fields ts }).update e (aod (·.setIfInBounds 1 (anf h₁.objs.size)))).get? h₁.objs.size=some { cls:=.type "traceback",dict:=none,data:=.fields ts } :=
  (anT _ _ (anj nT)).trans (Lk h₁ rfl)
 exact h _ I' ⟨ok,sl,_,gE,by simpa using hz,h₁.objs.size,_,ts,by simp[hz],nT,fT,gT,rfl,t3⟩
theorem qS {M:Model}{A:Around}{E:Value->Shared->Prop}{f:Option Addr}{mv:Value}{Q:Unit->Shared->Prop}(I:Inv X pins σ H s)(x:XAt X pins H s.heap e cls xd (some mv))
  (h:∀s',Inv X pins σ H s'->XAt X pins H s'.heap e cls xd (some (f.elim .none λb=>rawInt b))->Q () s'):wpAny M A (setFlight (.ref e) f) Q E s:=by
 obtain⟨ok,sl,vs,he,hz,T,oT,ts,h1,nT,fT,hT,hd,h3⟩:=x;unfold setFlight;refine gc (wpAny_field he rfl h1 ?_);rw[if_pos (show (anf T != aok)=true by simp)]
 have z3:3 < ts.size:=(Array.getElem?_eq_some_iff.mp h3).1;refine wpAny_setField hT hd z3 ?_;have other:∀b,b≠T->(s.heap.update T (aod (·.setIfInBounds 3 (f.elim aok λb=>rawInt b)))).get? b=s.heap.get? b:=λb hb=>anT _ _ (anj hb)
 have I':=I.turned (t':=s.toks) (h':=s.heap.update T (aod (·.setIfInBounds 3 (f.elim aok λb=>rawInt b)))) (λb o hb q=>(other b hb).trans q) fT.1 fT.2.1 fT.2.2.2.1 fT.2.2.2.2.1 fT.2.2.2.2.2
 exact h _ I' ⟨ok,sl,vs,(other e (anj nT)).trans he,hz,T,_,_,h1,nT,fT,aoj _ hT (Obj.isFreed_of_fields (Obj.data_mapFields hd _)),Obj.data_mapFields hd _,by simp[z3]⟩
theorem GD {M:Model}{A:Around}{E:Value->Shared->Prop}{Q:Unit->Shared->Prop}(F:Fr1 X)(hA:A.frames=some X.stack)(I:Inv X pins σ H s)(x:XAt X pins H s.heap e cls xd m)(hm:MOk X m)
  (h:∀s',Inv X pins σ H s'->XAt X pins H s'.heap e cls xd (some (rawInt X.env.locals))->Q () s'):wpAny M A (noteFrame (.ref e) X.env) Q E s:=by
 obtain⟨ok,sl,vs,he,hz,hv⟩:=x;unfold noteFrame;simp only[F.fr];cases m with
 |none =>
  refine gc (wpAny_field he rfl hv ?_);rw[if_neg (by decide)]
  exact N9 F hA I ok he hz h
 |some mv =>
  obtain⟨T,oT,ts,h1,nT,fT,hT,hd,h3⟩:=hv;refine gc (wpAny_field he rfl h1 ?_);rw[if_pos (show (anf T != aok)=true by simp)]
  refine gc (wpAny_field hT hd h3 ?_)
  by_cases hmv:mv=rawInt X.env.locals
  ·subst hmv;rw[if_pos (show (rawInt X.env.locals == rawInt X.env.locals)=true by simp)]
   exact wt (h s I ⟨ok,sl,vs,he,hz,T,oT,ts,h1,nT,fT,hT,hd,h3⟩)
  ·rw[if_neg (show ¬(mv == rawInt X.env.locals)=true from λz=>hmv (beq_iff_eq.mp z))]
   have z3:3 < ts.size:=(Array.getElem?_eq_some_iff.mp h3).1;refine gc (wpAny_setField hT hd z3 ?_);have other:∀b,b≠T->(s.heap.update T (aod (·.setIfInBounds 3 aok))).get? b=s.heap.get? b:=λb hb=>anT _ _ (anj hb)
   have I':=I.turned (t':=s.toks) (h':=s.heap.update T (aod (·.setIfInBounds 3 aok))) (λb o hb q=>(other b hb).trans q) fT.1 fT.2.1 fT.2.2.2.1 fT.2.2.2.2.1 fT.2.2.2.2.2
   exact N9 F hA I' ok ((other e (anj nT)).trans he) hz h
theorem QW {E:SXK}(F:Fr1 X)(fr:X.A.frames=some X.stack):PassesOwn (model X.prog X.w) X.A X.env (XPS X pins E):=by
 rintro v s' ⟨σ',ea,cls,xd,m,H',rfl,I,hx,hm,q⟩;refine GD F fr I hx hm λs1 I1 x1=>?_
 unfold cameBackBy;obtain⟨ok,sl,vs,he,hz,T,oT,ts,h1,r⟩:=id x1;refine gc (wpAny_field he rfl h1 ?_);rw[if_neg (show ¬((anf T == aok)=true) by simp)]
 have step:wpAny (model X.prog X.w) X.A (setFlight (.ref ea) X.env.frame) (λ_ s''=>XPS X pins E (.ref ea) s'') (XPS X pins E) s1 :=
  qS I1 x1 λs2 I2 x2=>⟨σ',ea,cls,xd,_,H',rfl,I2,x2,by rw[F.fr];exact .inr (.inr ⟨_,rfl⟩),q⟩
 first
  |exact step
  |exact gc (wt step)
end
abbrev CXX (P:rf)(w:World):CXT:=λouter H s E e s'=>∃(ea T:Addr) (cls:Value) (xd:Option Addr) (H':Hp),e=.ref ea/\s'.os=s.os/\AllBare s'.gens/\Un (frs outer) [] H H' s.heap s'.heap/\HOk P w H' s'.heap /\
 (H' ea=none/\s.heap.objs.size<=ea)/\(H' T=none/\s.heap.objs.size<=T)/\T≠ea /\
 (∃(sl:Array (Option Value)) (vs:Array Value) (oT:Obj) (ts:Array Value),s'.heap.get? ea=some ⟨cls,xd,.fields vs,sl⟩/\1 < vs.size/\vs[1]?=some (.ref T)/\s'.heap.get? T=some oT/\oT.data=.fields ts/\ts[3]?=some .none)/\E cls xd H'
section
variable{X:Cx}{pins:List (Addr×Obj)}{σ:St}{H:Hp}{s s':Shared}
theorem Yz {E:XK}{e:Value}(I:Inv X pins σ H s)(h:CXX X.prog X.w X.stack H s E e s'):XP X pins σ E e s':=by
 obtain⟨ea,T,cls,xd,H',rfl,os,bare,un,hok,⟨e1,e2⟩,⟨t1,t2⟩,ne,⟨sl,vs,oT,ts,g1,g2,g3,g4,g5,g6⟩,q⟩:=h;have I':Inv X pins σ H' s':=I.HY (ch:=[]) os un hok bare λb z=>absurd z (by simp)
 exact⟨ea,cls,xd,some .none,H',rfl,I',⟨I.xx e2 e1,sl,vs,g1,g2,T,oT,ts,g3,ne,I.xx t2 t1,g4,g5,g6⟩,.inr (.inl rfl),q⟩
theorem sH:Passes (CXX X.prog X.w) X E0:=λ_ _ _ _ _ _ _ ⟨_,_,_,_,_,_,_,_,_,_,_,_,_,_,z⟩=>z.elim
end
section
variable{P:rf}{w:World}{K:ba}{mg:Str->Option Value}{base:Heap}{k:Nat}{f:Addr}{fd:kg}{ps:List Str}{sp:Sp}
theorem aT.calm (F:aT P w K mg base (CXX P w) k f fd ps sp)(h:∀vs H Q E,sp vs H Q E->sp vs H Q E0):aT P w K mg base CX0 k f fd ps sp:=by
 refine⟨F.len,λA outer s H args us vs Q E hr he hb hv hs=>codeAny_mono (F.run A outer s H args us vs Q E0 hr he hb hv (h _ _ _ _ hs)) λr s' q=>?_⟩
 cases r with
 |error e=>obtain⟨_,_,_,_,_,_,_,_,_,_,_,_,_,_,z⟩:=q;exact z.elim
 |ok fl=>cases fl <;> exact q
theorem Ut {N:List Str}{qual:Str}{scope:Scope}{cd:Value}{A:Around}{outer:List Env}{s s':Shared}{H:Hp}{E:XK}{e:Value}{pins:List (Addr×Obj)}
  (h:XPS (bE (CXX P w) P w K mg base N qual scope f cd A outer s H E) pins (λ_=>E) e s'):(bE (CXX P w) P w K mg base N qual scope f cd A outer s H E).xe e s':=by
 obtain⟨σ',ea,cls,xd,m,H',rfl,I,hx,hm,q⟩:=h;have fr:(bE (CXX P w) P w K mg base N qual scope f cd A outer s H E).A.frames=some (bE (CXX P w) P w K mg base N qual scope f cd A outer s H E).stack:=I.ok.frames;have F1:Fr1 (bE (CXX P w) P w K mg base N qual scope f cd A outer s H E):=⟨rfl,rfl⟩;show wpAny _ _ (leaving (bE (CXX P w) P w K mg base N qual scope f cd A outer s H E).env (.ref ea)) _ _ s';unfold leaving;refine gc (GD F1 fr I hx hm λs1 I1 x1=>qS I1 x1 λs2 I2 x2=>?_)
 obtain⟨ok,sl,vs,he,hz,T,oT,ts,h1,nT,fT,hT,hd,h3⟩:=x2;have old:∀ {b:Addr},gP (bE (CXX P w) P w K mg base N qual scope f cd A outer s H E) pins H' b->s.heap.objs.size<=b:=λ{b} z=>by
  rcases z.2.2.2.1 with y | y
  ·exact absurd (show b∈([]:List Addr) from y) (by simp)
  ·exact y
 exact⟨ea,T,cls,xd,H',rfl,I2.os,I2.bare,I2.base,I2.hok,⟨ok.1,old ok⟩,⟨fT.1,old fT⟩,nT,⟨sl,vs,oT,ts,he,hz,h1,hT,hd,h3⟩,q⟩
end
abbrev TEX:=St->Hp->VK->XK->Prop
abbrev TAX:=St->Hp->(List V->Hp->Prop)->XK->Prop
abbrev TSX:=Ends->SXK->St->Hp->Prop
def PEX (X:Cx)(e:Expr)(t:TEX):Prop :=
 ∀(pins:List (Addr×Obj)) (s:Shared) (σ:St) (H:Hp) (Q:VK) (E:XK),Inv X pins σ H s->t σ H Q E->wpAny (model X.prog X.w) X.A (eval e X.env) (EP X pins σ Q) (XP X pins σ E) s
def PAX (X:Cx)(es:List Expr)(t:TAX):Prop :=
 ∀(pos:Pos) (pins:List (Addr×Obj)) (s:Shared) (σ:St) (H:Hp) (Q:List V->Hp->Prop) (E:XK),Inv X pins σ H s->t σ H Q E->wpAny (model X.prog X.w) X.A (spliced (backTo pos (ane es X.env))) (AP X pins σ Q) (XP X pins σ E) s
def PSX (X:Cx)(st:Stmt)(t:TSX):Prop :=
 ∀(pins:List (Addr×Obj)) (s:Shared) (σ:St) (H:Hp) (D:Ends) (E:SXK),Inv X pins σ H s->t D E σ H->wpAny (model X.prog X.w) X.A (exec st X.env) (SP X pins D) (XPS X pins E) s
def EO (X:Cx)(st:List Stmt)(t:TSX):Prop :=
 ∀(pins:List (Addr×Obj)) (s:Shared) (σ:St) (H:Hp) (D:Ends) (E:SXK),Inv X pins σ H s->t D E σ H->wpAny (model X.prog X.w) X.A (execs st X.env) (SP X pins D) (XPS X pins E) s
def YA (te:TE):TEX:=λσ H Q _=>te σ H Q
def YB (ta:TA):TAX:=λσ H Q _=>ta σ H Q
def QX (ts:TS):TSX:=λD _ σ H=>ts D σ H
def QY (t1:TEX)(t2:TAX):TAX:=λσ H Q E=>t1 σ H (λx H1=>t2 σ H1 (λxs H2=>Q (x::xs) H2) E) E
def Wi (t1 t2:TSX):TSX:=λD E σ H=>t1 { D with nx:=t2 D E } E σ H
def acX (tc:TT)(t1 t2:TSX):TSX:=λD E σ H=>tc σ H λd H1=>if d=true then t1 D E σ H1 else t2 D E σ H1
def QZ (t:TEX):TSX:=λD E σ H=>t σ H (λ_ H1=>D.nx σ H1) (E σ)
def Wj (t:TEX):TSX:=λD E σ H=>t σ H D.rt (E σ)
def Wk (i:Nat)(t:TEX):TSX:=λD E σ H=>t σ H (λv H1=>D.nx (σ.set i (some v)) H1) (E σ)
def Q0 (t:TAX)(sp:Sp):TEX:=λσ H Q E=>t σ H (λvs H1=>sp vs H1 Q E) E
def Q1 (C:Addr)(m:Str)(ta:TEX)(t:TAX)(sp:Sp):TEX:=λσ H Q E=>ta σ H (λx H1=>∃a dx fs,x=.ref a/\H1 a=some (.ins C dx fs)/\fs.lookup m=none/\t σ H1 (λvs H2=>sp (x::vs) H2 Q E) E) E
def Oa (C:Addr)(m:Str)(ta:TEX)(sp:Sp):TEX:=λσ H Q E=>ta σ H (λx H1=>∃a dx fs,x=.ref a/\H1 a=some (.ins C dx fs)/\fs.lookup m=none/\sp [x] H1 Q E) E
section
variable{X:Cx}{e:Expr}{es:List Expr}{st:Stmt}{sts:List Stmt}{te:TE}{ta:TA}{ts:TS}{pos:Pos}
theorem EP.eG {pins:List (Addr×Obj)}{σ:St}{Q:VK}{u:Value}{s':Shared}{W:Value->Shared->Prop}(h:EP (X.nM W) pins σ Q u s'):EP X pins σ Q u s':=by
 obtain⟨v,H',I,r,q⟩:=h;exact⟨v,H',I.eG,r,q⟩
theorem px (h:PE X.nox e te):PEX X e (YA te):=λpins s σ H Q _ I hw =>
 tu (h pins s σ H Q (I.nM _) hw) (λ_ _ q=>q.eG) λ_ _ z=>ans z
theorem pax (h:PA X.nox es ta):PAX X es (YB ta):=λpos pins s σ H Q _ I hw =>
 tu (h pos pins s σ H Q (I.nM _) hw) (λ_ _ ⟨vs,H',I',r,q⟩=>⟨vs,H',I'.eG,r,q⟩) λ_ _ z=>ans z
theorem psx (h:PS X.nox st ts):PSX X st (QX ts):=λpins s σ H D _ I hw =>
 tu (h pins s σ H D (I.nM _) hw) (λ_ _ q=>q.eG) λ_ _ z=>ans z
theorem mY (h:PSs X.nox sts ts):EO X sts (QX ts):=λpins s σ H D _ I hw =>
 tu (h pins s σ H D (I.nM _) hw) (λ_ _ q=>q.eG) λ_ _ z=>ans z
theorem mZ:PAX X [] (λ_ H Q _=>Q [] H):=λ_ _ _ _ H Q _ I h=>Calls.spliced_nil ⟨[],H,I,.nil,h⟩
theorem cC {t1:TEX}{t2:TAX}(ha:PEX X e t1)(hr:PAX X es t2)(hs:ane (e::es) X.env=(false,eval e X.env)::ane es X.env:=by rfl) :
  PAX X (e::es) (QY t1 t2):=by
 intro pos pins s σ H Q E I h;unfold QY at h;rw[hs];refine Calls.spliced_cons (tu (ha pins s σ H _ E I h) (λu s1 ⟨x,H1,I1,r1,q1⟩=>?_) λ_ _ z=>z)
 exact tu (hr pos pins s1 σ H1 _ E I1 q1) (λus s2 ⟨xs,H2,I2,r2,q2⟩=>⟨x::xs,H2,I2,.cons r1 r2,q2⟩) λ_ _ z=>z
theorem au {t1 t2:TSX}(h1:PSX X st t1)(h2:EO X sts t2):EO X (st::sts) (Wi t1 t2):=by
 intro pins s σ H D E I h;unfold Wi at h;refine wpAny_execs_cons (thn (h1 pins s σ H { D with nx:=t2 D E } E I h) λf s1 q=>?_)
 cases f with
 |next =>
  obtain⟨σ',H',I',q⟩:=q;exact h2 pins s1 σ' H' D E I' q
 |ret v=>exact q
 |brk=>exact q
 |cont=>exact q
theorem aO {t1:TSX}(h1:PSX X st t1):EO X [st] t1:=by
 intro pins s σ H D E I h;refine wpAny_execs_cons (thn (h1 pins s σ H D E I h) λf s1 q=>?_)
 cases f with
 |next=>exact wpAny_execs_nil q
 |ret v=>exact q
 |brk=>exact q
 |cont=>exact q
theorem du {c:Expr}{a b:List Stmt}{tc:TT}{t1 t2:TSX}(hc:PT X.nox c tc)(ha:EO X a t1)(hb:EO X b t2):PSX X (.If c a b pos) (acX tc t1 t2):=by
 intro pins s σ H D E I h;unfold acX at h;refine wpAny_If (tu (hc pins s σ H _ (I.nM _) h) (λd s1 ⟨H1,I1,q1⟩=>?_) λ_ _ z=>ans z)
 cases d with
 |true=>exact ha pins s1 σ H1 D E I1.eG q1
 |false=>exact hb pins s1 σ H1 D E I1.eG q1
theorem b8 {t:TEX}(he:PEX X e t)(hs:swapsWith e none pos.line X.env=pure false:=by rfl):PSX X (.Expr e pos) (QZ t):=by
 intro pins s σ H D E I h;unfold QZ at h;exact wpAny_Expr_any (tu (he pins s σ H _ _ I h) (λv s1 ⟨x,H1,I1,r1,q1⟩=>⟨σ,H1,I1,q1⟩) λ_ _ z=>⟨σ,z⟩) I.quiet hs
theorem iA {t:TEX}(he:PEX X e t):PSX X (.Return (some e) pos) (Wj t):=by
 intro pins s σ H D E I h;unfold Wj at h;exact wpAny_Return_some (tu (he pins s σ H _ _ I h) (λv s1 ⟨x,H1,I1,r1,q1⟩=>⟨x,σ,H1,I1,r1,q1⟩) λ_ _ z=>⟨σ,z⟩)
theorem GF {i:Nat}{x:Str}{t:TEX}{pos':Pos}(hN:X.N.Nodup)(hi:X.N[i]?=some x)(hx:Loc X.env.scope x)(he:PEX X e t)(hs:swapsWith e (some (.Name x pos')) pos.line X.env=pure false:=by rfl)(hf:X.fn x=true\/X.env.scope.names.lookup x=some .local:=by first | exact .inl rfl | exact .inr rfl | assumption) :
  PSX X (.Assign [.Name x pos'] e pos) (Wk i t):=by
 intro pins s σ H D E I h;unfold Wk at h;refine wpAny_Assign_Name (tu (he pins s σ H _ _ I h) (λv s1 ⟨y,H1,I1,r1,q1⟩=>?_) λ_ _ z=>⟨σ,z⟩) hs
 exact qP I1 hN hi hx r1 (λs2 I2=>⟨_,H1,I2,q1⟩) hf
end
section
variable{X:Cx}{k:Nat}{f C:Addr}{fd:kg}{ps:List Str}{sp:Sp}{x m:Str}{p pos apos:Pos}{e o:Expr}{es:List Expr}{t:TAX}
theorem GG {pins:List (Addr×Obj)}{σ:St}{H:Hp}{s:Shared}{Q:VK}{E:XK}{us:List Value}{vs:List V}(F:aT X.prog X.w X.K X.mg X.base (CXX X.prog X.w) k f fd ps sp)(hr:Room k X.A)(hb:Binds X.K fd ps [])
  (I:Inv X pins σ H s) (r:Vals vs us) (h:sp vs H Q E):wpAny (model X.prog X.w) X.A (call (.ref f) us) (EP X pins σ Q) (XP X pins σ E) s:=by
 have hl:(us++[]).length=ps.length:=by rw[anO,<-r.length];exact F.len _ _ _ _ h
 have b:=hb s us I.kIn hl;rw[anO]at b;refine wpAny_call (codeAny_mono (F.run X.A X.stack s H ⟨us,[]⟩ us vs Q E hr I.Ue b r h) λr s' hq=>?_)
 cases r with
 |error e=>exact Yz I hq
 |ok fl =>
  cases fl with
  |ret u=>exact I.after hq
  |next=>exact ans hq
  |brk=>exact ans hq
  |cont=>exact ans hq
theorem bB (F:aT X.prog X.w X.K X.mg X.base (CXX X.prog X.w) k f fd ps sp)(hr:Room k X.A)(hg:Gl X x)(hm:X.mg x=some (.ref f))(hk:da X.K (.ref f)=true)(hb:Binds X.K fd ps [])(ha:PAX X (e::es) t)
  (hdb:(x == ("__debug__":Str))=false:=by decide) (he:ane (e::es) X.env=(false,eval e X.env)::ane es X.env:=by rfl) (hpl:(backTo pos (ane es X.env)).any (·.1)=false:=by rfl) :
  PEX X (.Call (.Name x p) (e::es) [] pos) (Q0 t sp):=by
 intro pins s σ H Q E I h;unfold Q0 at h;refine wpAny_Call_Name_kw (lK I hg hm ?_ hdb);exact aoN (h₀:=X.base) I.ok.mod.kin hk (thn (ha pos pins s σ H _ E I h) λus s1 ⟨vs,H1,I1,r,q⟩=>⟨I1.kIn,GG F hr hb I1 r q⟩) he hpl
theorem qT {pl:Sem Bool}{ta:TEX}(he:PEX X o ta)(c:Cls X.K C)(hm:Meth X.K C m f)(F:aT X.prog X.w X.K X.mg X.base (CXX X.prog X.w) k f fd ps sp)(hr:Room k X.A)(hb:Binds X.K fd ps [])(ha:PAX X (e::es) t)
  (hst:ane (e::es) X.env=(false,eval e X.env)::ane es X.env:=by rfl) (hpl:(backTo pos (ane es X.env)).any (·.1)=false:=by rfl)
  (ht:eval (.Call (.Attribute o m apos) (e::es) [] pos) X.env=(do
   let ov <-eval o X.env
   standAt apos.atName
   let (f,first) <-holding [ov] (getMethod ov m pl)
   aoO pos f first (backTo pos (ane (e::es) X.env)) (aot pos (an2 [] X.env))):=by rfl) :
  PEX X (.Call (.Attribute o m apos) (e::es) [] pos) (Q1 C m ta t sp):=by
 intro pins s σ H Q E I h;unfold Q1 at h;refine an9 (pl:=pl) (thn (he pins s σ H _ E I h) λu s1 ⟨x,H1,I1,rx,a,dx,fs,ex,ea,l,q⟩=>?_) ht
 subst ex;obtain rfl:u=anf a:=rx;refine kD I1 ea c hm l ?_;exact aoN (first:=[.ref a]) (h₀:=X.base) I.ok.mod.kin hm.kp (thn (ha pos pins s1 σ H1 _ E I1 q) λus s2 ⟨vs,H2,I2,r,q2⟩=>⟨I2.kIn,GG (us:=.ref a::us) (vs:=.ref a::vs) F hr hb I2 (.cons rfl r) q2⟩) hst hpl
theorem zZ {pl:Sem Bool}{ta:TEX}(he:PEX X o ta)(c:Cls X.K C)(hm:Meth X.K C m f)(F:aT X.prog X.w X.K X.mg X.base (CXX X.prog X.w) k f fd ps sp)(hr:Room k X.A)(hb:Binds X.K fd ps [])
  (ht:eval (.Call (.Attribute o m apos) [] [] pos) X.env=(do
   let ov <-eval o X.env
   standAt apos.atName
   let (f,first) <-holding [ov] (getMethod ov m pl)
   aoO pos f first (backTo pos (ane [] X.env)) (aot pos (an2 [] X.env))):=by rfl) :
  PEX X (.Call (.Attribute o m apos) [] [] pos) (Oa C m ta sp):=by
 intro pins s σ H Q E I h;unfold Oa at h;refine an9 (pl:=pl) (thn (he pins s σ H _ E I h) λu s1 ⟨x,H1,I1,rx,a,dx,fs,ex,ea,l,q⟩=>?_) ht
 subst ex;obtain rfl:u=anf a:=rx;refine kD I1 ea c hm l ?_;exact PySem.W.callWith_K0 (first:=[.ref a]) I1.kIn hm.kp (GG (us:=[.ref a]) (vs:=[.ref a]) F hr hb I1 (.cons rfl .nil) q)
end
section
variable{P:rf}{w:World}{K:ba}{mg:Str->Option Value}{base:Heap}
theorem Fun.okX {x qual:Str}{st:Stmt}{f:Addr}{fd:kg}{N ps:List Str}{k:Nat}{sp:Sp}(F:Fun K x qual st f fd)(S:ax N ps (af st))(len:∀vs H Q E,sp vs H Q E->vs.length=ps.length)
  (Ig:∀(cdv:Value) (A:Around) (outer:List Env) (s:Shared) (H:Hp) (vs:List V) (Q:VK) (E:XK),Room k (A.deeper (envOfC qual (af st) s.heap.objs.size f cdv))->sp vs H Q E ->
   ∃t,EO (bE (CXX P w) P w K mg base N qual (af st) f cdv A outer s H E) (aw st) t/\t { nx:=λ_ H'=>Q .non H',rt:=Q } (λ_=>E) (start N vs) H):aT P w K mg base (CXX P w) (k+1) f fd ps sp:=by
 obtain⟨oc,od,kV,doc,pm,an,cdv,ct,osl,rfl,lk,hcd⟩:=F.ex;refine Wh lk hcd S len λA outer s H vs Q E hr hsp=>?_
 obtain⟨t,h,q⟩:=Ig cdv A outer s H vs Q E hr hsp;exact⟨λD σ H=>t D (λ_=>E) σ H,λpins s1 σ H1 D I hw=>tu (h pins s1 σ H1 D _ I hw) (λ_ _ z=>z) λ_ _ z=>Ut z,q⟩
end
abbrev hcx (X:Cx)(e:Addr):Cx:={ X with A:=X.A.mark (some (.ref e)),calm:=false,xe:=λ_ _=>False }
section
variable{X:Cx}{pins:List (Addr×Obj)}{σ:St}{H:Hp}{s:Shared}{e:Addr}{cls:Value}{xd:Option Addr}{m:Option Value}
theorem Q3 (I:Inv X pins σ H s)(e:Addr):Inv (hcx X e) pins σ H s :=
 ⟨⟨I.ok.mod,I.ok.kind,I.ok.glob,I.ok.blt,I.ok.above,I.ok.inj,I.ok.has,I.ok.cab,λz=>absurd (show false=true from z) kr,I.ok.frames,I.ok.stk,I.ok.exf,I.ok.bs,I.ok.bsz,I.ok.Gs,I.ok.EK,I.ok.wW,I.ok.frf⟩,I.os,I.bare,I.base,I.loc,I.cell,I.free,I.pO,I.pin,I.hok,I.len⟩
theorem CQ (ok:X.Ok)(I:Inv (hcx X e) pins σ H s):Inv X pins σ H s:=⟨ok,I.os,I.bare,I.base,I.loc,I.cell,I.free,I.pO,I.pin,I.hok,I.len⟩
end
abbrev THX:=Ends->SXK->St->XK
def Wl (K:ba)(C:Addr)(ts:TS)(tr:THX):THX:=λD E σ cls xd H=>∃b,anp K cls (.ref C)=some b/\if b=true then ts D σ H else tr D E σ cls xd H
def Wm (tb:TSX)(th:THX):TSX:=λD E σ H=>tb D (λσ' cls xd H'=>th D E σ' cls xd H') σ H
def PHX (X:Cx)(hs:List ExceptHandler)(t:THX):Prop :=
 ∀(pins:List (Addr×Obj)) (s:Shared) (σ:St) (H:Hp) (D:Ends) (E:SXK) (ea:Addr) (cls:Value) (xd:Option Addr),Inv X pins σ H s->XAt X pins H s.heap ea cls xd (some .none)->t D E σ cls xd H ->
  wpAny (model X.prog X.w) X.A (handleBy (.ref ea) X.env hs) (SP X pins D) (XPS X pins E) s
section
variable{X:Cx}{x n:Str}{C:Addr}{np pos:Pos}{b₀:Stmt}{Wn:List Stmt}{rest:List ExceptHandler}{ts:TS}{tr:THX}
theorem Uu (F:Fr1 X):PHX X [] (λ_ E σ cls xd H=>E σ cls xd H):=by
 intro pins s σ H D E ea cls xd I hx h;refine wpAny_handleBy_nil ?_;unfold PySem.passOn;obtain⟨ok,sl,vs,he,hz,T,oT,ts,h1,r⟩:=id hx;refine gc (wpAny_field he rfl h1 ?_);rw[if_neg (show ¬((anf T == aok)=true) by simp)]
 have step:wpAny (model X.prog X.w) X.A (do setFlight (.ref ea) X.env.frame;throw (.ref ea):Sem Flow) (SP X pins D) (XPS X pins E) s :=
  gc (qS I hx λs2 I2 x2=>wpAny_throw ⟨σ,ea,cls,xd,_,H,rfl,I2,x2,by rw[F.fr];exact .inr (.inr ⟨_,rfl⟩),h⟩)
 first
  |exact step
  |exact gc (wt step)
theorem acY {pins:List (Addr×Obj)}{s:Shared}{σ:St}{H:Hp}{ea:Addr}{cls:Value}{xd:Option Addr}{b:Bool}{E:Value->Shared->Prop}{R:Bool->Shared->Prop}(I:Inv X pins σ H s)(hx:XAt X pins H s.heap ea cls xd (some .none))
  (hg:Gl X x) (hm:X.mg x=some (.ref C)) (eb:anp X.K cls (.ref C)=some b) (h:R b s) (hd:(x == ("__debug__":Str))=false:=by decide) :
  wpAny (model X.prog X.w) (X.A.mark (some (.ref ea))) (eval (.Name x np) X.env) (λc s₁=>wpAny (model X.prog X.w) (X.A.mark (some (.ref ea))) (excMatches (.ref ea) c) R E s₁) E s:=by
 obtain⟨_,sl,vs,he,_⟩:=hx;refine lK (Q3 I ea) hg hm ?_ hd;have lt:PySem.W.Looks (model X.prog X.w) s.heap (typeOf (.ref ea)) cls:=(PySem.W.Looks.ld he).andThen .now;exact PySem.W.exm_one I.kIn lt eb _ _ _ s (λ_ _ q=>q) h
theorem Q4 (hg:Gl X x)(hm:X.mg x=some (.ref C))(hs:∀e,PSs (hcx X e) (b₀::Wn) ts)(hr:PHX X rest tr)(hd:(x == ("__debug__":Str))=false:=by decide) :
  PHX X (.ExceptHandler (some (.Name x np)) none (b₀::Wn) pos::rest) (Wl X.K C ts tr):=by
 intro pins s σ H D E ea cls xd I hx h;unfold Wl at h;obtain⟨b,eb,h⟩:=h;refine wpAny_handleBy_cons (codeAny_handlers_test (acY I hx hg hm eb ?_ hd)) (by intro q;cases q)
 cases b with
 |true =>
  refine codeAny_handlers_suite (qS I hx λs1 I1 x1=>?_)
  refine tu (hs ea pins s1 σ H D (Q3 I1 ea) h) (λf s2 q=>?_) λ_ _ z=>ans z
  cases f with
  |next=>obtain⟨σ',H',I',q⟩:=q;exact⟨σ',H',CQ I.ok I',q⟩
  |brk=>obtain⟨σ',H',I',q⟩:=q;exact⟨σ',H',CQ I.ok I',q⟩
  |cont=>obtain⟨σ',H',I',q⟩:=q;exact⟨σ',H',CQ I.ok I',q⟩
  |ret u=>obtain⟨v,σ',H',I',r,q⟩:=q;exact⟨v,σ',H',CQ I.ok I',r,q⟩
 |false=>exact hr pins s σ H D E ea cls xd I hx h
theorem Uv {body:List Stmt}{h₀:ExceptHandler}{hs:List ExceptHandler}{tb:TSX}{th:THX}(F:Fr1 X)(hb:EO X body tb)(hh:PHX X (h₀::hs) th) :
  PSX X (.Try body (h₀::hs) [] [] pos) (Wm tb th):=by
 intro pins s σ H D E I h;unfold Wm at h;refine wpAny_Try_except (tu (hb pins s σ H D _ I h) (λf s1 q=>?_) (λv s1 q=>?_))
 ·cases f with
  |next=>exact wpAny_execs_nil q
  |ret v=>exact q
  |brk=>exact q
  |cont=>exact q
 ·obtain⟨σ',ea,cls,xd,m,H',rfl,I1,hx,hm,q⟩:=q;exact GD F I1.ok.frames I1 hx hm λs2 I2 x2=>qS I2 x2 λs3 I3 x3=>hh pins s3 σ' H' D E ea cls xd I3 x3 q
end
def akR (tb:TSX)(E:SXK):TS:=λD σ H=>tb D E σ H
section
variable{X:Cx}{tg:Expr}
theorem Uw {iter:Expr}{body:List Stmt}{wi:TI}{g:TG}{tb:TSX}{pos:Pos}(F:Fr1 X)(hc:X.calm=true)(hi:PI X.nox tg iter wi)(hg:PG X.nox tg g)(hb:EO X body tb)
  (hs:∀x,foldedSetIterable iter X.env x=pure x:=by intro _;rfl):PSX X (.For tg iter body [] pos) (λD E σ H=>acB wi g (akR tb E) D σ H):=by
 intro pins s σ H D E I h;refine wpAny_For (tu (hi pins s σ H _ (I.nM _) h) (λv s1 h1=>tu h1 (λitv s2 h2=>?_) λ_ _ z=>ans z) λ_ _ z=>ans z) hs
 obtain⟨it,fp,tn,J,H2,e,I2,T,st2,f2,W,⟨m0,w0⟩,turn⟩:=h2;subst e;have hp:PassesOwn (model X.prog X.w) X.A X.env (XPS X pins E):=QW F I.ok.frames;have stat:∀ {H':Hp},(∀b∈fp,H' b=none)->∀b∈fp,gP X pins H' b:=λhn b hb=>⟨hn b hb,(f2 b hb).2⟩
 refine codeAny_forLoop_any (λn s'=>∃i σ' H',Inv X pins σ' H' s'/\tn i s'.heap/\(∀b∈fp,H' b=none)/\W i n σ' H') ?_ m0 ⟨0,σ,H2,I2.eG,st2,λb hb=>(f2 b hb).1,w0⟩
 rintro n s3 ⟨i,σ3,H3,I3,st3,fr3,w3⟩;rcases turn i n σ3 H3 w3 with ⟨stop,qn⟩ | ⟨go,N,hN,step⟩
 ·refine wpAny_passesOwn hp (thn (T.done X rfl rfl rfl hc i pins s3 σ3 H3 (XPS X pins E) I3 (stat fr3) st3 stop) λr s4 ⟨hr,I4⟩=>?_)
  subst hr;exact wpAny_execs_nil ⟨σ3,H3,I4,qn⟩
 ·refine wpAny_passesOwn hp (thn (T.item X rfl rfl rfl hc i pins s3 σ3 H3 (XPS X pins E) I3 (stat fr3) st3 go) λr s4 ⟨u,hr,h4⟩=>?_)
  subst hr;refine wpAny_passesOwn hp (thn h4 λ_ s5 ⟨x,H5,I5,r5,y5,st5,fr5⟩=>?_)
  have I5':=I5.pinned (stat fr5) (T.obj _ _ st5);refine wpAny_passesOwn hp (tu (hg _ s5 σ3 H5 x u _ (I5'.nM _) r5 (step x H5 y5)) (λ_ s6 ⟨σ6,H6,I6,q6⟩=>?_) λ_ _ z=>ans z)
  refine wpAny_passesOwn hp (tu (hb _ s6 σ6 H6 _ E I6.eG q6) (λf s7 q7=>?_) λ_ _ ⟨σ',z⟩=>⟨σ',z.drop⟩)
  have again:∀ {σ7:St} {H7:Hp},Inv X (pins++C6 fp s5.heap) σ7 H7 s7->N σ7 H7->∃m,m < n/\∃i σ' H',Inv X pins σ' H' s7/\tn i s7.heap/\(∀b∈fp,H' b=none)/\W i m σ' H':=λ{σ7 H7} I7 n7=>by
   obtain⟨m',hm,w7⟩:=hN σ7 H7 n7;refine⟨m',hm,i+1,σ7,H7,I7.d6,T.keep _ _ _ st5 λb hb o e=>(I7.pin (b,o) (gn _ (gn _ (d0 hb e)))).1,λb hb=>?_,w7⟩
   obtain⟨o,e,d⟩:=T.obj _ _ st5 b hb;exact(I7.pin (b,o) (gn _ (gn _ (d0 hb e)))).2.1
  cases f with
  |next=>obtain⟨σ7,H7,I7,n7⟩:=q7;exact again I7 n7
  |cont=>obtain⟨σ7,H7,I7,n7⟩:=q7;exact again I7 n7
  |brk=>obtain⟨σ7,H7,I7,q7⟩:=q7;exact⟨σ7,H7,I7.d6,q7⟩
  |ret v=>obtain⟨x7,σ7,H7,I7,r7,q7⟩:=q7;exact⟨x7,σ7,H7,I7.d6,r7,q7⟩
end
structure GaX (K:ba)(C:Addr):Prop where
 ga:cb K (.ref C) "__getattribute__"=some (some (.builtin "BaseException.__getattribute__"))
 hk:cb K (.ref C) "__getattr__"=some none
 mb:PySem.W.mroIn K C (.type "BaseException")=some true
structure amW (K:ba)(C:Addr):Prop where
 ga:GaX K C
 cd:(PySem.W.clsIn K C).isSome=true
 ha:cb K (.ref C) "__class__"=some (some (.builtin "object.__class__"))
 hn:PySem.W.specialIn K (.builtin "object.__class__") "__get__"=some (some (.builtin "getset_descriptor.__get__"))
 htk:PySem.W.takesIn K (.builtin "object.__class__")=some true
 hm:PySem.W.mroIn K C (.type "object")=some true
section
variable{prog:rf}{w:World}{A:Around}{E:Value->Shared->Prop}{h:Heap}{g:Array GenState}{d:Drawn}{t:Nat}{os:OsState}
variable{nm q:Str}{C N:Addr}{bs bm bmB:List Value}{hdct:Bool}{sn:List Str}{sub:List Value}{ab:Bool}{col:Option Bool}{dd:Option Addr}{k0 k1 k2 k3 k5:Option Value}{B nid iid:String}
abbrev pT (h:Heap)(C:Addr)(us:List Value):Heap:=(h.push { cls:=.type "tuple",data:=.seq us.toArray }).push ⟨.ref C,none,.fields #[.ref h.objs.size,.none,.none,.none,.bool false,.none],#[]⟩
theorem gu {us:List Value}{b:Addr}{o:Obj}(e:h.get? b=some o):(pT h C us).get? b=some o:=gp _ (gp _ e)
theorem Dn {us:List Value}:(pT h C us).get? (h.objs.size+1)=some ⟨.ref C,none,.fields #[.ref h.objs.size,.none,.none,.none,.bool false,.none],#[]⟩:=by
 have:=Lk (h.push { cls:=.type "tuple",data:=.seq us.toArray }) (o:=⟨.ref C,none,.fields #[.ref h.objs.size,.none,.none,.none,.bool false,.none],#[]⟩) rfl
 rwa [aof]at this
theorem LR (F:ExcBaseFacts B nid iid bmB)(T:OwnTail h bmB bm){mN:Str->Option Value}{us:List Value}{Q:Fin->Shared->Prop}
  (kC:h.get? C=some (anJ nm q C N bs bm hdct sn sub ab col dd k0 k1 k2 k3 k5 nid)) (kN:h.Ns N mN) (kI:mN "__init__"=none) (hz:us.length<=gr)
  (hq:∀h',(∀b o,h.get? b=some o->h'.get? b=some o)->(∃tp,h'.get? (h.objs.size+1)=some ⟨.ref C,none,.fields #[.ref tp,.none,.none,.none,.bool false,.none],#[]⟩)->Q (.done (.ret (.ref (h.objs.size+1)))) ⟨h',g,d,t,os⟩) :
  wpAny (model prog w) A (Builtin.«type.__call__» ⟨.ref C::us,[]⟩) Q E ⟨h,g,d,t,os⟩:=by
 repeat (first | with_reducible refine wpAny_loadPart_at kC ?_ | with_reducible refine wpAny_madeBy_exc kC ?_ | wp_step)
 refine codeAny_call_builtin_code (Code.quiet_builtin _ F.quiet) (wpAny_check_new_subT F T kC (codeAny_exc_new_subT F T kC ?_ hz));show wpAny _ _ _ _ _ _;have kC1:(pT h C us).get? C=_:=gu kC;have kN1:(pT h C us).Ns N mN:=kN.keeps λb o e=>gu e
 have T1:OwnTail (pT h C us) bmB bm:=T.keeps λb o e=>gu e
 have kE:=Dn (h:=h) (C:=C) (us:=us);have self:(anf C::bm).contains (.ref C)=true:=by simp
 unfold isInstance
 repeat (first | with_reducible refine wpAny_loadPart_at kE ?_ | (with_reducible refine wpAny_isSubtype_exc kC1 ?_;rw[self]) | wp_step)
 show wpAny _ _ (typeLookup (.ref C) _) _ _ _;refine wpAny_typeLookup_tail kC1 kN1 T1 F.mroIs F.init.lookup ?_;rw[kI];refine an4 (gc (wpAny_of_eq (F.init.bind _) ?_));refine gc (wpAny_call (codeAny_call_builtin F.init.plain F.initEntry (wpAny_check_init_subT F T1 kC1 kE rfl ?_)))
 wp_walk
 refine hq _ (λb o e=>?_) ⟨h.objs.size+2,?_⟩
 ·rw[anT _ _ (Nat.ne_of_gt (aoz (me e)))];exact gp _ (gu e)
 ·refine(aoj _ (gp _ kE) rfl).trans ?_;simp only[aof];rfl
theorem O5 (F:ExcBaseFacts B nid iid bmB)(T:OwnTail h bmB bm){mN:Str->Option Value}{us:List Value}{Q:Value->Shared->Prop}
  (kC:h.get? C=some (anJ nm q C N bs bm hdct sn sub ab col dd k0 k1 k2 k3 k5 nid)) (kN:h.Ns N mN) (kI:mN "__init__"=none) (hz:us.length<=gr)
  (hq:∀h',(∀b o,h.get? b=some o->h'.get? b=some o)->(∃tp,h'.get? (h.objs.size+1)=some ⟨.ref C,none,.fields #[.ref tp,.none,.none,.none,.bool false,.none],#[]⟩)->Q (.ref (h.objs.size+1)) ⟨h',g,d,t,os⟩) :
  wpAny (model prog w) A (call (.ref C) us) Q E ⟨h,g,d,t,os⟩:=by
 have l1:=tc_lookup;have l2:=tc_bind (.ref C);have ty:(⟨h,g,d,t,os⟩:Shared).TypeIs (.ref C) "type":=⟨_,kC,rfl⟩;refine wpAny_call (codeAny_of_tree ?_);show wpAny _ _ (callAny (.ref C) _) _ _ _
 repeat (any_goals (first | assumption | with_reducible refine wpAny_loadPart_at kC ?_ | wp_step))
 refine⟨rfl,codeAny_call_builtin_at (Code.quiet_builtin _ (by trivial)) entry_typeCall (wpAny_check_type_call_sub kC (LR F T kC kN kI hz λh' k e=>?_))⟩
 exact hq h' k e
theorem wm {M:Model}{env:Env}{s:Shared}{x:Sem Value}{Q:Flow->Shared->Prop}(Ih:bm.contains (.type "BaseException")=true)(hh:A.handled=none)
  (hx:wpAny M A x (λv s₁=>∃(e:Addr) (xd:Option Addr) (a0:Value) (sl:Array (Option Value)),v=.ref e/\s₁.heap.get? C=some (anJ nm q C N bs bm hdct sn sub ab col dd k0 k1 k2 k3 k5 nid) /\
   s₁.heap.get? e=some ⟨.ref C,xd,.fields #[a0,.none,.none,.none,.bool false,.none],sl⟩/\E (.ref e) s₁) E s):wpAny M A (raiseStmt env (some x) none) Q E s:=by
 have top:(anf C::bm).contains (.type "BaseException")=true:=by rw[List.contains_cons,Ih,Bool.or_true]
 unfold raiseStmt;refine gc (tu hx (λv s₁ h₁=>?_) λ_ _ z=>z)
 obtain⟨e,xd,a0,sl,rfl,kC,kE,fin⟩:=h₁;obtain⟨hp,g',d',tk,os'⟩:=s₁
 repeat (first | with_reducible refine wpAny_loadPart_at kE ?_ | with_reducible refine wpAny_loadPart_at kC ?_ | (with_reducible refine wpAny_isSubtype_exc kC ?_;rw[top]) | wp_step)
 exact wpAny_raiseNew_none hh fin
end
abbrev qU:List Value:=[.type "ValueError",.type "Exception",.type "BaseException",.type "object"]
def strKeys (es:Array an7):Bool:=es.toList.all λe=>match e.key with | .str _ _=>true | _=>false
structure GH (K:ba)(N:Addr):Prop where
 ex:∃(c:Value) (dd:Option Addr) (es:Array an7) (n:Nat) (sl:Array (Option Value)),K.lookup N=some ⟨c,dd,.dict es n,sl⟩/\strKeys es=true
 no:de K N "__init__"=some none
theorem GH.ns {K:ba}{N:Addr}(x:GH K N){h:Heap}(X:K.In h):∃mN,h.Ns N mN/\mN "__init__"=none:=by
 obtain⟨⟨c,dd,es,n,sl,l,sk⟩,no⟩:=x;have ns:h.Ns N (nsFind es):=⟨_,es,n,X _ _ l,rfl,λe he=>by
  have z:=List.all_eq_true.mp sk e (Array.mem_toList_iff.mpr he);cases hk:e.key with
  |str y t=>exact⟨y,t,rfl⟩
  |_=>rw[hk]at z;exact absurd z kr,λ_=>rfl⟩
 refine⟨_,ns,?_⟩;unfold de at no;rw[l]at no;dsimp only at no;unfold nsFind findBy;rw[<-Array.find?_toList];cases hf:es.toList.find? (λe=>e.key.isStr "__init__") with
 |none=>rfl
 |some e=>rw[hf]at no;cases no
inductive jg (K:ba):List Value->Prop
 |base:jg K qU
 |own {D:Addr} {c0:Value} {dd:Option Addr} {cd:ClassData} {sl:Array (Option Value)} {tl:List Value}:K.lookup D=some ⟨c0,dd,.cls cd,sl⟩->GH K cd.ns->jg K tl->jg K (.ref D::tl)
theorem jg.tail {K:ba}{bm:List Value}(x:jg K bm){h:Heap}(X:K.In h):OwnTail h qU bm:=by
 induction x with
 |base=>exact .base
 |own l n _ ih =>
  obtain⟨mA,a,b⟩:=n.ns X;exact .own (X _ _ l) a b ih
structure Iv (K:ba)(C:Addr):Prop where
 ex:∃(nm q:Str) (N:Addr) (bs bm:List Value) (hdct:Bool) (sn:List Str) (sub:List Value) (ab:Bool) (col:Option Bool) (dd:Option Addr) (k0 k1 k2 k3 k5:Option Value),
  K.lookup C=some (anJ nm q C N bs bm hdct sn sub ab col dd k0 k1 k2 k3 k5 "ValueError.__new__")/\GH K N/\jg K bm
section
variable{X:Cx}{x:Str}{C:Addr}{np hJ pos:Pos}{e₀:Expr}{rest:List Expr}{ta:TA}
theorem jt (ek:Iv X.K C)(hc:X.calm=true)(hg:Gl X x)(hm:X.mg x=some (.ref C))(ha:PA X.nox (e₀::rest) ta)(hdb:(x == ("__debug__":Str))=false:=by decide)
  (he:ane (e₀::rest) X.env=(false,eval e₀ X.env)::ane rest X.env:=by rfl) (hpl:(backTo hJ (ane rest X.env)).any (·.1)=false:=by rfl) :
  PSX X (.Raise (some (.Call (.Name x np) (e₀::rest) [] hJ)) none pos) (λ_ E σ H=>ta σ H λvs H1=>vs.length<=gr/\E σ (.ref C) none H1):=by
 intro pins s σ H D E I h;obtain⟨nm,q,N,bs,bm,hdct,sn,sub,ab,col,dd,k0,k1,k2,k3,k5,l,n,T⟩:=ek.ex;have go:wpAny (model X.prog X.w) X.A (eval (.Call (.Name x np) (e₀::rest) [] hJ) X.env) (λv s₁=>∃(e:Addr) (xd:Option Addr) (a0:Value) (sl:Array (Option Value)),v=.ref e/\s₁.heap.get? C=some (anJ nm q C N bs bm hdct sn sub ab col dd k0 k1 k2 k3 k5 "ValueError.__new__") /\
   s₁.heap.get? e=some ⟨.ref C,xd,.fields #[a0,.none,.none,.none,.bool false,.none],sl⟩/\XPS X pins E (.ref e) s₁) (XPS X pins E) s:=by
  refine wpAny_Call_Name_kw (lK I hg hm ?_ hdb);unfold aoO;rw[he];refine gc (an4 (Calls.evalArgs_plain ?_));have ha':=ha hJ pins s σ H _ (I.nM _) h;rw[show X.nox.env=X.env from rfl,he]at ha'
  refine tu ha' (λus s₁ ⟨vs,H1,I1,r,hz,q1⟩=>gc (anW ?_)) λ_ _ z=>ans z
  have I1':=I1.eG;have kC:=I1'.kIn _ _ l;obtain⟨mN,kN,kI⟩:=n.ns I1'.kIn;have T1:=T.tail I1'.kIn;have pl:(backTo hJ ((false,eval e₀ X.env)::ane rest X.env)).any (·.1)=false:=by
   show (false || (backTo hJ (ane rest X.env)).any (·.1))=false
   rw[hpl];rfl
  obtain⟨hp,g',d',tk,os'⟩:=s₁;simp only[pl];refine gc (wpAny_keeperOf_exc kC ?_);refine gc (O5 (F:=PySem.F.excBase_ValueError) T1 kC kN kI (by rw[List.nil_append,<-r.length];exact hz) λh' k ⟨tp,ke⟩=>gc (an4 (wpAny_point (wt ?_))))
  have I2:Inv X pins σ H1 ⟨h',g',d',tk,os'⟩:=I1'.kept (t':=tk) k;refine⟨_,none,_,#[],rfl,k _ _ kC,ke,σ,_,_,none,none,H1,rfl,I2,⟨I1'.xx (an3 _) (I1'.hok.fresh (an3 _)),_,_,ke,(by show 1 < 6;decide),rfl⟩,.inl rfl,q1⟩
 rw[arm_exec_Raise];have hb:bm.contains (.type "BaseException")=true:=(T.tail I.kIn).hasType (b:=true) (by trivial)
 first
  |exact gc (anW (wm (C:=C) (nm:=nm) (q:=q) (N:=N) (bs:=bs) (bm:=bm) (hdct:=hdct) (sn:=sn) (sub:=sub) (ab:=ab) (col:=col) (dd:=dd) (k0:=k0) (k1:=k1) (k2:=k2) (k3:=k3) (k5:=k5) hb (I.ok.hd hc) (gc (tu go (λv s₃ h₃=>gc (anW (wt h₃))) λ_ _ z=>z))))
  | (simp only[evalOpt,Option.map];exact gc (anW (wm (C:=C) (nm:=nm) (q:=q) (N:=N) (bs:=bs) (bm:=bm) (hdct:=hdct) (sn:=sn) (sub:=sub) (ab:=ab) (col:=col) (dd:=dd) (k0:=k0) (k1:=k1) (k2:=k2) (k3:=k3) (k5:=k5) hb (I.ok.hd hc) (gc (tu go (λv s₃ h₃=>gc (anW (wt h₃))) λ_ _ z=>z)))))
end
theorem FA {α β:Type}(f:α->β):∀(xs:List α) (n:Nat),(xs.eraseIdx n).map f=(xs.map f).eraseIdx n
 |[],_=>rfl
 |_::_,0=>rfl
 |x::xs,n+1=>by
  show f x::(xs.eraseIdx n).map f=f x::(xs.map f).eraseIdx n;rw[FA f xs n]
section
variable{X:Cx}{pos:Pos}
theorem Vals.insert {xs:List V}{us:List Value}(r:Vals xs us){y:V}{u:Value}(ry:RelV y u)(k:Nat):Vals (xs.take k++y::xs.drop k) (us.take k++u::us.drop k):=(r.take k).append (.cons ry (r.drop k))
def Ux:V->List V->Hp->VK->Prop:=λx vs H Q=>∃(l:Addr) (xs:List V) (i:Int) (k:Nat) (y:V),x=.ref l/\vs=[.int i,y]/\i=(k:Int)/\H l=some (.lst xs)/\k<=xs.length/\xs.length < gr/\Q .non (upd H l (.lst (xs.take k++y::xs.drop k)))
theorem O6:MtM X "list.insert" Ux:=by
 intro pins s σ H x vs v us Q I rx rv h;obtain⟨l,xs,i,k,y,rfl,rfl,hi,hH,hk,hz,q⟩:=h;cases rx;obtain⟨u1,u2,rfl,r1,r2⟩:=rv.two;obtain⟨t,rfl⟩:=r1;obtain⟨z,its,n,r,hl,e⟩:=I.Gz hH;have lim:gr=16777216:=by decide
 have a2:its.toArray.size<=gr:=by rw[om];omega
 have b:Builtin.List.listFitsIndex i=true:=fitsIndex_both (by omega) (by omega)
 have nb:¬(!Builtin.List.listFitsIndex i)=true:=by rw[b];decide
 refine call_meets F.slot_list_insert ⟨_,e,rfl⟩ F.entry_list_insert (F.args_list_insert_3 _ _ _) (AutoSeq1.list_insert_list_int_val_1 l its.toArray n i t u2 nb a2) ⟨e,?_⟩;refine⟨.non,_,I.O2 (its':=its.take k++u2::its.drop k) hH e ?_ (r.insert r2 k) ?_,rfl,q⟩
 ·show (its.toArray.extract 0 (if i < 0 then (i+(its.toArray.size:Int)).toNat else min i.toNat its.toArray.size)).push u2++its.toArray.extract (if i < 0 then (i+(its.toArray.size:Int)).toNat else min i.toNat its.toArray.size)=_
  have e1:(if i < 0 then (i+(its.toArray.size:Int)).toNat else min i.toNat its.toArray.size)=k:=by
   rw[om,if_neg (by omega)]
   omega
  rw[e1];apply Array.toList_inj.mp;simp;exact List.take_of_length_le (by rw[an6];omega)
 ·rw[ki,tm,anC,an6];omega
end
section
variable{X:Cx}{e:Expr}{te:TE}{y:Str}{j:Nat}{p1 p2 pos:Pos}
def tFR (K:ba)(te:TE)(y:Str):TE:=λσ H Q=>te σ H λx H1=>∃(a:Addr) (d:PyData),x=.ref a/\DV K H1 d x/\d.showable=true/\d.hasDict=false/\d.depth<=60/\d.shown.length+y.length<=gr/\∀z:Str,Q (.str z) H1
theorem len_app (a b:Str):(a++b).length=a.length+b.length:=by
 show (a.cps++b.cps).size=_;simp[Str.length]
theorem acZ (hg:X.A.guards=some [])(hu:X.A.units+64 < cLine)(he:PE X e te):PE X (.JoinedStr [.FormattedValue e 114 none p1,.Constant (.str y) j p2] pos) (tFR X.K te y):=by
 intro pins s σ H Q I h;refine wpAny_JoinedStr ?_;show Joins _ _ _ [eval (.FormattedValue e 114 none p1) X.env,eval (.Constant (.str y) j p2) X.env] _ _ _;refine wpAny_FormattedValue_repr (thn (he pins s σ H _ I h) λv s1 ⟨x,H1,I1,r1,a,d,e1,hd,sh,nd,dp,sz,q⟩=>?_)
 subst e1;obtain rfl:v=anf a:=r1;obtain⟨as,rd⟩:=DV.reads I1 d hd rfl;refine pyReprObj_of_reads (h₀:=s1.heap) rd sh (λz=>absurd z (by rw[nd];decide)) hg (by omega) (λ_ _ z=>z) (λh' u tk hk=>?_) (by omega)
 have I2:Inv X pins σ H1 { s1 with heap:=h',toks:=tk }:=I1.kept hk
 have emp:(anF++d.shown:Str)=d.shown:=by
  apply wj;rw[eJ];rfl
 have go:∀(t:Tok) (s2:Shared),Inv X pins σ H1 s2->∃z t',Value.str d.shown t=.str z t'/\(anF++z).length<=gr/\Joins (model X.prog X.w) X.A X.xe [eval (.Constant (.str y) j p2) X.env] (anF++z) (λout s₁=>out.length<=gr/\EP X pins σ Q (.str out s₁.toks) { s₁ with toks:=s₁.toks+1 }) s2:=λt s2 I3=>by
  refine⟨_,_,rfl,by rw[emp];omega,Calls.Constant_str ⟨y,_,rfl,?_,?_⟩⟩
  ·rw[emp,len_app];omega
  ·refine⟨by rw[emp,len_app];omega,.str _,H1,(I3.tok _).tok _,⟨_,rfl⟩,q _⟩
 exact wpAny_formatField_str (go _ _ I2) (go _ _ (I2.tok _)) (by omega)
end
theorem Q5 {K:ba}{a D:Addr}{xs:List V}{te:TE}{Q:VK}{σ:St}{H1:Hp}(Pv:Nat->List V->Hp->Prop)(h0:Pv 0 [] (upd H1 D (.lst [])))(hz:xs.length<=gr)
  (hl:∀i ys H2,i<=xs.length->Pv i ys H2->SqT K H2 a xs/\H2 D=some (.lst ys)/\ys.length=i)
  (hs:∀i x ys H2,xs[i]?=some x->Pv i ys H2->te (some x::σ) H2 (cB D xs.length Pv i ys)) (hd:∀ys H2,Pv xs.length ys H2->Q (.ref D) H2) :
  nO (Itt K a) te σ D H1 Q:=by
 refine⟨λi m ys H=>m=xs.length - i/\i<=xs.length/\Pv i ys H,⟨xs.length,by simp,anz _,h0⟩,?_⟩
 rintro i m ys H2 ⟨rfl,hi,p⟩;obtain⟨q,q2,q3⟩:=hl i ys H2 hi p;refine⟨q2,?_⟩
 by_cases hlt:i < xs.length
 ·refine .inr ⟨⟨xs,xs[i],q,by simp[hlt]⟩,by omega,λx H3 y=>?_⟩
  obtain⟨e,y⟩:=y;subst e;exact hs i x ys _ (y xs q) p
 ·have e:i=xs.length:=by omega
  subst e;exact .inl ⟨⟨xs,q,kj _⟩,hd ys H2 p⟩
theorem fb {K:ba}{H H':Hp}{t:Addr}{xs:List V}(s:a9 H H')(h:SqT K H t xs):SqT K H' t xs:=by
 rcases h with (h | ⟨o,h⟩) | h
 ·exact .inl (.inl (s _ _ h))
 ·exact .inl (.inr ⟨o,s _ _ h⟩)
 ·exact .inr h
theorem O7 (a b c:Str):(a++b)++c=a++(b++c):=by
 apply wj;rw[eJ,eJ,eJ,eJ,aog]
theorem Iw (sep:Str):∀(a b:List Str),a≠[]->b≠[]->km sep (a++b)=(km sep a++sep)++km sep b
 |[],_,h,_=>absurd rfl h
 |[x],[],_,h=>absurd rfl h
 |[x],y::b,_,_=>rfl
 |x::x2::a,b,_,hb=>by
  have ih:=Iw sep (x2::a) b (anB _ _) hb;show (x++sep)++km sep (x2::a++b)=(((x++sep)++km sep (x2::a))++sep)++km sep b;rw[ih];simp only[O7]
theorem join_join (sep:Str)(a b:List Str)(ha:a≠[]):km sep (km sep a::b)=km sep (a++b):=by
 cases b with
 |nil=>rw[anO];rfl
 |cons y b=>rw[Iw sep a (y::b) ha (anB _ _)];rfl
end L2
namespace L2
open PySem PySem.Spec PySem.Calls PyProof.Rows
theorem Iy {X:Cx}{K:ba}(ek:X.K=K):IxR X (Yg K):=by
 subst ek;exact bz
def YC (n:Nat)(Cf:Nat->Addr)(m:Str)(spf:Nat->Sp)(E:XK)(ta:TE):TE:=λσ H Q=>ta σ H λx H1=>∃k,k < n/\∃a dx fs,x=.ref a/\H1 a=some (.ins (Cf k) dx fs)/\fs.lookup m=none/\spf k [x] H1 Q E
section
variable{X:Cx}{o:Expr}{ta:TE}{m:Str}{apos pos:Pos}{n:Nat}{Cf ff:Nat->Addr}{fdf:Nat->kg}{spf:Nat->Sp}{kk:Nat}{ps:List Str}{CX:CXT}{E:XK}
theorem nz {pl:Sem Bool}(he:PE X o ta)(c:∀k,k < n->Cls X.K (Cf k))(hm:∀k,k < n->Meth X.K (Cf k) m (ff k))(F:∀k,k < n->aT X.prog X.w X.K X.mg X.base CX kk (ff k) (fdf k) ps (spf k))(hr:Room kk X.A)(hb:∀k,k < n->Binds X.K (fdf k) ps [])
  (hx:Passes CX X E)
  (ht:eval (.Call (.Attribute o m apos) [] [] pos) X.env=(do
   let ov <-eval o X.env
   standAt apos.atName
   let (f,first) <-holding [ov] (getMethod ov m pl)
   aoO pos f first (backTo pos (ane [] X.env)) (aot pos (an2 [] X.env))):=by rfl) :
  PE X (.Call (.Attribute o m apos) [] [] pos) (YC n Cf m spf E ta):=by
 intro pins s σ H Q I h;refine an9 (pl:=pl) (thn (he pins s σ H _ I h) λu s1 ⟨x,H1,I1,rx,k,hk,a,dx,fs,ex,ea,l,q⟩=>?_) ht
 subst ex;obtain rfl:u=anf a:=rx;refine kD I1 ea (c k hk) (hm k hk) l ?_;exact PySem.W.callWith_K0 (first:=[.ref a]) I1.kIn (hm k hk).kp (Gu (us:=[.ref a]) (vs:=[.ref a]) (dvs:=[]) (F k hk) hr (hb k hk) .nil hx I1 (.cons rfl .nil) q)
theorem ac8 {P:rf}{w:World}{K:ba}{mg:Str->Option Value}{base:Heap}{CX:CXT}{k:Nat}{f:Addr}{fd:kg}{ps:List Str}{sp sp':Sp}(F:aT P w K mg base CX k f fd ps sp)(G:aT P w K mg base CX k f fd ps sp') :
  aT P w K mg base CX k f fd ps (λvs H Q E=>sp vs H Q E\/sp' vs H Q E) :=
 ⟨λvs H Q E z=>z.elim (F.len vs H Q E) (G.len vs H Q E),λa b c H d e vs Q E p q r s z=>z.elim (F.run a b c H d e vs Q E p q r s) (G.run a b c H d e vs Q E p q r s)⟩
end
end L2
namespace L2
open PySem PySem.Spec PyProof.Rows
def FC (J:It)(tc:TT)(te:TE)(σ:St)(D:Addr)(H1:Hp)(Q:VK):Prop:=∃W:Nat->Nat->List V->Hp->Prop,(∃m,W 0 m [] (upd H1 D (.lst [])))/\∀i m ys H2,W i m ys H2 ->
 H2 D=some (.lst ys)/\((J.stop i H2/\Q (.ref D) H2)\/(J.go i H2/\ys.length < gr/\∀x H3,J.yld i H2 x H3->tc (some x::σ) H3 λb H4=>if b=true then te (some x::σ) H4 λy H5=>H5 D=some (.lst ys)/\∃m',m' < m/\W (i+1) m' (ys++[y]) (upd H5 D (.lst (ys++[y]))) else ∃m',m' < m/\W (i+1) m' ys H4))
def Q6 (wi:TI)(tc:TT)(te:TE):TE:=λσ H Q=>wi σ H λJ H1=>∀D,H1 D=none->FC J tc te σ D H1 Q
section
variable{X:Cx}{pins:List (Addr×Obj)}{σ:St}{H:Hp}{s:Shared}{elt iter cnd:Expr}{x:Str}{px pos:Pos}{scope:Scope}{wi:TI}{tc:TT}{te:TE}{Q:VK}{M:List Str}
theorem LS {cl:List (Str×Addr)}{RR:Value->Addr->Result->Shared->Prop}(S:bU scope X.env.scope x X.N M)(hc:X.calm=true)(hi:PI X (.Name x px) iter wi)
  (ht:∀cl C s H fp,PT (dM X x M scope cl C s H fp) cnd tc) (he:∀cl C s H fp,PE (dM X x M scope cl C s H fp) elt te) (I:Inv X pins σ H s) (h:Q6 wi tc te σ H Q)
  (p1:∀n c,cl.lookup n=some c->X.env.cells.lookup n=some c) (p3:∀y∈scope.names,y.2=.free->(cl.lookup y.1).isSome=true)
  (hRR:∀D C H' s' o m,Inv X (pins++[(C,o)]) σ H' s'->s'.heap.get? C=some o->s'.heap.Ns C m->X.s₀.heap.objs.size<=C->(∀y c,X.env.cells.lookup y=some c->c≠C)->(∀p∈X.pn++pins,p.1≠C)->Q (.ref D) H'->RR (.ref D) C (.ok .next) s') :
  wpAny (model X.prog X.w) X.A (eval iter X.env) (λxv s₁=>wpAny (model X.prog X.w) X.A (pyIter xv) (λit s₂=>wpAny (model X.prog X.w) X.A (newList []) (λacc s₃ =>
   wpAny (model X.prog X.w) X.A (newFunctionEnv scope X.env.globals cl [] X.env.qual none .none (some X.env)) (λBL s₄ =>
    codeAny (model X.prog X.w) X.A (.compStart (.ListComp elt [⟨.Name x px,iter,[cnd],0⟩] scope pos) 0 it acc { BL with scope:=relabel scope X.env }) (RR acc BL.locals) s₄) X.xe s₃) X.xe s₂) X.xe s₁) X.xe s:=by
 refine thn (hi pins s σ H _ I h) λv s1 h1=>thn h1 λitv s2 h2=>?_
 obtain⟨it,fp,tn,J,H2,rfl,I2,T,st2,f2,q⟩:=h2;refine wpAny_newObj_type (wpAny_newFunctionEnv S.zY (by intro y hy;simp at hy) (λh₁ hns₁ hsb₁=>?_) S.kind)
 dsimp only at hns₁ hsb₁ ⊢;generalize hHH:s2.heap.push { cls:=.type "list",dict:=none,data:=.seq ([]:List Value).toArray }=HH at hns₁ hsb₁ ⊢;have hCs:HH.objs.size=s2.heap.objs.size+1:=by rw[<-hHH,aof]
 have hDC:s2.heap.objs.size≠HH.objs.size:=by rw[hCs];exact adm (aoJ _)
 have Ir:s2.heap.objs.size<=HH.objs.size:=by rw[hCs];exact an3 _
 have below:∀b,b < s2.heap.objs.size->b≠HH.objs.size:=λb hb=>by rw[hCs];exact adm (aoz hb)
 have old:∀b o,s2.heap.get? b=some o->h₁.get? b=some o:=λb o e=>hsb₁.extBut b o (below b (me e)) (gp _ (hHH▸gp _ e))
 have Iu:h₁.get? s2.heap.objs.size=some { cls:=.type "list",data:=.seq ([]:List Value).toArray }:=hsb₁.extBut _ _ hDC (gp _ (hHH▸Lk _ rfl));have fo:∀b∈fp,b < s2.heap.objs.size:=λb hb=>by
  obtain⟨o,e,_⟩:=T.obj _ _ st2 b hb;exact me e
 have IY:=Iq (tk:=s2.toks+([]:List (Str×Value)).length) S I2 Ir (kj _) hDC p1 p3 f2 fo old hns₁ Iu;have st1:tn 0 h₁:=T.keep _ _ _ st2 λb _ o e=>old b o e
 obtain⟨W,⟨m0,w0⟩,turn⟩:=q _ (I2.hok.fresh (kj _));generalize hC:HH.objs.size=C at *;generalize hDD:s2.heap.objs.size=D at *;have ndY:(dM X x M scope cl C s2 H2 fp).N.Nodup:=by
  refine List.nodup_cons.mpr ⟨λhm=>S.nl x hm (lookup_relabel_local S.hx),S.ndM⟩
 have stat:∀ {H':Hp},(∀b∈fp,H' b=none)->∀b∈fp,gP (dM X x M scope cl C s2 H2 fp) [] H' b:=λhn b hb =>
  ⟨hn b hb,below b (fo b hb),IY.ok.EK b hb,.inl hb,λy c e=>(f2 b hb).2.2.2.2.1 y c (p1 y c e),λp hp=>absurd (show p∈([]:List (Addr×Obj)) from hp) (by simp)⟩
 have loop:codeAny (model X.prog X.w) X.A (.compLoop (.ListComp elt [⟨.Name x px,iter,[cnd],0⟩] scope pos) 0 (.ref it) (.ref D) (compEnvC scope cl C X.env)) (RR (.ref D) C) { s2 with heap:=h₁,toks:=s2.toks+([]:List (Str×Value)).length }:=by
  refine codeAny_compLoop_tests (λn s'=>∃i v0 ys H',Inv (dM X x M scope cl C s2 H2 fp) [] (v0::σ) H' s'/\tn i s'.heap/\(∀b∈fp,H' b=none)/\W i n ys H') ?_ m0 ⟨0,none,[],_,IY,st1,λb hb=>?_,w0⟩
  ·rintro n s3 ⟨i,v0,ys,H3,I3,st3,fr3,w3⟩;obtain⟨hDl,hw⟩:=turn i n ys H3 w3;rcases hw with ⟨stop,qn⟩ | ⟨go,hsz,step⟩
   ·refine thn (T.done (dM X x M scope cl C s2 H2 fp) rfl rfl rfl hc i [] s3 _ H3 _ I3 (stat fr3) st3 stop) λr s4 ⟨hr,I4⟩=>?_
    subst hr;obtain⟨m4,hn4,_⟩:=I4.loc;obtain⟨oC,es4,ep4,e4,r4⟩:=id hn4;have GC:s2.heap.objs.size<=C:=by rw[hDD];exact Ir
    have IX:Inv X pins σ H3 s4:=I2.HY (ch:=fp) I4.os I4.base I4.hok I4.bare λb hb=>⟨(f2 b hb).2.2.2.1,(f2 b hb).2.1,(f2 b hb).2.2.2.2.1,(f2 b hb).2.2.2.2.2⟩
    have fC:=I2.xx (H':=H3) GC I4.free;have IX2:Inv X (pins++[(C,oC)]) σ H3 s4:=IX.yx λp hp=>(List.mem_append.mp hp).elim (λz=>IX.pin p (gn _ z)) λz=>by
     have e:p=(C,oC):=by simpa using z
     subst e;exact⟨e4,fC.1,fC.2.1,fC.2.2.1,λv z=>by rw[r4.1]at z;cases z⟩
    exact hRR D C H3 s4 oC m4 IX2 e4 hn4 (si I2.sz GC) fC.2.2.2.2.1 fC.2.2.2.2.2 qn
   ·refine thn (T.item (dM X x M scope cl C s2 H2 fp) rfl rfl rfl hc i [] s3 _ H3 _ I3 (stat fr3) st3 go) λr s4 ⟨u,hr,h4⟩=>?_
    subst hr;have e0:∀k:Sem Unit,(letOwnedTupleGo (.Name x px) (.ref it) u >>= λ_=>k)=k:=λk=>by
     rw[show letOwnedTupleGo (.Name x px) (.ref it) u=pure () from rfl,pure_bind]
    show wpAny _ _ (assign (.Name x px) (compEnvC scope cl C X.env) u) _ _ s4;rw[<-e0 (assign (.Name x px) (compEnvC scope cl C X.env) u)];refine gc (thn h4 λ_ s5 ⟨xv,H5,I5,r5,y5,st5,fr5⟩=>?_)
    have I5':=I5.pinned (stat fr5) (T.obj _ _ st5);have hxl:(dM X x M scope cl C s2 H2 fp).env.scope.names.lookup x=some .local:=lookup_relabel_local S.hx;refine wpAny_assign_Name (qP (X:=dM X x M scope cl C s2 H2 fp) (i:=0) I5' ndY rfl (anq hxl) r5 (λs6 I6=>?_) (.inr hxl))
    refine wpAny_tests_one (tu (ht cl C s2 H2 fp _ s6 _ H5 _ I6 (step xv H5 y5)) (λb s6' ⟨H6,I6',hb⟩=>?_) (λ_ _ f=>f.elim))
    cases b with
    |true =>
     rw[if_pos rfl];have hb':=(if_pos rfl).mp hb;refine tu (he cl C s2 H2 fp _ s6' _ H6 _ I6' hb') (λy s7 ⟨yv,H7,I7,r7,hD7,m',hm',w7⟩=>?_) (λ_ _ f=>f.elim)
     refine tu (dq (X:=dM X x M scope cl C s2 H2 fp) _ s7 _ H7 (.ref D) [yv] (.ref D) [y] (λ_ H8=>H8=upd H7 D (.lst (ys++[yv]))) I7 rfl (.cons r7 .nil) ⟨D,ys,yv,rfl,rfl,hD7,hsz,rfl⟩)
      (λ_ s8 ⟨_,H8,I8,_,e8⟩=>?_) (λ_ _ f=>f.elim)
     subst e8;refine⟨m',hm',i+1,some xv,ys++[yv],_,I8.d6,T.keep _ _ _ st5 λb hb o e=>(I8.pin (b,o) (gn _ (gn _ (d0 hb e)))).1,λb hb=>?_,w7⟩
     obtain⟨o,e,d⟩:=T.obj _ _ st5 b hb;exact(I8.pin (b,o) (gn _ (gn _ (d0 hb e)))).2.1
    |false =>
     rw[if_neg kr];rw[if_neg kr]at hb;obtain⟨m',hm',w7⟩:=hb;refine⟨m',hm',i+1,some xv,ys,_,I6'.d6,T.keep _ _ _ st5 λb hb o e=>(I6'.pin (b,o) (gn _ (gn _ (d0 hb e)))).1,λb hb=>?_,w7⟩
     obtain⟨o,e,d⟩:=T.obj _ _ st5 b hb;exact(I6'.pin (b,o) (gn _ (gn _ (d0 hb e)))).2.1
  ·show (upd H2 D (.lst [])) b=none;rw[av (adm (fo b hb))];exact(f2 b hb).1
 exact codeAny_compStart_list loop (T.self _ 0 _ _ _ st1 loop)
theorem Q7 (S:bU scope X.env.scope x X.N M)(hc:X.calm=true)(hi:PI X (.Name x px) iter wi)(ht:∀cl C s H fp,PT (dM X x M scope cl C s H fp) cnd tc)(he:∀cl C s H fp,PE (dM X x M scope cl C s H fp) elt te)
  (hs:∀x,foldedSetIterable iter X.env x=pure x:=by intro _;rfl):PE X (.ListComp elt [⟨.Name x px,iter,[cnd],0⟩] scope pos) (Q6 wi tc te):=by
 intro pins s σ H Q I h;obtain⟨cl,Dk,p1,p3⟩:=wk (scope:=scope) (env:=X.env) (λy hy hf=>I.ok.has y.1 (.inl (S.free y hy hf)))
 rw[eval_ListComp];refine wpAny_comprehension_free (use:=none) rfl hs Dk S.kind S.names (LS (RR:=λacc C=>compPost (model X.prog X.w) X.A X.xe none (EP X pins σ Q) acc C) S hc hi ht he I h p1 p3 ?_)
 intro D C H' s' o m I' e hn h0 h1 h2 q;refine⟨m,hn,λh' hs'=>?_⟩
 have pC:=I'.pin (C,o) (gn _ (gn _ (by simp)))
 have IX:Inv X pins σ H' s':=I'.d6;exact⟨.ref D,H',IX.turned (t':=s'.toks) (λb ob hb e=>(hs'.2 b hb).trans e) pC.2.1 pC.2.2.1 (.inr h0) h1 h2,rfl,q⟩
end
end L2
namespace L2
open PySem PySem.Spec PySem.Calls PyProof.Rows
def KeysAre:List an7->List Str->Prop
 |[],ns=>ns=[]
 |e::r,ns=>∃x xs t,ns=x::xs/\e.key=.str x t/\KeysAre r xs
theorem Dp:∀ {es:List an7} {xs:List (Str×Tok)},es.map DictEntry.key=xs.map (λp=>.str p.1 p.2)->KeysAre es (xs.map (·.1))
 |[],[],_=>rfl
 |[],_::_,h=>by simp at h
 |_::_,[],h=>by simp at h
 |e::es,(x,t)::xs,h=>by
  rw[ku,ku]at h;injection h with h1 h2
  exact⟨x,xs.map (·.1),t,rfl,h1,Dp h2⟩
structure CS (P:Params)(K:ba)(a:Addr)(ns:List Str):Prop where
 ex:∃es n,K.lookup a=some ⟨.type "dict",none,.dict es n,#[]⟩/\PySem.W.KeysLit P es.toList/\KeysAre es.toList ns
 nd:ns.Nodup
 lo:(a == aoq)=false
def Itk (ns:List Str):It:=⟨λi _=>i < ns.length,λi H x H'=>H'=H/\∃z,ns[i]?=some z/\x=.str z,λi _=>ns.length<=i⟩
theorem LU {prog:rf}{w:World}:∀(es:List an7) (ns:List Str),PySem.W.KeysLit w.params es->KeysAre es ns->∃kvs:List (Str×Value),Pairs (strKind prog w) es kvs/\kvs.map (·.1)=ns:=by
 intro es
 induction es with
 |nil =>
  intro ns _ h;have h':ns=[]:=h;subst h';exact⟨[],by first | exact .nil | exact trivial | exact rfl | constructor,rfl⟩
 |cons e r ih =>
  rintro ns ⟨⟨x,t,e1,e2⟩,hk⟩ ⟨y,ys,t',rfl,e3,hr⟩;obtain⟨kvs,h1,h2⟩:=ih ys hk hr;rw[e1]at e3;injection e3 with e4 _
  subst e4;exact⟨(x,e.val)::kvs,.cons (by rw[e1];exact strKind_is prog w x t) rfl h1,by rw[ku,h2]⟩
theorem CS.at {prog:rf}{w:World}{K:ba}{a:Addr}{ns:List Str}(T:CS w.params K a ns):∃(kvs:List (Str×Value)) (n:Nat),kvs.map (·.1)=ns/\∀h:Heap,K.In h->h.DictAt (strKind prog w) a kvs n:=by
 obtain⟨es,n,hl,hk,ha⟩:=T.ex;obtain⟨kvs,h1,h2⟩:=LU (prog:=prog) es.toList ns hk ha;refine⟨kvs,n,h2,λh X=>⟨_,es,X _ _ hl,⟨rfl,rfl,rfl⟩,rfl,λe he=>?_,h1,by rw[h2];exact T.nd⟩⟩
 obtain⟨x,t,e1,e2⟩:=hk.all e (Array.mem_toList_iff.mpr he);exact⟨x,by rw[e1];exact strKind_is prog w x t,e2⟩
theorem Iz {prog:rf}{w:World}{k:Str}{v:Value}(h:(strKind prog w).is k v=true):∃t,v=.str k t:=by
 have h':Value.isStrOf k v=true:=h;cases v with
 |str x t =>
  have:k=x\/x=k:=by first | exact .inl (by simpa [Value.isStrOf] using h') | exact .inr (by simpa [Value.isStrOf] using h')
  rcases this with rfl | rfl <;> exact⟨t,rfl⟩
 |_=>exact absurd h' (by simp[Value.isStrOf])
theorem O8 {P:rf}{w:World}{K:ba}{tg:Expr}(it d:Addr)(ns:List Str)(kvs:List (Str×Value))(n:Nat)(hn:kvs.map (·.1)=ns)(hd:∀h:Heap,K.In h->h.DictAt (strKind P w) d kvs n)(hne:d≠it) :
  Turn P w K tg (Itk ns) [it] it (λi h=>h.IsKeyIter it d i kvs.length n) where
 mem:=by simp
 obj:=λi h st b hb=>by
  have e:b=it:=by simpa using hb
  subst e;obtain⟨o,e,c,dd⟩:=st;exact⟨o,e,λv z=>by rw[dd]at z;cases z⟩
 keep:=λi h h' st k=>st.at λo e=>k it (by simp) o e
 item:=by
  intro X hP hw hK hc i pins s σ H E I hf st hg;subst hP hw hK;obtain⟨f0,f1,f2,f3,f4,f5⟩:=hf it (by simp)
  have W:=Walks.dictKeys (knd:=strKind X.prog X.w) (A:=X.A) (I.ok.hd hc) it d hne kvs n;have hlen:kvs.length=ns.length:=by rw[<-hn,bo]
  refine W.item i s _ _ (by rw[hlen];exact hg) ⟨st,hd _ I.kIn⟩ λv h' tk hv st' kk=>?_
  obtain⟨k,x,hx,hk⟩:=hv;obtain⟨t,rfl⟩:=Iz hk;have I1:Inv X pins σ H { s with heap:=h',toks:=tk }:=I.turned (λb o hb e=>kk b o (by simpa using hb) e) f0 f1 f3 f4 f5
  obtain⟨oi,ei,ci,di⟩:=id st'.1;exact⟨_,rfl,Fn (s:={ s with heap:=h',toks:=tk }) (n:="dict_keyiterator") ei ci di (by decide) ⟨.str k,H,I1,⟨t,rfl⟩,⟨rfl,k,by rw[<-hn,ant,hx];rfl,rfl⟩,st'.1,λb hb=>(hf b hb).1⟩⟩
 done:=by
  intro X hP hw hK hc i pins s σ H E I hf st hg;subst hP hw hK;obtain⟨f0,f1,f2,f3,f4,f5⟩:=hf it (by simp)
  have hlen:kvs.length=ns.length:=by rw[<-hn,bo]
  have hg':ns.length<=i:=hg;exact wpAny_pyNext_dict_end (I.ok.hd hc) st (hd _ I.kIn) (by first | omega | (rw[List.getElem?_eq_none_iff];omega)) λh' eb=>⟨rfl,I.turned (t':=s.toks) (λb o hb e=>eb b o hb e) f0 f1 f3 f4 f5⟩
 self:=λ_ _ _ _ _ st h=>wpAny_pyIter_keyiter st h
section
variable{X:Cx}{tg:Expr}
def akS (ns:List Str):TI:=λ_ H R=>R (Itk ns) H
theorem YD {x:Str}{d:Addr}{ns:List Str}{p:Pos}(T:CS X.w.params X.K d ns)(hg:Gl X x)(hm:X.mg x=some (.ref d))(hdb:(x == ("__debug__":Str))=false:=by decide):PI X tg (.Name x p) (akS ns):=by
 intro pins s σ H R I h;refine lK I hg hm ?_ hdb;obtain⟨kvs,n,hn,hd⟩:=T.at (prog:=X.prog);have hda:=hd _ I.kIn;refine wpAny_pyIter_dict T.lo hda ?_;refine⟨s.heap.objs.size,[s.heap.objs.size],_,_,H,rfl,I.kept (t':=s.toks) λb o e=>gp _ e,O8 _ d ns kvs n hn hd (adm hda.lt_size),⟨_,Lk _ rfl,rfl,rfl⟩,λb hb=>?_,h⟩
 have e:b=s.heap.objs.size:=by simpa using hb
 subst e;exact I.xx (kj _) (I.hok.fresh (kj _))
end
def uO (n:Nat)(Pv:Nat->List V->Hp->Prop)(i:Nat)(ys:List V)(H4:Hp):Prop:=∃m',m' < n - i/\m'=n - (i+1)/\i+1<=n/\Pv (i+1) ys H4
theorem uO.mk {n:Nat}{Pv:Nat->List V->Hp->Prop}{i:Nat}{ys:List V}{H4:Hp}(hi:i < n)(h:Pv (i+1) ys H4):uO n Pv i ys H4:=⟨n - (i+1),by omega,rfl,hi,h⟩
theorem O9 {ns:List Str}{D:Addr}{tc:TT}{te:TE}{Q:VK}{σ:St}{H1:Hp}(Pv:Nat->List V->Hp->Prop)(h0:Pv 0 [] (upd H1 D (.lst [])))(hz:ns.length<=gr)
  (hl:∀i ys H2,i<=ns.length->Pv i ys H2->H2 D=some (.lst ys)/\ys.length<=i)
  (hs:∀i z ys H2,ns[i]?=some z->Pv i ys H2->tc (some (.str z)::σ) H2 λb H4=>if b=true then te (some (.str z)::σ) H4 (cB D ns.length Pv i ys) else uO ns.length Pv i ys H4) (hd:∀ys H2,Pv ns.length ys H2->Q (.ref D) H2) :
  FC (Itk ns) tc te σ D H1 Q:=by
 refine⟨λi m ys H=>m=ns.length - i/\i<=ns.length/\Pv i ys H,⟨ns.length,by simp,anz _,h0⟩,?_⟩
 rintro i m ys H2 ⟨rfl,hi,p⟩;obtain⟨q2,q3⟩:=hl i ys H2 hi p;refine⟨q2,?_⟩
 by_cases hlt:i < ns.length
 ·refine .inr ⟨hlt,by omega,λx H3 y=>?_⟩
  obtain⟨e,z,hz',ex⟩:=y;subst e ex;exact hs i z ys _ hz' p
 ·have e:i=ns.length:=by omega
  subst e;exact .inl ⟨kj _,hd ys H2 p⟩
section
variable{X:Cx}
theorem Uy {K:ba}{pr:Params}(ek:X.K=K)(ep:X.w.params=pr):IxR X (λx y H Q=>∃a z v u,x=.ref a/\y=.str z/\Yx pr K a/\de K a z=some (some u)/\RelV v u/\Q v H):=by
 subst ek ep;exact LQ
end
end L2
namespace L2
open PySem PySem.Spec PyProof.Rows
section
variable{X:Cx}
theorem FD:OpR X (aoc .LtE) (λx y H Q=>∃i j,x=.str i/\y=.str j/\Q (.bl (!decide (j.cps.toList < i.cps.toList))) H):=by
 intro pins s σ H x y v u Q I rx ry h;obtain⟨i,j,rfl,rfl,q⟩:=h;obtain⟨t,rfl⟩:=rx;obtain⟨t',rfl⟩:=ry;exact PySem.P.le_str ⟨.bl _,H,I,rfl,q⟩
theorem ER:jM X (.type "int") (λxs H Q=>∃(z:Str) (n:Int),xs=[.str z]/\PySem.intText? z=some n/\z.length<=640/\Q (.int n) H):=by
 intro pins s σ H xs us Q I r h;obtain⟨z,n,rfl,hn,hl,q⟩:=h;obtain⟨u,rfl,rx⟩:=Vals.one r;obtain⟨t,rfl⟩:=rx;exact PySem.W.KIN.call_text hn hl ⟨.int n,H,I.tok _,⟨_,rfl⟩,q⟩
end
def Itz (x:Str):It:=⟨λi _=>i < x.cps.size,λi H v H'=>H'=H/\∃c,x.cps[i]?=some c/\v=.str ⟨#[c]⟩,λi _=>x.cps.size<=i⟩
theorem Pa {P:rf}{w:World}{K:ba}{tg:Expr}(it:Addr)(x:Str)(t:Tok):Turn P w K tg (Itz x) [it] it (λi h=>h.IsStrIter it "str_ascii_iterator" x t i) where
 mem:=by simp
 obj:=λi h st b hb=>by
  have e:b=it:=by simpa using hb
  subst e;obtain⟨o,e,c,d⟩:=st;exact⟨o,e,λv z=>by rw[d]at z;cases z⟩
 keep:=λi h h' st k=>let ⟨o,e,r⟩:=st;⟨o,k it (by simp) o e,r⟩
 item:=by
  intro X hP hw hK hc i pins s σ H E I hf st hg;subst hP hw hK;obtain⟨f0,f1,f2,f3,f4,f5⟩:=hf it (by simp)
  have hg':i < x.cps.size:=hg;refine wpAny_pyNext_ascii_item st (c:=x.cps[i]) (by simp[hg']) λh' st' sb=>?_
  have I1:Inv X pins σ H { s with heap:=h',toks:=s.toks+1 }:=I.turned (λb o hb e=>(sb.2 b hb).trans e) f0 f1 f3 f4 f5
  obtain⟨o,e,c,d⟩:=id st';exact⟨_,rfl,Fn (s:={ s with heap:=h',toks:=s.toks+1 }) e c d (by decide) ⟨.str ⟨#[x.cps[i]]⟩,H,I1,⟨_,rfl⟩,⟨rfl,_,by simp[hg'],rfl⟩,st',λb hb=>(hf b hb).1⟩⟩
 done:=by
  intro X hP hw hK hc i pins s σ H E I hf st hg;subst hP hw hK;obtain⟨f0,f1,f2,f3,f4,f5⟩:=hf it (by simp)
  have hg':x.cps.size<=i:=hg;exact wpAny_pyNext_ascii_end (I.ok.hd hc) st (by simp[hg']) λh' eb=>⟨rfl,I.turned (t':=s.toks) (λb o hb e=>eb b o hb e) f0 f1 f3 f4 f5⟩
 self:=λ_ _ _ _ _ st h=>wpAny_pyIter_striter_ascii st h
theorem Pb {P:rf}{w:World}{K:ba}{tg:Expr}(it:Addr)(x:Str)(t:Tok):Turn P w K tg (Itz x) [it] it (λi h=>h.IsStrIter it "str_iterator" x t i) where
 mem:=by simp
 obj:=λi h st b hb=>by
  have e:b=it:=by simpa using hb
  subst e;obtain⟨o,e,c,d⟩:=st;exact⟨o,e,λv z=>by rw[d]at z;cases z⟩
 keep:=λi h h' st k=>let ⟨o,e,r⟩:=st;⟨o,k it (by simp) o e,r⟩
 item:=by
  intro X hP hw hK hc i pins s σ H E I hf st hg;subst hP hw hK;obtain⟨f0,f1,f2,f3,f4,f5⟩:=hf it (by simp)
  have hg':i < x.cps.size:=hg;refine wpAny_pyNext_wide_item st (c:=x.cps[i]) (by simp[hg']) λh' st' sb=>?_
  have I1:Inv X pins σ H { s with heap:=h',toks:=s.toks+1 }:=I.turned (λb o hb e=>(sb.2 b hb).trans e) f0 f1 f3 f4 f5
  obtain⟨o,e,c,d⟩:=id st';exact⟨_,rfl,Fn (s:={ s with heap:=h',toks:=s.toks+1 }) e c d (by decide) ⟨.str ⟨#[x.cps[i]]⟩,H,I1,⟨_,rfl⟩,⟨rfl,_,by simp[hg'],rfl⟩,st',λb hb=>(hf b hb).1⟩⟩
 done:=by
  intro X hP hw hK hc i pins s σ H E I hf st hg;subst hP hw hK;obtain⟨f0,f1,f2,f3,f4,f5⟩:=hf it (by simp)
  have hg':x.cps.size<=i:=hg;exact wpAny_pyNext_wide_end (I.ok.hd hc) st (by simp[hg']) λh' eb=>⟨rfl,I.turned (t':=s.toks) (λb o hb e=>eb b o hb e) f0 f1 f3 f4 f5⟩
 self:=λ_ _ _ _ _ st h=>wpAny_pyIter_striter_wide st h
section
variable{X:Cx}{tg:Expr}
def akT (tl:TE):TI:=λσ H R=>tl σ H λx H1=>∃z,x=.str z/\R (Itz z) H1
theorem Q8 {l:Expr}{tl:TE}(hl:PE X l tl):PI X tg l (akT tl):=by
 intro pins s σ H R I h;refine thn (hl pins s σ H _ I h) λv s1 ⟨x,H1,I1,r1,z,e,q⟩=>?_
 subst e;obtain⟨t,rfl⟩:=r1;have fp:∀b∈[s1.heap.objs.size],gP X pins H1 b:=λb hb=>by
  have e:b=s1.heap.objs.size:=by simpa using hb
  subst e;exact I1.xx (kj _) (I1.hok.fresh (kj _))
 cases ha:z.cps.all (· < 128)
 ·exact wpAny_pyIter_wide ha ⟨s1.heap.objs.size,[s1.heap.objs.size],_,_,H1,rfl,I1.kept (t':=s1.toks) λb o e=>gp _ e,Pb _ z t,⟨_,Lk _ rfl,rfl,rfl⟩,fp,q⟩
 ·exact wpAny_pyIter_ascii ha ⟨s1.heap.objs.size,[s1.heap.objs.size],_,_,H1,rfl,I1.kept (t':=s1.toks) λb o e=>gp _ e,Pa _ z t,⟨_,Lk _ rfl,rfl,rfl⟩,fp,q⟩
end
theorem Q9 {z:Str}{D:Addr}{te:TE}{Q:VK}{σ:St}{H1:Hp}(Pv:Nat->List V->Hp->Prop)(h0:Pv 0 [] (upd H1 D (.lst [])))(hz:z.cps.size<=gr)
  (hl:∀i ys H2,i<=z.cps.size->Pv i ys H2->H2 D=some (.lst ys)/\ys.length=i)
  (hs:∀i c ys H2,z.cps[i]?=some c->Pv i ys H2->te (some (.str ⟨#[c]⟩)::σ) H2 (cB D z.cps.size Pv i ys)) (hd:∀ys H2,Pv z.cps.size ys H2->Q (.ref D) H2) :
  nO (Itz z) te σ D H1 Q:=by
 refine⟨λi m ys H=>m=z.cps.size - i/\i<=z.cps.size/\Pv i ys H,⟨z.cps.size,by simp,anz _,h0⟩,?_⟩
 rintro i m ys H2 ⟨rfl,hi,p⟩;obtain⟨q2,q3⟩:=hl i ys H2 hi p;refine⟨q2,?_⟩
 by_cases hlt:i < z.cps.size
 ·refine .inr ⟨hlt,by omega,λx H3 y=>?_⟩
  obtain⟨e,c,y,ex⟩:=y;subst e ex;exact hs i c ys _ y p
 ·have e:i=z.cps.size:=by omega
  subst e;exact .inl ⟨kj _,hd ys H2 p⟩
theorem FE {z:Str}{D:Addr}{te:TE}{Q:VK}{σ:St}{H1:Hp}(p:Nat->Bool)(hz:z.cps.size<=gr)(hD:H1 D=none)
  (hs:∀(c:Nat) (H2:Hp) (Q2:VK),c∈z.cps.toList->a9 H1 H2->(∀H3,a9 H2 H3->Q2 (.bl (p c)) H3)->te (some (.str ⟨#[c]⟩)::σ) H2 Q2)
  (hd:∀H2,a9 H1 H2->H2 D=some (.lst ((z.cps.toList.map p).map V.bl))->Q (.ref D) H2):nO (Itz z) te σ D H1 Q:=by
 refine Q9 (λi ys H2=>ys=((z.cps.toList.take i).map p).map V.bl/\a9 H1 H2/\H2 D=some (.lst ys)) ⟨by simp,aB hD,ae⟩ hz ?_ ?_ ?_
 ·rintro i ys H2 hi ⟨rfl,s2,h2⟩;exact⟨h2,by simp;omega⟩
 ·rintro i c ys H2 hi ⟨rfl,s2,h2⟩;have hi':z.cps.toList[i]?=some c:=by rw[Array.getElem?_toList];exact hi
  refine hs c H2 _ (anh hi') s2 λH3 s3=>?_
  refine cB.mk (Array.getElem?_eq_some_iff.mp hi).1 (s3 _ _ h2) ⟨?_,(s2.trans s3).own hD,ae⟩;rw[aoA,hi'];simp
 ·rintro ys H2 ⟨rfl,s2,h2⟩;refine hd H2 s2 (h2.trans ?_);rw[List.take_of_length_le (by simp)]
inductive YE:List Expr->List Str->Prop
 |nil:YE [] []
 |cons {x:Str} {j:_} {p:Pos} {es:List Expr} {ss:List Str}:YE es ss->YE (.Constant (.str x) j p::es) (x::ss)
structure jh (scope outer:Scope)(xs N M:List Str):Prop where
 kind:scope.kind=.function
 QT:outer.kind=.function
 zY:∀y∈scope.names,y.2≠.cell
 names:∀y∈scope.names,y.2=.local->scope.names.lookup y.1=some .local
 hx:∀x∈xs,scope.names.lookup x=some .local
 free:∀y∈scope.names,y.2=.free->outer.names.lookup y.1=some .cell
 nl:∀n∈M,(dj scope outer).names.lookup n≠some .local
 nd2:(xs++M).Nodup
 nd:N.Nodup
 len:M.length=N.length
 rel:∀i:Nat,i < N.length->M[i]?=N[i]?\/M[i]?=some anF
 em:(dj scope outer).names.lookup anF=none
theorem jh.mem {scope outer:Scope}{xs:List Str}{N M:List Str}(S:jh scope outer xs N M){n:Str}{k:NameKind}(h:(dj scope outer).names.lookup n=some k)(hk:k=.cell\/k=.free) :
  k=.cell/\(n,aoa)∈scope.names/\outer.names.lookup n=some .cell:=by
 obtain⟨⟨n',k'⟩,hm,e⟩:=List.mem_map.mp (aoh h);dsimp only at e
 by_cases hc:(k' == aoa && outer.kind == .function && outer.names.lookup n' == some .cell)=true
 ·rw[if_pos hc]at e;injection e with e1 e2
  subst e1 e2;rw[anA,anA]at hc;have hk':k'=.free:=beq_iff_eq.mp hc.1.1;subst hk';exact⟨rfl,hm,beq_iff_eq.mp hc.2⟩
 ·rw[if_neg hc]at e;injection e with e1 e2
  subst e1 e2;rcases hk with z | z
  ·exact absurd z (S.zY _ hm)
  ·subst z
   exfalso
   refine hc ?_;rw[S.free _ hm rfl,S.QT];rfl
def gW (X:Cx)(xs M:List Str)(scope:Scope)(cl:List (Str×Addr))(C:Addr)(s:Shared)(H:Hp)(fp:List Addr):Cx :=
 { X with N:=xs++M,s₀:=s,H₀:=H,env:=compEnvC scope cl C X.env,outer:=X.stack,ex:=fp,fn:=λ_=>false,pn:=[],xe:=λ_ _=>False }
def FF (n:Nat)(J:It)(g:TG)(te:TEX)(σ:St)(D:Addr)(H1:Hp)(Q:VK)(E:XK):Prop:=∃W:Nat->Nat->List V->Hp->Prop,(∃m,W 0 m [] (upd H1 D (.lst [])))/\∀i m ys H2,W i m ys H2 ->
 H2 D=some (.lst ys)/\((J.stop i H2/\Q (.ref D) H2)\/(J.go i H2/\ys.length < gr/\∀x H3,J.yld i H2 x H3->∀vs:St,vs.length=n->g x (vs++σ) H3 λσ' H4=>∃ws:St,ws.length=n/\σ'=ws++σ /\
  te σ' H4 (λy H5=>H5 D=some (.lst ys)/\∃m',m' < m/\W (i+1) m' (ys++[y]) (upd H5 D (.lst (ys++[y])))) E))
def Ra (n:Nat)(wi:TI)(g:TG)(te:TEX):TEX:=λσ H Q E=>wi σ H λJ H1=>∀D,H1 D=none->FF n J g te σ D H1 Q E
section
variable{prog:rf}{w:World}{A:Around}{R:Result->Shared->Prop}{s:Shared}
theorem LV {elt target iter:Expr}{scope:Scope}{pos:Pos}{it acc:Value}{env:Env}(I:Nat->Shared->Prop)
  (turn:∀n s,I n s->wpAny (model prog w) A (pyNext it) (λr s₁=>match r with
   |none=>R (.ok .next) s₁
   |some v=>wpAny (model prog w) A (letOwnedTupleGo target it v) (λ_ s₀=>wpAny (model prog w) A (assign target env v) (λ_ s₂ =>
     wpAny (model prog w) A (eval elt env) (λx s₄ =>
       wpAny (model prog w) A (call (.builtin "list.append") [acc,x]) (λ_ s₅=>∃m,m < n/\I m s₅) (notedBy (model prog w) A env λe s'=>R (.error e) s') s₄) (notedBy (model prog w) A env λe s'=>R (.error e) s') s₂)
      (notedBy (model prog w) A env λe s'=>R (.error e) s') s₀) (notedBy (model prog w) A env λe s'=>R (.error e) s') s₁) (notedBy (model prog w) A env λe s'=>R (.error e) s') s)
  (n:Nat) (h:I n s) :
  codeAny (model prog w) A (.compLoop (.ListComp elt [⟨target,iter,[],0⟩] scope pos) 0 it acc env) R s:=by
 refine codeAny_loop rfl I (λn s hI=>?_) n h
 show wpAny _ A ((compTurn (.ListComp elt [⟨target,iter,[],0⟩] scope pos) 0 it acc env).onRaise (λx=>do noteFrame x env;theTreesLotGoes x)) _ _ s
 refine wpAny_noted ?_;rw[compTurn_list];refine gc (anW (gc (tu (turn n s hI) (λr s₁ h₁=>?_) λ_ _ h'=>h')))
 cases r with
 |none=>exact wt h₁
 |some v =>
  refine gc (tu h₁ (λ_ s₀ h₀=>?_) λ_ _ h'=>h')
  refine gc (tu h₀ (λ_ s₂ h₂=>gc (wpAny_tests_nil ?_)) λ_ _ h'=>h')
  exact gc (gc (tu h₂ (λx s₄ h₄=>gc (tu h₄ (λ_ s₅ h₅=>wt (wt ⟨rfl,h₅⟩)) λ_ _ h'=>h')) λ_ _ h'=>h'))
end
section
variable{X:Cx}{pins:List (Addr×Obj)}{σ:St}{H:Hp}{s:Shared}{elt iter tg:Expr}{xs:List Str}{px pos:Pos}{scope:Scope}{wi:TI}{te:TEX}{g:TG}{Q:VK}{E:XK}{M:List Str}
theorem Rb {cl:List (Str×Addr)}{C:Addr}{fp:List Addr}(S:jh scope X.env.scope xs X.N M)(I:Inv X pins σ H s)(hC:s.heap.objs.size<=C)(p1:∀n c,cl.lookup n=some c->X.env.cells.lookup n=some c)
  (p3:∀y∈scope.names,y.2=.free->(cl.lookup y.1).isSome=true) (f2:∀b∈fp,gP X pins H b) (fo:∀b∈fp,b < s.heap.objs.size):(gW X xs M scope cl C s H fp).Ok where
 mod:=I.ok.mod
 kind:=S.kind
 glob:=I.ok.glob
 blt:=I.ok.blt
 above:=hC
 inj:=λy z c h1 h2=>I.ok.inj y z c (p1 y c h1) (p1 z c h2)
 has:=λy hy=>by
  have hy':(dj scope X.env.scope).names.lookup y=some .cell\/(dj scope X.env.scope).names.lookup y=some .free:=hy;have hm:(y,aoa)∈scope.names:=by
   rcases hy' with z | z
   ·exact(S.mem z (.inl rfl)).2.1
   ·exact(S.mem z (.inr rfl)).2.1
  exact Option.isSome_iff_exists.mp (p3 _ hm rfl)
 cab:=λy c h=>absurd h kr
 hd:=I.ok.hd
 frames:=I.ok.frames
 stk:=.inl rfl
 exf:=λb hb=>⟨adm (ang (fo b hb) hC),λy c e=>(f2 b hb).2.2.2.2.1 y c (p1 y c e)⟩
 bs:=I.bs
 bsz:=si I.ok.bsz I.sz
 Gs:=λb o e hb=>by
  rcases (f2 b hb).2.2.2.1 with z | z
  ·exact I.ok.Gs b o e z
  ·exact absurd (ang (me (I.ok.bs b o e).1) z) (aoR _)
 EK:=λb hb z=>by
  rcases List.mem_cons.mp (I.C4 b z) with e | e
  ·exact(f2 b hb).2.1 e
  ·exact(f2 b hb).2.2.1 e
 wW:=I.stack
 frf:=I.CO
theorem Pc {cl:List (Str×Addr)}{C D:Addr}{fp:List Addr}{h₁:Heap}{tk:Nat}{m:Str->Option Value}(S:jh scope X.env.scope xs X.N M)(I:Inv X pins σ H s)(hC:s.heap.objs.size<=C)(hD:s.heap.objs.size<=D)(hDC:D≠C)
  (p1:∀n c,cl.lookup n=some c->X.env.cells.lookup n=some c)
  (p3:∀y∈scope.names,y.2=.free->(cl.lookup y.1).isSome=true) (f2:∀b∈fp,gP X pins H b) (fo:∀b∈fp,b < s.heap.objs.size)
  (old:∀b o,s.heap.get? b=some o->h₁.get? b=some o) (hn:h₁.Ns C m) (hl:h₁.get? D=some { cls:=.type "list",data:=.seq ([]:List Value).toArray }) :
  Inv (gW X xs M scope cl C s H fp) [] (aoK xs.length none++σ) (upd H D (.lst [])) { s with heap:=h₁,toks:=tk }:=by
 have cellK:∀c v,s.heap.IsCell c v->h₁.IsCell c v:=λc v ⟨o,e,d⟩=>⟨o,old c o e,d⟩
 refine⟨Rb S I hC p1 p3 f2 fo,rfl,I.bare,Un.laid old hD (I.hok.fresh hD),⟨m,hn,λi n v h1 h2 h3=>?_⟩,λy c e=>?_,?_,λy c e=>?_,λp hp=>absurd (show p∈([]:List (Addr×Obj)) from hp) (by simp),I.hok.laid old hD ⟨anz _,[],0,.nil,hl⟩,?_⟩
 ·have h1':(xs++M)[i]?=some n:=h1
  by_cases hi:i < xs.length
  ·rw[aow (by rw[aoi];exact hi),List.getElem?_replicate,if_pos hi]at h2
   cases h2
  ·rw[aou (by omega)]at h1'
   rw[aou (by rw[aoi];omega),aoi]at h2
   generalize i - xs.length=i at h1' h2;have h3':(dj scope X.env.scope).names.lookup n=some .local\/(dj scope X.env.scope).names.lookup n=some .cell\/(dj scope X.env.scope).names.lookup n=some .free:=h3;have mP:(dj scope X.env.scope).names.lookup n=some .cell/\(n,aoa)∈scope.names/\X.env.scope.names.lookup n=some .cell:=by
    rcases h3' with z | z | z
    ·exact absurd z (S.nl n (anh h1'))
    ·exact⟨z,(S.mem z (.inl rfl)).2⟩
    ·exact absurd (S.mem z (.inr rfl)).1 (by decide)
   have akU:X.N[i]?=some n:=by
    have hi:i < X.N.length:=by rw[<-S.len];exact(List.getElem?_eq_some_iff.mp h1').1
    rcases S.rel i hi with z | z
    ·rw[<-z];exact h1'
    ·rw[h1']at z;have e:n=anF:=anb z;rw[e,S.em]at mP;cases mP.1
   obtain⟨m0,hn0,hl0⟩:=I.loc;obtain⟨u,r,l⟩:=hl0 i n v akU h2 (.inr (.inl mP.2.2));refine⟨u,r,.inr ⟨.inl mP.1,?_⟩⟩;obtain⟨c,hc⟩:=Option.isSome_iff_exists.mp (p3 _ mP.2.1 rfl);refine⟨c,hc,?_⟩;rcases l with ⟨k,_⟩ | ⟨_,c',hc',z⟩
   ·have k':X.env.scope.names.lookup n=some .local:=k;rw[mP.2.2]at k';cases k'
   ·rw[p1 n c hc]at hc';cases hc';exact cellK c _ z
 ·obtain⟨v,z⟩:=I.cell y c (p1 y c e);exact⟨v,cellK c v z⟩
 ·show (upd H D (.lst [])) C=none;rw[av (anj hDC)];exact I.hok.fresh hC
 ·obtain⟨v,z⟩:=I.cell y c (p1 y c e);rw[av (adm (ang z.lt hD))];exact I.pO y c (p1 y c e)
 ·show (aoK xs.length none++σ).length=(xs++M).length;rw[ki,ki,aoi,I.len,S.len]
def XPC (X:Cx)(pins:List (Addr×Obj))(σ:St)(E:XK)(C:Addr)(ea:Addr)(s':Shared):Prop :=
 ∃(cls:Value) (xd:Option Addr) (m:Value) (H':Hp) (o:Obj),Inv X (pins++[(C,o)]) σ H' s'/\(∃mC,s'.heap.Ns C mC)/\X.s₀.heap.objs.size<=C/\(∀y c,X.env.cells.lookup y=some c->c≠C)/\(∀p∈X.pn++pins,p.1≠C)/\XAt X (pins++[(C,o)]) H' s'.heap ea cls xd (some m)/\E cls xd H'
theorem LW {cl:List (Str×Addr)}{RR:Value->Addr->Result->Shared->Prop}{xe:Value->Shared->Prop}(F1:Fr1 X)(S:jh scope X.env.scope xs X.N M)(hc:X.calm=true)(hi:PI X.nox tg iter wi)
  (hg:∀cl C s H fp,PG (gW X xs M scope cl C s H fp) tg g)
  (he:∀cl C s H fp,PEX (gW X xs M scope cl C s H fp) elt te) (I:Inv X pins σ H s) (h:Ra xs.length wi g te σ H Q E)
  (p1:∀n c,cl.lookup n=some c->X.env.cells.lookup n=some c) (p3:∀y∈scope.names,y.2=.free->(cl.lookup y.1).isSome=true)
  (hRR:∀D C H' s' o m,Inv X (pins++[(C,o)]) σ H' s'->s'.heap.get? C=some o->s'.heap.Ns C m->X.s₀.heap.objs.size<=C->(∀y c,X.env.cells.lookup y=some c->c≠C)->(∀p∈X.pn++pins,p.1≠C)->Q (.ref D) H'->RR (.ref D) C (.ok .next) s')
  (hRX:∀D C ea s',XPC X pins σ E C ea s'->RR (.ref D) C (.error (.ref ea)) s') :
  wpAny (model X.prog X.w) X.A (eval iter X.env) (λxv s₁=>wpAny (model X.prog X.w) X.A (pyIter xv) (λit s₂=>wpAny (model X.prog X.w) X.A (newList []) (λacc s₃ =>
   wpAny (model X.prog X.w) X.A (newFunctionEnv scope X.env.globals cl [] X.env.qual none .none (some X.env)) (λBL s₄ =>
    codeAny (model X.prog X.w) X.A (.compStart (.ListComp elt [⟨tg,iter,[],0⟩] scope pos) 0 it acc { BL with scope:=relabel scope X.env }) (RR acc BL.locals) s₄) xe s₃) xe s₂) xe s₁) xe s:=by
 refine tu (hi pins s σ H _ (I.nM _) h) (λv s1 h1=>tu h1 (λitv s2 h2=>?_) λ_ _ z=>ans z) λ_ _ z=>ans z
 obtain⟨it,fp,tn,J,H2,rfl,I2',T,st2,f2',q⟩:=h2;have I2:Inv X pins σ H2 s2:=I2'.eG;have f2:∀b∈fp,gP X pins H2 b:=f2';refine wpAny_newObj_type (wpAny_newFunctionEnv S.zY (by intro y hy;simp at hy) (λh₁ hns₁ hsb₁=>?_) S.kind)
 dsimp only at hns₁ hsb₁ ⊢;generalize hHH:s2.heap.push { cls:=.type "list",dict:=none,data:=.seq ([]:List Value).toArray }=HH at hns₁ hsb₁ ⊢;have hCs:HH.objs.size=s2.heap.objs.size+1:=by rw[<-hHH,aof]
 have hDC:s2.heap.objs.size≠HH.objs.size:=by rw[hCs];exact adm (aoJ _)
 have Ir:s2.heap.objs.size<=HH.objs.size:=by rw[hCs];exact an3 _
 have below:∀b,b < s2.heap.objs.size->b≠HH.objs.size:=λb hb=>by rw[hCs];exact adm (aoz hb)
 have old:∀b o,s2.heap.get? b=some o->h₁.get? b=some o:=λb o e=>hsb₁.extBut b o (below b (me e)) (gp _ (hHH▸gp _ e))
 have Iu:h₁.get? s2.heap.objs.size=some { cls:=.type "list",data:=.seq ([]:List Value).toArray }:=hsb₁.extBut _ _ hDC (gp _ (hHH▸Lk _ rfl));have fo:∀b∈fp,b < s2.heap.objs.size:=λb hb=>by
  obtain⟨o,e,_⟩:=T.obj _ _ st2 b hb;exact me e
 have IY:=Pc (tk:=s2.toks+([]:List (Str×Value)).length) S I2 Ir (kj _) hDC p1 p3 f2 fo old hns₁ Iu;have st1:tn 0 h₁:=T.keep _ _ _ st2 λb _ o e=>old b o e
 obtain⟨W,⟨m0,w0⟩,turn⟩:=q _ (I2.hok.fresh (kj _));generalize hC:HH.objs.size=C at *;generalize hDD:s2.heap.objs.size=D at *;have GC:s2.heap.objs.size<=C:=by rw[hDD];exact Ir
 have stat:∀ {H':Hp},(∀b∈fp,H' b=none)->∀b∈fp,gP (gW X xs M scope cl C s2 H2 fp) [] H' b:=λhn b hb =>
  ⟨hn b hb,below b (fo b hb),IY.ok.EK b hb,.inl hb,λy c e=>(f2 b hb).2.2.2.2.1 y c (p1 y c e),λp hp=>absurd (show p∈([]:List (Addr×Obj)) from hp) (by simp)⟩
 have out:∀ {H':Hp} {s':Shared} {σ':St} {pl:List (Addr×Obj)},Inv (gW X xs M scope cl C s2 H2 fp) pl σ' H' s'->∃oC mC,Inv X (pins++[(C,oC)]) σ H' s'/\s'.heap.get? C=some oC/\s'.heap.Ns C mC/\gP X pins H' C:=λ{H' s' σ' pl} I4=>by
  obtain⟨m4,hn4,_⟩:=I4.loc;obtain⟨oC,es4,ep4,e4,r4⟩:=id hn4;have IX:Inv X pins σ H' s':=I2.HY (ch:=fp) I4.os I4.base I4.hok I4.bare λb hb=>⟨(f2 b hb).2.2.2.1,(f2 b hb).2.1,(f2 b hb).2.2.2.2.1,(f2 b hb).2.2.2.2.2⟩
  have fC:=I2.xx (H':=H') GC I4.free;have IX2:Inv X (pins++[(C,oC)]) σ H' s':=IX.yx λp hp=>(List.mem_append.mp hp).elim (λz=>IX.pin p (gn _ z)) λz=>by
   have e:p=(C,oC):=by simpa using z
   subst e;exact⟨e4,fC.1,fC.2.1,fC.2.2.1,λv z=>by rw[r4.1]at z;cases z⟩
  exact⟨oC,m4,IX2,e4,hn4,fC⟩
 have exo:∀ {e:Value} {s':Shared} {σ':St} {pl:List (Addr×Obj)},XP (gW X xs M scope cl C s2 H2 fp) pl σ' E e s'->notedBy (model X.prog X.w) X.A (compEnvC scope cl C X.env) (λe s''=>RR (.ref D) C (.error e) s'') e s':=λ{e s' σ' pl} xp=>by
  obtain⟨ea,cls,xd,m,H',rfl,I4,hx,_,qe⟩:=xp;obtain⟨oC,mC,IX2,e4,hn4,fC⟩:=out I4;have fpx:∀ {b:Addr},gP (gW X xs M scope cl C s2 H2 fp) pl H' b->gP X (pins++[(C,oC)]) H' b:=λ{b} z=>by
   have base:gP X pins H' b:=by
    rcases z.2.2.2.1 with y | y
    ·exact⟨z.1,(f2 b y).2⟩
    ·exact I2.xx y z.1
   refine⟨base.1,base.2.1,base.2.2.1,base.2.2.2.1,base.2.2.2.2.1,λp hp=>?_⟩
   rcases List.mem_append.mp hp with y | y
   ·exact base.2.2.2.2.2 p (anx _ y)
   ·rcases List.mem_append.mp y with y | y
    ·exact base.2.2.2.2.2 p (gn _ y)
    ·have e:p=(C,oC):=by simpa using y
     subst e;exactλe=>z.2.1 e.symm
  have hx':XAt X (pins++[(C,oC)]) H' s'.heap ea cls xd m:=by
   obtain⟨ok,sl,vs,he',hz,hm⟩:=hx;refine⟨fpx ok,sl,vs,he',hz,?_⟩;cases m with
   |none=>exact hm
   |some m=>obtain⟨T',oT,ts,a,b,c,d⟩:=hm;exact⟨T',oT,ts,a,b,fpx c,d⟩
  have hmk:MOk X m:=by cases m with | none=>exact .inl rfl | some m=>exact .inr (.inr ⟨m,rfl⟩)
  show wpAny _ _ (noteFrame (.ref ea) X.env) _ _ s';refine GD F1 IX2.ok.frames IX2 hx' hmk λs5 I5 x5=>?_
  refine hRX D C ea s5 ⟨cls,xd,_,H',oC,I5,?_,si I2.sz GC,fC.2.2.2.2.1,fC.2.2.2.2.2,x5,qe⟩;have pC:=I5.pin (C,oC) (gn _ (gn _ (by simp)))
  obtain⟨o',es,ep,e0,r⟩:=hn4;rw[e4]at e0;cases e0;exact⟨mC,oC,es,ep,pC.1,r⟩
 have loop:codeAny (model X.prog X.w) X.A (.compLoop (.ListComp elt [⟨tg,iter,[],0⟩] scope pos) 0 (.ref it) (.ref D) (compEnvC scope cl C X.env)) (RR (.ref D) C) { s2 with heap:=h₁,toks:=s2.toks+([]:List (Str×Value)).length }:=by
  refine LV (λn s'=>∃i vs ys H',Inv (gW X xs M scope cl C s2 H2 fp) [] (vs++σ) H' s'/\vs.length=xs.length/\tn i s'.heap/\(∀b∈fp,H' b=none)/\W i n ys H') ?_ m0 ⟨0,aoK xs.length none,[],_,IY,aoi,st1,λb hb=>?_,w0⟩
  ·rintro n s3 ⟨i,vs,ys,H3,I3,hvs,st3,fr3,w3⟩;obtain⟨hDl,hw⟩:=turn i n ys H3 w3;rcases hw with ⟨stop,qn⟩ | ⟨go,hsz,step⟩
   ·refine thn (T.done (gW X xs M scope cl C s2 H2 fp) rfl rfl rfl hc i [] s3 _ H3 _ I3 (stat fr3) st3 stop) λr s4 ⟨hr,I4⟩=>?_
    subst hr;obtain⟨oC,m4,IX2,e4,hn4,fC⟩:=out I4;exact hRR D C H3 s4 oC m4 IX2 e4 hn4 (si I2.sz GC) fC.2.2.2.2.1 fC.2.2.2.2.2 qn
   ·refine thn (T.item (gW X xs M scope cl C s2 H2 fp) rfl rfl rfl hc i [] s3 _ H3 _ I3 (stat fr3) st3 go) λr s4 ⟨u,hr,h4⟩=>?_
    subst hr;refine thn h4 λ_ s5 ⟨xv,H5,I5,r5,y5,st5,fr5⟩=>?_
    have I5':=I5.pinned (stat fr5) (T.obj _ _ st5);refine tu (hg cl C s2 H2 fp _ s5 _ H5 xv u _ I5' r5 (step xv H5 y5 vs hvs)) (λ_ s6 ⟨σ6,H6,I6,ws,hws,e6,q6⟩=>?_) (λ_ _ f=>f.elim)
    subst e6;refine tu (he cl C s2 H2 fp _ s6 _ H6 _ E I6 q6) (λy s7 ⟨yv,H7,I7,r7,hD7,m',hm',w7⟩=>?_) (λ_ _ f=>exo f)
    refine tu (dq (X:=gW X xs M scope cl C s2 H2 fp) _ s7 _ H7 (.ref D) [yv] (.ref D) [y] (λ_ H8=>H8=upd H7 D (.lst (ys++[yv]))) I7 rfl (.cons r7 .nil) ⟨D,ys,yv,rfl,rfl,hD7,hsz,rfl⟩)
     (λ_ s8 ⟨_,H8,I8,_,e8⟩=>?_) (λ_ _ f=>f.elim)
    subst e8;refine⟨m',hm',i+1,ws,ys++[yv],_,I8.d6,hws,T.keep _ _ _ st5 λb hb o e=>(I8.pin (b,o) (gn _ (gn _ (d0 hb e)))).1,λb hb=>?_,w7⟩
    obtain⟨o,e,d⟩:=T.obj _ _ st5 b hb;exact(I8.pin (b,o) (gn _ (gn _ (d0 hb e)))).2.1
  ·show (upd H2 D (.lst [])) b=none;rw[av (adm (fo b hb))];exact(f2 b hb).1
 exact codeAny_compStart_list loop (T.self _ 0 _ _ _ st1 loop)
theorem Uz {C ea:Addr}{s':Shared}{h':Heap}{BL:Env}{α:Type}{w1:String}{Q':α->Shared->Prop}(x:XPC X pins σ E C ea s')(hs':Heap.SameBut C s'.heap h') :
  wpAny (model X.prog X.w) X.A (passOn w1 (.ref ea) BL:Sem α) Q' (XP X pins σ E) { s' with heap:=h' }:=by
 obtain⟨cls,xd,m,H',o,I5,⟨mC,hn⟩,h0,h1,h2,hx,qe⟩:=x;have pC:=I5.pin (C,o) (gn _ (gn _ (by simp)))
 have IX:Inv X pins σ H' s':=I5.d6;have I6:Inv X pins σ H' { s' with heap:=h' }:=IX.turned (t':=s'.toks) (λb ob hb e=>(hs'.2 b hb).trans e) pC.2.1 pC.2.2.1 (.inr h0) h1 h2
 have ne:∀ {b:Addr},gP X (pins++[(C,o)]) H' b->b≠C:=λ{b} z e=>z.2.2.2.2.2 (C,o) (gn _ (gn _ (by simp))) e.symm
 obtain⟨ok,sl,vs,he,hz,T,oT,ts,a1,nT,fT,hT,hd,h3⟩:=hx;have x6:XAt X pins H' h' ea cls xd (some m):=⟨ok.drop,sl,vs,(hs'.2 ea (ne ok)).trans he,hz,T,oT,ts,a1,nT,fT.drop,(hs'.2 T (ne fT)).trans hT,hd,h3⟩;unfold PySem.passOn;refine gc (wpAny_field (s:={ s' with heap:=h' }) ((hs'.2 ea (ne ok)).trans he) rfl a1 ?_)
 rw[if_neg (show ¬((anf T == aok)=true) by simp)]
 have step:wpAny (model X.prog X.w) X.A (do setFlight (.ref ea) BL.frame;throw (.ref ea):Sem α) Q' (XP X pins σ E) { s' with heap:=h' } :=
  gc (qS I6 x6 λs2 I2 x2=>wpAny_throw ⟨ea,cls,xd,_,H',rfl,I2,x2,.inr (.inr ⟨_,rfl⟩),qe⟩)
 first
  |exact step
  |exact gc (wt step)
theorem Rc (F1:Fr1 X)(S:jh scope X.env.scope xs X.N M)(hc:X.calm=true)(hi:PI X.nox tg iter wi)(hg:∀cl C s H fp,PG (gW X xs M scope cl C s H fp) tg g)
  (he:∀cl C s H fp,PEX (gW X xs M scope cl C s H fp) elt te)
  (hs:∀x,foldedSetIterable iter X.env x=pure x:=by intro _;rfl):PEX X (.ListComp elt [⟨tg,iter,[],0⟩] scope pos) (Ra xs.length wi g te):=by
 intro pins s σ H Q E I h;obtain⟨cl,Dk,p1,p3⟩:=wk (scope:=scope) (env:=X.env) (λy hy hf=>I.ok.has y.1 (.inl (S.free y hy hf)))
 rw[eval_ListComp];refine wpAny_comprehension_free (use:=none) rfl hs Dk S.kind S.names (LW (RR:=λacc C=>compPost (model X.prog X.w) X.A (XP X pins σ E) none (EP X pins σ Q) acc C) F1 S hc hi hg he I h p1 p3 ?_ ?_)
 ·intro D C H' s' o m I' e hn h0 h1 h2 q;refine⟨m,hn,λh' hs'=>?_⟩
  have pC:=I'.pin (C,o) (gn _ (gn _ (by simp)))
  have IX:Inv X pins σ H' s':=I'.d6;exact⟨.ref D,H',IX.turned (t':=s'.toks) (λb ob hb e=>(hs'.2 b hb).trans e) pC.2.1 pC.2.2.1 (.inr h0) h1 h2,rfl,q⟩
 ·intro D C ea s' x;obtain⟨_,_,_,_,_,_,⟨mC,hn⟩,_⟩:=id x;exact⟨mC,hn,λh' hs' BL _=>Uz x hs'⟩
end
def ac9 (t:TAX):TEX:=λσ H Q E=>t σ H (λxs H1=>xs.length<=gr/\∀p,H1 p=none->Q (.ref p) (upd H1 p (.tup xs))) E
theorem pU {X:Cx}{es:List Expr}{t:TAX}{x1:_}{pos:Pos}(h:PAX X es t):PEX X (.Tuple es x1 pos) (ac9 t):=by
 intro pins s σ H Q E I hq;refine wpAny_Tuple_spliced (thn (h pos pins s σ H _ E I hq) λus s1 ⟨xs,H1,I1,r,z,q⟩=>⟨by rw[<-r.length];exact z,?_⟩)
 have hf:H1 s1.heap.objs.size=none:=I1.hok.fresh (kj _);refine⟨.ref s1.heap.objs.size,upd H1 s1.heap.objs.size (.tup xs),I1.laid (t':=s1.toks) (λb u e=>gp _ e) (kj _) ?_,rfl,q _ hf⟩
 exact⟨z,us,r,⟨_,Lk _ rfl,rfl,_,rfl⟩⟩
theorem LX {K:ba}{a D:Addr}{xs:List V}{te:TEX}{Q:VK}{E:XK}{σ:St}{H1:Hp}(Pv:Nat->List V->Hp->Prop)(h0:Pv 0 [] (upd H1 D (.lst [])))(hz:xs.length<=gr)
  (hl:∀i ys H2,i<=xs.length->Pv i ys H2->SqL K H2 a xs/\H2 D=some (.lst ys)/\ys.length=i)
  (hs:∀i x ys H2,xs[i]?=some x->Pv i ys H2->te (some x::σ) H2 (cB D xs.length Pv i ys) E) (hd:∀ys H2,Pv xs.length ys H2->Q (.ref D) H2) :
  FF 1 (Itl K a) (jr 0) te σ D H1 Q E:=by
 refine⟨λi m ys H=>m=xs.length - i/\i<=xs.length/\Pv i ys H,⟨xs.length,by simp,anz _,h0⟩,?_⟩
 rintro i m ys H2 ⟨rfl,hi,p⟩;obtain⟨q,q2,q3⟩:=hl i ys H2 hi p;refine⟨q2,?_⟩
 by_cases hlt:i < xs.length
 ·refine .inr ⟨⟨xs,xs[i],q,by simp[hlt]⟩,by omega,λx H3 y vs hv=>?_⟩
  obtain⟨e,y⟩:=y;subst e;obtain⟨v0,rfl⟩:=List.length_eq_one_iff.mp hv;exact⟨[some x],rfl,rfl,hs i x ys _ (y xs q) p⟩
 ·have e:i=xs.length:=by omega
  subst e;exact .inl ⟨⟨xs,q,kj _⟩,hd ys H2 p⟩
abbrev TJ:=St->Hp->Str->(Str->Hp->Prop)->Prop
def PJ (X:Cx)(es:List Expr)(t:TJ):Prop :=
 ∀(pins:List (Addr×Obj)) (s:Shared) (σ:St) (H:Hp) (acc:Str) (Q:Str->Hp->Prop),Inv X pins σ H s->t σ H acc Q ->
  Joins (model X.prog X.w) X.A X.xe (evalEach es X.env) acc (λout s1=>∃H1,Inv X pins σ H1 s1/\out.length<=gr/\Q out H1) s
theorem Joins.mono {M:Model}{A:Around}{E:Value->Shared->Prop}{Q Q':Str->Shared->Prop}(hQ:∀o s,Q o s->Q' o s):∀ {ps:List (Sem Value)} {acc:Str} {s:Shared},Joins M A E ps acc Q s->Joins M A E ps acc Q' s
 |[],_,_,h=>hQ _ _ h
 |_::_,_,_,h=>tu h (λ_ _ ⟨y,t,e,l,r⟩=>⟨y,t,e,l,Joins.mono hQ r⟩) λ_ _ z=>z
inductive LY:V->Str->Prop
 |int {i:Int}:i.natAbs.log2 < 1920->LY (.int i) (toString i)
 |str {x:Str}:LY (.str x) x
section
variable{X:Cx}{e:Expr}{es:List Expr}{te:TE}{t:TJ}{y:Str}{j:Nat}{p1 p2 pos:Pos}
theorem uP:PJ X [] (λ_ H acc Q=>acc.length<=gr/\Q acc H):=λ_ _ _ H _ _ I h=>⟨H,I,h.1,h.2⟩
theorem jO (h:PJ X es t):PJ X (.Constant (.str y) j p1::es) (λσ H acc Q=>(acc++y).length<=gr/\t σ H (acc++y) Q):=by
 intro pins s σ H acc Q I hw;show wpAny _ _ (eval (.Constant (.str y) j p1) X.env) _ _ s;exact Calls.Constant_str ⟨y,_,rfl,hw.1,h pins _ σ H _ Q (I.tok _) hw.2⟩
theorem uQ (he:PE X e te)(h:PJ X es t):PJ X (.FormattedValue e (-1) none p1::es) (λσ H acc Q=>te σ H λx H1=>∃z,LY x z/\z.length<=gr/\(acc++z).length<=gr/\t σ H1 (acc++z) Q):=by
 intro pins s σ H acc Q I hw;show wpAny _ _ (eval (.FormattedValue e (-1) none p1) X.env) _ _ s;refine wpAny_FormattedValue_plain (thn (he pins s σ H _ I hw) λv s1 ⟨x,H1,I1,r1,z,fz,l1,l2,q⟩=>?_)
 cases fz with
 |int hl =>
  obtain⟨tk,rfl⟩:=r1;exact wpAny_formatField_int hl ⟨_,_,rfl,l2,h pins _ σ H1 _ Q ((I1.tok _).tok _) q⟩
 |str =>
  obtain⟨tk,rfl⟩:=r1;exact wpAny_formatField_str ⟨_,_,rfl,l2,h pins _ σ H1 _ Q I1 q⟩ ⟨_,_,rfl,l2,h pins _ σ H1 _ Q (I1.tok _) q⟩ l1
theorem Bh {e₂:Expr}(h:PJ X (e::e₂::es) t):PE X (.JoinedStr (e::e₂::es) pos) (λσ H Q=>t σ H anF λz H1=>Q (.str z) H1):=by
 intro pins s σ H Q I hw;refine wpAny_JoinedStr ?_;have:=h pins s σ H anF _ I hw;refine Joins.mono ?_ this;rintro out s1 ⟨H1,I1,l,q⟩;exact⟨l,.str out,H1,I1.tok _,⟨_,rfl⟩,q⟩
end
def xi (a C:Addr)(xd:Option Addr):HO:=.ext λh=>∃a0:Addr,h.get? a=some ⟨.ref C,xd,.fields #[.ref a0,.none,.none,.none,.bool false,.none],#[]⟩
section
variable{P:rf}{w:World}{H:Hp}{h:Heap}{a C:Addr}{xd:Option Addr}
theorem Rf {a0:Addr}(e:h.get? a=some ⟨.ref C,xd,.fields #[.ref a0,.none,.none,.none,.bool false,.none],#[]⟩):eZ P w H h a (xi a C xd) :=
 ⟨⟨a0,e⟩,⟨_,e⟩,λ_ _ ⟨b,z⟩ k=>⟨b,k _ z⟩⟩
theorem Rg (x:eZ P w H h a (xi a C xd)):∃a0:Addr,h.get? a=some ⟨.ref C,xd,.fields #[.ref a0,.none,.none,.none,.bool false,.none],#[]⟩:=x.1
end
structure Wo (K:ba)(D:Addr):Prop where
 rd:PySem.W.readsIn K D (.type "type")=true
 sp:PySem.W.specialIn K (.ref D) "__getattribute__"=some (some (.builtin "type.__getattribute__"))
 fc:PySem.W.findCls K (.ref D) (.type "type") "__init__"=some (.val (.builtin "ValueError.__init__"))
structure GI (K:ba)(N f:Addr):Prop where
 ex:∃(c:Value) (dd:Option Addr) (es:Array an7) (n:Nat) (sl:Array (Option Value)),K.lookup N=some ⟨c,dd,.dict es n,sl⟩/\strKeys es=true
 at_:de K N "__init__"=some (some (.ref f))
theorem GI.ns {K:ba}{N f:Addr}(x:GI K N f){h:Heap}(X:K.In h):∃mN,h.Ns N mN/\mN "__init__"=some (.ref f):=by
 obtain⟨⟨c,dd,es,n,sl,l,sk⟩,no⟩:=x;have ns:h.Ns N (nsFind es):=⟨_,es,n,X _ _ l,rfl,λe he=>by
  have z:=List.all_eq_true.mp sk e (Array.mem_toList_iff.mpr he);cases hk:e.key with
  |str y t=>exact⟨y,t,rfl⟩
  |_=>rw[hk]at z;exact absurd z kr,λ_=>rfl⟩
 refine⟨_,ns,?_⟩;unfold de at no;rw[l]at no;dsimp only at no;unfold nsFind findBy;rw[<-Array.find?_toList];cases hf:es.toList.find? (λe=>e.key.isStr "__init__") with
 |none =>
  rw[hf]at no;dsimp only at no
  by_cases q:es.toList.any (·.refKey)=true
  ·rw[if_pos q]at no;cases no
  ·rw[if_neg q]at no;cases no
 |some e=>rw[hf]at no;exact anb no
structure ES (K:ba)(C f:Addr)(name:Str):Prop where
 ex:∃(nm q:Str) (N:Addr) (bs bm:List Value) (hdct:Bool) (sn:List Str) (sub:List Value) (ab:Bool) (col:Option Bool) (dd:Option Addr) (k0 k1 k2 k3 k5:Option Value),
  K.lookup C=some (anJ nm q C N bs bm hdct sn sub ab col dd k0 k1 k2 k3 k5 "ValueError.__new__")/\jg K bm/\hdct=true/\GI K N f
 fn:kx K (.ref f)=true
 sa:cb K (.ref C) "__setattr__"=some (some (.builtin "object.__setattr__"))
 na:cb K (.ref C) name=some none
section
variable{X:Cx}{pins:List (Addr×Obj)}{σ:St}{H:Hp}{s:Shared}{C f:Addr}{name:Str}
theorem jg.pass {K:ba}{bm:List Value}(x:jg K bm)(self:Value):refuseLoop self "__setattr__" bm=pure ():=by
 induction x with
 |base=>exact PySem.F.store_ValueError.passes self
 |own _ _ _ ih=>rw[refuseLoop_ref];exact ih
theorem LZ {xk:ES X.K C f name}:jM X (.builtin "ValueError.__init__") (λxs H Q=>∃ea v,xs=[.ref ea,v]/\H ea=some (xi ea C none)/\Q .non H):=by
 intro pins s σ H xs us Q I r h;obtain⟨ea,v,rfl,hx,q⟩:=h;obtain⟨nm,qn,N,bs,bm,hdct,sn,sub,ab,col,dd,k0,k1,k2,k3,k5,l,T,hd,hi⟩:=xk.ex;obtain⟨u,u2,rfl,rx,rv⟩:=vals2 r;cases rx;obtain⟨a0,e⟩:=Rg (P:=X.prog) (w:=X.w) (I.hok _ _ hx);have kC:=I.kIn _ _ l;have T1:=T.tail I.kIn;have F:=PySem.F.excBase_ValueError;have ha:X.A.handled=X.A.handled:=rfl;obtain⟨hp,g,d,tk,os⟩:=s;dsimp only at e kC T1;refine wpAny_call (codeAny_call_builtin F.init.plain F.initEntry (wpAny_check_init_subT F T1 kC e rfl ?_))
 wp_walk
 have hE:ea≠hp.objs.size:=adm (me e);have e1:(hp.push { cls:=.type "tuple",data:=.seq #[u2] }).get? ea=_:=gp _ e;have k:∀b o,b≠ea->hp.get? b=some o->((hp.push { cls:=.type "tuple",data:=.seq #[u2] }).update ea (aod λx=>x.setIfInBounds 0 (.ref hp.objs.size))).get? b=some o:=λb o hb q =>
  (anT _ _ (anj hb)).trans (gp _ q)
 have e2:((hp.push { cls:=.type "tuple",data:=.seq #[u2] }).update ea (aod λx=>x.setIfInBounds 0 (.ref hp.objs.size))).get? ea=some ⟨.ref C,none,.fields #[.ref hp.objs.size,.none,.none,.none,.bool false,.none],#[]⟩:=aoj _ e1 rfl
 have un:upd H ea (xi ea C none)=H:=by
  funext b
  by_cases z:b=ea
  ·rw[z,ae,hx]
  ·rw[av z]
 have I2:=I.write (x:=ea) (e:=ea) (o:=xi ea C none) (t':=tk) (by rw[hx];exact aoe) (.inl rfl) k ⟨_,e2⟩ (Rf e2)
 rw[un]at I2;exact⟨.non,H,I2,rfl,q⟩
end
end L2
namespace L2
open PySem PySem.Spec PyProof.Rows PySem.Builtin PySem.Builtin.ObjectAttr
section
variable{prog:rf}{w:World}{A:Around}{E:Value->Shared->Prop}{K:ba}{x C f:Addr}{name:Str}{v:Value}
theorem Rh {s:Shared}{vs:Array Value}{sl:Array (Option Value)}{Q:Unit->Shared->Prop}(X:K.In s.heap)(xk:ES K C f name)(hx:s.heap.get? x=some ⟨.ref C,none,.fields vs,sl⟩)
  (h:∀h' tk,h'.get? x=some ⟨.ref C,some s.heap.objs.size,.fields vs,sl⟩->h'.Ns1 s.heap.objs.size (λy=>if y=name then some v else none)->(∀b o,b≠x->s.heap.get? b=some o->h'.get? b=some o) ->
   Q () { s with heap:=h',toks:=tk }):wpAny (model prog w) A (setAttr (.ref x) name v) Q E s:=by
 obtain⟨nm,qn,N,bs,bm,hdct,sn,sub,ab,col,dd,k0,k1,k2,k3,k5,l,T,hd,hi⟩:=xk.ex;subst hd;obtain⟨hp,g,d,tk,os⟩:=s;dsimp only at hx h X;have J:PySem.W.InstAt hp x ⟨.ref C,none,.fields vs,sl⟩ C none:=⟨hx,rfl,rfl,trivial⟩;have SF:=PySem.F.store_object;have kC:=X _ _ l;have hT:=T.tail X;have hob:(anf C::bm).contains (.type "object")=true:=by rw[List.contains_cons,hT.hasType (b:=true) (by trivial),Bool.or_true]
 have pass:refuseLoop (.ref x) "__setattr__" (.ref C::bm)=pure ():=by rw[refuseLoop_ref];exact T.pass _
 refine PySem.W.set_plain X J xk.sa ?_;have sb:PySem.W.Looks (model prog w) hp (isInstance (.ref x) (.type "object")) true:=J.type.andThen (PySem.W.looks_mroIn X (by unfold PySem.W.mroIn PySem.W.clsIn;rw[l];simpa using hob))
 refine codeAny_call_builtin SF.slot.plain SF.entry (@PySem.W.check_slot (model prog w) _ _ ⟨hp,g,d,tk+1,os⟩ "object.__setattr__" "object" "__setattr__" (.ref x) [.str name tk,v] [] _ SF.kind SF.split sb (SF.args (.ref x) (.str name tk) v) ?_);have hm:PySem.W.Looks (model prog w) hp (mroOf (.ref C)) (.ref C::bm):=(PySem.W.looks_clsIn X (by unfold PySem.W.clsIn;rw[l])).andThen .now
 rw[PySem.W.osa_eq,refuse_eq];refine gc (gc ((J.type (M:=model prog w)).at (gc (hm.at ?_))));rw[pass];refine wt (gc ((J.type (M:=model prog w)).at (gc ((PySem.W.looks_findIn X xk.na).at (gc ((show PySem.W.Looks (model prog w) hp (storeTaker? none) none from .now).at ?_))))))
 have hxs:x≠hp.objs.size:=adm (me hx);obtain⟨cd,hcl,hdd⟩:∃cd,PySem.W.clsIn K C=some cd/\cd.hasDict=true:=⟨_,by unfold PySem.W.clsIn;rw[l],rfl⟩
 refine gc (wt (gc (gc (wpAny_loadPart hx (gc ((PySem.W.looks_clsIn X hcl).at ?_))))));rw[hdd];have hx₁:(hp.push { cls:=.type "dict",data:=.dict #[] }).get? x=some _:=gp _ hx;refine gc (wpAny_alloc' ?_);refine gc (wpAny_update' hx₁ ?_);refine wt ?_;have hgd:((hp.push { cls:=.type "dict",data:=.dict #[] }).update x λo=>{ cls:=o.cls,dict:=some hp.objs.size,data:=o.data,slots:=o.slots }).get? hp.objs.size
   = some { cls:=.type "dict",data:=.dict #[] } :=
  (Heap.get?_update_ne _ _ _ _ hxs.symm).trans (Heap.get?_push_at rfl rfl)
 have hnd:((hp.push { cls:=.type "dict",data:=.dict #[] }).update x λo=>{ cls:=o.cls,dict:=some hp.objs.size,data:=o.data,slots:=o.slots }).Ns hp.objs.size (λ_=>none) :=
  ⟨_,#[],_,hgd,rfl,λe he=>absurd he (by simp),λ_=>rfl⟩
 show wpAny _ _ (storeInDict hp.objs.size (.str name tk) name v) _ _ _;unfold storeInDict newKeyGuard;refine gc (wt (gc (wpAny_nsSet1 (Heap.Ns1.of_empty hnd) λh' hn' hs=>?_)))
 obtain⟨oD,esD,epD,hoD,hdD,hcD⟩:=hn'.count (Within.cons name v Within.nil);refine gc (wpAny_lookBehind hoD (by rw[hdD];exact pastItsLine_dict (si hcD (by rw[tm,List.length_nil,sizeLine_eq];omega))) ?_)
 refine wt (h h' _ ?_ hn' λb ob hbx hb=>(hs.2 b (adm (me hb))).trans ((Heap.get?_update_ne _ _ _ _ hbx).trans (gp _ hb)))
 exact(hs.2 x hxs).trans (aoj _ hx₁ rfl)
end
end L2
namespace L2
open PySem PySem.Spec PyProof.Rows
section
variable{prog:rf}{w:World}{A:Around}{E:Value->Shared->Prop}{h:Heap}{g:Array GenState}{d:Drawn}{t:Nat}{os:OsState}
variable{nm q:Str}{C N fI:Addr}{bs bm bmB:List Value}{hdct:Bool}{sn:List Str}{sub:List Value}{ab:Bool}{col:Option Bool}{dd:Option Addr}{k0 k1 k2 k3 k5:Option Value}{B nid iid:String}{K:ba}
theorem Pd (X:K.In h)(F:ExcBaseFacts B nid iid bmB)(T:OwnTail h bmB bm){mN:Str->Option Value}{us:List Value}{Q:Fin->Shared->Prop}
  (kC:h.get? C=some (anJ nm q C N bs bm hdct sn sub ab col dd k0 k1 k2 k3 k5 nid)) (kN:h.Ns N mN) (kI:mN "__init__"=some (.ref fI)) (hf:PySem.W.typeIn K (.ref fI)=some (.type "function")) (hz:us.length<=gr)
  (hq:wpAny (model prog w) A (call (.ref fI) (.ref (h.objs.size+1)::us)) (λr s'=>r=.none/\Q (.done (.ret (.ref (h.objs.size+1)))) s') E ⟨pT h C us,g,d,t,os⟩) :
  wpAny (model prog w) A (Builtin.«type.__call__» ⟨.ref C::us,[]⟩) Q E ⟨h,g,d,t,os⟩:=by
 repeat (first | with_reducible refine wpAny_loadPart_at kC ?_ | with_reducible refine wpAny_madeBy_exc kC ?_ | wp_step)
 refine codeAny_call_builtin_code (Code.quiet_builtin _ F.quiet) (wpAny_check_new_subT F T kC (codeAny_exc_new_subT F T kC ?_ hz));show wpAny _ _ _ _ _ _;have kC1:(pT h C us).get? C=_:=gu kC;have kN1:(pT h C us).Ns N mN:=kN.keeps λb o e=>gu e
 have X1:K.In (pT h C us):=X.keeps λb o e=>gu e
 have T1:OwnTail (pT h C us) bmB bm:=T.keeps λb o e=>gu e
 have kE:=Dn (h:=h) (C:=C) (us:=us);have self:(anf C::bm).contains (.ref C)=true:=by simp
 unfold isInstance
 repeat (first | with_reducible refine wpAny_loadPart_at kE ?_ | (with_reducible refine wpAny_isSubtype_exc kC1 ?_;rw[self]) | wp_step)
 show wpAny _ _ (typeLookup (.ref C) _) _ _ _;refine wpAny_typeLookup_tail kC1 kN1 T1 F.mroIs F.init.lookup ?_;rw[kI];refine an4 (gc ((PySem.W.bind_fn X1 (.ref (h.objs.size+1)) hf).at ?_));refine gc (tu hq (λr s' hr=>?_) λ_ _ z=>z)
 obtain⟨rfl,hQ⟩:=hr
 wp_walk
 exact hQ
theorem Ri (X:K.In h)(F:ExcBaseFacts B nid iid bmB)(T:OwnTail h bmB bm){mN:Str->Option Value}{us:List Value}{Q:Value->Shared->Prop}
  (kC:h.get? C=some (anJ nm q C N bs bm hdct sn sub ab col dd k0 k1 k2 k3 k5 nid)) (kN:h.Ns N mN) (kI:mN "__init__"=some (.ref fI)) (hf:PySem.W.typeIn K (.ref fI)=some (.type "function")) (hz:us.length<=gr)
  (hq:wpAny (model prog w) (A.under (.builtin "type.__call__" ⟨.ref C::us,[]⟩)) (call (.ref fI) (.ref (h.objs.size+1)::us)) (λr s'=>r=.none/\Q (.ref (h.objs.size+1)) s') E ⟨pT h C us,g,d,t,os⟩) :
  wpAny (model prog w) A (call (.ref C) us) Q E ⟨h,g,d,t,os⟩:=by
 have l1:=tc_lookup;have l2:=tc_bind (.ref C);have ty:(⟨h,g,d,t,os⟩:Shared).TypeIs (.ref C) "type":=⟨_,kC,rfl⟩;refine wpAny_call (codeAny_of_tree ?_);show wpAny _ _ (callAny (.ref C) _) _ _ _
 repeat (any_goals (first | assumption | with_reducible refine wpAny_loadPart_at kC ?_ | wp_step))
 exact⟨rfl,codeAny_call_builtin_at (Code.quiet_builtin _ (by trivial)) entry_typeCall (wpAny_check_type_call_sub kC (Pd X F T kC kN kI hf hz hq))⟩
end
def L0 (C:Addr)(name:Str):Sp:=λvs H Q _=>∃(e:Addr) (v:V),vs=[.ref e,v]/\H e=some (xi e C none)/\(∃z,LY v z/\z.length<=10000)/\∀d,H d=none->Q .non (upd (upd H d (.xd [(name,v)])) e (xi e C (some d)))
section
variable{X:Cx}{pins:List (Addr×Obj)}{σ:St}{H:Hp}{s:Shared}{C f:Addr}{name x:Str}{fd:kg}{ps:List Str}{k:Nat}{np hJ pos:Pos}{e₀:Expr}{ta:TA}
theorem Pe {E:Value->Shared->Prop}{v:V}{u:Value}{Q:Value->Shared->Prop}(xk:ES X.K C f name)(F:aT X.prog X.w X.K X.mg X.base CX0 k f fd ps (L0 C name))(hr:Room (k+1) X.A)(hb:Binds X.K fd ps [])(I:Inv X pins σ H s)(r:RelV v u)
  (hv:∃z,LY v z/\z.length<=10000)
  (h:∀(e d:Addr) (a0:Value) (s':Shared),H d=none->Inv X pins σ (upd H d (.xd [(name,v)])) s'->gP X pins (upd H d (.xd [(name,v)])) e->s'.heap.get? e=some ⟨.ref C,some d,.fields #[a0,.none,.none,.none,.bool false,.none],#[]⟩->Q (.ref e) s') :
  wpAny (model X.prog X.w) X.A (call (.ref C) [u]) Q E s:=by
 obtain⟨nm,qn,N,bs,bm,hdct,sn,sub,ab,col,dd,k0,k1,k2,k3,k5,l,T,hd,hi⟩:=xk.ex;obtain⟨mN,kN,kI⟩:=hi.ns I.kIn;have fre:=I.hok.fresh (kj _);obtain⟨hp,g,dr,tk,os⟩:=s;have ne:H (hp.objs.size+1)=none:=I.hok.fresh (an3 _);have I2:Inv X pins σ (upd H (hp.objs.size+1) (xi (hp.objs.size+1) C none)) ⟨pT hp C [u],g,dr,tk,os⟩ :=
  I.laid (h':=pT hp C [u]) (t':=tk) (λb o q=>gu q) (an3 _) (Rf Dn)
 have r2:Vals [V.ref (hp.objs.size+1),v] [anf (hp.objs.size+1),u]:=.cons rfl (.cons r .nil);have hsp:L0 C name [V.ref (hp.objs.size+1),v] (upd H (hp.objs.size+1) (xi (hp.objs.size+1) C none))
   (λv' H'=>v'=.non/\∃d,H d=none/\d≠hp.objs.size+1/\H'=upd (upd (upd H (hp.objs.size+1) (xi (hp.objs.size+1) C none)) d (.xd [(name,v)])) (hp.objs.size+1) (xi (hp.objs.size+1) C (some d))) E0:=by
  refine⟨_,v,rfl,ae,hv,λd hd=>⟨rfl,d,?_,?_,rfl⟩⟩
  ·by_cases z:d=hp.objs.size+1
   ·rw[z,ae]at hd;cases hd
   ·rwa [av z]at hd
  ·intro z;rw[z,ae]at hd;cases hd
 have hl:[anf (hp.objs.size+1),u].length=ps.length:=by rw[<-r2.length];exact F.len _ _ _ _ hsp
 refine Ri I.kIn (F:=PySem.F.excBase_ValueError) (T.tail I.kIn) (I.kIn _ _ l) kN kI (beq_iff_eq.mp xk.fn) (show 1<=gr by decide) (wpAny_call (codeAny_mono (F.run _ X.stack _ _ ⟨[anf (hp.objs.size+1),u],[]⟩ _ _ _ E0 (hr.make C [u] [])
  (I2.Ue.make C [u] []) (hb _ [anf (hp.objs.size+1),u] I2.kIn (by rw[anO];exact hl)) (by rw[anO];exact r2) hsp) λrr s' hq=>?_))
 cases rr with
 |error e=>exact hq.elim
 |ok fl =>
  cases fl with
  |ret u' =>
   obtain⟨v',H',os',bare,un,hok,rv,rfl,d,hd1,hd2,rfl⟩:=hq;cases rv;refine⟨rfl,?_⟩;have HeE:∀ {o:HO},upd (upd (upd H (hp.objs.size+1) (xi (hp.objs.size+1) C none)) d (.xd [(name,v)])) (hp.objs.size+1) o (hp.objs.size+1)=some o:=ae;have Hne:∀b,b≠hp.objs.size+1->upd (upd (upd H (hp.objs.size+1) (xi (hp.objs.size+1) C none)) d (.xd [(name,v)])) (hp.objs.size+1) (xi (hp.objs.size+1) C (some d)) b=upd H d (.xd [(name,v)]) b:=λb hb=>by
    rw[av hb]
    by_cases z:b=d
    ·rw[z,ae,ae]
    ·rw[av z,av z,av hb]
   have He2:upd H d (.xd [(name,v)]) (hp.objs.size+1)=none:=by rw[av (anj hd2)];exact ne
   have U1:Un (frs X.stack) [] H (upd H (hp.objs.size+1) (xi (hp.objs.size+1) C none)) hp (pT hp C [u]):=Un.laid (λb o q=>gu q) (an3 _) ne
   have U2:=U1.trans un;have lt:∀b o,hp.get? b=some o->b≠hp.objs.size+1:=λb o q=>adm (aoz (me q))
   have U3:Un (frs X.stack) [] H (upd H d (.xd [(name,v)])) hp s'.heap:=by
    refine⟨U2.keep,U2.slot,λb o q n hx=>?_,U2.there,λb xs q=>?_,λb o u q=>?_,λb p q=>?_⟩
    ·have z:=U2.free b o q n hx
     rwa [Hne b (lt b o q)]at z
    ·have z:=U2.zR b xs q
     rwa [Hne b (λe=>by rw[e,ne]at q;cases q)]at z
    ·have z:=U2.yw b o u q
     rwa [Hne b (λe=>by rw[e,ne]at q;cases q)]at z
    ·obtain⟨m,z⟩:=U2.zS b p q;rw[Hne b (λe=>by rw[e,ne]at q;cases q)]at z
     exact⟨m,z⟩
   have K3:HOk X.prog X.w (upd H d (.xd [(name,v)])) s'.heap:=λa o q=>by
    have ha:a≠hp.objs.size+1:=λe=>by rw[e,He2]at q;cases q
    refine(hok a o (by rw[Hne a ha];exact q)).ql (λb u _ z=>z) (λb z=>?_) (λb xs z=>?_)
    ·rwa [Hne b (λe=>by rw[e,HeE]at z;cases z)]at z
    ·rwa [Hne b (λe=>by rw[e,HeE]at z;cases z)]at z
   obtain⟨a0,ea⟩:=Rg (P:=X.prog) (w:=X.w) (hok _ _ HeE);have I3:Inv X pins σ (upd H d (.xd [(name,v)])) s':=I.HY (ch:=[]) os' U3 K3 bare λb z=>absurd z (by simp)
   exact h _ d (.ref a0) s' hd1 I3 (I.xx (an3 _) He2) ea
  |next=>exact ans hq
  |brk=>exact ans hq
  |cont=>exact ans hq
theorem nP (xk:ES X.K C f name)(F:aT X.prog X.w X.K X.mg X.base CX0 k f fd ps (L0 C name))(hr:Room (k+1) X.A)(hb:Binds X.K fd ps [])(hc:X.calm=true)(hg:Gl X x)(hm:X.mg x=some (.ref C))(ha:PA X.nox [e₀] ta)
  (hdb:(x == ("__debug__":Str))=false:=by decide) (he:ane [e₀] X.env=[(false,eval e₀ X.env)]:=by rfl) :
  PSX X (.Raise (some (.Call (.Name x np) [e₀] [] hJ)) none pos) (λ_ E σ H=>ta σ H λvs H1=>∃v,vs=[v]/\(∃z,LY v z/\z.length<=10000)/\∀d,H1 d=none->E σ (.ref C) (some d) (upd H1 d (.xd [(name,v)]))):=by
 intro pins s σ H D E I h;obtain⟨nm,q,N,bs,bm,hdct,sn,sub,ab,col,dd,k0,k1,k2,k3,k5,l,T,hd,hi⟩:=xk.ex;have go:wpAny (model X.prog X.w) X.A (eval (.Call (.Name x np) [e₀] [] hJ) X.env) (λv s₁=>∃(e:Addr) (xd:Option Addr) (a0:Value) (sl:Array (Option Value)),v=.ref e/\s₁.heap.get? C=some (anJ nm q C N bs bm hdct sn sub ab col dd k0 k1 k2 k3 k5 "ValueError.__new__") /\
   s₁.heap.get? e=some ⟨.ref C,xd,.fields #[a0,.none,.none,.none,.bool false,.none],sl⟩/\XPS X pins E (.ref e) s₁) (XPS X pins E) s:=by
  refine wpAny_Call_Name_kw (lK I hg hm ?_ hdb);unfold aoO;rw[he];refine gc (an4 (Calls.evalArgs_plain ?_));have ha':=ha hJ pins s σ H _ (I.nM _) h;rw[show X.nox.env=X.env from rfl,he]at ha'
  refine tu ha' (λus s₁ ⟨vs,H1,I1,r,v,hvs,hv,q1⟩=>gc (anW ?_)) λ_ _ z=>ans z
  subst hvs;obtain⟨u,rfl,rv⟩:=Vals.one r;have I1':=I1.eG;have kC:=I1'.kIn _ _ l;have pl:(backTo hJ [(false,eval e₀ X.env)]).any (·.1)=false:=rfl
  have fin:wpAny (model X.prog X.w) X.A (call (.ref C) ([]++[u])) (λr s'=>∃(e:Addr) (xd:Option Addr) (a0:Value) (sl:Array (Option Value)),r=.ref e/\s'.heap.get? C=some (anJ nm q C N bs bm hdct sn sub ab col dd k0 k1 k2 k3 k5 "ValueError.__new__") /\
   s'.heap.get? e=some ⟨.ref C,xd,.fields #[a0,.none,.none,.none,.bool false,.none],sl⟩/\XPS X pins E (.ref e) s') (XPS X pins E) s₁:=by
   refine Pe xk F hr hb I1' rv hv λe d a0 s' hd1 I2 fp ke=>?_
   exact⟨e,some d,a0,#[],rfl,I2.kIn _ _ l,ke,σ,e,.ref C,some d,none,_,rfl,I2,⟨fp,_,_,ke,(by show 1 < 6;decide),rfl⟩,.inl rfl,q1 d hd1⟩
  obtain⟨hp,g',d',tk,os'⟩:=s₁;simp only[pl];refine gc (wpAny_keeperOf_exc kC ?_);exact gc (tu fin (λv s2 z=>gc (an4 (wpAny_point (wt z)))) λ_ _ z=>z)
 rw[arm_exec_Raise];have hbx:bm.contains (.type "BaseException")=true:=(T.tail I.kIn).hasType (b:=true) (by trivial)
 first
  |exact gc (anW (wm (C:=C) (nm:=nm) (q:=q) (N:=N) (bs:=bs) (bm:=bm) (hdct:=hdct) (sn:=sn) (sub:=sub) (ab:=ab) (col:=col) (dd:=dd) (k0:=k0) (k1:=k1) (k2:=k2) (k3:=k3) (k5:=k5) hbx (I.ok.hd hc) (gc (tu go (λv s₃ h₃=>gc (anW (wt h₃))) λ_ _ z=>z))))
  | (simp only[evalOpt,Option.map];exact gc (anW (wm (C:=C) (nm:=nm) (q:=q) (N:=N) (bs:=bs) (bm:=bm) (hdct:=hdct) (sn:=sn) (sub:=sub) (ab:=ab) (col:=col) (dd:=dd) (k0:=k0) (k1:=k1) (k2:=k2) (k3:=k3) (k5:=k5) hbx (I.ok.hd hc) (gc (tu go (λv s₃ h₃=>gc (anW (wt h₃))) λ_ _ z=>z)))))
end
section
variable{X:Cx}{pins:List (Addr×Obj)}{σ:St}{H:Hp}{s:Shared}{C D f:Addr}{name x:Str}{np apos hJ pos pos':Pos}{o e value:Expr}{ta tv:TE}{t:TA}
theorem yG {pl:Sem Bool}(ik:Wo X.K D)(xk:ES X.K C f name)(hg:Gl X x)(hm:X.mg x=some (.ref D))(ha:PA X [o,e] t)(hdb:(x == ("__debug__":Str))=false:=by decide)
  (hst:ane [o,e] X.env=(false,eval o X.env)::ane [e] X.env:=by rfl) (hpl:(backTo pos (ane [e] X.env)).any (·.1)=false:=by rfl)
  (ht:eval (.Call (.Attribute (.Name x np) "__init__" apos) [o,e] [] pos) X.env=(do
   let ov <-eval (.Name x np) X.env
   standAt apos.atName
   let (f,first) <-holding [ov] (getMethod ov "__init__" pl)
   aoO pos f first (backTo pos (ane [o,e] X.env)) (aot pos (an2 [] X.env))):=by rfl) :
  PE X (.Call (.Attribute (.Name x np) "__init__" apos) [o,e] [] pos) (λσ H Q=>t σ H λvs H1=>∃ea v,vs=[.ref ea,v]/\H1 ea=some (xi ea C none)/\Q .non H1):=by
 intro pins s σ H Q I h;refine an9 (pl:=pl) (lK I hg hm ?_ hdb) ht;refine PySem.W.method_cls I.kIn ik.sp (PySem.W.cls_value I.kIn ik.rd ik.fc (by trivial) ?_)
 show wpAny _ _ (aoO pos (.builtin "ValueError.__init__") [] (backTo pos (ane [o,e] X.env)) []) _ _ _;exact PyProof.Rows.callWith_builtin1 (thn (ha pos pins _ σ H _ (I.tok _) h) λus s1 ⟨vs,H1,I1,r1,ea,v,hv,hx,q⟩=>LZ (xk:=xk) pins s1 σ H1 vs us Q I1 r1 ⟨ea,v,hv,hx,q⟩) hst hpl
theorem CT (xk:ES X.K C f name)(ha:PE X o ta)(hv:PE X value tv)(hs:swapsWith value (some (.Attribute o name pos')) pos.line X.env=pure false:=by rfl):PS X (.Assign [.Attribute o name pos'] value pos)
  (λD σ H=>tv σ H λy H1=>ta σ H1 λx H2=>∃ea,x=.ref ea/\H2 ea=some (xi ea C none)/\∀d,H2 d=none->D.nx σ (upd (upd H2 d (.xd [(name,y)])) ea (xi ea C (some d)))):=by
 intro pins s σ H D I h;refine plainObj_wpAny_Assign_Attribute (thn (hv pins s σ H _ I h) λu s1 ⟨y,H1,I1,ry,q⟩=>thn (ha pins s1 σ H1 _ I1 q) λov s2 ⟨x,H2,I2,rx,ea,ex,hx,q2⟩=>?_) hs
 subst ex;obtain rfl:ov=anf ea:=rx;obtain⟨a0,e0⟩:=Rg (P:=X.prog) (w:=X.w) (I2.hok _ _ hx);have fr:H2 s2.heap.objs.size=none:=I2.hok.fresh (kj _);refine Rh I2.kIn xk e0 λh' tk hx' ns kk=>⟨σ,_,?_,q2 _ fr⟩
 have hde:ea≠s2.heap.objs.size:=aU hx fr;have old:∀b,b≠ea->b≠s2.heap.objs.size->upd (upd H2 s2.heap.objs.size (.xd [(name,y)])) ea (xi ea C (some s2.heap.objs.size)) b=H2 b:=λb h1 h2=>by rw[av h1,av h2]
 have lt:∀b ob,s2.heap.get? b=some ob->b≠s2.heap.objs.size:=λb ob q=>adm (me q)
 have nx:∀b,H2 b=none->b≠ea:=λb n z=>by rw[z,hx]at n;cases n
 have ns':∀b {o:HO},H2 b=some o->b≠s2.heap.objs.size:=λb _ n z=>by rw[z,fr]at n;cases n
 refine I2.un (t':=tk) ⟨λb ob q n _ _=>kk b ob (nx b n) q,λb ob q n _ _=>⟨ob.slots,kk b ob (nx b n) q⟩,λb ob q n _=>by rw[old b (nx b n) (lt b ob q)];exact n,λb ob q _=>?_,λb xs q=>?_,λb ob u q=>?_,λb ps q=>?_⟩ λa ob q=>?_
 ·by_cases z:b=ea
  ·exact⟨_,by rw[z];exact hx'⟩
  ·exact⟨ob,kk b ob z q⟩
 ·rw[old b (λz=>by rw[z,hx]at q;cases q) (ns' b q)];exact q
 ·rw[old b (λz=>by rw[z,hx]at q;cases q) (ns' b q)];exact q
 ·exact⟨#[],by rw[old b (λz=>by rw[z,hx]at q;cases q) (ns' b q),q];simp⟩
 ·by_cases z:a=ea
  ·subst z;rw[ae]at q;cases q;exact Rf hx'
  ·rw[av z]at q
   by_cases z2:a=s2.heap.objs.size
   ·rw[z2,ae]at q;cases q;refine⟨_,by rw[z2];exact ns,λg=>?_⟩
    rw[List.lookup_cons]
    by_cases hg:g=name
    ·rw[if_pos hg,show (g == name)=true from beq_iff_eq.mpr hg];exact ry
    ·rw[if_neg hg,show (g == name)=false from beq_eq_false_iff_ne.mpr hg];exact aoe
   ·rw[av z2]at q;refine(I2.hok a ob q).ql (λb u hb r=>kk b u ?_ r) (λb r=>?_) (λb xs r=>?_)
    ·rintro rfl;rcases hb with hb | hb
     ·exact z hb.symm
     ·rw[hx]at hb;cases hb
    ·rw[old b (λz=>by rw[z,hx]at r;cases r) (ns' b r)];exact r
    ·rw[old b (λz=>by rw[z,hx]at r;cases r) (ns' b r)];exact r
structure am2 (K:ba)(C:Addr)(name:Str):Prop where
 ga:GaX K C
 na:cb K (.ref C) name=some none
 hd:anI K C=true
end
section
variable{κ:Type}[DecidableEq κ]
def lU (kvs:List (κ×V))(k:κ):Option V:=(kvs.find? λkv=>decide (kv.1=k)).map (·.2)
def putK (kvs:List (κ×V))(k:κ)(v:V):List (κ×V) :=
 if (kvs.any λkv=>decide (kv.1=k))=true then kvs.map (λkv=>if kv.1=k then (kv.1,v) else kv) else kvs++[(k,v)]
def mQ (kvs:List (κ×V))(k:κ):List (κ×V):=kvs.filter λkv=>decide (kv.1≠k)
theorem nQ {p:κ×V}{r:List (κ×V)}{k:κ}(e:p.1=k):lU (p::r) k=some p.2:=by simp[lU,aor,e]
theorem jP {p:κ×V}{r:List (κ×V)}{k:κ}(e:¬p.1=k):lU (p::r) k=lU r k:=by simp[lU,aor,e]
theorem yH (k:κ):∀kvs:List (κ×V),(kvs.any λkv=>decide (kv.1=k))=(lU kvs k).isSome
 |[]=>rfl
 |p::r=>by
  rw[aoG]
  by_cases e:p.1=k
  ·simp only[nQ e,decide_eq_true e,Bool.true_or,Option.isSome_some]
  ·rw[jP e,decide_eq_false e,Bool.false_or];exact yH k r
theorem Bi (kvs:List (κ×V))(k:κ)(v:V):(putK kvs k v).length<=kvs.length+1:=by
 unfold putK;split
 ·rw[bo];omega
 ·rw[ki,tm,List.length_nil];omega
theorem Rj {kvs:List (κ×V)}{k:κ}(v:V)(h:lU kvs k=none):putK kvs k v=kvs++[(k,v)]:=by
 unfold putK;rw[yH,h];exact if_neg (by decide)
theorem sD.wq {o:Option V}{u:Option Value}(r:sD o u):o.isSome=u.isSome:=by
 cases o with
 |none=>cases u with
  |none=>rfl
  |some _=>exact(show False from r).elim
 |some _=>cases u with
  |none=>exact(show False from r).elim
  |some _=>rfl
theorem sD.getD {o:Option V}{u:Option Value}{d:V}{d':Value}(r:sD o u)(rd:RelV d d'):RelV (o.getD d) (u.getD d'):=by
 cases o with
 |none=>cases u with
  |none=>exact rd
  |some _=>exact(show False from r).elim
 |some _=>cases u with
  |none=>exact(show False from r).elim
  |some _=>exact r
theorem KV.val {kvs:List (κ×V)}{vs:List (κ×Value)}(r:KV kvs vs)(k:κ):sD (lU kvs k) (valueAt vs k):=by
 unfold KV at r
 induction r with
 |nil=>exact aoe
 | @cons p q ps qs h t ih =>
  obtain⟨h1,h2⟩:=h
  by_cases e:p.1=k
  ·have e':q.1=k:=h1.symm.trans e;have b:valueAt (q::qs) k=some q.2:=by simp[valueAt,aor,e']
   rw[nQ e,b];exact h2
  ·have e':¬q.1=k:=λz=>e (h1.trans z)
   have b:valueAt (q::qs) k=valueAt qs k:=by simp[valueAt,aor,e']
   rw[jP e,b];exact ih
theorem KV.any {kvs:List (κ×V)}{vs:List (κ×Value)}(r:KV kvs vs)(k:κ):(kvs.any λkv=>decide (kv.1=k))=vs.any λkv=>decide (kv.1=k):=by
 unfold KV at r
 induction r with
 |nil=>rfl
 |cons h t ih=>rw[aoG,aoG,ih,h.1]
theorem KV.YF {kvs:List (κ×V)}{vs:List (κ×Value)}(r:KV kvs vs)(k:κ){y:V}{u:Value}(ry:RelV y u) :
  KV (kvs.map λkv=>if kv.1=k then (kv.1,y) else kv) (vs.map λkv=>if kv.1=k then (kv.1,u) else kv):=by
 unfold KV at r ⊢
 induction r with
 |nil=>exact .nil
 | @cons p q ps qs h t ih =>
  rw[ku,ku];refine .cons ?_ ih;obtain⟨h1,h2⟩:=h
  by_cases e:p.1=k
  ·rw[if_pos e,if_pos (h1.symm.trans e)];exact⟨h1,ry⟩
  ·rw[if_neg e,if_neg (λz=>e (h1.trans z))];exact⟨h1,h2⟩
theorem KV.put {kvs:List (κ×V)}{vs:List (κ×Value)}(r:KV kvs vs)(k:κ){y:V}{u:Value}(ry:RelV y u):KV (putK kvs k y) (stored vs k u):=by
 unfold putK stored;rw[r.any k]
 by_cases e:(vs.any λkv=>decide (kv.1=k))=true
 ·rw[if_pos e,if_pos e];exact r.YF k ry
 ·rw[if_neg e,if_neg e];exact Paired.snoc r ⟨rfl,ry⟩
theorem KV.drop {kvs:List (κ×V)}{vs:List (κ×Value)}(r:KV kvs vs)(k:κ):KV (mQ kvs k) (without vs k):=by
 unfold KV at r ⊢;unfold mQ without
 induction r with
 |nil=>exact .nil
 | @cons p q ps qs h t ih =>
  obtain⟨h1,h2⟩:=h;rw[List.filter_cons,List.filter_cons]
  by_cases e:p.1=k
  ·have a:¬decide (p.1≠k)=true:=by simp[e]
   have b:¬decide (q.1≠k)=true:=by simp[h1.symm.trans e]
   rw[if_neg a,if_neg b];exact ih
  ·have e':¬q.1=k:=λz=>e (h1.trans z)
   have a:decide (p.1≠k)=true:=by simp[e]
   have b:decide (q.1≠k)=true:=by simp[e']
   rw[if_pos a,if_pos b];exact .cons ⟨h1,h2⟩ ih
theorem KV.keys {kvs:List (κ×V)}{vs:List (κ×Value)}(r:KV kvs vs):kvs.map (·.1)=vs.map (·.1):=by
 unfold KV at r
 induction r with
 |nil=>rfl
 |cons h t ih=>rw[ku,ku,ih,h.1]
theorem KV.length {kvs:List (κ×V)}{vs:List (κ×Value)}(r:KV kvs vs):kvs.length=vs.length:=Paired.length r
theorem IA (kvs:List (κ×V))(k:κ):(mQ kvs k).length<=kvs.length:=aov _ _
end
theorem FG {P:rf}{w:World}{k:Key}{u:Value}(r:RelV (kV k) u):(eP P w).is k u=true:=by
 cases k with
 |inl i=>obtain⟨t,e⟩:=(show ∃t,u=Value.int i t from r);subst e;exact HV P w i t
 |inr x=>obtain⟨t,e⟩:=(show ∃t,u=Value.str x t from r);subst e;exact HW P w x t
theorem FH {P:rf}{w:World}:∀ {ks:List Key} {us:List Value},Vals (ks.map kV) us->ItemsAre (eP P w) ks us
 |[],_,r=>by rw[aom]at r;cases r;exact .nil
 |k::ks,_,r=>by
  rw[ku]at r;cases r with
  |cons h t=>exact .cons (FG h) (FH t)
abbrev KT (H:Hp):List (List Key×V)->List (List Key×Addr×Value)->Prop:=Paired λp q=>p.1=q.1/\H q.2.1=some (.tup (p.1.map kV))/\RelV p.2 q.2.2
theorem KT.val {H:Hp}{kvs:List (List Key×V)}{xs:List (List Key×Addr×Value)}(r:KT H kvs xs)(k:List Key):sD (lU kvs k) ((atKey xs k).map (·.2)):=by
 induction r with
 |nil=>exact aoe
 | @cons p q ps qs h t ih =>
  obtain⟨h1,_,h2⟩:=h
  by_cases e:p.1=k
  ·have e':q.1=k:=h1.symm.trans e;have b:atKey (q::qs) k=some q.2:=by simp[atKey,aor,e']
   rw[nQ e,b];exact h2
  ·have e':¬q.1=k:=λz=>e (h1.trans z)
   have b:atKey (q::qs) k=atKey qs k:=by simp[atKey,aor,e']
   rw[jP e,b];exact ih
theorem KT.YF {H:Hp}{kvs:List (List Key×V)}{xs:List (List Key×Addr×Value)}(r:KT H kvs xs)(k:List Key){y:V}{u:Value}(ry:RelV y u) :
  KT H (kvs.map λkv=>if kv.1=k then (kv.1,y) else kv) (xs.map (putAt k u)):=by
 induction r with
 |nil=>exact .nil
 | @cons p q ps qs h t ih =>
  rw[ku,ku];refine .cons ?_ ih;obtain⟨h1,h2,h3⟩:=h;unfold putAt
  by_cases e:p.1=k
  ·rw[if_pos e,if_pos (h1.symm.trans e)];exact⟨h1,h2,ry⟩
  ·rw[if_neg e,if_neg (λz=>e (h1.trans z))];exact⟨h1,h2,h3⟩
theorem KT.put {H:Hp}{kvs:List (List Key×V)}{xs:List (List Key×Addr×Value)}(r:KT H kvs xs)(k:List Key){b:Addr}{y:V}{u:Value}(hb:H b=some (.tup (k.map kV)))(ry:RelV y u) :
  KT H (putK kvs k y) (storedH xs k b u):=by
 have e:(kvs.any λkv=>decide (kv.1=k))=(atKey xs k).isSome:=by
  rw[yH,(r.val k).wq,Option.isSome_map]
 unfold putK storedH;rw[e]
 by_cases q:(atKey xs k).isSome=true
 ·rw[if_pos q,if_pos q];exact r.YF k ry
 ·rw[if_neg q,if_neg q];exact Paired.snoc r ⟨rfl,hb,ry⟩
theorem KT.keeps {H H':Hp}{kvs:List (List Key×V)}{xs:List (List Key×Addr×Value)}(r:KT H kvs xs)(ht:∀b ys,H b=some (.tup ys)->H' b=some (.tup ys)):KT H' kvs xs :=
 Paired.XR r λ_ _ z=>⟨z.1,ht _ _ z.2.1,z.2.2⟩
section
variable{P:rf}{w:World}{H:Hp}{h:Heap}{a:Addr}
theorem Wq {u:HO}(ok:HOk P w H h)(e:Rd H a u):eZ P w H h a u:=e.ok ok
theorem FI {kvs:List (Key×V)}(ok:HOk P w H h)(e:Rd H a (.dK kvs)):kvs.length<=gr/\(a == aoq)=false/\∃vs,KV kvs vs/\h.DictOf (eP P w) a vs :=
 show eZ P w H h a (.dK kvs) from Wq ok e
theorem Ob {kvs:List (Key×V)}(ok:HOk P w H h)(e:H a=some (.dK kvs)):kvs.length<=gr/\(a == aoq)=false/\∃vs,KV kvs vs/\h.DictOf (eP P w) a vs:=FI ok (.inl e)
theorem GJ {ks:List Key}(ok:HOk P w H h)(e:H a=some (.tup (ks.map kV))):(tupleKind (eP P w)).is h ks a:=by
 obtain⟨_,its,r,o,h1,h2,n,h3⟩:=(show eZ P w H h a (.tup (ks.map kV)) from ok a _ e)
 exact⟨o,its.toArray,n,h1,h2,h3,by simpa using FH r⟩
theorem IB {kvs:List (List Key×V)}(ok:HOk P w H h)(e:Rd H a (.dT kvs)):kvs.length<=gr/\(a == aoq)=false /\
  ∃xs,KT H kvs xs/\h.DictOfH (tupleKind (eP P w)) a xs:=by
 obtain⟨z,y,xs,r,o,es,ep,h1,h2,h3,h4,h5⟩:=(show eZ P w H h a (.dT kvs) from Wq ok e)
 refine⟨z,y,xs,r,o,es,ep,h1,h2,h3,h4,λx hx=>?_,h5⟩
 have all:∀ {l:List (List Key×V)} {m:List (List Key×Addr×Value)},KT H l m->∀x∈m,(tupleKind (eP P w)).is h x.1 x.2.1:=by
  intro l m q
  induction q with
  |nil=>intro x hx;exact nomatch hx
  | @cons p q ps qs hq t ih =>
   intro x hx;rcases List.mem_cons.mp hx with e | hx
   ·subst e;exact GJ ok (by rw[<-hq.1];exact hq.2.1)
   ·exact ih x hx
 exact all r x hx
theorem ada {kvs:List (List Key×V)}(ok:HOk P w H h)(e:H a=some (.dT kvs)):kvs.length<=gr/\(a == aoq)=false /\
  ∃xs,KT H kvs xs/\h.DictOfH (tupleKind (eP P w)) a xs:=IB ok (.inl e)
end
def GK (H:Hp)(a:Addr)(y:V)(r:Option V):Prop :=
 (∃kvs k,Rd H a (.dK kvs)/\y=kV k/\r=lU kvs k)\/∃kvs k b,Rd H a (.dT kvs)/\y=.ref b/\H b=some (.tup (k.map kV))/\r=lU kvs k
def BM (H:Hp)(a:Addr)(y v:V)(H':Hp):Prop :=
 (∃kvs k,H a=some (.dK kvs)/\y=kV k/\kvs.length < gr/\H'=upd H a (.dK (putK kvs k v))) \/
 ∃kvs k b,H a=some (.dT kvs)/\y=.ref b/\H b=some (.tup (k.map kV))/\kvs.length < gr/\H'=upd H a (.dT (putK kvs k v))
theorem GK.k {H:Hp}{a:Addr}{kvs:List (Key×V)}{k:Key}(e:H a=some (.dK kvs)):GK H a (kV k) (lU kvs k):=.inl ⟨kvs,k,.inl e,rfl,rfl⟩
theorem GK.t {H:Hp}{a b:Addr}{kvs:List (List Key×V)}{k:List Key}(e:H a=some (.dT kvs))(eb:H b=some (.tup (k.map kV))):GK H a (.ref b) (lU kvs k):=.inr ⟨kvs,k,b,.inl e,rfl,eb,rfl⟩
theorem BM.k {H:Hp}{a:Addr}{kvs:List (Key×V)}{k:Key}{v:V}(e:H a=some (.dK kvs))(hl:kvs.length < gr):BM H a (kV k) v (upd H a (.dK (putK kvs k v))):=.inl ⟨kvs,k,e,rfl,hl,rfl⟩
theorem BM.t {H:Hp}{a b:Addr}{kvs:List (List Key×V)}{k:List Key}{v:V}(e:H a=some (.dT kvs))(eb:H b=some (.tup (k.map kV)))(hl:kvs.length < gr) :
  BM H a (.ref b) v (upd H a (.dT (putK kvs k v))):=.inr ⟨kvs,k,b,e,rfl,eb,hl,rfl⟩
section
variable{X:Cx}{pins:List (Addr×Obj)}{σ:St}{H:Hp}{s:Shared}{a:Addr}{y v:V}{u r:Value}{o:Option V}{A:Around}{E:Value->Shared->Prop}
theorem Inv.big (I:Inv X pins σ H s):aoq < s.heap.objs.size:=by
 have h:ka < s.heap.objs.size:=(I.mod.glob.keeps I.bk).lt;exact Nat.lt_trans (by decide) h
theorem Pf {Q:Value->Shared->Prop}(hu:A.units+1 < cLine)(I:Inv X pins σ H s)(g:GK H a y (some v))(ry:RelV y u)(h:∀w' s',Inv X pins σ H s'->RelV v w'->Q w' s') :
  wpAny (model X.prog X.w) A (getItem (.ref a) u) Q E s:=by
 rcases g with ⟨kvs,k,e,ey,l⟩ | ⟨kvs,k,b,e,ey,eb,l⟩
 ·subst ey;obtain⟨z,hd,vs,rel,dd⟩:=FI I.hok e;obtain⟨w',hw,rw'⟩:=sD.some_of (v:=v) (o:=valueAt vs k) (by rw[l];exact rel.val k)
  exact wpAny_getItem_of (FG ry) dd.mapOf hw (h w' _ (I.tok _) rw')
 ·subst ey;cases (show u=anf b from ry)
  obtain⟨z,hd,xs,rel,dd⟩:=IB I.hok e;obtain⟨w',hw,rw'⟩:=sD.some_of (v:=v) (o:=(atKey xs k).map (·.2)) (by rw[l];exact rel.val k)
  obtain⟨p,hp,hp2⟩:=Option.map_eq_some_iff.mp hw;refine wpAny_getItem_heap (tupleKind_room_in1 hu) (GJ I.hok eb) dd hp ?_;rw[hp2];exact h w' _ (I.tok _) rw'
theorem UA {Q:Value->Shared->Prop}(hu:A.units+1 < cLine)(I:Inv X pins σ H s)(g:GK H a y o)(ry:RelV y u)(h:∀s',Inv X pins σ H s'->Q (.bool (!o.isSome)) s') :
  wpAny (model X.prog X.w) A (aoc .NotIn u (.ref a)) Q E s:=by
 rcases g with ⟨kvs,k,e,ey,l⟩ | ⟨kvs,k,b,e,ey,eb,l⟩
 ·subst ey;obtain⟨z,hd,vs,rel,dd⟩:=FI I.hok e;refine wpAny_notIn_of (FG ry) hd dd.mapOf ?_;rw[<-(rel.val k).wq,<-l];exact h _ (I.tok _)
 ·subst ey;cases (show u=anf b from ry)
  obtain⟨z,hd,xs,rel,dd⟩:=IB I.hok e;refine wpAny_notIn_heap (tupleKind_room_in1 hu) (GJ I.hok eb) hd dd ?_;have q:=(rel.val k).wq;rw[Option.isSome_map]at q;rw[<-q,<-l];exact h _ (I.tok _)
theorem CU {h':Heap}{t':Nat}{ob:HO}(I:Inv X pins σ H s)(mu:Mut (H a))(hs:Heap.SameBut a s.heap h')(he:∃q,h'.get? a=some q)(new:eZ X.prog X.w (upd H a ob) h' a ob) :
  Inv X pins σ (upd H a ob) { s with heap:=h',toks:=t' } :=
 I.write (x:=a) (e:=a) mu (.inl rfl) (λb q hb z=>(hs.2 b hb).trans z) he new
theorem L1 {P:rf}{w:World}{H':Hp}{h':Heap}{kvs:List (Key×V)}{vs:List (Key×Value)}(z:kvs.length<=gr)(hd:(a == aoq)=false)(rel:KV kvs vs)(dd:h'.DictOf (eP P w) a vs) :
  eZ P w H' h' a (.dK kvs):=⟨z,hd,vs,rel,dd⟩
theorem Pg {H':Hp}{Q:Unit->Shared->Prop}(hu:A.units+1 < cLine)(I:Inv X pins σ H s)(g:BM H a y v H')(ry:RelV y u)(rv:RelV v r)(h:∀s',Inv X pins σ H' s'->Q () s') :
  wpAny (model X.prog X.w) A (setItem (.ref a) u r) Q E s:=by
 rcases g with ⟨kvs,k,e,ey,l,eH⟩ | ⟨kvs,k,b,e,ey,eb,l,eH⟩
 ·subst ey eH;obtain⟨z,hd,vs,rel,dd⟩:=Ob I.hok e;have hz:vs.length<=gr:=by rw[<-rel.length];exact z
  have hl:(putK kvs k v).length<=gr:=by have:=Bi kvs k v;omega
  refine wpAny_setItem_pairs (hsz:=hz) (FG ry) dd λh' dd' hs=>h _ ?_
  have he:∃q,h'.get? a=some q:=let ⟨q,_,_,hq,_⟩:=dd';⟨q,hq⟩
  exact CU I (by rw[e];exact aoe) hs he (L1 hl hd (rel.put k rv) dd')
 ·subst ey eH;cases (show u=anf b from ry)
  obtain⟨z,hd,xs,rel,dd⟩:=ada I.hok e;have hz:xs.length<=gr:=by rw[<-Paired.length rel];exact z
  have hl:(putK kvs k v).length<=gr:=by have:=Bi kvs k v;omega
  refine wpAny_setItem_heap (hsz:=hz) (tupleKind_room_in1 hu) (GJ I.hok eb) dd λh' dd' hs=>h _ ?_
  obtain⟨q,es,ep,hq,h2,h3,h4,_,h5⟩:=dd';refine CU I (by rw[e];exact aoe) hs ⟨q,hq⟩ ⟨hl,hd,_,(rel.put k eb rv).keeps λc ys ec=>?_,q,es,ep,hq,h2,h3,h4,h5⟩
  rw[av (acp ec e (λz=>nomatch z))]
  exact ec
end
section
variable{X:Cx}{pins:List (Addr×Obj)}{σ:St}{H:Hp}{s:Shared}{a:Addr}{kvs:List (Key×V)}{k:Key}{u:Value}{A:Around}{E:Value->Shared->Prop}
theorem aco {Q:Unit->Shared->Prop}(I:Inv X pins σ H s)(e:H a=some (.dK kvs))(ry:RelV (kV k) u)(l:(lU kvs k).isSome=true)(h:∀s',Inv X pins σ (upd H a (.dK (mQ kvs k))) s'->Q () s') :
  wpAny (model X.prog X.w) A (delItem (.ref a) u) Q E s:=by
 obtain⟨z,hd,vs,rel,dd⟩:=Ob I.hok e;refine wpAny_delItem_slot dd.typeIs (by decide) PySem.F.slot_dict_delitem
  (call_meetsIn PySem.F.slot_dict_delitem dd.typeIs PySem.F.entry_dict_delitem (PySem.F.args_dict_delitem_2 _ _) (meets_dict_delitem_pairs (eP X.prog X.w) a (FG ry)) ⟨vs,dd,by rw[<-rel.length];exact z,by rw[<-(rel.val k).wq];exact l,λh' dd' hs=>h _ ?_⟩)
 have he:∃q,h'.get? a=some q:=let ⟨q,_,_,hq,_⟩:=dd';⟨q,hq⟩
 exact CU I (by rw[e];exact aoe) hs he (L1 (si (IA kvs k) z) hd (rel.drop k) dd')
theorem adb {v:V}{more:List Value}{Q:Value->Shared->Prop}(I:Inv X pins σ H s)(e:H a=some (.dK kvs))(ry:RelV (kV k) u)(l:lU kvs k=some v)(hm:more=[]\/∃x,more=[x])
  (h:∀w' s',Inv X pins σ (upd H a (.dK (mQ kvs k))) s'->RelV v w'->Q w' s'):wpAny (model X.prog X.w) A (call (.builtin "dict.pop") (.ref a::u::more)) Q E s:=by
 obtain⟨z,hd,vs,rel,dd⟩:=Ob I.hok e;obtain⟨w',hw,rw'⟩:=sD.some_of (v:=v) (o:=valueAt vs k) (by rw[<-l];exact rel.val k)
 have hp:(keyPart u).isSome=true:=by
  cases k with
  |inl i=>obtain⟨t,q⟩:=(show ∃t,u=Value.int i t from ry);subst q;rfl
  |inr x=>obtain⟨t,q⟩:=(show ∃t,u=Value.str x t from ry);subst q;rfl
 have ha:argsOk "dict.pop" ⟨.ref a::u::more,[]⟩:=by
  rcases hm with q | ⟨x,q⟩
  ·subst q;exact PySem.F.args_dict_pop_2 _ _
  ·subst q;exact PySem.F.args_dict_pop_3 _ _ _
 refine call_meetsIn PySem.F.slot_dict_pop dd.typeIs PySem.F.entry_dict_pop ha (meets_dict_pop_there (eP X.prog X.w) a (FG ry) more hm hp)
  ⟨vs,w',dd,by rw[<-rel.length];exact z,hw,λh' dd' hs=>h w' _ ?_ rw'⟩
 have he:∃q,h'.get? a=some q:=let ⟨q,_,_,hq,_⟩:=dd';⟨q,hq⟩
 exact CU I (by rw[e];exact aoe) hs he (L1 (si (IA kvs k) z) hd (rel.drop k) dd')
theorem ade {Q:Value->Shared->Prop}(I:Inv X pins σ H s)(e:Rd H a (.dK kvs))(h:∀t s',Inv X pins σ H s'->Q (.int kvs.length t) s'):wpAny (model X.prog X.w) A (call (.builtin "len") [.ref a]) Q E s:=by
 obtain⟨z,hd,vs,rel,dd⟩:=FI I.hok e;refine call_len_dict hd dd (by rw[<-rel.length];rw[sizeLine_eq]at z;omega) ?_
 rw[<-rel.length];exact h _ _ (I.tok _)
end
def adf (i:Expr):Prop:=∀ov iv,subscripted i false ov iv=operate [ov,iv] (getItem ov iv)
theorem UB {prog:rf}{w:World}{A:Around}{E:Value->Shared->Prop}{s:Shared}{env:Env}{value slice:Expr}{pos:Pos}{T id:String}{Q:Value->Shared->Prop}
  (hl:typeLookup (.type T) "__getitem__"=pure (some (.builtin id))) (hs:adf slice)
  (h:wpAny (model prog w) A (eval value env) (λo s₁=>wpAny (model prog w) A (eval slice env) (λi s₂=>s₂.TypeIs o T/\wpAny (model prog w) A (getItem o i) Q E s₂) E s₁) E s) :
  wpAny (model prog w) A (eval (.Subscript value slice pos) env) Q E s:=by
 refine Subscript_ (tu h (λo s₁ h₁=>tu h₁ (λi s₂ h₂=>?_) λ_ _ x=>x) λ_ _ x=>x)
 obtain⟨hT,h₂⟩:=h₂;unfold subscriptTail;refine gc ?_;rw[getitemInPython_of_ne hT.not_modules];refine gc (wpAny_specialOf hT hl ?_);have fin:wpAny (model prog w) A (subscripted slice false o i) (λr s₃=>wpAny (model prog w) A (letTemporaryGo value o r >>= λ_=>pure r) Q E s₃) E s₂:=by
  rw[hs o i];exact wpAny_operating (tu h₂ (λr s₃ h₃=>gc (wpAny_letTemporaryGo (wt h₃))) λ_ _ x=>x)
 first
  |exact wt (gc fin)
  |exact gc (wt (gc fin))
  |exact gc fin
theorem IC {X:Cx}{pins:List (Addr×Obj)}{σ:St}{H:Hp}{s:Shared}{a:Addr}{y:V}{o:Option V}(I:Inv X pins σ H s)(g:GK H a y o):s.TypeIs (.ref a) "dict":=by
 rcases g with ⟨kvs,k,e,_,_⟩ | ⟨kvs,k,b,e,_,_,_⟩
 ·obtain⟨_,_,vs,_,dd⟩:=FI I.hok e;exact dd.typeIs
 ·obtain⟨_,_,xs,_,dd⟩:=IB I.hok e;exact dd.typeIs
def adg (td ty:TE):TE:=λσ H Q=>td σ H λx H1=>ty σ H1 λy H2=>∃a v,x=.ref a/\GK H2 a y (some v)/\Q v H2
def UC (ty td:TE):TE:=λσ H Q=>ty σ H λy H1=>td σ H1 λx H2=>∃a o,x=.ref a/\GK H2 a y o/\Q (.bl (!o.isSome)) H2
def adh (td ty tv:TE):TS:=λD σ H=>tv σ H λv H1=>td σ H1 λx H2=>ty σ H2 λy H3=>∃a H4,x=.ref a/\BM H3 a y v H4/\D.nx σ H4
section
variable{X:Cx}{o i e value:Expr}{pos pos' akz:Pos}{td ty tv:TE}
theorem lN (hu:X.A.units+1 < cLine)(ho:PE X o td)(hi:PE X i ty)(hs:adf i):PE X (.Subscript o i pos) (adg td ty):=by
 intro pins s σ H Q I h;refine UB PySem.F.slot_dict_getitem.lookup hs (thn (ho pins s σ H _ I h) λu s1 ⟨x,H1,I1,rx,q1⟩=>thn (hi pins s1 σ H1 _ I1 q1) λiv s2 ⟨y,H2,I2,ry,a,v,ex,g,q2⟩=>?_)
 subst ex;obtain rfl:u=anf a:=rx;exact⟨IC I2 g,Pf hu I2 g ry λw' s3 I3 rw'=>⟨v,H2,I3,rw',q2⟩⟩
theorem Aa (hu:X.A.units+1 < cLine)(hi:PE X i ty)(ho:PE X o td):PC X .NotIn i o (UC ty td):=by
 intro pins s σ H Q I h;refine thn (hi pins s σ H _ I h) λiv s1 ⟨y,H1,I1,ry,q1⟩=>thn (ho pins s1 σ H1 _ I1 q1) λu s2 ⟨x,H2,I2,rx,a,ov,ex,g,q2⟩=>?_
 subst ex;obtain rfl:u=anf a:=rx;exact UA hu I2 g ry λs3 I3=>⟨.bl (!ov.isSome),H2,I3,rfl,q2⟩
theorem wu (hu:X.A.units+1 < cLine)(ho:PE X o td)(hi:PE X i ty)(hv:PE X value tv)(hs:swapsWith value (some (.Subscript o i pos')) pos.line X.env=pure false) :
  PS X (.Assign [.Subscript o i pos'] value pos) (adh td ty tv):=by
 intro pins s σ H D I h;refine wpAny_Assign_Subscript (thn (hv pins s σ H _ I h) λr s1 ⟨v,H1,I1,rv,q1⟩=>thn (ho pins s1 σ H1 _ I1 q1) λu s2 ⟨x,H2,I2,rx,q2⟩=>thn (hi pins s2 σ H2 _ I2 q2) λiv s3 ⟨y,H3,I3,ry,a,H4,ex,g,q3⟩=>?_) hs
 subst ex;obtain rfl:u=anf a:=rx;exact Pg hu I3 g ry rv λs4 I4=>⟨σ,H4,I4,q3⟩
end
theorem Rk {P:rf}{w:World}{H:Hp}(h:Heap)(hb:aoq < h.objs.size):eZ P w H (h.push { cls:=.type "dict",data:=.dict #[] }) h.objs.size (.dK []) :=
 ⟨anz _,beq_eq_false_iff_ne.mpr (anj (adm hb)),[],.nil,Heap.DictOf.new h⟩
def YG:TE:=λ_ H Q=>∀p,H p=none->Q (.ref p) (upd H p (.dK []))
section
variable{X:Cx}{pos:Pos}
theorem yI:PE X (.Dict [] [] pos) YG:=λpins s σ H Q I h =>
 wpAny_Dict_empty ⟨.ref s.heap.objs.size,_,I.laid (a:=s.heap.objs.size) (o:=.dK []) (t':=s.toks) (λ_ _ q=>gp _ q) (kj _) (Rk s.heap I.big),rfl,h _ (I.hok.fresh (kj _))⟩
end
structure M1 (X:Cx)(o:Expr)(m:Str)(apos:Pos)(e:Expr)(hJ:Pos):Prop where
 base:attributeBase o m X.env (eval o X.env)=eval o X.env
 few:((backTo hJ (ane [e] X.env)).all (λx=>!x.1) && (aot hJ (an2 [] X.env)).all (λx=>x.1.isSome)
  && decide (([e]:List Expr).length+([]:List Keyword).length+(if ([]:List Keyword).isEmpty then 0 else 1) < 30))=true
 line:(apos.endLine == hJ.line)=true
 trees:backTo hJ (ane [e] X.env)=[(false,eval e X.env)]
structure M2 (X:Cx)(o:Expr)(m:Str)(apos:Pos)(e f:Expr)(hJ:Pos):Prop where
 base:attributeBase o m X.env (eval o X.env)=eval o X.env
 few:((backTo hJ (ane [e,f] X.env)).all (λx=>!x.1) && (aot hJ (an2 [] X.env)).all (λx=>x.1.isSome)
  && decide (([e,f]:List Expr).length+([]:List Keyword).length+(if ([]:List Keyword).isEmpty then 0 else 1) < 30))=true
 line:(apos.endLine == hJ.line)=true
 trees:backTo hJ (ane [e,f] X.env)=[(false,eval e X.env),(false,eval f X.env)]
def IsD (H:Hp)(a:Addr):Prop:=(∃kvs,Rd H a (.dK kvs))\/∃kvs,Rd H a (.dT kvs)
theorem YH {X:Cx}{pins:List (Addr×Obj)}{σ:St}{H:Hp}{s:Shared}{a:Addr}(I:Inv X pins σ H s)(d:IsD H a) :
  s.TypeIs (.ref a) "dict"/\(∀b,anf a=.ref b->∃ob,s.heap.get? b=some ob/\ob.dict=none)/\(a == aoq)=false:=by
 rcases d with ⟨kvs,e⟩ | ⟨kvs,e⟩
 ·obtain⟨_,hd,vs,_,dd⟩:=FI I.hok e;refine⟨dd.typeIs,λb q=>?_,hd⟩
  cases q;obtain⟨ob,_,_,h1,h2,_⟩:=dd;exact⟨ob,h1,h2.2.1⟩
 ·obtain⟨_,hd,xs,_,dd⟩:=IB I.hok e;refine⟨dd.typeIs,λb q=>?_,hd⟩
  cases q;obtain⟨ob,_,_,h1,h2,_⟩:=dd;exact⟨ob,h1,h2.2.1⟩
def YI (td ty:TE):TE:=λσ H Q=>td σ H λx H1=>∃a,x=.ref a/\IsD H1 a/\ty σ H1 λy H2=>∃kvs k v,H2 a=some (.dK kvs)/\y=kV k/\lU kvs k=some v/\Q v (upd H2 a (.dK (mQ kvs k)))
section
variable{X:Cx}{o e f:Expr}{apos hJ:Pos}{td ty tx:TE}
theorem Rm (ho:PE X o td)(he:PE X e ty)(m:M1 X o "pop" apos e hJ):PE X (.Call (.Attribute o "pop" apos) [e] [] hJ) (YI td ty):=by
 intro pins s σ H Q I h;refine wpAny_Call_method m.base m.few m.line PySem.F.plainAttrs_dict PySem.F.slot_dict_pop PySem.F.type_dict_pop (thn (ho pins s σ H _ I h) λu s1 ⟨x,H1,I1,rx,a,ex,d,q1⟩=>?_)
 subst ex;obtain rfl:u=anf a:=rx;obtain⟨t1,t2,_⟩:=YH I1 d;refine⟨t1,t2,?_⟩;rw[m.trees];refine Calls.callWith_builtin rfl (Calls.evalArgs_plain (Calls.spliced_cons (thn (he pins s1 σ H1 _ I1 q1) λiv s2 ⟨y,H2,I2,ry,kvs,k,v,ea,ey,l,q2⟩=>Calls.spliced_nil ?_)))
 subst ey;exact adb I2 ea ry l (.inl rfl) λw' s3 I3 rw'=>⟨v,_,I3,rw',q2⟩
end
section
variable{X:Cx}
theorem Ph:jM X (.builtin "len") (λxs H Q=>∃a kvs,xs=[V.ref a]/\H a=some (.dK kvs)/\Q (.int kvs.length) H):=by
 intro pins s σ H xs us Q I r h;obtain⟨a,kvs,rfl,ha,q⟩:=h;obtain⟨u,rfl,ru⟩:=vals1 r;cases ru;exact ade I (.inl ha) λt s' I'=>⟨.int kvs.length,H,I',⟨t,rfl⟩,q⟩
end
theorem Room.u1 {k:Nat}{A:Around}(r:Room k A):A.units+1 < cLine:=by have:=r.un;omega
theorem UD {X:Cx}{K:ba}{e:Expr}{f:Str}{pos:Pos}{ta:TE}(ek:X.K=K)(he:PE X e ta)(hb:attributeBase e f X.env (eval e X.env)=eval e X.env):PE X (.Attribute e f pos) (acH K ta f):=by
 subst ek;exact bf he hb
theorem ints_of:∀(l:List Value) (ns:List Int),l.length=ns.length->(∀(j:Nat) (v:Value),l[j]?=some v->∃n t,ns[j]?=some n/\v=Value.int n t)->IntsAre l ns
 |[],[],_,_=>.nil
 |[],_::_,h,_=>nomatch h
 |_::_,[],h,_=>nomatch h
 |v::l,n::ns,h,g=>by
  obtain⟨n',t,e1,e2⟩:=g 0 v rfl;have e3:n=n':=by simpa using e1
  subst e3;subst e2;exact .cons n t (ints_of l ns (by simpa using h) λj v hv=>g (j+1) v (by simpa using hv))
theorem ID:∀ {vs:List Value} {ns:List Int},IntsAre vs ns->Vals (ns.map V.int) vs
 |_,_,.nil=>.nil
 |_,_,.cons n t h=>.cons ⟨t,rfl⟩ (ID h)
theorem Ws {κ:Type}:∀ {kvs:List (κ×V)} {vs:List (κ×Value)},KV kvs vs->∀(j:Nat) (q:κ×Value),vs[j]?=some q->(kvs.map (·.1))[j]?=some q.1
 |_,_,.nil,j,q,h=>by simp at h
 |_,_,.cons a r,0,q,h=>by
  rw[anK]at h;cases h;rw[ku,anK,a.1]
 |_,_,.cons a r,j+1,q,h=>by
  have:=Ws r j q (by simpa using h)
  simpa using this
theorem UE {P:rf}{w:World}{n:Int}{v:Value}(h:(eP P w).is (ma n) v=true):∃t,v=Value.int n t:=by
 rcases eA (k:=ma n) (v:=v) (show C3 (ma n) v=true from h) with ⟨i,t,e,rfl⟩ | ⟨x,t,e,rfl⟩
 ·cases e;exact⟨t,rfl⟩
 ·cases e
theorem GL {X:Cx}(hh:X.A.handled=none):jM X (.builtin "sorted") (λxs H Q=>∃a kvs ns,xs=[V.ref a]/\H a=some (.dK kvs)/\kvs.map (·.1)=ns.map ma/\ns.length < 64 /\
  ∀l ns',List.Perm ns' ns->ns'.Pairwise (·<=·)->H l=none->Q (.ref l) (upd H l (.lst (ns'.map V.int)))):=by
 intro pins s σ H xs us Q I r h;obtain⟨a,kvs,ns,rfl,ha,hk,h64,q⟩:=h;obtain⟨u,rfl,ru⟩:=vals1 r;cases ru;obtain⟨z,hd,vs,rel,dd⟩:=Ob I.hok ha;obtain⟨ep,hat⟩:=dd.dictAt;have hlen:vs.length=ns.length:=by
  have e1:=congrArg List.length hk;simp only[bo]at e1;rw[<-rel.length];exact e1
 refine Calls.call_function_entry kind_sorted plain_sorted entry_sorted (args_sorted1 _) ?_;unfold Builtin.«sorted»;refine gc (m:=checkCount "sorted" 1 1 _) (wt ?_);refine gc (PySem.W.kdu_collect (A:=X.A.in1) (PySem.W.kdl_dict (knd:=eP X.prog X.w) (kvs:=vs) (ep:=ep) hd) hh hat (by rw[<-rel.length];exact z) λh' tk acc kp Iu=>?_)
 have hsz:acc.toList.length=ns.length:=by rw[Array.length_toList];exact Iu.1.trans hlen
 have hI:IntsAre acc.toList ns:=ints_of _ _ hsz λj v hv=>by
  obtain⟨k,x,hx,hkv⟩:=Iu.2 j v (by rw[<-Array.getElem?_toList];exact hv)
  have e:=Ws rel j _ hx;rw[hk,ant]at e;cases en:ns[j]? with
  |none=>rw[en]at e;cases e
  |some n =>
   rw[en]at e;have e':ma n=k:=by simpa using e
   subst e';obtain⟨t,rfl⟩:=UE hkv;exact⟨n,t,rfl,rfl⟩
 refine gc (wpAny_newList ?_ (by rw[hsz];rw[sizeLine_eq];omega))
 have hoL:(h'.push (seqObj "list" acc.toList.toArray 0)).get? h'.objs.size=some (seqObj "list" acc.toList.toArray 0):=Lk _ rfl;refine gc (an4 (wpAny_call_entry slot_list_sort ⟨_,hoL,rfl⟩ entry_list_sort (list_sort_tree hoL hI (by omega) λout ns' a1 a2 a3=>⟨_,rfl,?_⟩) (args_list_sort _)))
 refine wt ⟨_,rfl,?_⟩;obtain⟨e,he⟩:=sortedHeap_at (out:=out) hoL;have I1:Inv X pins σ H { s with heap:=h',toks:=tk }:=I.un (Un.kept kp) (I.hok.kept kp)
 refine⟨.ref h'.objs.size,_,I1.laid (t':=tk) (λb o hb=>?_) (kj _) (show eZ X.prog X.w _ _ _ (.lst (ns'.map V.int)) from ⟨?_,_,e,ID a1,?_⟩),rfl,q _ ns' a2 a3 (I1.hok.fresh (kj _))⟩
 ·have hb':h'.get? b=some o:=hb;have hlt:=me hb';rw[sortedHeap_old (adm hlt) (by rw[size_push'];exact aoz hlt)]
  exact gp _ hb'
 ·rw[bo,a2.length_eq,sizeLine_eq];omega
 ·rw[Array.toArray_toList];exact he
theorem Pj:anS "sorted"=some (.builtin "sorted"):=by trivial
theorem PSX.ps {X:Cx}{st:Stmt}{t:TSX}(h:PSX X st t):PS X st (λD σ H=>t D (λ_=>E0) σ H):=λpins s σ H D I hw =>
 tu (h pins s σ H D (λ_=>E0) I hw) (λ_ _ z=>z) λ_ _ ⟨_,_,_,_,_,_,_,_,_,_,z⟩=>z.elim
theorem aS {P:Prop}(h:∀G:Prop,(P->G)->G):P:=h P id
theorem ixv {s:Option (Option V)}{p:Addr}{n:Int}{S:Addr->List V->Prop}{xs:List V}{z:V}{R:V->Prop}(h0:s=some (some (.ref p)))(h1:S p xs)(h2:atI xs n=some z)(h:R z):∃v,s=some (some v)/\∃q ys i w,v=.ref q/\V.int n=.int i/\S q ys/\atI ys i=some w/\R w :=
 ⟨_,h0,p,xs,n,z,rfl,rfl,h1,h2,h⟩
theorem fw {K:ba}{s:Option (Option V)}{H:Hp}{a C dx:Addr}{fs:List (Str×V)}{f:Str}{w:V}{R:V->Prop}(h0:s=some (some (.ref a)))(h1:H a=some (.ins C dx fs))(h2:Cls K C)(h3:eI K C f)(h4:fs.lookup f=some w)(h:R w) :
  ∃v,s=some (some v)/\∃a C dx fs w,v=.ref a/\H a=some (.ins C dx fs)/\Cls K C/\eI K C f/\fs.lookup f=some w/\R w:=⟨_,h0,a,C,dx,fs,w,rfl,h1,h2,h3,h4,h⟩
theorem mtv {s:Option (Option V)}{H:Hp}{a C dx:Addr}{fs:List (Str×V)}{m:Str}{R:V->Prop}(h0:s=some (some (.ref a)))(h1:H a=some (.ins C dx fs))(h2:fs.lookup m=none)(h:R (.ref a)) :
  ∃v,s=some (some v)/\∃a dx fs,v=.ref a/\H a=some (.ins C dx fs)/\fs.lookup m=none/\R v:=⟨_,h0,a,dx,fs,rfl,h1,h2,h⟩
theorem tsf {b:Bool}{P Q:Prop}(h:b=false)(q:Q):∃k,V.bl b=.bl k/\if k=true then P else Q:=⟨b,rfl,by rw[h];exact q⟩
theorem tst {b:Bool}{P Q:Prop}(h:b=true)(q:P):∃k,V.bl b=.bl k/\if k=true then P else Q:=⟨b,rfl,by rw[h];exact q⟩
def scB (N P:List Str)(sc:Scope):Bool:=(match sc.kind with | .function=>true | _=>false) && !sc.isCoroutine && !sc.isGenerator && decide N.Nodup && decide (N.take P.length=P) && decide (∀x∈P,sc.names.lookup x=some .local\/sc.names.lookup x=some .cell) && decide (∀y∈sc.names,y.2≠.free)
theorem fsc {N P:List Str}{sc:Scope}(h:scB N P sc=true):ax N P sc:=by
 unfold scB at h;simp only[anA,Bool.not_eq_true',decide_eq_true_eq]at h;obtain⟨⟨⟨⟨⟨⟨h1,h2⟩,h3⟩,h4⟩,h5⟩,h6⟩,h7⟩:=h;refine⟨?_,h2,h3,h4,h5,h6,h7⟩;split at h1
 ·assumption
 ·cases h1
end L2
namespace L2
open PySem
theorem Draws.shift {prog:rf}{w:World}{A:Around}{it:Addr}{fp:List Addr}{n:Nat}{P:Nat->Value->Prop}{St:Nat->Heap->Prop}(k:Nat)(D:Draws prog w A it fp n P St) :
  Draws prog w A it fp (n+k) (λi v=>∃j,i=j+k/\P j v) (λi h=>∃j,i=j+k/\St j h) where
 live:=λ_ h ⟨j,_,st⟩=>D.live j h st
 frame:=λ_ h h' ⟨j,e,st⟩ q=>⟨j,e,D.frame j h h' st q⟩
 item:=λi s Q E hi ⟨j,e,st⟩ hQ=>by
  subst e;exact D.item j s Q E (by omega) st λx h' tk p st' sb=>hQ x h' tk ⟨j,rfl,p⟩ ⟨j+1,by omega,st'⟩ sb
 done:=λs Q E ⟨j,e,st⟩ hE=>by
  obtain rfl:j=n:=by omega
  exact D.done s Q E st hE
section
variable{prog:rf}{w:World}{A:Around}{E:Value->Shared->Prop}{s:Shared}
abbrev kwS (v:Value):List (Str×Value):=[(ar "start",v)]
theorem meets_enumK (l:Addr)(its:Array Value)(n:Nat)(dc:Option Addr)(sl:Array (Option Value))(k:Int)(t:Tok)(hk:aos k=true) :
  Meets (Builtin.«enumerate.__new__» ⟨[.type "enumerate",.ref l],kwS (.int k t)⟩) (λ_ R s=>s.heap.get? l=some { cls:=.type "list",dict:=dc,data:=.seq its n,slots:=sl } /\
   R (.ok (.ret (.ref (s.heap.objs.size+1)))) { s with heap:=(s.heap.push { cls:=.type "list_iterator",data:=.fields #[.ref l,.int 0 0] }).push { cls:=.type "enumerate",data:=.fields #[.none,.bool false,.ref s.heap.objs.size,rawInt k,.none,.none] } }) :=
 .of_wp λprog w A R s h=>by
  obtain⟨hp,g,d,tk,os⟩:=s;obtain⟨hl,h⟩:=h;have akV:=sub_enumerate;have z:hp.objs.size+1=(hp.push { cls:=.type "list_iterator",data:=.fields #[.ref l,.int 0 0] }).objs.size:=(aof ..).symm;have hL:Heap.IsList (Shared.heap ⟨hp,g,d,tk,os⟩) l its:=⟨_,hl,rfl,n,rfl⟩;have nk:¬(!aos k)=true:=by rw[hk];exact kr
  have h2:=h;dsimp only at h2;rw[z]at h2
  wp_walk using AutoSeq1.wpAny_loadPart' hl
  refine wpAny_stack_any λst=>wt ?_
  split
  ·rename_i c _ _ _ _ _;cases (c == Value.type "enumerate") <;> (wp_walk using AutoSeq1.wpAny_loadPart' hl,wpAny_pyIter_list hL;exact⟨_,rfl,h2⟩)
  ·wp_walk using AutoSeq1.wpAny_loadPart' hl,wpAny_pyIter_list hL
   exact⟨_,rfl,h2⟩
theorem argsK (o a v:Value):argsOk "object.__init__" ⟨[o,a],kwS v⟩:=by
 have e:=signature?_of (id:="object.__init__") (n:=("__init__".toList).reverse) (o:=("object".toList).reverse) (by kernel_rfl) F.owner_object
 show argsOk _ _;unfold argsOk;rw[e]
 kernel_rfl
theorem chkK (a v:Value):checkTypeCall "enumerate" ⟨[a],kwS v⟩=pure ():=by kernel_rfl
theorem chkN (a v:Value):checkBuiltinCall "enumerate.__new__" ⟨[.type "enumerate",a],kwS v⟩=pure ():=by kernel_rfl
theorem init_kw {T nw:String}{o a:Value}{kw:List (Str×Value)}(ft:TypeCalled T nw "object.__init__")(hne:(some nw != some "object.__new__")=true) :
  Meets (Builtin.«object.__init__» ⟨[o,a],kw⟩) (λ_ R s=>s.TypeIs o T/\R (.ok (.ret .none)) s):=by
 refine Meets.of_wp λprog w A R s ⟨hT,hq⟩=>?_
 have hl:=ft.init.lookup;have hm:=ft.made
 repeat (any_goals (first | assumption | wp_step))
 exact⟨_,rfl,hq⟩
theorem callType_kw {T nw:String}{Bn:Builtin}{a:Value}{kw:List (Str×Value)}{S:Spec}{Q:Value->Shared->Prop}(ft:TypeCalled T nw "object.__init__")(hne:(some nw != some "object.__new__")=true)
  (ct:checkTypeCall T ⟨[a],kw⟩=pure ()) (cn:checkBuiltinCall nw ⟨[.type T,a],kw⟩=pure ()) (ok:∀o,argsOk "object.__init__" ⟨[o,a],kw⟩) (en:entryFor table nw=some Bn) (g:Meets (Bn ⟨[.type T,a],kw⟩) S)
  (h:S A.in1 (wants (λo s1=>s1.TypeIs o T/\Q o s1) E) s):wpAny (model prog w) A (call (.type T) [a] kw) Q E s:=by
 obtain⟨c,tl,am3⟩:=ft.mro;have amX:=ft.made;have akV:=ft.sub;refine wpAny_call (codeAny_of_tree ?_);refine wt ⟨Code.quiet_builtin _ (by trivial),codeAny_builtin F.entry_type_call ?_⟩
 rw[Around.under_plain (weight_type_call_type T [a] kw) (units_type_call_type T [a] kw)];have h1:=ft.notType;have h2:=ft.canCreate
 repeat (any_goals (first | assumption | wp_step))
 refine codeAny_mono (codeAny_call_builtin ft.plain en (wpAny_of_eq cn (g prog w A.in1 _ s h))) λr s1 hr=>?_
 cases r with
 |error e=>exact hr
 |ok fl=>cases fl with
  |ret o =>
   obtain⟨hT,hq⟩:=hr;have hli:=ft.init.lookup;have hbi:=ft.init.bind o
   repeat (any_goals (first | assumption | wp_step))
   refine codeAny_mono (codeAny_call_builtin ft.init.plain F.entry_object_init (ft.init.check _ _ _ _ _ _ _ _ hT (ok o) (init_kw ft hne prog w A.in1 (wants (λr s2=>r=.none/\Q o s2) E) s1 ⟨hT,rfl,hq⟩))) λr2 s2 hr2=>?_
   cases r2 with
   |error e=>exact hr2
   |ok f2=>cases f2 with
    |ret r =>
     obtain⟨rfl,hq⟩:=hr2
     repeat (any_goals (first | assumption | wp_step))
    |_=>exact hr2.elim
  |_=>exact hr.elim
theorem call_enumK {l:Addr}{its:Array Value}{k:Int}{t:Tok}{Q:Value->Shared->Prop}(hk:aos k=true)(hL:s.heap.IsList l its)
  (h:∀h',IsEnum h' (s.heap.objs.size+1) s.heap.objs.size k .none->h'.IsListIter s.heap.objs.size l 0->(∀b o,s.heap.get? b=some o->h'.get? b=some o)->Q (.ref (s.heap.objs.size+1)) { s with heap:=h' }) :
  wpAny (model prog w) A (call (.type "enumerate") [.ref l] (kwS (.int k t))) Q E s:=by
 obtain⟨⟨c,dct,dt,sl⟩,hl,hc,n,hd⟩:=hL;obtain rfl:c=.type "list":=hc;obtain rfl:dt=.seq its n:=hd;refine callType_kw F.called_enumerate (by decide) (chkK _ _) (chkN _ _) (λo=>argsK o _ _) F.entry_enumerate_new (meets_enumK l its n dct sl k t hk) ⟨hl,?_⟩
 have z:(s.heap.push { cls:=.type "list_iterator",data:=.fields #[.ref l,.int 0 0] }).objs.size=s.heap.objs.size+1:=aof ..;have he:=Lk (s.heap.push { cls:=.type "list_iterator",data:=.fields #[.ref l,.int 0 0] }) (o:={ cls:=.type "enumerate",data:=.fields #[.none,.bool false,.ref s.heap.objs.size,rawInt k,.none,.none] }) rfl;rw[z]at he;exact⟨⟨_,he,rfl⟩,h _ he ⟨_,gp _ (Lk _ rfl),rfl,rfl⟩ λb o x=>gp _ (gp _ x)⟩
end
end L2
namespace L2
open PySem PySem.Spec PyProof.Rows
section
variable{prog:rf}{w:World}{A:Around}{E:Value->Shared->Prop}{s:Shared}
theorem callWith_tyKw {M:Model}{env:Env}{pos:Pos}{T:String}{e:Expr}{kws:List Keyword}{Q:Value->Shared->Prop}
  (h:wpAny M A (spliced (backTo pos (ane [e] env))) (λvs s1=>wpAny M A (evalAll ((aot pos (an2 kws env)).map (·.2))) (λks s2=>wpAny M A (call (.type T) vs (((aot pos (an2 kws env)).filterMap (·.1)).zip ks)) Q E s2) E s1) E s)
  (he:backTo pos (ane [e] env)=[(false,eval e env)]:=by rfl) (ha:(aot pos (an2 kws env)).all (·.1.isSome)=true:=by rfl) (hn:(aot pos (an2 kws env)).any (·.1.isNone)=false:=by rfl) :
  wpAny M A (aoO pos (.type T) [] (backTo pos (ane [e] env)) (aot pos (an2 kws env))) Q E s:=by
 unfold aoO;rw[he]at h ⊢;refine gc (an4 (tu (PyProof.Rows.evalArgs_kwB (Q:=λa s2=>wpAny M A (call (.type T) a.pos a.kw) Q E s2) ha h) (λa s1 h1=>gc (anW ?_)) λ_ _ x=>x))
 simp only[aoG,List.any_nil,Bool.or_false,hn];refine gc (wt ?_);exact gc (tu h1 (λr s2 hr=>gc (an4 (wpAny_point (wt hr)))) λ_ _ x=>x)
end
def Ite (K:ba)(a:Addr)(k:Nat):It :=
 ⟨λi H=>∃xs x,SqL K H a xs/\xs[i]?=some x,λi H y H'=>∃t x,y=.ref t/\H t=none/\H'=upd H t (.tup [.int ((i+k:Nat):Int),x])/\∀xs,SqL K H a xs->xs[i]?=some x,λi H=>∃xs,SqL K H a xs/\xs.length<=i⟩
def tnE (e it l:Addr)(k i:Nat)(h:Heap):Prop:=(∃old,IsEnum h e it ((i+k:Nat):Int) old)/\h.IsListIter it l i
theorem turn_enum {P:rf}{w:World}{K:ba}{es:List Expr}{x1}{tp:Pos}(a e it:Addr)(k:Nat)(hei:e≠it):Turn P w K (.Tuple es x1 tp) (Ite K a k) [e,it] e (tnE e it a k) where
 mem:=by simp
 obj:=λi h st b hb=>by
  rcases List.mem_cons.mp hb with rfl | hb
  ·obtain⟨old,he⟩:=st.1;exact⟨_,he,λv z=>by cases z⟩
  ·rw[ra]at hb;subst hb;obtain⟨o,e,c,d⟩:=st.2;exact⟨o,e,λv z=>by rw[d]at z;cases z⟩
 keep:=λi h h' st q=>⟨let ⟨old,he⟩:=st.1;⟨old,q e (by simp) _ he⟩,st.2.at λo z=>q it (by simp) o z⟩
 item:=by
  intro X hP hw hK hc i pins s σ H E I hf st hg;subst hP hw hK;obtain⟨xs,x,hq,hx⟩:=hg;obtain⟨its,rv,p,hz⟩:=I.list hq;obtain⟨u,hu,ru⟩:=rv.get hx;obtain⟨⟨old,he⟩,hit⟩:=st;have hl:s.heap.IsList a its.toArray:=p.isList;have nli:a≠it:=λz=>by
   obtain⟨o1,g1,c1,_⟩:=hl;obtain⟨o2,g2,c2,_⟩:=hit;rw[z,g2]at g1;cases g1;rw[c2]at c1;exact absurd c1 (by decide)
  have nle:a≠e:=λz=>by
   obtain⟨o1,g1,c1,_⟩:=hl;rw[z,show s.heap.get? e=_ from he]at g1
   cases g1;exact absurd (show Value.type "enumerate"=Value.type "list" from c1) (by decide)
  have D:=Draws.shift k (Draws.list (prog:=X.prog) (w:=X.w) (A:=X.A.in1) (I.ok.hd hc) it a nli its.toArray);have hlt:i < its.length:=(List.getElem?_eq_some_iff.mp hu).1;refine wpAny_pyNext_enum_itemD (i:=i+k) D he ⟨i,rfl,hit,hl⟩ (by simp;omega) hei (by simp;exact⟨hei,anj nle⟩) λv h1 tk hv ho hs1 hT hsz hk=>?_
  obtain⟨j,ej,hv⟩:=hv;obtain rfl:j=i:=by omega
  obtain rfl:v=u:=by
   have:its.toArray[j]?=some u:=by simpa using hu
   rw[this]at hv;exact(anb hv).symm
  obtain⟨j2,ej2,st1,_⟩:=hs1;obtain rfl:j2=j+1:=by omega
  refine⟨_,rfl,wpAny_letOwnedTupleGo_enum ho λh2 he2 sb=>?_⟩
  have hel:e < s.heap.objs.size:=me he;have hil:it < s.heap.objs.size:=by obtain⟨o,g,_⟩:=hit;exact me g
  have nT:s.heap.objs.size≠e:=Nat.ne_of_gt hel;have kk:∀b o,b≠e->b≠it->s.heap.get? b=some o->h2.get? b=some o:=λb o h1 h2 g=>(sb.2 b h1).trans (hk b o h1 h2 g)
  have hT2:h2.get? s.heap.objs.size=some { cls:=.type "tuple",data:=.seq #[.int ((j+k:Nat):Int) tk,v] }:=(sb.2 _ nT).trans hT;have hf0:H s.heap.objs.size=none:=I.hok.fresh (kj _);have fe:=hf e (by simp)
  have fi:=hf it (by simp)
  have nb:∀b z,H b=some z->b≠s.heap.objs.size:=λb z q y=>by rw[y,hf0]at q;cases q
  have I2:Inv X pins σ (upd H s.heap.objs.size (.tup [.int ((j+k:Nat):Int),x])) { s with heap:=h2,toks:=tk+1 }:=by
   refine I.step (g':=s.gens) (d':=s.drawn) (ch:=[e,it]) (λb hb=>?_) (λb o _ _ hc g _=>kk b o (λz=>hc (by simp[z])) (λz=>hc (by simp[z])) g) (λb o _ _ hc g _=>⟨o.slots,kk b o (λz=>hc (by simp[z])) (λz=>hc (by simp[z])) g⟩)
    (λb o hc g n=>by rw[av (adm (me g))];exact n) (λb o hc g=>⟨o,kk b o (λz=>hc (by simp[z])) (λz=>hc (by simp[z])) g⟩)
    (λb ys q=>by rw[av (nb b _ q)];exact q) (λb o u q=>by rw[av (nb b _ q)];exact q) (λb ps q=>⟨#[],by rw[av (nb b _ q),q];simp⟩) (λm hm=>?_) (λb z q=>?_) I.bare
   ·rcases List.mem_cons.mp hb with rfl | hb
    ·exact⟨fe.2.2.2.1,fe.2.1,fe.2.2.2.2.1,fe.2.2.2.2.2⟩
    ·rw[ra]at hb;subst hb;exact⟨fi.2.2.2.1,fi.2.1,fi.2.2.2.2.1,fi.2.2.2.2.2⟩
   ·obtain⟨o,es,ep,ho,r⟩:=hm;exact⟨o,es,ep,kk _ o (anj fe.2.1) (anj fi.2.1) ho,r⟩
   ·by_cases hb:b=s.heap.objs.size
    ·subst hb;rw[ae]at q;cases q;exact⟨by show 2<=gr;decide,[.int ((j+k:Nat):Int) tk,v],.cons ⟨_,rfl⟩ (.cons ru .nil),⟨_,hT2,rfl,_,rfl⟩⟩
    ·rw[av hb]at q;refine(I.hok b z q).ql (λc o hc g=>kk c o (λy=>?_) (λy=>?_) g) (λc r=>by rw[av (nb c _ r)];exact r) λc ys r=>by rw[av (nb c _ r)];exact r
     ·have n:=fe.1;rw[<-y]at n;rcases hc with rfl | hc
      ·rw[q]at n;cases n
      ·rw[hc]at n;cases n
     ·have n:=fi.1;rw[<-y]at n;rcases hc with rfl | hc
      ·rw[q]at n;cases n
      ·rw[hc]at n;cases n
  refine⟨.ref s.heap.objs.size,_,I2,rfl,⟨_,x,rfl,hf0,rfl,λys hy=>by rw[I.Ia hy hq];exact hx⟩,⟨⟨v,?_⟩,?_⟩,λb hb=>?_⟩
  ·have:((j+1+k:Nat):Int)=((j+k:Nat):Int)+1:=by omega
   rw[this];exact he2
  ·exact st1.at λo z=>(sb.2 it (anj hei)).trans z
  ·rcases List.mem_cons.mp hb with rfl | hb
   ·rw[av (anj nT)];exact fe.1
   ·rw[ra]at hb;subst hb;rw[av (adm hil)];exact fi.1
 done:=by
  intro X hP hw hK hc i pins s σ H E I hf st hg;subst hP hw hK;obtain⟨xs,hq,hx⟩:=hg;obtain⟨its,rv,p,hz⟩:=I.list hq;obtain⟨⟨old,he⟩,hit⟩:=st;obtain⟨f0,f1,f2,f3,f4,f5⟩:=hf it (by simp)
  have hl:=rv.length;have hn:its.toArray[i]?=none:=by simp;omega
  have D:Draws X.prog X.w X.A.in1 it [it,a] i (λ_ _=>False) (λj h=>j=i/\h.IsListIter it a i/\h.IsList a its.toArray) :=
   ⟨λ_ _ st=>let ⟨o,g,_⟩:=st.2.1;⟨o,g⟩,λ_ _ _ st q=>⟨st.1,st.2.1.at λo z=>q it (by simp) o z,st.2.2.at λo z=>q a (by simp) o z⟩,λj _ _ _ hj st _=>absurd st.1 (adm hj),λ_ _ _ st hE=>wpAny_nextOf_list_end (I.ok.hd hc) st.2.1 st.2.2 hn hE⟩
  exact wpAny_pyNext_enum_endD D he ⟨rfl,hit,p.isList⟩ λh' eb=>⟨rfl,I.turned (t':=s.toks) (λb o hb e=>eb b o hb e) f0 f1 f3 f4 f5⟩
 self:=λ_ _ _ _ _ st h=>let ⟨_,he⟩:=st.1;wpAny_pyIter_enum he h
section
variable{X:Cx}
def iEnum (K:ba)(k:Nat)(ta:TA):TI:=λσ H R=>ta σ H λvs H1=>∃a,vs=[.ref a]/\(∃xs,SqL K H1 a xs)/\R (Ite K a k) H1
theorem pi_enum {l:Expr}{ta:TA}{es:List Expr}{x1}{tp p kp cp pos:Pos}{k:Nat}{j}(hk:aos ((k:Nat):Int)=true)(hg:Gl X "enumerate")(hm:X.mg "enumerate"=none)(ha:PA X [l] ta)(hs:ane [l] X.env=[(false,eval l X.env)]:=by rfl) :
  PI X (.Tuple es x1 tp) (.Call (.Name "enumerate" p) [l] [⟨some (ar "start"),.Constant (.int ((k:Nat):Int)) j cp,kp⟩] pos) (iEnum X.K k ta):=by
 intro pins s σ H R I h;refine wpAny_Call_Name_kw (C5 I hg hm PyProof.Rows.boot_enumerate ?_);refine callWith_tyKw (he:=by rw[hs];rfl) (thn (ha pos pins s σ H _ I h) λus s1 ⟨vs,H1,I1,r1,q1⟩=>?_)
 obtain⟨a,rfl,⟨xs,hq⟩,q⟩:=q1;cases r1 with
 |cons r rr =>
  cases rr;cases r;refine PyProof.Rows.kws_cons (wpAny_Constant_int ?_);refine PyProof.Rows.kws_nil ?_;obtain⟨its,rv,p,hz⟩:=I1.list hq;refine call_enumK (s:={ s1 with toks:=s1.toks+1 }) hk p.isList λh' he hit kk=>?_
  refine wpAny_pyIter_enum he ⟨s1.heap.objs.size+1,[s1.heap.objs.size+1,s1.heap.objs.size],tnE _ _ a k,_,H1,rfl,I1.kept (t':=s1.toks+1) kk,turn_enum a _ _ k (Nat.succ_ne_self _),⟨⟨.none,?_⟩,hit⟩,λb hb=>?_,q⟩
  ·rw[Nat.zero_add];exact he
  ·have hb':s1.heap.objs.size<=b:=by
    rcases List.mem_cons.mp hb with rfl | hb
    ·exact an3 _
    ·rw[List.mem_singleton.mp hb];exact kj _
   have I2:Inv X pins σ H1 { s1 with heap:=h',toks:=s1.toks+1 }:=I1.kept kk
   have z:=I1.xx hb' (I1.hok.fresh hb');exact z
end
theorem for_enum {K:ba}{a:Addr}{k:Nat}{xs:List V}{g:TG}{tb:TS}{D:Ends}{σ:St}{H:Hp}(Pv:Nat->St->Hp->Prop)(h0:Pv 0 σ H)(hl:∀i σ H,i<=xs.length->Pv i σ H->SqL K H a xs)
  (hs:∀i x σ H t,xs[i]?=some x->Pv i σ H->H t=none->g (.ref t) σ (upd H t (.tup [.int ((i+k:Nat):Int),x])) λσ2 H2=>tb { D with nx:=Pv (i+1),ct:=Pv (i+1),bk:=D.nx } σ2 H2) (hd:∀σ H,Pv xs.length σ H->D.nx σ H) :
  ∃W:Nat->Nat->St->Hp->Prop,(∃m,W 0 m σ H)/\∀i m σ H,W i m σ H ->
   ((Ite K a k).stop i H/\D.nx σ H)\/((Ite K a k).go i H/\∃N:St->Hp->Prop,(∀σ' H',N σ' H'->∃m',m' < m/\W (i+1) m' σ' H')/\∀x H',(Ite K a k).yld i H x H'->g x σ H' λσ2 H2=>tb { D with nx:=N,ct:=N,bk:=D.nx } σ2 H2):=by
 refine⟨λi m σ H=>m=xs.length - i/\i<=xs.length/\Pv i σ H,⟨xs.length,by simp,anz _,h0⟩,?_⟩
 rintro i m σ H ⟨rfl,hi,p⟩;have q:=hl i σ H hi p
 by_cases hlt:i < xs.length
 ·refine .inr ⟨⟨xs,xs[i],q,by simp[hlt]⟩,Pv (i+1),λσ' H' p'=>⟨xs.length - (i+1),by omega,rfl,hlt,p'⟩,λx H' y=>?_⟩
  obtain⟨t,x,rfl,ht,rfl,y⟩:=y;exact hs i x σ H t (y xs q) p ht
 ·have e:i=xs.length:=by omega
  subst e;exact .inl ⟨⟨xs,q,kj _⟩,hd σ H p⟩
def tTryN (tb:TSX):TSX:=λD _ σ H=>tb D (λ_ _ _ _=>False) σ H
theorem psx_tryN {X:Cx}{body:List Stmt}{h₀:ExceptHandler}{hs:List ExceptHandler}{tb:TSX}{pos:Pos}(hb:EO X body tb):PSX X (.Try body (h₀::hs) [] [] pos) (tTryN tb):=by
 intro pins s σ H D E I h;unfold tTryN at h;refine wpAny_Try_except (tu (hb pins s σ H D _ I h) (λf s1 q=>?_) (λv s1 q=>?_))
 ·cases f with
  |next=>exact wpAny_execs_nil q
  |ret v=>exact q
  |brk=>exact q
  |cont=>exact q
 ·obtain⟨σ',ea,cls,xd,m,H',_,_,_,_,q⟩:=q;exact q.elim
end L2
namespace My
open PySem L2
seal PySem.wpAny
def top (i:Nat):Stmt:=PySem.Challenge.pw_moot_k31_whole_minutes_read_back.main.body.getD i (.Pass ⟨0,0,0,0⟩)
abbrev gv:Stmt:=inClass (top 23) 1
theorem Dq:ax ["self"] ["self"] (af gv):=fsc (by trivial)
abbrev gw:Stmt:=inClass (top 24) 1
theorem Dr:ax ["self"] ["self"] (af gw):=fsc (by trivial)
abbrev ju:Stmt:=inClass (top 25) 1
theorem GN:ax ["self"] ["self"] (af ju):=fsc (by trivial)
abbrev gx:Stmt:=inClass (top 26) 1
theorem Ds:ax ["self"] ["self"] (af gx):=fsc (by trivial)
abbrev iB:Stmt:=inClass (top 27) 0
theorem ET:ax ["self"] ["self"] (af iB):=fsc (by trivial)
abbrev kH:Stmt:=inClass (top 28) 0
theorem IE:ax ["self"] ["self"] (af kH):=fsc (by trivial)
abbrev jv:Stmt:=inClass (top 29) 0
theorem GO:ax ["self"] ["self"] (af jv):=fsc (by trivial)
abbrev iC:Stmt:=inClass (top 30) 1
theorem EU:ax ["self"] ["self"] (af iC):=fsc (by trivial)
abbrev gy:Stmt:=inClass (top 22) 1
theorem Dt:ax ["self"] ["self"] (af gy):=fsc (by trivial)
abbrev gz:Stmt:=inClass (top 22) 2
theorem Du:ax ["self"] ["self"] (af gz):=fsc (by trivial)
abbrev iD:Stmt:=inClass (top 27) 1
theorem EV:ax ["self"] ["self"] (af iD):=fsc (by trivial)
abbrev gA:Stmt:=inClass (top 22) 3
theorem Dv:ax ["self"] ["self"] (af gA):=fsc (by trivial)
abbrev gB:Stmt:=inClass (top 23) 2
theorem Dw:ax ["self"] ["self"] (af gB):=fsc (by trivial)
abbrev gC:Stmt:=inClass (top 24) 2
theorem Dx:ax ["self"] ["self"] (af gC):=fsc (by trivial)
abbrev jw:Stmt:=inClass (top 25) 2
theorem GP:ax ["self"] ["self"] (af jw):=fsc (by trivial)
abbrev gD:Stmt:=inClass (top 26) 2
theorem Dy:ax ["self"] ["self"] (af gD):=fsc (by trivial)
abbrev iE:Stmt:=inClass (top 30) 2
theorem EW:ax ["self"] ["self"] (af iE):=fsc (by trivial)
abbrev gF:Stmt:=inClass (top 23) 0
theorem Dz:ax ["self","text"] ["self","text"] (af gF):=fsc (by trivial)
abbrev gG:Stmt:=inClass (top 24) 0
theorem DA:ax ["self","edit"] ["self","edit"] (af gG):=fsc (by trivial)
abbrev jx:Stmt:=inClass (top 25) 0
theorem GQ:ax ["self","edit"] ["self","edit"] (af jx):=fsc (by trivial)
abbrev gH:Stmt:=inClass (top 26) 0
theorem DB:ax ["self","sitting"] ["self","sitting"] (af gH):=fsc (by trivial)
abbrev iF:Stmt:=inClass (top 30) 0
theorem EX:ax ["self","clause"] ["self","clause"] (af iF):=fsc (by trivial)
abbrev gI:Stmt:=inClass (top 4) 0
theorem DC:ax ["self","bar"] ["self","bar"] (af gI):=fsc (by trivial)
abbrev eV:Stmt:=inClass (top 7) 0
theorem Ab:ax ["self","sitting"] ["self","sitting"] (af eV):=fsc (by trivial)
abbrev gJ:Stmt:=inClass (top 11) 0
theorem DD:ax ["self","sitting"] ["self","sitting"] (af gJ):=fsc (by trivial)
abbrev iG:Stmt:=inClass (top 13) 0
theorem EY:ax ["self","row"] ["self","row"] (af iG):=fsc (by trivial)
abbrev fL:Stmt:=inClass (top 65) 0
theorem BN:ax ["self","seats"] ["self","seats"] (af fL):=fsc (by trivial)
abbrev fM:Stmt:=inClass (top 65) 1
theorem tQ:ax ["self","told","number"] ["self","told"] (af fM):=fsc (by trivial)
abbrev fN:Stmt:=inClass (top 65) 2
theorem my:ax ["self","ayes","noes","motion","word"] ["self","ayes","noes"] (af fN):=fsc (by trivial)
abbrev fO:Stmt:=inClass (top 65) 3
theorem BO:ax ["self"] ["self"] (af fO):=fsc (by trivial)
abbrev fP:Stmt:=inClass (top 65) 4
theorem tR:ax ["self","number","until"] ["self","number"] (af fP):=fsc (by trivial)
abbrev dA:Stmt:=inClass (top 65) 5
theorem wX:ax ["self"] ["self"] (af dA):=fsc (by trivial)
abbrev d5:Stmt:=inClass (top 65) 6
theorem Ac:ax ["self","aside"] ["self"] (af d5):=fsc (by trivial)
abbrev mR:Scope:={ kind:=.function,names:=[(ar ".0",.local),(ar "number",.local),(ar "self",.free)],isGenerator:=false,isCoroutine:=false,more:=[] }
theorem xB:bU mR (af d5) "number" ["self","aside"] ["self","aside"]:=⟨rfl,rfl,by trivial,by trivial,rfl,by trivial,by trivial,by trivial,by trivial,rfl,by trivial,by trivial⟩
abbrev eB:Stmt:=inClass (top 65) 7
theorem yJ:ax ["self","number"] ["self","number"] (af eB):=fsc (by trivial)
abbrev cg:Stmt:=inClass (top 65) 9
theorem qV:ax ["self","number"] ["self","number"] (af cg):=fsc (by trivial)
abbrev cD:Stmt:=inClass (top 65) 10
theorem uj:ax ["self","number"] ["self","number"] (af cD):=fsc (by trivial)
abbrev dR:Stmt:=inClass (top 65) 11
theorem xC:ax ["self"] ["self"] (af dR):=fsc (by trivial)
abbrev cN:Stmt:=inClass (top 65) 12
theorem xD:ax ["self"] ["self"] (af cN):=fsc (by trivial)
abbrev j9:Scope:={ kind:=.function,names:=[(ar ".0",.local),(ar "number",.local),(ar "self",.free)],isGenerator:=false,isCoroutine:=false,more:=[] }
theorem uR:bU j9 (af cN) "number" ["self"] ["self"]:=⟨rfl,rfl,by trivial,by trivial,rfl,by trivial,by trivial,by trivial,by trivial,rfl,by trivial,by trivial⟩
abbrev cE:Stmt:=inClass (top 65) 13
theorem kh:ax ["self","number","waiting"] ["self","number"] (af cE):=fsc (by trivial)
abbrev bH:Stmt:=inClass (top 65) 14
theorem dB:ax ["self","told","kind","pile"] ["self","told"] (af bH):=fsc (by trivial)
abbrev bQ:Stmt:=inClass (top 65) 15
theorem nR:ax ["self"] ["self"] (af bQ):=fsc (by trivial)
abbrev bV:Stmt:=inClass (top 65) 16
theorem pD:ax ["self","number"] ["self","number"] (af bV):=fsc (by trivial)
abbrev eC:Stmt:=inClass (top 65) 17
theorem yK:ax ["self","word"] ["self","word"] (af eC):=fsc (by trivial)
abbrev cq:Stmt:=inClass (top 65) 18
theorem qW:ax ["self","deed"] ["self","deed"] (af cq):=fsc (by trivial)
abbrev cY:Stmt:=inClass (top 65) 19
theorem lV:ax ["self","motion","kind"] ["self","motion"] (af cY):=fsc (by trivial)
abbrev b5:Stmt:=inClass (top 65) 20
theorem iZ:ax ["self","edit","number"] ["self","edit"] (af b5):=fsc (by trivial)
abbrev b6:Stmt:=inClass (top 65) 21
theorem dH:ax ["self","edit","number","change","words"] ["self","edit"] (af b6):=fsc (by trivial)
abbrev cZ:Stmt:=inClass (top 65) 22
theorem uS:ax ["self","until"] ["self","until"] (af cZ):=fsc (by trivial)
abbrev Ad:Stmt:=top 15
theorem GR:ax ["things","edit","places"] ["things","edit"] (af Ad):=fsc (by trivial)
abbrev gK:Stmt:=top 16
theorem DE:ax ["things","edit"] ["things","edit"] (af gK):=fsc (by trivial)
abbrev Ae:Stmt:=top 17
theorem CV:ax ["things","edit","kind","place","behind"] ["things","edit"] (af Ae):=fsc (by trivial)
abbrev kJ:Stmt:=top 18
theorem IF:ax ["clause"] ["clause"] (af kJ):=fsc (by trivial)
abbrev jy:Stmt:=top 19
theorem GS:ax ["words"] ["words"] (af jy):=fsc (by trivial)
abbrev jz:Stmt:=top 31
theorem m3:ax ["told","kind"] ["told"] (af jz):=fsc (by trivial)
abbrev qX:Stmt:=top 34
theorem FJ:ax ["pile","closed","bar"] ["pile","closed"] (af qX):=fsc (by trivial)
abbrev gb:Stmt:=top 35
theorem EZ:ax ["pile"] ["pile"] (af gb):=fsc (by trivial)
abbrev qY:Scope:={ kind:=.function,names:=[(ar ".0",.local),(ar "motion",.local)],isGenerator:=false,isCoroutine:=false,more:=[] }
theorem BP:bU qY (af gb) "motion" ["pile"] ["pile"]:=⟨rfl,rfl,by trivial,by trivial,rfl,by trivial,by trivial,by trivial,by trivial,rfl,by trivial,by trivial⟩
abbrev eW:Stmt:=top 36
theorem qZ:ax ["pile","told"] ["pile"] (af eW):=fsc (by trivial)
abbrev c9:Stmt:=top 37
theorem uT:ax ["kind","pile"] ["kind","pile"] (af c9):=fsc (by trivial)
abbrev dC:Stmt:=top 38
theorem pV:ax ["pile","closed","bar"] ["pile","closed"] (af dC):=fsc (by trivial)
abbrev lW:Scope:={ kind:=.function,names:=[(ar ".0",.local),(ar "kind",.local),(ar "RANKS",.globalImplicit),(ar "has_what_it_needs",.globalImplicit),(ar "bar",.free),(ar "pile",.free)],isGenerator:=false,isCoroutine:=false,more:=[] }
theorem wY:bU lW (af dC) "kind" ["pile","closed","bar"] ["pile","closed","bar"]:=⟨rfl,rfl,by trivial,by trivial,rfl,by trivial,by trivial,by trivial,by trivial,rfl,by trivial,by trivial⟩
abbrev dD:Stmt:=top 39
theorem mS:ax ["kind","pile","closed","bar"] ["kind","pile","closed"] (af dD):=fsc (by trivial)
abbrev nA:Stmt:=top 47
theorem L3:ax ["holds"] ["holds"] (af nA):=fsc (by trivial)
abbrev nB:Stmt:=top 48
theorem L4:ax ["sign"] ["sign"] (af nB):=fsc (by trivial)
abbrev kK:Stmt:=top 49
theorem L5:ax ["word"] ["word"] (af kK):=fsc (by trivial)
abbrev xj:Scope:={ kind:=.function,names:=[(ar ".0",.local),(ar "sign",.local),(ar "is_sign",.globalImplicit)],isGenerator:=false,isCoroutine:=false,more:=[] }
theorem GU:bU xj (af kK) "sign" ["word"] ["word"]:=⟨rfl,rfl,by trivial,by trivial,rfl,by trivial,by trivial,by trivial,by trivial,rfl,by trivial,by trivial⟩
abbrev hV:Stmt:=top 50
theorem GV:ax ["word"] ["word"] (af hV):=fsc (by trivial)
abbrev tS:Scope:={ kind:=.function,names:=[(ar ".0",.local),(ar "sign",.local),(ar "FIGURES",.globalImplicit)],isGenerator:=false,isCoroutine:=false,more:=[] }
theorem DF:bU tS (af hV) "sign" ["word"] ["word"]:=⟨rfl,rfl,by trivial,by trivial,rfl,by trivial,by trivial,by trivial,by trivial,rfl,by trivial,by trivial⟩
abbrev gL:Stmt:=top 51
theorem DG:ax ["word"] ["word"] (af gL):=fsc (by trivial)
abbrev fA:Stmt:=top 52
theorem DH:ax ["words"] ["words"] (af fA):=fsc (by trivial)
abbrev pW:Scope:={ kind:=.function,names:=[(ar ".0",.local),(ar "word",.local),(ar "is_word",.globalImplicit)],isGenerator:=false,isCoroutine:=false,more:=[] }
theorem Af:bU pW (af fA) "word" ["words"] ["words"]:=⟨rfl,rfl,by trivial,by trivial,rfl,by trivial,by trivial,by trivial,by trivial,rfl,by trivial,by trivial⟩
abbrev hX:Stmt:=top 53
theorem sI:ax ["words","clauses","word"] ["words"] (af hX):=fsc (by trivial)
abbrev tT:Scope:={ kind:=.function,names:=[(ar ".0",.local),(ar "clause",.local),(ar "read_clause",.globalImplicit)],isGenerator:=false,isCoroutine:=false,more:=[] }
theorem uU:jh tT (af hX) ["clause"] ["words","clauses","word"] ["words","clauses","word"]:=⟨rfl,rfl,by trivial,by trivial,by trivial,by trivial,by trivial,by trivial,by trivial,rfl,by trivial,by trivial⟩
abbrev jA:Stmt:=top 54
theorem m5:ax ["words","kind","place","thing"] ["words"] (af jA):=fsc (by trivial)
abbrev jB:Stmt:=top 55
theorem yL:ax ["words","edit"] ["words"] (af jB):=fsc (by trivial)
abbrev fQ:Stmt:=top 56
theorem tU:ax ["words","sitting"] ["words"] (af fQ):=fsc (by trivial)
abbrev jC:Stmt:=top 57
theorem m6:ax ["row","words","kind","behind"] ["row"] (af jC):=fsc (by trivial)
abbrev eX:Stmt:=top 58
theorem kM:ax ["text","words","clause"] ["text"] (af eX):=fsc (by trivial)
abbrev eY:Stmt:=top 59
theorem q5:ax ["edit","words"] ["edit"] (af eY):=fsc (by trivial)
abbrev eK:Stmt:=top 60
theorem tV:ax ["deed","kind"] ["deed"] (af eK):=fsc (by trivial)
abbrev nS:Scope:={ kind:=.function,names:=[(ar ".0",.local),(ar "number",.local),(ar "str",.globalImplicit)],isGenerator:=false,isCoroutine:=false,more:=[] }
theorem yM:bU nS (af eK) "number" ["deed","kind"] ["deed","kind"]:=⟨rfl,rfl,by trivial,by trivial,rfl,by trivial,by trivial,by trivial,by trivial,rfl,by trivial,by trivial⟩
abbrev jD:Stmt:=top 61
theorem GW:ax ["deed"] ["deed"] (af jD):=fsc (by trivial)
abbrev nD:Stmt:=top 63
theorem L6:ax ["need","ayes","noes"] ["need","ayes","noes"] (af nD):=fsc (by trivial)
abbrev nF:Stmt:=top 67
theorem DI:ax ["chamber","deed","kind"] ["chamber","deed"] (af nF):=fsc (by trivial)
abbrev q8:Stmt:=top 68
theorem Pk:ax ["chamber","row","number"] ["chamber","row","number"] (af q8):=fsc (by trivial)
abbrev q9:Stmt:=top 69
theorem wx:ax ["seats","rows","chamber","number","row"] ["seats","rows"] (af q9):=fsc (by trivial)
abbrev jE:Stmt:=top 71
theorem GX:ax ["_law_script","_law_k"] ["_law_script","_law_k"] (af jE):=fsc (by trivial)
abbrev kO:Stmt:=top 72
theorem lX:ax ["_law_cell","_law_many","_law_found","_law_number","_law_k"] ["_law_cell","_law_many"] (af kO):=fsc (by trivial)
abbrev ji:Stmt:=top 73
theorem Bj:ax ["_law_draw","_law_words","_law_some"] ["_law_draw"] (af ji):=fsc (by trivial)
abbrev uV:Scope:={ kind:=.function,names:=[(ar ".0",.local),(ar "_law_size",.local),(ar "_law_draw",.free),(ar "_law_words",.free)],isGenerator:=false,isCoroutine:=false,more:=[] }
theorem E1:bU uV (af ji) "_law_size" ["_law_draw","_law_words","_law_some"] ["_law_draw","_law_words","_law_some"]:=⟨rfl,rfl,by trivial,by trivial,rfl,by trivial,by trivial,by trivial,by trivial,rfl,by trivial,by trivial⟩
abbrev rb:Stmt:=top 74
theorem rg:ax ["_law_kind","_law_draw","_law_more","_law_way","_law_place","_law_thing"] ["_law_kind","_law_draw","_law_more"] (af rb):=fsc (by trivial)
abbrev nU:Stmt:=top 75
theorem wz:ax ["_law_draws","_law_seats","_law_way","_law_sizes","_law_ayes"] ["_law_draws","_law_seats"] (af nU):=fsc (by trivial)
abbrev yN:Scope:={ kind:=.function,names:=[(ar ".0",.local),(ar "_law_size",.local),(ar "_law_clause",.globalImplicit),(ar "_law_draws",.free)],isGenerator:=false,isCoroutine:=false,more:=[] }
theorem IG:bU yN (af nU) "_law_size" ["_law_draws","_law_seats","_law_way","_law_sizes","_law_ayes"] ["_law_draws","_law_seats","_law_way","_law_sizes","_law_ayes"]:=⟨rfl,rfl,by trivial,by trivial,rfl,by trivial,by trivial,by trivial,by trivial,rfl,by trivial,by trivial⟩
abbrev rh:Stmt:=top 76
theorem Ag:ax ["_law_chamber","_law_deed_here","_law_done_here"] ["_law_chamber","_law_deed_here"] (af rh):=fsc (by trivial)
abbrev hZ:Stmt:=top 77
theorem GY:ax ["_law_chamber","_law_many"] ["_law_chamber","_law_many"] (af hZ):=fsc (by trivial)
abbrev tW:Scope:={ kind:=.function,names:=[(ar ".0",.local),(ar "_law_k",.local),(ar "_law_chamber",.free)],isGenerator:=false,isCoroutine:=false,more:=[] }
theorem DJ:bU tW (af hZ) "_law_k" ["_law_chamber","_law_many"] ["_law_chamber","_law_many"]:=⟨rfl,rfl,by trivial,by trivial,rfl,by trivial,by trivial,by trivial,by trivial,rfl,by trivial,by trivial⟩
abbrev rj:Stmt:=top 78
theorem Pl:ax ["_law_one","_law_other","_law_many"] ["_law_one","_law_other","_law_many"] (af rj):=fsc (by trivial)
abbrev eD:Stmt:=top 79
theorem pX:ax ["_law_one","_law_other","_law_made","_law_k"] ["_law_one","_law_other","_law_made"] (af eD):=fsc (by trivial)
abbrev nG:Stmt:=top 80
theorem xE:ax ["_law_chamber","_law_rows","_law_deed_here","_law_found","_law_row"] ["_law_chamber","_law_rows","_law_deed_here"] (af nG):=fsc (by trivial)
abbrev nH:Stmt:=top 81
theorem DK:ax ["_law_one","_law_other","_law_rows","_law_made","_law_deeds","_law_deed_here"] ["_law_one","_law_other","_law_rows","_law_made","_law_deeds"] (af nH):=fsc (by trivial)
abbrev xl:Stmt:=top 82
theorem sJ:ax ["_law_script","_law_first","_law_seats","_law_deeds","_law_cut","_law_one","_law_rows","_law_made","_law_handed","_law_other"] ["_law_script"] (af xl):=fsc (by trivial)
abbrev FK:Scope:={ kind:=.function,names:=[(ar ".0",.local),(ar "_law_cell",.local),(ar "_law_deed",.globalImplicit),(ar "_law_stream",.globalImplicit),(ar "_law_seats",.free)],isGenerator:=false,isCoroutine:=false,more:=[] }
theorem Rn:bU FK (af xl) "_law_cell" ["_law_script","_law_first","_law_seats","_law_deeds","_law_cut","_law_one","_law_rows","_law_made","_law_handed","_law_other"] ["_law_script","_law_first","_law_seats","_law_deeds","_law_cut","_law_one","_law_rows","_law_made","_law_handed","_law_other"]:=⟨rfl,rfl,by trivial,by trivial,rfl,by trivial,by trivial,by trivial,by trivial,rfl,by trivial,by trivial⟩
structure Adr where
 fits:Addr
 GZ:kg
 uW:Addr
 nW:kg
 laid:Addr
 G0:kg
 words_of:Addr
 jF:kg
 rn:Addr
 jQ:kg
 rp:Addr
 jR:kg
 L7:Addr
 Ah:kg
 xF:Addr
 qo:kg
 qp:Addr
 kP:kg
 jS:Addr
 ia:kg
 nX:Addr
 jT:kg
 kQ:Addr
 iS:kg
 yO:Addr
 nY:kg
 G1:Addr
 xG:kg
 G2:Addr
 xH:kg
 Ai:Addr
 sL:kg
 pY:Addr
 jU:kg
 uX:Addr
 nZ:kg
 Aj:Addr
 sM:kg
 Ak:Addr
 sN:kg
 Al:Addr
 sO:kg
 sP:Addr
 mz:kg
 nI:Addr
 iH:kg
 qr:Addr
 kR:kg
 qt:Addr
 kS:kg
 sQ:Addr
 mB:kg
 nJ:Addr
 iI:kg
 G3:Addr
 xI:kg
 G4:Addr
 xJ:kg
 G5:Addr
 wA:kg
 replay:Addr
 Am:kg
 An:Addr
 sS:kg
 DL:Addr
 uY:kg
 DM:Addr
 uZ:kg
 L8:Addr
 Ao:kg
 L9:Addr
 Aq:kg
 G6:Addr
 wB:kg
 Ar:Addr
 sT:kg
 Ma:Addr
 As:kg
 n8:Addr
 jV:kg
 G7:Addr
 xK:kg
 CW:Addr
 sU:kg
 sV:Tok
 jc:Tok
 lO:Tok
 jd:Tok
 sW:Tok
 u0:Addr
 lP:Tok
 c0:Addr
 c1:Addr
 c2:Addr
 c3:Addr
 c4:Addr
 c5:Addr
 c6:Addr
 c7:Addr
 Cm:Addr
 tab:Addr
 YJ:Addr
 Ro:kg
 YK:Addr
 Rp:kg
 YL:Addr
 Rq:kg
 YM:Addr
 Rt:kg
 YN:Addr
 Ru:kg
 YO:Addr
 Rv:kg
 YQ:Addr
 Rw:kg
 YR:Addr
 Rx:kg
 f_r:Addr
 UG:kg
 f_n:Addr
 G8:kg
 YS:Addr
 Ry:kg
 f_t:Addr
 Rz:kg
 YT:Addr
 RA:kg
 YU:Addr
 RB:kg
 YV:Addr
 RC:kg
 YW:Addr
 RD:kg
 YX:Addr
 RE:kg
 YY:Addr
 RF:kg
 YZ:Addr
 RG:kg
 Y0:Addr
 RH:kg
 Y1:Addr
 RI:kg
 Y2:Addr
 RJ:kg
 ao:Addr
 cO:Addr
 mD:kg
 cP:Addr
 mE:kg
 cQ:Addr
 mF:kg
 cS:Addr
 mG:kg
 cT:Addr
 mH:kg
 bS:Addr
 iT:kg
 cc:Addr
 iJ:kg
 bW:Addr
 gX:kg
 bq:Addr
 dS:kg
 bC:Addr
 eQ:kg
 bD:Addr
 dE:kg
 bZ:Addr
 jj:kg
 bK:Addr
 gQ:kg
 bc:Addr
 dF:kg
 bj:Addr
 eL:kg
 br:Addr
 eT:kg
 cu:Addr
 jW:kg
 bA:Addr
 fR:kg
 bM:Addr
 ib:kg
 bu:Addr
 fB:kg
 bw:Addr
 fD:kg
 bN:Addr
 ic:kg
 bL:Addr
 wC:Addr
 u3:Addr
 sX:Addr
 sY:Addr
 n9:Addr
 rq:Addr
 wD:Addr
 wF:Addr
 u4:Addr
 sZ:Addr
 yP:Addr
 DN:Addr
 Au:kg
 xM:Addr
 u5:kg
 DO:Addr
 Av:kg
 G9:Addr
 DP:kg
def Adr.C (A:Adr):Nat->Addr
 | 0=>A.c0
 | 1=>A.c1
 | 2=>A.c2
 | 3=>A.c3
 | 4=>A.c4
 | 5=>A.c5
 | 6=>A.c6
 |_=>A.c7
def Adr.fk (A:Adr):Nat->Addr
 | 0=>A.YJ
 | 1=>A.YK
 | 2=>A.YL
 | 3=>A.YM
 | 4=>A.YN
 | 5=>A.YO
 | 6=>A.YQ
 |_=>A.YR
def Adr.fkd (A:Adr):Nat->kg
 | 0=>A.Ro
 | 1=>A.Rp
 | 2=>A.Rq
 | 3=>A.Rt
 | 4=>A.Ru
 | 5=>A.Rv
 | 6=>A.Rw
 |_=>A.Rx
def Adr.fn (A:Adr):Nat->Addr
 | 0=>A.f_n
 | 1=>A.f_n
 | 2=>A.f_n
 | 3=>A.f_n
 | 4=>A.YS
 | 5=>A.f_n
 | 6=>A.f_n
 |_=>A.f_n
def Adr.fnd (A:Adr):Nat->kg
 | 0=>A.G8
 | 1=>A.G8
 | 2=>A.G8
 | 3=>A.G8
 | 4=>A.Ry
 | 5=>A.G8
 | 6=>A.G8
 |_=>A.G8
def Adr.ft (A:Adr):Nat->Addr
 | 0=>A.YT
 | 1=>A.YU
 | 2=>A.YV
 | 3=>A.YW
 | 4=>A.f_t
 | 5=>A.f_t
 | 6=>A.f_t
 |_=>A.YX
def Adr.ftd (A:Adr):Nat->kg
 | 0=>A.RA
 | 1=>A.RB
 | 2=>A.RC
 | 3=>A.RD
 | 4=>A.Rz
 | 5=>A.Rz
 | 6=>A.Rz
 |_=>A.RE
def nm:Nat->Str
 | 0=>ar "matter"
 | 1=>ar "change"
 | 2=>ar "mend"
 | 3=>ar "put off"
 | 4=>ar "close"
 | 5=>ar "lay"
 | 6=>ar "rest"
 |_=>ar "point"
structure Txt (P:Params)(K:ba)(mg:Str->Option Value)(A:Adr):Prop where
 Mb:Fun K "fits" "fits" Ad A.fits A.GZ
 RK:Binds K A.GZ ["things","edit"] []
 RL:mg "fits"=some (.ref A.fits)
 i3:Fun K "require_fit" "require_fit" gK A.uW A.nW
 lQ:Binds K A.nW ["things","edit"] []
 lR:mg "require_fit"=some (.ref A.uW)
 Ha:Fun K "laid" "laid" Ae A.laid A.G0
 Mc:Binds K A.G0 ["things","edit"] []
 Md:mg "laid"=some (.ref A.laid)
 jk:Fun K "words_of" "words_of" kJ A.words_of A.jF
 kT:Binds K A.jF ["clause"] []
 kU:mg "words_of"=some (.ref A.words_of)
 lY:Fun K "clause_of" "clause_of" jy A.rn A.jQ
 pZ:Binds K A.jQ ["words"] []
 p4:mg "clause_of"=some (.ref A.rn)
 p5:Fun K "motion_of" "motion_of" jz A.rp A.jR
 Bk:Binds K A.jR ["told"] []
 Bl:mg "motion_of"=some (.ref A.rp)
 u6:Fun K "bar_of" "bar_of" qX A.L7 A.Ah
 yQ:Binds K A.Ah ["pile","closed"] []
 yR:mg "bar_of"=some (.ref A.L7)
 m7:Fun K "has_matter" "has_matter" gb A.xF A.qo
 tf:Binds K A.qo ["pile"] []
 tj:mg "has_matter"=some (.ref A.xF)
 mI:Fun K "can_be_mended" "can_be_mended" eW A.qp A.kP
 tX:Binds K A.kP ["pile"] []
 tY:mg "can_be_mended"=some (.ref A.qp)
 fG:Fun K "has_what_it_needs" "has_what_it_needs" c9 A.jS A.ia
 iU:Binds K A.ia ["kind","pile"] []
 iV:mg "has_what_it_needs"=some (.ref A.jS)
 kW:Fun K "kinds_in_order" "kinds_in_order" dC A.nX A.jT
 rz:Binds K A.jT ["pile","closed"] []
 rA:mg "kinds_in_order"=some (.ref A.nX)
 jl:Fun K "require_in_order" "require_in_order" dD A.kQ A.iS
 oa:Binds K A.iS ["kind","pile","closed"] []
 oe:mg "require_in_order"=some (.ref A.kQ)
 dU:Fun K "require" "require" nA A.yO A.nY
 eE:Binds K A.nY ["holds"] []
 eF:mg "require"=some (.ref A.yO)
 Aw:Fun K "is_sign" "is_sign" nB A.G1 A.xG
 FL:Binds K A.xG ["sign"] []
 FN:mg "is_sign"=some (.ref A.G1)
 Ax:Fun K "is_word" "is_word" kK A.G2 A.xH
 FO:Binds K A.xH ["word"] []
 FP:mg "is_word"=some (.ref A.G2)
 u7:Fun K "is_number" "is_number" hV A.Ai A.sL
 Bm:Binds K A.sL ["word"] []
 Bo:mg "is_number"=some (.ref A.Ai)
 fE:Fun K "read_number" "read_number" gL A.pY A.jU
 gN:Binds K A.jU ["word"] []
 gO:mg "read_number"=some (.ref A.pY)
 i4:Fun K "read_clause" "read_clause" fA A.uX A.nZ
 lS:Binds K A.nZ ["words"] []
 lT:mg "read_clause"=some (.ref A.uX)
 u9:Fun K "read_text" "read_text" hX A.Aj A.sM
 Bp:Binds K A.sM ["words"] []
 Bq:mg "read_text"=some (.ref A.Aj)
 p6:Fun K "read_edit" "read_edit" jA A.Ak A.sN
 va:Binds K A.sN ["words"] []
 vb:mg "read_edit"=some (.ref A.Ak)
 vc:Fun K "read_mend" "read_mend" jB A.Al A.sO
 Br:Binds K A.sO ["words"] []
 Bs:mg "read_mend"=some (.ref A.Al)
 og:Fun K "read_sitting" "read_sitting" fQ A.sP A.mz
 vd:Binds K A.mz ["words"] []
 ve:mg "read_sitting"=some (.ref A.sP)
 lZ:Fun K "read_deed" "read_deed" jC A.nI A.iH
 p7:Binds K A.iH ["row"] []
 p8:mg "read_deed"=some (.ref A.nI)
 mJ:Fun K "words_of_text" "words_of_text" eX A.qr A.kR
 tZ:Binds K A.kR ["text"] []
 t7:mg "words_of_text"=some (.ref A.qr)
 mK:Fun K "words_of_edit" "words_of_edit" eY A.qt A.kS
 t8:Binds K A.kS ["edit"] []
 t9:mg "words_of_edit"=some (.ref A.qt)
 oh:Fun K "words_behind" "words_behind" eK A.sQ A.mB
 vf:Binds K A.mB ["deed"] []
 vg:mg "words_behind"=some (.ref A.sQ)
 l5:Fun K "show_deed" "show_deed" jD A.nJ A.iI
 p9:Binds K A.iI ["deed"] []
 qa:mg "show_deed"=some (.ref A.nJ)
 Ay:Fun K "is_kept" "is_kept" nD A.G3 A.xI
 FQ:Binds K A.xI ["need","ayes","noes"] []
 FR:mg "is_kept"=some (.ref A.G3)
 wG:Fun K "do_deed" "do_deed" nF A.G4 A.xJ
 Az:Binds K A.xJ ["chamber","deed"] []
 AA:mg "do_deed"=some (.ref A.G4)
 DQ:Fun K "do_row" "do_row" q8 A.G5 A.wA
 IH:Binds K A.wA ["chamber","row","number"] []
 II:mg "do_row"=some (.ref A.G5)
 DR:Fun K "replay" "replay" q9 A.replay A.Am
 IJ:Binds K A.Am ["seats","rows"] []
 IK:mg "replay"=some (.ref A.replay)
 vh:Fun K "_law_cell_at" "_law_cell_at" jE A.An A.sS
 Bt:Binds K A.sS ["_law_script","_law_k"] []
 Bu:mg "_law_cell_at"=some (.ref A.An)
 xN:Fun K "_law_stream" "_law_stream" kO A.DL A.uY
 DS:Binds K A.uY ["_law_cell","_law_many"] []
 DT:mg "_law_stream"=some (.ref A.DL)
 oj:Fun K "_law_clause" "_law_clause" ji A.DM A.uZ
 tq:Binds K A.uZ ["_law_draw"] []
 tw:mg "_law_clause"=some (.ref A.DM)
 DU:Fun K "_law_edit" "_law_edit" rb A.L8 A.Ao
 IL:Binds K A.Ao ["_law_kind","_law_draw","_law_more"] []
 IM:mg "_law_edit"=some (.ref A.L8)
 DW:Fun K "_law_deed" "_law_deed" nU A.L9 A.Aq
 IP:Binds K A.Aq ["_law_draws","_law_seats"] []
 IQ:mg "_law_deed"=some (.ref A.L9)
 yS:Fun K "_law_done" "_law_done" rh A.G6 A.wB
 DX:Binds K A.wB ["_law_chamber","_law_deed_here"] []
 DY:mg "_law_done"=some (.ref A.G6)
 qb:Fun K "_law_motions" "_law_motions" hZ A.Ar A.sT
 vi:Binds K A.sT ["_law_chamber","_law_many"] []
 vj:mg "_law_motions"=some (.ref A.Ar)
 yT:Fun K "_law_same" "_law_same" rj A.Ma A.As
 DZ:Binds K A.As ["_law_one","_law_other","_law_many"] []
 D0:mg "_law_same"=some (.ref A.Ma)
 iK:Fun K "_law_matters_same" "_law_matters_same" eD A.n8 A.jV
 kX:Binds K A.jV ["_law_one","_law_other","_law_made"] []
 kY:mg "_law_matters_same"=some (.ref A.n8)
 AB:Fun K "_law_noted" "_law_noted" nG A.G7 A.xK
 FT:Binds K A.xK ["_law_chamber","_law_rows","_law_deed_here"] []
 FU:mg "_law_noted"=some (.ref A.G7)
 wH:Fun K "_law_alike" "_law_alike" nH A.CW A.sU
 AD:Binds K A.sU ["_law_one","_law_other","_law_rows","_law_made","_law_deeds"] []
 AE:mg "_law_alike"=some (.ref A.CW)
 CY:mg "range"=none
 kZ:mg "list"=none
 Oc:mg "str"=none
 Wt:mg "int"=none
 tD:mg "isinstance"=none
 Wu:mg "max"=none
 l6:mg "len"=none
 Od:mg "all"=none
 Wv:mg "any"=none
 Ww:mg "ord"=none
 IS:mg "sorted"=none
 Bv:mg "enumerate"=none
 Hb:mg "ValueError"=none
 FV:mg "FIGURES"=some (.str (ar "0123456789") A.sV)
 vk:mg "MOST_FIGURES"=some (.int 10 A.jc)
 yU:mg "MOST_SIGNS"=some (.int 20 A.lO)
 vm:mg "LAST_SITTING"=some (.int 999999999 A.jd)
 FW:mg "PERCENT"=some (.int 37 A.sW)
 RM:mg "LONE"=some (.ref A.u0)
 RN:∀H,SqT K H A.u0 [.str (ar "close"),.str (ar "lay"),.str (ar "rest"),.str (ar "drop")]
 yV:mg "CLOSED_BAR"=some (.int 4 A.lP)
 cl:∀k,k < 8->Cls K (A.C k)
 yW:mg "Matter"=some (.ref (A.C 0))
 yX:mg "Change"=some (.ref (A.C 1))
 Me:mg "Mend"=some (.ref (A.C 2))
 D1:mg "PutOff"=some (.ref (A.C 3))
 Hc:mg "Close"=some (.ref (A.C 4))
 RO:mg "Lay"=some (.ref (A.C 5))
 Mf:mg "Rest"=some (.ref (A.C 6))
 Hd:mg "Point"=some (.ref (A.C 7))
 yY:mg "RANKS"=some (.ref A.tab)
 tb:Yx P K A.tab
 rk:∀k,k < 8->∃t,de K A.tab (nm k)=some (some (.int k t))
 tk:CS P K A.tab [ar "matter",ar "change",ar "mend",ar "put off",ar "close",ar "lay",ar "rest",ar "point"]
 qu:∀k,k < 8->Meth K (A.C k) "kind" (A.fk k)
 qv:∀k,k < 8->Binds K (A.fkd k) ["self"] []
 RP:∀k,k < 8->Meth K (A.C k) "need" (A.fn k)
 RQ:∀k,k < 8->Binds K (A.fnd k) ["self"] []
 Mg:∀k,k < 8->Meth K (A.C k) "told" (A.ft k)
 Mh:∀k,k < 8->Binds K (A.ftd k) ["self"] []
 RS:∀k,k < 8->Meth K (A.C k) "rank" A.f_r
 RT:∀k,k < 8->Binds K A.UG ["self"] []
 adi:Fun K "kind" "Matter.kind" gv A.YJ A.Ro
 adj:Fun K "kind" "Change.kind" gw A.YK A.Rp
 adk:Fun K "kind" "Mend.kind" ju A.YL A.Rq
 adl:Fun K "kind" "PutOff.kind" gx A.YM A.Rt
 adn:Fun K "kind" "Close.kind" iB A.YN A.Ru
 ado:Fun K "kind" "Lay.kind" kH A.YO A.Rv
 adp:Fun K "kind" "Rest.kind" jv A.YQ A.Rw
 adq:Fun K "kind" "Point.kind" iC A.YR A.Rx
 F_r:Fun K "rank" "Motion.rank" gy A.f_r A.UG
 F_n:Fun K "need" "Motion.need" gz A.f_n A.G8
 ads:Fun K "need" "Close.need" iD A.YS A.Ry
 F_t:Fun K "told" "Motion.told" gA A.f_t A.Rz
 adt:Fun K "told" "Matter.told" gB A.YT A.RA
 adu:Fun K "told" "Change.told" gC A.YU A.RB
 adv:Fun K "told" "Mend.told" jw A.YV A.RC
 adw:Fun K "told" "PutOff.told" gD A.YW A.RD
 adx:Fun K "told" "Point.told" iE A.YX A.RE
 ady:Fun K "__init__" "Matter.__init__" gF A.YY A.RF
 adz:Fun K "__init__" "Change.__init__" gG A.YZ A.RG
 adA:Fun K "__init__" "Mend.__init__" jx A.Y0 A.RH
 adB:Fun K "__init__" "PutOff.__init__" gH A.Y1 A.RI
 adC:Fun K "__init__" "Point.__init__" iF A.Y2 A.RJ
 yZ:Mk K (A.C 0) A.YY
 UH:Binds K A.RF ["self","text"] []
 na0:eI K (A.C 0) "text"
 y3:Mk K (A.C 1) A.YZ
 UI:Binds K A.RG ["self","edit"] []
 na1:eI K (A.C 1) "edit"
 Mi:Mk K (A.C 2) A.Y0
 Y3:Binds K A.RH ["self","edit"] []
 na2:eI K (A.C 2) "edit"
 D2:Mk K (A.C 3) A.Y1
 Y4:Binds K A.RI ["self","sitting"] []
 na3:eI K (A.C 3) "sitting"
 He:Mk K (A.C 7) A.Y2
 Y5:Binds K A.RJ ["self","clause"] []
 na7:eI K (A.C 7) "clause"
 mkn:∀k,k=4\/k=5\/k=6->MkN K (A.C k)
 wI:mg "Chamber"=some (.ref A.ao)
 ah:Cls K A.ao
 ie:Fun K "__init__" "Chamber.__init__" fL A.cO A.mD
 fS:Binds K A.mD ["self","seats"] []
 wJ:Mk K A.ao A.cO
 ig:Fun K "move" "Chamber.move" fM A.cP A.mE
 jX:Binds K A.mE ["self","told"] []
 vn:Meth K A.ao "move" A.cP
 ij:Fun K "vote" "Chamber.vote" fN A.cQ A.mF
 jY:Binds K A.mF ["self","ayes","noes"] []
 vo:Meth K A.ao "vote" A.cQ
 il:Fun K "drop" "Chamber.drop" fO A.cS A.mG
 jZ:Binds K A.mG ["self"] []
 vp:Meth K A.ao "drop" A.cS
 ip:Fun K "take" "Chamber.take" fP A.cT A.mH
 j3:Binds K A.mH ["self","number"] []
 vq:Meth K A.ao "take" A.cT
 eM:Fun K "in_order" "Chamber.in_order" dA A.bS A.iT
 eO:Binds K A.iT ["self"] []
 jm:Meth K A.ao "in_order" A.bS
 gj:Fun K "state" "Chamber.state" d5 A.cc A.iJ
 gk:Binds K A.iJ ["self"] []
 mL:Meth K A.ao "state" A.cc
 fU:Fun K "motion" "Chamber.motion" eB A.bW A.gX
 iL:Binds K A.gX ["self","number"] []
 rB:Meth K A.ao "motion" A.bW
 cU:Fun K "kept_changes" "Chamber.kept_changes" cg A.bq A.dS
 cV:Binds K A.dS ["self","number"] []
 gf:Meth K A.ao "kept_changes" A.bq
 dN:Fun K "first_text" "Chamber.first_text" cD A.bC A.eQ
 dO:Binds K A.eQ ["self","number"] []
 iq:Meth K A.ao "first_text" A.bC
 fg:Fun K "minutes" "Chamber.minutes" dR A.bD A.dE
 dW:Binds K A.dE ["self"] []
 gY:Meth K A.ao "minutes" A.bD
 fh:Fun K "pending" "Chamber.pending" cN A.bZ A.jj
 dX:Binds K A.jj ["self"] []
 gZ:Meth K A.ao "pending" A.bZ
 dP:Fun K "told_aside" "Chamber.told_aside" cE A.bK A.gQ
 fj:Binds K A.gQ ["self","number"] []
 l7:Meth K A.ao "told_aside" A.bK
 bP:Fun K "require_can_be_made" "Chamber.require_can_be_made" bH A.bc A.dF
 cx:Binds K A.dF ["self","told"] []
 f6:Meth K A.ao "require_can_be_made" A.bc
 cv:Fun K "require_pending" "Chamber.require_pending" bQ A.bj A.eL
 cw:Binds K A.eL ["self"] []
 eU:Meth K A.ao "require_pending" A.bj
 cy:Fun K "require_matter" "Chamber.require_matter" bV A.br A.eT
 cz:Binds K A.eT ["self","number"] []
 fF:Meth K A.ao "require_matter" A.br
 fV:Fun K "decide" "Chamber.decide" eC A.cu A.jW
 fW:Binds K A.jW ["self","word"] []
 k9:Meth K A.ao "decide" A.cu
 cW:Fun K "end_decision" "Chamber.end_decision" cq A.bA A.fR
 cX:Binds K A.fR ["self","deed"] []
 gg:Meth K A.ao "end_decision" A.bA
 d7:Fun K "carry_out" "Chamber.carry_out" cY A.bM A.ib
 fH:Binds K A.ib ["self","motion"] []
 mT:Meth K A.ao "carry_out" A.bM
 cF:Fun K "lay_on_matter" "Chamber.lay_on_matter" b5 A.bu A.fB
 dY:Binds K A.fB ["self","edit"] []
 jG:Meth K A.ao "lay_on_matter" A.bu
 cG:Fun K "lay_on_change" "Chamber.lay_on_change" b6 A.bw A.fD
 dZ:Binds K A.fD ["self","edit"] []
 jH:Meth K A.ao "lay_on_change" A.bw
 d8:Fun K "put_aside" "Chamber.put_aside" cZ A.bN A.ic
 d9:Binds K A.ic ["self","until"] []
 iW:Meth K A.ao "put_aside" A.bN
 jqs:eI K A.ao "seats"
 jq1:eI K A.ao "sitting"
 jq3:eI K A.ao "closed"
 jq2:eI K A.ao "made"
 jq0:eI K A.ao "pile"
 jq5:eI K A.ao "aside"
 jqk:eI K A.ao "decided"
 jq4:eI K A.ao "first_texts"
 jq6:eI K A.ao "edits_kept"
 jqc:eI K A.ao "rows"
 fX:mg "ChamberError"=some (.ref A.bL)
 Oe:mg "NoFit"=some (.ref A.wC)
 D4:mg "Barred"=some (.ref A.u3)
 D5:mg "NoMatter"=some (.ref A.sX)
 D6:mg "NoChange"=some (.ref A.sY)
 D7:mg "NotLater"=some (.ref A.n9)
 FX:mg "Nothing"=some (.ref A.rq)
 FY:mg "TooMany"=some (.ref A.wD)
 FZ:mg "NoAside"=some (.ref A.wF)
 IT:mg "NotYet"=some (.ref A.u4)
 xO:mg "NoNumber"=some (.ref A.sZ)
 Of:mg "NoRow"=some (.ref A.yP)
 gm:Wo K A.bL
 IU:Iv K A.wC
 jqo:anp K (.ref A.wC) (.ref A.bL)=some true
 Bw:Iv K A.sX
 jqd:anp K (.ref A.sX) (.ref A.bL)=some true
 Bx:Iv K A.sY
 jqe:anp K (.ref A.sY) (.ref A.bL)=some true
 D8:Iv K A.rq
 jqh:anp K (.ref A.rq) (.ref A.bL)=some true
 D9:Iv K A.wD
 jqi:anp K (.ref A.wD) (.ref A.bL)=some true
 Ea:Iv K A.wF
 jqj:anp K (.ref A.wF) (.ref A.bL)=some true
 vt:Iv K A.sZ
 jqf:anp K (.ref A.sZ) (.ref A.bL)=some true
 oo:Fun K "__init__" "Barred.__init__" gI A.DN A.Au
 oq:Binds K A.Au ["self","bar"] []
 rC:ES K A.u3 A.DN "bar"
 jql:anp K (.ref A.u3) (.ref A.bL)=some true
 j4:Fun K "__init__" "NotLater.__init__" eV A.xM A.u5
 m8:Binds K A.u5 ["self","sitting"] []
 qc:ES K A.n9 A.xM "sitting"
 jqg:anp K (.ref A.n9) (.ref A.bL)=some true
 ot:Fun K "__init__" "NotYet.__init__" gJ A.DO A.Av
 tE:Binds K A.Av ["self","sitting"] []
 wK:ES K A.u4 A.DO "sitting"
 jqm:anp K (.ref A.u4) (.ref A.bL)=some true
 rD:Fun K "__init__" "NoRow.__init__" iG A.G9 A.DP
 wL:Binds K A.DP ["self","row"] []
 y4:ES K A.yP A.G9 "row"
 jqr:anp K (.ref A.yP) (.ref A.bL)=some true
theorem sl (n:Nat)(h:n<=64:=by decide):n<=gr:=si h (by decide)
abbrev bl1:Str:=ar " "
def Asc (x:Str):Prop:=∀c∈x.cps.toList,c < 128
theorem Asc.ok {x:Str}(h:Asc x):am8 x=true:=by
 unfold am8;rw[Array.all_eq_true];intro i hi;have:=h x.cps[i] (by simp)
 exact decide_eq_true (by omega)
theorem ou {sep:Str}(hs:Asc sep):∀ws:List Str,(∀w∈ws,Asc w)->Asc (km sep ws)
 |[],_=>λc hc=>by
  have:c∈([]:List Nat):=hc;cases this
 |[x],h=>h x kb
 |x::y::r,h=>λc hc=>by
  have hc':c∈((x++sep)++km sep (y::r)).cps.toList:=hc;rw[eJ,eJ,aoP,aoP]at hc';rcases hc' with (h1 | h1) | h1
  ·exact h x kb c h1
  ·exact hs c h1
  ·exact ou hs (y::r) (λw hw=>h w (kq _ hw)) c h1
structure Sh (n:Nat)(x:Str):Prop where
 asc:Asc x
 len:x.length<=n
structure Ed where
 k:Nat
 at_:Int
 th:Str
def kn:Nat->Str
 | 0=>ar "put"
 | 1=>ar "cut"
 |_=>ar "turn"
def iN (e:Ed):List V:=match e.k with
 | 0=>[.str (kn 0),.int e.at_,.str e.th]
 | 1=>[.str (kn 1),.int e.at_]
 |_=>[.str (kn 2),.int e.at_,.str e.th]
def edD (e:Ed):PyData:=match e.k with
 | 0=>.tuple [.str (kn 0),.int e.at_,.str e.th]
 | 1=>.tuple [.str (kn 1),.int e.at_]
 |_=>.tuple [.str (kn 2),.int e.at_,.str e.th]
structure y6 (e:Ed):Prop where
 k3:e.k=0\/e.k=1\/e.k=2
 lo:-1000<=e.at_
 hi:e.at_<=1000
 th:Sh 100000 e.th
def gs (n:Nat)(e:Ed):Bool:=decide (0<=e.at_) && decide (e.at_ < (n:Int)+(if e.k=0 then 1 else 0))
def b9 (xs:List Str)(e:Ed):List Str:=match e.k with
 | 0=>xs.take e.at_.toNat++e.th::xs.drop e.at_.toNat
 | 1=>xs.eraseIdx e.at_.toNat
 |_=>xs.set e.at_.toNat e.th
theorem Hf (e:Ed):atI (iN e) 0=some (.str (kn e.k)):=by
 unfold iN;split
 ·rename_i h;rw[h];rfl
 ·rename_i h;rw[h];rfl
 ·rename_i h1 h2;have:kn e.k=kn 2:=by
   unfold kn;split
   ·rename_i h;exact absurd h h1
   ·rename_i h;exact absurd h h2
   ·rfl
  rw[this];rfl
theorem Hg (e:Ed):atI (iN e) 1=some (.int e.at_):=by
 unfold iN;split <;> rfl
theorem Hh {e:Ed}(h:e.k≠1):atI (iN e) 2=some (.str e.th):=by
 unfold iN;split
 ·rfl
 ·rename_i z;exact absurd z h
 ·rfl
theorem Eb (e:Ed){K:ba}{H:Hp}{t:Addr}(h:SqT K H t (iN e)):DV K H (edD e) (.ref t):=by
 unfold iN at h;unfold edD;split
 ·rename_i z;rw[z]at h;unfold DV;exact⟨t,_,rfl,h,by unfold DVs;exact⟨_,_,rfl,by unfold DV;rfl,by unfold DVs;exact⟨_,_,rfl,by unfold DV;rfl,by unfold DVs;exact⟨_,_,rfl,by unfold DV;rfl,by unfold DVs;rfl⟩⟩⟩⟩
 ·rename_i z;rw[z]at h;unfold DV;exact⟨t,_,rfl,h,by unfold DVs;exact⟨_,_,rfl,by unfold DV;rfl,by unfold DVs;exact⟨_,_,rfl,by unfold DV;rfl,by unfold DVs;rfl⟩⟩⟩
 ·rename_i z1 z2;split at h
  ·rename_i z;exact absurd z z1
  ·rename_i z;exact absurd z z2
  ·unfold DV;exact⟨t,_,rfl,h,by unfold DVs;exact⟨_,_,rfl,by unfold DV;rfl,by unfold DVs;exact⟨_,_,rfl,by unfold DV;rfl,by unfold DVs;exact⟨_,_,rfl,by unfold DV;rfl,by unfold DVs;rfl⟩⟩⟩⟩
theorem F0 {i:Int}(h0:-1000<=i)(h1:i<=1000):i.natAbs.log2 < 1920:=by
 have h:i.natAbs < 2 ^ 10:=by omega
 by_cases hz:i.natAbs=0
 ·rw[hz];decide
 ·exact Nat.lt_trans ((Nat.log2_lt hz).mpr h) (by decide)
theorem RU {e:Ed}(o:y6 e):(edD e).showable=true/\(edD e).hasDict=false/\(edD e).depth<=60:=by
 have lg:=F0 o.lo o.hi;unfold edD;split <;> simp[PyData.showable,PyData.showableAll,PyData.hasDict,PyData.hasDictAll,anl,ani,lg]
theorem UJ {i:Int}(h0:-1000<=i)(h1:i<=1000):(ar (toString i)).length<=1921:=by
 have h:=int_text_length_le (a:=i) (k:=1920) (by decide) (F0 h0 h1)
 have e:(ar (toString i)).length=(toString i).length:=by first | exact PySem.ofString_length _ | exact ofString_length _
 omega
theorem Sh.rep {n:Nat}{x:Str}(s:Sh n x):(reprText x).length<=10 * n+2:=by
 have h:=StrLaws.reprText_len x λc hc=>Nat.lt_trans (s.asc c hc) (by decide)
 have:=s.len;omega
theorem RV (k:Nat):Sh 4 (kn k):=by
 unfold kn;split <;> exact⟨by unfold Asc;trivial,by trivial⟩
theorem UK {e:Ed}(o:y6 e):(edD e).shown.length<=1100000:=by
 have a:=(RV 0).rep;have b:=(RV 1).rep;have c:=(RV 2).rep;have d:=o.th.rep;have i:=UJ o.lo o.hi;unfold edD;split
 ·have h:=tupleText_len_le [reprText (kn 0),ar (toString e.at_),reprText e.th];simp only[ku,aom,List.sum_cons,List.sum_nil,tm,List.length_nil]at h;show (tupleText [reprText (kn 0),ar (toString e.at_),reprText e.th]).length<=_;omega
 ·have h:=tupleText_len_le [reprText (kn 1),ar (toString e.at_)];simp only[ku,aom,List.sum_cons,List.sum_nil,tm,List.length_nil]at h;show (tupleText [reprText (kn 1),ar (toString e.at_)]).length<=_;omega
 ·have h:=tupleText_len_le [reprText (kn 2),ar (toString e.at_),reprText e.th];simp only[ku,aom,List.sum_cons,List.sum_nil,tm,List.length_nil]at h;show (tupleText [reprText (kn 2),ar (toString e.at_),reprText e.th]).length<=_;omega
theorem Hi {e:Ed}(o:y6 e):(V.str (kn e.k)=V.str (ar "put"))↔e.k=0:=by
 rcases o.k3 with h | h | h <;> rw[h] <;> trivial
theorem AF {e:Ed}(o:y6 e):(V.str (kn e.k)=V.str (ar "cut"))↔e.k=1:=by
 rcases o.k3 with h | h | h <;> rw[h] <;> trivial
def Y6 (K:ba):Sp:=λvs H Q _=>∃(a t:Addr) (xs:List V) (e:Ed),vs=[.ref a,.ref t]/\SqL K H a xs/\SqT K H t (iN e)/\y6 e/\Q (.bl (gs xs.length e)) H
def adD (A:Adr)(K:ba):Sp:=λvs H Q E=>∃(a t:Addr) (xs:List V) (e:Ed),vs=[.ref a,.ref t]/\SqL K H a xs/\SqT K H t (iN e)/\y6 e/\(gs xs.length e=true->Q .non H)/\(gs xs.length e=false->E (.ref A.wC) none H)
def Y7 (A:Adr)(K:ba):Sp:=λvs H Q E=>∃(a t:Addr) (xs:List Str) (e:Ed),vs=[.ref a,.ref t]/\SqL K H a (xs.map V.str)/\xs.length<=1000/\SqT K H t (iN e)/\y6 e /\
 (gs xs.length e=true->∀p,H p=none->Q (.ref p) (upd H p (.lst ((b9 xs e).map V.str))))/\(gs xs.length e=false->E (.ref A.wC) none H)
theorem IV {n:Nat}{e:Ed}:gs n e=true↔0<=e.at_/\e.at_ < (n:Int)+(if e.k=0 then 1 else 0):=by
 unfold gs;rw[anA,decide_eq_true_iff,decide_eq_true_iff]
section
variable{P:rf}{w:World}{K:ba}{mg:Str->Option Value}{base:Heap}{A:Adr}
theorem RW {H H':Hp}{t:Addr}{xs:List V}(s:a9 H H')(h:SqT K H t xs):SqT K H' t xs:=by
 rcases h with (h | ⟨o,h⟩) | h
 ·exact .inl (.inl (s _ _ h))
 ·exact .inl (.inr ⟨o,s _ _ h⟩)
 ·exact .inr h
theorem UL (T:Txt w.params K mg A):aT P w K mg base CX0 1 A.fits A.GZ ["things","edit"] (Y6 K):=by
 refine T.Mb.ok GR (λvs H Q E h=>?_) (λcdv A' outer s H vs Q E hr h=>?_)
 ·obtain⟨a,t,xs,e,rfl,_⟩:=h;rfl
 ·obtain⟨a,t,xs,e,rfl,ha,ht,o,q⟩:=h;refine⟨_,(ak (bh (i:=2) GR.nd rfl (anq rfl) (bT cf (by rfl) T.l6 iR (aa (pv 0) ag)))
 (ak (bJ (aJ bF (aZ bx (pv 1) ai (λ_ _=>rfl)) aq (aK _))
 (aj (bh (i:=2) GR.nd rfl (anq rfl) (bY fJ (pv 2) ai)))
 aI)
 (aj (aG (yA Ba C9 ai (aZ bx (pv 1) ai (λ_ _=>rfl)) (pv 2)))))),?_⟩
  try dsimp only[bE]
  refine⟨_,rfl,a,xs,rfl,.inl ha,?_⟩;refine ixv rfl ht (Hf e) ⟨rfl,_,rfl,iY (λz=>?_) (λz=>?_)⟩
  ·have hk:e.k=0:=(Hi o).mp (of_decide_eq_true z);refine⟨_,rfl,_,_,rfl,rfl,?_⟩;unfold gs at q;rw[if_pos hk]at q;refine ixv rfl ht (Hg e) ⟨_,_,rfl,rfl,_,rfl,iY (λz1=>?_) (λz1=>?_)⟩
   ·have h1:0<=e.at_:=of_decide_eq_true z1;rw[decide_eq_true h1,Bool.true_and]at q;exact⟨_,rfl,_,_,rfl,rfl,q⟩
   ·have h1:¬0<=e.at_:=λy=>z1 (decide_eq_true y)
    rw[decide_eq_false h1,Bool.false_and]at q;exact q
  ·have hk:¬e.k=0:=λy=>z (decide_eq_true ((Hi o).mpr y))
   unfold gs at q;rw[if_neg hk,Int.add_zero]at q;refine ixv rfl ht (Hg e) ⟨_,_,rfl,rfl,_,rfl,iY (λz1=>?_) (λz1=>?_)⟩
   ·have h1:0<=e.at_:=of_decide_eq_true z1;rw[decide_eq_true h1,Bool.true_and]at q;exact⟨_,rfl,_,_,rfl,rfl,q⟩
   ·have h1:¬0<=e.at_:=λy=>z1 (decide_eq_true y)
    rw[decide_eq_false h1,Bool.false_and]at q;exact q
theorem ox (T:Txt w.params K mg A):aT P w K mg base (CXX P w) 2 A.uW A.nW ["things","edit"] (adD A K):=by
 refine T.i3.okX DE (λvs H Q E h=>?_) (λcdv A' outer s H vs Q E hr h=>?_)
 ·obtain⟨a,t,xs,e,rfl,_⟩:=h;rfl
 ·obtain⟨a,t,xs,e,rfl,ha,ht,o,q1,q2⟩:=h;have hgd:=hr.gd;have pE:=hr.units;refine⟨_,(aO (du (jf (iP (bb (UL T) hr rfl T.RL T.Mb.kp T.RK .nil aW (aa (pv 0) (aa (pv 1) ag)))))
 (aO (jt T.IU rfl rfl T.Oe (aa (acZ hgd pE (pv 1)) ag)))
 (mY aI))),?_⟩
  try dsimp only[bE]
  refine⟨_,rfl,_,rfl,a,t,xs,e,rfl,ha,ht,o,_,rfl,?_⟩;cases hf:gs xs.length e with
  |true=>exact et (q1 hf)
  |false =>
   refine aS λGq gq=>?_
   obtain⟨s1,s2,s3⟩:=RU o;have s4:=UK o;refine gq ?_;refine iQ ⟨_,rfl,t,edD e,rfl,Eb e ht,s1,s2,s3,si (Nat.add_le_add_right s4 _) (by trivial),λz=>?_⟩
   exact⟨(sl 1),q2 hf⟩
theorem Og (T:Txt w.params K mg A):aT P w K mg base (CXX P w) 3 A.laid A.G0 ["things","edit"] (Y7 A K):=by
 refine T.Ha.okX CV (λvs H Q E h=>?_) (λcdv A' outer s H vs Q E hr h=>?_)
 ·obtain⟨a,t,xs,e,rfl,_⟩:=h;rfl
 ·obtain⟨a,t,xs,e,rfl,ha,hz,ht,o,q1,q2⟩:=h;refine⟨_,(au (b8 (bB (ox T) hr rfl T.lR T.i3.kp T.lQ (pax (aa (pv 0) (aa (pv 1) ag)))))
 (au (psx (bh (i:=2) CV.nd rfl (anq rfl) (aZ bx (pv 1) ai (λ_ _=>rfl))))
 (au (psx (bh (i:=3) CV.nd rfl (anq rfl) (aZ bx (pv 1) ai (λ_ _=>rfl))))
 (au (psx (bh (i:=4) CV.nd rfl (anq rfl) (dQ cM (by rfl) T.kZ jb (aa (pv 0) ag))))
 (au (psx (bJ (aJ bF (pv 2) aq (aK _))
 (aj (bR (js am9 PySem.F.slot_list_insert PySem.F.type_list_insert O6 (pv 4) (aa (pv 3) (aa (aZ bx (pv 1) ai (λ_ _=>rfl)) ag)))))
 (aj (bJ (aJ bF (pv 2) aq (aK _))
 (aj (bR (js am9 PySem.F.slot_list_pop PySem.F.type_list_pop QQ (pv 4) (aa (pv 3) ag))))
 (aj (XY (aZ bx (pv 1) ai (λ_ _=>rfl)) (XW (pv 4) (pv 3) set_list)))))))
 (aO (psx (aG (pv 4))))))))),?_⟩
  try dsimp only[bE]
  refine⟨_,rfl,_,rfl,a,t,_,e,rfl,ha,ht,o,λhf=>?_,λhf=>q2 (by rw[bo]at hf;exact hf)⟩
  refine aS λGq gq=>?_
  rw[bo]at hf;obtain⟨f0,f1⟩:=IV.mp hf;have q:=q1 hf;have lim:(1001:Nat) < gr:=by decide
  obtain⟨n,hn⟩:∃n:Nat,e.at_=(n:Int):=⟨e.at_.toNat,by omega⟩
  refine gq ?_;refine ixv rfl ht (Hf e) ?_;refine ixv rfl ht (Hg e) ?_;refine⟨_,rfl,a,_,rfl,.inl ha,λp hp=>?_⟩
  have sp:a9 H (upd H p (.lst (xs.map V.str))):=aB hp;have ht':=RW sp ht;have q:=q p hp;rw[hn];rw[hn]at f1;refine⟨_,rfl,rfl,_,rfl,iY (λz=>?_) (λz=>?_)⟩
  ·have hk:e.k=0:=(Hi o).mp (of_decide_eq_true z);rw[if_pos hk]at f1;refine⟨_,rfl,.inl ⟨rfl,_,SqL.of ae⟩,_,rfl,ixv rfl ht' (Hh (by omega)) ⟨p,_,_,n,_,rfl,rfl,rfl,ae,(by rw[bo];omega),(by rw[bo];omega),?_⟩⟩
   rw[pN];refine⟨_,rfl,?_⟩;have e1:(b9 xs e).map V.str=(xs.map V.str).take n++V.str e.th::(xs.map V.str).drop n:=by
    unfold b9;rw[hk,hn];simp
   rw[e1]at q;exact q
  ·have hk0:¬e.k=0:=λy=>z (decide_eq_true ((Hi o).mpr y))
   rw[if_neg hk0,Int.add_zero]at f1;have hlt:n < xs.length:=by omega
   refine⟨_,rfl,rfl,_,rfl,iY (λz2=>?_) (λz2=>?_)⟩
   ·have hk:e.k=1:=(AF o).mp (of_decide_eq_true z2);refine⟨_,rfl,.inl ⟨rfl,_,SqL.of ae⟩,_,rfl,p,_,(n:Int),n,_,rfl,rfl,ae,by omega,by omega,?_,(by rw[anm (by rw[bo];exact hlt)]),?_⟩
    ·rw[bo];exact(Gv (by unfold ixN;rw[if_pos (by omega),if_pos (by omega)];rfl)).1
    ·rw[pN];refine⟨_,rfl,?_⟩;have e1:(b9 xs e).map V.str=(xs.map V.str).eraseIdx n:=by
      unfold b9;rw[hk,hn];exact FA V.str xs _
     rw[e1]at q;exact q
   ·have hk1:¬e.k=1:=λy=>z2 (decide_eq_true ((AF o).mpr y))
    have hk:e.k=2:=by have:=o.k3;omega
    refine ixv rfl ht' (Hh (by omega)) ⟨_,rfl,_,rfl,p,_,(n:Int),n,rfl,rfl,ae,?_,?_⟩
    ·rw[bo];unfold ixN;rw[if_pos (by omega),if_pos (by omega)];rfl
    ·rw[pN];refine⟨_,rfl,?_⟩;have e1:(b9 xs e).map V.str=(xs.map V.str).set n (V.str e.th):=by
      unfold b9;rw[hk,hn];simp[List.map_set]
     rw[e1]at q;exact q
end
mutual
theorem eqv_refl:∀d:PyData,d.canLay0=true->aoH d d=true
 | .none,_=>by simp[aoH]
 | .bool _,_=>by simp[aoH]
 | .int _,_=>by simp[aoH]
 | .str _,_=>by simp[aoH]
 | .list xs,h=>by simp only[aoH];exact eqvAll_refl xs (by simpa [ana] using h)
 | .tuple xs,h=>by simp only[aoH];exact eqvAll_refl xs (by simpa [ana] using h)
 | .dict _,h=>by simp[ana]at h
theorem eqvAll_refl:∀xs:List PyData,sr xs=true->PyData.eqvAll xs xs=true
 |[],_=>by simp[PyData.eqvAll]
 |x::xs,h=>by
  have h':x.canLay0=true/\sr xs=true:=by simpa [sr] using h
  simp only[PyData.eqvAll,eqv_refl x h'.1,eqvAll_refl xs h'.2,anH]
end
theorem y7:∀k,k < 8->am8 (nm k)=true
 | 0,_=>by trivial
 | 1,_=>by trivial
 | 2,_=>by trivial
 | 3,_=>by trivial
 | 4,_=>by trivial
 | 5,_=>by trivial
 | 6,_=>by trivial
 | 7,_=>by trivial
 |n+8,h=>absurd h (by omega)
def nd (k:Nat):Str:=if k=4 then ar "two thirds" else ar "more"
def rowOf (k:Nat)(v:V):List V:=match k with
 | 4=>[.str (nm 4)]
 | 5=>[.str (nm 5)]
 | 6=>[.str (nm 6)]
 |k=>[.str (nm k),v]
def rF (k:Nat)(v:V):List (Str×V):=match k with
 | 0=>[(ar "text",v)]
 | 1=>[(ar "edit",v)]
 | 2=>[(ar "edit",v)]
 | 3=>[(ar "sitting",v)]
 | 4=>[]
 | 5=>[]
 | 6=>[]
 |_=>[(ar "clause",v)]
theorem Oh {m:Str}(h:m≠ar "text"/\m≠ar "edit"/\m≠ar "sitting"/\m≠ar "clause")(k:Nat)(v:V):(rF k v).lookup m=none:=by
 obtain⟨h1,h2,h3,h4⟩:=h;have b1:(m == ar "text")=false:=beq_eq_false_iff_ne.mpr h1;have b2:(m == ar "edit")=false:=beq_eq_false_iff_ne.mpr h2;have b3:(m == ar "sitting")=false:=beq_eq_false_iff_ne.mpr h3;have b4:(m == ar "clause")=false:=beq_eq_false_iff_ne.mpr h4;unfold rF;split <;> simp[List.lookup_cons,b1,b2,b3,b4]
theorem m9 (k:Nat)(v:V):(rF k v).lookup (ar "kind")=none:=Oh (by trivial) k v
theorem UM (k:Nat)(v:V):(rF k v).lookup (ar "rank")=none:=Oh (by trivial) k v
theorem UN (k:Nat)(v:V):(rF k v).lookup (ar "need")=none:=Oh (by trivial) k v
theorem Oi (k:Nat)(v:V):(rF k v).lookup (ar "told")=none:=Oh (by trivial) k v
def gS (k:Nat):Sp:=λvs H Q _=>∃m:Addr,vs=[.ref m]/\Q (.str (nm k)) H
def RX (A:Adr):Sp:=λvs H Q _=>∃(m:Addr) (k:Nat) (dx:Addr) (fs:List (Str×V)),k < 8/\vs=[.ref m]/\H m=some (.ins (A.C k) dx fs)/\fs.lookup (ar "kind")=none/\Q (.int k) H
def Hl (k:Nat):Sp:=λvs H Q _=>∃m:Addr,vs=[.ref m]/\Q (.str (nd k)) H
def Oj (A:Adr):Sp:=λvs H Q _=>∃(m:Addr) (k:Nat) (dx:Addr) (fs:List (Str×V)),k < 8/\vs=[.ref m]/\H m=some (.ins (A.C k) dx fs)/\fs.lookup (ar "kind")=none/\∀p,H p=none->Q (.ref p) (upd H p (.tup [.str (nm k)]))
def CZ (A:Adr)(k:Nat)(a:Str):Sp:=λvs H Q _=>∃(m dx:Addr) (fs:List (Str×V)) (v:V),vs=[.ref m]/\H m=some (.ins (A.C k) dx fs)/\fs.lookup (ar "kind")=none/\fs.lookup a=some v/\∀p,H p=none->Q (.ref p) (upd H p (.tup [.str (nm k),v]))
def Mj (A:Adr)(k:Nat):Sp:=λvs H Q _=>1<=k/\∃(m dx:Addr) (v:V),vs=[.ref m]/\H m=some (.ins (A.C k) dx (rF k v))/\∀p,H p=none->Q (.ref p) (upd H p (.tup (rowOf k v)))
def Hm (A:Adr)(k:Nat):Sp:=λvs H Q _=>∃(m dx:Addr) (v:V),vs=[.ref m,v]/\H m=some (.ins (A.C k) dx [])/\Q .non (upd H m (.ins (A.C k) dx (rF k v)))
def Ol (A:Adr)(K:ba):Sp:=λvs H Q _=>∃(m dx L:Addr) (xs:List V),vs=[.ref m]/\H m=some (.ins (A.C 0) dx (rF 0 (.ref L)))/\SqL K H L xs/\∀p q,H p=none->H q=none->p≠q->Q (.ref q) (upd (upd H p (.lst xs)) q (.tup [.str (nm 0),.ref p]))
def UO (A:Adr)(K:ba):Sp:=λvs H Q _=>∃(m dx L:Addr) (xs:List V),vs=[.ref m,.ref L]/\H m=some (.ins (A.C 0) dx [])/\SqL K H L xs/\∀p,H p=none->Q .non (upd (upd H p (.lst xs)) m (.ins (A.C 0) dx (rF 0 (.ref p))))
def Om (A:Adr):Sp:=λvs H Q _=>∃(t:Addr) (k:Nat) (v:V),1<=k/\k < 8/\vs=[.ref t]/\H t=some (.tup (rowOf k v))/\∀m H',a9 H H'->H m=none->(∃dx,H' m=some (.ins (A.C k) dx (rF k v)))->Q (.ref m) H'
def IW (A:Adr)(K:ba):Sp:=λvs H Q _=>∃(t L:Addr) (xs:List V),vs=[.ref t]/\H t=some (.tup [.str (nm 0),.ref L])/\SqL K H L xs /\
 ∀m p H',a9 H H'->H m=none->H p=none->H' p=some (.lst xs)->(∃dx,H' m=some (.ins (A.C 0) dx (rF 0 (.ref p))))->Q (.ref m) H'
section
variable{P:rf}{w:World}{K:ba}{mg:Str->Option Value}{base:Heap}{A:Adr}
theorem Ec (T:Txt w.params K mg A):aT P w K mg base CX0 1 A.YJ A.Ro ["self"] (gS 0):=by
 refine T.adi.ok Dq (λvs H Q E h=>?_) (λcdv A' outer s H vs Q E hr h=>?_)
 ·obtain⟨m,rfl,_⟩:=h;rfl
 ·obtain⟨m,rfl,q⟩:=h;exact⟨_,(aj (aG aq)),q⟩
theorem Ee (T:Txt w.params K mg A):aT P w K mg base CX0 1 A.YK A.Rp ["self"] (gS 1):=by
 refine T.adj.ok Dr (λvs H Q E h=>?_) (λcdv A' outer s H vs Q E hr h=>?_)
 ·obtain⟨m,rfl,_⟩:=h;rfl
 ·obtain⟨m,rfl,q⟩:=h;exact⟨_,(aj (aG aq)),q⟩
theorem Hn (T:Txt w.params K mg A):aT P w K mg base CX0 1 A.YL A.Rq ["self"] (gS 2):=by
 refine T.adk.ok GN (λvs H Q E h=>?_) (λcdv A' outer s H vs Q E hr h=>?_)
 ·obtain⟨m,rfl,_⟩:=h;rfl
 ·obtain⟨m,rfl,q⟩:=h;exact⟨_,(aj (aG aq)),q⟩
theorem Eg (T:Txt w.params K mg A):aT P w K mg base CX0 1 A.YM A.Rt ["self"] (gS 3):=by
 refine T.adl.ok Ds (λvs H Q E h=>?_) (λcdv A' outer s H vs Q E hr h=>?_)
 ·obtain⟨m,rfl,_⟩:=h;rfl
 ·obtain⟨m,rfl,q⟩:=h;exact⟨_,(aj (aG aq)),q⟩
theorem E2 (T:Txt w.params K mg A):aT P w K mg base CX0 1 A.YN A.Ru ["self"] (gS 4):=by
 refine T.adn.ok ET (λvs H Q E h=>?_) (λcdv A' outer s H vs Q E hr h=>?_)
 ·obtain⟨m,rfl,_⟩:=h;rfl
 ·obtain⟨m,rfl,q⟩:=h;exact⟨_,(aj (aG aq)),q⟩
theorem IZ (T:Txt w.params K mg A):aT P w K mg base CX0 1 A.YO A.Rv ["self"] (gS 5):=by
 refine T.ado.ok IE (λvs H Q E h=>?_) (λcdv A' outer s H vs Q E hr h=>?_)
 ·obtain⟨m,rfl,_⟩:=h;rfl
 ·obtain⟨m,rfl,q⟩:=h;exact⟨_,(aj (aG aq)),q⟩
theorem Ho (T:Txt w.params K mg A):aT P w K mg base CX0 1 A.YQ A.Rw ["self"] (gS 6):=by
 refine T.adp.ok GO (λvs H Q E h=>?_) (λcdv A' outer s H vs Q E hr h=>?_)
 ·obtain⟨m,rfl,_⟩:=h;rfl
 ·obtain⟨m,rfl,q⟩:=h;exact⟨_,(aj (aG aq)),q⟩
theorem E3 (T:Txt w.params K mg A):aT P w K mg base CX0 1 A.YR A.Rx ["self"] (gS 7):=by
 refine T.adq.ok EU (λvs H Q E h=>?_) (λcdv A' outer s H vs Q E hr h=>?_)
 ·obtain⟨m,rfl,_⟩:=h;rfl
 ·obtain⟨m,rfl,q⟩:=h;exact⟨_,(aj (aG aq)),q⟩
theorem nc (T:Txt w.params K mg A):∀k,k < 8->aT P w K mg base CX0 1 (A.fk k) (A.fkd k) ["self"] (gS k)
 | 0,_=>Ec T
 | 1,_=>Ee T
 | 2,_=>Hn T
 | 3,_=>Eg T
 | 4,_=>E2 T
 | 5,_=>IZ T
 | 6,_=>Ho T
 | 7,_=>E3 T
 |n+8,h=>absurd h (by omega)
theorem UP (T:Txt w.params K mg A):aT P w K mg base CX0 2 A.f_r A.UG ["self"] (RX A):=by
 have ir:∀k,k < 8->aT P w K mg base CX0 1 (A.fk k) (A.fkd k) ["self"] (gS k):=nc T;refine T.F_r.ok Dt (λvs H Q E h=>?_) (λcdv A' outer s H vs Q E hr h=>?_)
 ·obtain⟨m,k,dx,fs,_,rfl,_⟩:=h;rfl
 ·obtain⟨m,k,dx,fs,hk,rfl,hm,hl,q⟩:=h;obtain⟨t,ht⟩:=T.rk k hk;refine⟨_,(aj (aG (aZ LQ (lL (v:=V.ref A.tab) rfl T.yY rfl) (dJ (pv 0) (T.cl k hk) (T.qu k hk) (ir k hk) hr (T.qv k hk) .nil aW) (λ_ _=>rfl)))),?_⟩
  try dsimp only[bE]
  exact⟨_,rfl,m,dx,fs,rfl,hm,hl,m,rfl,A.tab,nm k,.int k,_,rfl,rfl,T.tb,ht,⟨_,rfl⟩,q⟩
theorem AG (T:Txt w.params K mg A):aT P w K mg base CX0 2 A.f_t A.Rz ["self"] (Oj A):=by
 have ir:∀k,k < 8->aT P w K mg base CX0 1 (A.fk k) (A.fkd k) ["self"] (gS k):=nc T;refine T.F_t.ok Dv (λvs H Q E h=>?_) (λcdv A' outer s H vs Q E hr h=>?_)
 ·obtain⟨m,k,dx,fs,_,rfl,_⟩:=h;rfl
 ·obtain⟨m,k,dx,fs,hk,rfl,hm,hl,q⟩:=h;refine⟨_,(aj (aG (cI (aa (dJ (pv 0) (T.cl k hk) (T.qu k hk) (ir k hk) hr (T.qv k hk) .nil aW) ag)))),?_⟩
  try dsimp only[bE]
  exact⟨_,rfl,m,dx,fs,rfl,hm,hl,m,rfl,(sl 1),λp hp=>q p hp⟩
theorem Eh (T:Txt w.params K mg A):aT P w K mg base CX0 2 A.YU A.RB ["self"] (CZ A 1 "edit"):=by
 have ir:∀k,k < 8->aT P w K mg base CX0 1 (A.fk k) (A.fkd k) ["self"] (gS k):=nc T;refine T.adu.ok Dx (λvs H Q E h=>?_) (λcdv A' outer s H vs Q E hr h=>?_)
 ·obtain⟨m,dx,fs,v,rfl,_⟩:=h;rfl
 ·obtain⟨m,dx,fs,v,rfl,hm,hl,hv,q⟩:=h;obtain⟨k,hk,ek⟩:∃k,k < 8/\k=1:=⟨1,by decide,rfl⟩
  have hm':H m=some (.ins (A.C k) dx fs):=by rw[ek];exact hm
  refine⟨_,(aj (aG (cI (aa (dJ (pv 0) (T.cl k hk) (T.qu k hk) (ir k hk) hr (T.qv k hk) .nil aW) (aa (bf (pv 0) rfl) ag))))),?_⟩
  try dsimp only[bE]
  subst ek;exact⟨_,rfl,m,dx,fs,rfl,hm,hl,m,rfl,_,rfl,m,A.C 1,dx,fs,v,rfl,hm,T.cl 1 hk,T.na1,hv,(sl 2),λp hp=>q p hp⟩
theorem oy (T:Txt w.params K mg A):aT P w K mg base CX0 1 A.YZ A.RG ["self","edit"] (Hm A 1):=by
 refine T.adz.ok DA (λvs H Q E h=>?_) (λcdv A' outer s H vs Q E hr h=>?_)
 ·obtain⟨m,dx,v,rfl,_⟩:=h;rfl
 ·obtain⟨m,dx,v,rfl,hm,q⟩:=h;refine⟨_,(aj (fK (pv 0) (pv 1) rfl)),?_⟩
  try dsimp only[bE]
  exact⟨_,rfl,_,rfl,m,A.C 1,dx,[],rfl,hm,T.cl 1 (by decide),T.na1,by decide,q⟩
theorem Hq (T:Txt w.params K mg A):aT P w K mg base CX0 2 A.YV A.RC ["self"] (CZ A 2 "edit"):=by
 have ir:∀k,k < 8->aT P w K mg base CX0 1 (A.fk k) (A.fkd k) ["self"] (gS k):=nc T;refine T.adv.ok GP (λvs H Q E h=>?_) (λcdv A' outer s H vs Q E hr h=>?_)
 ·obtain⟨m,dx,fs,v,rfl,_⟩:=h;rfl
 ·obtain⟨m,dx,fs,v,rfl,hm,hl,hv,q⟩:=h;obtain⟨k,hk,ek⟩:∃k,k < 8/\k=2:=⟨2,by decide,rfl⟩
  have hm':H m=some (.ins (A.C k) dx fs):=by rw[ek];exact hm
  refine⟨_,(aj (aG (cI (aa (dJ (pv 0) (T.cl k hk) (T.qu k hk) (ir k hk) hr (T.qv k hk) .nil aW) (aa (bf (pv 0) rfl) ag))))),?_⟩
  try dsimp only[bE]
  subst ek;exact⟨_,rfl,m,dx,fs,rfl,hm,hl,m,rfl,_,rfl,m,A.C 2,dx,fs,v,rfl,hm,T.cl 2 hk,T.na2,hv,(sl 2),λp hp=>q p hp⟩
theorem y8 (T:Txt w.params K mg A):aT P w K mg base CX0 1 A.Y0 A.RH ["self","edit"] (Hm A 2):=by
 refine T.adA.ok GQ (λvs H Q E h=>?_) (λcdv A' outer s H vs Q E hr h=>?_)
 ·obtain⟨m,dx,v,rfl,_⟩:=h;rfl
 ·obtain⟨m,dx,v,rfl,hm,q⟩:=h;refine⟨_,(aj (fK (pv 0) (pv 1) rfl)),?_⟩
  try dsimp only[bE]
  exact⟨_,rfl,_,rfl,m,A.C 2,dx,[],rfl,hm,T.cl 2 (by decide),T.na2,by decide,q⟩
theorem Ei (T:Txt w.params K mg A):aT P w K mg base CX0 2 A.YW A.RD ["self"] (CZ A 3 "sitting"):=by
 have ir:∀k,k < 8->aT P w K mg base CX0 1 (A.fk k) (A.fkd k) ["self"] (gS k):=nc T;refine T.adw.ok Dy (λvs H Q E h=>?_) (λcdv A' outer s H vs Q E hr h=>?_)
 ·obtain⟨m,dx,fs,v,rfl,_⟩:=h;rfl
 ·obtain⟨m,dx,fs,v,rfl,hm,hl,hv,q⟩:=h;obtain⟨k,hk,ek⟩:∃k,k < 8/\k=3:=⟨3,by decide,rfl⟩
  have hm':H m=some (.ins (A.C k) dx fs):=by rw[ek];exact hm
  refine⟨_,(aj (aG (cI (aa (dJ (pv 0) (T.cl k hk) (T.qu k hk) (ir k hk) hr (T.qv k hk) .nil aW) (aa (bf (pv 0) rfl) ag))))),?_⟩
  try dsimp only[bE]
  subst ek;exact⟨_,rfl,m,dx,fs,rfl,hm,hl,m,rfl,_,rfl,m,A.C 3,dx,fs,v,rfl,hm,T.cl 3 hk,T.na3,hv,(sl 2),λp hp=>q p hp⟩
theorem vv (T:Txt w.params K mg A):aT P w K mg base CX0 1 A.Y1 A.RI ["self","sitting"] (Hm A 3):=by
 refine T.adB.ok DB (λvs H Q E h=>?_) (λcdv A' outer s H vs Q E hr h=>?_)
 ·obtain⟨m,dx,v,rfl,_⟩:=h;rfl
 ·obtain⟨m,dx,v,rfl,hm,q⟩:=h;refine⟨_,(aj (fK (pv 0) (pv 1) rfl)),?_⟩
  try dsimp only[bE]
  exact⟨_,rfl,_,rfl,m,A.C 3,dx,[],rfl,hm,T.cl 3 (by decide),T.na3,by decide,q⟩
theorem E4 (T:Txt w.params K mg A):aT P w K mg base CX0 2 A.YX A.RE ["self"] (CZ A 7 "clause"):=by
 have ir:∀k,k < 8->aT P w K mg base CX0 1 (A.fk k) (A.fkd k) ["self"] (gS k):=nc T;refine T.adx.ok EW (λvs H Q E h=>?_) (λcdv A' outer s H vs Q E hr h=>?_)
 ·obtain⟨m,dx,fs,v,rfl,_⟩:=h;rfl
 ·obtain⟨m,dx,fs,v,rfl,hm,hl,hv,q⟩:=h;obtain⟨k,hk,ek⟩:∃k,k < 8/\k=7:=⟨7,by decide,rfl⟩
  have hm':H m=some (.ins (A.C k) dx fs):=by rw[ek];exact hm
  refine⟨_,(aj (aG (cI (aa (dJ (pv 0) (T.cl k hk) (T.qu k hk) (ir k hk) hr (T.qv k hk) .nil aW) (aa (bf (pv 0) rfl) ag))))),?_⟩
  try dsimp only[bE]
  subst ek;exact⟨_,rfl,m,dx,fs,rfl,hm,hl,m,rfl,_,rfl,m,A.C 7,dx,fs,v,rfl,hm,T.cl 7 hk,T.na7,hv,(sl 2),λp hp=>q p hp⟩
theorem xm (T:Txt w.params K mg A):aT P w K mg base CX0 1 A.Y2 A.RJ ["self","clause"] (Hm A 7):=by
 refine T.adC.ok EX (λvs H Q E h=>?_) (λcdv A' outer s H vs Q E hr h=>?_)
 ·obtain⟨m,dx,v,rfl,_⟩:=h;rfl
 ·obtain⟨m,dx,v,rfl,hm,q⟩:=h;refine⟨_,(aj (fK (pv 0) (pv 1) rfl)),?_⟩
  try dsimp only[bE]
  exact⟨_,rfl,_,rfl,m,A.C 7,dx,[],rfl,hm,T.cl 7 (by decide),T.na7,by decide,q⟩
theorem RY {k:Nat}{f:Addr}{fd:kg}{ps:List Str}{sp:Sp}(h:∀vs H Q E,¬sp vs H Q E):aT P w K mg base CX0 k f fd ps sp :=
 ⟨λvs H Q E z=>(h vs H Q E z).elim,λ_ _ _ H _ _ vs Q E _ _ _ _ z=>(h vs H Q E z).elim⟩
theorem xP {k:Nat}(hk:k=4\/k=5\/k=6):∀vs H Q E,Mj A k vs H Q E->Oj A vs H Q E:=λvs H Q E ⟨_,m,dx,v,e,hm,q⟩ =>
 ⟨m,k,dx,rF k v,by omega,e,hm,m9 k v,λp hp=>by
  have:=q p hp;rcases hk with rfl | rfl | rfl <;> exact this⟩
theorem tF (T:Txt w.params K mg A):∀k,k < 8->aT P w K mg base CX0 2 (A.ft k) (A.ftd k) ["self"] (Mj A k)
 | 0,_=>RY λvs H Q E h=>absurd h.1 (by decide)
 | 1,_=>(Eh T).imp λvs H Q E ⟨_,m,dx,v,e,hm,q⟩=>⟨m,dx,_,v,e,hm,m9 1 v,rfl,q⟩
 | 2,_=>(Hq T).imp λvs H Q E ⟨_,m,dx,v,e,hm,q⟩=>⟨m,dx,_,v,e,hm,m9 2 v,rfl,q⟩
 | 3,_=>(Ei T).imp λvs H Q E ⟨_,m,dx,v,e,hm,q⟩=>⟨m,dx,_,v,e,hm,m9 3 v,rfl,q⟩
 | 4,_=>(AG T).imp (xP (.inl rfl))
 | 5,_=>(AG T).imp (xP (.inr (.inl rfl)))
 | 6,_=>(AG T).imp (xP (.inr (.inr rfl)))
 | 7,_=>(E4 T).imp λvs H Q E ⟨_,m,dx,v,e,hm,q⟩=>⟨m,dx,_,v,e,hm,m9 7 v,rfl,q⟩
 |n+8,h=>absurd h (by omega)
theorem Ej (T:Txt w.params K mg A):aT P w K mg base CX0 1 A.YY A.RF ["self","text"] (UO A K):=by
 refine T.ady.ok Dz (λvs H Q E h=>?_) (λcdv A' outer s H vs Q E hr h=>?_)
 ·obtain⟨m,dx,L,xs,rfl,_⟩:=h;rfl
 ·obtain⟨m,dx,L,xs,rfl,hm,hL,q⟩:=h;refine⟨_,(aj (fK (pv 0) (dQ cM (by rfl) T.kZ jb (aa (pv 1) ag)) rfl)),?_⟩
  try dsimp only[bE]
  refine⟨_,rfl,L,xs,rfl,.inl hL,λp hp=>?_⟩
  have nmp:m≠p:=aU hm hp;exact⟨_,rfl,m,A.C 0,dx,[],rfl,(av nmp).trans hm,T.cl 0 (by decide),T.na0,by decide,q p hp⟩
theorem RZ (T:Txt w.params K mg A):aT P w K mg base CX0 2 A.YT A.RA ["self"] (Ol A K):=by
 have ir:∀k,k < 8->aT P w K mg base CX0 1 (A.fk k) (A.fkd k) ["self"] (gS k):=nc T;refine T.adt.ok Dw (λvs H Q E h=>?_) (λcdv A' outer s H vs Q E hr h=>?_)
 ·obtain⟨m,dx,L,xs,rfl,_⟩:=h;rfl
 ·obtain⟨m,dx,L,xs,rfl,hm,hL,q⟩:=h;obtain⟨k,hk,ek⟩:∃k,k < 8/\k=0:=⟨0,by decide,rfl⟩
  refine⟨_,(aj (aG (cI (aa (dJ (pv 0) (T.cl k hk) (T.qu k hk) (ir k hk) hr (T.qv k hk) .nil aW) (aa (dQ cM (by rfl) T.kZ jb (aa (bf (pv 0) rfl) ag)) ag))))),?_⟩
  try dsimp only[bE]
  subst ek;refine⟨_,rfl,m,dx,_,rfl,hm,m9 0 _,m,rfl,_,rfl,m,A.C 0,dx,_,_,rfl,hm,T.cl 0 hk,T.na0,rfl,L,xs,rfl,.inl hL,λp hp=>⟨(sl 2),λq' hq'=>?_⟩⟩
  have npq:p≠q':=aU ae hq';have hq:H q'=none:=by rw[av (anj npq)]at hq';exact hq'
  exact q p q' hp hq npq
theorem Hr (T:Txt w.params K mg A):aT P w K mg base CX0 3 A.rp A.jR ["told"] (Om A):=by
 refine T.p5.ok m3 (λvs H Q E h=>?_) (λcdv A' outer s H vs Q E hr h=>?_)
 ·obtain⟨t,k,v,_,_,rfl,_⟩:=h;rfl
 ·obtain⟨t,k,v,h1,h8,rfl,ht,q⟩:=h;have j5:=hr;refine⟨_,(ak (bh (i:=1) m3.nd rfl (anq rfl) (aZ bx (pv 0) ai (λ_ _=>rfl)))
 (ak (bJ (aJ bF (pv 1) aq (aK _))
 (aj (aG (f9 T.yZ (Ej T) j5 rfl T.yW T.UH .nil aW (aa (aZ bx (pv 0) ai (λ_ _=>rfl)) ag))))
 aI)
 (ak (bJ (aJ bF (pv 1) aq (aK _))
 (aj (aG (f9 T.y3 (oy T) j5 rfl T.yX T.UI .nil aW (aa (aZ bx (pv 0) ai (λ_ _=>rfl)) ag))))
 aI)
 (ak (bJ (aJ bF (pv 1) aq (aK _))
 (aj (aG (f9 T.Mi (y8 T) j5 rfl T.Me T.Y3 .nil aW (aa (aZ bx (pv 0) ai (λ_ _=>rfl)) ag))))
 aI)
 (ak (bJ (aJ bF (pv 1) aq (aK _))
 (aj (aG (f9 T.D2 (vv T) j5 rfl T.D1 T.Y4 .nil aW (aa (aZ bx (pv 0) ai (λ_ _=>rfl)) ag))))
 aI)
 (ak (bJ (aJ bF (pv 1) aq (aK _))
 (aj (aG (qR (T.mkn 4 (by decide)) rfl T.Hc)))
 aI)
 (ak (bJ (aJ bF (pv 1) aq (aK _))
 (aj (aG (qR (T.mkn 5 (by decide)) rfl T.RO)))
 aI)
 (ak (bJ (aJ bF (pv 1) aq (aK _))
 (aj (aG (qR (T.mkn 6 (by decide)) rfl T.Mf)))
 aI)
 (aj (aG (f9 T.He (xm T) j5 rfl T.Hd T.Y5 .nil aW (aa (aZ bx (pv 0) ai (λ_ _=>rfl)) ag)))))))))))),?_⟩
  try dsimp only[bE]
  have h0:atI (rowOf k v) 0=some (.str (nm k)):=by
   have hk:k=1\/k=2\/k=3\/k=4\/k=5\/k=6\/k=7:=by omega
   rcases hk with rfl | rfl | rfl | rfl | rfl | rfl | rfl <;> rfl
  refine ixv rfl (SqT.of ht) h0 ?_;have hk:k=1\/k=2\/k=3\/k=4\/k=5\/k=6\/k=7:=by omega
  rcases hk with rfl | rfl | rfl | rfl | rfl | rfl | rfl
  ·refine⟨_,rfl,rfl,tsf (by trivial) ⟨_,rfl,rfl,tst (by trivial) ?_⟩⟩
   exact⟨_,rfl,t,_,_,v,rfl,rfl,SqT.of ht,rfl,λm dx nm ndx ne=>⟨m,dx,v,rfl,ae,rfl,q m _ ((((a9.refl H).own ndx).own nm).own nm) nm ⟨dx,ae⟩⟩⟩
  ·refine⟨_,rfl,rfl,tsf (by trivial) ⟨_,rfl,rfl,tsf (by trivial) ⟨_,rfl,rfl,tst (by trivial) ?_⟩⟩⟩
   exact⟨_,rfl,t,_,_,v,rfl,rfl,SqT.of ht,rfl,λm dx nm ndx ne=>⟨m,dx,v,rfl,ae,rfl,q m _ ((((a9.refl H).own ndx).own nm).own nm) nm ⟨dx,ae⟩⟩⟩
  ·refine⟨_,rfl,rfl,tsf (by trivial) ⟨_,rfl,rfl,tsf (by trivial) ⟨_,rfl,rfl,tsf (by trivial) ⟨_,rfl,rfl,tst (by trivial) ?_⟩⟩⟩⟩
   exact⟨_,rfl,t,_,_,v,rfl,rfl,SqT.of ht,rfl,λm dx nm ndx ne=>⟨m,dx,v,rfl,ae,rfl,q m _ ((((a9.refl H).own ndx).own nm).own nm) nm ⟨dx,ae⟩⟩⟩
  ·refine⟨_,rfl,rfl,tsf (by trivial) ⟨_,rfl,rfl,tsf (by trivial) ⟨_,rfl,rfl,tsf (by trivial) ⟨_,rfl,rfl,tsf (by trivial) ⟨_,rfl,rfl,tst (by trivial) ?_⟩⟩⟩⟩⟩
   exactλm dx nm ndx ne=>q m _ (((a9.refl H).own ndx).own nm) nm ⟨dx,ae⟩
  ·refine⟨_,rfl,rfl,tsf (by trivial) ⟨_,rfl,rfl,tsf (by trivial) ⟨_,rfl,rfl,tsf (by trivial) ⟨_,rfl,rfl,tsf (by trivial) ⟨_,rfl,rfl,tsf (by trivial) ⟨_,rfl,rfl,tst (by trivial) ?_⟩⟩⟩⟩⟩⟩
   exactλm dx nm ndx ne=>q m _ (((a9.refl H).own ndx).own nm) nm ⟨dx,ae⟩
  ·refine⟨_,rfl,rfl,tsf (by trivial) ⟨_,rfl,rfl,tsf (by trivial) ⟨_,rfl,rfl,tsf (by trivial) ⟨_,rfl,rfl,tsf (by trivial) ⟨_,rfl,rfl,tsf (by trivial) ⟨_,rfl,rfl,tsf (by trivial) ⟨_,rfl,rfl,tst (by trivial) ?_⟩⟩⟩⟩⟩⟩⟩
   exactλm dx nm ndx ne=>q m _ (((a9.refl H).own ndx).own nm) nm ⟨dx,ae⟩
  ·refine⟨_,rfl,rfl,tsf (by trivial) ⟨_,rfl,rfl,tsf (by trivial) ⟨_,rfl,rfl,tsf (by trivial) ⟨_,rfl,rfl,tsf (by trivial) ⟨_,rfl,rfl,tsf (by trivial) ⟨_,rfl,rfl,tsf (by trivial) ⟨_,rfl,rfl,tsf (by trivial) ?_⟩⟩⟩⟩⟩⟩⟩
   exact⟨_,rfl,t,_,_,v,rfl,rfl,SqT.of ht,rfl,λm dx nm ndx ne=>⟨m,dx,v,rfl,ae,rfl,q m _ ((((a9.refl H).own ndx).own nm).own nm) nm ⟨dx,ae⟩⟩⟩
theorem E5 (T:Txt w.params K mg A):aT P w K mg base CX0 3 A.rp A.jR ["told"] (IW A K):=by
 refine T.p5.ok m3 (λvs H Q E h=>?_) (λcdv A' outer s H vs Q E hr h=>?_)
 ·obtain⟨t,L,xs,rfl,_⟩:=h;rfl
 ·obtain⟨t,L,xs,rfl,ht,hL,q⟩:=h;have j5:=hr;refine⟨_,(ak (bh (i:=1) m3.nd rfl (anq rfl) (aZ bx (pv 0) ai (λ_ _=>rfl)))
 (ak (bJ (aJ bF (pv 1) aq (aK _))
 (aj (aG (f9 T.yZ (Ej T) j5 rfl T.yW T.UH .nil aW (aa (aZ bx (pv 0) ai (λ_ _=>rfl)) ag))))
 aI)
 (ak (bJ (aJ bF (pv 1) aq (aK _))
 (aj (aG (f9 T.y3 (oy T) j5 rfl T.yX T.UI .nil aW (aa (aZ bx (pv 0) ai (λ_ _=>rfl)) ag))))
 aI)
 (ak (bJ (aJ bF (pv 1) aq (aK _))
 (aj (aG (f9 T.Mi (y8 T) j5 rfl T.Me T.Y3 .nil aW (aa (aZ bx (pv 0) ai (λ_ _=>rfl)) ag))))
 aI)
 (ak (bJ (aJ bF (pv 1) aq (aK _))
 (aj (aG (f9 T.D2 (vv T) j5 rfl T.D1 T.Y4 .nil aW (aa (aZ bx (pv 0) ai (λ_ _=>rfl)) ag))))
 aI)
 (ak (bJ (aJ bF (pv 1) aq (aK _))
 (aj (aG (qR (T.mkn 4 (by decide)) rfl T.Hc)))
 aI)
 (ak (bJ (aJ bF (pv 1) aq (aK _))
 (aj (aG (qR (T.mkn 5 (by decide)) rfl T.RO)))
 aI)
 (ak (bJ (aJ bF (pv 1) aq (aK _))
 (aj (aG (qR (T.mkn 6 (by decide)) rfl T.Mf)))
 aI)
 (aj (aG (f9 T.He (xm T) j5 rfl T.Hd T.Y5 .nil aW (aa (aZ bx (pv 0) ai (λ_ _=>rfl)) ag)))))))))))),?_⟩
  try dsimp only[bE]
  refine ixv rfl (SqT.of ht) rfl ?_;refine⟨_,rfl,rfl,tst (by trivial) ?_⟩
  refine⟨_,rfl,t,_,_,.ref L,rfl,rfl,SqT.of ht,rfl,λm dx nm ndx ne=>⟨m,dx,L,xs,rfl,ae,(((a9.refl H).own ndx).own nm).seq hL,λp hp=>⟨rfl,?_⟩⟩⟩
  have s1:a9 H (upd (upd H dx (.own m)) m (.ins (A.C 0) dx [])):=((a9.refl H).own ndx).own nm;have npm:p≠m:=λz=>by rw[z,ae]at hp;cases hp
  exact q m p _ ((s1.new hp).own nm) nm (s1.free hp) ((av npm).trans ae) ⟨dx,ae⟩
end
abbrev R0:Str:=ar "more"
def vw (n:Str)(a b:Int):Bool:=if a<=b then false else (decide (n=R0) || decide (2 * b<=a))
def Y8:Sp:=λvs H Q _=>∃(n:Str) (a b:Int),vs=[.str n,.int a,.int b]/\Q (.bl (vw n a b)) H
section
variable{P:rf}{w:World}{K:ba}{mg:Str->Option Value}{base:Heap}{A:Adr}
theorem Ml (T:Txt w.params K mg A):aT P w K mg base CX0 1 A.G3 A.xI ["need","ayes","noes"] Y8:=by
 refine T.Ay.ok L6 (λvs H Q E h=>?_) (λcdv A' outer s H vs Q E hr h=>?_)
 ·obtain⟨n,a,b,rfl,_⟩:=h;rfl
 ·obtain⟨n,a,b,rfl,q⟩:=h;refine⟨_,(ak (bJ (aJ Ba (pv 1) (pv 2) (aK _))
 (aj (aG iM))
 aI)
 (aj (aG (QA (cH bF (pv 0) aq (aK _)) (nK (cH We (pv 1) (bY LA ai (pv 2)) (aK _))))))),?_⟩
  try dsimp only[bE]
  refine⟨_,rfl,_,rfl,_,_,rfl,rfl,_,rfl,iY (λe=>?_) (λe=>?_)⟩
  ·have e':a<=b:=of_decide_eq_true e;rw[vw,if_pos e']at q;exact q
  ·have e':¬a<=b:=λz=>e (decide_eq_true z)
   rw[vw,if_neg e']at q;refine⟨_,rfl,rfl,_,rfl,iY (λe2=>?_) (λe2=>?_)⟩
   ·have h2:n=R0:=by injection of_decide_eq_true e2
    rw[decide_eq_true h2,Bool.true_or]at q;exact q
   ·have h2:¬n=R0:=λz=>e2 (decide_eq_true (by rw[z]))
    rw[decide_eq_false h2,Bool.false_or]at q;exact⟨_,rfl,_,rfl,_,_,rfl,rfl,.inl ⟨by decide,by decide⟩,_,_,rfl,rfl,q⟩
end
namespace R
abbrev bl1:Str:=ar " "
abbrev em:Str:=ar ""
theorem lb:bl1=⟨#[32]⟩:=by trivial
theorem I9:em=⟨#[]⟩:=by trivial
abbrev sg:Str:=ar "!\"#$&'()*+,-./0123456789:;<=>?@ABCDEFGHIJKLMNOPQRSTUVWXYZ[\\]^_`abcdefghijklmnopqrstuvwxyz{|}~"
def Sign (c:Nat):Prop:=33<=c/\c<=126/\c≠37
instance:DecidablePred Sign:=λc=>by unfold Sign;exact inferInstance
structure oz (x:Str):Prop where
 l1:1<=x.length
 l2:x.length<=20
 sgn:∀c∈x.cps.toList,Sign c
 ns:x≠ar "/"
def Asc (x:Str):Prop:=∀c∈x.cps.toList,c < 128
theorem Asc.ok {x:Str}(h:Asc x):am8 x=true:=by
 unfold am8;rw[Array.all_eq_true];intro i hi;have:=h x.cps[i] (by simp)
 exact decide_eq_true (by omega)
theorem oz.asc {x:Str}(w:oz x):Asc x:=λc hc=>by have:=w.sgn c hc;unfold Sign at this;omega
theorem ou {sep:Str}(hs:Asc sep):∀ws:List Str,(∀w∈ws,Asc w)->Asc (km sep ws)
 |[],_=>λc hc=>by
  have:c∈([]:List Nat):=hc;cases this
 |[x],h=>h x kb
 |x::y::r,h=>λc hc=>by
  have hc':c∈((x++sep)++km sep (y::r)).cps.toList:=hc;rw[eJ,eJ,aoP,aoP]at hc';rcases hc' with (h1 | h1) | h1
  ·exact h x kb c h1
  ·exact hs c h1
  ·exact ou hs (y::r) (λw hw=>h w (kq _ hw)) c h1
theorem tG (x:Str):x.cps.toList.length=x.length:=by simp[Str.length]
abbrev adE:List Str:=[ar "-",ar "put",ar "/a",ar "0",ar "off",ar "//",ar "matter",ar "a"]
theorem Ja {x:Str}(h:decide (1<=x.length/\x.length<=20/\(∀c∈x.cps.toList,Sign c)/\x≠ar "/")=true):oz x:=by
 obtain⟨a,b,c,d⟩:=of_decide_eq_true h;exact⟨a,b,c,d⟩
theorem Y9:∀x∈adE,oz x:=by
 intro x hx;simp only[aob,anP,or_false]at hx;rcases hx with rfl | rfl | rfl | rfl | rfl | rfl | rfl | rfl <;> exact Ja (by trivial)
structure Clause (n:Nat)(x:Str)(ws:List Str):Prop where
 eq:x=km bl1 ws
 len:ws.length<=n
 wd:∀w∈ws,oz w
theorem Clause.asc {n:Nat}{x:Str}{ws:List Str}(c:Clause n x ws):Asc x:=by
 rw[c.eq];exact ou (by rw[lb];intro d hd;have:d=32:=(by simpa using hd);omega) ws λw hw=>(c.wd w hw).asc
theorem Jb {ws:List Str}(h:∀w∈ws,oz w):(ws.map (·.length)).sum<=ws.length * 20:=StrLaws.sumLen_le ws λw hw=>(h w hw).l2
theorem Clause.size {n:Nat}{x:Str}{ws:List Str}(c:Clause n x ws):x.length<=n * 21:=by
 rw[c.eq,lb];have h1:=qQ 32 ws;have h2:=Jb c.wd;have h3:=c.len;omega
def R3:Sp:=λvs H Q _=>∃(c n:Int),vs=[.int c,.int n]/\0<=n/\n<=1000 /\
 ∀(zs:List Int) (p:Addr) (H':Hp),(zs.length:Int)=n->(∀z∈zs,0<=z/\z < 4294967311)->a9 H H'->H p=none->H' p=some (.lst (zs.map V.int))->Q (.ref p) H'
abbrev sl1:Str:=ar "/"
def num (i:Int):Str:=ar (toString i)
theorem Hs {i:Int}(h0:0<=i)(h1:i < 10 ^ 10):(num i).length<=10:=PyProof.Rows.toString_length_le h0 (by decide) h1
theorem Oo {i:Int}(h0:0<=i)(h1:i < 10 ^ 10):i.natAbs.log2 < 1920:=by
 have h:i.natAbs < 2 ^ 34:=by
  have:(10:Int) ^ 10<=2 ^ 34:=by decide
  omega
 by_cases hz:i.natAbs=0
 ·rw[hz];decide
 ·exact Nat.lt_trans ((Nat.log2_lt hz).mpr h) (by decide)
def bO (z:Str):List Str:=if z=em then [] else PySem.Txt.split z bl1
theorem oz.free {x:Str}(w:oz x):32∉x.cps.toList:=λz=>by have:=w.sgn _ z;unfold Sign at this;omega
theorem ng {ws:List Str}(h:∀w∈ws,oz w):bO (km bl1 ws)=ws:=by
 cases ws with
 |nil=>exact if_pos (by rw[I9];rfl)
 |cons x r =>
  have l:=EN (c:=32) (anB x r) λw hw=>(h w hw).l1
  have ne:¬km bl1 (x::r)=em:=λe=>by
   rw[lb]at e;rw[e,I9]at l;exact absurd l (by decide)
  unfold bO;rw[if_neg ne,lb];exact Di (anB x r) λw hw=>(h w hw).free
inductive bG where
 |mat (cs:List (List Str))
 |ed (m:Bool) (k:Nat) (i:Int) (ws:List Str)
 |pt (ws:List Str)
 |nums (kd:Str) (ns:List Int)
def kEd (m:Bool):Str:=if m then ar "mend" else ar "change"
def kn:Nat->Str
 | 0=>ar "put"
 | 1=>ar "cut"
 |_=>ar "turn"
def edR (k:Nat)(i:Int)(x:Str):List V:=if k=1 then [.str (kn 1),.int i] else [.str (kn k),.int i,.str x]
def ee:List (Str×Nat):=[(ar "put off",1),(ar "vote",2),(ar "take",1),(ar "close",0),(ar "lay",0),(ar "rest",0),(ar "drop",0)]
structure nh (n:Nat)(ws:List Str):Prop where
 len:ws.length<=n
 wd:∀w∈ws,oz w
def DOk:bG->Prop
 | .mat cs=>cs.length<=12/\∀ws∈cs,nh 12 ws
 | .ed m k i ws=>(k=0\/k=1\/k=2)/\(0<=i/\i < 10 ^ 10)/\nh 12 ws/\(m=true->ws.length=1)
 | .pt ws=>nh 12 ws
 | .nums kd ns=>(kd,ns.length)∈ee/\∀i∈ns,0<=i/\i < 10 ^ 10
def tH (K:ba)(H:Hp):bG->Addr->Prop
 | .mat cs,t=>∃L,SqT K H t [.str (ar "matter"),.ref L]/\SqL K H L ((cs.map (km bl1)).map V.str)
 | .ed m k i ws,t=>∃e,SqT K H t [.str (kEd m),.ref e]/\SqT K H e (edR k i (km bl1 ws))
 | .pt ws,t=>SqT K H t [.str (ar "point"),.str (km bl1 ws)]
 | .nums kd ns,t=>SqT K H t (.str kd::ns.map V.int)
theorem tH.same {K:ba}{H H':Hp}(s:a9 H H'):∀ {d:bG} {t:Addr},tH K H d t->tH K H' d t
 | .mat _,_,⟨L,a,b⟩=>⟨L,fb s a,s.seq b⟩
 | .ed _ _ _ _,_,⟨e,a,b⟩=>⟨e,fb s a,fb s b⟩
 | .pt _,_,a=>fb s a
 | .nums _ _,_,a=>fb s a
def iu:bG->Str
 | .mat _=>ar "matter"
 | .ed m _ _ _=>kEd m
 | .pt _=>ar "point"
 | .nums kd _=>kd
def gh:bG->List Str
 | .mat cs=>cs.flatMap λws=>sl1::ws
 | .ed _ k i ws=>kn k::num i::(if k=1 then [] else ws)
 | .pt ws=>ws
 | .nums _ ns=>ns.map num
def gi (d:bG):Str:=km bl1 (iu d::gh d)
theorem Za (k:Nat):(kn k).length<=4:=by
 unfold kn;split <;> trivial
theorem UQ (m:Bool):(kEd m).length<=6:=by cases m <;> trivial
theorem kd_len {kd:Str}{n:Nat}(h:(kd,n)∈ee):kd.length<=7/\n<=2:=by
 simp only[ee,aob,anP,or_false,aoS]at h;rcases h with ⟨rfl,rfl⟩ | ⟨rfl,rfl⟩ | ⟨rfl,rfl⟩ | ⟨rfl,rfl⟩ | ⟨rfl,rfl⟩ | ⟨rfl,rfl⟩ | ⟨rfl,rfl⟩ <;> trivial
theorem AH {d:bG}(o:DOk d):(gh d).length<=200/\(∀w∈gh d,w.length<=20)/\(iu d).length<=20:=by
 cases d with
 |mat cs =>
  obtain⟨o1,o2⟩:=o;refine⟨?_,λw hw=>?_,by show (ar "matter").length<=20;trivial⟩
  ·show (cs.flatMap λws=>sl1::ws).length<=200
   have:∀l:List (List Str),(∀ws∈l,nh 12 ws)->(l.flatMap λws=>sl1::ws).length<=l.length * 13:=λl=>by
    induction l with
    |nil=>intro _;exact kj _
    |cons x l ih =>
     intro h;have h1:=(h x kb).len;have h2:=ih λw hw=>h w (kq _ hw)
     rw[List.flatMap_cons,ki,tm,tm];omega
   have:=this cs o2;omega
  ·obtain⟨ws,h1,h2⟩:=List.mem_flatMap.mp hw;rcases List.mem_cons.mp h2 with rfl | h2
   ·trivial
   ·exact((o2 ws h1).wd w h2).l2
 |ed m k i ws =>
  obtain⟨o1,⟨i0,i1⟩,o3,_⟩:=o;have l:=o3.len;refine⟨?_,λw hw=>?_,?_⟩
  ·show (kn k::num i::(if k=1 then [] else ws)).length<=200
   split <;> simp <;> omega
  ·have hw':w∈kn k::num i::(if k=1 then [] else ws):=hw
   rcases List.mem_cons.mp hw' with rfl | hw'
   ·have:=Za k;omega
   ·rcases List.mem_cons.mp hw' with rfl | hw'
    ·have:=Hs i0 i1;omega
    ·split at hw'
     ·cases hw'
     ·exact(o3.wd w hw').l2
  ·have:=UQ m;show (kEd m).length<=20;omega
 |pt ws=>exact⟨by have:=o.len;show ws.length<=200;omega,λw hw=>(o.wd w hw).l2,by show (ar "point").length<=20;trivial⟩
 |nums kd ns =>
  obtain⟨o1,o2⟩:=o;have:=kd_len o1;refine⟨by show (ns.map num).length<=200;rw[bo];omega,λw hw=>?_,by show kd.length<=20;omega⟩
  obtain⟨i,hi,rfl⟩:=List.mem_map.mp hw;have:=Hs (o2 i hi).1 (o2 i hi).2;omega
def wN:Sp:=λvs H Q _=>∃z,vs=[.str z]/\z.length+2<=gr/\∀p,H p=none->Q (.ref p) (upd H p (.lst ((bO z).map V.str)))
def xQ (K:ba):Sp:=λvs H Q _=>∃a ws,vs=[.ref a]/\SqL K H a (ws.map V.str)/\(ws.map (·.length)).sum+ws.length<=16777216/\Q (.str (km bl1 ws)) H
def Zb (K:ba):Sp:=λvs H Q _=>∃(L:Addr) (cs:List (List Str)),vs=[.ref L]/\SqL K H L ((cs.map (km bl1)).map V.str)/\DOk (.mat cs)/\∀p H',a9 H H'->H p=none->H' p=some (.lst ((gh (.mat cs)).map V.str))->Q (.ref p) H'
def UR (K:ba):Sp:=λvs H Q _=>∃(t:Addr) (m:Bool) (k:Nat) (i:Int) (ws:List Str),vs=[.ref t]/\SqT K H t (edR k i (km bl1 ws))/\DOk (.ed m k i ws)/\∀p H',a9 H H'->H p=none->H' p=some (.lst ((gh (.ed m k i ws)).map V.str))->Q (.ref p) H'
def R4 (K:ba):Sp:=λvs H Q _=>∃(t:Addr) (d:bG),vs=[.ref t]/\tH K H d t/\DOk d/\∀p H',a9 H H'->H p=none->H' p=some (.lst ((gh d).map V.str))->Q (.ref p) H'
def Ht (K:ba):Sp:=λvs H Q _=>∃(t:Addr) (d:bG),vs=[.ref t]/\tH K H d t/\DOk d/\∀H',a9 H H'->Q (.str (gi d)) H'
theorem AF {k:Nat}(h:k=0\/k=1\/k=2):(V.str (kn k)=V.str (ar "cut"))↔k=1:=by
 rcases h with rfl | rfl | rfl <;> trivial
theorem Hu (k:Nat)(i:Int)(x:Str):atI (edR k i x) 0=some (.str (kn k)):=by
 unfold edR;split
 ·rename_i h;rw[h];rfl
 ·rfl
theorem US (k:Nat)(i:Int)(x:Str):atI (edR k i x) 1=some (.int i):=by
 unfold edR;split <;> rfl
theorem UT {k:Nat}(h:k≠1)(i:Int)(x:Str):atI (edR k i x) 2=some (.str x):=by
 unfold edR;rw[if_neg h];rfl
theorem xR {ws:List Str}(o:nh 12 ws):(km bl1 ws).length<=300:=by
 have h1:=qQ 32 ws;have h2:=Jb o.wd;have h3:=o.len;rw[lb];omega
theorem adF {kd:Str}{n:Nat}(h:(kd,n)∈ee):V.str kd≠V.str (ar "matter")/\V.str kd≠V.str (ar "change")/\V.str kd≠V.str (ar "mend")/\V.str kd≠V.str (ar "point"):=by
 simp only[ee,aob,anP,or_false,aoS]at h;rcases h with ⟨rfl,rfl⟩ | ⟨rfl,rfl⟩ | ⟨rfl,rfl⟩ | ⟨rfl,rfl⟩ | ⟨rfl,rfl⟩ | ⟨rfl,rfl⟩ | ⟨rfl,rfl⟩ <;> trivial
section
variable{K:ba}
theorem tH.at0 {H:Hp}{d:bG}{t:Addr}(h:tH K H d t):∃xs,SqT K H t xs/\atI xs 0=some (.str (iu d)):=by
 cases d with
 |mat cs=>obtain⟨L,a,b⟩:=h;exact⟨_,a,rfl⟩
 |ed m k i ws=>obtain⟨e,a,b⟩:=h;exact⟨_,a,rfl⟩
 |pt ws=>exact⟨_,h,rfl⟩
 |nums kd ns=>exact⟨_,h,pQ (j:=0) rfl⟩
end
section
variable{P:rf}{w:World}{K:ba}{mg:Str->Option Value}{base:Heap}{A:Adr}
theorem tI (T:Txt w.params K mg A):aT P w K mg base CX0 1 A.rn A.jQ ["words"] (xQ K):=by
 refine T.lY.ok GS (λvs H Q E h=>?_) (λcdv A' outer s H vs Q E hr h=>?_)
 ·obtain⟨a,ws,rfl,_⟩:=h;rfl
 ·obtain⟨a,ws,rfl,hq,hz,k⟩:=h;refine⟨_,(aj (aG (js PySem.F.plainAttrs_str PySem.F.slot_str_join PySem.F.type_str_join N7 aq (aa (pv 0) ag)))),?_⟩
  try dsimp only[bE]
  exact⟨rfl,_,rfl,bl1,a,ws,rfl,rfl,hq,by rw[lb];show _+ws.length * 1<=_;omega,k⟩
theorem l8 (T:Txt w.params K mg A):aT P w K mg base CX0 1 A.words_of A.jF ["clause"] wN:=by
 refine T.jk.ok IF (λvs H Q E h=>?_) (λcdv A' outer s H vs Q E hr h=>?_)
 ·obtain⟨z,rfl,_⟩:=h;rfl
 ·obtain⟨z,rfl,hz,k⟩:=h;refine⟨_,(ak (bJ (aJ bF (pv 0) aq (aK _))
 (aj (aG (dn ag)))
 aI)
 (aj (aG (js PySem.F.plainAttrs_str PySem.F.slot_str_split PySem.F.type_str_split Il (pv 0) (aa aq ag))))),?_⟩
  try dsimp only[bE]
  refine⟨_,rfl,rfl,_,rfl,iY (λe=>?_) (λe=>?_)⟩
  ·have e':z=em:=by injection of_decide_eq_true e
   refine⟨anz _,λp hp=>?_⟩
   have:=k p hp;rw[bO,if_pos e']at this;exact this
  ·have e':¬z=em:=λq=>e (decide_eq_true (by rw[q]))
   refine⟨_,rfl,rfl,z,bl1,rfl,rfl,by rw[lb];rfl,hz,λp hp=>?_⟩
   have:=k p hp;rw[bO,if_neg e']at this;exact this
theorem AI (T:Txt w.params K mg A):aT P w K mg base CX0 2 A.qr A.kR ["text"] (Zb K):=by
 refine T.mJ.ok kM (λvs H Q E h=>?_) (λcdv A' outer s H vs Q E hr h=>?_)
 ·obtain⟨L,cs,rfl,_⟩:=h;rfl
 ·obtain⟨L,cs,rfl,hL,o,k⟩:=h;refine⟨_,(ak (bh (i:=1) kM.nd rfl (anq rfl) (dn ag))
 (ak (C7 PassesOwn.never rfl (jL (pv 0)) (pP (i:=2) kM.nd rfl (anq rfl))
 (ak (bR (js am9 anu anv dq (pv 1) (aa aq ag)))
 (aj (bR (js am9 PySem.F.slot_list_extend PySem.F.type_list_extend Fx (pv 1) (aa (bb (l8 T) hr rfl T.kU T.jk.kp T.kT .nil aW (aa (pv 2) ag)) ag))))))
 (aj (aG (pv 1))))),?_⟩
  try dsimp only[bE]
  have lim:gr=16777216:=by decide
  refine⟨anz _,λW hW=>?_⟩
  refine⟨_,rfl,L,rfl,⟨_,(aB hW).seq hL⟩,?_⟩;refine C8 (K:=K) (a:=L) (xs:=(cs.map (km bl1)).map V.str) (λi σ H2=>∃v2:Option V,σ=[some (.ref L),some (.ref W),v2]/\a9 H H2/\H2 W=some (.lst ((gh (.mat (cs.take i))).map V.str)))
   ⟨_,rfl,aB hW,ae⟩ (λi σ H2 _ ⟨_,_,s2,_⟩=>s2.seq hL) ?_ ?_
  ·rintro i y σ H2 hi ⟨v2,rfl,s2,h2⟩;rw[ant,ant]at hi;cases hc:cs[i]? with
   |none=>rw[hc]at hi;cases hi
   |some ws =>
    rw[hc]at hi;obtain rfl:V.str (km bl1 ws)=y:=anb hi;have ow:=o.2 ws (anh hc);have hcl:=xR ow;have hil:i < cs.length:=(List.getElem?_eq_some_iff.mp hc).1;have hb:(gh (.mat (cs.take i))).length<=200:=(AH (d:=.mat (cs.take i)) ⟨by rw[anC];have:=o.1;omega,λws hw=>o.2 ws (aon hw)⟩).1
    refine⟨_,rfl,.inl ⟨rfl,_,SqL.of h2⟩,W,_,_,rfl,rfl,h2,(by rw[bo];omega),?_⟩
    refine⟨_,rfl,.inl ⟨rfl,_,SqL.of ae⟩,_,rfl,_,rfl,by omega,λp hp=>?_⟩
    rw[ng ow.wd];have nWp:W≠p:=aU ae hp;have wl:=ow.len;refine⟨W,p,_,_,rfl,rfl,(av nWp).trans ae,ae,(by rw[ki,bo,bo];show _+1+_<=_;omega),?_⟩
    refine⟨_,rfl,((s2.own hW).new hp).own hW,?_⟩;rw[ae,aoL,hc];show some (HO.lst _)=some (HO.lst (((cs.take i++[ws]).flatMap λws=>sl1::ws).map V.str))
    rw[List.flatMap_append];simp[gh]
  ·rintro σ H2 ⟨v2,rfl,s2,h2⟩;rw[bo,bo,an8]at h2;exact⟨_,rfl,k W H2 s2 hW h2⟩
theorem AJ (T:Txt w.params K mg A):aT P w K mg base CX0 2 A.qt A.kS ["edit"] (UR K):=by
 refine T.mK.ok q5 (λvs H Q E h=>?_) (λcdv A' outer s H vs Q E hr h=>?_)
 ·obtain⟨t,m,k,i,ws,rfl,_⟩:=h;rfl
 ·obtain⟨t,m,k,i,ws,rfl,ht,⟨o1,⟨i0,i1⟩,o3,_⟩,q⟩:=h;refine⟨_,(ak (bh (i:=1) q5.nd rfl (anq rfl) (dn (aa (aZ bx (pv 0) ai (λ_ _=>rfl)) (aa (dQ yB (by rfl) T.Oc LO (aa (aZ bx (pv 0) ai (λ_ _=>rfl)) ag)) ag))))
 (ak (bJ (aJ Fp (aZ bx (pv 0) ai (λ_ _=>rfl)) aq (aK _))
 (aj (bR (js am9 PySem.F.slot_list_extend PySem.F.type_list_extend Fx (pv 1) (aa (bb (l8 T) hr rfl T.kU T.jk.kp T.kT .nil aW (aa (aZ bx (pv 0) ai (λ_ _=>rfl)) ag)) ag))))
 aI)
 (aj (aG (pv 1))))),?_⟩
  try dsimp only[bE]
  have lim:gr=16777216:=by decide
  refine ixv rfl ht (Hu k i _) (ixv rfl ht (US k i _) ⟨_,rfl,Oo i0 i1,(sl 2),λW hW=>?_⟩)
  have s1:a9 H (upd H W (.lst [V.str (kn k),V.str (num i)])):=aB hW;have hcl:=xR o3;refine ixv rfl (fb s1 ht) (Hu k i _) ⟨rfl,_,rfl,?_⟩
  by_cases hk:k=1
  ·rw[decide_eq_true ((AF o1).mpr hk)];refine et ⟨_,rfl,q W _ s1 hW ?_⟩;show (upd H W (.lst [V.str (kn k),V.str (num i)])) W=some (.lst ((kn k::num i::(if k=1 then [] else ws)).map V.str))
   rw[ae,if_pos hk];rfl
  ·rw[decide_eq_false λz=>hk ((AF o1).mp z)]
   refine iQ ⟨_,rfl,.inl ⟨rfl,_,SqL.of ae⟩,ixv rfl (fb s1 ht) (UT hk i _) ⟨_,rfl,by omega,λp hp=>?_⟩⟩
   rw[ng o3.wd];have nWp:W≠p:=aU ae hp;have wl:=o3.len;refine⟨W,p,_,_,rfl,rfl,(av nWp).trans ae,ae,(by rw[bo];show 2+_<=_;omega),_,rfl,q W _ ((s1.new hp).own hW) hW ?_⟩
   show (upd (upd (upd H W (.lst [V.str (kn k),V.str (num i)])) p (.lst (ws.map V.str))) W (.lst ([V.str (kn k),V.str (num i)]++ws.map V.str))) W=some (.lst ((kn k::num i::(if k=1 then [] else ws)).map V.str))
   rw[ae,if_neg hk];rfl
theorem BQ (T:Txt w.params K mg A):aT P w K mg base CX0 3 A.sQ A.mB ["deed"] (R4 K):=by
 have oB:aT P w K mg base CX0 2 A.words_of A.jF ["clause"] wN:=(l8 T).mono (by decide)
 refine T.oh.ok tV (λvs H Q E h=>?_) (λcdv A' outer s H vs Q E hr h=>?_)
 ·obtain⟨t,d,rfl,_⟩:=h;rfl
 ·obtain⟨t,d,rfl,hd,o,q⟩:=h;refine⟨_,(ak (bh (i:=1) tV.nd rfl (anq rfl) (aZ bx (pv 0) ai (λ_ _=>rfl)))
 (ak (bJ (aJ bF (pv 1) aq (aK _))
 (aj (aG (bb (AI T) hr rfl T.t7 T.mJ.kp T.tZ .nil aW (aa (aZ bx (pv 0) ai (λ_ _=>rfl)) ag))))
 aI)
 (ak (bJ (PW.pt (pw_or (aJ bF (pv 1) aq (aK _)) (pw_or1 (aJ bF (pv 1) aq (aK _)))))
 (aj (aG (bb (AJ T) hr rfl T.t9 T.mK.kp T.t8 .nil aW (aa (aZ bx (pv 0) ai (λ_ _=>rfl)) ag))))
 aI)
 (ak (bJ (aJ bF (pv 1) aq (aK _))
 (aj (aG (bb oB hr rfl T.kU T.jk.kp T.kT .nil aW (aa (aZ bx (pv 0) ai (λ_ _=>rfl)) ag))))
 aI)
 (aj (aG (pS (scope:=nS) yM rfl (XZ (iX Yf (pv 0) (jN ai) mW)) (λ_ _ _ _ _=>(dQ yB (by rfl) T.Oc LO (aa (pv 0) ag)))))))))),?_⟩
  try dsimp only[bE]
  have lim:gr=16777216:=by decide
  cases d with
  |mat cs =>
   refine aS λGq gq=>?_
   obtain⟨L,ht,hL⟩:=hd;refine gq ?_;refine ixv rfl ht rfl ?_;refine⟨_,rfl,rfl,tst (decide_eq_true rfl) ?_⟩;exact ixv rfl ht rfl ⟨L,cs,rfl,hL,o,q⟩
  |ed m k i ws =>
   refine aS λGq gq=>?_
   obtain⟨e,ht,he⟩:=hd;refine gq ?_;refine ixv rfl ht rfl ?_;refine⟨_,rfl,rfl,tsf (decide_eq_false (by cases m <;> trivial)) ?_⟩
   cases m with
   |false =>
    refine⟨_,rfl,rfl,tst (decide_eq_true rfl) ?_⟩;exact ixv rfl ht rfl ⟨e,false,k,i,ws,rfl,he,o,q⟩
   |true =>
    refine⟨_,rfl,rfl,tsf (decide_eq_false (by trivial)) ?_⟩
    refine⟨_,rfl,rfl,tst (decide_eq_true rfl) ?_⟩;exact ixv rfl ht rfl ⟨e,true,k,i,ws,rfl,he,o,q⟩
  |pt ws =>
   have ht:=hd;refine ixv rfl ht rfl ?_;refine⟨_,rfl,rfl,tsf (decide_eq_false (by trivial)) ?_⟩
   refine⟨_,rfl,rfl,tsf (decide_eq_false (by trivial)) ?_⟩
   refine⟨_,rfl,rfl,tsf (decide_eq_false (by trivial)) ?_⟩
   refine⟨_,rfl,rfl,tst (decide_eq_true rfl) ?_⟩;have hcl:=xR o;refine ixv rfl ht rfl ⟨_,rfl,by omega,λp hp=>q p _ (aB hp) hp ?_⟩
   rw[ae,ng o.wd];rfl
  |nums kd ns =>
   refine aS λGq gq=>?_
   have ht:=hd;obtain⟨o1,o2⟩:=o;obtain⟨n1,n2,n3,n4⟩:=adF o1;have kl:=(kd_len o1).2;refine gq ?_;refine ixv rfl ht (pQ (j:=0) rfl) ?_;refine⟨_,rfl,rfl,tsf (decide_eq_false n1) ?_⟩;refine⟨_,rfl,rfl,tsf (decide_eq_false n2) ?_⟩;refine⟨_,rfl,rfl,tsf (decide_eq_false n3) ?_⟩;refine⟨_,rfl,rfl,tsf (decide_eq_false n4) ?_⟩;refine⟨_,rfl,_,rfl,t,_,rfl,ht,λz=>?_,λp hp=>?_⟩
   ·have z1:=z.1;rw[show (1:Int)=((1:Nat):Int) from rfl,HT.yC,tm]at z1
    omega
   ·rw[show (1:Int)=((1:Nat):Int) from rfl,uN]
    show _;have hs1:a9 H (upd H p (.tup (ns.map V.int))):=aB hp;have hpp:(upd H p (.tup (ns.map V.int))) p=some (.tup (ns.map V.int)):=ae;refine⟨p,rfl,⟨_,SqT.of hpp⟩,λD hD=>?_⟩
    have npD:p≠D:=aU hpp hD;refine Q5 (K:=K) (a:=p) (xs:=ns.map V.int) (λi ys H3=>ys=(ns.take i).map (λn=>V.str (num n))/\H3=upd (upd H p (.tup (ns.map V.int))) D (.lst ys)) ⟨rfl,rfl⟩ (by rw[bo];omega) ?_ ?_ ?_
    ·rintro i ys H3 hi ⟨rfl,rfl⟩;rw[bo]at hi;exact⟨SqT.of ((av npD).trans hpp),ae,by rw[bo,anC];omega⟩
    ·rintro i y ys H3 hi ⟨rfl,rfl⟩;rw[ant]at hi;cases hc:ns[i]? with
     |none=>rw[hc]at hi;cases hi
     |some n =>
      refine aS λGq gq=>?_
      rw[hc]at hi;obtain rfl:V.int n=y:=anb hi;obtain⟨b0,b1⟩:=o2 n (anh hc);refine gq ?_;refine⟨_,rfl,_,rfl,Oo b0 b1,?_⟩;refine cB.mk (by rw[bo];exact(List.getElem?_eq_some_iff.mp hc).1) ae ⟨?_,by rw[pN]⟩
      rw[aoL,hc,ky];rfl
    ·rintro ys H3 ⟨rfl,rfl⟩;rw[bo,an8];refine q D _ (hs1.new hD) (hs1.free hD) ?_;rw[ae];show some (HO.lst _)=some (HO.lst ((ns.map num).map V.str));rw[List.map_map];rfl
theorem tJ (T:Txt w.params K mg A):aT P w K mg base CX0 4 A.nJ A.iI ["deed"] (Ht K):=by
 have vx:aT P w K mg base CX0 3 A.rn A.jQ ["words"] (xQ K):=(tI T).mono (by decide)
 refine T.l5.ok GW (λvs H Q E h=>?_) (λcdv A' outer s H vs Q E hr h=>?_)
 ·obtain⟨t,d,rfl,_⟩:=h;rfl
 ·obtain⟨t,d,rfl,hd,o,q⟩:=h;refine⟨_,(aj (aG (bb vx hr rfl T.p4 T.lY.kp T.pZ .nil aW (aa (bY Um (dn (aa (aZ bx (pv 0) ai (λ_ _=>rfl)) ag)) (bb (BQ T) hr rfl T.vg T.oh.kp T.vf .nil aW (aa (pv 0) ag))) ag)))),?_⟩
  try dsimp only[bE]
  refine aS λGq gq=>?_
  have lim:gr=16777216:=by decide
  obtain⟨b1,b2,b3⟩:=AH o;obtain⟨xs,hx,hx0⟩:=hd.at0;refine gq ?_;refine ixv rfl hx hx0 ⟨(sl 1),λp hp=>?_⟩
  refine⟨_,rfl,t,d,rfl,hd.same (aB hp),o,λp2 H2 s2 hn2 h2=>?_⟩
  have hp2:H2 p=some (.lst [V.str (iu d)]):=s2 _ _ ae;refine⟨p,p2,_,_,rfl,rfl,hp2,h2,(by rw[bo];show 1+_<=_;omega),λp3 hp3=>?_⟩
  refine⟨p3,iu d::gh d,rfl,SqL.of (by rw[ae];rfl),?_,q _ (((aB hp).trans s2).new hp3)⟩
  have:=StrLaws.sumLen_le (B:=20) (iu d::gh d) (λw hw=>by
   rcases List.mem_cons.mp hw with rfl | hw
   ·exact b3
   ·exact b2 w hw)
  rw[tm]at this ⊢;omega
end
end R
inductive Rl where
 |ob | made | aH | aV | decided | firsts | kept | rows
 |oE (n:Nat) | vy (n:Nat) | oF (n:Nat)
abbrev Col:=Addr->Option (Nat×Rl)
def fm (i:Nat)(x:Option (Nat×Rl)):Prop:=∃r,x=some (i,r)
theorem iw {i j:Nat}(n:i≠j)(r:Rl):¬fm j (some (i,r)):=λ⟨_,e⟩=>by cases e;exact n rfl
theorem aX {i:Nat}:¬fm i none:=λ⟨_,e⟩=>by cases e
structure Step (W:Option (Nat×Rl)->Prop)(c c':Col)(H H':Hp):Prop where
 nn:¬W none
 keep:∀a v,H a=some v->¬W (c a)->H' a=some v
 there:∀a v,H a=some v->∃v',H' a=some v'
 col:∀a v,H a=some v->¬W (c a)->c' a=c a
section
variable{W W':Option (Nat×Rl)->Prop}{c c1 c2:Col}{H H' H1 H2:Hp}{a:Addr}{o:HO}
theorem Step.refl (n:¬W none):Step W c c H H:=⟨n,λ_ _ h _=>h,λ_ v h=>⟨v,h⟩,λ_ _ _ _=>rfl⟩
theorem Step.same (n:¬W none)(s:a9 H H'):Step W c c H H':=⟨n,λa v h _=>s a v h,λa v h=>⟨v,s a v h⟩,λ_ _ _ _=>rfl⟩
theorem Step.mono (f:∀x,W x->W' x)(n:¬W' none)(s:Step W c c1 H H1):Step W' c c1 H H1 where
 nn:=n
 keep:=λa v h m=>s.keep a v h λz=>m (f _ z)
 there:=s.there
 col:=λa v h m=>s.col a v h λz=>m (f _ z)
theorem Step.trans (x:Step W c c1 H H1)(y:Step W c1 c2 H1 H2):Step W c c2 H H2 where
 nn:=x.nn
 keep:=λa v h n=>y.keep a v (x.keep a v h n) (by rw[x.col a v h n];exact n)
 there:=λa v h=>let ⟨v1,h1⟩:=x.there a v h;y.there a v1 h1
 col:=λa v h n=>(y.col a v (x.keep a v h n) (by rw[x.col a v h n];exact n)).trans (x.col a v h n)
theorem Step.upd (n:¬W none)(m:W (c a)):Step W c c H (L2.upd H a o) where
 nn:=n
 keep:=λb v h n=>by rw[av (λz=>n (by rw[z];exact m))];exact h
 there:=λb v h=>by
  by_cases z:b=a
  ·rw[z];exact⟨o,ae⟩
  ·exact⟨v,by rw[av z];exact h⟩
 col:=λ_ _ _ _=>rfl
def aN (c:Col)(a:Addr)(x:Option (Nat×Rl)):Col:=λb=>if b=a then x else c b
theorem bt {x:Option (Nat×Rl)}:aN c a x a=x:=if_pos rfl
theorem aC {b:Addr}{x:Option (Nat×Rl)}(h:b≠a):aN c a x b=c b:=if_neg h
theorem Step.new {x:Option (Nat×Rl)}(n:¬W none)(h:H a=none):Step W c (aN c a x) H (L2.upd H a o) where
 nn:=n
 keep:=λb v e _=>aB h b v e
 there:=λb v e=>⟨v,aB h b v e⟩
 col:=λb v e _=>aC (λz=>by rw[z,h]at e;cases e)
theorem Step.role {x:Option (Nat×Rl)}(n:¬W none)(m:W (c a)):Step W c (aN c a x) H H where
 nn:=n
 keep:=λ_ _ h _=>h
 there:=λ_ v h=>⟨v,h⟩
 col:=λb _ _ n=>aC (λz=>n (by rw[z];exact m))
def eh (c:Col)(H:Hp):Col:=λa=>if (H a).isSome then c a else none
theorem dg (h:H a=none):eh c H a=none:=by unfold eh;rw[h];rfl
theorem R5 {v:HO}(h:H a=some v):eh c H a=c a:=by unfold eh;rw[h];rfl
theorem Step.cl (n:¬W none)(s:a9 H H'):Step W c (eh c H) H H':=⟨n,λa v h _=>s a v h,λa v h=>⟨v,s a v h⟩,λ_ _ h _=>R5 h⟩
end
def Wr (i:Nat)(p:Rl->Bool)(x:Option (Nat×Rl)):Prop:=∃r,x=some (i,r)/\p r=true
section
variable{i:Nat}{p:Rl->Bool}{r:Rl}{c c':Col}{H H':Hp}{a:Addr}
theorem Wr.nn:¬Wr i p none:=λ⟨_,e,_⟩=>nomatch e
theorem Wr.no (h:p r=false):¬Wr i p (some (i,r)):=λ⟨_,e,z⟩=>by cases e;rw[h]at z;cases z
theorem Wr.yes (e:c a=some (i,r))(h:p r=true):Wr i p (c a):=⟨r,e,h⟩
theorem Step.vz (s:Step (Wr i p) c c' H H'):Step (fm i) c c' H H':=s.mono (λ_ ⟨r,e,_⟩=>⟨r,e⟩) aX
theorem xS {o:Addr}{v:HO}(h:p .ob=false)(s:Step (Wr i p) c c' H H')(h1:c o=some (i,.ob))(h2:H o=some v):c' o=some (i,.ob)/\H' o=some v:=by
 have hn:¬Wr i p (c o):=by rw[h1];exact Wr.no h
 exact⟨by rw[s.col o _ h2 hn];exact h1,s.keep _ _ h2 hn⟩
end
inductive Mn where
 |mat (tx:List Str) | chg (e:Ed) | mnd (e:Ed) | off (n:Int) | cls | lay | rst | pnt (z:Str)
def Mn.k:Mn->Nat
 | .mat _=>0 | .chg _=>1 | .mnd _=>2 | .off _=>3 | .cls=>4 | .lay=>5 | .rst=>6 | .pnt _=>7
theorem Mn.k8 (m:Mn):m.k < 8:=by cases m <;> simp only[Mn.k] <;> omega
def TupAt (c:Col)(H:Hp)(t:Addr)(xs:List V):Prop:=c t=none/\Rd H t (.tup xs)
theorem TupAt.sq {K:ba}{c:Col}{H:Hp}{t:Addr}{xs:List V}(h:TupAt c H t xs):SqT K H t xs:=.inl h.2
theorem TupAt.step {W:Option (Nat×Rl)->Prop}{c c':Col}{H H':Hp}{t:Addr}{xs:List V}(s:Step W c c' H H')(h:TupAt c H t xs):TupAt c' H' t xs:=by
 obtain⟨n,h⟩:=h;have hn:¬W (c t):=by rw[n];exact s.nn
 rcases h with h | ⟨o,h⟩
 ·exact⟨by rw[s.col t _ h hn];exact n,.inl (s.keep _ _ h hn)⟩
 ·exact⟨by rw[s.col t _ h hn];exact n,.inr ⟨o,s.keep _ _ h hn⟩⟩
def Oq (c:Col)(H:Hp)(p:Addr)(tx:List Str):Prop:=c p=none/\H p=some (.lst (tx.map V.str))
theorem Oq.step {W:Option (Nat×Rl)->Prop}{c c':Col}{H H':Hp}{p:Addr}{tx:List Str}(s:Step W c c' H H')(h:Oq c H p tx):Oq c' H' p tx :=
 have hn:¬W (c p):=by rw[h.1];exact s.nn
 ⟨by rw[s.col p _ h.2 hn];exact h.1,s.keep _ _ h.2 hn⟩
def Mn.Val (c:Col)(H:Hp):Mn->V->Prop
 | .mat tx,v=>∃p,v=.ref p/\Oq c H p tx
 | .chg e,v=>∃t,v=.ref t/\TupAt c H t (iN e)
 | .mnd e,v=>∃t,v=.ref t/\TupAt c H t (iN e)
 | .off n,v=>v=.int n
 | .pnt z,v=>v=.str z
 |_,_=>True
theorem Mn.Val.step {W:Option (Nat×Rl)->Prop}{c c':Col}{H H':Hp}(s:Step W c c' H H'):∀ {m:Mn} {v:V},m.Val c H v->m.Val c' H' v
 | .mat _,_,⟨p,e,h⟩=>⟨p,e,h.step s⟩
 | .chg _,_,⟨t,e,h⟩=>⟨t,e,h.step s⟩
 | .mnd _,_,⟨t,e,h⟩=>⟨t,e,h.step s⟩
 | .off _,_,h=>h
 | .pnt _,_,h=>h
 | .cls,_,_=>trivial
 | .lay,_,_=>trivial
 | .rst,_,_=>trivial
def oG (A:Adr)(c:Col)(H:Hp)(m:Mn)(o:Addr):Prop:=c o=none/\∃dx v,H o=some (.ins (A.C m.k) dx (rF m.k v))/\m.Val c H v
theorem oG.step {A:Adr}{W:Option (Nat×Rl)->Prop}{c c':Col}{H H':Hp}{m:Mn}{o:Addr}(s:Step W c c' H H')(h:oG A c H m o):oG A c' H' m o:=by
 obtain⟨n,dx,v,h,hv⟩:=h;have hn:¬W (c o):=by rw[n];exact s.nn
 exact⟨by rw[s.col o _ h hn];exact n,dx,v,s.keep _ _ h hn,hv.step s⟩
structure Ch where
 cJ:Int
 bg:Int
 closed:Bool
 made:List Mn
 aH:List Nat
 aV:List (Nat×Int×List Nat)
 decided:List (Nat×Str)
 firsts:List (Nat×List Str)
 kept:List (Nat×List Ed)
 rows:List Str
def nV (n:Nat):V:=.int (n:Int)
def bp (xs:List (Nat×V)):List (Key×V):=xs.map λp=>(ma (p.1:Int),p.2)
inductive bI {α β:Type}(R:α->β->Prop):List α->List β->Prop
 |nil:bI R [] []
 |cons {a b as bs}:R a b->bI R as bs->bI R (a::as) (b::bs)
theorem bI.imp {α β:Type}{R R':α->β->Prop}(f:∀a b,R a b->R' a b):∀ {as:List α} {bs:List β},bI R as bs->bI R' as bs
 |_,_,.nil=>.nil
 |_,_,.cons h t=>.cons (f _ _ h) (t.imp f)
def LstAt (i:Nat)(c:Col)(H:Hp)(r:Rl)(a:Addr)(xs:List V):Prop:=c a=some (i,r)/\H a=some (.lst xs)
def l9 (i:Nat)(c:Col)(H:Hp)(r:Rl)(a:Addr)(xs:List (Nat×V)):Prop:=c a=some (i,r)/\H a=some (.dK (bp xs))
def chF (v0 v1 v2 v3 v4 v5 v6 v7 v8 v9:V):List (Str×V):=[(ar "seats",v0),(ar "sitting",v1),(ar "closed",v2),(ar "made",v3),(ar "pile",v4),(ar "aside",v5),(ar "decided",v6),(ar "first_texts",v7),(ar "edits_kept",v8),(ar "rows",v9)]
abbrev R6 (i:Nat)(c:Col)(H:Hp)(x:Nat×Int×List Nat)(v:V):Prop:=∃t p,v=.ref t/\TupAt c H t [.int x.2.1,.ref p]/\LstAt i c H (.oE x.1) p (x.2.2.map nV)
abbrev Hv (i:Nat)(c:Col)(H:Hp)(x:Nat×List Str)(v:V):Prop:=∃p,v=.ref p/\LstAt i c H (.oF x.1) p (x.2.map V.str)
abbrev Ot (i:Nat)(c:Col)(H:Hp)(x:Nat×List Ed)(v:V):Prop:=∃p ts,v=.ref p/\LstAt i c H (.vy x.1) p (ts.map V.ref)/\bI (λe t=>TupAt c H t (iN e)) x.2 ts
structure ChX (A:Adr)(i:Nat)(c:Col)(H:Hp)(o:Addr)(st:Ch)(dx aM aP aA aD aF aE aR:Addr)(ms ds:List Addr)(ws fs es:List V):Prop where
 co:c o=some (i,.ob)
 ob:H o=some (.ins A.ao dx (chF (.int st.cJ) (.int st.bg) (.bl st.closed) (.ref aM) (.ref aP) (.ref aA) (.ref aD) (.ref aF) (.ref aE) (.ref aR)))
 made:l9 i c H .made aM ((anL 1 st.made.length).zip (ms.map V.ref))
 mot:bI (λm p=>oG A c H m p) st.made ms
 aH:LstAt i c H .aH aP (st.aH.map nV)
 aV:l9 i c H .aV aA ((st.aV.map (·.1)).zip ws)
 wait:bI (R6 i c H) st.aV ws
 dec:LstAt i c H .decided aD (ds.map V.ref)
 BR:bI (λ(x:Nat×Str) t=>TupAt c H t [nV x.1,.str x.2]) st.decided ds
 firsts:l9 i c H .firsts aF ((st.firsts.map (·.1)).zip fs)
 first:bI (Hv i c H) st.firsts fs
 kz:l9 i c H .kept aE ((st.kept.map (·.1)).zip es)
 kept:bI (Ot i c H) st.kept es
 rows:LstAt i c H .rows aR (st.rows.map V.str)
structure dh (A:Adr)(i:Nat)(c:Col)(H:Hp)(o:Addr)(st:Ch):Prop where
 ex:∃(dx aM aP aA aD aF aE aR:Addr) (ms ds:List Addr) (ws fs es:List V),ChX A i c H o st dx aM aP aA aD aF aE aR ms ds ws fs es
theorem LstAt.keep {i:Nat}{W:Option (Nat×Rl)->Prop}{c c':Col}{H H':Hp}{r:Rl}{a:Addr}{xs:List V}(n:¬W (some (i,r)))(s:Step W c c' H H')(h:LstAt i c H r a xs):LstAt i c' H' r a xs:=by
 have hn:¬W (c a):=by rw[h.1];exact n
 exact⟨by rw[s.col a _ h.2 hn];exact h.1,s.keep _ _ h.2 hn⟩
theorem l9.keep {i:Nat}{W:Option (Nat×Rl)->Prop}{c c':Col}{H H':Hp}{r:Rl}{a:Addr}{xs:List (Nat×V)}(n:¬W (some (i,r)))(s:Step W c c' H H')(h:l9 i c H r a xs):l9 i c' H' r a xs:=by
 have hn:¬W (c a):=by rw[h.1];exact n
 exact⟨by rw[s.col a _ h.2 hn];exact h.1,s.keep _ _ h.2 hn⟩
section
variable{A:Adr}{i:Nat}{p:Rl->Bool}{r:Rl}{c c':Col}{H H':Hp}{a o:Addr}
theorem LstAt.kp {xs:List V}(h:p r=false)(s:Step (Wr i p) c c' H H')(z:LstAt i c H r a xs):LstAt i c' H' r a xs:=z.keep (Wr.no h) s
theorem l9.kp {xs:List (Nat×V)}(h:p r=false)(s:Step (Wr i p) c c' H H')(z:l9 i c H r a xs):l9 i c' H' r a xs:=z.keep (Wr.no h) s
theorem bI.imp_mem {α β:Type}{R R':α->β->Prop}:∀ {as:List α} {bs:List β},(∀a∈as,∀b,R a b->R' a b)->bI R as bs->bI R' as bs
 |_,_,_,.nil=>.nil
 |_,_,f,.cons h t=>.cons (f _ kb _ h) (t.imp_mem λa m b=>f a (kq _ m) b)
theorem vA {as:List Mn}{ms:List Addr}{W:Option (Nat×Rl)->Prop}(s:Step W c c' H H')(z:bI (λm p=>oG A c H m p) as ms):bI (λm p=>oG A c' H' m p) as ms:=z.imp λ_ _ y=>y.step s
theorem vB {as:List (Nat×Str)}{ds:List Addr}{W:Option (Nat×Rl)->Prop}(s:Step W c c' H H')(z:bI (λ(x:Nat×Str) t=>TupAt c H t [nV x.1,.str x.2]) as ds):bI (λ(x:Nat×Str) t=>TupAt c' H' t [nV x.1,.str x.2]) as ds:=z.imp λ_ _ y=>y.step s
theorem xn {as:List (Nat×Int×List Nat)}{ws:List V}(h:∀x∈as,p (.oE x.1)=false)(s:Step (Wr i p) c c' H H')(z:bI (R6 i c H) as ws):bI (R6 i c' H') as ws :=
 z.imp_mem λx m v ⟨t,q,e,z1,z2⟩=>⟨t,q,e,z1.step s,z2.kp (h x m) s⟩
theorem xo {as:List (Nat×List Str)}{ws:List V}(h:∀x∈as,p (.oF x.1)=false)(s:Step (Wr i p) c c' H H')(z:bI (Hv i c H) as ws):bI (Hv i c' H') as ws :=
 z.imp_mem λx m v ⟨q,e,z2⟩=>⟨q,e,z2.kp (h x m) s⟩
theorem y9 {as:List (Nat×List Ed)}{ws:List V}(h:∀x∈as,p (.vy x.1)=false)(s:Step (Wr i p) c c' H H')(z:bI (Ot i c H) as ws):bI (Ot i c' H') as ws :=
 z.imp_mem λx m v ⟨q,ts,e,z2,z3⟩=>⟨q,ts,e,z2.kp (h x m) s,z3.imp λ_ _ y=>y.step s⟩
end
theorem dh.other {A:Adr}{i j:Nat}(n:i≠j){c c':Col}{H H':Hp}{o:Addr}{st:Ch}(s:Step (fm j) c c' H H')(h:dh A i c H o st):dh A i c' H' o st:=by
 obtain⟨dx,aM,aP,aA,aD,aF,aE,aR,ms,ds,ws,fs,es,h1,h2,h3,h4,h5,h6,h7,h8,h9,h10,h11,h12,h13,h14⟩:=h.ex;have no:=λr=>iw n r
 have hn:¬fm j (c o):=by rw[h1];exact no _
 refine⟨dx,aM,aP,aA,aD,aF,aE,aR,ms,ds,ws,fs,es,by rw[s.col o _ h2 hn];exact h1,s.keep _ _ h2 hn,h3.keep (no _) s,h4.imp λ_ _ z=>z.step s,h5.keep (no _) s,h6.keep (no _) s,h7.imp ?_,h8.keep (no _) s,h9.imp λ_ _ z=>z.step s,
  h10.keep (no _) s,h11.imp ?_,h12.keep (no _) s,h13.imp ?_,h14.keep (no _) s⟩
 ·rintro x v ⟨t,p,e,z1,z2⟩;exact⟨t,p,e,z1.step s,z2.keep (no _) s⟩
 ·rintro x v ⟨p,e,z⟩;exact⟨p,e,z.keep (no _) s⟩
 ·rintro x v ⟨p,ts,e,z1,z2⟩;exact⟨p,ts,e,z1.keep (no _) s,z2.imp λ_ _ y=>y.step s⟩
section
variable{v0 v1 v2 v3 v4 v5 v6 v7 v8 v9 y:V}
theorem Pm:(chF v0 v1 v2 v3 v4 v5 v6 v7 v8 v9).lookup (ar "seats")=some v0:=by simp only[chF,anR,show (ar "seats" == ar "seats")=true from by trivial]
theorem jI:(chF v0 v1 v2 v3 v4 v5 v6 v7 v8 v9).lookup (ar "sitting")=some v1:=by simp only[chF,anR,show (ar "sitting" == ar "seats")=false from by trivial,show (ar "sitting" == ar "sitting")=true from by trivial]
theorem oH:(chF v0 v1 v2 v3 v4 v5 v6 v7 v8 v9).lookup (ar "closed")=some v2:=by simp only[chF,anR,show (ar "closed" == ar "seats")=false from by trivial,show (ar "closed" == ar "sitting")=false from by trivial,show (ar "closed" == ar "closed")=true from by trivial]
theorem i5:(chF v0 v1 v2 v3 v4 v5 v6 v7 v8 v9).lookup (ar "made")=some v3:=by simp only[chF,anR,show (ar "made" == ar "seats")=false from by trivial,show (ar "made" == ar "sitting")=false from by trivial,show (ar "made" == ar "closed")=false from by trivial,show (ar "made" == ar "made")=true from by trivial]
theorem fY:(chF v0 v1 v2 v3 v4 v5 v6 v7 v8 v9).lookup (ar "pile")=some v4:=by simp only[chF,anR,show (ar "pile" == ar "seats")=false from by trivial,show (ar "pile" == ar "sitting")=false from by trivial,show (ar "pile" == ar "closed")=false from by trivial,show (ar "pile" == ar "made")=false from by trivial,show (ar "pile" == ar "pile")=true from by trivial]
theorem lj:(chF v0 v1 v2 v3 v4 v5 v6 v7 v8 v9).lookup (ar "aside")=some v5:=by simp only[chF,anR,show (ar "aside" == ar "seats")=false from by trivial,show (ar "aside" == ar "sitting")=false from by trivial,show (ar "aside" == ar "closed")=false from by trivial,show (ar "aside" == ar "made")=false from by trivial,show (ar "aside" == ar "pile")=false from by trivial,show (ar "aside" == ar "aside")=true from by trivial]
theorem By:(chF v0 v1 v2 v3 v4 v5 v6 v7 v8 v9).lookup (ar "decided")=some v6:=by simp only[chF,anR,show (ar "decided" == ar "seats")=false from by trivial,show (ar "decided" == ar "sitting")=false from by trivial,show (ar "decided" == ar "closed")=false from by trivial,show (ar "decided" == ar "made")=false from by trivial,show (ar "decided" == ar "pile")=false from by trivial,show (ar "decided" == ar "aside")=false from by trivial,show (ar "decided" == ar "decided")=true from by trivial]
theorem mM:(chF v0 v1 v2 v3 v4 v5 v6 v7 v8 v9).lookup (ar "first_texts")=some v7:=by simp only[chF,anR,show (ar "first_texts" == ar "seats")=false from by trivial,show (ar "first_texts" == ar "sitting")=false from by trivial,show (ar "first_texts" == ar "closed")=false from by trivial,show (ar "first_texts" == ar "made")=false from by trivial,show (ar "first_texts" == ar "pile")=false from by trivial,show (ar "first_texts" == ar "aside")=false from by trivial,show (ar "first_texts" == ar "decided")=false from by trivial,show (ar "first_texts" == ar "first_texts")=true from by trivial]
theorem oI:(chF v0 v1 v2 v3 v4 v5 v6 v7 v8 v9).lookup (ar "edits_kept")=some v8:=by simp only[chF,anR,show (ar "edits_kept" == ar "seats")=false from by trivial,show (ar "edits_kept" == ar "sitting")=false from by trivial,show (ar "edits_kept" == ar "closed")=false from by trivial,show (ar "edits_kept" == ar "made")=false from by trivial,show (ar "edits_kept" == ar "pile")=false from by trivial,show (ar "edits_kept" == ar "aside")=false from by trivial,show (ar "edits_kept" == ar "decided")=false from by trivial,show (ar "edits_kept" == ar "first_texts")=false from by trivial,show (ar "edits_kept" == ar "edits_kept")=true from by trivial]
theorem vC:(chF v0 v1 v2 v3 v4 v5 v6 v7 v8 v9).lookup (ar "rows")=some v9:=by simp only[chF,anR,show (ar "rows" == ar "seats")=false from by trivial,show (ar "rows" == ar "sitting")=false from by trivial,show (ar "rows" == ar "closed")=false from by trivial,show (ar "rows" == ar "made")=false from by trivial,show (ar "rows" == ar "pile")=false from by trivial,show (ar "rows" == ar "aside")=false from by trivial,show (ar "rows" == ar "decided")=false from by trivial,show (ar "rows" == ar "first_texts")=false from by trivial,show (ar "rows" == ar "edits_kept")=false from by trivial,show (ar "rows" == ar "rows")=true from by trivial]
theorem Jc:g9 (ar "sitting") y (chF v0 v1 v2 v3 v4 v5 v6 v7 v8 v9)=chF v0 y v2 v3 v4 v5 v6 v7 v8 v9:=by
 unfold chF;simp only[g9];rw[if_neg (by trivial),if_pos trivial]
theorem Ek:g9 (ar "closed") y (chF v0 v1 v2 v3 v4 v5 v6 v7 v8 v9)=chF v0 v1 y v3 v4 v5 v6 v7 v8 v9:=by
 unfold chF;simp only[g9];rw[if_neg (by trivial),if_neg (by trivial),if_pos trivial]
theorem Jd:g9 (ar "pile") y (chF v0 v1 v2 v3 v4 v5 v6 v7 v8 v9)=chF v0 v1 v2 v3 y v5 v6 v7 v8 v9:=by
 unfold chF;simp only[g9];rw[if_neg (by trivial),if_neg (by trivial),if_neg (by trivial),if_neg (by trivial),if_pos trivial]
end
def Pn (A:Adr)(i:Nat):Sp:=λvs H Q E=>∃(o:Addr) (c:Col) (st:Ch),vs=[.ref o]/\dh A i c H o st/\(st.aH≠[]->Q .non H)/\(st.aH=[]->E (.ref A.rq) none H)
section
variable{P:rf}{w:World}{K:ba}{mg:Str->Option Value}{base:Heap}{A:Adr}
theorem oJ (T:Txt w.params K mg A){i:Nat}:aT P w K mg base (CXX P w) 1 A.bj A.eL ["self"] (Pn A i):=by
 refine T.cv.okX nR (λvs H Q E h=>?_) (λcdv A' outer s H vs Q E hr h=>?_)
 ·obtain⟨o,c,st,rfl,_⟩:=h;rfl
 ·obtain⟨o,c,st,rfl,hc,q1,q2⟩:=h;obtain⟨dx,aM,aP,aA,aD,aF,aE,aR,ms,ds,ws,fs,es,h1,h2,h3,h4,h5,h6,h7,h8,h9,h10,h11,h12,h13,h14⟩:=hc.ex;refine⟨_,(aO (du (jf (uI (bf (pv 0) rfl) (λ_=>rfl)))
 (aO (jt T.D8 rfl rfl T.FX (aa aq ag)))
 (mY aI))),?_⟩
  try dsimp only[bE]
  refine fw rfl h2 T.ah T.jq0 fY ?_;refine⟨_,.inl ⟨_,.inl (.inl h5.2),rfl⟩,?_⟩;cases e:st.aH with
  |nil=>exact iQ ⟨by decide,q2 e⟩
  |cons x r=>exact et (q1 (by rw[e];exact anB _ _))
end
theorem bI.len {α β:Type}{R:α->β->Prop}:∀ {as:List α} {bs:List β},bI R as bs->as.length=bs.length
 |_,_,.nil=>rfl
 |_,_,.cons _ t=>by rw[tm,tm,t.len]
theorem bI.get {α β:Type}{R:α->β->Prop}:∀ {as:List α} {bs:List β} {i:Nat} {a:α},bI R as bs->as[i]?=some a->∃b,bs[i]?=some b/\R a b
 |_,_,_,_,.nil,h=>by simp at h
 |_,_,0,_,.cons h t,e=>by
  rw[anK]at e;cases e;exact⟨_,anK,h⟩
 |_,_,i+1,_,.cons h t,e=>by
  rw[an1]at e;obtain⟨b,e1,e2⟩:=t.get e;exact⟨b,by rw[an1];exact e1,e2⟩
theorem El:∀(ms:List Addr) (s k:Nat) {o:Addr},ms[k]?=some o->lU (bp ((anL s ms.length).zip (ms.map V.ref))) (ma ((s+k:Nat):Int))=some (.ref o)
 |[],_,_,_,h=>by simp at h
 |m::ms,s,0,o,h=>by
  rw[anK]at h;cases h;exact nQ (p:=(ma ((s:Nat):Int),V.ref m)) rfl
 |m::ms,s,k+1,o,h=>by
  rw[an1]at h;have ih:=El ms (s+1) k h;have e:s+(k+1)=s+1+k:=by omega
  rw[e];refine(jP (p:=(ma ((s:Nat):Int),V.ref m)) ?_).trans ih;intro z;have z':((s:Nat):Int)=((s+1+k:Nat):Int):=Sum.inl.inj z;omega
def Ch.mo (st:Ch)(n:Nat):Mn:=st.made.getD (n - 1) .cls
def fq (st:Ch)(n:Nat):Prop:=1<=n/\n<=st.made.length
def Po (A:Adr)(i:Nat):Sp:=λvs H Q _=>∃(o:Addr) (c:Col) (st:Ch),vs=[.ref o]/\dh A i c H o st/\(∀n∈st.aH,fq st n)/\st.aH.length<=1000 /\
 ∀R os,H R=none->bI (λn m=>oG A c H (st.mo n) m) st.aH os->Q (.ref R) (upd H R (.lst (os.map V.ref)))
theorem Ou {A:Adr}{c:Col}{H:Hp}{st:Ch}{ms:List Addr}(h:bI (λm p=>oG A c H m p) st.made ms):∀(ns:List Nat),(∀n∈ns,fq st n)->bI (λn m=>oG A c H (st.mo n) m) ns (ns.map λn=>ms.getD (n - 1) 0)
 |[],_=>.nil
 |n::ns,g=>by
  have hn:=g n kb;have hlt:n - 1 < st.made.length:=by have:=hn.1;have:=hn.2;omega
  obtain⟨b,e1,e2⟩:=h.get (anm hlt);refine .cons ?_ (Ou h ns λn hn=>g n (kq _ hn))
  have e3:st.mo n=st.made[n - 1]:=by unfold Ch.mo;rw[ank,anm hlt];rfl
  have e4:ms.getD (n - 1) 0=b:=by rw[ank,e1];rfl
  show oG A c H (st.mo n) (ms.getD (n - 1) 0);rw[e3,e4];exact e2
section
variable{P:rf}{w:World}{K:ba}{mg:Str->Option Value}{base:Heap}{A:Adr}
theorem xT (T:Txt w.params K mg A){i:Nat}:aT P w K mg base CX0 1 A.bZ A.jj ["self"] (Po A i):=by
 refine T.fh.ok xD (λvs H Q E h=>?_) (λcdv A' outer s H vs Q E hr h=>?_)
 ·obtain⟨o,c,st,rfl,_⟩:=h;rfl
 ·obtain⟨o,c,st,rfl,hc,hp,hpl,q⟩:=h;obtain⟨dx,aM,aP,aA,aD,aF,aE,aR,ms,ds,ws,fs,es,h1,h2,h3,h4,h5,h6,h7,h8,h9,h10,h11,h12,h13,h14⟩:=hc.ex;have hu1:=hr.u1;refine⟨_,(aj (aG (pS (scope:=j9) uR rfl (jL (bf (pv 0) rfl)) (λ_ _ _ _ _=>(lN hu1 (UD (K:=K) rfl (pv 1) rfl) (pv 0) (λ_ _=>rfl)))))),?_⟩
  try dsimp only[bE]
  have ml:=h4.len;refine fw rfl h2 T.ah T.jq0 fY ?_;have hB:SqL K H aP (st.aH.map nV):=SqL.of h5.2;refine⟨aP,rfl,⟨_,hB⟩,λR hR=>?_⟩
  have sR:∀ {o:HO},a9 H (upd H R o):=aB hR;refine kG (K:=K) (a:=aP) (xs:=st.aH.map nV) (λi ys H2=>ys=((st.aH.take i).map λn=>V.ref (ms.getD (n - 1) 0))/\H2=upd H R (.lst ys)) ⟨rfl,rfl⟩ (by rw[bo,sizeLine_eq];omega) ?_ ?_ ?_
  ·rintro i ys H2 hi ⟨rfl,rfl⟩;rw[bo]at hi;exact⟨sR.seq hB,ae,by rw[bo,anC];omega⟩
  ·rintro i y ys H2 hy ⟨rfl,rfl⟩;refine aS λGq gq=>?_
   obtain⟨n,hn1,rfl⟩:∃n,st.aH[i]?=some n/\nV n=y:=by
    rw[ant]at hy;cases ht:st.aH[i]? with
    |none=>rw[ht]at hy;cases hy
    |some t=>rw[ht]at hy;exact⟨t,rfl,anb hy⟩
   have hn:=hp n (anh hn1);have hlt:n - 1 < ms.length:=by have:=hn.1;have:=hn.2;omega
   have hm:ms[n - 1]?=some (ms.getD (n - 1) 0):=by rw[ank,anm hlt];rfl
   have hv:=El ms 1 (n - 1) hm;rw[<-ml,show 1+(n - 1)=n by have:=hn.1;omega]at hv
   refine gq ?_;refine fw rfl (sR _ _ h2) T.ah T.jq2 i5 ?_;refine⟨_,rfl,aM,_,rfl,.inl ⟨_,ma (n:Int),.inl (sR _ _ h3.2),rfl,hv.symm⟩,?_⟩;refine cB.mk (List.getElem?_eq_some_iff.mp hy).1 ae ⟨?_,by rw[pN]⟩
   rw[aoL,hn1,ky];rfl
  ·rintro ys H2 ⟨rfl,rfl⟩;rw[bo,an8];have:=q R _ hR (Ou h4 st.aH hp);rw[List.map_map]at this;exact this
end
theorem bI.snoc {α β:Type}{R:α->β->Prop}:∀ {as:List α} {bs:List β} {a:α} {b:β},bI R as bs->R a b->bI R (as++[a]) (bs++[b])
 |_,_,_,_,.nil,h=>.cons h .nil
 |_,_,_,_,.cons g t,h=>.cons g (t.snoc h)
def R7 (A:Adr)(i:Nat):Sp:=λvs H Q _=>∃(o:Addr) (wd:Str) (c:Col) (st:Ch) (pre:List Nat) (n:Nat),vs=[.ref o,.str wd]/\dh A i c H o st/\st.aH=pre++[n]/\st.aH.length<=1000/\st.decided.length<=1000 /\
 ∀c' H',Step (fm i) c c' H H'->dh A i c' H' o { st with aH:=pre,decided:=st.decided++[(n,wd)] }->Q .non H'
section
variable{P:rf}{w:World}{K:ba}{mg:Str->Option Value}{base:Heap}{A:Adr}
theorem F2 (T:Txt w.params K mg A){i:Nat}:aT P w K mg base CX0 1 A.cu A.jW ["self","word"] (R7 A i):=by
 refine T.fV.ok yK (λvs H Q E h=>?_) (λcdv A' outer s H vs Q E hr h=>?_)
 ·obtain⟨o,wd,c,st,pre,n,rfl,_⟩:=h;rfl
 ·obtain⟨o,wd,c,st,pre,n,rfl,hc,hp,hpl,hdl,q⟩:=h;obtain⟨dx,aM,aP,aA,aD,aF,aE,aR,ms,ds,ws,fs,es,h1,h2,h3,h4,h5,h6,h7,h8,h9,h10,h11,h12,h13,h14⟩:=hc.ex;refine⟨_,(aj (bR (js am9 anu anv dq (bf (pv 0) rfl) (aa (cI (aa (QN am9 PySem.F.slot_list_pop PySem.F.type_list_pop Yl (bf (pv 0) rfl)) (aa (pv 1) ag))) ag)))),?_⟩
  try dsimp only[bE]
  refine fw rfl h2 T.ah T.jqk By ?_;have hy:(st.aH.map nV)[(st.aH.map nV).length - 1]?=some (nV n):=by rw[hp];simp
  have hdr:(st.aH.map nV).dropLast=pre.map nV:=by rw[hp,ky];simp
  have nPD:aD≠aP:=λz=>by have:=h8.1;rw[z,h5.1]at this;cases this
  refine⟨.inl ⟨rfl,_,SqL.of h8.2⟩,fw rfl h2 T.ah T.jq0 fY ?_⟩;refine⟨.inl ⟨rfl,_,SqL.of h5.2⟩,aP,_,_,rfl,rfl,h5.2,hy,_,rfl,(sl 2),λp hp0=>?_⟩
  have np:∀ {a:Addr} {v:HO},H a=some v->a≠p:=by
   intro a v e z;subst z
   by_cases y:a=aP
   ·subst y;rw[ae]at hp0;cases hp0
   ·rw[av y,e]at hp0;cases hp0
  have nn:¬(λx=>x=some (i,Rl.aH)\/x=some (i,Rl.decided)) (none:Option (Nat×Rl)):=by rintro (z | z) <;> cases z
  refine⟨aD,_,_,rfl,rfl,(av (np h8.2)).trans ((av nPD).trans h8.2),?_,?_⟩
  ·rw[bo,<-h9.len,sizeLine_eq];omega
  have sp:Step (λx=>x=some (i,Rl.aH)\/x=some (i,Rl.decided)) c (aN c p none) H (upd (upd (upd H aP (.lst (st.aH.map nV).dropLast)) p (.tup [nV n,.str wd])) aD (.lst (ds.map V.ref++[.ref p]))) :=
   ((Step.upd nn (.inl h5.1)).trans (Step.new nn hp0)).trans (Step.upd nn (.inr (by rw[aC (np h8.2)];exact h8.1)))
  have ht:TupAt (aN c p none) (upd (upd (upd H aP (.lst (st.aH.map nV).dropLast)) p (.tup [nV n,.str wd])) aD (.lst (ds.map V.ref++[.ref p]))) p [nV n,.str wd] :=
   ⟨bt,.inl ((av (np h8.2).symm).trans ae)⟩
  have kp:LstAt i (aN c p none) (upd (upd (upd H aP (.lst (st.aH.map nV).dropLast)) p (.tup [nV n,.str wd])) aD (.lst (ds.map V.ref++[.ref p]))) .aH aP (pre.map nV) :=
   ⟨by rw[aC (np h5.2)];exact h5.1,by rw[av nPD.symm,av (np h5.2),ae,hdr]⟩
  have kd:LstAt i (aN c p none) (upd (upd (upd H aP (.lst (st.aH.map nV).dropLast)) p (.tup [nV n,.str wd])) aD (.lst (ds.map V.ref++[.ref p]))) .decided aD ((ds++[p]).map V.ref) :=
   ⟨by rw[aC (np h8.2)];exact h8.1,by rw[ae,ky];rfl⟩
  generalize upd (upd (upd H aP (.lst (st.aH.map nV).dropLast)) p (.tup [nV n,.str wd])) aD (.lst (ds.map V.ref++[.ref p]))=H' at sp ht kp kd ⊢;generalize aN c p none=c' at sp ht kp kd;have no:∀r,r≠Rl.aH->r≠Rl.decided->¬(λx=>x=some (i,Rl.aH)\/x=some (i,Rl.decided)) (some (i,r)):=λr y1 y2=>by
   rintro (z | z)
   ·cases z;exact y1 rfl
   ·cases z;exact y2 rfl
  have hno:=no .ob (λz=>nomatch z) (λz=>nomatch z)
  refine q c' H' (sp.mono (by rintro x (z | z) <;> exact⟨_,z⟩) aX) ⟨dx,aM,aP,aA,aD,aF,aE,aR,ms,ds++[p],ws,fs,es,by rw[sp.col o _ h2 (by rw[h1];exact hno)];exact h1,sp.keep _ _ h2 (by rw[h1];exact hno),
   h3.keep (no .made (λz=>nomatch z) (λz=>nomatch z)) sp,h4.imp λ_ _ z=>z.step sp,kp,h6.keep (no .aV (λz=>nomatch z) (λz=>nomatch z)) sp,h7.imp ?_,kd,(h9.imp λ_ _ z=>z.step sp).snoc ht,
   h10.keep (no .firsts (λz=>nomatch z) (λz=>nomatch z)) sp,h11.imp ?_,h12.keep (no .kept (λz=>nomatch z) (λz=>nomatch z)) sp,h13.imp ?_,h14.keep (no .rows (λz=>nomatch z) (λz=>nomatch z)) sp⟩
  ·rintro x v ⟨t,a,e,z1,z2⟩;exact⟨t,a,e,z1.step sp,z2.keep (no (.oE x.1) (λz=>nomatch z) (λz=>nomatch z)) sp⟩
  ·rintro x v ⟨a,e,z⟩;exact⟨a,e,z.keep (no (.oF x.1) (λz=>nomatch z) (λz=>nomatch z)) sp⟩
  ·rintro x v ⟨a,ts,e,z1,z2⟩;exact⟨a,ts,e,z1.keep (no (.vy x.1) (λz=>nomatch z) (λz=>nomatch z)) sp,z2.imp λ_ _ y=>y.step sp⟩
end
inductive Xc where
 |Em (b:Int) | En | noChange | noFit | zb (n:Int) | nothing | tooMany | Hw | Mm (n:Int) | Je
def Xc.At (A:Adr)(H:Hp):Xc->Value->Option Addr->Prop
 | .Em b,C,d=>C=.ref A.u3/\∃a,d=some a/\H a=some (.xd [(ar "bar",.int b)])
 | .En,C,d=>C=.ref A.sX/\d=none
 | .noChange,C,d=>C=.ref A.sY/\d=none
 | .noFit,C,d=>C=.ref A.wC/\d=none
 | .zb n,C,d=>C=.ref A.n9/\∃a,d=some a/\H a=some (.xd [(ar "sitting",.int n)])
 | .nothing,C,d=>C=.ref A.rq/\d=none
 | .tooMany,C,d=>C=.ref A.wD/\d=none
 | .Hw,C,d=>C=.ref A.wF/\d=none
 | .Mm n,C,d=>C=.ref A.u4/\∃a,d=some a/\H a=some (.xd [(ar "sitting",.int n)])
 | .Je,C,d=>C=.ref A.sZ/\d=none
def Xc.New (A:Adr)(H H':Hp)(x:Xc)(C:Value)(d:Option Addr):Prop:=x.At A H' C d/\∀a,d=some a->H a=none
theorem same_none {H H':Hp}(s:a9 H H'){a:Addr}(h:H' a=none):H a=none:=by
 cases z:H a with
 |none=>rfl
 |some v=>rw[s _ _ z]at h;cases h
theorem F3 {i:Int}(h0:-10000000000 < i)(h1:i < 10000000000):i.natAbs.log2 < 1920:=by
 have h:i.natAbs < 2 ^ 34:=by
  have:(10000000000:Int)<=2 ^ 34:=by decide
  omega
 by_cases hz:i.natAbs=0
 ·rw[hz];decide
 ·exact Nat.lt_trans ((Nat.log2_lt hz).mpr h) (by decide)
theorem F4 {i:Int}(h0:0<=i)(h1:i < 10000000000):(ar (toString i)).length<=20 :=
 si (PyProof.Rows.toString_length_le h0 (by decide:(1:Nat)<=11) (by show i < (10:Int) ^ 11;omega)) (by decide)
theorem rG {i:Int}(h0:0<=i)(h1:i < 10000000000):∃z,LY (.int i) z/\z.length<=10000 :=
 ⟨_,.int (F3 (by omega) h1),si (F4 h0 h1) (by decide)⟩
def vD (ms:List Mn):Int:=match ms.getLast? with
 |none=>-1
 |some m=>(m.k:Int)
def uk (cl:Bool)(ms:List Mn):Int:=if cl=true then (if (4:Int) > vD ms then 4 else vD ms) else vD ms
def Pp (ms:List Mn):Bool:=ms.any λm=>decide (m.k=0)
def tK (ms:List Mn):Bool:=match ms.getLast? with
 |some (.chg e)=>!decide (e.k=1)
 |_=>false
def Bz (ms:List Mn)(k:Nat):Bool:=if k=2 then tK ms else if k=1\/k=3\/k=4\/k=5 then Pp ms else true
def E6 (cl:Bool)(ms:List Mn)(k:Nat):Option Xc :=
 if (k:Int)<=uk cl ms then some (.Em (uk cl ms)) else if Bz ms k=true then none else if Pp ms=true then some .noChange else some .En
theorem R8 (ms:List Mn):-1<=vD ms/\vD ms < 8:=by
 unfold vD;split
 ·omega
 ·rename_i m _;have:=m.k8;omega
theorem Mo (cl:Bool)(ms:List Mn):-1<=uk cl ms/\uk cl ms < 8:=by
 have:=R8 ms;unfold uk;split
 ·split <;> omega
 ·omega
def xq (A:Adr)(K:ba)(c:Col)(H:Hp)(B:Addr)(ms:List Mn)(os:List Addr):Prop:=SqL K H B (os.map V.ref)/\bI (λm p=>oG A c H m p) ms os
theorem oG.same {A:Adr}{c:Col}{H H':Hp}{m:Mn}{o:Addr}(s:a9 H H')(h:oG A c H m o):oG A c H' m o:=h.step (Step.same (W:=λ_=>False) id s)
theorem xq.same {A:Adr}{K:ba}{c:Col}{H H':Hp}{B:Addr}{ms:List Mn}{os:List Addr}(s:a9 H H')(h:xq A K c H B ms os):xq A K c H' B ms os:=⟨s.seq h.1,h.2.imp λ_ _ y=>y.same s⟩
def adG (A:Adr)(K:ba):Sp:=λvs H Q _=>∃(B:Addr) (cl:Bool) (c:Col) (ms:List Mn) (os:List Addr),vs=[.ref B,.bl cl]/\xq A K c H B ms os/\Q (.int (uk cl ms)) H
def adH (A:Adr)(K:ba):Sp:=λvs H Q _=>∃(B:Addr) (c:Col) (ms:List Mn) (os:List Addr),vs=[.ref B]/\xq A K c H B ms os/\ms.length<=1000/\∀H',a9 H H'->Q (.bl (Pp ms)) H'
def Zc (A:Adr)(K:ba):Sp:=λvs H Q _=>∃(B:Addr) (c:Col) (ms:List Mn) (os:List Addr),vs=[.ref B]/\xq A K c H B ms os/\∀H',a9 H H'->Q (.bl (tK ms)) H'
def UU (A:Adr)(K:ba):Sp:=λvs H Q _=>∃(k:Nat) (B:Addr) (c:Col) (ms:List Mn) (os:List Addr),vs=[.str (nm k),.ref B]/\k < 8/\xq A K c H B ms os/\ms.length<=1000/\∀H',a9 H H'->Q (.bl (Bz ms k)) H'
def adI (A:Adr)(K:ba):Sp:=λvs H Q E=>∃(k:Nat) (B:Addr) (cl:Bool) (c:Col) (ms:List Mn) (os:List Addr),vs=[.str (nm k),.ref B,.bl cl]/\k < 8/\xq A K c H B ms os/\ms.length<=1000 /\
 (E6 cl ms k=none->∀H',a9 H H'->Q .non H')/\∀x,E6 cl ms k=some x->∀C d H',a9 H H'->x.New A H H' C d->E C d H'
def Hx (A:Adr)(K:ba)(k:Nat):Sp:=λvs H Q E=>(k=0/\Ol A K vs H Q E)\/Mj A k vs H Q E
theorem Eo (pre:List Addr)(q:Addr):atI ((pre++[q]).map V.ref) (-1)=some (.ref q):=by
 rw[ky];exact uJ _ _
theorem Mp:∀k,k < 8->decide (V.str (nm k)=V.str (ar "matter"))=decide (k=0):=by trivial
theorem gU:∀k,k < 8->decide (V.str (nm k)=V.str (ar "change"))=decide (k=1):=by trivial
theorem jn:∀k,k < 8->decide (V.str (nm k)=V.str (ar "mend"))=decide (k=2):=by trivial
theorem mO:∀k,k < 8->decide (V.str (nm k)=V.str (ar "put off"))=decide (k=3):=by trivial
theorem Ep:∀k,k < 8->decide (V.str (nm k)=V.str (ar "close"))=decide (k=4):=by trivial
theorem Hy:∀k,k < 8->decide (V.str (nm k)=V.str (ar "lay"))=decide (k=5):=by trivial
theorem Mq:∀k,k < 8->decide (V.str (nm k)=V.str (ar "rest"))=decide (k=6):=by trivial
theorem C0:∀ {k:Nat} {v:V},atI (rowOf k v) 0=some (.str (nm k))
 | 0,_=>rfl
 | 1,_=>rfl
 | 2,_=>rfl
 | 3,_=>rfl
 | 4,_=>rfl
 | 5,_=>rfl
 | 6,_=>rfl
 | 7,_=>rfl
 |_+8,_=>rfl
theorem Ov:∀k,decide (V.str (kn k)=V.str (ar "cut"))=decide (k=1)
 | 0=>by trivial
 | 1=>by trivial
 |n+2=>by rw[decide_eq_false (show ¬n+2=1 by omega)];show decide (V.str (ar "turn")=_)=_;trivial
theorem bI.last {α β:Type}{R:α->β->Prop}{as:List α}{pre:List β}{b:β}(h:bI R as (pre++[b])):∃as' a,as=as'++[a]/\bI R as' pre/\R a b:=by
 induction pre generalizing as with
 |nil =>
  cases h with
  |cons h t=>cases t;exact⟨[],_,rfl,.nil,h⟩
 |cons x r ih =>
  cases h with
  |cons h t =>
   obtain⟨as',a,rfl,h1,h2⟩:=ih t;exact⟨_::as',a,rfl,.cons h h1,h2⟩
theorem wO (ms:List Mn)(m:Mn):vD (ms++[m])=(m.k:Int):=by unfold vD;rw[aoo]
section
variable{P:rf}{w:World}{K:ba}{mg:Str->Option Value}{base:Heap}{A:Adr}
theorem BA (T:Txt w.params K mg A):aT P w K mg base CX0 1 A.DN A.Au ["self","bar"] (L0 A.u3 "bar"):=by
 refine T.oo.ok DC (λvs H Q E h=>?_) (λcdv A' outer s H vs Q E hr h=>?_)
 ·obtain⟨e,v,rfl,_⟩:=h;rfl
 ·obtain⟨e,v,rfl,hx,⟨z,fz,zl⟩,q⟩:=h;refine⟨_,(ak (bR (yG T.gm T.rC rfl T.fX (aa (pv 0) (aa (Bh (jO (uQ (pv 1) uP))) ag))))
 (aj (CT T.rC (pv 0) (pv 1)))),?_⟩
  try dsimp only[bE]
  have sz:gr=16777216:=by decide
  have c5:(ar "barred by the bar ").length=18:=by trivial
  have e5:(anF++ar "barred by the bar ":Str).length=18:=by trivial
  refine⟨_,rfl,by rw[e5];omega,_,rfl,z,fz,by omega,by rw[len_app,e5];omega,by rw[len_app,e5];omega,e,_,rfl,hx,?_⟩
  exact⟨_,rfl,_,rfl,e,rfl,hx,λd hd=>q d hd⟩
theorem E7 (T:Txt w.params K mg A):aT P w K mg base CX0 1 A.xM A.u5 ["self","sitting"] (L0 A.n9 "sitting"):=by
 refine T.j4.ok Ab (λvs H Q E h=>?_) (λcdv A' outer s H vs Q E hr h=>?_)
 ·obtain⟨e,v,rfl,_⟩:=h;rfl
 ·obtain⟨e,v,rfl,hx,⟨z,fz,zl⟩,q⟩:=h;refine⟨_,(ak (bR (yG T.gm T.qc rfl T.fX (aa (pv 0) (aa (Bh (jO (uQ (pv 1) uP))) ag))))
 (aj (CT T.qc (pv 0) (pv 1)))),?_⟩
  try dsimp only[bE]
  have sz:gr=16777216:=by decide
  have c5:(ar "not later than the sitting ").length=27:=by trivial
  have e5:(anF++ar "not later than the sitting ":Str).length=27:=by trivial
  refine⟨_,rfl,by rw[e5];omega,_,rfl,z,fz,by omega,by rw[len_app,e5];omega,by rw[len_app,e5];omega,e,_,rfl,hx,?_⟩
  exact⟨_,rfl,_,rfl,e,rfl,hx,λd hd=>q d hd⟩
theorem Jf (T:Txt w.params K mg A):aT P w K mg base CX0 1 A.DO A.Av ["self","sitting"] (L0 A.u4 "sitting"):=by
 refine T.ot.ok DD (λvs H Q E h=>?_) (λcdv A' outer s H vs Q E hr h=>?_)
 ·obtain⟨e,v,rfl,_⟩:=h;rfl
 ·obtain⟨e,v,rfl,hx,⟨z,fz,zl⟩,q⟩:=h;refine⟨_,(ak (bR (yG T.gm T.wK rfl T.fX (aa (pv 0) (aa (Bh (jO (uQ (pv 1) uP))) ag))))
 (aj (CT T.wK (pv 0) (pv 1)))),?_⟩
  try dsimp only[bE]
  have sz:gr=16777216:=by decide
  have c5:(ar "aside until the sitting ").length=24:=by trivial
  have e5:(anF++ar "aside until the sitting ":Str).length=24:=by trivial
  refine⟨_,rfl,by rw[e5];omega,_,rfl,z,fz,by omega,by rw[len_app,e5];omega,by rw[len_app,e5];omega,e,_,rfl,hx,?_⟩
  exact⟨_,rfl,_,rfl,e,rfl,hx,λd hd=>q d hd⟩
theorem Jg (T:Txt w.params K mg A):∀k,k < 8->aT P w K mg base CX0 2 (A.ft k) (A.ftd k) ["self"] (Hx A K k)
 | 0,_=>(RZ T).imp λvs H Q E h=>h.elim (λz=>z.2) (λz=>absurd z.1 (by decide))
 | 1,h=>(tF T 1 h).imp λvs H Q E h=>h.elim (λz=>absurd z.1 (by decide)) id
 | 2,h=>(tF T 2 h).imp λvs H Q E h=>h.elim (λz=>absurd z.1 (by decide)) id
 | 3,h=>(tF T 3 h).imp λvs H Q E h=>h.elim (λz=>absurd z.1 (by decide)) id
 | 4,h=>(tF T 4 h).imp λvs H Q E h=>h.elim (λz=>absurd z.1 (by decide)) id
 | 5,h=>(tF T 5 h).imp λvs H Q E h=>h.elim (λz=>absurd z.1 (by decide)) id
 | 6,h=>(tF T 6 h).imp λvs H Q E h=>h.elim (λz=>absurd z.1 (by decide)) id
 | 7,h=>(tF T 7 h).imp λvs H Q E h=>h.elim (λz=>absurd z.1 (by decide)) id
 |n+8,h=>absurd h (by omega)
theorem AK (T:Txt w.params K mg A):aT P w K mg base CX0 3 A.L7 A.Ah ["pile","closed"] (adG A K):=by
 have Zd:∀k,k < 8->aT P w K mg base CX0 2 A.f_r A.UG ["self"] (RX A):=λ_ _=>UP T
 refine T.u6.ok FJ (λvs H Q E h=>?_) (λcdv A' outer s H vs Q E hr h=>?_)
 ·obtain⟨B,cl,c,ms,os,rfl,_⟩:=h;rfl
 ·obtain⟨B,cl,c,ms,os,rfl,⟨hB,ho⟩,q⟩:=h;refine⟨_,(ak (bh (i:=2) FJ.nd rfl (anq rfl) (HZ (uI (pv 0) (λ_=>rfl)) (nz (n:=8) (Cf:=A.C) (aZ bz (pv 0) (xg qm ai) (λ_ _=>rfl)) T.cl T.RS Zd hr T.RT aW) (xg qm ai)))
 (ak (bJ (iP (pv 1))
 (aj (aG (bT (OY rfl) (by rfl) T.Wu Yr (aa (pv 2) (aa (lL (v:=V.int 4) rfl T.yV ⟨_,rfl⟩) ag)))))
 aI)
 (aj (aG (pv 2))))),?_⟩
  try dsimp only[bE]
  unfold uk at q;rcases anY os with h | ⟨pre,o,h⟩
  ·subst h;cases ho;refine⟨_,rfl,_,.inl ⟨_,hB,rfl⟩,et ⟨_,rfl,?_⟩⟩;refine⟨_,rfl,_,rfl,?_⟩;cases cl with
   |true=>exact iQ ⟨_,rfl,_,_,rfl,q⟩
   |false=>exact et ⟨_,rfl,q⟩
  ·rw[anZ]at h;refine aS λGq gq=>?_
   subst h;obtain⟨ms',m,rfl,_,_,dx,v,hm,_⟩:=ho.last;rw[wO]at q;refine gq ?_;refine⟨_,rfl,_,.inl ⟨_,hB,rfl⟩,Bg (by simp) ⟨_,rfl,_,rfl,B,_,_,_,rfl,rfl,hB,Eo pre o,m.k,m.k8,o,dx,_,rfl,hm,UM m.k v,o,m.k,dx,_,m.k8,rfl,hm,m9 m.k v,?_⟩⟩
   refine⟨_,rfl,_,rfl,?_⟩;cases cl with
   |true=>exact iQ ⟨_,rfl,_,_,rfl,q⟩
   |false=>exact et ⟨_,rfl,q⟩
theorem xr (T:Txt w.params K mg A):aT P w K mg base CX0 2 A.xF A.qo ["pile"] (adH A K):=by
 have ir:∀k,k < 8->aT P w K mg base CX0 1 (A.fk k) (A.fkd k) ["self"] (gS k):=nc T;refine T.m7.ok EZ (λvs H Q E h=>?_) (λcdv A' outer s H vs Q E hr h=>?_)
 ·obtain⟨B,c,ms,os,rfl,_⟩:=h;rfl
 ·obtain⟨B,c,ms,os,rfl,⟨hB,ho⟩,hl,q⟩:=h;refine⟨_,(aj (aG (bT (QV rfl) (by rfl) T.Wv Ys (aa (pS (scope:=qY) BP rfl (jL (pv 0)) (λ_ _ _ _ _=>(cH bF (nz (n:=8) (Cf:=A.C) (pv 0) T.cl T.qu ir hr T.qv aW) aq (aK _)))) ag)))),?_⟩
  try dsimp only[bE]
  have lim:gr=16777216:=by decide
  have ol:=ho.len;refine⟨_,rfl,B,rfl,⟨_,hB⟩,λR hR=>?_⟩
  have sR:∀ {o:HO},a9 H (upd H R o):=aB hR;refine kG (K:=K) (a:=B) (xs:=os.map V.ref) (λi ys H2=>ys=(ms.take i).map (λm=>V.bl (decide (m.k=0)))/\H2=upd H R (.lst ys)) ⟨rfl,rfl⟩ (by rw[bo];omega) ?_ ?_ ?_
  ·rintro i ys H2 hi ⟨rfl,rfl⟩;rw[bo]at hi;exact⟨sR.seq hB,ae,by rw[bo,anC];omega⟩
  ·rintro i y ys H2 hy ⟨rfl,rfl⟩;refine aS λGq gq=>?_
   have hi:i < ms.length:=by have:=(List.getElem?_eq_some_iff.mp hy).1;rw[bo]at this;omega
   obtain⟨o,ho1,_,dx,v,ho2,_⟩:=ho.get (anm hi);rw[ant,ho1]at hy;cases hy;refine gq ?_;refine⟨_,rfl,ms[i].k,ms[i].k8,o,dx,_,rfl,sR _ _ ho2,m9 _ v,o,rfl,rfl,?_⟩;rw[Mp _ ms[i].k8];refine cB.mk (by rw[bo];omega) ae ⟨?_,by rw[pN]⟩
   rw[aoL,anm hi,ky];rfl
  ·rintro ys H2 ⟨rfl,rfl⟩;rw[bo,<-ol,an8];refine⟨R,ms.map (λm=>decide (m.k=0)),rfl,SqL.of (by rw[ae,List.map_map];rfl),?_⟩
   rw[List.any_map];exact q _ sR
theorem AL (T:Txt w.params K mg A):aT P w K mg base CX0 3 A.qp A.kP ["pile"] (Zc A K):=by
 have Mr:∀k,k < 8->aT P w K mg base CX0 2 (A.ft k) (A.ftd k) ["self"] (Hx A K k):=Jg T;refine T.mI.ok qZ (λvs H Q E h=>?_) (λcdv A' outer s H vs Q E hr h=>?_)
 ·obtain⟨B,c,ms,os,rfl,_⟩:=h;rfl
 ·obtain⟨B,c,ms,os,rfl,⟨hB,ho⟩,q⟩:=h;refine⟨_,(ak (bJ (jf (uI (pv 0) (λ_=>rfl)))
 (aj (aG iM))
 aI)
 (ak (bh (i:=1) qZ.nd rfl (anq rfl) (nz (n:=8) (Cf:=A.C) (aZ bz (pv 0) (xg qm ai) (λ_ _=>rfl)) T.cl T.Mg Mr hr T.Mh aW))
 (aj (aG (sE (cH bF (aZ bx (pv 1) ai (λ_ _=>rfl)) aq (aK _)) (nK (cH Fp (aZ bx (aZ bx (pv 1) ai (λ_ _=>rfl)) ai (λ_ _=>rfl)) aq (aK _)))))))),?_⟩
  try dsimp only[bE]
  rcases anY os with h | ⟨pre,o,h⟩
  ·subst h;cases ho;refine⟨_,rfl,_,.inl ⟨_,hB,rfl⟩,iQ ?_⟩;exact q H (a9.refl _)
  ·rw[anZ]at h;subst h;refine⟨_,rfl,_,.inl ⟨_,hB,rfl⟩,Dj (by simp) ?_⟩
   refine aS λGq gq=>?_
   obtain⟨ms',m,rfl,_,_,dx,v,hm,hv⟩:=ho.last;have gl:(ms'++[m]).getLast?=some m:=aoo;unfold tK at q;rw[gl]at q;refine gq ?_;refine⟨_,rfl,_,rfl,B,_,_,_,rfl,rfl,hB,Eo pre o,m.k,m.k8,o,dx,_,rfl,hm,Oi m.k v,?_⟩
   by_cases h0:m.k=0
   ·obtain⟨tx,rfl⟩:∃tx,m=.mat tx:=by cases m <;> first | exact⟨_,rfl⟩ | exact absurd h0 (by simp[Mn.k])
    refine aS λGq gq=>?_
    obtain⟨p,rfl,_,hp⟩:=hv;refine gq ?_;refine .inl ⟨rfl,o,dx,p,tx.map V.str,rfl,hm,SqL.of hp,λp2 u hp2 hu npu=>?_⟩
    have nu:(upd H p2 (.lst (tx.map V.str))) u=none:=(av (anj npu)).trans hu;refine ixv rfl (SqT.of ae) rfl ⟨rfl,_,rfl,?_⟩;rw[gU 0 (by decide)]
    exact et (q _ ((aB hp2).new nu))
   ·refine .inr ⟨by omega,o,dx,v,rfl,hm,λu hu=>?_⟩
    have su:=aB (o:=.tup (rowOf m.k v)) hu;refine ixv rfl (SqT.of ae) C0 ⟨rfl,_,rfl,?_⟩;rw[gU m.k m.k8]
    by_cases h1:m.k=1
    ·obtain⟨e,rfl⟩:∃e,m=.chg e:=by cases m <;> first | exact⟨_,rfl⟩ | exact absurd h1 (by simp[Mn.k])
     refine aS λGq gq=>?_
     obtain⟨t,rfl,ht⟩:=hv;refine gq ?_;refine Bg (decide_eq_true rfl) (ixv rfl (SqT.of ae) rfl ⟨t,_,_,_,rfl,rfl,fb su ht.sq,Hf e,rfl,?_⟩);rw[Ov];exact q _ su
    ·rw[decide_eq_false h1];have q':∀H',a9 H H'->Q (.bl false) H':=by
      cases m with
      |chg e=>exact absurd rfl h1
      |_=>exact q
     exact et (q' _ su)
theorem mf (T:Txt w.params K mg A):aT P w K mg base CX0 4 A.jS A.ia ["kind","pile"] (UU A K):=by
 refine T.fG.ok uT (λvs H Q E h=>?_) (λcdv A' outer s H vs Q E hr h=>?_)
 ·obtain⟨k,B,c,ms,os,rfl,_⟩:=h;rfl
 ·obtain⟨k,B,c,ms,os,rfl,k8,hp,hl,q⟩:=h;refine⟨_,(ak (bJ (aJ bF (pv 0) aq (aK _))
 (aj (aG (bb (AL T) hr rfl T.tY T.mI.kp T.tX .nil aW (aa (pv 1) ag))))
 aI)
 (ak (bJ (aJ zX (pv 0) (cI (aa aq (aa aq (aa aq (aa aq ag))))) rfl)
 (aj (aG (bb (xr T) (hr.mono (by decide)) rfl T.tj T.m7.kp T.tf .nil aW (aa (pv 1) ag))))
 aI)
 (aj (aG iM)))),?_⟩
  try dsimp only[bE]
  refine⟨_,rfl,rfl,_,rfl,?_⟩;rw[jn k k8];unfold Bz at q
  by_cases h2:k=2
  ·rw[if_pos h2]at q;exact Bg (decide_eq_true h2) ⟨_,rfl,B,c,ms,os,rfl,hp,q⟩
  ·rw[if_neg h2]at q;refine Dj (decide_eq_false h2) ?_;refine⟨_,rfl,(sl 4),λt ht=>?_⟩
   have st:=aB (o:=.tup [V.str (ar "change"),V.str (ar "put off"),V.str (ar "close"),V.str (ar "lay")]) ht;refine⟨t,_,rfl,.inr (SqT.of ae),rfl,rfl,_,rfl,?_⟩;have ein:(if false=true then !inV (V.str (nm k)) [V.str (ar "change"),V.str (ar "put off"),V.str (ar "close"),V.str (ar "lay")] else inV (V.str (nm k)) [V.str (ar "change"),V.str (ar "put off"),V.str (ar "close"),V.str (ar "lay")])=decide (k=1\/k=3\/k=4\/k=5):=by
    have:∀k,k < 8->inV (V.str (nm k)) [V.str (ar "change"),V.str (ar "put off"),V.str (ar "close"),V.str (ar "lay")]=decide (k=1\/k=3\/k=4\/k=5):=by trivial
    exact this k k8
   rw[ein]
   by_cases h3:k=1\/k=3\/k=4\/k=5
   ·rw[if_pos h3]at q;exact Bg (decide_eq_true h3) ⟨_,rfl,B,c,ms,os,rfl,hp.same st,hl,λH' s'=>q H' (st.trans s')⟩
   ·rw[if_neg h3]at q;exact Dj (decide_eq_false h3) (q _ st)
theorem wZ (T:Txt w.params K mg A):aT P w K mg base (CXX P w) 5 A.kQ A.iS ["kind","pile","closed"] (adI A K):=by
 refine T.jl.okX mS (λvs H Q E h=>?_) (λcdv A' outer s H vs Q E hr h=>?_)
 ·obtain⟨k,B,cl,c,ms,os,rfl,_⟩:=h;rfl
 ·obtain⟨k,B,cl,c,ms,os,rfl,k8,hp,hl,q,qx⟩:=h;refine⟨_,(au (psx (bh (i:=3) mS.nd rfl (anq rfl) (bb (AK T) (hr.mono (by decide)) rfl T.yR T.u6.kp T.yQ .nil aW (aa (pv 1) (aa (pv 2) ag)))))
 (au (du (aJ Ba (aZ LQ (lL (v:=V.ref A.tab) rfl T.yY rfl) (pv 0) (λ_ _=>rfl)) (pv 3) (aK _))
 (aO (nP T.rC (BA T) (hr.mono (by decide)) T.oq rfl rfl T.D4 (aa (pv 3) ag)))
 (mY aI))
 (aO (du (jf (iP (bb (mf T) hr rfl T.iV T.fG.kp T.iU .nil aW (aa (pv 0) (aa (pv 1) ag)))))
 (au (du (iP (bb (xr T) (hr.mono (by decide)) rfl T.tj T.m7.kp T.tf .nil aW (aa (pv 1) ag)))
 (aO (jt T.Bx rfl rfl T.D6 (aa aq ag)))
 (mY aI))
 (aO (jt T.Bw rfl rfl T.D5 (aa (Bh (uQ (pv 0) (jO uP))) ag))))
 (mY aI))))),?_⟩
  try dsimp only[bE]
  refine⟨_,rfl,_,rfl,B,cl,c,ms,os,rfl,hp,?_⟩;obtain⟨tk,htk⟩:=T.rk k k8;refine⟨_,rfl,A.tab,nm k,.int k,_,rfl,rfl,T.tb,htk,⟨_,rfl⟩,_,rfl,_,_,rfl,rfl,_,rfl,iY (λe=>?_) (λe=>?_)⟩
  ·have e':(k:Int)<=uk cl ms:=of_decide_eq_true e;have hb:=Mo cl ms;refine⟨_,rfl,_,rfl,rG (by omega) (by omega),λd hd=>qx (.Em (uk cl ms)) (by unfold E6;rw[if_pos e']) _ _ _ (aB hd) ⟨⟨rfl,d,rfl,ae⟩,λ_ z=>by cases z;exact hd⟩⟩
  ·have e':¬(k:Int)<=uk cl ms:=λz=>e (decide_eq_true z)
   unfold E6 at q qx;rw[if_neg e']at q qx;refine⟨_,rfl,_,rfl,k,B,c,ms,os,rfl,k8,hp,hl,λH' s'=>⟨_,rfl,?_⟩⟩
   cases hn:Bz ms k with
   |true =>
    rw[hn,if_pos rfl]at q;exact et (q rfl _ s')
   |false =>
    rw[hn,if_neg kr]at qx;refine iQ ⟨_,rfl,B,c,ms,os,rfl,hp.same s',hl,λH2 s2=>⟨_,rfl,?_⟩⟩
    cases hm:Pp ms with
    |true =>
     rw[hm,if_pos rfl]at qx;exact iQ ⟨by decide,qx _ rfl _ _ _ (s'.trans s2) ⟨⟨rfl,rfl⟩,λ_ z=>nomatch z⟩⟩
    |false =>
     rw[hm,if_neg kr]at qx;refine et ⟨_,rfl,nm k,.str,?_,?_,?_⟩
     ·have:∀k,k < 8->(nm k).length<=10:=by trivial
      exact si (this k k8) (by decide)
     ·have:∀k,k < 8->(anF++nm k:Str).length<=10:=by trivial
      exact si (this k k8) (by decide)
     ·have:∀k,k < 8->((anF++nm k)++ar " needs a matter on the pile":Str).length<=100:=by trivial
      have l:=si (this k k8) (show 100<=gr by decide)
      exact⟨l,l,(sl 1),qx _ rfl _ _ _ (s'.trans s2) ⟨⟨rfl,rfl⟩,λ_ z=>nomatch z⟩⟩
theorem ll (T:Txt w.params K mg A):aT P w K mg base CX0 1 A.f_n A.G8 ["self"] (Hl 0):=by
 refine T.F_n.ok Du (λvs H Q E h=>?_) (λcdv A' outer s H vs Q E hr h=>?_)
 ·obtain⟨m,rfl,_⟩:=h;rfl
 ·obtain⟨m,rfl,q⟩:=h;exact⟨_,(aj (aG aq)),q⟩
theorem Pq (T:Txt w.params K mg A):aT P w K mg base CX0 1 A.YS A.Ry ["self"] (Hl 4):=by
 refine T.ads.ok EV (λvs H Q E h=>?_) (λcdv A' outer s H vs Q E hr h=>?_)
 ·obtain⟨m,rfl,_⟩:=h;rfl
 ·obtain⟨m,rfl,q⟩:=h;exact⟨_,(aj (aG aq)),q⟩
theorem UW (T:Txt w.params K mg A):∀k,k < 8->aT P w K mg base CX0 1 (A.fn k) (A.fnd k) ["self"] (Hl k)
 | 0,_=>ll T
 | 1,_=>ll T
 | 2,_=>ll T
 | 3,_=>ll T
 | 4,_=>Pq T
 | 5,_=>ll T
 | 6,_=>ll T
 | 7,_=>ll T
 |n+8,h=>absurd h (by omega)
end
theorem ni {a b:Nat}:((ma (a:Int):Key)=ma (b:Int))↔a=b:=⟨λh=>by have:=Sum.inl.inj h;omega,λh=>by rw[h]⟩
theorem dG {k:Nat}{v:V}{ks:List Nat}{vs:List V}:bp ((k::ks).zip (v::vs))=(ma (k:Int),v)::bp (ks.zip vs):=rfl
theorem xU {n:Nat}:∀ {ks:List Nat} {vs:List V},n∉ks->lU (bp (ks.zip vs)) (ma (n:Int))=none
 |[],_,_=>rfl
 |_::_,[],_=>rfl
 |k::ks,v::vs,h=>by
  rw[dG,jP (λz=>h (by rw[ni.mp z];exact kb))]
  exact xU λz=>h (kq _ z)
theorem F5 {n:Nat}{v:V}:∀ {ks:List Nat} {vs:List V} {j:Nat},ks.Nodup->ks[j]?=some n->vs[j]?=some v->lU (bp (ks.zip vs)) (ma (n:Int))=some v
 |[],_,_,_,h,_=>by simp at h
 |_::_,[],_,_,_,h=>by simp at h
 |k::ks,u::vs,0,_,h,g=>by
  rw[anK]at h g;cases h;cases g;exact nQ rfl
 |k::ks,u::vs,j+1,nd,h,g=>by
  rw[an1]at h g;obtain⟨n1,n2⟩:=List.nodup_cons.mp nd;rw[dG,jP (λz=>n1 (by rw[ni.mp z];exact anh h))]
  exact F5 n2 h g
theorem ze {n:Nat}{v:V}:∀ {ks:List Nat} {vs:List V},n∉ks->(bp (ks.zip vs)).map (λkv=>if kv.1=(ma (n:Int):Key) then (kv.1,v) else kv)=bp (ks.zip vs)
 |[],_,_=>rfl
 |_::_,[],_=>rfl
 |k::ks,u::vs,h=>by
  rw[dG,ku,ze λz=>h (kq _ z),if_neg (λz=>h (by rw[ni.mp z];exact kb))]
theorem F6 {n:Nat}{v:V}:∀ {ks:List Nat} {vs:List V} {j:Nat},ks.Nodup->ks[j]?=some n->(bp (ks.zip vs)).map (λkv=>if kv.1=(ma (n:Int):Key) then (kv.1,v) else kv)=bp (ks.zip (vs.set j v))
 |[],_,_,_,h=>by simp at h
 |k::ks,[],_,_,_=>by simp[bp]
 |k::ks,u::vs,0,nd,h=>by
  rw[anK]at h;cases h;rw[dG,ku,ze (List.nodup_cons.mp nd).1,if_pos rfl];rfl
 |k::ks,u::vs,j+1,nd,h=>by
  rw[an1]at h;obtain⟨n1,n2⟩:=List.nodup_cons.mp nd;rw[dG,ku,F6 n2 h,if_neg (λz=>n1 (by rw[ni.mp z];exact anh h))]
  rfl
theorem Pr {n:Nat}{v:V}{ks:List Nat}{vs:List V}{j:Nat}(nd:ks.Nodup)(h:ks[j]?=some n)(l:ks.length=vs.length):putK (bp (ks.zip vs)) (ma (n:Int)) v=bp (ks.zip (vs.set j v)):=by
 have hj:j < vs.length:=by rw[<-l];exact(List.getElem?_eq_some_iff.mp h).1
 unfold putK;rw[yH,F5 nd h (anm hj)];exact(if_pos rfl).trans (F6 nd h)
theorem wQ {n:Nat}{v:V}{ks:List Nat}{vs:List V}(h:n∉ks)(l:ks.length=vs.length):putK (bp (ks.zip vs)) (ma (n:Int)) v=bp ((ks++[n]).zip (vs++[v])):=by
 rw[Rj v (xU h),List.zip_append l];unfold bp;rw[ky];rfl
section
variable{β:Type}{R:Nat×β->V->Prop}
def at1 (n:Nat)(xs:List (Nat×β)):Option (Nat×β):=xs.find? λx=>decide (x.1=n)
theorem nr {n:Nat}{xs:List (Nat×β)}{x:Nat×β}(h:at1 n xs=some x):x.1=n/\x∈xs:=by
 unfold at1 at h;have:=List.find?_some h;exact⟨of_decide_eq_true this,List.mem_of_find?_eq_some h⟩
theorem zf {n:Nat}{xs:List (Nat×β)}(h:at1 n xs=none):n∉xs.map (·.1):=λz=>by
 obtain⟨x,hx,e⟩:=List.mem_map.mp z;have:=List.find?_eq_none.mp h x hx;exact this (decide_eq_true e)
theorem bI.val {n:Nat}:∀ {xs:List (Nat×β)} {ws:List V} {x:Nat×β},bI R xs ws->at1 n xs=some x->∃v,lU (bp ((xs.map (·.1)).zip ws)) (ma (n:Int))=some v/\R x v
 |_,_,_,.nil,h=>nomatch h
 |y::xs,w::ws,x,.cons g t,h=>by
  unfold at1 at h;rw[aor]at h
  by_cases e:y.1=n
  ·rw[decide_eq_true e]at h;cases h;exact⟨w,by rw[ku,dG];exact nQ (ni.mpr e),g⟩
  ·rw[decide_eq_false e]at h;obtain⟨v,h1,h2⟩:=bI.val t h;exact⟨v,by rw[ku,dG,jP (λz=>e (ni.mp z))];exact h1,h2⟩
theorem bI.drop {n:Nat}:∀ {xs:List (Nat×β)} {ws:List V},bI R xs ws->∃ws',mQ (bp ((xs.map (·.1)).zip ws)) (ma (n:Int))=bp (((xs.filter λx=>decide (x.1≠n)).map (·.1)).zip ws')/\bI R (xs.filter λx=>decide (x.1≠n)) ws'
 |_,_,.nil=>⟨[],rfl,.nil⟩
 |y::xs,w::ws,.cons g t=>by
  obtain⟨ws',h1,h2⟩:=bI.drop (n:=n) t
  by_cases e:y.1=n
  ·refine⟨ws',?_,?_⟩
   ·rw[List.filter_cons_of_neg (by simp[e]),<-h1,ku,dG]
    unfold mQ;rw[List.filter_cons_of_neg (by simp[e])]
   ·rw[List.filter_cons_of_neg (by simp[e])];exact h2
  ·refine⟨w::ws',?_,?_⟩
   ·rw[List.filter_cons_of_pos (by simp[e]),ku,ku,dG,dG,<-h1]
    unfold mQ;have hne:(ma (y.1:Int):Key)≠ma (n:Int):=λz=>e (ni.mp z)
    rw[List.filter_cons_of_pos (by exact decide_eq_true hne)]
   ·rw[List.filter_cons_of_pos (by simp[e])];exact .cons g h2
theorem bI.adJ {R':Nat×β->V->Prop}{n:Nat}{f:Nat×β->Nat×β}{v:V}(h1:∀x,x.1=n->R x v->R' (f x) v)(h2:∀x u,x.1≠n->R x u->R' x u):∀ {xs:List (Nat×β)} {ws:List V},bI R xs ws->(xs.map (·.1)).Nodup->lU (bp ((xs.map (·.1)).zip ws)) (ma (n:Int))=some v ->
  bI R' (xs.map λx=>if x.1=n then f x else x) ws
 |_,_,.nil,_,h=>nomatch h
 |y::xs,w::ws,.cons g t,nd,h=>by
  rw[ku]at nd;obtain⟨n1,n2⟩:=List.nodup_cons.mp nd;rw[ku,dG]at h;rw[ku]
  by_cases e:y.1=n
  ·rw[nQ (ni.mpr e)]at h;cases h;rw[if_pos e];refine .cons (h1 y e g) ?_;have hne:∀x∈xs,x.1≠n:=λx hx z=>n1 (by rw[e,<-z];exact List.mem_map_of_mem hx)
   have em:xs.map (λx=>if x.1=n then f x else x)=xs:=by
    have:xs.map (λx=>if x.1=n then f x else x)=xs.map id:=aoI λx hx=>if_neg (hne x hx)
    rw[this,List.map_id]
   rw[em];exact t.imp_mem λx hx u=>h2 x u (hne x hx)
  ·rw[jP (λz=>e (ni.mp z))]at h
   rw[if_neg e];exact .cons (h2 y w e g) (bI.adJ h1 h2 t n2 h)
end
theorem bI.set {α β:Type}{R:α->β->Prop}:∀ {as:List α} {bs:List β} {a:α} {b:β} (j:Nat),bI R as bs->R a b->bI R (as.set j a) (bs.set j b)
 |_,_,_,_,_,.nil,_=>.nil
 |_,_,_,_,0,.cons _ t,h=>.cons h t
 |_,_,_,_,j+1,.cons g t,h=>.cons g (t.set j h)
def pOb:Rl->Bool | .ob=>true | _=>false
def Wx:Rl->Bool | .rows=>true | _=>false
def Ow:Rl->Bool | .made=>true | _=>false
def Wy:Rl->Bool | .aH=>true | _=>false
def adK:Rl->Bool | .ob=>true | .aH=>true | .aV=>true | _=>false
def Wz (n:Nat):Rl->Bool | .vy m=>decide (m=n) | _=>false
def adL:Rl->Bool | .firsts=>true | _=>false
def adM:Rl->Bool | .kept=>true | _=>false
def WA (n:Nat):Rl->Bool | .ob=>true | .aV=>true | .oE m=>decide (m=n) | _=>false
theorem vE {i:Nat}{c:Col}{a b:Addr}{r r':Rl}(h:c a=some (i,r))(h':c b=some (i,r'))(n:r≠r'):a≠b:=λz=>by
 rw[z,h']at h;cases h;exact n rfl
section
variable{A:Adr}{i:Nat}{c c':Col}{H H':Hp}{o dx aM aP aA aD aF aE aR:Addr}{st:Ch}{ms ds:List Addr}{ws fs es:List V}
theorem ChX.free {W:Option (Nat×Rl)->Prop}(h:∀r,¬W (some (i,r)))(s:Step W c c' H H')(X:ChX A i c H o st dx aM aP aA aD aF aE aR ms ds ws fs es):ChX A i c' H' o st dx aM aP aA aD aF aE aR ms ds ws fs es:=by
 have hn:¬W (c o):=by rw[X.co];exact h _
 refine⟨by rw[s.col o _ X.ob hn];exact X.co,s.keep _ _ X.ob hn,X.made.keep (h _) s,vA s X.mot,X.aH.keep (h _) s,X.aV.keep (h _) s,X.wait.imp ?_,X.dec.keep (h _) s,vB s X.BR,X.firsts.keep (h _) s,X.first.imp ?_,X.kz.keep (h _) s,X.kept.imp ?_,X.rows.keep (h _) s⟩
 ·rintro x v ⟨t,p,e,z1,z2⟩;exact⟨t,p,e,z1.step s,z2.keep (h _) s⟩
 ·rintro x v ⟨p,e,z⟩;exact⟨p,e,z.keep (h _) s⟩
 ·rintro x v ⟨p,ts,e,z1,z2⟩;exact⟨p,ts,e,z1.keep (h _) s,z2.imp λ_ _ y=>y.step s⟩
theorem ChX.same (s:a9 H H')(X:ChX A i c H o st dx aM aP aA aD aF aE aR ms ds ws fs es):ChX A i c H' o st dx aM aP aA aD aF aE aR ms ds ws fs es:=X.free (W:=λ_=>False) (λ_=>id) (Step.same id s)
theorem ChX.cl (s:a9 H H')(X:ChX A i c H o st dx aM aP aA aD aF aE aR ms ds ws fs es):ChX A i (eh c H) H' o st dx aM aP aA aD aF aE aR ms ds ws fs es:=X.free (W:=λ_=>False) (λ_=>id) (Step.cl id s)
theorem ChX.at (X:ChX A i c H o st dx aM aP aA aD aF aE aR ms ds ws fs es):dh A i c H o st:=⟨_,_,_,_,_,_,_,_,_,_,_,_,_,X⟩
theorem ChX.attr (X:ChX A i c H o st dx aM aP aA aD aF aE aR ms ds ws fs es)(n:Int)(b:Bool) :
  Step (Wr i pOb) c c H (upd H o (.ins A.ao dx (chF (.int st.cJ) (.int n) (.bl b) (.ref aM) (.ref aP) (.ref aA) (.ref aD) (.ref aF) (.ref aE) (.ref aR)))) /\
  ChX A i c (upd H o (.ins A.ao dx (chF (.int st.cJ) (.int n) (.bl b) (.ref aM) (.ref aP) (.ref aA) (.ref aD) (.ref aF) (.ref aE) (.ref aR)))) o { st with bg:=n,closed:=b } dx aM aP aA aD aF aE aR ms ds ws fs es:=by
 have s:Step (Wr i pOb) c c H (upd H o (.ins A.ao dx (chF (.int st.cJ) (.int n) (.bl b) (.ref aM) (.ref aP) (.ref aA) (.ref aD) (.ref aF) (.ref aE) (.ref aR)))):=Step.upd Wr.nn (Wr.yes X.co rfl);exact⟨s,X.co,ae,X.made.kp rfl s,vA s X.mot,X.aH.kp rfl s,X.aV.kp rfl s,xn (λ_ _=>rfl) s X.wait,X.dec.kp rfl s,vB s X.BR,X.firsts.kp rfl s,xo (λ_ _=>rfl) s X.first,X.kz.kp rfl s,y9 (λ_ _=>rfl) s X.kept,X.rows.kp rfl s⟩
theorem ChX.row (X:ChX A i c H o st dx aM aP aA aD aF aE aR ms ds ws fs es)(z:Str) :
  Step (Wr i Wx) c c H (upd H aR (.lst (st.rows.map V.str++[.str z])))/\ChX A i c (upd H aR (.lst (st.rows.map V.str++[.str z]))) o { st with rows:=st.rows++[z] } dx aM aP aA aD aF aE aR ms ds ws fs es:=by
 have s:Step (Wr i Wx) c c H (upd H aR (.lst (st.rows.map V.str++[.str z]))):=Step.upd Wr.nn (Wr.yes X.rows.1 rfl);have k:=xS rfl s X.co X.ob;exact⟨s,k.1,k.2,X.made.kp rfl s,vA s X.mot,X.aH.kp rfl s,X.aV.kp rfl s,xn (λ_ _=>rfl) s X.wait,X.dec.kp rfl s,vB s X.BR,X.firsts.kp rfl s,xo (λ_ _=>rfl) s X.first,X.kz.kp rfl s,y9 (λ_ _=>rfl) s X.kept,X.rows.1,by rw[ae,ky];rfl⟩
theorem ChX.push (X:ChX A i c H o st dx aM aP aA aD aF aE aR ms ds ws fs es)(n:Nat) :
  Step (Wr i Wy) c c H (upd H aP (.lst (st.aH.map nV++[nV n])))/\ChX A i c (upd H aP (.lst (st.aH.map nV++[nV n]))) o { st with aH:=st.aH++[n] } dx aM aP aA aD aF aE aR ms ds ws fs es:=by
 have s:Step (Wr i Wy) c c H (upd H aP (.lst (st.aH.map nV++[nV n]))):=Step.upd Wr.nn (Wr.yes X.aH.1 rfl);have k:=xS rfl s X.co X.ob;exact⟨s,k.1,k.2,X.made.kp rfl s,vA s X.mot,⟨X.aH.1,by rw[ae,ky];rfl⟩,X.aV.kp rfl s,xn (λ_ _=>rfl) s X.wait,X.dec.kp rfl s,vB s X.BR,X.firsts.kp rfl s,xo (λ_ _=>rfl) s X.first,X.kz.kp rfl s,y9 (λ_ _=>rfl) s X.kept,X.rows.kp rfl s⟩
theorem R9 {n k:Nat}(h1:1<=n)(h2:n<=k):(anL 1 k)[n - 1]?=some n:=by
 rw[List.getElem?_range' (by omega)]
 congr 1
 omega
theorem ChX.Ox (X:ChX A i c H o st dx aM aP aA aD aF aE aR ms ds ws fs es){n:Nat}{m:Mn}{x:Addr}(hn:fq st n)(hm:oG A c H m x) :
  Step (Wr i Ow) c c H (upd H aM (.dK (putK (bp ((anL 1 st.made.length).zip (ms.map V.ref))) (ma (n:Int)) (.ref x)))) /\
  ChX A i c (upd H aM (.dK (putK (bp ((anL 1 st.made.length).zip (ms.map V.ref))) (ma (n:Int)) (.ref x)))) o { st with made:=st.made.set (n - 1) m } dx aM aP aA aD aF aE aR (ms.set (n - 1) x) ds ws fs es:=by
 have s:Step (Wr i Ow) c c H (upd H aM (.dK (putK (bp ((anL 1 st.made.length).zip (ms.map V.ref))) (ma (n:Int)) (.ref x)))):=Step.upd Wr.nn (Wr.yes X.made.1 rfl);have k:=xS rfl s X.co X.ob;have ml:=X.mot.len;have e:=Pr (v:=.ref x) (List.nodup_range' (s:=1) (n:=st.made.length)) (R9 hn.1 hn.2) (vs:=ms.map V.ref) (by rw[aol,bo];exact ml)
 have hd:l9 i c (upd H aM (.dK (putK (bp ((anL 1 st.made.length).zip (ms.map V.ref))) (ma (n:Int)) (.ref x)))) .made aM ((anL 1 (st.made.set (n - 1) m).length).zip ((ms.set (n - 1) x).map V.ref)) :=
  ⟨X.made.1,by rw[ae,e,aoy,List.map_set]⟩
 exact⟨s,k.1,k.2,hd,(vA s X.mot).set _ (hm.step s),X.aH.kp rfl s,X.aV.kp rfl s,xn (λ_ _=>rfl) s X.wait,X.dec.kp rfl s,vB s X.BR,X.firsts.kp rfl s,xo (λ_ _=>rfl) s X.first,X.kz.kp rfl s,y9 (λ_ _=>rfl) s X.kept,X.rows.kp rfl s⟩
theorem ChX.UX (X:ChX A i c H o st dx aM aP aA aD aF aE aR ms ds ws fs es){m:Mn}{x:Addr}(hm:oG A c H m x) :
  Step (Wr i Ow) c c H (upd H aM (.dK (putK (bp ((anL 1 st.made.length).zip (ms.map V.ref))) (ma ((st.made.length+1:Nat):Int)) (.ref x)))) /\
  ChX A i c (upd H aM (.dK (putK (bp ((anL 1 st.made.length).zip (ms.map V.ref))) (ma ((st.made.length+1:Nat):Int)) (.ref x)))) o { st with made:=st.made++[m] } dx aM aP aA aD aF aE aR (ms++[x]) ds ws fs es:=by
 have s:Step (Wr i Ow) c c H (upd H aM (.dK (putK (bp ((anL 1 st.made.length).zip (ms.map V.ref))) (ma ((st.made.length+1:Nat):Int)) (.ref x)))):=Step.upd Wr.nn (Wr.yes X.made.1 rfl);have k:=xS rfl s X.co X.ob;have ml:=X.mot.len;have e:=wQ (v:=.ref x) (n:=st.made.length+1) (ks:=anL 1 st.made.length) (vs:=ms.map V.ref) (by rw[aoB];omega) (by rw[aol,bo];exact ml)
 have hd:l9 i c (upd H aM (.dK (putK (bp ((anL 1 st.made.length).zip (ms.map V.ref))) (ma ((st.made.length+1:Nat):Int)) (.ref x)))) .made aM ((anL 1 (st.made++[m]).length).zip ((ms++[x]).map V.ref)) :=
  ⟨X.made.1,by rw[ae,e,ki,anc,List.range'_concat,ky,Nat.one_mul,Nat.add_comm 1];rfl⟩
 exact⟨s,k.1,k.2,hd,(vA s X.mot).snoc (hm.step s),X.aH.kp rfl s,X.aV.kp rfl s,xn (λ_ _=>rfl) s X.wait,X.dec.kp rfl s,vB s X.BR,X.firsts.kp rfl s,xo (λ_ _=>rfl) s X.first,X.kz.kp rfl s,y9 (λ_ _=>rfl) s X.kept,X.rows.kp rfl s⟩
def Hz (n:Nat)(e:Ed)(xs:List (Nat×List Ed)):List (Nat×List Ed):=xs.map λx=>if x.1=n then (x.1,x.2++[e]) else x
theorem ChX.Ze (X:ChX A i c H o st dx aM aP aA aD aF aE aR ms ds ws fs es){n:Nat}{x:Nat×List Ed}(hx:at1 n st.kept=some x):∃(p:Addr) (ts:List Addr),lU (bp ((st.kept.map (·.1)).zip es)) (ma (n:Int))=some (.ref p)/\LstAt i c H (.vy n) p (ts.map V.ref)/\ts.length=x.2.length:=by
 obtain⟨v,h1,p,ts,rfl,h2,h3⟩:=X.kept.val hx;rw[(nr hx).1]at h2;exact⟨p,ts,h1,h2,h3.len.symm⟩
theorem ChX.UY (X:ChX A i c H o st dx aM aP aA aD aF aE aR ms ds ws fs es){n:Nat}{e:Ed}{t p:Addr}{ts:List Addr}(hv:lU (bp ((st.kept.map (·.1)).zip es)) (ma (n:Int))=some (.ref p))(hl:LstAt i c H (.vy n) p (ts.map V.ref))(nd:(st.kept.map (·.1)).Nodup)(ht:TupAt c H t (iN e)) :
  Step (Wr i (Wz n)) c c H (upd H p (.lst (ts.map V.ref++[.ref t])))/\ChX A i c (upd H p (.lst (ts.map V.ref++[.ref t]))) o { st with kept:=Hz n e st.kept } dx aM aP aA aD aF aE aR ms ds ws fs es:=by
 have s:Step (Wr i (Wz n)) c c H (upd H p (.lst (ts.map V.ref++[.ref t]))):=Step.upd Wr.nn (Wr.yes hl.1 (decide_eq_true rfl));have k:=xS rfl s X.co X.ob;have ek:(Hz n e st.kept).map (·.1)=st.kept.map (·.1):=by
  unfold Hz;rw[List.map_map];refine aoI λx _=>?_
  show (if x.1=n then (x.1,x.2++[e]) else x).1=x.1
  split <;> rfl
 refine⟨s,k.1,k.2,X.made.kp rfl s,vA s X.mot,X.aH.kp rfl s,X.aV.kp rfl s,xn (λ_ _=>rfl) s X.wait,X.dec.kp rfl s,vB s X.BR,X.firsts.kp rfl s,xo (λ_ _=>rfl) s X.first,by show l9 i c _ .kept aE (((Hz n e st.kept).map (·.1)).zip es);rw[ek];exact X.kz.kp rfl s,?_,X.rows.kp rfl s⟩
 refine bI.adJ (f:=λx=>(x.1,x.2++[e])) (v:=.ref p) ?_ ?_ X.kept nd hv
 ·rintro x e1 ⟨q,us,e2,z1,z2⟩;cases e2;have e3:us.map V.ref=ts.map V.ref:=by
   have:=z1.2;rw[hl.2]at this;injection this with this
   injection this with this
   exact this.symm
  refine⟨p,us++[t],rfl,⟨z1.1,?_⟩,(z2.imp λ_ _ y=>y.step s).snoc (ht.step s)⟩
  rw[ae,<-e3,ky];rfl
 ·rintro x u e1 ⟨q,us,rfl,z1,z2⟩;exact⟨q,us,rfl,z1.kp (decide_eq_false e1) s,z2.imp λ_ _ y=>y.step s⟩
theorem ChX.Sa (X:ChX A i c H o st dx aM aP aA aD aF aE aR ms ds ws fs es){n:Nat}{tx:List Str}{p:Addr}(hp:H p=none)(hn:n∉st.firsts.map (·.1)) :
  Step (Wr i adL) c (aN c p (some (i,.oF n))) H (upd (upd H p (.lst (tx.map V.str))) aF (.dK (putK (bp ((st.firsts.map (·.1)).zip fs)) (ma (n:Int)) (.ref p)))) /\
  ChX A i (aN c p (some (i,.oF n))) (upd (upd H p (.lst (tx.map V.str))) aF (.dK (putK (bp ((st.firsts.map (·.1)).zip fs)) (ma (n:Int)) (.ref p)))) o { st with firsts:=st.firsts++[(n,tx)] } dx aM aP aA aD aF aE aR ms ds ws (fs++[.ref p]) es:=by
 have np:∀ {a:Addr} {v:HO},H a=some v->a≠p:=λe=>aU e hp
 have s:Step (Wr i adL) c (aN c p (some (i,.oF n))) H (upd (upd H p (.lst (tx.map V.str))) aF (.dK (putK (bp ((st.firsts.map (·.1)).zip fs)) (ma (n:Int)) (.ref p)))) :=
  (Step.new Wr.nn hp).trans (Step.upd Wr.nn ⟨.firsts,by rw[aC (np X.firsts.2)];exact X.firsts.1,rfl⟩)
 have k:=xS rfl s X.co X.ob;have e:=wQ (v:=.ref p) hn (vs:=fs) (by rw[bo];exact X.first.len)
 have hd:l9 i (aN c p (some (i,.oF n))) (upd (upd H p (.lst (tx.map V.str))) aF (.dK (putK (bp ((st.firsts.map (·.1)).zip fs)) (ma (n:Int)) (.ref p)))) .firsts aF (((st.firsts++[(n,tx)]).map (·.1)).zip (fs++[.ref p])) :=
  ⟨by rw[aC (np X.firsts.2)];exact X.firsts.1,by rw[ae,e,ky];rfl⟩
 have hl:Hv i (aN c p (some (i,.oF n))) (upd (upd H p (.lst (tx.map V.str))) aF (.dK (putK (bp ((st.firsts.map (·.1)).zip fs)) (ma (n:Int)) (.ref p)))) (n,tx) (.ref p) :=
  ⟨p,rfl,bt,(av (np X.firsts.2).symm).trans ae⟩
 exact⟨s,k.1,k.2,X.made.kp rfl s,vA s X.mot,X.aH.kp rfl s,X.aV.kp rfl s,xn (λ_ _=>rfl) s X.wait,X.dec.kp rfl s,vB s X.BR,hd,(xo (λ_ _=>rfl) s X.first).snoc hl,X.kz.kp rfl s,y9 (λ_ _=>rfl) s X.kept,X.rows.kp rfl s⟩
theorem ChX.UZ (X:ChX A i c H o st dx aM aP aA aD aF aE aR ms ds ws fs es){n:Nat}{p:Addr}(hp:H p=none)(hn:n∉st.kept.map (·.1)) :
  Step (Wr i adM) c (aN c p (some (i,.vy n))) H (upd (upd H p (.lst [])) aE (.dK (putK (bp ((st.kept.map (·.1)).zip es)) (ma (n:Int)) (.ref p)))) /\
  ChX A i (aN c p (some (i,.vy n))) (upd (upd H p (.lst [])) aE (.dK (putK (bp ((st.kept.map (·.1)).zip es)) (ma (n:Int)) (.ref p)))) o { st with kept:=st.kept++[(n,([]:List Ed))] } dx aM aP aA aD aF aE aR ms ds ws fs (es++[.ref p]):=by
 have np:∀ {a:Addr} {v:HO},H a=some v->a≠p:=λe=>aU e hp
 have s:Step (Wr i adM) c (aN c p (some (i,.vy n))) H (upd (upd H p (.lst [])) aE (.dK (putK (bp ((st.kept.map (·.1)).zip es)) (ma (n:Int)) (.ref p)))) :=
  (Step.new Wr.nn hp).trans (Step.upd Wr.nn ⟨.kept,by rw[aC (np X.kz.2)];exact X.kz.1,rfl⟩)
 have k:=xS rfl s X.co X.ob;have e:=wQ (v:=.ref p) hn (vs:=es) (by rw[bo];exact X.kept.len)
 have hd:l9 i (aN c p (some (i,.vy n))) (upd (upd H p (.lst [])) aE (.dK (putK (bp ((st.kept.map (·.1)).zip es)) (ma (n:Int)) (.ref p)))) .kept aE (((st.kept++[(n,([]:List Ed))]).map (·.1)).zip (es++[.ref p])) :=
  ⟨by rw[aC (np X.kz.2)];exact X.kz.1,by rw[ae,e,ky];rfl⟩
 have hl:Ot i (aN c p (some (i,.vy n))) (upd (upd H p (.lst [])) aE (.dK (putK (bp ((st.kept.map (·.1)).zip es)) (ma (n:Int)) (.ref p)))) (n,[]) (.ref p) :=
  ⟨p,[],rfl,⟨bt,(av (np X.kz.2).symm).trans ae⟩,.nil⟩
 exact⟨s,k.1,k.2,X.made.kp rfl s,vA s X.mot,X.aH.kp rfl s,X.aV.kp rfl s,xn (λ_ _=>rfl) s X.wait,X.dec.kp rfl s,vB s X.BR,X.firsts.kp rfl s,xo (λ_ _=>rfl) s X.first,hd,(y9 (λ_ _=>rfl) s X.kept).snoc hl,X.rows.kp rfl s⟩
def Ch.um (st:Ch)(n:Nat)(u:Int):Ch:={ st with aH:=[],aV:=st.aV++[(n,u,st.aH)] }
theorem ChX.um (X:ChX A i c H o st dx aM aP aA aD aF aE aR ms ds ws fs es){n:Nat}{u:Int}{t p:Addr}(ht:H t=none)(hp:H p=none)(ntp:p≠t)(hn:n∉st.aV.map (·.1)) :
  ∃c',Step (Wr i adK) c c' H (upd (upd (upd (upd H t (.tup [.int u,.ref aP])) aA (.dK (putK (bp ((st.aV.map (·.1)).zip ws)) (ma (n:Int)) (.ref t)))) p (.lst [])) o (.ins A.ao dx (chF (.int st.cJ) (.int st.bg) (.bl st.closed) (.ref aM) (.ref p) (.ref aA) (.ref aD) (.ref aF) (.ref aE) (.ref aR)))) /\
  ChX A i c' (upd (upd (upd (upd H t (.tup [.int u,.ref aP])) aA (.dK (putK (bp ((st.aV.map (·.1)).zip ws)) (ma (n:Int)) (.ref t)))) p (.lst [])) o (.ins A.ao dx (chF (.int st.cJ) (.int st.bg) (.bl st.closed) (.ref aM) (.ref p) (.ref aA) (.ref aD) (.ref aF) (.ref aE) (.ref aR)))) o (st.um n u) dx aM p aA aD aF aE aR ms ds (ws++[.ref t]) fs es:=by
 have nt:∀ {a:Addr} {v:HO},H a=some v->a≠t:=λe=>aU e ht
 have np:∀ {a:Addr} {v:HO},H a=some v->a≠p:=λe=>aU e hp
 have oA:o≠aA:=vE X.co X.aV.1 (λz=>nomatch z)
 have oP:o≠aP:=vE X.co X.aH.1 (λz=>nomatch z)
 have AP:aA≠aP:=vE X.aV.1 X.aH.1 (λz=>nomatch z)
 have e:=wQ (v:=.ref t) hn (vs:=ws) (by rw[bo];exact X.wait.len)
 have hp2:(upd (upd H t (.tup [.int u,.ref aP])) aA (.dK (putK (bp ((st.aV.map (·.1)).zip ws)) (ma (n:Int)) (.ref t)))) p=none:=by
  rw[av (np X.aV.2).symm,av ntp];exact hp
 refine⟨aN (aN (aN c t none) p (some (i,.aH))) aP (some (i,.oE n)),?_⟩;have s:Step (Wr i adK) c (aN (aN (aN c t none) p (some (i,.aH))) aP (some (i,.oE n))) H (upd (upd (upd (upd H t (.tup [.int u,.ref aP])) aA (.dK (putK (bp ((st.aV.map (·.1)).zip ws)) (ma (n:Int)) (.ref t)))) p (.lst [])) o (.ins A.ao dx (chF (.int st.cJ) (.int st.bg) (.bl st.closed) (.ref aM) (.ref p) (.ref aA) (.ref aD) (.ref aF) (.ref aE) (.ref aR)))):=by
  refine((((Step.new Wr.nn ht).trans (Step.upd Wr.nn ⟨.aV,?_,rfl⟩)).trans (Step.new Wr.nn hp2)).trans (Step.upd Wr.nn ⟨.ob,?_,rfl⟩)).trans (Step.role Wr.nn ⟨.aH,?_,rfl⟩)
  ·rw[aC (nt X.aV.2)];exact X.aV.1
  ·rw[aC (np X.ob),aC (nt X.ob)];exact X.co
  ·rw[aC (np X.aH.2),aC (nt X.aH.2)];exact X.aH.1
 have k1:aN (aN (aN c t none) p (some (i,.aH))) aP (some (i,.oE n)) o=some (i,.ob):=by
  rw[aC oP,aC (np X.ob),aC (nt X.ob)];exact X.co
 have hd:l9 i (aN (aN (aN c t none) p (some (i,.aH))) aP (some (i,.oE n))) (upd (upd (upd (upd H t (.tup [.int u,.ref aP])) aA (.dK (putK (bp ((st.aV.map (·.1)).zip ws)) (ma (n:Int)) (.ref t)))) p (.lst [])) o (.ins A.ao dx (chF (.int st.cJ) (.int st.bg) (.bl st.closed) (.ref aM) (.ref p) (.ref aA) (.ref aD) (.ref aF) (.ref aE) (.ref aR)))) .aV aA (((st.aV++[(n,u,st.aH)]).map (·.1)).zip (ws++[.ref t])) :=
  ⟨by rw[aC AP,aC (np X.aV.2),aC (nt X.aV.2)];exact X.aV.1,by rw[av oA.symm,av (np X.aV.2),ae,e,ky];rfl⟩
 have hl:LstAt i (aN (aN (aN c t none) p (some (i,.aH))) aP (some (i,.oE n))) (upd (upd (upd (upd H t (.tup [.int u,.ref aP])) aA (.dK (putK (bp ((st.aV.map (·.1)).zip ws)) (ma (n:Int)) (.ref t)))) p (.lst [])) o (.ins A.ao dx (chF (.int st.cJ) (.int st.bg) (.bl st.closed) (.ref aM) (.ref p) (.ref aA) (.ref aD) (.ref aF) (.ref aE) (.ref aR)))) (.oE n) aP (st.aH.map nV) :=
  ⟨bt,by rw[av oP.symm,av (np X.aH.2),av AP.symm,av (nt X.aH.2)];exact X.aH.2⟩
 have hn':LstAt i (aN (aN (aN c t none) p (some (i,.aH))) aP (some (i,.oE n))) (upd (upd (upd (upd H t (.tup [.int u,.ref aP])) aA (.dK (putK (bp ((st.aV.map (·.1)).zip ws)) (ma (n:Int)) (.ref t)))) p (.lst [])) o (.ins A.ao dx (chF (.int st.cJ) (.int st.bg) (.bl st.closed) (.ref aM) (.ref p) (.ref aA) (.ref aD) (.ref aF) (.ref aE) (.ref aR)))) .aH p [] :=
  ⟨by rw[aC (np X.aH.2).symm,bt],by rw[av (np X.ob).symm,ae]⟩
 have htt:TupAt (aN (aN (aN c t none) p (some (i,.aH))) aP (some (i,.oE n))) (upd (upd (upd (upd H t (.tup [.int u,.ref aP])) aA (.dK (putK (bp ((st.aV.map (·.1)).zip ws)) (ma (n:Int)) (.ref t)))) p (.lst [])) o (.ins A.ao dx (chF (.int st.cJ) (.int st.bg) (.bl st.closed) (.ref aM) (.ref p) (.ref aA) (.ref aD) (.ref aF) (.ref aE) (.ref aR)))) t [.int u,.ref aP] :=
  ⟨by rw[aC (nt X.aH.2).symm,aC ntp.symm,bt],.inl (by rw[av (nt X.ob).symm,av ntp.symm,av (nt X.aV.2).symm,ae])⟩
 exact⟨s,k1,ae,X.made.kp rfl s,vA s X.mot,hn',hd,(xn (λ_ _=>rfl) s X.wait).snoc ⟨t,aP,rfl,htt,hl⟩,X.dec.kp rfl s,vB s X.BR,X.firsts.kp rfl s,xo (λ_ _=>rfl) s X.first,X.kz.kp rfl s,y9 (λ_ _=>rfl) s X.kept,X.rows.kp rfl s⟩
def Ch.zg (st:Ch)(n:Nat)(pl:List Nat):Ch:={ st with aH:=pl,aV:=st.aV.filter λx=>decide (x.1≠n) }
theorem ChX.waitOf (X:ChX A i c H o st dx aM aP aA aD aF aE aR ms ds ws fs es){n:Nat}{x:Nat×Int×List Nat}(hx:at1 n st.aV=some x):∃t p,lU (bp ((st.aV.map (·.1)).zip ws)) (ma (n:Int))=some (.ref t)/\TupAt c H t [.int x.2.1,.ref p]/\LstAt i c H (.oE n) p (x.2.2.map nV):=by
 obtain⟨v,h1,t,p,rfl,h2,h3⟩:=X.wait.val hx;rw[(nr hx).1]at h3;exact⟨t,p,h1,h2,h3⟩
theorem ChX.zg (X:ChX A i c H o st dx aM aP aA aD aF aE aR ms ds ws fs es){n:Nat}{p:Addr}{pl:List Nat}(hl:LstAt i c H (.oE n) p (pl.map nV)) :
  ∃c' ws',Step (Wr i (WA n)) c c' H (upd (upd H aA (.dK (mQ (bp ((st.aV.map (·.1)).zip ws)) (ma (n:Int))))) o (.ins A.ao dx (chF (.int st.cJ) (.int st.bg) (.bl st.closed) (.ref aM) (.ref p) (.ref aA) (.ref aD) (.ref aF) (.ref aE) (.ref aR)))) /\
  ChX A i c' (upd (upd H aA (.dK (mQ (bp ((st.aV.map (·.1)).zip ws)) (ma (n:Int))))) o (.ins A.ao dx (chF (.int st.cJ) (.int st.bg) (.bl st.closed) (.ref aM) (.ref p) (.ref aA) (.ref aD) (.ref aF) (.ref aE) (.ref aR)))) o (st.zg n pl) dx aM p aA aD aF aE aR ms ds ws' fs es:=by
 have oA:o≠aA:=vE X.co X.aV.1 (λz=>nomatch z)
 have op:o≠p:=vE X.co hl.1 (λz=>nomatch z)
 have Ap:aA≠p:=vE X.aV.1 hl.1 (λz=>nomatch z)
 obtain⟨ws',e1,e2⟩:=X.wait.drop (n:=n);refine⟨aN c p (some (i,.aH)),ws',?_⟩;have s:Step (Wr i (WA n)) c (aN c p (some (i,.aH))) H (upd (upd H aA (.dK (mQ (bp ((st.aV.map (·.1)).zip ws)) (ma (n:Int))))) o (.ins A.ao dx (chF (.int st.cJ) (.int st.bg) (.bl st.closed) (.ref aM) (.ref p) (.ref aA) (.ref aD) (.ref aF) (.ref aE) (.ref aR)))) :=
  ((Step.upd Wr.nn ⟨.aV,X.aV.1,rfl⟩).trans (Step.upd Wr.nn ⟨.ob,X.co,rfl⟩)).trans (Step.role Wr.nn ⟨.oE n,hl.1,decide_eq_true rfl⟩)
 have k1:aN c p (some (i,.aH)) o=some (i,.ob):=by rw[aC op];exact X.co
 have hd:l9 i (aN c p (some (i,.aH))) (upd (upd H aA (.dK (mQ (bp ((st.aV.map (·.1)).zip ws)) (ma (n:Int))))) o (.ins A.ao dx (chF (.int st.cJ) (.int st.bg) (.bl st.closed) (.ref aM) (.ref p) (.ref aA) (.ref aD) (.ref aF) (.ref aE) (.ref aR)))) .aV aA (((st.aV.filter λx=>decide (x.1≠n)).map (·.1)).zip ws') :=
  ⟨by rw[aC Ap];exact X.aV.1,by rw[av oA.symm,ae,e1]⟩
 have hpl:LstAt i (aN c p (some (i,.aH))) (upd (upd H aA (.dK (mQ (bp ((st.aV.map (·.1)).zip ws)) (ma (n:Int))))) o (.ins A.ao dx (chF (.int st.cJ) (.int st.bg) (.bl st.closed) (.ref aM) (.ref p) (.ref aA) (.ref aD) (.ref aF) (.ref aE) (.ref aR)))) .aH p (pl.map nV) :=
  ⟨bt,by rw[av op.symm,av Ap.symm];exact hl.2⟩
 exact⟨s,k1,ae,X.made.kp rfl s,vA s X.mot,hpl,hd,xn (λx hx=>decide_eq_false (of_decide_eq_true (List.mem_filter.mp hx).2)) s e2,X.dec.kp rfl s,vB s X.BR,X.firsts.kp rfl s,xo (λ_ _=>rfl) s X.first,X.kz.kp rfl s,y9 (λ_ _=>rfl) s X.kept,X.rows.kp rfl s⟩
end
def AM (i:Nat)(c:Col)(H:Hp)(t:Addr)(xs:List V):Prop:=¬fm i (c t)/\H t=some (.tup xs)
def Pt (i:Nat)(c:Col)(H:Hp)(t:Addr)(xs:List V):Prop:=¬fm i (c t)/\H t=some (.lst xs)
def qd (i:Nat)(c:Col)(H:Hp):R.bG->Addr->Prop
 | .mat cs,t=>∃L,AM i c H t [.str (ar "matter"),.ref L]/\Pt i c H L ((cs.map (km R.bl1)).map V.str)
 | .ed m k j ws,t=>∃e,AM i c H t [.str (R.kEd m),.ref e]/\TupAt c H e (R.edR k j (km R.bl1 ws))
 | .pt ws,t=>AM i c H t [.str (ar "point"),.str (km R.bl1 ws)]
 | .nums kd ns,t=>AM i c H t (.str kd::ns.map V.int)
section
variable{i:Nat}{c c':Col}{H H':Hp}{t:Addr}{xs:List V}
theorem AM.step (s:Step (fm i) c c' H H')(h:AM i c H t xs):AM i c' H' t xs:=⟨by rw[s.col t _ h.2 h.1];exact h.1,s.keep _ _ h.2 h.1⟩
theorem Pt.step (s:Step (fm i) c c' H H')(h:Pt i c H t xs):Pt i c' H' t xs:=⟨by rw[s.col t _ h.2 h.1];exact h.1,s.keep _ _ h.2 h.1⟩
theorem qd.step (s:Step (fm i) c c' H H'):∀ {d:R.bG},qd i c H d t->qd i c' H' d t
 | .mat _,⟨L,a,b⟩=>⟨L,a.step s,b.step s⟩
 | .ed _ _ _ _,⟨e,a,b⟩=>⟨e,a.step s,b.step s⟩
 | .pt _,h=>AM.step s h
 | .nums _ _,h=>AM.step s h
theorem qd.at {K:ba}:∀ {d:R.bG},qd i c H d t->R.tH K H d t
 | .mat _,⟨L,a,b⟩=>⟨L,SqT.of a.2,SqL.of b.2⟩
 | .ed _ _ _ _,⟨e,a,b⟩=>⟨e,SqT.of a.2,b.sq⟩
 | .pt _,h=>SqT.of h.2
 | .nums _ _,h=>SqT.of h.2
end
theorem Ms {k:Nat}{j:Int}{x:Str}(h:k=0\/k=1\/k=2):R.edR k j x=iN ⟨k,j,x⟩:=by
 rcases h with rfl | rfl | rfl <;> rfl
theorem Oy {t1 t2:TS}{D:Ends}{σ:St}{H:Hp}(J:St->Hp->Prop)(h2:∀σ' H',J σ' H'->t2 D σ' H')(h1:∀N:St->Hp->Prop,(∀σ' H',J σ' H'->N σ' H')->t1 { D with nx:=N } σ H):acu t1 t2 D σ H:=h1 (t2 D) h2
def Ch.opened (st:Ch):Ch:={ st with closed:=if st.aH=[] then false else st.closed }
def Ch.Jh (st:Ch)(row:Str):Ch:={ st.opened with rows:=st.rows++[row] }
def adN (A:Adr)(i:Nat):Sp:=λvs H Q _=>∃(o t:Addr) (c:Col) (st:Ch) (d:R.bG),vs=[.ref o,.ref t]/\dh A i c H o st/\qd i c H d t/\R.DOk d/\st.rows.length<=1000 /\
 ∀c' H',Step (fm i) c c' H H'->dh A i c' H' o (st.Jh (R.gi d))->Q .non H'
def Zf (A:Adr)(i:Nat):Sp:=λvs H Q _=>∃(o:Addr) (u:Int) (c:Col) (st:Ch) (n:Nat) (r:List Nat),vs=[.ref o,.int u]/\dh A i c H o st/\st.aH=n::r/\n∉st.aV.map (·.1)/\st.aV.length<=1000 /\
 ∀c' H',Step (fm i) c c' H H'->dh A i c' H' o (st.um n u)->Q .non H'
def Ch.Sb (st:Ch)(n:Nat)(tx:List Str)(e:Ed):Ch:={ st with made:=st.made.set (n - 1) (.mat (b9 tx e)),kept:=Hz n e st.kept }
def Zg (A:Adr)(i:Nat):Sp:=λvs H Q _=>∃(o t:Addr) (c:Col) (st:Ch) (n:Nat) (r:List Nat) (tx:List Str) (e:Ed) (x:Nat×List Ed),vs=[.ref o,.ref t]/\dh A i c H o st/\st.aH=n::r/\fq st n/\st.mo n=.mat tx/\tx.length<=1000/\st.made.length<=1000 /\
 TupAt c H t (iN e)/\y6 e/\gs tx.length e=true/\at1 n st.kept=some x/\x.2.length<=1000/\(st.kept.map (·.1)).Nodup /\
 ∀c' H',Step (fm i) c c' H H'->dh A i c' H' o (st.Sb n tx e)->Q .non H'
def Ch.Sd (st:Ch)(n:Nat)(e:Ed)(ws:List Str):Ch:={ st with made:=st.made.set (n - 1) (.chg ⟨e.k,e.at_,km R.bl1 ws⟩) }
def Zh (A:Adr)(i:Nat):Sp:=λvs H Q _=>∃(o t:Addr) (c:Col) (st:Ch) (n:Nat) (r:List Nat) (e f:Ed),vs=[.ref o,.ref t]/\dh A i c H o st/\st.aH=r++[n]/\fq st n/\st.mo n=.chg e/\e.k≠1/\y6 e/\(R.bO e.th).length<=1000/\st.made.length<=1000 /\
 TupAt c H t (iN f)/\y6 f/\gs (R.bO e.th).length f=true/\((b9 (R.bO e.th) f).map (·.length)).sum+(b9 (R.bO e.th) f).length<=16777216 /\
 ∀c' H',Step (fm i) c c' H H'->dh A i c' H' o (st.Sd n e (b9 (R.bO e.th) f))->Q .non H'
theorem ChX.U0 {A:Adr}{i:Nat}{c:Col}{H:Hp}{o dx aM aP aA aD aF aE aR:Addr}{st:Ch}{ms ds:List Addr}{ws fs es:List V}(X:ChX A i c H o st dx aM aP aA aD aF aE aR ms ds ws fs es){n:Nat}(hn:fq st n) :
  ∃x,lU (bp ((anL 1 st.made.length).zip (ms.map V.ref))) (ma (n:Int))=some (.ref x)/\oG A c H (st.mo n) x:=by
 have ml:=X.mot.len;have hlt:n - 1 < st.made.length:=by have:=hn.1;have:=hn.2;omega
 obtain⟨x,e1,e2⟩:=X.mot.get (anm hlt);have hv:=El ms 1 (n - 1) e1;rw[<-ml,show 1+(n - 1)=n by have:=hn.1;omega]at hv
 have e3:st.mo n=st.made[n - 1]:=by unfold Ch.mo;rw[ank,anm hlt];rfl
 exact⟨x,hv,by rw[e3];exact e2⟩
section
variable{P:rf}{w:World}{K:ba}{mg:Str->Option Value}{base:Heap}{A:Adr}
theorem ua (T:Txt w.params K mg A){i:Nat}:aT P w K mg base CX0 5 A.bA A.fR ["self","deed"] (adN A i):=by
 have mh:aT P w K mg base CX0 4 A.nJ A.iI ["deed"] (R.Ht K):=R.tJ T;refine T.cW.ok qW (λvs H Q E h=>?_) (λcdv A' outer s H vs Q E hr h=>?_)
 ·obtain⟨o,t,c,st,d,rfl,_⟩:=h;rfl
 ·obtain⟨o,t,c,st,d,rfl,hc,hd,hk,hl,q⟩:=h;refine⟨_,(ak (bJ (jf (uI (bf (pv 0) rfl) (λ_=>rfl)))
 (aj (fK (pv 0) iM rfl))
 aI)
 (aj (bR (js am9 anu anv dq (bf (pv 0) rfl) (aa (bb mh hr rfl T.qa T.l5.kp T.p9 .nil aW (aa (pv 1) ag)) ag))))),?_⟩
  try dsimp only[bE]
  have lim:gr=16777216:=by decide
  refine Oy (λσ' H'=>σ'=[some (.ref o),some (.ref t)]/\Step (fm i) c c H H'/\dh A i c H' o st.opened) ?r (λN nN=>?f)
  case f =>
   refine aS λGq gq=>?_
   obtain⟨dx,aM,aP,aA,aD,aF,aE,aR,ms,ds,ws,fs,es,X⟩:=hc.ex;refine gq ?_;refine fw rfl X.ob T.ah T.jq0 fY ?_;refine⟨_,.inl ⟨_,.inl (.inl X.aH.2),rfl⟩,?_⟩;cases e:st.aH with
   |nil =>
    refine iQ ⟨_,rfl,o,A.ao,dx,_,rfl,X.ob,T.ah,T.jq3,(by show 10 < 1000;decide),?_⟩
    rw[Ek];obtain⟨s1,X1⟩:=X.attr st.bg false;refine nN _ _ ⟨rfl,s1.vz,?_⟩;have e1:st.opened={ st with bg:=st.bg,closed:=false }:=by unfold Ch.opened;rw[e,if_pos rfl]
    rw[e1];exact X1.at
   |cons x r =>
    refine et (nN _ _ ⟨rfl,Step.refl aX,?_⟩);have e1:st.opened=st:=by unfold Ch.opened;rw[e,if_neg (anB _ _)];cases st;cases e;rfl
    rw[e1];exact hc
  case r =>
   rintro σ' H1 ⟨rfl,s1,hc1⟩;refine aS λGq gq=>?_
   obtain⟨dx,aM,aP,aA,aD,aF,aE,aR,ms,ds,ws,fs,es,X⟩:=hc1.ex;refine gq ?_;refine fw rfl X.ob T.ah T.jqc vC ?_;refine⟨.inl ⟨rfl,_,SqL.of X.rows.2⟩,_,rfl,t,d,rfl,(hd.step s1).at,hk,λH2 s2=>?_⟩
   have X2:=X.same s2;obtain⟨s3,X3⟩:=X2.row (R.gi d);refine⟨aR,_,_,rfl,rfl,X2.rows.2,by rw[bo];show st.rows.length < _;omega,?_⟩
   exact q c _ ((s1.trans (Step.same aX s2)).trans s3.vz) X3.at
theorem zh (T:Txt w.params K mg A){i:Nat}:aT P w K mg base CX0 1 A.bN A.ic ["self","until"] (Zf A i):=by
 refine T.d8.ok uS (λvs H Q E h=>?_) (λcdv A' outer s H vs Q E hr h=>?_)
 ·obtain⟨o,u,c,st,n,r,rfl,_⟩:=h;rfl
 ·obtain⟨o,u,c,st,n,r,rfl,hc,hp,hn,hl,q⟩:=h;obtain⟨dx,aM,aP,aA,aD,aF,aE,aR,ms,ds,ws,fs,es,X⟩:=hc.ex;have hu1:=hr.u1;have lim:gr=16777216:=by decide
  refine⟨_,(ak (wu hu1 (bf (pv 0) rfl) (aZ bz (bf (pv 0) rfl) ai (λ_ _=>rfl)) (cI (aa (pv 1) (aa (bf (pv 0) rfl) ag))) rfl)
 (aj (fK (pv 0) (dn ag) rfl))),?_⟩
  try dsimp only[bE]
  refine⟨_,rfl,fw rfl X.ob T.ah T.jq0 fY ⟨(sl 2),λt ht=>?_⟩⟩
  have s1:=aB (o:=.tup [V.int u,.ref aP]) ht;refine fw rfl (s1 _ _ X.ob) T.ah T.jq5 lj ?_;have h0:atI (st.aH.map nV) 0=some (nV n):=by rw[hp];exact pQ (j:=0) rfl
  refine fw rfl (s1 _ _ X.ob) T.ah T.jq0 fY ⟨aP,_,_,_,rfl,rfl,SqL.of (s1 _ _ X.aH.2),h0,?_⟩;refine⟨aA,_,rfl,BM.k (k:=ma (n:Int)) (s1 _ _ X.aV.2) ?_,?_⟩
  ·unfold bp;rw[bo,aoQ,bo];omega
  have oA:o≠aA:=vE X.co X.aV.1 (λz=>nomatch z)
  refine⟨(sl 0),λp hp0=>?_⟩
  have npA:p≠aA:=λz=>by rw[z,ae]at hp0;cases hp0
  have npt:p≠t:=λz=>by rw[av npA,z,ae]at hp0;cases hp0
  have hp1:H p=none:=by rw[av npA,av npt]at hp0;exact hp0
  have hob:(upd (upd (upd H t (.tup [V.int u,.ref aP])) aA (.dK (putK (bp ((st.aV.map (·.1)).zip ws)) (ma (n:Int)) (.ref t)))) p (.lst [])) o=some (.ins A.ao dx (chF (.int st.cJ) (.int st.bg) (.bl st.closed) (.ref aM) (.ref aP) (.ref aA) (.ref aD) (.ref aF) (.ref aE) (.ref aR))):=by
   rw[av (aU X.ob hp1),av oA];exact s1 _ _ X.ob
  refine⟨_,rfl,o,A.ao,dx,_,rfl,hob,T.ah,T.jq0,(by show 10 < 1000;decide),?_⟩
  rw[Jd];refine aS λGq gq=>?_
  obtain⟨c',s2,X2⟩:=X.um (u:=u) ht hp1 npt hn;refine gq ?_;exact q c' _ s2.vz X2.at
theorem AN (T:Txt w.params K mg A){i:Nat}:aT P w K mg base CX0 4 A.bu A.fB ["self","edit"] (Zg A i):=by
 refine T.cF.ok iZ (λvs H Q E h=>?_) (λcdv A' outer s H vs Q E hr h=>?_)
 ·obtain⟨o,t,c,st,n,r,tx,e,x,rfl,_⟩:=h;rfl
 ·obtain⟨o,t,c,st,n,r,tx,e,x,rfl,hc,hp,hn,hm,htx,hml,ht,he,hf,hx,hxl,hnd,q⟩:=h;obtain⟨dx,aM,aP,aA,aD,aF,aE,aR,ms,ds,ws,fs,es,X⟩:=hc.ex;have hu1:=hr.u1;have lim:gr=16777216:=by decide
  refine⟨_,(ak (bh (i:=2) iZ.nd rfl (anq rfl) (aZ bz (bf (pv 0) rfl) ai (λ_ _=>rfl)))
 (ak (wu hu1 (bf (pv 0) rfl) (pv 2) (f9 T.yZ (Ej T) (hr.mono (by decide)) rfl T.yW T.UH .nil aW (aa (bb (Og T) hr rfl T.Md T.Ha.kp T.Mc .nil sH (aa (bf (lN hu1 (bf (pv 0) rfl) (pv 2) (λ_ _=>rfl)) rfl) (aa (pv 1) ag))) ag)) rfl)
 (aj (bR (js am9 anu anv dq (lN hu1 (bf (pv 0) rfl) (pv 2) (λ_ _=>rfl)) (aa (pv 1) ag)))))),?_⟩
  try dsimp only[bE]
  refine aS λGq gq=>?_
  have h0:atI (st.aH.map nV) 0=some (nV n):=by rw[hp];exact pQ (j:=0) rfl
  obtain⟨m,hv,hmo⟩:=X.U0 hn;rw[hm]at hmo;obtain⟨_,dm,v,Zi,L,rfl,hL⟩:=hmo;refine gq ?_;refine fw rfl X.ob T.ah T.jq0 fY ⟨aP,_,_,_,rfl,rfl,SqL.of X.aH.2,h0,?_⟩;refine⟨_,rfl,o,A.ao,dx,_,.ref aM,rfl,X.ob,T.ah,T.jq2,i5,_,rfl,aM,_,rfl,.inl ⟨_,ma (n:Int),.inl X.made.2,rfl,hv.symm⟩,?_⟩;refine⟨m,A.C 0,dm,_,.ref L,rfl,Zi,T.cl 0 (by decide),T.na0,rfl,_,rfl,?_⟩
  refine⟨L,t,tx,e,rfl,SqL.of hL.2,htx,ht.sq,he,λ_ p hp0=>?_,λz=>by rw[hf]at z;cases z⟩
  refineλy dy hy hdy ndy=>?_
  refine⟨y,dy,p,(b9 tx e).map V.str,rfl,ae,?_,λp2 hp2=>⟨rfl,?_⟩⟩
  ·exact(((aB hdy).new ((av (anj ndy)).trans hy)).seq (SqL.of ae))
  have hy0:H y=none:=by
   by_cases z:y=p
   ·rw[z,ae]at hy;cases hy
   ·rw[av z]at hy;exact hy
  have akW:H dy=none:=by
   by_cases z:dy=p
   ·rw[z,ae]at hdy;cases hdy
   ·rw[av z]at hdy;exact hdy
  have sm0:a9 H (upd (upd (upd H p (.lst ((b9 tx e).map V.str))) dy (.own y)) y (.ins (A.C 0) dy [])):=((aB hp0).own akW).own hy0;have adO:H p2=none:=by
   cases z:H p2 with
   |none=>rfl
   |some v=>rw[sm0 _ _ z]at hp2;cases hp2
  have sm:a9 H (upd (upd (upd (upd (upd H p (.lst ((b9 tx e).map V.str))) dy (.own y)) y (.ins (A.C 0) dy [])) p2 (.lst ((b9 tx e).map V.str))) y (.ins (A.C 0) dy (rF 0 (.ref p2)))):=(sm0.own adO).own hy0;have nyp:y≠p2:=λz=>by rw[<-z,ae]at hp2;cases hp2
  have X1:=X.cl sm;have hmn:oG A (eh c H) (upd (upd (upd (upd (upd H p (.lst ((b9 tx e).map V.str))) dy (.own y)) y (.ins (A.C 0) dy [])) p2 (.lst ((b9 tx e).map V.str))) y (.ins (A.C 0) dy (rF 0 (.ref p2)))) (.mat (b9 tx e)) y :=
   ⟨dg hy0,dy,.ref p2,ae,p2,rfl,dg adO,(av (anj nyp)).trans ae⟩
  have st1:Step (fm i) c (eh c H) H _:=Step.cl aX sm;have ht1:=ht.step st1;generalize upd (upd (upd (upd (upd H p (.lst ((b9 tx e).map V.str))) dy (.own y)) y (.ins (A.C 0) dy [])) p2 (.lst ((b9 tx e).map V.str))) y (.ins (A.C 0) dy (rF 0 (.ref p2)))=H1 at X1 hmn st1 ht1 ⊢;generalize eh c H=c1 at X1 hmn st1 ht1;refine fw rfl X1.ob T.ah T.jq2 i5 ⟨_,rfl,aM,_,rfl,BM.k (k:=ma (n:Int)) X1.made.2 ?_,?_⟩
  ·unfold bp;rw[bo,aoQ,aol];omega
  obtain⟨s2,X2⟩:=X1.Ox hn hmn;have ht2:=ht1.step s2.vz;generalize upd H1 aM (.dK (putK (bp ((anL 1 st.made.length).zip (ms.map V.ref))) (ma (n:Int)) (.ref y)))=H2 at s2 X2 ht2 ⊢;refine aS λGq gq=>?_
  obtain⟨pk,ts,hv2,hl2,tl⟩:=X2.Ze hx;refine gq ?_;refine⟨_,rfl,o,A.ao,dx,_,.ref aE,rfl,X2.ob,T.ah,T.jq6,oI,_,rfl,aE,_,rfl,.inl ⟨_,ma (n:Int),.inl X2.kz.2,rfl,hv2.symm⟩,?_⟩;refine⟨.inl ⟨rfl,_,SqL.of hl2.2⟩,_,rfl,pk,_,_,rfl,rfl,hl2.2,by rw[bo];omega,?_⟩
  obtain⟨s3,X3⟩:=X2.UY hv2 hl2 hnd ht2;exact q c1 _ ((st1.trans s2.vz).trans s3.vz) X3.at
theorem AO (T:Txt w.params K mg A){i:Nat}:aT P w K mg base CX0 4 A.bw A.fD ["self","edit"] (Zh A i):=by
 have oB:aT P w K mg base CX0 1 A.words_of A.jF ["clause"] R.wN:=R.l8 T;have vx:aT P w K mg base CX0 1 A.rn A.jQ ["words"] (R.xQ K):=R.tI T;refine T.cG.ok dH (λvs H Q E h=>?_) (λcdv A' outer s H vs Q E hr h=>?_)
 ·obtain⟨o,t,c,st,n,r,e,f,rfl,_⟩:=h;rfl
 ·obtain⟨o,t,c,st,n,r,e,f,rfl,hc,hp,hn,hm,hk1,heo,hwl,hml,ht,hfo,hf,hsz,q⟩:=h;obtain⟨dx,aM,aP,aA,aD,aF,aE,aR,ms,ds,ws,fs,es,X⟩:=hc.ex;have hu1:=hr.u1;have lim:gr=16777216:=by decide
  refine⟨_,(ak (bh (i:=2) dH.nd rfl (anq rfl) (aZ bz (bf (pv 0) rfl) (xg qm ai) (λ_ _=>rfl)))
 (ak (bh (i:=3) dH.nd rfl (anq rfl) (bf (lN hu1 (bf (pv 0) rfl) (pv 2) (λ_ _=>rfl)) rfl))
 (ak (bh (i:=4) dH.nd rfl (anq rfl) (bb (Og T) hr rfl T.Md T.Ha.kp T.Mc .nil sH (aa (bb oB (hr.mono (by decide)) rfl T.kU T.jk.kp T.kT .nil aW (aa (aZ bx (pv 3) ai (λ_ _=>rfl)) ag)) (aa (pv 1) ag))))
 (aj (wu hu1 (bf (pv 0) rfl) (pv 2) (f9 T.y3 (oy T) (hr.mono (by decide)) rfl T.yX T.UI .nil aW (aa (cI (aa (aZ bx (pv 3) ai (λ_ _=>rfl)) (aa (aZ bx (pv 3) ai (λ_ _=>rfl)) (aa (bb vx (hr.mono (by decide)) rfl T.p4 T.lY.kp T.pZ .nil aW (aa (pv 4) ag)) ag)))) ag)) rfl))))),?_⟩
  try dsimp only[bE]
  refine aS λGq gq=>?_
  have h0:atI (st.aH.map nV) (-1)=some (nV n):=by rw[hp,ky];exact uJ _ _
  obtain⟨m,hv,hmo⟩:=X.U0 hn;rw[hm]at hmo;obtain⟨_,dm,v,Zi,te,rfl,hte⟩:=hmo;refine gq ?_;refine⟨_,rfl,o,A.ao,dx,_,.ref aP,rfl,X.ob,T.ah,T.jq0,fY,_,rfl,aP,_,_,_,rfl,rfl,SqL.of X.aH.2,h0,?_⟩;refine⟨_,rfl,o,A.ao,dx,_,.ref aM,rfl,X.ob,T.ah,T.jq2,i5,_,rfl,aM,_,rfl,.inl ⟨_,ma (n:Int),.inl X.made.2,rfl,hv.symm⟩,?_⟩;refine⟨m,A.C 1,dm,_,.ref te,rfl,Zi,T.cl 1 (by decide),T.na1,rfl,?_⟩
  have h2:=Hh (e:=e) hk1;refine ixv rfl hte.sq h2 ⟨e.th,rfl,?_,λp1 hp1=>?_⟩
  ·have:=heo.th.len;omega
  have s1:=aB (o:=.lst ((R.bO e.th).map V.str)) hp1;refine⟨_,rfl,p1,t,R.bO e.th,f,rfl,SqL.of ae,hwl,fb s1 ht.sq,hfo,λ_ p2 hp2=>?_,λz=>by rw[hf]at z;cases z⟩
  have s2:=s1.new (o:=.lst ((b9 (R.bO e.th) f).map V.str)) hp2;refine ixv rfl (fb s2 hte.sq) (Hf e) (ixv rfl (fb s2 hte.sq) (Hg e) ⟨_,rfl,p2,_,rfl,SqL.of ae,hsz,(sl 3),λtn htn=>?_⟩)
  have s3:=s2.new (o:=.tup [V.str (kn e.k),.int e.at_,.str (km R.bl1 (b9 (R.bO e.th) f))]) htn;refineλy dy hy hdy ndy=>?_
  refine⟨y,dy,.ref tn,rfl,ae,rfl,?_⟩;have hno:∀ {a:Addr},(upd (upd (upd H p1 (.lst ((R.bO e.th).map V.str))) p2 (.lst ((b9 (R.bO e.th) f).map V.str))) tn (.tup [V.str (kn e.k),.int e.at_,.str (km R.bl1 (b9 (R.bO e.th) f))])) a=none->H a=none:=by
   intro a ha;cases z:H a with
   |none=>rfl
   |some v=>rw[s3 _ _ z]at ha;cases ha
  have nyt:y≠tn:=λz=>by rw[z,ae]at hy;cases hy
  have ndt:dy≠tn:=λz=>by rw[z,ae]at hdy;cases hdy
  have akX:H tn=none:=by
   cases z:H tn with
   |none=>rfl
   |some v=>rw[s2 _ _ z]at htn;cases htn
  have sm:=((s3.own (o:=.own y) (hno hdy)).own (o:=.ins (A.C 1) dy []) (hno hy)).own (o:=.ins (A.C 1) dy (rF 1 (.ref tn))) (hno hy);have X1:=X.cl sm;have er:iN ⟨e.k,e.at_,km R.bl1 (b9 (R.bO e.th) f)⟩=[V.str (kn e.k),.int e.at_,.str (km R.bl1 (b9 (R.bO e.th) f))]:=by
   obtain⟨k,a,th⟩:=e;have h3:=heo.k3;dsimp only at h3 hk1 ⊢;rcases h3 with rfl | rfl | rfl
   ·rfl
   ·exact absurd rfl hk1
   ·rfl
  have hmn:=(⟨dg (hno hy),dy,.ref tn,ae,tn,rfl,dg akX,.inl (by rw[av (anj nyt),av (anj nyt),av (anj ndt),ae,er])⟩:oG A (eh c H) (upd (upd (upd (upd (upd (upd H p1 (.lst ((R.bO e.th).map V.str))) p2 (.lst ((b9 (R.bO e.th) f).map V.str))) tn (.tup [V.str (kn e.k),.int e.at_,.str (km R.bl1 (b9 (R.bO e.th) f))])) dy (.own y)) y (.ins (A.C 1) dy [])) y (.ins (A.C 1) dy (rF 1 (.ref tn)))) (.chg ⟨e.k,e.at_,km R.bl1 (b9 (R.bO e.th) f)⟩) y)
  have st1:Step (fm i) c (eh c H) H _:=Step.cl aX sm;generalize upd (upd (upd (upd (upd (upd H p1 (.lst ((R.bO e.th).map V.str))) p2 (.lst ((b9 (R.bO e.th) f).map V.str))) tn (.tup [V.str (kn e.k),.int e.at_,.str (km R.bl1 (b9 (R.bO e.th) f))])) dy (.own y)) y (.ins (A.C 1) dy [])) y (.ins (A.C 1) dy (rF 1 (.ref tn)))=H1 at X1 hmn st1 ⊢;generalize eh c H=c1 at X1 hmn st1;refine fw rfl X1.ob T.ah T.jq2 i5 ⟨_,rfl,aM,_,rfl,BM.k (k:=ma (n:Int)) X1.made.2 ?_,?_⟩
  ·unfold bp;rw[bo,aoQ,aol];omega
  obtain⟨s4,X2⟩:=X1.Ox hn hmn;exact q c1 _ (st1.trans s4.vz) X2.at
end
def Er (below:List Mn):Mn->Prop
 | .mat _=>below=[]
 | .chg e=>∃tx,below=[.mat tx]/\gs tx.length e=true
 | .mnd f=>∃tx e,below=[.mat tx,.chg e]/\e.k≠1/\gs (R.bO e.th).length f=true
 | .off _=>(∃tx r,below=.mat tx::r)/\∀b∈below,b.k < 3
 | .cls=>(∃tx r,below=.mat tx::r)/\∀b∈below,b.k < 4
 | .lay=>(∃tx r,below=.mat tx::r)/\∀b∈below,b.k < 5
 | .rst=>∀b∈below,b.k < 6
 | .pnt _=>∀b∈below,b.k < 7
inductive PMs:List Mn->Prop
 |nil:PMs []
 |snoc {ms:List Mn} {m:Mn}:PMs ms->Er ms m->PMs (ms++[m])
theorem PMs.pop {ms:List Mn}{m:Mn}(h:PMs (ms++[m])):PMs ms/\Er ms m:=by
 generalize e:ms++[m]=l at h;cases h with
 |nil=>simp at e
 |snoc h1 h2 =>
  obtain⟨e1,e2⟩:=List.append_inj' e rfl;cases e2;subst e1;exact⟨h1,h2⟩
theorem Er.lt {below:List Mn}:∀ {m:Mn},Er below m->∀b∈below,b.k < m.k
 | .mat _,h,b,hb=>by rw[h]at hb;cases hb
 | .chg _,⟨tx,h,_⟩,b,hb=>by
  rw[h,ra]at hb;rw[hb];show 0 < 1;decide
 | .mnd _,⟨tx,e,h,_,_⟩,b,hb=>by
  rw[h]at hb;rcases List.mem_cons.mp hb with rfl | hb
  ·show 0 < 2;decide
  ·rw[ra]at hb;rw[hb];show 1 < 2;decide
 | .off _,h,b,hb=>h.2 b hb
 | .cls,h,b,hb=>h.2 b hb
 | .lay,h,b,hb=>h.2 b hb
 | .rst,h,b,hb=>h b hb
 | .pnt _,h,b,hb=>h b hb
theorem PMs.le_top {ms:List Mn}(h:PMs ms):∀b∈ms,(b.k:Int)<=vD ms:=by
 cases h with
 |nil=>intro b hb;cases hb
 |snoc h1 h2 =>
  intro b hb;rw[wO];rcases List.mem_append.mp hb with hb | hb
  ·have:=h2.lt b hb;omega
  ·rw[ra]at hb;rw[hb];exact Int.le_refl _
theorem PMs.Pu {ms:List Mn}(h:PMs ms):Pp ms=true->∃tx r,ms=.mat tx::r:=by
 induction h with
 |nil=>intro h;cases h
 | @snoc ms m h1 h2 ih =>
  intro h;unfold Pp at h ih;rw[List.any_append,Bool.or_eq_true]at h;rcases h with h | h
  ·obtain⟨tx,r,e⟩:=ih h;exact⟨tx,r++[m],by rw[e];rfl⟩
  ·cases m with
   |mat tx =>
    have:ms=[]:=h2;rw[this];exact⟨tx,[],rfl⟩
   |_=>simp[Mn.k]at h
theorem PMs.len {ms:List Mn}(h:PMs ms):(ms.length:Int)<=vD ms+1:=by
 induction h with
 |nil=>decide
 | @snoc ms m h1 h2 ih =>
  rw[wO,ki,anc];have:vD ms < (m.k:Int):=by
   unfold vD;split
   ·omega
   ·rename_i b hb;have:=h2.lt b (List.mem_of_getLast? hb);omega
  omega
theorem PMs.Ji {ms:List Mn}(h:PMs ms):ms.length<=8:=by
 have:=h.len;have:=R8 ms;omega
theorem vF (cl:Bool)(ms:List Mn):vD ms<=uk cl ms:=by
 unfold uk;split
 ·split <;> omega
 ·exact Int.le_refl _
theorem zi {cl:Bool}{ms:List Mn}{k:Nat}(h:E6 cl ms k=none):vD ms < (k:Int)/\Bz ms k=true:=by
 have hb:=vF cl ms;unfold E6 at h;split at h
 ·cases h
 ·split at h
  ·exact⟨by omega,by assumption⟩
  ·split at h <;> cases h
theorem Es {ms:List Mn}(h:vD ms < 0):ms=[]:=by
 rcases anY ms with e | ⟨r,b,e⟩
 ·exact e
 ·rw[e,anZ,wO]at h;omega
def adP (ms:List Mn):Mn->Prop
 | .chg e=>∀tx r,ms=.mat tx::r->gs tx.length e=true
 | .mnd f=>∀r e,ms=r++[.chg e]->gs (R.bO e.th).length f=true
 |_=>True
theorem rH {α:Type}{xs:List α}{x:α}(h:xs.getLast?=some x):∃r,xs=r++[x]:=by
 rcases anY xs with e | ⟨r,b,e⟩
 ·rw[e]at h;cases h
 ·rw[anZ]at e;rw[e,aoo]at h;cases h;exact⟨r,e⟩
theorem PMs.push {cl:Bool}{ms:List Mn}(h:PMs ms){m:Mn}(ho:E6 cl ms m.k=none)(hf:adP ms m):PMs (ms++[m]):=by
 obtain⟨h1,h2⟩:=zi ho;have lt:∀b∈ms,b.k < m.k:=λb hb=>by have:=h.le_top b hb;omega
 refine .snoc h ?_;cases m with
 |mat tx=>exact Es h1
 |chg e =>
  obtain⟨tx,r,e1⟩:=h.Pu h2;refine⟨tx,?_,hf tx r e1⟩;rcases anY r with e2 | ⟨r',b,e2⟩
  ·rw[e1,e2]
  ·rw[anZ]at e2;have hb:b.k < 1:=lt b (by rw[e1,e2];simp)
   rw[e1,e2,<-List.cons_append]at h;have ht:=h.pop.2;cases b with
   |mat ty=>exact absurd ht (anB _ _)
   |_=>simp[Mn.k]at hb
 |mnd f =>
  have h3:tK ms=true:=h2;unfold tK at h3;split at h3
  ·rename_i e he;obtain⟨r,e1⟩:=rH he;rw[e1]at h;obtain⟨tx,e2,_⟩:=h.pop.2;refine⟨tx,e,by rw[e1,e2];rfl,?_,hf r e e1⟩
   intro z;rw[z]at h3;cases h3
  ·cases h3
 |off n=>exact⟨h.Pu h2,lt⟩
 |cls=>exact⟨h.Pu h2,lt⟩
 |lay=>exact⟨h.Pu h2,lt⟩
 |rst=>exact lt
 |pnt z=>exact lt
theorem U4 {st st':Ch}(h:st'.made=st.made):st'.mo=st.mo:=by funext n;unfold Ch.mo;rw[h]
theorem HA {st:Ch}{n:Nat}{m:Mn}(hn:fq st n){st':Ch}(h:st'.made=st.made.set (n - 1) m):st'.mo n=m:=by
 unfold Ch.mo;have:=hn.1;have:=hn.2;rw[h,ank,List.getElem?_set_self (by omega)]
 rfl
theorem rJ {st:Ch}{n k:Nat}{m:Mn}(hn:fq st n)(h1:1<=k)(ne:k≠n){st':Ch}(h:st'.made=st.made.set (n - 1) m):st'.mo k=st.mo k:=by
 unfold Ch.mo;have:=hn.1;rw[h,ank,List.getElem?_set_ne (by omega),<-ank]
theorem HB {st:Ch}{m:Mn}{st':Ch}(h:st'.made=st.made++[m]){k:Nat}(hk:fq st k):st'.mo k=st.mo k:=by
 unfold Ch.mo;have:=hk.1;have:=hk.2;rw[h,ank,aow (by omega),<-ank]
theorem Mt {st:Ch}{m:Mn}{st':Ch}(h:st'.made=st.made++[m]):st'.mo (st.made.length+1)=m:=by
 unfold Ch.mo;rw[h,ank,Nat.add_sub_cancel,aou (kj _),Nat.sub_self];rfl
def EdB (N:Nat)(e:Ed):Prop:=(e.k=0\/e.k=1\/e.k=2)/\-1000<=e.at_/\e.at_<=1000/\∃ws,e.th=km R.bl1 ws/\(∀w∈ws,R.oz w)/\ws.length<=N
def MOk (N:Nat):Mn->Prop
 | .mat tx=>tx.length<=12+N/\∀x∈tx,am8 x=true
 | .chg e=>EdB (12+N) e
 | .mnd f=>EdB 1 f/\∃w,f.th=w/\R.oz w
 | .off u=>-10000000000 < u/\u < 10000000000
 | .pnt z=>am8 z=true
 |_=>True
theorem EdB.mono {N M:Nat}(h:N<=M){e:Ed}(z:EdB N e):EdB M e:=by
 obtain⟨a,b,c,ws,d,f,g⟩:=z;exact⟨a,b,c,ws,d,f,si g h⟩
theorem MOk.mono {N M:Nat}(h:N<=M):∀ {m:Mn},MOk N m->MOk M m
 | .mat tx,z=>⟨si z.1 (by omega),z.2⟩
 | .chg e,z=>EdB.mono (by omega) z
 | .mnd f,z=>z
 | .off u,z=>z
 | .cls,_=>trivial
 | .lay,_=>trivial
 | .rst,_=>trivial
 | .pnt _,z=>z
def Ch.all (st:Ch):List Nat:=st.aH++(st.aV.flatMap (·.2.2)++st.decided.map (·.1))
def Ch.w4 (st:Ch):List Nat:=(anL 1 st.made.length).filter λn=>decide ((st.mo n).k=0)
structure Inv (N:Nat)(st:Ch):Prop where
 lm:3 * st.made.length<=N
 lr:st.rows.length<=N
 ld:st.decided.length<=N
 la:st.aV.length<=N
 lk:∀x∈st.kept,x.2.length<=N
 sit:1<=st.bg/\st.bg<=N+1
 mok:∀m∈st.made,MOk N m
 num:∀n∈st.all,fq st n
 nd:st.all.Nodup
 pil:PMs (st.aH.map st.mo)
 asd:∀x∈st.aV,PMs (x.2.2.map st.mo)/\(∃r,x.2.2=x.1::r)/\-10000000000 < x.2.1/\x.2.1 < 10000000000
 kk:st.kept.map (·.1)=st.w4
 ff:st.firsts.map (·.1)=st.w4
 dw:∀x∈st.decided,am8 x.2=true
theorem Inv.mono {N M:Nat}(h:N<=M){st:Ch}(I:Inv N st):Inv M st where
 lm:=si I.lm h
 lr:=si I.lr h
 ld:=si I.ld h
 la:=si I.la h
 lk:=λx hx=>si (I.lk x hx) h
 sit:=⟨I.sit.1,by have:=I.sit.2;omega⟩
 mok:=λm hm=>(I.mok m hm).mono h
 num:=I.num
 nd:=I.nd
 pil:=I.pil
 asd:=I.asd
 kk:=I.kk
 ff:=I.ff
 dw:=I.dw
theorem Inv.Jj {N:Nat}{st:Ch}(I:Inv N st){n:Nat}(hn:fq st n):MOk N (st.mo n):=by
 have:=hn.1;have:=hn.2;have hlt:n - 1 < st.made.length:=by omega
 have e:st.mo n=st.made[n - 1]:=by unfold Ch.mo;rw[ank,anm hlt];rfl
 rw[e];exact I.mok _ (List.getElem_mem hlt)
theorem Inv.eu {N:Nat}{st:Ch}(I:Inv N st):∀n∈st.aH,fq st n:=λn hn=>I.num n (anx _ hn)
theorem Inv.zj {N:Nat}{st:Ch}(I:Inv N st){x:Nat×Int×List Nat}(hx:x∈st.aV):∀n∈x.2.2,fq st n:=λn hn =>
 I.num n (gn _ (anx _ (List.mem_flatMap.mpr ⟨x,hx,hn⟩)))
theorem Inv.Oz {N:Nat}{st:Ch}(I:Inv N st){n:Nat}(hn:n∈st.aH){x:Nat×Int×List Nat}(hx:x∈st.aV):n∉x.2.2:=λz =>
 (List.nodup_append.mp I.nd).2.2 n hn n (anx _ (List.mem_flatMap.mpr ⟨x,hx,z⟩)) rfl
theorem Inv.Se {N:Nat}{st:Ch}(I:Inv N st){n:Nat}(hn:n∈st.aH):n∉st.aV.map (·.1):=λz=>by
 obtain⟨x,hx,e⟩:=List.mem_map.mp z;obtain⟨r,er⟩:=(I.asd x hx).2.1;exact I.Oz hn hx (by rw[er,e];exact kb)
theorem U5 {st st':Ch}(hl:st'.made.length=st.made.length)(hk:∀n,fq st n->(st'.mo n).k=(st.mo n).k):st'.w4=st.w4:=by
 unfold Ch.w4;rw[hl];refine List.filter_congr λn hn=>?_
 rw[aoB]at hn;rw[hk n ⟨hn.1,by omega⟩]
theorem Mu (st:Ch):st.w4.Nodup:=List.filter_sublist.nodup List.nodup_range'
theorem Inv.keptAt {N:Nat}{st:Ch}(I:Inv N st){n:Nat}(hn:fq st n)(hk:(st.mo n).k=0):∃x,at1 n st.kept=some x/\x.2.length<=N:=by
 cases e:at1 n st.kept with
 |some x=>exact⟨x,rfl,I.lk x (nr e).2⟩
 |none =>
  have h:=zf e;rw[I.kk]at h;have hr:n∈anL 1 st.made.length:=by
   rw[aoB];have:=hn.1;have:=hn.2;omega
  exact absurd (show n∈st.w4 from List.mem_filter.mpr ⟨hr,by exact decide_eq_true hk⟩) h
def Ch.popped (st:Ch)(pre:List Nat)(n:Nat)(wd:Str):Ch:={ st with aH:=pre,decided:=st.decided++[(n,wd)] }
theorem Inv.pop {N:Nat}{st:Ch}(I:Inv N st){pre:List Nat}{n:Nat}(e:st.aH=pre++[n])(wd:Str)(hw:am8 wd=true):Inv (N+1) (st.popped pre n wd)/\Er (pre.map st.mo) (st.mo n):=by
 have hp:=I.pil;rw[e,ky]at hp;obtain⟨p1,p2⟩:=PMs.pop hp;have perm:List.Perm (st.popped pre n wd).all st.all:=by
  unfold Ch.all Ch.popped;rw[e,ky];have:List.Perm (st.aV.flatMap (·.2.2)++(st.decided.map (·.1)++[(n,wd)].map (·.1))) ([n]++(st.aV.flatMap (·.2.2)++st.decided.map (·.1))):=by
   rw[<-aog];exact List.perm_append_comm
  exact(List.Perm.append_left pre this).trans (by rw[aog])
 refine⟨⟨anw I.lm,anw I.lr,?_,anw I.la,λx hx=>anw (I.lk x hx),⟨I.sit.1,by have:=I.sit.2;show st.bg<=_;omega⟩,λm hm=>(I.mok m hm).mono (by omega),λk hk=>I.num k (perm.mem_iff.mp hk),perm.nodup_iff.mpr I.nd,p1,I.asd,I.kk,I.ff,?_⟩,p2⟩
 ·show (st.decided++[(n,wd)]).length<=_;rw[ki,anc];have:=I.ld;omega
 ·intro x hx;rcases List.mem_append.mp hx with h | h
  ·exact I.dw x h
  ·rw[ra]at h;rw[h];exact hw
theorem Inv.Jh {N:Nat}{st:Ch}(I:Inv N st)(z:Str):Inv (N+1) (st.Jh z):=by
 refine⟨anw I.lm,?_,anw I.ld,anw I.la,λx hx=>anw (I.lk x hx),⟨I.sit.1,by have:=I.sit.2;show st.bg<=_;omega⟩,λm hm=>(I.mok m hm).mono (by omega),I.num,I.nd,I.pil,I.asd,I.kk,I.ff,I.dw⟩
 show (st.rows++[z]).length<=_;rw[ki,anc];have:=I.lr;omega
theorem Inv.WB {N:Nat}{st:Ch}(I:Inv N st){n:Nat}{m:Mn}(hn:n∈st.aH)(hk:m.k=(st.mo n).k)(hm:MOk (N+1) m){kp:List (Nat×List Ed)}(ek:kp.map (·.1)=st.kept.map (·.1))(lk:∀x∈kp,x.2.length<=N+1)
  (hp:PMs (st.aH.map (Ch.mo { st with made:=st.made.set (n - 1) m,kept:=kp }))):Inv (N+1) { st with made:=st.made.set (n - 1) m,kept:=kp }:=by
 have hno:=I.eu n hn;have kinds:∀k,fq st k->(Ch.mo { st with made:=st.made.set (n - 1) m,kept:=kp } k).k=(st.mo k).k:=λk h=>by
  by_cases z:k=n
  ·subst z;rw[HA hno rfl,hk]
  ·rw[rJ hno h.1 z rfl]
 have em:Ch.w4 { st with made:=st.made.set (n - 1) m,kept:=kp }=st.w4:=U5 (by show (st.made.set (n - 1) m).length=_;rw[aoy]) kinds
 refine⟨?_,anw I.lr,anw I.ld,anw I.la,lk,⟨I.sit.1,by have:=I.sit.2;show st.bg<=_;omega⟩,?_,?_,I.nd,hp,?_,by rw[em,<-I.kk];exact ek,by rw[em];exact I.ff,I.dw⟩
 ·show 3 * (st.made.set (n - 1) m).length<=_;rw[aoy];have:=I.lm;omega
 ·intro x hx;rcases List.mem_or_eq_of_mem_set hx with h | h
  ·exact(I.mok x h).mono (by omega)
  ·rw[h];exact hm
 ·intro k hk;have:=I.num k hk;exact⟨this.1,by show k<=(st.made.set (n - 1) m).length;rw[aoy];exact this.2⟩
 ·intro x hx;obtain⟨h1,h2⟩:=I.asd x hx;refine⟨?_,h2⟩;have:x.2.2.map (Ch.mo { st with made:=st.made.set (n - 1) m,kept:=kp })=x.2.2.map st.mo:=aoI λk hk =>
   rJ hno (I.zj hx k hk).1 (λz=>I.Oz hn hx (by rw[<-z];exact hk)) rfl
  rw[this];exact h1
theorem Inv.um {N:Nat}{st:Ch}(I:Inv N st){n:Nat}{r:List Nat}(e:st.aH=n::r){u:Int}(h0:-10000000000 < u)(h1:u < 10000000000):Inv (N+1) (st.um n u):=by
 have perm:List.Perm (st.um n u).all st.all:=by
  unfold Ch.all Ch.um;rw[List.flatMap_append,List.nil_append];show List.Perm ((st.aV.flatMap (·.2.2)++[(n,u,st.aH)].flatMap (·.2.2))++st.decided.map (·.1)) _
  rw[show [(n,u,st.aH)].flatMap (·.2.2)=st.aH by simp,<-aog]
  exact List.Perm.append_right _ List.perm_append_comm
 refine⟨anw I.lm,anw I.lr,anw I.ld,?_,λx hx=>anw (I.lk x hx),⟨I.sit.1,by have:=I.sit.2;show st.bg<=_;omega⟩,λm hm=>(I.mok m hm).mono (by omega),λk hk=>I.num k (perm.mem_iff.mp hk),perm.nodup_iff.mpr I.nd,.nil,?_,I.kk,I.ff,I.dw⟩
 ·show (st.aV++[(n,u,st.aH)]).length<=_;rw[ki,anc];have:=I.la;omega
 ·intro x hx;rcases List.mem_append.mp hx with hx | hx
  ·exact I.asd x hx
  ·rw[ra]at hx;subst hx;exact⟨I.pil,⟨r,e⟩,h0,h1⟩
def Ch.carry (st:Ch):Mn->Ch
 | .chg e=>match st.aH with
  |n::_=>(match st.mo n with
   | .mat tx=>st.Sb n tx e
   |_=>st)
  |[]=>st
 | .mnd f=>match st.aH.getLast? with
  |some n=>(match st.mo n with
   | .chg e=>st.Sd n e (b9 (R.bO e.th) f)
   |_=>st)
  |none=>st
 | .off u=>match st.aH with
  |n::_=>st.um n u
  |[]=>st
 | .cls=>{ st with closed:=true }
 | .lay=>match st.aH with
  |n::_=>st.um n st.bg
  |[]=>st
 | .rst=>{ st with bg:=st.bg+1 }
 |_=>st
theorem AQ (xs:List Str)(e:Ed):(b9 xs e).length<=xs.length+1:=by
 unfold b9;split
 ·rw[ki,tm,anC,an6];omega
 ·exact anw (List.length_eraseIdx_le _ _)
 ·rw[aoy];omega
theorem F7 {xs:List Str}{e:Ed}{x:Str}(h:x∈b9 xs e):x∈xs\/x=e.th:=by
 unfold b9 at h;split at h
 ·rcases List.mem_append.mp h with h | h
  ·exact .inl (aon h)
  ·rcases List.mem_cons.mp h with h | h
   ·exact .inr h
   ·exact .inl (aoC h)
 ·exact .inl (List.mem_of_mem_eraseIdx h)
 ·exact List.mem_or_eq_of_mem_set h
theorem U6 {α β:Type}{f:α->β}{xs:List α}{y:β}(h:xs.map f=[y]):∃a,xs=[a]/\f a=y:=by
 cases xs with
 |nil=>cases h
 |cons a r =>
  cases r with
  |nil=>exact⟨a,rfl,by simpa using h⟩
  |cons b r=>simp at h
theorem Zj {α β:Type}{f:α->β}{xs:List α}{y z:β}(h:xs.map f=[y,z]):∃a b,xs=[a,b]/\f a=y/\f b=z:=by
 cases xs with
 |nil=>cases h
 |cons a r =>
  rw[ku]at h;obtain⟨b,rfl,e⟩:=U6 (List.cons.inj h).2;exact⟨a,b,rfl,(List.cons.inj h).1,e⟩
theorem Pw {α β:Type}{f:α->β}{xs:List α}{y:β}{r:List β}(h:xs.map f=y::r):∃a s,xs=a::s/\f a=y:=by
 cases xs with
 |nil=>cases h
 |cons a s=>exact⟨a,s,rfl,(List.cons.inj h).1⟩
theorem EdB.ok {N:Nat}{e:Ed}(h:EdB N e)(hN:N<=4000):y6 e:=by
 obtain⟨a,b,c,ws,d,f,g⟩:=h;refine⟨a,b,c,?_,?_⟩
 ·rw[d];exact ou (λx hx=>by
   rw[show (R.bl1:Str).cps.toList=[32] by trivial,ra]at hx
   omega) ws λw hw=>λx hx=>by have:=(f w hw).sgn x hx;unfold R.Sign at this;omega
 ·rw[d,R.lb];have h1:=qQ 32 ws;have h2:=R.Jb f;omega
theorem EdB.str {N:Nat}{e:Ed}(h:EdB N e):am8 e.th=true:=by
 obtain⟨a,b,c,ws,d,f,g⟩:=h;rw[d];exact(ou (λx hx=>by
  rw[show (R.bl1:Str).cps.toList=[32] by trivial,ra]at hx
  omega) ws λw hw=>λx hx=>by have:=(f w hw).sgn x hx;unfold R.Sign at this;omega).ok
theorem EdB.words {N:Nat}{e:Ed}(h:EdB N e):(∀w∈R.bO e.th,R.oz w)/\(R.bO e.th).length<=N:=by
 obtain⟨a,b,c,ws,d,f,g⟩:=h;rw[d,R.ng f];exact⟨f,g⟩
theorem Et {ws:List Str}{f:Ed}(h:∀w∈ws,R.oz w)(hf:R.oz f.th):∀w∈b9 ws f,R.oz w:=λw hw=>by
 rcases F7 hw with h1 | h1
 ·exact h w h1
 ·rw[h1];exact hf
theorem Px (n:Nat)(e:Ed)(xs:List (Nat×List Ed)):(Hz n e xs).map (·.1)=xs.map (·.1):=by
 unfold Hz;rw[List.map_map];refine aoI λx _=>?_
 show (if x.1=n then (x.1,x.2++[e]) else x).1=x.1
 split <;> rfl
theorem Sf {n N:Nat}{e:Ed}{xs:List (Nat×List Ed)}(h:∀x∈xs,x.2.length<=N):∀x∈Hz n e xs,x.2.length<=N+1:=by
 intro x hx;obtain⟨y,hy,rfl⟩:=List.mem_map.mp hx;have:=h y hy;split
 ·show (y.2++[e]).length<=_;rw[ki,anc];omega
 ·omega
theorem Inv.carry {N:Nat}{st:Ch}(I:Inv N st)(hN:N<=900){m:Mn}(ht:Er (st.aH.map st.mo) m)(hm:MOk N m):Inv (N+1) (st.carry m):=by
 have J:=I.mono (an3 N);cases m with
 |mat tx=>exact J
 |pnt z=>exact J
 |chg e =>
  obtain⟨tx,h1,hf⟩:=ht;obtain⟨k,e1,e2⟩:=U6 h1;have hn:k∈st.aH:=by rw[e1];exact kb
  have htx:=I.Jj (I.eu k hn);rw[e2]at htx;have e3:st.carry (.chg e)=st.Sb k tx e:=by unfold Ch.carry;rw[e1];dsimp only;rw[e2]
  rw[e3];refine I.WB hn (by rw[e2];rfl) ?_ (Px k e st.kept) (Sf I.lk) ?_
  ·have:=AQ tx e;have h3:tx.length<=12+N:=htx.1;refine⟨by omega,λx hx=>?_⟩
   rcases F7 hx with h | h
   ·exact htx.2 x h
   ·rw[h];exact EdB.str hm
  ·rw[e1,ku,aom,HA (I.eu k hn) rfl];exact PMs.snoc (ms:=[]) .nil rfl
 |mnd f =>
  obtain⟨tx,e,h1,hk,hf⟩:=ht;obtain⟨a,b,e1,e2,e3⟩:=Zj h1;have ha:a∈st.aH:=by rw[e1];exact kb
  have hb:b∈st.aH:=by rw[e1];exact kq _ kb
  have he:=I.Jj (I.eu b hb);rw[e3]at he;have he':EdB (12+N) e:=he;obtain⟨w1,w2⟩:=he'.words;have e4:st.carry (.mnd f)=st.Sd b e (b9 (R.bO e.th) f):=by unfold Ch.carry;rw[e1];show (match st.mo b with | .chg e=>_ | _=>st)=_;rw[e3];rfl
  rw[e4];obtain⟨_,w,hw,hw2⟩:=hm;refine I.WB (kp:=st.kept) hb (by rw[e3];rfl) ?_ rfl (λx hx=>anw (I.lk x hx)) ?_
  ·refine⟨he'.1,he'.2.1,he'.2.2.1,_,rfl,Et w1 (by rw[hw];exact hw2),?_⟩
   have:=AQ (R.bO e.th) f;omega
  ·have ne:a≠b:=λz=>by rw[z,e3]at e2;cases e2
   have hp:=I.pil;rw[h1]at hp;obtain⟨tx',e5,e6⟩:=(PMs.pop (ms:=[.mat tx]) hp).2;cases e5;rw[e1,ku,ku,aom,HA (I.eu b hb) rfl,rJ (I.eu b hb) (I.eu a ha).1 ne rfl,e2];exact PMs.snoc (ms:=[.mat tx]) (PMs.snoc (ms:=[]) .nil rfl) ⟨tx,rfl,e6⟩
 |off u =>
  obtain⟨⟨tx,r,h1⟩,_⟩:=ht;obtain⟨k,s,e1,_⟩:=Pw h1;have e3:st.carry (.off u)=st.um k u:=by unfold Ch.carry;rw[e1]
  rw[e3];exact I.um e1 hm.1 hm.2
 |lay =>
  obtain⟨⟨tx,r,h1⟩,_⟩:=ht;obtain⟨k,s,e1,_⟩:=Pw h1;have e3:st.carry .lay=st.um k st.bg:=by unfold Ch.carry;rw[e1]
  rw[e3];have:=I.sit;exact I.um e1 (by omega) (by omega)
 |cls=>exact⟨J.lm,J.lr,J.ld,J.la,J.lk,J.sit,J.mok,J.num,J.nd,J.pil,J.asd,J.kk,J.ff,J.dw⟩
 |rst=>exact⟨J.lm,J.lr,J.ld,J.la,J.lk,⟨by have:=I.sit.1;show 1<=st.bg+1;omega,by have:=I.sit.2;show st.bg+1<=_;omega⟩,J.mok,J.num,J.nd,J.pil,J.asd,J.kk,J.ff,J.dw⟩
inductive Rs where
 |num (n:Nat) | txt (z:Str) | exc (x:Xc)
abbrev OA:Str:=ar "kept"
abbrev WC:Str:=ar "lost"
abbrev zk:Str:=ar "dropped"
def vG (b:Bool):Str:=if b=true then OA else WC
theorem HC (b:Bool):am8 (vG b)=true:=by
 unfold vG;split <;> trivial
def oK (st:Ch)(a b:Int):Rs×Ch:=match st.aH.getLast? with
 |none=>(.exc .nothing,st)
 |some n=>if a+b > st.cJ then (.exc .tooMany,st) else
  (.txt (vG (vw (nd (st.mo n).k) a b)),(if vw (nd (st.mo n).k) a b=true then (st.popped st.aH.dropLast n (vG (vw (nd (st.mo n).k) a b))).carry (st.mo n) else st.popped st.aH.dropLast n (vG (vw (nd (st.mo n).k) a b))).Jh (R.gi (.nums (ar "vote") [a,b])))
def rK (st:Ch):Rs×Ch:=match st.aH.getLast? with
 |none=>(.exc .nothing,st)
 |some n=>(.txt zk,(st.popped st.aH.dropLast n zk).Jh (R.gi (.nums (ar "drop") [])))
def stepT (st:Ch)(n:Nat):Rs×Ch:=if st.aH=[] then (match at1 n st.aV with
 |none=>(.exc .Hw,st)
 |some x=>if st.bg < x.2.1 then (.exc (.Mm x.2.1),st) else (.num n,{ st.zg n x.2.2 with rows:=st.rows++[R.gi (.nums (ar "take") [(n:Int)])] })) else (.exc (.Em (uk st.closed (st.aH.map st.mo))),st)
def xV (st:Ch):Mn->Option Xc
 | .chg e=>match st.aH.map st.mo with
  | .mat tx::_=>if gs tx.length e=true then none else some .noFit
  |_=>none
 | .mnd f=>match (st.aH.map st.mo).getLast? with
  |some (.chg e)=>if gs (R.bO e.th).length f=true then none else some .noFit
  |_=>none
 | .off u=>if u<=st.bg then some (.zb st.bg) else none
 |_=>none
def BS (st:Ch)(m:Mn):Option Xc:=match E6 st.closed (st.aH.map st.mo) m.k with
 |some x=>some x
 |none=>xV st m
def Ch.moved (st:Ch)(m:Mn)(row:Str):Ch:={ st with made:=st.made++[m],aH:=st.aH++[st.made.length+1],firsts:=(match m with | .mat tx=>st.firsts++[(st.made.length+1,tx)] | _=>st.firsts),kept:=(match m with | .mat _=>st.kept++[(st.made.length+1,([]:List Ed))] | _=>st.kept),rows:=st.rows++[row] }
def oM (st:Ch)(m:Mn)(row:Str):Rs×Ch:=match BS st m with
 |some x=>(.exc x,st)
 |none=>(.num (st.made.length+1),st.moved m row)
theorem Inv.moved {N:Nat}{st:Ch}(I:Inv N st){m:Mn}(hm:MOk N m)(hc:BS st m=none)(row:Str):Inv (N+3) (st.moved m row):=by
 have J:=I.mono (show N<=N+3 by omega)
 have ho:E6 st.closed (st.aH.map st.mo) m.k=none/\xV st m=none:=by
  unfold BS at hc;split at hc
  ·cases hc
  ·exact⟨by assumption,hc⟩
 have hf:adP (st.aH.map st.mo) m:=by
  have h:=ho.2;cases m with
  |chg e =>
   intro tx r e1;unfold xV at h;dsimp only at h;rw[e1]at h;dsimp only at h;split at h
   ·assumption
   ·cases h
  |mnd f =>
   intro r e e1;unfold xV at h;dsimp only at h;rw[e1,aoo]at h;dsimp only at h;split at h
   ·assumption
   ·cases h
  |_=>trivial
 have em:(st.moved m row).made=st.made++[m]:=rfl;have old:∀ks:List Nat,(∀k∈ks,fq st k)->ks.map (st.moved m row).mo=ks.map st.mo:=λks h=>aoI λk hk=>HB em (h k hk)
 have nok:∀k,fq st k->fq (st.moved m row) k:=λk h=>⟨h.1,by show k<=(st.made++[m]).length;rw[ki];have:=h.2;omega⟩
 have perm:List.Perm (st.moved m row).all ((st.made.length+1)::st.all):=by
  unfold Ch.all Ch.moved;rw[aog];exact List.perm_middle
 have mt:(st.moved m row).w4=st.w4++(if m.k=0 then [st.made.length+1] else []):=by
  unfold Ch.w4;rw[em,ki,anc,List.range'_concat,List.filter_append,Nat.one_mul,Nat.add_comm 1]
  congr 1
  ·refine List.filter_congr λk hk=>?_
   rw[aoB]at hk;rw[HB em ⟨hk.1,by omega⟩]
  ·rw[List.filter_cons,Mt em]
   by_cases z:m.k=0
   ·rw[if_pos (decide_eq_true z),if_pos z];rfl
   ·rw[if_neg (by rw[decide_eq_false z];decide),if_neg z];rfl
 refine⟨?_,?_,J.ld,J.la,?_,J.sit,?_,?_,?_,?_,?_,?_,?_,J.dw⟩
 ·show 3 * (st.made++[m]).length<=_;rw[ki,anc];have:=I.lm;omega
 ·show (st.rows++[row]).length<=_;rw[ki,anc];have:=I.lr;omega
 ·intro x hx;have hx':x∈(match m with | .mat _=>st.kept++[(st.made.length+1,([]:List Ed))] | _=>st.kept):=hx
  cases m with
  |mat tx =>
   rcases List.mem_append.mp hx' with h | h
   ·exact J.lk x h
   ·rw[ra]at h;rw[h];exact anz _
  |_=>exact J.lk x hx'
 ·intro x hx;rcases List.mem_append.mp (show x∈st.made++[m] from hx) with h | h
  ·exact J.mok x h
  ·rw[ra]at h;rw[h];exact hm.mono (by omega)
 ·intro k hk;rcases List.mem_cons.mp (perm.mem_iff.mp hk) with h | h
  ·rw[h];exact⟨by omega,by show _<=(st.made++[m]).length;rw[ki,anc];omega⟩
  ·exact nok k (I.num k h)
 ·rw[perm.nodup_iff,List.nodup_cons];exact⟨λz=>by have:=(I.num _ z).2;omega,I.nd⟩
 ·show PMs ((st.aH++[st.made.length+1]).map (st.moved m row).mo);rw[ky,old st.aH I.eu,ku,aom,Mt em];exact I.pil.push ho.1 hf
 ·intro x hx;obtain⟨h1,h2⟩:=I.asd x hx;exact⟨by rw[old _ (I.zj hx)];exact h1,h2⟩
 ·rw[mt,<-I.kk];cases m with
  |mat tx=>show (st.kept++[(st.made.length+1,([]:List Ed))]).map (·.1)=_;rw[ky,if_pos (show (Mn.mat tx).k=0 from rfl)];rfl
  |_=>exact(anO _).symm
 ·rw[mt,<-I.ff];cases m with
  |mat tx=>show (st.firsts++[(st.made.length+1,tx)]).map (·.1)=_;rw[ky,if_pos (show (Mn.mat tx).k=0 from rfl)];rfl
  |_=>exact(anO _).symm
theorem F8 {n:Nat}{x:Nat×Int×List Nat}:∀ {as:List (Nat×Int×List Nat)},(as.flatMap (·.2.2)).Nodup->(∀y∈as,∃r,y.2.2=y.1::r)->at1 n as=some x->List.Perm (x.2.2++(as.filter λy=>decide (y.1≠n)).flatMap (·.2.2)) (as.flatMap (·.2.2))
 |[],_,_,h=>nomatch h
 |y::as,nd,hd,h=>by
  rw[List.flatMap_cons]at nd ⊢;obtain⟨n1,n2,n3⟩:=List.nodup_append.mp nd;unfold at1 at h;rw[aor]at h
  by_cases e:y.1=n
  ·rw[decide_eq_true e]at h;cases h;have:as.filter (λz=>decide (z.1≠n))=as:=by
    rw[List.filter_eq_self];intro z hz;refine decide_eq_true λq=>?_
    obtain⟨r,hr⟩:=hd z (kq _ hz);obtain⟨r',hr'⟩:=hd x kb;exact n3 n (by rw[hr',e];exact kb) n (List.mem_flatMap.mpr ⟨z,hz,by rw[hr,q];exact kb⟩) rfl
   rw[List.filter_cons_of_neg (by simp[e]),this]
  ·rw[decide_eq_false e]at h;have ih:=F8 n2 (λz hz=>hd z (kq _ hz)) h
   rw[List.filter_cons_of_pos (by simp[e]),List.flatMap_cons,<-aog]
   exact(List.Perm.append_right _ List.perm_append_comm).trans (by rw[aog];exact List.Perm.append_left _ ih)
theorem Inv.zg {N:Nat}{st:Ch}(I:Inv N st){n:Nat}{x:Nat×Int×List Nat}(hp:st.aH=[])(hx:at1 n st.aV=some x)(row:Str):Inv (N+1) { st.zg n x.2.2 with rows:=st.rows++[row] }:=by
 have J:=I.mono (an3 N);have hm:=(nr hx).2;have nd:=I.nd;unfold Ch.all at nd;rw[hp,List.nil_append]at nd;have pm:=F8 (List.nodup_append.mp nd).1 (λy hy=>(I.asd y hy).2.1) hx
 have perm:List.Perm (Ch.all { st.zg n x.2.2 with rows:=st.rows++[row] }) st.all:=by
  unfold Ch.all Ch.zg;rw[hp,List.nil_append,<-aog];exact List.Perm.append_right _ pm
 refine⟨J.lm,?_,J.ld,?_,J.lk,J.sit,J.mok,λk hk=>I.num k (perm.mem_iff.mp hk),perm.nodup_iff.mpr I.nd,(I.asd x hm).1,λy hy=>I.asd y (List.mem_filter.mp hy).1,I.kk,I.ff,I.dw⟩
 ·show (st.rows++[row]).length<=_;rw[ki,anc];have:=I.lr;omega
 ·exact si (aov _ _) J.la
theorem Inv.oK {N:Nat}{st:Ch}(I:Inv N st)(hN:N<=800)(a b:Int):Inv (N+3) (oK st a b).2:=by
 unfold My.oK;split
 ·exact I.mono (by omega)
 ·rename_i n h;obtain⟨pre,e⟩:=rH h;split
  ·exact I.mono (by omega)
  ·have ed:st.aH.dropLast=pre:=by rw[e];exact aoD
   obtain⟨I1,ht⟩:=I.pop e (vG (vw (My.nd (st.mo n).k) a b)) (HC _);rw[ed];have hn:n∈st.aH:=by rw[e];simp
   split
   ·exact(I1.carry (by omega) ht ((I.Jj (I.eu n hn)).mono (by omega))).Jh _
   ·exact(I1.Jh _).mono (by omega)
theorem Inv.rK {N:Nat}{st:Ch}(I:Inv N st):Inv (N+3) (rK st).2:=by
 unfold My.rK;split
 ·exact I.mono (by omega)
 ·rename_i n h;obtain⟨pre,e⟩:=rH h;have ed:st.aH.dropLast=pre:=by rw[e];exact aoD
  rw[ed];exact((I.pop e zk (by trivial)).1.Jh _).mono (by omega)
theorem Inv.stepT {N:Nat}{st:Ch}(I:Inv N st)(n:Nat):Inv (N+3) (stepT st n).2:=by
 unfold My.stepT;split
 ·split
  ·exact I.mono (by omega)
  ·split
   ·exact I.mono (by omega)
   ·exact(I.zg (by assumption) (by assumption) _).mono (by omega)
 ·exact I.mono (by omega)
theorem Inv.oM {N:Nat}{st:Ch}(I:Inv N st){m:Mn}(hm:MOk N m)(row:Str):Inv (N+3) (oM st m row).2:=by
 unfold My.oM;split
 ·exact I.mono (by omega)
 ·exact I.moved hm (by assumption) row
theorem Eu:∀(L:Nat) (l:List Nat),l.Nodup->(∀n∈l,1<=n/\n<=L)->l.length<=L
 | 0,l,_,h=>by
  cases l with
  |nil=>exact kj 0
  |cons x r=>have:=h x kb;omega
 |L+1,l,nd,h=>by
  by_cases m:L+1∈l
  ·have ih:=Eu L (l.erase (L+1)) (nd.erase _) (λn hn=>by
    obtain⟨h1,h2⟩:=nd.mem_erase_iff.mp hn;have:=h n h2;omega)
   rw[List.length_erase_of_mem m]at ih;omega
  ·have ih:=Eu L l nd (λn hn=>by
    have:=h n hn;have:n≠L+1:=λz=>m (by rw[<-z];exact hn)
    omega)
   omega
theorem Jk:∀ {as:List (Nat×Int×List Nat)},(∀y∈as,∃r,y.2.2=y.1::r)->List.Sublist (as.map (·.1)) (as.flatMap (·.2.2))
 |[],_=>.slnil
 |y::as,h=>by
  obtain⟨r,hr⟩:=h y kb;rw[ku,List.flatMap_cons,hr,List.cons_append];exact .cons₂ _ ((Jk λz hz=>h z (kq _ hz)).trans (List.sublist_append_right _ _))
theorem Inv.Zk {N:Nat}{st:Ch}(I:Inv N st):(st.aV.map (·.1)).Nodup:=by
 have nd:=I.nd;unfold Ch.all at nd;exact(Jk λy hy=>(I.asd y hy).2.1).nodup (List.nodup_append.mp (List.nodup_append.mp nd).2.1).1
theorem Inv.Sg {N:Nat}{st:Ch}(I:Inv N st):st.aV.length<=st.made.length:=by
 have h:=Eu st.made.length (st.aV.map (·.1)) I.Zk (λn hn=>by
  obtain⟨x,hx,e⟩:=List.mem_map.mp hn;obtain⟨r,hr⟩:=(I.asd x hx).2.1;exact I.zj hx n (by rw[hr,e];exact kb))
 rw[bo]at h;exact h
def Jl (A:Adr)(i:Nat)(c:Col)(H:Hp)(o:Addr):Rs×Ch->VK->XK->Prop
 | (.num n,st),Q,_=>∀c' H',Step (fm i) c c' H H'->dh A i c' H' o st->Q (nV n) H'
 | (.txt z,st),Q,_=>∀c' H',Step (fm i) c c' H H'->dh A i c' H' o st->Q (.str z) H'
 | (.exc x,st),_,E=>∀c' H' C d,Step (fm i) c c' H H'->dh A i c' H' o st->x.At A H' C d->(∀a,d=some a->c' a=none)->E C d H'
def OB:List Str:=[ar "seats",ar "sitting",ar "closed",ar "made",ar "pile",ar "aside",ar "decided",ar "first_texts",ar "edits_kept",ar "rows"]
theorem bX {m:Str}{v0 v1 v2 v3 v4 v5 v6 v7 v8 v9:V}(h:m∉OB):(chF v0 v1 v2 v3 v4 v5 v6 v7 v8 v9).lookup m=none:=by
 unfold OB at h;simp only[aob,anP,or_false,not_or]at h;obtain⟨h0,h1,h2,h3,h4,h5,h6,h7,h8,h9⟩:=h;unfold chF;simp only[anR,beq_eq_false_iff_ne.mpr h0,beq_eq_false_iff_ne.mpr h1,beq_eq_false_iff_ne.mpr h2,beq_eq_false_iff_ne.mpr h3,beq_eq_false_iff_ne.mpr h4,beq_eq_false_iff_ne.mpr h5,beq_eq_false_iff_ne.mpr h6,beq_eq_false_iff_ne.mpr h7,beq_eq_false_iff_ne.mpr h8,beq_eq_false_iff_ne.mpr h9]
def U7 (A:Adr)(i:Nat):Sp:=λvs H Q _=>∃(o mo:Addr) (c:Col) (st:Ch) (m:Mn) (N:Nat),vs=[.ref o,.ref mo]/\dh A i c H o st/\oG A c H m mo/\Inv N st/\N<=900/\Er (st.aH.map st.mo) m/\MOk N m /\
 ∀c' H',Step (fm i) c c' H H'->dh A i c' H' o (st.carry m)->Q .non H'
def Zl (A:Adr)(i:Nat):Sp:=λvs H Q E=>∃(o:Addr) (a b:Int) (c:Col) (st:Ch) (N:Nat),vs=[.ref o,.int a,.int b]/\dh A i c H o st/\Inv N st/\N<=800/\(0<=a/\a < 10 ^ 10)/\(0<=b/\b < 10 ^ 10)/\Jl A i c H o (oK st a b) Q E
def Zm (A:Adr)(i:Nat):Sp:=λvs H Q E=>∃(o:Addr) (c:Col) (st:Ch) (N:Nat),vs=[.ref o]/\dh A i c H o st/\Inv N st/\N<=800/\Jl A i c H o (rK st) Q E
def Zn (A:Adr)(i:Nat):Sp:=λvs H Q E=>∃(o:Addr) (z:Int) (c:Col) (st:Ch) (N:Nat),vs=[.ref o,.int z]/\dh A i c H o st/\Inv N st/\N<=800/\-1<=z/\z < 10 ^ 10/\Jl A i c H o (stepT st z.toNat) Q E
theorem F9:∀ {ks:List Nat} {vs:List V},lU (bp (ks.zip vs)) (ma (-1))=none
 |[],_=>rfl
 |_::_,[]=>rfl
 |k::ks,v::vs=>by
  rw[dG,jP (λz=>by have:=Sum.inl.inj z;omega)]
  exact F9
theorem Inv.no0 {N:Nat}{st:Ch}(I:Inv N st):at1 0 st.aV=none:=by
 cases e:at1 0 st.aV with
 |none=>rfl
 |some x =>
  obtain⟨h1,h2⟩:=nr e;obtain⟨r,hr⟩:=(I.asd x h2).2.1;have:=(I.zj h2 x.1 (by rw[hr];exact kb)).1
  omega
theorem HD {i:Nat}{c:Col}{H:Hp}{t:Addr}{xs:List V}:AM i (aN c t none) (upd H t (.tup xs)) t xs:=⟨by rw[bt];exact aX,ae⟩
theorem vH {A:Adr}{c:Col}{H H':Hp}{f:Nat->Mn}(s:a9 H H'):∀ {ns:List Nat} {os:List Addr},bI (λn m=>oG A c H (f n) m) ns os->bI (λm p=>oG A c H' m p) (ns.map f) os
 |_,_,.nil=>.nil
 |_,_,.cons h t=>.cons (h.same s) (vH s t)
theorem Ew {kd:Str}{ns:List Int}(h:(kd,ns.length)∈R.ee)(hn:∀i∈ns,0<=i/\i < 10 ^ 10):R.DOk (.nums kd ns):=⟨h,hn⟩
section
variable{P:rf}{w:World}{K:ba}{mg:Str->Option Value}{base:Heap}{A:Adr}
theorem HE (T:Txt w.params K mg A){i:Nat}:aT P w K mg base CX0 5 A.bM A.ib ["self","motion"] (U7 A i):=by
 have ir:∀k,k < 8->aT P w K mg base CX0 1 (A.fk k) (A.fkd k) ["self"] (gS k):=nc T;refine T.d7.ok lV (λvs H Q E h=>?_) (λcdv A' outer s H vs Q E hr h=>?_)
 ·obtain⟨o,mo,c,st,m,N,rfl,_⟩:=h;rfl
 ·obtain⟨o,mo,c,st,m,N,rfl,hc,hmo,I,hN,Mv,Si,q⟩:=h;obtain⟨dx,aM,aP,aA,aD,aF,aE,aR,ms,ds,ws,fs,es,X⟩:=hc.ex;refine⟨_,(ak (bh (i:=2) lV.nd rfl (anq rfl) (nz (n:=8) (Cf:=A.C) (pv 1) T.cl T.qu ir (hr.mono (by decide)) T.qv aW))
 (aj (bJ (aJ bF (pv 2) aq (aK _))
 (aj (bR (f7 (pv 0) T.ah T.jG (AN (i:=i) T) hr T.dY .nil aW (aa (bf (pv 1) rfl) ag))))
 (aj (bJ (aJ bF (pv 2) aq (aK _))
 (aj (bR (f7 (pv 0) T.ah T.jH (AO (i:=i) T) hr T.dZ .nil aW (aa (bf (pv 1) rfl) ag))))
 (aj (bJ (aJ bF (pv 2) aq (aK _))
 (aj (bR (f7 (pv 0) T.ah T.iW (zh (i:=i) T) (hr.mono (by decide)) T.d9 .nil aW (aa (bf (pv 1) rfl) ag))))
 (aj (bJ (aJ bF (pv 2) aq (aK _))
 (aj (fK (pv 0) iM rfl))
 (aj (bJ (aJ bF (pv 2) aq (aK _))
 (aj (bR (f7 (pv 0) T.ah T.iW (zh (i:=i) T) (hr.mono (by decide)) T.d9 .nil aW (aa (bf (pv 0) rfl) ag))))
 (aj (bJ (aJ bF (pv 2) aq (aK _))
 (aj (fK (pv 0) (bY fJ (bf (pv 0) rfl) ai) rfl))
 aI))))))))))))),?_⟩
  try dsimp only[bE]
  refine aS λGq gq=>?_
  obtain⟨hcn,dm,v,hm,hv⟩:=hmo;refine gq ?_;refine⟨_,rfl,m.k,m.k8,mo,dm,_,rfl,hm,m9 m.k v,mo,rfl,?_⟩;have lM:=I.lm;cases m with
  |mat tx=>exact⟨_,rfl,rfl,tsf (gU 0 (by decide)) ⟨_,rfl,rfl,tsf (jn 0 (by decide)) ⟨_,rfl,rfl,tsf (mO 0 (by decide)) ⟨_,rfl,rfl,tsf (Ep 0 (by decide)) ⟨_,rfl,rfl,tsf (Hy 0 (by decide)) ⟨_,rfl,rfl,tsf (Mq 0 (by decide)) (q c H (Step.refl aX) hc)⟩⟩⟩⟩⟩⟩
  |pnt z=>exact⟨_,rfl,rfl,tsf (gU 7 (by decide)) ⟨_,rfl,rfl,tsf (jn 7 (by decide)) ⟨_,rfl,rfl,tsf (mO 7 (by decide)) ⟨_,rfl,rfl,tsf (Ep 7 (by decide)) ⟨_,rfl,rfl,tsf (Hy 7 (by decide)) ⟨_,rfl,rfl,tsf (Mq 7 (by decide)) (q c H (Step.refl aX) hc)⟩⟩⟩⟩⟩⟩
  |chg e =>
   refine⟨_,rfl,rfl,tst (gU 1 (by decide)) ?_⟩
   refine aS λGq gq=>?_
   obtain⟨tx,h1,hf⟩:=Mv;obtain⟨k,e1,e2⟩:=U6 h1;have hn:k∈st.aH:=by rw[e1];exact kb
   have hno:=I.eu k hn;have htx:=I.Jj hno;rw[e2]at htx;have am4:tx.length<=12+N:=htx.1;obtain⟨x,hx,hxl⟩:=I.keptAt hno (by rw[e2];rfl)
   have e3:st.carry (.chg e)=st.Sb k tx e:=by unfold Ch.carry;rw[e1];dsimp only;rw[e2]
   rw[e3]at q;have adQ:EdB (12+N) e:=Si;obtain⟨t,rfl,ht⟩:=hv;refine gq ?_;refine mtv rfl X.ob (bX (by trivial)) ⟨_,rfl,mo,A.C 1,dm,_,.ref t,rfl,hm,T.cl 1 (by decide),T.na1,rfl,?_⟩
   exact⟨o,t,c,st,k,[],tx,e,x,rfl,hc,e1,hno,e2,by omega,by omega,ht,adQ.ok (by omega),hf,hx,by omega,by rw[I.kk];exact Mu st,q⟩
  |mnd f =>
   refine⟨_,rfl,rfl,tsf (gU 2 (by decide)) ⟨_,rfl,rfl,tst (jn 2 (by decide)) ?_⟩⟩
   refine aS λGq gq=>?_
   obtain⟨tx,e,h1,hk,hf⟩:=Mv;obtain⟨a,b,e1,e2,e3⟩:=Zj h1;have hb:b∈st.aH:=by rw[e1];exact kq _ kb
   have hno:=I.eu b hb;have he:=I.Jj hno;rw[e3]at he;have he':EdB (12+N) e:=he;obtain⟨w1,w2⟩:=he'.words;have e4:st.carry (.mnd f)=st.Sd b e (b9 (R.bO e.th) f):=by unfold Ch.carry;rw[e1];show (match st.mo b with | .chg e=>_ | _=>st)=_;rw[e3];rfl
   rw[e4]at q;obtain⟨hf1,w0,hw0,hw1⟩:=Si;have l1:=AQ (R.bO e.th) f;have l2:=R.Jb (Et w1 (by rw[hw0];exact hw1):∀w∈b9 (R.bO e.th) f,R.oz w)
   obtain⟨t,rfl,ht⟩:=hv;refine gq ?_;refine mtv rfl X.ob (bX (by trivial)) ⟨_,rfl,mo,A.C 2,dm,_,.ref t,rfl,hm,T.cl 2 (by decide),T.na2,rfl,?_⟩
   exact⟨o,t,c,st,b,[a],e,f,rfl,hc,e1,hno,e3,hk,he'.ok (by omega),by omega,by omega,ht,hf1.ok (by omega),hf,by omega,q⟩
  |off u =>
   refine⟨_,rfl,rfl,tsf (gU 3 (by decide)) ⟨_,rfl,rfl,tsf (jn 3 (by decide)) ⟨_,rfl,rfl,tst (mO 3 (by decide)) ?_⟩⟩⟩
   refine aS λGq gq=>?_
   obtain⟨⟨tx,r,h1⟩,_⟩:=Mv;obtain⟨k,r',e1,_⟩:=Pw h1;have e3:st.carry (.off u)=st.um k u:=by unfold Ch.carry;rw[e1]
   rw[e3]at q;have hv':v=.int u:=hv;subst hv';have:=I.la;refine gq ?_;refine mtv rfl X.ob (bX (by trivial)) ⟨_,rfl,mo,A.C 3,dm,_,.int u,rfl,hm,T.cl 3 (by decide),T.na3,rfl,?_⟩
   exact⟨o,u,c,st,k,r',rfl,hc,e1,I.Se (by rw[e1];exact kb),by omega,q⟩
  |cls =>
   refine⟨_,rfl,rfl,tsf (gU 4 (by decide)) ⟨_,rfl,rfl,tsf (jn 4 (by decide)) ⟨_,rfl,rfl,tsf (mO 4 (by decide)) ⟨_,rfl,rfl,tst (Ep 4 (by decide)) ?_⟩⟩⟩⟩
   refine⟨_,rfl,o,A.ao,dx,_,rfl,X.ob,T.ah,T.jq3,(by show 10 < 1000;decide),?_⟩
   rw[Ek];obtain⟨s1,X1⟩:=X.attr st.bg true;exact q c _ s1.vz X1.at
  |lay =>
   refine⟨_,rfl,rfl,tsf (gU 5 (by decide)) ⟨_,rfl,rfl,tsf (jn 5 (by decide)) ⟨_,rfl,rfl,tsf (mO 5 (by decide)) ⟨_,rfl,rfl,tsf (Ep 5 (by decide)) ⟨_,rfl,rfl,tst (Hy 5 (by decide)) ?_⟩⟩⟩⟩⟩
   refine aS λGq gq=>?_
   obtain⟨⟨tx,r,h1⟩,_⟩:=Mv;obtain⟨k,r',e1,_⟩:=Pw h1;have e3:st.carry .lay=st.um k st.bg:=by unfold Ch.carry;rw[e1]
   rw[e3]at q;have:=I.la;refine gq ?_;refine mtv rfl X.ob (bX (by trivial)) (fw rfl X.ob T.ah T.jq1 jI ?_)
   exact⟨o,st.bg,c,st,k,r',rfl,hc,e1,I.Se (by rw[e1];exact kb),by omega,q⟩
  |rst =>
   refine⟨_,rfl,rfl,tsf (gU 6 (by decide)) ⟨_,rfl,rfl,tsf (jn 6 (by decide)) ⟨_,rfl,rfl,tsf (mO 6 (by decide)) ⟨_,rfl,rfl,tsf (Ep 6 (by decide)) ⟨_,rfl,rfl,tsf (Hy 6 (by decide)) ⟨_,rfl,rfl,tst (Mq 6 (by decide)) ?_⟩⟩⟩⟩⟩⟩
   refine fw rfl X.ob T.ah T.jq1 jI ⟨_,_,rfl,rfl,_,rfl,o,A.ao,dx,_,rfl,X.ob,T.ah,T.jq1,(by show 10 < 1000;decide),?_⟩
   rw[Jc];obtain⟨s1,X1⟩:=X.attr (st.bg+1) st.closed;exact q c _ s1.vz X1.at
theorem U8 (T:Txt w.params K mg A){i:Nat}:aT P w K mg base (CXX P w) 6 A.cQ A.mF ["self","ayes","noes"] (Zl A i):=by
 have Zo:∀k,k < 8->aT P w K mg base CX0 1 (A.fn k) (A.fnd k) ["self"] (Hl k):=UW T;refine T.ij.okX my (λvs H Q E h=>?_) (λcdv A' outer s H vs Q E hr h=>?_)
 ·obtain⟨o,a,b,c,st,N,rfl,_⟩:=h;rfl
 ·obtain⟨o,a,b,c,st,N,rfl,hc,I,hN,ha,hb,q⟩:=h;obtain⟨dx,aM,aP,aA,aD,aF,aE,aR,ms,ds,ws,fs,es,X⟩:=hc.ex;have hu1:=hr.u1;refine⟨_,(au (b8 (zZ (px (pv 0)) T.ah T.eU (oJ (i:=i) T) (hr.mono (by decide)) T.cw))
 (au (du (aJ QE (bY fJ (pv 1) (pv 2)) (bf (pv 0) rfl) (aK _))
 (aO (jt T.D9 rfl rfl T.FY (aa aq ag)))
 (mY aI))
 (au (psx (bh (i:=3) my.nd rfl (anq rfl) (lN hu1 (bf (pv 0) rfl) (aZ bz (bf (pv 0) rfl) (xg qm ai) (λ_ _=>rfl)) (λ_ _=>rfl))))
 (au (psx (bh (i:=4) my.nd rfl (anq rfl) (HZ (iP (bb (Ml T) (hr.mono (by decide)) rfl T.FR T.Ay.kp T.FQ .nil aW (aa (nz (n:=8) (Cf:=A.C) (pv 3) T.cl T.RP Zo (hr.mono (by decide)) T.RQ aW) (aa (pv 1) (aa (pv 2) ag))))) aq aq)))
 (au (psx (bR (f7 (pv 0) T.ah T.k9 (F2 (i:=i) T) (hr.mono (by decide)) T.fW .nil aW (aa (pv 4) ag))))
 (au (psx (bJ (aJ bF (pv 4) aq (aK _))
 (aj (bR (f7 (pv 0) T.ah T.mT (HE (i:=i) T) hr T.fH .nil aW (aa (pv 3) ag))))
 aI))
 (au (psx (bR (f7 (pv 0) T.ah T.gg (ua (i:=i) T) hr T.cX .nil aW (aa (cI (aa aq (aa (pv 1) (aa (pv 2) ag)))) ag))))
 (aO (psx (aG (pv 4))))))))))),?_⟩
  try dsimp only[bE]
  refine mtv rfl X.ob (bX (by trivial)) ⟨o,c,st,rfl,hc,λhne=>?_,λhe=>?_⟩
  case refine_2 =>
   unfold oK at q;rw[he]at q;exact q c H _ _ (Step.refl aX) hc ⟨rfl,rfl⟩ (λ_ z=>nomatch z)
  refine aS λGq gq=>?_
  obtain⟨pre,n,e⟩:∃pre n,st.aH=pre++[n]:=by
   rcases anY st.aH with e | ⟨pre,n,e⟩
   ·exact absurd e hne
   ·exact⟨pre,n,by rw[e,anZ]⟩
  have gl:st.aH.getLast?=some n:=by rw[e];exact aoo
  have ed:st.aH.dropLast=pre:=by rw[e];exact aoD
  unfold oK at q;rw[gl]at q;dsimp only at q;rw[ed]at q;refine gq ?_;refine⟨_,rfl,_,rfl,_,_,rfl,rfl,fw rfl X.ob T.ah T.jqs Pm ⟨_,_,rfl,rfl,_,rfl,iY (λz=>?_) (λz=>?_)⟩⟩
  ·have z':a+b > st.cJ:=of_decide_eq_true z;rw[if_pos z']at q;exact⟨by decide,q c H _ _ (Step.refl aX) hc ⟨rfl,rfl⟩ (λ_ z=>nomatch z)⟩
  refine aS λGq gq=>?_
  have z':¬a+b > st.cJ:=λy=>z (decide_eq_true y)
  rw[if_neg z']at q;have hn:n∈st.aH:=by rw[e];simp
  have hno:=I.eu n hn;obtain⟨mo,hv,hmo⟩:=X.U0 hno;have hcp:=hmo;obtain⟨_,dm,v,hm,_⟩:=hmo;have h0:atI (st.aH.map nV) (-1)=some (nV n):=by rw[e,ky];exact uJ _ _
  refine gq ?_;refine⟨_,rfl,o,A.ao,dx,_,.ref aM,rfl,X.ob,T.ah,T.jq2,i5,_,rfl,o,A.ao,dx,_,.ref aP,rfl,X.ob,T.ah,T.jq0,fY,_,rfl,aP,_,_,_,rfl,rfl,SqL.of X.aH.2,h0,aM,_,rfl,.inl ⟨_,ma (n:Int),.inl X.made.2,rfl,hv.symm⟩,?_⟩;refine⟨_,rfl,(st.mo n).k,(st.mo n).k8,mo,dm,_,rfl,hm,UN _ v,mo,rfl,_,rfl,_,rfl,nd (st.mo n).k,a,b,rfl,_,rfl,?_⟩;obtain⟨I1,Mv⟩:=I.pop e (vG (vw (nd (st.mo n).k) a b)) (HC _);have Si:=(I.Jj hno).mono (an3 N);have lp:=I.pil.Ji;rw[bo]at lp;have ld:=I.ld;have lr:=I.lr;have dk:R.DOk (.nums (ar "vote") [a,b]):=Ew (by show (ar "vote",2)∈R.ee;trivial) (by
   intro i hi;rcases List.mem_cons.mp hi with h | hi
   ·rw[h];exact ha
   ·rw[ra]at hi;rw[hi];exact hb)
  cases hk:vw (nd (st.mo n).k) a b with
  |true =>
   rw[hk]at q I1;rw[if_pos rfl]at q;refine iQ (mtv rfl X.ob (bX (by trivial)) ⟨_,rfl,o,OA,c,st,pre,n,rfl,hc,e,by omega,by omega,λc1 H1 s1 hc1=>?_⟩)
   refine aS λGq gq=>?_
   obtain⟨dx1,aM1,aP1,aA1,aD1,aF1,aE1,aR1,ms1,ds1,ws1,fs1,es1,X1⟩:=hc1.ex;refine gq ?_;refine⟨_,rfl,rfl,tst (by trivial) (mtv rfl X1.ob (bX (by trivial)) ⟨_,rfl,o,mo,c1,_,st.mo n,N+1,rfl,hc1,hcp.step s1,I1,by omega,Mv,Si,λc2 H2 s2 hc2=>?_⟩)⟩
   refine aS λGq gq=>?_
   obtain⟨dx2,aM2,aP2,aA2,aD2,aF2,aE2,aR2,ms2,ds2,ws2,fs2,es2,X2⟩:=hc2.ex;have I2:=I1.carry (by omega) Mv Si
   refine gq ?_;refine mtv rfl X2.ob (bX (by trivial)) ⟨_,rfl,_,rfl,(sl 3),λt ht=>?_⟩
   have s3:Step (fm i) c2 (aN c2 t none) H2 (upd H2 t (.tup [V.str (ar "vote"),.int a,.int b])):=Step.new aX ht;have X3:=X2.free (W:=λ_=>False) (λ_=>id) (Step.new (x:=none) (o:=.tup [V.str (ar "vote"),.int a,.int b]) id ht)
   have lr2:=I2.lr;refine⟨o,t,_,_,.nums (ar "vote") [a,b],rfl,X3.at,HD,dk,si lr2 (by omega),λc4 H4 s4 hc4=>⟨_,rfl,?_⟩⟩
   exact q c4 H4 (((s1.trans s2).trans s3).trans s4) hc4
  |false =>
   rw[hk]at q I1;rw[if_neg kr]at q;refine et (mtv rfl X.ob (bX (by trivial)) ⟨_,rfl,o,WC,c,st,pre,n,rfl,hc,e,by omega,by omega,λc1 H1 s1 hc1=>?_⟩)
   refine aS λGq gq=>?_
   obtain⟨dx2,aM2,aP2,aA2,aD2,aF2,aE2,aR2,ms2,ds2,ws2,fs2,es2,X2⟩:=hc1.ex;refine gq ?_;refine⟨_,rfl,rfl,tsf (by trivial) ?_⟩
   refine mtv rfl X2.ob (bX (by trivial)) ⟨_,rfl,_,rfl,(sl 3),λt ht=>?_⟩
   have s3:Step (fm i) c1 (aN c1 t none) H1 (upd H1 t (.tup [V.str (ar "vote"),.int a,.int b])):=Step.new aX ht;have X3:=X2.free (W:=λ_=>False) (λ_=>id) (Step.new (x:=none) (o:=.tup [V.str (ar "vote"),.int a,.int b]) id ht)
   refine⟨o,t,_,_,.nums (ar "vote") [a,b],rfl,X3.at,HD,dk,by show st.rows.length<=1000;omega,λc4 H4 s4 hc4=>⟨_,rfl,?_⟩⟩
   exact q c4 H4 ((s1.trans s3).trans s4) hc4
theorem U9 (T:Txt w.params K mg A){i:Nat}:aT P w K mg base (CXX P w) 6 A.cS A.mG ["self"] (Zm A i):=by
 refine T.il.okX BO (λvs H Q E h=>?_) (λcdv A' outer s H vs Q E hr h=>?_)
 ·obtain⟨o,c,st,N,rfl,_⟩:=h;rfl
 ·obtain⟨o,c,st,N,rfl,hc,I,hN,q⟩:=h;obtain⟨dx,aM,aP,aA,aD,aF,aE,aR,ms,ds,ws,fs,es,X⟩:=hc.ex;refine⟨_,(au (b8 (zZ (px (pv 0)) T.ah T.eU (oJ (i:=i) T) (hr.mono (by decide)) T.cw))
 (au (psx (bR (f7 (pv 0) T.ah T.k9 (F2 (i:=i) T) (hr.mono (by decide)) T.fW .nil aW (aa aq ag))))
 (au (psx (bR (f7 (pv 0) T.ah T.gg (ua (i:=i) T) hr T.cX .nil aW (aa (cI (aa aq ag)) ag))))
 (aO (psx (aG aq)))))),?_⟩
  try dsimp only[bE]
  refine mtv rfl X.ob (bX (by trivial)) ⟨o,c,st,rfl,hc,λhne=>?_,λhe=>?_⟩
  case refine_2 =>
   unfold rK at q;rw[he]at q;exact q c H _ _ (Step.refl aX) hc ⟨rfl,rfl⟩ (λ_ z=>nomatch z)
  refine aS λGq gq=>?_
  obtain⟨pre,n,e⟩:∃pre n,st.aH=pre++[n]:=by
   rcases anY st.aH with e | ⟨pre,n,e⟩
   ·exact absurd e hne
   ·exact⟨pre,n,by rw[e,anZ]⟩
  have gl:st.aH.getLast?=some n:=by rw[e];exact aoo
  have ed:st.aH.dropLast=pre:=by rw[e];exact aoD
  unfold rK at q;rw[gl]at q;dsimp only at q;rw[ed]at q;have lp:=I.pil.Ji;rw[bo]at lp;have ld:=I.ld;have lr:=I.lr;refine gq ?_;refine mtv rfl X.ob (bX (by trivial)) ⟨o,zk,c,st,pre,n,rfl,hc,e,by omega,by omega,λc1 H1 s1 hc1=>?_⟩
  refine aS λGq gq=>?_
  obtain⟨dx2,aM2,aP2,aA2,aD2,aF2,aE2,aR2,ms2,ds2,ws2,fs2,es2,X2⟩:=hc1.ex;refine gq ?_;refine mtv rfl X2.ob (bX (by trivial)) ⟨(sl 1),λt ht=>?_⟩
  have s3:Step (fm i) c1 (aN c1 t none) H1 (upd H1 t (.tup [V.str (ar "drop")])):=Step.new aX ht;have X3:=X2.free (W:=λ_=>False) (λ_=>id) (Step.new (x:=none) (o:=.tup [V.str (ar "drop")]) id ht)
  refine⟨o,t,_,_,.nums (ar "drop") [],rfl,X3.at,HD,Ew (by trivial) (λ_ h=>nomatch h),by show st.rows.length<=1000;omega,λc4 H4 s4 hc4=>?_⟩
  exact q c4 H4 ((s1.trans s3).trans s4) hc4
theorem Va (T:Txt w.params K mg A){i:Nat}:aT P w K mg base (CXX P w) 6 A.cT A.mH ["self","number"] (Zn A i):=by
 have mh:aT P w K mg base CX0 4 A.nJ A.iI ["deed"] (R.Ht K):=R.tJ T;refine T.ip.okX tR (λvs H Q E h=>?_) (λcdv A' outer s H vs Q E hr h=>?_)
 ·obtain⟨o,z,c,st,N,rfl,_⟩:=h;rfl
 ·obtain⟨o,z,c,st,N,rfl,hc,I,hN,hz0,hz1,q⟩:=h;obtain⟨dx,aM,aP,aA,aD,aF,aE,aR,ms,ds,ws,fs,es,X⟩:=hc.ex;have hu1:=hr.u1;have hgd:=hr.gd;have lim:gr=16777216:=by decide
  refine⟨_,(au (du (uI (bf (pv 0) rfl) (λ_=>rfl))
 (aO (nP T.rC (BA T) (hr.mono (by decide)) T.oq rfl rfl T.D4 (aa (bb (AK T) (hr.mono (by decide)) rfl T.yR T.u6.kp T.yQ .nil aW (aa (dJ (pv 0) T.ah T.gZ (xT (i:=i) T) (hr.mono (by decide)) T.dX .nil aW) (aa (bf (pv 0) rfl) ag))) ag)))
 (mY aI))
 (au (du (Lx (Aa hu1 (pv 1) (bf (pv 0) rfl)))
 (aO (jt T.Ea rfl rfl T.FZ (aa (Bh (jO (uQ (pv 1) (jO uP)))) ag)))
 (mY aI))
 (au (psx (bh (i:=2) tR.nd rfl (anq rfl) (aZ bx (lN hu1 (bf (pv 0) rfl) (pv 1) (λ_ _=>rfl)) ai (λ_ _=>rfl))))
 (au (du (aJ C9 (bf (pv 0) rfl) (pv 2) (aK _))
 (aO (nP T.wK (Jf T) (hr.mono (by decide)) T.tE rfl rfl T.IT (aa (pv 2) ag)))
 (mY aI))
 (au (psx (fK (pv 0) (aZ Yh (Rm (bf (pv 0) rfl) (pv 1) ⟨rfl,rfl,rfl,rfl⟩) ai (λ_ _=>rfl)) rfl))
 (au (psx (bR (js am9 anu anv dq (bf (pv 0) rfl) (aa (bb mh (hr.mono (by decide)) rfl T.qa T.l5.kp T.p9 .nil aW (aa (cI (aa aq (aa (pv 1) ag))) ag)) ag))))
 (aO (psx (aG (pv 1)))))))))),?_⟩
  try dsimp only[bE]
  by_cases hz:z=-1
  ·subst hz;refine fw rfl X.ob T.ah T.jq0 fY ⟨_,.inl ⟨_,.inl (.inl X.aH.2),rfl⟩,?_⟩;rw[show ((-1:Int).toNat)=0 from rfl]at q
   unfold stepT at q;cases e:st.aH with
   |cons k0 r0 =>
    rw[if_neg (by rw[e];exact anB _ _)]at q
    have lp:=I.pil.Ji;rw[bo]at lp;have hb:=Mo st.closed (st.aH.map st.mo);have hb0:0<=uk st.closed (st.aH.map st.mo):=Int.le_trans (by
     by_cases z:vD (st.aH.map st.mo) < 0
     ·have:=Es z;rw[e]at this;cases this
     ·omega) (vF _ _)
    refine iQ (mtv rfl X.ob (bX (by trivial)) ⟨o,c,st,rfl,hc,I.eu,by omega,λB os hB hos=>?_⟩)
    have sB:=aB (o:=.lst (os.map V.ref)) hB;refine fw rfl (sB _ _ X.ob) T.ah T.jq3 oH ⟨B,st.closed,c,st.aH.map st.mo,os,rfl,⟨SqL.of ae,vH sB hos⟩,?_⟩;refine⟨_,rfl,rG (by omega) (by omega),λd hd=>?_⟩
    exact q (eh c H) _ _ _ (Step.cl aX (sB.new hd)) (X.cl (sB.new hd)).at ⟨rfl,d,rfl,ae⟩ (λ_ z=>by cases z;exact dg (same_none sB hd))
   |nil =>
    rw[if_pos e,I.no0]at q;refine et ?_;refine⟨_,rfl,fw rfl X.ob T.ah T.jq5 lj ⟨aA,_,rfl,.inl ⟨_,ma (-1),.inl X.aV.2,rfl,rfl⟩,_,rfl,?_⟩⟩;rw[F9];have l1:(anF++ar "no matter of the number ":Str).length=24:=by trivial
    have l2:(ar " is aside").length=9:=by trivial
    have l3:(ar (toString (-1:Int))).length=2:=by trivial
    refine iQ ⟨by rw[l1];omega,_,rfl,_,.int (by decide),by rw[l3];omega,by rw[len_app,l1,l3];omega,by rw[len_app,len_app,l1,l2,l3];omega,by rw[len_app,len_app,l1,l2,l3];omega,(sl 1),?_⟩
    exact q c H _ _ (Step.refl aX) hc ⟨rfl,rfl⟩ (λ_ z=>nomatch z)
  refine aS λGq gq=>?_
  obtain⟨n,rfl⟩:∃n:Nat,z=(n:Int):=⟨z.toNat,by omega⟩
  rw[Int.toNat_natCast]at q;have am5:n < 10 ^ 10:=by
   have:(10:Nat) ^ 10=10000000000:=by decide
   have:(10:Int) ^ 10=10000000000:=by decide
   omega
  clear hz hz0 hz1;refine gq ?_;refine fw rfl X.ob T.ah T.jq0 fY ⟨_,.inl ⟨_,.inl (.inl X.aH.2),rfl⟩,?_⟩;unfold stepT at q;cases e:st.aH with
  |cons k0 r0 =>
   rw[if_neg (by rw[e];exact anB _ _)]at q
   have lp:=I.pil.Ji;rw[bo]at lp;have hb:=Mo st.closed (st.aH.map st.mo);have hb0:0<=uk st.closed (st.aH.map st.mo):=Int.le_trans (by
    by_cases z:vD (st.aH.map st.mo) < 0
    ·have:=Es z;rw[e]at this;cases this
    ·omega) (vF _ _)
   refine iQ (mtv rfl X.ob (bX (by trivial)) ⟨o,c,st,rfl,hc,I.eu,by omega,λB os hB hos=>?_⟩)
   have sB:=aB (o:=.lst (os.map V.ref)) hB;refine fw rfl (sB _ _ X.ob) T.ah T.jq3 oH ⟨B,st.closed,c,st.aH.map st.mo,os,rfl,⟨SqL.of ae,vH sB hos⟩,?_⟩;refine⟨_,rfl,rG (by omega) (by omega),λd hd=>?_⟩
   exact q (eh c H) _ _ _ (Step.cl aX (sB.new hd)) (X.cl (sB.new hd)).at ⟨rfl,d,rfl,ae⟩ (λ_ z=>by cases z;exact dg (same_none sB hd))
  |nil =>
   rw[if_pos e]at q;refine et ?_;refine⟨_,rfl,fw rfl X.ob T.ah T.jq5 lj ⟨aA,_,rfl,.inl ⟨_,ma (n:Int),.inl X.aV.2,rfl,rfl⟩,_,rfl,?_⟩⟩;cases hx:at1 n st.aV with
   |none =>
    rw[hx]at q;rw[xU (zf hx)];have l1:(anF++ar "no matter of the number ":Str).length=24:=by trivial
    have l2:(ar " is aside").length=9:=by trivial
    have e10:(10:Nat) ^ 10=10000000000:=by decide
    have l3:(ar (toString (n:Int))).length<=20:=F4 (by omega) (by omega)
    refine iQ ⟨by rw[l1];omega,_,rfl,_,.int (F3 (by omega) (by omega)),by omega,by rw[len_app,l1];omega,by rw[len_app,len_app,l1,l2];omega,by rw[len_app,len_app,l1,l2];omega,(sl 1),?_⟩
    exact q c H _ _ (Step.refl aX) hc ⟨rfl,rfl⟩ (λ_ z=>nomatch z)
   |some x =>
    refine aS λGq gq=>?_
    rw[hx]at q;dsimp only at q;obtain⟨t,p,hv,ht,hl⟩:=X.waitOf hx;refine gq ?_;rw[hv];refine et ?_;refine⟨_,rfl,o,A.ao,dx,_,.ref aA,rfl,X.ob,T.ah,T.jq5,lj,_,rfl,aA,_,rfl,.inl ⟨_,ma (n:Int),.inl X.aV.2,rfl,hv.symm⟩,t,_,_,_,rfl,rfl,ht.sq,rfl,?_⟩;refine⟨_,rfl,o,A.ao,dx,_,.int st.bg,rfl,X.ob,T.ah,T.jq1,jI,_,rfl,_,_,rfl,rfl,_,rfl,iY (λz=>?_) (λz=>?_)⟩
    ·have z':st.bg < x.2.1:=of_decide_eq_true z;refine aS λGq gq=>?_
     rw[if_pos z']at q;obtain⟨_,_,b1,b2⟩:=I.asd x (nr hx).2;refine gq ?_;refine⟨_,rfl,_,rfl,rG (by have:=I.sit.1;omega) b2,λd hd=>?_⟩
     exact q (eh c H) _ _ _ (Step.cl aX (aB hd)) (X.cl (aB hd)).at ⟨rfl,d,rfl,ae⟩ (λ_ z=>by cases z;exact dg hd)
    ·have z':¬st.bg < x.2.1:=λy=>z (decide_eq_true y)
     rw[if_neg z']at q;have nAt:t≠aA:=λy=>by have:=ht.1;rw[y,X.aV.1]at this;cases this
     have ht':SqT K (upd H aA (.dK (mQ (bp ((st.aV.map (·.1)).zip ws)) (ma (n:Int))))) t [.int x.2.1,.ref p]:=by
      rcases ht.2 with h | ⟨u,h⟩
      ·exact .inl (.inl ((av nAt).trans h))
      ·exact .inl (.inr ⟨u,(av nAt).trans h⟩)
     have oA:o≠aA:=vE X.co X.aV.1 (λz=>nomatch z)
     refine fw rfl X.ob T.ah T.jq5 lj ⟨aA,rfl,.inl ⟨_,.inl X.aV.2⟩,_,rfl,_,ma (n:Int),_,X.aV.2,rfl,hv,.inr (.inl ⟨t,_,1,.ref p,rfl,rfl,ht',rfl,?_⟩)⟩;refine⟨_,rfl,o,A.ao,dx,_,rfl,(av oA).trans X.ob,T.ah,T.jq0,(by show 10 < 1000;decide),?_⟩
     rw[Jd];refine aS λGq gq=>?_
     obtain⟨c1,ws1,s1,X1⟩:=X.zg hl;refine gq ?_;generalize upd (upd H aA (.dK (mQ (bp ((st.aV.map (·.1)).zip ws)) (ma (n:Int))))) o (.ins A.ao dx (chF (.int st.cJ) (.int st.bg) (.bl st.closed) (.ref aM) (.ref p) (.ref aA) (.ref aD) (.ref aF) (.ref aE) (.ref aR)))=H1 at s1 X1 ⊢
     have lr:=I.lr;have h10:(n:Int) < 10 ^ 10:=by
      have:(10:Nat) ^ 10=10000000000:=by decide
      have:(10:Int) ^ 10=10000000000:=by decide
      omega
     refine fw rfl X1.ob T.ah T.jqc vC ⟨.inl ⟨rfl,_,SqL.of X1.rows.2⟩,_,rfl,(sl 2),λu hu=>?_⟩
     have s2:=aB (o:=.tup [V.str (ar "take"),nV n]) hu;refine⟨u,.nums (ar "take") [(n:Int)],rfl,SqT.of ae,Ew (by show (ar "take",1)∈R.ee;trivial) (by intro i hi;rw[ra]at hi;rw[hi];exact⟨by omega,h10⟩),λH2 s3=>?_⟩
     have X2:=X1.same (s2.trans s3);obtain⟨s4,X3⟩:=X2.row (R.gi (.nums (ar "take") [(n:Int)]));refine⟨aR,_,_,rfl,rfl,X2.rows.2,by rw[bo];show st.rows.length < _;omega,_,rfl,?_⟩
     exact q c1 _ ((s1.vz.trans (Step.same aX (s2.trans s3))).trans s4.vz) X3.at
end
theorem zm {α:Type}{P:rf}{w:World}{K:ba}{mg:Str->Option Value}{base:Heap}{CX:CXT}{k:Nat}{f:Addr}{fd:kg}{ps:List Str}{sp:α->Sp}(F:∀a,aT P w K mg base CX k f fd ps (sp a)) :
  aT P w K mg base CX k f fd ps (λvs H Q E=>∃a,sp a vs H Q E) :=
 ⟨λvs H Q E ⟨a,z⟩=>(F a).1 vs H Q E z,λx1 x2 x3 H x4 x5 vs Q E x6 x7 x8 x9 ⟨a,z⟩=>(F a).2 x1 x2 x3 H x4 x5 vs Q E x6 x7 x8 x9 z⟩
def ix:R.bG->Mn
 | .mat cs=>.mat (cs.map (km R.bl1))
 | .ed m k j ws=>if m=true then .mnd ⟨k,j,km R.bl1 ws⟩ else .chg ⟨k,j,km R.bl1 ws⟩
 | .pt ws=>.pnt (km R.bl1 ws)
 | .nums kd ns=>if kd=ar "put off" then .off (ns.getD 0 0) else if kd=ar "close" then .cls else if kd=ar "lay" then .lay else .rst
def zo:List (Str×Nat):=[(ar "put off",1),(ar "close",0),(ar "lay",0),(ar "rest",0)]
def Ex:R.bG->Prop
 | .mat cs=>cs.length<=12/\∀ws∈cs,R.nh 12 ws
 | .ed m k j ws=>(k=0\/k=1\/k=2)/\(-1000<=j/\j<=1000)/\R.nh 12 ws/\(m=true->ws.length=1)
 | .pt ws=>R.nh 12 ws
 | .nums kd ns=>(kd,ns.length)∈zo/\∀i∈ns,-10000000000 < i/\i < 10 ^ 10
theorem nv {kd:Str}{ns:List Int}(h:(kd,ns.length)∈zo):(∃u,kd=ar "put off"/\ns=[u])\/(kd=ar "close"/\ns=[])\/(kd=ar "lay"/\ns=[])\/(kd=ar "rest"/\ns=[]):=by
 unfold zo at h;simp only[aob,anP,or_false,aoS]at h;rcases h with ⟨h1,h2⟩ | ⟨h1,h2⟩ | ⟨h1,h2⟩ | ⟨h1,h2⟩
 ·cases ns with
  |nil=>simp at h2
  |cons u r =>
   cases r with
   |nil=>exact .inl ⟨u,h1,rfl⟩
   |cons _ _=>simp at h2
 ·exact .inr (.inl ⟨h1,List.length_eq_zero_iff.mp h2⟩)
 ·exact .inr (.inr (.inl ⟨h1,List.length_eq_zero_iff.mp h2⟩))
 ·exact .inr (.inr (.inr ⟨h1,List.length_eq_zero_iff.mp h2⟩))
theorem vI {n:Nat}{ws:List Str}(h:R.nh n ws):am8 (km R.bl1 ws)=true:=(R.Clause.asc (n:=n) ⟨rfl,h.len,h.wd⟩).ok
theorem Mw {N:Nat}:∀ {d:R.bG},Ex d->MOk N (ix d)
 | .mat cs,h=>by
  refine⟨?_,?_⟩
  ·rw[bo];have:=h.1;omega
  ·intro x hx;obtain⟨ws,hw,rfl⟩:=List.mem_map.mp hx;exact vI (h.2 ws hw)
 | .ed m k j ws,h=>by
  obtain⟨h1,⟨h2,h3⟩,h4,h5⟩:=h;cases m with
  |true =>
   show EdB 1 ⟨k,j,km R.bl1 ws⟩/\_;have hl:=h5 rfl
   match ws,hl,h4 with
   |[x],_,h4=>exact⟨⟨h1,h2,h3,[x],rfl,h4.wd,kj 1⟩,x,rfl,h4.wd x kb⟩
  |false =>
   show EdB (12+N) ⟨k,j,km R.bl1 ws⟩;exact⟨h1,h2,h3,ws,rfl,h4.wd,by have:=h4.len;omega⟩
 | .pt ws,h=>vI h
 | .nums kd ns,h=>by
  obtain⟨h1,h2⟩:=h;rcases nv h1 with ⟨u,rfl,rfl⟩ | ⟨rfl,rfl⟩ | ⟨rfl,rfl⟩ | ⟨rfl,rfl⟩
  ·rw[ix,if_pos rfl];obtain⟨a,b⟩:=h2 u kb;have:(10:Int) ^ 10=10000000000:=by decide
   exact⟨a,by show u < _;omega⟩
  ·rw[ix,if_neg (by trivial),if_pos rfl];trivial
  ·rw[ix,if_neg (by trivial),if_neg (by trivial),if_pos rfl];trivial
  ·rw[ix,if_neg (by trivial),if_neg (by trivial),if_neg (by trivial)];trivial
theorem WD {M:Nat}{e:Ed}(h:gs M e=true):0<=e.at_:=(IV.mp h).1
theorem Zp {N:Nat}{st:Ch}(I:Inv N st){d:R.bG}(h:Ex d)(hc:BS st (ix d)=none):R.DOk d:=by
 have ho:E6 st.closed (st.aH.map st.mo) (ix d).k=none/\xV st (ix d)=none:=by
  unfold BS at hc;split at hc
  ·cases hc
  ·exact⟨by assumption,hc⟩
 obtain⟨h0,hf⟩:=ho;cases d with
 |mat cs=>exact h
 |pt ws=>exact h
 |ed m k j ws =>
  obtain⟨h1,⟨h2,h3⟩,h4,h5⟩:=h;have e10:(10:Int) ^ 10=10000000000:=by decide
  refine⟨h1,⟨?_,by omega⟩,h4,h5⟩
  cases m with
  |true =>
   rw[ix,if_pos rfl]at h0 hf;have h3:tK (st.aH.map st.mo)=true:=(zi h0).2;unfold tK at h3;split at h3
   ·rename_i e he;unfold xV at hf;dsimp only at hf;rw[he]at hf;dsimp only at hf;split at hf
    ·rename_i h6;exact WD h6
    ·cases hf
   ·cases h3
  |false =>
   rw[ix,if_neg kr]at h0 hf;obtain⟨tx,r,e1⟩:=I.pil.Pu (zi h0).2;unfold xV at hf;dsimp only at hf;rw[e1]at hf;dsimp only at hf;split at hf
   ·rename_i h6;exact WD h6
   ·cases hf
 |nums kd ns =>
  obtain⟨h1,h2⟩:=h;have s1:=I.sit.1;rcases nv h1 with ⟨u,rfl,rfl⟩ | ⟨rfl,rfl⟩ | ⟨rfl,rfl⟩ | ⟨rfl,rfl⟩
  ·rw[ix,if_pos rfl]at hf;refine⟨by show (ar "put off",1)∈R.ee;trivial,λi hi=>?_⟩
   rw[ra]at hi;subst hi;unfold xV at hf;dsimp only at hf;split at hf
   ·cases hf
   ·rename_i h6;have h7:¬i<=st.bg:=h6;exact⟨by omega,(h2 i kb).2⟩
  ·exact⟨by trivial,λ_ h=>nomatch h⟩
  ·exact⟨by trivial,λ_ h=>nomatch h⟩
  ·exact⟨by trivial,λ_ h=>nomatch h⟩
theorem Ey {i:Nat}{c:Col}{H:Hp}{t:Addr}:∀ {d:R.bG},Ex d->qd i c H d t->∃v,AM i c H t (rowOf (ix d).k v)/\((ix d).k=0->∃L tx,v=.ref L/\ix d=.mat tx/\Pt i c H L (tx.map V.str))/\((ix d).k≠0->(ix d).Val c H v)
 | .mat cs,_,⟨L,a,b⟩=>⟨.ref L,a,λ_=>⟨L,_,rfl,rfl,b⟩,λz=>absurd rfl z⟩
 | .ed true k j ws,h,⟨e,a,b⟩=>⟨.ref e,a,λz=>(nomatch z),λ_=>⟨e,rfl,by rw[<-Ms h.1];exact b⟩⟩
 | .ed false k j ws,h,⟨e,a,b⟩=>⟨.ref e,a,λz=>(nomatch z),λ_=>⟨e,rfl,by rw[<-Ms h.1];exact b⟩⟩
 | .pt ws,_,a=>⟨.str (km R.bl1 ws),a,λz=>(nomatch z),λ_=>rfl⟩
 | .nums kd ns,h,a=>by
  rcases nv h.1 with ⟨u,rfl,rfl⟩ | ⟨rfl,rfl⟩ | ⟨rfl,rfl⟩ | ⟨rfl,rfl⟩
  ·rw[ix,if_pos rfl];exact⟨.int u,a,λz=>(nomatch z),λ_=>rfl⟩
  ·rw[ix,if_neg (by trivial),if_pos rfl]
   exact⟨.non,a,λz=>(nomatch z),λ_=>trivial⟩
  ·rw[ix,if_neg (by trivial),if_neg (by trivial),if_pos rfl]
   exact⟨.non,a,λz=>(nomatch z),λ_=>trivial⟩
  ·rw[ix,if_neg (by trivial),if_neg (by trivial),if_neg (by trivial)]
   exact⟨.non,a,λz=>(nomatch z),λ_=>trivial⟩
def Sj (A:Adr)(K:ba):Sp:=λvs H Q E=>Om A vs H Q E\/IW A K vs H Q E
def adR (A:Adr)(i:Nat):Sp:=λvs H Q E=>∃(o t:Addr) (c:Col) (st:Ch) (N:Nat) (d:R.bG),vs=[.ref o,.ref t]/\dh A i c H o st/\Inv N st/\N<=800/\Ex d/\qd i c H d t /\
 (BS st (ix d)=none->∀H',a9 H H'->Q .non H')/\∀x,BS st (ix d)=some x->∀C e H',a9 H H'->x.New A H H' C e->E C e H'
def Zq (A:Adr)(i:Nat):Sp:=λvs H Q E=>∃(o t:Addr) (c:Col) (st:Ch) (N:Nat) (d:R.bG),vs=[.ref o,.ref t]/\dh A i c H o st/\Inv N st/\N<=800/\Ex d/\qd i c H d t/\Jl A i c H o (oM st (ix d) (R.gi d)) Q E
theorem MOk.ed1 {N:Nat}{e:Ed}(h:MOk N (.chg e))(hN:N<=800):y6 e:=EdB.ok h (by omega)
theorem MOk.ed2 {N:Nat}{e:Ed}(h:MOk N (.mnd e)):y6 e:=EdB.ok h.1 (by decide)
section
variable{P:rf}{w:World}{K:ba}{mg:Str->Option Value}{base:Heap}{A:Adr}
theorem tL (T:Txt w.params K mg A){i:Nat}:aT P w K mg base (CXX P w) 6 A.bc A.dF ["self","told"] (adR A i):=by
 have oB:aT P w K mg base CX0 1 A.words_of A.jF ["clause"] R.wN:=R.l8 T;refine T.bP.okX dB (λvs H Q E h=>?_) (λcdv A' outer s H vs Q E hr h=>?_)
 ·obtain⟨o,t,c,st,N,d,rfl,_⟩:=h;rfl
 ·obtain⟨o,t,c,st,N,d,rfl,hc,I,hN,hd,hdc,q,qx⟩:=h;obtain⟨dx,aM,aP,aA,aD,aF,aE,aR,ms,ds,ws,fs,es,X⟩:=hc.ex;have hu1:=hr.u1;refine⟨_,(au (psx (bh (i:=2) dB.nd rfl (anq rfl) (aZ bx (pv 1) ai (λ_ _=>rfl))))
 (au (psx (bh (i:=3) dB.nd rfl (anq rfl) (dJ (pv 0) T.ah T.gZ (xT (i:=i) T) (hr.mono (by decide)) T.dX .nil aW)))
 (au (b8 (bB (wZ T) hr rfl T.oe T.jl.kp T.oa (pax (aa (pv 2) (aa (pv 3) (aa (bf (pv 0) rfl) ag))))))
 (aO (du (aJ bF (pv 2) aq (aK _))
 (aO (b8 (bB (ox T) (hr.mono (by decide)) rfl T.lR T.i3.kp T.lQ (pax (aa (bf (aZ bz (pv 3) ai (λ_ _=>rfl)) rfl) (aa (aZ bx (pv 1) ai (λ_ _=>rfl)) ag))))))
 (aO (du (aJ bF (pv 2) aq (aK _))
 (aO (b8 (bB (ox T) (hr.mono (by decide)) rfl T.lR T.i3.kp T.lQ (pax (aa (bb oB (hr.mono (by decide)) rfl T.kU T.jk.kp T.kT .nil aW (aa (aZ bx (bf (aZ bz (pv 3) (xg qm ai) (λ_ _=>rfl)) rfl) ai (λ_ _=>rfl)) ag)) (aa (aZ bx (pv 1) ai (λ_ _=>rfl)) ag))))))
 (aO (du (PW.pt (pw_and (aJ bF (pv 2) aq (aK _)) (pw_and1 (aJ Ba (aZ bx (pv 1) ai (λ_ _=>rfl)) (bf (pv 0) rfl) (aK _)))))
 (aO (nP T.qc (E7 T) (hr.mono (by decide)) T.m8 rfl rfl T.D7 (aa (bf (pv 0) rfl) ag)))
 (mY aI)))))))))),?_⟩
  try dsimp only[bE]
  refine aS λGq gq=>?_
  obtain⟨v,ht,hv0,hv1⟩:=Ey hd hdc;have hmk:=Mw (N:=N) hd;refine gq ?_;generalize ix d=m at ht hv0 hv1 hmk q qx;have lp:=I.pil.Ji;rw[bo]at lp;refine ixv rfl (SqT.of ht.2) C0 ?_;refine mtv rfl X.ob (bX (by trivial)) ⟨o,c,st,rfl,hc,I.eu,by omega,λB os hB hos=>?_⟩
  have sB:=aB (o:=.lst (os.map V.ref)) hB;have hp:xq A K c (upd H B (.lst (os.map V.ref))) B (st.aH.map st.mo) os:=⟨SqL.of ae,vH sB hos⟩;generalize upd H B (.lst (os.map V.ref))=H1 at sB hp;refine⟨_,rfl,_,rfl,fw rfl (sB _ _ X.ob) T.ah T.jq3 oH ⟨m.k,B,st.closed,c,st.aH.map st.mo,os,rfl,m.k8,hp,by rw[bo];omega,λho H2 s2=>?_,λx hx C e H2 s2 hat=>?_⟩⟩
  case refine_2=>exact qx x (by unfold BS;rw[hx]) C e H2 (sB.trans s2) ⟨hat.1,λa z=>same_none sB (hat.2 a z)⟩
  have ec:BS st m=xV st m:=by unfold BS;rw[ho]
  rw[ec]at q qx;have s12:=sB.trans s2;have hp2:=hp.same s2;obtain⟨h1,h2⟩:=zi ho;have X2:=X.same s12;have ht2:H2 t=some (.tup (rowOf m.k v)):=s12 _ _ ht.2;cases m with
  |mat tx=>exact⟨_,rfl,rfl,tsf (gU 0 (by decide)) ⟨_,rfl,rfl,tsf (jn 0 (by decide)) ⟨_,rfl,rfl,tsf (mO 0 (by decide)) (et (q rfl H2 s12))⟩⟩⟩
  |pnt z=>exact⟨_,rfl,rfl,tsf (gU 7 (by decide)) ⟨_,rfl,rfl,tsf (jn 7 (by decide)) ⟨_,rfl,rfl,tsf (mO 7 (by decide)) (et (q rfl H2 s12))⟩⟩⟩
  |cls=>exact⟨_,rfl,rfl,tsf (gU 4 (by decide)) ⟨_,rfl,rfl,tsf (jn 4 (by decide)) ⟨_,rfl,rfl,tsf (mO 4 (by decide)) (et (q rfl H2 s12))⟩⟩⟩
  |lay=>exact⟨_,rfl,rfl,tsf (gU 5 (by decide)) ⟨_,rfl,rfl,tsf (jn 5 (by decide)) ⟨_,rfl,rfl,tsf (mO 5 (by decide)) (et (q rfl H2 s12))⟩⟩⟩
  |rst=>exact⟨_,rfl,rfl,tsf (gU 6 (by decide)) ⟨_,rfl,rfl,tsf (jn 6 (by decide)) ⟨_,rfl,rfl,tsf (mO 6 (by decide)) (et (q rfl H2 s12))⟩⟩⟩
  |chg e =>
   refine⟨_,rfl,rfl,tst (gU 1 (by decide)) ?_⟩
   refine aS λGq gq=>?_
   obtain⟨tx,r,e1⟩:=I.pil.Pu h2;obtain⟨te,rfl,hte⟩:=hv1 (by simp[Mn.k])
   rw[e1]at hp2;obtain⟨hB2,ho2⟩:=hp2;refine gq ?_;cases ho2 with
   | @cons _ ob _ bs hm amY =>
    refine aS λGq gq=>?_
    obtain⟨_,dm,v,hm2,L,rfl,hL⟩:=hm;refine gq ?_;refine ixv rfl hB2 (pQ (j:=0) rfl) ⟨ob,A.C 0,dm,_,.ref L,rfl,hm2,T.cl 0 (by decide),T.na0,rfl,ixv rfl (SqT.of ht2) rfl ?_⟩
    refine⟨L,te,tx.map V.str,e,rfl,SqL.of hL.2,fb s12 hte.sq,hmk.ed1 hN,λhf=>?_,λhf=>?_⟩
    ·rw[bo]at hf;refine q ?_ H2 s12;unfold xV;dsimp only;rw[e1];dsimp only;rw[if_pos hf]
    ·rw[bo]at hf;refine qx .noFit ?_ _ _ H2 s12 ⟨⟨rfl,rfl⟩,λ_ z=>nomatch z⟩
     unfold xV;dsimp only;rw[e1];dsimp only;rw[if_neg (by rw[hf];decide)]
  |mnd f =>
   refine⟨_,rfl,rfl,tsf (gU 2 (by decide)) ⟨_,rfl,rfl,tst (jn 2 (by decide)) ?_⟩⟩
   refine aS λGq gq=>?_
   have h3:tK (st.aH.map st.mo)=true:=h2;unfold tK at h3;obtain⟨e,he,hk1⟩:∃e,(st.aH.map st.mo).getLast?=some (.chg e)/\e.k≠1:=by
    split at h3
    ·rename_i e he;exact⟨e,he,λz=>by rw[z]at h3;cases h3⟩
    ·cases h3
   obtain⟨r,e1⟩:=rH he;obtain⟨te,rfl,hte⟩:=hv1 (by simp[Mn.k])
   obtain⟨hB2,ho2⟩:=hp2;obtain⟨pre,ob,eo⟩:∃pre ob,os=pre++[ob]:=by
    have hl:=ho2.len;rw[e1,ki,anc]at hl;rcases anY os with e | ⟨pre,n,e⟩
    ·rw[e]at hl;simp at hl
    ·exact⟨pre,n,by rw[e,anZ]⟩
   subst eo;obtain⟨as',a,e3,_,hm⟩:=ho2.last;rw[e1]at e3;obtain⟨_,e4⟩:=List.append_inj' e3 rfl;cases e4;obtain⟨_,dm,v,hm2,tc,rfl,htc⟩:=hm;have hem:EdB (12+N) e:=by
    have Zr:Mn.chg e∈st.aH.map st.mo:=by rw[e1];simp
    obtain⟨k,hk,ek⟩:=List.mem_map.mp Zr;have:=I.Jj (I.eu k hk);rw[ek]at this;exact this
   have heo:y6 e:=hem.ok (by omega)
   refine gq ?_;refine⟨_,rfl,_,rfl,B,_,_,_,rfl,rfl,hB2,Eo pre ob,ob,A.C 1,dm,_,.ref tc,rfl,hm2,T.cl 1 (by decide),T.na1,rfl,tc,_,_,_,rfl,rfl,htc.sq,Hh hk1,e.th,rfl,?_,λp1 hp1=>?_⟩
   ·have:=heo.th.len;have lim:gr=16777216:=by decide
    omega
   have s3:=aB (o:=.lst ((R.bO e.th).map V.str)) hp1;have s13:=s12.trans s3;refine ixv rfl (SqT.of (s3 _ _ ht2)) rfl ?_;refine⟨p1,te,(R.bO e.th).map V.str,f,rfl,SqL.of ae,fb s13 hte.sq,hmk.ed2,λhf=>?_,λhf=>?_⟩
   ·rw[bo]at hf;refine q ?_ _ s13;unfold xV;dsimp only;rw[he];dsimp only;rw[if_pos hf]
   ·rw[bo]at hf;refine qx .noFit ?_ _ _ _ s13 ⟨⟨rfl,rfl⟩,λ_ z=>nomatch z⟩
    unfold xV;dsimp only;rw[he];dsimp only;rw[if_neg (by rw[hf];decide)]
  |off u =>
   have hv':v=.int u:=hv1 (by simp[Mn.k])
   subst hv';refine⟨_,rfl,rfl,tsf (gU 3 (by decide)) ⟨_,rfl,rfl,tsf (jn 3 (by decide)) ⟨_,rfl,rfl,tst (mO 3 (by decide)) ?_⟩⟩⟩
   refine ixv rfl (SqT.of ht2) rfl (fw rfl X2.ob T.ah T.jq1 jI ⟨_,_,rfl,rfl,_,rfl,iY (λz=>?_) (λz=>?_)⟩)
   ·have z':u<=st.bg:=of_decide_eq_true z;have:=I.sit;refine fw rfl X2.ob T.ah T.jq1 jI ⟨_,rfl,rG (by omega) (by omega),λd hd=>?_⟩
    refine qx (.zb st.bg) ?_ _ _ _ (s12.new hd) ⟨⟨rfl,d,rfl,ae⟩,λ_ z=>by cases z;exact same_none s12 hd⟩
    unfold xV;dsimp only;rw[if_pos z']
   ·have z':¬u<=st.bg:=λy=>z (decide_eq_true y)
    refine q ?_ _ s12;unfold xV;dsimp only;rw[if_neg z']
theorem Vb (T:Txt w.params K mg A):aT P w K mg base CX0 3 A.rp A.jR ["told"] (Sj A K):=ac8 (Hr T) (E5 T)
theorem Sk {i:Nat}{c:Col}{H:Hp}{t:Addr}{m:Mn}{v:V}{Q:VK}{E:XK}(ht:AM i c H t (rowOf m.k v))(hv0:m.k=0->∃L tx,v=.ref L/\m=.mat tx/\Pt i c H L (tx.map V.str))(hv1:m.k≠0->m.Val c H v)
  (q:∀mo H',a9 H H'->oG A (eh c H) H' m mo->Q (.ref mo) H'):Sj A K [.ref t] H Q E:=by
 by_cases h0:m.k=0
 ·obtain⟨L,tx,rfl,rfl,hL⟩:=hv0 h0;refine .inr ⟨t,L,tx.map V.str,rfl,ht.2,SqL.of hL.2,λmo p H' s hm hp hp' hmo=>q mo H' s ?_⟩
  obtain⟨dx,hmo⟩:=hmo;exact⟨dg hm,dx,.ref p,hmo,p,rfl,dg hp,hp'⟩
 ·refine .inl ⟨t,m.k,v,by omega,m.k8,rfl,ht.2,λmo H' s hm hmo=>q mo H' s ?_⟩
  obtain⟨dx,hmo⟩:=hmo;exact⟨dg hm,dx,v,hmo,(hv1 h0).step (Step.cl (W:=λ_=>False) id s)⟩
theorem Vc (T:Txt w.params K mg A){i:Nat}:aT P w K mg base (CXX P w) 7 A.cP A.mE ["self","told"] (Zq A i):=by
 have mh:aT P w K mg base CX0 4 A.nJ A.iI ["deed"] (R.Ht K):=R.tJ T;refine T.ig.okX tQ (λvs H Q E h=>?_) (λcdv A' outer s H vs Q E hr h=>?_)
 ·obtain⟨o,t,c,st,N,d,rfl,_⟩:=h;rfl
 ·obtain⟨o,t,c,st,N,d,rfl,hc,I,hN,hd,hdc,q⟩:=h;obtain⟨dx,aM,aP,aA,aD,aF,aE,aR,ms,ds,ws,fs,es,X⟩:=hc.ex;have hu1:=hr.u1;have lim:gr=16777216:=by decide
  refine⟨_,(au (b8 (qT (px (pv 0)) T.ah T.f6 (tL (i:=i) T) hr T.cx (pax (aa (pv 1) ag))))
 (au (psx (bh (i:=2) tQ.nd rfl (anq rfl) (bY fJ (bT Ph (by rfl) T.l6 iR (aa (bf (pv 0) rfl) ag)) ai)))
 (au (psx (wu hu1 (bf (pv 0) rfl) (pv 2) (bb (Vb T) (hr.mono (by decide)) rfl T.Bl T.p5.kp T.Bk .nil aW (aa (pv 1) ag)) rfl))
 (au (psx (bR (js am9 anu anv dq (bf (pv 0) rfl) (aa (pv 2) ag))))
 (au (psx (bJ (aJ bF (aZ bx (pv 1) ai (λ_ _=>rfl)) aq (aK _))
 (ak (wu hu1 (bf (pv 0) rfl) (pv 2) (dQ cM (by rfl) T.kZ jb (aa (aZ bx (pv 1) ai (λ_ _=>rfl)) ag)) rfl)
 (aj (wu hu1 (bf (pv 0) rfl) (pv 2) (dn ag) rfl)))
 aI))
 (au (psx (bR (js am9 anu anv dq (bf (pv 0) rfl) (aa (bb mh (hr.mono (by decide)) rfl T.qa T.l5.kp T.p9 .nil aW (aa (pv 1) ag)) ag))))
 (aO (psx (aG (pv 2)))))))))),?_⟩
  try dsimp only[bE]
  unfold oM at q;refine mtv rfl X.ob (bX (by trivial)) ⟨_,rfl,o,t,c,st,N,d,rfl,hc,I,hN,hd,hdc,λadS H1 s1=>?_,λx hx C e H1 s1 hat=>?_⟩
  case refine_2 =>
   rw[hx]at q;exact q (eh c H) H1 C e (Step.cl aX s1) (X.cl s1).at hat.1 (λa z=>dg (hat.2 a z))
  refine aS λGq gq=>?_
  rw[adS]at q;have adT:=Zp I hd adS;have X1:=X.same s1;have st1:Step (fm i) c c H H1:=Step.same aX s1;have Zs:=hdc.step st1;obtain⟨v,ht,hv0,hv1⟩:=Ey hd Zs;obtain⟨m,em⟩:∃m,m=ix d:=⟨_,rfl⟩;rw[<-em]at ht hv0 hv1 q;have lm:=I.lm;have lr:=I.lr;have ml:=X1.mot.len;have lp:=I.pil.Ji;rw[bo]at lp;have el:(bp ((anL 1 st.made.length).zip (ms.map V.ref))).length=st.made.length:=by
   unfold bp;rw[bo,aoQ,aol,bo,<-ml,Nat.min_self]
  have en:(((bp ((anL 1 st.made.length).zip (ms.map V.ref))).length:Nat):Int)+1=((st.made.length+1:Nat):Int):=by rw[el];omega
  refine gq ?_;refine fw rfl X1.ob T.ah T.jq2 i5 ⟨aM,_,rfl,X1.made.2,_,_,rfl,rfl,?_⟩;dsimp only[jr];rw[en];refine⟨_,rfl,Sk ht hv0 hv1 λmo H2 s2 hmo=>?_⟩
  have X2:=X1.cl s2;have st2:Step (fm i) c (eh c H1) H1 H2:=Step.cl aX s2;refine fw rfl X2.ob T.ah T.jq2 i5 ⟨_,rfl,aM,_,rfl,BM.k (k:=ma ((st.made.length+1:Nat):Int)) X2.made.2 (by omega),?_⟩
  obtain⟨st3,X3⟩:=X2.UX hmo;have Jm:=st2.trans st3.vz;generalize upd H2 aM (.dK (putK (bp ((anL 1 st.made.length).zip (ms.map V.ref))) (ma ((st.made.length+1:Nat):Int)) (.ref mo)))=H3 at Jm X3 ⊢;clear hmo st2 X2;generalize eh c H1=c3 at Jm X3;refine fw rfl X3.ob T.ah T.jq0 fY ⟨.inl ⟨rfl,_,SqL.of X3.aH.2⟩,_,rfl,aP,_,_,rfl,rfl,X3.aH.2,by rw[bo];show st.aH.length < _;omega,?_⟩
  obtain⟨st4,X4⟩:=X3.push (st.made.length+1);have Py:=Jm.trans st4.vz;have X4':ChX A i c3 (upd H3 aP (.lst (st.aH.map nV++[V.int ((st.made.length+1:Nat):Int)]))) o { st with made:=st.made++[m],aH:=st.aH++[st.made.length+1] } dx aM aP aA aD aF aE aR (ms++[mo]) ds ws fs es:=X4
  have Ga:Step (fm i) c c3 H1 (upd H3 aP (.lst (st.aH.map nV++[V.int ((st.made.length+1:Nat):Int)]))):=Py;clear X4 Py st4;generalize upd H3 aP (.lst (st.aH.map nV++[V.int ((st.made.length+1:Nat):Int)]))=H4 at X4' Ga ⊢;have nf:st.made.length+1∉st.w4:=λz=>by
   have:=(List.mem_filter.mp z).1;rw[aoB]at this;omega
  have ht4:=ht.step Ga
  by_cases h0:m.k=0
  ·obtain⟨L,tx,rfl,rfl,hL⟩:=hv0 h0;have hL4:=hL.step Ga;refine ixv rfl (SqT.of ht4.2) rfl ⟨rfl,tst (Mp 0 (by decide)) ?_⟩
   refine ixv rfl (SqT.of ht4.2) rfl ⟨L,_,rfl,.inl (SqL.of hL4.2),λp hp=>?_⟩
   have lf:st.firsts.length=fs.length:=X4'.first.len;have lff:st.firsts.length<=st.made.length:=by
    have:=congrArg List.length I.ff;rw[bo]at this;rw[this];exact si (aov _ _) (by rw[aol];exact kj _)
   have lkk:st.kept.length<=st.made.length:=by
    have:=congrArg List.length I.kk;rw[bo]at this;rw[this];exact si (aov _ _) (by rw[aol];exact kj _)
   have sp:=aB (o:=.lst (tx.map V.str)) hp;refine fw rfl (sp _ _ X4'.ob) T.ah T.jq4 mM ⟨_,rfl,aF,_,rfl,BM.k (k:=ma ((st.made.length+1:Nat):Int)) (sp _ _ X4'.firsts.2) ?_,?_⟩
   ·unfold bp;rw[bo,aoQ,bo];show min st.firsts.length _ < _;omega
   obtain⟨st5,X5⟩:=X4'.Sa (tx:=tx) hp (n:=st.made.length+1) (by show _∉st.firsts.map (·.1);rw[I.ff];exact nf)
   have X5':ChX A i (aN c3 p (some (i,.oF (st.made.length+1)))) (upd (upd H4 p (.lst (tx.map V.str))) aF (.dK (putK (bp ((st.firsts.map (·.1)).zip fs)) (ma ((st.made.length+1:Nat):Int)) (.ref p)))) o { st with made:=st.made++[.mat tx],aH:=st.aH++[st.made.length+1],firsts:=st.firsts++[(st.made.length+1,tx)] } dx aM aP aA aD aF aE aR (ms++[mo]) ds ws (fs++[.ref p]) es:=X5
   have BU:Step (fm i) c (aN c3 p (some (i,.oF (st.made.length+1)))) H1 (upd (upd H4 p (.lst (tx.map V.str))) aF (.dK (putK (bp ((st.firsts.map (·.1)).zip fs)) (ma ((st.made.length+1:Nat):Int)) (.ref p)))):=Ga.trans st5.vz
   clear X5 st5;generalize aN c3 p (some (i,.oF (st.made.length+1)))=c5 at X5' BU;generalize upd (upd H4 p (.lst (tx.map V.str))) aF (.dK (putK (bp ((st.firsts.map (·.1)).zip fs)) (ma ((st.made.length+1:Nat):Int)) (.ref p)))=H5 at X5' BU ⊢
   refine⟨(sl 0),λp2 hp2=>?_⟩
   have sp2:=aB (o:=.lst []) hp2;refine fw rfl (sp2 _ _ X5'.ob) T.ah T.jq6 oI ⟨_,rfl,aE,_,rfl,BM.k (k:=ma ((st.made.length+1:Nat):Int)) (sp2 _ _ X5'.kz.2) ?_,?_⟩
   ·unfold bp;rw[bo,aoQ,bo];show min st.kept.length _ < _;omega
   obtain⟨st6,X6⟩:=X5'.UZ hp2 (n:=st.made.length+1) (by show _∉st.kept.map (·.1);rw[I.kk];exact nf)
   have adU:=BU.trans st6.vz;have Zt:=Zs.step adU;refine fw rfl X6.ob T.ah T.jqc vC ⟨.inl ⟨rfl,_,SqL.of X6.rows.2⟩,_,rfl,t,d,rfl,Zt.at,adT,λH7 s7=>?_⟩
   have X7:=X6.same s7;obtain⟨st8,X8⟩:=X7.row (R.gi d);refine⟨aR,_,_,rfl,rfl,X7.rows.2,by rw[bo];show st.rows.length < _;omega,_,rfl,?_⟩
   exact q _ _ (((st1.trans adU).trans (Step.same aX s7)).trans st8.vz) X8.at
  ·refine ixv rfl (SqT.of ht4.2) C0 ⟨rfl,tsf ((Mp m.k m.k8).trans (decide_eq_false h0)) ?_⟩;have Zt:=Zs.step Ga;refine fw rfl X4'.ob T.ah T.jqc vC ⟨.inl ⟨rfl,_,SqL.of X4'.rows.2⟩,_,rfl,t,d,rfl,Zt.at,adT,λH7 s7=>?_⟩
   have X7:=X4'.same s7;obtain⟨st8,X8⟩:=X7.row (R.gi d);refine⟨aR,_,_,rfl,rfl,X7.rows.2,by rw[bo];show st.rows.length < _;omega,_,rfl,?_⟩
   have e8:st.moved m (R.gi d)={ st with made:=st.made++[m],aH:=st.aH++[st.made.length+1],rows:=st.rows++[R.gi d] }:=by
    unfold Ch.moved;cases m with
    |mat tx=>exact absurd rfl h0
    |_=>rfl
   rw[e8]at q;exact q _ _ (((st1.trans Ga).trans (Step.same aX s7)).trans st8.vz) X8.at
end
def xt (n:Int):Ch:=⟨n,1,false,[],[],[],[],[],[],[]⟩
def adV (A:Adr):Sp:=λvs H Q _=>∃(o dx:Addr) (n:Int),vs=[.ref o,.int n]/\H o=some (.ins A.ao dx []) /\
 ∀H',(∀(i:Nat) (c:Col),∃c',(∀a v,H a=some v->a≠o->H' a=some v/\c' a=c a)/\dh A i c' H' o (xt n))->Q .non H'
theorem i6 {f:Str}{v:V}:∀ {fs:List (Str×V)},f∉fs.map (·.1)->g9 f v fs=fs++[(f,v)]
 |[],_=>rfl
 | (g,x)::r,h=>by
  rw[g9,if_neg (λz=>h (by rw[<-z];exact kb)),i6 λz=>h (kq _ z)]
  rfl
theorem nxt {H:Hp}{o a C dx:Addr}{fs fs':List (Str×V)}{v:HO}(ho:H o=some (.ins C dx fs))(ha:H a=none) :
  (upd (upd H a v) o (.ins C dx fs')) a=some v/\(upd (upd H a v) o (.ins C dx fs')) o=some (.ins C dx fs')/\a≠o/\∀b u,H b=some u->b≠o->(upd (upd H a v) o (.ins C dx fs')) b=some u/\b≠a:=by
 have na:a≠o:=(aU ho ha).symm;refine⟨(av na).trans ae,ae,na,λb u hb hbo=>?_⟩
 have nb:b≠a:=aU hb ha;exact⟨(av hbo).trans ((av nb).trans hb),nb⟩
section
variable{P:rf}{w:World}{K:ba}{mg:Str->Option Value}{base:Heap}{A:Adr}
theorem Mx (T:Txt w.params K mg A):aT P w K mg base CX0 2 A.cO A.mD ["self","seats"] (adV A):=by
 refine T.ie.ok BN (λvs H Q E h=>?_) (λcdv A' outer s H vs Q E hr h=>?_)
 ·obtain⟨o,dx,n,rfl,_⟩:=h;rfl
 ·obtain⟨o,dx,n,rfl,ho,q⟩:=h;refine⟨_,(ak (fK (pv 0) (pv 1) rfl)
 (ak (fK (pv 0) ai rfl)
 (ak (fK (pv 0) iM rfl)
 (ak (fK (pv 0) yI rfl)
 (ak (fK (pv 0) (dn ag) rfl)
 (ak (fK (pv 0) yI rfl)
 (ak (fK (pv 0) (dn ag) rfl)
 (ak (fK (pv 0) yI rfl)
 (ak (fK (pv 0) yI rfl)
 (aj (fK (pv 0) (dn ag) rfl))))))))))),?_⟩
  try dsimp only[bE]
  refine⟨_,rfl,_,rfl,o,A.ao,dx,_,rfl,ho,T.ah,T.jqs,(by show 0 < 1000;decide),?_⟩
  refine⟨_,rfl,o,A.ao,dx,_,rfl,ae,T.ah,T.jq1,(by show 1 < 1000;decide),?_⟩
  rw[pN];refine⟨_,rfl,o,A.ao,dx,_,rfl,ae,T.ah,T.jq3,(by show 2 < 1000;decide),?_⟩
  rw[pN];have e0:g9 (ar "closed") (V.bl false) (g9 (ar "sitting") (V.int 1) (g9 (ar "seats") (V.int n) []))=[(ar "seats",V.int n),(ar "sitting",V.int 1),(ar "closed",V.bl false)]:=by
   have f1:g9 (ar "seats") (V.int n) []=[(ar "seats",V.int n)]:=rfl;have f2:g9 (ar "sitting") (V.int 1) [(ar "seats",V.int n)]=[(ar "seats",V.int n),(ar "sitting",V.int 1)]:=i6 (by show _∉[ar "seats"];trivial)
   rw[f1,f2];exact i6 (by show _∉[ar "seats",ar "sitting"];trivial)
  rw[e0];have o0:(upd H o (.ins A.ao dx [(ar "seats",V.int n),(ar "sitting",V.int 1),(ar "closed",V.bl false)])) o=some (.ins A.ao dx [(ar "seats",V.int n),(ar "sitting",V.int 1),(ar "closed",V.bl false)]):=ae;have k0:∀b u,H b=some u->b≠o->(upd H o (.ins A.ao dx [(ar "seats",V.int n),(ar "sitting",V.int 1),(ar "closed",V.bl false)])) b=some u:=λb u hb hbo=>(av hbo).trans hb
  generalize upd H o (.ins A.ao dx [(ar "seats",V.int n),(ar "sitting",V.int 1),(ar "closed",V.bl false)])=H0 at o0 k0 ⊢;refineλaM zaM=>?_
  have naM:o≠aM:=aU o0 zaM;refine⟨_,rfl,o,A.ao,dx,_,rfl,(av naM).trans o0,T.ah,T.jq2,(by show 3 < 1000;decide),?_⟩
  have e1:g9 (ar "made") (V.ref aM) [(ar "seats",V.int n),(ar "sitting",V.int 1),(ar "closed",V.bl false)]=[(ar "seats",V.int n),(ar "sitting",V.int 1),(ar "closed",V.bl false),(ar "made",V.ref aM)]:=i6 (by show _∉[ar "seats",ar "sitting",ar "closed"];trivial)
  rw[e1];refine aS λGq gq=>?_
  obtain⟨yaM,o1,_,waM⟩:=nxt (v:=.dK []) (fs':=[(ar "seats",V.int n),(ar "sitting",V.int 1),(ar "closed",V.bl false),(ar "made",V.ref aM)]) o0 zaM;have k1:=λb u (hb:H b=some u) (hbo:b≠o)=>waM b u (k0 b u hb hbo) hbo
  refine gq ?_;generalize upd (upd H0 aM (.dK [])) o (.ins A.ao dx [(ar "seats",V.int n),(ar "sitting",V.int 1),(ar "closed",V.bl false),(ar "made",V.ref aM)])=H1 at o1 k1 waM yaM ⊢;clear waM;refine⟨(sl 0),λaP zaP=>?_⟩
  have naP:o≠aP:=aU o1 zaP;refine⟨_,rfl,o,A.ao,dx,_,rfl,(av naP).trans o1,T.ah,T.jq0,(by show 4 < 1000;decide),?_⟩
  have e2:g9 (ar "pile") (V.ref aP) [(ar "seats",V.int n),(ar "sitting",V.int 1),(ar "closed",V.bl false),(ar "made",V.ref aM)]=[(ar "seats",V.int n),(ar "sitting",V.int 1),(ar "closed",V.bl false),(ar "made",V.ref aM),(ar "pile",V.ref aP)]:=i6 (by show _∉[ar "seats",ar "sitting",ar "closed",ar "made"];trivial)
  rw[e2];refine aS λGq gq=>?_
  obtain⟨yaP,o2,_,waP⟩:=nxt (v:=.lst []) (fs':=[(ar "seats",V.int n),(ar "sitting",V.int 1),(ar "closed",V.bl false),(ar "made",V.ref aM),(ar "pile",V.ref aP)]) o1 zaP;obtain⟨yaM,adW⟩:=waP _ _ yaM (anj naM);have k2:=λb u (hb:H b=some u) (hbo:b≠o)=>waP b u ((k1 b u hb hbo).1) hbo
  refine gq ?_;generalize upd (upd H1 aP (.lst [])) o (.ins A.ao dx [(ar "seats",V.int n),(ar "sitting",V.int 1),(ar "closed",V.bl false),(ar "made",V.ref aM),(ar "pile",V.ref aP)])=H2 at o2 k2 waP yaM yaP ⊢;clear waP;refineλaA zaA=>?_
  have naA:o≠aA:=aU o2 zaA;refine⟨_,rfl,o,A.ao,dx,_,rfl,(av naA).trans o2,T.ah,T.jq5,(by show 5 < 1000;decide),?_⟩
  have e3:g9 (ar "aside") (V.ref aA) [(ar "seats",V.int n),(ar "sitting",V.int 1),(ar "closed",V.bl false),(ar "made",V.ref aM),(ar "pile",V.ref aP)]=[(ar "seats",V.int n),(ar "sitting",V.int 1),(ar "closed",V.bl false),(ar "made",V.ref aM),(ar "pile",V.ref aP),(ar "aside",V.ref aA)]:=i6 (by show _∉[ar "seats",ar "sitting",ar "closed",ar "made",ar "pile"];trivial)
  rw[e3];refine aS λGq gq=>?_
  obtain⟨yaA,o3,_,waA⟩:=nxt (v:=.dK []) (fs':=[(ar "seats",V.int n),(ar "sitting",V.int 1),(ar "closed",V.bl false),(ar "made",V.ref aM),(ar "pile",V.ref aP),(ar "aside",V.ref aA)]) o2 zaA;obtain⟨yaM,adX⟩:=waA _ _ yaM (anj naM);obtain⟨yaP,adY⟩:=waA _ _ yaP (anj naP);have k3:=λb u (hb:H b=some u) (hbo:b≠o)=>waA b u ((k2 b u hb hbo).1) hbo
  refine gq ?_;generalize upd (upd H2 aA (.dK [])) o (.ins A.ao dx [(ar "seats",V.int n),(ar "sitting",V.int 1),(ar "closed",V.bl false),(ar "made",V.ref aM),(ar "pile",V.ref aP),(ar "aside",V.ref aA)])=H3 at o3 k3 waA yaM yaP yaA ⊢;clear waA;refine⟨(sl 0),λaD zaD=>?_⟩
  have naD:o≠aD:=aU o3 zaD;refine⟨_,rfl,o,A.ao,dx,_,rfl,(av naD).trans o3,T.ah,T.jqk,(by show 6 < 1000;decide),?_⟩
  have e4:g9 (ar "decided") (V.ref aD) [(ar "seats",V.int n),(ar "sitting",V.int 1),(ar "closed",V.bl false),(ar "made",V.ref aM),(ar "pile",V.ref aP),(ar "aside",V.ref aA)]=[(ar "seats",V.int n),(ar "sitting",V.int 1),(ar "closed",V.bl false),(ar "made",V.ref aM),(ar "pile",V.ref aP),(ar "aside",V.ref aA),(ar "decided",V.ref aD)]:=i6 (by show _∉[ar "seats",ar "sitting",ar "closed",ar "made",ar "pile",ar "aside"];trivial)
  rw[e4];refine aS λGq gq=>?_
  obtain⟨yaD,o4,_,waD⟩:=nxt (v:=.lst []) (fs':=[(ar "seats",V.int n),(ar "sitting",V.int 1),(ar "closed",V.bl false),(ar "made",V.ref aM),(ar "pile",V.ref aP),(ar "aside",V.ref aA),(ar "decided",V.ref aD)]) o3 zaD;obtain⟨yaM,adZ⟩:=waD _ _ yaM (anj naM);obtain⟨yaP,ad0⟩:=waD _ _ yaP (anj naP);obtain⟨yaA,ad1⟩:=waD _ _ yaA (anj naA);have k4:=λb u (hb:H b=some u) (hbo:b≠o)=>waD b u ((k3 b u hb hbo).1) hbo
  refine gq ?_;generalize upd (upd H3 aD (.lst [])) o (.ins A.ao dx [(ar "seats",V.int n),(ar "sitting",V.int 1),(ar "closed",V.bl false),(ar "made",V.ref aM),(ar "pile",V.ref aP),(ar "aside",V.ref aA),(ar "decided",V.ref aD)])=H4 at o4 k4 waD yaM yaP yaA yaD ⊢;clear waD;refineλaF zaF=>?_
  have naF:o≠aF:=aU o4 zaF;refine⟨_,rfl,o,A.ao,dx,_,rfl,(av naF).trans o4,T.ah,T.jq4,(by show 7 < 1000;decide),?_⟩
  have e5:g9 (ar "first_texts") (V.ref aF) [(ar "seats",V.int n),(ar "sitting",V.int 1),(ar "closed",V.bl false),(ar "made",V.ref aM),(ar "pile",V.ref aP),(ar "aside",V.ref aA),(ar "decided",V.ref aD)]=[(ar "seats",V.int n),(ar "sitting",V.int 1),(ar "closed",V.bl false),(ar "made",V.ref aM),(ar "pile",V.ref aP),(ar "aside",V.ref aA),(ar "decided",V.ref aD),(ar "first_texts",V.ref aF)]:=i6 (by show _∉[ar "seats",ar "sitting",ar "closed",ar "made",ar "pile",ar "aside",ar "decided"];trivial)
  rw[e5];refine aS λGq gq=>?_
  obtain⟨yaF,o5,_,waF⟩:=nxt (v:=.dK []) (fs':=[(ar "seats",V.int n),(ar "sitting",V.int 1),(ar "closed",V.bl false),(ar "made",V.ref aM),(ar "pile",V.ref aP),(ar "aside",V.ref aA),(ar "decided",V.ref aD),(ar "first_texts",V.ref aF)]) o4 zaF;obtain⟨yaM,ad2⟩:=waF _ _ yaM (anj naM);obtain⟨yaP,ad3⟩:=waF _ _ yaP (anj naP);obtain⟨yaA,ad4⟩:=waF _ _ yaA (anj naA);obtain⟨yaD,ad5⟩:=waF _ _ yaD (anj naD);have k5:=λb u (hb:H b=some u) (hbo:b≠o)=>waF b u ((k4 b u hb hbo).1) hbo
  refine gq ?_;generalize upd (upd H4 aF (.dK [])) o (.ins A.ao dx [(ar "seats",V.int n),(ar "sitting",V.int 1),(ar "closed",V.bl false),(ar "made",V.ref aM),(ar "pile",V.ref aP),(ar "aside",V.ref aA),(ar "decided",V.ref aD),(ar "first_texts",V.ref aF)])=H5 at o5 k5 waF yaM yaP yaA yaD yaF ⊢;clear waF;refineλaE zaE=>?_
  have naE:o≠aE:=aU o5 zaE;refine⟨_,rfl,o,A.ao,dx,_,rfl,(av naE).trans o5,T.ah,T.jq6,(by show 8 < 1000;decide),?_⟩
  have e6:g9 (ar "edits_kept") (V.ref aE) [(ar "seats",V.int n),(ar "sitting",V.int 1),(ar "closed",V.bl false),(ar "made",V.ref aM),(ar "pile",V.ref aP),(ar "aside",V.ref aA),(ar "decided",V.ref aD),(ar "first_texts",V.ref aF)]=[(ar "seats",V.int n),(ar "sitting",V.int 1),(ar "closed",V.bl false),(ar "made",V.ref aM),(ar "pile",V.ref aP),(ar "aside",V.ref aA),(ar "decided",V.ref aD),(ar "first_texts",V.ref aF),(ar "edits_kept",V.ref aE)]:=i6 (by show _∉[ar "seats",ar "sitting",ar "closed",ar "made",ar "pile",ar "aside",ar "decided",ar "first_texts"];trivial)
  rw[e6];refine aS λGq gq=>?_
  obtain⟨yaE,o6,_,waE⟩:=nxt (v:=.dK []) (fs':=[(ar "seats",V.int n),(ar "sitting",V.int 1),(ar "closed",V.bl false),(ar "made",V.ref aM),(ar "pile",V.ref aP),(ar "aside",V.ref aA),(ar "decided",V.ref aD),(ar "first_texts",V.ref aF),(ar "edits_kept",V.ref aE)]) o5 zaE;obtain⟨yaM,ad6⟩:=waE _ _ yaM (anj naM);obtain⟨yaP,ad7⟩:=waE _ _ yaP (anj naP);obtain⟨yaA,ad8⟩:=waE _ _ yaA (anj naA);obtain⟨yaD,ad9⟩:=waE _ _ yaD (anj naD);obtain⟨yaF,aea⟩:=waE _ _ yaF (anj naF);have k6:=λb u (hb:H b=some u) (hbo:b≠o)=>waE b u ((k5 b u hb hbo).1) hbo
  refine gq ?_;generalize upd (upd H5 aE (.dK [])) o (.ins A.ao dx [(ar "seats",V.int n),(ar "sitting",V.int 1),(ar "closed",V.bl false),(ar "made",V.ref aM),(ar "pile",V.ref aP),(ar "aside",V.ref aA),(ar "decided",V.ref aD),(ar "first_texts",V.ref aF),(ar "edits_kept",V.ref aE)])=H6 at o6 k6 waE yaM yaP yaA yaD yaF yaE ⊢;clear waE;refine⟨(sl 0),λaR zaR=>?_⟩
  have naR:o≠aR:=aU o6 zaR;refine⟨_,rfl,o,A.ao,dx,_,rfl,(av naR).trans o6,T.ah,T.jqc,(by show 9 < 1000;decide),?_⟩
  have e7:g9 (ar "rows") (V.ref aR) [(ar "seats",V.int n),(ar "sitting",V.int 1),(ar "closed",V.bl false),(ar "made",V.ref aM),(ar "pile",V.ref aP),(ar "aside",V.ref aA),(ar "decided",V.ref aD),(ar "first_texts",V.ref aF),(ar "edits_kept",V.ref aE)]=[(ar "seats",V.int n),(ar "sitting",V.int 1),(ar "closed",V.bl false),(ar "made",V.ref aM),(ar "pile",V.ref aP),(ar "aside",V.ref aA),(ar "decided",V.ref aD),(ar "first_texts",V.ref aF),(ar "edits_kept",V.ref aE),(ar "rows",V.ref aR)]:=i6 (by show _∉[ar "seats",ar "sitting",ar "closed",ar "made",ar "pile",ar "aside",ar "decided",ar "first_texts",ar "edits_kept"];trivial)
  rw[e7];refine aS λGq gq=>?_
  obtain⟨yaR,o7,_,waR⟩:=nxt (v:=.lst []) (fs':=[(ar "seats",V.int n),(ar "sitting",V.int 1),(ar "closed",V.bl false),(ar "made",V.ref aM),(ar "pile",V.ref aP),(ar "aside",V.ref aA),(ar "decided",V.ref aD),(ar "first_texts",V.ref aF),(ar "edits_kept",V.ref aE),(ar "rows",V.ref aR)]) o6 zaR;obtain⟨yaM,aeb⟩:=waR _ _ yaM (anj naM);obtain⟨yaP,aec⟩:=waR _ _ yaP (anj naP);obtain⟨yaA,aed⟩:=waR _ _ yaA (anj naA);obtain⟨yaD,aee⟩:=waR _ _ yaD (anj naD);obtain⟨yaF,aef⟩:=waR _ _ yaF (anj naF);obtain⟨yaE,aeg⟩:=waR _ _ yaE (anj naE);have k7:=λb u (hb:H b=some u) (hbo:b≠o)=>waR b u ((k6 b u hb hbo).1) hbo
  refine gq ?_;generalize upd (upd H6 aR (.lst [])) o (.ins A.ao dx [(ar "seats",V.int n),(ar "sitting",V.int 1),(ar "closed",V.bl false),(ar "made",V.ref aM),(ar "pile",V.ref aP),(ar "aside",V.ref aA),(ar "decided",V.ref aD),(ar "first_texts",V.ref aF),(ar "edits_kept",V.ref aE),(ar "rows",V.ref aR)])=H7 at o7 k7 waR yaM yaP yaA yaD yaF yaE yaR ⊢;clear waR;refine q H7 λi c=>⟨aN (aN (aN (aN (aN (aN (aN (aN c o (some (i,Rl.ob))) aM (some (i,Rl.made))) aP (some (i,Rl.aH))) aA (some (i,Rl.aV))) aD (some (i,Rl.decided))) aF (some (i,Rl.firsts))) aE (some (i,Rl.kept))) aR (some (i,Rl.rows)),λb u hb hbo=>⟨(k7 b u hb hbo).1,?_⟩,⟨dx,aM,aP,aA,aD,aF,aE,aR,[],[],[],[],[],?_⟩⟩
  ·rw[aC (k7 b u hb hbo).2,aC (k6 b u hb hbo).2,aC (k5 b u hb hbo).2,aC (k4 b u hb hbo).2,aC (k3 b u hb hbo).2,aC (k2 b u hb hbo).2,aC (k1 b u hb hbo).2,aC hbo]
  ·exact⟨by rw[aC naR,aC naE,aC naF,aC naD,aC naA,aC naP,aC naM,bt],o7,⟨by rw[aC aeb,aC ad6,aC ad2,aC adZ,aC adX,aC adW,bt],yaM⟩,.nil,⟨by rw[aC aec,aC ad7,aC ad3,aC ad0,aC adY,bt],yaP⟩,⟨by rw[aC aed,aC ad8,aC ad4,aC ad1,bt],yaA⟩,.nil,⟨by rw[aC aee,aC ad9,aC ad5,bt],yaD⟩,.nil,⟨by rw[aC aef,aC aea,bt],yaF⟩,.nil,⟨by rw[aC aeg,bt],yaE⟩,.nil,⟨by rw[bt],yaR⟩⟩
end
def akY (A:Adr)(i:Nat):Sp:=λvs H Q _=>∃(o:Addr) (n:Nat) (c:Col) (st:Ch) (x:Nat×Int×List Nat),vs=[.ref o,nV n]/\dh A i c H o st/\at1 n st.aV=some x /\
 ∀l u H',H l=none->H u=none->a9 H H'->H' l=some (.lst (x.2.2.map nV))->H' u=some (.tup [nV n,.int x.2.1,.ref l])->Q (.ref u) H'
def BB (ns:List Nat):PyData:=.list (ns.map λn:Nat=>.int (n:Int))
def asD (x:Nat×Int×List Nat):PyData:=.tuple [.int (x.1:Int),.int x.2.1,BB x.2.2]
def dcD (x:Nat×Str):PyData:=.tuple [.int (x.1:Int),.str x.2]
def Jn (st:Ch)(n:Int):Nat×Int×List Nat:=(at1 n.toNat st.aV).getD (0,0,[])
def stD (st:Ch)(ns:List Int):PyData:=.tuple [.int st.bg,.bool st.closed,BB st.aH,.list (ns.map λn=>asD (Jn st n)),.list (st.decided.map dcD)]
def OC (A:Adr)(K:ba)(i:Nat):Sp:=λvs H Q _=>∃(o:Addr) (c:Col) (st:Ch),vs=[.ref o]/\dh A i c H o st/\st.aV.length < 64/\st.aH.length<=1000/\st.decided.length<=1000 /\
 ∀(ns:List Int) (u:Addr) (H':Hp),List.Perm ns (st.aV.map λx=>(x.1:Int))->ns.Pairwise (·<=·)->a9 H H'->DV K H' (stD st ns) (.ref u)->Q (.ref u) H'
def mnD:Mn->PyData
 | .mat tx=>.tuple [.str (nm 0),.list (tx.map anG)]
 | .chg e=>.tuple [.str (nm 1),edD e]
 | .mnd e=>.tuple [.str (nm 2),edD e]
 | .off u=>.tuple [.str (nm 3),.int u]
 | .cls=>.tuple [.str (nm 4)]
 | .lay=>.tuple [.str (nm 5)]
 | .rst=>.tuple [.str (nm 6)]
 | .pnt z=>.tuple [.str (nm 7),.str z]
theorem OD {α:Type}{K:ba}{H:Hp}{f:α->PyData}{g:α->V}:∀ {xs:List α},(∀x∈xs,DV K H (f x) (g x))->DVs K H (xs.map f) (xs.map g)
 |[],_=>by unfold DVs;rfl
 |x::xs,h=>by
  rw[ku,ku];unfold DVs;exact⟨g x,xs.map g,rfl,h x kb,OD λy hy=>h y (kq _ hy)⟩
theorem OE {K:ba}{H:Hp}{a:Addr}{ns:List Nat}(h:SqL K H a (ns.map nV)):DV K H (BB ns) (.ref a):=by
 unfold BB DV;exact⟨a,_,rfl,h,OD (f:=λn:Nat=>PyData.int (n:Int)) (g:=nV) λn _=>by unfold DV;rfl⟩
theorem bI.dvs {α:Type}{K:ba}{H:Hp}{f:α->PyData}{R:α->V->Prop}(g:∀x v,R x v->DV K H (f x) v):∀ {xs:List α} {vs:List V},bI R xs vs->DVs K H (xs.map f) vs
 |_,_,.nil=>by unfold DVs;rfl
 |_,_,.cons h t=>by
  rw[ku];unfold DVs;exact⟨_,_,rfl,g _ _ h,t.dvs g⟩
theorem bI.mapR {α β γ:Type}{R:α->γ->Prop}{f:β->γ}:∀ {xs:List α} {ys:List β},bI (λa b=>R a (f b)) xs ys->bI R xs (ys.map f)
 |_,_,.nil=>.nil
 |_,_,.cons h t=>.cons h t.mapR
def E8 (H:Hp)(R:Addr)(x:Nat×Int×List Nat)(v:V):Prop:=∃u l,v=.ref u/\u≠R/\l≠R/\H u=some (.tup [nV x.1,.int x.2.1,.ref l])/\H l=some (.lst (x.2.2.map nV))
theorem E8.same {H H':Hp}{R:Addr}{x:Nat×Int×List Nat}{v:V}(s:a9 H H'):E8 H R x v->E8 H' R x v
 |⟨u,l,e,h1,h2,h3,h4⟩=>⟨u,l,e,h1,h2,s _ _ h3,s _ _ h4⟩
theorem E8.upd {H:Hp}{R:Addr}{o:HO}{x:Nat×Int×List Nat}{v:V}:E8 H R x v->E8 (L2.upd H R o) R x v
 |⟨u,l,e,h1,h2,h3,h4⟩=>⟨u,l,e,h1,h2,(av h1).trans h3,(av h2).trans h4⟩
theorem E8.dv {K:ba}{H:Hp}{R:Addr}{x:Nat×Int×List Nat}{v:V}:E8 H R x v->DV K H (asD x) v
 |⟨u,l,e,h1,h2,h3,h4⟩=>by
  unfold asD DV;refine⟨u,_,e,SqT.of h3,?_⟩;unfold DVs;refine⟨_,_,rfl,by unfold DV;rfl,?_⟩
  unfold DVs;refine⟨_,_,rfl,by unfold DV;rfl,?_⟩
  unfold DVs;exact⟨_,_,rfl,OE (SqL.of h4),by unfold DVs;rfl⟩
section
variable{P:rf}{w:World}{K:ba}{mg:Str->Option Value}{base:Heap}{A:Adr}
theorem E9 (T:Txt w.params K mg A){i:Nat}:aT P w K mg base CX0 1 A.bK A.gQ ["self","number"] (akY A i):=by
 refine T.dP.ok kh (λvs H Q E h=>?_) (λcdv A' outer s H vs Q E hr h=>?_)
 ·obtain⟨o,n,c,st,x,rfl,_⟩:=h;rfl
 ·obtain⟨o,n,c,st,x,rfl,hc,hx,q⟩:=h;obtain⟨dx,aM,aP,aA,aD,aF,aE,aR,ms,ds,ws,fs,es,X⟩:=hc.ex;have hu1:=hr.u1;refine⟨_,(ak (bh (i:=2) kh.nd rfl (anq rfl) (lN hu1 (bf (pv 0) rfl) (pv 1) (λ_ _=>rfl)))
 (aj (aG (cI (aa (pv 1) (aa (aZ bx (pv 2) ai (λ_ _=>rfl)) (aa (dQ cM (by rfl) T.kZ jb (aa (aZ bx (pv 2) ai (λ_ _=>rfl)) ag)) ag))))))),?_⟩
  try dsimp only[bE]
  refine aS λGq gq=>?_
  obtain⟨t,p,hv,ht,hl⟩:=X.waitOf hx;refine gq ?_;refine⟨_,rfl,o,A.ao,dx,_,.ref aA,rfl,X.ob,T.ah,T.jq5,lj,_,rfl,aA,_,rfl,.inl ⟨_,ma (n:Int),.inl X.aV.2,rfl,hv.symm⟩,?_⟩;refine⟨_,rfl,_,rfl,t,_,_,_,rfl,rfl,ht.sq,rfl,_,rfl,t,_,_,_,rfl,rfl,ht.sq,rfl,p,_,rfl,.inl (SqL.of hl.2),λl hl0=>⟨(sl 3),λu hu=>?_⟩⟩
  have nul:u≠l:=λz=>by rw[z,ae]at hu;cases hu
  have hu0:H u=none:=by rw[av nul]at hu;exact hu
  exact q l u _ hl0 hu0 ((aB hl0).new hu) ((av (anj nul)).trans ae) ae
theorem Sl (T:Txt w.params K mg A){i:Nat}:aT P w K mg base CX0 2 A.cc A.iJ ["self"] (OC A K i):=by
 refine T.gj.ok Ac (λvs H Q E h=>?_) (λcdv A' outer s H vs Q E hr h=>?_)
 ·obtain⟨o,c,st,rfl,_⟩:=h;rfl
 ·obtain⟨o,c,st,rfl,hc,hal,hpl,hdl,q⟩:=h;obtain⟨dx,aM,aP,aA,aD,aF,aE,aR,ms,ds,ws,fs,es,X⟩:=hc.ex;have lim:gr=16777216:=by decide
  refine⟨_,(ak (xA (i:=1) (scope:=mR) xB rfl rfl (anq rfl) (jL (bT (GL hr.hd) (by rfl) T.IS Pj (aa (bf (pv 0) rfl) ag))) (λ_ _ _ _ _=>(f7 (pv 1) T.ah T.l7 (E9 (i:=i) T) hr T.fj .nil aW (aa (pv 0) ag))))
 (aj (aG (cI (aa (bf (pv 0) rfl) (aa (bf (pv 0) rfl) (aa (dQ cM (by rfl) T.kZ jb (aa (bf (pv 0) rfl) ag)) (aa (pv 1) (aa (dQ cM (by rfl) T.kZ jb (aa (bf (pv 0) rfl) ag)) ag))))))))),?_⟩
  try dsimp only[bE]
  have wl:=X.wait.len;have aeh:(bp ((st.aV.map (·.1)).zip ws)).map (·.1)=(st.aV.map λx=>(x.1:Int)).map ma:=by
   have:∀(as:List (Nat×Int×List Nat)) (ws:List V),as.length=ws.length->(bp ((as.map (·.1)).zip ws)).map (·.1)=(as.map λx=>(x.1:Int)).map ma:=by
    intro as
    induction as with
    |nil=>intro ws _;cases ws <;> rfl
    |cons a as ih =>
     intro ws h;cases ws with
     |nil=>cases h
     |cons w ws =>
      rw[ku,dG,ku,ih ws (by simpa using h)]
      rfl
   exact this _ _ wl
  refine fw rfl X.ob T.ah T.jq5 lj ⟨aA,_,_,rfl,X.aV.2,aeh,by rw[bo];exact hal,λl0 ns pm so hl0=>?_⟩
  have nl:ns.length=st.aV.length:=by rw[pm.length_eq,bo]
  have s0:=aB (o:=.lst (ns.map V.int)) hl0;have hB:SqL K (upd H l0 (.lst (ns.map V.int))) l0 (ns.map V.int):=SqL.of ae;generalize upd H l0 (.lst (ns.map V.int))=H1 at s0 hB ⊢;refine⟨l0,rfl,⟨_,hB⟩,λR hR=>?_⟩
  refine kG (K:=K) (a:=l0) (xs:=ns.map V.int) (λj ys H2=>a9 H1 H2/\H2 R=some (.lst ys)/\bI (E8 H2 R) ((ns.take j).map (Jn st)) ys) ⟨aB hR,ae,.nil⟩ (by rw[bo];omega) ?_ ?_ ?_
  ·rintro j ys H2 hj ⟨s2,hR2,ha⟩;refine⟨s2.seq hB,hR2,?_⟩;rw[<-ha.len,bo,anC];rw[bo]at hj;omega
  ·rintro j y ys H2 hy ⟨s2,hR2,ha⟩;refine aS λGq gq=>?_
   obtain⟨n,hn1,rfl⟩:∃n,ns[j]?=some n/\V.int n=y:=by
    rw[ant]at hy;cases ht:ns[j]? with
    |none=>rw[ht]at hy;cases hy
    |some t=>rw[ht]at hy;exact⟨t,rfl,anb hy⟩
   have Zr:n∈st.aV.map λx=>(x.1:Int):=pm.mem_iff.mp (anh hn1)
   obtain⟨x0,hx0,e0⟩:=List.mem_map.mp Zr;obtain⟨x,hx⟩:∃x,at1 x0.1 st.aV=some x:=by
    cases z:at1 x0.1 st.aV with
    |some x=>exact⟨x,rfl⟩
    |none=>exact absurd (List.mem_map_of_mem hx0) (zf z)
   have e0':((x0.1:Nat):Int)=n:=e0;subst e0';have X2:=X.same (s0.trans s2);have ea:Jn st ((x0.1:Nat):Int)=x:=by unfold Jn;rw[Int.toNat_natCast,hx];rfl
   refine gq ?_;refine mtv rfl X2.ob (bX (by trivial)) ⟨_,rfl,o,x0.1,c,st,x,rfl,X2.at,hx,λl u H3 hl hu s3 h1 h2=>?_⟩
   have hR3:=s3 _ _ hR2;refine cB.mk (List.getElem?_eq_some_iff.mp hy).1 hR3 ⟨(s2.trans s3).own hR,ae,?_⟩;rw[aoL,hn1,ky];refine bI.snoc (ha.imp λ_ _ z=>(z.same s3).upd) ?_
   rw[ea];refine E8.upd ⟨u,l,rfl,(λz=>by rw[z,hR2]at hu;cases hu),(λz=>by rw[z,hR2]at hl;cases hl),?_,h1⟩
   rw[(nr hx).1];exact h2
  ·rintro ys H2 ⟨s2,hR2,ha⟩;rw[bo,an8]at ha;have s02:=s0.trans s2;have X2:=X.same s02;refine fw rfl X2.ob T.ah T.jq1 jI (fw rfl X2.ob T.ah T.jq3 oH (fw rfl X2.ob T.ah T.jq0 fY ⟨aP,_,rfl,.inl (SqL.of X2.aH.2),λl1 hl1=>?_⟩))
   have s3:=aB (o:=.lst (st.aH.map nV)) hl1;have X3:=X2.same s3;refine⟨_,rfl,fw rfl X3.ob T.ah T.jqk By ⟨aD,_,rfl,.inl (SqL.of X3.dec.2),λl2 hl2=>⟨(sl 5),λu hu=>?_⟩⟩⟩
   have s4:=aB (o:=.lst (ds.map V.ref)) hl2;have s5:=aB (o:=.tup [V.int st.bg,.bl st.closed,.ref l1,.ref R,.ref l2]) hu;refine q ns u _ pm so (((s02.trans s3).trans s4).trans s5) ?_;have X5:=X3.same (s4.trans s5);unfold stD DV;refine⟨u,_,rfl,SqT.of ae,?_⟩;unfold DVs;refine⟨_,_,rfl,by unfold DV;rfl,?_⟩
   unfold DVs;refine⟨_,_,rfl,by unfold DV;rfl,?_⟩
   unfold DVs;refine⟨_,_,rfl,OE (SqL.of ((s4.trans s5) _ _ ae)),?_⟩;unfold DVs;refine⟨_,_,rfl,?_,?_⟩
   ·unfold DV;refine⟨R,ys,rfl,SqL.of (((s3.trans s4).trans s5) _ _ hR2),?_⟩;rw[show (ns.map λn=>asD (Jn st n))=(ns.map (Jn st)).map asD by rw[List.map_map];rfl]
    exact bI.dvs (λx v h=>h.dv) (ha.imp λ_ _ z=>z.same ((s3.trans s4).trans s5))
   ·unfold DVs;refine⟨_,_,rfl,?_,by unfold DVs;rfl⟩
    unfold DV;refine⟨l2,_,rfl,SqL.of (s5 _ _ ae),?_⟩;refine bI.dvs (R:=λ(x:Nat×Str) v=>∃t,v=.ref t/\TupAt c _ t [nV x.1,.str x.2]) ?_ (bI.mapR (X5.BR.imp λx t h=>⟨t,rfl,h⟩))
    rintro x v ⟨t,rfl,h⟩;unfold dcD DV;refine⟨t,_,rfl,h.sq,?_⟩;unfold DVs;refine⟨_,_,rfl,by unfold DV;rfl,?_⟩
    unfold DVs;exact⟨_,_,rfl,by unfold DV;rfl,by unfold DVs;rfl⟩
theorem Zu {c:Col}{H:Hp}{v:V}{t:Addr}:∀ {m:Mn},1<=m.k->m.Val c H v->SqT K H t (rowOf m.k v)->DV K H (mnD m) (.ref t)
 | .mat _,h,_,_=>absurd h (by simp[Mn.k])
 | .chg e,_,⟨te,ev,hte⟩,ht=>by
  subst ev;unfold mnD DV;refine⟨t,_,rfl,ht,?_⟩;unfold DVs;refine⟨_,_,rfl,by unfold DV;rfl,?_⟩
  unfold DVs;exact⟨_,_,rfl,Eb e hte.sq,by unfold DVs;rfl⟩
 | .mnd e,_,⟨te,ev,hte⟩,ht=>by
  subst ev;unfold mnD DV;refine⟨t,_,rfl,ht,?_⟩;unfold DVs;refine⟨_,_,rfl,by unfold DV;rfl,?_⟩
  unfold DVs;exact⟨_,_,rfl,Eb e hte.sq,by unfold DVs;rfl⟩
 | .off u,_,ev,ht=>by
  have ev':v=.int u:=ev;subst ev';unfold mnD DV;refine⟨t,_,rfl,ht,?_⟩;unfold DVs;refine⟨_,_,rfl,by unfold DV;rfl,?_⟩
  unfold DVs;exact⟨_,_,rfl,by unfold DV;rfl,by unfold DVs;rfl⟩
 | .pnt z,_,ev,ht=>by
  have ev':v=.str z:=ev;subst ev';unfold mnD DV;refine⟨t,_,rfl,ht,?_⟩;unfold DVs;refine⟨_,_,rfl,by unfold DV;rfl,?_⟩
  unfold DVs;exact⟨_,_,rfl,by unfold DV;rfl,by unfold DVs;rfl⟩
 | .cls,_,_,ht=>by
  unfold mnD DV;refine⟨t,_,rfl,ht,?_⟩;unfold DVs;exact⟨_,_,rfl,by unfold DV;rfl,by unfold DVs;rfl⟩
 | .lay,_,_,ht=>by
  unfold mnD DV;refine⟨t,_,rfl,ht,?_⟩;unfold DVs;exact⟨_,_,rfl,by unfold DV;rfl,by unfold DVs;rfl⟩
 | .rst,_,_,ht=>by
  unfold mnD DV;refine⟨t,_,rfl,ht,?_⟩;unfold DVs;exact⟨_,_,rfl,by unfold DV;rfl,by unfold DVs;rfl⟩
end
def cK (st:Ch):R.bG->Rs×Ch
 | .nums kd ns=>if kd=ar "vote" then oK st (ns.getD 0 0) (ns.getD 1 0) else if kd=ar "drop" then rK st else if kd=ar "take" then stepT st (ns.getD 0 0).toNat else oM st (ix (.nums kd ns)) (R.gi (.nums kd ns))
 |d=>oM st (ix d) (R.gi d)
inductive rL:R.bG->Prop
 |Fb {a b:Int}:(0<=a/\a < 10 ^ 10)->(0<=b/\b < 10 ^ 10)->rL (.nums (ar "vote") [a,b])
 |drop:rL (.nums (ar "drop") [])
 |take {z:Int}:-1<=z->z < 10 ^ 10->rL (.nums (ar "take") [z])
 |move {d:R.bG}:Ex d->rL d
theorem lq {st:Ch}{a b:Int}:cK st (.nums (ar "vote") [a,b])=oK st a b:=by rw[cK,if_pos rfl];rfl
theorem lu {st:Ch}:cK st (.nums (ar "drop") [])=rK st:=by rw[cK,if_neg (by trivial),if_pos rfl]
theorem lx {st:Ch}{z:Int}:cK st (.nums (ar "take") [z])=stepT st z.toNat:=by
 rw[cK,if_neg (by trivial),if_neg (by trivial),if_pos rfl]
 rfl
theorem lz {st:Ch}{d:R.bG}(h:Ex d):cK st d=oM st (ix d) (R.gi d):=by
 cases d with
 |nums kd ns =>
  rcases nv h.1 with ⟨u,rfl,rfl⟩ | ⟨rfl,rfl⟩ | ⟨rfl,rfl⟩ | ⟨rfl,rfl⟩ <;> rw[cK,if_neg (by trivial),if_neg (by trivial),if_neg (by trivial)]
 |_=>rfl
theorem Inv.cK {N:Nat}{st:Ch}(I:Inv N st)(hN:N<=800){d:R.bG}(h:rL d):Inv (N+3) (cK st d).2:=by
 cases h with
 |Fb=>rw[lq];exact I.oK hN _ _
 |drop=>rw[lu];exact I.rK
 |take=>rw[lx];exact I.stepT _
 |move h=>rw[lz h];exact I.oM (Mw h) _
theorem vJ {W:Option (Nat×Rl)->Prop}{c c':Col}{H H':Hp}(s:Step W c c' H H'){a:Addr}{v:HO}(h:c a=none)(hv:H a=some v):c' a=none/\H' a=some v:=by
 have hn:¬W (c a):=by rw[h];exact s.nn
 exact⟨by rw[s.col a _ hv hn];exact h,s.keep _ _ hv hn⟩
def akZ (A:Adr)(i:Nat):Sp:=λvs H Q E=>∃(o t:Addr) (c:Col) (st:Ch) (N:Nat) (d:R.bG),vs=[.ref o,.ref t]/\dh A i c H o st/\Inv N st/\N<=800/\rL d/\qd i c H d t/\Jl A i c H o (cK st d) Q E
theorem Zv:∀k,k < 8->decide (V.str (nm k)=V.str (ar "vote"))=false:=by trivial
theorem Zw:∀k,k < 8->decide (V.str (nm k)=V.str (ar "drop"))=false:=by trivial
theorem Zx:∀k,k < 8->decide (V.str (nm k)=V.str (ar "take"))=false:=by trivial
section
variable{P:rf}{w:World}{K:ba}{mg:Str->Option Value}{base:Heap}{A:Adr}
theorem Ez (T:Txt w.params K mg A){i:Nat}:aT P w K mg base (CXX P w) 8 A.G4 A.xJ ["chamber","deed"] (akZ A i):=by
 refine T.wG.okX DI (λvs H Q E h=>?_) (λcdv A' outer s H vs Q E hr h=>?_)
 ·obtain⟨o,t,c,st,N,d,rfl,_⟩:=h;rfl
 ·obtain⟨o,t,c,st,N,d,rfl,hc,I,hN,hd,hdc,q⟩:=h;obtain⟨dx,aM,aP,aA,aD,aF,aE,aR,ms,ds,ws,fs,es,X⟩:=hc.ex;refine⟨_,(au (psx (bh (i:=2) DI.nd rfl (anq rfl) (aZ bx (pv 1) ai (λ_ _=>rfl))))
 (au (du (aJ bF (pv 2) aq (aK _))
 (aO (iA (qT (px (pv 0)) T.ah T.vo (U8 (i:=i) T) (hr.mono (by decide)) T.jY (pax (aa (aZ bx (pv 1) ai (λ_ _=>rfl)) (aa (aZ bx (pv 1) ai (λ_ _=>rfl)) ag))))))
 (mY aI))
 (au (du (aJ bF (pv 2) aq (aK _))
 (aO (iA (zZ (px (pv 0)) T.ah T.vp (U9 (i:=i) T) (hr.mono (by decide)) T.jZ)))
 (mY aI))
 (au (du (aJ bF (pv 2) aq (aK _))
 (aO (iA (qT (px (pv 0)) T.ah T.vq (Va (i:=i) T) (hr.mono (by decide)) T.j3 (pax (aa (aZ bx (pv 1) ai (λ_ _=>rfl)) ag)))))
 (mY aI))
 (aO (iA (qT (px (pv 0)) T.ah T.vn (Vc (i:=i) T) hr T.jX (pax (aa (pv 1) ag))))))))),?_⟩
  try dsimp only[bE]
  cases hd with
  | @Fb a b ha hb =>
   rw[lq]at q;have ht:SqT K H t [.str (ar "vote"),.int a,.int b]:=SqT.of hdc.2;refine ixv rfl ht rfl ⟨_,rfl,rfl,tst (by trivial) ?_⟩
   exact mtv rfl X.ob (bX (by trivial)) (ixv rfl ht rfl (ixv rfl ht rfl ⟨o,a,b,c,st,N,rfl,hc,I,hN,ha,hb,q⟩))
  |drop =>
   rw[lu]at q;have ht:SqT K H t [.str (ar "drop")]:=SqT.of hdc.2;refine ixv rfl ht rfl ⟨_,rfl,rfl,tsf (by trivial) ⟨_,rfl,rfl,tst (by trivial) ?_⟩⟩
   exact mtv rfl X.ob (bX (by trivial)) ⟨o,c,st,N,rfl,hc,I,hN,q⟩
  | @take z h0 h1 =>
   rw[lx]at q;have ht:SqT K H t [.str (ar "take"),.int z]:=SqT.of hdc.2;refine ixv rfl ht rfl ⟨_,rfl,rfl,tsf (by trivial) ⟨_,rfl,rfl,tsf (by trivial) ⟨_,rfl,rfl,tst (by trivial) ?_⟩⟩⟩
   exact mtv rfl X.ob (bX (by trivial)) (ixv rfl ht rfl ⟨o,z,c,st,N,rfl,hc,I,hN,h0,h1,q⟩)
  |move hm =>
   refine aS λGq gq=>?_
   rw[lz hm]at q;obtain⟨v,ht,_,_⟩:=Ey hm hdc;have k8:=(ix d).k8;refine gq ?_;refine ixv rfl (SqT.of ht.2) C0 ⟨_,rfl,rfl,tsf (Zv _ k8) ⟨_,rfl,rfl,tsf (Zw _ k8) ⟨_,rfl,rfl,tsf (Zx _ k8) ?_⟩⟩⟩;exact mtv rfl X.ob (bX (by trivial)) ⟨_,rfl,o,t,c,st,N,d,rfl,hc,I,hN,hm,hdc,q⟩
end
theorem dh.free {A:Adr}{i:Nat}{W:Option (Nat×Rl)->Prop}{c c':Col}{H H':Hp}{o:Addr}{st:Ch}(h:∀r,¬W (some (i,r)))(s:Step W c c' H H')(hc:dh A i c H o st):dh A i c' H' o st:=by
 obtain⟨dx,aM,aP,aA,aD,aF,aE,aR,ms,ds,ws,fs,es,X⟩:=hc.ex;exact(X.free h s).at
namespace R
def WAt (H:Hp):List Addr->List (List Str)->Prop
 |[],cs=>cs=[]
 |p::ps,cs=>∃ws r,cs=ws::r/\H p=some (.lst (ws.map V.str))/\WAt H ps r
theorem WAt.same {H H':Hp}(s:a9 H H'):∀ {ps:List Addr} {cs:List (List Str)},WAt H ps cs->WAt H' ps cs
 |[],_,h=>h
 |_::_,_,⟨ws,r,e,h,t⟩=>⟨ws,r,e,s _ _ h,WAt.same s t⟩
theorem WAt.upd {H:Hp}{b:Addr}{o:HO}:∀ {ps:List Addr} {cs:List (List Str)},b∉ps->WAt H ps cs->WAt (upd H b o) ps cs
 |[],_,_,h=>h
 |p::ps,_,hb,⟨ws,r,e,h,t⟩=>⟨ws,r,e,(av λz=>hb (by rw[z];exact kb)).trans h,WAt.upd (λz=>hb (kq _ z)) t⟩
theorem WAt.snoc {H:Hp}:∀ {ps:List Addr} {cs:List (List Str)} {p:Addr} {ws:List Str},WAt H ps cs->H p=some (.lst (ws.map V.str))->WAt H (ps++[p]) (cs++[ws])
 |[],_,p,ws,h,e=>by
  have h':_=[]:=h;subst h';exact⟨ws,[],rfl,e,rfl⟩
 |_::_,_,p,ws,⟨ws',r,e',h,t⟩,e=>⟨ws',r++[ws],by rw[e'];rfl,h,WAt.snoc t e⟩
theorem WAt.Sm {H:Hp}:∀ {ps:List Addr} {cs:List (List Str)} {p:Addr},WAt H (ps++[p]) cs->∃ds d,cs=ds++[d]/\WAt H ps ds/\H p=some (.lst (d.map V.str))
 |[],_,p,⟨ws,r,e,h,t⟩=>by
  have t':r=[]:=t;exact⟨[],ws,by rw[e,t'];rfl,rfl,h⟩
 |_::_,_,p,⟨ws,r,e,h,t⟩=>by
  obtain⟨ds,d,e2,t2,h2⟩:=WAt.Sm t;exact⟨ws::ds,d,by rw[e,e2];rfl,⟨ws,ds,rfl,h,t2⟩,h2⟩
theorem WAt.len {H:Hp}:∀ {ps:List Addr} {cs:List (List Str)},WAt H ps cs->ps.length=cs.length
 |[],_,h=>by
  have h':_=[]:=h;rw[h'];rfl
 |_::_,_,⟨ws,r,e,h,t⟩=>by rw[e,tm,tm,WAt.len t]
theorem WAt.get {H:Hp}:∀ {ps:List Addr} {cs:List (List Str)} {i:Nat} {p:Addr},WAt H ps cs->ps[i]?=some p->∃ws,cs[i]?=some ws/\H p=some (.lst (ws.map V.str))
 |[],_,_,_,_,g=>by simp at g
 |_::_,_,0,p,⟨ws,r,e,h,t⟩,g=>by
  obtain rfl:=anb g;exact⟨ws,by rw[e];rfl,h⟩
 |_::_,_,i+1,p,⟨ws,r,e,h,t⟩,g=>by
  obtain⟨x,h1,h2⟩:=WAt.get t (show _=some p from g)
  exact⟨x,by rw[e];exact h1,h2⟩
def eR (H H':Hp):bG->Addr->Prop
 | .mat cs,t=>∃L,H' t=some (.tup [.str (ar "matter"),.ref L])/\H L=none/\H' L=some (.lst ((cs.map (km bl1)).map V.str))
 | .ed m k i ws,t=>∃e,H' t=some (.tup [.str (kEd m),.ref e])/\H e=none/\H' e=some (.tup (edR k i (km bl1 ws)))
 | .pt ws,t=>H' t=some (.tup [.str (ar "point"),.str (km bl1 ws)])
 | .nums kd ns,t=>H' t=some (.tup (.str kd::ns.map V.int))
theorem eR.at {K:ba}{H H':Hp}:∀ {d:bG} {t:Addr},eR H H' d t->tH K H' d t
 | .mat _,_,⟨L,a,_,b⟩=>⟨L,SqT.of a,SqL.of b⟩
 | .ed _ _ _ _,_,⟨e,a,_,b⟩=>⟨e,SqT.of a,SqT.of b⟩
 | .pt _,_,h=>SqT.of h
 | .nums _ _,_,h=>SqT.of h
theorem eR.back {H H1 H2:Hp}(s:a9 H H1):∀ {d:bG} {t:Addr},eR H1 H2 d t->eR H H2 d t
 | .mat _,_,⟨L,a,b,c⟩=>⟨L,a,s.free b,c⟩
 | .ed _ _ _ _,_,⟨e,a,b,c⟩=>⟨e,a,s.free b,c⟩
 | .pt _,_,h=>h
 | .nums _ _,_,h=>h
theorem eR.top {H H':Hp}:∀ {d:bG} {t:Addr},eR H H' d t->∃xs,H' t=some (.tup (.str (iu d)::xs))
 | .mat _,_,⟨_,a,_⟩=>⟨_,a⟩
 | .ed _ _ _ _,_,⟨_,a,_⟩=>⟨_,a⟩
 | .pt _,_,h=>⟨_,h⟩
 | .nums _ _,_,h=>⟨_,h⟩
theorem eR.same {H H1 H2:Hp}(s:a9 H1 H2):∀ {d:bG} {t:Addr},eR H H1 d t->eR H H2 d t
 | .mat _,_,⟨L,a,b,c⟩=>⟨L,s _ _ a,b,s _ _ c⟩
 | .ed _ _ _ _,_,⟨e,a,n,b⟩=>⟨e,s _ _ a,n,s _ _ b⟩
 | .pt _,_,h=>s _ _ h
 | .nums _ _,_,h=>s _ _ h
def qf (c:Nat):Bool:=decide (33<=c) && (decide (c<=126) && decide (c≠37))
def dI (z:Str):Bool:=decide (1<=z.length) && (decide (z.length<=20) && (!decide (z=sl1) && z.cps.toList.all qf))
def qw (c:Nat):Bool:=decide (48<=c) && decide (c<=57)
def ez (z:Str):Bool:=decide (z≠em) && (decide (z.length<=10) && (z.cps.toList.all qw && (decide (z=ar "0") || !decide (z.cps.toList.head?=some 48))))
def mi (z:Str):Int:=(PySem.intText? z).getD 0
def clausesOf:List (List Str)->List Str->Option (List (List Str))
 |acc,[]=>some acc
 |acc,w::r=>if w=sl1 then clausesOf (acc++[[]]) r else if acc=[] then none else clausesOf (acc.dropLast++[acc.getLastD []++[w]]) r
def readText (ws:List Str):Option (List (List Str)):=(clausesOf [] ws).bind λcs=>if cs.all (λc=>c.all dI)=true then some cs else none
def i7:List Str->Option (Nat×Int×List Str)
 |k::p::th=>if ez p=true then (if k=kn 1 then (if th=[] then some (1,mi p,[]) else none) else if (k=kn 0\/k=kn 2)/\th.all dI=true then some (if k=kn 0 then 0 else 2,mi p,th) else none) else none
 |_=>none
def mj (ws:List Str):Option (Nat×Int×List Str):=(i7 ws).bind λe=>if e.1=1\/ws.length=3 then some e else none
def wU:List Str->Option Int
 |[o,n]=>if o=ar "off"/\ez n=true/\1<=mi n/\mi n<=999999999 then some (mi n) else none
 |_=>none
def Pz:List Str:=[ar "close",ar "lay",ar "rest",ar "drop"]
def zq:List Str->Option bG
 |[a,b]=>if ez a=true/\ez b=true then some (.nums (ar "vote") [mi a,mi b]) else none
 |_=>none
def zr:List Str->Option bG
 |[a]=>if ez a=true then some (.nums (ar "take") [mi a]) else none
 |_=>none
def df:List Str->Option bG
 |[]=>none
 |k::ws =>
  if k=ar "matter" then (readText ws).map .mat
  else if k=ar "change" then (i7 ws).map λe=>.ed false e.1 e.2.1 e.2.2
  else if k=ar "mend" then (mj ws).map λe=>.ed true e.1 e.2.1 e.2.2
  else if k=ar "put" then (wU ws).map λn=>.nums (ar "put off") [n]
  else if k=ar "point" then (if ws.all dI=true then some (.pt ws) else none)
  else if k=ar "vote" then zq ws
  else if k=ar "take" then zr ws
  else if k∈Pz/\ws=[] then some (.nums k []) else none
structure mU (ws:List Str):Prop where
 sz:(ws.map (·.length)).sum+ws.length<=60000
 asc:∀w∈ws,Asc w
theorem mU.len {ws:List Str}(o:mU ws):ws.length<=60000:=by have:=o.sz;omega
theorem Sn:∀ {ws:List Str} {w:Str},w∈ws->w.length<=(ws.map (·.length)).sum
 |x::r,w,h=>by
  rw[ku,List.sum_cons];rcases List.mem_cons.mp h with rfl | h
  ·omega
  ·have:=Sn h;omega
theorem mU.wl {ws:List Str}(o:mU ws){w:Str}(h:w∈ws):w.length<=60000:=by have:=o.sz;have:=Sn h;omega
theorem So (ws:List Str)(n:Nat):((ws.drop n).map (·.length)).sum<=(ws.map (·.length)).sum:=by
 rw[List.map_drop]
 conv=>rhs;rw[<-List.take_append_drop n (ws.map (·.length)),List.sum_append]
 omega
theorem mU.drop {ws:List Str}(o:mU ws)(n:Nat):mU (ws.drop n) :=
 have h1:=So ws n;have h2:=o.sz;have h3:(ws.drop n).length<=ws.length:=by rw[an6];omega
 ⟨by omega,λw hw=>o.asc w (aoC hw)⟩
def EA (A:Adr)(n:Int)(E:XK)(H:Hp):Prop:=∀(d:Addr) (H':Hp),a9 H H'->H' d=some (.xd [("row",.int n)])->E (.ref A.yP) (some d) H'
theorem EA.same {A:Adr}{n:Int}{E:XK}{H H1:Hp}(e:EA A n E H)(s:a9 H H1):EA A n E H1:=λd H' s' h=>e d H' (s.trans s') h
def AR (A:Adr):Sp:=λvs H Q E=>∃b:Bool,vs=[.bl b]/\(b=true->Q .non H)/\(b=false->EA A 1 E H)
def Sq:Sp:=λvs H Q _=>∃c:Nat,vs=[.str ⟨#[c]⟩]/\Q (.bl (qf c)) H
def Sr:Sp:=λvs H Q _=>∃z:Str,vs=[.str z]/\z.length<=60000/\∀H',a9 H H'->Q (.bl (dI z)) H'
def Vd:Sp:=λvs H Q _=>∃z:Str,vs=[.str z]/\z.length<=60000/\∀H',a9 H H'->Q (.bl (ez z)) H'
def Ss (A:Adr):Sp:=λvs H Q E=>∃z:Str,vs=[.str z]/\z.length<=60000/\(ez z=true->∀H',a9 H H'->Q (.int (mi z)) H')/\(ez z=false->EA A 1 E H)
def PB (K:ba)(A:Adr):Sp:=λvs H Q E=>∃(a:Addr) (ws:List Str),vs=[.ref a]/\SqL K H a (ws.map V.str)/\mU ws/\(ws.all dI=true->∀H',a9 H H'->Q (.str (km bl1 ws)) H')/\(ws.all dI=false->EA A 1 E H)
theorem lt1 (a b:Nat):decide ([a] < [b])=decide (a < b):=by
 rw[anU,decide_eq_true_iff,decide_eq_true_iff];constructor
 ·intro h;cases h with
  |rel h=>exact h
  |cons h=>cases h
 ·exactλh=>.rel h
section
variable{P:rf}{w:World}{K:ba}{mg:Str->Option Value}{base:Heap}{A:Adr}
theorem Mz (T:Txt w.params K mg A):aT P w K mg base CX0 1 A.G9 A.DP ["self","row"] (L0 A.yP "row"):=by
 refine T.rD.ok EY (λvs H Q E h=>?_) (λcdv A' outer s H vs Q E hr h=>?_)
 ·obtain⟨e,v,rfl,_⟩:=h;rfl
 ·obtain⟨e,v,rfl,hx,⟨z,fz,zl⟩,q⟩:=h;refine⟨_,(ak (bR (yG T.gm T.y4 rfl T.fX (aa (pv 0) (aa (Bh (jO (uQ (pv 1) uP))) ag))))
 (aj (CT T.y4 (pv 0) (pv 1)))),?_⟩
  try dsimp only[bE]
  have sz:gr=16777216:=by decide
  have c5:(ar "refused at the row ").length=19:=by trivial
  have e5:(anF++ar "refused at the row ":Str).length=19:=by trivial
  refine⟨_,rfl,by rw[e5];omega,_,rfl,z,fz,by omega,by rw[len_app,e5];omega,by rw[len_app,e5];omega,e,_,rfl,hx,?_⟩
  exact⟨_,rfl,_,rfl,e,rfl,hx,λd hd=>q d hd⟩
theorem iy (T:Txt w.params K mg A):aT P w K mg base (CXX P w) 3 A.yO A.nY ["holds"] (AR A):=by
 refine T.dU.okX L3 (λvs H Q E h=>?_) (λcdv A' outer s H vs Q E hr h=>?_)
 ·obtain⟨b,rfl,_⟩:=h;rfl
 ·obtain⟨b,rfl,h1,h2⟩:=h;refine⟨_,(aO (du (jf (iP (pv 0)))
 (aO (nP T.y4 (Mz T) hr T.wL rfl rfl T.Of (aa ai ag)))
 (mY aI))),?_⟩
  try dsimp only[bE]
  refine⟨_,rfl,b,rfl,?_⟩;cases b with
  |true=>exact et (h1 rfl)
  |false=>exact iQ ⟨_,rfl,⟨_,.int (by decide),by trivial⟩,λd hd=>h2 rfl d _ (aB hd) ae⟩
theorem MA (T:Txt w.params K mg A):aT P w K mg base CX0 1 A.G1 A.xG ["sign"] Sq:=by
 refine T.Aw.ok L4 (λvs H Q E h=>?_) (λcdv A' outer s H vs Q E hr h=>?_)
 ·obtain⟨c,rfl,_⟩:=h;rfl
 ·obtain⟨c,rfl,q⟩:=h;refine⟨_,(aj (aG (sE (yA FD FD aq (pv 0) aq) (nK (cH Fp (bT QF (by rfl) T.Ww Yu (aa (pv 0) ag)) (lL (v:=V.int 37) rfl T.FW ⟨_,rfl⟩) (aK _)))))),?_⟩
  try dsimp only[bE]
  have e1:(ar "!").cps.toList=[33]:=by trivial
  have e2:(ar "~").cps.toList=[126]:=by trivial
  refine⟨_,rfl,_,_,rfl,rfl,_,rfl,?_⟩;rw[e1,show (⟨#[c]⟩:Str).cps.toList=[c] from rfl,lt1]
  by_cases h1:c < 33
  ·rw[decide_eq_true h1];refine et ⟨_,rfl,et ?_⟩;rw[qf,decide_eq_false (show ¬33<=c by omega)]at q
   exact q
  ·rw[decide_eq_false h1];refine iQ ⟨_,_,rfl,rfl,_,rfl,?_⟩;rw[e2,show (⟨#[c]⟩:Str).cps.toList=[c] from rfl,lt1]
   by_cases h2:126 < c
   ·rw[decide_eq_true h2];refine et ?_;rw[qf,decide_eq_true (show 33<=c by omega),decide_eq_false (show ¬c<=126 by omega)]at q
    exact q
   ·rw[decide_eq_false h2];refine iQ ⟨_,rfl,_,rfl,rfl,rfl,?_⟩;rw[qf,decide_eq_true (show 33<=c by omega),decide_eq_true (show c<=126 by omega)]at q
    have e3:(!decide (V.int ((((⟨#[c]⟩:Str).cps.getD 0 0:Nat)):Int)=V.int 37))=decide (c≠37):=by
     rw[anU];simp;omega
    rw[e3];exact q
theorem xW {α:Type}(p:α->Bool)(l:List α):(l.map p).all id=l.all p:=by
 induction l with
 |nil=>rfl
 |cons a l ih=>simp[ih]
theorem MB (T:Txt w.params K mg A):aT P w K mg base CX0 2 A.G2 A.xH ["word"] Sr:=by
 refine T.Ax.ok L5 (λvs H Q E h=>?_) (λcdv A' outer s H vs Q E hr h=>?_)
 ·obtain⟨z,rfl,_⟩:=h;rfl
 ·obtain⟨z,rfl,zl,q⟩:=h;refine⟨_,(aj (aG (sE (yA Ba Ba ai (bT yF (by rfl) T.l6 iR (aa (pv 0) ag)) (lL (v:=V.int 20) rfl T.yU ⟨_,rfl⟩)) (sE (cH Fp (pv 0) aq (aK _)) (nK (bT (Dm rfl) (by rfl) T.Od LN (aa (pS (scope:=xj) GU rfl (Q8 (pv 0)) (λ_ _ _ _ _=>(bb (MA T) hr rfl T.FN T.Aw.kp T.FL .nil aW (aa (pv 0) ag)))) ag))))))),?_⟩
  try dsimp only[bE]
  have sz:gr=16777216:=by decide
  refine⟨_,rfl,z,rfl,by omega,_,_,rfl,rfl,_,rfl,?_⟩
  by_cases h1:1<=z.length
  ·rw[decide_eq_true (show (1:Int)<=(z.length:Int) by omega)]
   refine iQ ⟨_,_,rfl,rfl,_,rfl,?_⟩
   by_cases h2:z.length<=20
   ·rw[decide_eq_true (show (z.length:Int)<=20 by omega)]
    refine iQ ⟨_,rfl,rfl,_,rfl,?_⟩
    by_cases h3:z=sl1
    ·rw[decide_eq_true (show V.str z=V.str (ar "/") from congrArg V.str h3)]
     refine et ?_;have:=q H (a9.refl H);rw[dI,decide_eq_true h1,decide_eq_true h2,decide_eq_true h3]at this;exact this
    ·rw[decide_eq_false (show ¬V.str z=V.str (ar "/") from λe=>h3 (by injection e))]
     refine iQ ⟨_,rfl,z,rfl,λD hD=>?_⟩
     refine FE qf (by show z.length<=_;omega) hD (λc H2 Q2 hc s2 k=>⟨_,rfl,c,rfl,k H2 (a9.refl _)⟩) λH2 s2 h2'=>?_
     refine⟨D,z.cps.toList.map qf,rfl,SqL.of h2',?_⟩;have:=q H2 s2;rw[dI,decide_eq_true h1,decide_eq_true h2,decide_eq_false h3]at this;rw[xW];exact this
   ·rw[decide_eq_false (show ¬(z.length:Int)<=20 by omega)]
    refine et ?_;have:=q H (a9.refl H);rw[dI,decide_eq_true h1,decide_eq_false h2]at this;exact this
  ·rw[decide_eq_false (show ¬(1:Int)<=(z.length:Int) by omega)]
   refine et ⟨_,rfl,et ?_⟩;have:=q H (a9.refl H);rw[dI,decide_eq_false h1]at this;exact this
theorem rM {α:Type}{c:α}{r:List α}:atI (c::r) 0=some c:=by
 unfold atI ixN;simp
theorem Zy (c:Nat):(!(an0 (ar "0123456789") ⟨#[c]⟩ 0 (ar "0123456789").length 1).isEmpty)=qw c:=by
 rw[StrLaws.found_one];have e:(ar "0123456789").cps.toList=[48,49,50,51,52,53,54,55,56,57]:=by trivial
 rw[e,qw,anU];simp;omega
theorem HF (T:Txt w.params K mg A):aT P w K mg base CX0 1 A.Ai A.sL ["word"] Vd:=by
 refine T.u7.ok GV (λvs H Q E h=>?_) (λcdv A' outer s H vs Q E hr h=>?_)
 ·obtain⟨z,rfl,_⟩:=h;rfl
 ·obtain⟨z,rfl,zl,q⟩:=h;refine⟨_,(ak (bJ (PW.pt (pw_or (aJ bF (pv 0) aq (aK _)) (pw_or1 (aJ QE (bT yF (by rfl) T.l6 iR (aa (pv 0) ag)) (lL (v:=V.int 10) rfl T.vk ⟨_,rfl⟩) (aK _)))))
 (aj (aG iM))
 aI)
 (aj (aG (sE (bT (Dm rfl) (by rfl) T.Od LN (aa (pS (scope:=tS) DF rfl (Q8 (pv 0)) (λ_ _ _ _ _=>(cH OX (pv 0) (lL (v:=V.str (ar "0123456789")) rfl T.FV ⟨_,rfl⟩) rfl))) ag)) (nK (QA (cH bF (pv 0) aq (aK _)) (nK (cH Fp (aZ QK (pv 0) ai (λ_ _=>rfl)) aq (aK _))))))))),?_⟩
  try dsimp only[bE]
  have sz:gr=16777216:=by decide
  refine⟨_,rfl,rfl,_,rfl,iY (λe=>?_) (λe=>?_)⟩
  ·refine iQ ?_;have e':z=em:=by injection of_decide_eq_true e
   have:=q H (a9.refl H);rw[ez,decide_eq_false (λz=>z e')]at this
   exact this
  ·have hne:z≠em:=λq=>e (decide_eq_true (congrArg V.str q))
   refine⟨_,rfl,z,rfl,by omega,_,_,rfl,rfl,_,rfl,iY (λe=>?_) (λe=>?_)⟩
   ·have e':(10:Int) < (z.length:Int):=of_decide_eq_true e;have:=q H (a9.refl H);rw[ez,decide_eq_true hne,decide_eq_false (show ¬z.length<=10 by omega)]at this
    exact this
   ·have e':¬(10:Int) < (z.length:Int):=λh=>e (decide_eq_true h)
    have hl:z.length<=10:=by omega
    have hq:=λH2 s2=>q H2 s2
    rw[ez,decide_eq_true hne,decide_eq_true hl]at hq;refine⟨_,rfl,z,rfl,λD hD=>?_⟩
    refine FE qw (by show z.length<=_;omega) hD (λc H2 Q2 hc s2 k=>⟨_,rfl,_,_,rfl,rfl,by rw[Zy];exact k H2 (a9.refl _)⟩) λH2 s2 h2'=>?_
    refine⟨D,z.cps.toList.map qw,rfl,SqL.of h2',_,rfl,?_⟩;have hq2:=hq H2 s2;rw[xW];cases ha:z.cps.toList.all qw with
    |false=>rw[ha]at hq2;exact et hq2
    |true =>
     rw[ha]at hq2;refine iQ ⟨_,rfl,rfl,_,rfl,?_⟩
     by_cases h0:z=ar "0"
     ·rw[decide_eq_true (congrArg V.str h0)];rw[decide_eq_true h0]at hq2;exact iQ hq2
     ·rw[decide_eq_false (show ¬V.str z=V.str (ar "0") from λe=>h0 (by injection e))]
      rw[decide_eq_false h0]at hq2;cases hz:z.cps.toList with
      |nil =>
       exfalso
       refine hne (wj ?_);rw[hz,I9]
      |cons c r =>
       rw[hz]at hq2;refine et ⟨_,rfl,z,0,c,rfl,rfl,by omega,by rw[hz];exact rM,rfl,?_⟩
       have e0:ar "0"=⟨#[48]⟩:=by trivial
       have e3:(!decide (V.str ⟨#[c]⟩=V.str (ar "0")))=(!decide ((c::r).head?=some 48)):=by
        rw[e0]
        congr 1
        rw[anU];simp
       rw[e3];exact hq2
theorem WE:∀(cs:List Nat) (acc:Nat),PySem.NumText.AllDigits cs->cs.foldl (λacc c=>acc * 10+(c - 48)) acc < (acc+1) * 10 ^ cs.length
 |[],acc,_=>by simp
 |c::cs,acc,h=>by
  have h1:=h.head;have h2:=WE cs (acc * 10+(c - 48)) h.tail;rw[List.foldl_cons,tm,Nat.pow_succ];refine ang h2 ?_;rw[Nat.mul_comm (10 ^ cs.length) 10,<-Nat.mul_assoc];exact Nat.mul_le_mul_right _ (by omega)
theorem Ve {z:Str}(h:ez z=true):PySem.intText? z=some (mi z)/\z.length<=10/\0<=mi z/\mi z < 10 ^ 10:=by
 simp only[ez,anA,decide_eq_true_iff]at h;obtain⟨h1,h2,h3,_⟩:=h;have hd:PySem.NumText.AllDigits z.cps.toList:=λc hc=>by
  have:=List.all_eq_true.mp h3 c hc;simp only[qw,anA,decide_eq_true_iff]at this;exact this
 have hne:z.cps.toList≠[]:=λe=>h1 (wj (by rw[e,I9]))
 have e:=PySem.intText_digits hd hne (si h2 (by decide))
 have ev:mi z=((PySem.NumText.digitsVal z.cps.toList:Nat):Int):=by unfold mi;rw[e];rfl
 have lt:=WE z.cps.toList 0 hd;have lt2:PySem.NumText.digitsVal z.cps.toList < 10 ^ 10:=by
  refine ang lt ?_;rw[Nat.zero_add,Nat.one_mul];exact Nat.pow_le_pow_right (by decide) (by rw[tG];exact h2)
 refine⟨by rw[e,ev],h2,by rw[ev];omega,by rw[ev];omega⟩
end
end R
namespace R
theorem MC {K:ba}{a D:Addr}{ws:List Str}{te:TE}{Q:VK}{σ:St}{H1:Hp}(p:Str->Bool)(hq:SqL K H1 a (ws.map V.str))(hz:ws.length<=gr)(hD:H1 D=none)
  (hs:∀(x:Str) (H2:Hp) (Q2:VK),x∈ws->a9 H1 H2->(∀H3,a9 H2 H3->Q2 (.bl (p x)) H3)->te (some (.str x)::σ) H2 Q2)
  (hd:∀H2,a9 H1 H2->H2 D=some (.lst ((ws.map p).map V.bl))->Q (.ref D) H2):nO (Itl K a) te σ D H1 Q:=by
 refine kG (K:=K) (a:=a) (xs:=ws.map V.str) (λi ys H2=>ys=((ws.take i).map p).map V.bl/\a9 H1 H2/\H2 D=some (.lst ys)) ⟨by simp,aB hD,ae⟩ (by rw[bo];exact hz) ?_ ?_ ?_
 ·rintro i ys H2 hi ⟨rfl,s2,h2⟩;rw[bo]at hi;exact⟨s2.seq hq,h2,by simp;omega⟩
 ·rintro i y ys H2 hi ⟨rfl,s2,h2⟩;rw[ant]at hi;cases hw:ws[i]? with
  |none=>rw[hw]at hi;cases hi
  |some x =>
   rw[hw]at hi;obtain rfl:V.str x=y:=anb hi;refine hs x H2 _ (anh hw) s2 λH3 s3=>?_
   refine cB.mk (by rw[bo];exact(List.getElem?_eq_some_iff.mp hw).1) (s3 _ _ h2) ⟨?_,(s2.trans s3).own hD,ae⟩
   rw[aoA,hw];simp
 ·rintro ys H2 ⟨rfl,s2,h2⟩;refine hd H2 s2 (h2.trans ?_);rw[bo,an8]
def csD (cs:List (List Str)):PyData:=.list (cs.map λc=>.list (c.map anG))
theorem WAt.dvs {K:ba}{H:Hp}:∀ {ps:List Addr} {cs:List (List Str)},WAt H ps cs->DVs K H (cs.map λc=>.list (c.map anG)) (ps.map V.ref)
 |[],_,h=>by
  have h':_=[]:=h;subst h';simp only[aom];unfold DVs;rfl
 |_::_,_,⟨ws,r,e,h,t⟩=>by
  subst e;simp only[ku];unfold DVs;exact⟨_,_,rfl,e9 (SqL.of h),WAt.dvs t⟩
theorem MD {cs:List (List Str)}(h:∀c∈cs,∀w∈c,Asc w):SeqAt.shaped (csD cs)=true:=by
 have key:∀l:List (List Str),(∀c∈l,∀w∈c,Asc w)->sr (l.map λc=>.list (c.map anG))=true/\ani (l.map λc=>aoM (c.map anG))<=10:=λl=>by
  induction l with
  |nil=>intro _;exact⟨rfl,anz _⟩
  |cons c l ih =>
   intro h;obtain⟨i1,i2⟩:=ih λc hc=>h c (kq _ hc)
   have h1:=pR c λw hw=>(h c kb w hw).ok
   have h2:=sG c;refine⟨?_,?_⟩
   ·simp[sr,ana,h1,i1]
   ·simp only[ku,ani,anl];omega
 obtain⟨k1,k2⟩:=key cs h;have k3:(csD cs).canLay0=true:=by simp[csD,ana,k1]
 have k4:(csD cs).depth<=64:=by simp only[csD,anl];omega
 show (ana (csD cs) && decide (anl (csD cs)<=64))=true;rw[k3,decide_eq_true k4];rfl
theorem Vf (cs:List (List Str)):aoH (csD cs) (.list [])=decide (cs=[]):=by
 cases cs with
 |nil=>rfl
 |cons c r=>rfl
theorem strs_nil (cs:List Str):aoH (.list (cs.map anG)) (.list [])=decide (cs=[]):=by
 cases cs with
 |nil=>rfl
 |cons c r=>rfl
def Vg (K:ba)(A:Adr):Sp:=λvs H Q E=>∃(a:Addr) (ws:List Str),vs=[.ref a]/\SqL K H a (ws.map V.str)/\mU ws /\
 (∀cs,readText ws=some cs->∀L H',a9 H H'->H L=none->H' L=some (.lst ((cs.map (km bl1)).map V.str))->Q (.ref L) H')/\(readText ws=none->EA A 1 E H)
structure WOk (i:Nat)(ws:List Str)(cs:List (List Str)):Prop where
 cl:cs.length<=i
 ln:∀c∈cs,c.length<=i
 sm:∀c∈cs,(c.map (·.length)).sum<=((ws.take i).map (·.length)).sum
 mm:∀c∈cs,∀w∈c,w∈ws
theorem WOk.more {i:Nat}{ws:List Str}{cs:List (List Str)}{x:Str}(o:WOk i ws cs)(hx:ws[i]?=some x):WOk (i+1) ws (cs++[[]]):=by
 have t:((ws.take (i+1)).map (·.length)).sum=((ws.take i).map (·.length)).sum+x.length:=by rw[aoA,hx];simp
 refine⟨by rw[ki];have:=o.cl;simp;omega,λc hc=>?_,λc hc=>?_,λc hc=>?_⟩
 all_goals
  rcases List.mem_append.mp hc with hc | hc
  ·first
    | (have:=o.ln c hc;omega)
    | (have:=o.sm c hc;omega)
    |exact o.mm c hc
  ·obtain rfl:=List.mem_singleton.mp hc;simp
theorem WOk.word {i:Nat}{ws:List Str}{ds:List (List Str)}{d:List Str}{x:Str}(o:WOk i ws (ds++[d]))(hx:ws[i]?=some x):WOk (i+1) ws (ds++[d++[x]]):=by
 have t:((ws.take (i+1)).map (·.length)).sum=((ws.take i).map (·.length)).sum+x.length:=by rw[aoA,hx];simp
 have dm:d∈ds++[d]:=gn _ kb;refine⟨by have:=o.cl;rw[ki]at this ⊢;simp at this ⊢;omega,λc hc=>?_,λc hc=>?_,λc hc=>?_⟩
 ·rcases List.mem_append.mp hc with hc | hc
  ·have:=o.ln c (anx _ hc);omega
  ·obtain rfl:=List.mem_singleton.mp hc;have:=o.ln d dm;rw[ki];simp;omega
 ·rcases List.mem_append.mp hc with hc | hc
  ·have:=o.sm c (anx _ hc);omega
  ·obtain rfl:=List.mem_singleton.mp hc;have:=o.sm d dm;have e1:([x].map λx:Str=>x.length).sum=x.length:=by simp
   rw[ky,List.sum_append,e1];omega
 ·rcases List.mem_append.mp hc with hc | hc
  ·exact o.mm c (anx _ hc)
  ·obtain rfl:=List.mem_singleton.mp hc;intro w hw;rcases List.mem_append.mp hw with hw | hw
   ·exact o.mm d dm w hw
   ·rw[List.mem_singleton.mp hw];exact anh hx
section
variable{P:rf}{w:World}{K:ba}{mg:Str->Option Value}{base:Heap}{A:Adr}
theorem oN (T:Txt w.params K mg A):aT P w K mg base (CXX P w) 4 A.pY A.jU ["word"] (Ss A):=by
 refine T.fE.okX DG (λvs H Q E h=>?_) (λcdv A' outer s H vs Q E hr h=>?_)
 ·obtain⟨z,rfl,_⟩:=h;rfl
 ·obtain⟨z,rfl,zl,h1,h2⟩:=h;refine⟨_,(au (b8 (bB (iy T) hr rfl T.eF T.dU.kp T.eE (pax (aa (bb (HF T) (hr.mono (by decide)) rfl T.Bo T.u7.kp T.Bm .nil aW (aa (pv 0) ag)) ag))))
 (aO (psx (aG (dQ ER (by rfl) T.Wt Yt (aa (pv 0) ag)))))),?_⟩
  try dsimp only[bE]
  refine⟨_,rfl,z,rfl,zl,λH2 s2=>⟨ez z,rfl,λhb=>?_,λhb=>(h2 hb).same s2⟩⟩
  refine aS λGq gq=>?_
  obtain⟨v1,v2,_⟩:=Ve hb;refine gq ?_;exact⟨_,rfl,z,mi z,rfl,v1,by omega,h1 hb H2 s2⟩
theorem oO (T:Txt w.params K mg A):aT P w K mg base (CXX P w) 4 A.uX A.nZ ["words"] (PB K A):=by
 refine T.i4.okX DH (λvs H Q E h=>?_) (λcdv A' outer s H vs Q E hr h=>?_)
 ·obtain⟨a,ws,rfl,_⟩:=h;rfl
 ·obtain⟨a,ws,rfl,hS,o,h1,h2⟩:=h;refine⟨_,(au (b8 (bB (iy T) hr rfl T.eF T.dU.kp T.eE (pax (aa (bT (Dm rfl) (by rfl) T.Od LN (aa (pS (scope:=pW) Af rfl (jL (pv 0)) (λ_ _ _ _ _=>(bb (MB T) (hr.mono (by decide)) rfl T.FP T.Ax.kp T.FO .nil aW (aa (pv 0) ag)))) ag)) ag))))
 (aO (psx (aG (bb (tI T) (hr.mono (by decide)) rfl T.p4 T.lY.kp T.pZ .nil aW (aa (pv 0) ag)))))),?_⟩
  try dsimp only[bE]
  have sz:gr=16777216:=by decide
  have ol:=o.len;have os:=o.sz;refine⟨_,rfl,a,rfl,⟨_,hS⟩,λD hD=>?_⟩
  refine MC dI hS (by omega) hD (λx H2 Q2 hx s2 k=>⟨_,rfl,x,rfl,o.wl hx,k⟩) λH2 s2 h2'=>?_
  refine⟨D,ws.map dI,rfl,SqL.of h2',?_⟩;rw[xW];refine⟨ws.all dI,rfl,λhb=>?_,λhb=>(h2 hb).same s2⟩
  exact⟨_,rfl,a,ws,rfl,s2.seq hS,by omega,h1 hb H2 s2⟩
theorem Zz {α:Type}{l:List α}(h:l≠[]):∃(r:List α) (a:α),l=r++[a]:=⟨l.dropLast,l.getLast h,(List.dropLast_concat_getLast h).symm⟩
theorem uJ {α:Type}{r:List α}{a:α}:atI (r++[a]) (-1)=some a:=by
 unfold atI ixN;rw[if_neg (by decide),if_pos (by rw[ki,anc];omega),Option.bind_some,show ((-1:Int)+((r++[a]).length:Int)).toNat=r.length by rw[ki,anc];omega]
 simp
theorem HG (T:Txt w.params K mg A):aT P w K mg base (CXX P w) 5 A.Aj A.sM ["words"] (Vg K A):=by
 refine T.u9.okX sI (λvs H Q E h=>?_) (λcdv A' outer s H vs Q E hr h=>?_)
 ·obtain⟨a,ws,rfl,_⟩:=h;rfl
 ·obtain⟨a,ws,rfl,hS,o,h1,h2⟩:=h;have pE:=hr.units;refine⟨_,(au (psx (bh (i:=1) sI.nd rfl (anq rfl) (dn ag)))
 (au (Uw ⟨rfl,rfl⟩ rfl (jL (pv 0)) (pP (i:=2) sI.nd rfl (anq rfl))
 (aO (du (aJ bF (pv 2) aq (aK _))
 (aO (psx (bR (js am9 anu anv dq (pv 1) (aa (dn ag) ag)))))
 (au (b8 (bB (iy T) (hr.mono (by decide)) rfl T.eF T.dU.kp T.eE (pax (aa (cH (sF pE) (pv 1) (dn ag) (aK _)) ag))))
 (aO (psx (bR (js am9 anu anv dq (aZ bz (pv 1) (xg qm ai) (λ_ _=>rfl)) (aa (pv 2) ag)))))))))
 (aO (iA (Rc (scope:=tT) ⟨rfl,rfl⟩ uU rfl (jL (pv 1)) (λ_ _ _ _ _=>(pP (i:=0) uU.nd2 rfl (anq rfl))) (λ_ _ _ _ _=>(bB (oO T) hr rfl T.lT T.i4.kp T.lS (pax (aa (pv 0) ag))))))))),?_⟩
  try dsimp only[bE]
  have sz:gr=16777216:=by decide
  have ol:=o.len;refine⟨anz _,λC hC=>?_⟩
  refine⟨_,rfl,a,rfl,⟨_,(aB hC).seq hS⟩,?_⟩;refine C8 (K:=K) (a:=a) (xs:=ws.map V.str) (λi σ H2=>∃(v2:Option V) (ps:List Addr) (cs:List (List Str)),σ=[some (.ref a),some (.ref C),v2]/\a9 H H2/\H2 C=some (.lst (ps.map V.ref))/\WAt H2 ps cs/\ps.Nodup/\C∉ps/\(∀p∈ps,H p=none) /\
    clausesOf cs (ws.drop i)=clausesOf [] ws/\WOk i ws cs)
   ⟨_,[],[],rfl,aB hC,ae,rfl,List.nodup_nil,(λz=>nomatch z),(λp hp=>nomatch hp),rfl,⟨kj _,(λc hc=>nomatch hc),(λc hc=>nomatch hc),λc hc=>nomatch hc⟩⟩ (λi σ H2 _ ⟨_,_,_,_,s2,_⟩=>s2.seq hS) ?_ ?_
  ·rintro i y σ H2 hi ⟨v2,ps,cs,rfl,s2,hCl,hW,nd,nC,hn,ecl,wo⟩;rw[ant]at hi;cases hx:ws[i]? with
   |none=>rw[hx]at hi;cases hi
   |some x =>
    rw[hx]at hi;obtain rfl:V.str x=y:=anb hi;have hil:i < ws.length:=(List.getElem?_eq_some_iff.mp hx).1;have dr:ws.drop i=x::ws.drop (i+1):=by
     rw[List.drop_eq_getElem_cons hil,(List.getElem?_eq_some_iff.mp hx).2]
    have pl:=hW.len;have cl:=wo.cl;refine⟨_,rfl,rfl,_,rfl,iY (λe=>?_) (λe=>?_)⟩
    ·have e':x=sl1:=by injection of_decide_eq_true e
     refine⟨_,rfl,.inl ⟨rfl,_,SqL.of hCl⟩,anz _,λp hp=>?_⟩
     have nCp:C≠p:=aU hCl hp;have aei:p∉ps:=λz=>by
      obtain⟨j,hj⟩:=List.getElem?_of_mem z;obtain⟨_,_,h3⟩:=hW.get hj;rw[hp]at h3;cases h3
     refine⟨C,_,_,rfl,rfl,(av nCp).trans hCl,(by rw[bo];omega),?_⟩
     refine⟨_,ps++[p],cs++[[]],rfl,((s2.new hp).own hC),?_,?_,?_,?_,?_,?_,wo.more hx⟩
     ·rw[ae,ky];rfl
     ·refine WAt.upd (by rw[aoP,not_or];exact⟨nC,λz=>nCp (List.mem_singleton.mp z)⟩) (WAt.snoc (WAt.upd aei hW) ?_)
      rw[ae];rfl
     ·exact List.nodup_append.mpr ⟨nd,by simp,λb hb c hc e=>aei (by rw[<-List.mem_singleton.mp hc,<-e];exact hb)⟩
     ·rw[aoP,not_or];exact⟨nC,λz=>nCp (List.mem_singleton.mp z)⟩
     ·intro b hb;rcases List.mem_append.mp hb with hb | hb
      ·exact hn b hb
      ·rw[List.mem_singleton.mp hb];exact s2.free hp
     ·rw[<-ecl,dr,clausesOf,if_pos e']
    ·have e':¬x=sl1:=λz=>e (decide_eq_true (congrArg V.str z))
     refine⟨_,rfl,anz _,λp hp=>?_⟩
     have s3:a9 H2 (upd H2 p (.lst [])):=aB hp;refine⟨csD cs,.list [],?_,?_,MD (λc hc w hw=>o.asc w (wo.mm c hc w hw)),by trivial,?_⟩
     ·unfold csD DV;exact⟨C,_,rfl,SqL.of (s3 _ _ hCl),(hW.same s3).dvs⟩
     ·unfold DV;exact⟨p,[],rfl,SqL.of ae,by unfold DVs;rfl⟩
     ·rw[Vf];refine⟨!decide (cs=[]),rfl,λhb=>?_,λhb=>?_⟩
      ·have hcs:cs≠[]:=by simpa using hb
       refine aS λGq gq=>?_
       have hps:ps≠[]:=λz=>by rw[z]at pl;exact hcs (List.length_eq_zero_iff.mp pl.symm)
       obtain⟨qs,q,rfl⟩:=Zz hps;obtain⟨ds,d,rfl,hWd,hq⟩:=hW.Sm;have nq:q≠p:=aU hq hp;have nqs:q∉qs:=λz=>by
        have:=(List.nodup_append.mp nd).2.2 q z q (by simp)
        exact this rfl
       have nqC:q≠C:=λz=>nC (by rw[<-z];simp)
       have dl:=wo.ln d (by simp)
       refine gq ?_;refine⟨_,rfl,_,rfl,C,_,_,.ref q,rfl,rfl,SqL.of (s3 _ _ hCl),?_,.inl ⟨rfl,_,SqL.of (s3 _ _ hq)⟩,_,rfl,q,_,_,rfl,rfl,s3 _ _ hq,(by rw[bo];omega),?_⟩
       ·rw[ky];exact uJ
       ·have hHq:H q=none:=hn q (by simp)
        refine⟨_,qs++[q],ds++[d++[x]],rfl,(s2.trans s3).own hHq,?_,?_,nd,nC,hn,?_,wo.word hx⟩
        ·exact(av (anj nqC)).trans (s3 _ _ hCl)
        ·refine WAt.snoc (WAt.upd nqs (hWd.same s3)) ?_;rw[ae,ky];rfl
        ·rw[<-ecl,dr]
         conv=>rhs;rw[clausesOf]
         rw[if_neg e',if_neg (by simp)]
         simp
      ·have hcs:cs=[]:=by simpa using hb
       refine(h2 ?_).same (s2.trans s3);unfold readText;rw[<-ecl,hcs,dr,clausesOf,if_neg e',if_pos rfl];rfl
  ·rintro σ H2 ⟨v2,ps,cs,rfl,s2,hCl,hW,nd,nC,hn,ecl,wo⟩;rw[bo,List.drop_length]at ecl;have ecs:clausesOf [] ws=some cs:=ecl.symm;rw[bo]at wo;have pl:=hW.len;have cl:=wo.cl;refine⟨_,rfl,C,rfl,⟨_,SqL.of hCl⟩,λD hD=>?_⟩
   have nCD:C≠D:=aU hCl hD;refine LX (K:=K) (a:=C) (xs:=ps.map V.ref) (λi ys H3=>ys=((cs.take i).map (km bl1)).map V.str/\(cs.take i).all (λc=>c.all dI)=true/\a9 H2 H3/\H3 D=some (.lst ys))
    ⟨rfl,rfl,aB hD,ae⟩ (by rw[bo];omega) ?_ ?_ ?_
   ·rintro i ys H3 hi ⟨rfl,_,s3,h3⟩;rw[bo]at hi;exact⟨SqL.of (s3 _ _ hCl),h3,by simp;omega⟩
   ·rintro i y ys H3 hi ⟨rfl,al,s3,h3⟩;rw[ant]at hi;cases hp:ps[i]? with
    |none=>rw[hp]at hi;cases hi
    |some p =>
     refine aS λGq gq=>?_
     rw[hp]at hi;obtain rfl:V.ref p=y:=anb hi;obtain⟨c,hc,hpc⟩:=hW.get hp;have cm:=anh hc;have co:mU c:=⟨by have:=wo.ln c cm;have:=wo.sm c cm;have:=o.sz;rw[an8]at *;omega,λw hw=>o.asc w (wo.mm c cm w hw)⟩
     refine gq ?_;refine⟨_,rfl,p,c,rfl,SqL.of (s3 _ _ hpc),co,λok H4 s4=>?_,λbad=>(h2 ?_).same (s2.trans s3)⟩
     ·refine cB.mk (by rw[bo];exact(List.getElem?_eq_some_iff.mp hp).1) (s4 _ _ h3) ⟨?_,?_,(s3.trans s4).own hD,ae⟩
      ·rw[aoA,hc];simp
      ·rw[aoA,hc,List.all_append,al];simp[ok]
     ·unfold readText;rw[ecs];refine if_neg λz=>?_
      have:=List.all_eq_true.mp z c cm;rw[bad]at this;cases this
   ·rintro ys H3 ⟨rfl,al,s3,h3⟩;rw[bo,pl,an8]at al h3;refine h1 cs ?_ D H3 (s2.trans s3) (s2.free hD) h3;unfold readText;rw[ecs];exact if_pos al
end
end R
namespace R
theorem HI {α:Type}{b c:α}{r:List α}:atI (b::c::r) 1=some c:=by
 unfold atI ixN;rw[if_pos (by decide),if_pos (by rw[tm,tm];omega)]
 rfl
theorem Jo (k a b:Str):inV (.str k) [.str a,.str b]=decide (k=a\/k=b):=by
 have e:∀x y:Str,eqV (.str x) (.str y)=decide (y=x):=λx y=>by
  show (x == y)=_;rw[anU];simp;exact⟨λh=>h.symm,λh=>h.symm⟩
 unfold inV;simp only[aoG,List.any_nil,e,Bool.or_false];rw[anU];simp
theorem OF:kn 0≠kn 1/\kn 2≠kn 1/\kn 0≠kn 2:=by trivial
def Vh (K:ba)(A:Adr):Sp:=λvs H Q E=>∃(a:Addr) (ws:List Str),vs=[.ref a]/\SqL K H a (ws.map V.str)/\mU ws /\
 (∀k i th,i7 ws=some (k,i,th)->∀t H',a9 H H'->H t=none->H' t=some (.tup (edR k i (km bl1 th)))->Q (.ref t) H')/\(i7 ws=none->EA A 1 E H)
def Vi (K:ba)(A:Adr):Sp:=λvs H Q E=>∃(a:Addr) (ws:List Str),vs=[.ref a]/\SqL K H a (ws.map V.str)/\mU ws /\
 (∀k i th,mj ws=some (k,i,th)->∀t H',a9 H H'->H t=none->H' t=some (.tup (edR k i (km bl1 th)))->Q (.ref t) H')/\(mj ws=none->EA A 1 E H)
def ZA (K:ba)(A:Adr):Sp:=λvs H Q E=>∃(a:Addr) (ws:List Str),vs=[.ref a]/\SqL K H a (ws.map V.str)/\mU ws /\
 (∀n,wU ws=some n->∀H',a9 H H'->Q (.int n) H')/\(wU ws=none->EA A 1 E H)
def C1 (K:ba)(A:Adr):Sp:=λvs H Q E=>∃(z:Str),vs=[.str z]/\z.length<=50000/\Asc z /\
 (∀d,df (Txt.split z bl1)=some d->∀t H',a9 H H'->H t=none->eR H H' d t->Q (.ref t) H')/\(df (Txt.split z bl1)=none->EA A 1 E H)
theorem ak0 (a b:V)(r:List V):kF (a::b::r) (some 2) none=r:=by
 rw[show (2:Int)=((2:Nat):Int) from rfl,uN]
 rfl
theorem ak1 (a:V)(r:List V):kF (a::r) (some 1) none=r:=by
 rw[show (1:Int)=((1:Nat):Int) from rfl,uN]
 rfl
section
variable{P:rf}{w:World}{K:ba}{mg:Str->Option Value}{base:Heap}{A:Adr}
theorem zt (T:Txt w.params K mg A):aT P w K mg base (CXX P w) 5 A.Ak A.sN ["words"] (Vh K A):=by
 have lA:aT P w K mg base (CXX P w) 3 A.yO A.nY ["holds"] (AR A):=iy T;refine T.p6.okX m5 (λvs H Q E h=>?_) (λcdv A' outer s H vs Q E hr h=>?_)
 ·obtain⟨a,ws,rfl,_⟩:=h;rfl
 ·obtain⟨a,ws,rfl,hS,o,h1,h2⟩:=h;have jo:Room 3 _:=hr.mono (by decide)
  have pE:=hr.units;refine⟨_,(au (b8 (bB lA jo rfl T.eF T.dU.kp T.eE (pax (aa (cH We (bT cf (by rfl) T.l6 iR (aa (pv 0) ag)) ai (aK _)) ag))))
 (au (psx (bh (i:=1) m5.nd rfl (anq rfl) (aZ bz (pv 0) ai (λ_ _=>rfl))))
 (au (GF (i:=2) m5.nd rfl (anq rfl) (bB (oN T) hr rfl T.gO T.fE.kp T.gN (pax (aa (aZ bz (pv 0) ai (λ_ _=>rfl)) ag))))
 (au (psx (bh (i:=3) m5.nd rfl (anq rfl) (iX mX (pv 0) (jN ai) mW)))
 (au (du (aJ bF (pv 1) aq (aK _))
 (au (b8 (bB lA jo rfl T.eF T.dU.kp T.eE (pax (aa (cH (GA pE) (pv 3) (dn ag) (aK _)) ag))))
 (aO (psx (aG (cI (aa aq (aa (pv 2) ag)))))))
 (mY aI))
 (au (b8 (bB lA jo rfl T.eF T.dU.kp T.eE (pax (aa (cH zX (pv 1) (cI (aa aq (aa aq ag))) rfl) ag))))
 (aO (iA (pU (cC (px (pv 1)) (cC (px (pv 2)) (cC (bB (oO T) hr rfl T.lT T.i4.kp T.lS (pax (aa (pv 3) ag))) mZ)))))))))))),?_⟩
  try dsimp only[bE]
  have sz:gr=16777216:=by decide
  have ol:=o.len;refine⟨_,rfl,a,_,rfl,.inl hS,_,_,rfl,rfl,_,rfl,λhb=>?_,λhb=>h2 ?_⟩
  rotate_left
  ·have hb':=of_decide_eq_false hb;rw[bo]at hb'
   match ws,hb' with
   |[],_=>rfl
   |[_],_=>rfl
   |_::_::r,h=>exact absurd (show (2:Int)<=((_::_::r).length:Int) by rw[tm,tm];omega) h
  refine aS λGq gq=>?_
  have hb':=of_decide_eq_true hb;rw[bo]at hb';obtain⟨k,p,th,rfl⟩:∃k p th,ws=k::p::th:=by
   match ws,hb' with
   |[],h=>exact absurd h (by decide)
   |[_],h=>exact absurd h (by simp)
   |k::p::r,_=>exact⟨k,p,r,rfl⟩
  refine gq ?_;refine ixv rfl hS rM ?_;refine⟨_,rfl,a,_,_,.str p,rfl,rfl,hS,HI,p,rfl,o.wl (by simp),λhn H2 s2=>?_,λhn=>h2 ?_⟩
  rotate_left
  ·show (if ez p=true then _ else none)=none
   rw[hn];rfl
  refine⟨_,rfl,_,rfl,a,_,rfl,s2.seq hS,λtp htp=>?_⟩
  have s3:a9 H2 (upd H2 tp (.lst (kF (List.map V.str (k::p::th)) (some 2) none))):=aB htp;have e2:kF (List.map V.str (k::p::th)) (some 2) none=th.map V.str:=ak0 _ _ _;rw[e2]at s3 ⊢;have oth:mU th:=o.drop 2;have am6:=oth.len;have hth:upd H2 tp (.lst (th.map V.str)) tp=some (.lst (th.map V.str)):=ae;generalize upd H2 tp (.lst (th.map V.str))=H3 at s3 hth ⊢;have s13:=s2.trans s3;have rE:i7 (k::p::th)=if k=kn 1 then (if th=[] then some (1,mi p,[]) else none) else if (k=kn 0\/k=kn 2)/\th.all dI=true then some (if k=kn 0 then 0 else 2,mi p,th) else none:=by
   show (if ez p=true then _ else none)=_
   rw[if_pos hn]
  refine⟨_,rfl,rfl,_,rfl,iY (λe=>?_) (λe=>?_)⟩
  ·have ek:k=kn 1:=by injection of_decide_eq_true e
   rw[if_pos ek]at rE;refine⟨_,rfl,anz _,λq hq=>?_⟩
   have s4:a9 H3 (upd H3 q (.lst [])):=aB hq;refine⟨.list (th.map anG),.list [],e9 (s4.seq (SqL.of hth)),?_,Bf λw hw=>(oth.asc w hw).ok,by trivial,?_⟩
   ·unfold DV;exact⟨q,[],rfl,SqL.of ae,by unfold DVs;rfl⟩
   ·rw[strs_nil];refine⟨_,rfl,λhb=>?_,λhb=>?_⟩
    ·have ht:=of_decide_eq_true hb;rw[if_pos ht]at rE;refine⟨_,rfl,(by show 2<=gr;decide),λt ht2=>h1 _ _ _ rE t _ ((s13.trans s4).new ht2) ((s13.trans s4).free ht2) ae⟩
    ·rw[if_neg (of_decide_eq_false hb)]at rE;exact(h2 rE).same (s13.trans s4)
  ·have ek:¬k=kn 1:=λz=>e (decide_eq_true (congrArg V.str z))
   rw[if_neg ek]at rE;refine⟨_,rfl,(by show 2<=gr;decide),λq hq=>?_⟩
   have s4:a9 H3 (upd H3 q (.tup [.str (ar "put"),.str (ar "turn")])):=aB hq;refine⟨q,_,rfl,.inr (SqT.of ae),rfl,rfl,?_⟩;refine⟨_,rfl,λhb=>?_,λhb=>?_⟩
   ·have hb':inV (.str k) [.str (ar "put"),.str (ar "turn")]=true:=hb;rw[Jo]at hb';have hk:k=kn 0\/k=kn 2:=of_decide_eq_true hb';refine⟨_,rfl,_,rfl,_,rfl,tp,th,rfl,SqL.of (s4 _ _ hth),oth,λok H5 s5=>?_,λbad=>?_⟩
    ·rw[if_pos ⟨hk,ok⟩]at rE;refine⟨(by show 3<=gr;decide),λt ht=>h1 _ _ _ rE t _ (((s13.trans s4).trans s5).new ht) (((s13.trans s4).trans s5).free ht) ?_⟩
     rw[ae];rcases hk with rfl | rfl
     ·rfl
     ·rw[if_neg (anj OF.2.2)];rfl
    ·rw[if_neg (λz=>by rw[z.2]at bad;cases bad)]at rE
     exact(h2 rE).same (s13.trans s4)
   ·have hb':inV (.str k) [.str (ar "put"),.str (ar "turn")]=false:=hb;rw[Jo]at hb';rw[if_neg (λz=>(of_decide_eq_false hb') z.1)]at rE
    exact(h2 rE).same (s13.trans s4)
theorem HJ (T:Txt w.params K mg A):aT P w K mg base (CXX P w) 6 A.Al A.sO ["words"] (Vi K A):=by
 refine T.vc.okX yL (λvs H Q E h=>?_) (λcdv A' outer s H vs Q E hr h=>?_)
 ·obtain⟨a,ws,rfl,_⟩:=h;rfl
 ·obtain⟨a,ws,rfl,hS,o,h1,h2⟩:=h;refine⟨_,(au (GF (i:=1) yL.nd rfl (anq rfl) (bB (zt T) hr rfl T.vb T.p6.kp T.va (pax (aa (pv 0) ag))))
 (au (b8 (bB (iy T) (hr.mono (by decide)) rfl T.eF T.dU.kp T.eE (pax (aa (QA (cH bF (aZ bx (pv 1) ai (λ_ _=>rfl)) aq (aK _)) (nK (cH bF (bT cf (by rfl) T.l6 iR (aa (pv 0) ag)) ai (aK _)))) ag))))
 (aO (psx (aG (pv 1)))))),?_⟩
  try dsimp only[bE]
  refine⟨_,rfl,a,ws,rfl,hS,o,λk i th re t H2 s2 nt ht=>?_,λhn=>h2 (by unfold mj;rw[hn];rfl)⟩
  have rm:mj ws=if k=1\/ws.length=3 then some (k,i,th) else none:=by unfold mj;rw[re];rfl
  refine ixv rfl (SqT.of ht) (Hu k i _) ⟨rfl,_,rfl,?_⟩;have kk:(V.str (kn k)=V.str (ar "cut"))↔k=1:=by
   refine AF ?_
   match ws,re with
   |x::p::r,re =>
    by_cases hp:ez p=true
    ·have re':=re;simp only[i7,if_pos hp]at re';split at re'
     ·split at re'
      ·simp at re';omega
      ·cases re'
     ·split at re'
      ·simp only[Option.some.injEq,aoS]at re';rw[<-re'.1];split <;> simp
      ·cases re'
    ·simp only[i7,if_neg hp]at re;cases re
  by_cases hk:k=1
  ·rw[decide_eq_true (kk.mpr hk)];refine iQ ⟨true,rfl,λ_=>?_,λz=>nomatch z⟩
   rw[if_pos (.inl hk)]at rm;exact⟨_,rfl,h1 _ _ _ rm t H2 s2 nt ht⟩
  ·rw[decide_eq_false λz=>hk (kk.mp z)]
   refine et ⟨_,rfl,a,_,rfl,.inl (s2.seq hS),rfl,_,rfl,λhb=>?_,λhb=>?_⟩
   ·have hl:ws.length=3:=by
     have:=of_decide_eq_true hb;rw[bo]at this;injection this with this
     omega
    rw[if_pos (.inr hl)]at rm;exact⟨_,rfl,h1 _ _ _ rm t H2 s2 nt ht⟩
   ·have hl:¬ws.length=3:=λz=>by
     refine of_decide_eq_false hb ?_;rw[bo,z];rfl
    rw[if_neg (by rintro (z | z);exact hk z;exact hl z)]at rm
    exact(h2 rm).same s2
theorem BV (T:Txt w.params K mg A):aT P w K mg base (CXX P w) 5 A.sP A.mz ["words"] (ZA K A):=by
 refine T.og.okX tU (λvs H Q E h=>?_) (λcdv A' outer s H vs Q E hr h=>?_)
 ·obtain⟨a,ws,rfl,_⟩:=h;rfl
 ·obtain⟨a,ws,rfl,hS,o,h1,h2⟩:=h;refine⟨_,(au (b8 (bB (iy T) (hr.mono (by decide)) rfl T.eF T.dU.kp T.eE (pax (aa (sE (cH bF (bT cf (by rfl) T.l6 iR (aa (pv 0) ag)) ai (aK _)) (nK (cH bF (aZ bz (pv 0) ai (λ_ _=>rfl)) aq (aK _)))) ag))))
 (au (GF (i:=1) tU.nd rfl (anq rfl) (bB (oN T) hr rfl T.gO T.fE.kp T.gN (pax (aa (aZ bz (pv 0) ai (λ_ _=>rfl)) ag))))
 (au (b8 (bB (iy T) (hr.mono (by decide)) rfl T.eF T.dU.kp T.eE (pax (aa (yA Ba Ba ai (pv 1) (lL (v:=V.int 999999999) rfl T.vm ⟨_,rfl⟩)) ag))))
 (aO (psx (aG (pv 1))))))),?_⟩
  try dsimp only[bE]
  refine⟨_,rfl,a,_,rfl,.inl hS,rfl,_,rfl,?_⟩;rw[bo]
  by_cases hl:ws.length=2
  ·obtain⟨x,n,rfl⟩:∃x n,ws=[x,n]:=by
    match ws,hl with
    |[x,n],_=>exact⟨x,n,rfl⟩
   refine iQ ⟨_,rfl,a,_,_,.str x,rfl,rfl,hS,rM,rfl,_,rfl,λhb=>?_,λhb=>?_⟩
   ·have hx:x=ar "off":=by injection of_decide_eq_true hb
    refine⟨_,rfl,a,_,_,.str n,rfl,rfl,hS,HI,n,rfl,o.wl (by simp),λhn H2 s2=>?_,λhn=>h2 ?_⟩
    ·refine⟨_,rfl,_,_,rfl,rfl,_,rfl,?_⟩
     by_cases b1:1<=mi n
     ·rw[decide_eq_true b1];refine iQ ⟨_,_,rfl,rfl,_,rfl,λb2=>?_,λb2=>?_⟩
      ·exact⟨_,rfl,h1 _ (if_pos ⟨hx,hn,b1,of_decide_eq_true b2⟩) H2 s2⟩
      ·exact(h2 (if_neg λz=>of_decide_eq_false b2 z.2.2.2)).same s2
     ·rw[decide_eq_false b1];exact et ⟨false,rfl,(λz=>nomatch z),λ_=>(h2 (if_neg λz=>b1 z.2.2.1)).same s2⟩
    ·exact if_neg λz=>by rw[z.2.1]at hn;cases hn
   ·exact h2 (if_neg λz=>of_decide_eq_false hb (congrArg V.str z.1))
  ·rw[decide_eq_false (show ¬V.int (ws.length:Int)=V.int 2 from λz=>hl (by injection z with z;omega))]
   refine et ⟨false,rfl,(λz=>nomatch z),λ_=>h2 ?_⟩
   match ws,hl with
   |[],_=>rfl
   |[_],_=>rfl
   |[_,_],h=>exact absurd rfl h
   |_::_::_::_,_=>rfl
end
theorem Jp (c:Nat):∀ws:List Str,ws≠[]->(ws.map (·.length)).sum+ws.length=(km ⟨#[c]⟩ ws).length+1
 |[],h=>absurd rfl h
 |[x],_=>by show _=x.length+1;simp
 |x::y::r,_=>by
  have ih:=Jp c (y::r) (anB _ _);have e:(km ⟨#[c]⟩ (x::y::r)).length=x.length+1+(km ⟨#[c]⟩ (y::r)).length:=by
   have:=congrArg List.length (hU c x y r);rw[ki,tm,tG,tG,tG]at this;omega
  simp only[ku,List.sum_cons,tm]at ih ⊢;omega
theorem Gb (c:Nat):∀ws:List Str,Asc (km ⟨#[c]⟩ ws)->∀w∈ws,Asc w
 |[],_,_,h=>nomatch h
 |[x],h,w,hw=>by rw[List.mem_singleton.mp hw];exact h
 |x::y::r,h,w,hw=>by
  have e:=hU c x y r;rcases List.mem_cons.mp hw with rfl | hw
  ·exactλd hd=>h d (by rw[e];exact anx _ hd)
  ·exact Gb c (y::r) (λd hd=>h d (by rw[e];exact gn _ (kq _ hd))) w hw
theorem ZC {z:Str}(h:z.length<=50000)(ha:Asc z):mU (Txt.split z bl1):=by
 have e:km ⟨#[32]⟩ (Txt.split z ⟨#[32]⟩)=z:=StrLaws.join_split _ _;rw[lb];have s:=Jp 32 _ (Dh z ⟨#[32]⟩);rw[e]at s;exact⟨by omega,Gb 32 _ (by rw[e];exact ha)⟩
theorem Jq (k:Str):inV (.str k) [.str (ar "close"),.str (ar "lay"),.str (ar "rest"),.str (ar "drop")]=decide (k∈Pz):=by
 have e:∀x y:Str,eqV (.str x) (.str y)=decide (y=x):=λx y=>by
  show (x == y)=_;rw[anU];simp;exact⟨λh=>h.symm,λh=>h.symm⟩
 unfold inV;simp only[aoG,List.any_nil,e,Bool.or_false];rw[anU];simp[Pz]
theorem xX {a b:Str}(h:¬decide (V.str a=V.str b)=true):¬a=b:=λz=>h (decide_eq_true (congrArg V.str z))
theorem xY {a b:Str}(h:decide (V.str a=V.str b)=true):a=b:=by injection of_decide_eq_true h
section
variable{P:rf}{w:World}{K:ba}{mg:Str->Option Value}{base:Heap}{A:Adr}
theorem tM (T:Txt w.params K mg A):aT P w K mg base (CXX P w) 7 A.nI A.iH ["row"] (C1 K A):=by
 have lA:aT P w K mg base (CXX P w) 3 A.yO A.nY ["holds"] (AR A):=iy T;have qy:aT P w K mg base (CXX P w) 4 A.pY A.jU ["word"] (Ss A):=oN T;refine T.lZ.okX m6 (λvs H Q E h=>?_) (λcdv A' outer s H vs Q E hr h=>?_)
 ·obtain⟨z,rfl,_⟩:=h;rfl
 ·obtain⟨z,rfl,zl,za,h1,h2⟩:=h;have jo:Room 3 _:=hr.mono (by decide)
  have oQ:Room 4 _:=hr.mono (by decide)
  have pE:=hr.units;refine⟨_,(au (psx (bh (i:=1) m6.nd rfl (anq rfl) (js PySem.F.plainAttrs_str PySem.F.slot_str_split PySem.F.type_str_split Il (pv 0) (aa aq ag))))
 (au (psx (bh (i:=2) m6.nd rfl (anq rfl) (aZ bz (pv 1) ai (λ_ _=>rfl))))
 (au (psx (bh (i:=3) m6.nd rfl (anq rfl) (iX mX (pv 1) (jN ai) mW)))
 (au (du (aJ bF (pv 2) aq (aK _))
 (aO (iA (pU (cC (px aq) (cC (bB (HG T) (hr.mono (by decide)) rfl T.Bq T.u9.kp T.Bp (pax (aa (pv 3) ag))) mZ)))))
 (mY aI))
 (au (du (aJ bF (pv 2) aq (aK _))
 (aO (iA (pU (cC (px aq) (cC (bB (zt T) (hr.mono (by decide)) rfl T.vb T.p6.kp T.va (pax (aa (pv 3) ag))) mZ)))))
 (mY aI))
 (au (du (aJ bF (pv 2) aq (aK _))
 (aO (iA (pU (cC (px aq) (cC (bB (HJ T) hr rfl T.Bs T.vc.kp T.Br (pax (aa (pv 3) ag))) mZ)))))
 (mY aI))
 (au (du (aJ bF (pv 2) aq (aK _))
 (aO (iA (pU (cC (px aq) (cC (bB (BV T) (hr.mono (by decide)) rfl T.ve T.og.kp T.vd (pax (aa (pv 3) ag))) mZ)))))
 (mY aI))
 (au (du (aJ bF (pv 2) aq (aK _))
 (aO (iA (pU (cC (px aq) (cC (bB (oO T) (hr.mono (by decide)) rfl T.lT T.i4.kp T.lS (pax (aa (pv 3) ag))) mZ)))))
 (mY aI))
 (au (du (aJ bF (pv 2) aq (aK _))
 (au (b8 (bB lA jo rfl T.eF T.dU.kp T.eE (pax (aa (cH bF (bT cf (by rfl) T.l6 iR (aa (pv 3) ag)) ai (aK _)) ag))))
 (aO (iA (pU (cC (px aq) (cC (bB qy oQ rfl T.gO T.fE.kp T.gN (pax (aa (aZ bz (pv 3) ai (λ_ _=>rfl)) ag))) (cC (bB qy oQ rfl T.gO T.fE.kp T.gN (pax (aa (aZ bz (pv 3) ai (λ_ _=>rfl)) ag))) mZ)))))))
 (mY aI))
 (au (du (aJ bF (pv 2) aq (aK _))
 (au (b8 (bB lA jo rfl T.eF T.dU.kp T.eE (pax (aa (cH bF (bT cf (by rfl) T.l6 iR (aa (pv 3) ag)) ai (aK _)) ag))))
 (aO (iA (pU (cC (px aq) (cC (bB qy oQ rfl T.gO T.fE.kp T.gN (pax (aa (aZ bz (pv 3) ai (λ_ _=>rfl)) ag))) mZ))))))
 (mY aI))
 (au (b8 (bB lA jo rfl T.eF T.dU.kp T.eE (pax (aa (sE (cH zX (pv 2) (lL (v:=V.ref A.u0) rfl T.RM rfl) rfl) (nK (cH (GA pE) (pv 3) (dn ag) (aK _)))) ag))))
 (aO (psx (aG (cI (aa (pv 2) ag)))))))))))))))),?_⟩
  try dsimp only[bE]
  have sz:gr=16777216:=by decide
  refine⟨_,rfl,rfl,z,bl1,rfl,rfl,by rw[lb];rfl,by omega,λW hW=>?_⟩
  have o:=ZC zl za;have hsp:=Dh z bl1;generalize Txt.split z bl1=sp at o hsp h1 h2 ⊢;refine aS λGq gq=>?_
  obtain⟨k,ws,rfl⟩:∃k ws,sp=k::ws:=by
   cases sp with
   |nil=>exact absurd rfl hsp
   |cons k ws=>exact⟨k,ws,rfl⟩
  have hWl:upd H W (.lst ((k::ws).map V.str)) W=some (.lst ((k::ws).map V.str)):=ae;have s1:a9 H (upd H W (.lst ((k::ws).map V.str))):=aB hW;refine gq ?_;generalize upd H W (.lst ((k::ws).map V.str))=H1 at hWl s1 ⊢;refine⟨_,rfl,W,_,_,.str k,rfl,rfl,SqL.of hWl,rM,?_⟩;refine⟨_,rfl,_,rfl,W,_,rfl,SqL.of hWl,λB hB=>?_⟩
  have e1:kF (List.map V.str (k::ws)) (some 1) none=ws.map V.str:=ak1 _ _;rw[e1];have s2:a9 H1 (upd H1 B (.lst (ws.map V.str))):=aB hB;have hBl:upd H1 B (.lst (ws.map V.str)) B=some (.lst (ws.map V.str)):=ae;generalize upd H1 B (.lst (ws.map V.str))=H2 at s2 hBl ⊢;have s12:=s1.trans s2;have hB':SqL K H2 B (ws.map V.str):=SqL.of hBl;have ow:mU ws:=o.drop 1;have owl:=ow.len;have R:df (k::ws)=_:=rfl;refine⟨_,rfl,rfl,_,rfl,iY (λe=>?_) (λe=>?_)⟩
  ·have R':df (k::ws)=(readText ws).map .mat:=by rw[df,if_pos (xY e)]
   refine⟨_,rfl,B,ws,rfl,hB',ow,λcs ec L H3 s3 nL hL=>⟨(by show 2<=gr;decide),λt ht=>?_⟩,λen=>(h2 (by rw[R',en];rfl)).same s12⟩
   have nLt:L≠t:=aU hL ht;exact h1 (.mat cs) (by rw[R',ec];rfl) t _ ((s12.trans s3).new ht) (s12.free (s3.free ht)) ⟨L,ae,s12.free nL,(av nLt).trans hL⟩
  have n1:=xX e;refine⟨_,rfl,rfl,_,rfl,iY (λe=>?_) (λe=>?_)⟩
  ·have R':df (k::ws)=(i7 ws).map λe=>.ed false e.1 e.2.1 e.2.2:=by rw[df,if_neg n1,if_pos (xY e)]
   refine⟨_,rfl,B,ws,rfl,hB',ow,λkk i th ec ta H3 s3 nta hta=>⟨(by show 2<=gr;decide),λt ht=>?_⟩,λen=>(h2 (by rw[R',en];rfl)).same s12⟩
   have nLt:ta≠t:=aU hta ht;exact h1 (.ed false kk i th) (by rw[R',ec];rfl) t _ ((s12.trans s3).new ht) (s12.free (s3.free ht)) ⟨ta,ae,s12.free nta,(av nLt).trans hta⟩
  have n2:=xX e;refine⟨_,rfl,rfl,_,rfl,iY (λe=>?_) (λe=>?_)⟩
  ·have R':df (k::ws)=(mj ws).map λe=>.ed true e.1 e.2.1 e.2.2:=by rw[df,if_neg n1,if_neg n2,if_pos (xY e)]
   refine⟨_,rfl,B,ws,rfl,hB',ow,λkk i th ec ta H3 s3 nta hta=>⟨(by show 2<=gr;decide),λt ht=>?_⟩,λen=>(h2 (by rw[R',en];rfl)).same s12⟩
   have nLt:ta≠t:=aU hta ht;exact h1 (.ed true kk i th) (by rw[R',ec];rfl) t _ ((s12.trans s3).new ht) (s12.free (s3.free ht)) ⟨ta,ae,s12.free nta,(av nLt).trans hta⟩
  have n3:=xX e;refine⟨_,rfl,rfl,_,rfl,iY (λe=>?_) (λe=>?_)⟩
  ·have R':df (k::ws)=(wU ws).map λn=>.nums (ar "put off") [n]:=by rw[df,if_neg n1,if_neg n2,if_neg n3,if_pos (xY e)]
   refine⟨_,rfl,B,ws,rfl,hB',ow,λn ec H3 s3=>⟨(by show 2<=gr;decide),λt ht=>?_⟩,λen=>(h2 (by rw[R',en];rfl)).same s12⟩
   exact h1 (.nums (ar "put off") [n]) (by rw[R',ec];rfl) t _ ((s12.trans s3).new ht) (s12.free (s3.free ht)) ae
  have n4:=xX e;refine⟨_,rfl,rfl,_,rfl,iY (λe=>?_) (λe=>?_)⟩
  ·have R':df (k::ws)=if ws.all dI=true then some (.pt ws) else none:=by rw[df,if_neg n1,if_neg n2,if_neg n3,if_neg n4,if_pos (xY e)]
   refine⟨_,rfl,B,ws,rfl,hB',ow,λok H3 s3=>⟨(by show 2<=gr;decide),λt ht=>?_⟩,λen=>(h2 (by rw[R',en];rfl)).same s12⟩
   exact h1 (.pt ws) (by rw[R',if_pos ok]) t _ ((s12.trans s3).new ht) (s12.free (s3.free ht)) ae
  have n5:=xX e;refine⟨_,rfl,rfl,_,rfl,iY (λe=>?_) (λe=>?_)⟩
  ·have R':df (k::ws)=zq ws:=by rw[df,if_neg n1,if_neg n2,if_neg n3,if_neg n4,if_neg n5,if_pos (xY e)]
   refine⟨_,rfl,B,_,rfl,.inl hB',rfl,_,rfl,?_⟩;rw[bo]
   by_cases hl:ws.length=2
   ·obtain⟨a,b,rfl⟩:∃x n,ws=[x,n]:=by
     match ws,hl with
     |[x,n],_=>exact⟨x,n,rfl⟩
    refine⟨λ_=>?_,λz=>nomatch z⟩
    have R2:df [k,a,b]=if ez a=true/\ez b=true then some (.nums (ar "vote") [mi a,mi b]) else none:=R'
    refine⟨_,rfl,B,_,_,.str a,rfl,rfl,hB',rM,a,rfl,ow.wl (by simp),λha H3 s3=>?_,λha=>(h2 (by rw[R2,if_neg (λz=>by rw[z.1]at ha;cases ha)])).same s12⟩
    refine⟨_,rfl,B,_,_,.str b,rfl,rfl,s3.seq hB',HI,b,rfl,ow.wl (by simp),λhb H4 s4=>?_,λhb=>(h2 (by rw[R2,if_neg (λz=>by rw[z.2]at hb;cases hb)])).same (s12.trans s3)⟩
    refine⟨(by show 3<=gr;decide),λt ht=>?_⟩
    exact h1 (.nums (ar "vote") [mi a,mi b]) (by rw[R2,if_pos ⟨ha,hb⟩]) t _ (((s12.trans s3).trans s4).new ht) (s12.free (s3.free (s4.free ht))) ae
   ·rw[decide_eq_false (show ¬V.int (ws.length:Int)=V.int 2 from λz=>hl (by injection z with z;omega))]
    refine⟨(λz=>nomatch z),λ_=>(h2 ?_).same s12⟩
    rw[R']
    match ws,hl with
    |[],_=>rfl
    |[_],_=>rfl
    |[_,_],h=>exact absurd rfl h
    |_::_::_::_,_=>rfl
  have n6:=xX e;refine⟨_,rfl,rfl,_,rfl,iY (λe=>?_) (λe=>?_)⟩
  ·have R':df (k::ws)=zr ws:=by rw[df,if_neg n1,if_neg n2,if_neg n3,if_neg n4,if_neg n5,if_neg n6,if_pos (xY e)]
   refine⟨_,rfl,B,_,rfl,.inl hB',rfl,_,rfl,?_⟩;rw[bo]
   by_cases hl:ws.length=1
   ·obtain⟨a,rfl⟩:=List.length_eq_one_iff.mp hl;refine⟨λ_=>?_,λz=>nomatch z⟩
    have R2:df [k,a]=if ez a=true then some (.nums (ar "take") [mi a]) else none:=R'
    refine⟨_,rfl,B,_,_,.str a,rfl,rfl,hB',rM,a,rfl,ow.wl (by simp),λha H3 s3=>?_,λha=>(h2 (by rw[R2,if_neg (λz=>by rw[z]at ha;cases ha)])).same s12⟩
    refine⟨(by show 2<=gr;decide),λt ht=>?_⟩
    exact h1 (.nums (ar "take") [mi a]) (by rw[R2,if_pos ha]) t _ ((s12.trans s3).new ht) (s12.free (s3.free ht)) ae
   ·rw[decide_eq_false (show ¬V.int (ws.length:Int)=V.int 1 from λz=>hl (by injection z with z;omega))]
    refine⟨(λz=>nomatch z),λ_=>(h2 ?_).same s12⟩
    rw[R']
    match ws,hl with
    |[],_=>rfl
    |[_],h=>exact absurd rfl h
    |_::_::_,_=>rfl
  have n7:=xX e;have R':df (k::ws)=if k∈Pz/\ws=[] then some (.nums k []) else none:=by rw[df,if_neg n1,if_neg n2,if_neg n3,if_neg n4,if_neg n5,if_neg n6,if_neg n7]
  refine⟨_,rfl,A.u0,_,rfl,.inr (T.RN _),rfl,rfl,_,rfl,?_⟩
  by_cases hk:k∈Pz
  ·have hi:inV (.str k) [.str (ar "close"),.str (ar "lay"),.str (ar "rest"),.str (ar "drop")]=true:=by rw[Jq];exact decide_eq_true hk
   refine Bg (show (if false=true then _ else inV (.str k) _)=true from hi) ?_
   refine⟨_,rfl,anz _,λq hq=>?_⟩
   have s4:a9 H2 (upd H2 q (.lst [])):=aB hq;refine⟨.list (ws.map anG),.list [],e9 (s4.seq hB'),?_,Bf λw hw=>(ow.asc w hw).ok,by trivial,?_⟩
   ·unfold DV;exact⟨q,[],rfl,SqL.of ae,by unfold DVs;rfl⟩
   ·rw[strs_nil];refine⟨_,rfl,λhb=>?_,λhb=>?_⟩
    ·have hw:=of_decide_eq_true hb;refine⟨_,rfl,(by show 1<=gr;decide),λt ht=>?_⟩
     exact h1 (.nums k []) (by rw[R',if_pos ⟨hk,hw⟩]) t _ ((s12.trans s4).new ht) (s12.free (s4.free ht)) ae
    ·exact(h2 (by rw[R',if_neg (λz=>of_decide_eq_false hb z.2)])).same (s12.trans s4)
  ·have hi:inV (.str k) [.str (ar "close"),.str (ar "lay"),.str (ar "rest"),.str (ar "drop")]=false:=by rw[Jq];exact decide_eq_false hk
   refine Dj (show (if false=true then _ else inV (.str k) _)=false from hi) ?_
   exact⟨false,rfl,(λz=>nomatch z),λ_=>(h2 (by rw[R',if_neg (λz=>hk z.1)])).same s12⟩
end
end R
namespace R
def Su:bG->Prop
 | .nums kd ns=>kd=ar "put off"->∀i∈ns,1<=i/\i<=999999999
 |_=>True
theorem ZD {x:Str}(h:oz x):dI x=true:=by
 unfold dI;rw[decide_eq_true h.l1,decide_eq_true h.l2,decide_eq_false h.ns];refine List.all_eq_true.mpr λc hc=>?_
 obtain⟨a,b,d⟩:=h.sgn c hc;unfold qf;rw[decide_eq_true a,decide_eq_true b,decide_eq_true d];rfl
theorem C2 {ws:List Str}(h:∀w∈ws,oz w):ws.all dI=true:=List.all_eq_true.mpr λw hw=>ZD (h w hw)
theorem Jr:∀m:Nat,0 < m->∃c r,Nat.toDigits 10 m=c::r/\c≠'0':=by
 intro m
 induction m using Nat.strongRecOn with
 |_ m ih =>
  intro hm
  by_cases h:m < 10
  ·rw[Nat.toDigits_of_lt_base h];refine⟨_,_,rfl,?_⟩;have:∀d:Nat,d < 10->0 < d->Nat.digitChar d≠'0':=by decide
   exact this m h hm
  ·have hm2:m % 10 < 10:=Nat.mod_lt m (by decide)
   have t:Nat.toDigits 10 (m / 10)++Nat.toDigits 10 (m % 10)=Nat.toDigits 10 (10 * (m / 10)+m % 10):=Nat.toDigits_append_toDigits (by decide) (by omega) hm2
   rw[Nat.div_add_mod]at t;obtain⟨c,r,e,n⟩:=ih (m / 10) (by omega) (by omega)
   exact⟨c,r++Nat.toDigits 10 (m % 10),by rw[<-t,e];rfl,n⟩
theorem EB {i:Int}(h0:0<=i)(h1:i < 10 ^ 10):ez (num i)=true/\mi (num i)=i:=by
 have rd:=PySem.W.KIN.num_reads h0 h1;have hl:=Hs h0 h1;obtain⟨m,rfl⟩:=Int.eq_ofNat_of_zero_le h0;have sg:=PySem.W.KIN.signs_num m;have hd:∀c∈(num ((m:Nat):Int)).cps.toList,qw c=true:=λc hc=>by
  have hc':c∈(Nat.toDigits 10 m).map Char.toNat:=by rw[<-sg];exact hc
  obtain⟨ch,hch,e⟩:=List.mem_map.mp hc';have r:=PyProof.Rows.digit_range (Nat.isDigit_of_mem_toDigits (by decide) (by decide) hch)
  rw[<-e];unfold qw;rw[decide_eq_true r.1,decide_eq_true r.2];rfl
 have hne:num ((m:Nat):Int)≠em:=λe=>by
  have e2:(num ((m:Nat):Int)).cps.toList=em.cps.toList:=congrArg (λz:Str=>z.cps.toList) e
  rw[show (num ((m:Nat):Int)).cps.toList=_ from sg,I9]at e2
  by_cases hm:0 < m
  ·obtain⟨c,r,e3,_⟩:=Jr m hm;rw[e3]at e2;cases e2
  ·obtain rfl:m=0:=by omega
   revert e2;decide
 refine⟨?_,by unfold mi;rw[show PySem.intText? (num ((m:Nat):Int))=_ from rd];rfl⟩
 unfold ez;rw[decide_eq_true hne,decide_eq_true hl,List.all_eq_true.mpr hd]
 by_cases hm:0 < m
 ·obtain⟨c,r,e3,n⟩:=Jr m hm;have:¬(num ((m:Nat):Int)).cps.toList.head?=some 48:=λz=>by
   rw[show (num ((m:Nat):Int)).cps.toList=_ from sg,e3]at z
   have z':c.toNat=48:=by simpa using z
   exact n (Char.ext (UInt32.toNat_inj.mp z'))
  rw[decide_eq_false this];simp
 ·obtain rfl:m=0:=by omega
  have:num ((0:Nat):Int)=ar "0":=by trivial
  rw[decide_eq_true this];simp
def norm:bG->bG
 | .ed m k i ws=>.ed m k i (if k=1 then [] else ws)
 |d=>d
theorem Sv (k:Nat)(i:Int)(ws:List Str):edR k i (km bl1 (if k=1 then [] else ws))=edR k i (km bl1 ws):=by
 unfold edR;split
 ·rfl
 ·rfl
theorem eR.norm {H H':Hp}{d:bG}{t:Addr}(h:eR H H' (norm d) t):eR H H' d t:=by
 cases d with
 |ed m k i ws =>
  obtain⟨e,a,n,b⟩:=h;exact⟨e,a,n,by rw[Sv]at b;exact b⟩
 |_=>exact h
def HK:bG->List Str
 | .nums kd ns=>if kd=ar "put off" then ar "put"::ar "off"::ns.map num else kd::ns.map num
 |d=>iu d::gh d
theorem ME (d:bG):gi d=km bl1 (HK d):=by
 cases d with
 |nums kd ns =>
  show km bl1 (kd::ns.map num)=km bl1 (if kd=ar "put off" then _ else _)
  split
  ·rename_i h;rw[h];have e:ar "put off"=km bl1 [ar "put",ar "off"]:=by trivial
   rw[e];exact join_join bl1 [ar "put",ar "off"] (ns.map num) (anB _ _)
  ·rfl
 |_=>rfl
theorem Js {i:Int}(h0:0<=i)(h1:i < 10 ^ 10):32∉(num i).cps.toList:=λz=>by
 have:=(EB h0 h1).1;simp only[ez,anA]at this;have:=List.all_eq_true.mp this.2.2.1 32 z;revert this;decide
theorem Jt {d:bG}(o:DOk d):∀w∈HK d,32∉w.cps.toList:=by
 have lit:∀x∈([ar "matter",sl1,ar "mend",ar "change",kn 0,kn 1,kn 2,ar "point",ar "put",ar "off",ar "vote",ar "take",ar "close",ar "lay",ar "rest",ar "drop"]:List Str),32∉x.cps.toList:=by trivial
 cases d with
 |mat cs =>
  intro w hw;have hw':w∈ar "matter"::cs.flatMap (λws=>sl1::ws):=hw
  rcases List.mem_cons.mp hw' with rfl | hw'
  ·exact lit _ (by simp)
  ·obtain⟨ws,h1,h2⟩:=List.mem_flatMap.mp hw';rcases List.mem_cons.mp h2 with rfl | h2
   ·exact lit _ (by simp)
   ·exact((o.2 ws h1).wd w h2).free
 |ed m k i ws =>
  obtain⟨o1,⟨i0,i1⟩,o3,_⟩:=o;intro w hw;have hw':w∈kEd m::kn k::num i::(if k=1 then [] else ws):=hw
  rcases List.mem_cons.mp hw' with rfl | hw'
  ·cases m <;> exact lit _ (by simp[kEd])
  rcases List.mem_cons.mp hw' with rfl | hw'
  ·rcases o1 with rfl | rfl | rfl <;> exact lit _ (by simp)
  rcases List.mem_cons.mp hw' with rfl | hw'
  ·exact Js i0 i1
  split at hw'
  ·cases hw'
  ·exact(o3.wd w hw').free
 |pt ws =>
  intro w hw;have hw':w∈ar "point"::ws:=hw;rcases List.mem_cons.mp hw' with rfl | hw'
  ·exact lit _ (by simp)
  ·exact(o.wd w hw').free
 |nums kd ns =>
  obtain⟨o1,o2⟩:=o;intro w hw;have nf:∀w∈ns.map num,32∉w.cps.toList:=λw hw=>by
   obtain⟨i,hi,rfl⟩:=List.mem_map.mp hw;exact Js (o2 i hi).1 (o2 i hi).2
  have hw':w∈(if kd=ar "put off" then ar "put"::ar "off"::ns.map num else kd::ns.map num):=hw
  split at hw'
  ·rcases List.mem_cons.mp hw' with rfl | hw'
   ·exact lit _ (by simp)
   rcases List.mem_cons.mp hw' with rfl | hw'
   ·exact lit _ (by simp)
   ·exact nf w hw'
  ·rename_i hk;rcases List.mem_cons.mp hw' with rfl | hw'
   ·simp only[ee,aob,anP,or_false,aoS]at o1;rcases o1 with ⟨rfl,_⟩ | ⟨rfl,_⟩ | ⟨rfl,_⟩ | ⟨rfl,_⟩ | ⟨rfl,_⟩ | ⟨rfl,_⟩ | ⟨rfl,_⟩
    ·exact absurd rfl hk
    all_goals exact lit _ (by simp)
   ·exact nf w hw'
theorem Gd {d:bG}(o:DOk d):Txt.split (gi d) bl1=HK d:=by
 rw[ME,lb];refine Di ?_ (Jt o);cases d with
 |nums kd ns =>
  show (if kd=ar "put off" then _ else _)≠[]
  split <;> exact anB _ _
 |_=>exact anB _ _
theorem xu:∀(ws:List Str) (acc:List (List Str)) (c rest:List Str),(∀w∈ws,w≠sl1)->True->∀tl:List Str,clausesOf (acc++[c]) (ws++tl)=clausesOf (acc++[c++ws]) tl
 |[],acc,c,_,_,_,tl=>by simp
 |w::ws,acc,c,r,h,_,tl=>by
  show clausesOf (acc++[c]) (w::(ws++tl))=_;rw[clausesOf,if_neg (h w kb),if_neg (by simp)]
  have e1:(acc++[c]).dropLast=acc:=by simp
  have e2:(acc++[c]).getLastD []=c:=by simp
  rw[e1,e2,xu ws acc (c++[w]) r (λx hx=>h x (kq _ hx)) trivial tl]
  simp
theorem zu:∀(cs acc:List (List Str)),(∀ws∈cs,∀w∈ws,w≠sl1)->clausesOf acc (cs.flatMap λws=>sl1::ws)=some (acc++cs)
 |[],acc,_=>by simp[clausesOf]
 |ws::cs,acc,h=>by
  rw[List.flatMap_cons];show clausesOf acc (sl1::(ws++cs.flatMap λws=>sl1::ws))=_
  rw[clausesOf,if_pos rfl,xu ws acc [] [] (h ws kb) trivial,zu cs _ λx hx=>h x (kq _ hx)]
  simp
theorem PD {kd:Str}(h:kd∈Pz)(r:¬kd=ar "matter"/\¬kd=ar "change"/\¬kd=ar "mend"/\¬kd=ar "put"/\¬kd=ar "point")
  (r2:¬kd=ar "vote"/\¬kd=ar "take"):df [kd]=some (.nums kd []):=by
 rw[df,if_neg r.1,if_neg r.2.1,if_neg r.2.2.1,if_neg r.2.2.2.1,if_neg r.2.2.2.2,if_neg r2.1,if_neg r2.2,if_pos ⟨h,rfl⟩]
theorem PF {d:bG}(o:DOk d)(so:Su d):df (HK d)=some (norm d):=by
 have k1:¬ar "change"=ar "matter":=by trivial
 have k2:¬ar "mend"=ar "matter"/\¬ar "mend"=ar "change":=by trivial
 have k3:¬ar "put"=ar "matter"/\¬ar "put"=ar "change"/\¬ar "put"=ar "mend":=by trivial
 have k4:¬ar "point"=ar "matter"/\¬ar "point"=ar "change"/\¬ar "point"=ar "mend"/\¬ar "point"=ar "put":=by trivial
 have rest:∀kd∈([ar "vote",ar "take",ar "close",ar "lay",ar "rest",ar "drop"]:List Str),¬kd=ar "matter"/\¬kd=ar "change"/\¬kd=ar "mend"/\¬kd=ar "put"/\¬kd=ar "point":=by trivial
 cases d with
 |mat cs =>
  show df (ar "matter"::cs.flatMap λws=>sl1::ws)=some (.mat cs)
  rw[df,if_pos rfl];unfold readText;rw[zu cs [] λws hw w h=>((o.2 ws hw).wd w h).ns,Option.bind_some,if_pos]
  ·rfl
  ·exact List.all_eq_true.mpr λc hc=>C2 (o.2 c (by simpa using hc)).wd
 |ed m k i ws =>
  obtain⟨o1,⟨i0,i1⟩,o3,o4⟩:=o;obtain⟨n1,n2⟩:=EB i0 i1;have re:i7 (kn k::num i::(if k=1 then [] else ws))=some (k,i,if k=1 then [] else ws):=by
   rw[i7,if_pos n1,n2];rcases o1 with rfl | rfl | rfl
   ·rw[if_neg OF.1,if_neg (show ¬(0=1) by decide),if_pos (show (kn 0=kn 0\/kn 0=kn 2)/\ws.all dI=true from ⟨.inl rfl,C2 o3.wd⟩),if_pos rfl]
   ·rw[if_pos rfl];rfl
   ·rw[if_neg OF.2.1,if_neg (show ¬(2=1) by decide),if_pos (show (kn 2=kn 0\/kn 2=kn 2)/\ws.all dI=true from ⟨.inr rfl,C2 o3.wd⟩),if_neg (anj OF.2.2)]
  show df (kEd m::kn k::num i::(if k=1 then [] else ws))=some (.ed m k i (if k=1 then [] else ws))
  cases m with
  |false =>
   show df (ar "change"::_)=_;rw[df,if_neg k1,if_pos rfl,re];rfl
  |true =>
   show df (ar "mend"::_)=_;rw[df,if_neg k2.1,if_neg k2.2,if_pos rfl];unfold mj;rw[re,Option.bind_some,if_pos]
   ·rfl
   ·by_cases hk:k=1
    ·exact .inl hk
    ·right;rw[if_neg hk];have:=o4 rfl;simp[this]
 |pt ws =>
  show df (ar "point"::ws)=some (.pt ws);rw[df,if_neg k4.1,if_neg k4.2.1,if_neg k4.2.2.1,if_neg k4.2.2.2,if_pos rfl,if_pos (C2 o.wd)]
 |nums kd ns =>
  obtain⟨o1,o2⟩:=o;show df (if kd=ar "put off" then ar "put"::ar "off"::ns.map num else kd::ns.map num)=some (.nums kd ns)
  simp only[ee,aob,anP,or_false,aoS]at o1;rcases o1 with ⟨rfl,hl⟩ | ⟨rfl,hl⟩ | ⟨rfl,hl⟩ | ⟨rfl,hl⟩ | ⟨rfl,hl⟩ | ⟨rfl,hl⟩ | ⟨rfl,hl⟩
  ·obtain⟨n,rfl⟩:=List.length_eq_one_iff.mp hl;obtain⟨b1,b2⟩:=EB (o2 n (by simp)).1 (o2 n (by simp)).2
   obtain⟨s1,s2⟩:=so rfl n (by simp)
   rw[if_pos rfl,df,if_neg k3.1,if_neg k3.2.1,if_neg k3.2.2,if_pos rfl];show (wU [ar "off",num n]).map _=_;rw[wU,b2,if_pos ⟨rfl,b1,s1,s2⟩];rfl
  ·obtain⟨a,b,rfl⟩:∃x n,ns=[x,n]:=by
    match ns,hl with
    |[x,n],_=>exact⟨x,n,rfl⟩
   obtain⟨b1,b2⟩:=EB (o2 a (by simp)).1 (o2 a (by simp)).2
   obtain⟨c1,c2⟩:=EB (o2 b (by simp)).1 (o2 b (by simp)).2
   obtain⟨r1,r2,r3,r4,r5⟩:=rest (ar "vote") (by simp)
   rw[if_neg (by trivial),df,if_neg r1,if_neg r2,if_neg r3,if_neg r4,if_neg r5,if_pos rfl]
   show zq [num a,num b]=_;rw[zq,b2,c2,if_pos ⟨b1,c1⟩]
  ·obtain⟨n,rfl⟩:=List.length_eq_one_iff.mp hl;obtain⟨b1,b2⟩:=EB (o2 n (by simp)).1 (o2 n (by simp)).2
   obtain⟨r1,r2,r3,r4,r5⟩:=rest (ar "take") (by simp)
   rw[if_neg (by trivial),df,if_neg r1,if_neg r2,if_neg r3,if_neg r4,if_neg r5,if_neg (by trivial),if_pos rfl]
   show zr [num n]=_;rw[zr,b2,if_pos b1]
  all_goals
   obtain rfl:=List.length_eq_zero_iff.mp hl;rw[if_neg (by trivial)]
   exact PD (by trivial) (rest _ (by simp)) (by trivial)
theorem row_read {d:bG}(o:DOk d)(so:Su d):df (Txt.split (gi d) bl1)=some (norm d):=by rw[Gd o,PF o so]
theorem zv {d:bG}(o:DOk d):Asc (gi d):=by
 have e:=Gd o;have hne:∀w∈iu d::gh d,Asc w:=by
  have lit:∀x∈([ar "matter",sl1,ar "mend",ar "change",kn 0,kn 1,kn 2,ar "point",ar "put off",ar "vote",ar "take",ar "close",ar "lay",ar "rest",ar "drop"]:List Str),∀c∈x.cps.toList,c < 128:=by trivial
  have nf:∀ {i:Int},0<=i->i < 10 ^ 10->Asc (num i):=λh0 h1 c hc=>by
   have:=(EB h0 h1).1;simp only[ez,anA]at this;have:=List.all_eq_true.mp this.2.2.1 c hc;simp only[qw,anA,decide_eq_true_iff]at this;omega
  cases d with
  |mat cs =>
   intro w hw;rcases List.mem_cons.mp hw with rfl | hw'
   ·exact lit _ (by simp[iu])
   ·obtain⟨ws,h1,h2⟩:=List.mem_flatMap.mp hw';rcases List.mem_cons.mp h2 with rfl | h2
    ·exact lit _ (by simp)
    ·exact((o.2 ws h1).wd w h2).asc
  |ed m k i ws =>
   obtain⟨o1,⟨i0,i1⟩,o3,_⟩:=o;intro w hw;have hw':w∈kEd m::kn k::num i::(if k=1 then [] else ws):=hw
   rcases List.mem_cons.mp hw' with rfl | hw'
   ·cases m <;> exact lit _ (by simp[kEd])
   rcases List.mem_cons.mp hw' with rfl | hw'
   ·rcases o1 with rfl | rfl | rfl <;> exact lit _ (by simp)
   rcases List.mem_cons.mp hw' with rfl | hw'
   ·exact nf i0 i1
   split at hw'
   ·cases hw'
   ·exact(o3.wd w hw').asc
  |pt ws =>
   intro w hw;rcases List.mem_cons.mp hw with rfl | hw'
   ·exact lit _ (by simp[iu])
   ·exact(o.wd w hw').asc
  |nums kd ns =>
   obtain⟨o1,o2⟩:=o;intro w hw;rcases List.mem_cons.mp hw with hk | hw'
   ·have o1':=o1;simp only[ee,aob,anP,or_false,aoS]at o1';rw[hk];show Asc kd;rcases o1' with ⟨rfl,_⟩ | ⟨rfl,_⟩ | ⟨rfl,_⟩ | ⟨rfl,_⟩ | ⟨rfl,_⟩ | ⟨rfl,_⟩ | ⟨rfl,_⟩ <;> exact lit _ (by simp)
   ·obtain⟨i,hi,rfl⟩:=List.mem_map.mp hw';exact nf (o2 i hi).1 (o2 i hi).2
 have hs:Asc bl1:=by
  rw[lb];intro c hc;have:c=32:=by simpa using hc
  omega
 exact ou hs _ hne
end R
mutual
theorem DV.same {K:ba}{H H':Hp}(s:a9 H H'):∀(d:PyData) {x:V},DV K H d x->DV K H' d x
 | .none,_,h=>by unfold DV at h ⊢;exact h
 | .bool _,_,h=>by unfold DV at h ⊢;exact h
 | .int _,_,h=>by unfold DV at h ⊢;exact h
 | .str _,_,h=>by unfold DV at h ⊢;exact h
 | .list ds,_,h=>by
  unfold DV at h ⊢;obtain⟨a,xs,e,h1,h2⟩:=h;exact⟨a,xs,e,s.seq h1,DVs.same s ds h2⟩
 | .tuple ds,_,h=>by
  unfold DV at h ⊢;obtain⟨a,xs,e,h1,h2⟩:=h;exact⟨a,xs,e,fb s h1,DVs.same s ds h2⟩
 | .dict _,_,h=>by unfold DV at h;exact h.elim
theorem DVs.same {K:ba}{H H':Hp}(s:a9 H H'):∀(ds:List PyData) {xs:List V},DVs K H ds xs->DVs K H' ds xs
 |[],_,h=>by unfold DVs at h ⊢;exact h
 |d::ds,_,h=>by
  unfold DVs at h ⊢;obtain⟨x,r,e,h1,h2⟩:=h;exact⟨x,r,e,DV.same s d h1,DVs.same s ds h2⟩
end
theorem b7 {d:PyData}(h1:d.canLay0=true)(h2:d.depth<=64):SeqAt.shaped d=true:=by
 show (d.canLay0 && decide (d.depth<=64))=true;rw[h1,decide_eq_true h2];rfl
theorem lB {α:Type}{f:α->PyData}{k:Nat}(h:∀x,anl (f x)<=k):∀xs:List α,ani (xs.map f)<=k
 |[]=>by simp only[aom,ani];omega
 |x::xs=>by
  have h1:=h x;have h2:=lB h xs;simp only[ku,ani];omega
theorem tN {α:Type}{f:α->PyData}:∀ {xs:List α},(∀x∈xs,(f x).canLay0=true)->sr (xs.map f)=true
 |[],_=>by simp only[aom,sr]
 |x::xs,h=>by
  simp only[ku,sr,h x kb,tN λy hy=>h y (kq _ hy),anH]
theorem Ju (ns:List Nat):(BB ns).canLay0=true:=by
 unfold BB;simp only[ana];exact tN λn _=>by simp only[ana]
theorem Jv (ns:List Nat):(BB ns).depth<=2:=by
 unfold BB;have:=lB (f:=λn:Nat=>PyData.int (n:Int)) (k:=0) (λn=>by simp only[anl];omega) ns
 simp only[anl];omega
theorem ZE (x:Nat×Int×List Nat):(asD x).canLay0=true:=by
 unfold asD;simp only[ana,sr,Ju,anH]
theorem ZF (x:Nat×Int×List Nat):(asD x).depth<=10:=by
 have:=Jv x.2.2;unfold asD;simp only[anl,ani];omega
theorem ZG (x:Nat×Str):(dcD x).depth<=10:=by
 unfold dcD;simp only[anl,ani];omega
theorem MF {N:Nat}{st:Ch}(I:Inv N st)(ns:List Int):(stD st ns).canLay0=true:=by
 have h1:sr (ns.map λn=>asD (Jn st n))=true:=tN λn _=>ZE _
 have h2:sr (st.decided.map dcD)=true:=tN λx hx=>by
  unfold dcD;simp only[ana,sr,I.dw x hx,anH]
 unfold stD;simp only[ana,sr,Ju,h1,h2,anH]
theorem Sw (st:Ch)(ns:List Int):(stD st ns).depth<=64:=by
 have h0:=Jv st.aH;have h1:=lB (f:=λn=>asD (Jn st n)) (k:=10) (λn=>ZF _) ns
 have h2:=lB (f:=dcD) (k:=10) ZG st.decided;unfold stD;simp only[anl,ani];omega
theorem Sx:∀k,am8 (kn k)=true
 | 0=>by trivial
 | 1=>by trivial
 |_+2=>by show am8 (ar "turn")=true;trivial
theorem HL {e:Ed}(h:am8 e.th=true):(edD e).canLay0=true:=by
 have h0:=Sx 0;have h1:=Sx 1;have h2:=Sx 2;unfold edD;split <;> simp only[ana,sr,h,h0,h1,h2,anH]
theorem AS (e:Ed):(edD e).depth<=10:=by
 unfold edD;split <;> simp only[anl,ani] <;> omega
theorem oR {tx:List Str}(h:∀x∈tx,am8 x=true):(aoM (tx.map anG)).canLay0=true:=by
 simp only[ana];exact pR tx h
theorem j6 (tx:List Str):(aoM (tx.map anG)).depth<=10:=by
 have:=sG tx;simp only[anl];omega
theorem ZH {N:Nat}:∀ {m:Mn},MOk N m->(mnD m).canLay0=true
 | .mat tx,h=>by
  have h0:=y7 0 (by decide)
  have h1:=oR h.2;unfold mnD;simp only[ana,sr]at h1 ⊢;simp only[h0,h1,anH]
 | .chg e,h=>by
  have h0:=y7 1 (by decide)
  have h1:=HL (EdB.str h);unfold mnD;simp only[ana,sr,h0,h1,anH]
 | .mnd e,h=>by
  have h0:=y7 2 (by decide)
  have h1:=HL (EdB.str h.1);unfold mnD;simp only[ana,sr,h0,h1,anH]
 | .off u,_=>by
  have h0:=y7 3 (by decide)
  unfold mnD;simp only[ana,sr,h0,anH]
 | .cls,_=>by
  have h0:=y7 4 (by decide)
  unfold mnD;simp only[ana,sr,h0,anH]
 | .lay,_=>by
  have h0:=y7 5 (by decide)
  unfold mnD;simp only[ana,sr,h0,anH]
 | .rst,_=>by
  have h0:=y7 6 (by decide)
  unfold mnD;simp only[ana,sr,h0,anH]
 | .pnt z,h=>by
  have h0:=y7 7 (by decide)
  have h1:am8 z=true:=h;unfold mnD;simp only[ana,sr,h0,h1,anH]
theorem ak2 (m:Mn):(mnD m).depth<=64:=by
 cases m with
 |mat tx =>
  have:=j6 tx;unfold mnD;simp only[anl,ani]at this ⊢;omega
 |chg e =>
  have:=AS e;unfold mnD;simp only[anl,ani];omega
 |mnd e =>
  have:=AS e;unfold mnD;simp only[anl,ani];omega
 |_=>unfold mnD;simp only[anl,ani];omega
theorem BC:∀ {xs ys:List Int},List.Perm xs ys->xs.Pairwise (·<=·)->ys.Pairwise (·<=·)->xs=ys
 |[],ys,p,_,_=>(List.Perm.nil_eq p)
 |x::xs,[],p,_,_=>absurd p.length_eq (by simp)
 |x::xs,y::ys,p,hx,hy=>by
  obtain⟨x1,x2⟩:=List.pairwise_cons.mp hx;obtain⟨y1,y2⟩:=List.pairwise_cons.mp hy;have e:x=y:=by
   have a:x∈y::ys:=p.mem_iff.mp kb;have b:y∈x::xs:=p.mem_iff.mpr kb;rcases List.mem_cons.mp a with a | a
   ·exact a
   ·rcases List.mem_cons.mp b with b | b
    ·exact b.symm
    ·exact Int.le_antisymm (x1 y b) (y1 x a)
  subst e;rw[BC (List.perm_cons x |>.mp p) x2 y2]
def vK (H H':Hp):R.bG->Addr->Prop
 | .mat cs,t=>∃L,H t=none/\H L=none/\H' t=some (.tup [.str (ar "matter"),.ref L])/\H' L=some (.lst ((cs.map (km R.bl1)).map V.str))
 | .ed m k j ws,t=>∃e,H t=none/\H e=none/\H' t=some (.tup [.str (R.kEd m),.ref e])/\H' e=some (.tup (R.edR k j (km R.bl1 ws)))
 | .pt ws,t=>H t=none/\H' t=some (.tup [.str (ar "point"),.str (km R.bl1 ws)])
 | .nums kd ns,t=>H t=none/\H' t=some (.tup (.str kd::ns.map V.int))
theorem vK.c {i:Nat}{c:Col}{H H':Hp}{t:Addr}:∀ {d:R.bG},vK H H' d t->qd i (eh c H) H' d t
 | .mat _,⟨L,h1,h2,h3,h4⟩=>⟨L,⟨by rw[dg h1];exact aX,h3⟩,by rw[dg h2];exact aX,h4⟩
 | .ed _ _ _ _,⟨e,h1,h2,h3,h4⟩=>⟨e,⟨by rw[dg h1];exact aX,h3⟩,dg h2,.inl h4⟩
 | .pt _,⟨h1,h2⟩=>⟨by rw[dg h1];exact aX,h2⟩
 | .nums _ _,⟨h1,h2⟩=>⟨by rw[dg h1];exact aX,h2⟩
theorem vK.pre {H0 H H':Hp}(s:a9 H0 H){t:Addr}:∀ {d:R.bG},vK H H' d t->vK H0 H' d t
 | .mat _,⟨L,h1,h2,h3,h4⟩=>⟨L,same_none s h1,same_none s h2,h3,h4⟩
 | .ed _ _ _ _,⟨e,h1,h2,h3,h4⟩=>⟨e,same_none s h1,same_none s h2,h3,h4⟩
 | .pt _,⟨h1,h2⟩=>⟨same_none s h1,h2⟩
 | .nums _ _,⟨h1,h2⟩=>⟨same_none s h1,h2⟩
abbrev zw:List Str:=[ar "a",ar "b",ar "-",ar "//",ar "put",ar "0",ar "x/y",ar "Z"]
theorem tO:∀x∈zw,R.oz x:=by
 intro x hx;simp only[aob,anP,or_false]at hx;rcases hx with rfl | rfl | rfl | rfl | rfl | rfl | rfl | rfl <;> exact R.Ja (by trivial)
theorem MG (xs:List V)(k:Nat):kF xs none (some (k:Int))=xs.take k:=by
 unfold kF;rw[HT.yC,HT.De,List.drop_zero,Nat.sub_zero,<-List.take_eq_take_min]
theorem Vj {xs:List V}{lo hi:Option Int}{x:V}(h:x∈kF xs lo hi):x∈xs:=by
 unfold kF at h;exact aoC (aon h)
def Sy (K:ba):Sp:=λvs H Q _=>∃(a:Addr) (ns:List Int) (k:Int),vs=[.ref a,.int k]/\SqL K H a (ns.map V.int)/\0<=k/\∀z:Int,Q (.int z) H
theorem nh.up {n m:Nat}{ws:List Str}(h:R.nh n ws)(l:n<=m):R.nh m ws:=⟨si h.len l,h.wd⟩
section
variable{P:rf}{w:World}{K:ba}{mg:Str->Option Value}{base:Heap}{A:Adr}
theorem Jw (T:Txt w.params K mg A):aT P w K mg base CX0 1 A.DL A.uY ["_law_cell","_law_many"] R.R3:=by
 refine T.xN.ok lX (λvs H Q E h=>?_) (λcdv A' outer s H vs Q E hr h=>?_)
 ·obtain⟨c,n,rfl,_⟩:=h;rfl
 ·obtain⟨c,n,rfl,h0,h1,k⟩:=h;refine⟨_,(ak (bh (i:=2) lX.nd rfl (anq rfl) (dn ag))
 (ak (bh (i:=3) lX.nd rfl (anq rfl) (bY fJ (bY hG (pv 0) ai) ai))
 (ak (C7 PassesOwn.never rfl (zT rfl T.CY (aa (bY fJ (pv 1) ai) ag)) (pP (i:=4) lX.nd rfl (anq rfl))
 (ak (bh (i:=3) lX.nd rfl (anq rfl) (bY hG (bY fJ (bY fJ (bY LA (pv 3) (pv 3)) (bY LA ai (pv 3))) (pv 4)) ai))
 (aj (bR (js am9 anu anv dq (pv 2) (aa (pv 3) ag))))))
 (aj (aG (iX mX (pv 2) (jN ai) mW)))))),?_⟩
  try dsimp only[bE]
  have sz:gr=16777216:=by decide
  refine⟨anz _,λF hF=>?_⟩
  refine⟨_,rfl,_,_,rfl,rfl,(by show (0:Int) < 4294967311;decide),_,_,rfl,rfl,?_⟩
  refine⟨_,rfl,_,_,rfl,rfl,_,rfl,by omega,by omega,?_⟩
  refine Fo (lo:=0) (n:=(n+1).toNat) (λi σ H2=>∃(zs:List Int) (m:Int) (kv:Option V),σ=[some (.int c),some (.int n),some (.ref F),some (.int m),kv]/\H2 F=some (.lst (zs.map V.int))/\zs.length=i/\(∀z∈zs,0<=z/\z < 4294967311)/\0<=m/\m < 4295015582/\a9 H H2)
   ⟨[],_,_,rfl,ae,rfl,(λz hz=>nomatch hz),by omega,by omega,aB hF⟩ ?_ ?_
  ·rintro i σ H2 hi ⟨zs,m,kv,rfl,h2,hl,hz,m0,m1,s2⟩;refine⟨_,rfl,_,rfl,_,_,rfl,rfl,.inl ⟨by omega,by omega⟩,_,rfl,_,_,rfl,rfl,.inl ⟨by decide,by decide⟩,_,_,rfl,rfl,_,rfl,_,_,rfl,rfl,_,_,rfl,rfl,(by show (0:Int) < 4294967311;decide),?_⟩
   refine⟨_,rfl,.inl ⟨rfl,_,SqL.of h2⟩,_,rfl,F,_,_,rfl,rfl,h2,(by rw[bo];omega),?_⟩
   have q0:0<=(m * m+69621 * m+(0+(i:Int))) % 4294967311:=Int.emod_nonneg _ (by decide)
   have q1:(m * m+69621 * m+(0+(i:Int))) % 4294967311 < 4294967311:=Int.emod_lt_of_pos _ (by decide)
   refine⟨zs++[(m * m+69621 * m+(0+(i:Int))) % 4294967311],_,_,rfl,?_,?_,λz h=>?_,q0,by omega,s2.own hF⟩
   ·rw[ae,ky];rfl
   ·rw[ki,hl];rfl
   ·rcases List.mem_append.mp h with h | h
    ·exact hz z h
    ·rw[List.mem_singleton.mp h];exact⟨q0,q1⟩
  ·rintro σ H2 ⟨zs,m,kv,rfl,h2,hl,hz,m0,m1,s2⟩;refine⟨_,rfl,_,rfl,F,_,rfl,SqL.of h2,λp hp=>?_⟩
   have e:kF (zs.map V.int) (some 1) none=(zs.drop 1).map V.int:=by
    rw[show (1:Int)=((1:Nat):Int) from rfl,uN,List.map_drop]
   rw[e];refine k (zs.drop 1) p _ (by rw[an6];omega) (λz h=>hz z (aoC h)) (s2.new hp) (s2.free hp) ae
theorem HM (T:Txt w.params K mg A):aT P w K mg base CX0 1 A.An A.sS ["_law_script","_law_k"] (Sy K):=by
 refine T.vh.ok GX (λvs H Q E h=>?_) (λcdv A' outer s H vs Q E hr h=>?_)
 ·obtain⟨a,ns,k,rfl,_⟩:=h;rfl
 ·obtain⟨a,ns,k,rfl,hS,h0,q⟩:=h;refine⟨_,(ak (bJ (aJ C9 (pv 1) (bT cf (by rfl) T.l6 iR (aa (pv 0) ag)) (aK _))
 (aj (aG (aZ bz (pv 0) (pv 1) (λ_ _=>rfl))))
 aI)
 (aj (aG ai))),?_⟩
  try dsimp only[bE]
  refine⟨_,rfl,_,rfl,a,_,rfl,.inl hS,_,_,rfl,rfl,_,rfl,iY (λe=>?_) (λ_=>q 0)⟩
  refine aS λGq gq=>?_
  have e':k < ((ns.map V.int).length:Int):=of_decide_eq_true e;rw[bo]at e';obtain⟨c,hc,hm⟩:=N8 (xs:=ns.map V.int) (i:=k) (n:=ns.length) (bo _) h0 e';obtain⟨z,_,rfl⟩:=List.mem_map.mp hm;refine gq ?_;exact⟨_,rfl,_,rfl,a,_,_,_,rfl,rfl,hS,hc,q z⟩
end
def mn:R.bG->PyData
 | .mat cs=>.tuple [.str (ar "matter"),.list ((cs.map (km R.bl1)).map anG)]
 | .ed m k j ws=>.tuple [.str (R.kEd m),edD ⟨k,j,km R.bl1 ws⟩]
 | .pt ws=>.tuple [.str (ar "point"),.str (km R.bl1 ws)]
 | .nums kd ns=>.tuple (.str kd::ns.map PyData.int)
def AU (c:Col)(H:Hp)(t:Addr)(xs:List V):Prop:=c t=none/\H t=some (.tup xs)
def eS (c:Col)(H:Hp):R.bG->Addr->Prop
 | .mat cs,t=>∃L,AU c H t [.str (ar "matter"),.ref L]/\c L=none/\H L=some (.lst ((cs.map (km R.bl1)).map V.str))
 | .ed m k j ws,t=>∃e,AU c H t [.str (R.kEd m),.ref e]/\TupAt c H e (R.edR k j (km R.bl1 ws))
 | .pt ws,t=>AU c H t [.str (ar "point"),.str (km R.bl1 ws)]
 | .nums kd ns,t=>AU c H t (.str kd::ns.map V.int)
theorem AU.c {i:Nat}{c:Col}{H:Hp}{t:Addr}{xs:List V}(h:AU c H t xs):AM i c H t xs:=⟨by rw[h.1];exact aX,h.2⟩
theorem AU.step {W:Option (Nat×Rl)->Prop}{c c':Col}{H H':Hp}{t:Addr}{xs:List V}(s:Step W c c' H H')(h:AU c H t xs):AU c' H' t xs:=vJ s h.1 h.2
theorem eS.step {W:Option (Nat×Rl)->Prop}{c c':Col}{H H':Hp}{t:Addr}(s:Step W c c' H H'):∀ {d:R.bG},eS c H d t->eS c' H' d t
 | .mat _,⟨L,a,b1,b2⟩=>⟨L,a.step s,vJ s b1 b2⟩
 | .ed _ _ _ _,⟨e,a,b⟩=>⟨e,a.step s,b.step s⟩
 | .pt _,h=>AU.step s h
 | .nums _ _,h=>AU.step s h
theorem eS.c {i:Nat}{c:Col}{H:Hp}{t:Addr}:∀ {d:R.bG},eS c H d t->qd i c H d t
 | .mat _,⟨L,a,b1,b2⟩=>⟨L,a.c,by rw[b1];exact aX,b2⟩
 | .ed _ _ _ _,⟨e,a,b⟩=>⟨e,a.c,b⟩
 | .pt _,h=>AU.c h
 | .nums _ _,h=>AU.c h
theorem eS.kind {c:Col}{H:Hp}{t:Addr}:∀ {d:R.bG},eS c H d t->∃xs,H t=some (.tup (.str (R.iu d)::xs))
 | .mat _,⟨_,a,_⟩=>⟨_,a.2⟩
 | .ed _ _ _ _,⟨_,a,_⟩=>⟨_,a.2⟩
 | .pt _,h=>⟨_,h.2⟩
 | .nums _ _,h=>⟨_,h.2⟩
theorem vK.z {c:Col}{H H':Hp}{t:Addr}:∀ {d:R.bG},vK H H' d t->eS (eh c H) H' d t
 | .mat _,⟨L,h1,h2,h3,h4⟩=>⟨L,⟨dg h1,h3⟩,dg h2,h4⟩
 | .ed _ _ _ _,⟨e,h1,h2,h3,h4⟩=>⟨e,⟨dg h1,h3⟩,dg h2,.inl h4⟩
 | .pt _,⟨h1,h2⟩=>⟨dg h1,h2⟩
 | .nums _ _,⟨h1,h2⟩=>⟨dg h1,h2⟩
theorem Jx (K:ba)(H:Hp):∀ns:List Int,DVs K H (ns.map PyData.int) (ns.map V.int)
 |[]=>by unfold DVs;rfl
 |n::ns=>by
  rw[ku,ku];unfold DVs;exact⟨_,_,rfl,by unfold DV;rfl,Jx K H ns⟩
theorem OG {K:ba}{i:Nat}{c:Col}{H:Hp}{t:Addr}{d:R.bG}(hd:rL d)(h:qd i c H d t):DV K H (mn d) (.ref t):=by
 cases d with
 |mat cs =>
  obtain⟨L,a,b⟩:=h;unfold mn DV;refine⟨t,_,rfl,SqT.of a.2,?_⟩;unfold DVs;refine⟨_,_,rfl,by unfold DV;rfl,?_⟩
  unfold DVs;exact⟨_,_,rfl,e9 (SqL.of b.2),by unfold DVs;rfl⟩
 |ed m k j ws =>
  obtain⟨e,a,b⟩:=h;cases hd with
  |move hm =>
   unfold mn DV;refine⟨t,_,rfl,SqT.of a.2,?_⟩;unfold DVs;refine⟨_,_,rfl,by unfold DV;rfl,?_⟩
   unfold DVs;exact⟨_,_,rfl,Eb _ (by rw[<-Ms hm.1];exact b.sq),by unfold DVs;rfl⟩
 |pt ws =>
  unfold mn DV;refine⟨t,_,rfl,SqT.of h.2,?_⟩;unfold DVs;refine⟨_,_,rfl,by unfold DV;rfl,?_⟩
  unfold DVs;exact⟨_,_,rfl,by unfold DV;rfl,by unfold DVs;rfl⟩
 |nums kd ns =>
  unfold mn DV;refine⟨t,_,rfl,SqT.of h.2,?_⟩;unfold DVs;exact⟨_,_,rfl,by unfold DV;rfl,Jx K H ns⟩
theorem aej {d:R.bG}(h:rL d):am8 (R.iu d)=true:=by
 cases h with
 |Fb=>show am8 (ar "vote")=true;trivial
 |drop=>trivial
 |take=>show am8 (ar "take")=true;trivial
 |move h =>
  cases d with
  |mat cs=>show am8 (ar "matter")=true;trivial
  |ed m k j ws=>cases m <;> (show am8 (R.kEd _)=true;trivial)
  |pt ws=>show am8 (ar "point")=true;trivial
  |nums kd ns =>
   rcases nv h.1 with ⟨u,rfl,rfl⟩ | ⟨rfl,rfl⟩ | ⟨rfl,rfl⟩ | ⟨rfl,rfl⟩
   ·show am8 (ar "put off")=true;trivial
   ·show am8 (ar "close")=true;trivial
   ·show am8 (ar "lay")=true;trivial
   ·show am8 (ar "rest")=true;trivial
theorem Sz {d:R.bG}(h:rL d):(mn d).canLay0=true:=by
 have hk:=aej h;cases d with
 |mat cs =>
  cases h with
  |move h =>
   have h1:=oR (tx:=cs.map (km R.bl1)) (λx hx=>by
    obtain⟨ws,hw,rfl⟩:=List.mem_map.mp hx;exact vI (h.2 ws hw))
   have hk':am8 (ar "matter")=true:=hk;unfold mn;simp only[ana,sr]at h1 ⊢;simp only[hk',h1,anH]
 |ed m k j ws =>
  cases h with
  |move h =>
   have h1:=HL (e:=⟨k,j,km R.bl1 ws⟩) (vI h.2.2.1);have hk':am8 (R.kEd m)=true:=hk;unfold mn;simp only[ana,sr,hk',h1,anH]
 |pt ws =>
  cases h with
  |move h =>
   have h1:am8 (km R.bl1 ws)=true:=vI h;have hk':am8 (ar "point")=true:=hk;unfold mn;simp only[ana,sr,hk',h1,anH]
 |nums kd ns =>
  have h1:sr (ns.map PyData.int)=true:=tN λn _=>by simp only[ana]
  have hk':am8 kd=true:=hk;unfold mn;simp only[ana,sr,hk',h1,anH]
theorem Jy (d:R.bG):(mn d).depth<=64:=by
 cases d with
 |mat cs =>
  have:=j6 (cs.map (km R.bl1));unfold mn;simp only[anl,ani]at this ⊢;omega
 |ed m k j ws =>
  have:=AS ⟨k,j,km R.bl1 ws⟩;unfold mn;simp only[anl,ani];omega
 |pt ws=>unfold mn;simp only[anl,ani];omega
 |nums kd ns =>
  have:=lB (f:=PyData.int) (k:=0) (λn=>by simp only[anl];omega) ns
  unfold mn;simp only[anl,ani];omega
def zx:R.bG->Bool
 | .nums kd _=>!(decide (kd=ar "vote") || decide (kd=ar "drop") || decide (kd=ar "take"))
 |_=>true
def isX:Rs->Bool
 | .exc _=>true
 |_=>false
theorem Vk {d:R.bG}(h:rL d):(!inV (V.str (R.iu d)) [V.str (ar "vote"),V.str (ar "drop"),V.str (ar "take")])=zx d:=by
 cases h with
 |Fb=>show (!inV (V.str (ar "vote")) _)=zx (.nums (ar "vote") [_,_]);rw[show zx (.nums (ar "vote") [_,_])=!(decide (ar "vote"=ar "vote") || decide (ar "vote"=ar "drop") || decide (ar "vote"=ar "take")) from rfl];trivial
 |drop=>trivial
 |take=>show (!inV (V.str (ar "take")) _)=!(decide (ar "take"=ar "vote") || decide (ar "take"=ar "drop") || decide (ar "take"=ar "take"));trivial
 |move h =>
  cases d with
  |mat cs=>show (!inV (V.str (ar "matter")) _)=true;trivial
  |ed m k j ws=>cases m <;> (show (!inV (V.str (R.kEd _)) _)=true;trivial)
  |pt ws=>show (!inV (V.str (ar "point")) _)=true;trivial
  |nums kd ns =>
   rcases nv h.1 with ⟨u,rfl,rfl⟩ | ⟨rfl,rfl⟩ | ⟨rfl,rfl⟩ | ⟨rfl,rfl⟩
   ·show (!inV (V.str (ar "put off")) _)=!(decide (ar "put off"=ar "vote") || decide (ar "put off"=ar "drop") || decide (ar "put off"=ar "take"));trivial
   ·trivial
   ·trivial
   ·trivial
theorem AV {W:Option (Nat×Rl)->Prop}(n:¬W none){c c':Col}{H1 H2:Hp}{x dx:Addr}{o:HO}(hx:H1 x=none)(hdx:H1 dx=none)(hk:∀a v,(upd (upd H1 dx (.own x)) x o) a=some v->a≠x->H2 a=some v/\c' a=c a):Step W c c' H1 H2:=by
 have old:∀a v,H1 a=some v->H2 a=some v/\c' a=c a:=λa v h =>
  hk a v ((av (aU h hx)).trans ((av (aU h hdx)).trans h)) (aU h hx)
 exact⟨n,λa v h _=>(old a v h).1,λa v h=>⟨v,(old a v h).1⟩,λa v h _=>(old a v h).2⟩
section
variable{P:rf}{w:World}{K:ba}{mg:Str->Option Value}{base:Heap}{A:Adr}
theorem Xc.mat (T:Txt w.params K mg A){H:Hp}{C:Value}{d:Option Addr}:∀ {x:Xc},x.At A H C d->anp K C (.ref A.bL)=some true
 | .Em _,⟨e,_⟩=>by rw[e];exact T.jql
 | .zb _,⟨e,_⟩=>by rw[e];exact T.jqg
 | .Mm _,⟨e,_⟩=>by rw[e];exact T.jqm
 | .En,⟨e,_⟩=>by rw[e];exact T.jqd
 | .noChange,⟨e,_⟩=>by rw[e];exact T.jqe
 | .noFit,⟨e,_⟩=>by rw[e];exact T.jqo
 | .nothing,⟨e,_⟩=>by rw[e];exact T.jqh
 | .tooMany,⟨e,_⟩=>by rw[e];exact T.jqi
 | .Hw,⟨e,_⟩=>by rw[e];exact T.jqj
 | .Je,⟨e,_⟩=>by rw[e];exact T.jqf
end
def uo (d:R.bG):Prop:=rL d/\R.DOk d/\R.Su d
def PH:Sp:=λvs H Q _=>∃d:Int,vs=[.int d]/\∀(ws:List Str) (H':Hp),R.nh 8 ws->a9 H H'->Q (.str (km R.bl1 ws)) H'
def SA:Sp:=λvs H Q _=>∃(m:Bool) (d e:Int),vs=[.str (R.kEd m),.int d,.int e]/\∀(k:Nat) (j:Int) (ws:List Str) (t:Addr) (H':Hp),uo (.ed m k j ws)->a9 H H'->vK H H' (.ed m k j ws) t->Q (.ref t) H'
def SD (K:ba):Sp:=λvs H Q _=>∃(L:Addr) (z0 z1 z2 n:Int),vs=[.ref L,.int n]/\SqL K H L [.int z0,.int z1,.int z2]/\(0<=z0/\0<=z1/\0<=z2)/\1<=n/\n<=1000000000 /\
 ∀(d:R.bG) (t:Addr) (H':Hp),uo d->a9 H H'->vK H H' d t->Q (.ref t) H'
abbrev OH:List Int:=[8,64,512,4096,32768,262144,2097152,16777216]
abbrev SE:List Int:=[0,1,2,3,1,2,5,8]
abbrev MH:List V:=[V.str (ar "a"),V.str (ar "b"),V.str (ar "-"),V.str (ar "//"),V.str (ar "put"),V.str (ar "0"),V.str (ar "x/y"),V.str (ar "Z")]
abbrev MI:List V:=[V.int 8,V.int 64,V.int 512,V.int 4096,V.int 32768,V.int 262144,V.int 2097152,V.int 16777216]
abbrev Jz:List V:=[V.int 0,V.int 1,V.int 2,V.int 3,V.int 1,V.int 2,V.int 5,V.int 8]
theorem OI (d:Int):∃k:Nat,k<=8/\atI (SE.map V.int) (d % 8)=some (.int (k:Int)):=by
 obtain⟨v,hv,hm⟩:=N8 (xs:=SE.map V.int) (i:=d % 8) (n:=8) rfl (by omega) (by omega)
 obtain⟨x,hx,rfl⟩:=List.mem_map.mp hm;simp only[aob,anP,or_false]at hx;rcases hx with rfl | rfl | rfl | rfl | rfl | rfl | rfl | rfl
 ·exact⟨0,by decide,hv⟩
 ·exact⟨1,by decide,hv⟩
 ·exact⟨2,by decide,hv⟩
 ·exact⟨3,by decide,hv⟩
 ·exact⟨1,by decide,hv⟩
 ·exact⟨2,by decide,hv⟩
 ·exact⟨5,by decide,hv⟩
 ·exact⟨8,by decide,hv⟩
section
variable{P:rf}{w:World}{K:ba}{mg:Str->Option Value}{base:Heap}{A:Adr}
theorem vL (T:Txt w.params K mg A):aT P w K mg base CX0 1 A.DM A.uZ ["_law_draw"] PH:=by
 refine T.oj.ok Bj (λvs H Q E h=>?_) (λcdv A' outer s H vs Q E hr h=>?_)
 ·obtain⟨d,rfl,_⟩:=h;rfl
 ·obtain⟨d,rfl,q⟩:=h;refine⟨_,(ak (bh (i:=1) Bj.nd rfl (Or.inr rfl) (dn (aa aq (aa aq (aa aq (aa aq (aa aq (aa aq (aa aq (aa aq ag))))))))))
 (ak (xA (i:=2) (scope:=uV) E1 rfl rfl (anq rfl) (jL (dn (aa ai (aa ai (aa ai (aa ai (aa ai (aa ai (aa ai (aa ai ag)))))))))) (λ_ _ _ _ _=>(aZ (Iy (K:=K) rfl) (pv 2) (bY hG (bY yz (pv 1) (pv 0)) ai) (λ_ _=>rfl))))
 (aj (aG (js PySem.F.plainAttrs_str PySem.F.slot_str_join PySem.F.type_str_join N7 aq (aa (iX mX (pv 2) mW (jN (aZ bz (dn (aa ai (aa ai (aa ai (aa ai (aa ai (aa ai (aa ai (aa ai ag))))))))) (bY hG (pv 0) ai) (λ_ _=>rfl)))) ag)))))),?_⟩
  try dsimp only[bE]
  have sz:gr=16777216:=by decide
  refine⟨(by show 8<=gr;decide),λp hp=>?_⟩
  have hP:SqL K (upd H p (.lst MH)) p (zw.map V.str):=SqL.of ae;have s1:a9 H (upd H p (.lst MH)):=aB hp
  try dsimp only[jr]
  generalize upd H p (.lst MH)=H1 at hP s1 ⊢;refine⟨(by show 8<=gr;decide),λl hl=>?_⟩
  have hB:SqL K (upd H1 l (.lst MI)) l (OH.map V.int):=SqL.of ae;have s2:a9 H1 (upd H1 l (.lst MI)):=aB hl;refine⟨l,rfl,⟨_,hB⟩,λRr hR=>?_⟩
  generalize upd H1 l (.lst MI)=H2 at hB s2 hR ⊢;refine kG (K:=K) (a:=l) (xs:=OH.map V.int) (λj ys H3=>a9 H2 H3/\H3 Rr=some (.lst ys)/\∃ws:List Str,ys=ws.map V.str/\ws.length=j/\∀x∈ws,R.oz x) ⟨aB hR,ae,[],rfl,rfl,λ_ h=>nomatch h⟩ (by decide) ?_ ?_ ?_
  ·rintro j ys H3 hj ⟨s3,hR3,ws,rfl,hwl,hws⟩;refine⟨s3.seq hB,hR3,?_⟩;rw[bo];exact hwl
  ·rintro j y ys H3 hy ⟨s3,hR3,ws,rfl,hwl,hws⟩;refine aS λGq gq=>?_
   obtain⟨z,hz,rfl⟩:=List.mem_map.mp (anh hy);have hz':0 < z/\z<=16777216:=by
    simp only[aob,anP,or_false]at hz;omega
   obtain⟨v,hv,hm⟩:=N8 (xs:=zw.map V.str) (i:=d / z % 8) (n:=8) rfl (by omega) (by omega)
   obtain⟨x,hx,rfl⟩:=List.mem_map.mp hm;refine gq ?_;refine⟨_,rfl,_,rfl,_,rfl,_,_,rfl,rfl,⟨hz'.1,by omega⟩,_,_,rfl,rfl,(by show (0:Int) < 8;decide),p,_,_,_,rfl,rfl,(s2.trans s3).seq hP,hv,?_⟩
   refine cB.mk (List.getElem?_eq_some_iff.mp hy).1 hR3 ⟨s3.own hR,ae,ws++[x],?_,?_,?_⟩
   ·rw[ky];rfl
   ·rw[ki,hwl];rfl
   ·intro u hu;rcases List.mem_append.mp hu with hu | hu
    ·exact hws u hu
    ·rw[ra]at hu;rw[hu];exact tO x hx
  ·rintro ys H3 ⟨s3,hR3,ws,rfl,hwl,hws⟩;refine aS λGq gq=>?_
   obtain⟨k,hk8,hk⟩:=OI d;refine gq ?_;refine⟨rfl,_,rfl,(by show 8<=gr;decide),λl2 hl2=>?_⟩
   have s4:a9 H3 (upd H3 l2 (.lst Jz)):=aB hl2;refine⟨_,rfl,_,_,rfl,rfl,(by show (0:Int) < 8;decide),l2,_,_,_,rfl,rfl,SqL.of ae,hk,_,rfl,Rr,_,rfl,SqL.of (s4 _ _ hR3),λp3 hp3=>?_⟩
   rw[MG];have em:(ws.map V.str).take k=(ws.take k).map V.str:=by rw[List.map_take]
   rw[em];have hw:∀x∈ws.take k,R.oz x:=λx hx=>hws x (aon hx)
   have hl8:(ws.take k).length<=8:=by rw[anC];omega
   generalize ws.take k=zs at hw hl8 ⊢;have h20:=R.Jb hw;have hb:(R.bl1:Str).length=1:=by trivial
   refine⟨_,p3,zs,rfl,rfl,SqL.of ae,?_,?_⟩
   ·show (zs.map (·.length)).sum+zs.length * (ar " ").length<=_
    rw[show (ar " ").length=1 from hb]
    omega
   ·exact q zs _ ⟨hl8,hw⟩ ((((s1.trans s2).trans s3).trans s4).new hp3)
theorem PK (T:Txt w.params K mg A):aT P w K mg base CX0 2 A.L8 A.Ao ["_law_kind","_law_draw","_law_more"] SA:=by
 refine T.DU.ok rg (λvs H Q E h=>?_) (λcdv A' outer s H vs Q E hr h=>?_)
 ·obtain⟨m,d,e,rfl,_⟩:=h;rfl
 ·obtain⟨m,d,e,rfl,q⟩:=h;refine⟨_,(ak (bh (i:=3) rg.nd rfl (anq rfl) (aZ bz (dn (aa aq (aa aq (aa aq ag)))) (bY hG (pv 1) ai) (λ_ _=>rfl)))
 (ak (bh (i:=4) rg.nd rfl (anq rfl) (bY hG (bY yz (pv 1) ai) ai))
 (ak (bJ (aJ bF (pv 3) aq (aK _))
 (aj (aG (cI (aa (pv 0) (aa (cI (aa aq (aa (pv 4) ag))) ag)))))
 aI)
 (ak (bh (i:=5) rg.nd rfl (anq rfl) (bb (vL T) hr rfl T.tw T.oj.kp T.tq .nil aW (aa (pv 2) ag)))
 (ak (bJ (aJ bF (pv 0) aq (aK _))
 (aj (bh (i:=5) rg.nd rfl (anq rfl) (aZ bz (dn (aa aq (aa aq (aa aq (aa aq (aa aq (aa aq (aa aq (aa aq ag))))))))) (bY hG (pv 2) ai) (λ_ _=>rfl))))
 aI)
 (aj (aG (cI (aa (pv 0) (aa (cI (aa (pv 3) (aa (pv 4) (aa (pv 5) ag)))) ag)))))))))),?_⟩
  try dsimp only[bE]
  refine⟨(by show 3<=gr;decide),λp hp=>?_⟩
  refine aS λGq gq=>?_
  have s1:=aB (o:=.lst [V.str (ar "put"),.str (ar "cut"),.str (ar "turn")]) hp;obtain⟨k,hk3,hk⟩:∃k:Nat,(k=0\/k=1\/k=2)/\atI [V.str (ar "put"),.str (ar "cut"),.str (ar "turn")] (d % 3)=some (.str (kn k)):=by
   have h3:d % 3=0\/d % 3=1\/d % 3=2:=by omega
   rcases h3 with h | h | h
   ·exact⟨0,.inl rfl,by rw[h];rfl⟩
   ·exact⟨1,.inr (.inl rfl),by rw[h];rfl⟩
   ·exact⟨2,.inr (.inr rfl),by rw[h];rfl⟩
  refine gq ?_;refine⟨_,rfl,_,_,rfl,rfl,(by show (0:Int) < 3;decide),p,_,_,_,rfl,rfl,SqL.of ae,hk,?_⟩
  refine⟨_,rfl,_,_,rfl,rfl,⟨by decide,by decide⟩,_,_,rfl,rfl,(by show (0:Int) < 4;decide),?_⟩
  have j0:0<=d / 3 % 4:=by omega
  have j1:d / 3 % 4 < 4:=by omega
  dsimp only[jr];generalize d / 3 % 4=j at j0 j1 ⊢;have e10:(10:Int) ^ 10=10000000000:=by decide
  have wa:R.oz (ar "a"):=tO _ kb;have ok:∀ws:List Str,R.nh 8 ws->(m=true->ws.length=1)->uo (.ed m k j ws):=λws hw hm =>
   ⟨.move ⟨hk3,⟨by omega,by omega⟩,nh.up hw (by decide),hm⟩,⟨hk3,⟨j0,by omega⟩,nh.up hw (by decide),hm⟩,trivial⟩
  refine⟨_,rfl,rfl,_,rfl,?_⟩;rw[Ov k]
  by_cases h1:k=1
  ·subst h1;refine Bg (decide_eq_true rfl) ⟨_,rfl,_,rfl,(by show 2<=gr;decide),λte hte=>⟨(by show 2<=gr;decide),λt ht=>?_⟩⟩
   have nte:t≠te:=λz=>by rw[z,ae]at ht;cases ht
   refine q 1 j [ar "a"] t _ (ok _ ⟨by show 1<=8;decide,λw hw=>by rw[ra]at hw;rw[hw];exact wa⟩ λ_=>rfl) ((s1.new hte).new ht) ⟨te,same_none (s1.new hte) ht,same_none s1 hte,ae,(av (anj nte)).trans ae⟩
  ·refine Dj (decide_eq_false h1) ⟨_,rfl,e,rfl,λws H2 hw s2=>?_⟩
   have s12:=s1.trans s2;have fin:∀(zs:List Str) (H3:Hp) (te:Addr) (t:Addr),R.nh 8 zs->(m=true->zs.length=1)->a9 H H3->H3 te=none->(upd H3 te (.tup [V.str (kn k),.int j,.str (km R.bl1 zs)])) t=none ->
     Q (.ref t) (upd (upd H3 te (.tup [V.str (kn k),.int j,.str (km R.bl1 zs)])) t (.tup [V.str (R.kEd m),.ref te])):=λzs H3 te t hz hm s3 hte ht=>by
    have nte:t≠te:=λz=>by rw[z,ae]at ht;cases ht
    have er:R.edR k j (km R.bl1 zs)=[V.str (kn k),.int j,.str (km R.bl1 zs)]:=by
     rcases hk3 with rfl | rfl | rfl
     ·rfl
     ·exact absurd rfl h1
     ·rfl
    exact q k j zs t _ (ok zs hz hm) ((s3.new hte).new ht) ⟨te,same_none (s3.new hte) ht,same_none s3 hte,ae,by rw[er];exact(av (anj nte)).trans ae⟩
   dsimp only[jr];refine⟨_,rfl,rfl,_,rfl,?_⟩;cases m with
   |false =>
    refine Dj (by trivial) ⟨_,rfl,_,rfl,_,rfl,_,rfl,(by show 3<=gr;decide),λte hte=>⟨(by show 2<=gr;decide),λt ht=>?_⟩⟩
    exact fin ws H2 te t hw (λz=>nomatch z) s12 hte ht
   |true =>
    refine Bg (by trivial) ⟨(by show 8<=gr;decide),λp3 hp3=>?_⟩
    refine aS λGq gq=>?_
    obtain⟨v,hv,hm⟩:=N8 (xs:=zw.map V.str) (i:=e % 8) (n:=8) rfl (by omega) (by omega)
    obtain⟨x,hx,rfl⟩:=List.mem_map.mp hm;refine gq ?_;refine⟨_,rfl,_,_,rfl,rfl,(by show (0:Int) < 8;decide),p3,zw.map V.str,_,_,rfl,rfl,SqL.of ae,hv,?_⟩
    refine⟨_,rfl,_,rfl,_,rfl,_,rfl,(by show 3<=gr;decide),λte hte=>⟨(by show 2<=gr;decide),λt ht=>?_⟩⟩
    exact fin [x] _ te t ⟨by show 1<=8;decide,λw hw=>by rw[ra]at hw;rw[hw];exact tO x hx⟩ (λ_=>rfl) (s12.new hp3) hte ht
end
abbrev je:List V:=[V.int 1,V.int 3,V.int 7,V.int 11,V.int 13,V.int 17,V.int 19,V.int 23]
theorem ZI {cs:List (List Str)}(h:cs.length<=12)(hw:∀ws∈cs,R.nh 8 ws):uo (.mat cs) :=
 ⟨.move ⟨h,λws z=>nh.up (hw ws z) (by decide)⟩,⟨h,λws z=>nh.up (hw ws z) (by decide)⟩,trivial⟩
theorem ZJ {u:Int}(h1:1<=u)(h2:u<=5):uo (.nums (ar "put off") [u]):=by
 have e10:(10:Int) ^ 10=10000000000:=by decide
 have b:∀i∈[u],1<=i/\i<=5:=λi hi=>by rw[ra]at hi;rw[hi];exact⟨h1,h2⟩
 exact⟨.move ⟨by show (ar "put off",1)∈zo;trivial,λi hi=>by have:=b i hi;omega⟩,⟨by show (ar "put off",1)∈R.ee;trivial,λi hi=>by have:=b i hi;omega⟩,λ_ i hi=>by have:=b i hi;omega⟩
theorem HN {kd:Str}(h:(kd,0)∈zo)(h2:(kd,0)∈R.ee)(h3:¬kd=ar "put off"):uo (.nums kd []):=⟨.move ⟨h,λ_ z=>nomatch z⟩,⟨h2,λ_ z=>nomatch z⟩,λz=>absurd z h3⟩
theorem aek {ws:List Str}(h:R.nh 8 ws):uo (.pt ws):=⟨.move (nh.up h (by decide)),nh.up h (by decide),trivial⟩
theorem Vl {a b:Int}(ha:0<=a/\a < 10 ^ 10)(hb:0<=b/\b < 10 ^ 10):uo (.nums (ar "vote") [a,b]) :=
 ⟨.Fb ha hb,⟨by show (ar "vote",2)∈R.ee;trivial,λi hi=>by
  rcases List.mem_cons.mp hi with rfl | hi
  ·exact ha
  ·rw[ra]at hi;rw[hi];exact hb⟩,λz=>absurd z (by trivial)⟩
theorem Vm:uo (.nums (ar "drop") []):=⟨.drop,⟨by trivial,λ_ z=>nomatch z⟩,λz=>absurd z (by trivial)⟩
theorem Vn {z:Int}(h0:0<=z)(h1:z < 10 ^ 10):uo (.nums (ar "take") [z]) :=
 ⟨.take (by omega) h1,⟨by show (ar "take",1)∈R.ee;trivial,λi hi=>by rw[ra]at hi;rw[hi];exact⟨h0,h1⟩⟩,λz=>absurd z (by trivial)⟩
section
variable{P:rf}{w:World}{K:ba}{mg:Str->Option Value}{base:Heap}{A:Adr}
theorem PL (T:Txt w.params K mg A):aT P w K mg base CX0 3 A.L9 A.Aq ["_law_draws","_law_seats"] (SD K):=by
 refine T.DW.ok wz (λvs H Q E h=>?_) (λcdv A' outer s H vs Q E hr h=>?_)
 ·obtain⟨L,z0,z1,z2,n,rfl,_⟩:=h;rfl
 ·obtain⟨L,z0,z1,z2,n,rfl,hL,⟨p0,p1,p2⟩,n0,n1,q⟩:=h;refine⟨_,(ak (bh (i:=2) wz.nd rfl (anq rfl) (bY hG (aZ bz (pv 0) ai (λ_ _=>rfl)) ai))
 (ak (bJ (aJ C9 (pv 2) ai (aK _))
 (ak (bh (i:=3) wz.nd rfl (anq rfl) (iX mX (dn (aa ai (aa ai (aa ai (aa ai (aa ai (aa ai (aa ai (aa ai ag))))))))) mW (jN (aZ bz (dn (aa ai (aa ai (aa ai (aa ai (aa ai (aa ai (aa ai (aa ai ag))))))))) (bY hG (aZ bz (pv 0) ai (λ_ _=>rfl)) ai) (λ_ _=>rfl)))))
 (aj (aG (cI (aa aq (aa (pS (scope:=yN) IG rfl (jL (pv 3)) (λ_ _ _ _ _=>(bb (vL T) (hr.mono (by decide)) rfl T.tw T.oj.kp T.tq .nil aW (aa (bY yz (aZ (Iy (K:=K) rfl) (pv 1) ai (λ_ _=>rfl)) (pv 0)) ag)))) ag))))))
 aI)
 (ak (bJ (aJ C9 (pv 2) ai (aK _))
 (aj (aG (bb (PK T) hr rfl T.IM T.DU.kp T.IL .nil aW (aa (aZ bz (dn (aa aq (aa aq ag))) (bY hG (pv 2) ai) (λ_ _=>rfl)) (aa (aZ bz (pv 0) ai (λ_ _=>rfl)) (aa (aZ bz (pv 0) ai (λ_ _=>rfl)) ag))))))
 aI)
 (ak (bJ (aJ bF (pv 2) ai (aK _))
 (aj (aG (cI (aa aq (aa (bY fJ ai (bY hG (aZ bz (pv 0) ai (λ_ _=>rfl)) ai)) ag)))))
 aI)
 (ak (bJ (aJ C9 (pv 2) ai (aK _))
 (aj (aG (cI (aa (aZ bz (dn (aa aq (aa aq (aa aq ag)))) (bY QC (pv 2) ai) (λ_ _=>rfl)) ag))))
 aI)
 (ak (bJ (aJ bF (pv 2) ai (aK _))
 (aj (aG (cI (aa aq (aa (bb (vL T) (hr.mono (by decide)) rfl T.tw T.oj.kp T.tq .nil aW (aa (aZ bz (pv 0) ai (λ_ _=>rfl)) ag)) ag)))))
 aI)
 (ak (bJ (aJ C9 (pv 2) ai (aK _))
 (ak (bh (i:=4) wz.nd rfl (anq rfl) (bY hG (aZ bz (pv 0) ai (λ_ _=>rfl)) (bY fJ (pv 1) ai)))
 (aj (aG (cI (aa aq (aa (pv 4) (aa (bY hG (aZ bz (pv 0) ai (λ_ _=>rfl)) (bY fJ (bY QC (pv 1) (pv 4)) ai)) ag)))))))
 aI)
 (ak (bJ (aJ bF (pv 2) ai (aK _))
 (aj (aG (cI (aa aq ag))))
 aI)
 (aj (aG (cI (aa aq (aa (bY fJ ai (bY hG (aZ bz (pv 0) ai (λ_ _=>rfl)) ai)) ag))))))))))))),?_⟩
  try dsimp only[bE]
  have sz:gr=16777216:=by decide
  have a0:atI [V.int z0,V.int z1,V.int z2] 0=some (.int z0):=rfl;have a1:atI [V.int z0,V.int z1,V.int z2] 1=some (.int z1):=rfl;have a2:atI [V.int z0,V.int z1,V.int z2] 2=some (.int z2):=rfl;have e10:(10:Int) ^ 10=10000000000:=by decide
  refine ixv rfl hL a0 ⟨_,_,rfl,rfl,(by show (0:Int) < 16;decide),?_⟩
  have w0:0<=z0 % 16:=by omega
  have w1:z0 % 16 < 16:=by omega
  dsimp only[jr];generalize z0 % 16=wy at w0 w1 ⊢;refine⟨_,rfl,_,_,rfl,rfl,_,rfl,iY (λh=>?_) (λh=>?_)⟩
  ·
   refine⟨(by show 8<=gr;decide),λl0 hl0=>?_⟩
   have s0:=aB (o:=.lst je) hl0;refine⟨(by show 8<=gr;decide),λl2 hl2=>?_⟩
   refine aS λGq gq=>?_
   have s02:=s0.new (o:=.lst Jz) hl2;obtain⟨kc,am7,hkc⟩:=OI z2;have h02:(upd (upd H l0 (.lst je)) l2 (.lst Jz)) l0=some (.lst je):=(av (aU ae hl2)).trans ae;refine gq ?_;refine ixv rfl (s02.seq hL) a2 ⟨_,_,rfl,rfl,(by show (0:Int) < 8;decide),l2,_,_,_,rfl,rfl,SqL.of ae,hkc,_,rfl,l0,_,rfl,SqL.of h02,λl1 hl1=>?_⟩
   rw[MG];have s1:=s02.new (o:=.lst (je.take kc)) hl1;have hci:∀x∈je.take kc,∃k:Int,x=.int k/\0 < k/\k<=23:=λx hx=>by
    have hz:=aon hx;simp only[aob,anP,or_false]at hz;rcases hz with rfl | rfl | rfl | rfl | rfl | rfl | rfl | rfl <;> exact⟨_,rfl,by decide,by decide⟩
   have ak3:(je.take kc).length<=8:=by rw[anC];omega
   try dsimp only[jr]
   have hB:SqL K (upd (upd (upd H l0 (.lst je)) l2 (.lst Jz)) l1 (.lst (je.take kc))) l1 (je.take kc):=SqL.of ae;generalize upd (upd (upd H l0 (.lst je)) l2 (.lst Jz)) l1 (.lst (je.take kc))=H1 at s1 hB ⊢;generalize je.take kc=cs at ak3 hci hB ⊢;refine⟨_,rfl,l1,rfl,⟨_,hB⟩,λRr hR=>?_⟩
   refine kG (K:=K) (a:=l1) (xs:=cs) (λj ys H2=>a9 H1 H2/\H2 Rr=some (.lst ys)/\∃wss:List (List Str),ys=(wss.map (km R.bl1)).map V.str/\wss.length=j/\∀ws∈wss,R.nh 8 ws) ⟨aB hR,ae,[],rfl,rfl,λ_ h=>nomatch h⟩ (by omega) ?_ ?_ ?_
   ·rintro j ys H2 hj ⟨s2,hR2,wss,rfl,hwl,hws⟩;refine⟨s2.seq hB,hR2,?_⟩;rw[bo,bo];omega
   ·rintro j y ys H2 hy ⟨s2,hR2,wss,rfl,hwl,hws⟩;refine aS λGq gq=>?_
    obtain⟨k,rfl,k0,k7⟩:=hci y (anh hy);refine gq ?_;refine ixv rfl ((s1.trans s2).seq hL) a1 ⟨_,rfl,_,_,rfl,rfl,⟨k0,by omega⟩,_,rfl,λws H3 hw s3=>?_⟩
    refine cB.mk (List.getElem?_eq_some_iff.mp hy).1 (s3 _ _ hR2) ⟨(s2.trans s3).own hR,ae,wss++[ws],?_,?_,?_⟩
    ·rw[ky,ky];rfl
    ·rw[ki,hwl];rfl
    ·intro u hu;rcases List.mem_append.mp hu with hu | hu
     ·exact hws u hu
     ·rw[ra]at hu;rw[hu];exact hw
   ·rintro ys H2 ⟨s2,hR2,wss,rfl,hwl,hws⟩;refine⟨(by show 2<=gr;decide),λt ht=>?_⟩
    have hR0:H Rr=none:=same_none s1 hR;have nt:t≠Rr:=λz=>by rw[z,hR2]at ht;cases ht
    have ht0:H t=none:=same_none (s1.trans s2) ht;exact q (.mat wss) t _ (ZI (by omega) hws) ((s1.trans s2).new ht) ⟨Rr,ht0,hR0,ae,(av (anj nt)).trans hR2⟩
  ·refine⟨_,rfl,_,_,rfl,rfl,_,rfl,iY (λh=>?_) (λg2=>?_)⟩
   ·
    refine⟨(by show 2<=gr;decide),λl0 hl0=>?_⟩
    have s0:=aB (o:=.lst [V.str (ar "change"),.str (ar "mend")]) hl0;obtain⟨m,hm⟩:∃m:Bool,atI [V.str (ar "change"),.str (ar "mend")] (wy % 2)=some (.str (R.kEd m)):=by
     have h2:wy % 2=0\/wy % 2=1:=by omega
     rcases h2 with h | h
     ·exact⟨false,by rw[h];rfl⟩
     ·exact⟨true,by rw[h];rfl⟩
    refine⟨_,rfl,_,_,rfl,rfl,(by show (0:Int) < 2;decide),l0,_,_,_,rfl,rfl,SqL.of ae,hm,ixv rfl (s0.seq hL) a1 (ixv rfl (s0.seq hL) a2 ⟨m,z1,z2,rfl,λk j ws t H2 hmv s2 hdn=>?_⟩)⟩
    exact q _ t H2 hmv (s0.trans s2) (hdn.pre s0)
   ·refine⟨_,rfl,rfl,_,rfl,iY (λh=>?_) (λg3=>?_)⟩
    ·refine ixv rfl hL a1 ⟨_,_,rfl,rfl,(by show (0:Int) < 5;decide),_,_,rfl,rfl,(by show 2<=gr;decide),λt ht=>?_⟩
     exact q (.nums (ar "put off") [1+z1 % 5]) t _ (ZJ (by omega) (by omega)) (aB ht) ⟨ht,ae⟩
    ·refine⟨_,rfl,_,_,rfl,rfl,_,rfl,iY (λh2=>?_) (λh2=>?_)⟩
     ·refine⟨(by show 3<=gr;decide),λl0 hl0=>?_⟩
      refine aS λGq gq=>?_
      have s0:=aB (o:=.lst [V.str (ar "close"),.str (ar "lay"),.str (ar "rest")]) hl0;obtain⟨kd,hkd,hk⟩:∃kd:Str,uo (.nums kd [])/\atI [V.str (ar "close"),.str (ar "lay"),.str (ar "rest")] (wy - 7)=some (.str kd):=by
       have e1:¬wy < 6:=λz=>g2 (decide_eq_true z)
       have e2:¬wy=6:=λz=>g3 (decide_eq_true (by rw[z]))
       have e3:wy < 10:=of_decide_eq_true h2;have h3:wy - 7=0\/wy - 7=1\/wy - 7=2:=by omega
       rcases h3 with e | e | e
       ·exact⟨ar "close",HN (by trivial) (by trivial) (by trivial),by rw[e];rfl⟩
       ·exact⟨ar "lay",HN (by trivial) (by trivial) (by trivial),by rw[e];rfl⟩
       ·exact⟨ar "rest",HN (by trivial) (by trivial) (by trivial),by rw[e];rfl⟩
      refine gq ?_;refine⟨_,rfl,_,_,rfl,rfl,l0,_,_,_,rfl,rfl,SqL.of ae,hk,(by show 1<=gr;decide),λt ht=>?_⟩
      exact q (.nums kd []) t _ hkd (s0.new ht) ⟨same_none s0 ht,ae⟩
     ·refine⟨_,rfl,rfl,_,rfl,iY (λh=>?_) (λh=>?_)⟩
      ·refine ixv rfl hL a1 ⟨z1,rfl,λws H2 hw s2=>⟨(by show 2<=gr;decide),λt ht=>?_⟩⟩
       exact q (.pt ws) t _ (aek hw) (s2.new ht) ⟨same_none s2 ht,ae⟩
      ·refine⟨_,rfl,_,_,rfl,rfl,_,rfl,iY (λh=>?_) (λh=>?_)⟩
       ·refine ixv rfl hL a1 ⟨_,rfl,_,_,rfl,rfl,_,_,rfl,rfl,(by show (0:Int) < n+1;omega),?_⟩
        have y0:0<=z1 % (n+1):=Int.emod_nonneg _ (by omega)
        have y1:z1 % (n+1) < n+1:=Int.emod_lt_of_pos _ (by omega)
        dsimp only[jr];generalize z1 % (n+1)=ay at y0 y1 ⊢;refine⟨_,rfl,ixv rfl hL a2 ⟨_,rfl,_,rfl,_,_,rfl,rfl,_,_,rfl,rfl,_,_,rfl,rfl,(by show (0:Int) < n - ay+2;omega),(by show 3<=gr;decide),λt ht=>?_⟩⟩
        have x0:0<=z2 % (n - ay+2):=Int.emod_nonneg _ (by omega)
        have x1:z2 % (n - ay+2) < n - ay+2:=Int.emod_lt_of_pos _ (by omega)
        exact q (.nums (ar "vote") [ay,z2 % (n - ay+2)]) t _ (Vl ⟨y0,by omega⟩ ⟨x0,by omega⟩) (aB ht) ⟨ht,ae⟩
       ·refine⟨_,rfl,rfl,_,rfl,iY (λh=>?_) (λh=>?_)⟩
        ·exact⟨(by show 1<=gr;decide),λt ht=>q (.nums (ar "drop") []) t _ Vm (aB ht) ⟨ht,ae⟩⟩
        ·refine ixv rfl hL a1 ⟨_,_,rfl,rfl,(by show (0:Int) < 9;decide),_,_,rfl,rfl,(by show 2<=gr;decide),λt ht=>?_⟩
         exact q (.nums (ar "take") [1+z1 % 9]) t _ (Vn (by omega) (by omega)) (aB ht) ⟨ht,ae⟩
end
def AW:List Str:=[ar "matter",ar "change",ar "mend",ar "put off",ar "close",ar "lay",ar "rest",ar "point"]
theorem SG:∀k,k < 8->AW[k]?=some (nm k)/\∀m,m < k->AW[m]?≠some (nm k):=by trivial
def inF (cl:Bool)(ms:List Mn)(k:Nat):Bool:=decide ((k:Int) > uk cl ms) && Bz ms k
def oS (cl:Bool)(ms:List Mn)(n:Nat):List Str:=((aoE n).filter (inF cl ms)).map nm
theorem vM (cl:Bool)(ms:List Mn)(n:Nat):oS cl ms (n+1)=oS cl ms n++(if inF cl ms n=true then [nm n] else []):=by
 unfold oS;rw[List.range_succ,List.filter_append,ky]
 congr 1
 by_cases h:inF cl ms n=true
 ·rw[if_pos h];simp[List.filter,h]
 ·rw[if_neg h];simp[List.filter,h]
theorem MJ (cl:Bool)(ms:List Mn)(n:Nat):(oS cl ms n).length<=n:=by
 unfold oS;rw[bo];exact si (aov _ _) (by rw[List.length_range];exact kj _)
theorem PM {i:Nat}{z:Str}(h:AW[i]?=some z):i < 8/\z=nm i:=by
 have hi:i < 8:=(List.getElem?_eq_some_iff.mp h).1;exact⟨hi,anb (h.symm.trans (SG i hi).1)⟩
def Vo (A:Adr)(K:ba):Sp:=λvs H Q _=>∃(B:Addr) (cl:Bool) (c:Col) (ms:List Mn) (os:List Addr),vs=[.ref B,.bl cl]/\xq A K c H B ms os/\ms.length<=1000 /\
 ∀R H',H R=none->a9 H H'->H' R=some (.lst ((oS cl ms 8).map V.str))->Q (.ref R) H'
def PN (A:Adr):Sp:=λvs H Q _=>∃(i:Nat) (o:Addr) (c:Col) (st:Ch) (N:Nat),vs=[.ref o]/\dh A i c H o st/\Inv N st /\
 ∀R H',H R=none->a9 H H'->H' R=some (.lst ((oS st.closed (st.aH.map st.mo) 8).map V.str))->Q (.ref R) H'
section
variable{P:rf}{w:World}{K:ba}{mg:Str->Option Value}{base:Heap}{A:Adr}
theorem zy (T:Txt w.params K mg A):aT P w K mg base CX0 5 A.nX A.jT ["pile","closed"] (Vo A K):=by
 refine T.kW.ok pV (λvs H Q E h=>?_) (λcdv A' outer s H vs Q E hr h=>?_)
 ·obtain⟨B,cl,c,ms,os,rfl,_⟩:=h;rfl
 ·obtain⟨B,cl,c,ms,os,rfl,hB,hl,q⟩:=h;refine⟨_,(ak (bh (i:=2) pV.nd rfl (Or.inr rfl) (bb (AK T) (hr.mono (by decide)) rfl T.yR T.u6.kp T.yQ .nil aW (aa (pv 0) (aa (pv 1) ag))))
 (aj (aG (Q7 (scope:=lW) wY rfl (YD T.tk rfl T.yY) (λ_ _ _ _ _=>(PW.pt (pw_and (aJ QE (aZ (Uy (K:=K) (pr:=w.params) rfl rfl) (lL (v:=V.ref A.tab) rfl T.yY rfl) (pv 0) (λ_ _=>rfl)) (pv 3) (aK _)) (pw_and1 (iP (bb (mf T) hr rfl T.iV T.fG.kp T.iU .nil aW (aa (pv 0) (aa (pv 1) ag)))))))) (λ_ _ _ _ _=>(pv 0)))))),?_⟩
  try dsimp only[bE]
  refine⟨_,rfl,_,rfl,B,cl,c,ms,os,rfl,hB,?_⟩
  try dsimp only[jr]
  refine(λR hR=>?_:∀R,H R=none->_)
  have e8:[ar "matter",ar "change",ar "mend",ar "put off",ar "close",ar "lay",ar "rest",ar "point"]=AW:=rfl;rw[e8];refine O9 (ns:=AW) (λi ys H2=>ys=(oS cl ms i).map V.str/\a9 H H2/\H2 R=some (.lst ys)) ⟨rfl,aB hR,ae⟩ (by decide) ?_ ?_ ?_
  ·rintro i ys H2 hi ⟨rfl,s2,h2⟩;exact⟨h2,by rw[bo];exact MJ _ _ _⟩
  ·rintro i z ys H2 hz ⟨rfl,s2,h2⟩;refine aS λGq gq=>?_
   obtain⟨i8,rfl⟩:=PM hz;obtain⟨tk,htk⟩:=T.rk i i8;have lt8:i < AW.length:=i8;refine gq ?_;refine⟨_,rfl,A.tab,nm i,.int i,_,rfl,rfl,T.tb,htk,⟨_,rfl⟩,_,rfl,_,_,rfl,rfl,_,rfl,iY (λe=>?_) (λe=>?_)⟩
   ·have e':(i:Int) > uk cl ms:=of_decide_eq_true e;refine⟨_,rfl,_,rfl,i,B,c,ms,os,rfl,i8,hB.same s2,hl,λH3 s3=>⟨_,rfl,?_⟩⟩
    have ef:inF cl ms i=Bz ms i:=by unfold inF;rw[decide_eq_true e'];rfl
    cases hn:Bz ms i with
    |true =>
     refine iQ ⟨_,rfl,cB.mk lt8 (s3 _ _ h2) ⟨?_,(s2.trans s3).own hR,ae⟩⟩;rw[vM,ef,hn,if_pos rfl,ky];rfl
    |false =>
     refine et (uO.mk lt8 ⟨?_,s2.trans s3,s3 _ _ h2⟩);rw[vM,ef,hn,if_neg kr,anO]
   ·have e':¬(i:Int) > uk cl ms:=λz=>e (decide_eq_true z)
    refine et (uO.mk lt8 ⟨?_,s2,h2⟩);have ef:inF cl ms i=false:=by unfold inF;rw[decide_eq_false e'];rfl
    rw[vM,ef,if_neg kr,anO]
  ·rintro ys H2 ⟨rfl,s2,h2⟩;exact q R H2 hR s2 h2
theorem BD (T:Txt w.params K mg A):aT P w K mg base CX0 6 A.bS A.iT ["self"] (PN A):=by
 refine T.eM.ok wX (λvs H Q E h=>?_) (λcdv A' outer s H vs Q E hr h=>?_)
 ·obtain⟨i,o,c,st,N,rfl,_⟩:=h;rfl
 ·obtain⟨i,o,c,st,N,rfl,hc,I,q⟩:=h;obtain⟨dx,aM,aP,aA,aD,aF,aE,aR,ms,ds,ws,fs,es,X⟩:=hc.ex;refine⟨_,(aj (aG (bb (zy T) hr rfl T.rA T.kW.kp T.rz .nil aW (aa (dJ (pv 0) T.ah T.gZ (xT (i:=i) T) (hr.mono (by decide)) T.dX .nil aW) (aa (bf (pv 0) rfl) ag))))),?_⟩
  try dsimp only[bE]
  have pl:=I.pil.Ji;rw[bo]at pl;refine mtv rfl X.ob (bX (by trivial)) ⟨o,c,st,rfl,hc,I.eu,by omega,λR os hR ha=>?_⟩
  have s1:=aB (o:=.lst (os.map V.ref)) hR;have X1:=X.same s1;refine fw rfl X1.ob T.ah T.jq3 oH ⟨R,st.closed,c,st.aH.map st.mo,os,rfl,?_,by rw[bo];omega,λR2 H2 hR2 s2 h2=>?_⟩
  ·exact⟨SqL.of ae,vH s1 ha⟩
  ·exact q R2 H2 (same_none s1 hR2) (s1.trans s2) h2
end
def MnT (c:Col)(H:Hp)(m:Mn)(t:Addr):Prop:=c t=none/\∃v,H t=some (.tup (rowOf m.k v))/\m.Val c H v
theorem MnT.step {W:Option (Nat×Rl)->Prop}{c c':Col}{H H':Hp}{m:Mn}{t:Addr}(s:Step W c c' H H')(h:MnT c H m t):MnT c' H' m t:=by
 obtain⟨n,v,h,hv⟩:=h;have hn:¬W (c t):=by rw[n];exact s.nn
 exact⟨by rw[s.col t _ h hn];exact n,v,s.keep _ _ h hn,hv.step s⟩
theorem MnT.dv {K:ba}{c:Col}{H:Hp}{m:Mn}{t:Addr}(h:MnT c H m t):DV K H (mnD m) (.ref t):=by
 obtain⟨_,v,ht,hv⟩:=h
 by_cases h0:m.k=0
 ·obtain⟨tx,rfl⟩:∃tx,m=.mat tx:=by cases m <;> first | exact⟨_,rfl⟩ | exact absurd h0 (by simp[Mn.k])
  obtain⟨p,rfl,hp⟩:=hv;unfold mnD DV;refine⟨t,_,rfl,SqT.of ht,?_⟩;unfold DVs;refine⟨_,_,rfl,by unfold DV;rfl,?_⟩
  unfold DVs;exact⟨_,_,rfl,e9 (SqL.of hp.2),by unfold DVs;rfl⟩
 ·exact Zu (by omega) hv (SqT.of ht)
def Ge (A:Adr)(i:Nat):Sp:=λvs H Q _=>∃(o:Addr) (n:Nat) (c:Col) (st:Ch),vs=[.ref o,nV n]/\dh A i c H o st/\fq st n/\∀u H',a9 H H'->MnT (eh c H) H' (st.mo n) u->Q (.ref u) H'
section
variable{P:rf}{w:World}{K:ba}{mg:Str->Option Value}{base:Heap}{A:Adr}
theorem MK (T:Txt w.params K mg A){i:Nat}:aT P w K mg base (CXX P w) 3 A.bW A.gX ["self","number"] (Ge A i):=by
 have Mr:∀k,k < 8->aT P w K mg base CX0 2 (A.ft k) (A.ftd k) ["self"] (Hx A K k):=Jg T;refine T.fU.okX yJ (λvs H Q E h=>?_) (λcdv A' outer s H vs Q E hr h=>?_)
 ·obtain⟨o,n,c,st,rfl,_⟩:=h;rfl
 ·obtain⟨o,n,c,st,rfl,hc,hn,q⟩:=h;obtain⟨dx,aM,aP,aA,aD,aF,aE,aR,ms,ds,ws,fs,es,X⟩:=hc.ex;have hu1:=hr.u1;have hgd:=hr.gd;refine⟨_,(au (du (Lx (Aa hu1 (pv 1) (bf (pv 0) rfl)))
 (aO (jt T.vt rfl rfl T.xO (aa (Bh (jO (uQ (pv 1) uP))) ag)))
 (mY aI))
 (aO (psx (aG (nz (n:=8) (Cf:=A.C) (lN hu1 (bf (pv 0) rfl) (pv 1) (λ_ _=>rfl)) T.cl T.Mg Mr hr T.Mh aW))))),?_⟩
  try dsimp only[bE]
  refine⟨_,rfl,fw rfl X.ob T.ah T.jq2 i5 ⟨aM,_,rfl,.inl ⟨_,ma (n:Int),.inl X.made.2,rfl,rfl⟩,_,rfl,?_⟩⟩;refine aS λGq gq=>?_
  obtain⟨mo,hv,hmo⟩:=X.U0 hn;refine gq ?_;rw[hv];refine et ?_;refine aS λGq gq=>?_
  obtain⟨_,dm,v,hm,hvv⟩:=hmo;refine gq ?_;refine⟨_,rfl,o,A.ao,dx,_,.ref aM,rfl,X.ob,T.ah,T.jq2,i5,_,rfl,aM,_,rfl,.inl ⟨_,ma (n:Int),.inl X.made.2,rfl,hv.symm⟩,(st.mo n).k,(st.mo n).k8,mo,dm,_,rfl,hm,Oi _ v,?_⟩;generalize st.mo n=m at hm hvv q
  by_cases h0:m.k=0
  ·obtain⟨tx,rfl⟩:∃tx,m=.mat tx:=by cases m <;> first | exact⟨_,rfl⟩ | exact absurd h0 (by simp[Mn.k])
   refine aS λGq gq=>?_
   obtain⟨p,rfl,hp⟩:=hvv;refine gq ?_;refine .inl ⟨rfl,mo,dm,p,tx.map V.str,rfl,hm,SqL.of hp.2,λp2 u hp2 hu npu=>?_⟩
   have nu:(upd H p2 (.lst (tx.map V.str))) u=none:=(av (anj npu)).trans hu;exact q u _ ((aB hp2).new nu) ⟨dg hu,.ref p2,ae,p2,rfl,dg hp2,(av npu).trans ae⟩
  ·refine .inr ⟨by omega,mo,dm,v,rfl,hm,λu hu=>?_⟩
   have su:=aB (o:=.tup (rowOf m.k v)) hu;exact q u _ su ⟨dg hu,v,ae,hvv.step (Step.cl (W:=λ_=>False) id su)⟩
end
def wV (A:Adr)(i:Nat):Sp:=λvs H Q _=>∃(o:Addr) (c:Col) (st:Ch),vs=[.ref o]/\dh A i c H o st/\∀l,H l=none->Q (.ref l) (upd H l (.lst (st.rows.map V.str)))
section
variable{P:rf}{w:World}{K:ba}{mg:Str->Option Value}{base:Heap}{A:Adr}
theorem xZ (T:Txt w.params K mg A){i:Nat}:aT P w K mg base CX0 1 A.bD A.dE ["self"] (wV A i):=by
 refine T.fg.ok xC (λvs H Q E h=>?_) (λcdv A' outer s H vs Q E hr h=>?_)
 ·obtain⟨o,c,st,rfl,_⟩:=h;rfl
 ·obtain⟨o,c,st,rfl,hc,q⟩:=h;obtain⟨dx,aM,aP,aA,aD,aF,aE,aR,ms,ds,ws,fs,es,X⟩:=hc.ex;refine⟨_,(aj (aG (dQ cM (by rfl) T.kZ jb (aa (bf (pv 0) rfl) ag)))),?_⟩
  try dsimp only[bE]
  exact fw rfl X.ob T.ah T.jqc vC ⟨aR,_,rfl,.inl (SqL.of X.rows.2),q⟩
end
def SH (A:Adr)(i:Nat):Sp:=λvs H Q _=>∃(o:Addr) (n:Nat) (c:Col) (st:Ch) (x:Nat×List Str),vs=[.ref o,nV n]/\dh A i c H o st/\at1 n st.firsts=some x/\Q .non H
def JA (A:Adr)(i:Nat):Sp:=λvs H Q _=>∃(o:Addr) (n:Nat) (c:Col) (st:Ch) (x:Nat×List Str),vs=[.ref o,nV n]/\dh A i c H o st/\at1 n st.firsts=some x/\∀l,H l=none->Q (.ref l) (upd H l (.lst (x.2.map V.str)))
def OJ (A:Adr)(i:Nat):Sp:=λvs H Q _=>∃(o:Addr) (n:Nat) (c:Col) (st:Ch) (x:Nat×List Str) (y:Nat×List Ed),vs=[.ref o,nV n]/\dh A i c H o st/\at1 n st.firsts=some x/\at1 n st.kept=some y /\
 ∀l ts,H l=none->bI (λe t=>TupAt c H t (iN e)) y.2 ts->Q (.ref l) (upd H l (.lst (ts.map V.ref)))
section
variable{P:rf}{w:World}{K:ba}{mg:Str->Option Value}{base:Heap}{A:Adr}
theorem qg (T:Txt w.params K mg A){i:Nat}:aT P w K mg base (CXX P w) 1 A.br A.eT ["self","number"] (SH A i):=by
 refine T.cy.okX pD (λvs H Q E h=>?_) (λcdv A' outer s H vs Q E hr h=>?_)
 ·obtain⟨o,n,c,st,x,rfl,_⟩:=h;rfl
 ·obtain⟨o,n,c,st,x,rfl,hc,hx,q⟩:=h;obtain⟨dx,aM,aP,aA,aD,aF,aE,aR,ms,ds,ws,fs,es,X⟩:=hc.ex;have hu1:=hr.u1;have hgd:=hr.gd;refine⟨_,(aO (du (Lx (Aa hu1 (pv 1) (bf (pv 0) rfl)))
 (aO (jt T.vt rfl rfl T.xO (aa (Bh (jO (uQ (pv 1) uP))) ag)))
 (mY aI))),?_⟩
  try dsimp only[bE]
  refine aS λGq gq=>?_
  obtain⟨v,hv,p,rfl,hl⟩:=X.first.val hx;refine gq ?_;refine⟨_,rfl,fw rfl X.ob T.ah T.jq4 mM ⟨aF,_,rfl,.inl ⟨_,ma (n:Int),.inl X.firsts.2,rfl,rfl⟩,_,rfl,?_⟩⟩;rw[hv];exact et q
theorem Fc (T:Txt w.params K mg A){i:Nat}:aT P w K mg base (CXX P w) 2 A.bC A.eQ ["self","number"] (JA A i):=by
 refine T.dN.okX uj (λvs H Q E h=>?_) (λcdv A' outer s H vs Q E hr h=>?_)
 ·obtain⟨o,n,c,st,x,rfl,_⟩:=h;rfl
 ·obtain⟨o,n,c,st,x,rfl,hc,hx,q⟩:=h;obtain⟨dx,aM,aP,aA,aD,aF,aE,aR,ms,ds,ws,fs,es,X⟩:=hc.ex;have hu1:=hr.u1;refine⟨_,(au (b8 (qT (px (pv 0)) T.ah T.fF (qg (i:=i) T) hr T.cz (pax (aa (pv 1) ag))))
 (aO (psx (aG (dQ cM (by rfl) T.kZ jb (aa (lN hu1 (bf (pv 0) rfl) (pv 1) (λ_ _=>rfl)) ag)))))),?_⟩
  try dsimp only[bE]
  refine aS λGq gq=>?_
  obtain⟨v,hv,p,rfl,hl⟩:=X.first.val hx;refine gq ?_;refine mtv rfl X.ob (bX (by trivial)) ⟨_,rfl,o,n,c,st,x,rfl,hc,hx,?_⟩
  exact⟨_,rfl,o,A.ao,dx,_,.ref aF,rfl,X.ob,T.ah,T.jq4,mM,_,rfl,aF,_,rfl,.inl ⟨_,ma (n:Int),.inl X.firsts.2,rfl,hv.symm⟩,p,_,rfl,.inl (SqL.of hl.2),λl hl0=>q l hl0⟩
theorem BW (T:Txt w.params K mg A){i:Nat}:aT P w K mg base (CXX P w) 2 A.bq A.dS ["self","number"] (OJ A i):=by
 refine T.cU.okX qV (λvs H Q E h=>?_) (λcdv A' outer s H vs Q E hr h=>?_)
 ·obtain⟨o,n,c,st,x,y,rfl,_⟩:=h;rfl
 ·obtain⟨o,n,c,st,x,y,rfl,hc,hx,hy,q⟩:=h;obtain⟨dx,aM,aP,aA,aD,aF,aE,aR,ms,ds,ws,fs,es,X⟩:=hc.ex;have hu1:=hr.u1;refine⟨_,(au (b8 (qT (px (pv 0)) T.ah T.fF (qg (i:=i) T) hr T.cz (pax (aa (pv 1) ag))))
 (aO (psx (aG (dQ cM (by rfl) T.kZ jb (aa (lN hu1 (bf (pv 0) rfl) (pv 1) (λ_ _=>rfl)) ag)))))),?_⟩
  try dsimp only[bE]
  refine aS λGq gq=>?_
  obtain⟨v,hv,p,ts,rfl,hl,ht⟩:=X.kept.val hy;refine gq ?_;refine mtv rfl X.ob (bX (by trivial)) ⟨_,rfl,o,n,c,st,x,rfl,hc,hx,?_⟩
  exact⟨_,rfl,o,A.ao,dx,_,.ref aE,rfl,X.ob,T.ah,T.jq6,oI,_,rfl,aE,_,rfl,.inl ⟨_,ma (n:Int),.inl X.kz.2,rfl,hv.symm⟩,p,_,rfl,.inl (SqL.of hl.2),λl hl0=>q l ts hl0 ht⟩
end
theorem bI.ael {α β:Type}{R:α->β->Prop}:∀ {as:List α} {bs:List β} {i:Nat} {b:β},bI R as bs->bs[i]?=some b->∃a,as[i]?=some a/\R a b
 |_,_,_,_,.nil,h=>by simp at h
 |_,_,0,_,.cons h t,e=>by
  rw[anK]at e;cases e;exact⟨_,anK,h⟩
 |_,_,i+1,_,.cons h t,e=>by
  rw[an1]at e;obtain⟨a,e1,e2⟩:=t.ael e;exact⟨a,by rw[an1];exact e1,e2⟩
def plE:List Str->List Ed->Option (List Str)
 |tx,[]=>some tx
 |tx,e::es=>if gs tx.length e=true then plE (b9 tx e) es else none
theorem JB:∀ {es:List Ed} {tx t:List Str} {e:Ed},plE tx es=some t->gs t.length e=true->plE tx (es++[e])=some (b9 t e)
 |[],tx,t,e,h,hf=>by
  cases h;show (if gs tx.length e=true then some (b9 tx e) else none)=_
  rw[if_pos hf]
 |f::es,tx,t,e,h,hf=>by
  have h':(if gs tx.length f=true then plE (b9 tx f) es else none)=some t:=h
  show (if gs tx.length f=true then plE (b9 tx f) (es++[e]) else none)=_
  split at h'
  ·rw[if_pos (by assumption)];exact JB h' hf
  ·cases h'
structure TxI (st:Ch):Prop where
 txt:∀x∈st.firsts,∀y∈st.kept,x.1=y.1->∃tx,st.mo x.1=.mat tx/\plE x.2 y.2=some tx
 fok:∀x∈st.firsts,x.2.length<=12/\∀z∈x.2,am8 z=true
 kok:∀y∈st.kept,∀e∈y.2,EdB 900 e
def topC (st:Ch):Option Ed:=match st.aH.getLast? with
 |some n=>(match st.mo n with
  | .chg e=>some e
  |_=>none)
 |none=>none
theorem Vp {st:Ch}{n:Nat}{e:Ed}(h:st.aH.getLast?=some n)(h2:st.mo n=.chg e):topC st=some e:=by
 unfold topC;rw[h];dsimp only;rw[h2]
theorem OK {st:Ch}{n:Nat}(h:st.aH.getLast?=some n)(h2:(st.mo n).k≠1):topC st=none:=by
 unfold topC;rw[h];dsimp only;split
 ·rename_i e he;rw[he]at h2;exact absurd rfl h2
 ·rfl
inductive Ef (st:Ch)(d:R.bG)(r:Rs)(st':Ch):Prop
 |ql:st'.firsts=st.firsts->st'.kept=st.kept->(∀n tx,fq st n->st.mo n=.mat tx->st'.mo n=.mat tx)->(∀cs n,d=.mat cs->r≠.num n)->(r=.txt OA->topC st=none)->Ef st d r st'
 |new (cs:List (List Str)) (row:Str):d=.mat cs->r=.num (st.made.length+1)->st'=st.moved (.mat (cs.map (km R.bl1))) row->Ef st d r st'
 |lay (n:Nat) (tx:List Str) (e:Ed):R.iu d=ar "vote"->topC st=some e->r=.txt OA->st.aH.head?=some n->st.mo n=.mat tx->gs tx.length e=true->EdB 900 e->st'.firsts=st.firsts->st'.kept=Hz n e st.kept->st'.mo n=.mat (b9 tx e)->(∀k t,fq st k->k≠n->st.mo k=.mat t->st'.mo k=.mat t)->Ef st d r st'
theorem Ef.no {st:Ch}{d:R.bG}(x:Xc):Ef st d (.exc x) st:=.ql rfl rfl (λ_ _ _ h=>h) (λ_ _ _ z=>nomatch z) (λz=>nomatch z)
theorem Vq {N:Nat}{st:Ch}(I:Inv N st)(hN:N<=800)(a b:Int):Ef st (.nums (ar "vote") [a,b]) (oK st a b).1 (oK st a b).2:=by
 unfold oK;split
 ·exact .no _
 ·rename_i n h;split
  ·exact .no _
  ·obtain⟨pre,e⟩:=rH h;have ed:st.aH.dropLast=pre:=by rw[e];exact aoD
   rw[ed];have hn:n∈st.aH:=by rw[e];simp
   have pn:∀k∈pre,fq st k:=λk hk=>I.eu k (by rw[e];exact anx _ hk)
   generalize vw (My.nd (st.mo n).k) a b=kp;obtain⟨_,ht⟩:=I.pop e (vG kp) (HC _);have hmo:=I.Jj (I.eu n hn);have same:∀ {st':Ch},st'.firsts=st.firsts->st'.kept=st.kept->st'.made=st.made->(st.mo n).k≠1->Ef st (.nums (ar "vote") [a,b]) (.txt (vG kp)) st':=λh1 h2 h3 h4 =>
    .ql h1 h2 (λk tx _ hk=>by rw[U4 h3];exact hk) (λ_ _ z=>nomatch z) λ_=>OK h h4
   cases kp with
   |false=>exact .ql rfl rfl (λ_ _ _ h=>h) (λ_ _ z=>nomatch z) λz=>absurd (Rs.txt.inj z) (by trivial)
   |true =>
    rw[if_pos rfl];cases hm:st.mo n with
    |mat tx=>exact same rfl rfl rfl (by rw[hm];exactλz=>nomatch z)
    |pnt z=>exact same rfl rfl rfl (by rw[hm];exactλz=>nomatch z)
    |rst=>exact same rfl rfl rfl (by rw[hm];exactλz=>nomatch z)
    |cls=>exact same rfl rfl rfl (by rw[hm];exactλz=>nomatch z)
    |off u =>
     rw[hm]at ht;obtain⟨⟨tx,r,h1⟩,_⟩:=ht;obtain⟨k,s,e1,_⟩:=Pw h1;have e3:(st.popped pre n (vG true)).carry (.off u)=(st.popped pre n (vG true)).um k u:=by unfold Ch.carry Ch.popped;rw[e1]
     rw[e3];exact same rfl rfl rfl (by rw[hm];exactλz=>nomatch z)
    |lay =>
     rw[hm]at ht;obtain⟨⟨tx,r,h1⟩,_⟩:=ht;obtain⟨k,s,e1,_⟩:=Pw h1;have e3:(st.popped pre n (vG true)).carry .lay=(st.popped pre n (vG true)).um k st.bg:=by unfold Ch.carry Ch.popped;rw[e1]
     rw[e3];exact same rfl rfl rfl (by rw[hm];exactλz=>nomatch z)
    |mnd f =>
     rw[hm]at ht;obtain⟨tx,g,h1,_,_⟩:=ht;obtain⟨x,y,e1,e2,e3⟩:=Zj h1;have e4:(st.popped pre n (vG true)).carry (.mnd f)=(st.popped pre n (vG true)).Sd y g (b9 (R.bO g.th) f):=by
      unfold Ch.carry Ch.popped;rw[e1];show (match st.mo y with | .chg e=>_ | _=>_)=_
      rw[e3];rfl
     rw[e4];have hy:=pn y (by rw[e1];simp)
     refine .ql rfl rfl (λk t hk hkt=>?_) (λ_ _ z=>nomatch z) λ_=>OK h (by rw[hm];exactλz=>nomatch z)
     have ne:k≠y:=λz=>by rw[z,e3]at hkt;cases hkt
     exact(rJ hy hk.1 ne rfl).trans hkt
    |chg f =>
     rw[hm]at ht hmo;obtain⟨tx,h1,hf⟩:=ht;obtain⟨x,e1,e2⟩:=U6 h1;have hx:=pn x (by rw[e1];simp)
     have e3:(st.popped pre n (vG true)).carry (.chg f)=(st.popped pre n (vG true)).Sb x tx f:=by
      unfold Ch.carry Ch.popped;rw[e1];show (match st.mo x with | .mat tx=>_ | _=>_)=_
      rw[e2]
     rw[e3];exact .lay x tx f rfl (Vp h hm) rfl (by rw[e,e1];rfl) e2 hf (EdB.mono (by omega) hmo) rfl rfl (HA hx rfl) λk t hk ne hkt=>(rJ hx hk.1 ne rfl).trans hkt
theorem SI {N:Nat}{st:Ch}(I:Inv N st)(hN:N<=800){d:R.bG}(h:rL d):Ef st d (cK st d).1 (cK st d).2:=by
 cases h with
 |Fb=>rw[lq];exact Vq I hN _ _
 |drop =>
  rw[lu];unfold rK;split
  ·exact .no _
  ·exact .ql rfl rfl (λ_ _ _ h=>h) (λ_ _ z=>nomatch z) λz=>absurd (Rs.txt.inj z) (by trivial)
 |take =>
  rw[lx];unfold stepT;split
  ·split
   ·exact .no _
   ·split
    ·exact .no _
    ·exact .ql rfl rfl (λ_ _ _ h=>h) (λ_ _ z=>nomatch z) λz=>nomatch z
  ·exact .no _
 |move h =>
  rw[lz h];unfold oM;split
  ·exact .no _
  ·have old:∀(m:Mn) (row:Str) (n:Nat) (tx:List Str),fq st n->st.mo n=.mat tx->(st.moved m row).mo n=.mat tx:=λm row n tx hn e=>(HB rfl hn).trans e
   cases d with
   |mat cs=>exact .new cs _ rfl rfl rfl
   |ed m k j ws =>
    cases m with
    |true=>exact .ql rfl rfl (old _ _) (λ_ _ z=>nomatch z) λz=>nomatch z
    |false=>exact .ql rfl rfl (old _ _) (λ_ _ z=>nomatch z) λz=>nomatch z
   |pt ws=>exact .ql rfl rfl (old _ _) (λ_ _ z=>nomatch z) λz=>nomatch z
   |nums kd ns=>rcases nv h.1 with ⟨u,rfl,rfl⟩ | ⟨rfl,rfl⟩ | ⟨rfl,rfl⟩ | ⟨rfl,rfl⟩ <;> exact .ql rfl rfl (old _ _) (λ_ _ z=>nomatch z) λz=>nomatch z
theorem JC {st:Ch}{n:Nat}(h:n∈st.w4):fq st n:=by
 have:=List.mem_range'_1.mp (List.mem_filter.mp h).1;exact⟨this.1,by omega⟩
theorem Inv.Vr {N:Nat}{st:Ch}(I:Inv N st){x:Nat×List Str}(h:x∈st.firsts):fq st x.1:=JC (by rw[<-I.ff];exact List.mem_map_of_mem h)
theorem Inv.ak4 {N:Nat}{st:Ch}(I:Inv N st){x:Nat×List Ed}(h:x∈st.kept):fq st x.1:=JC (by rw[<-I.kk];exact List.mem_map_of_mem h)
theorem TxI.ef {N:Nat}{st st':Ch}(I:Inv N st)(h:TxI st){d:R.bG}(hd:rL d){r:Rs}(f:Ef st d r st'):TxI st':=by
 cases f with
 |ql e1 e2 e3 _ _ =>
  refine⟨?_,by rw[e1];exact h.fok,by rw[e2];exact h.kok⟩
  rw[e1,e2];intro x hx y hy e;obtain⟨tx,a,b⟩:=h.txt x hx y hy e;exact⟨tx,e3 _ _ (I.Vr hx) a,b⟩
 |new cs row ed _ e =>
  subst e;have mv:Ex d:=by
   subst ed;cases hd with
   |move h=>exact h
  have hm:=Mw (N:=0) mv;subst ed;have lt:∀ {n:Nat},fq st n->n≠st.made.length+1:=λh z=>by have:=h.2;omega
  refine⟨?_,?_,?_⟩
  ·intro x hx y hy e;rcases List.mem_append.mp (show x∈st.firsts++[(st.made.length+1,cs.map (km R.bl1))] from hx) with hx | hx
   ·rcases List.mem_append.mp (show y∈st.kept++[(st.made.length+1,([]:List Ed))] from hy) with hy | hy
    ·obtain⟨tx,a,b⟩:=h.txt x hx y hy e;exact⟨tx,(HB rfl (I.Vr hx)).trans a,b⟩
    ·rw[ra]at hy;exact absurd (e.trans (by rw[hy])) (lt (I.Vr hx))
   ·rw[ra]at hx;rcases List.mem_append.mp (show y∈st.kept++[(st.made.length+1,([]:List Ed))] from hy) with hy | hy
    ·exact absurd (e.symm.trans (by rw[hx])) (lt (I.ak4 hy))
    ·rw[ra]at hy;rw[hx,hy];exact⟨_,Mt rfl,rfl⟩
  ·intro x hx;rcases List.mem_append.mp (show x∈st.firsts++[(st.made.length+1,cs.map (km R.bl1))] from hx) with hx | hx
   ·exact h.fok x hx
   ·rw[ra]at hx;rw[hx];exact hm
  ·intro y hy;rcases List.mem_append.mp (show y∈st.kept++[(st.made.length+1,([]:List Ed))] from hy) with hy | hy
   ·exact h.kok y hy
   ·rw[ra]at hy;rw[hy];exactλe he=>nomatch he
 |lay n tx e _ _ _ _ e1 hf he e2 e3 e4 e5 =>
  refine⟨?_,by rw[e2];exact h.fok,?_⟩
  ·rw[e2,e3];intro x hx y hy exy;obtain⟨y0,hy0,rfl⟩:=List.mem_map.mp hy
   by_cases z:y0.1=n
   ·rw[if_pos z]at exy ⊢;have exn:x.1=n:=exy.trans z;obtain⟨t,a,b⟩:=h.txt x hx y0 hy0 exy;rw[exn,e1]at a;cases a;exact⟨_,by rw[exn];exact e4,JB b hf⟩
   ·rw[if_neg z]at exy ⊢;obtain⟨t,a,b⟩:=h.txt x hx y0 hy0 exy;exact⟨t,e5 _ _ (I.Vr hx) (by rw[exy];exact z) a,b⟩
  ·rw[e3];intro y hy f hfm;obtain⟨y0,hy0,rfl⟩:=List.mem_map.mp hy
   by_cases z:y0.1=n
   ·rw[if_pos z]at hfm;rcases List.mem_append.mp hfm with g | g
    ·exact h.kok y0 hy0 f g
    ·rw[ra]at g;rw[g];exact he
   ·rw[if_neg z]at hfm;exact h.kok y0 hy0 f hfm
theorem ML (st:Ch)(m:Mn):(st.carry m).rows=st.rows:=by
 unfold Ch.carry;split
 ·split
  ·split <;> rfl
  ·rfl
 ·split
  ·split <;> rfl
  ·rfl
 ·split <;> rfl
 ·rfl
 ·split <;> rfl
 ·rfl
 ·rfl
theorem PQ {st:Ch}{d:R.bG}(hd:rL d){x:Xc}(h:(cK st d).1=.exc x):(cK st d).2=st:=by
 cases hd with
 |Fb =>
  rw[lq]at h ⊢;unfold oK at h ⊢;split
  ·rfl
  ·rename_i n hn;rw[hn]at h;dsimp only at h;split
   ·rfl
   ·rename_i z;rw[if_neg z]at h;cases h
 |drop =>
  rw[lu]at h ⊢;unfold rK at h ⊢;split
  ·rfl
  ·rename_i n hn;rw[hn]at h;cases h
 |take =>
  rw[lx]at h ⊢;unfold stepT at h ⊢;split
  ·rename_i hp;rw[if_pos hp]at h;split
   ·rfl
   ·rename_i y hy;rw[hy]at h;dsimp only at h;split
    ·rfl
    ·rename_i z;rw[if_neg z]at h;cases h
  ·rfl
 |move hm =>
  rw[lz hm]at h ⊢;unfold oM at h ⊢;split
  ·rfl
  ·rename_i hc;rw[hc]at h;cases h
theorem SJ {st:Ch}{d:R.bG}(hd:rL d)(h:isX (cK st d).1=true):(cK st d).2=st:=by
 cases e:(cK st d).1 with
 |exc x=>exact PQ hd e
 |num n=>rw[e]at h;cases h
 |txt z=>rw[e]at h;cases h
theorem Gf {st:Ch}{d:R.bG}(hd:rL d)(hn:R.DOk d)(h:isX (cK st d).1=false):(cK st d).2.rows=st.rows++[R.gi d]:=by
 cases hd with
 | @Fb a b ha hb =>
  rw[lq]at h ⊢;unfold oK at h ⊢;cases e:st.aH.getLast? with
  |none=>rw[e]at h;cases h
  |some n =>
   rw[e]at h;dsimp only at h ⊢;split at h
   ·cases h
   ·rename_i hz;rw[if_neg hz];show (if _ then _ else _:Ch).rows++[_]=_
    congr 1
    split
    ·exact ML _ _
    ·rfl
 |drop =>
  rw[lu]at h ⊢;unfold rK at h ⊢;cases e:st.aH.getLast? with
  |none=>rw[e]at h;cases h
  |some n=>rfl
 | @take z z0 z1 =>
  have zp:0<=z:=(hn.2 z (by simp)).1
  rw[lx]at h ⊢;unfold stepT at h ⊢;split at h
  ·rename_i hp;rw[if_pos hp];cases e:at1 z.toNat st.aV with
   |none=>rw[e]at h;cases h
   |some x =>
    rw[e]at h;dsimp only at h ⊢;split at h
    ·cases h
    ·rename_i hs;rw[if_neg hs];show st.rows++[R.gi (.nums _ [((z.toNat:Nat):Int)])]=_;rw[Int.toNat_of_nonneg zp]
  ·cases h
 |move hm =>
  rw[lz hm]at h ⊢;unfold oM at h ⊢;cases e:BS st (ix d) with
  |some x=>rw[e]at h;cases h
  |none=>rfl
theorem WG {st:Ch}{n:Nat}{m:Mn}(h:(st.mo n).k=m.k):(st.made.set (n - 1) m).map Mn.k=st.made.map Mn.k:=by
 rw[List.map_set];refine List.ext_getElem? λi=>?_
 by_cases hi:i=n - 1
 ·subst hi
  by_cases hl:n - 1 < st.made.length
  ·unfold Ch.mo at h;rw[List.getElem?_set_self (by rw[bo];exact hl),ant,anm hl,<-h]
   simp[List.getD,hl]
  ·rw[List.getElem?_eq_none (by rw[aoy,bo];omega),List.getElem?_eq_none (by rw[bo];omega)]
 ·rw[List.getElem?_set_ne (anj hi)]
theorem Vs (st:Ch)(m:Mn):(st.carry m).made.map Mn.k=st.made.map Mn.k:=by
 unfold Ch.carry;split
 ·split
  ·split
   ·rename_i tx h;exact WG (by rw[h];rfl)
   ·rfl
  ·rfl
 ·split
  ·split
   ·rename_i e h;exact WG (by rw[h];rfl)
   ·rfl
  ·rfl
 ·split <;> rfl
 ·rfl
 ·split <;> rfl
 ·rfl
 ·rfl
theorem aem {d:R.bG}(h:Ex d):zx d=true:=by
 cases d with
 |nums kd ns =>
  rcases nv h.1 with ⟨u,rfl,rfl⟩ | ⟨rfl,rfl⟩ | ⟨rfl,rfl⟩ | ⟨rfl,rfl⟩
  ·show (!(decide (ar "put off"=ar "vote") || decide (ar "put off"=ar "drop") || decide (ar "put off"=ar "take")))=true;trivial
  ·trivial
  ·trivial
  ·trivial
 |_=>rfl
theorem MM {st:Ch}{d:R.bG}(hd:rL d)(h:isX (cK st d).1=false):(cK st d).2.made.map Mn.k=st.made.map Mn.k++(if zx d=true then [(ix d).k] else []):=by
 cases hd with
 | @Fb a b ha hb =>
  rw[lq,if_neg (λz=>by rw[zx]at z;simp at z),anO]
  unfold oK;split
  ·rfl
  ·split
   ·rfl
   ·show (if _ then _ else _:Ch).made.map Mn.k=_
    split
    ·exact Vs _ _
    ·rfl
 |drop =>
  rw[lu,if_neg (by trivial),anO]
  unfold rK;split <;> rfl
 |take =>
  rw[lx,if_neg (λz=>by rw[zx]at z;simp at z),anO]
  unfold stepT;split
  ·split
   ·rfl
   ·split <;> rfl
  ·rfl
 |move hm =>
  rw[if_pos (aem hm)];rw[lz hm]at h ⊢;unfold oM at h ⊢;cases e:BS st (ix d) with
  |some x=>rw[e]at h;cases h
  |none=>exact ky
def kdL (st:Ch):List V:=(st.made.map Mn.k).map λk=>V.str (nm k)
theorem aen {d:R.bG}(h:Ex d):R.iu d=nm (ix d).k:=by
 cases d with
 |mat cs=>rfl
 |ed m k j ws=>cases m <;> rfl
 |pt ws=>rfl
 |nums kd ns =>
  rcases nv h.1 with ⟨u,rfl,rfl⟩ | ⟨rfl,rfl⟩ | ⟨rfl,rfl⟩ | ⟨rfl,rfl⟩
  ·show ar "put off"=nm (ix (.nums (ar "put off") [u])).k;rw[ix,if_pos rfl];rfl
  ·trivial
  ·trivial
  ·trivial
theorem aeo {d:R.bG}(h:rL d)(hm:zx d=true):Ex d:=by
 cases h with
 |Fb=>rw[zx]at hm;simp at hm
 |drop=>exact absurd hm (by trivial)
 |take=>rw[zx]at hm;simp at hm
 |move h=>exact h
def Fd (n:Int)(ds:List R.bG):Ch:=ds.foldl (λst d=>(cK st d).2) (xt n)
theorem Gg (n:Int)(ds:List R.bG)(d:R.bG):Fd n (ds++[d])=(cK (Fd n ds) d).2:=by
 unfold Fd;rw[List.foldl_append];rfl
structure Rep (n:Int)(ds:List R.bG)(st:Ch):Prop where
 run:Fd n ds=st
 ok:∀d∈ds,uo d
 good:∀i d,ds[i]?=some d->isX (cK (Fd n (ds.take i)) d).1=false
 rows:st.rows=ds.map R.gi
theorem Rep.nil (n:Int):Rep n [] (xt n):=⟨rfl,(λ_ h=>nomatch h),(λ_ _ h=>by simp at h),rfl⟩
theorem Rep.snoc {n:Int}{ds:List R.bG}{st:Ch}{d:R.bG}(h:Rep n ds st)(hd:uo d)(hx:isX (cK st d).1=false):Rep n (ds++[d]) (cK st d).2:=by
 refine⟨by rw[Gg,h.run],λe he=>?_,λi e he=>?_,?_⟩
 ·rcases List.mem_append.mp he with he | he
  ·exact h.ok e he
  ·rw[ra]at he;rw[he];exact hd
 ·by_cases hi:i < ds.length
  ·rw[aow hi]at he;rw[List.take_append_of_le_length (Nat.le_of_lt hi)];exact h.good i e he
  ·have hl:i < (ds++[d]).length:=(List.getElem?_eq_some_iff.mp he).1;rw[ki,anc]at hl;obtain rfl:i=ds.length:=by omega
   rw[List.getElem?_concat_length]at he;cases he;rw[List.take_left,h.run];exact hx
 ·rw[Gf hd.1 hd.2.1 hx,h.rows,ky];rfl
theorem SK {d:R.bG}(h:uo d):am8 (R.gi d)=true:=(R.zv h.2.1).ok
theorem Rep.SM {n:Int}{ds:List R.bG}{st:Ch}(h:Rep n ds st):∀r∈st.rows,am8 r=true:=λr hr=>by
 rw[h.rows]at hr;obtain⟨d,hd,rfl⟩:=List.mem_map.mp hr;exact SK (h.ok d hd)
theorem AX {d:R.bG}(h:R.DOk d):(R.gi d).length<=50000:=by
 obtain⟨b1,b2,b3⟩:=R.AH h;have h1:=StrLaws.sumLen_le (B:=20) (R.iu d::R.gh d) (λw hw=>by
   rcases List.mem_cons.mp hw with rfl | hw
   ·exact b3
   ·exact b2 w hw)
 have h2:=qQ 32 (R.iu d::R.gh d);unfold R.gi;rw[R.lb];rw[tm]at h1 h2;omega
theorem vN {c:Col}{H H':Hp}{t:Addr}(ht:H t=none)(hc:∀b,H b=none->c b=none):∀ {d:R.bG},R.eR H H' d t->eS c H' d t
 | .mat _,⟨L,a,b,e⟩=>⟨L,⟨hc t ht,a⟩,hc L b,e⟩
 | .ed _ _ _ _,⟨e,a,n,b⟩=>⟨e,⟨hc t ht,a⟩,hc e n,.inl b⟩
 | .pt _,h=>⟨hc t ht,h⟩
 | .nums _ _,h=>⟨hc t ht,h⟩
theorem vK.zc {c:Col}{H H':Hp}{t:Addr}(hc:∀b,H b=none->c b=none):∀ {d:R.bG},vK H H' d t->eS c H' d t
 | .mat _,⟨L,h1,h2,h3,h4⟩=>⟨L,⟨hc _ h1,h3⟩,hc _ h2,h4⟩
 | .ed _ _ _ _,⟨e,h1,h2,h3,h4⟩=>⟨e,⟨hc _ h1,h3⟩,hc _ h2,.inl h4⟩
 | .pt _,⟨h1,h2⟩=>⟨hc _ h1,h2⟩
 | .nums _ _,⟨h1,h2⟩=>⟨hc _ h1,h2⟩
theorem eS.weak {c c':Col}{H:Hp}{t:Addr}(hc:∀b,c b=none->c' b=none):∀ {d:R.bG},eS c H d t->eS c' H d t
 | .mat _,⟨L,a,b1,b2⟩=>⟨L,⟨hc _ a.1,a.2⟩,hc _ b1,b2⟩
 | .ed _ _ _ _,⟨e,a,b⟩=>⟨e,⟨hc _ a.1,a.2⟩,hc _ b.1,b.2⟩
 | .pt _,h=>⟨hc _ h.1,h.2⟩
 | .nums _ _,h=>⟨hc _ h.1,h.2⟩
def JD (A:Adr)(i:Nat):Sp:=λvs H Q _=>∃(o t:Addr) (c:Col) (st:Ch) (N:Nat) (d:R.bG),vs=[.ref o,.ref t]/\dh A i c H o st/\Inv N st/\N<=800/\rL d/\qd i c H d t /\
 ∀c' H',Step (fm i) c c' H H'->dh A i c' H' o (cK st d).2->Q (.bl (!isX (cK st d).1)) H'
def JE (st:Ch):PyData:=.list (st.made.map mnD)
def ZK (A:Adr)(K:ba):Sp:=λvs H Q _=>∃(i:Nat) (o:Addr) (c:Col) (st:Ch) (N:Nat),vs=[.ref o,.int (st.made.length:Int)]/\i≠0/\dh A i c H o st/\Inv N st/\N<=800/\∀l H',a9 H H'->DV K H' (JE st) (.ref l)->Q (.ref l) H'
def SN (A:Adr):Sp:=λvs H Q _=>∃(i j:Nat) (o1 o2:Addr) (c:Col) (st:Ch) (N:Nat),vs=[.ref o1,.ref o2,.int (st.made.length:Int)]/\i≠0/\j≠0/\dh A i c H o1 st/\dh A j c H o2 st/\Inv N st/\N<=189/\∀H',a9 H H'->Q (.bl true) H'
def SO (A:Adr)(K:ba):Sp:=λvs H Q _=>∃(i j:Nat) (o1 o2 m:Addr) (c:Col) (st:Ch) (N:Nat),vs=[.ref o1,.ref o2,.ref m]/\dh A i c H o1 st/\dh A j c H o2 st/\SqL K H m (kdL st)/\Inv N st/\N<=800/\TxI st/\∀H',a9 H H'->Q (.bl true) H'
theorem JF {β:Type}{xs:List (Nat×β)}{n:Nat}(h:n∈xs.map (·.1)):∃x,at1 n xs=some x:=by
 cases e:at1 n xs with
 |some x=>exact⟨x,rfl⟩
 |none=>exact absurd h (zf e)
theorem SQ {α:Type}{xs:List α}{j:Nat}{v:α}(h:xs[j]?=some v):atI xs (0+(j:Int))=some v:=by rw[Int.zero_add];exact pQ h
theorem HP {N:Nat}{st:Ch}(I:Inv N st):(JE st).canLay0=true:=by
 unfold JE;simp only[ana];exact tN λm hm=>ZH (I.mok m hm)
theorem SR (m:Mn):(mnD m).depth<=12:=by
 cases m with
 |mat tx =>
  have:=j6 tx;unfold mnD;simp only[anl,ani]at this ⊢;omega
 |chg e =>
  have:=AS e;unfold mnD;simp only[anl,ani];omega
 |mnd e =>
  have:=AS e;unfold mnD;simp only[anl,ani];omega
 |_=>unfold mnD;simp only[anl,ani];omega
theorem OL (st:Ch):(JE st).depth<=64:=by
 have:=lB (f:=mnD) SR st.made;unfold JE;simp only[anl];omega
theorem PR {st:Ch}{k:Nat}(hk:k < st.made.length):st.made.take (k+1)=st.made.take k++[st.mo (k+1)]:=by
 rw[aoL,anm hk];unfold Ch.mo;simp[List.getD,hk]
theorem OM {i:Nat}(hi:i≠0):∀r,¬fm 0 (some (i,r)):=λr=>iw hi r
section
variable{P:rf}{w:World}{K:ba}{mg:Str->Option Value}{base:Heap}{A:Adr}
theorem MN (T:Txt w.params K mg A){i:Nat}:aT P w K mg base (CXX P w) 9 A.G6 A.wB ["_law_chamber","_law_deed_here"] (JD A i):=by
 refine T.yS.okX Ag (λvs H Q E h=>?_) (λcdv A' outer s H vs Q E hr h=>?_)
 ·obtain⟨o,t,c,st,N,d,rfl,_⟩:=h;rfl
 ·obtain⟨o,t,c,st,N,d,rfl,hc,I,hN,hd,hdc,q⟩:=h;refine⟨_,(au (psx (bh (i:=2) Ag.nd rfl (anq rfl) iM))
 (au (Uv ⟨rfl,rfl⟩ (aO (b8 (bB (Ez (i:=i) T) hr rfl T.AA T.wG.kp T.Az (pax (aa (pv 0) (aa (pv 1) ag))))))
 (Q4 rfl T.fX (λ_=>(aj (bh (i:=2) Ag.nd rfl (anq rfl) iM))) (Uu ⟨rfl,rfl⟩)))
 (aO (psx (aG (pv 2)))))),?_⟩
  try dsimp only[bE]
  refine⟨_,rfl,_,rfl,o,t,c,st,N,d,rfl,hc,I,hN,hd,hdc,?_⟩;generalize cK st d=rs at q ⊢;obtain⟨r,st'⟩:=rs;cases r with
  |num n=>exactλc1 H1 s1 hc1=>⟨_,rfl,q c1 H1 s1 hc1⟩
  |txt z=>exactλc1 H1 s1 hc1=>⟨_,rfl,q c1 H1 s1 hc1⟩
  |exc x=>exactλc1 H1 C e s1 hc1 hat he=>⟨true,Xc.mat T hat,iQ ⟨_,rfl,q c1 H1 s1 hc1⟩⟩
theorem Gh (T:Txt w.params K mg A):aT P w K mg base CX0 9 A.G6 A.wB ["_law_chamber","_law_deed_here"] (λvs H Q E=>∃i,JD A i vs H Q E) :=
 zm λi=>(MN T).calm λ_ _ _ _ h=>h
theorem zz (T:Txt w.params K mg A):aT P w K mg base CX0 4 A.Ar A.sT ["_law_chamber","_law_many"] (ZK A K):=by
 have AY:aT P w K mg base (CXX P w) 3 A.bW A.gX ["self","number"] (λvs H Q E=>∃i,Ge A i vs H Q E):=zm λi=>MK T
 refine T.qb.ok GY (λvs H Q E h=>?_) (λcdv A' outer s H vs Q E hr h=>?_)
 ·obtain⟨i,o,c,st,N,rfl,_⟩:=h;rfl
 ·obtain⟨i,o,c,st,N,rfl,hi,hc,I,hN,q⟩:=h;refine⟨_,(aj (aG (pS (scope:=tW) DJ rfl (zT rfl T.CY (aa (pv 1) ag)) (λ_ _ _ _ _=>(f7 (pv 1) T.ah T.rB AY hr T.iL .nil sH (aa (bY fJ (pv 0) ai) ag)))))),?_⟩
  try dsimp only[bE]
  have lim:gr=16777216:=by decide
  have lm:=I.lm;refine⟨_,rfl,_,rfl,by omega,by omega,λRr hR=>?_⟩
  have s0:Step (fm 0) c (aN c Rr (some (0,.ob))) H (upd H Rr (.lst [])):=Step.new aX hR;refine LP (lo:=0) (n:=st.made.length) (λk ys H2=>∃(c2:Col) (ts:List Addr),a9 H H2/\H2 Rr=some (.lst ys)/\c2 Rr=some (0,.ob)/\ys=ts.map V.ref/\dh A i c2 H2 o st/\bI (MnT c2 H2) (st.made.take k) ts)
   ⟨_,[],aB hR,ae,bt,rfl,hc.free (OM hi) s0,.nil⟩ (by omega) ?_ ?_ ?_
  ·rintro k ys H2 hk ⟨c2,ts,s2,hR2,cR,rfl,hc2,ha⟩;refine⟨hR2,?_⟩;rw[bo,<-ha.len,anC];omega
  ·rintro k ys H2 hk ⟨c2,ts,s2,hR2,cR,rfl,hc2,ha⟩;refine aS λGq gq=>?_
   have ek:0+(k:Int)+1=((k+1:Nat):Int):=by omega
   have hn:fq st (k+1):=⟨by omega,by omega⟩
   obtain⟨dx,aM,aP,aA,aD,aF,aE,aR,ms,ds,ws,fs,es,X⟩:=hc2.ex;refine gq ?_;refine mtv rfl X.ob (bX (by trivial)) ⟨_,rfl,_,_,rfl,rfl,i,o,k+1,c2,st,by unfold nV;rw[<-ek];rfl,hc2,hn,λu H3 s3 hm=>?_⟩
   have t3:Step (fm 0) c2 (eh c2 H2) H2 H3:=Step.cl aX s3;have cR3:eh c2 H2 Rr=some (0,.ob):=(R5 hR2).trans cR;have t4:Step (fm 0) (eh c2 H2) (eh c2 H2) H3 (upd H3 Rr (.lst (ts.map V.ref++[.ref u]))):=Step.upd aX ⟨.ob,cR3⟩;refine cB.mk hk (s3 _ _ hR2) ⟨_,ts++[u],(s2.trans s3).own hR,ae,cR3,?_,hc2.free (OM hi) (t3.trans t4),?_⟩
   ·rw[ky];rfl
   ·rw[PR hk];exact bI.snoc (ha.imp λ_ _ z=>(z.step t3).step t4) (hm.step t4)
  ·rintro ys H2 ⟨c2,ts,s2,hR2,cR,rfl,hc2,ha⟩;rw[an8]at ha;refine q Rr H2 s2 ?_;unfold JE DV;exact⟨Rr,_,rfl,SqL.of hR2,bI.dvs (R:=λm v=>∃t,v=V.ref t/\MnT c2 H2 m t) (λm v ⟨t,e,h⟩=>by rw[e];exact h.dv) (bI.mapR (ha.imp λm t h=>⟨t,rfl,h⟩))⟩
theorem Gi (T:Txt w.params K mg A):aT P w K mg base CX0 5 A.Ma A.As ["_law_one","_law_other","_law_many"] (SN A):=by
 have ub:aT P w K mg base CX0 2 A.cc A.iJ ["self"] (λvs H Q E=>∃i,OC A K i vs H Q E):=zm λi=>Sl T
 refine T.yT.ok Pl (λvs H Q E h=>?_) (λcdv A' outer s H vs Q E hr h=>?_)
 ·obtain⟨i,j,o1,o2,c,st,N,rfl,_⟩:=h;rfl
 ·obtain⟨i,j,o1,o2,c,st,N,rfl,hi,hj,h1,h2,I,hN,q⟩:=h;have pE:=hr.units;refine⟨_,(aj (aG (sE (cH (GA pE) (dJ (pv 0) T.ah T.mL ub (hr.mono (by decide)) T.gk .nil aW) (dJ (pv 1) T.ah T.mL ub (hr.mono (by decide)) T.gk .nil aW) (aK _)) (nK (cH (GA pE) (bb (zz T) hr rfl T.vj T.qb.kp T.vi .nil aW (aa (pv 0) (aa (pv 2) ag))) (bb (zz T) hr rfl T.vj T.qb.kp T.vi .nil aW (aa (pv 1) (aa (pv 2) ag))) (aK _)))))),?_⟩
  try dsimp only[bE]
  refine aS λGq gq=>?_
  have al:=I.Sg;have l3:=I.lm;have pl:=I.pil.Ji;rw[bo]at pl;have dl:=I.ld;obtain⟨dx1,aM1,aP1,aA1,aD1,aF1,aE1,aR1,ms1,ds1,ws1,fs1,es1,X1⟩:=h1.ex;obtain⟨dx2,aM2,aP2,aA2,aD2,aF2,aE2,aR2,ms2,ds2,ws2,fs2,es2,X2⟩:=h2.ex;refine gq ?_;refine mtv rfl X1.ob (bX (by trivial)) ⟨i,o1,c,_,rfl,h1,by omega,by omega,by omega,λns1 u1 H1 pm1 so1 s1 dv1=>?_⟩
  refine mtv rfl (s1 _ _ X2.ob) (bX (by trivial)) ⟨j,o2,c,_,rfl,(X2.same s1).at,by omega,by omega,by omega,λns2 u2 H2 pm2 so2 s2 dv2=>?_⟩
  have e12:ns1=ns2:=BC (pm1.trans pm2.symm) so1 so2;subst e12;refine⟨stD _ ns1,stD _ ns1,DV.same s2 _ dv1,dv2,b7 (MF I ns1) (Sw _ ns1),b7 (MF I ns1) (Sw _ ns1),_,rfl,?_⟩;rw[eqv_refl _ (MF I ns1)];have s12:=s1.trans s2;refine iQ ⟨_,rfl,_,rfl,i,o1,c,st,N,rfl,hi,(X1.same s12).at,I,by omega,λl1 H3 s3 d3=>?_⟩
  have s13:=s12.trans s3;refine⟨_,rfl,_,rfl,j,o2,c,st,N,rfl,hj,(X2.same s13).at,I,by omega,λl2 H4 s4 d4=>?_⟩
  refine⟨JE st,JE st,DV.same s4 _ d3,d4,b7 (HP I) (OL st),b7 (HP I) (OL st),?_⟩;rw[eqv_refl _ (HP I)];exact q H4 (s13.trans s4)
theorem qh (T:Txt w.params K mg A):aT P w K mg base CX0 4 A.n8 A.jV ["_law_one","_law_other","_law_made"] (SO A K):=by
 have mq:aT P w K mg base (CXX P w) 2 A.bC A.eQ ["self","number"] (λvs H Q E=>∃i,JA A i vs H Q E):=zm λi=>Fc T
 have j7:aT P w K mg base (CXX P w) 2 A.bq A.dS ["self","number"] (λvs H Q E=>∃i,OJ A i vs H Q E):=zm λi=>BW T
 refine T.iK.ok pX (λvs H Q E h=>?_) (λcdv A' outer s H vs Q E hr h=>?_)
 ·obtain⟨i,j,o1,o2,m,c,st,N,rfl,_⟩:=h;rfl
 ·obtain⟨i,j,o1,o2,m,c,st,N,rfl,h1,h2,hm,I,hN,tx,q⟩:=h;have pE:=hr.units;refine⟨_,(ak (C7 PassesOwn.never rfl (zT rfl T.CY (aa (bT cf (by rfl) T.l6 iR (aa (pv 2) ag)) ag)) (pP (i:=3) pX.nd rfl (anq rfl))
 (aj (bJ (aJ bF (aZ bz (pv 2) (pv 3) (λ_ _=>rfl)) aq (aK _))
 (ak (bJ (aJ (sF pE) (f7 (pv 0) T.ah T.iq mq (hr.mono (by decide)) T.dO .nil sH (aa (bY fJ (pv 3) ai) ag)) (f7 (pv 1) T.ah T.iq mq (hr.mono (by decide)) T.dO .nil sH (aa (bY fJ (pv 3) ai) ag)) (aK _))
 (aj (aG iM))
 aI)
 (aj (bJ (aJ (sF pE) (f7 (pv 0) T.ah T.gf j7 (hr.mono (by decide)) T.cV .nil sH (aa (bY fJ (pv 3) ai) ag)) (f7 (pv 1) T.ah T.gf j7 (hr.mono (by decide)) T.cV .nil sH (aa (bY fJ (pv 3) ai) ag)) (aK _))
 (aj (aG iM))
 aI)))
 aI)))
 (aj (aG iM))),?_⟩
  try dsimp only[bE]
  have lim:gr=16777216:=by decide
  have lm:=I.lm;have kl:(kdL st).length=st.made.length:=by unfold kdL;rw[bo,bo]
  refine⟨_,rfl,m,_,rfl,.inl hm,_,rfl,by rw[kl];omega,by rw[kl];omega,?_⟩
  refine aS λGq gq=>?_
  obtain⟨dx1,aM1,aP1,aA1,aD1,aF1,aE1,aR1,ms1,ds1,ws1,fs1,es1,X1⟩:=h1.ex;obtain⟨dx2,aM2,aP2,aA2,aD2,aF2,aE2,aR2,ms2,ds2,ws2,fs2,es2,X2⟩:=h2.ex;refine gq ?_;refine Fo (lo:=0) (n:=((kdL st).length:Int).toNat) (λk σ H2=>∃kv:Option V,σ=[some (.ref o1),some (.ref o2),some (.ref m),kv]/\a9 H H2) ⟨_,rfl,a9.refl _⟩ ?_ ?_
  ·rintro k σ H2 hk ⟨kv,rfl,s2⟩;rw[kl,Int.toNat_natCast]at hk;have hg:(kdL st)[k]?=some (.str (nm (st.mo (k+1)).k)):=by
    unfold kdL Ch.mo;simp[List.getD,hk]
   refine⟨_,rfl,_,rfl,m,(_),_,_,rfl,rfl,s2.seq hm,SQ hg,rfl,_,rfl,?_⟩
   by_cases h0:(st.mo (k+1)).k=0
   ·have ek:0+(k:Int)+1=((k+1:Nat):Int):=by omega
    refine aS λGq gq=>?_
    have aep:k+1∈st.w4:=by
     unfold Ch.w4;rw[List.mem_filter,aoB];exact⟨⟨by omega,by omega⟩,decide_eq_true h0⟩
    obtain⟨x,hx⟩:=JF (xs:=st.firsts) (n:=k+1) (by rw[I.ff];exact aep)
    obtain⟨y,hy⟩:=JF (xs:=st.kept) (n:=k+1) (by rw[I.kk];exact aep)
    have fo:=(tx.fok x (nr hx).2).2;have ko:∀e∈y.2,am8 e.th=true:=λe he=>(tx.kok y (nr hy).2 e he).str
    refine gq ?_;refine Bg (by rw[h0];exact decide_eq_true rfl) ?_
    have en:∀o:Addr,[V.ref o,.int (0+(k:Int)+1)]=[.ref o,nV (k+1)]:=λo=>by unfold nV;rw[ek]
    refine mtv rfl (s2 _ _ X1.ob) (bX (by trivial)) ⟨_,rfl,_,_,rfl,rfl,i,o1,k+1,c,st,x,en o1,(X1.same s2).at,hx,λl1 hl1=>?_⟩
    have s3:=s2.new (o:=.lst (x.2.map V.str)) hl1;refine mtv rfl (s3 _ _ X2.ob) (bX (by trivial)) ⟨_,rfl,_,_,rfl,rfl,j,o2,k+1,c,st,x,en o2,(X2.same s3).at,hx,λl2 hl2=>?_⟩
    have s4:=s3.new (o:=.lst (x.2.map V.str)) hl2;have fl:=oR fo;refine⟨_,_,e9 (SqL.of ((av (aU ae hl2)).trans ae)),e9 (SqL.of ae),b7 fl (si (j6 _) (by decide)),b7 fl (si (j6 _) (by decide)),_,rfl,uM (eqv_refl _ fl) ?_⟩
    try dsimp only[yy]
    refine mtv rfl (s4 _ _ X1.ob) (bX (by trivial)) ⟨_,rfl,_,_,rfl,rfl,i,o1,k+1,c,st,x,y,en o1,(X1.same s4).at,hx,hy,λl3 t3 hl3 a3=>?_⟩
    have s5:=s4.new (o:=.lst (t3.map V.ref)) hl3;refine mtv rfl (s5 _ _ X2.ob) (bX (by trivial)) ⟨_,rfl,_,_,rfl,rfl,j,o2,k+1,c,st,x,y,en o2,(X2.same s5).at,hx,hy,λl4 t4 hl4 a4=>?_⟩
    have s6:=s5.new (o:=.lst (t4.map V.ref)) hl4;have kl':(aoM (y.2.map edD)).canLay0=true:=by
     simp only[ana];exact tN λe he=>HL (ko e he)
    have kd':(aoM (y.2.map edD)).depth<=64:=by
     have:=lB (f:=edD) AS y.2;simp only[anl];omega
    have dvk:∀ {H':Hp} {l:Addr} {ts:List Addr},H' l=some (.lst (ts.map V.ref))->bI (λe t=>TupAt c H' t (iN e)) y.2 ts->DV K H' (.list (y.2.map edD)) (.ref l):=λ{H' l ts} hl ha=>by
     unfold DV;exact⟨l,_,rfl,SqL.of hl,bI.dvs (R:=λe v=>∃t,v=V.ref t/\TupAt c H' t (iN e)) (λe v ⟨t,z,h⟩=>by rw[z];exact Eb e h.sq) (bI.mapR (ha.imp λe t h=>⟨t,rfl,h⟩))⟩
    have t6:Step (λ_=>False) c c _ _:=Step.same id (aB (o:=.lst (t4.map V.ref)) hl4)
    have t5:Step (λ_=>False) c c _ _:=Step.same id (aB (o:=.lst (t3.map V.ref)) hl3)
    refine⟨_,_,dvk ((av (aU ae hl4)).trans ae) (a3.imp λ_ _ z=>(z.step t5).step t6),dvk ae (a4.imp λ_ _ z=>z.step t6),b7 kl' kd',b7 kl' kd',_,rfl,uM (eqv_refl _ kl') ?_⟩
    exact⟨_,rfl,s6⟩
   ·refine Dj (decide_eq_false λz=>h0 ?_) ⟨_,rfl,s2⟩
    have k8:=(st.mo (k+1)).k8;have z':nm (st.mo (k+1)).k=ar "matter":=by injection z
    generalize (st.mo (k+1)).k=kk at k8 z';have:∀k,k < 8->nm k=ar "matter"->k=0:=by trivial
    exact this kk k8 z'
  ·rintro σ H2 ⟨kv,rfl,s2⟩;exact q H2 s2
end
def Vt (A:Adr):Sp:=λvs H Q _=>∃(i:Nat) (o w t:Addr) (c:Col) (st:Ch) (d:R.bG) (rs:List Str),vs=[.ref o,.ref w,.ref t]/\dh A i c H o st/\H w=some (.lst (rs.map V.str))/\st.rows=rs++[R.gi d]/\uo d/\eS c H d t/\(∀r∈rs,am8 r=true)/\rs.length<=1000 /\
 ∀H1,a9 H H1->Q (.bl true) (upd H1 w (.lst (st.rows.map V.str)))
def ON (A:Adr)(i:Nat):Sp:=λvs H Q _=>∃(o:Addr) (n:Int) (c:Col) (st:Ch) (N:Nat) (d:R.bG),vs=[.ref o,.str (R.gi d),.int n]/\dh A i c H o st/\Inv N st/\N<=800/\uo d/\isX (cK st d).1=false /\
 ∀c' H',Step (fm i) c c' H H'->dh A i c' H' o (cK st d).2->Q .non H'
def SS (A:Adr)(i:Nat):Sp:=λvs H Q _=>∃(n:Int) (l:Addr) (c:Col) (ds:List R.bG) (st:Ch),vs=[.int n,.ref l]/\c l=none/\H l=some (.lst (st.rows.map V.str))/\Rep n ds st/\3 * ds.length<=600 /\
 ∀o c' H',Step (fm i) c c' H H'->dh A i c' H' o st->Q (.ref o) H'
theorem Gj (n:Int):Inv 0 (xt n) :=
 ⟨kj 0,kj 0,kj 0,kj 0,(λ_ h=>nomatch h),⟨by show (1:Int)<=1;decide,by show (1:Int)<=_;decide⟩,(λ_ h=>nomatch h),(λ_ h=>nomatch h),List.nodup_nil,.nil,(λ_ h=>nomatch h),rfl,rfl,(λ_ h=>nomatch h)⟩
theorem SU (xs:List V)(x:V):kF (xs++[x]) none (some (-1))=xs:=by
 unfold kF;have e:HT.sIx (xs++[x]).length (xs++[x]).length (some (-1))=xs.length:=by
  show (if (-1:Int) < 0 then ((-1:Int)+((xs++[x]).length:Int)).toNat else min (-1:Int).toNat (xs++[x]).length)=_
  rw[if_pos (by decide),ki,anc]
  omega
 rw[HT.De,List.drop_zero,Nat.sub_zero,e,List.take_left]
theorem OO {xs:List V}{x:V}:atI (xs++[x]) (-1)=some x:=by
 unfold atI ixN;rw[if_neg (by decide),if_pos (by rw[ki,anc];omega),ki,anc]
 have e:((-1:Int)+((xs.length+1:Nat):Int)).toNat=xs.length:=by omega
 rw[e];exact List.getElem?_concat_length
section
variable{P:rf}{w:World}{K:ba}{mg:Str->Option Value}{base:Heap}{A:Adr}
theorem SV (K:ba):PySem.W.kitOne K (.type "list") (.type "list")=some true:=by kernel_rfl
theorem PU (K:ba):PySem.W.kitOne K (.type "str") (.type "str")=some true:=by kernel_rfl
theorem MO (T:Txt w.params K mg A):aT P w K mg base CX0 8 A.G7 A.xK ["_law_chamber","_law_rows","_law_deed_here"] (Vt A):=by
 have fv:aT P w K mg base CX0 1 A.bD A.dE ["self"] (λvs H Q E=>∃i,wV A i vs H Q E):=zm λi=>xZ T
 have mr:aT P w K mg base (CXX P w) 7 A.nI A.iH ["row"] (R.C1 K A):=R.tM T;refine T.AB.ok xE (λvs H Q E h=>?_) (λcdv A' outer s H vs Q E hr h=>?_)
 ·obtain⟨i,o,w,t,c,st,d,rs,rfl,_⟩:=h;rfl
 ·obtain⟨i,o,wl,t,c,st,d,rs,rfl,hc,hw,er,hd,hz,ro,rl,q⟩:=h;have pE:=hr.units;refine⟨_,(ak (bh (i:=3) xE.nd rfl (anq rfl) (dJ (pv 0) T.ah T.gY fv (hr.mono (by decide)) T.dW .nil aW))
 (ak (bJ (PW.pt (pw_or (jf (iP (bT Im (by rfl) T.tD xh (aa (pv 3) (aa (N0 (v:=V.ty "list") rfl T.kZ jb rfl) ag))))) (pw_or (aJ Fp (bT cf (by rfl) T.l6 iR (aa (pv 3) ag)) (bY fJ (bT cf (by rfl) T.l6 iR (aa (pv 1) ag)) ai) (aK _)) (pw_or1 (aJ (sF pE) (iX mX (pv 3) mW (jN (xg qm ai))) (pv 1) (aK _))))))
 (aj (aG iM))
 aI)
 (ak (bh (i:=4) xE.nd rfl (anq rfl) (aZ bz (pv 3) (xg qm ai) (λ_ _=>rfl)))
 (ak (bR (QN am9 PySem.F.slot_list_clear PySem.F.type_list_clear QR (pv 3)))
 (ak (bJ (PW.pt (pw_or (jf (iP (bT Im (by rfl) T.tD xh (aa (pv 4) (aa (N0 (v:=V.ty "str") rfl T.Oc LO rfl) ag))))) (pw_or1 (aJ (sF pE) (bb mr hr rfl T.p8 T.lZ.kp T.p7 .nil sH (aa (pv 4) ag)) (pv 2) (aK _)))))
 (aj (aG iM))
 aI)
 (ak (bR (js am9 anu anv dq (pv 1) (aa (pv 4) ag)))
 (aj (aG iM)))))))),?_⟩
  try dsimp only[bE]
  refine aS λGq gq=>?_
  have lim:gr=16777216:=by decide
  obtain⟨dx,aM,aP,aA,aD,aF,aE,aR,ms,ds,ws,fs,es,X⟩:=hc.ex;refine gq ?_;refine mtv rfl X.ob (bX (by trivial)) ⟨i,o,c,st,rfl,hc,λl hl=>?_⟩
  rw[er,ky];have s1:a9 H (upd H l (.lst (rs.map V.str++[R.gi d].map V.str))):=aB hl;have hl1:(upd H l (.lst (rs.map V.str++[R.gi d].map V.str))) l=some (.lst (rs.map V.str++[.str (R.gi d)])):=ae
  try dsimp only[jr]
  generalize upd H l (.lst (rs.map V.str++[R.gi d].map V.str))=H1 at s1 hl1 ⊢;have ele:(rs.map V.str++[V.str (R.gi d)]).length=rs.length+1:=by rw[ki,bo];rfl
  refine⟨_,rfl,_,.ty "list",_,_,rfl,rfl,.lst hl1,SV K,_,rfl,et ?_⟩;refine⟨_,rfl,l,_,rfl,.inl (SqL.of hl1),_,rfl,wl,_,rfl,.inl (SqL.of (s1 _ _ hw)),_,_,rfl,rfl,rfl,tsf ?_ ?_⟩
  ·rw[ele,bo];simp
  refine⟨_,rfl,_,rfl,_,rfl,l,_,rfl,SqL.of hl1,λl2 hl2=>?_⟩
  rw[SU];have s2:a9 H1 (upd H1 l2 (.lst (rs.map V.str))):=aB hl2;have aeq:(upd H1 l2 (.lst (rs.map V.str))) l2=some (.lst (rs.map V.str)):=ae;generalize upd H1 l2 (.lst (rs.map V.str))=H2 at s2 aeq ⊢;have ly:=oR ro;have dp:(aoM (rs.map anG)).depth<=64:=si (j6 _) (by decide)
  have s12:=s1.trans s2;refine⟨_,rfl,_,_,e9 (SqL.of aeq),e9 (SqL.of (s12 _ _ hw)),b7 ly dp,b7 ly dp,_,rfl,uM (eqv_refl _ ly) ?_⟩
  try dsimp only[yy]
  refine⟨_,rfl,_,rfl,l,(_),_,_,rfl,rfl,SqL.of (s2 _ _ hl1),OO,?_⟩;refine⟨_,rfl,.inl ⟨rfl,_,SqL.of (s2 _ _ hl1)⟩,l,_,rfl,rfl,s2 _ _ hl1,?_⟩;have s3:a9 H (upd H2 l (.lst [])):=s12.own hl;have s3':a9 H (upd H2 l (.lst [])):=s3;generalize upd H2 l (.lst [])=H3 at s3 ⊢;refine⟨_,rfl,_,.ty "str",_,_,rfl,rfl,.str _,PU K,_,rfl,et ?_⟩;refine⟨_,rfl,R.gi d,rfl,AX hd.2.1,R.zv hd.2.1,λe he t4 H4 s4 nt4 h4=>?_,λhe=>?_⟩
  ·rw[R.row_read hd.2.1 hd.2.2]at he;cases he;have z4:eS (λ_=>none) H4 d t4:=vN (c:=λ_=>none) nt4 (λ_ _=>rfl) (R.eR.norm h4)
   have z5:eS (eh c H) H4 d t:=hz.step (Step.cl (W:=λ_=>False) id (s3.trans s4))
   have dl:=Sz hd.1;refine⟨_,rfl,mn d,mn d,OG (i:=0) hd.1 (eS.c z4),OG (i:=0) hd.1 z5.c,b7 dl (Jy d),b7 dl (Jy d),_,rfl,uM (eqv_refl _ dl) ?_⟩
   try dsimp only[yy]
   have s34:=s3.trans s4;refine⟨_,rfl,.inl ⟨rfl,_,SqL.of (s34 _ _ hw)⟩,_,rfl,wl,_,_,rfl,rfl,s34 _ _ hw,(by rw[bo];omega),?_⟩
   have:=q H4 s34;rw[er,ky]at this;exact this
  ·rw[R.row_read hd.2.1 hd.2.2]at he;cases he
theorem MP (T:Txt w.params K mg A){i:Nat}:aT P w K mg base (CXX P w) 9 A.G5 A.wA ["chamber","row","number"] (ON A i):=by
 have mr:aT P w K mg base (CXX P w) 7 A.nI A.iH ["row"] (R.C1 K A):=R.tM T;refine T.DQ.okX Pk (λvs H Q E h=>?_) (λcdv A' outer s H vs Q E hr h=>?_)
 ·obtain⟨o,n,c,st,N,d,rfl,_⟩:=h;rfl
 ·obtain⟨o,n,c,st,N,d,rfl,hc,I,hN,hd,hx,q⟩:=h;refine⟨_,(aO (psx_tryN (aO (b8 (bB (Ez (i:=i) T) hr rfl T.AA T.wG.kp T.Az (cC (px (pv 0)) (cC (bB mr (hr.mono (by decide)) rfl T.p8 T.lZ.kp T.p7 (pax (aa (pv 1) ag))) mZ))))))),?_⟩
  try dsimp only[bE]
  refine⟨_,rfl,_,rfl,R.gi d,rfl,AX hd.2.1,R.zv hd.2.1,λe he t H1 s1 nt h1=>?_,λhe=>?_⟩
  ·rw[R.row_read hd.2.1 hd.2.2]at he;cases he;have z1:eS (eh c H) H1 d t:=vN nt (λ_ h=>dg h) (R.eR.norm h1)
   have t1:Step (fm i) c (eh c H) H H1:=Step.cl aX s1;have hc1:=hc.free (W:=λ_=>False) (λ_=>id) (Step.cl id s1)
   refine⟨o,t,eh c H,st,N,d,rfl,hc1,I,hN,hd.1,z1.c,?_⟩;generalize cK st d=rs at q hx ⊢;obtain⟨r,st'⟩:=rs;cases r with
   |num n=>exactλc2 H2 s2 hc2=>q c2 H2 (t1.trans s2) hc2
   |txt z=>exactλc2 H2 s2 hc2=>q c2 H2 (t1.trans s2) hc2
   |exc x=>cases hx
  ·rw[R.row_read hd.2.1 hd.2.2]at he;cases he
theorem PV (T:Txt w.params K mg A){i:Nat}:aT P w K mg base CX0 9 A.G5 A.wA ["chamber","row","number"] (ON A i):=(MP T).calm λ_ _ _ _ h=>h
theorem PX (T:Txt w.params K mg A){i:Nat}:aT P w K mg base CX0 10 A.replay A.Am ["seats","rows"] (SS A i):=by
 refine T.DR.ok wx (λvs H Q E h=>?_) (λcdv A' outer s H vs Q E hr h=>?_)
 ·obtain⟨n,l,c,ds,st,rfl,_⟩:=h;rfl
 ·obtain⟨n,l,c,ds,st,rfl,cl,hl,rep,hN,q⟩:=h;refine⟨_,(ak (bh (i:=2) wx.nd rfl (anq rfl) (f9 T.wJ (Mx T) (hr.mono (by decide)) rfl T.wI T.fS .nil aW (aa (pv 0) ag)))
 (ak (C7 PassesOwn.never rfl (pi_enum (k:=1) (by trivial) rfl T.Bv (aa (pv 1) ag)) (XU rfl (Ic (pP (i:=3) wx.nd rfl (anq rfl)) (Ic (pP (i:=4) wx.nd rfl (anq rfl)) Ua)))
 (aj (bR (bb (PV (i:=i) T) hr rfl T.II T.DQ.kp T.IH .nil aW (aa (pv 2) (aa (pv 4) (aa (pv 3) ag)))))))
 (aj (aG (pv 2))))),?_⟩
  try dsimp only[bE]
  refine⟨_,rfl,λo d1 ho1 hd1 ne1=>⟨o,d1,n,rfl,ae,λH2 h2=>⟨rfl,?_⟩⟩⟩
  refine aS λGq gq=>?_
  obtain⟨c1,k1,ch1⟩:=h2 i c;have st1:Step (fm i) c c1 H H2:=AV aX ho1 hd1 k1;have kl:=vJ st1 cl hl;refine gq ?_
  try dsimp only[jr]
  have ele:(st.rows.map V.str).length=ds.length:=by rw[rep.rows,bo,bo]
  refine⟨_,rfl,l,rfl,⟨_,SqL.of kl.2⟩,?_⟩;refine for_enum (K:=K) (a:=l) (xs:=st.rows.map V.str) (λj σ Hj=>∃(cj:Col) (v3 v4:Option V),σ=[some (.int n),some (.ref l),some (.ref o),v3,v4]/\Step (fm i) c cj H Hj/\dh A i cj Hj o (Fd n (ds.take j))/\Inv (3 * j) (Fd n (ds.take j)))
   ⟨c1,_,_,rfl,st1,ch1,Gj n⟩ (λj σ Hj _ ⟨cj,_,_,_,sj,_⟩=>SqL.of (vJ sj cl hl).2) ?_ ?_
  ·rintro j y σ Hj t hy ⟨cj,v3,v4,rfl,sj,chj,Ij⟩ ht;refine aS λGq gq=>?_
   have hj:j < ds.length:=by rw[<-ele];exact(List.getElem?_eq_some_iff.mp hy).1
   obtain⟨d,hdj⟩:∃d,ds[j]?=some d:=⟨_,anm hj⟩;obtain rfl:V.str (R.gi d)=y:=by
    rw[rep.rows,ant,ant,hdj]at hy;exact anb hy
   have sn:Step (fm i) cj (aN cj t none) Hj (upd Hj t (.tup [.int ((j+1:Nat):Int),.str (R.gi d)])):=Step.new aX ht;have chn:=chj.free (W:=λ_=>False) (λ_=>id) (Step.new (x:=none) (o:=.tup [.int ((j+1:Nat):Int),.str (R.gi d)]) id ht)
   refine gq ?_;refine⟨t,_,rfl,SqT.of ae,rfl,_,_,rfl,_,_,rfl,rfl,?_⟩;refine⟨_,rfl,_,rfl,_,rfl,o,_,aN cj t none,Fd n (ds.take j),3 * j,d,rfl,chn,Ij,by omega,rep.ok d (anh hdj),rep.good j d hdj,λc' H' s' ch'=>?_⟩
   have e:Fd n (ds.take (j+1))=(cK (Fd n (ds.take j)) d).2:=by rw[aoL,hdj];exact Gg _ _ _
   have I':=Ij.cK (by omega) (rep.ok d (anh hdj)).1
   rw[<-e]at ch' I';exact⟨c',_,_,rfl,(sj.trans sn).trans s',ch',by rw[show 3 * (j+1)=3 * j+3 by omega];exact I'⟩
  ·rintro σ Hj ⟨cj,v3,v4,rfl,sj,chj,Ij⟩;rw[ele,an8,rep.run]at chj;exact⟨_,rfl,q o cj Hj sj chj⟩
end
def HQ (x:Option (Nat×Rl)):Prop:=x≠none
theorem ny:¬HQ none:=λh=>h rfl
theorem Step.wall {W:Option (Nat×Rl)->Prop}{c c':Col}{H H':Hp}(s:Step W c c' H H'):Step HQ c c' H H':=s.mono (λx h e=>s.nn (e▸h)) ny
theorem qi {W:Option (Nat×Rl)->Prop}{c c':Col}{H H':Hp}(s:Step W c c' H H'){a:Addr}{x:Nat×Rl}{v:HO}(n:¬W (some x))(h:c a=some x/\H a=some v):c' a=some x/\H' a=some v:=by
 have hn:¬W (c a):=by rw[h.1];exact n
 exact⟨by rw[s.col a _ h.2 hn];exact h.1,s.keep _ _ h.2 hn⟩
structure G31 (A:Adr)(j:Nat)(o1 o2 wR wM:Addr)(c:Col)(H:Hp)(s1 s2:Ch)(rs:List Str)(md:List V):Prop where
 one:dh A 1 c H o1 s1
 two:dh A j c H o2 s2
 rw:c wR=some (0,.rows)/\H wR=some (.lst (rs.map V.str))
 md:c wM=some (0,.made)/\H wM=some (.lst md)
section
variable{A:Adr}{j:Nat}{o1 o2 wR wM:Addr}{c c':Col}{H H':Hp}{s1 s2 s':Ch}{rs rs':List Str}{md md':List V}{W:Option (Nat×Rl)->Prop}
theorem G31.free (n0:∀r,¬W (some (0,r)))(n1:∀r,¬W (some (1,r)))(nj:∀r,¬W (some (j,r)))(s:Step W c c' H H')(g:G31 A j o1 o2 wR wM c H s1 s2 rs md):G31 A j o1 o2 wR wM c' H' s1 s2 rs md :=
 ⟨g.one.free n1 s,g.two.free nj s,qi s (n0 _) g.rw,qi s (n0 _) g.md⟩
theorem G31.same (s:a9 H H')(g:G31 A j o1 o2 wR wM c H s1 s2 rs md):G31 A j o1 o2 wR wM c H' s1 s2 rs md:=g.free (W:=λ_=>False) (λ_=>id) (λ_=>id) (λ_=>id) (Step.same id s)
theorem G31.cl (s:a9 H H')(g:G31 A j o1 o2 wR wM c H s1 s2 rs md):G31 A j o1 o2 wR wM (eh c H) H' s1 s2 rs md:=g.free (W:=λ_=>False) (λ_=>id) (λ_=>id) (λ_=>id) (Step.cl id s)
theorem G31.first (nj:j≠1)(s:Step (fm 1) c c' H H')(h:dh A 1 c' H' o1 s')(g:G31 A j o1 o2 wR wM c H s1 s2 rs md):G31 A j o1 o2 wR wM c' H' s' s2 rs md :=
 ⟨h,g.two.other nj s,qi s (iw (by decide) _) g.rw,qi s (iw (by decide) _) g.md⟩
theorem G31.second (n1:j≠1)(n0:j≠0)(s:Step (fm j) c c' H H')(h:dh A j c' H' o2 s')(g:G31 A j o1 o2 wR wM c H s1 s2 rs md):G31 A j o1 o2 wR wM c' H' s1 s' rs md :=
 ⟨g.one.other (anj n1) s,h,qi s (iw (anj n0) _) g.rw,qi s (iw (anj n0) _) g.md⟩
theorem G31.ak5 (n0:j≠0)(g:G31 A j o1 o2 wR wM c H s1 s2 rs md):G31 A j o1 o2 wR wM c (upd H wR (.lst (rs'.map V.str))) s1 s2 rs' md:=by
 have s:Step (λx=>x=some (0,.rows)) c c H (upd H wR (.lst (rs'.map V.str))):=Step.upd (λz=>nomatch z) g.rw.1
 exact⟨g.one.free (λr z=>by cases z) s,g.two.free (λr z=>n0 (by cases z;rfl)) s,⟨g.rw.1,ae⟩,qi s (λz=>by cases z) g.md⟩
theorem G31.setM (n0:j≠0)(g:G31 A j o1 o2 wR wM c H s1 s2 rs md):G31 A j o1 o2 wR wM c (upd H wM (.lst md')) s1 s2 rs md':=by
 have s:Step (λx=>x=some (0,.made)) c c H (upd H wM (.lst md')):=Step.upd (λz=>nomatch z) g.md.1
 exact⟨g.one.free (λr z=>by cases z) s,g.two.free (λr z=>n0 (by cases z;rfl)) s,qi s (λz=>by cases z) g.rw,⟨g.md.1,ae⟩⟩
theorem G31.aer (g:G31 A j o1 o2 wR wM c H s1 s2 rs md){o:HO}:Step HQ c c H (upd H wR o):=Step.upd ny (by rw[g.rw.1];exactλz=>nomatch z)
theorem G31.oM (g:G31 A j o1 o2 wR wM c H s1 s2 rs md){o:HO}:Step HQ c c H (upd H wM o):=Step.upd ny (by rw[g.md.1];exactλz=>nomatch z)
end
theorem bI.WH {α β:Type}{R:α->β->Prop}:∀ {as:List α} {bs:List β} (n:Nat),bI R as bs->bI R (as.take n) (bs.take n)
 |_,_,0,_=>.nil
 |_,_,_+1,.nil=>.nil
 |_,_,n+1,.cons h t=>.cons h (t.WH n)
theorem bI.WI {α β:Type}{R:α->β->Prop}:∀ {as:List α} {bs:List β} (n:Nat),bI R as bs->bI R (as.drop n) (bs.drop n)
 |_,_,0,h=>h
 |_,_,_+1,.nil=>.nil
 |_,_,n+1,.cons _ t=>t.WI n
def Gk (A:Adr)(j:Nat):Sp:=λvs H Q _=>∃(o1 o2 wR wM L:Addr) (c:Col) (n:Int) (ds:List R.bG) (st:Ch) (N:Nat) (es:List R.bG) (ts:List Addr),vs=[.ref o1,.ref o2,.ref wR,.ref wM,.ref L] /\
 G31 A j o1 o2 wR wM c H st st st.rows (kdL st)/\Rep n ds st/\Inv N st/\TxI st/\N+3 * es.length<=189/\c L=none/\H L=some (.lst (ts.map V.ref))/\bI (eS c H) es ts/\(∀e∈es,uo e) /\
 ∀c' H' ds' st',Step HQ c c' H H'->G31 A j o1 o2 wR wM c' H' st' st' st'.rows (kdL st')->Rep n ds' st'->Inv (N+3 * es.length) st'->TxI st'->Q (.bl true) H'
theorem HR (st:Ch):(kdL st).length=st.made.length:=by unfold kdL;rw[bo,bo]
theorem SW {st:Ch}{d:R.bG}(hd:rL d)(h:isX (cK st d).1=false):kdL (cK st d).2=kdL st++(if zx d=true then [V.str (R.iu d)] else []):=by
 unfold kdL;rw[MM hd h,ky]
 by_cases hm:zx d=true
 ·rw[if_pos hm,if_pos hm,aen (aeo hd hm)];rfl
 ·rw[if_neg hm,if_neg hm];rfl
section
variable{P:rf}{w:World}{K:ba}{mg:Str->Option Value}{base:Heap}{A:Adr}
set_option maxHeartbeats 20000000 in
theorem MQ (T:Txt w.params K mg A){j:Nat}(j0:j≠0)(j1:j≠1):aT P w K mg base CX0 11 A.CW A.sU ["_law_one","_law_other","_law_rows","_law_made","_law_deeds"] (Gk A j):=by
 have fv:aT P w K mg base CX0 1 A.bD A.dE ["self"] (λvs H Q E=>∃i,wV A i vs H Q E):=zm λi=>xZ T
 have mr:aT P w K mg base (CXX P w) 7 A.nI A.iH ["row"] (R.C1 K A):=R.tM T;refine T.wH.ok DK (λvs H Q E h=>?_) (λcdv A' outer s H vs Q E hr h=>?_)
 ·obtain⟨o1,o2,wR,wM,L,c,n,ds,st,N,es,ts,rfl,_⟩:=h;rfl
 ·obtain⟨o1,o2,wR,wM,L,c,n,ds,st,N,es,ts,rfl,g0,rep0,I0,tx0,hN,cL,hL,hz0,hok,q⟩:=h;have pE:=hr.units;refine⟨_,(ak (C7 PassesOwn.never rfl (jL (pv 4)) (pP (i:=5) DK.nd rfl (anq rfl))
 (ak (bJ (jf (iP (bb (Gh T) (hr.mono (by decide)) rfl T.DY T.yS.kp T.DX .nil aW (aa (pv 0) (aa (pv 5) ag)))))
 (ak (bJ (aJ (sF pE) (dJ (pv 0) T.ah T.gY fv (hr.mono (by decide)) T.dW .nil aW) (pv 2) (aK _))
 (aj (aG iM))
 aI)
 (aj Ib))
 aI)
 (ak (bJ (aJ Gy (aZ bx (pv 5) ai (λ_ _=>rfl)) (cI (aa aq (aa aq (aa aq ag)))) rfl)
 (aj (bR (js am9 anu anv dq (pv 3) (aa (aZ bx (pv 5) ai (λ_ _=>rfl)) ag))))
 aI)
 (ak (bJ (PW.pt (pw_or (jf (iP (bb (MO T) (hr.mono (by decide)) rfl T.FU T.AB.kp T.FT .nil aW (aa (pv 0) (aa (pv 2) (aa (pv 5) ag)))))) (pw_or1 (jf (iP (bb (Gh T) (hr.mono (by decide)) rfl T.DY T.yS.kp T.DX .nil aW (aa (pv 1) (aa (bb mr (hr.mono (by decide)) rfl T.p8 T.lZ.kp T.p7 .nil sH (aa (aZ bz (pv 2) (xg qm ai) (λ_ _=>rfl)) ag)) ag))))))))
 (aj (aG iM))
 aI)
 (aj (bJ (jf (iP (bb (Gi T) (hr.mono (by decide)) rfl T.D0 T.yT.kp T.DZ .nil aW (aa (pv 0) (aa (pv 1) (aa (bT cf (by rfl) T.l6 iR (aa (pv 3) ag)) ag))))))
 (aj (aG iM))
 aI))))))
 (aj (aG iM))),?_⟩
  try dsimp only[bE]
  have lim:gr=16777216:=by decide
  have etl:=hz0.len;refine⟨_,rfl,L,rfl,⟨_,SqL.of hL⟩,?_⟩;refine C8 (K:=K) (a:=L) (xs:=ts.map V.ref) (λk σ Hk=>∃(v5:Option V) (ck:Col) (dk:List R.bG) (sk:Ch),σ=[some (.ref o1),some (.ref o2),some (.ref wR),some (.ref wM),some (.ref L),v5]/\Step HQ c ck H Hk/\G31 A j o1 o2 wR wM ck Hk sk sk sk.rows (kdL sk)/\Rep n dk sk/\Inv (N+3 * k) sk/\TxI sk)
   ⟨_,c,ds,st,rfl,Step.refl ny,g0,rep0,I0,tx0⟩ (λk σ Hk _ ⟨_,_,_,_,_,sk,_⟩=>SqL.of (vJ sk cL hL).2) ?_ ?_
  ·rintro k y σ Hk hy ⟨v5,ck,dk,st,rfl,sk,g,rep,I,tx⟩;refine aS λGq gq=>?_
   rw[ant]at hy;obtain⟨t,ht,rfl⟩:∃t,ts[k]?=some t/\V.ref t=y:=by
    cases e:ts[k]? with
    |none=>rw[e]at hy;cases hy
    |some t=>rw[e]at hy;exact⟨t,rfl,anb hy⟩
   obtain⟨d,hdk,hz⟩:=hz0.ael ht;have hkl:k < es.length:=(List.getElem?_eq_some_iff.mp hdk).1;have hd:=hok d (anh hdk);refine gq ?_
   replace hz:=hz.step sk
   have I':=I.cK (by omega) hd.1
   have tx':=tx.ef I hd.1 (SI I (by omega) hd.1)
   have eN:N+3 * (k+1)=N+3 * k+3:=by omega
   refine⟨_,rfl,_,rfl,1,o1,t,ck,st,N+3 * k,d,rfl,g.one,I,by omega,hd.1,hz.c,λc1 H1 s1 ch1=>⟨_,rfl,?_⟩⟩
   have g1:=g.first j1 s1 ch1
   replace hz:=hz.step s1
   replace sk:=sk.trans s1.wall
   clear ch1 s1 g;cases hx:isX (cK st d).1 with
   |true =>
    refine iQ ?_;refine aS λGq gq=>?_
    rw[SJ hd.1 hx]at g1;obtain⟨dx1,aM1,aP1,aA1,aD1,aF1,aE1,aR1,ms1,ds1,ws1,fs1,es1,X1⟩:=g1.one.ex;refine gq ?_;refine mtv rfl X1.ob (bX (by trivial)) ⟨1,o1,c1,st,rfl,g1.one,λl hl=>?_⟩
    have s2:a9 H1 (upd H1 l (.lst (st.rows.map V.str))):=aB hl;have ly:=oR rep.SM;have dp:(aoM (st.rows.map anG)).depth<=64:=si (j6 _) (by decide)
    refine⟨_,rfl,_,_,e9 (SqL.of ae),e9 (SqL.of (s2 _ _ g1.rw.2)),b7 ly dp,b7 ly dp,_,rfl,uM (eqv_refl _ ly) ?_⟩;exact⟨_,c1,dk,st,rfl,sk.trans (Step.same ny s2),g1.same s2,rep,by rw[eN];exact I.mono (by omega),tx⟩
   |false =>
    refine et ?_;have er:=Gf hd.1 hd.2.1 hx;have ek:=SW hd.1 hx;have aes:=rep.snoc hd hx;generalize e2:(cK st d).2=st2 at g1 I' tx' er ek aes ⊢;have at0:∀xs:List V,atI (V.str (R.iu d)::xs) 0=some (.str (R.iu d)):=λxs=>pQ (j:=0) rfl
    try dsimp only[yy]
    refine Oy (λσ' H'=>σ'=[some (.ref o1),some (.ref o2),some (.ref wR),some (.ref wM),some (.ref L),some (.ref t)]/\G31 A j o1 o2 wR wM c1 H' st2 st st.rows (kdL st2)/\Step HQ c1 c1 H1 H') ?r1 (λN nN=>?f1)
    case f1 =>
     obtain⟨xs1,hk1⟩:=hz.kind;refine ixv rfl (SqT.of hk1) (at0 _) ⟨(by show 3<=gr;decide),λu hu=>⟨u,_,rfl,.inr (SqT.of ae),rfl,rfl,_,rfl,?_⟩⟩
     have ein:(if true=true then !inV (V.str (R.iu d)) [V.str (ar "vote"),V.str (ar "drop"),V.str (ar "take")] else inV (V.str (R.iu d)) [V.str (ar "vote"),V.str (ar "drop"),V.str (ar "take")])=zx d:=(if_pos rfl).trans (Vk hd.1)
     rw[ein];have s2:=aB (o:=.tup [V.str (ar "vote"),V.str (ar "drop"),V.str (ar "take")]) hu;have g2:=g1.same s2;have t2:Step HQ c1 c1 H1 _:=Step.same ny s2;cases hmv:zx d with
     |true =>
      rw[hmv,if_pos rfl]at ek;refine iQ ⟨_,rfl,.inl ⟨rfl,_,SqL.of g2.md.2⟩,ixv rfl (SqT.of (s2 _ _ hk1)) (at0 _) ⟨wM,_,_,rfl,rfl,g2.md.2,?_,?_⟩⟩
      ·rw[HR];have:=I.lm;omega
      ·rw[<-ek];exact nN _ _ ⟨rfl,g2.setM j0,t2.trans g2.oM⟩
     |false =>
      rw[hmv,if_neg kr,anO]at ek;refine et (nN _ _ ⟨rfl,?_,t2⟩);rw[ek];exact g2
    case r1 =>
     rintro σ2 H2 ⟨rfl,g2,t2⟩
     replace hz:=hz.step t2
     replace sk:=sk.trans t2
     clear g1 t2 ek;refine⟨_,rfl,_,rfl,_,rfl,1,o1,wR,t,c1,st2,d,st.rows,rfl,g2.one,g2.rw.2,er,hd,hz,rep.SM,by have:=I.lr;omega,λH3 s3=>⟨_,rfl,et ?_⟩⟩
     have g3:=(g2.same s3).ak5 (rs':=st2.rows) j0;have t3:Step HQ c1 c1 H2 (upd H3 wR (.lst (st2.rows.map V.str))):=(Step.same ny s3).trans (g2.same s3).aer
     replace hz:=hz.step t3
     replace sk:=sk.trans t3
     generalize upd H3 wR (.lst (st2.rows.map V.str))=H4 at g3 hz sk ⊢;clear t3 g2 s3;have hw4:H4 wR=some (.lst (st.rows.map V.str++[.str (R.gi d)])):=by
      have:=g3.rw.2;rw[er,ky]at this;exact this
     refine⟨_,rfl,_,rfl,_,rfl,wR,(_),_,_,rfl,rfl,SqL.of hw4,OO,R.gi d,rfl,AX hd.2.1,R.zv hd.2.1,λe he t5 H5 s5 nt5 h5=>?_,λhe=>?_⟩
     ·rw[R.row_read hd.2.1 hd.2.2]at he;cases he;have z5:eS (eh c1 H4) H5 d t5:=vN nt5 (λ_ h=>dg h) (R.eR.norm h5)
      have g5:=g3.cl s5
      replace sk:=sk.trans (Step.cl ny s5)
      refine⟨j,o2,t5,eh c1 H4,st,N+3 * k,d,rfl,g5.two,I,by omega,hd.1,z5.c,λc6 H6 s6 ch6=>⟨_,rfl,?_⟩⟩
      rw[hx];refine et ?_;rw[e2]at ch6;have g6:=g5.second j1 j0 s6 ch6
      replace sk:=sk.trans s6.wall
      try dsimp only[yy]
      refine⟨_,rfl,_,rfl,_,rfl,wM,_,rfl,.inl (SqL.of g6.md.2),1,j,o1,o2,c6,st2,N+3 * k+3,(by rw[HR];rfl),by decide,j0,g6.one,g6.two,I',by omega,λH7 s7=>⟨_,rfl,et ?_⟩⟩
      exact⟨_,c6,dk++[d],st2,rfl,sk.trans (Step.same ny s7),g6.same s7,aes,by rw[eN];exact I',tx'⟩
     ·rw[R.row_read hd.2.1 hd.2.2]at he;cases he
  ·rintro σ Hk ⟨v5,ck,dk,st,rfl,sk,g,rep,I,tx⟩;rw[bo,<-etl]at I;exact q ck Hk dk st sk g rep I tx
def OP (K:ba):Sp:=λvs H Q _=>∃(a:Addr) (ns:List Int),vs=[.ref a]/\SqL K H a (ns.map V.int)/\ns.length<=63/\∀H',Q (.bl true) H'
theorem Vu (xs:List V):(kF xs (some 1) (some 61)).length<=60:=by
 unfold kF;rw[show (1:Int)=((1:Nat):Int) from rfl,show (61:Int)=((61:Nat):Int) from rfl,HT.yC,HT.yC,anC,an6]
 omega
theorem ZL (n:Int):TxI (xt n):=⟨(λ_ h=>nomatch h),(λ_ h=>nomatch h),(λ_ h=>nomatch h)⟩
theorem aet (cl:Bool)(ms:List Mn):∀z∈oS cl ms 8,am8 z=true:=λz hz=>by
 unfold oS at hz;obtain⟨k,hk,rfl⟩:=List.mem_map.mp hz;have:=List.mem_range.mp (List.mem_filter.mp hk).1;exact y7 k this
abbrev cNo:Col:=λ_=>none
set_option maxHeartbeats 20000000 in
theorem ZM {f:Addr}{fd:kg}(F:Fun K "law" "law" xl f fd)(T:Txt w.params K mg A):aT P w K mg base CX0 20 f fd ["_law_script"] (OP K):=by
 have Gm:aT P w K mg base CX0 11 A.CW A.sU ["_law_one","_law_other","_law_rows","_law_made","_law_deeds"] (λvs H Q E=>∃k:Nat,Gk A (k+2) vs H Q E):=zm λk=>MQ T (by omega) (by omega)
 have fv:aT P w K mg base CX0 1 A.bD A.dE ["self"] (λvs H Q E=>∃i,wV A i vs H Q E):=zm λi=>xZ T
 refine F.ok sJ (λvs H Q E h=>?_) (λcdv A' outer s H vs Q E hr h=>?_)
 ·obtain⟨a,ns,rfl,_⟩:=h;rfl
 ·obtain⟨a,ns,rfl,hS,hlen,q⟩:=h;have pE:=hr.units;refine⟨_,(ak (bh (i:=1) sJ.nd rfl (anq rfl) (bb (HM T) (hr.mono (by decide)) rfl T.Bu T.vh.kp T.Bt .nil aW (aa (pv 0) (aa ai ag))))
 (ak (bh (i:=2) sJ.nd rfl (Or.inr rfl) (bY fJ ai (bY hG (bY yz (pv 1) ai) (aZ bz (dn (aa ai (aa (bY Ya ai ai) ag))) (bY hG (pv 1) ai) (λ_ _=>rfl)))))
 (ak (xA (i:=3) (scope:=FK) Rn rfl rfl (anq rfl) (jL (iX mX (pv 0) (jN ai) (jN ai))) (λ_ _ _ _ _=>(bb (PL T) (hr.mono (by decide)) rfl T.IQ T.DW.kp T.IP .nil aW (aa (bb (Jw T) (hr.mono (by decide)) rfl T.DT T.xN.kp T.DS .nil aW (aa (pv 0) (aa ai ag))) (aa (pv 3) ag)))))
 (ak (bh (i:=4) sJ.nd rfl (anq rfl) (bY hG (bY yz (pv 1) ai) (bY fJ (bT cf (by rfl) T.l6 iR (aa (pv 3) ag)) ai)))
 (ak (bh (i:=5) sJ.nd rfl (anq rfl) (f9 T.wJ (Mx T) (hr.mono (by decide)) rfl T.wI T.fS .nil aW (aa (pv 2) ag)))
 (ak (bh (i:=6) sJ.nd rfl (anq rfl) (dn ag))
 (ak (bh (i:=7) sJ.nd rfl (anq rfl) (dn ag))
 (ak (bJ (jf (iP (bb Gm (hr.mono (by decide)) rfl T.AE T.wH.kp T.AD .nil aW (aa (pv 5) (aa (f9 T.wJ (Mx T) (hr.mono (by decide)) rfl T.wI T.fS .nil aW (aa (pv 2) ag)) (aa (pv 6) (aa (pv 7) (aa (iX mX (pv 3) mW (jN (pv 4))) ag))))))))
 (aj (aG iM))
 aI)
 (ak (bh (i:=8) sJ.nd rfl (anq rfl) (dQ cM (by rfl) T.kZ jb (aa (pv 6) ag)))
 (ak (bh (i:=9) sJ.nd rfl (anq rfl) (bb (PX (i:=3) T) (hr.mono (by decide)) rfl T.IK T.DR.kp T.IJ .nil aW (aa (pv 2) (aa (pv 8) ag))))
 (ak (bJ (PW.pt (pw_or (aJ (sF pE) (pv 8) (pv 6) (aK _)) (pw_or (aJ (sF pE) (dJ (pv 9) T.ah T.gY fv (hr.mono (by decide)) T.dW .nil aW) (pv 6) (aK _)) (pw_or1 (aJ (sF pE) (dJ (pv 9) T.ah T.jm (BD T) (hr.mono (by decide)) T.eO .nil aW) (dJ (pv 5) T.ah T.jm (BD T) (hr.mono (by decide)) T.eO .nil aW) (aK _))))))
 (aj (aG iM))
 aI)
 (ak (bJ (PW.pt (pw_or (jf (iP (bb (Gi T) (hr.mono (by decide)) rfl T.D0 T.yT.kp T.DZ .nil aW (aa (pv 5) (aa (pv 9) (aa (bT cf (by rfl) T.l6 iR (aa (pv 7) ag)) ag)))))) (pw_or1 (jf (iP (bb (qh T) (hr.mono (by decide)) rfl T.kY T.iK.kp T.kX .nil aW (aa (pv 5) (aa (pv 9) (aa (pv 7) ag)))))))))
 (aj (aG iM))
 aI)
 (aj (aG (sE (bb Gm (hr.mono (by decide)) rfl T.AE T.wH.kp T.AD .nil aW (aa (pv 5) (aa (pv 9) (aa (pv 6) (aa (pv 7) (aa (iX mX (pv 3) (jN (pv 4)) mW) ag)))))) (nK (bb (qh T) (hr.mono (by decide)) rfl T.kY T.iK.kp T.kX .nil aW (aa (pv 5) (aa (pv 9) (aa (pv 7) ag)))))))))))))))))))),?_⟩
  try dsimp only[bE]
  have sz:gr=16777216:=by decide
  refine⟨_,rfl,a,ns,0,rfl,hS,Int.le_refl _,λfi=>?_⟩
  refine⟨_,rfl,_,_,rfl,rfl,⟨by decide,by decide⟩,_,_,rfl,rfl,⟨by decide,by decide,by decide⟩,(by show 2<=gr;decide),λp hp=>?_⟩
  refine aS λGq gq=>?_
  obtain⟨qq,hq,q0,q1⟩:∃qq:Int,atI [V.int 9,V.int (10 ^ (9:Int).toNat)] (fi % 2)=some (.int qq)/\0 < qq/\qq<=1000000000:=by
   have h01:fi % 2=0\/fi % 2=1:=by omega
   rcases h01 with e | e
   ·exact⟨9,by rw[e];rfl,by decide,by decide⟩
   ·exact⟨10 ^ (9:Int).toNat,by rw[e];rfl,by trivial,by trivial⟩
  refine gq ?_;refine⟨_,rfl,_,_,rfl,rfl,(by show (0:Int) < 2;decide),p,_,_,_,rfl,rfl,SqL.of ae,hq,_,_,rfl,rfl,q0,_,_,rfl,rfl,?_⟩
  have y0:0<=fi / 2 % qq:=Int.emod_nonneg _ (by omega)
  have y1:fi / 2 % qq < qq:=Int.emod_lt_of_pos _ q0;have sp:a9 H (upd H p (.lst [V.int 9,V.int (10 ^ (9:Int).toNat)])):=aB hp;have hS1:=sp.seq hS;dsimp only[jr];generalize upd H p (.lst [V.int 9,V.int (10 ^ (9:Int).toNat)])=H1 at hS1 sp ⊢;obtain⟨cJ,es⟩:∃cJ:Int,1+fi / 2 % qq=cJ:=⟨_,rfl⟩;have t0:1<=cJ:=by omega
  have t1:cJ<=1000000000:=by omega
  rw[es];clear es y0 y1 hq q0 q1 hp sp;refine⟨_,rfl,_,rfl,_,rfl,a,_,rfl,hS1,λl hl=>⟨l,rfl,⟨_,SqL.of ae⟩,λL hL=>?_⟩⟩
  have hcl:=Vu (ns.map V.int);have isI:∀x∈kF (ns.map V.int) (some 1) (some 61),∃z,x=V.int z:=λx hx=>by
   obtain⟨z,_,e⟩:=List.mem_map.mp (Vj hx);exact⟨z,e.symm⟩
  have hB:SqL K (upd H1 l (.lst (kF (ns.map V.int) (some 1) (some 61)))) l (kF (ns.map V.int) (some 1) (some 61)):=SqL.of ae;generalize upd H1 l (.lst (kF (ns.map V.int) (some 1) (some 61)))=H2 at hB hL ⊢;generalize kF (ns.map V.int) (some 1) (some 61)=cs at hB hcl isI ⊢;have cR:∀(H':Hp),H' L≠none->∀b,H' b=none->aN cNo L (some (0,.ob)) b=none:=λH' h b hb=>by
   by_cases z:b=L
   ·rw[z]at hb;exact absurd hb h
   ·rw[aC z]
  refine kG (K:=K) (a:=l) (xs:=cs) (λk ys H3=>a9 H2 H3/\H3 L=some (.lst ys)/\∃(ds:List R.bG) (ts:List Addr),ys=ts.map V.ref/\ds.length=k/\(∀d∈ds,uo d)/\bI (eS (aN cNo L (some (0,.ob))) H3) ds ts)
   ⟨aB hL,ae,[],[],rfl,rfl,(λ_ h=>nomatch h),.nil⟩ (by omega) ?_ ?_ ?_
  ·rintro k ys H3 hk ⟨s3,hL3,ds,ts,rfl,hdl,hok,ha⟩;refine⟨s3.seq hB,hL3,?_⟩;rw[bo,<-ha.len];exact hdl
  ·rintro k y ys H3 hy ⟨s3,hL3,ds,ts,rfl,hdl,hok,ha⟩;refine aS λGq gq=>?_
   obtain⟨z,rfl⟩:=isI _ (anh hy);refine gq ?_;refine⟨_,rfl,z,3,rfl,by decide,by decide,λzs pz H5 zl hz s5 npz hpz=>?_⟩
   refine aS λGq gq=>?_
   obtain⟨z0,z1,z2,rfl⟩:∃z0 z1 z2,zs=[z0,z1,z2]:=by
    match zs,zl with
    |[z0,z1,z2],_=>exact⟨z0,z1,z2,rfl⟩
    |[],h=>exact absurd h (by decide)
    |[_],h=>exact absurd h (by simp)
    |[_,_],h=>exact absurd h (by simp)
    |_::_::_::_::_,h=>simp at h;omega
   have p0:=(hz z0 (by simp)).1
   have p1:=(hz z1 (by simp)).1
   have p2:=(hz z2 (by simp)).1
   refine gq ?_;refine⟨_,rfl,pz,z0,z1,z2,cJ,rfl,SqL.of hpz,⟨p0,p1,p2⟩,t0,t1,λd t H6 hd s6 hdn=>?_⟩
   have s56:=s5.trans s6;have zd:eS (aN cNo L (some (0,.ob))) H6 d t:=(hdn.pre s5).zc (cR H3 (by rw[hL3];exactλz=>nomatch z))
   have t6:Step (fm 0) (aN cNo L (some (0,.ob))) (aN cNo L (some (0,.ob))) H6 (upd H6 L (.lst (ts.map V.ref++[.ref t]))):=Step.upd aX ⟨.ob,bt⟩;have t5:Step (fm 0) (aN cNo L (some (0,.ob))) (aN cNo L (some (0,.ob))) H3 H6:=Step.same aX s56;refine cB.mk (List.getElem?_eq_some_iff.mp hy).1 (s56 _ _ hL3) ⟨(s3.trans s56).own hL,ae,ds++[d],ts++[t],?_,?_,?_,bI.snoc (ha.imp λ_ _ z=>(z.step t5).step t6) (zd.step t6)⟩
   ·rw[ky];rfl
   ·rw[ki,hdl];rfl
   ·intro e he;rcases List.mem_append.mp he with he | he
    ·exact hok e he
    ·rw[ra]at he;rw[he];exact hd
  ·rintro ys H3 ⟨s3,hL3,ds,ts,rfl,hdl,hok,ha0⟩;have ha:bI (eS cNo H3) ds ts:=ha0.imp λ_ _ z=>z.weak λ_ _=>rfl
   have etl:=ha.len;have d60:ds.length<=60:=by omega
   clear ha0 hB s3 hL cR isI hS1
   try dsimp only[jr]
   refine⟨_,rfl,_,_,rfl,rfl,⟨by decide,by decide⟩,_,rfl,L,_,rfl,.inl (SqL.of hL3),_,_,rfl,rfl,_,_,rfl,rfl,(by show (0:Int) < _+1;omega),?_⟩
   obtain⟨cut,ak6⟩:∃cut:Nat,fi / 18 % (((ts.map V.ref).length:Int)+1)=(cut:Int):=⟨(fi / 18 % (((ts.map V.ref).length:Int)+1)).toNat,by
    have:=Int.emod_nonneg (fi / 18) (show (((ts.map V.ref).length:Int)+1)≠0 by omega)
    omega⟩
   dsimp only[jr];rw[ak6];refine⟨_,rfl,λo1 d1 ho1 hd1 ne1=>⟨o1,d1,cJ,rfl,ae,λH4 h4=>⟨rfl,?_⟩⟩⟩
   refine aS λGq gq=>?_
   obtain⟨c1,k1,ch1⟩:=h4 1 cNo;have st1:Step (λ_=>False) cNo c1 H3 H4:=AV id ho1 hd1 k1
   clear k1 ho1 hd1 ne1 h4;refine gq ?_;refine⟨anz _,λwR hwR=>⟨anz _,λwM hwM=>?_⟩⟩
   have st2:Step (λ_=>False) c1 (aN c1 wR (some (0,.rows))) H4 (upd H4 wR (.lst [])):=Step.new id hwR
   have st3:Step (λ_=>False) (aN c1 wR (some (0,.rows))) (aN (aN c1 wR (some (0,.rows))) wM (some (0,.made))) (upd H4 wR (.lst [])) (upd (upd H4 wR (.lst [])) wM (.lst [])):=Step.new id hwM
   have Jm:=(st1.trans st2).trans st3;have ch3:=(ch1.free (λ_=>id) st2).free (λ_=>id) st3
   have nRM:wR≠wM:=aU ae hwM;have gR:aN (aN c1 wR (some (0,.rows))) wM (some (0,.made)) wR=some (0,.rows)/\(upd (upd H4 wR (.lst [])) wM (.lst [])) wR=some (.lst []):=⟨by rw[aC nRM,bt],(av nRM).trans ae⟩
   have gM:aN (aN c1 wR (some (0,.rows))) wM (some (0,.made)) wM=some (0,.made)/\(upd (upd H4 wR (.lst [])) wM (.lst [])) wM=some (.lst []):=⟨bt,ae⟩
   try dsimp only[jr]
   generalize aN (aN c1 wR (some (0,.rows))) wM (some (0,.made))=c3 at Jm ch3 gR gM;generalize upd (upd H4 wR (.lst [])) wM (.lst [])=H5 at Jm ch3 gR gM ⊢;clear st1 st2 st3 ch1 hwR hwM nRM;refine⟨_,rfl,_,rfl,λo2 d2 ho2 hd2 ne2=>⟨o2,d2,cJ,rfl,ae,λH6 h6=>⟨rfl,?_⟩⟩⟩
   refine aS λGq gq=>?_
   obtain⟨c4,k4,ch4⟩:=h6 2 c3;have st4:Step (λ_=>False) c3 c4 H5 H6:=AV id ho2 hd2 k4
   have Py:=Jm.trans st4;have kL:=vJ Py rfl hL3;refine gq ?_;refine⟨_,rfl,_,rfl,_,rfl,_,rfl,_,rfl,L,_,rfl,SqL.of kL.2,λl1 hl1=>?_⟩
   rw[MG,<-List.map_take];have st5:Step (λ_=>False) c4 (aN c4 l1 none) H6 (upd H6 l1 (.lst ((ts.take cut).map V.ref))):=Step.new id hl1
   have g5:G31 A 2 o1 o2 wR wM (aN c4 l1 none) (upd H6 l1 (.lst ((ts.take cut).map V.ref))) (xt cJ) (xt cJ) (xt cJ).rows (kdL (xt cJ)) :=
    ⟨(ch3.free (λ_=>id) st4).free (λ_=>id) st5,ch4.free (λ_=>id) st5,qi st5 id (qi st4 id gR),qi st5 id (qi st4 id gM)⟩
   have BU:=Py.trans st5;have l1':aN c4 l1 none l1=none/\(upd H6 l1 (.lst ((ts.take cut).map V.ref))) l1=some (.lst ((ts.take cut).map V.ref)):=⟨bt,ae⟩;generalize aN c4 l1 none=c5 at BU g5 l1';generalize upd H6 l1 (.lst ((ts.take cut).map V.ref))=H7 at BU g5 l1' ⊢;clear Py Jm st4 st5 ch3 ch4 gR gM k4 ho2 hd2 ne2 h6 kL hl1;have a5:bI (eS c5 H7) ds ts:=ha.imp λ_ _ z=>z.step BU
   have a5t:bI (eS c5 H7) (ds.take cut) (ts.take cut):=a5.WH cut;have kl5:=vJ BU rfl hL3;have etk:(ds.take cut).length<=ds.length:=by rw[anC];omega
   refine⟨0,o1,o2,wR,wM,l1,c5,cJ,[],xt cJ,0,ds.take cut,ts.take cut,rfl,g5,Rep.nil cJ,Gj cJ,ZL cJ,by omega,l1'.1,l1'.2,a5t,λe he=>hok e (aon he),λc6 H8 dk sk s6 g6 Vv I6 tx6=>⟨_,rfl,et ?_⟩⟩
   have kl6:=vJ s6 kl5.1 kl5.2;have a6:bI (eS c6 H8) ds ts:=a5.imp λ_ _ z=>z.step s6
   clear a5 a5t kl5 g5 l1' BU s6
   try dsimp only[yy]
   refine⟨_,rfl,wR,_,rfl,.inl (SqL.of g6.rw.2),λlh hlh=>?_⟩
   have st7:Step (λ_=>False) c6 (aN c6 lh none) H8 (upd H8 lh (.lst (sk.rows.map V.str))):=Step.new id hlh
   have g7:=g6.free (λ_=>id) (λ_=>id) (λ_=>id) st7
   have kl7:=vJ st7 kl6.1 kl6.2;have a7:bI (eS (aN c6 lh none) (upd H8 lh (.lst (sk.rows.map V.str)))) ds ts:=a6.imp λ_ _ z=>z.step st7
   have h7:aN c6 lh none lh=none/\(upd H8 lh (.lst (sk.rows.map V.str))) lh=some (.lst (sk.rows.map V.str)):=⟨bt,ae⟩
   try dsimp only[jr]
   generalize aN c6 lh none=c7 at g7 kl7 a7 h7;generalize upd H8 lh (.lst (sk.rows.map V.str))=H9 at g7 kl7 a7 h7 ⊢;clear st7 g6 kl6 a6 hlh;have lr:=I6.lr;have edk:dk.length=sk.rows.length:=by rw[Vv.rows,bo]
   refine⟨_,rfl,_,rfl,cJ,lh,c7,dk,sk,rfl,h7.1,h7.2,Vv,by omega,λo3 c8 H10 s8 ch8=>?_⟩
   have g8:G31 A 3 o1 o3 wR wM c8 H10 sk sk sk.rows (kdL sk):=⟨g7.one.other (by decide) s8,ch8,qi s8 (iw (by decide) _) g7.rw,qi s8 (iw (by decide) _) g7.md⟩
   have kl8:=vJ s8 kl7.1 kl7.2;have h8:=vJ s8 h7.1 h7.2;have a8:bI (eS c8 H10) ds ts:=a7.imp λ_ _ z=>z.step s8
   clear g7 kl7 a7 h7 s8 ch8
   try dsimp only[jr]
   have ly:=oR Vv.SM;have dp:(aoM (sk.rows.map anG)).depth<=64:=si (j6 _) (by decide)
   refine⟨_,rfl,_,rfl,_,_,e9 (SqL.of h8.2),e9 (SqL.of g8.rw.2),b7 ly dp,b7 ly dp,_,rfl,uM (eqv_refl _ ly) ?_⟩;refine aS λGq gq=>?_
   obtain⟨dx3,aM3,aP3,aA3,aD3,aF3,aE3,aR3,ms3,ds3,ws3,fs3,es3,X3⟩:=g8.two.ex;obtain⟨dx1,aM1,aP1,aA1,aD1,aF1,aE1,aR1,ms1,ds1,ws1,fs1,es1,X1⟩:=g8.one.ex;refine gq ?_;refine mtv rfl X3.ob (bX (by trivial)) ⟨3,o3,c8,sk,rfl,g8.two,λlm hlm=>?_⟩
   have s9:a9 H10 (upd H10 lm (.lst (sk.rows.map V.str))):=aB hlm;refine⟨_,rfl,_,_,e9 (SqL.of ae),e9 (SqL.of (s9 _ _ g8.rw.2)),b7 ly dp,b7 ly dp,_,rfl,uM (eqv_refl _ ly) ?_⟩;refine mtv rfl (s9 _ _ X3.ob) (bX (by trivial)) ⟨3,o3,c8,sk,_,rfl,(X3.same s9).at,I6,λR1 H11 hR1 s10 h10=>?_⟩
   have Vw:=s9.trans s10;refine mtv rfl (Vw _ _ X1.ob) (bX (by trivial)) ⟨1,o1,c8,sk,_,rfl,(X1.same Vw).at,I6,λR2 H12 hR2 s11 h11=>?_⟩
   have io:=aet sk.closed (sk.aH.map sk.mo);have iol:=oR io;have iod:(aoM ((oS sk.closed (sk.aH.map sk.mo) 8).map anG)).depth<=64:=si (j6 _) (by decide)
   refine⟨_,_,e9 (SqL.of (s11 _ _ h10)),e9 (SqL.of h11),b7 iol iod,b7 iol iod,_,rfl,uM (eqv_refl _ iol) ?_⟩
   try dsimp only[yy]
   have s12:=Vw.trans s11;have g12:=g8.same s12;have ak7:c8 L=none/\H12 L=some (.lst (ts.map V.ref)):=⟨kl8.1,s12 _ _ kl8.2⟩;have a12:bI (eS c8 H12) ds ts:=a8.imp λ_ _ z=>z.step (Step.same (W:=λ_=>False) id s12)
   clear g8 kl8 h8 a8 X1 X3 s12 Vw s11 s10 s9 h10 h11 hR1 hR2 hlm io iol iod;refine⟨_,rfl,_,rfl,_,rfl,wM,_,rfl,.inl (SqL.of g12.md.2),1,3,o1,o3,c8,sk,_,(by rw[HR];rfl),by decide,by decide,g12.one,g12.two,I6,by omega,λH13 s13=>⟨_,rfl,et ?_⟩⟩
   have g13:=g12.same s13;refine⟨_,rfl,_,rfl,_,rfl,1,3,o1,o3,wM,c8,sk,_,rfl,g13.one,g13.two,SqL.of g13.md.2,I6,by omega,tx6,λH14 s14=>⟨_,rfl,et ?_⟩⟩
   try dsimp only[yy]
   have Vx:=s13.trans s14;have g14:=g12.same Vx;have ak8:=Vx _ _ ak7.2;refine⟨_,rfl,_,rfl,_,rfl,_,rfl,_,rfl,_,rfl,_,rfl,L,_,rfl,SqL.of ak8,λl4 hl4=>?_⟩
   rw[uN,<-List.map_drop];have s15:=Vx.new (o:=.lst ((ts.drop cut).map V.ref)) hl4;have BU:Step (λ_=>False) c8 (aN c8 l4 none) H12 (upd H14 l4 (.lst ((ts.drop cut).map V.ref))):=(Step.same id Vx).trans (Step.new id hl4)
   have g15:=g12.free (λ_=>id) (λ_=>id) (λ_=>id) BU
   have a15:bI (eS (aN c8 l4 none) (upd H14 l4 (.lst ((ts.drop cut).map V.ref)))) (ds.drop cut) (ts.drop cut):=(a12.imp λ_ _ z=>z.step BU).WI cut
   have etd:(ds.take cut).length+(ds.drop cut).length=ds.length:=by rw[anC,an6];omega
   refine⟨1,o1,o3,wR,wM,l4,aN c8 l4 none,cJ,dk,sk,_,ds.drop cut,ts.drop cut,rfl,g15,Vv,I6,tx6,by omega,bt,ae,a15,λe he=>hok e (aoC he),λc16 H16 dz sz s16 g16 amZ I16 ak9=>⟨_,rfl,iQ ?_⟩⟩
   refine⟨_,rfl,_,rfl,_,rfl,1,3,o1,o3,wM,c16,sz,_,rfl,g16.one,g16.two,SqL.of g16.md.2,I16,by omega,ak9,λH17 s17=>q H17⟩
end
set_option maxHeartbeats 0 in
theorem all_mk {l:PySem.W.OpenLaw}{w:World}{K:ba}{h:Heap}{mg:Str->Option Value}{P:Params}{fa f_1 f_2 f_3 f_4 f_5 f_6 f_7 f_8 f_9 Vy Vz VA VB VC VD VE VF VG VH VI VJ VL VM VN VO VP VQ VR VS VT VU VV VW VX VY VZ V0 V1 V2 V3 V4 V5 ZN u0 c0 c1 c2 c3 c4 c5 c6 c7 cm tb JG JH JI JJ JK JL JM JN BX EC JO MR JP JQ JR JS JT JU JV JW JX JY aY cO cP cQ cS cT bS cc bW bq bC bD bZ bK bc bj br cu bA bM bu bw bN aQ zA oU oV oW jq rN rO rP oX oY tP oZ j8 o8 rQ:Addr}(X:K.In h)(G:h.Ns ka mg)(hfa:mg "law"=some (.ref fa))(hP:w.params=P)
  {ala alb alc ald ale alf alg alh ali alj alk alm aln alo alp alq alr als aeu aev aew aex aey aez aeA aeB aeC aeD aeE aeF aeG aeH aeI aeJ aeK aeL aeM aeN aeO aeP aeQ aeR aeS aeT aeU aeV aeW aeX aeY aeZ ae0 ae1 ae2 ae3 ae4 ae5 ae6 ae7 ae8 ae9 afa afb afc afd afe aff afg afh afi afj afk afl afm afn afo afp afq afr afs aft afu afv afw afx afy WJ ZO ZP ZQ ZR ZS ZT ZU ZV ZW ZX ZY ZZ Z0 Z1 Z2 Z3 afz afA afB afC Z4 Z5 afD afE Z6 Z7 Z8 Z9 aaa aab aac aad aae aaf aag aah aai aaj aak aal aam aan aao aap BY BZ B0 B1 B2 B3 B4 B5 B6 B7 w5 w6 AZ A0 zB zC rR rS uq ur ya yb yc yd uu uv lC lD o9 pb pF pG zD zE rT rV vO vP qz qA qB qC vQ vR JZ J0 Fe Ff J1 J2 MS MT:Option Addr} {alu alv alw alx aly alz alA alB alC afF afG afH afI afJ afK afL afM afN afO afP afQ afR afS afT afU afV afW afX afY afZ af0 af1 af2 af3 af4 af5 af6 af7 af8 af9 aga agb agc aaq aar aas aat aau aav aaw aax agd age aay agf aaz aaA aaB aaC aaD aaE aaF aaG aaH aaI B8 B9 Ca Cb Cc w8 A1 zF rW uw ye yf ux lE pd pH zG rX vS qD qE vT J3 Fg J4 MU:Array (Option Value)} {alD alE alF alG agg alH alI alJ alK alL agh alM alN alO alP alQ agi alR alS alT alU alV agj alW alX alY alZ al0 agk al1 al2 al3 al4 al5 agl al6 al7 al8 al9 ama agm amb amc amd ame amf agn amg amh ami amj amk ago aml agp agq agr ags WK agt agu agv agw agx WL agy agz agA agB agC WM agD agE agF agG agH WN agI agJ agK agL agM WO agN agO agP agQ agR WQ agS agT agU agV agW WR agX agY agZ ag0 ag1 WS ag2 ag3 ag4 ag5 ag6 WT ag7 ag8 ag9 aha ahb WU ahc ahd ahe ahf ahg WV ahh ahi ahj ahk ahl WW ahm ahn aho ahp ahq WX ahr ahs aht ahu ahv WY ahw ahx ahy ahz ahA WZ ahB ahC ahD ahE ahF W0 ahG ahH ahI ahJ ahK W2 ahL ahM ahN ahO ahP W3 ahQ ahR ahS ahT ahU W4 ahV ahW ahX ahY ahZ W5 ah0 ah1 ah2 ah3 ah4 W6 ah5 ah6 ah7 ah8 ah9 W7 aia aib aic aid aie W8 aif aih aii aij aik W9 ail aim ain aio aip Xa aiq air ais ait aiu Xb aiv aiw aix aiy aiz Xd aiA aiB aiC aiD aiE Xe aiF aiG aiH aiI aiJ Xf aiK aiL aiM aiN aiO Xg aiP aiQ aiR aiS aiT Xh aiU aiV aiW aiX aiY Xi aiZ ai0 ai1 ai2 ai3 Xj ai4 ai5 Xk Xl Xm SX Xn aaJ aaK aaL aaM SY aaN aaO aaP aaQ aaR S0 aaS aaT aaU aaV aaW S1 aaX aaY aaZ aa0 aa1 S2 aa2 aa3 aa4 aa5 aa6 S3 aa7 aa8 aa9 aba abb S4 abc abd abe abf abg S5 abh abi abj abk abl S6 abm ai6 ai7 ai8 ai9 Xo aja ajb ajc ajd aje Xp ajf abn abo abp abq S7 abr ajg ajh aji ajj Xq ajk abt abu abv abw S8 abx aby abz abA abB S9 abC abD abE abF abG Ta abH abI abJ abK abL Tb abM abN abO abP abQ Tc abR abS abT abU abV Td abW abX abY abZ ab0 Te ab1 ab2 ab3 ab4 ab5 Tf ab6 ab7 ab8 ab9 aca Tg acb acd ace acf acg Th ach Cd Ce Cg Ci uc Cj Ck Cn Co Cp ud Cq Cr Cs Ct Cu ue Cv Cw Cy Cz CA uf CB CC CD CF CG ug CH w9 xa xb xc mV xf A2 A3 A4 A5 rY A6 zH zI zJ zK qj zL rZ r6 r8 r9 jJ sf uy uz uA uB kA uC yg yh yi yj pe yk yl ym yn yo pf yp uD uE uF uG kB uH lF lG lH lI fZ lJ ph pj pq pw iz pA pI pJ pK pL iO pM zM zN zO zP qk zQ sv sx sy sA jK sC vU vV vW vX mw vY qF qG qH qI i9 qJ qK qL qM qN ja qO vZ wb wc we mx wg J5 J6 J7 J8 BE J9 Fh Fi Fj Fl xw Fm Ka Kb Kc Kd BF Ke MV MW MX MY ED MZ:Value} {sV jc lO jd sW V6 V7 V8 V9 lP tq0 tq1 tq2 tq3 tq4 tq5 tq6 tq7 tr0 tr1 tr2 tr3 tr4 tr5 tr6 tr7:Tok} {aci:Option Addr} {acj:Nat} {ack:Array (Option Value)} {est:Array an7} {nt:Nat} {HS:Addr} {Ti:Value} {Tj:Option Addr} {Kf:Array an7} {Tn:Nat} {To:Array (Option Value)} {pB:Addr} {CI:Value} {CJ:Option Addr} {uh:Array an7} {CK:Nat} {CL:Array (Option Value)} {yq:Addr} {Kg:Value} {Kh:Option Addr} {BG:Array an7} {Ki:Nat} {Kj:Array (Option Value)} {yr:Addr} {Kk:Value} {Kl:Option Addr} {BH:Array an7} {Km:Nat} {Kn:Array (Option Value)} {A7:Addr} {M0:Value} {M3:Option Addr} {EE:Array an7} {M4:Nat} {M5:Array (Option Value)} {A8:Addr} {M6:Value} {M7:Option Addr} {EF:Array an7} {M8:Nat} {M9:Array (Option Value)} {A9:Addr} {Na:Value} {Nb:Option Addr} {EG:Array an7} {Nc:Nat} {Nd:Array (Option Value)} {yt:Addr} {Ko:Value} {Kp:Option Addr} {BI:Array an7} {Kq:Nat} {Kr:Array (Option Value)} {EH:Addr} {PY:Value} {PZ:Option Addr} {Gn:Array an7} {P0:Nat} {P1:Array (Option Value)} {yu:Addr} {Ks:Value} {Kt:Option Addr} {BJ:Array an7} {Ku:Nat} {Kv:Array (Option Value)} {EI:Addr} {P2:Value} {P4:Option Addr} {Gp:Array an7} {P5:Nat} {P6:Array (Option Value)} {HU:Addr} {Tp:Value} {Tq:Option Addr} {Kw:Array an7} {Tr:Nat} {Ts:Array (Option Value)} {Tt Wa:Str} {Tu:List Value} {Tv:List Str} {Tw:List Value} {Tx:Bool} {Tz:Option Bool} {TB:Option Addr} {TC TF TH TK TL:Option Value} {TM:Bool} {Kx Nf:Str} {Ky:List Value} {Kz:List Str} {KA:List Value} {KC:Bool} {KD:Option Bool} {KG:Option Addr} {KH KI KJ KL KN:Option Value} {KO:Bool} {KP Ng:Str} {KQ:List Value} {KR:List Str} {KS:List Value} {KU:Bool} {KW:Option Bool} {KY:Option Addr} {KZ K0 K1 K2 K4:Option Value} {K5:Bool} {Nh P7:Str} {Ni:List Value} {Nj:List Str} {Nk:List Value} {Nl:Bool} {Nm:Option Bool} {Nn:Option Addr} {Np Nq Nr Nt Nu:Option Value} {Nv:Bool} {Nw P8:Str} {Nx:List Value} {Ny:List Str} {Nz:List Value} {NA:Bool} {NB:Option Bool} {NC:Option Addr} {ND NF NG NH NI:Option Value} {NJ:Bool} {NK P9:Str} {NL:List Value} {NM:List Str} {NN:List Value} {NO:Bool} {NP:Option Bool} {NQ:Option Addr} {NR NS NT NU NV:Option Value} {NW:Bool} {K6 NX:Str} {K7:List Value} {K8:List Str} {K9:List Value} {La:Bool} {Lb:Option Bool} {Lc:Option Addr} {Ld Le Lf Lg Lh:Option Value} {Li:Bool} {Qa TN:Str} {Qb:List Value} {Qc:List Str} {Qd:List Value} {Qe:Bool} {Qf:Option Bool} {Qg:Option Addr} {Qh Qi Qj Qk Ql:Option Value}  {Lj NY:Str} {Ll:List Value} {Lm:List Str} {Ln:List Value} {Lo:Bool} {Lp:Option Bool} {Lq:Option Addr} {Lr Ls Lu Lv Lw:Option Value}  {Qm TQ:Str} {Qn:List Value} {Qo:List Str} {Qp:List Value} {Qq:Bool} {Qr:Option Bool} {Qs:Option Addr} {Qt Qu Qv Qw Qx:Option Value}  {TR Wb:Str} {TU:List Value} {TV:List Str} {TX:List Value} {TY:Bool} {TZ:Option Bool} {T2:Option Addr} {T3 T4 T5 T6 T7:Option Value}  {EJ:Value} {CM:Option Addr} {ui:ClassData} {CN:Array (Option Value)}
  (a_1:de K ka "fits"=some (some (.ref f_1)))
  (l_1:K.lookup f_1=some ⟨alD,ala,.func (fu "fits" "fits" (az Ad) (aw Ad) (af Ad) .none alE alF alG alb agg alH),alu⟩)
  (cc_1:eg K agg "fits"=true)
  (kp_1:da K (.ref f_1)=true)
  (a_2:de K ka "require_fit"=some (some (.ref f_2)))
  (l_2:K.lookup f_2=some ⟨alI,alc,.func (fu "require_fit" "require_fit" (az gK) (aw gK) (af gK) .none alJ alK alL ald agh alM),alv⟩)
  (cc_2:eg K agh "require_fit"=true)
  (kp_2:da K (.ref f_2)=true)
  (a_3:de K ka "laid"=some (some (.ref f_3)))
  (l_3:K.lookup f_3=some ⟨alN,ale,.func (fu "laid" "laid" (az Ae) (aw Ae) (af Ae) .none alO alP alQ alf agi alR),alw⟩)
  (cc_3:eg K agi "laid"=true)
  (kp_3:da K (.ref f_3)=true)
  (a_4:de K ka "words_of"=some (some (.ref f_4)))
  (l_4:K.lookup f_4=some ⟨alS,alg,.func (fu "words_of" "words_of" (az kJ) (aw kJ) (af kJ) .none alT alU alV alh agj alW),alx⟩)
  (cc_4:eg K agj "words_of"=true)
  (kp_4:da K (.ref f_4)=true)
  (a_5:de K ka "clause_of"=some (some (.ref f_5)))
  (l_5:K.lookup f_5=some ⟨alX,ali,.func (fu "clause_of" "clause_of" (az jy) (aw jy) (af jy) .none alY alZ al0 alj agk al1),aly⟩)
  (cc_5:eg K agk "clause_of"=true)
  (kp_5:da K (.ref f_5)=true)
  (a_6:de K ka "motion_of"=some (some (.ref f_6)))
  (l_6:K.lookup f_6=some ⟨al2,alk,.func (fu "motion_of" "motion_of" (az jz) (aw jz) (af jz) .none al3 al4 al5 alm agl al6),alz⟩)
  (cc_6:eg K agl "motion_of"=true)
  (kp_6:da K (.ref f_6)=true)
  (a_7:de K ka "bar_of"=some (some (.ref f_7)))
  (l_7:K.lookup f_7=some ⟨al7,aln,.func (fu "bar_of" "bar_of" (az qX) (aw qX) (af qX) .none al8 al9 ama alo agm amb),alA⟩)
  (cc_7:eg K agm "bar_of"=true)
  (kp_7:da K (.ref f_7)=true)
  (a_8:de K ka "has_matter"=some (some (.ref f_8)))
  (l_8:K.lookup f_8=some ⟨amc,alp,.func (fu "has_matter" "has_matter" (az gb) (aw gb) (af gb) .none amd ame amf alq agn amg),alB⟩)
  (cc_8:eg K agn "has_matter"=true)
  (kp_8:da K (.ref f_8)=true)
  (a_9:de K ka "can_be_mended"=some (some (.ref f_9)))
  (l_9:K.lookup f_9=some ⟨amh,alr,.func (fu "can_be_mended" "can_be_mended" (az eW) (aw eW) (af eW) .none ami amj amk als ago aml),alC⟩)
  (cc_9:eg K ago "can_be_mended"=true)
  (kp_9:da K (.ref f_9)=true)
  (a_10:de K ka "has_what_it_needs"=some (some (.ref Vy)))
  (l_10:K.lookup Vy=some ⟨agp,aeu,.func (fu "has_what_it_needs" "has_what_it_needs" (az c9) (aw c9) (af c9) .none agq agr ags aev WK agt),afF⟩)
  (jq5o:eg K WK "has_what_it_needs"=true)
  (jq5p:da K (.ref Vy)=true)
  (a_11:de K ka "kinds_in_order"=some (some (.ref Vz)))
  (l_11:K.lookup Vz=some ⟨agu,aew,.func (fu "kinds_in_order" "kinds_in_order" (az dC) (aw dC) (af dC) .none agv agw agx aex WL agy),afG⟩)
  (jq5q:eg K WL "kinds_in_order"=true)
  (jq5r:da K (.ref Vz)=true)
  (a_12:de K ka "require_in_order"=some (some (.ref VA)))
  (l_12:K.lookup VA=some ⟨agz,aey,.func (fu "require_in_order" "require_in_order" (az dD) (aw dD) (af dD) .none agA agB agC aez WM agD),afH⟩)
  (jq5s:eg K WM "require_in_order"=true)
  (jq5t:da K (.ref VA)=true)
  (a_13:de K ka "require"=some (some (.ref VB)))
  (l_13:K.lookup VB=some ⟨agE,aeA,.func (fu "require" "require" (az nA) (aw nA) (af nA) .none agF agG agH aeB WN agI),afI⟩)
  (jq5u:eg K WN "require"=true)
  (jq5v:da K (.ref VB)=true)
  (a_14:de K ka "is_sign"=some (some (.ref VC)))
  (l_14:K.lookup VC=some ⟨agJ,aeC,.func (fu "is_sign" "is_sign" (az nB) (aw nB) (af nB) .none agK agL agM aeD WO agN),afJ⟩)
  (jq5w:eg K WO "is_sign"=true)
  (jq5x:da K (.ref VC)=true)
  (a_15:de K ka "is_word"=some (some (.ref VD)))
  (l_15:K.lookup VD=some ⟨agO,aeE,.func (fu "is_word" "is_word" (az kK) (aw kK) (af kK) .none agP agQ agR aeF WQ agS),afK⟩)
  (jq5y:eg K WQ "is_word"=true)
  (jq5z:da K (.ref VD)=true)
  (a_16:de K ka "is_number"=some (some (.ref VE)))
  (l_16:K.lookup VE=some ⟨agT,aeG,.func (fu "is_number" "is_number" (az hV) (aw hV) (af hV) .none agU agV agW aeH WR agX),afL⟩)
  (jq5A:eg K WR "is_number"=true)
  (jq5B:da K (.ref VE)=true)
  (a_17:de K ka "read_number"=some (some (.ref VF)))
  (l_17:K.lookup VF=some ⟨agY,aeI,.func (fu "read_number" "read_number" (az gL) (aw gL) (af gL) .none agZ ag0 ag1 aeJ WS ag2),afM⟩)
  (jq5C:eg K WS "read_number"=true)
  (jq5D:da K (.ref VF)=true)
  (a_18:de K ka "read_clause"=some (some (.ref VG)))
  (l_18:K.lookup VG=some ⟨ag3,aeK,.func (fu "read_clause" "read_clause" (az fA) (aw fA) (af fA) .none ag4 ag5 ag6 aeL WT ag7),afN⟩)
  (jq5E:eg K WT "read_clause"=true)
  (jq5F:da K (.ref VG)=true)
  (a_19:de K ka "read_text"=some (some (.ref VH)))
  (l_19:K.lookup VH=some ⟨ag8,aeM,.func (fu "read_text" "read_text" (az hX) (aw hX) (af hX) .none ag9 aha ahb aeN WU ahc),afO⟩)
  (jq5G:eg K WU "read_text"=true)
  (jq5H:da K (.ref VH)=true)
  (a_20:de K ka "read_edit"=some (some (.ref VI)))
  (l_20:K.lookup VI=some ⟨ahd,aeO,.func (fu "read_edit" "read_edit" (az jA) (aw jA) (af jA) .none ahe ahf ahg aeP WV ahh),afP⟩)
  (jq5I:eg K WV "read_edit"=true)
  (jq5J:da K (.ref VI)=true)
  (a_21:de K ka "read_mend"=some (some (.ref VJ)))
  (l_21:K.lookup VJ=some ⟨ahi,aeQ,.func (fu "read_mend" "read_mend" (az jB) (aw jB) (af jB) .none ahj ahk ahl aeR WW ahm),afQ⟩)
  (jq5K:eg K WW "read_mend"=true)
  (jq5L:da K (.ref VJ)=true)
  (a_22:de K ka "read_sitting"=some (some (.ref VL)))
  (l_22:K.lookup VL=some ⟨ahn,aeS,.func (fu "read_sitting" "read_sitting" (az fQ) (aw fQ) (af fQ) .none aho ahp ahq aeT WX ahr),afR⟩)
  (jq5M:eg K WX "read_sitting"=true)
  (jq5N:da K (.ref VL)=true)
  (a_23:de K ka "read_deed"=some (some (.ref VM)))
  (l_23:K.lookup VM=some ⟨ahs,aeU,.func (fu "read_deed" "read_deed" (az jC) (aw jC) (af jC) .none aht ahu ahv aeV WY ahw),afS⟩)
  (jq5O:eg K WY "read_deed"=true)
  (jq5P:da K (.ref VM)=true)
  (a_24:de K ka "words_of_text"=some (some (.ref VN)))
  (l_24:K.lookup VN=some ⟨ahx,aeW,.func (fu "words_of_text" "words_of_text" (az eX) (aw eX) (af eX) .none ahy ahz ahA aeX WZ ahB),afT⟩)
  (jq5Q:eg K WZ "words_of_text"=true)
  (jq5R:da K (.ref VN)=true)
  (a_25:de K ka "words_of_edit"=some (some (.ref VO)))
  (l_25:K.lookup VO=some ⟨ahC,aeY,.func (fu "words_of_edit" "words_of_edit" (az eY) (aw eY) (af eY) .none ahD ahE ahF aeZ W0 ahG),afU⟩)
  (jq5S:eg K W0 "words_of_edit"=true)
  (jq5T:da K (.ref VO)=true)
  (a_26:de K ka "words_behind"=some (some (.ref VP)))
  (l_26:K.lookup VP=some ⟨ahH,ae0,.func (fu "words_behind" "words_behind" (az eK) (aw eK) (af eK) .none ahI ahJ ahK ae1 W2 ahL),afV⟩)
  (jq5U:eg K W2 "words_behind"=true)
  (jq5V:da K (.ref VP)=true)
  (a_27:de K ka "show_deed"=some (some (.ref VQ)))
  (l_27:K.lookup VQ=some ⟨ahM,ae2,.func (fu "show_deed" "show_deed" (az jD) (aw jD) (af jD) .none ahN ahO ahP ae3 W3 ahQ),afW⟩)
  (jq5W:eg K W3 "show_deed"=true)
  (jq5X:da K (.ref VQ)=true)
  (a_28:de K ka "is_kept"=some (some (.ref VR)))
  (l_28:K.lookup VR=some ⟨ahR,ae4,.func (fu "is_kept" "is_kept" (az nD) (aw nD) (af nD) .none ahS ahT ahU ae5 W4 ahV),afX⟩)
  (jq5Y:eg K W4 "is_kept"=true)
  (jq5Z:da K (.ref VR)=true)
  (a_29:de K ka "do_deed"=some (some (.ref VS)))
  (l_29:K.lookup VS=some ⟨ahW,ae6,.func (fu "do_deed" "do_deed" (az nF) (aw nF) (af nF) .none ahX ahY ahZ ae7 W5 ah0),afY⟩)
  (jq60:eg K W5 "do_deed"=true)
  (jq61:da K (.ref VS)=true)
  (a_30:de K ka "do_row"=some (some (.ref VT)))
  (l_30:K.lookup VT=some ⟨ah1,ae8,.func (fu "do_row" "do_row" (az q8) (aw q8) (af q8) .none ah2 ah3 ah4 ae9 W6 ah5),afZ⟩)
  (jq62:eg K W6 "do_row"=true)
  (jq63:da K (.ref VT)=true)
  (a_31:de K ka "replay"=some (some (.ref VU)))
  (l_31:K.lookup VU=some ⟨ah6,afa,.func (fu "replay" "replay" (az q9) (aw q9) (af q9) .none ah7 ah8 ah9 afb W7 aia),af0⟩)
  (jq64:eg K W7 "replay"=true)
  (jq65:da K (.ref VU)=true)
  (a_32:de K ka "_law_cell_at"=some (some (.ref VV)))
  (l_32:K.lookup VV=some ⟨aib,afc,.func (fu "_law_cell_at" "_law_cell_at" (az jE) (aw jE) (af jE) .none aic aid aie afd W8 aif),af1⟩)
  (jq66:eg K W8 "_law_cell_at"=true)
  (jq67:da K (.ref VV)=true)
  (a_33:de K ka "_law_stream"=some (some (.ref VW)))
  (l_33:K.lookup VW=some ⟨aih,afe,.func (fu "_law_stream" "_law_stream" (az kO) (aw kO) (af kO) .none aii aij aik aff W9 ail),af2⟩)
  (jq68:eg K W9 "_law_stream"=true)
  (jq69:da K (.ref VW)=true)
  (a_34:de K ka "_law_clause"=some (some (.ref VX)))
  (l_34:K.lookup VX=some ⟨aim,afg,.func (fu "_law_clause" "_law_clause" (az ji) (aw ji) (af ji) .none ain aio aip afh Xa aiq),af3⟩)
  (jq6a:eg K Xa "_law_clause"=true)
  (jq6b:da K (.ref VX)=true)
  (a_35:de K ka "_law_edit"=some (some (.ref VY)))
  (l_35:K.lookup VY=some ⟨air,afi,.func (fu "_law_edit" "_law_edit" (az rb) (aw rb) (af rb) .none ais ait aiu afj Xb aiv),af4⟩)
  (jq6c:eg K Xb "_law_edit"=true)
  (jq6d:da K (.ref VY)=true)
  (a_36:de K ka "_law_deed"=some (some (.ref VZ)))
  (l_36:K.lookup VZ=some ⟨aiw,afk,.func (fu "_law_deed" "_law_deed" (az nU) (aw nU) (af nU) .none aix aiy aiz afl Xd aiA),af5⟩)
  (jq6e:eg K Xd "_law_deed"=true)
  (jq6f:da K (.ref VZ)=true)
  (a_37:de K ka "_law_done"=some (some (.ref V0)))
  (l_37:K.lookup V0=some ⟨aiB,afm,.func (fu "_law_done" "_law_done" (az rh) (aw rh) (af rh) .none aiC aiD aiE afn Xe aiF),af6⟩)
  (jq6g:eg K Xe "_law_done"=true)
  (jq6h:da K (.ref V0)=true)
  (a_38:de K ka "_law_motions"=some (some (.ref V1)))
  (l_38:K.lookup V1=some ⟨aiG,afo,.func (fu "_law_motions" "_law_motions" (az hZ) (aw hZ) (af hZ) .none aiH aiI aiJ afp Xf aiK),af7⟩)
  (jq6i:eg K Xf "_law_motions"=true)
  (jq6j:da K (.ref V1)=true)
  (a_39:de K ka "_law_same"=some (some (.ref V2)))
  (l_39:K.lookup V2=some ⟨aiL,afq,.func (fu "_law_same" "_law_same" (az rj) (aw rj) (af rj) .none aiM aiN aiO afr Xg aiP),af8⟩)
  (jq6k:eg K Xg "_law_same"=true)
  (jq6l:da K (.ref V2)=true)
  (a_40:de K ka "_law_matters_same"=some (some (.ref V3)))
  (l_40:K.lookup V3=some ⟨aiQ,afs,.func (fu "_law_matters_same" "_law_matters_same" (az eD) (aw eD) (af eD) .none aiR aiS aiT aft Xh aiU),af9⟩)
  (jq6m:eg K Xh "_law_matters_same"=true)
  (jq6n:da K (.ref V3)=true)
  (a_41:de K ka "_law_noted"=some (some (.ref V4)))
  (l_41:K.lookup V4=some ⟨aiV,afu,.func (fu "_law_noted" "_law_noted" (az nG) (aw nG) (af nG) .none aiW aiX aiY afv Xi aiZ),aga⟩)
  (jq6o:eg K Xi "_law_noted"=true)
  (jq6p:da K (.ref V4)=true)
  (a_42:de K ka "_law_alike"=some (some (.ref V5)))
  (l_42:K.lookup V5=some ⟨ai0,afw,.func (fu "_law_alike" "_law_alike" (az nH) (aw nH) (af nH) .none ai1 ai2 ai3 afx Xj ai4),agb⟩)
  (jq6q:eg K Xj "_law_alike"=true)
  (jq6r:da K (.ref V5)=true)
  (a_43:de K ka "law"=some (some (.ref ZN)))
  (l_43:K.lookup ZN=some ⟨ai5,afy,.func (fu "law" "law" (az xl) (aw xl) (af xl) .none Xk Xl Xm WJ SX Xn),agc⟩)
  (jq6s:eg K SX "law"=true)
  (jq6t:da K (.ref ZN)=true)
  (z1:de K ka "range"=some none)
  (z2:de K ka "list"=some none)
  (z3:de K ka "str"=some none)
  (z4:de K ka "int"=some none)
  (z5:de K ka "isinstance"=some none)
  (z6:de K ka "max"=some none)
  (z7:de K ka "len"=some none)
  (z8:de K ka "all"=some none)
  (z9:de K ka "any"=some none)
  (z10:de K ka "ord"=some none)
  (z11:de K ka "sorted"=some none)
  (z12:de K ka "enumerate"=some none)
  (z13:de K ka "ValueError"=some none)
  (jq2R:de K ka "FIGURES"=some (some (.str (ar "0123456789") sV)))
  (jq1T:de K ka "MOST_FIGURES"=some (some (.int 10 jc)))
  (jq2i:de K ka "MOST_SIGNS"=some (some (.int 20 lO)))
  (jq1U:de K ka "LAST_SITTING"=some (some (.int 999999999 jd)))
  (jq2S:de K ka "PERCENT"=some (some (.int 37 sW)))
  (jq3P:de K ka "LONE"=some (some (.ref u0)))
  (jq3Q:K.lookup u0=some ⟨.type "tuple",aci,.seq #[.str (ar "close") V6,.str (ar "lay") V7,.str (ar "rest") V8,.str (ar "drop") V9] acj,ack⟩)
  (jq2j:de K ka "CLOSED_BAR"=some (some (.int 4 lP)))
  (ac0:de K ka "Matter"=some (some (.ref c0)))
  (ac1:de K ka "Change"=some (some (.ref c1)))
  (ac2:de K ka "Mend"=some (some (.ref c2)))
  (ac3:de K ka "PutOff"=some (some (.ref c3)))
  (ac4:de K ka "Close"=some (some (.ref c4)))
  (ac5:de K ka "Lay"=some (some (.ref c5)))
  (ac6:de K ka "Rest"=some (some (.ref c6)))
  (ac7:de K ka "Point"=some (some (.ref c7)))
  (acm:de K ka "Motion"=some (some (.ref cm)))
  (atb:de K ka "RANKS"=some (some (.ref tb)))
  (ltb:K.lookup tb=some ⟨.type "dict",none,.dict est nt,#[]⟩)
  (ktb:PySem.W.KeysLit P est.toList)
  (kas:est.toList.map DictEntry.key=[.str (ar "matter") tq0,.str (ar "change") tq1,.str (ar "mend") tq2,.str (ar "put off") tq3,.str (ar "close") tq4,.str (ar "lay") tq5,.str (ar "rest") tq6,.str (ar "point") tq7])
  (tlo:(tb == aoq)=false)
  (rk0:de K tb (ar "matter")=some (some (.int 0 tr0)))
  (rk1:de K tb (ar "change")=some (some (.int 1 tr1)))
  (rk2:de K tb (ar "mend")=some (some (.int 2 tr2)))
  (rk3:de K tb (ar "put off")=some (some (.int 3 tr3)))
  (rk4:de K tb (ar "close")=some (some (.int 4 tr4)))
  (rk5:de K tb (ar "lay")=some (some (.int 5 tr5)))
  (rk6:de K tb (ar "rest")=some (some (.int 6 tr6)))
  (rk7:de K tb (ar "point")=some (some (.int 7 tr7)))
  (pg0:anN K c0 anF=true)
  (hd0:anI K c0=true)
  (po0:anQ K c0=true)
  (sa0:cb K (.ref c0) "__setattr__"=some (some (.builtin "object.__setattr__")))
  (mk0:anV K c0=true)
  (kc0:da K (.ref c0)=true)
  (pg1:anN K c1 anF=true)
  (hd1:anI K c1=true)
  (po1:anQ K c1=true)
  (sa1:cb K (.ref c1) "__setattr__"=some (some (.builtin "object.__setattr__")))
  (mk1:anV K c1=true)
  (kc1:da K (.ref c1)=true)
  (pg2:anN K c2 anF=true)
  (hd2:anI K c2=true)
  (po2:anQ K c2=true)
  (sa2:cb K (.ref c2) "__setattr__"=some (some (.builtin "object.__setattr__")))
  (mk2:anV K c2=true)
  (kc2:da K (.ref c2)=true)
  (pg3:anN K c3 anF=true)
  (hd3:anI K c3=true)
  (po3:anQ K c3=true)
  (sa3:cb K (.ref c3) "__setattr__"=some (some (.builtin "object.__setattr__")))
  (mk3:anV K c3=true)
  (kc3:da K (.ref c3)=true)
  (pg4:anN K c4 anF=true)
  (hd4:anI K c4=true)
  (po4:anQ K c4=true)
  (sa4:cb K (.ref c4) "__setattr__"=some (some (.builtin "object.__setattr__")))
  (mk4:anV K c4=true)
  (kc4:da K (.ref c4)=true)
  (pg5:anN K c5 anF=true)
  (hd5:anI K c5=true)
  (po5:anQ K c5=true)
  (sa5:cb K (.ref c5) "__setattr__"=some (some (.builtin "object.__setattr__")))
  (mk5:anV K c5=true)
  (kc5:da K (.ref c5)=true)
  (pg6:anN K c6 anF=true)
  (hd6:anI K c6=true)
  (po6:anQ K c6=true)
  (sa6:cb K (.ref c6) "__setattr__"=some (some (.builtin "object.__setattr__")))
  (mk6:anV K c6=true)
  (kc6:da K (.ref c6)=true)
  (pg7:anN K c7 anF=true)
  (hd7:anI K c7=true)
  (po7:anQ K c7=true)
  (sa7:cb K (.ref c7) "__setattr__"=some (some (.builtin "object.__setattr__")))
  (mk7:anV K c7=true)
  (kc7:da K (.ref c7)=true)
  (jq3R:cb K (.ref c0) "kind"=some (some (.ref JG)))
  (jq6u:K.lookup JG=some ⟨aaJ,ZO,.func (fu "kind" "Matter.kind" (az gv) (aw gv) (af gv) .none aaK aaL aaM ZP SY aaN),aaq⟩)
  (jq4p:eg K SY "Matter.kind"=true)
  (jq3S:da K (.ref JG)=true)
  (jq4q:kx K (.ref JG)=true)
  (jq3T:cb K (.ref c1) "kind"=some (some (.ref JH)))
  (jq6v:K.lookup JH=some ⟨aaO,ZQ,.func (fu "kind" "Change.kind" (az gw) (aw gw) (af gw) .none aaP aaQ aaR ZR S0 aaS),aar⟩)
  (jq4r:eg K S0 "Change.kind"=true)
  (jq3U:da K (.ref JH)=true)
  (jq4s:kx K (.ref JH)=true)
  (jq3V:cb K (.ref c2) "kind"=some (some (.ref JI)))
  (jq6w:K.lookup JI=some ⟨aaT,ZS,.func (fu "kind" "Mend.kind" (az ju) (aw ju) (af ju) .none aaU aaV aaW ZT S1 aaX),aas⟩)
  (jq4t:eg K S1 "Mend.kind"=true)
  (jq3W:da K (.ref JI)=true)
  (jq4u:kx K (.ref JI)=true)
  (jq3X:cb K (.ref c3) "kind"=some (some (.ref JJ)))
  (jq6x:K.lookup JJ=some ⟨aaY,ZU,.func (fu "kind" "PutOff.kind" (az gx) (aw gx) (af gx) .none aaZ aa0 aa1 ZV S2 aa2),aat⟩)
  (jq4v:eg K S2 "PutOff.kind"=true)
  (jq3Y:da K (.ref JJ)=true)
  (jq4w:kx K (.ref JJ)=true)
  (jq3Z:cb K (.ref c4) "kind"=some (some (.ref JK)))
  (jq6y:K.lookup JK=some ⟨aa3,ZW,.func (fu "kind" "Close.kind" (az iB) (aw iB) (af iB) .none aa4 aa5 aa6 ZX S3 aa7),aau⟩)
  (jq4x:eg K S3 "Close.kind"=true)
  (jq40:da K (.ref JK)=true)
  (jq4y:kx K (.ref JK)=true)
  (jq41:cb K (.ref c5) "kind"=some (some (.ref JL)))
  (jq6z:K.lookup JL=some ⟨aa8,ZY,.func (fu "kind" "Lay.kind" (az kH) (aw kH) (af kH) .none aa9 aba abb ZZ S4 abc),aav⟩)
  (jq4z:eg K S4 "Lay.kind"=true)
  (jq42:da K (.ref JL)=true)
  (jq4A:kx K (.ref JL)=true)
  (jq43:cb K (.ref c6) "kind"=some (some (.ref JM)))
  (jq6A:K.lookup JM=some ⟨abd,Z0,.func (fu "kind" "Rest.kind" (az jv) (aw jv) (af jv) .none abe abf abg Z1 S5 abh),aaw⟩)
  (jq4B:eg K S5 "Rest.kind"=true)
  (jq44:da K (.ref JM)=true)
  (jq4C:kx K (.ref JM)=true)
  (jq45:cb K (.ref c7) "kind"=some (some (.ref JN)))
  (jq6B:K.lookup JN=some ⟨abi,Z2,.func (fu "kind" "Point.kind" (az iC) (aw iC) (af iC) .none abj abk abl Z3 S6 abm),aax⟩)
  (jq4D:eg K S6 "Point.kind"=true)
  (jq46:da K (.ref JN)=true)
  (jq4E:kx K (.ref JN)=true)
  (jq4F:cb K (.ref c0) "rank"=some (some (.ref BX)))
  (jq4G:cb K (.ref c1) "rank"=some (some (.ref BX)))
  (jq4H:cb K (.ref c2) "rank"=some (some (.ref BX)))
  (jq4I:cb K (.ref c3) "rank"=some (some (.ref BX)))
  (jq4J:cb K (.ref c4) "rank"=some (some (.ref BX)))
  (jq4K:cb K (.ref c5) "rank"=some (some (.ref BX)))
  (jq4L:cb K (.ref c6) "rank"=some (some (.ref BX)))
  (jq4M:cb K (.ref c7) "rank"=some (some (.ref BX)))
  (l_mr:K.lookup BX=some ⟨ai6,afz,.func (fu "rank" "Motion.rank" (az gy) (aw gy) (af gy) .none ai7 ai8 ai9 afA Xo aja),agd⟩)
  (jq6C:eg K Xo "Motion.rank"=true)
  (jq2n:da K (.ref BX)=true)
  (jq2P:kx K (.ref BX)=true)
  (jq4N:cb K (.ref c0) "need"=some (some (.ref EC)))
  (jq4O:cb K (.ref c1) "need"=some (some (.ref EC)))
  (jq4P:cb K (.ref c2) "need"=some (some (.ref EC)))
  (jq4Q:cb K (.ref c3) "need"=some (some (.ref EC)))
  (jq4R:cb K (.ref c5) "need"=some (some (.ref EC)))
  (jq4S:cb K (.ref c6) "need"=some (some (.ref EC)))
  (jq4T:cb K (.ref c7) "need"=some (some (.ref EC)))
  (l_mn:K.lookup EC=some ⟨ajb,afB,.func (fu "need" "Motion.need" (az gz) (aw gz) (af gz) .none ajc ajd aje afC Xp ajf),age⟩)
  (jq6D:eg K Xp "Motion.need"=true)
  (jq2Q:da K (.ref EC)=true)
  (jq3j:kx K (.ref EC)=true)
  (jq47:cb K (.ref c4) "need"=some (some (.ref JO)))
  (jq6E:K.lookup JO=some ⟨abn,Z4,.func (fu "need" "Close.need" (az iD) (aw iD) (af iD) .none abo abp abq Z5 S7 abr),aay⟩)
  (jq4U:eg K S7 "Close.need"=true)
  (jq48:da K (.ref JO)=true)
  (jq4V:kx K (.ref JO)=true)
  (jq4W:cb K (.ref c4) "told"=some (some (.ref MR)))
  (jq4X:cb K (.ref c5) "told"=some (some (.ref MR)))
  (jq4Y:cb K (.ref c6) "told"=some (some (.ref MR)))
  (l_mt:K.lookup MR=some ⟨ajg,afD,.func (fu "told" "Motion.told" (az gA) (aw gA) (af gA) .none ajh aji ajj afE Xq ajk),agf⟩)
  (jq6F:eg K Xq "Motion.told"=true)
  (jq3O:da K (.ref MR)=true)
  (jq4o:kx K (.ref MR)=true)
  (jq49:cb K (.ref c0) "told"=some (some (.ref JP)))
  (jq6G:K.lookup JP=some ⟨abt,Z6,.func (fu "told" "Matter.told" (az gB) (aw gB) (af gB) .none abu abv abw Z7 S8 abx),aaz⟩)
  (jq4Z:eg K S8 "Matter.told"=true)
  (jq4a:da K (.ref JP)=true)
  (jq50:kx K (.ref JP)=true)
  (jq4b:cb K (.ref c1) "told"=some (some (.ref JQ)))
  (jq6H:K.lookup JQ=some ⟨aby,Z8,.func (fu "told" "Change.told" (az gC) (aw gC) (af gC) .none abz abA abB Z9 S9 abC),aaA⟩)
  (jq51:eg K S9 "Change.told"=true)
  (jq4c:da K (.ref JQ)=true)
  (jq52:kx K (.ref JQ)=true)
  (jq4d:cb K (.ref c2) "told"=some (some (.ref JR)))
  (jq6I:K.lookup JR=some ⟨abD,aaa,.func (fu "told" "Mend.told" (az jw) (aw jw) (af jw) .none abE abF abG aab Ta abH),aaB⟩)
  (jq53:eg K Ta "Mend.told"=true)
  (jq4e:da K (.ref JR)=true)
  (jq54:kx K (.ref JR)=true)
  (jq4f:cb K (.ref c3) "told"=some (some (.ref JS)))
  (jq6J:K.lookup JS=some ⟨abI,aac,.func (fu "told" "PutOff.told" (az gD) (aw gD) (af gD) .none abJ abK abL aad Tb abM),aaC⟩)
  (jq55:eg K Tb "PutOff.told"=true)
  (jq4g:da K (.ref JS)=true)
  (jq56:kx K (.ref JS)=true)
  (jq4h:cb K (.ref c7) "told"=some (some (.ref JT)))
  (jq6K:K.lookup JT=some ⟨abN,aae,.func (fu "told" "Point.told" (az iE) (aw iE) (af iE) .none abO abP abQ aaf Tc abR),aaD⟩)
  (jq57:eg K Tc "Point.told"=true)
  (jq4i:da K (.ref JT)=true)
  (jq58:kx K (.ref JT)=true)
  (jq4j:cb K (.ref c0) "__init__"=some (some (.ref JU)))
  (jq6L:K.lookup JU=some ⟨abS,aag,.func (fu "__init__" "Matter.__init__" (az gF) (aw gF) (af gF) .none abT abU abV aah Td abW),aaE⟩)
  (jq59:eg K Td "Matter.__init__"=true)
  (jq5a:da K (.ref JU)=true)
  (jq5b:kx K (.ref JU)=true)
  (jq4k:cb K (.ref c1) "__init__"=some (some (.ref JV)))
  (jq6M:K.lookup JV=some ⟨abX,aai,.func (fu "__init__" "Change.__init__" (az gG) (aw gG) (af gG) .none abY abZ ab0 aaj Te ab1),aaF⟩)
  (jq5c:eg K Te "Change.__init__"=true)
  (jq5d:da K (.ref JV)=true)
  (jq5e:kx K (.ref JV)=true)
  (jq4l:cb K (.ref c2) "__init__"=some (some (.ref JW)))
  (jq6N:K.lookup JW=some ⟨ab2,aak,.func (fu "__init__" "Mend.__init__" (az jx) (aw jx) (af jx) .none ab3 ab4 ab5 aal Tf ab6),aaG⟩)
  (jq5f:eg K Tf "Mend.__init__"=true)
  (jq5g:da K (.ref JW)=true)
  (jq5h:kx K (.ref JW)=true)
  (jq4m:cb K (.ref c3) "__init__"=some (some (.ref JX)))
  (jq6O:K.lookup JX=some ⟨ab7,aam,.func (fu "__init__" "PutOff.__init__" (az gH) (aw gH) (af gH) .none ab8 ab9 aca aan Tg acb),aaH⟩)
  (jq5i:eg K Tg "PutOff.__init__"=true)
  (jq5j:da K (.ref JX)=true)
  (jq5k:kx K (.ref JX)=true)
  (jq4n:cb K (.ref c7) "__init__"=some (some (.ref JY)))
  (jq6P:K.lookup JY=some ⟨acd,aao,.func (fu "__init__" "Point.__init__" (az iF) (aw iF) (af iF) .none ace acf acg aap Th ach),aaI⟩)
  (jq5l:eg K Th "Point.__init__"=true)
  (jq5m:da K (.ref JY)=true)
  (jq5n:kx K (.ref JY)=true)
  (na0:cb K (.ref c0) "text"=some none)
  (na1:cb K (.ref c1) "edit"=some none)
  (na2:cb K (.ref c2) "edit"=some none)
  (na3:cb K (.ref c3) "sitting"=some none)
  (na7:cb K (.ref c7) "clause"=some none)
  (ni4:cb K (.ref c4) "__init__"=some (some (.builtin "object.__init__")))
  (ni5:cb K (.ref c5) "__init__"=some (some (.builtin "object.__init__")))
  (ni6:cb K (.ref c6) "__init__"=some (some (.builtin "object.__init__")))
  (jq2T:de K ka "Chamber"=some (some (.ref aY)))
  (jq2U:anN K aY anF=true)
  (jq2V:anI K aY=true)
  (jq2W:anQ K aY=true)
  (jq2X:cb K (.ref aY) "__setattr__"=some (some (.builtin "object.__setattr__")))
  (jq2Y:anV K aY=true)
  (jq2Z:da K (.ref aY)=true)
  (jq1V:cb K (.ref aY) "__init__"=some (some (.ref cO)))
  (jq2d:K.lookup cO=some ⟨Cd,BY,.func (fu "__init__" "Chamber.__init__" (az fL) (aw fL) (af fL) .none Ce Cg Ci BZ uc Cj),B8⟩)
  (jq1W:eg K uc "Chamber.__init__"=true)
  (jq1X:da K (.ref cO)=true)
  (jq1Y:kx K (.ref cO)=true)
  (jq1Z:cb K (.ref aY) "move"=some (some (.ref cP)))
  (jq2e:K.lookup cP=some ⟨Ck,B0,.func (fu "move" "Chamber.move" (az fM) (aw fM) (af fM) .none Cn Co Cp B1 ud Cq),B9⟩)
  (jq20:eg K ud "Chamber.move"=true)
  (jq1s:da K (.ref cP)=true)
  (jq21:kx K (.ref cP)=true)
  (jq22:cb K (.ref aY) "vote"=some (some (.ref cQ)))
  (jq2f:K.lookup cQ=some ⟨Cr,B2,.func (fu "vote" "Chamber.vote" (az fN) (aw fN) (af fN) .none Cs Ct Cu B3 ue Cv),Ca⟩)
  (jq23:eg K ue "Chamber.vote"=true)
  (jq1t:da K (.ref cQ)=true)
  (jq24:kx K (.ref cQ)=true)
  (jq25:cb K (.ref aY) "drop"=some (some (.ref cS)))
  (jq2g:K.lookup cS=some ⟨Cw,B4,.func (fu "drop" "Chamber.drop" (az fO) (aw fO) (af fO) .none Cy Cz CA B5 uf CB),Cb⟩)
  (jq26:eg K uf "Chamber.drop"=true)
  (jq1u:da K (.ref cS)=true)
  (jq27:kx K (.ref cS)=true)
  (jq28:cb K (.ref aY) "take"=some (some (.ref cT)))
  (jq2h:K.lookup cT=some ⟨CC,B6,.func (fu "take" "Chamber.take" (az fP) (aw fP) (af fP) .none CD CF CG B7 ug CH),Cc⟩)
  (jq29:eg K ug "Chamber.take"=true)
  (jq1v:da K (.ref cT)=true)
  (jq2a:kx K (.ref cT)=true)
  (jq1n:cb K (.ref aY) "in_order"=some (some (.ref bS)))
  (jq1w:K.lookup bS=some ⟨w9,w5,.func (fu "in_order" "Chamber.in_order" (az dA) (aw dA) (af dA) .none xa xb xc w6 mV xf),w8⟩)
  (jq1o:eg K mV "Chamber.in_order"=true)
  (jqT:da K (.ref bS)=true)
  (jq1p:kx K (.ref bS)=true)
  (jq1L:cb K (.ref aY) "state"=some (some (.ref cc)))
  (jq2b:K.lookup cc=some ⟨A2,AZ,.func (fu "state" "Chamber.state" (az d5) (aw d5) (af d5) .none A3 A4 A5 A0 rY A6),A1⟩)
  (jq1M:eg K rY "Chamber.state"=true)
  (jq1m:da K (.ref cc)=true)
  (jq1N:kx K (.ref cc)=true)
  (jq1D:cb K (.ref aY) "motion"=some (some (.ref bW)))
  (jq1O:K.lookup bW=some ⟨zH,zB,.func (fu "motion" "Chamber.motion" (az eB) (aw eB) (af eB) .none zI zJ zK zC qj zL),zF⟩)
  (jq1E:eg K qj "Chamber.motion"=true)
  (jq1c:da K (.ref bW)=true)
  (jq1F:kx K (.ref bW)=true)
  (jqU:cb K (.ref aY) "kept_changes"=some (some (.ref bq)))
  (jq12:K.lookup bq=some ⟨rZ,rR,.func (fu "kept_changes" "Chamber.kept_changes" (az cg) (aw cg) (af cg) .none r6 r8 r9 rS jJ sf),rW⟩)
  (jqV:eg K jJ "Chamber.kept_changes"=true)
  (jqz:da K (.ref bq)=true)
  (jqW:kx K (.ref bq)=true)
  (jq16:cb K (.ref aY) "first_text"=some (some (.ref bC)))
  (jq1e:K.lookup bC=some ⟨uy,uq,.func (fu "first_text" "Chamber.first_text" (az cD) (aw cD) (af cD) .none uz uA uB ur kA uC),uw⟩)
  (jq17:eg K kA "Chamber.first_text"=true)
  (jqE:da K (.ref bC)=true)
  (jq18:kx K (.ref bC)=true)
  (jq1x:cb K (.ref aY) "minutes"=some (some (.ref bD)))
  (jq1G:K.lookup bD=some ⟨yg,ya,.func (fu "minutes" "Chamber.minutes" (az dR) (aw dR) (af dR) .none yh yi yj yb pe yk),ye⟩)
  (jq1y:eg K pe "Chamber.minutes"=true)
  (jq13:da K (.ref bD)=true)
  (jq1z:kx K (.ref bD)=true)
  (jq1A:cb K (.ref aY) "pending"=some (some (.ref bZ)))
  (jq1H:K.lookup bZ=some ⟨yl,yc,.func (fu "pending" "Chamber.pending" (az cN) (aw cN) (af cN) .none ym yn yo yd pf yp),yf⟩)
  (jq1B:eg K pf "Chamber.pending"=true)
  (jq14:da K (.ref bZ)=true)
  (jq1C:kx K (.ref bZ)=true)
  (jq19:cb K (.ref aY) "told_aside"=some (some (.ref bK)))
  (jq1f:K.lookup bK=some ⟨uD,uu,.func (fu "told_aside" "Chamber.told_aside" (az cE) (aw cE) (af cE) .none uE uF uG uv kB uH),ux⟩)
  (jq1a:eg K kB "Chamber.told_aside"=true)
  (jqF:da K (.ref bK)=true)
  (jq1b:kx K (.ref bK)=true)
  (jqt:cb K (.ref aY) "require_can_be_made"=some (some (.ref bc)))
  (jqy:K.lookup bc=some ⟨lF,lC,.func (fu "require_can_be_made" "Chamber.require_can_be_made" (az bH) (aw bH) (af bH) .none lG lH lI lD fZ lJ),lE⟩)
  (jqu:eg K fZ "Chamber.require_can_be_made"=true)
  (jqn:da K (.ref bc)=true)
  (jqv:kx K (.ref bc)=true)
  (jqB:cb K (.ref aY) "require_pending"=some (some (.ref bj)))
  (jqG:K.lookup bj=some ⟨ph,o9,.func (fu "require_pending" "Chamber.require_pending" (az bQ) (aw bQ) (af bQ) .none pj pq pw pb iz pA),pd⟩)
  (jqC:eg K iz "Chamber.require_pending"=true)
  (jqp:da K (.ref bj)=true)
  (jqD:kx K (.ref bj)=true)
  (jqH:cb K (.ref aY) "require_matter"=some (some (.ref br)))
  (jqM:K.lookup br=some ⟨pI,pF,.func (fu "require_matter" "Chamber.require_matter" (az bV) (aw bV) (af bV) .none pJ pK pL pG iO pM),pH⟩)
  (jqI:eg K iO "Chamber.require_matter"=true)
  (jqq:da K (.ref br)=true)
  (jqJ:kx K (.ref br)=true)
  (jq1I:cb K (.ref aY) "decide"=some (some (.ref cu)))
  (jq1P:K.lookup cu=some ⟨zM,zD,.func (fu "decide" "Chamber.decide" (az eC) (aw eC) (af eC) .none zN zO zP zE qk zQ),zG⟩)
  (jq1J:eg K qk "Chamber.decide"=true)
  (jq1d:da K (.ref cu)=true)
  (jq1K:kx K (.ref cu)=true)
  (jqX:cb K (.ref aY) "end_decision"=some (some (.ref bA)))
  (jq15:K.lookup bA=some ⟨sv,rT,.func (fu "end_decision" "Chamber.end_decision" (az cq) (aw cq) (af cq) .none sx sy sA rV jK sC),rX⟩)
  (jqY:eg K jK "Chamber.end_decision"=true)
  (jqA:da K (.ref bA)=true)
  (jqZ:kx K (.ref bA)=true)
  (jq1g:cb K (.ref aY) "carry_out"=some (some (.ref bM)))
  (jq1q:K.lookup bM=some ⟨vU,vO,.func (fu "carry_out" "Chamber.carry_out" (az cY) (aw cY) (af cY) .none vV vW vX vP mw vY),vS⟩)
  (jq1h:eg K mw "Chamber.carry_out"=true)
  (jqK:da K (.ref bM)=true)
  (jq1i:kx K (.ref bM)=true)
  (jqN:cb K (.ref aY) "lay_on_matter"=some (some (.ref bu)))
  (jq10:K.lookup bu=some ⟨qF,qz,.func (fu "lay_on_matter" "Chamber.lay_on_matter" (az b5) (aw b5) (af b5) .none qG qH qI qA i9 qJ),qD⟩)
  (jqO:eg K i9 "Chamber.lay_on_matter"=true)
  (jqw:da K (.ref bu)=true)
  (jqP:kx K (.ref bu)=true)
  (jqQ:cb K (.ref aY) "lay_on_change"=some (some (.ref bw)))
  (jq11:K.lookup bw=some ⟨qK,qB,.func (fu "lay_on_change" "Chamber.lay_on_change" (az b6) (aw b6) (af b6) .none qL qM qN qC ja qO),qE⟩)
  (jqR:eg K ja "Chamber.lay_on_change"=true)
  (jqx:da K (.ref bw)=true)
  (jqS:kx K (.ref bw)=true)
  (jq1j:cb K (.ref aY) "put_aside"=some (some (.ref bN)))
  (jq1r:K.lookup bN=some ⟨vZ,vQ,.func (fu "put_aside" "Chamber.put_aside" (az cZ) (aw cZ) (af cZ) .none wb wc we vR mx wg),vT⟩)
  (jq1k:eg K mx "Chamber.put_aside"=true)
  (jqL:da K (.ref bN)=true)
  (jq1l:kx K (.ref bN)=true)
  (jqs:cb K (.ref aY) "seats"=some none)
  (jq1:cb K (.ref aY) "sitting"=some none)
  (jq3:cb K (.ref aY) "closed"=some none)
  (jq2:cb K (.ref aY) "made"=some none)
  (jq0:cb K (.ref aY) "pile"=some none)
  (jq5:cb K (.ref aY) "aside"=some none)
  (jqk:cb K (.ref aY) "decided"=some none)
  (jq4:cb K (.ref aY) "first_texts"=some none)
  (jq6:cb K (.ref aY) "edits_kept"=some none)
  (jqc:cb K (.ref aY) "rows"=some none)
  (jq2c:de K ka "ChamberError"=some (some (.ref aQ)))
  (jq3B:de K ka "NoFit"=some (some (.ref zA)))
  (jq3k:de K ka "Barred"=some (some (.ref oU)))
  (jq2o:de K ka "NoMatter"=some (some (.ref oV)))
  (jq2p:de K ka "NoChange"=some (some (.ref oW)))
  (jq2q:de K ka "NotLater"=some (some (.ref jq)))
  (jq30:de K ka "Nothing"=some (some (.ref rN)))
  (jq31:de K ka "TooMany"=some (some (.ref rO)))
  (jq32:de K ka "NoAside"=some (some (.ref rP)))
  (jq3l:de K ka "NotYet"=some (some (.ref oX)))
  (jq2r:de K ka "NoNumber"=some (some (.ref oY)))
  (jq3C:de K ka "NoRow"=some (some (.ref tP)))
  (jq3D:K.lookup zA=some (anJ Tt Wa zA HS Tu (.ref aQ::qU) TM Tv Tw Tx Tz TB TC TF TH TK TL "ValueError.__new__"))
  (jq2s:K.lookup oV=some (anJ Kx Nf oV yq Ky (.ref aQ::qU) KO Kz KA KC KD KG KH KI KJ KL KN "ValueError.__new__"))
  (jq2t:K.lookup oW=some (anJ KP Ng oW yr KQ (.ref aQ::qU) K5 KR KS KU KW KY KZ K0 K1 K2 K4 "ValueError.__new__"))
  (jq33:K.lookup rN=some (anJ Nh P7 rN A7 Ni (.ref aQ::qU) Nv Nj Nk Nl Nm Nn Np Nq Nr Nt Nu "ValueError.__new__"))
  (jq34:K.lookup rO=some (anJ Nw P8 rO A8 Nx (.ref aQ::qU) NJ Ny Nz NA NB NC ND NF NG NH NI "ValueError.__new__"))
  (jq35:K.lookup rP=some (anJ NK P9 rP A9 NL (.ref aQ::qU) NW NM NN NO NP NQ NR NS NT NU NV "ValueError.__new__"))
  (jq2u:K.lookup oY=some (anJ K6 NX oY yt K7 (.ref aQ::qU) Li K8 K9 La Lb Lc Ld Le Lf Lg Lh "ValueError.__new__"))
  (jq3m:K.lookup oU=some (anJ Qa TN oU EH Qb (.ref aQ::qU) true Qc Qd Qe Qf Qg Qh Qi Qj Qk Ql "ValueError.__new__"))
  (jq2v:K.lookup jq=some (anJ Lj NY jq yu Ll (.ref aQ::qU) true Lm Ln Lo Lp Lq Lr Ls Lu Lv Lw "ValueError.__new__"))
  (jq3n:K.lookup oX=some (anJ Qm TQ oX EI Qn (.ref aQ::qU) true Qo Qp Qq Qr Qs Qt Qu Qv Qw Qx "ValueError.__new__"))
  (jq3E:K.lookup tP=some (anJ TR Wb tP HU TU (.ref aQ::qU) true TV TX TY TZ T2 T3 T4 T5 T6 T7 "ValueError.__new__"))
  (jq7:K.lookup aQ=some ⟨EJ,CM,.cls ui,CN⟩)
  (jq8:ui.ns=pB)
  (jq3F:K.lookup HS=some ⟨Ti,Tj,.dict Kf Tn,To⟩)
  (jq3G:strKeys Kf=true)
  (jq3H:de K HS "__init__"=some none)
  (jq9:K.lookup pB=some ⟨CI,CJ,.dict uh CK,CL⟩)
  (jqa:strKeys uh=true)
  (jqb:de K pB "__init__"=some none)
  (jq2w:K.lookup yq=some ⟨Kg,Kh,.dict BG Ki,Kj⟩)
  (jq2x:strKeys BG=true)
  (jq2y:de K yq "__init__"=some none)
  (jq2z:K.lookup yr=some ⟨Kk,Kl,.dict BH Km,Kn⟩)
  (jq2A:strKeys BH=true)
  (jq2B:de K yr "__init__"=some none)
  (jq36:K.lookup A7=some ⟨M0,M3,.dict EE M4,M5⟩)
  (jq37:strKeys EE=true)
  (jq38:de K A7 "__init__"=some none)
  (jq39:K.lookup A8=some ⟨M6,M7,.dict EF M8,M9⟩)
  (jq3a:strKeys EF=true)
  (jq3b:de K A8 "__init__"=some none)
  (jq3c:K.lookup A9=some ⟨Na,Nb,.dict EG Nc,Nd⟩)
  (jq3d:strKeys EG=true)
  (jq3e:de K A9 "__init__"=some none)
  (jq2C:K.lookup yt=some ⟨Ko,Kp,.dict BI Kq,Kr⟩)
  (jq2D:strKeys BI=true)
  (jq2E:de K yt "__init__"=some none)
  (jq3o:K.lookup EH=some ⟨PY,PZ,.dict Gn P0,P1⟩)
  (jq3p:strKeys Gn=true)
  (jq3q:de K EH "__init__"=some (some (.ref oZ)))
  (jq2F:K.lookup yu=some ⟨Ks,Kt,.dict BJ Ku,Kv⟩)
  (jq2G:strKeys BJ=true)
  (jq2H:de K yu "__init__"=some (some (.ref j8)))
  (jq3r:K.lookup EI=some ⟨P2,P4,.dict Gp P5,P6⟩)
  (jq3s:strKeys Gp=true)
  (jq3t:de K EI "__init__"=some (some (.ref o8)))
  (jq3I:K.lookup HU=some ⟨Tp,Tq,.dict Kw Tr,Ts⟩)
  (jq3J:strKeys Kw=true)
  (jq3K:de K HU "__init__"=some (some (.ref rQ)))
  (jq1Q:PySem.W.readsIn K aQ (.type "type")=true)
  (jq1R:PySem.W.specialIn K (.ref aQ) "__getattribute__"=some (some (.builtin "type.__getattribute__")))
  (jq1S:PySem.W.findCls K (.ref aQ) (.type "type") "__init__"=some (.val (.builtin "ValueError.__init__")))
  (jqo:anp K (.ref zA) (.ref aQ)=some true)
  (jqd:anp K (.ref oV) (.ref aQ)=some true)
  (jqe:anp K (.ref oW) (.ref aQ)=some true)
  (jqh:anp K (.ref rN) (.ref aQ)=some true)
  (jqi:anp K (.ref rO) (.ref aQ)=some true)
  (jqj:anp K (.ref rP) (.ref aQ)=some true)
  (jqf:anp K (.ref oY) (.ref aQ)=some true)
  (jq3f:K.lookup oZ=some ⟨J5,JZ,.func (fu "__init__" "Barred.__init__" (az gI) (aw gI) (af gI) .none J6 J7 J8 J0 BE J9),J3⟩)
  (jq2I:eg K BE "Barred.__init__"=true)
  (jq2J:da K (.ref oZ)=true)
  (jq3u:kx K (.ref oZ)=true)
  (jq3v:cb K (.ref oU) "__setattr__"=some (some (.builtin "object.__setattr__")))
  (jq3w:cb K (.ref oU) "bar"=some none)
  (jql:anp K (.ref oU) (.ref aQ)=some true)
  (jq2m:K.lookup j8=some ⟨Fh,Fe,.func (fu "__init__" "NotLater.__init__" (az eV) (aw eV) (af eV) .none Fi Fj Fl Ff xw Fm),Fg⟩)
  (jq2k:eg K xw "NotLater.__init__"=true)
  (jq2l:da K (.ref j8)=true)
  (jq2K:kx K (.ref j8)=true)
  (jq2L:cb K (.ref jq) "__setattr__"=some (some (.builtin "object.__setattr__")))
  (jq2M:cb K (.ref jq) "sitting"=some none)
  (jqg:anp K (.ref jq) (.ref aQ)=some true)
  (jq3g:K.lookup o8=some ⟨Ka,J1,.func (fu "__init__" "NotYet.__init__" (az gJ) (aw gJ) (af gJ) .none Kb Kc Kd J2 BF Ke),J4⟩)
  (jq2N:eg K BF "NotYet.__init__"=true)
  (jq2O:da K (.ref o8)=true)
  (jq3x:kx K (.ref o8)=true)
  (jq3y:cb K (.ref oX) "__setattr__"=some (some (.builtin "object.__setattr__")))
  (jq3z:cb K (.ref oX) "sitting"=some none)
  (jqm:anp K (.ref oX) (.ref aQ)=some true)
  (jq3A:K.lookup rQ=some ⟨MV,MS,.func (fu "__init__" "NoRow.__init__" (az iG) (aw iG) (af iG) .none MW MX MY MT ED MZ),MU⟩)
  (jq3h:eg K ED "NoRow.__init__"=true)
  (jq3i:da K (.ref rQ)=true)
  (jq3L:kx K (.ref rQ)=true)
  (jq3M:cb K (.ref tP) "__setattr__"=some (some (.builtin "object.__setattr__")))
  (jq3N:cb K (.ref tP) "row"=some none)
  (jqr:anp K (.ref tP) (.ref aQ)=some true) :
  ∃fd:kg,(∀(s:Shared) (v:Value),BindsTo s fd ⟨[v],[]⟩ [("_law_script",v)])/\∀base:Heap,K.In base->base.Ns ka mg->aT l.prog w K mg base CX0 20 fa fd ["_law_script"] (OP K):=by
 have e:=hfa.symm.trans (kf X G a_43);cases e;have F_1:=aL (st:=Ad) l_1 cc_1 kp_1;have b_1:=F_1.binds (ps:=["things","edit"]) λ_ _ _ _ _ _ us hl=>match us,hl with | [_,_],_=>rfl
 have F_2:=aL (st:=gK) l_2 cc_2 kp_2;have b_2:=F_2.binds (ps:=["things","edit"]) λ_ _ _ _ _ _ us hl=>match us,hl with | [_,_],_=>rfl
 have F_3:=aL (st:=Ae) l_3 cc_3 kp_3;have b_3:=F_3.binds (ps:=["things","edit"]) λ_ _ _ _ _ _ us hl=>match us,hl with | [_,_],_=>rfl
 have F_4:=aL (st:=kJ) l_4 cc_4 kp_4;have b_4:=F_4.binds (ps:=["clause"]) λ_ _ _ _ _ _ us hl=>match us,hl with | [_],_=>rfl
 have F_5:=aL (st:=jy) l_5 cc_5 kp_5;have b_5:=F_5.binds (ps:=["words"]) λ_ _ _ _ _ _ us hl=>match us,hl with | [_],_=>rfl
 have F_6:=aL (st:=jz) l_6 cc_6 kp_6;have b_6:=F_6.binds (ps:=["told"]) λ_ _ _ _ _ _ us hl=>match us,hl with | [_],_=>rfl
 have F_7:=aL (st:=qX) l_7 cc_7 kp_7;have b_7:=F_7.binds (ps:=["pile","closed"]) λ_ _ _ _ _ _ us hl=>match us,hl with | [_,_],_=>rfl
 have F_8:=aL (st:=gb) l_8 cc_8 kp_8;have b_8:=F_8.binds (ps:=["pile"]) λ_ _ _ _ _ _ us hl=>match us,hl with | [_],_=>rfl
 have F_9:=aL (st:=eW) l_9 cc_9 kp_9;have b_9:=F_9.binds (ps:=["pile"]) λ_ _ _ _ _ _ us hl=>match us,hl with | [_],_=>rfl
 have ajl:=aL (st:=c9) l_10 jq5o jq5p;have amm:=ajl.binds (ps:=["kind","pile"]) λ_ _ _ _ _ _ us hl=>match us,hl with | [_,_],_=>rfl
 have ajm:=aL (st:=dC) l_11 jq5q jq5r;have amn:=ajm.binds (ps:=["pile","closed"]) λ_ _ _ _ _ _ us hl=>match us,hl with | [_,_],_=>rfl
 have ajn:=aL (st:=dD) l_12 jq5s jq5t;have amo:=ajn.binds (ps:=["kind","pile","closed"]) λ_ _ _ _ _ _ us hl=>match us,hl with | [_,_,_],_=>rfl
 have ajo:=aL (st:=nA) l_13 jq5u jq5v;have amq:=ajo.binds (ps:=["holds"]) λ_ _ _ _ _ _ us hl=>match us,hl with | [_],_=>rfl
 have ajp:=aL (st:=nB) l_14 jq5w jq5x;have amr:=ajp.binds (ps:=["sign"]) λ_ _ _ _ _ _ us hl=>match us,hl with | [_],_=>rfl
 have ajq:=aL (st:=kK) l_15 jq5y jq5z;have ams:=ajq.binds (ps:=["word"]) λ_ _ _ _ _ _ us hl=>match us,hl with | [_],_=>rfl
 have ajr:=aL (st:=hV) l_16 jq5A jq5B;have amt:=ajr.binds (ps:=["word"]) λ_ _ _ _ _ _ us hl=>match us,hl with | [_],_=>rfl
 have ajs:=aL (st:=gL) l_17 jq5C jq5D;have amu:=ajs.binds (ps:=["word"]) λ_ _ _ _ _ _ us hl=>match us,hl with | [_],_=>rfl
 have ajt:=aL (st:=fA) l_18 jq5E jq5F;have amv:=ajt.binds (ps:=["words"]) λ_ _ _ _ _ _ us hl=>match us,hl with | [_],_=>rfl
 have aju:=aL (st:=hX) l_19 jq5G jq5H;have amw:=aju.binds (ps:=["words"]) λ_ _ _ _ _ _ us hl=>match us,hl with | [_],_=>rfl
 have ajv:=aL (st:=jA) l_20 jq5I jq5J;have amx:=ajv.binds (ps:=["words"]) λ_ _ _ _ _ _ us hl=>match us,hl with | [_],_=>rfl
 have ajw:=aL (st:=jB) l_21 jq5K jq5L;have amy:=ajw.binds (ps:=["words"]) λ_ _ _ _ _ _ us hl=>match us,hl with | [_],_=>rfl
 have ajx:=aL (st:=fQ) l_22 jq5M jq5N;have amz:=ajx.binds (ps:=["words"]) λ_ _ _ _ _ _ us hl=>match us,hl with | [_],_=>rfl
 have ajy:=aL (st:=jC) l_23 jq5O jq5P;have amA:=ajy.binds (ps:=["row"]) λ_ _ _ _ _ _ us hl=>match us,hl with | [_],_=>rfl
 have ajz:=aL (st:=eX) l_24 jq5Q jq5R;have amB:=ajz.binds (ps:=["text"]) λ_ _ _ _ _ _ us hl=>match us,hl with | [_],_=>rfl
 have ajA:=aL (st:=eY) l_25 jq5S jq5T;have amC:=ajA.binds (ps:=["edit"]) λ_ _ _ _ _ _ us hl=>match us,hl with | [_],_=>rfl
 have ajB:=aL (st:=eK) l_26 jq5U jq5V;have amD:=ajB.binds (ps:=["deed"]) λ_ _ _ _ _ _ us hl=>match us,hl with | [_],_=>rfl
 have ajC:=aL (st:=jD) l_27 jq5W jq5X;have amE:=ajC.binds (ps:=["deed"]) λ_ _ _ _ _ _ us hl=>match us,hl with | [_],_=>rfl
 have ajD:=aL (st:=nD) l_28 jq5Y jq5Z;have amF:=ajD.binds (ps:=["need","ayes","noes"]) λ_ _ _ _ _ _ us hl=>match us,hl with | [_,_,_],_=>rfl
 have ajE:=aL (st:=nF) l_29 jq60 jq61;have amG:=ajE.binds (ps:=["chamber","deed"]) λ_ _ _ _ _ _ us hl=>match us,hl with | [_,_],_=>rfl
 have ajF:=aL (st:=q8) l_30 jq62 jq63;have amH:=ajF.binds (ps:=["chamber","row","number"]) λ_ _ _ _ _ _ us hl=>match us,hl with | [_,_,_],_=>rfl
 have ajG:=aL (st:=q9) l_31 jq64 jq65;have amI:=ajG.binds (ps:=["seats","rows"]) λ_ _ _ _ _ _ us hl=>match us,hl with | [_,_],_=>rfl
 have ajH:=aL (st:=jE) l_32 jq66 jq67;have amJ:=ajH.binds (ps:=["_law_script","_law_k"]) λ_ _ _ _ _ _ us hl=>match us,hl with | [_,_],_=>rfl
 have ajI:=aL (st:=kO) l_33 jq68 jq69;have amK:=ajI.binds (ps:=["_law_cell","_law_many"]) λ_ _ _ _ _ _ us hl=>match us,hl with | [_,_],_=>rfl
 have ajJ:=aL (st:=ji) l_34 jq6a jq6b;have amL:=ajJ.binds (ps:=["_law_draw"]) λ_ _ _ _ _ _ us hl=>match us,hl with | [_],_=>rfl
 have ajK:=aL (st:=rb) l_35 jq6c jq6d;have amM:=ajK.binds (ps:=["_law_kind","_law_draw","_law_more"]) λ_ _ _ _ _ _ us hl=>match us,hl with | [_,_,_],_=>rfl
 have ajL:=aL (st:=nU) l_36 jq6e jq6f;have amN:=ajL.binds (ps:=["_law_draws","_law_seats"]) λ_ _ _ _ _ _ us hl=>match us,hl with | [_,_],_=>rfl
 have ajM:=aL (st:=rh) l_37 jq6g jq6h;have amO:=ajM.binds (ps:=["_law_chamber","_law_deed_here"]) λ_ _ _ _ _ _ us hl=>match us,hl with | [_,_],_=>rfl
 have ajN:=aL (st:=hZ) l_38 jq6i jq6j;have amP:=ajN.binds (ps:=["_law_chamber","_law_many"]) λ_ _ _ _ _ _ us hl=>match us,hl with | [_,_],_=>rfl
 have ajO:=aL (st:=rj) l_39 jq6k jq6l;have amQ:=ajO.binds (ps:=["_law_one","_law_other","_law_many"]) λ_ _ _ _ _ _ us hl=>match us,hl with | [_,_,_],_=>rfl
 have ajP:=aL (st:=eD) l_40 jq6m jq6n;have amR:=ajP.binds (ps:=["_law_one","_law_other","_law_made"]) λ_ _ _ _ _ _ us hl=>match us,hl with | [_,_,_],_=>rfl
 have ajQ:=aL (st:=nG) l_41 jq6o jq6p;have amS:=ajQ.binds (ps:=["_law_chamber","_law_rows","_law_deed_here"]) λ_ _ _ _ _ _ us hl=>match us,hl with | [_,_,_],_=>rfl
 have ajR:=aL (st:=nH) l_42 jq6q jq6r;have amT:=ajR.binds (ps:=["_law_one","_law_other","_law_rows","_law_made","_law_deeds"]) λ_ _ _ _ _ _ us hl=>match us,hl with | [_,_,_,_,_],_=>rfl
 have amU:=aL (st:=xl) l_43 jq6s jq6t;have Xr:=aL (st:=gv) jq6u jq4p jq3S;have ajS:=Xr.binds (ps:=["self"]) λ_ _ _ _ _ _ us hl=>match us,hl with | [_],_=>rfl
 have Xs:=aL (st:=gw) jq6v jq4r jq3U;have ajT:=Xs.binds (ps:=["self"]) λ_ _ _ _ _ _ us hl=>match us,hl with | [_],_=>rfl
 have Xt:=aL (st:=ju) jq6w jq4t jq3W;have ajU:=Xt.binds (ps:=["self"]) λ_ _ _ _ _ _ us hl=>match us,hl with | [_],_=>rfl
 have Xu:=aL (st:=gx) jq6x jq4v jq3Y;have ajV:=Xu.binds (ps:=["self"]) λ_ _ _ _ _ _ us hl=>match us,hl with | [_],_=>rfl
 have Xv:=aL (st:=iB) jq6y jq4x jq40;have ajW:=Xv.binds (ps:=["self"]) λ_ _ _ _ _ _ us hl=>match us,hl with | [_],_=>rfl
 have Xw:=aL (st:=kH) jq6z jq4z jq42;have ajX:=Xw.binds (ps:=["self"]) λ_ _ _ _ _ _ us hl=>match us,hl with | [_],_=>rfl
 have Xx:=aL (st:=jv) jq6A jq4B jq44;have ajY:=Xx.binds (ps:=["self"]) λ_ _ _ _ _ _ us hl=>match us,hl with | [_],_=>rfl
 have Xy:=aL (st:=iC) jq6B jq4D jq46;have ajZ:=Xy.binds (ps:=["self"]) λ_ _ _ _ _ _ us hl=>match us,hl with | [_],_=>rfl
 have aj0:=aL (st:=gy) l_mr jq6C jq2n;have amV:=aj0.binds (ps:=["self"]) λ_ _ _ _ _ _ us hl=>match us,hl with | [_],_=>rfl
 have aj1:=aL (st:=gz) l_mn jq6D jq2Q;have NZ:=aj1.binds (ps:=["self"]) λ_ _ _ _ _ _ us hl=>match us,hl with | [_],_=>rfl
 have Xz:=aL (st:=iD) jq6E jq4U jq48;have aj2:=Xz.binds (ps:=["self"]) λ_ _ _ _ _ _ us hl=>match us,hl with | [_],_=>rfl
 have aj3:=aL (st:=gA) l_mt jq6F jq3O;have acn:=aj3.binds (ps:=["self"]) λ_ _ _ _ _ _ us hl=>match us,hl with | [_],_=>rfl
 have XA:=aL (st:=gB) jq6G jq4Z jq4a;have aj4:=XA.binds (ps:=["self"]) λ_ _ _ _ _ _ us hl=>match us,hl with | [_],_=>rfl
 have XB:=aL (st:=gC) jq6H jq51 jq4c;have aj5:=XB.binds (ps:=["self"]) λ_ _ _ _ _ _ us hl=>match us,hl with | [_],_=>rfl
 have XC:=aL (st:=jw) jq6I jq53 jq4e;have aj6:=XC.binds (ps:=["self"]) λ_ _ _ _ _ _ us hl=>match us,hl with | [_],_=>rfl
 have XD:=aL (st:=gD) jq6J jq55 jq4g;have aj7:=XD.binds (ps:=["self"]) λ_ _ _ _ _ _ us hl=>match us,hl with | [_],_=>rfl
 have XE:=aL (st:=iE) jq6K jq57 jq4i;have aj8:=XE.binds (ps:=["self"]) λ_ _ _ _ _ _ us hl=>match us,hl with | [_],_=>rfl
 have XF:=aL (st:=gF) jq6L jq59 jq5a;have aj9:=XF.binds (ps:=["self","text"]) λ_ _ _ _ _ _ us hl=>match us,hl with | [_,_],_=>rfl
 have XG:=aL (st:=gG) jq6M jq5c jq5d;have aka:=XG.binds (ps:=["self","edit"]) λ_ _ _ _ _ _ us hl=>match us,hl with | [_,_],_=>rfl
 have XH:=aL (st:=jx) jq6N jq5f jq5g;have akb:=XH.binds (ps:=["self","edit"]) λ_ _ _ _ _ _ us hl=>match us,hl with | [_,_],_=>rfl
 have XI:=aL (st:=gH) jq6O jq5i jq5j;have akc:=XI.binds (ps:=["self","sitting"]) λ_ _ _ _ _ _ us hl=>match us,hl with | [_,_],_=>rfl
 have XJ:=aL (st:=iF) jq6P jq5l jq5m;have akd:=XJ.binds (ps:=["self","clause"]) λ_ _ _ _ _ _ us hl=>match us,hl with | [_,_],_=>rfl
 have ie:=aL (st:=fL) jq2d jq1W jq1X;have fS:=ie.binds (ps:=["self","seats"]) λ_ _ _ _ _ _ us hl=>match us,hl with | [_,_],_=>rfl
 have ig:=aL (st:=fM) jq2e jq20 jq1s;have jX:=ig.binds (ps:=["self","told"]) λ_ _ _ _ _ _ us hl=>match us,hl with | [_,_],_=>rfl
 have ij:=aL (st:=fN) jq2f jq23 jq1t;have jY:=ij.binds (ps:=["self","ayes","noes"]) λ_ _ _ _ _ _ us hl=>match us,hl with | [_,_,_],_=>rfl
 have il:=aL (st:=fO) jq2g jq26 jq1u;have jZ:=il.binds (ps:=["self"]) λ_ _ _ _ _ _ us hl=>match us,hl with | [_],_=>rfl
 have ip:=aL (st:=fP) jq2h jq29 jq1v;have j3:=ip.binds (ps:=["self","number"]) λ_ _ _ _ _ _ us hl=>match us,hl with | [_,_],_=>rfl
 have eM:=aL (st:=dA) jq1w jq1o jqT;have eO:=eM.binds (ps:=["self"]) λ_ _ _ _ _ _ us hl=>match us,hl with | [_],_=>rfl
 have gj:=aL (st:=d5) jq2b jq1M jq1m;have gk:=gj.binds (ps:=["self"]) λ_ _ _ _ _ _ us hl=>match us,hl with | [_],_=>rfl
 have fU:=aL (st:=eB) jq1O jq1E jq1c;have iL:=fU.binds (ps:=["self","number"]) λ_ _ _ _ _ _ us hl=>match us,hl with | [_,_],_=>rfl
 have cU:=aL (st:=cg) jq12 jqV jqz;have cV:=cU.binds (ps:=["self","number"]) λ_ _ _ _ _ _ us hl=>match us,hl with | [_,_],_=>rfl
 have dN:=aL (st:=cD) jq1e jq17 jqE;have dO:=dN.binds (ps:=["self","number"]) λ_ _ _ _ _ _ us hl=>match us,hl with | [_,_],_=>rfl
 have fg:=aL (st:=dR) jq1G jq1y jq13;have dW:=fg.binds (ps:=["self"]) λ_ _ _ _ _ _ us hl=>match us,hl with | [_],_=>rfl
 have fh:=aL (st:=cN) jq1H jq1B jq14;have dX:=fh.binds (ps:=["self"]) λ_ _ _ _ _ _ us hl=>match us,hl with | [_],_=>rfl
 have dP:=aL (st:=cE) jq1f jq1a jqF;have fj:=dP.binds (ps:=["self","number"]) λ_ _ _ _ _ _ us hl=>match us,hl with | [_,_],_=>rfl
 have bP:=aL (st:=bH) jqy jqu jqn;have cx:=bP.binds (ps:=["self","told"]) λ_ _ _ _ _ _ us hl=>match us,hl with | [_,_],_=>rfl
 have cv:=aL (st:=bQ) jqG jqC jqp;have cw:=cv.binds (ps:=["self"]) λ_ _ _ _ _ _ us hl=>match us,hl with | [_],_=>rfl
 have cy:=aL (st:=bV) jqM jqI jqq;have cz:=cy.binds (ps:=["self","number"]) λ_ _ _ _ _ _ us hl=>match us,hl with | [_,_],_=>rfl
 have fV:=aL (st:=eC) jq1P jq1J jq1d;have fW:=fV.binds (ps:=["self","word"]) λ_ _ _ _ _ _ us hl=>match us,hl with | [_,_],_=>rfl
 have cW:=aL (st:=cq) jq15 jqY jqA;have cX:=cW.binds (ps:=["self","deed"]) λ_ _ _ _ _ _ us hl=>match us,hl with | [_,_],_=>rfl
 have d7:=aL (st:=cY) jq1q jq1h jqK;have fH:=d7.binds (ps:=["self","motion"]) λ_ _ _ _ _ _ us hl=>match us,hl with | [_,_],_=>rfl
 have cF:=aL (st:=b5) jq10 jqO jqw;have dY:=cF.binds (ps:=["self","edit"]) λ_ _ _ _ _ _ us hl=>match us,hl with | [_,_],_=>rfl
 have cG:=aL (st:=b6) jq11 jqR jqx;have dZ:=cG.binds (ps:=["self","edit"]) λ_ _ _ _ _ _ us hl=>match us,hl with | [_,_],_=>rfl
 have d8:=aL (st:=cZ) jq1r jq1k jqL;have d9:=d8.binds (ps:=["self","until"]) λ_ _ _ _ _ _ us hl=>match us,hl with | [_,_],_=>rfl
 have oo:=aL (st:=gI) jq3f jq2I jq2J;have oq:=oo.binds (ps:=["self","bar"]) λ_ _ _ _ _ _ us hl=>match us,hl with | [_,_],_=>rfl
 have j4:=aL (st:=eV) jq2m jq2k jq2l;have m8:=j4.binds (ps:=["self","sitting"]) λ_ _ _ _ _ _ us hl=>match us,hl with | [_,_],_=>rfl
 have ot:=aL (st:=gJ) jq3g jq2N jq2O;have tE:=ot.binds (ps:=["self","sitting"]) λ_ _ _ _ _ _ us hl=>match us,hl with | [_,_],_=>rfl
 have rD:=aL (st:=iG) jq3A jq3h jq3i;have wL:=rD.binds (ps:=["self","row"]) λ_ _ _ _ _ _ us hl=>match us,hl with | [_,_],_=>rfl
 have T:Txt P K mg ⟨f_1,_,f_2,_,f_3,_,f_4,_,f_5,_,f_6,_,f_7,_,f_8,_,f_9,_,Vy,_,Vz,_,VA,_,VB,_,VC,_,VD,_,VE,_,VF,_,VG,_,VH,_,VI,_,VJ,_,VL,_,VM,_,VN,_,VO,_,VP,_,VQ,_,VR,_,VS,_,VT,_,VU,_,VV,_,VW,_,VX,_,VY,_,VZ,_,V0,_,V1,_,V2,_,V3,_,V4,_,V5,_,sV,jc,lO,jd,sW,u0,lP,c0,c1,c2,c3,c4,c5,c6,c7,cm,tb,JG,_,JH,_,JI,_,JJ,_,JK,_,JL,_,JM,_,JN,_,BX,_,EC,_,JO,_,MR,_,JP,_,JQ,_,JR,_,JS,_,JT,_,JU,_,JV,_,JW,_,JX,_,JY,_,aY,cO,_,cP,_,cQ,_,cS,_,cT,_,bS,_,cc,_,bW,_,bq,_,bC,_,bD,_,bZ,_,bK,_,bc,_,bj,_,br,_,cu,_,bA,_,bM,_,bu,_,bw,_,bN,_,aQ,zA,oU,oV,oW,jq,rN,rO,rP,oX,oY,tP,oZ,_,j8,_,o8,_,rQ,_⟩:={
  Mb:=F_1,
  RK:=b_1,
  RL:=kf X G a_1,
  i3:=F_2,
  lQ:=b_2,
  lR:=kf X G a_2,
  Ha:=F_3,
  Mc:=b_3,
  Md:=kf X G a_3,
  jk:=F_4,
  kT:=b_4,
  kU:=kf X G a_4,
  lY:=F_5,
  pZ:=b_5,
  p4:=kf X G a_5,
  p5:=F_6,
  Bk:=b_6,
  Bl:=kf X G a_6,
  u6:=F_7,
  yQ:=b_7,
  yR:=kf X G a_7,
  m7:=F_8,
  tf:=b_8,
  tj:=kf X G a_8,
  mI:=F_9,
  tX:=b_9,
  tY:=kf X G a_9,
  fG:=ajl,
  iU:=amm,
  iV:=kf X G a_10,
  kW:=ajm,
  rz:=amn,
  rA:=kf X G a_11,
  jl:=ajn,
  oa:=amo,
  oe:=kf X G a_12,
  dU:=ajo,
  eE:=amq,
  eF:=kf X G a_13,
  Aw:=ajp,
  FL:=amr,
  FN:=kf X G a_14,
  Ax:=ajq,
  FO:=ams,
  FP:=kf X G a_15,
  u7:=ajr,
  Bm:=amt,
  Bo:=kf X G a_16,
  fE:=ajs,
  gN:=amu,
  gO:=kf X G a_17,
  i4:=ajt,
  lS:=amv,
  lT:=kf X G a_18,
  u9:=aju,
  Bp:=amw,
  Bq:=kf X G a_19,
  p6:=ajv,
  va:=amx,
  vb:=kf X G a_20,
  vc:=ajw,
  Br:=amy,
  Bs:=kf X G a_21,
  og:=ajx,
  vd:=amz,
  ve:=kf X G a_22,
  lZ:=ajy,
  p7:=amA,
  p8:=kf X G a_23,
  mJ:=ajz,
  tZ:=amB,
  t7:=kf X G a_24,
  mK:=ajA,
  t8:=amC,
  t9:=kf X G a_25,
  oh:=ajB,
  vf:=amD,
  vg:=kf X G a_26,
  l5:=ajC,
  p9:=amE,
  qa:=kf X G a_27,
  Ay:=ajD,
  FQ:=amF,
  FR:=kf X G a_28,
  wG:=ajE,
  Az:=amG,
  AA:=kf X G a_29,
  DQ:=ajF,
  IH:=amH,
  II:=kf X G a_30,
  DR:=ajG,
  IJ:=amI,
  IK:=kf X G a_31,
  vh:=ajH,
  Bt:=amJ,
  Bu:=kf X G a_32,
  xN:=ajI,
  DS:=amK,
  DT:=kf X G a_33,
  oj:=ajJ,
  tq:=amL,
  tw:=kf X G a_34,
  DU:=ajK,
  IL:=amM,
  IM:=kf X G a_35,
  DW:=ajL,
  IP:=amN,
  IQ:=kf X G a_36,
  yS:=ajM,
  DX:=amO,
  DY:=kf X G a_37,
  qb:=ajN,
  vi:=amP,
  vj:=kf X G a_38,
  yT:=ajO,
  DZ:=amQ,
  D0:=kf X G a_39,
  iK:=ajP,
  kX:=amR,
  kY:=kf X G a_40,
  AB:=ajQ,
  FT:=amS,
  FU:=kf X G a_41,
  wH:=ajR,
  AD:=amT,
  AE:=kf X G a_42,
  CY:=anE X G z1,
  kZ:=anE X G z2,
  Oc:=anE X G z3,
  Wt:=anE X G z4,
  tD:=anE X G z5,
  Wu:=anE X G z6,
  l6:=anE X G z7,
  Od:=anE X G z8,
  Wv:=anE X G z9,
  Ww:=anE X G z10,
  IS:=anE X G z11,
  Bv:=anE X G z12,
  Hb:=anE X G z13,
  FV:=kf X G jq2R,
  vk:=kf X G jq1T,
  yU:=kf X G jq2i,
  vm:=kf X G jq1U,
  FW:=kf X G jq2S,
  RN:=λ_=>.inr ⟨_,_,_,jq3Q,rfl,rfl,(by show 4<=gr;decide),(.cons ⟨_,rfl⟩ (.cons ⟨_,rfl⟩ (.cons ⟨_,rfl⟩ (.cons ⟨_,rfl⟩ .nil))))⟩,
  RM:=kf X G jq3P,
  yV:=kf X G jq2j,
  cl:=λk hk=>match k,hk with | 0,_=>⟨pg0,hd0,po0,sa0⟩ | 1,_=>⟨pg1,hd1,po1,sa1⟩ | 2,_=>⟨pg2,hd2,po2,sa2⟩ | 3,_=>⟨pg3,hd3,po3,sa3⟩ | 4,_=>⟨pg4,hd4,po4,sa4⟩ | 5,_=>⟨pg5,hd5,po5,sa5⟩ | 6,_=>⟨pg6,hd6,po6,sa6⟩ | 7,_=>⟨pg7,hd7,po7,sa7⟩ | n+8,h=>absurd h (by omega),
  yW:=kf X G ac0,
  yX:=kf X G ac1,
  Me:=kf X G ac2,
  D1:=kf X G ac3,
  Hc:=kf X G ac4,
  RO:=kf X G ac5,
  Mf:=kf X G ac6,
  Hd:=kf X G ac7,
  yY:=kf X G atb,
  tb:=⟨est,nt,ltb,ktb⟩,
  rk:=λk hk=>match k,hk with | 0,_=>⟨_,rk0⟩ | 1,_=>⟨_,rk1⟩ | 2,_=>⟨_,rk2⟩ | 3,_=>⟨_,rk3⟩ | 4,_=>⟨_,rk4⟩ | 5,_=>⟨_,rk5⟩ | 6,_=>⟨_,rk6⟩ | 7,_=>⟨_,rk7⟩ | n+8,h=>absurd h (by omega),
  tk:=⟨⟨est,nt,ltb,ktb,Dp (xs:=[(ar "matter",tq0),(ar "change",tq1),(ar "mend",tq2),(ar "put off",tq3),(ar "close",tq4),(ar "lay",tq5),(ar "rest",tq6),(ar "point",tq7)]) kas⟩,by trivial,tlo⟩,
  qu:=λk hk=>match k,hk with | 0,_=>⟨jq3R,jq4q,jq3S⟩ | 1,_=>⟨jq3T,jq4s,jq3U⟩ | 2,_=>⟨jq3V,jq4u,jq3W⟩ | 3,_=>⟨jq3X,jq4w,jq3Y⟩ | 4,_=>⟨jq3Z,jq4y,jq40⟩ | 5,_=>⟨jq41,jq4A,jq42⟩ | 6,_=>⟨jq43,jq4C,jq44⟩ | 7,_=>⟨jq45,jq4E,jq46⟩ | n+8,h=>absurd h (by omega),
  qv:=λk hk=>match k,hk with | 0,_=>ajS | 1,_=>ajT | 2,_=>ajU | 3,_=>ajV | 4,_=>ajW | 5,_=>ajX | 6,_=>ajY | 7,_=>ajZ | n+8,h=>absurd h (by omega),
  RP:=λk hk=>match k,hk with | 0,_=>⟨jq4N,jq3j,jq2Q⟩ | 1,_=>⟨jq4O,jq3j,jq2Q⟩ | 2,_=>⟨jq4P,jq3j,jq2Q⟩ | 3,_=>⟨jq4Q,jq3j,jq2Q⟩ | 4,_=>⟨jq47,jq4V,jq48⟩ | 5,_=>⟨jq4R,jq3j,jq2Q⟩ | 6,_=>⟨jq4S,jq3j,jq2Q⟩ | 7,_=>⟨jq4T,jq3j,jq2Q⟩ | n+8,h=>absurd h (by omega),
  RQ:=λk hk=>match k,hk with | 0,_=>NZ | 1,_=>NZ | 2,_=>NZ | 3,_=>NZ | 4,_=>aj2 | 5,_=>NZ | 6,_=>NZ | 7,_=>NZ | n+8,h=>absurd h (by omega),
  Mg:=λk hk=>match k,hk with | 0,_=>⟨jq49,jq50,jq4a⟩ | 1,_=>⟨jq4b,jq52,jq4c⟩ | 2,_=>⟨jq4d,jq54,jq4e⟩ | 3,_=>⟨jq4f,jq56,jq4g⟩ | 4,_=>⟨jq4W,jq4o,jq3O⟩ | 5,_=>⟨jq4X,jq4o,jq3O⟩ | 6,_=>⟨jq4Y,jq4o,jq3O⟩ | 7,_=>⟨jq4h,jq58,jq4i⟩ | n+8,h=>absurd h (by omega),
  Mh:=λk hk=>match k,hk with | 0,_=>aj4 | 1,_=>aj5 | 2,_=>aj6 | 3,_=>aj7 | 4,_=>acn | 5,_=>acn | 6,_=>acn | 7,_=>aj8 | n+8,h=>absurd h (by omega),
  RS:=λk hk=>match k,hk with | 0,_=>⟨jq4F,jq2P,jq2n⟩ | 1,_=>⟨jq4G,jq2P,jq2n⟩ | 2,_=>⟨jq4H,jq2P,jq2n⟩ | 3,_=>⟨jq4I,jq2P,jq2n⟩ | 4,_=>⟨jq4J,jq2P,jq2n⟩ | 5,_=>⟨jq4K,jq2P,jq2n⟩ | 6,_=>⟨jq4L,jq2P,jq2n⟩ | 7,_=>⟨jq4M,jq2P,jq2n⟩ | n+8,h=>absurd h (by omega),
  RT:=λ_ _=>amV,
  adi:=Xr,
  adj:=Xs,
  adk:=Xt,
  adl:=Xu,
  adn:=Xv,
  ado:=Xw,
  adp:=Xx,
  adq:=Xy,
  F_r:=aj0,
  F_n:=aj1,
  ads:=Xz,
  F_t:=aj3,
  adt:=XA,
  adu:=XB,
  adv:=XC,
  adw:=XD,
  adx:=XE,
  ady:=XF,
  adz:=XG,
  adA:=XH,
  adB:=XI,
  adC:=XJ,
  yZ:=⟨mk0,jq4j,jq5b,kc0⟩,
  UH:=aj9,
  na0:=na0,
  y3:=⟨mk1,jq4k,jq5e,kc1⟩,
  UI:=aka,
  na1:=na1,
  Mi:=⟨mk2,jq4l,jq5h,kc2⟩,
  Y3:=akb,
  na2:=na2,
  D2:=⟨mk3,jq4m,jq5k,kc3⟩,
  Y4:=akc,
  na3:=na3,
  He:=⟨mk7,jq4n,jq5n,kc7⟩,
  Y5:=akd,
  na7:=na7,
  mkn:=λk hk=>by
   rcases hk with rfl | rfl | rfl
   ·exact⟨mk4,ni4,kc4⟩
   ·exact⟨mk5,ni5,kc5⟩
   ·exact⟨mk6,ni6,kc6⟩,
  wI:=kf X G jq2T,
  ah:=⟨jq2U,jq2V,jq2W,jq2X⟩,
  ie:=ie,
  fS:=fS,
  wJ:=⟨jq2Y,jq1V,jq1Y,jq2Z⟩,
  ig:=ig,
  jX:=jX,
  vn:=⟨jq1Z,jq21,jq1s⟩,
  ij:=ij,
  jY:=jY,
  vo:=⟨jq22,jq24,jq1t⟩,
  il:=il,
  jZ:=jZ,
  vp:=⟨jq25,jq27,jq1u⟩,
  ip:=ip,
  j3:=j3,
  vq:=⟨jq28,jq2a,jq1v⟩,
  eM:=eM,
  eO:=eO,
  jm:=⟨jq1n,jq1p,jqT⟩,
  gj:=gj,
  gk:=gk,
  mL:=⟨jq1L,jq1N,jq1m⟩,
  fU:=fU,
  iL:=iL,
  rB:=⟨jq1D,jq1F,jq1c⟩,
  cU:=cU,
  cV:=cV,
  gf:=⟨jqU,jqW,jqz⟩,
  dN:=dN,
  dO:=dO,
  iq:=⟨jq16,jq18,jqE⟩,
  fg:=fg,
  dW:=dW,
  gY:=⟨jq1x,jq1z,jq13⟩,
  fh:=fh,
  dX:=dX,
  gZ:=⟨jq1A,jq1C,jq14⟩,
  dP:=dP,
  fj:=fj,
  l7:=⟨jq19,jq1b,jqF⟩,
  bP:=bP,
  cx:=cx,
  f6:=⟨jqt,jqv,jqn⟩,
  cv:=cv,
  cw:=cw,
  eU:=⟨jqB,jqD,jqp⟩,
  cy:=cy,
  cz:=cz,
  fF:=⟨jqH,jqJ,jqq⟩,
  fV:=fV,
  fW:=fW,
  k9:=⟨jq1I,jq1K,jq1d⟩,
  cW:=cW,
  cX:=cX,
  gg:=⟨jqX,jqZ,jqA⟩,
  d7:=d7,
  fH:=fH,
  mT:=⟨jq1g,jq1i,jqK⟩,
  cF:=cF,
  dY:=dY,
  jG:=⟨jqN,jqP,jqw⟩,
  cG:=cG,
  dZ:=dZ,
  jH:=⟨jqQ,jqS,jqx⟩,
  d8:=d8,
  d9:=d9,
  iW:=⟨jq1j,jq1l,jqL⟩,
  jqs:=jqs,
  jq1:=jq1,
  jq3:=jq3,
  jq2:=jq2,
  jq0:=jq0,
  jq5:=jq5,
  jqk:=jqk,
  jq4:=jq4,
  jq6:=jq6,
  jqc:=jqc,
  fX:=kf X G jq2c,
  Oe:=kf X G jq3B,
  D4:=kf X G jq3k,
  D5:=kf X G jq2o,
  D6:=kf X G jq2p,
  D7:=kf X G jq2q,
  FX:=kf X G jq30,
  FY:=kf X G jq31,
  FZ:=kf X G jq32,
  IT:=kf X G jq3l,
  xO:=kf X G jq2r,
  Of:=kf X G jq3C,
  gm:=⟨jq1Q,jq1R,jq1S⟩,
  IU:=⟨⟨_,_,_,_,_,_,_,_,_,_,_,_,_,_,_,_,jq3D,⟨⟨_,_,_,_,_,jq3F,jq3G⟩,jq3H⟩,(jg.own jq7 (by rw[jq8];exact⟨⟨_,_,_,_,_,jq9,jqa⟩,jqb⟩) jg.base)⟩⟩,
  jqo:=jqo,
  Bw:=⟨⟨_,_,_,_,_,_,_,_,_,_,_,_,_,_,_,_,jq2s,⟨⟨_,_,_,_,_,jq2w,jq2x⟩,jq2y⟩,(jg.own jq7 (by rw[jq8];exact⟨⟨_,_,_,_,_,jq9,jqa⟩,jqb⟩) jg.base)⟩⟩,
  jqd:=jqd,
  Bx:=⟨⟨_,_,_,_,_,_,_,_,_,_,_,_,_,_,_,_,jq2t,⟨⟨_,_,_,_,_,jq2z,jq2A⟩,jq2B⟩,(jg.own jq7 (by rw[jq8];exact⟨⟨_,_,_,_,_,jq9,jqa⟩,jqb⟩) jg.base)⟩⟩,
  jqe:=jqe,
  D8:=⟨⟨_,_,_,_,_,_,_,_,_,_,_,_,_,_,_,_,jq33,⟨⟨_,_,_,_,_,jq36,jq37⟩,jq38⟩,(jg.own jq7 (by rw[jq8];exact⟨⟨_,_,_,_,_,jq9,jqa⟩,jqb⟩) jg.base)⟩⟩,
  jqh:=jqh,
  D9:=⟨⟨_,_,_,_,_,_,_,_,_,_,_,_,_,_,_,_,jq34,⟨⟨_,_,_,_,_,jq39,jq3a⟩,jq3b⟩,(jg.own jq7 (by rw[jq8];exact⟨⟨_,_,_,_,_,jq9,jqa⟩,jqb⟩) jg.base)⟩⟩,
  jqi:=jqi,
  Ea:=⟨⟨_,_,_,_,_,_,_,_,_,_,_,_,_,_,_,_,jq35,⟨⟨_,_,_,_,_,jq3c,jq3d⟩,jq3e⟩,(jg.own jq7 (by rw[jq8];exact⟨⟨_,_,_,_,_,jq9,jqa⟩,jqb⟩) jg.base)⟩⟩,
  jqj:=jqj,
  vt:=⟨⟨_,_,_,_,_,_,_,_,_,_,_,_,_,_,_,_,jq2u,⟨⟨_,_,_,_,_,jq2C,jq2D⟩,jq2E⟩,(jg.own jq7 (by rw[jq8];exact⟨⟨_,_,_,_,_,jq9,jqa⟩,jqb⟩) jg.base)⟩⟩,
  jqf:=jqf,
  oo:=oo,
  oq:=oq,
  rC:=⟨⟨_,_,_,_,_,_,_,_,_,_,_,_,_,_,_,_,jq3m,(jg.own jq7 (by rw[jq8];exact⟨⟨_,_,_,_,_,jq9,jqa⟩,jqb⟩) jg.base),rfl,⟨⟨_,_,_,_,_,jq3o,jq3p⟩,jq3q⟩⟩,jq3u,jq3v,jq3w⟩,
  jql:=jql,
  j4:=j4,
  m8:=m8,
  qc:=⟨⟨_,_,_,_,_,_,_,_,_,_,_,_,_,_,_,_,jq2v,(jg.own jq7 (by rw[jq8];exact⟨⟨_,_,_,_,_,jq9,jqa⟩,jqb⟩) jg.base),rfl,⟨⟨_,_,_,_,_,jq2F,jq2G⟩,jq2H⟩⟩,jq2K,jq2L,jq2M⟩,
  jqg:=jqg,
  ot:=ot,
  tE:=tE,
  wK:=⟨⟨_,_,_,_,_,_,_,_,_,_,_,_,_,_,_,_,jq3n,(jg.own jq7 (by rw[jq8];exact⟨⟨_,_,_,_,_,jq9,jqa⟩,jqb⟩) jg.base),rfl,⟨⟨_,_,_,_,_,jq3r,jq3s⟩,jq3t⟩⟩,jq3x,jq3y,jq3z⟩,
  jqm:=jqm,
  rD:=rD,
  wL:=wL,
  y4:=⟨⟨_,_,_,_,_,_,_,_,_,_,_,_,_,_,_,_,jq3E,(jg.own jq7 (by rw[jq8];exact⟨⟨_,_,_,_,_,jq9,jqa⟩,jqb⟩) jg.base),rfl,⟨⟨_,_,_,_,_,jq3I,jq3J⟩,jq3K⟩⟩,jq3L,jq3M,jq3N⟩,
  jqr:=jqr }
 subst hP;exact⟨fu "law" "law" (az xl) (aw xl) (af xl) .none Xk Xl Xm WJ SX Xn,λs v=>.of_eq rfl,λbase _ _=>ZM amU T⟩
theorem walk {l:PySem.W.OpenLaw}{q:rf}{loose:List Str}{XP:(Str->Option Value)->Heap->Prop}{YP:World->Heap->Prop}{d:DefRec}{K:Params->ba}(hn:l.most=some 63)(hdf:d.params.defaults=[])
  (hY:∀(w:World) (h:Heap),YP w h->(K w.params).In h)
  (F:∀(w:World) (mg:Str->Option Value) (fa:Addr) (h:Heap),(K w.params).In h->h.Ns ka mg->mg d.name=some (.ref fa) ->
   ∃fd:kg,(∀(s:Shared) (u:Value),BindsTo s fd ⟨[u],[]⟩ [("_law_script",u)])/\∀base:Heap,(K w.params).In base->base.Ns ka mg->aT l.prog w (K w.params) mg base CX0 20 fa fd ["_law_script"] (OP (K w.params))) :
  PySem.W.WalkO q loose XP YP l.row.toRowW d [] (λf vs=>PySem.call f vs) :=
 L2.Ul (n:=63) (k:=20) (x:="_law_script") (CX:=λ_=>CX0) (sp:=λw=>OP (K w.params)) hn (by decide) hdf ⟨rfl,by decide,by decide,rfl⟩ hY F (λ_ _ a ns hl _ hS=>⟨a,ns,rfl,hS,hl,λ_=>rfl⟩) λ_ _ _ _ _ z=>z
end My
structure PySem.W.Fast:Prop where(tw6629110457538117044 tw3063510019986662667 tw14336949449441630872 tw12814090129482098582 tw5069663059957827293 tw8471683405251573351 tw16111384151098539322 tw14072449141633852877 tw6636972812486252577 tw8823876323187353492 tw8133811971664526072 tw334746048227479632 tw9672818240217112444 tw7041022867230685383 tw14829002019270661904 tw9577765369904336434 tw7081538179443797056 tw11816422773253458172 tw16197158914128903525 tw6300972164620017584 tw15456841062983965589 tw8911596247126812808 tw14932053135012107842 tw6124152824004784243 tw9142099985025596938 tw9374819411985489890 tw12342516914543778000 tw7390825007378025962 tw16989551948670105258 tw11641416184528956190 tw15272977736381636117 tw3732709768438275058 tw12642051824177693645 tw14783008376850463787 tw18184644854747224290 tw2820987558602006482 tw1576494083910988085 tw14291698033359624637 tw3204610563361742553 tw13267948094131793355 tw13348119151488868793 tw6058307955889823936 tw6776674203059317152 tw11909152295812986347 tw11061598315821258608 tw7167439795148613523 tw18224079030825471388 tw10276865787185158180 tw1345611561901374609 tw11585092861012664811 tw9074845174752861089 tw1947965560265601597 tw10861305429406883829 tw1314021544414595621 tw8535705930353934426 tw10415617111901033466 tw13406505529033424787 tw2599726492654431023 tw12516337377867800046 tw11555026459977095412 tw6484964093181338520 tw14091351611107165534 tw5359887134433464913 tw6472996867757411272 tw7731141418949335382 tw16357307848471153248 tw13232599716327624992 tw2270031793523151320 tw785693932665275649 tw16549389623685510011 tw3198214284215953626 tw3239698990464363187 tw8098995733006568942 tw6178981898941658536 tw4282191233522485124 tw3261480951274336154 tw8372499298995339310 tw3545283710584758105 tw12748754012299918879 tw18411008067346593067 tw10341012506392651447 tw12854805923383799259 tw6716023882747974179 tw13107551568511268394 tw11542236097604241519 tw8123956965383244260 tw18247313442117013446 tw10410051174378651966 tw16390307484011428994 tw12384935924257093102 tw8361428533932312976 tw4270493419649350139 tw18342441500520117956 tw13832263362138520385 tw9304908401632315506 tw12186103439476976391 tw16022422384130490447 tw3054739338030441665 tw18355576917376456651 tw2556651691837729411 tw6316996878943190980 tw1304239629881057334 tw11283326174493456348 tw4949945232479990364 tw16344552778529577305 tw8641224671934668872 tw11991281971313906973 tw13164935643165565973 tw16193332144932069071 tw15171828226669455238 tw5514904397321942009 tw2902626600067884232 tw8704951175507325675 tw4710212545370890266 tw12936304509748756879 tw13104456128808567272 tw6158896649472419170 tw2614752020011467310 tw1505963500030168006 tw13635615966594361939 tw17017359472539299051 tw5434387937709758566 tw17536134406664268124 tw12234861096782899364 tw979426909012563959 tw13661516553492935171 tw1931479291304684113 tw6951343243792726727 tw11035207240977607464 tw16583002593364061674 tw15265075403040726588 tw6306887089646647533 tw15867097052303621249 tw5338278649566856945 tw13699797133637473986 tw10320777051607432664 tw10766735966256054575 tw14422005223502751467 tw3711259624827136889 tw1705235998431001846 tw2118205253908454109 tw14204079197512999241 tw17680160092846677576 tw11754938579637552267 tw8076327166616261282 tw14629284591928727575 tw1124626417230268687 tw5641365833512707123 tw860390211507767615 tw2786228048826025013 tw14382672859339606167 tw5621351461457233247 tw16161184884242489857 tw14183401709235303105 tw8293002147687835217 tw3714476551083486551 tw15036897201929655124 tw6894447018658963278 tw4747190924128676407 tw3785976536639375238 tw15516182487345501866 tw5327534968139949145 tw16022600936795429662 tw11654905165779087469 tw8379135568186745004 tw16108507301516080017 tw16623540792423317030 tw14502601840317117710 tw10175847999111481720 tw13521425289480720019 tw7452738171722946309 tw5518091694740005649 tw12706367254305111317 tw10776074157998450391 tw9959636643123930962 tw10708094522236467065 tw3003820524532088232 tw5402887932275730154 tw10518289078699151756 tw30605302385304229 tw16109260212608885303 tw15260743197283563935 tw2142168977056766792 tw14656540440368281705 tw950654468546581795 tw16622887152354725105 tw7303608611136915809 tw3944113853151852976 tw16866168032208418053 tw11561614559109106600 tw11578809812935102321 tw4684114261981887290 tw14981113801028970823 tw7494405337997248503 tw3778861877292891098 tw44653089970737038 tw2465025842671806766 tw16770576236799762593 tw8211859730779714564 tw5089728979151927656 tw12089884964509638047 tw8432974917103571927 tw17858340164884756597 tw4674680270281078342 tw743641944958786404 tw5879840052811161342 tw14458186109100452904 tw9990904894354229852 tw7349718700399499625 tw6094341546156971078 tw18128731018807482949 tw13466245350973773622 tw9199900211240937404 tw11134425034004128693 tw17373936100937333115 tw14302356033656486112 tw13028625954812318263 tw6578231739687947836 tw16106992722083729303 tw8510876486342560471 tw5450747642535681879 tw1396817611556873828 tw8326991455737556658 tw10970227565773984731 tw9874824761291421230 tw14311796256923855266 tw17797010076754825119 tw1102771582151097348 tw1584494832703907727 tw10664003240971348365 tw13215933644369745495 tw746472954382353136 tw16814972916645950549 tw10113170578623902822 tw10224875692054939997 tw9231322778306828606 tw6239504244480901927 tw16929521796828262640 tw3056828076234580114 tw16311897137125737556 tw3307155155475335201 tw11479562277274513506 tw3167069250793857020 tw33184166592888100 tw9195742991452018123 tw3188475135124401049 tw1184391710877118984 tw5284764647310604242 tw9407975045053509976 tw12923824143898058185 tw10643634908135123068 tw5582780196432339469 tw11392485247208320876 tw17568631829206722557 tw13386938837847631795 tw10475071749635101213 tw12342741530831372613 tw7913713429808467682 tw6992387144429263823 tw17310360843865331772 tw7200183813472663360 tw3032636193399076503 tw16609671112318733897 tw5005238778293688896 tw17091407874674356599 tw17752776145889173320 tw15482010546307524196 tw9275028436715117976 tw3487094871503920967 tw17245972286117563982 tw11937430963579003054 tw6484674324093606157 tw14585934280783972599 tw8624774063185698839 tw7149079522043702428 tw5494795673389778210 tw12539342436018204822 tw12258407171643081983 tw7553318424603809048 tw15475862821676533400 tw2973466218601534214 tw11164803336676925695 tw966601869293526479 tw992773229123615415 tw3542476398248105777 tw13287914410825411046 tw4569121500959744727 tw17591935998912801691 tw6445626181879322274 tw16154745621354941199 tw11943464569512181584 tw8593311684377290071 tw884644305873724766 tw13293330009527984779 tw10489690523726038017 tw2164959821577368957 tw15055521328379814892 tw10353361370009319929 tw14444696211287100698 tw16946349146582847777 tw3014162822839874732 tw14956061165624459601 tw6723756017573263066 tw3410835571623847011 tw15790027334626508857 tw18338531970116881681 tw8531164457289682797 tw14241950007918629313 tw18107339788471741755 tw7038817588128572428 tw2230243221702388251 tw5367949750062741005 tw2069366851342178631 tw7043884398150705958 tw7004086488667093536 tw571571786094218176 tw14500623717368627232 tw15090223477855243760 tw2204853498055535560 tw11396949246284572416 tw7975839190789439175 tw1880068038297986854 tw4653705964747502918 tw11375622527680168037 tw12709237835778598425 tw14861625023596511391 tw3140629924953205434 tw17874434390763962141 tw3084143519681527176 tw14412555893398665716 tw4068797695106665922 tw14508976437260577325 tw2839028541138491048 tw4543305992323403679 tw16969207010856234833 tw5290726843835576973 tw5209251863905167519 tw2464029456414868468 tw5733422145307224040 tw11207971684893908041 tw1815903212337869500 tw13246531692750798003 tw2968519019536428297 tw17504729421634878428 tw6943854357776758865 tw11874864889625119126 tw51835968943673803 tw11583361491780353320 tw15451013516695046493 tw18396501611200649928 tw6673010373854783075 tw10949599636176320016 tw6960136319629726982 tw1144447951681870314 tw1228803923393040348 tw15521336286156350685 tw15617370502299190051 tw8595631279955625872 tw11919283706188379676 tw9443598473520903837 tw16691969138562105722 tw1103085135005501404 tw12425486147145976168 tw6956073224306201008 tw16968329594879201074 tw8645633343488240754 tw8680359946080374136 tw7699415922695650784 tw18107315129843213624 tw11193994044710935846 tw1297964829132772686 tw14101401850071295927 tw17191585409999991533 tw15009835087139618870 tw1320235973565988066 tw10132860121831575151 tw12305612651285564662 tw17613182300385659889 tw6074314085701823290 tw7374170969514343749 tw8647225231361928480 tw18173208188622291702 tw15543855714837368672 tw11089786222086668891 tw14744143018143887753 tw17347330389616088267 tw16104992709144093530 tw7440503419479572211 tw15300404144329818633 tw15907222595952312737 tw6540843120276532220 tw4870849522821522099 tw7967377693508619300 tw5928648327374794997 tw3986536266427742113 tw15173461125046237445 tw5903196647944748881 tw3898593019431182764 tw763348355065352764 tw7419630057348568333 tw1428956914896514234 tw7068279851329173643 tw11468092810497978879 tw18161648716867921008 tw2725393335362164253 tw2749713319990162116 tw2628583207491757902 tw17051592202831224704 tw4740377282839356529 tw16177895530756118432 tw10445201002401531395 tw16764360039659830294 tw11248362590886461521 tw2748947955015781510 tw11900442032634390354 tw6413797136476473146 tw8615781291478722747 tw3335570470650898777 tw13686184563669197002 tw15754641268901807528 tw857290702253575832 tw1901631674909010608 tw3843134185342055790 tw8396545111102684509 tw17624005373844912893 tw10295714840760328326 tw14152551701500607839 tw6666731935234889744 tw713766549226862994 tw13087680323461588351 tw5809093884375505096 tw12244459188321281382 tw9456388473942491983 tw12063922956419891290 tw2021214117227522731 tw13598949131251100505 tw4266196408698068396 tw16723752502099039590 tw7037084334163860050 tw4210033592640374461 tw3358562814047572107 tw6453728597159349507 tw6844283478291301693 tw6002697573613737834 tw14967241989527245921 tw11257120099770165963 tw4774752310310314568 tw17023385934738090795 tw7631932507328832945 tw3182967634572926563 tw7353795470308907056 tw2876170870100816139 tw2988277150439955867 tw4754866476420330198 tw14583420900462117279 tw3408143233080077522 tw11006240573856042684 tw6071624874653269866 tw8711308870547604403 tw18424830172120340543 tw15162295173838383453 tw3631430627592299232 tw957648169278165658 tw4769937929740553573 tw5204896405754107112 tw13715142310980982768 tw13825829436344973213 tw1946262529962085540 tw15524995598001658775 tw4094186815515181757 tw3647391902616178223 tw8195875216419878167 tw8033665516164652017 tw16409972044288405711 tw4939176678321553049 tw14863164854904109782 tw14056402056557841174 tw10725765316484749674 tw453139715652277498 tw4071335893950798765 tw14767312898630428526 tw9455715661460348477 tw7066708183834153442 tw7930133446848393886 tw191412444152080634 tw7006619306652597141 tw8610582332434848058 tw15272185464027929839 tw1647978997692818264 tw1361089791886222513 tw7772759184103522089 tw3757335040580326468 tw3159697502842247380 tw18387327081383692130 tw8968301343794283552 tw166630663590854698 tw4184825765151983600 tw4422884361133175884 tw2293232436818409315 tw16847658385056455104 tw7841665221067298672 tw4904925655817319499 tw7096624320007074171 tw1327009652389232130 tw3043432316483039509 tw13225223237115264248 tw6945436902323680032 tw8503207670667350870 tw13926174637036546482 tw17415056046822912543 tw8652706678007485964 tw4923187222761543728 tw16512790049169643793 tw9680642238904151559 tw17543252107335590206 tw11882867349585462017 tw17304036431706151223 tw10948175803591838266 tw17859620020858066367 tw9860036421094714639 tw9222164587569664491 tw5274585891299403254 tw6228889978104926429 tw17035773919927041141 tw1730025039505396345 tw16047491804789806579 tw1755335271603861150 tw948693081895639649 tw14814186699465518321 tw1906680748461702017 tw7871675436115622237 tw9685519256249109165 tw9472695242776145340 tw18088035873559577378 tw12458358995118339063 tw6440593762680426434 tw5962462487544256043 tw9848857176414230786 tw12757717435681573418 tw12684097256192285472 tw14961189765435707475 tw6047268699348799556 tw5406871640860497080 tw5582699700601053893 tw5508862054673552255 tw4550799762136263958 tw1482270988602832257 tw11316865644524173778 tw15159478622552408666 tw6500932276962733660 tw3044679540689867066 tw9744125388647977412 tw5741948948333836988 tw5054515345819521588 tw15980603516622390644 tw13757505349319475688 tw7090832424050052658 tw9074877230441871390 tw3819110058530454953 tw375987308696137322 tw100556970338620299 tw12956625609451973097 tw17807034574040729778 tw12544713976332917430 tw6920174429215860872 tw7484948844878979635 tw16839269014453169033 tw668804502857268478 tw5252869635277891501 tw5867408984903380863 tw5207572315630871500 tw10282117827304873268 tw16901909338730302869 tw11872549380000080242 tw5402370063529432572 tw12621487594446866129 tw7121691697554075009 tw16437399171966598737 tw11933855417178893781 tw7622721120038066758 tw8904406886672739302 tw13239850794086295671 tw15068242331151092605 tw318313495789743790 tw1882768681560385290 tw3088130570887324091 tw1315094045312389277 tw4832472960539347484 tw14868051977065307849 tw10493956068188420937 tw6531340904914250966 tw540645693674734381 tw5654712118726843995 tw18148654946911715350 tw6815092052478948793 tw11068535224982957523 tw11402340582991989717 tw6322500565548784486 tw1532852877678173212 tw14300337443070210405 tw9082285180771953050 tw17349412431946682939 tw4098417502187868381 tw3269137541151306535 tw12669791961758491804 tw7782189779227510238 tw13977250936566216896 tw9671444248708495595 tw14545249460850718683 tw6785591244295805762 tw17973238892104265806 tw2632418113154808811 tw2752343026110435050 tw3629246801847558278 tw9462311355431508311 tw17161941669050885119 tw12329352031788873273 tw3397425357119076769 tw12892410553515994755 tw17928216893085056810 tw15097298542414532276 tw5991183824072745423 tw15229985609337818746 tw2598104229310819989 tw5451543540523708906 tw12911170596014665219 tw4588123738918914112 tw7636552067379528759 tw14962377104034549899 tw15377977604267102222 tw6941555555834053700 tw14918221120495441623 tw5450805650472286052 tw566048371310973470 tw18073941708892153401 tw1582434550610122429 tw15395305627337899976 tw8448889139367924657 tw18147127720538735446 tw13359430376792192131 tw18039070148312550488 tw439910059877844569 tw11567621796097263982 tw15682702894775483263 tw6212398213539894025 tw8632163730550875825 tw9869007249942924307 tw8562549680633537845 tw17213161034315898580 tw3906480847372707835 tw5793562084455230686 tw17003534742621179145 tw9846291360372676265 tw6718017087855361977 tw1986157359346808577 tw13903671045338355265 tw3633926023704796051 tw487721185661051823 tw8977146455209930932 tw10971863980175370748 tw11629658750296223980 tw18018833511463514211 tw3803456497365428029 tw14374403774315750998 tw17336303223778828128 tw11673934153498410983 tw3707909081015390084 tw16499912650512204376 tw13426411931086687968 tw8614870667675853766:True)
open PySem PySem.W PyProof.Rows
set_option maxRecDepth 100000 in
set_option maxHeartbeats 0 in
theorem PySem.Challenge.cw_moot_k31_whole_minutes_read_back_holds : PySem.Challenge.rw_moot_k31_whole_minutes_read_back.Holds := by
 w_on;o_law;k_head;(case hw=>w_witness2)
 k_fill;refine My.walk (l:=PySem.Challenge.rw_moot_k31_whole_minutes_read_back) rfl rfl (λw h Y=>PySem.W.kIn_of Y) ?F
 case F =>
  intro w mg fa h KX G hmg;refine' My.all_mk KX G hmg rfl ?a_1 ?l_1 ?cc_1 ?kp_1 ?a_2 ?l_2 ?cc_2 ?kp_2 ?a_3 ?l_3 ?cc_3 ?kp_3 ?a_4 ?l_4 ?cc_4 ?kp_4 ?a_5 ?l_5 ?cc_5 ?kp_5 ?a_6 ?l_6 ?cc_6 ?kp_6 ?a_7 ?l_7 ?cc_7 ?kp_7 ?a_8 ?l_8 ?cc_8 ?kp_8 ?a_9 ?l_9 ?cc_9 ?kp_9 ?a_10 ?l_10 ?jq5o ?jq5p ?a_11 ?l_11 ?jq5q ?jq5r ?a_12 ?l_12 ?jq5s ?jq5t ?a_13 ?l_13 ?jq5u ?jq5v ?a_14 ?l_14 ?jq5w ?jq5x ?a_15 ?l_15 ?jq5y ?jq5z ?a_16 ?l_16 ?jq5A ?jq5B ?a_17 ?l_17 ?jq5C ?jq5D ?a_18 ?l_18 ?jq5E ?jq5F ?a_19 ?l_19 ?jq5G ?jq5H ?a_20 ?l_20 ?jq5I ?jq5J ?a_21 ?l_21 ?jq5K ?jq5L ?a_22 ?l_22 ?jq5M ?jq5N ?a_23 ?l_23 ?jq5O ?jq5P ?a_24 ?l_24 ?jq5Q ?jq5R ?a_25 ?l_25 ?jq5S ?jq5T ?a_26 ?l_26 ?jq5U ?jq5V ?a_27 ?l_27 ?jq5W ?jq5X ?a_28 ?l_28 ?jq5Y ?jq5Z ?a_29 ?l_29 ?jq60 ?jq61 ?a_30 ?l_30 ?jq62 ?jq63 ?a_31 ?l_31 ?jq64 ?jq65 ?a_32 ?l_32 ?jq66 ?jq67 ?a_33 ?l_33 ?jq68 ?jq69 ?a_34 ?l_34 ?jq6a ?jq6b ?a_35 ?l_35 ?jq6c ?jq6d ?a_36 ?l_36 ?jq6e ?jq6f ?a_37 ?l_37 ?jq6g ?jq6h ?a_38 ?l_38 ?jq6i ?jq6j ?a_39 ?l_39 ?jq6k ?jq6l ?a_40 ?l_40 ?jq6m ?jq6n ?a_41 ?l_41 ?jq6o ?jq6p ?a_42 ?l_42 ?jq6q ?jq6r ?a_43 ?l_43 ?jq6s ?jq6t ?z1 ?z2 ?z3 ?z4 ?z5 ?z6 ?z7 ?z8 ?z9 ?z10 ?z11 ?z12 ?z13 ?jq2R ?jq1T ?jq2i ?jq1U ?jq2S ?jq3P ?jq3Q ?jq2j ?ac0 ?ac1 ?ac2 ?ac3 ?ac4 ?ac5 ?ac6 ?ac7 ?acm ?atb ?ltb ?ktb ?kas ?tlo ?rk0 ?rk1 ?rk2 ?rk3 ?rk4 ?rk5 ?rk6 ?rk7 ?pg0 ?hd0 ?po0 ?sa0 ?mk0 ?kc0 ?pg1 ?hd1 ?po1 ?sa1 ?mk1 ?kc1 ?pg2 ?hd2 ?po2 ?sa2 ?mk2 ?kc2 ?pg3 ?hd3 ?po3 ?sa3 ?mk3 ?kc3 ?pg4 ?hd4 ?po4 ?sa4 ?mk4 ?kc4 ?pg5 ?hd5 ?po5 ?sa5 ?mk5 ?kc5 ?pg6 ?hd6 ?po6 ?sa6 ?mk6 ?kc6 ?pg7 ?hd7 ?po7 ?sa7 ?mk7 ?kc7 ?jq3R ?jq6u ?jq4p ?jq3S ?jq4q ?jq3T ?jq6v ?jq4r ?jq3U ?jq4s ?jq3V ?jq6w ?jq4t ?jq3W ?jq4u ?jq3X ?jq6x ?jq4v ?jq3Y ?jq4w ?jq3Z ?jq6y ?jq4x ?jq40 ?jq4y ?jq41 ?jq6z ?jq4z ?jq42 ?jq4A ?jq43 ?jq6A ?jq4B ?jq44 ?jq4C ?jq45 ?jq6B ?jq4D ?jq46 ?jq4E ?jq4F ?jq4G ?jq4H ?jq4I ?jq4J ?jq4K ?jq4L ?jq4M ?l_mr ?jq6C ?jq2n ?jq2P ?jq4N ?jq4O ?jq4P ?jq4Q ?jq4R ?jq4S ?jq4T ?l_mn ?jq6D ?jq2Q ?jq3j ?jq47 ?jq6E ?jq4U ?jq48 ?jq4V ?jq4W ?jq4X ?jq4Y ?l_mt ?jq6F ?jq3O ?jq4o ?jq49 ?jq6G ?jq4Z ?jq4a ?jq50 ?jq4b ?jq6H ?jq51 ?jq4c ?jq52 ?jq4d ?jq6I ?jq53 ?jq4e ?jq54 ?jq4f ?jq6J ?jq55 ?jq4g ?jq56 ?jq4h ?jq6K ?jq57 ?jq4i ?jq58 ?jq4j ?jq6L ?jq59 ?jq5a ?jq5b ?jq4k ?jq6M ?jq5c ?jq5d ?jq5e ?jq4l ?jq6N ?jq5f ?jq5g ?jq5h ?jq4m ?jq6O ?jq5i ?jq5j ?jq5k ?jq4n ?jq6P ?jq5l ?jq5m ?jq5n ?na0 ?na1 ?na2 ?na3 ?na7 ?ni4 ?ni5 ?ni6 ?jq2T ?jq2U ?jq2V ?jq2W ?jq2X ?jq2Y ?jq2Z ?jq1V ?jq2d ?jq1W ?jq1X ?jq1Y ?jq1Z ?jq2e ?jq20 ?jq1s ?jq21 ?jq22 ?jq2f ?jq23 ?jq1t ?jq24 ?jq25 ?jq2g ?jq26 ?jq1u ?jq27 ?jq28 ?jq2h ?jq29 ?jq1v ?jq2a ?jq1n ?jq1w ?jq1o ?jqT ?jq1p ?jq1L ?jq2b ?jq1M ?jq1m ?jq1N ?jq1D ?jq1O ?jq1E ?jq1c ?jq1F ?jqU ?jq12 ?jqV ?jqz ?jqW ?jq16 ?jq1e ?jq17 ?jqE ?jq18 ?jq1x ?jq1G ?jq1y ?jq13 ?jq1z ?jq1A ?jq1H ?jq1B ?jq14 ?jq1C ?jq19 ?jq1f ?jq1a ?jqF ?jq1b ?jqt ?jqy ?jqu ?jqn ?jqv ?jqB ?jqG ?jqC ?jqp ?jqD ?jqH ?jqM ?jqI ?jqq ?jqJ ?jq1I ?jq1P ?jq1J ?jq1d ?jq1K ?jqX ?jq15 ?jqY ?jqA ?jqZ ?jq1g ?jq1q ?jq1h ?jqK ?jq1i ?jqN ?jq10 ?jqO ?jqw ?jqP ?jqQ ?jq11 ?jqR ?jqx ?jqS ?jq1j ?jq1r ?jq1k ?jqL ?jq1l ?jqs ?jq1 ?jq3 ?jq2 ?jq0 ?jq5 ?jqk ?jq4 ?jq6 ?jqc ?jq2c ?jq3B ?jq3k ?jq2o ?jq2p ?jq2q ?jq30 ?jq31 ?jq32 ?jq3l ?jq2r ?jq3C ?jq3D ?jq2s ?jq2t ?jq33 ?jq34 ?jq35 ?jq2u ?jq3m ?jq2v ?jq3n ?jq3E ?jq7 ?jq8 ?jq3F ?jq3G ?jq3H ?jq9 ?jqa ?jqb ?jq2w ?jq2x ?jq2y ?jq2z ?jq2A ?jq2B ?jq36 ?jq37 ?jq38 ?jq39 ?jq3a ?jq3b ?jq3c ?jq3d ?jq3e ?jq2C ?jq2D ?jq2E ?jq3o ?jq3p ?jq3q ?jq2F ?jq2G ?jq2H ?jq3r ?jq3s ?jq3t ?jq3I ?jq3J ?jq3K ?jq1Q ?jq1R ?jq1S ?jqo ?jqd ?jqe ?jqh ?jqi ?jqj ?jqf ?jq3f ?jq2I ?jq2J ?jq3u ?jq3v ?jq3w ?jql ?jq2m ?jq2k ?jq2l ?jq2K ?jq2L ?jq2M ?jqg ?jq3g ?jq2N ?jq2O ?jq3x ?jq3y ?jq3z ?jqm ?jq3A ?jq3h ?jq3i ?jq3L ?jq3M ?jq3N ?jqr
  (case a_1 | l_1 | cc_1 | kp_1 | a_2 | l_2 | cc_2 | kp_2 | a_3 | l_3 | cc_3 | kp_3 | a_4 | l_4 | cc_4 | kp_4 | a_5 | l_5 | cc_5 | kp_5 | a_6 | l_6 | cc_6 | kp_6 | a_7 | l_7 | cc_7 | kp_7 | a_8 | l_8 | cc_8 | kp_8 | a_9 | l_9 | cc_9 | kp_9 | a_10 | l_10 | jq5o | jq5p | a_11 | l_11 | jq5q | jq5r | a_12 | l_12 | jq5s | jq5t | a_13 | l_13 | jq5u | jq5v | a_14 | l_14 | jq5w | jq5x | a_15 | l_15 | jq5y | jq5z | a_16 | l_16 | jq5A | jq5B | a_17 | l_17 | jq5C | jq5D | a_18 | l_18 | jq5E | jq5F | a_19 | l_19 | jq5G | jq5H | a_20 | l_20 | jq5I | jq5J | a_21 | l_21 | jq5K | jq5L | a_22 | l_22 | jq5M | jq5N | a_23 | l_23 | jq5O | jq5P | a_24 | l_24 | jq5Q | jq5R | a_25 | l_25 | jq5S | jq5T | a_26 | l_26 | jq5U | jq5V | a_27 | l_27 | jq5W | jq5X | a_28 | l_28 | jq5Y | jq5Z | a_29 | l_29 | jq60 | jq61 | a_30 | l_30 | jq62 | jq63 | a_31 | l_31 | jq64 | jq65 | a_32 | l_32 | jq66 | jq67 | a_33 | l_33 | jq68 | jq69 | a_34 | l_34 | jq6a | jq6b | a_35 | l_35 | jq6c | jq6d | a_36 | l_36 | jq6e | jq6f | a_37 | l_37 | jq6g | jq6h | a_38 | l_38 | jq6i | jq6j | a_39 | l_39 | jq6k | jq6l | a_40 | l_40 | jq6m | jq6n | a_41 | l_41 | jq6o | jq6p | a_42 | l_42 | jq6q | jq6r | a_43 | l_43 | jq6s | jq6t | z1 | z2 | z3 | z4 | z5 | z6 | z7 | z8 | z9 | z10 | z11 | z12 | z13 | jq2R | jq1T | jq2i | jq1U | jq2S | jq3P | jq3Q | jq2j | ac0 | ac1 | ac2 | ac3 | ac4 | ac5 | ac6 | ac7 | acm | atb | ltb=>k_is)
  (case ktb=>k_keys)
  (case kas | tlo=>rfl)
  (case rk0 | rk1 | rk2 | rk3 | rk4 | rk5 | rk6 | rk7 | pg0 | hd0 | po0 | sa0 | mk0 | kc0 | pg1 | hd1 | po1 | sa1 | mk1 | kc1 | pg2 | hd2 | po2 | sa2 | mk2 | kc2 | pg3 | hd3 | po3 | sa3 | mk3 | kc3 | pg4 | hd4 | po4 | sa4 | mk4 | kc4 | pg5 | hd5 | po5 | sa5 | mk5 | kc5 | pg6 | hd6 | po6 | sa6 | mk6 | kc6 | pg7 | hd7 | po7 | sa7 | mk7 | kc7 | jq3R | jq6u | jq4p | jq3S | jq4q | jq3T | jq6v | jq4r | jq3U | jq4s | jq3V | jq6w | jq4t | jq3W | jq4u | jq3X | jq6x | jq4v | jq3Y | jq4w | jq3Z | jq6y | jq4x | jq40 | jq4y | jq41 | jq6z | jq4z | jq42 | jq4A | jq43 | jq6A | jq4B | jq44 | jq4C | jq45 | jq6B | jq4D | jq46 | jq4E | jq4F | jq4G | jq4H | jq4I | jq4J | jq4K | jq4L | jq4M | l_mr | jq6C | jq2n | jq2P | jq4N | jq4O | jq4P | jq4Q | jq4R | jq4S | jq4T | l_mn | jq6D | jq2Q | jq3j | jq47 | jq6E | jq4U | jq48 | jq4V | jq4W | jq4X | jq4Y | l_mt | jq6F | jq3O | jq4o | jq49 | jq6G | jq4Z | jq4a | jq50 | jq4b | jq6H | jq51 | jq4c | jq52 | jq4d | jq6I | jq53 | jq4e | jq54 | jq4f | jq6J | jq55 | jq4g | jq56 | jq4h | jq6K | jq57 | jq4i | jq58 | jq4j | jq6L | jq59 | jq5a | jq5b | jq4k | jq6M | jq5c | jq5d | jq5e | jq4l | jq6N | jq5f | jq5g | jq5h | jq4m | jq6O | jq5i | jq5j | jq5k | jq4n | jq6P | jq5l | jq5m | jq5n | na0 | na1 | na2 | na3 | na7 | ni4 | ni5 | ni6 | jq2T | jq2U | jq2V | jq2W | jq2X | jq2Y | jq2Z | jq1V | jq2d | jq1W | jq1X | jq1Y | jq1Z | jq2e | jq20 | jq1s | jq21 | jq22 | jq2f | jq23 | jq1t | jq24 | jq25 | jq2g | jq26 | jq1u | jq27 | jq28 | jq2h | jq29 | jq1v | jq2a | jq1n | jq1w | jq1o | jqT | jq1p | jq1L | jq2b | jq1M | jq1m | jq1N | jq1D | jq1O | jq1E | jq1c | jq1F | jqU | jq12 | jqV | jqz | jqW | jq16 | jq1e | jq17 | jqE | jq18 | jq1x | jq1G | jq1y | jq13 | jq1z | jq1A | jq1H | jq1B | jq14 | jq1C | jq19 | jq1f | jq1a | jqF | jq1b | jqt | jqy | jqu | jqn | jqv | jqB | jqG | jqC | jqp | jqD | jqH | jqM | jqI | jqq | jqJ | jq1I | jq1P | jq1J | jq1d | jq1K | jqX | jq15 | jqY | jqA | jqZ | jq1g | jq1q | jq1h | jqK | jq1i | jqN | jq10 | jqO | jqw | jqP | jqQ | jq11 | jqR | jqx | jqS | jq1j | jq1r | jq1k | jqL | jq1l | jqs | jq1 | jq3 | jq2 | jq0 | jq5 | jqk | jq4 | jq6 | jqc | jq2c | jq3B | jq3k | jq2o | jq2p | jq2q | jq30 | jq31 | jq32 | jq3l | jq2r | jq3C | jq3D | jq2s | jq2t | jq33 | jq34 | jq35 | jq2u | jq3m | jq2v | jq3n | jq3E | jq7=>k_is)
  (case jq8=>rfl)
  (case jq3F=>k_is)
  (case jq3G=>with_unfolding_all rfl)
  (case jq3H | jq9=>k_is)
  (case jqa=>with_unfolding_all rfl)
  (case jqb | jq2w=>k_is)
  (case jq2x=>with_unfolding_all rfl)
  (case jq2y | jq2z=>k_is)
  (case jq2A=>with_unfolding_all rfl)
  (case jq2B | jq36=>k_is)
  (case jq37=>with_unfolding_all rfl)
  (case jq38 | jq39=>k_is)
  (case jq3a=>with_unfolding_all rfl)
  (case jq3b | jq3c=>k_is)
  (case jq3d=>with_unfolding_all rfl)
  (case jq3e | jq2C=>k_is)
  (case jq2D=>with_unfolding_all rfl)
  (case jq2E | jq3o=>k_is)
  (case jq3p=>with_unfolding_all rfl)
  (case jq3q | jq2F=>k_is)
  (case jq2G=>with_unfolding_all rfl)
  (case jq2H | jq3r=>k_is)
  (case jq3s=>with_unfolding_all rfl)
  (case jq3t | jq3I=>k_is)
  (case jq3J=>with_unfolding_all rfl)
  (case jq3K | jq1Q | jq1R | jq1S=>k_is)
  (case jqo | jqd | jqe | jqh | jqi | jqj | jqf=>kts_exm)
  (case jq3f | jq2I | jq2J | jq3u | jq3v | jq3w=>k_is)
  (case jql=>kts_exm)
  (case jq2m | jq2k | jq2l | jq2K | jq2L | jq2M=>k_is)
  (case jqg=>kts_exm)
  (case jq3g | jq2N | jq2O | jq3x | jq3y | jq3z=>k_is)
  (case jqm=>kts_exm)
  (case jq3A | jq3h | jq3i | jq3L | jq3M | jq3N=>k_is)
  (case jqr=>kts_exm)
