import PyProof.Rows.All
import Wide.All
import OpenK.AllK
import Wide.FinOn
import Lean
import PyProof.EqAt
import PyProof.EqKinds
import PyProof.TupleCall
import PySem.Challenge.RW_moot_k32_rows_that_lead_nowhere
set_option Elab.async false
set_option linter.all false
set_option maxRecDepth 100000
set_option maxHeartbeats 4000000
local macro_rules|`(tactic|trivial)=>`(tactic|decide +kernel)
open PySem.Str renaming ofString → ar, join → km, empty → aiT
open PySem.W renaming kitOne → ba, Frag → bo, findIn → cb, keepIn → di, nsIn → eg, codeIn → fu, fnOf → gn, mg_of → kc, isFn → me, exmOne → aiA, mroIn → aiE, hasDictIn → aiH, emptyDict → aiS, mg_none_of → aiV, clsIn → aiX, instObj → ai2, plainGet → ai3, kia_one → ai7, plainOver → ai8, makesIn → ajc, methodCall_KW → ajo, InstAt → ajQ, callWith_K → ajS, looks_findIn → ajV, specialIn → ajW, findObj → aka
open List renaming length_map → da, mem_append_right → ka, mem_cons_self → kb, length_append → ki, mem_cons_of_mem → kj, length_cons → ku, size_toArray → ky, map_cons → ra, map_append → tu, length_singleton → aiw, mem_singleton → aiz, getD_eq_getElem?_getD → aiB, getElem?_eq_getElem → aiG, mem_append_left → aiJ, mem_of_getElem? → aiK, cons_ne_nil → aiO, getElem?_map → aiY, range' → ai0, length_take → ai4, lookup → ai9, eq_nil_or_concat → aje, concat_eq_append → ajf, append_nil → aji, length_drop → ajj, not_mem_nil → ajk, take_length → ajl, getElem?_append_right → ajs, append_assoc → ajv, getElem?_append_left → ajz, length_replicate → ajA, length_range' → ajD, mem_cons → ajE, mem_of_mem_take → ajG, getLast?_concat → ajH, mem_of_mem_drop → ajI, getElem?_cons_zero → ajJ, getElem?_cons_succ → ajK, length_set → ajM, find?_cons → ajN, map_nil → ajY, take_add_one → aj0, any_cons → aj2, map_congr_left → aj4, replicate → aj6, lookup_cons → aj7, range → aj8, mem_append → akb, length_zip → akc
open PySem renaming wpAny_bind → de, sizeLine → gc, mainGlobals → gr, FuncData → kf, wpAny_pure → kq, wpAny_mono → kr, Program → kx, starEach → sr, Spec → aiC, wpAny → aiL, excClassObj → aiM, wpAny_holding → aiU, wpAny_standAt → ai1, bootBuiltins → ai6, keywordEach → ajh, DictEntry → ajp, compareOp → ajw, mem_of_lookup → ajx, wpAny_field → ajy, wpAny_call → ajL, sysModules → ajP, backToKw → ajR, ClassData → ajU, callWith → aj5
open PySem.Heap renaming get?_push_of_some → gp, lt_size → ma, get?_push_size → Lk, get?_update_other → aiP, get?_update_self → ai5, size_push → ajF
open Bool renaming false_ne_true → kg, and_eq_true → aiN, eq_iff_iff → ajb
open Nat renaming le_refl → ko, le_trans → rf, lt_of_lt_of_le → tm, ne_of_lt → wt, le_succ_of_le → aiI, zero_le → aiW, le_succ → ajn, lt_irrefl → akd
open Sum renaming inl → om
open PySem.Value renaming ref → si, none → ajm, bool → ajB
open PySem.F renaming plainAttrs_list → adm, slot_list_append → aiQ, type_list_append → aiR
open Option.some renaming inj → aix
open False renaming elim → aiy
open Ne renaming symm → aiD
open Or renaming inl → aiF
open PySem.PyData renaming strOk → aiZ, str → aja, canLayAll0 → ajt, canLay0 → aju, depth → ajZ, eqv → aj3, depthAll → aj9
open PySem.Obj renaming mapFields → ajd
open PySem.Builtin.Str renaming occurrences → ajg
open PySem.NameKind renaming free → ajq
open True renaming intro → ajr
open Option renaming bind_some → ajC
open PySem.Builtin.SmallTypes renaming fitsIndex → ajO
open PySem.Builtin.Slice renaming slicePlaces → ajT
open PySem.Calls renaming evalArgs_plain → ajX
open PySem.Builtin.Tuple renaming tupleExact → aj1
open Prod.mk renaming injEq → ake
namespace L2
open PySem PySem.Spec PyProof.Rows
abbrev Key:=Sum Int Str
def BH:Key->Value->Bool
 | .inl k,v=>Value.isInt k v
 | .inr x,v=>Value.isStrOf x v
def afU (w:World):Key->Int
 | .inl k=>hashInt k
 | .inr x=>hashStr w x
theorem ei:∀ {k:Key} {v:Value},BH k v=true->(∃i t,k=om i/\v=Value.int i t)\/(∃x t,k=Sum.inr x/\v=Value.str x t)
 | .inl i,v,h=>by
  obtain⟨t,e⟩:=Value.isInt_shape (k:=i) (v:=v) h;exact .inl ⟨i,t,rfl,e⟩
 | .inr x,v,h=>by
  obtain⟨t,e⟩:=Value.isStrOf_shape (x:=x) (v:=v) h;exact .inr ⟨x,t,rfl,e⟩
theorem K4 (i:Int)(t:Tok):BH (.inl i) (.int i t)=true:=by simp[BH,Value.isInt]
theorem K5 (x:Str)(t:Tok):BH (.inr x) (.str x t)=true:=by simp[BH,Value.isStrOf]
theorem TH (a b:Int):decide ((om a:Key)=om b)=(a == b):=by
 by_cases e:a=b
 ·subst e;simp
 ·have h:¬(om a:Key)=om b:=λq=>e (Sum.inl.inj q)
  rw[decide_eq_false h];exact(beq_eq_false_iff_ne.mpr e).symm
theorem TK (a b:Str):decide ((Sum.inr a:Key)=Sum.inr b)=decide (a=b):=by
 by_cases e:a=b
 ·subst e;simp
 ·have h:¬(Sum.inr a:Key)=Sum.inr b:=λq=>e (Sum.inr.inj q)
  rw[decide_eq_false h,decide_eq_false e]
theorem TL (a:Int)(b:Str):decide ((om a:Key)=Sum.inr b)=false:=decide_eq_false (λq=>nomatch q)
theorem TM (a:Str)(b:Int):decide ((Sum.inr a:Key)=om b)=false:=decide_eq_false (λq=>nomatch q)
def eO (prog:kx)(w:World):PySem.KeyKind prog w Key where
 is:=BH
 hash:=afU w
 inj:=λv a b ha hb=>by
  rcases ei ha with ⟨i,t,rfl,rfl⟩ | ⟨x,t,rfl,rfl⟩
  ·rcases ei hb with ⟨j,u,rfl,e⟩ | ⟨y,u,rfl,e⟩
   ·injection e with e1 _;rw[e1]
   ·exact nomatch e
  ·rcases ei hb with ⟨j,u,rfl,e⟩ | ⟨y,u,rfl,e⟩
   ·exact nomatch e
   ·injection e with e1 _;rw[e1]
 byValue:=λk v h=>by
  rcases ei h with ⟨i,t,rfl,rfl⟩ | ⟨x,t,rfl,rfl⟩ <;> rfl
 pyHash:=λhv h=>by
  rcases ei hv with ⟨i,t,rfl,rfl⟩ | ⟨x,t,rfl,rfl⟩
  ·exact wpAny_pyHash_int h
  ·exact wpAny_pyHash_str h
 eqBool:=λhu hv h=>by
  rcases ei hu with ⟨i,t,rfl,rfl⟩ | ⟨x,t,rfl,rfl⟩
  ·rcases ei hv with ⟨j,u,rfl,rfl⟩ | ⟨y,u,rfl,rfl⟩
   ·rw[TH]at h;exact wpAny_eqBool_int h
   ·rw[TL]at h;exact SeqAt.EqAt.int_str i t y u _ _ _ _ h
  ·rcases ei hv with ⟨j,u,rfl,rfl⟩ | ⟨y,u,rfl,rfl⟩
   ·rw[TM]at h;exact SeqAt.EqAt.str_int x t j u _ _ _ _ h
   ·rw[TK]at h;exact wpAny_eqBool_str h
 «strs»:=λk x t v h=>by
  rcases ei h with ⟨i,u,rfl,e⟩ | ⟨y,u,rfl,e⟩
  ·exact nomatch e
  ·injection e with e1 _
   subst e1;cases v <;> rfl
theorem D1 (prog:kx)(w:World)(i:Int)(t:Tok):(eO prog w).is (.inl i) (.int i t)=true:=K4 i t
theorem D2 (prog:kx)(w:World)(x:Str)(t:Tok):(eO prog w).is (.inr x) (.str x t)=true:=K5 x t
inductive V where
 |non | bl (b:Bool) | int (i:Int) | str (x:Str) | byt (b:Array UInt8) | flt (b:UInt64) | ref (a:Addr) | ty (n:String)
 deriving DecidableEq
def RelV:V->Value->Prop
 | .non,u=>u=ajm
 | .bl b,u=>u=ajB b
 | .int i,u=>∃t,u=Value.int i t
 | .str x,u=>∃t,u=Value.str x t
 | .byt b,u=>∃t,u=Value.bytes b t
 | .flt b,u=>∃t,u=Value.float b t
 | .ref a,u=>u=si a
 | .ty n,u=>u=Value.type n
abbrev Vals:List V->List Value->Prop:=Paired RelV
theorem Vals.length {xs:List V}{us:List Value}(r:Vals xs us):xs.length=us.length:=Paired.length r
theorem Vals.get:∀ {xs:List V} {us:List Value} {i:Nat} {x:V},Vals xs us->xs[i]?=some x->∃u,us[i]?=some u/\RelV x u
 |_,_,_,_,.nil,e=>by simp at e
 |_,_,0,_,.cons r _,e=>by simp at e;subst e;exact⟨_,rfl,r⟩
 |_,_,i+1,x,.cons _ t,e=>by
  obtain⟨u,h1,h2⟩:=Vals.get (i:=i) (x:=x) t (by simpa using e)
  exact⟨u,by simpa using h1,h2⟩
theorem Vals.set {x:V}{u:Value}(r:RelV x u):∀ {xs:List V} {us:List Value} (i:Nat),Vals xs us->Vals (xs.set i x) (us.set i u)
 |_,_,_,.nil=>.nil
 |_,_,0,.cons _ t=>.cons r t
 |_,_,i+1,.cons q t=>.cons q (Vals.set r i t)
theorem Vals.append:∀ {xs ys:List V} {us ws:List Value},Vals xs us->Vals ys ws->Vals (xs++ys) (us++ws)
 |_,_,_,_,.nil,s=>s
 |_,_,_,_,.cons r t,s=>.cons r (Vals.append t s)
theorem Vals.take:∀ {xs:List V} {us:List Value} (n:Nat),Vals xs us->Vals (xs.take n) (us.take n)
 |_,_,0,_=>.nil
 |_,_,_+1,.nil=>.nil
 |_,_,n+1,.cons r t=>.cons r (Vals.take n t)
theorem Vals.drop:∀ {xs:List V} {us:List Value} (n:Nat),Vals xs us->Vals (xs.drop n) (us.drop n)
 |_,_,0,r=>r
 |_,_,_+1,.nil=>.nil
 |_,_,n+1,.cons _ t=>Vals.drop n t
theorem Vals.none_of:∀ {xs:List V} {us:List Value} {i:Nat},Vals xs us->xs[i]?=none->us[i]?=none:=λ{xs us i} r e=>by
 have h1:=r.length;have h2:xs.length<=i:=List.getElem?_eq_none_iff.mp e;exact List.getElem?_eq_none_iff.mpr (by omega)
def oe:Option V->Option Value->Prop
 |some v,some u=>RelV v u
 |none,none=>True
 |_,_=>False
def KV {κ:Type}:List (κ×V)->List (κ×Value)->Prop:=Paired λ(p:κ×V) (q:κ×Value)=>p.1=q.1/\RelV p.2 q.2
def kV:Key->V
 | .inl i=>.int i
 | .inr x=>.str x
inductive HO where
 |lst (xs:List V)
 |tup (xs:List V)
 |dK (kvs:List (Key×V)) | dT (kvs:List (List Key×V))
 |set (S:Int->Bool) (n:Nat)
 |ins (C dx:Addr) (fs:List (Str×V))
 |own (x:Addr)
 |xd (fs:List (Str×V))
 |met (f x:Addr)
 |rng (lo hi:Int)
 |frz (o:Obj) (u:HO)
 |tbl (ps:Array Value)
 |ext (φ:Heap->Prop)
abbrev Hp:=Addr->Option HO
def upd (H:Hp)(a:Addr)(o:HO):Hp:=λb=>if b=a then some o else H b
theorem ae {H:Hp}{a:Addr}{o:HO}:upd H a o a=some o:=by unfold upd;rw[if_pos rfl]
theorem av {H:Hp}{a b:Addr}{o:HO}(h:b≠a):upd H a o b=H b:=by unfold upd;rw[if_neg h]
theorem mR {H:Hp}{a:Addr}{o u:HO}:upd (upd H a o) a u=upd H a u:=by
 funext b;unfold upd;split <;> rfl
theorem YE {H:Hp}{a b:Addr}{o u:HO}(h:H a=some o)(h':H b=some u)(d:o≠u):a≠b:=by
 intro e;subst e;rw[h]at h';exact d (aix h')
theorem aC {H:Hp}{a b:Addr}{o:HO}(h:H a=some o)(h':H b=none):a≠b:=by
 intro e;subst e;rw[h]at h';cases h'
section
variable(P:kx)(w:World)
def d4 (H:Hp)(h:Heap)(a:Addr):HO->Prop
 | .lst xs=>xs.length<=gc/\∃(its:List Value) (n:Nat),Vals xs its/\h.get? a=some { cls:=.type "list",data:=.seq its.toArray n }
 | .tup xs=>xs.length<=gc/\∃its:List Value,Vals xs its/\IsTup h a its.toArray
 | .dK kvs=>kvs.length<=gc/\(a == ajP)=false/\∃vs,KV kvs vs/\h.DictOf (eO P w) a vs
 | .dT kvs=>kvs.length<=gc/\(a == ajP)=false/\∃xs:List (List Key×Addr×Value),
   Paired (λ(p:List Key×V) (q:List Key×Addr×Value)=>p.1=q.1/\H q.2.1=some (.tup (p.1.map kV))/\RelV p.2 q.2.2) kvs xs /\
   ∃o es ep,h.get? a=some o/\o.ExactDict/\o.data=.dict es ep/\es.toList=xs.map (entryOfKey (tupleKind (eO P w)))/\(xs.map (·.1)).Nodup
 | .set S n=>h.SetOf (intKind P w) a S n
 | .ins C dx fs=>H dx=some (.own a)/\fs.length<=1000/\dx≠a/\h.get? a=some (ai2 C dx) /\
   ∃mA,h.Ns1 dx mA/\(∀f,oe (fs.lookup f) (mA f))/\PySem.Within mA (fs.map (·.1))
 | .own _=>∃o,h.get? a=some o
 | .xd fs=>∃mA,h.Ns1 a mA/\∀f,oe (fs.lookup f) (mA f)
 | .rng lo hi=>∃t u v,h.get? a=some { cls:=.type "range",data:=.fields #[.int lo t,.int hi u,.int 1 v] }
 | .frz o u=>h.get? a=some o/\d4 H h a u
 | .tbl ps=>h.get? a=some { cls:=.none,data:=.fields ps }
 | .met f x=>h.get? a=some (PySem.W.methodObj (.ref f) (.ref x))
 | .ext φ=>φ h/\(∃o,h.get? a=some o)/\∀h1 h2:Heap,φ h1->(∀o,h1.get? a=some o->h2.get? a=some o)->φ h2
def HOk (H:Hp)(h:Heap):Prop:=∀a o,H a=some o->d4 P w H h a o
end
section
variable{P:kx}{w:World}{H H':Hp}{h h':Heap}{a:Addr}{o:HO}
theorem d4.lt (x:d4 P w H h a o):a < h.objs.size:=by
 cases o with
 |lst xs=>obtain⟨_,_,_,_,e⟩:=x;exact ma e
 |tup xs=>obtain⟨_,_,_,p⟩:=x;exact p.lt
 |dK kvs=>obtain⟨_,_,_,_,o,_,_,e,_⟩:=x;exact ma e
 |dT kvs=>obtain⟨_,_,_,_,o,_,_,e,_⟩:=x;exact ma e
 |set S n=>obtain⟨o,_,_,_,e,_⟩:=x;exact ma e
 |ins C dx fs=>obtain⟨_,_,_,e,_⟩:=x;exact ma e
 |own y=>obtain⟨_,e⟩:=x;exact ma e
 |xd fs=>obtain⟨_,⟨_,_,_,e,_⟩,_⟩:=x;exact ma e
 |rng lo hi=>obtain⟨_,_,_,e⟩:=x;exact ma e
 |frz ob u=>obtain⟨e,_⟩:=x;exact ma e
 |tbl ps=>exact ma (show h.get? a=some _ from x)
 |met f y=>exact ma (show h.get? a=some _ from x)
 |ext φ=>obtain⟨_,⟨_,e⟩,_⟩:=x;exact ma e
theorem Paired.TN {α β:Type}{F G:α->β->Prop}:∀ {l₁:List α} {l₂:List β},Paired F l₁ l₂->(∀a b,F a b->G a b)->Paired G l₁ l₂
 |_,_,.nil,_=>.nil
 |_,_,.cons r t,f=>.cons (f _ _ r) (Paired.TN t f)
theorem d4.zu (x:d4 P w H h a o)(k:∀b u,(b=a\/H b=some (.own a))->h.get? b=some u->h'.get? b=some u)
  (ho:∀b,H b=some (.own a)->H' b=some (.own a)) (ht:∀b xs,H b=some (.tup xs)->H' b=some (.tup xs)):d4 P w H' h' a o:=by
 induction o with
 |lst xs=>obtain⟨z,its,n,r,e⟩:=x;exact⟨z,its,n,r,k _ _ (.inl rfl) e⟩
 |tup xs=>obtain⟨z,its,r,ob,e,c⟩:=x;exact⟨z,its,r,ob,k _ _ (.inl rfl) e,c⟩
 |dK kvs=>obtain⟨z,y,vs,r,ob,es,ep,e,c⟩:=x;exact⟨z,y,vs,r,ob,es,ep,k _ _ (.inl rfl) e,c⟩
 |dT kvs =>
  obtain⟨z,y,xs,r,ob,es,ep,e,c⟩:=x;exact⟨z,y,xs,Paired.TN r λp q z=>⟨z.1,ht _ _ z.2.1,z.2.2⟩,ob,es,ep,k _ _ (.inl rfl) e,c⟩
 |set S n=>obtain⟨ob,es,ep,t,e,c⟩:=x;exact⟨ob,es,ep,t,k _ _ (.inl rfl) e,c⟩
 |ins C dx fs =>
  obtain⟨d,z,ne,e,mA,⟨od,es,ep,e2,c⟩,r⟩:=x;exact⟨ho _ d,z,ne,k _ _ (.inl rfl) e,mA,⟨od,es,ep,k _ _ (.inr d) e2,c⟩,r⟩
 |own y=>obtain⟨ob,e⟩:=x;exact⟨ob,k _ _ (.inl rfl) e⟩
 |xd fs=>obtain⟨mA,⟨od,es,ep,e,c⟩,r⟩:=x;exact⟨mA,⟨od,es,ep,k _ _ (.inl rfl) e,c⟩,r⟩
 |rng lo hi=>obtain⟨t,u,v,e⟩:=x;exact⟨t,u,v,k _ _ (.inl rfl) e⟩
 |frz ob u ih=>obtain⟨e,q⟩:=x;exact⟨k _ _ (.inl rfl) e,ih q⟩
 |tbl ps =>
  have e:h.get? a=some { cls:=.none,data:=.fields ps }:=x;show h'.get? a=some { cls:=.none,data:=.fields ps };exact k a _ (.inl rfl) e
 |met f y =>
  have e:h.get? a=some (PySem.W.methodObj (.ref f) (.ref y)):=x;show h'.get? a=some (PySem.W.methodObj (.ref f) (.ref y));exact k a _ (.inl rfl) e
 |ext φ=>obtain⟨p,⟨o,e⟩,st⟩:=x;exact⟨st _ _ p λo q=>k _ _ (.inl rfl) q,⟨o,k _ _ (.inl rfl) e⟩,st⟩
theorem HOk.lt (x:HOk P w H h)(e:H a=some o):a < h.objs.size:=(x a o e).lt
theorem HOk.fresh (x:HOk P w H h)(e:h.objs.size<=a):H a=none:=by
 cases q:H a with
 |none=>rfl
 |some u=>exact absurd (tm (x.lt q) e) (akd _)
theorem HOk.kept (x:HOk P w H h)(k:∀b u,h.get? b=some u->h'.get? b=some u):HOk P w H h':=λa o e =>
 (x a o e).zu (λb u _ q=>k b u q) (λ_ q=>q) λ_ _ q=>q
theorem HOk.laid (x:HOk P w H h)(k:∀b u,h.get? b=some u->h'.get? b=some u)(hp:h.objs.size<=a)(new:d4 P w (upd H a o) h' a o):HOk P w (upd H a o) h':=λb u e=>by
 have hn:=x.fresh hp
 by_cases hb:b=a
 ·subst hb;rw[ae]at e;cases e;exact new
 ·rw[av hb]at e;exact(x b u e).zu (λc v _ q=>k c v q) (λc q=>by rw[av (aC q hn)];exact q) λc xs q=>by rw[av (aC q hn)];exact q
end
def Rd (H:Hp)(a:Addr)(u:HO):Prop:=H a=some u\/∃o,H a=some (.frz o u)
theorem Rd.of {H:Hp}{a:Addr}{u:HO}(h:H a=some u):Rd H a u:=.inl h
theorem Rd.ok {P:kx}{w:World}{H:Hp}{h:Heap}{a:Addr}{u:HO}(r:Rd H a u)(x:HOk P w H h):d4 P w H h a u:=by
 rcases r with r | ⟨o,r⟩
 ·exact x a u r
 ·obtain⟨_,q⟩:=x a _ r;exact q
def Mut:Option HO->Prop
 |some (.lst _)=>True
 |some (.dK _)=>True
 |some (.dT _)=>True
 |some (.set _ _)=>True
 |some (.ins _ _ _)=>True
 |some (.ext _)=>True
 |_=>False
section
variable{P:kx}{w:World}{H:Hp}{h h':Heap}{x e:Addr}{o':HO}
theorem HOk.write (ok:HOk P w H h)(mu:Mut (H x))(he:e=x\/H e=some (.own x))(k:∀b u,b≠e->h.get? b=some u->h'.get? b=some u)(heo:∃u,h'.get? e=some u)
  (new:d4 P w (upd H x o') h' x o'):HOk P w (upd H x o') h':=λb u q=>by
 have YF:∀c y,H c=some (.own y)->c≠x:=λc y r z=>by subst z;rw[r]at mu;exact mu
 have afV:∀c xs,H c=some (.tup xs)->c≠x:=λc xs r z=>by subst z;rw[r]at mu;exact mu
 by_cases hb:b=x
 ·subst hb;rw[ae]at q;cases q;exact new
 ·rw[av hb]at q
  by_cases hbe:b=e
  ·have q':H b=some (.own x):=by
    rcases he with z | z
    ·exact absurd (hbe.trans z) hb
    ·rw[hbe];exact z
   rw[q]at q';cases q';obtain⟨v,hv⟩:=heo;exact⟨v,by rw[hbe];exact hv⟩
  ·refine(ok b u q).zu (λc v hc r=>k c v ?_ r) (λc r=>by rw[av (YF c b r)];exact r) λc xs r=>by rw[av (afV c xs r)];exact r
   rcases hc with rfl | hc
   ·exact hbe
   ·rintro rfl;rcases he with z | z
    ·exact YF c b hc z
    ·rw[hc]at z;cases z;exact hb rfl
end
structure Un (fs ex:List Addr)(H H':Hp)(h h':Heap):Prop where
 keep:∀b o,h.get? b=some o->H b=none->b∉fs->b∉ex->h'.get? b=some o
 slot:∀b o,h.get? b=some o->H b=none->b∈fs->b∉ex->∃sl,h'.get? b=some { o with slots:=sl }
 free:∀b o,h.get? b=some o->H b=none->b∉ex->H' b=none
 there:∀b o,h.get? b=some o->b∉ex->∃o',h'.get? b=some o'
 uL:∀b xs,H b=some (.tup xs)->H' b=some (.tup xs)
 tM:∀b o u,H b=some (.frz o u)->H' b=some (.frz o u)
 uM:∀b ps,H b=some (.tbl ps)->∃more,H' b=some (.tbl (ps++more))
section
variable{fs fs' ex ex':List Addr}{H H1 H2:Hp}{h h1 h2 h':Heap}{a x e:Addr}{o:HO}
theorem Un.any (u:Un fs ex H H1 h h1){b:Addr}{ob:Obj}(q:h.get? b=some ob)(n:H b=none)(hx:b∉ex):∃sl,h1.get? b=some { ob with slots:=sl }:=by
 by_cases hb:b∈fs
 ·exact u.slot b ob q n hb hx
 ·exact⟨ob.slots,u.keep b ob q n hb hx⟩
theorem Un.trans (a:Un fs ex H H1 h h1)(b:Un fs ex H1 H2 h1 h2):Un fs ex H H2 h h2 where
 keep:=λc ob q n hc hx=>b.keep c ob (a.keep c ob q n hc hx) (a.free c ob q n hx) hc hx
 slot:=λc ob q n hc hx=>by
  obtain⟨sl,e1⟩:=a.slot c ob q n hc hx;obtain⟨sl',e2⟩:=b.slot c _ e1 (a.free c ob q n hx) hc hx;exact⟨sl',e2⟩
 free:=λc ob q n hx=>by
  obtain⟨o',e1⟩:=a.there c ob q hx;exact b.free c o' e1 (a.free c ob q n hx) hx
 there:=λc ob q hx=>by
  obtain⟨o',e1⟩:=a.there c ob q hx;exact b.there c o' e1 hx
 uL:=λc xs q=>b.uL c xs (a.uL c xs q)
 tM:=λc ob xs q=>b.tM c ob xs (a.tM c ob xs q)
 uM:=λc ps q=>by
  obtain⟨m1,e1⟩:=a.uM c ps q;obtain⟨m2,e2⟩:=b.uM c _ e1;exact⟨m1++m2,by rw[e2,Array.append_assoc]⟩
theorem Un.kept (k:∀b u,h.get? b=some u->h'.get? b=some u):Un fs ex H H h h' :=
 ⟨λb ob q _ _ _=>k b ob q,λb ob q _ _ _=>⟨ob.slots,k b ob q⟩,λ_ _ _ n _=>n,λb ob q _=>⟨ob,k b ob q⟩,λ_ _ q=>q,λ_ _ _ q=>q,λ_ ps q=>⟨#[],by rw[q];simp⟩⟩
theorem Un.refl:Un fs ex H H h h:=Un.kept λ_ _ q=>q
theorem Un.laid (k:∀b u,h.get? b=some u->h'.get? b=some u)(hp:h.objs.size<=a)(hn:H a=none):Un fs ex H (upd H a o) h h' where
 keep:=λb u q _ _ _=>k b u q
 slot:=λb u q _ _ _=>⟨u.slots,k b u q⟩
 free:=λb u q n _=>by rw[av (wt (tm (ma q) hp))];exact n
 there:=λb u q _=>⟨u,k b u q⟩
 uL:=λb xs q=>by rw[av (aC q hn)];exact q
 tM:=λb u xs q=>by rw[av (aC q hn)];exact q
 uM:=λb ps q=>⟨#[],by rw[av (aC q hn),q];simp⟩
theorem Un.write (mu:Mut (H x))(he:e=x\/H e=some (.own x))(k:∀b u,b≠e->h.get? b=some u->h'.get? b=some u)(heo:∃u,h'.get? e=some u):Un fs ex H (upd H x o) h h':=by
 have hx:∀b,H b=none->b≠x:=λb n z=>by subst z;rw[n]at mu;exact mu
 have hb:∀b,H b=none->b≠e:=λb n z=>by
  subst z;rcases he with r | r
  ·exact hx b n r
  ·rw[n]at r;cases r
 have hm:∀b u,H b=some u->¬Mut (some u)->b≠x:=λb u q nm z=>by subst z;rw[q]at mu;exact nm mu
 refine⟨λb u q n _ _=>k b u (hb b n) q,λb u q n _ _=>⟨u.slots,k b u (hb b n) q⟩,λb u q n _=>by rw[av (hx b n)];exact n,λb u q _=>?_,
  λb xs q=>by rw[av (hm b _ q λz=>z)];exact q,λb u xs q=>by rw[av (hm b _ q λz=>z)];exact q,λb ps q=>⟨#[],by rw[av (hm b _ q λz=>z),q];simp⟩⟩
 by_cases hbe:b=e
 ·subst hbe;exact heo
 ·exact⟨u,k b u hbe q⟩
theorem Un.mono (u:Un fs ex H H1 h h1)(hs:∀b∈fs,b∈fs')(hx:∀b∈ex,b∈ex'):Un fs' ex' H H1 h h1 :=
 ⟨λb ob q n hb he=>u.keep b ob q n (λz=>hb (hs b z)) λz=>he (hx b z),λ_ _ q n _ he=>u.any q n λz=>he (hx _ z),λb ob q n he=>u.free b ob q n λz=>he (hx b z),λb ob q he=>u.there b ob q λz=>he (hx b z),u.uL,u.tM,u.uM⟩
end
def trk (h:Heap)(H:Hp):List Addr:=(aj8 h.objs.size).filter λa=>(H a).isSome
def Cz (h:Heap)(H:Hp):Heap:=PySem.W.hideAll h (trk h H)
theorem K6 (h:Heap)(H:Hp):(Cz h H).objs.size=h.objs.size:=PySem.W.hideAll_size _ _
theorem MH {h:Heap}{H:Hp}{b:Addr}{o:Obj}(e:h.get? b=some o)(n:H b=none):(Cz h H).get? b=some o :=
 PySem.W.hideAll_get _ e λhm=>by
  have q:(H b).isSome=true:=(List.mem_filter.mp hm).2;rw[n]at q;simp at q
theorem P8 {h:Heap}{H:Hp}{b:Addr}{o:Obj}(e:(Cz h H).get? b=some o):h.get? b=some o/\H b=none:=by
 have e':h.get? b=some o:=PySem.W.of_hideAll (trk h H) e;refine⟨e',?_⟩;cases q:H b with
 |none=>rfl
 |some x =>
  have hm:b∈trk h H:=List.mem_filter.mpr ⟨List.mem_range.mpr (ma e'),by simp[q]⟩
  have z:(Cz h H).get? b=none:=PySem.W.hideAll_none (trk h H) hm;rw[z]at e;cases e
def P9 (g h:Heap)(L:Addr):List (Addr×Obj):=(aj8 h.objs.size).filterMap λa=>if a=L\/(g.get? a).isSome=true then none else (h.get? a).map λo=>(a,o)
def rest (g h:Heap)(L d:Addr):List (Addr×Obj):=(P9 g h L).filter λp=>decide (p.1≠d)
structure Mod (K:bo)(mg:Str->Option Value)(base:Heap):Prop where
 kin:K.In base
 glob:base.Ns gr mg
 blt:∃mb,base.Ns builtinsNs mb/\∀x:Str,x≠"__name__"->mb x=ai6 x
 nolimit:base.NoLimit
structure Cx where
 prog:kx
 w:World
 K:bo
 mg:Str->Option Value
 base:Heap
 A:Around
 N:List Str
 s₀:Shared
 H₀:Hp
 env:Env
 outer:List Env
 stack:List Env
 ex:List Addr
 fn:Str->Bool
 calm:Bool
 xc:Bool:=true
 pn:List (Addr×Obj)
 xe:Value->Shared->Prop
def frs (l:List Env):List Addr:=l.filterMap (·.frame)
abbrev Cx.fs (X:Cx):List Addr:=frs X.outer
def Vis (sc:Scope)(x:Str):Prop:=sc.names.lookup x=some .local\/sc.names.lookup x=some .cell\/sc.names.lookup x=some .free
def Loc (sc:Scope)(x:Str):Prop:=sc.names.lookup x=some .local\/sc.names.lookup x=some .cell
def Look (env:Env)(h:Heap)(m:Str->Option Value)(x:Str)(u:Value):Prop :=
 (env.kindOf x=some .local/\m x=some u)\/((env.kindOf x=some .cell\/env.kindOf x=some .free)/\∃c,env.cells.lookup x=some c/\h.IsCell c (some u))
structure Cx.Ok (X:Cx):Prop where
 mod:Mod X.K X.mg X.base
 kind:X.env.scope.kind=.function
 glob:X.env.globals=gr
 blt:X.env.builtins=builtinsNs
 above:X.s₀.heap.objs.size<=X.env.locals
 inj:∀x y c,X.env.cells.lookup x=some c->X.env.cells.lookup y=some c->x=y
 has:∀x,(X.env.kindOf x=some .cell\/X.env.kindOf x=some .free)->∃c,X.env.cells.lookup x=some c
 cab:∀x c,X.fn x=true->X.env.cells.lookup x=some c->X.s₀.heap.objs.size<=c
 hd:X.calm=true->X.A.handled=none
 frames:X.A.frames=some X.stack
 stk:X.stack=X.outer\/(X.stack=X.env::X.outer/\X.env.frame=some X.env.locals)
 exf:∀b∈X.ex,b≠X.env.locals/\∀x c,X.env.cells.lookup x=some c->c≠b
 bs:∀b o,X.base.get? b=some o->X.s₀.heap.get? b=some o/\X.H₀ b=none
 bsz:X.base.objs.size<=X.s₀.heap.objs.size
 xZ:∀b o,X.base.get? b=some o->b∉X.ex
 ya:∀b∈X.ex,b∉X.fs
 og:X.s₀.heap.FunFrames X.base X.outer
 frf:∀b∈X.fs,X.H₀ b=none
structure Inv (X:Cx)(pins:List (Addr×Obj))(σ:List (Option V))(H:Hp)(s:Shared):Prop where
 ok:X.Ok
 os:s.os=X.s₀.os
 bare:AllBare s.gens
 base:Un X.fs X.ex X.H₀ H X.s₀.heap s.heap
 loc:∃m,s.heap.Ns X.env.locals m/\∀(i:Nat) (x:Str) (v:V),X.N[i]?=some x->σ[i]?=some (some v)->Vis X.env.scope x->∃u,RelV v u/\Look X.env s.heap m x u
 cell:∀x c,X.env.cells.lookup x=some c->∃v,s.heap.IsCell c v
 free:H X.env.locals=none
 jN:∀x c,X.env.cells.lookup x=some c->H c=none
 pin:∀p∈X.pn++pins,s.heap.get? p.1=some p.2/\H p.1=none/\p.1≠X.env.locals/\p.1∉X.fs/\∀v,p.2.data≠.cell v
 hok:HOk X.prog X.w H s.heap
 len:σ.length=X.N.length
section
variable{X:Cx}{pins:List (Addr×Obj)}{σ:List (Option V)}{H H':Hp}{s:Shared}{h':Heap}
theorem Cx.Ok.afW (ok:X.Ok){b:Addr}{o:Obj}(e:X.base.get? b=some o):b∉X.fs:=λhb=>by
 have:=(ok.og.mem hb).1;rw[e]at this;cases this
theorem Inv.bs (I:Inv X pins σ H s):∀b o,X.base.get? b=some o->s.heap.get? b=some o/\H b=none:=λb o e =>
 ⟨I.base.keep b o (I.ok.bs b o e).1 (I.ok.bs b o e).2 (I.ok.afW e) (I.ok.xZ b o e),I.base.free b o (I.ok.bs b o e).1 (I.ok.bs b o e).2 (I.ok.xZ b o e)⟩
theorem Inv.bk (I:Inv X pins σ H s):∀b o,X.base.get? b=some o->s.heap.get? b=some o:=λb o e=>(I.bs b o e).1
theorem Inv.mod (I:Inv X pins σ H s):Mod X.K X.mg X.base:=I.ok.mod
theorem Inv.kIn (I:Inv X pins σ H s):X.K.In s.heap:=I.ok.mod.kin.keeps I.bk
theorem Inv.nolimit (I:Inv X pins σ H s):s.heap.NoLimit:=I.ok.mod.nolimit.keeps I.bk
theorem Inv.fr (I:Inv X pins σ H s):∃m,Fr X.base X.env.locals s.heap m :=
 let ⟨m,hn,_⟩:=I.loc
 ⟨m,hn,I.bk,rf I.ok.bsz I.ok.above⟩
theorem Inv.lt (I:Inv X pins σ H s):X.env.locals < s.heap.objs.size:=let ⟨_,hn,_⟩:=I.loc;hn.lt
theorem Inv.sz (I:Inv X pins σ H s):X.s₀.heap.objs.size<=s.heap.objs.size:=rf I.ok.above (Nat.le_of_lt I.lt)
theorem Inv.afX (I:Inv X pins σ H s){a:Addr}(h:s.heap.objs.size<=a):a∉X.fs:=λhb=>by
 obtain⟨_,o,ho,_⟩:=I.ok.og.mem hb;exact absurd (tm (ma ho) (rf I.sz h)) (akd _)
theorem Inv.cne (I:Inv X pins σ H s):∀x c,X.env.cells.lookup x=some c->c≠X.env.locals:=λx c e z=>by
 obtain⟨v,o,ho,hd⟩:=I.cell x c e;obtain⟨m,⟨o',es,ep,ho',hd',_⟩,_⟩:=I.loc;rw[z,ho']at ho;cases ho;rw[hd']at hd;cases hd
theorem Inv.og (I:Inv X pins σ H s):s.heap.FunFrames X.base X.outer:=by
 have all:∀(l:List Env),(∀b∈frs l,b∈X.fs)->X.s₀.heap.FunFrames X.base l->s.heap.FunFrames X.base l:=by
  intro l
  induction l with
  |nil=>intro _ _;trivial
  |cons env r ih =>
   intro hs hl;obtain⟨hk,⟨L,o,hf,hn,ho,hd⟩,hr⟩:=hl;have hL:L∈X.fs:=hs L (by unfold frs;rw[List.filterMap_cons,hf];exact kb)
   obtain⟨sl,e⟩:=I.base.slot L o ho (I.ok.frf L hL) hL λz=>I.ok.ya L z hL
   exact⟨hk,⟨L,_,hf,hn,e,hd⟩,ih (λb hb=>hs b (by unfold frs;rw[List.filterMap_cons,hf];exact kj _ hb)) hr⟩
 exact all X.outer (λ_ hb=>hb) I.ok.og
theorem Inv.stack (I:Inv X pins σ H s):s.heap.FunFrames X.base X.stack:=by
 rcases I.ok.stk with e | ⟨e,hf⟩
 ·rw[e];exact I.og
 ·rw[e];obtain⟨m,hn,_⟩:=I.loc;refine .cons (by rw[I.ok.kind];decide) hf hn ?_ I.og
  exact Heap.get?_none_of_le (rf I.ok.bsz I.ok.above)
theorem Inv.zv (I:Inv X pins σ H s):∀b∈frs X.stack,b∈X.env.locals::X.fs:=λb hb=>by
 rcases I.ok.stk with e | ⟨e,hf⟩
 ·rw[e]at hb;exact kj _ hb
 ·rw[e]at hb;unfold frs at hb;rw[List.filterMap_cons,hf]at hb;exact hb
theorem Inv.zg (I:Inv X pins σ H s):∀b∈frs X.stack,H b=none:=λb hb=>by
 rcases List.mem_cons.mp (I.zv b hb) with e | hb
 ·rw[e];exact I.free
 ·obtain⟨_,o,ho,_⟩:=I.ok.og.mem hb;exact I.base.free b o ho (I.ok.frf b hb) λz=>I.ok.ya b z hb
theorem Inv.step {g':Array GenState}{t':Nat}{d':Drawn}{ch:List Addr}(I:Inv X pins σ H s)
  (hch:∀b∈ch,(b∈X.ex\/X.s₀.heap.objs.size<=b)/\b≠X.env.locals/\(∀x c,X.env.cells.lookup x=some c->c≠b)/\∀p∈X.pn++pins,p.1≠b)
  (keep:∀b o,b≠X.env.locals->b∉X.fs->b∉ch->s.heap.get? b=some o->H b=none->h'.get? b=some o)
  (slot:∀b o,b≠X.env.locals->b∈X.fs->b∉ch->s.heap.get? b=some o->H b=none->∃sl,h'.get? b=some { o with slots:=sl }) (free:∀b o,b∉ch->s.heap.get? b=some o->H b=none->H' b=none)
  (there:∀b o,b∉ch->s.heap.get? b=some o->∃o',h'.get? b=some o')
  (uL:∀b xs,H b=some (.tup xs)->H' b=some (.tup xs)) (tM:∀b o u,H b=some (.frz o u)->H' b=some (.frz o u)) (uM:∀b ps,H b=some (.tbl ps)->∃more,H' b=some (.tbl (ps++more)))
  (ns:∀m,s.heap.Ns X.env.locals m->h'.Ns X.env.locals m) (hok:HOk X.prog X.w H' h') (hg:AllBare g') :
  Inv X pins σ H' { s with heap:=h',gens:=g',drawn:=d',toks:=t' }:=by
 have neL:∀b o,X.s₀.heap.get? b=some o->b≠X.env.locals:=λb o e=>wt (tm (ma e) I.ok.above)
 have neC:∀b o,X.s₀.heap.get? b=some o->b∉X.ex->b∉ch:=λb o e hx hb=>by
  rcases (hch b hb).1 with z | z
  ·exact hx z
  ·exact absurd (tm (ma e) z) (akd _)
 have cellK:∀x c,X.env.cells.lookup x=some c->∀v,s.heap.IsCell c v->h'.IsCell c v:=λx c e v ⟨o,ho,hd⟩=>by
  have nch:c∉ch:=λz=>(hch c z).2.2.1 x c e rfl
  by_cases hc:c∈X.fs
  ·obtain⟨sl,q⟩:=slot c o (I.cne x c e) hc nch ho (I.jN x c e);exact⟨_,q,hd⟩
  ·exact⟨o,keep c o (I.cne x c e) hc nch ho (I.jN x c e),hd⟩
 refine⟨I.ok,I.os,hg,⟨λb o e n hb hx=>?_,λb o e n hb hx=>?_,λb o e n hx=>?_,λb o e hx=>?_,λb xs e=>uL b xs (I.base.uL b xs e),λb o xs e=>tM b o xs (I.base.tM b o xs e),λb ps e=>?_⟩,?_,λx c e=>?_,?_,λx c e=>?_,λp hp=>?_,hok,I.len⟩
 ·exact keep b o (neL b o e) hb (neC b o e hx) (I.base.keep b o e n hb hx) (I.base.free b o e n hx)
 ·obtain⟨sl,e1⟩:=I.base.slot b o e n hb hx;obtain⟨sl',e2⟩:=slot b _ (neL b o e) hb (neC b o e hx) e1 (I.base.free b o e n hx);exact⟨sl',e2⟩
 ·obtain⟨o',e1⟩:=I.base.there b o e hx;exact free b o' (neC b o e hx) e1 (I.base.free b o e n hx)
 ·obtain⟨o',e1⟩:=I.base.there b o e hx;exact there b o' (neC b o e hx) e1
 ·obtain⟨m1,e1⟩:=I.base.uM b ps e;obtain⟨m2,e2⟩:=uM b _ e1;exact⟨m1++m2,by rw[e2,Array.append_assoc]⟩
 ·obtain⟨m,hn,hl⟩:=I.loc;refine⟨m,ns m hn,λi x v e1 e2 e3=>?_⟩
  obtain⟨u,r,l⟩:=hl i x v e1 e2 e3;refine⟨u,r,?_⟩;rcases l with l | ⟨k,c,e,z⟩
  ·exact .inl l
  ·exact .inr ⟨k,c,e,cellK x c e _ z⟩
 ·obtain⟨v,z⟩:=I.cell x c e;exact⟨v,cellK x c e v z⟩
 ·obtain⟨m,⟨o,_,_,ho,_⟩,_⟩:=I.loc;exact free _ o (λz=>(hch _ z).2.1 rfl) ho I.free
 ·obtain⟨v,o,ho,hd⟩:=I.cell x c e;exact free c o (λz=>(hch c z).2.2.1 x c e rfl) ho (I.jN x c e)
 ·obtain⟨e,n,ne,nf,d⟩:=I.pin p hp;have nch:p.1∉ch:=λz=>(hch p.1 z).2.2.2 p hp rfl
  exact⟨keep p.1 p.2 ne nf nch e n,free p.1 p.2 nch e n,ne,nf,d⟩
theorem Inv.un {t':Nat}(I:Inv X pins σ H s)(u:Un X.fs [] H H' s.heap h')(hok:HOk X.prog X.w H' h'):Inv X pins σ H' { s with heap:=h',toks:=t' }:=by
 obtain⟨m,⟨o,es,ep,ho,r⟩,_⟩:=id I.loc;obtain⟨sl,hL⟩:=u.any ho I.free (by simp)
 exact I.step (g':=s.gens) (d':=s.drawn) (ch:=[]) (λ_ z=>nomatch z) (λb o _ hb _ e n=>u.keep b o e n hb (by simp)) (λb o _ hb _ e n=>u.slot b o e n hb (by simp)) (λb o _ e n=>u.free b o e n (by simp)) (λb o _ e=>u.there b o e (by simp)) u.uL u.tM u.uM (λm' hm=>by
  obtain⟨o',es',ep',ho',r'⟩:=hm;rw[ho]at ho';cases ho';exact⟨_,es',ep',hL,r'⟩) hok I.bare
theorem Inv.call {g':Array GenState}{t':Nat}{d':Drawn}{ch:List Addr}(I:Inv X pins σ H s)(u:Un (frs X.stack) ch H H' s.heap h')(hok:HOk X.prog X.w H' h')(hg:AllBare g')
  (hch:∀b∈ch,(b∈X.ex\/X.s₀.heap.objs.size<=b)/\b≠X.env.locals/\(∀x c,X.env.cells.lookup x=some c->c≠b)/\∀p∈X.pn++pins,p.1≠b) :
  Inv X pins σ H' { s with heap:=h',gens:=g',drawn:=d',toks:=t' }:=by
 obtain⟨m,⟨o,es,ep,ho,r⟩,_⟩:=id I.loc;obtain⟨sl,hL⟩:=u.any ho I.free λz=>(hch _ z).2.1 rfl
 exact I.step (ch:=ch) hch (λb o hL hb hc e n=>u.keep b o e n (λz=>(List.mem_cons.mp (I.zv b z)).elim hL hb) hc) (λb o _ _ hc e n=>u.any e n hc) (λb o hc e n=>u.free b o e n hc) (λb o hc e=>u.there b o e hc) u.uL u.tM u.uM (λm' hm=>by
  obtain⟨o',es',ep',ho',r'⟩:=hm;rw[ho]at ho';cases ho';exact⟨_,es',ep',hL,r'⟩) hok hg
theorem Inv.turned {t':Nat}{it:Addr}(I:Inv X pins σ H s)(k:∀b o,b≠it->s.heap.get? b=some o->h'.get? b=some o)(hn:H it=none)(hL:it≠X.env.locals)
  (h1:it∈X.ex\/X.s₀.heap.objs.size<=it) (h2:∀x c,X.env.cells.lookup x=some c->c≠it) (h3:∀p∈X.pn++pins,p.1≠it):Inv X pins σ H { s with heap:=h',toks:=t' }:=by
 have nit:∀b u,H b=some u->b≠it:=λb u e z=>by rw[z,hn]at e;cases e
 refine I.step (g':=s.gens) (d':=s.drawn) (ch:=[it]) (λb hb=>?_) (λb o _ _ hc e _=>k b o (λz=>hc (by simp[z])) e) (λb o _ _ hc e _=>⟨o.slots,k b o (λz=>hc (by simp[z])) e⟩) (λ_ _ _ _ n=>n)
  (λb o hc e=>⟨o,k b o (λz=>hc (by simp[z])) e⟩) (λ_ _ e=>e) (λ_ _ _ e=>e) (λb ps e=>⟨#[],by rw[e];simp⟩) (λm hm=>?_) (λb u e=>?_) I.bare
 ·have e:b=it:=by simpa using hb
  subst e;exact⟨h1,hL,h2,h3⟩
 ·obtain⟨o,es,ep,ho,r⟩:=hm;exact⟨o,es,ep,k _ o (aiD hL) ho,r⟩
 ·refine(I.hok b u e).zu (λc v hc q=>k c v ?_ q) (λ_ q=>q) λ_ _ q=>q
  rcases hc with z | z
  ·rw[z];exact nit b u e
  ·exact nit c _ z
theorem Inv.tok (I:Inv X pins σ H s)(t:Nat):Inv X pins σ H { s with toks:=t }:=I.un (h':=s.heap) (t':=t) Un.refl I.hok
theorem Inv.kept {t':Nat}(I:Inv X pins σ H s)(k:∀b u,s.heap.get? b=some u->h'.get? b=some u):Inv X pins σ H { s with heap:=h',toks:=t' }:=I.un (Un.kept k) (I.hok.kept k)
theorem Inv.laid {a:Addr}{o:HO}{t':Nat}(I:Inv X pins σ H s)(k:∀b u,s.heap.get? b=some u->h'.get? b=some u)(hp:s.heap.objs.size<=a)(new:d4 X.prog X.w (upd H a o) h' a o) :
  Inv X pins σ (upd H a o) { s with heap:=h',toks:=t' }:=I.un (Un.laid k hp (I.hok.fresh hp)) (I.hok.laid k hp new)
theorem Inv.write {x e:Addr}{o:HO}{t':Nat}(I:Inv X pins σ H s)(mu:Mut (H x))(he:e=x\/H e=some (.own x))(k:∀b u,b≠e->s.heap.get? b=some u->h'.get? b=some u)(heo:∃u,h'.get? e=some u)
  (new:d4 X.prog X.w (upd H x o) h' x o):Inv X pins σ (upd H x o) { s with heap:=h',toks:=t' }:=I.un (Un.write mu he k heo) (I.hok.write mu he k heo new)
theorem Inv.uN {RZ:List (Addr×Obj)}(I:Inv X pins σ H s)(h:∀p∈RZ,s.heap.get? p.1=some p.2/\H p.1=none/\p.1≠X.env.locals/\p.1∉X.fs/\∀v,p.2.data≠.cell v):Inv X RZ σ H s :=
 ⟨I.ok,I.os,I.bare,I.base,I.loc,I.cell,I.free,I.jN,λp hp=>(List.mem_append.mp hp).elim (λz=>I.pin p (aiJ _ z)) (h p),I.hok,I.len⟩
theorem zw {N:List Str}(hN:N.Nodup){i j:Nat}{x:Str}(a:N[i]?=some x)(b:N[j]?=some x):i=j:=by
 obtain⟨h1,e1⟩:=List.getElem?_eq_some_iff.mp a;obtain⟨h2,e2⟩:=List.getElem?_eq_some_iff.mp b;exact(List.getElem_inj hN).mp (e1.trans e2.symm)
theorem K7 {M:Model}{A:Around}{E:Value->Shared->Prop}{i:Nat}{x:Str}{v:V}{u:Value}{Q:Unit->Shared->Prop}(I:Inv X pins σ H s)(hN:X.N.Nodup)(hi:X.N[i]?=some x)(hx:Loc X.env.scope x)(r:RelV v u)
  (h:∀s',Inv X pins (σ.set i (some v)) H s'->(∃a,Heap.SameBut a s.heap s'.heap/\(a=X.env.locals\/X.env.cells.lookup x=some a))->Q () s') (hf:X.fn x=true\/X.env.scope.names.lookup x=some .local:=by first | exact .inl rfl | exact .inr rfl | assumption):wpAny M A (storeName X.env x u) Q E s:=by
 obtain⟨m,hn,hl⟩:=id I.loc;have afY:(X.env.scope.kind == .class || (X.env.scope.kind == .module && X.env.locals != X.env.globals))=false:=by rw[I.ok.kind];rfl
 have hiσ:i < σ.length:=by rw[I.len];exact(List.getElem?_eq_some_iff.mp hi).1
 have cne:=I.cne;have tracked:∀ {a:Addr} {h':Heap},(∃o,s.heap.get? a=some o/\H a=none)->Heap.SameBut a s.heap h'->HOk X.prog X.w H h':=λ{a h'} ha hs b ob e=>by
  obtain⟨_,_,R0⟩:=ha;refine(I.hok b ob e).zu (λc w' hc q=>(hs.2 c ?_).trans q) (λ_ q=>q) λ_ _ q=>q
  rintro rfl;rcases hc with rfl | hc
  ·rw[R0]at e;cases e
  ·rw[R0]at hc;cases hc
 rcases hx with hk | hk
 ·refine wpAny_storeName_local hk hn (λh' hn' hs=>?_) afY
  obtain⟨oL,_,_,hoL,_⟩:=id hn;refine h _ ⟨I.ok,I.os,I.bare,⟨λb o e n hb hx=>?_,λb o e n hb hx=>?_,I.base.free,λb o e hx=>?_,I.base.uL,I.base.tM,I.base.uM⟩,⟨_,hn',λj y v' e1 e2 e3=>?_⟩,λy c e=>?_,I.free,I.jN,λp hp=>?_,tracked ⟨oL,hoL,I.free⟩ hs,by simpa using I.len⟩ ⟨_,hs,.inl rfl⟩
  ·exact(hs.2 b (wt (tm (ma e) I.ok.above))).trans (I.base.keep b o e n hb hx)
  ·obtain⟨sl,e1⟩:=I.base.slot b o e n hb hx;exact⟨sl,(hs.2 b (wt (tm (ma e) I.ok.above))).trans e1⟩
  ·obtain⟨o',e1⟩:=I.base.there b o e hx;exact⟨o',(hs.2 b (wt (tm (ma e) I.ok.above))).trans e1⟩
  ·by_cases hj:j=i
   ·subst hj;rw[hi]at e1;cases e1;rw[List.getElem?_set_self hiσ]at e2;cases e2;exact⟨u,r,.inl ⟨hk,by simp⟩⟩
   ·rw[List.getElem?_set_ne (aiD hj)]at e2;obtain⟨u',r',q⟩:=hl j y v' e1 e2 e3;refine⟨u',r',?_⟩;rcases q with ⟨k,e⟩ | ⟨k,c,e,z⟩
    ·refine .inl ⟨k,?_⟩;have:y≠x:=λe=>hj (zw hN e1 (e▸hi))
     simp[this,e]
    ·exact .inr ⟨k,c,e,z.sameBut hs (cne y c e)⟩
  ·obtain⟨w',z⟩:=I.cell y c e;exact⟨w',z.sameBut hs (cne y c e)⟩
  ·obtain⟨e,n,ne,nf,d⟩:=I.pin p hp;exact⟨(hs.2 p.1 ne).trans e,n,ne,nf,d⟩
 ·have hfn:X.fn x=true:=by
   rcases hf with z | z
   ·exact z
   ·rw[z]at hk;cases hk
  obtain⟨c,hc⟩:=I.ok.has x (.inl hk);obtain⟨w',z⟩:=I.cell x c hc;refine wpAny_storeName_cell I.ok.kind hk hc z (λh' hc' hs=>?_)
  obtain⟨oc,hoc,afZ⟩:=id z;refine h { s with heap:=h' } ⟨I.ok,I.os,I.bare,⟨λb o e n hb hx=>?_,λb o e n hb hx=>?_,I.base.free,λb o e hx=>?_,I.base.uL,I.base.tM,I.base.uM⟩,⟨m,hn.sameBut hs (aiD (cne x c hc)),λj y v' e1 e2 e3=>?_⟩,λy c' e=>?_,I.free,I.jN,λp hp=>?_,tracked ⟨oc,hoc,I.jN x c hc⟩ hs,by simpa using I.len⟩ ⟨c,hs,.inr hc⟩
  ·exact(hs.2 b (wt (tm (ma e) (I.ok.cab x c hfn hc)))).trans (I.base.keep b o e n hb hx)
  ·obtain⟨sl,e1⟩:=I.base.slot b o e n hb hx;exact⟨sl,(hs.2 b (wt (tm (ma e) (I.ok.cab x c hfn hc)))).trans e1⟩
  ·obtain⟨o',e1⟩:=I.base.there b o e hx;exact⟨o',(hs.2 b (wt (tm (ma e) (I.ok.cab x c hfn hc)))).trans e1⟩
  ·by_cases hj:j=i
   ·subst hj;rw[hi]at e1;cases e1;rw[List.getElem?_set_self hiσ]at e2;cases e2;exact⟨u,r,.inr ⟨.inl hk,c,hc,hc'⟩⟩
   ·rw[List.getElem?_set_ne (aiD hj)]at e2;obtain⟨u',r',q⟩:=hl j y v' e1 e2 e3;refine⟨u',r',?_⟩;rcases q with q | ⟨k,c',e,z'⟩
    ·exact .inl q
    ·refine .inr ⟨k,c',e,z'.sameBut hs ?_⟩;rintro rfl;exact hj (zw hN e1 (I.ok.inj _ _ _ e hc▸hi))
  ·by_cases hcc:c'=c
   ·subst hcc;exact⟨_,hc'⟩
   ·obtain⟨w2,z2⟩:=I.cell y c' e;exact⟨w2,z2.sameBut hs hcc⟩
  ·obtain⟨e,n,ne,nf,d⟩:=I.pin p hp;refine⟨(hs.2 p.1 ?_).trans e,n,ne,nf,d⟩;intro q;rw[q,hoc]at e;have q':oc=p.2:=aix e;exact d w' (by rw[<-q'];exact afZ)
theorem qC {M:Model}{A:Around}{E:Value->Shared->Prop}{i:Nat}{x:Str}{v:V}{u:Value}{Q:Unit->Shared->Prop}(I:Inv X pins σ H s)(hN:X.N.Nodup)(hi:X.N[i]?=some x)(hx:Loc X.env.scope x)(r:RelV v u)
  (h:∀s',Inv X pins (σ.set i (some v)) H s'->Q () s') (hf:X.fn x=true\/X.env.scope.names.lookup x=some .local:=by first | exact .inl rfl | exact .inr rfl | assumption):wpAny M A (storeName X.env x u) Q E s :=
 K7 I hN hi hx r (λs' I' _=>h s' I') hf
theorem Inv.Kb {s':Shared}{ch:List Addr}(I:Inv X pins σ H s)(ho:s'.os=s.os)(u:Un (frs X.stack) ch H H' s.heap s'.heap)(hok:HOk X.prog X.w H' s'.heap)(hg:AllBare s'.gens)
  (hch:∀b∈ch,(b∈X.ex\/X.s₀.heap.objs.size<=b)/\b≠X.env.locals/\(∀x c,X.env.cells.lookup x=some c->c≠b)/\∀p∈X.pn++pins,p.1≠b):Inv X pins σ H' s':=by
 obtain⟨h',g',d',t',o'⟩:=s';have e:o'=s.os:=ho;subst e;exact I.call (g':=g') (t':=t') (d':=d') u hok hg hch
end
abbrev XK:=Value->Option Addr->Hp->Prop
abbrev St:=List (Option V)
abbrev VK:=V->Hp->Prop
abbrev TE:=St->Hp->VK->Prop
abbrev TT:=St->Hp->(Bool->Hp->Prop)->Prop
abbrev TA:=St->Hp->(List V->Hp->Prop)->Prop
structure Ends where
 nx:St->Hp->Prop
 rt:VK
 bk:St->Hp->Prop:=λ_ _=>False
 ct:St->Hp->Prop:=λ_ _=>False
abbrev TS:=Ends->St->Hp->Prop
def EP (X:Cx)(pins:List (Addr×Obj))(σ:St)(Q:VK)(u:Value)(s':Shared):Prop:=∃v H',Inv X pins σ H' s'/\RelV v u/\Q v H'
def TP (X:Cx)(pins:List (Addr×Obj))(σ:St)(Q:Bool->Hp->Prop)(b:Bool)(s':Shared):Prop:=∃H',Inv X pins σ H' s'/\Q b H'
def AP (X:Cx)(pins:List (Addr×Obj))(σ:St)(Q:List V->Hp->Prop)(us:List Value)(s':Shared):Prop:=∃vs H',Inv X pins σ H' s'/\Vals vs us/\Q vs H'
def SP (X:Cx)(pins:List (Addr×Obj))(D:Ends)(f:Flow)(s':Shared):Prop :=
 match f with
 | .next=>∃σ' H',Inv X pins σ' H' s'/\D.nx σ' H'
 | .brk=>∃σ' H',Inv X pins σ' H' s'/\D.bk σ' H'
 | .cont=>∃σ' H',Inv X pins σ' H' s'/\D.ct σ' H'
 | .ret u=>∃v σ' H',Inv X pins σ' H' s'/\RelV v u/\D.rt v H'
def PE (X:Cx)(e:Expr)(t:TE):Prop :=
 ∀(pins:List (Addr×Obj)) (s:Shared) (σ:St) (H:Hp) (Q:VK),Inv X pins σ H s->t σ H Q->wpAny (model X.prog X.w) X.A (eval e X.env) (EP X pins σ Q) X.xe s
def PT (X:Cx)(e:Expr)(t:TT):Prop :=
 ∀(pins:List (Addr×Obj)) (s:Shared) (σ:St) (H:Hp) (Q:Bool->Hp->Prop),Inv X pins σ H s->t σ H Q->wpAny (model X.prog X.w) X.A (isTrue e X.env (eval e X.env)) (TP X pins σ Q) X.xe s
def PW (X:Cx)(e:Expr)(t:TT):Prop :=
 ∀(whole:Sem Value) (pins:List (Addr×Obj)) (s:Shared) (σ:St) (H:Hp) (Q:Bool->Hp->Prop),Inv X pins σ H s->t σ H Q->wpAny (model X.prog X.w) X.A (isTrue e X.env whole) (TP X pins σ Q) X.xe s
theorem PW.pt {X:Cx}{e:Expr}{t:TT}(h:PW X e t):PT X e t:=h _
def PA (X:Cx)(es:List Expr)(t:TA):Prop :=
 ∀(pos:Pos) (pins:List (Addr×Obj)) (s:Shared) (σ:St) (H:Hp) (Q:List V->Hp->Prop),Inv X pins σ H s->t σ H Q->wpAny (model X.prog X.w) X.A (spliced (backTo pos (sr es X.env))) (AP X pins σ Q) X.xe s
def PS (X:Cx)(st:Stmt)(t:TS):Prop :=
 ∀(pins:List (Addr×Obj)) (s:Shared) (σ:St) (H:Hp) (D:Ends),Inv X pins σ H s->t D σ H->wpAny (model X.prog X.w) X.A (exec st X.env) (SP X pins D) X.xe s
def PSs (X:Cx)(st:List Stmt)(t:TS):Prop :=
 ∀(pins:List (Addr×Obj)) (s:Shared) (σ:St) (H:Hp) (D:Ends),Inv X pins σ H s->t D σ H->wpAny (model X.prog X.w) X.A (execs st X.env) (SP X pins D) X.xe s
theorem thn {α:Type}{t:Sem α}{Q Q':α->Shared->Prop}{M:Model}{A:Around}{E:Value->Shared->Prop}{s:Shared}(h:wpAny M A t Q E s)(hQ:∀a s,Q a s->Q' a s):wpAny M A t Q' E s:=kr h hQ λ_ _ x=>x
section
variable{X:Cx}
theorem bin {a b:Expr}{ta tb:TE}(ha:PE X a ta)(hb:PE X b tb){pins:List (Addr×Obj)}{s:Shared}{σ:St}{H:Hp}{R:V->V->Hp->Prop}(I:Inv X pins σ H s)(h:ta σ H λx H1=>tb σ H1 λy H2=>R x y H2)
  {α:Type} {Q:α->Shared->Prop} {f:Value->Value->Sem α}
  (hf:∀v u s2 x y H2,Inv X pins σ H2 s2->RelV x v->RelV y u->R x y H2->wpAny (model X.prog X.w) X.A (f v u) Q X.xe s2) :
  wpAny (model X.prog X.w) X.A (eval a X.env) (λv s₁=>wpAny (model X.prog X.w) X.A (eval b X.env) (λu s₂=>wpAny (model X.prog X.w) X.A (f v u) Q X.xe s₂) X.xe s₁) X.xe s:=by
 refine thn (ha pins s σ H _ I h) λv s1 ⟨x,H1,I1,r1,q1⟩=>?_
 refine thn (hb pins s1 σ H1 _ I1 q1) λu s2 ⟨y,H2,I2,r2,q2⟩=>?_
 exact hf v u s2 x y H2 I2 r1 r2 q2
def YG (i:Nat):TE:=λσ H Q=>∃v,σ[i]?=some (some v)/\Q v H
def tC (v:V):TE:=λ_ H Q=>Q v H
theorem TQ {i:Nat}{x:Str}{pos:Pos}(hN:X.N[i]?=some x)(hv:Vis X.env.scope x)(hd:(x == ("__debug__":Str))=false:=by decide)(hcd:(x == ("__classdict__":Str))=false:=by decide):PE X (.Name x pos) (YG i):=by
 intro pins s σ H Q I h;obtain⟨v,e,h⟩:=h;obtain⟨m,hn,hl⟩:=I.loc;obtain⟨u,r,l⟩:=hl i x v hN e hv;have fin:EP X pins σ Q u s:=⟨v,H,I,r,h⟩;rcases l with ⟨hk,hm⟩ | ⟨hk,c,hc,kO⟩
 ·exact wpAny_Name (wpAny_loadName_local I.ok.kind hk hn hm fin) hd
 ·rcases hk with hk | hk
  ·exact wpAny_Name (wpAny_loadName_cell I.ok.kind hk hc kO fin) hd
  ·exact wpAny_Name (wpAny_loadName_free I.ok.kind hk hc kO fin hcd) hd
theorem aj {i j pos}:PE X (.Constant (.int i) j pos) (tC (.int i)):=λ_ _ _ H _ I h=>wpAny_Constant_int ⟨.int i,H,I.tok _,⟨_,rfl⟩,h⟩
theorem oh {b j pos}:PE X (.Constant (.bool b) j pos) (tC (.bl b)):=λ_ _ _ H _ I h=>Constant_bool ⟨.bl b,H,I,rfl,h⟩
theorem TR {j pos}:PE X (.Constant .none j pos) (tC .non):=λ_ _ _ H _ I h=>Constant_none ⟨.non,H,I,rfl,h⟩
theorem aq {x j pos}:PE X (.Constant (.str x) j pos) (tC (.str x)):=λ_ _ _ H _ I h=>Calls.Constant_str ⟨.str x,H,I.tok _,⟨_,rfl⟩,h⟩
def Gl (X:Cx)(x:Str):Prop:=X.env.kindOf x=some .globalImplicit
theorem iO {E:Value->Shared->Prop}{pins:List (Addr×Obj)}{s:Shared}{σ:St}{H:Hp}{x:Str}{u:Value}{pos:Pos}{Q:Value->Shared->Prop}(I:Inv X pins σ H s)(hg:Gl X x)(hm:X.mg x=some u)(h:Q u s)
  (hd:(x == ("__debug__":Str))=false:=by decide):wpAny (model X.prog X.w) X.A (eval (.Name x pos) X.env) Q E s :=
 Calls.Name_function_global I.ok.kind hg (Calls.loadGlobal_global (by rw[I.ok.glob];exact I.mod.glob.keeps I.bk) hm h) hd
theorem zx {E:Value->Shared->Prop}{pins:List (Addr×Obj)}{s:Shared}{σ:St}{H:Hp}{x:Str}{u:Value}{pos:Pos}{Q:Value->Shared->Prop}(I:Inv X pins σ H s)(hg:Gl X x)(hm:X.mg x=none)(hv:ai6 x=some u)(h:Q u s)
  (hn:x≠"__name__":=by decide) (hd:(x == ("__debug__":Str))=false:=by decide):wpAny (model X.prog X.w) X.A (eval (.Name x pos) X.env) Q E s:=by
 obtain⟨mb,h1,h2⟩:=I.mod.blt;exact Calls.Name_function_global I.ok.kind hg (Calls.loadGlobal_builtin (by rw[I.ok.glob];exact I.mod.glob.keeps I.bk) hm (by rw[I.ok.blt];exact h1.keeps I.bk) ((h2 x hn).trans hv) h) hd
theorem eP {x:Str}{v:V}{u:Value}{pos:Pos}(hg:Gl X x)(hm:X.mg x=some u)(r:RelV v u)(hd:(x == ("__debug__":Str))=false:=by decide):PE X (.Name x pos) (tC v) :=
 λ_ _ _ H _ I h=>iO I hg hm ⟨v,H,I,r,h⟩ hd
theorem CA {x:Str}{v:V}{u:Value}{pos:Pos}(hg:Gl X x)(hm:X.mg x=none)(hv:ai6 x=some u)(r:RelV v u)(hn:x≠"__name__":=by decide)(hd:(x == ("__debug__":Str))=false:=by decide):PE X (.Name x pos) (tC v) :=
 λ_ _ _ H _ I h=>zx I hg hm hv ⟨v,H,I,r,h⟩ hn hd
variable{a b:Expr}{ta tb:TE}{pos:Pos}
def PC (X:Cx)(op:CmpOp)(a b:Expr)(t:TE):Prop :=
 ∀(pins:List (Addr×Obj)) (s:Shared) (σ:St) (H:Hp) (Q:VK),Inv X pins σ H s->t σ H Q ->
  wpAny (model X.prog X.w) X.A (eval a X.env) (λv s₁=>wpAny (model X.prog X.w) X.A (eval b X.env) (λu s₂=>wpAny (model X.prog X.w) X.A (ajw op v u) (EP X pins σ Q) X.xe s₂) X.xe s₁) X.xe s
theorem MI (b:Expr){op:CmpOp}(h:op≠.In)(h2:op≠.NotIn):behindInMarks op b=false:=by
 have e1:(op == CmpOp.In)=false:=by cases op <;> first | rfl | exact absurd rfl h
 have e2:(op == CmpOp.NotIn)=false:=by cases op <;> first | rfl | exact absurd rfl h2
 cases b <;> simp[behindInMarks,e1,e2]
def tB (t:TE):TT:=λσ H Q=>t σ H λx H1=>∃c,x=.bl c/\Q c H1
theorem TU {op:CmpOp}{t:TE}(h:PC X op a b t)(h1:behindInMarks op b=false:=by first | exact MI _ (by decide) (by decide) | rfl):PT X (.Compare a [op] [b] pos) (tB t):=by
 intro pins s σ H Q I hw;refine wpAny_isTrue_Compare1 (thn (h pins s σ H _ I hw) λv s1 h1=>thn h1 λu s2 h2=>thn h2 λc s3 ⟨x,H1,I1,r1,q1⟩=>?_) h1
 obtain⟨d,rfl,q⟩:=q1;cases r1;exact wpAny_truthy_bool ⟨H1,I1,q⟩
theorem ib {e:Expr}{t:TE}(h:PE X e t)(he:∀whole,isTrue e X.env whole=(do let v <-whole;standAt e.pos;holding [v] (truthy v)):=by intro _;rfl):PT X e (tB t):=by
 intro pins s σ H Q I hw;refine isTrue_plain (thn (h pins s σ H _ I hw) λv s1 ⟨x,H1,I1,r1,q1⟩=>?_) (he _)
 obtain⟨d,rfl,q⟩:=q1;cases r1;exact wpAny_truthy_bool ⟨H1,I1,q⟩
variable{tA tB':TT}{rest:List Expr}
def af0 (t u:TT):TT:=λσ H Q=>t σ H λc H1=>if c=true then u σ H1 Q else Q false H1
def tOr (t u:TT):TT:=λσ H Q=>t σ H λc H1=>if c=true then Q true H1 else u σ H1 Q
def af1 (t:TT):TT:=λσ H Q=>t σ H λc H1=>Q (!c) H1
theorem pw_and1 (ha:PT X a tA):PW X (.BoolOp .And [a] pos) tA:=by
 intro wh pins s σ H Q I h;refine isTrue_and (thn (ha pins s σ H Q I h) λc s1 e=>?_)
 cases c with
 |true=>exact isTrue_and_nil e
 |false=>exact e
theorem pw_or1 (ha:PT X a tA):PW X (.BoolOp .Or [a] pos) tA:=by
 intro wh pins s σ H Q I h;refine isTrue_or (thn (ha pins s σ H Q I h) λc s1 e=>?_)
 cases c with
 |false=>exact isTrue_or_nil e
 |true=>exact e
theorem pw_and (ha:PT X a tA)(hb:PW X (.BoolOp .And (b::rest) pos) tB'):PW X (.BoolOp .And (a::b::rest) pos) (af0 tA tB'):=by
 intro wh pins s σ H Q I h;refine isTrue_and (thn (ha pins s σ H _ I h) λc s1 ⟨H1,I1,q1⟩=>?_)
 cases c with
 |true=>exact hb wh pins s1 σ H1 Q I1 q1
 |false=>exact⟨H1,I1,q1⟩
theorem pw_or (ha:PT X a tA)(hb:PW X (.BoolOp .Or (b::rest) pos) tB'):PW X (.BoolOp .Or (a::b::rest) pos) (tOr tA tB'):=by
 intro wh pins s σ H Q I h;refine isTrue_or (thn (ha pins s σ H _ I h) λc s1 ⟨H1,I1,q1⟩=>?_)
 cases c with
 |true=>exact⟨H1,I1,q1⟩
 |false=>exact hb wh pins s1 σ H1 Q I1 q1
theorem pD (ha:PT X a tA):PT X (.UnaryOp .Not a pos) (af1 tA):=by
 intro pins s σ H Q I h;exact isTrue_not (ha pins s σ H (λc H1=>Q (!c) H1) I h)
def YH (ta tb:TE):TE:=λσ H Q=>ta σ H λx H1=>∃c,x=.bl c/\if c=true then tb σ H1 Q else Q (.bl false) H1
def af2 (ta tb:TE):TE:=λσ H Q=>ta σ H λx H1=>∃c,x=.bl c/\if c=true then Q (.bl true) H1 else tb σ H1 Q
def YI (ta:TE):TE:=λσ H Q=>ta σ H λx H1=>∃c,x=.bl c/\Q (.bl (!c)) H1
theorem lO {op}{t:TE}(h:PE X a t):PE X (.BoolOp op [a] pos) t:=λpins s σ H Q I hw=>BoolOp_one (h pins s σ H Q I hw)
theorem pE (ha:PE X a ta)(hb:PE X (.BoolOp .And (b::rest) pos) tb):PE X (.BoolOp .And (a::b::rest) pos) (YH ta tb):=by
 intro pins s σ H Q I h;refine BoolOp_and (thn (ha pins s σ H _ I h) λv s1 ⟨x,H1,I1,r1,q1⟩=>?_)
 obtain⟨c,rfl,q1⟩:=q1;cases r1;refine wpAny_truthy_bool ?_;cases c with
 |true=>exact hb pins s1 σ H1 Q I1 q1
 |false=>exact⟨.bl false,H1,I1,rfl,q1⟩
theorem MJ (ha:PE X a ta)(hb:PE X (.BoolOp .Or (b::rest) pos) tb):PE X (.BoolOp .Or (a::b::rest) pos) (af2 ta tb):=by
 intro pins s σ H Q I h;refine BoolOp_or (thn (ha pins s σ H _ I h) λv s1 ⟨x,H1,I1,r1,q1⟩=>?_)
 obtain⟨c,rfl,q1⟩:=q1;cases r1;refine wpAny_truthy_bool ?_;cases c with
 |false=>exact hb pins s1 σ H1 Q I1 q1
 |true=>exact⟨.bl true,H1,I1,rfl,q1⟩
theorem TV (ha:PE X a ta):PE X (.UnaryOp .Not a pos) (YI ta):=by
 intro pins s σ H Q I h;refine UnaryOp_ (thn (ha pins s σ H _ I h) λv s1 ⟨x,H1,I1,r1,q1⟩=>?_)
 obtain⟨c,rfl,q1⟩:=q1;cases r1;exact not_of (wpAny_truthy_bool ⟨.bl (!c),H1,I1,rfl,q1⟩)
def tIf (t:TT)(ta tb:TE):TE:=λσ H Q=>t σ H λc H1=>if c=true then ta σ H1 Q else tb σ H1 Q
theorem D5 {c:Expr}(hc:PT X c tA)(ha:PE X a ta)(hb:PE X b tb):PE X (.IfExp c a b pos) (tIf tA ta tb):=by
 intro pins s σ H Q I h;refine wpAny_IfExp (thn (hc pins s σ H _ I h) λd s1 ⟨H1,I1,q1⟩=>?_)
 cases d with
 |true=>exact ha pins s1 σ H1 Q I1 q1
 |false=>exact hb pins s1 σ H1 Q I1 q1
end
def SqL (K:bo)(H:Hp)(a:Addr)(xs:List V):Prop :=
 Rd H a (.lst xs) \/
  ∃(o:Obj) (its:Array Value) (n:Nat),K.lookup a=some o/\o.cls=.type "list"/\o.dict=none/\o.data=.seq its n/\its.size<=gc/\Vals xs its.toList
def SqT (K:bo)(H:Hp)(a:Addr)(xs:List V):Prop :=
 Rd H a (.tup xs) \/
  ∃(o:Obj) (its:Array Value) (n:Nat),K.lookup a=some o/\o.cls=.type "tuple"/\o.data=.seq its n/\its.size<=gc/\Vals xs its.toList
def af3:Value->Option V
 | .none=>some .non
 | .bool b=>some (.bl b)
 | .int i _=>some (.int i)
 | .str x _=>some (.str x)
 | .bytes b _=>some (.byt b)
 | .float b _=>some (.flt b)
 | .ref a=>some (.ref a)
 | .type n=>some (.ty n)
 |_=>none
theorem RelV.abs {x:V}{u:Value}(r:RelV x u):af3 u=some x:=by
 cases x with
 |non=>cases r;rfl
 |bl _=>cases r;rfl
 |int _=>obtain⟨t,rfl⟩:=r;rfl
 |str _=>obtain⟨t,rfl⟩:=r;rfl
 |byt _=>obtain⟨t,rfl⟩:=r;rfl
 |flt _=>obtain⟨t,rfl⟩:=r;rfl
 |ref _=>cases r;rfl
 |ty _=>cases r;rfl
theorem RelV.inj {x y:V}{u:Value}(r:RelV x u)(q:RelV y u):x=y:=aix (r.abs.symm.trans q.abs)
theorem Vals.inj:∀ {xs ys:List V} {us:List Value},Vals xs us->Vals ys us->xs=ys
 |_,_,_,.nil,.nil=>rfl
 |_,_,_,.cons r t,.cons r' t'=>by rw[r.inj r',Vals.inj t t']
section
variable{X:Cx}{pins:List (Addr×Obj)}{σ:St}{H:Hp}{s:Shared}{a:Addr}{xs ys:List V}
theorem SqL.of {K:bo}(h:H a=some (.lst xs)):SqL K H a xs:=.inl (.inl h)
theorem SqT.of {K:bo}(h:H a=some (.tup xs)):SqT K H a xs:=.inl (.inl h)
theorem Inv.list (I:Inv X pins σ H s)(h:SqL X.K H a xs):∃its:List Value,Vals xs its/\PlainL s.heap a its.toArray/\xs.length<=gc:=by
 rcases h with h | ⟨o,its,n,hk,hc,hd,hs,hz,r⟩
 ·obtain⟨z,its,n,r,e⟩:=h.ok I.hok;exact⟨its,r,⟨_,n,e,rfl,rfl,rfl⟩,z⟩
 ·refine⟨its.toList,r,⟨o,n,I.kIn a o hk,hc,hd,by simpa using hs⟩,?_⟩
  have e:=r.length;simp only[Array.length_toList]at e;omega
theorem Inv.tuple (I:Inv X pins σ H s)(h:SqT X.K H a xs):∃its:List Value,Vals xs its/\IsTup s.heap a its.toArray/\xs.length<=gc:=by
 rcases h with h | ⟨o,its,n,hk,hc,hs,hz,r⟩
 ·obtain⟨z,its,r,p⟩:=h.ok I.hok;exact⟨its,r,p,z⟩
 ·refine⟨its.toList,r,⟨o,I.kIn a o hk,hc,n,by simpa using hs⟩,?_⟩
  have e:=r.length;simp only[Array.length_toList]at e;omega
theorem Inv.D6 (I:Inv X pins σ H s)(h:SqL X.K H a xs)(h':SqL X.K H a ys):xs=ys:=by
 obtain⟨its,r,⟨o,n,e,_,_,d⟩,_⟩:=I.list h;obtain⟨its',r',⟨o',n',e',_,_,d'⟩,_⟩:=I.list h';rw[e]at e';cases e';rw[d]at d';injection d' with d1 _
 have:its=its':=by simpa using congrArg Array.toList d1
 subst this;exact r.inj r'
theorem Inv.K8 (I:Inv X pins σ H s)(h:SqT X.K H a xs)(h':SqT X.K H a ys):xs=ys:=by
 obtain⟨its,r,⟨o,e,_,n,d⟩,_⟩:=I.tuple h;obtain⟨its',r',⟨o',e',_,n',d'⟩,_⟩:=I.tuple h';rw[e]at e';cases e';rw[d]at d';injection d' with d1 _
 have:its=its':=by simpa using congrArg Array.toList d1
 subst this;exact r.inj r'
end
abbrev Cx.j7 (X:Cx)(E:Value->Shared->Prop):Cx:={ X with xe:=E }
abbrev Cx.nox (X:Cx):Cx:=X.j7 λ_ _=>False
theorem Cx.Ok.j7 {X:Cx}(ok:X.Ok)(E:Value->Shared->Prop):(X.j7 E).Ok :=
 ⟨ok.mod,ok.kind,ok.glob,ok.blt,ok.above,ok.inj,ok.has,ok.cab,ok.hd,ok.frames,ok.stk,ok.exf,ok.bs,ok.bsz,ok.xZ,ok.ya,ok.og,ok.frf⟩
theorem Cx.Ok.dD {X:Cx}{E:Value->Shared->Prop}(ok:(X.j7 E).Ok):X.Ok :=
 ⟨ok.mod,ok.kind,ok.glob,ok.blt,ok.above,ok.inj,ok.has,ok.cab,ok.hd,ok.frames,ok.stk,ok.exf,ok.bs,ok.bsz,ok.xZ,ok.ya,ok.og,ok.frf⟩
section
variable{X:Cx}{pins:List (Addr×Obj)}{σ:St}{H:Hp}{s:Shared}{E:Value->Shared->Prop}
theorem Inv.j7 (I:Inv X pins σ H s)(E:Value->Shared->Prop):Inv (X.j7 E) pins σ H s:=⟨I.ok.j7 E,I.os,I.bare,I.base,I.loc,I.cell,I.free,I.jN,I.pin,I.hok,I.len⟩
theorem Inv.dD (I:Inv (X.j7 E) pins σ H s):Inv X pins σ H s:=⟨I.ok.dD,I.os,I.bare,I.base,I.loc,I.cell,I.free,I.jN,I.pin,I.hok,I.len⟩
theorem SP.dD {D:Ends}{f:Flow}{s':Shared}(h:SP (X.j7 E) pins D f s'):SP X pins D f s':=by
 cases f with
 |next=>obtain⟨σ',H',I,q⟩:=h;exact⟨σ',H',I.dD,q⟩
 |brk=>obtain⟨σ',H',I,q⟩:=h;exact⟨σ',H',I.dD,q⟩
 |cont=>obtain⟨σ',H',I,q⟩:=h;exact⟨σ',H',I.dD,q⟩
 |ret u=>obtain⟨v,σ',H',I,r,q⟩:=h;exact⟨v,σ',H',I.dD,r,q⟩
theorem PE.nox {e:Expr}{t:TE}(h:PE X.nox e t):PE X e t:=λpins s σ H Q I hw =>
 kr (h pins s σ H Q (I.j7 _) hw) (λ_ _ ⟨v,H',I',r,q⟩=>⟨v,H',I'.dD,r,q⟩) λ_ _ z=>aiy z
theorem PT.nox {e:Expr}{t:TT}(h:PT X.nox e t):PT X e t:=λpins s σ H Q I hw =>
 kr (h pins s σ H Q (I.j7 _) hw) (λ_ _ ⟨H',I',q⟩=>⟨H',I'.dD,q⟩) λ_ _ z=>aiy z
theorem PSs.nox {st:List Stmt}{t:TS}(h:PSs X.nox st t):PSs X st t:=λpins s σ H D I hw =>
 kr (h pins s σ H D (I.j7 _) hw) (λ_ _ q=>q.dD) λ_ _ z=>aiy z
end
section
variable{X:Cx}{st:Stmt}{rest:List Stmt}{t u:TS}{e:Expr}{te:TE}{pos:Pos}
def Kc:TS:=λD σ H=>D.nx σ H
def YJ (t u:TS):TS:=λD σ H=>t { D with nx:=u D } σ H
theorem aN:PSs X [] Kc:=λ_ _ σ H _ I h=>wpAny_execs_nil ⟨σ,H,I,h⟩
theorem ao (h1:PS X st t)(h2:PSs X rest u):PSs X (st::rest) (YJ t u):=by
 intro pins s σ H D I h;refine wpAny_execs_cons (thn (h1 pins s σ H { D with nx:=u D } I h) λf s1 q=>?_)
 cases f with
 |next =>
  obtain⟨σ',H',I',q⟩:=q;exact h2 pins s1 σ' H' D I' q
 |ret v=>exact q
 |brk=>exact q
 |cont=>exact q
theorem ai (h1:PS X st t):PSs X [st] t:=by
 intro pins s σ H D I h;refine wpAny_execs_cons (thn (h1 pins s σ H D I h) λf s1 q=>?_)
 cases f with
 |next=>exact wpAny_execs_nil q
 |ret v=>exact q
 |brk=>exact q
 |cont=>exact q
theorem Inv.quiet {pins:List (Addr×Obj)}{σ:St}{H:Hp}{s:Shared}(I:Inv X pins σ H s):interactive X.env=false:=by simp[interactive,I.ok.kind]
def YK (te:TE):TS:=λD σ H=>te σ H λ_ H1=>D.nx σ H1
theorem bY (he:PE X e te)(hs:swapsWith e none pos.line X.env=pure false:=by rfl):PS X (.Expr e pos) (YK te):=by
 intro pins s σ H D I h;exact wpAny_Expr_any (thn (he pins s σ H _ I h) λv s1 ⟨x,H1,I1,r1,q1⟩=>⟨σ,H1,I1,q1⟩) I.quiet hs
def af4 (te:TE):TS:=λD σ H=>te σ H D.rt
theorem aG (he:PE X e te):PS X (.Return (some e) pos) (af4 te):=by
 intro pins s σ H D I h;exact wpAny_Return_some (thn (he pins s σ H _ I h) λv s1 ⟨x,H1,I1,r1,q1⟩=>⟨x,σ,H1,I1,r1,q1⟩)
def af5 (c:TT)(t u:TS):TS:=λD σ H=>c σ H λb H1=>if b=true then t D σ H1 else u D σ H1
theorem bX {c:Expr}{a b:List Stmt}{tc:TT}(hc:PT X c tc)(ha:PSs X a t)(hb:PSs X b u):PS X (.If c a b pos) (af5 tc t u):=by
 intro pins s σ H D I h;refine wpAny_If (thn (hc pins s σ H _ I h) λd s1 ⟨H1,I1,q1⟩=>?_)
 cases d with
 |true=>exact ha pins s1 σ H1 D I1 q1
 |false=>exact hb pins s1 σ H1 D I1 q1
end
abbrev TG:=V->St->Hp->(St->Hp->Prop)->Prop
abbrev TGs:=List V->St->Hp->(St->Hp->Prop)->Prop
def PG (X:Cx)(target:Expr)(t:TG):Prop :=
 ∀(pins:List (Addr×Obj)) (s:Shared) (σ:St) (H:Hp) (v:V) (u:Value) (Q:St->Hp->Prop),Inv X pins σ H s->RelV v u->t v σ H Q ->
  wpAny (model X.prog X.w) X.A (assign target X.env u) (λ_ s'=>∃σ' H',Inv X pins σ' H' s'/\Q σ' H') X.xe s
def PGs (X:Cx)(ts:List Expr)(t:TGs):Prop :=
 ∀(pins:List (Addr×Obj)) (s:Shared) (σ:St) (H:Hp) (vs:List V) (us:List Value) (Q:St->Hp->Prop),Inv X pins σ H s->Vals vs us->t vs σ H Q ->
  wpAny (model X.prog X.w) X.A (assignInOrder ((assignEach ts X.env).map (·.2)) us) (λ_ s'=>∃σ' H',Inv X pins σ' H' s'/\Q σ' H') X.xe s
abbrev TX:=V->V->V->Hp->(Hp->Prop)->Prop
def YL (X:Cx)(t:TX):Prop :=
 ∀(pins:List (Addr×Obj)) (s:Shared) (σ:St) (H:Hp) (o i v:V) (ov iv u:Value) (Q:Hp->Prop),Inv X pins σ H s->RelV o ov->RelV i iv->RelV v u->t o i v H Q ->
  wpAny (model X.prog X.w) X.A (setItem ov iv u) (λ_ s'=>∃H',Inv X pins σ H' s'/\Q H') X.xe s
section
variable{X:Cx}{pos:Pos}
def kP (i:Nat):TG:=λv σ H Q=>Q (σ.set i (some v)) H
theorem pF {i:Nat}{x:Str}(hN:X.N.Nodup)(hi:X.N[i]?=some x)(hx:Loc X.env.scope x)(hf:X.fn x=true\/X.env.scope.names.lookup x=some .local:=by first | exact .inl rfl | exact .inr rfl | assumption):PG X (.Name x pos) (kP i):=by
 intro pins s σ H v u Q I r h;exact wpAny_assign_Name (qC I hN hi hx r (λs' I'=>⟨_,H,I',h⟩) hf)
def af6:TGs:=λvs σ H Q=>vs=[]/\Q σ H
def YM (t:TG)(u:TGs):TGs:=λvs σ H Q=>∃v r,vs=v::r/\t v σ H λσ' H'=>u r σ' H' Q
theorem Qa:PGs X [] af6:=by
 intro pins s σ H vs us Q I r h;obtain⟨e,h⟩:=h;subst e;cases r;exact assignInOrder_nil ⟨σ,H,I,h⟩
theorem D7 {e:Expr}{es:List Expr}{t:TG}{u:TGs}(h1:PG X e t)(h2:PGs X es u)
  (hs:(assignEach (e::es) X.env).map (·.2)=assign e X.env::(assignEach es X.env).map (·.2):=by rfl):PGs X (e::es) (YM t u):=by
 intro pins s σ H vs us Q I r h;obtain⟨v,vr,e1,h⟩:=h;subst e1;cases r with
 |cons r rr =>
  rw[hs];refine assignInOrder_cons (thn (h1 pins s σ H _ _ _ I r h) λ_ s1 ⟨σ1,H1,I1,q1⟩=>?_)
  exact h2 pins s1 σ1 H1 _ _ Q I1 rr q1
def af7 (K:bo)(n:Nat)(t:TGs):TG:=λv σ H Q=>∃a xs,v=.ref a/\SqT K H a xs/\xs.length=n/\t xs σ H Q
theorem TY {es:List Expr}{k:Nat}{t:TGs}{n:Nat}(hc:X.calm=true)(h:PGs X es t)
  (hn:(assignEach es X.env).length=n:=by rfl) (hst:(assignEach es X.env).findIdx? (·.1)=none:=by rfl):PG X (.Tuple es k pos) (af7 X.K n t):=by
 intro pins s σ H v u Q I r hw;obtain⟨a,xs,e1,hq,hl,hw⟩:=hw;subst e1;cases r;obtain⟨its,rv,ht,hz⟩:=I.tuple hq;refine assign_Tuple_tuple (I.ok.hd hc) ht (by simp[hn,<-hl,rv.length]) hst λh' hx=>?_
 have I1:Inv X pins σ H { s with heap:=h' }:=I.kept (t':=s.toks) λb o e=>hx b o (wt (ma e)) e
 exact h pins _ σ H xs _ Q I1 (by simpa using rv) hw
def af8 (to ti:TE)(t:TX):TG:=λv σ H Q=>to σ H λo H1=>ti σ H1 λi H2=>t o i v H2 λH3=>Q σ H3
theorem TZ {o i:Expr}{to ti:TE}{t:TX}(ho:PE X o to)(hi:PE X i ti)(hs:YL X t)
  (ha:∀v,assign (.Subscript o i pos) X.env v=(do
   let ov <-holding [v] (eval o X.env)
   let iv <-holding [v,ov] (eval i X.env)
   standAt pos
   holding [v,ov,iv] (setItem ov iv v)
   release [v,ov,iv] []):=by intro _;rfl):PG X (.Subscript o i pos) (af8 to ti t):=by
 intro pins s σ H v u Q I r h;rw[ha];refine de (aiU (thn (ho pins s σ H _ I h) λov s1 ⟨x,H1,I1,r1,q1⟩=>?_))
 refine de (aiU (thn (hi pins s1 σ H1 _ I1 q1) λiv s2 ⟨y,H2,I2,r2,q2⟩=>?_))
 refine de (ai1 (de (aiU (thn (hs pins s2 σ H2 x y v ov iv u _ I2 r1 r2 r q2) λ_ s3 ⟨H3,I3,q3⟩=>?_))))
 exact wpAny_release ⟨σ,H3,I3,q3⟩
def YN (te:TE)(g:TG):TS:=λD σ H=>te σ H λx H1=>g x σ H1 D.nx
theorem T2 {tg e:Expr}{te:TE}{g:TG}(he:PE X e te)(hg:PG X tg g)(hs:swapsWithSole [tg] e pos.line X.env=pure false:=by rfl)(hw:swappedStores [tg] e X.env=pure none:=by rfl)
  (h1:(assignEach [tg] X.env).map (·.2)=[assign tg X.env]:=by rfl):PS X (.Assign [tg] e pos) (YN te g):=by
 intro pins s σ H D I h;refine wpAny_Assign_stores (thn (he pins s σ H _ I h) λv s1 ⟨x,H1,I1,r1,q1⟩=>?_) hs hw
 rw[h1];exact thn (hg pins s1 σ H1 x v _ I1 r1 q1) λ_ s2 q=>q
theorem bg {i:Nat}{x:Str}{e:Expr}{te:TE}{pos':Pos}(hN:X.N.Nodup)(hi:X.N[i]?=some x)(hx:Loc X.env.scope x)(he:PE X e te)(hs:swapsWith e (some (.Name x pos')) pos.line X.env=pure false:=by rfl)(hf:X.fn x=true\/X.env.scope.names.lookup x=some .local:=by first | exact .inl rfl | exact .inr rfl | assumption) :
  PS X (.Assign [.Name x pos'] e pos) (YN te (kP i)):=by
 intro pins s σ H D I h;refine wpAny_Assign_Name (thn (he pins s σ H _ I h) λv s1 ⟨y,H1,I1,r1,q1⟩=>?_) hs
 exact qC I1 hN hi hx r1 (λs2 I2=>⟨_,H1,I2,q1⟩) hf
end
structure It where
 go:Nat->Hp->Prop
 yld:Nat->Hp->V->Hp->Prop
 stop:Nat->Hp->Prop
def fj (X:Cx)(pins:List (Addr×Obj))(H:Hp)(b:Addr):Prop :=
 H b=none/\b≠X.env.locals/\b∉X.fs/\(b∈X.ex\/X.s₀.heap.objs.size<=b)/\(∀x c,X.env.cells.lookup x=some c->c≠b)/\∀p∈X.pn++pins,p.1≠b
theorem Inv.vQ {X:Cx}{pins:List (Addr×Obj)}{σ:St}{H H':Hp}{s:Shared}{b:Addr}(I:Inv X pins σ H s)(hb:s.heap.objs.size<=b)(hn:H' b=none):fj X pins H' b:=by
 refine⟨hn,Nat.ne_of_gt (tm I.lt hb),I.afX hb,.inr (rf I.sz hb),λx c e z=>?_,λp hp z=>?_⟩
 ·obtain⟨v,q⟩:=I.cell x c e;exact absurd (tm q.lt (by rw[z];exact hb)) (akd _)
 ·exact absurd (tm (ma (I.pin p hp).1) (by rw[z];exact hb)) (akd _)
structure Turn (P:kx)(w:World)(K:bo)(tg:Expr)(J:It)(fp:List Addr)(it:Addr)(tn:Nat->Heap->Prop):Prop where
 mem:it∈fp
 obj:∀i h,tn i h->∀b∈fp,∃o,h.get? b=some o/\∀v,o.data≠.cell v
 keep:∀i h h',tn i h->(∀b∈fp,∀o,h.get? b=some o->h'.get? b=some o)->tn i h'
 item:∀(X:Cx),X.prog=P->X.w=w->X.K=K->X.calm=true->∀(i:Nat) (pins:List (Addr×Obj)) (s:Shared) (σ:St) (H:Hp) (E:Value->Shared->Prop),Inv X pins σ H s->(∀b∈fp,fj X pins H b)->tn i s.heap->J.go i H ->
  wpAny (model P w) X.A (pyNext (.ref it)) (λr s1=>∃u,r=some u /\
   wpAny (model P w) X.A (letOwnedTupleGo tg (.ref it) u) (λ_ s2=>∃x H',Inv X pins σ H' s2/\RelV x u/\J.yld i H x H'/\tn (i+1) s2.heap/\∀b∈fp,H' b=none) E s1) E s
 done:∀(X:Cx),X.prog=P->X.w=w->X.K=K->X.calm=true->∀(i:Nat) (pins:List (Addr×Obj)) (s:Shared) (σ:St) (H:Hp) (E:Value->Shared->Prop),Inv X pins σ H s->(∀b∈fp,fj X pins H b)->tn i s.heap->J.stop i H ->
  wpAny (model P w) X.A (pyNext (.ref it)) (λr s1=>r=none/\Inv X pins σ H s1) E s
 self:∀(A:Around) (i:Nat) (s:Shared) (Q:Value->Shared->Prop) (E:Value->Shared->Prop),tn i s.heap->Q (.ref it) s->wpAny (model P w) A (pyIter (.ref it)) Q E s
abbrev TI:=St->Hp->(It->Hp->Prop)->Prop
def PIE (X:Cx)(pins:List (Addr×Obj))(σ:St)(tg:Expr)(R:It->Hp->Prop)(itv:Value)(s2:Shared):Prop :=
 ∃(it:Addr) (fp:List Addr) (tn:Nat->Heap->Prop) (J:It) (H':Hp),itv=.ref it/\Inv X pins σ H' s2/\Turn X.prog X.w X.K tg J fp it tn/\tn 0 s2.heap/\(∀b∈fp,fj X pins H' b)/\R J H'
def PI (X:Cx)(tg iter:Expr)(wi:TI):Prop :=
 ∀(pins:List (Addr×Obj)) (s:Shared) (σ:St) (H:Hp) (R:It->Hp->Prop),Inv X pins σ H s->wi σ H R ->
  wpAny (model X.prog X.w) X.A (eval iter X.env) (λv s1=>wpAny (model X.prog X.w) X.A (pyIter v) (PIE X pins σ tg R) X.xe s1) X.xe s
theorem D8 {M:Model}{A:Around}{E:Value->Shared->Prop}{s:Shared}{tg:Expr}{it:Addr}{u:Value}{o:Obj}{n:String}{vs:Array Value}{Q:Unit->Shared->Prop}(ho:s.heap.get? it=some o)(hc:o.cls=.type n)(hd:o.data=.fields vs)
    (hn:["enumerate","zip","dict_itemiterator","dict_reverseitemiterator","odict_iterator","itertools.zip_longest","itertools.pairwise"].contains n=false) (hQ:Q () s):wpAny M A (letOwnedTupleGo tg (.ref it) u) Q E s:=by
  unfold letOwnedTupleGo
  cases tg <;> first
    |exact kq hQ
    | (cases u <;> first
        |exact kq hQ
        | (refine de (wpAny_load ho ?_)
           rw[hc,hd]
           show wpAny M A (if (["enumerate","zip","dict_itemiterator","dict_reverseitemiterator","odict_iterator","itertools.zip_longest","itertools.pairwise"].contains n && vs[0]? == some (rawInt _))=true then _ else _) Q E s
           rw[if_neg (by intro h;rw[hn,Bool.false_and]at h;cases h)]
           exact kq hQ))
def Itl (K:bo)(a:Addr):It :=
 ⟨λi H=>∃xs x,SqL K H a xs/\xs[i]?=some x,λi H x H'=>H'=H/\∀xs,SqL K H a xs->xs[i]?=some x,λi H=>∃xs,SqL K H a xs/\xs.length<=i⟩
def Itt (K:bo)(a:Addr):It :=
 ⟨λi H=>∃xs x,SqT K H a xs/\xs[i]?=some x,λi H x H'=>H'=H/\∀xs,SqT K H a xs->xs[i]?=some x,λi H=>∃xs,SqT K H a xs/\xs.length<=i⟩
def Itr (lo:Int)(n:Nat):It:=⟨λi _=>i < n,λi H x H'=>H'=H/\x=.int (lo+i),λi _=>n<=i⟩
theorem K9 {P:kx}{w:World}{K:bo}{tg:Expr}(a it:Addr):Turn P w K tg (Itl K a) [it] it (λi h=>h.IsListIter it a i) where
 mem:=by simp
 obj:=λi h st b hb=>by
  have e:b=it:=by simpa using hb
  subst e;obtain⟨o,e,c,d⟩:=st;exact⟨o,e,λv z=>by rw[d]at z;cases z⟩
 keep:=λi h h' st k=>st.at λo e=>k it (by simp) o e
 item:=by
  intro X hP hw hK hc i pins s σ H E I hf st hg;subst hP hw hK;obtain⟨xs,x,hq,hx⟩:=hg;obtain⟨its,rv,p,hz⟩:=I.list hq;obtain⟨u,hu,ru⟩:=rv.get hx;obtain⟨f0,f1,f2,f3,f4,f5⟩:=hf it (by simp)
  refine wpAny_pyNext_list_item st p.isList (x:=u) (by simpa using hu) λh' st' sb=>?_
  have I1:Inv X pins σ H { s with heap:=h' }:=I.turned (t':=s.toks) (λb o hb e=>(sb.2 b hb).trans e) f0 f1 f3 f4 f5
  obtain⟨o,e,c,d⟩:=id st';exact⟨u,rfl,D8 (s:={ s with heap:=h' }) e c d (by decide) ⟨x,H,I1,ru,⟨rfl,λys hy=>by rw[I.D6 hy hq];exact hx⟩,st',λb hb=>(hf b hb).1⟩⟩
 done:=by
  intro X hP hw hK hc i pins s σ H E I hf st hg;subst hP hw hK;obtain⟨xs,hq,hx⟩:=hg;obtain⟨its,rv,p,hz⟩:=I.list hq;obtain⟨f0,f1,f2,f3,f4,f5⟩:=hf it (by simp)
  have hl:=rv.length;exact wpAny_pyNext_list_end (I.ok.hd hc) st p.isList (by simp;omega) λh' eb=>⟨rfl,I.turned (t':=s.toks) (λb o hb e=>eb b o hb e) f0 f1 f3 f4 f5⟩
 self:=λ_ _ _ _ _ st h=>wpAny_pyIter_listiter st h
theorem Ho {P:kx}{w:World}{K:bo}{tg:Expr}(a it:Addr):Turn P w K tg (Itt K a) [it] it (λi h=>h.IsTupleIter it a i) where
 mem:=by simp
 obj:=λi h st b hb=>by
  have e:b=it:=by simpa using hb
  subst e;obtain⟨o,e,c,d⟩:=st;exact⟨o,e,λv z=>by rw[d]at z;cases z⟩
 keep:=λi h h' st k=>st.at λo e=>k it (by simp) o e
 item:=by
  intro X hP hw hK hc i pins s σ H E I hf st hg;subst hP hw hK;obtain⟨xs,x,hq,hx⟩:=hg;obtain⟨its,rv,p,hz⟩:=I.tuple hq;obtain⟨u,hu,ru⟩:=rv.get hx;obtain⟨f0,f1,f2,f3,f4,f5⟩:=hf it (by simp)
  refine wpAny_pyNext_tuple_item st (show s.heap.IsTuple a its.toArray from p) (x:=u) (by simpa using hu) λh' st' sb=>?_
  have I1:Inv X pins σ H { s with heap:=h' }:=I.turned (t':=s.toks) (λb o hb e=>(sb.2 b hb).trans e) f0 f1 f3 f4 f5
  obtain⟨o,e,c,d⟩:=id st';exact⟨u,rfl,D8 (s:={ s with heap:=h' }) e c d (by decide) ⟨x,H,I1,ru,⟨rfl,λys hy=>by rw[I.K8 hy hq];exact hx⟩,st',λb hb=>(hf b hb).1⟩⟩
 done:=by
  intro X hP hw hK hc i pins s σ H E I hf st hg;subst hP hw hK;obtain⟨xs,hq,hx⟩:=hg;obtain⟨its,rv,p,hz⟩:=I.tuple hq;obtain⟨f0,f1,f2,f3,f4,f5⟩:=hf it (by simp)
  have hl:=rv.length;exact wpAny_pyNext_tuple_end (I.ok.hd hc) st (show s.heap.IsTuple a its.toArray from p) (by simp;omega) λh' eb=>⟨rfl,I.turned (t':=s.toks) (λb o hb e=>eb b o hb e) f0 f1 f3 f4 f5⟩
 self:=λ_ _ _ _ _ st h=>wpAny_pyIter_tupleiter st h
theorem Hq {P:kx}{w:World}{K:bo}{tg:Expr}(it:Addr)(lo:Int)(n:Nat):Turn P w K tg (Itr lo n) [it] it (λi h=>IsRangeIter h it (lo+(i:Nat) * 1) ((n:Int) - (i:Nat)) 1) where
 mem:=by simp
 obj:=λi h st b hb=>by
  have e:b=it:=by simpa using hb
  subst e;exact⟨_,st,λv z=>by
   have z':Data.fields _=Data.cell v:=z;cases z'⟩
 keep:=λi h h' st k=>k it (by simp) _ st
 item:=by
  intro X hP hw hK hc i pins s σ H E I hf st hg;subst hP hw hK;obtain⟨f0,f1,f2,f3,f4,f5⟩:=hf it (by simp)
  have W:=Walks.range (prog:=X.prog) (w:=X.w) (I.ok.hd hc) it lo 1 n;refine W.item i s _ _ hg st λv h' tk hv st' kk=>?_
  obtain⟨t,rfl⟩:=hv;have I1:Inv X pins σ H { s with heap:=h',toks:=tk }:=I.turned (λb o hb e=>kk b o (by simpa using hb) e) f0 f1 f3 f4 f5
  refine⟨_,rfl,D8 (s:={ s with heap:=h',toks:=tk }) (n:="range_iterator") st' rfl rfl (by decide) ⟨.int (lo+i),H,I1,⟨t,?_⟩,⟨rfl,rfl⟩,st',λb hb=>(hf b hb).1⟩⟩
  rw[Int.mul_one]
 done:=by
  intro X hP hw hK hc i pins s σ H E I hf st hg;subst hP hw hK;obtain⟨f0,f1,f2,f3,f4,f5⟩:=hf it (by simp)
  exact wpAny_pyNext_range_end (I.ok.hd hc) st (by have:n<=i:=hg;omega) λh' eb=>⟨rfl,I.turned (t':=s.toks) (λb o hb e=>eb b o hb e) f0 f1 f3 f4 f5⟩
 self:=λ_ _ _ _ _ st h=>wpAny_pyIter_rangeiter st h
section
variable{X:Cx}{tg:Expr}
def YO (K:bo)(tl:TE):TI:=λσ H R=>tl σ H λx H1=>∃a,x=.ref a/\(∃xs,SqL K H1 a xs)/\R (Itl K a) H1
def af9 (K:bo)(tl:TE):TI:=λσ H R=>tl σ H λx H1=>∃a,x=.ref a/\(∃xs,SqT K H1 a xs)/\R (Itt K a) H1
theorem pG {l:Expr}{tl:TE}(hl:PE X l tl):PI X tg l (YO X.K tl):=by
 intro pins s σ H R I h;refine thn (hl pins s σ H _ I h) λv s1 ⟨x,H1,I1,r1,q1⟩=>?_
 obtain⟨a,e,⟨xs,hq⟩,q⟩:=q1;subst e;cases r1;obtain⟨its,rv,p,hz⟩:=I1.list hq;refine wpAny_pyIter_list p.isList ?_;refine⟨s1.heap.objs.size,[s1.heap.objs.size],_,_,H1,rfl,I1.kept (t':=s1.toks) λb o e=>gp _ e,K9 a _,⟨_,Lk _ rfl,rfl,rfl⟩,λb hb=>?_,q⟩
 have e:b=s1.heap.objs.size:=by simpa using hb
 subst e;exact I1.vQ (ko _) (I1.hok.fresh (ko _))
theorem T3 {l:Expr}{tl:TE}(hl:PE X l tl):PI X tg l (af9 X.K tl):=by
 intro pins s σ H R I h;refine thn (hl pins s σ H _ I h) λv s1 ⟨x,H1,I1,r1,q1⟩=>?_
 obtain⟨a,e,⟨xs,hq⟩,q⟩:=q1;subst e;cases r1;obtain⟨its,rv,p,hz⟩:=I1.tuple hq;refine wpAny_pyIter_tuple (show s1.heap.IsTuple a its.toArray from p) ?_
 refine⟨s1.heap.objs.size,[s1.heap.objs.size],_,_,H1,rfl,I1.kept (t':=s1.toks) λb o e=>gp _ e,Ho a _,⟨_,Lk _ rfl,rfl,rfl⟩,λb hb=>?_,q⟩
 have e:b=s1.heap.objs.size:=by simpa using hb
 subst e;exact I1.vQ (ko _) (I1.hok.fresh (ko _))
theorem MK {pins:List (Addr×Obj)}{σ:St}{H:Hp}{s:Shared}{R:It->Hp->Prop}{E:Value->Shared->Prop}{lo hi:Int}{t u v:Tok}{tk:Nat}(I:Inv X pins σ H s)(h1:-(2 ^ 62)<=lo)(h2:lo < 2 ^ 62)(h3:-(2 ^ 62)<=hi)(h4:hi < 2 ^ 62)
  (q:R (Itr lo (hi - lo).toNat) H):wpAny (model X.prog X.w) X.A (pyIter (.ref s.heap.objs.size)) (PIE X pins σ tg R) E { s with heap:=s.heap.push { cls:=.type "range",data:=.fields #[.int lo t,.int hi u,.int 1 v] },toks:=tk }:=by
 refine wpAny_pyIter_range (IsRange.new ..) (small_one h1 h2 h3 h4) ?_;have I1:Inv X pins σ H { s with heap:=s.heap.push { cls:=.type "range",data:=.fields #[.int lo t,.int hi u,.int 1 v] },toks:=tk }:=I.kept λb o e=>gp _ e
 refine⟨(s.heap.push { cls:=.type "range",data:=.fields #[.int lo t,.int hi u,.int 1 v] }).objs.size,[(s.heap.push { cls:=.type "range",data:=.fields #[.int lo t,.int hi u,.int 1 v] }).objs.size],_,_,H,rfl,
  I1.kept (t':=tk) λb o e=>gp _ e,Hq _ lo (hi - lo).toNat,?_,λb hb=>?_,q⟩
 ·have e1:lo+((0:Nat):Int) * 1=lo:=by simp
  have e2:(((hi - lo).toNat:Nat):Int) - ((0:Nat):Int)=Builtin.Range.rangeSize lo hi 1:=by rw[rangeSize_one];split <;> omega
  show IsRangeIter _ _ (lo+((0:Nat):Int) * 1) ((((hi - lo).toNat:Nat):Int) - ((0:Nat):Int)) 1;rw[e1,e2];exact Lk _ rfl
 ·have e:b=(s.heap.push { cls:=.type "range",data:=.fields #[.int lo t,.int hi u,.int 1 v] }).objs.size:=by simpa using hb
  subst e;exact I1.vQ (ko _) (I1.hok.fresh (ko _))
def YQ (ta:TA):TI:=λσ H R=>ta σ H λvs H1=>∃j:Int,vs=[.int j]/\-(2 ^ 62)<=j/\j < 2 ^ 62/\R (Itr 0 j.toNat) H1
theorem La {a:Expr}{ta:TA}{p pos:Pos}(hg:Gl X "range")(hm:X.mg "range"=none)(ha:PA X [a] ta)(hs:sr [a] X.env=[(false,eval a X.env)]:=by rfl):PI X tg (.Call (.Name "range" p) [a] [] pos) (YQ ta):=by
 intro pins s σ H R I h;refine Call_ (zx I hg hm boot_range (PyProof.Rows.callWith_type1 (thn (ha pos pins s σ H _ I h) λus s1 ⟨vs,H1,I1,r1,q1⟩=>?_) hs rfl))
 obtain⟨j,e,q1,q2,q⟩:=q1;subst e;cases r1 with
 |cons r rr =>
  cases rr;obtain⟨t,rfl⟩:=r;exact call_range_1 (MK I1 (by omega) (by omega) q1 q2 (by simpa using q))
def YR (wi:TI)(g:TG)(tb:TS):TS:=λD σ H=>wi σ H λJ H1=>∃W:Nat->Nat->St->Hp->Prop,(∃m,W 0 m σ H1)/\∀i m σ H,W i m σ H ->
 (J.stop i H/\D.nx σ H)\/(J.go i H/\∃N:St->Hp->Prop,(∀σ' H',N σ' H'->∃m',m' < m/\W (i+1) m' σ' H')/\∀x H',J.yld i H x H'->g x σ H' λσ2 H2=>tb { D with nx:=N,ct:=N,bk:=D.nx } σ2 H2)
def zy (fp:List Addr)(h:Heap):List (Addr×Obj):=fp.filterMap λb=>(h.get? b).map λo=>(b,o)
theorem gh {fp:List Addr}{h:Heap}{b:Addr}{o:Obj}(hb:b∈fp)(e:h.get? b=some o):(b,o)∈zy fp h:=List.mem_filterMap.mpr ⟨b,hb,by rw[e];rfl⟩
theorem Lb {fp:List Addr}{h:Heap}{p:Addr×Obj}(hp:p∈zy fp h):p.1∈fp/\h.get? p.1=some p.2:=by
 obtain⟨b,hb,e⟩:=List.mem_filterMap.mp hp;cases q:h.get? b with
 |none=>rw[q]at e;cases e
 |some o =>
  rw[q]at e;have e':(b,o)=p:=aix e;subst e';exact⟨hb,q⟩
theorem Inv.pinned {pins:List (Addr×Obj)}{σ:St}{H:Hp}{s:Shared}{fp:List Addr}(I:Inv X pins σ H s)(hf:∀b∈fp,fj X pins H b)(ho:∀b∈fp,∃o,s.heap.get? b=some o/\∀v,o.data≠.cell v):Inv X (pins++zy fp s.heap) σ H s :=
 I.uN λp hp=>(List.mem_append.mp hp).elim (λz=>I.pin p (ka _ z)) λz=>by
  obtain⟨hb,e⟩:=Lb z;obtain⟨f0,f1,f2,_⟩:=hf p.1 hb;obtain⟨o,e',d⟩:=ho p.1 hb;rw[e]at e';cases e';exact⟨e,f0,f1,f2,d⟩
theorem Inv.eR {pins pl:List (Addr×Obj)}{σ:St}{H:Hp}{s:Shared}(I:Inv X (pins++pl) σ H s):Inv X pins σ H s:=I.uN λp hp=>I.pin p (ka _ (aiJ _ hp))
theorem Hr {iter:Expr}{body:List Stmt}{wi:TI}{g:TG}{tb:TS}{pos:Pos}(hp:PassesOwn (model X.prog X.w) X.A X.env X.xe)(hc:X.calm=true)(hi:PI X tg iter wi)(hg:PG X tg g)(hb:PSs X body tb)
  (hs:∀x,foldedSetIterable iter X.env x=pure x:=by intro _;rfl):PS X (.For tg iter body [] pos) (YR wi g tb):=by
 intro pins s σ H D I h;refine wpAny_For (thn (hi pins s σ H _ I h) λv s1 h1=>thn h1 λitv s2 h2=>?_) hs
 obtain⟨it,fp,tn,J,H2,e,I2,T,st2,f2,W,⟨m0,w0⟩,turn⟩:=h2;subst e;have stat:∀ {H':Hp},(∀b∈fp,H' b=none)->∀b∈fp,fj X pins H' b:=λhn b hb=>⟨hn b hb,(f2 b hb).2⟩
 refine codeAny_forLoop_any (λn s'=>∃i σ' H',Inv X pins σ' H' s'/\tn i s'.heap/\(∀b∈fp,H' b=none)/\W i n σ' H') ?_ m0 ⟨0,σ,H2,I2,st2,λb hb=>(f2 b hb).1,w0⟩
 rintro n s3 ⟨i,σ3,H3,I3,st3,fr3,w3⟩;rcases turn i n σ3 H3 w3 with ⟨stop,qn⟩ | ⟨go,N,hN,step⟩
 ·refine wpAny_passesOwn hp (thn (T.done X rfl rfl rfl hc i pins s3 σ3 H3 X.xe I3 (stat fr3) st3 stop) λr s4 ⟨hr,I4⟩=>?_)
  subst hr;exact wpAny_execs_nil ⟨σ3,H3,I4,qn⟩
 ·refine wpAny_passesOwn hp (thn (T.item X rfl rfl rfl hc i pins s3 σ3 H3 X.xe I3 (stat fr3) st3 go) λr s4 ⟨u,hr,h4⟩=>?_)
  subst hr;refine wpAny_passesOwn hp (thn h4 λ_ s5 ⟨x,H5,I5,r5,y5,st5,fr5⟩=>?_)
  have I5':=I5.pinned (stat fr5) (T.obj _ _ st5);refine wpAny_passesOwn hp (thn (hg _ s5 σ3 H5 x u _ I5' r5 (step x H5 y5)) λ_ s6 ⟨σ6,H6,I6,q6⟩=>?_)
  refine wpAny_passesOwn hp (thn (hb _ s6 σ6 H6 _ I6 q6) λf s7 q7=>?_)
  have again:∀ {σ7:St} {H7:Hp},Inv X (pins++zy fp s5.heap) σ7 H7 s7->N σ7 H7->∃m,m < n/\∃i σ' H',Inv X pins σ' H' s7/\tn i s7.heap/\(∀b∈fp,H' b=none)/\W i m σ' H':=λ{σ7 H7} I7 n7=>by
   obtain⟨m',hm,w7⟩:=hN σ7 H7 n7;refine⟨m',hm,i+1,σ7,H7,I7.eR,T.keep _ _ _ st5 λb hb o e=>(I7.pin (b,o) (ka _ (ka _ (gh hb e)))).1,λb hb=>?_,w7⟩
   obtain⟨o,e,d⟩:=T.obj _ _ st5 b hb;exact(I7.pin (b,o) (ka _ (ka _ (gh hb e)))).2.1
  cases f with
  |next=>obtain⟨σ7,H7,I7,n7⟩:=q7;exact again I7 n7
  |cont=>obtain⟨σ7,H7,I7,n7⟩:=q7;exact again I7 n7
  |brk=>obtain⟨σ7,H7,I7,q7⟩:=q7;exact⟨σ7,H7,I7.eR,q7⟩
  |ret v=>obtain⟨x7,σ7,H7,I7,r7,q7⟩:=q7;exact⟨x7,σ7,H7,I7.eR,r7,q7⟩
end
theorem zz {K:bo}{a:Addr}{xs:List V}{g:TG}{tb:TS}{D:Ends}{σ:St}{H:Hp}(Pv:Nat->St->Hp->Prop)(h0:Pv 0 σ H)(hl:∀i σ H,i<=xs.length->Pv i σ H->SqL K H a xs)
  (hs:∀i x σ H,xs[i]?=some x->Pv i σ H->g x σ H λσ2 H2=>tb { D with nx:=Pv (i+1),ct:=Pv (i+1),bk:=D.nx } σ2 H2) (hd:∀σ H,Pv xs.length σ H->D.nx σ H) :
  ∃W:Nat->Nat->St->Hp->Prop,(∃m,W 0 m σ H)/\∀i m σ H,W i m σ H ->
   ((Itl K a).stop i H/\D.nx σ H)\/((Itl K a).go i H/\∃N:St->Hp->Prop,(∀σ' H',N σ' H'->∃m',m' < m/\W (i+1) m' σ' H')/\∀x H',(Itl K a).yld i H x H'->g x σ H' λσ2 H2=>tb { D with nx:=N,ct:=N,bk:=D.nx } σ2 H2):=by
 refine⟨λi m σ H=>m=xs.length - i/\i<=xs.length/\Pv i σ H,⟨xs.length,by simp,aiW _,h0⟩,?_⟩
 rintro i m σ H ⟨rfl,hi,p⟩;have q:=hl i σ H hi p
 by_cases hlt:i < xs.length
 ·refine .inr ⟨⟨xs,xs[i],q,by simp[hlt]⟩,Pv (i+1),λσ' H' p'=>⟨xs.length - (i+1),by omega,rfl,hlt,p'⟩,λx H' y=>?_⟩
  obtain⟨e,y⟩:=y;subst e;exact hs i x σ _ (y xs q) p
 ·have e:i=xs.length:=by omega
  subst e;exact .inl ⟨⟨xs,q,ko _⟩,hd σ H p⟩
theorem Lc {lo:Int}{n:Nat}{g:TG}{tb:TS}{D:Ends}{σ:St}{H:Hp}(Pv:Nat->St->Hp->Prop)(h0:Pv 0 σ H)
  (hs:∀i σ H,i < n->Pv i σ H->g (.int (lo+i)) σ H λσ2 H2=>tb { D with nx:=Pv (i+1),ct:=Pv (i+1),bk:=D.nx } σ2 H2) (hd:∀σ H,Pv n σ H->D.nx σ H) :
  ∃W:Nat->Nat->St->Hp->Prop,(∃m,W 0 m σ H)/\∀i m σ H,W i m σ H ->
   ((Itr lo n).stop i H/\D.nx σ H)\/((Itr lo n).go i H/\∃N:St->Hp->Prop,(∀σ' H',N σ' H'->∃m',m' < m/\W (i+1) m' σ' H')/\∀x H',(Itr lo n).yld i H x H'->g x σ H' λσ2 H2=>tb { D with nx:=N,ct:=N,bk:=D.nx } σ2 H2):=by
 refine⟨λi m σ H=>m=n - i/\i<=n/\Pv i σ H,⟨n,by simp,aiW _,h0⟩,?_⟩
 rintro i m σ H ⟨rfl,hi,p⟩
 by_cases hlt:i < n
 ·refine .inr ⟨hlt,Pv (i+1),λσ' H' p'=>⟨n - (i+1),by omega,rfl,hlt,p'⟩,λx H' y=>?_⟩
  obtain⟨e,y⟩:=y;subst e y;exact hs i σ _ hlt p
 ·have e:i=n:=by omega
  subst e;exact .inl ⟨ko _,hd σ H p⟩
abbrev R2:=V->V->Hp->VK->Prop
def OpR (X:Cx)(f:Value->Value->Sem Value)(r:R2):Prop :=
 ∀(pins:List (Addr×Obj)) (s:Shared) (σ:St) (H:Hp) (x y:V) (v u:Value) (Q:VK),Inv X pins σ H s->RelV x v->RelV y u->r x y H Q ->
  wpAny (model X.prog X.w) X.A (f v u) (EP X pins σ Q) X.xe s
def UnR (X:Cx)(f:Value->Sem Value)(r:V->Hp->VK->Prop):Prop :=
 ∀(pins:List (Addr×Obj)) (s:Shared) (σ:St) (H:Hp) (x:V) (v:Value) (Q:VK),Inv X pins σ H s->RelV x v->r x H Q ->
  wpAny (model X.prog X.w) X.A (f v) (EP X pins σ Q) X.xe s
def iu (X:Cx)(f:Value)(r:List V->Hp->VK->Prop):Prop :=
 ∀(pins:List (Addr×Obj)) (s:Shared) (σ:St) (H:Hp) (xs:List V) (us:List Value) (Q:VK),Inv X pins σ H s->Vals xs us->r xs H Q ->
  wpAny (model X.prog X.w) X.A (call f us) (EP X pins σ Q) X.xe s
def aga (X:Cx)(r:V->Hp->(Bool->Hp->Prop)->Prop):Prop :=
 ∀(pins:List (Addr×Obj)) (s:Shared) (σ:St) (H:Hp) (x:V) (v:Value) (Q:Bool->Hp->Prop),Inv X pins σ H s->RelV x v->r x H Q ->
  wpAny (model X.prog X.w) X.A (truthy v) (TP X pins σ Q) X.xe s
def tOp (r:R2)(ta tb:TE):TE:=λσ H Q=>ta σ H λx H1=>tb σ H1 λy H2=>r x y H2 Q
def tUn (r:V->Hp->VK->Prop)(ta:TE):TE:=λσ H Q=>ta σ H λx H1=>r x H1 Q
def rI (C:Int->Int->Prop)(g:Int->Int->V):R2:=λx y H Q=>∃i j,x=.int i/\y=.int j/\C i j/\Q (g i j) H
def rI0 (g:Int->Int->V):R2:=λx y H Q=>∃i j,x=.int i/\y=.int j/\Q (g i j) H
def rU (g:Int->V):V->Hp->VK->Prop:=λx H Q=>∃i,x=.int i/\Q (g i) H
section
variable{X:Cx}{a b c:Expr}{ta tb tc:TE}{pos:Pos}
theorem T4 (ha:PE X a ta)(hb:PE X b tb){pins:List (Addr×Obj)}{s:Shared}{σ:St}{H:Hp}{R:V->V->Hp->Prop}(I:Inv X pins σ H s)
  (h:ta σ H λx H1=>tb σ H1 λy H2=>R x y H2) {Q:Value->Shared->Prop} {f:Value->Value->Sem Value}
  (hf:∀v u s2 x y H2,Inv X pins σ H2 s2->RelV x v->RelV y u->R x y H2->wpAny (model X.prog X.w) X.A (f v u) Q X.xe s2) :
  wpAny (model X.prog X.w) X.A (eval a X.env) (λv s₁=>wpAny (model X.prog X.w) X.A (eval b X.env) (λu s₂=>wpAny (model X.prog X.w) X.A (f v u) Q X.xe s₂) X.xe s₁) X.xe s:=by
 refine thn (ha pins s σ H _ I h) λv s1 ⟨x,H1,I1,r1,q1⟩=>?_
 refine thn (hb pins s1 σ H1 _ I1 q1) λu s2 ⟨y,H2,I2,r2,q2⟩=>?_
 exact hf v u s2 x y H2 I2 r1 r2 q2
theorem bP {op:Operator}{r:R2}(ho:OpR X (binaryOp op) r)(ha:PE X a ta)(hb:PE X b tb):PE X (.BinOp a op b pos) (tOp r ta tb):=by
 intro pins s σ H Q I h;exact wpAny_BinOp (T4 ha hb I h λv u s2 x y H2 I2 rx ry q=>ho pins s2 σ H2 x y v u Q I2 rx ry q)
theorem zA {op:UnaryOp}{r:V->Hp->VK->Prop}(ho:UnR X (unaryOp op) r)(ha:PE X a ta):PE X (.UnaryOp op a pos) (tUn r ta):=by
 intro pins s σ H Q I h;exact UnaryOp_ (thn (ha pins s σ H _ I h) λv s1 ⟨x,H1,I1,r1,q1⟩=>ho pins s1 σ H1 x v Q I1 r1 q1)
theorem opI {f:Value->Value->Sem Value}{C:Int->Int->Prop}{g:Int->Int->Int}
  (rule:∀(i j:Int) (t u:Tok) (s:Shared) (Q:Value->Shared->Prop) (E:Value->Shared->Prop),C i j->Q (.int (g i j) s.toks) { s with toks:=s.toks+1 }->wpAny (model X.prog X.w) X.A (f (.int i t) (.int j u)) Q E s) :
  OpR X f (rI C λi j=>.int (g i j)):=by
 intro pins s σ H x y v u Q I rx ry h;obtain⟨i,j,rfl,rfl,hc,q⟩:=h;obtain⟨t,rfl⟩:=rx;obtain⟨t',rfl⟩:=ry;exact rule i j t t' s _ _ hc ⟨.int (g i j),H,I.tok _,⟨_,rfl⟩,q⟩
theorem YS {f:Value->Value->Sem Value}{g:Int->Int->Int}
  (rule:∀(i j:Int) (t u:Tok) (s:Shared) (Q:Value->Shared->Prop) (E:Value->Shared->Prop),Q (.int (g i j) s.toks) { s with toks:=s.toks+1 }->wpAny (model X.prog X.w) X.A (f (.int i t) (.int j u)) Q E s) :
  OpR X f (rI0 λi j=>.int (g i j)):=by
 intro pins s σ H x y v u Q I rx ry h;obtain⟨i,j,rfl,rfl,q⟩:=h;obtain⟨t,rfl⟩:=rx;obtain⟨t',rfl⟩:=ry;exact rule i j t t' s _ _ ⟨.int (g i j),H,I.tok _,⟨_,rfl⟩,q⟩
theorem Qb {f:Value->Value->Sem Value}{g:Int->Int->Bool}
  (rule:∀(i j:Int) (t u:Tok) (s:Shared) (Q:Value->Shared->Prop) (E:Value->Shared->Prop),Q (.bool (g i j)) s->wpAny (model X.prog X.w) X.A (f (.int i t) (.int j u)) Q E s) :
  OpR X f (rI0 λi j=>.bl (g i j)):=by
 intro pins s σ H x y v u Q I rx ry h;obtain⟨i,j,rfl,rfl,q⟩:=h;obtain⟨t,rfl⟩:=rx;obtain⟨t',rfl⟩:=ry;exact rule i j t t' s _ _ ⟨.bl (g i j),H,I,rfl,q⟩
def agb (i j:Int):Prop:=0 < j/\j < 1073741824
def T5 (i j:Int):Prop:=(-(2 ^ 64) < i/\i < 2 ^ 64)\/(-(2 ^ 64) < j/\j < 2 ^ 64)
theorem T5.ok {i j:Int}(h:T5 i j):IntMulOk i j:=by
 rcases h with ⟨h1,h2⟩ | ⟨h1,h2⟩
 ·exact .of_left (intBits_le_64 h1 h2)
 ·exact .of_right (intBits_le_64 h1 h2)
theorem eS:OpR X (binaryOp .Add) (rI0 λi j=>.int (i+j)):=YS λ_ _ _ _ _ _ _ q=>add_int q
theorem Hs:OpR X (binaryOp .Sub) (rI0 λi j=>.int (i - j)):=YS λ_ _ _ _ _ _ _ q=>sub_int q
theorem Ht:OpR X (binaryOp .Mult) (rI T5 λi j=>.int (i * j)):=opI λ_ _ _ _ _ _ _ hc q=>mul_int q hc.ok
theorem CB:OpR X (binaryOp .FloorDiv) (rI agb λi j=>.int (i / j)):=opI λi j _ _ _ _ _ hc q=>by
 have h1:(0:Int) < j:=hc.1;have h2:j < 1073741824:=hc.2;exact floordiv_int (by omega) (by rw[Int.fdiv_eq_ediv_of_nonneg i (by omega)];exact q) (.inl (PyProof.noPylong_small (by omega)))
theorem fZ:OpR X (binaryOp .Mod) (rI (λ_ j=>0 < j) λi j=>.int (i % j)):=opI λi j _ _ _ _ _ hc q=>by
 have h1:(0:Int) < j:=hc;exact mod_int' (by omega) (by rw[Int.fmod_eq_emod_of_nonneg i (by omega)];exact q)
theorem unI {f:Value->Sem Value}{g:Int->Int}
  (rule:∀(i:Int) (t:Tok) (s:Shared) (Q:Value->Shared->Prop) (E:Value->Shared->Prop),Q (.int (g i) s.toks) { s with toks:=s.toks+1 }->wpAny (model X.prog X.w) X.A (f (.int i t)) Q E s) :
  UnR X f (rU λi=>.int (g i)):=by
 intro pins s σ H x v Q I rx h;obtain⟨i,rfl,q⟩:=h;obtain⟨t,rfl⟩:=rx;exact rule i t s _ _ ⟨.int (g i),H,I.tok _,⟨_,rfl⟩,q⟩
theorem tN:UnR X (unaryOp .USub) (rU λi=>.int (-i)):=unI λ_ _ _ _ _ q=>neg_int q
end
def YT:V->V->Bool
 | .non,.non=>true | .non,.int _=>true | .int _,.non=>true | .non,.bl _=>true | .bl _,.non=>true | .non,.str _=>true | .str _,.non=>true
 | .int _,.int _=>true | .bl _,.bl _=>true | .str _,.str _=>true | .byt _,.byt _=>true
 | .int _,.str _=>true | .str _,.int _=>true | .bl _,.str _=>true | .str _,.bl _=>true
 |_,_=>false
def rEq:R2:=λx y H Q=>YT x y=true/\Q (.bl (decide (x=y))) H
def rNe:R2:=λx y H Q=>YT x y=true/\Q (.bl (!decide (x=y))) H
theorem Kd {i j:Int}:decide (V.int i=V.int j)=(i == j):=by
 rw[ajb];simp
theorem ML {i j:Bool}:decide (V.bl i=V.bl j)=(i == j):=by
 rw[ajb];simp
theorem Ke {i j:Str}:decide (V.str i=V.str j)=(i == j):=by
 rw[ajb];simp
theorem Kf {i j:Array UInt8}:decide (V.byt i=V.byt j)=(i.toList == j.toList):=by
 rw[ajb];cases i;cases j;simp
section
variable{X:Cx}{a b c:Expr}{ta tb tc:TE}{pos:Pos}
theorem cB {pins:List (Addr×Obj)}{σ:St}{H:Hp}{s:Shared}{Q:VK}{k k':Bool}(I:Inv X pins σ H s)(q:Q (.bl k) H)(e:k=k'):EP X pins σ Q (.bool k') s:=by
 subst e;exact⟨.bl k,H,I,rfl,q⟩
theorem bD:OpR X (ajw .Eq) rEq:=by
 intro pins s σ H x y v u Q I rx ry h;obtain⟨hs,q⟩:=h;cases x with
 |non =>
  cases rx;cases y with
  |non=>cases ry;exact PySem.EqNone.eq_none_none (cB I q (by simp))
  |bl j=>cases ry;exact PySem.EqNone.eq_none_bool (cB I q (by simp))
  |int j=>obtain⟨t',rfl⟩:=ry;exact PySem.EqNone.eq_none_int (cB I q (by simp))
  |str j=>obtain⟨t',rfl⟩:=ry;exact PySem.EqNone.eq_none_str (cB I q (by simp))
  |_=>exact absurd (show false=true from hs) kg
 |bl i =>
  cases rx;cases y with
  |non=>cases ry;exact PySem.EqNone.eq_bool_none (cB I q (by simp))
  |bl j=>cases ry;exact eq_bool (cB I q ML)
  |str j=>obtain⟨t',rfl⟩:=ry;exact PySem.EqMixed.eq_bool_str (cB I q (by simp))
  |_=>exact absurd (show false=true from hs) kg
 |int i =>
  obtain⟨t,rfl⟩:=rx;cases y with
  |non=>cases ry;exact PySem.EqNone.eq_int_none (cB I q (by simp))
  |int j=>obtain⟨t',rfl⟩:=ry;exact eq_int (cB I q Kd)
  |str j=>obtain⟨t',rfl⟩:=ry;exact PySem.EqMixed.eq_int_str (cB I q (by simp))
  |_=>exact absurd (show false=true from hs) kg
 |str i =>
  obtain⟨t,rfl⟩:=rx;cases y with
  |non=>cases ry;exact PySem.EqNone.eq_str_none (cB I q (by simp))
  |bl j=>cases ry;exact PySem.EqMixed.eq_str_bool (cB I q (by simp))
  |int j=>obtain⟨t',rfl⟩:=ry;exact PySem.EqMixed.eq_str_int (cB I q (by simp))
  |str j=>obtain⟨t',rfl⟩:=ry;exact eq_str (cB I q Ke)
  |_=>exact absurd (show false=true from hs) kg
 |byt i =>
  obtain⟨t,rfl⟩:=rx;cases y with
  |byt j=>obtain⟨t',rfl⟩:=ry;exact PySem.W.eq_bytes (cB I q Kf)
  |_=>exact absurd (show false=true from hs) kg
 |_=>cases y <;> exact absurd (show false=true from hs) kg
theorem D9:OpR X (ajw .NotEq) rNe:=by
 intro pins s σ H x y v u Q I rx ry h;obtain⟨hs,q⟩:=h;cases x with
 |non =>
  cases rx;cases y with
  |non=>cases ry;exact PySem.EqNone.ne_none_none (cB I q (by simp))
  |bl j=>cases ry;exact PySem.EqNone.ne_none_bool (cB I q (by simp))
  |int j=>obtain⟨t',rfl⟩:=ry;exact PySem.EqNone.ne_none_int (cB I q (by simp))
  |str j=>obtain⟨t',rfl⟩:=ry;exact PySem.EqNone.ne_none_str (cB I q (by simp))
  |_=>exact absurd (show false=true from hs) kg
 |bl i =>
  cases rx;cases y with
  |non=>cases ry;exact PySem.EqNone.ne_bool_none (cB I q (by simp))
  |bl j=>cases ry;exact ne_bool (cB I q (congrArg not ML))
  |str j=>obtain⟨t',rfl⟩:=ry;exact PySem.EqMixed.ne_bool_str (cB I q (by simp))
  |_=>exact absurd (show false=true from hs) kg
 |int i =>
  obtain⟨t,rfl⟩:=rx;cases y with
  |non=>cases ry;exact PySem.EqNone.ne_int_none (cB I q (by simp))
  |int j=>obtain⟨t',rfl⟩:=ry;exact ne_int (cB I q (congrArg not Kd))
  |str j=>obtain⟨t',rfl⟩:=ry;exact PySem.EqMixed.ne_int_str (cB I q (by simp))
  |_=>exact absurd (show false=true from hs) kg
 |str i =>
  obtain⟨t,rfl⟩:=rx;cases y with
  |non=>cases ry;exact PySem.EqNone.ne_str_none (cB I q (by simp))
  |bl j=>cases ry;exact PySem.EqMixed.ne_str_bool (cB I q (by simp))
  |int j=>obtain⟨t',rfl⟩:=ry;exact PySem.EqMixed.ne_str_int (cB I q (by simp))
  |str j=>obtain⟨t',rfl⟩:=ry;exact ne_str (cB I q (congrArg not Ke))
  |_=>exact absurd (show false=true from hs) kg
 |byt i =>
  obtain⟨t,rfl⟩:=rx;cases y with
  |byt j=>obtain⟨t',rfl⟩:=ry;exact PySem.W.ne_bytes (cB I q (congrArg not Kf))
  |_=>exact absurd (show false=true from hs) kg
 |_=>cases y <;> exact absurd (show false=true from hs) kg
theorem zB:OpR X (ajw .Lt) (rI0 λi j=>.bl (decide (i < j))):=Qb λ_ _ _ _ _ _ _ q=>lt_int q
theorem xn:OpR X (ajw .LtE) (rI0 λi j=>.bl (decide (i<=j))):=Qb λ_ _ _ _ _ _ _ q=>le_int q
theorem R1:OpR X (ajw .Gt) (rI0 λi j=>.bl (decide (j < i))):=Qb λ_ _ _ _ _ _ _ q=>gt_int q
theorem R3:OpR X (ajw .GtE) (rI0 λi j=>.bl (decide (j<=i))):=Qb λ_ _ _ _ _ _ _ q=>ge_int q
theorem Ld:OpR X (ajw .In) (λx y H Q=>∃i j,x=.str i/\y=.str j/\Q (.bl (!(ajg j i 0 j.length 1).isEmpty)) H):=by
 intro pins s σ H x y v u Q I rx ry h;obtain⟨i,j,rfl,rfl,q⟩:=h;obtain⟨t,rfl⟩:=rx;obtain⟨t',rfl⟩:=ry;exact in_str (cB I q rfl)
theorem OpR.or {f:Value->Value->Sem Value}{r r':R2}(h:OpR X f r)(h':OpR X f r'):OpR X f (λx y H Q=>r x y H Q\/r' x y H Q):=by
 intro pins s σ H x y v u Q I rx ry q;rcases q with q | q
 ·exact h pins s σ H x y v u Q I rx ry q
 ·exact h' pins s σ H x y v u Q I rx ry q
theorem aJ (b:Expr){op:CmpOp}(h:op≠.In:=by decide)(h2:op≠.NotIn:=by decide):behindInMarks op b=false:=by
 have e1:(op == CmpOp.In)=false:=by cases op <;> first | rfl | exact absurd rfl h
 have e2:(op == CmpOp.NotIn)=false:=by cases op <;> first | rfl | exact absurd rfl h2
 cases b <;> simp[behindInMarks,e1,e2]
theorem cF {op:CmpOp}{r:R2}(ho:OpR X (ajw op) r)(ha:PE X a ta)(hb:PE X b tb)(hm:behindInMarks op b=false):PE X (.Compare a [op] [b] pos) (tOp r ta tb):=by
 intro pins s σ H Q I h;exact wpAny_Compare1 (T4 ha hb I h λv u s2 x y H2 I2 rx ry q=>ho pins s2 σ H2 x y v u Q I2 rx ry q) hm
def YU (t:TE):TT:=λσ H Q=>t σ H λx H'=>∃k,x=.bl k/\Q k H'
theorem aO {op:CmpOp}{r:R2}(ho:OpR X (ajw op) r)(ha:PE X a ta)(hb:PE X b tb)(hm:behindInMarks op b=false):PT X (.Compare a [op] [b] pos) (YU (tOp r ta tb)):=by
 intro pins s σ H Q I h;refine wpAny_isTrue_Compare1 (thn (ha pins s σ H _ I h) λv s1 ⟨x,H1,I1,r1,q1⟩=>thn (hb pins s1 σ H1 _ I1 q1) λu s2 ⟨y,H2,I2,r2,q2⟩ =>
  thn (ho pins s2 σ H2 x y v u _ I2 r1 r2 q2) λc s3 ⟨z,H3,I3,r3,k,e,q3⟩=>?_) hm
 subst e;cases r3;exact wpAny_truthy_bool ⟨H3,I3,q3⟩
def T6 (r r':R2)(ta tb tc:TE):TE:=λσ H Q=>ta σ H λx H1=>tb σ H1 λy H2=>r x y H2 λz H3=>∃k,z=.bl k /\
 (if k=true then tc σ H3 λw' H4=>r' y w' H4 Q else Q (.bl false) H3)
theorem uO {op op':CmpOp}{r r':R2}(ho:OpR X (ajw op) r)(ho':OpR X (ajw op') r')(ha:PE X a ta)(hb:PE X b tb)(hc:PE X c tc)
  (hm:lastMarks [op,op'] [b,c]=false:=by with_unfolding_all rfl):PE X (.Compare a [op,op'] [b,c] pos) (T6 r r' ta tb tc):=by
 intro pins s σ H Q I h;refine Compare_chain (thn (ha pins s σ H _ I h) λv s1 ⟨x,H1,I1,r1,q1⟩=>chain_link (thn (hb pins s1 σ H1 _ I1 q1) λu s2 ⟨y,H2,I2,r2,q2⟩ =>
  thn (ho pins s2 σ H2 x y v u _ I2 r1 r2 q2) λd s3 ⟨z,H3,I3,r3,k,e,q3⟩=>?_)) hm
 subst e;cases r3;refine wpAny_truthy_bool ?_;cases k with
 |false=>exact ite_ff ⟨.bl false,H3,I3,rfl,q3⟩
 |true=>exact ite_tt (chain_last (thn (hc pins s3 σ H3 _ I3 q3) λw' s4 ⟨z',H4,I4,r4,q4⟩=>ho' pins s4 σ H4 y z' u w' Q I4 r2 r4 q4))
def YV (K:bo)(x:V)(H:Hp)(k:Bool):Prop :=
 match x with
 | .non=>k=false
 | .bl b=>k=b
 | .int i=>k=(i != 0)
 | .str y=>y.length<=gc/\k=((y.length:Int) != 0)
 | .byt y=>y.size<=gc/\k=((y.size:Int) != 0)
 | .ref p=>(∃xs,SqL K H p xs/\k=!xs.isEmpty)\/(∃xs,SqT K H p xs/\k=!xs.isEmpty)\/∃kvs,H p=some (.dK kvs)/\k=!kvs.isEmpty
 |_=>False
theorem Hu {κ:Type}{kvs:List (κ×V)}{vs:List (κ×Value)}(r:KV kvs vs):(!vs.isEmpty)=!kvs.isEmpty:=by
 cases r <;> rfl
theorem zC {xs:List V}{its:List Value}(r:Vals xs its):(!its.toArray.isEmpty)=!xs.isEmpty:=by
 cases r <;> simp
theorem tO:(gc:Nat) < 2 ^ 63:=by rw[sizeLine_eq];decide
theorem T7:aga X (λx H Q=>∃k,YV X.K x H k/\Q k H):=by
 intro pins s σ H x v Q I rx h;obtain⟨k,e,q⟩:=h;have hl:=tO;have hs:gc=16777216:=sizeLine_eq;cases x with
 |non =>
  cases rx;have e':k=false:=e;subst e';exact truthy_none ⟨H,I,q⟩
 |bl b =>
  cases rx;have e':k=b:=e;subst e';exact wpAny_truthy_bool ⟨H,I,q⟩
 |int i =>
  obtain⟨t,rfl⟩:=rx;have e':k=(i != 0):=e;subst e';exact PySem.P.truthy_int ⟨H,I,q⟩
 |str y =>
  obtain⟨t,rfl⟩:=rx;obtain⟨hy,e'⟩:y.length<=gc/\k=((y.length:Int) != 0):=e;subst e';exact PySem.P.truthy_str (by omega) ⟨H,I.tok _,q⟩
 |byt y =>
  obtain⟨t,rfl⟩:=rx;obtain⟨hy,e'⟩:y.size<=gc/\k=((y.size:Int) != 0):=e;subst e';exact PySem.W.truthy_bytes (by omega) ⟨H,I.tok _,q⟩
 |ref p =>
  cases rx;have e':(∃xs,SqL X.K H p xs/\k=!xs.isEmpty)\/(∃xs,SqT X.K H p xs/\k=!xs.isEmpty)\/∃kvs,H p=some (.dK kvs)/\k=!kvs.isEmpty:=e;rcases e' with ⟨xs,hx,e'⟩ | ⟨xs,hx,e'⟩ | ⟨kvs,hx,e'⟩
  ·subst e';obtain⟨its,r,pl,hz⟩:=I.list hx;have hlen:=r.length;exact wpAny_truthy_list pl.isList (by simp only[ky];omega) ⟨H,I.tok _,by rw[zC r];exact q⟩
  ·subst e';obtain⟨its,r,pl,hz⟩:=I.tuple hx;have hlen:=r.length;exact truthy_tuple pl (by simp only[ky];omega) ⟨H,I.tok _,by rw[zC r];exact q⟩
  ·subst e';obtain⟨hz,hS,vs,r,m⟩:kvs.length<=gc/\(p == ajP)=false/\∃vs,KV kvs vs/\s.heap.DictOf (eO X.prog X.w) p vs:=I.hok p _ hx;have hlen:kvs.length=vs.length:=Paired.length r;exact wpAny_truthy_dict hS m (by omega) ⟨H,I.tok _,by rw[Hu r];exact q⟩
 |_=>exact(show False from e).elim
theorem qD (ha:PE X a ta)(he:∀whole,isTrue a X.env whole=(do let v <-whole;standAt a.pos;holding [v] (truthy v))) :
  PT X a (λσ H Q=>ta σ H λx H'=>∃k,YV X.K x H' k/\Q k H'):=by
 intro pins s σ H Q I h;exact isTrue_plain (thn (ha pins s σ H _ I h) λv s1 ⟨x,H1,I1,r1,q1⟩=>T7 pins s1 σ H1 x v Q I1 r1 q1) (he _)
theorem tP:OpR X (binaryOp .Add) (λx y H Q=>∃i j,x=.str i/\y=.str j/\i.length+j.length<=gc/\Q (.str (i++j)) H):=by
 intro pins s σ H x y v u Q I rx ry h;obtain⟨i,j,rfl,rfl,hz,q⟩:=h;obtain⟨t,rfl⟩:=rx;obtain⟨t',rfl⟩:=ry;exact add_str (λt' tk=>⟨.str (i++j),H,I.tok _,⟨_,rfl⟩,q⟩) hz
theorem vals1 {x:V}{us:List Value}(r:Vals [x] us):∃u,us=[u]/\RelV x u:=by
 cases r with
 |cons r1 r2=>cases r2;exact⟨_,rfl,r1⟩
theorem vals2 {x y:V}{us:List Value}(r:Vals [x,y] us):∃u w',us=[u,w']/\RelV x u/\RelV y w':=by
 cases r with
 |cons r1 r2 =>
  cases r2 with
  |cons r3 r4=>cases r4;exact⟨_,_,rfl,r1,r3⟩
theorem Le (hc:X.calm=true):iu X (.builtin "max") (λxs H Q=>∃i j,xs=[.int i,.int j]/\Q (.int (if j > i then j else i)) H):=by
 intro pins s σ H xs us Q I r h;obtain⟨i,j,rfl,q⟩:=h;obtain⟨u,w',rfl,⟨t,rfl⟩,⟨t',rfl⟩⟩:=vals2 r;refine max_two_ints (I.ok.hd hc) λh' tk k=>⟨_,H,I.kept k,?_,q⟩
 by_cases hj:j > i
 ·rw[if_pos hj,if_pos hj];exact⟨_,rfl⟩
 ·rw[if_neg hj,if_neg hj];exact⟨_,rfl⟩
theorem Lf:iu X (.type "int") (λxs H Q=>(∃i,xs=[.int i]/\Q (.int i) H)\/∃k,xs=[.bl k]/\Q (.int (if k then 1 else 0)) H):=by
 intro pins s σ H xs us Q I r h;rcases h with ⟨i,rfl,q⟩ | ⟨k,rfl,q⟩
 ·obtain⟨u,rfl,t,rfl⟩:=vals1 r;exact call_int_int ⟨.int i,H,I,⟨_,rfl⟩,q⟩
 ·obtain⟨u,rfl,r1⟩:=vals1 r;cases r1;exact call_int_bool ⟨.int (if k then 1 else 0),H,I.tok _,⟨_,rfl⟩,q⟩
theorem kX:iu X (.type "str") (λxs H Q=>∃i,xs=[.int i]/\i.natAbs.log2 < 1920/\Q (.str (toString i)) H):=by
 intro pins s σ H xs us Q I r h;obtain⟨i,rfl,hz,q⟩:=h;obtain⟨u,rfl,t,rfl⟩:=vals1 r;exact PySem.P.str_of_int hz ⟨.str _,H,I.tok _,⟨_,rfl⟩,q⟩
theorem MM:iu X (.builtin "ord") (λxs H Q=>∃x,xs=[.str x]/\x.length=1/\Q (.int (x.cps.getD 0 0:Nat)) H):=by
 intro pins s σ H xs us Q I r h;obtain⟨x,rfl,hz,q⟩:=h;obtain⟨u,rfl,t,rfl⟩:=vals1 r;exact ord_of_one hz ⟨.int _,H,I.tok _,⟨_,rfl⟩,q⟩
end
structure Hv (h:Heap)(x dx C:Addr)(mA:Str->Option Value):Prop where
 obj:h.get? x=some (ai2 C dx)
 ns:h.Ns1 dx mA
 ne:dx≠x
theorem BI {h:Heap}{dx:Addr}{mA:Str->Option Value}(n:h.Ns1 dx mA):∃od,h.get? dx=some od/\∀name,PySem.W.lookIn name od=some (mA name):=by
 obtain⟨o,es,ep,ho,hd,hk,_,hm⟩:=n;refine⟨o,ho,λname=>?_⟩
 have e:=hm name;unfold nsFind findBy at e;rw[<-Array.find?_toList]at e;unfold PySem.W.lookIn;rw[hd];dsimp only;split
 ·rename_i y q;rw[q]at e;exact congrArg some e
 ·rename_i q;rw[q]at e;have a:es.toList.any (·.refKey)=false:=by
   rw[List.any_eq_false];intro y hy;obtain⟨z,t,agc⟩:=hk y (Array.mem_toList_iff.mp hy);simp[DictEntry.refKey,agc]
  have a':¬es.toList.any (·.refKey)=true:=by rw[a];exact kg
  rw[if_neg a'];exact congrArg some e
theorem Hv.look {h:Heap}{x dx C:Addr}{mA:Str->Option Value}(I:Hv h x dx C mA):∃od,ajQ h x (ai2 C dx) C (some od)/\∀name,PySem.W.lookIn name od=some (mA name) :=
 let ⟨od,ho,hl⟩:=BI I.ns
 ⟨od,⟨I.obj,rfl,rfl,ho⟩,hl⟩
section
variable{prog:kx}{w:World}{A:Around}{E:Value->Shared->Prop}{s:Shared}{K:bo}{x dx C f:Addr}{mA:Str->Option Value}{name:Str}{v:Value}
theorem get_map {expr:Bool}{Q:Value->Shared->Prop}(X:K.In s.heap)(I:Hv s.heap x dx C mA)(hg:ai3 K C name=true)(hh:aiH K C=true)
  (ha:cb K (.ref C) name=some none) (hv:mA name=some v) (hv':PySem.W.handedIn v=true) (h:Q v { s with toks:=s.toks+1 }) :
  wpAny (model prog w) A (getAttr (.ref x) name expr) Q E s:=by
 obtain⟨od,J,hl⟩:=I.look;exact PySem.W.get_value X J (PySem.W.plainGet_of hg).1 (PySem.W.findObj_own hh ha rfl (by rw[hl,hv])) hv' h
theorem MN {pl:Sem Bool}{Q:Value×List Value->Shared->Prop}(X:K.In s.heap)(I:Hv s.heap x dx C mA)(hg:ai3 K C name=true)
  (hf:cb K (.ref C) name=some (some (.ref f))) (ht:me K (.ref f)=true) (hv:mA name=none) (h:Q (.ref f,[.ref x]) s) :
  wpAny (model prog w) A (getMethod (.ref x) name pl) Q E s:=by
 obtain⟨od,J,hl⟩:=I.look;exact PySem.W.method_fn X J (PySem.W.plainGet_of hg).1 (PySem.W.plainGet_of hg).2 hf (beq_iff_eq.mp ht) (by show (PySem.W.lookIn name od).map (·.isSome)=some false;rw[hl,hv];rfl) h
theorem Qc {ns:List Str}{Q:Unit->Shared->Prop}(X:K.In s.heap)(I:Hv s.heap x dx C mA)
  (hs:cb K (.ref C) "__setattr__"=some (some (.builtin "object.__setattr__"))) (hp:ai8 K C=true) (ht:PySem.W.takerIn K C name=some none) (hh:aiH K C=true)
  (hw:PySem.Within mA ns) (hsz:ns.length<=gc)
  (h:∀h',Hv h' x dx C (λy=>if y=name then some v else mA y)->Heap.SameBut dx s.heap h'->Q () { s with heap:=h',toks:=s.toks+2 }) :
  wpAny (model prog w) A (setAttr (.ref x) name v) Q E s:=by
 obtain⟨od,J,hl⟩:=I.look;refine PySem.W.set_plain X J hs (PySem.W.osa_open (s:={ s with toks:=s.toks+1 }) (r:=none) X J hp ht λb=>?_)
 obtain⟨cd,hc,hd'⟩:=PySem.W.any_some hh;have hx:s.heap.get? x=some ⟨.ref C,some dx,.plain,#[]⟩:=I.obj;refine de (kq (de (de (wpAny_loadPart hx (de (PySem.W.Looks.here (s:={ s with toks:=s.toks+1 }) (PySem.W.looks_clsIn X hc) ?_))))))
 rw[hd'];refine kq (a:=some dx) (de (kq (de ?_)));refine wpAny_nsSet1 (s:={ s with toks:=s.toks+1 }) I.ns λh' hn2 hs2=>?_
 obtain⟨oD,esD,epD,hoD,hdD,hcD⟩:=hn2.count (PySem.Within.cons name v hw);refine de (wpAny_lookBehind hoD (by rw[hdD];exact pastItsLine_dict (rf hcD (by rw[ku];omega))) ?_)
 exact kq (h _ ⟨(hs2.2 _ (aiD I.ne)).trans I.obj,hn2,I.ne⟩ hs2)
theorem MO {R:Result->Shared->Prop}{vs:List Value}{kw:List (Str×Value)}(X:K.In s.heap)(hm:ajc K C=true)
  (hi:cb K (.ref C) "__init__"=some (some (.ref f))) (hf:PySem.W.typeIn K (.ref f)=some (.type "function"))
  (h:codeAny (model prog w) (A.under (.builtin "type.__call__" ⟨.ref C::vs,kw⟩)) (.call (.ref f) ⟨.ref (s.heap.objs.size+1)::vs,kw⟩) (PySem.W.InitBack (s.heap.objs.size+1) R)
   { s with heap:=(s.heap.push aiS).push (ai2 C s.heap.objs.size) }) :
  codeAny (model prog w) A (.call (.ref C) ⟨vs,kw⟩) R s:=by
 obtain⟨hh,g,d,t,os⟩:=s;exact PySem.W.make_core (PySem.W.makes_of X hm) (ajV X hi) (λself=>PySem.W.bind_fn X self hf) (.inl rfl) h
end
def gf (f:Str)(v:V):List (Str×V)->List (Str×V)
 |[]=>[(f,v)]
 | (g,x)::r=>if g=f then (g,v)::r else (g,x)::gf f v r
theorem xq (f g:Str)(v:V):∀fs:List (Str×V),(gf f v fs).lookup g=if g=f then some v else fs.lookup g
 |[]=>by
  show ai9 g [(f,v)]=_
  by_cases h:g=f
  ·have hb:(g == f)=true:=beq_iff_eq.mpr h;simp only[ai9,hb,if_pos h]
  ·have hb:(g == f)=false:=beq_eq_false_iff_ne.mpr h;simp only[ai9,hb,if_neg h]
 | (k,x)::r=>by
  have ih:=xq f g v r;rw[show gf f v ((k,x)::r)=(if k=f then (k,v)::r else (k,x)::gf f v r) from rfl]
  by_cases hk:k=f
  ·rw[if_pos hk]
   by_cases h:g=k
   ·have hb:(g == k)=true:=beq_iff_eq.mpr h;simp only[ai9,hb,if_pos (h.trans hk)]
   ·have hb:(g == k)=false:=beq_eq_false_iff_ne.mpr h;simp only[ai9,hb,if_neg (λe:g=f=>h (e.trans hk.symm))]
  ·rw[if_neg hk]
   by_cases h:g=k
   ·have hb:(g == k)=true:=beq_iff_eq.mpr h;simp only[ai9,hb,if_neg (λe:g=f=>hk (h.symm.trans e))]
   ·have hb:(g == k)=false:=beq_eq_false_iff_ne.mpr h;simp only[ai9,hb];exact ih
theorem vR (f:Str)(v:V):∀fs:List (Str×V),f∈(gf f v fs).map (·.1)/\∀g,g∈fs.map (·.1)->g∈(gf f v fs).map (·.1)
 |[]=>⟨by simp[gf],λg h=>by simp at h⟩
 | (k,x)::r=>by
  obtain⟨i1,i2⟩:=vR f v r;rw[show gf f v ((k,x)::r)=(if k=f then (k,v)::r else (k,x)::gf f v r) from rfl]
  by_cases hk:k=f
  ·rw[if_pos hk];subst hk;exact⟨by simp,λg h=>by simpa using h⟩
  ·rw[if_neg hk];refine⟨?_,λg h=>?_⟩
   ·rw[ra];exact kj _ i1
   ·rw[ra]at h ⊢;rcases List.mem_cons.mp h with e | e
    ·exact List.mem_cons.mpr (.inl e)
    ·exact kj _ (i2 g e)
theorem xr (f:Str)(v:V):∀fs:List (Str×V),(gf f v fs).length<=fs.length+1
 |[]=>by simp[gf]
 | (k,x)::r=>by
  have ih:=xr f v r;rw[show gf f v ((k,x)::r)=(if k=f then (k,v)::r else (k,x)::gf f v r) from rfl]
  by_cases hk:k=f
  ·rw[if_pos hk,ku,ku];omega
  ·rw[if_neg hk,ku,ku];omega
theorem oe.some_of {v:V}{o:Option Value}(r:oe (some v) o):∃u,o=some u/\RelV v u:=by
 cases o with
 |none=>exact(show False from r).elim
 |some u=>exact⟨u,rfl,r⟩
theorem oe.none_of {o:Option Value}(r:oe none o):o=none:=by
 cases o with
 |none=>rfl
 |some u=>exact(show False from r).elim
theorem Lg {v:V}{u:Value}(r:RelV v u):PySem.W.handedIn u=true:=by
 cases v with
 |non=>cases (show u=ajm from r);rfl
 |bl b=>cases (show u=ajB b from r);rfl
 |int i=>obtain⟨t,e⟩:=(show ∃t,u=Value.int i t from r);cases e;rfl
 |str x=>obtain⟨t,e⟩:=(show ∃t,u=Value.str x t from r);cases e;rfl
 |byt b=>obtain⟨t,e⟩:=(show ∃t,u=Value.bytes b t from r);cases e;rfl
 |flt b=>obtain⟨t,e⟩:=(show ∃t,u=Value.float b t from r);cases e;rfl
 |ref a=>cases (show u=si a from r);rfl
 |ty n=>cases (show u=Value.type n from r);rfl
section
variable{P:kx}{w:World}{H H':Hp}{h h':Heap}{a C dx:Addr}{fs fs':List (Str×V)}
theorem zh (hok:HOk P w H h)(e:H a=some (.ins C dx fs)):∃mA,Hv h a dx C mA/\(∀f,oe (fs.lookup f) (mA f))/\PySem.Within mA (fs.map (·.1))/\fs.length<=1000/\H dx=some (.own a):=by
 obtain⟨d,z,ne,ob,mA,n,r,q⟩:=(show d4 P w H h a (.ins C dx fs) from hok a _ e)
 exact⟨mA,⟨ob,n,ne⟩,r,q,z,d⟩
end
structure Cls (K:bo)(C:Addr):Prop where
 pg:ai3 K C aiT=true
 hd:aiH K C=true
 po:ai8 K C=true
 sa:cb K (.ref C) "__setattr__"=some (some (.builtin "object.__setattr__"))
theorem Cls.get {K:bo}{C:Addr}(c:Cls K C)(f:Str):ai3 K C f=true:=c.pg
def dR (K:bo)(C:Addr)(f:Str):Prop:=cb K (.ref C) f=some none
theorem dR.YW {K:bo}{C:Addr}{f:Str}(n:dR K C f):PySem.W.takerIn K C f=some none:=by
 unfold PySem.W.takerIn;rw[show cb K (.ref C) f=some none from n]
 rfl
structure Con (K:bo)(C:Addr)(f:Str)(v:V)(u:Value):Prop where
 at_:cb K (.ref C) f=some (some u)
 rel:RelV v u
 get:ajW K u "__get__"=some none
 cp:PySem.W.copiedNames.contains f=false
structure Meth (K:bo)(C:Addr)(m:Str)(f:Addr):Prop where
 at_:cb K (.ref C) m=some (some (.ref f))
 fn:me K (.ref f)=true
 kp:di K (.ref f)=true
section
variable{X:Cx}{pins:List (Addr×Obj)}{σ:St}{H:Hp}{s:Shared}{a C dx:Addr}{fs:List (Str×V)}{f:Str}{v:V}{A:Around}{E:Value->Shared->Prop}
theorem Hw {b:Bool}{Q:Value->Shared->Prop}(I:Inv X pins σ H s)(e:H a=some (.ins C dx fs))(c:Cls X.K C)(n:dR X.K C f)(l:fs.lookup f=some v)
  (h:∀u s',Inv X pins σ H s'->RelV v u->Q u s'):wpAny (model X.prog X.w) A (getAttr (.ref a) f b) Q E s:=by
 obtain⟨mA,O,r,_,_,_⟩:=zh I.hok e;obtain⟨u,hu,ru⟩:=oe.some_of (v:=v) (o:=mA f) (by rw[<-l];exact r f)
 exact get_map I.kIn O (c.get f) c.hd n hu (Lg ru) (h u _ (I.tok _) ru)
theorem jd {m:Str}{g:Addr}{pl:Sem Bool}{Q:Value×List Value->Shared->Prop}(I:Inv X pins σ H s)(e:H a=some (.ins C dx fs))(c:Cls X.K C)(k:Meth X.K C m g)(l:fs.lookup m=none)
  (h:Q (.ref g,[.ref a]) s):wpAny (model X.prog X.w) A (getMethod (.ref a) m pl) Q E s:=by
 obtain⟨mA,O,r,_,_,_⟩:=zh I.hok e;have hn:mA m=none:=oe.none_of (by rw[<-l];exact r m)
 exact MN I.kIn O (c.get m) k.at_ k.fn hn h
theorem Hx {y:V}{u:Value}{Q:Unit->Shared->Prop}(I:Inv X pins σ H s)(e:H a=some (.ins C dx fs))(c:Cls X.K C)(n:dR X.K C f)(hl:fs.length < 1000)(ry:RelV y u)
  (h:∀s',Inv X pins σ (upd H a (.ins C dx (gf f y fs))) s'->Q () s'):wpAny (model X.prog X.w) A (setAttr (.ref a) f u) Q E s:=by
 obtain⟨mA,O,r,wi,_,ho⟩:=zh I.hok e;have hz:(fs.map (·.1)).length<=gc:=by rw[da,sizeLine_eq];omega
 refine Qc I.kIn O c.sa c.po n.YW c.hd wi hz λh' O' sb=>h _ ?_
 have hd:∃o,h'.get? dx=some o:=let ⟨o,_,_,e',_⟩:=O'.ns;⟨o,e'⟩
 refine I.write (x:=a) (e:=dx) (by rw[e];exact ajr) (.inr ho) (λb q hb z=>(sb.2 b hb).trans z) hd ?_
 refine⟨by rw[av O.ne];exact ho,?_,O.ne,O'.obj,_,O'.ns,λg=>?_,λg hg=>?_⟩
 ·have:=xr f y fs;omega
 ·show oe ((gf f y fs).lookup g) (if g=f then some u else mA g)
  rw[xq]
  by_cases q:g=f
  ·rw[if_pos q,if_pos q];exact ry
  ·rw[if_neg q,if_neg q];exact r g
 ·by_cases q:g=f
  ·rw[q];exact(vR f y fs).1
  ·refine(vR f y fs).2 g (wi g λz=>hg ?_)
   show (if g=f then some u else mA g)=none
   rw[if_neg q];exact z
theorem Inv.made (I:Inv X pins σ H s):Inv X pins σ (upd (upd H s.heap.objs.size (.own (s.heap.objs.size+1))) (s.heap.objs.size+1) (.ins C s.heap.objs.size []))
  { s with heap:=(s.heap.push aiS).push (ai2 C s.heap.objs.size) }:=by
 have e1:(s.heap.push aiS).get? s.heap.objs.size=some aiS:=Lk s.heap rfl;have e2:((s.heap.push aiS).push (ai2 C s.heap.objs.size)).get? (s.heap.objs.size+1)=some (ai2 C s.heap.objs.size):=by
  have:=Lk (s.heap.push aiS) (o:=ai2 C s.heap.objs.size) rfl
  rwa [ajF]at this
 have e3:(s.heap.push aiS).Ns s.heap.objs.size (λ_=>none):=⟨aiS,#[],_,e1,rfl,(λe he=>absurd he (by simp)),λ_=>rfl⟩
 have I1:=I.laid (a:=s.heap.objs.size) (o:=.own (s.heap.objs.size+1)) (h':=s.heap.push aiS) (t':=s.toks) (λb u q=>gp _ q) (ko _) ⟨_,e1⟩
 refine I1.laid (a:=s.heap.objs.size+1) (o:=.ins C s.heap.objs.size []) (t':=s.toks) (λb u q=>gp _ q) (Nat.le_of_eq (ajF _ _)) ?_
 have ne:s.heap.objs.size≠s.heap.objs.size+1:=wt (Nat.lt_succ_self _);refine⟨by rw[av ne,ae],aiW _,ne,e2,λ_=>none,(Heap.Ns1.of_empty e3).at λo q=>gp _ q,λ_=>ajr,λy hy=>absurd rfl hy⟩
theorem Kg {prog:kx}{w:World}{env:Env}{e:Expr}{f:Str}{pos:Pos}{s:Shared}{Q:Value->Shared->Prop}(hb:attributeBase e f env (eval e env)=eval e env)
  (h:wpAny (model prog w) A (eval e env) (λo s₁=>wpAny (model prog w) A (getAttr o f true) Q E s₁) E s):wpAny (model prog w) A (eval (.Attribute e f pos) env) Q E s :=
 Attribute_any_ h (by rw[arm_eval_Attribute,hb])
end
def YX (K:bo)(ta:TE)(f:Str):TE:=λσ H Q=>ta σ H λx H1=>∃a C dx fs v,x=.ref a/\H1 a=some (.ins C dx fs)/\Cls K C/\dR K C f/\fs.lookup f=some v/\Q v H1
def agd (K:bo)(ta tv:TE)(f:Str):TS:=λD σ H=>tv σ H λy H1=>ta σ H1 λx H2=>∃a C dx fs,x=.ref a/\H2 a=some (.ins C dx fs)/\Cls K C/\dR K C f/\fs.length < 1000 /\
 D.nx σ (upd H2 a (.ins C dx (gf f y fs)))
section
variable{X:Cx}{o e value:Expr}{f:Str}{pos pos' age:Pos}{ta tv:TE}
theorem bu (he:PE X e ta)(hb:attributeBase e f X.env (eval e X.env)=eval e X.env):PE X (.Attribute e f pos) (YX X.K ta f):=by
 intro pins s σ H Q I h;refine Kg hb (thn (he pins s σ H _ I h) λu s1 ⟨x,H1,I1,rx,a,C,dx,fs,v,ex,ea,c,n,l,q⟩=>?_)
 subst ex;obtain rfl:u=si a:=rx;exact Hw I1 ea c n l λu' s2 I2 ru=>⟨v,H1,I2,ru,q⟩
theorem eT (ha:PE X o ta)(hv:PE X value tv)(hs:swapsWith value (some (.Attribute o f pos')) pos.line X.env=pure false):PS X (.Assign [.Attribute o f pos'] value pos) (agd X.K ta tv f):=by
 intro pins s σ H D I h;refine plainObj_wpAny_Assign_Attribute (thn (hv pins s σ H _ I h) λu s1 ⟨y,H1,I1,ry,q⟩=>thn (ha pins s1 σ H1 _ I1 q) λov s2 ⟨x,H2,I2,rx,a,C,dx,fs,ex,ea,c,n,l,q2⟩=>?_) hs
 subst ex;obtain rfl:ov=si a:=rx;exact Hx I2 ea c n l ry λs3 I3=>⟨σ,_,I3,q2⟩
theorem R4 {pl:Sem Bool}{m:Str}{apos:Pos}{args:List Expr}{pins:List (Addr×Obj)}{s:Shared}{σ:St}{H:Hp}{Q:Value->Shared->Prop}{te:TE}(he:PE X e te)(I:Inv X pins σ H s)
  (h:te σ H λx H1=>∃a C dx fs g,x=.ref a/\H1 a=some (.ins C dx fs)/\Cls X.K C/\Meth X.K C m g/\fs.lookup m=none /\
   ∀s1,Inv X pins σ H1 s1->wpAny (model X.prog X.w) X.A (aj5 pos (.ref g) [.ref a] (backTo pos (sr args X.env)) (ajR pos (ajh [] X.env))) Q X.xe s1)
  (ht:eval (.Call (.Attribute e m apos) args [] pos) X.env=(do
   let ov <-eval e X.env
   standAt apos.atName
   let (f,first) <-holding [ov] (getMethod ov m pl)
   aj5 pos f first (backTo pos (sr args X.env)) (ajR pos (ajh [] X.env)))) :
  wpAny (model X.prog X.w) X.A (eval (.Call (.Attribute e m apos) args [] pos) X.env) Q X.xe s:=by
 refine ajo (pl:=pl) (thn (he pins s σ H _ I h) λu s1 ⟨x,H1,I1,rx,a,C,dx,fs,g,ex,ea,c,k,l,q⟩=>?_) ht
 subst ex;obtain rfl:u=si a:=rx;exact jd I1 ea c k l (q s1 I1)
end
section
variable{X:Cx}{pins:List (Addr×Obj)}{σ:St}{H:Hp}{s:Shared}{A:Around}{E:Value->Shared->Prop}{Q:Value->Shared->Prop}{c:Value}{b:Bool}
inductive vS (K:bo)(H:Hp):V->Value->Prop where
 |non:vS K H .non (.type "NoneType")
 |bl (x:Bool):vS K H (.bl x) (.type "bool")
 |int (i:Int):vS K H (.int i) (.type "int")
 |str (x:Str):vS K H (.str x) (.type "str")
 |flt (x:UInt64):vS K H (.flt x) (.type "float")
 |lst {a:Addr} {xs:List V} (e:H a=some (.lst xs)):vS K H (.ref a) (.type "list")
 |frz {a:Addr} {o:Obj} {xs:List V} (e:H a=some (.frz o (.lst xs))):vS K H (.ref a) (.type "list")
 |tup {a:Addr} {xs:List V} (e:H a=some (.tup xs)):vS K H (.ref a) (.type "tuple")
 |dK {a:Addr} {kvs:List (Key×V)} (e:H a=some (.dK kvs)):vS K H (.ref a) (.type "dict")
 |dT {a:Addr} {kvs:List (List Key×V)} (e:H a=some (.dT kvs)):vS K H (.ref a) (.type "dict")
 |ins {a C dx:Addr} {fs:List (Str×V)} (e:H a=some (.ins C dx fs)) (cl:Cls K C) (ha:cb K (.ref C) "__class__"=some (some (.builtin "object.__class__")))
   (hn:ajW K (.builtin "object.__class__") "__get__"=some (some (.builtin "getset_descriptor.__get__"))) (htk:PySem.W.takesIn K (.builtin "object.__class__")=some true)
   (hm:aiE K C (.type "object")=some true):vS K H (.ref a) (.ref C)
theorem BJ {x:V}{u t:Value}(I:Inv X pins σ H s)(rx:RelV x u)(ty:vS X.K H x t)(e:ba X.K t c=some b)(h:∀tk,Q (.bool b) { s with toks:=tk }) :
  wpAny (model X.prog X.w) A (call (.builtin "isinstance") [u,c]) Q E s:=by
 cases ty with
 |non=>cases (show u=ajm from rx);exact ai7 PySem.W.kitx_none I.kIn ajr e (λz=>nomatch z) h
 |bl y=>cases (show u=ajB y from rx);exact ai7 PySem.W.kitx_bool I.kIn ajr e (λz=>nomatch z) h
 |int i=>obtain⟨t,q⟩:=(show ∃t,u=Value.int i t from rx);cases q;exact ai7 PySem.W.kitx_int I.kIn ajr e (λz=>nomatch z) h
 |str y=>obtain⟨t,q⟩:=(show ∃t,u=Value.str y t from rx);cases q;exact ai7 PySem.W.kitx_str I.kIn ajr e (λz=>nomatch z) h
 |flt y=>obtain⟨t,q⟩:=(show ∃t,u=Value.float y t from rx);cases q;exact ai7 PySem.W.kitx_float I.kIn ajr e (λz=>nomatch z) h
 | @lst a xs ea =>
  cases (show u=si a from rx)
  obtain⟨_,_,n,_,h1⟩:=(show d4 X.prog X.w H s.heap a (.lst xs) from I.hok a _ ea)
  exact ai7 PySem.W.kitx_list I.kIn ⟨_,h1,rfl⟩ e (λz=>nomatch z) h
 | @frz a ob xs ea =>
  cases (show u=si a from rx)
  obtain⟨_,_,_,n,_,h1⟩:=(show d4 X.prog X.w H s.heap a (.frz ob (.lst xs)) from I.hok a _ ea)
  exact ai7 PySem.W.kitx_list I.kIn ⟨_,h1,rfl⟩ e (λz=>nomatch z) h
 | @tup a xs ea =>
  cases (show u=si a from rx)
  obtain⟨_,_,_,p⟩:=(show d4 X.prog X.w H s.heap a (.tup xs) from I.hok a _ ea)
  obtain⟨o,h1,h2,_⟩:=p;exact ai7 PySem.W.kitx_tuple I.kIn ⟨o,h1,h2⟩ e (λz=>nomatch z) h
 | @dK a kvs ea =>
  cases (show u=si a from rx)
  obtain⟨_,_,vs,_,p⟩:=(show d4 X.prog X.w H s.heap a (.dK kvs) from I.hok a _ ea)
  obtain⟨o,es,ep,h1,h2,_⟩:=p;exact ai7 PySem.W.kitx_dict I.kIn ⟨o,h1,h2.1⟩ e (λz=>nomatch z) h
 | @dT a kvs ea =>
  cases (show u=si a from rx)
  obtain⟨_,_,xs,_,o,es,ep,h1,h2,_⟩:=(show d4 X.prog X.w H s.heap a (.dT kvs) from I.hok a _ ea)
  exact ai7 PySem.W.kitx_dict I.kIn ⟨o,h1,h2.1⟩ e (λz=>nomatch z) h
 | @ins a C dx fs ea cl ha hn htk hm =>
  cases (show u=si a from rx)
  obtain⟨mA,O,_⟩:=zh I.hok ea;obtain⟨od,J,_⟩:=O.look;exact ai7 (PySem.W.kitx_own (cl.get _) cl.hd ha hn htk hm) I.kIn J e (λz=>nomatch z) h
end
structure Room (k:Nat)(A:Around):Prop where
 hd:A.handled=none
 dp:A.depth+3 * k+5 < recursionLimit
 un:A.units+16 * k+200 < cLine
 gd:A.guards=some []
theorem Room.mono {j k:Nat}{A:Around}(r:Room k A)(h:j<=k):Room j A:=⟨r.hd,by have:=r.dp;omega,by have:=r.un;omega,r.gd⟩
theorem Room.deeper {k:Nat}{A:Around}(r:Room (k+1) A)(env:Env):Room k (A.deeper env) :=
 ⟨r.hd,by have:=r.dp;show A.depth+1+3 * k+5 < _;omega,by have:=r.un;show A.units+3+16 * k+200 < _;omega,r.gd⟩
theorem Room.in1 {k:Nat}{A:Around}(r:Room (k+1) A):Room k A.in1 :=
 ⟨r.hd,by have:=r.dp;show A.depth+3 * k+5 < _;omega,by have:=r.un;show A.units+1+16 * k+200 < _;omega,r.gd⟩
theorem Hy {A:Around}{C:Addr}{us:List Value}{kw:List (Str×Value)}:(A.under (.builtin "type.__call__" ⟨.ref C::us,kw⟩)).depth=A.depth+1:=by
 first | rfl | simp[Around.under,Code.weight,Code.isCreation,Code.isGuard,Code.isCaller,Code.frames,Code.isFrame,guardIds]
theorem Hz {A:Around}{C:Addr}{us:List Value}{kw:List (Str×Value)}:(A.under (.builtin "type.__call__" ⟨.ref C::us,kw⟩)).units=A.units+1:=by
 first | rfl | simp[Around.under,Code.cUnits,Code.frames,Code.isFrame]
theorem Room.make {k:Nat}{A:Around}(r:Room (k+1) A)(C:Addr)(us:List Value)(kw:List (Str×Value)):Room k (A.under (.builtin "type.__call__" ⟨.ref C::us,kw⟩)) :=
 ⟨r.hd,by have:=r.dp;rw[Hy];omega,by have:=r.un;rw[Hz];omega,by
  have g:=r.gd
  first | exact g | simp[Around.under,Code.guards,Code.isGuard,guardIds,pushGuards,g]⟩
theorem Room.depth {k:Nat}{A:Around}(r:Room k A):A.depth < recursionLimit:=by have:=r.dp;omega
theorem Room.units {k:Nat}{A:Around}(r:Room k A):A.units+64 < cLine:=by have:=r.un;omega
def YY:TA:=λ_ H Q=>Q [] H
def YZ (ta:TE)(tr:TA):TA:=λσ H Q=>ta σ H λx H1=>tr σ H1 λxs H2=>Q (x::xs) H2
section
variable{X:Cx}{e:Expr}{es:List Expr}{te:TE}{t:TA}{pos:Pos}
theorem ag:PA X [] YY:=λ_ _ _ _ H Q I h=>Calls.spliced_nil ⟨[],H,I,.nil,h⟩
theorem aa (ha:PE X e te)(hr:PA X es t)(hs:sr (e::es) X.env=(false,eval e X.env)::sr es X.env:=by rfl):PA X (e::es) (YZ te t):=by
 intro pos pins s σ H Q I h;rw[hs];show wpAny _ _ (spliced ((false,eval e X.env)::backTo pos (sr es X.env))) _ _ s;refine Calls.spliced_cons (thn (ha pins s σ H _ I h) λu s1 ⟨x,H1,I1,r1,q1⟩=>?_)
 exact thn (hr pos pins s1 σ H1 _ I1 q1) λus s2 ⟨xs,H2,I2,r2,q2⟩=>⟨x::xs,H2,I2,.cons r1 r2,q2⟩
def agf (t:TA):TE:=λσ H Q=>t σ H λxs H1=>xs.length<=gc/\∀p,H1 p=none->Q (.ref p) (upd H1 p (.tup xs))
def agg (t:TA):TE:=λσ H Q=>t σ H λxs H1=>xs.length<=gc/\∀p,H1 p=none->Q (.ref p) (upd H1 p (.lst xs))
theorem cZ {x1}(h:PA X es t):PE X (.Tuple es x1 pos) (agf t):=by
 intro pins s σ H Q I hq;refine wpAny_Tuple_spliced (thn (h pos pins s σ H _ I hq) λus s1 ⟨xs,H1,I1,r,z,q⟩=>⟨by rw[<-r.length];exact z,?_⟩)
 have hf:H1 s1.heap.objs.size=none:=I1.hok.fresh (ko _);refine⟨.ref s1.heap.objs.size,upd H1 s1.heap.objs.size (.tup xs),I1.laid (t':=s1.toks) (λb u e=>gp _ e) (ko _) ?_,rfl,q _ hf⟩
 exact⟨z,us,r,⟨_,Lk _ rfl,rfl,_,rfl⟩⟩
theorem dS (h:PA X es t):PE X (.List es pos) (agg t):=by
 intro pins s σ H Q I hq;refine wpAny_List_spliced (thn (h pos pins s σ H _ I hq) λus s1 ⟨xs,H1,I1,r,z,q⟩=>⟨by rw[<-r.length];exact z,?_⟩)
 have hf:H1 s1.heap.objs.size=none:=I1.hok.fresh (ko _);refine⟨.ref s1.heap.objs.size,upd H1 s1.heap.objs.size (.lst xs),I1.laid (t':=s1.toks) (λb u e=>gp _ e) (ko _) ?_,rfl,q _ hf⟩
 exact⟨z,us,0,r,Lk _ rfl⟩
end
abbrev Sp:=List V->Hp->VK->XK->Prop
abbrev CXT:=List Env->Hp->Shared->XK->Value->Shared->Prop
structure uP (P:kx)(w:World)(K:bo)(mg:Str->Option Value)(base:Heap)(A:Around)(outer:List Env)(s:Shared)(H:Hp):Prop where
 frames:A.frames=some outer
 mod:Mod K mg base
 bs:∀b o,base.get? b=some o->s.heap.get? b=some o/\H b=none
 bsz:base.objs.size<=s.heap.objs.size
 og:s.heap.FunFrames base outer
 frf:∀b∈frs outer,H b=none
 hok:HOk P w H s.heap
 bare:AllBare s.gens
def CE (outer:List Env)(P:kx)(w:World)(H:Hp)(s:Shared)(Q:VK)(u:Value)(s':Shared):Prop :=
 ∃v H',s'.os=s.os/\AllBare s'.gens/\Un (frs outer) [] H H' s.heap s'.heap/\HOk P w H' s'.heap/\RelV v u/\Q v H'
def CR (CX:CXT)(outer:List Env)(P:kx)(w:World)(H:Hp)(s:Shared)(Q:VK)(E:XK)(r:Result)(s':Shared):Prop :=
 match r with
 | .ok (.ret u)=>CE outer P w H s Q u s'
 | .ok _=>False
 | .error e=>CX outer H s E e s'
structure FnOk (P:kx)(w:World)(K:bo)(mg:Str->Option Value)(base:Heap)(CX:CXT)(k:Nat)(f:Addr)(fd:kf)(ps:List Str)(sp:Sp):Prop where
 len:∀vs H Q E,sp vs H Q E->vs.length=ps.length
 run:∀(A:Around) (outer:List Env) (s:Shared) (H:Hp) (args:Args) (us:List Value) (vs:List V) (Q:VK) (E:XK),Room k A->uP P w K mg base A outer s H->BindsTo s fd args (ps.zip us)->Vals vs us->sp vs H Q E ->
  codeAny (model P w) A (.call (.ref f) args) (CR CX outer P w H s Q E) s
theorem FnOk.mono {P:kx}{w:World}{K:bo}{mg:Str->Option Value}{base:Heap}{CX:CXT}{j k:Nat}{f:Addr}{fd:kf}{ps:List Str}{sp:Sp}(F:FnOk P w K mg base CX j f fd ps sp)(h:j<=k) :
  FnOk P w K mg base CX k f fd ps sp:=⟨F.len,λA outer s H args us vs Q E hr=>F.run A outer s H args us vs Q E (hr.mono h)⟩
theorem FnOk.imp {P:kx}{w:World}{K:bo}{mg:Str->Option Value}{base:Heap}{CX:CXT}{k:Nat}{f:Addr}{fd:kf}{ps:List Str}{sp sp':Sp}(F:FnOk P w K mg base CX k f fd ps sp)
  (h:∀vs H Q E,sp' vs H Q E->sp vs H Q E):FnOk P w K mg base CX k f fd ps sp' :=
 ⟨λvs H Q E q=>F.len vs H Q E (h _ _ _ _ q),λA outer s H args us vs Q E hr he hb hv hs=>F.run A outer s H args us vs Q E hr he hb hv (h _ _ _ _ hs)⟩
theorem uP.make {P:kx}{w:World}{K:bo}{mg:Str->Option Value}{base:Heap}{A:Around}{outer:List Env}{s:Shared}{H:Hp}(e:uP P w K mg base A outer s H)(C:Addr)(us:List Value)(kw:List (Str×Value)) :
  uP P w K mg base (A.under (.builtin "type.__call__" ⟨.ref C::us,kw⟩)) outer s H:=⟨by first | exact e.frames | (simpa [Around.under,Code.envs,Code.isFrame,pushEnvs] using e.frames),e.mod,e.bs,e.bsz,e.og,e.frf,e.hok,e.bare⟩
theorem uP.in1 {P:kx}{w:World}{K:bo}{mg:Str->Option Value}{base:Heap}{A:Around}{outer:List Env}{s:Shared}{H:Hp}(e:uP P w K mg base A outer s H) :
  uP P w K mg base A.in1 outer s H:=⟨e.frames,e.mod,e.bs,e.bsz,e.og,e.frf,e.hok,e.bare⟩
section
variable{X:Cx}{pins:List (Addr×Obj)}{σ:St}{H:Hp}{s s':Shared}
theorem Inv.MP (I:Inv X pins σ H s):uP X.prog X.w X.K X.mg X.base X.A X.stack s H :=
 ⟨I.ok.frames,I.ok.mod,I.bs,rf I.ok.bsz I.sz,I.stack,I.zg,I.hok,I.bare⟩
theorem Inv.after {Q:VK}{u:Value}(I:Inv X pins σ H s)(h:CE X.stack X.prog X.w H s Q u s'):EP X pins σ Q u s':=by
 obtain⟨v,H',os,bare,un,hok,r,q⟩:=h;obtain⟨hh,g,d,t,os'⟩:=s';obtain rfl:os'=s.os:=os;exact⟨v,H',I.call (h':=hh) (g':=g) (d':=d) (t':=t) (ch:=[]) un hok bare (λb z=>absurd z (by simp)),r,q⟩
end
def Y0 (sp:Sp)(dvs:List V)(E:XK)(t:TA):TE:=λσ H Q=>t σ H λvs H1=>sp (vs++dvs) H1 Q E
def R5 (C:Addr)(m:Str)(sp:Sp)(dvs:List V)(E:XK)(ta:TE)(t:TA):TE:=λσ H Q=>ta σ H λx H1=>∃a dx fs,x=.ref a/\H1 a=some (.ins C dx fs)/\fs.lookup m=none /\
 t σ H1 λvs H2=>sp (x::(vs++dvs)) H2 Q E
def Y1 (C:Addr)(sp:Sp)(dvs:List V)(E:XK)(t:TA):TE:=λσ H Q=>t σ H λvs H1=>∀x dx,H1 x=none->H1 dx=none->dx≠x ->
 sp (.ref x::(vs++dvs)) (upd (upd H1 dx (.own x)) x (.ins C dx [])) (λv H2=>v=.non/\Q (.ref x) H2) E
def Binds (K:bo)(fd:kf)(ps:List Str)(ds:List Value):Prop :=
 ∀(s:Shared) (us:List Value),K.In s.heap->(us++ds).length=ps.length->BindsTo s fd ⟨us,[]⟩ (ps.zip (us++ds))
theorem Binds.all {K:bo}{fd:kf}{ps:List Str}(h:∀us:List Value,us.length=ps.length->bindArgs fd ⟨us,[]⟩=pure (ps.zip us)):Binds K fd ps []:=λs us _ hl=>by
 rw[aji]at hl ⊢;exact .of_eq (h us hl)
def Passes (CX:CXT)(X:Cx)(E:XK):Prop:=∀(pins:List (Addr×Obj)) (σ:St) (H:Hp) (s:Shared) (e:Value) (s':Shared),Inv X pins σ H s->CX X.stack H s E e s'->X.xe e s'
section
variable{X:Cx}{CX:CXT}{k:Nat}{f C:Addr}{fd:kf}{ps:List Str}{sp:Sp}{dvs:List V}{ds:List Value}{E:XK}{x m:Str}{p pos apos:Pos}{e o:Expr}{es:List Expr}{ta:TE}{t:TA}
theorem CC {pins:List (Addr×Obj)}{σ:St}{H:Hp}{s:Shared}{Q:VK}{us:List Value}{vs:List V}(F:FnOk X.prog X.w X.K X.mg X.base CX k f fd ps sp)(hr:Room k X.A)(hb:Binds X.K fd ps ds)(hd:Vals dvs ds)(hx:Passes CX X E)
  (I:Inv X pins σ H s) (r:Vals vs us) (h:sp (vs++dvs) H Q E):wpAny (model X.prog X.w) X.A (call (.ref f) us) (EP X pins σ Q) X.xe s:=by
 have r2:Vals (vs++dvs) (us++ds):=r.append hd;have hl:(us++ds).length=ps.length:=by rw[<-r2.length];exact F.len _ _ _ _ h
 refine ajL (codeAny_mono (F.run X.A X.stack s H ⟨us,[]⟩ (us++ds) (vs++dvs) Q E hr I.MP (hb s us I.kIn hl) r2 h) λr s' hq=>?_)
 cases r with
 |error e=>exact hx pins σ H s e s' I hq
 |ok fl =>
  cases fl with
  |ret u=>exact I.after hq
  |next=>exact aiy hq
  |brk=>exact aiy hq
  |cont=>exact aiy hq
theorem bw (F:FnOk X.prog X.w X.K X.mg X.base CX k f fd ps sp)(hr:Room k X.A)(hg:Gl X x)(hm:X.mg x=some (.ref f))(hk:di X.K (.ref f)=true)(hb:Binds X.K fd ps ds)(hd:Vals dvs ds)(hx:Passes CX X E)
  (ha:PA X (e::es) t) (hdb:(x == ("__debug__":Str))=false:=by decide) (he:sr (e::es) X.env=(false,eval e X.env)::sr es X.env:=by rfl) (hpl:(backTo pos (sr es X.env)).any (·.1)=false:=by rfl) :
  PE X (.Call (.Name x p) (e::es) [] pos) (Y0 sp dvs E t):=by
 intro pins s σ H Q I h;refine wpAny_Call_Name_kw (iO I hg hm ?_ hdb);refine ajS (h₀:=X.base) I.ok.mod.kin hk (thn (ha pos pins s σ H _ I h) λus s1 ⟨vs,H1,I1,r,q⟩=>⟨I1.kIn,?_⟩) he hpl
 exact CC F hr hb hd hx I1 r q
theorem kY {pl:Sem Bool}(he:PE X o ta)(c:Cls X.K C)(hm:Meth X.K C m f)(F:FnOk X.prog X.w X.K X.mg X.base CX k f fd ps sp)(hr:Room k X.A)(hb:Binds X.K fd ps ds)(hd:Vals dvs ds)(hx:Passes CX X E)(ha:PA X (e::es) t)
  (hst:sr (e::es) X.env=(false,eval e X.env)::sr es X.env:=by rfl) (hpl:(backTo pos (sr es X.env)).any (·.1)=false:=by rfl)
  (ht:eval (.Call (.Attribute o m apos) (e::es) [] pos) X.env=(do
   let ov <-eval o X.env
   standAt apos.atName
   let (f,first) <-holding [ov] (getMethod ov m pl)
   aj5 pos f first (backTo pos (sr (e::es) X.env)) (ajR pos (ajh [] X.env))):=by rfl) :
  PE X (.Call (.Attribute o m apos) (e::es) [] pos) (R5 C m sp dvs E ta t):=by
 intro pins s σ H Q I h;refine ajo (pl:=pl) (thn (he pins s σ H _ I h) λu s1 ⟨x,H1,I1,rx,a,dx,fs,ex,ea,l,q⟩=>?_) ht
 subst ex;obtain rfl:u=si a:=rx;refine jd I1 ea c hm l ?_;refine ajS (first:=[.ref a]) (h₀:=X.base) I.ok.mod.kin hm.kp (thn (ha pos pins s1 σ H1 _ I1 q) λus s2 ⟨vs,H2,I2,r,q2⟩=>⟨I2.kIn,?_⟩) hst hpl
 exact CC (us:=.ref a::us) (vs:=.ref a::vs) F hr hb hd hx I2 (.cons rfl r) q2
theorem gi {pl:Sem Bool}(he:PE X o ta)(c:Cls X.K C)(hm:Meth X.K C m f)(F:FnOk X.prog X.w X.K X.mg X.base CX k f fd ps sp)(hr:Room k X.A)(hb:Binds X.K fd ps ds)(hd:Vals dvs ds)(hx:Passes CX X E)
  (ht:eval (.Call (.Attribute o m apos) [] [] pos) X.env=(do
   let ov <-eval o X.env
   standAt apos.atName
   let (f,first) <-holding [ov] (getMethod ov m pl)
   aj5 pos f first (backTo pos (sr [] X.env)) (ajR pos (ajh [] X.env))):=by rfl) :
  PE X (.Call (.Attribute o m apos) [] [] pos) (R5 C m sp dvs E ta YY):=by
 intro pins s σ H Q I h;refine ajo (pl:=pl) (thn (he pins s σ H _ I h) λu s1 ⟨x,H1,I1,rx,a,dx,fs,ex,ea,l,q⟩=>?_) ht
 subst ex;obtain rfl:u=si a:=rx;refine jd I1 ea c hm l ?_;exact PySem.W.callWith_K0 (first:=[.ref a]) I1.kIn hm.kp (CC (us:=[.ref a]) (vs:=[.ref a]) F hr hb hd hx I1 (.cons rfl .nil) q)
structure Mk (K:bo)(C f:Addr):Prop where
 makes:ajc K C=true
 init:cb K (.ref C) "__init__"=some (some (.ref f))
 fn:me K (.ref f)=true
 kp:di K (.ref C)=true
theorem MQ {pins:List (Addr×Obj)}{σ:St}{H:Hp}{s:Shared}{Q:VK}{us:List Value}{vs:List V}(M:Mk X.K C f)(F:FnOk X.prog X.w X.K X.mg X.base CX k f fd ps sp)(hr:Room (k+1) X.A)(hb:Binds X.K fd ps ds)(hd:Vals dvs ds)
  (hx:Passes CX X E) (I:Inv X pins σ H s) (r:Vals vs us)
  (h:∀x dx,H x=none->H dx=none->dx≠x->sp (.ref x::(vs++dvs)) (upd (upd H dx (.own x)) x (.ins C dx [])) (λv H2=>v=.non/\Q (.ref x) H2) E) :
  wpAny (model X.prog X.w) X.A (call (.ref C) us) (EP X pins σ Q) X.xe s:=by
 have hq:=h (s.heap.objs.size+1) s.heap.objs.size (I.hok.fresh (ajn _)) (I.hok.fresh (ko _)) (wt (Nat.lt_succ_self _));have I2:=Inv.made (C:=C) I;have r2:Vals (V.ref (s.heap.objs.size+1)::(vs++dvs)) (si (s.heap.objs.size+1)::(us++ds)):=.cons rfl (r.append hd);have hl:(si (s.heap.objs.size+1)::us++ds).length=ps.length:=by
  have e:=r2.length;rw[F.len _ _ _ _ hq]at e;exact e.symm
 refine ajL (MO (f:=f) I.kIn M.makes M.init (beq_iff_eq.mp M.fn) (codeAny_mono (F.run _ X.stack _ _ ⟨si (s.heap.objs.size+1)::us,[]⟩ (si (s.heap.objs.size+1)::(us++ds)) _ _ E (hr.make C us [])
  (I2.MP.make C us []) (hb _ (si (s.heap.objs.size+1)::us) I2.kIn hl) r2 hq) λr s' hq'=>?_))
 cases r with
 |error e=>exact hx pins σ _ _ e s' I2 hq'
 |ok fl =>
  cases fl with
  |ret u =>
   obtain⟨v,H',I3,rv,ev,q3⟩:=I2.after hq';subst ev;exact⟨rv,⟨V.ref (s.heap.objs.size+1),H',I3,rfl,q3⟩⟩
  |next=>exact aiy hq'
  |brk=>exact aiy hq'
  |cont=>exact aiy hq'
theorem f9 (M:Mk X.K C f)(F:FnOk X.prog X.w X.K X.mg X.base CX k f fd ps sp)(hr:Room (k+1) X.A)(hg:Gl X x)(hm:X.mg x=some (.ref C))(hb:Binds X.K fd ps ds)(hd:Vals dvs ds)(hx:Passes CX X E)
  (ha:PA X (e::es) t) (hdb:(x == ("__debug__":Str))=false:=by decide) (he:sr (e::es) X.env=(false,eval e X.env)::sr es X.env:=by rfl) (hpl:(backTo pos (sr es X.env)).any (·.1)=false:=by rfl) :
  PE X (.Call (.Name x p) (e::es) [] pos) (Y1 C sp dvs E t):=by
 intro pins s σ H Q I h;refine wpAny_Call_Name_kw (iO I hg hm ?_ hdb);refine ajS (h₀:=X.base) I.ok.mod.kin M.kp (thn (ha pos pins s σ H _ I h) λus s1 ⟨vs,H1,I1,r,q⟩=>⟨I1.kIn,?_⟩) he hpl
 exact MQ M F hr hb hd hx I1 r q
end
section
variable{X:Cx}{CX:CXT}{k:Nat}{f C:Addr}{fd:kf}{ps ks:List Str}{sp:Sp}{E:XK}{x m:Str}{p pos apos aiq:Pos}{e o:Expr}{es:List Expr}{kws:List Keyword}{te ta:TE}{t tk:TA}{nm:Option Str}
structure agh (K:bo)(fd:kf)(ps ks:List Str)(g:List Value->List Value->List Value)(gV:List V->List V->List V):Prop where
 to:∀(s:Shared) (us ws:List Value),K.In s.heap->(g us ws).length=ps.length->BindsTo s fd ⟨us,ks.zip ws⟩ (ps.zip (g us ws))
 rel:∀ {vs:List V} {us:List Value} {zs:List V} {ws:List Value},Vals vs us->Vals zs ws->Vals (gV vs zs) (g us ws)
variable{g:List Value->List Value->List Value}{gV:List V->List V->List V}
end
structure ax (N P:List Str)(sc:Scope):Prop where
 kind:sc.kind=.function
 co:sc.isCoroutine=false
 gen:sc.isGenerator=false
 nd:N.Nodup
 pre:N.take P.length=P
 par:∀x∈P,sc.names.lookup x=some .local\/sc.names.lookup x=some .cell
 T8:∀y∈sc.names,y.2≠.free
theorem BK {kindOf:Str->Option NameKind}{x:Str}:∀ {binds:List (Str×Value)} {m:Str->Option Value},(∀v,(x,v)∉binds)->bindL kindOf binds m x=m x
 |[],_,_=>rfl
 | (n,v)::r,m,h=>by
  unfold bindL;rw[BK λw hw=>h w (kj _ hw)]
  split
  ·have:x≠n:=by rintro rfl;exact h v kb
   simp[this]
  ·rfl
theorem BL {kindOf:Str->Option NameKind}{x:Str}:∀ {binds:List (Str×Value)} {m:Str->Option Value},(∀v,(x,v)∉binds)->bindC kindOf binds m x=m x
 |[],_,_=>rfl
 | (n,v)::r,m,h=>by
  unfold bindC;rw[BL λw hw=>h w (kj _ hw)]
  split
  ·rfl
  ·have:x≠n:=by rintro rfl;exact h v kb
   simp[this]
theorem BM {kindOf:Str->Option NameKind}{x:Str}{v:Value}:∀ {P:List Str} {vs:List Value} {i:Nat} {m:Str->Option Value},P.Nodup->P[i]?=some x->vs[i]?=some v->kindOf x=some .local ->
  bindL kindOf (P.zip vs) m x=some v
 |[],_,_,_,_,h,_,_=>by simp at h
 |_::_,[],_,_,_,_,h,_=>by simp at h
 |p::P,w::vs,0,m,nd,h1,h2,hk=>by
  simp at h1 h2;subst h1;subst h2;show bindL kindOf ((p,w)::P.zip vs) m p=_;unfold bindL;rw[BK λv hv=>(List.nodup_cons.mp nd).1 (List.of_mem_zip hv).1,if_pos hk]
  simp
 |p::P,w::vs,i+1,m,nd,h1,h2,hk=>by
  show bindL kindOf ((p,w)::P.zip vs) m x=_;unfold bindL;exact BM (i:=i) (List.nodup_cons.mp nd).2 (by simpa using h1) (by simpa using h2) hk
theorem BN {kindOf:Str->Option NameKind}{x:Str}{v:Value}:∀ {P:List Str} {vs:List Value} {i:Nat} {m:Str->Option Value},P.Nodup->P[i]?=some x->vs[i]?=some v->kindOf x≠some .local ->
  bindC kindOf (P.zip vs) m x=some v
 |[],_,_,_,_,h,_,_=>by simp at h
 |_::_,[],_,_,_,_,h,_=>by simp at h
 |p::P,w::vs,0,m,nd,h1,h2,hk=>by
  simp at h1 h2;subst h1;subst h2;show bindC kindOf ((p,w)::P.zip vs) m p=_;unfold bindC;rw[BL λv hv=>(List.nodup_cons.mp nd).1 (List.of_mem_zip hv).1,if_neg hk]
  simp
 |p::P,w::vs,i+1,m,nd,h1,h2,hk=>by
  show bindC kindOf ((p,w)::P.zip vs) m x=_;unfold bindC;exact BN (i:=i) (List.nodup_cons.mp nd).2 (by simpa using h1) (by simpa using h2) hk
def start (N:List Str)(vs:List V):St:=vs.map some++aj6 (N.length - vs.length) none
def bI (CX:CXT)(P:kx)(w:World)(K:bo)(mg:Str->Option Value)(base:Heap)(N:List Str)(qual:Str)(scope:Scope)(f:Addr)(cd:Value)(A:Around)(outer:List Env)(s:Shared)(H:Hp)(E:XK):Cx where
 prog:=P
 w:=w
 K:=K
 mg:=mg
 base:=base
 A:=A.deeper (envOfC qual scope s.heap.objs.size f cd)
 N:=N
 s₀:=s
 H₀:=H
 env:=envOfC qual scope s.heap.objs.size f cd
 outer:=outer
 stack:=envOfC qual scope s.heap.objs.size f cd::outer
 ex:=[]
 calm:=true
 fn:=λ_=>true
 pn:=[]
 xe:=λe s'=>wpAny (model P w) (A.deeper (envOfC qual scope s.heap.objs.size f cd)) (leaving (envOfC qual scope s.heap.objs.size f cd) e) (λ_ s''=>CX outer H s E e s'') (λe' s''=>CX outer H s E e' s'') s'
theorem Ea {sc:Scope}{n:Nat}{x:Str}(h:sc.names.lookup x=some .cell):∃c,(cellsFrom n sc.names []).lookup x=some c:=by
 have q:=PySem.W.cellsFrom_some sc.names n [] (.inl h);exact Option.isSome_iff_exists.mp q
theorem BO {CX:CXT}{P:kx}{w:World}{K:bo}{mg:Str->Option Value}{base:Heap}{N ps:List Str}{qual:Str}{scope:Scope}{f:Addr}{cd:Value}{A:Around}{outer:List Env}{s s1:Shared}{H:Hp}{E:XK}{us:List Value}{vs:List V}
  (S:ax N ps scope) (hd:A.handled=none) (e0:uP P w K mg base A outer s H) (hl:vs.length=ps.length) (r:Vals vs us)
  (x:InCallC s s.heap.objs.size (bindL (envOfC qual scope s.heap.objs.size f cd).kindOf (ps.zip us) λ_=>none) (cellsFrom (s.heap.objs.size+1) scope.names []) (bindC (envOfC qual scope s.heap.objs.size f cd).kindOf (ps.zip us) λ_=>none) s1) :
  Inv (bI CX P w K mg base N qual scope f cd A outer s H E) [] (start N vs) H s1:=by
 have hpl:ps.length<=N.length:=by have:=congrArg List.length S.pre;rw[ai4]at this;omega
 obtain⟨h1,tk,rfl,hk⟩:=x.done;have noA:∀b:Addr,b∉(bI CX P w K mg base N qual scope f cd A outer s H E).ex:=λb z=>absurd (show b∈([]:List Addr) from z) (by simp)
 refine⟨⟨e0.mod,S.kind,rfl,rfl,ko _,λy z c h1 h2=>?_,λy hy=>?_,λy c _ h=>?_,λ_=>hd,Around.frames_deeper e0.frames,.inr ⟨rfl,rfl⟩,λb z=>absurd z (noA b),e0.bs,e0.bsz,λb _ _=>noA b,λb z=>absurd z (noA b),e0.og,e0.frf⟩,
  rfl,e0.bare,Un.kept hk,⟨_,x.toInCall.ns,λi y v h1 h2 h3=>?_⟩,λy c h=>⟨_,x.cell y c h⟩,e0.hok.fresh (ko _),λy c h=>?_,λp hp=>absurd (show p∈([]:List (Addr×Obj)) from hp) (by simp),e0.hok.kept hk,?_⟩
 ·exact name_of_addr x.apart (ajx h1) (ajx h2)
 ·have hy:scope.names.lookup y=some .cell\/scope.names.lookup y=some .free:=hy;rcases hy with hy | hy
  ·exact Ea hy
  ·exact absurd rfl (S.T8 _ (ajx hy))
 ·exact Nat.le_of_lt (x.above y c (ajx h))
 ·have hi:i < vs.length:=by
   unfold start at h2
   by_cases hi:i < vs.length
   ·exact hi
   ·rw[ajs (by simpa using hi)]at h2
    rw[List.getElem?_replicate]at h2;split at h2 <;> cases h2
  have ha:vs[i]?=some v:=by
   unfold start at h2;rw[ajz (by simpa using hi),aiY]at h2
   cases e:vs[i]? with
   |none=>rw[e]at h2;cases h2
   |some a=>rw[e]at h2;cases h2;rfl
  obtain⟨u,hu,rv⟩:=r.get ha;have hp:ps[i]?=some y:=by
   rw[<-S.pre,List.getElem?_take_of_lt (by omega)];exact h1
  have ndP:ps.Nodup:=by rw[<-S.pre];exact S.nd.sublist (List.take_sublist _ _)
  refine⟨u,rv,?_⟩;rcases S.par y (aiK hp) with k | k
  ·exact .inl ⟨k,BM ndP hp hu k⟩
  ·obtain⟨c,e⟩:=Ea (n:=s.heap.objs.size+1) k;refine .inr ⟨.inl k,c,e,?_⟩;have q:=x.cell y c e;rw[BN ndP hp hu (by show scope.names.lookup y≠_;rw[k];decide)]at q
   exact q
 ·exact e0.hok.fresh (Nat.le_of_lt (x.above y c (ajx h)))
 ·unfold start;show _=N.length;rw[ki,da,ajA];omega
theorem MR {CX:CXT}{P:kx}{w:World}{K:bo}{mg:Str->Option Value}{base:Heap}{k:Nat}{f:Addr}{name qual:Str}{params:Arguments}{body:List Stmt}{scope:Scope}{dV kV doc pm cdv ct oc:Value}{an od:Option Addr}
  {osl:Array (Option Value)} {N ps:List Str} {sp:Sp} (lk:K.lookup f=some ⟨oc,od,.func (gn name qual params body scope dV kV doc pm an cdv ct),osl⟩) (hcd:fu K cdv qual=true) (S:ax N ps scope)
  (len:∀vs H Q E,sp vs H Q E->vs.length=ps.length)
  (uQ:∀(A:Around) (outer:List Env) (s:Shared) (H:Hp) (vs:List V) (Q:VK) (E:XK),Room k (A.deeper (envOfC qual scope s.heap.objs.size f cdv))->sp vs H Q E ->
   ∃t,PSs (bI CX P w K mg base N qual scope f cdv A outer s H E) body t/\t { nx:=λ_ H'=>Q .non H',rt:=Q } (start N vs) H) :
  FnOk P w K mg base CX (k+1) f (gn name qual params body scope dV kV doc pm an cdv ct) ps sp:=by
 refine⟨len,λA outer s H args us vs Q E hr e0 hb r hsp=>?_⟩
 have hl:=len _ _ _ _ hsp;have KX:K.In s.heap:=e0.mod.kin.keeps λb o e=>(e0.bs b o e).1
 have lim:s.heap.NoLimit:=e0.mod.nolimit.keeps λb o e=>(e0.bs b o e).1
 have MS:∀y∈ps.zip us,scope.names.lookup y.1=some .local\/(scope.names.lookup y.1=some .cell/\((cellsFrom (s.heap.objs.size+1) scope.names []).lookup y.1).isSome=true):=λ⟨n,v⟩ hy=>by
  rcases S.par n (List.of_mem_zip hy).1 with q | q
  ·exact .inl q
  ·exact .inr ⟨q,PySem.W.cellsFrom_some _ _ _ (.inl q)⟩
 refine codeAny_call_function hr.depth (KX _ _ lk) rfl S.co S.gen rfl (PySem.W.codeRec_of KX hcd) (hb _ _ _ _ ?_);refine wpAny_newFunctionEnv_cells S.kind MS λenv he s1 x=>?_
 subst he;refine⟨lim.keeps x.toInCall.keep,codeAny_func ?_⟩;obtain⟨t,ht,hq⟩:=uQ A outer s H vs Q E (hr.deeper _) hsp;have I:Inv (bI CX P w K mg base N qual scope f cdv A outer s H E) [] (start N vs) H s1:=BO S hr.hd e0 hl r x;refine kr (ht [] s1 (start N vs) H _ I hq) (λfl s' hs=>?_) λe s' hs=>hs
 have fin:∀ {σ':St} {H':Hp} {v:V} {u:Value},Inv (bI CX P w K mg base N qual scope f cdv A outer s H E) [] σ' H' s'->RelV v u->Q v H'->CE outer P w H s Q u s' :=
  λ{σ' H' v u} J rv q=>⟨v,H',J.os,J.bare,J.base,J.hok,rv,q⟩
 cases fl with
 |ret u =>
  obtain⟨v,σ',H',J,rv,q⟩:=hs;exact fin J rv q
 |next =>
  obtain⟨σ',H',J,q⟩:=hs;exact fin (v:=V.non) (u:=ajm) J rfl q
 |brk =>
  obtain⟨_,_,_,q⟩:=hs;exact aiy q
 |cont =>
  obtain⟨_,_,_,q⟩:=hs;exact aiy q
section
variable{X:Cx}{x:Str}{p pos:Pos}{e:Expr}{es:List Expr}{t:TA}{id T:String}{r:List V->Hp->VK->Prop}
def tCB (r:List V->Hp->VK->Prop)(t:TA):TE:=λσ H Q=>t σ H λvs H1=>r vs H1 Q
theorem bK (hc:iu X (.builtin id) r)(hg:Gl X x)(hm:X.mg x=none)(hv:ai6 x=some (.builtin id))(ha:PA X (e::es) t)(hn:x≠"__name__":=by decide)(hdb:(x == ("__debug__":Str))=false:=by decide)
  (he:sr (e::es) X.env=(false,eval e X.env)::sr es X.env:=by rfl) (hpl:(backTo pos (sr es X.env)).any (·.1)=false:=by rfl):PE X (.Call (.Name x p) (e::es) [] pos) (tCB r t):=by
 intro pins s σ H Q I h;refine wpAny_Call_Name_kw (zx I hg hm hv ?_ hn hdb);exact PyProof.Rows.callWith_builtin1 (thn (ha pos pins s σ H _ I h) λus s1 ⟨vs,H1,I1,r1,q1⟩=>hc pins s1 σ H1 vs us Q I1 r1 q1) he hpl
theorem dv (hc:iu X (.type T) r)(hg:Gl X x)(hm:X.mg x=none)(hv:ai6 x=some (.type T))(ha:PA X (e::es) t)(hn:x≠"__name__":=by decide)(hdb:(x == ("__debug__":Str))=false:=by decide)
  (he:sr (e::es) X.env=(false,eval e X.env)::sr es X.env:=by rfl) (hpl:(backTo pos (sr es X.env)).any (·.1)=false:=by rfl):PE X (.Call (.Name x p) (e::es) [] pos) (tCB r t):=by
 intro pins s σ H Q I h;refine wpAny_Call_Name_kw (zx I hg hm hv ?_ hn hdb);exact PyProof.Rows.callWith_type1 (thn (ha pos pins s σ H _ I h) λus s1 ⟨vs,H1,I1,r1,q1⟩=>hc pins s1 σ H1 vs us Q I1 r1 q1) he hpl
end
end L2
namespace HT
open PySem PyProof.Rows
section
open PySem.SeqAt
open PySem.AutoSeq1 (wpAny_loadPart')
open PySem.MeetsSeq PySem.MeetsSeq2 PySem.MeetsSeq3
end
section
variable{prog:kx}{w:World}{A:Around}{E:Value->Shared->Prop}{s:Shared}
def sIx (n d:Nat):Option Int->Nat
 |none=>d
 |some v=>if v < 0 then (v+(n:Int)).toNat else min v.toNat n
theorem Eb (n d:Nat):sIx n d none=d:=rfl
theorem uR (n d k:Nat):sIx n d (some (k:Int))=min k n:=by
 show (if (k:Int) < 0 then ((k:Int)+(n:Int)).toNat else min (k:Int).toNat n)=min k n
 rw[if_neg (by omega),Int.toNat_natCast]
theorem T9 (n d:Nat)(hd:d<=n)(o:Option Int):sIx n d o<=n:=by
 cases o with
 |none=>exact hd
 |some v =>
  show (if v < 0 then (v+(n:Int)).toNat else min v.toNat n)<=n
  by_cases hv:v < 0
  ·rw[if_pos hv];omega
  ·rw[if_neg hv];exact Nat.min_le_right _ _
theorem Kh (v:Int)(n d:Nat):(if v < 0 then max (v+(n:Int)) 0 else min v (n:Int))=((sIx n d (some v):Nat):Int):=by
 show (if v < 0 then max (v+(n:Int)) 0 else min v (n:Int))=(((if v < 0 then (v+(n:Int)).toNat else min v.toNat n):Nat):Int)
 by_cases hv:v < 0
 ·simp only[if_pos hv];omega
 ·simp only[if_neg hv];omega
theorem HA (lo hi:Option Int)(n:Nat):Builtin.Slice.sliceAdjust lo hi 1 (n:Int)=(((sIx n 0 lo:Nat):Int),((sIx n n hi:Nat):Int)):=by
 have h1:¬((1:Int) < 0):=by omega
 unfold Builtin.Slice.sliceAdjust;simp only[h1,if_false];refine Prod.ext ?_ ?_
 ·cases lo with
  |none=>rfl
  |some v=>exact Kh v n 0
 ·cases hi with
  |none=>rfl
  |some v=>exact Kh v n n
theorem HB (i j:Nat):ajT (i:Int) (j:Int) 1=j - i:=by
 unfold ajT;have h1:(1:Int) > 0:=by omega
 simp only[h1,if_true,Int.ediv_one];split <;> omega
theorem zD {v:Value}{o:Option Int}{Q:Option Int->Shared->Prop}(p:IsPart v o)(h:Q o s):wpAny (model prog w) A (Builtin.Slice.slicePartIndex v) Q E s:=by
 cases p with
 |none=>exact slicePart_none h
 |int i t=>exact slicePart_int h
theorem vT {sl:Addr}{vl vu:Value}{lo hi:Option Int}{n:Nat}{Q:Int×Int×Nat->Shared->Prop}(hs:s.heap.IsSliceOf sl vl vu .none)(pl:IsPart vl lo)(pu:IsPart vu hi)
  (h:Q (((sIx n 0 lo:Nat):Int),1,sIx n n hi - sIx n 0 lo) s):wpAny (model prog w) A (Builtin.Slice.sliceApplied (.ref sl) (pure (n:Int))) Q E s:=by
 obtain⟨os,hos,hcs,hds⟩:=id hs;unfold Builtin.Slice.sliceApplied Builtin.Slice.sliceFields;refine de (de (ajy hos hds (x:=vl) rfl (de (ajy hos hds (x:=vu) rfl (de (ajy hos hds (x:=.none) rfl (kq ?_)))))));refine de (slicePart_none ?_);show wpAny _ _ (if ((1:Int) == 0)=true then _ else _) _ _ s
 rw[if_neg (by decide)]
 refine de (zD pl (de (zD pu (de (kq ?_)))));show wpAny _ _ (match Builtin.Slice.sliceAdjust lo hi 1 (n:Int) with | (lo,hi)=>pure (lo,(1:Int),ajT lo hi 1)) _ _ s
 rw[HA lo hi n];show wpAny _ _ (pure (((sIx n 0 lo:Nat):Int),(1:Int),ajT ((sIx n 0 lo:Nat):Int) ((sIx n n hi:Nat):Int) 1)) _ _ s;rw[HB];exact kq h
theorem MT (xs:Array Value)(i k:Nat):((aj8 k).filterMap λ(m:Nat)=>xs[((i:Int)+(m:Int) * 1).toNat]?).toArray=((xs.toList.drop i).take k).toArray:=by
 have e:(λ(m:Nat)=>xs[((i:Int)+(m:Int) * 1).toNat]?)=λm=>xs[i+m]?:=by
  funext m
  have:((i:Int)+(m:Int) * 1).toNat=i+m:=by omega
  rw[this]
 rw[e];have:=pick_run xs i k;rw[List.filterMap_map]at this;have e2:((λx=>xs[x]?)∘λx=>i+x)=λm=>xs[i+m]?:=rfl
 rw[e2]at this;rw[this]
theorem uS {t sl:Addr}{items:Array Value}{vl vu:Value}{lo hi:Option Int}{Q:Value->Shared->Prop}(ht:IsTup s.heap t items)(hs:s.heap.IsSliceOf sl vl vu .none)(pl:IsPart vl lo)(pu:IsPart vu hi)
  (hw:¬(sIx items.size 0 lo=0/\sIx items.size items.size hi=items.size))
  (h:Q (.ref s.heap.objs.size) { s with heap:=s.heap.push { cls:=.type "tuple",data:=.seq ((items.toList.drop (sIx items.size 0 lo)).take (sIx items.size items.size hi - sIx items.size 0 lo)).toArray } })
  (hsz:items.size<=gc):wpAny (model prog w) A (getItem (.ref t) (.ref sl)) Q E s:=by
 have Ki:sizeOk (.seq ((items.toList.drop (sIx items.size 0 lo)).take (sIx items.size items.size hi - sIx items.size 0 lo)).toArray):=by
  show ((items.toList.drop (sIx items.size 0 lo)).take (sIx items.size items.size hi - sIx items.size 0 lo)).toArray.size<=gc;rw[ky,ai4,ajj,Array.length_toList];omega
 have hj:sIx items.size items.size hi<=items.size:=T9 _ _ (ko _) hi;obtain⟨os,hos,hcs,hds⟩:=id hs;have hTs:s.TypeIs (.ref sl) "slice":=⟨os,hos,hcs⟩;unfold getItem
 try with_reducible refine aiU ?_
 first | refine de (kq ?_) | skip
 refine de (wpAny_sequenceKey ht.typeIs (by decide) ?_)
 refine de (wpAny_callSpecial?_slot (name:=ar "__getitem__") ht.typeIs PyProof.Rows.slot_tuple_getitem
  (wpAny_call_entry PyProof.Rows.slot_tuple_getitem ht.typeIs entry_tuple_getitem ?_ (args_tuple_getitem _ _)))
 show wpAny _ _ (Builtin.Tuple.tupleItemsOf (.ref t) >>= _) _ _ s;refine de (tupleItemsOf_ ht ?_);refine de (wpAny_typeOf hTs ?_);rw[if_pos (by decide)]
 refine de (vT hs pl pu ?_);have hno:¬((((sIx items.size 0 lo:Nat):Int) == 0 && (1:Int) == 1 && (sIx items.size items.size hi - sIx items.size 0 lo) == items.size)=true):=by
  intro q;rw[aiN,aiN]at q;have q1:((sIx items.size 0 lo:Nat):Int)=0:=eq_of_beq q.1.1;have q2:sIx items.size items.size hi - sIx items.size 0 lo=items.size:=eq_of_beq q.2;exact hw ⟨by omega,by omega⟩
 show wpAny _ _ (if (((sIx items.size 0 lo:Nat):Int) == 0 && (1:Int) == 1 && (sIx items.size items.size hi - sIx items.size 0 lo) == items.size)=true then _ else _) _ _ s
 rw[if_neg hno,MT]
 first
  |exact de (m:=aj1 _) (wpAny_newObj_type (kq ⟨_,rfl,kq h⟩) Ki)
  |exact de (m:=aj1 _) (wpAny_newObj_type (de (kq (kq ⟨_,rfl,kq h⟩))) Ki)
  |exact de (de (m:=aj1 _) (wpAny_newObj_type (kq (kq ⟨_,rfl,kq h⟩)) Ki))
  |exact de (de (m:=aj1 _) (wpAny_newObj_type (kq ⟨_,rfl,kq h⟩) Ki))
end
end HT
namespace L2
open PySem PySem.Spec PyProof.Rows
abbrev TO:=St->Hp->(Option Int->Hp->Prop)->Prop
def PO (X:Cx)(e:Option Expr)(t:TO):Prop :=
 ∀(pins:List (Addr×Obj)) (s:Shared) (σ:St) (H:Hp) (Q:Option Int->Hp->Prop),Inv X pins σ H s->t σ H Q ->
  wpAny (model X.prog X.w) X.A (evalPart e X.env) (λu s'=>∃o H',Inv X pins σ H' s'/\IsPart u o/\Q o H') X.xe s
def Qd:TO:=λ_ H Q=>Q none H
def Y2 (t:TE):TO:=λσ H Q=>t σ H λx H1=>∃i,x=.int i/\Q (some i) H1
section
variable{X:Cx}{e:Expr}{te:TE}{lo hi:Option Expr}{tl th:TO}{pos p2:Pos}
theorem sy:PO X none Qd:=by
 intro pins s σ H Q I h;rw[evalPart_none];exact kq ⟨none,H,I,.none,h⟩
theorem mS (h:PE X e te):PO X (some e) (Y2 te):=by
 intro pins s σ H Q I hw;rw[evalPart_some];refine thn (h pins s σ H _ I hw) λu s1 ⟨x,H1,I1,r1,q1⟩=>?_
 obtain⟨i,rfl,q⟩:=q1;obtain⟨t,rfl⟩:=r1;exact⟨some i,H1,I1,.int i t,q⟩
def SlR (X:Cx)(r:V->Option Int->Option Int->Hp->VK->Prop):Prop :=
 ∀(pins:List (Addr×Obj)) (s:Shared) (σ:St) (H:Hp) (x:V) (v vl vu:Value) (lo hi:Option Int) (sl:Addr) (Q:VK),Inv X pins σ H s->RelV x v->s.heap.IsSliceOf sl vl vu .none->IsPart vl lo->IsPart vu hi->r x lo hi H Q ->
  ∃T id,typeLookup (.type T) "__getitem__"=pure (some (.builtin id))/\s.TypeIs v T/\wpAny (model X.prog X.w) X.A (getItem v (.ref sl)) (EP X pins σ Q) X.xe s
theorem SlR.or {r r':V->Option Int->Option Int->Hp->VK->Prop}(h:SlR X r)(h':SlR X r'):SlR X (λx lo hi H Q=>r x lo hi H Q\/r' x lo hi H Q):=by
 intro pins s σ H x v vl vu lo hi sl Q I rx hs pl pu q;rcases q with q | q
 ·exact h pins s σ H x v vl vu lo hi sl Q I rx hs pl pu q
 ·exact h' pins s σ H x v vl vu lo hi sl Q I rx hs pl pu q
def tSl (r:V->Option Int->Option Int->Hp->VK->Prop)(te:TE)(tl th:TO):TE:=λσ H Q=>te σ H λx H1=>tl σ H1 λl H2=>th σ H2 λu H3=>r x l u H3 Q
theorem lP {r:V->Option Int->Option Int->Hp->VK->Prop}(hr:SlR X r)(he:PE X e te)(hl:PO X lo tl)(hu:PO X hi th):PE X (.Subscript e (.Slice lo hi none p2) pos) (tSl r te tl th):=by
 intro pins s σ H Q I h;refine Subscript_ (thn (he pins s σ H _ I h) λv s1 ⟨x,H1,I1,r1,q1⟩=>?_)
 refine wpAny_Slice (thn (hl pins s1 σ H1 _ I1 q1) λvl s2 ⟨l,H2,I2,pl,q2⟩=>thn (hu pins s2 σ H2 _ I2 q2) λvu s3 ⟨u,H3,I3,pu,q3⟩=>?_)
 rw[evalPart_none];refine kq ?_;have I4:Inv X pins σ H3 { s3 with heap:=s3.heap.push { cls:=.type "slice",data:=.fields #[vl,vu,.none] } }:=I3.kept (t':=s3.toks) λb ob q=>gp _ q
 obtain⟨T,id,hT,ht,hg⟩:=hr pins { s3 with heap:=s3.heap.push { cls:=.type "slice",data:=.fields #[vl,vu,.none] } } σ H3 x v vl vu l u s3.heap.objs.size Q I4 r1 (Heap.IsSliceOf.new ..) pl pu q3
 show wpAny (model X.prog X.w) X.A (subscriptTail e (.Slice lo hi none p2) v (.ref s3.heap.objs.size)) (EP X pins σ Q) X.xe { s3 with heap:=s3.heap.push { cls:=.type "slice",data:=.fields #[vl,vu,.none] } }
 exact tail_any (ops:=[.ref s3.heap.objs.size,v]) ht hT hg (by with_unfolding_all rfl)
def nv (xs:List V)(lo hi:Option Int):List V:=(xs.drop (HT.sIx xs.length 0 lo)).take (HT.sIx xs.length xs.length hi - HT.sIx xs.length 0 lo)
theorem xt (xs:List V)(lo hi:Option Int):(nv xs lo hi).length<=xs.length:=by
 unfold nv;rw[ai4,ajj];omega
def agi (K:bo):V->Option Int->Option Int->Hp->VK->Prop:=λx lo hi H Q=>∃a xs,x=.ref a/\SqT K H a xs /\
 ¬(HT.sIx xs.length 0 lo=0/\HT.sIx xs.length xs.length hi=xs.length)/\∀p,H p=none->Q (.ref p) (upd H p (.tup (nv xs lo hi)))
theorem Ua:SlR X (agi X.K):=by
 intro pins s σ H x v vl vu lo hi sl Q I rx hs pl pu h;obtain⟨a,xs,rfl,hx,hw,q⟩:=h;cases rx;obtain⟨its,r,ht,hz⟩:=I.tuple hx;have hlen:its.toArray.size=xs.length:=by rw[ky];exact r.length.symm
 refine⟨"tuple",_,PyProof.Rows.slot_tuple_getitem.lookup,ht.typeIs,?_⟩;refine HT.uS ht hs pl pu (by rw[hlen];exact hw) ?_ (by rw[hlen];exact hz)
 rw[hlen];refine⟨.ref s.heap.objs.size,_,I.laid (t':=s.toks) (o:=.tup (nv xs lo hi)) (λb ob q=>gp _ q) (ko _) ?_,rfl,q _ (I.hok.fresh (ko _))⟩
 exact⟨rf (xt xs lo hi) hz,_,(r.drop (HT.sIx xs.length 0 lo)).take (HT.sIx xs.length xs.length hi - HT.sIx xs.length 0 lo),IsTup.new _ _⟩
end
def ixN (n:Nat)(i:Int):Option Nat:=if 0<=i then (if i < n then some i.toNat else none) else if -(n:Int)<=i then some (i+n).toNat else none
def atI {α:Type}(xs:List α)(i:Int):Option α:=(ixN xs.length i).bind λj=>xs[j]?
theorem CD {n:Nat}{i:Int}{j:Nat}(h:ixN n i=some j):seqIndex? i n=some j/\j < n/\-(n:Int)<=i/\i < n:=by
 unfold ixN at h
 by_cases h0:0<=i
 ·rw[if_pos h0]at h
  by_cases h1:i < n
  ·rw[if_pos h1]at h;have e:i.toNat=j:=aix h;exact⟨by rw[seqIndex_of h0 h1,e],by omega,by omega,h1⟩
  ·rw[if_neg h1]at h;cases h
 ·rw[if_neg h0]at h
  by_cases h1:-(n:Int)<=i
  ·rw[if_pos h1]at h;have e:(i+n).toNat=j:=aix h;exact⟨by rw[seqIndex_neg (by omega) h1,e],by omega,h1,by omega⟩
  ·rw[if_neg h1]at h;cases h
theorem CF {α:Type}{xs:List α}{i:Int}{v:α}(h:atI xs i=some v):∃j,seqIndex? i xs.length=some j/\xs[j]?=some v/\j < xs.length/\-(xs.length:Int)<=i/\i < xs.length:=by
 unfold atI at h;cases e:ixN xs.length i with
 |none=>rw[e]at h;cases h
 |some j =>
  rw[e]at h;obtain⟨h1,h2,h3,h4⟩:=CD e;exact⟨j,h1,h,h2,h3,h4⟩
theorem sA {α:Type}{xs:List α}{j:Nat}{v:α}(h:xs[j]?=some v):atI xs (j:Int)=some v:=by
 have hj:j < xs.length:=(List.getElem?_eq_some_iff.mp h).1;have e:ixN xs.length (j:Int)=some j:=by
  unfold ixN;rw[if_pos (by omega),if_pos (by omega)];simp
 unfold atI;rw[e];exact h
theorem qE {α:Type}(xs:List α)(v:α):atI (xs++[v]) (-1)=some v:=by
 have hl:(xs++[v]).length=xs.length+1:=by simp
 have e:ixN (xs++[v]).length (-1)=some xs.length:=by
  unfold ixN;rw[hl,if_neg (by decide),if_pos (by omega)]
  congr 1
  omega
 unfold atI;rw[e];show (xs++[v])[xs.length]?=some v;simp
def Qe (b:Expr):Prop:=∀o i,subscripted b false o i=operate [o,i] (getItem o i)
def IxR (X:Cx)(r:R2):Prop :=
 ∀(value slice:Expr) (pins:List (Addr×Obj)) (s:Shared) (σ:St) (H:Hp) (x y:V) (v u:Value) (Q:VK),Inv X pins σ H s->RelV x v->RelV y u->r x y H Q ->
  subscripted slice false v u=operate [v,u] (getItem v u)->wpAny (model X.prog X.w) X.A (subscriptTail value slice v u) (EP X pins σ Q) X.xe s
def MtR (X:Cx)(id:String)(r:V->List V->Hp->VK->Prop):Prop :=
 ∀(pins:List (Addr×Obj)) (s:Shared) (σ:St) (H:Hp) (x:V) (xs:List V) (v:Value) (us:List Value) (Q:VK),Inv X pins σ H s->RelV x v->Vals xs us->r x xs H Q ->
  wpAny (model X.prog X.w) X.A (call (.builtin id) (v::us)) (EP X pins σ Q) X.xe s
section
variable{X:Cx}{a b:Expr}{ta tb:TE}{pos:Pos}
theorem IxR.or {r r':R2}(h:IxR X r)(h':IxR X r'):IxR X (λx y H Q=>r x y H Q\/r' x y H Q):=by
 intro value slice pins s σ H x y v u Q I rx ry q hs;rcases q with q | q
 ·exact h value slice pins s σ H x y v u Q I rx ry q hs
 ·exact h' value slice pins s σ H x y v u Q I rx ry q hs
theorem MtR.or {id:String}{r r':V->List V->Hp->VK->Prop}(h:MtR X id r)(h':MtR X id r'):MtR X id (λx xs H Q=>r x xs H Q\/r' x xs H Q):=by
 intro pins s σ H x xs v us Q I rx rs q;rcases q with q | q
 ·exact h pins s σ H x xs v us Q I rx rs q
 ·exact h' pins s σ H x xs v us Q I rx rs q
theorem aW {r:R2}(hr:IxR X r)(ha:PE X a ta)(hb:PE X b tb)(hs:Qe b):PE X (.Subscript a b pos) (tOp r ta tb):=by
 intro pins s σ H Q I h;exact Subscript_ (T4 ha hb I h λv u s2 x y H2 I2 rx ry q=>hr a b pins s2 σ H2 x y v u Q I2 rx ry q (hs _ _))
def Y3 (K:bo):R2:=λx y H Q=>∃p xs i v,x=.ref p/\y=.int i/\SqL K H p xs/\atI xs i=some v/\Q v H
def Y4 (K:bo):R2:=λx y H Q=>∃p xs i v,x=.ref p/\y=.int i/\SqT K H p xs/\atI xs i=some v/\Q v H
def Y5:R2:=λx y H Q=>∃z i c,x=.str z/\y=.int i/\z.length<=gc/\atI z.cps.toList i=some c/\Q (.str ⟨#[c]⟩) H
theorem bx:IxR X (Y3 X.K):=by
 intro value slice pins s σ H x y v u Q I rx ry h hs;obtain⟨p,xs,i,z,rfl,rfl,hq,he,q⟩:=h;cases rx;obtain⟨t,rfl⟩:=ry;obtain⟨its,r,pl,hz⟩:=I.list hq;obtain⟨j,h1,h2,h3,h4,h5⟩:=CF he;obtain⟨w,ew,rw'⟩:=r.get h2;have hl:=r.length;have hn:=tO;have fin:EP X pins σ Q w s:=⟨z,H,I,rw',q⟩
 by_cases h0:0<=i
 ·have hj:i.toNat=j:=by
   rw[seqIndex_of h0 h5]at h1;exact aix h1
  exact item_listR pl.isList h0 (by omega) (by rw[hj];simpa using ew) fin hs
 ·have hj:(i+(its.toArray.size:Int)).toNat=j:=by
   rw[seqIndex_neg (by omega) h4]at h1
   rw[ky,<-hl];exact aix h1
  exact subscriptTail_builtinR (x:=w) pl.isList.typeIs slot_list_getitem.lookup
   (wpAny_getItem_list_neg (Q:=λr s'=>r=w/\EP X pins σ Q r s') pl.isList (by omega) (by rw[ky] <;> omega) (by omega) (by rw[hj];simpa using ew) ⟨rfl,fin⟩) hs
theorem bE:IxR X (Y4 X.K):=by
 intro value slice pins s σ H x y v u Q I rx ry h hs;obtain⟨p,xs,i,z,rfl,rfl,hq,he,q⟩:=h;cases rx;obtain⟨t,rfl⟩:=ry;obtain⟨its,r,pl,hz⟩:=I.tuple hq;obtain⟨j,h1,h2,h3,h4,h5⟩:=CF he;obtain⟨w,ew,rw'⟩:=r.get h2;have hl:=r.length;have hn:=tO;have fin:EP X pins σ Q w s:=⟨z,H,I,rw',q⟩;exact subscriptTail_builtinR (x:=w) pl.typeIs slot_tuple_getitem.lookup
  (getItem_tuple (j:=j) (Q:=λr s'=>r=w/\EP X pins σ Q r s') pl (by omega) (by omega) (by rw[ky,<-hl];exact h1) (by simpa using ew) ⟨rfl,fin⟩) hs
theorem MU:IxR X Y5:=by
 intro value slice pins s σ H x y v u Q I rx ry h hs;obtain⟨z,i,c,rfl,rfl,hz,he,q⟩:=h;obtain⟨t,rfl⟩:=rx;obtain⟨t',rfl⟩:=ry;obtain⟨j,h1,h2,h3,h4,h5⟩:=CF he;have hl:z.cps.toList.length=z.length:=by simp[Str.length]
 rw[hl]at h1 h4 h5;have hn:=tO;exact tail_any (typeIs_str s z t) slot_str_getitem.lookup (getItem_str (c:=c) (by
  have e1:decide (i < -(2 ^ 63:Int))=false:=decide_eq_false (by omega)
  have e2:decide (i≥2 ^ 63)=false:=decide_eq_false (by omega)
  rw[e1,e2,Bool.or_false]) (by rw[h1];simpa using h2) ⟨.str ⟨#[c]⟩,H,I.tok _,⟨_,rfl⟩,q⟩) hs
def rIx (K:bo):R2:=λx y H Q=>Y3 K x y H Q\/Y4 K x y H Q\/Y5 x y H Q
theorem Ub:IxR X (rIx X.K):=bx.or (bE.or MU)
theorem HC (its:List Value)(n j:Nat)(u:Value):Obj.mapSeq (·.setIfInBounds j u) { cls:=.type "list",data:=.seq its.toArray n }={ cls:=.type "list",data:=.seq (its.set j u).toArray n }:=by
 simp[Obj.mapSeq]
theorem Inv.lst {pins:List (Addr×Obj)}{σ:St}{H:Hp}{s:Shared}{p:Addr}{xs:List V}(I:Inv X pins σ H s)(h:H p=some (.lst xs)) :
  ∃(its:List Value) (n:Nat),Vals xs its/\s.heap.get? p=some { cls:=.type "list",data:=.seq its.toArray n }/\xs.length<=gc:=by
 obtain⟨z,its,n,r,e⟩:=I.hok p _ h;exact⟨its,n,r,e,z⟩
theorem Inv.Uc {pins:List (Addr×Obj)}{σ:St}{H:Hp}{s:Shared}{p:Addr}{xs ys:List V}{its its':List Value}{n n':Nat}{f:Obj->Obj}(I:Inv X pins σ H s)(h:H p=some (.lst xs))
  (ho:s.heap.get? p=some { cls:=.type "list",data:=.seq its.toArray n }) (hf:f { cls:=.type "list",data:=.seq its.toArray n }={ cls:=.type "list",data:=.seq its'.toArray n' }) (r:Vals ys its') (hz:ys.length<=gc) (t:Nat) :
  Inv X pins σ (upd H p (.lst ys)) { s with heap:=s.heap.update p f,toks:=t }:=by
 have e:(s.heap.update p f).get? p=some { cls:=.type "list",data:=.seq its'.toArray n' }:=by
  rw[ai5 f ho (by rw[hf] <;> rfl),hf]
 refine I.write (x:=p) (e:=p) (by rw[h];trivial) (.inl rfl) (λb u hb q=>(aiP _ _ (aiD hb)).trans q) ⟨_,e⟩ ?_
 exact⟨hz,its',n',r,e⟩
def Y6:V->V->V->Hp->(Hp->Prop)->Prop:=λo i v H Q=>∃p xs k j,o=.ref p/\i=.int k/\H p=some (.lst xs)/\ixN xs.length k=some j/\Q (upd H p (.lst (xs.set j v)))
theorem set_list:YL X Y6:=by
 intro pins s σ H o i v ov iv u Q I ro ri rv h;obtain⟨p,xs,k,j,rfl,rfl,hp,hj,q⟩:=h;cases ro;obtain⟨t,rfl⟩:=ri;obtain⟨its,n,r,ho,hz⟩:=I.lst hp;obtain⟨h1,h2,h3,h4⟩:=CD hj;have hl:=r.length;have hn:=tO;have I':Inv X pins σ (upd H p (.lst (xs.set j v))) { s with heap:=s.heap.update p (Obj.mapSeq (·.setIfInBounds j u)) } :=
  I.Uc hp ho (HC its n j u) (r.set rv j) (by rw[ajM];exact hz) s.toks
 by_cases h0:0<=k
 ·have hk:k.toNat=j:=by
   rw[seqIndex_of h0 h4]at h1;exact aix h1
  exact PySem.W.ki_setAt ho h0 (by omega) (by rw[ky,<-hl];exact h4) (by rw[hk];exact⟨_,I',q⟩)
 ·have hk:(k+(its.toArray.size:Int)).toNat=j:=by
   rw[seqIndex_neg (by omega) h3]at h1
   rw[ky,<-hl];exact aix h1
  exact PySem.W.ki_setBack ho (by omega) (by rw[ky,<-hl];exact h3) (by omega) (by rw[hk];exact⟨_,I',q⟩)
theorem CG (lo hi:Option Int)(n:Nat):(sliceBounds lo hi none n).1=((HT.sIx n 0 lo:Nat):Int)/\(sliceBounds lo hi none n).2.1=((HT.sIx n n hi:Nat):Int)/\(sliceBounds lo hi none n).2.2=1:=by
 refine⟨?_,?_,rfl⟩
 ·cases lo with
  |none=>simp[sliceBounds,HT.sIx]
  |some i =>
   simp only[sliceBounds,HT.sIx,Option.getD_none,show (1:Int) > 0 by decide,if_true]
   by_cases h:i < 0
   ·simp only[h,if_true] <;> omega
   ·simp only[h,if_false] <;> omega
 ·cases hi with
  |none=>simp[sliceBounds,HT.sIx]
  |some i =>
   simp only[sliceBounds,HT.sIx,Option.getD_none,show (1:Int) > 0 by decide,if_true]
   by_cases h:i < 0
   ·simp only[h,if_true] <;> omega
   ·simp only[h,if_false] <;> omega
theorem Bg (its:List Value)(lo hi:Option Int):slicePick its.toArray lo hi none=((its.drop (HT.sIx its.length 0 lo)).take (HT.sIx its.length its.length hi - HT.sIx its.length 0 lo)).toArray:=by
 obtain⟨h1,h2,h3⟩:=CG lo hi its.toArray.size;unfold slicePick;rw[h1,h2,h3];simp only[sliceRange_one,pick_run,ky] <;> rfl
def agj (K:bo):V->Option Int->Option Int->Hp->VK->Prop:=λx lo hi H Q=>∃a xs,x=.ref a/\SqL K H a xs/\∀p,H p=none->Q (.ref p) (upd H p (.lst (nv xs lo hi)))
theorem sC:SlR X (agj X.K):=by
 intro pins s σ H x v vl vu lo hi sl Q I rx hs pl pu h;obtain⟨a,xs,rfl,hx,q⟩:=h;cases rx;obtain⟨its,r,ht,hz⟩:=I.list hx;have hlen:=r.length;refine⟨"list",_,slot_list_getitem.lookup,ht.isList.typeIs,?_⟩;refine wpAny_getItem_list_slice ht.isList hs pl pu .none (by simp) ?_ (by rw[ky] <;> omega)
 rw[Bg,<-hlen];refine⟨.ref s.heap.objs.size,_,I.laid (t':=s.toks) (o:=.lst (nv xs lo hi)) (λb ob q=>gp _ q) (ko _) ?_,rfl,q _ (I.hok.fresh (ko _))⟩
 exact⟨rf (xt xs lo hi) hz,_,0,(r.drop (HT.sIx xs.length 0 lo)).take (HT.sIx xs.length xs.length hi - HT.sIx xs.length 0 lo),Lk _ rfl⟩
def xu:V->Bool
 | .non=>true
 | .bl _=>true
 | .int _=>true
 | .str _=>true
 |_=>false
def eqV:V->V->Bool
 | .non,.non=>true
 | .bl a,.bl b=>a == b
 | .bl a,.int b=>(if a then 1 else 0) == b
 | .int a,.bl b=>a == (if b then 1 else 0)
 | .int a,.int b=>a == b
 | .str a,.str b=>a == b
 |_,_=>false
theorem Ud {A:Around}{s:Shared}{y x:V}{u v:Value}(ry:RelV y u)(rx:RelV x v)(fy:xu y=true)(fx:xu x=true):SeqAt.EqAt A s u v (eqV y x):=by
 cases y with
 |non =>
  cases ry;cases x with
  |non=>cases rx;exact SeqAt.EqAt.same _
  |bl b=>cases rx;exact SeqAt.EqAt.none_bool b
  |int b=>obtain⟨t,rfl⟩:=rx;exact SeqAt.EqAt.none_int b t
  |str b=>obtain⟨t,rfl⟩:=rx;exact SeqAt.EqAt.none_str b t
  |_=>exact absurd (show false=true from fx) kg
 |bl a =>
  cases ry;cases x with
  |non=>cases rx;exact SeqAt.EqAt.bool_none a
  |bl b=>cases rx;exact SeqAt.EqAt.bool_bool a b
  |int b=>obtain⟨t,rfl⟩:=rx;exact SeqAt.EqAt.bool_int a b t
  |str b=>obtain⟨t,rfl⟩:=rx;exact SeqAt.EqAt.bool_str a b t
  |_=>exact absurd (show false=true from fx) kg
 |int a =>
  obtain⟨t',rfl⟩:=ry;cases x with
  |non=>cases rx;exact SeqAt.EqAt.int_none a t'
  |bl b=>cases rx;exact SeqAt.EqAt.int_bool a t' b
  |int b=>obtain⟨t,rfl⟩:=rx;exact SeqAt.EqAt.int_int a t' b t
  |str b=>obtain⟨t,rfl⟩:=rx;exact SeqAt.EqAt.int_str a t' b t
  |_=>exact absurd (show false=true from fx) kg
 |str a =>
  obtain⟨t',rfl⟩:=ry;cases x with
  |non=>cases rx;exact SeqAt.EqAt.str_none a t'
  |bl b=>cases rx;exact SeqAt.EqAt.str_bool a t' b
  |int b=>obtain⟨t,rfl⟩:=rx;exact SeqAt.EqAt.str_int a t' b t
  |str b=>obtain⟨t,rfl⟩:=rx;exact SeqAt.EqAt.str_str a t' b t
  |_=>exact absurd (show false=true from fx) kg
 |_=>exact absurd (show false=true from fy) kg
def eqU (x:V)(u:Value):Bool:=match u with
 | .none=>eqV .non x
 | .bool b=>eqV (.bl b) x
 | .int i _=>eqV (.int i) x
 | .str z _=>eqV (.str z) x
 |_=>false
theorem MV {x y:V}{u:Value}(r:RelV y u)(f:xu y=true):eqU x u=eqV y x:=by
 cases y with
 |non=>cases r;rfl
 |bl b=>cases r;rfl
 |int i=>obtain⟨t,rfl⟩:=r;rfl
 |str z=>obtain⟨t,rfl⟩:=r;rfl
 |_=>exact absurd (show false=true from f) kg
theorem CH {x:V}:∀ {xs:List V} {us:List Value},Vals xs us->xs.all xu=true->us.any (eqU x)=xs.any λy=>eqV y x
 |_,_,.nil,_=>rfl
 |y::xs,u::us,.cons r t,f=>by
  rw[List.all_cons,aiN]at f;rw[aj2,aj2,MV r f.1,CH t f.2]
theorem zE {A:Around}{s:Shared}{x:V}{v:Value}(rx:RelV x v)(fx:xu x=true):∀ {xs:List V} {us:List Value},Vals xs us->xs.all xu=true->∀u∈us,SeqAt.EqAt A s u v (eqU x u)
 |_,_,.nil,_=>λu hu=>by cases hu
 |y::xs,u::us,.cons r t,f=>λu' hu=>by
  rw[List.all_cons,aiN]at f;rcases List.mem_cons.mp hu with rfl | hu
  ·rw[MV r f.1];exact Ud r rx f.1 fx
  ·exact zE rx fx t f.2 u' hu
def inV (x:V)(xs:List V):Bool:=xs.any λy=>eqV y x
def rIn (K:bo)(neg:Bool):R2:=λx y H Q=>∃p xs,y=.ref p/\(SqL K H p xs\/SqT K H p xs)/\xu x=true/\xs.all xu=true/\Q (.bl (if neg then !inV x xs else inV x xs)) H
theorem vU:OpR X (ajw .In) (rIn X.K false):=by
 intro pins s σ H x y v u Q I rx ry h;obtain⟨p,xs,rfl,hq,fx,fs,q⟩:=h;cases ry;rcases hq with hq | hq
 ·obtain⟨its,r,pl,hz⟩:=I.list hq;refine SeqAt.in_listAt (eqU x) pl.isList (λw hw=>zE rx fx r fs w (by simpa using hw)) ⟨.bl _,H,I,rfl,?_⟩
  rw[show its.toArray.any (eqU x)=its.any (eqU x) by simp,CH r fs]
  exact q
 ·obtain⟨its,r,pl,hz⟩:=I.tuple hq;refine SeqAt.in_tupleAt (eqU x) pl (λw hw=>zE rx fx r fs w (by simpa using hw)) ⟨.bl _,H,I,rfl,?_⟩
  rw[show its.toArray.any (eqU x)=its.any (eqU x) by simp,CH r fs]
  exact q
theorem dM:iu X (.builtin "len") (λxs H Q=>∃p ys,xs=[.ref p]/\(SqL X.K H p ys\/SqT X.K H p ys)/\Q (.int ys.length) H):=by
 intro pins s σ H xs us Q I r h;obtain⟨p,ys,rfl,hq,q⟩:=h;obtain⟨u,rfl,rx⟩:=vals1 r;cases rx;have hn:=tO;rcases hq with hq | hq
 ·obtain⟨its,r',pl,hz⟩:=I.list hq;have hlen:=r'.length;exact Calls.call_len_list pl.isList (by simp only[ky] <;> omega) ⟨.int ys.length,H,I.tok _,⟨s.toks+1,by rw[ky,hlen]⟩,q⟩
 ·obtain⟨its,r',pl,hz⟩:=I.tuple hq;have hlen:=r'.length;exact len_tuple pl (by simp only[ky] <;> omega) ⟨.int ys.length,H,I.tok _,⟨s.toks+1,by rw[ky,hlen]⟩,q⟩
theorem uT:iu X (.builtin "len") (λxs H Q=>∃z,xs=[.str z]/\z.length<=gc/\Q (.int z.length) H):=by
 intro pins s σ H xs us Q I r h;obtain⟨z,rfl,hz,q⟩:=h;obtain⟨u,rfl,t,rfl⟩:=vals1 r;have hn:=tO;exact len_str (by omega) ⟨.int z.length,H,I.tok _,⟨_,rfl⟩,q⟩
theorem iu.or {f:Value}{r r':List V->Hp->VK->Prop}(h:iu X f r)(h':iu X f r'):iu X f (λxs H Q=>r xs H Q\/r' xs H Q):=by
 intro pins s σ H xs us Q I rs q;rcases q with q | q
 ·exact h pins s σ H xs us Q I rs q
 ·exact h' pins s σ H xs us Q I rs q
theorem et:iu X (.type "list") (λxs H Q=>∃p ys,xs=[.ref p]/\(SqL X.K H p ys\/SqT X.K H p ys)/\∀l,H l=none->Q (.ref l) (upd H l (.lst ys))):=by
 intro pins s σ H xs us Q I r h;obtain⟨p,ys,rfl,hq,q⟩:=h;obtain⟨u,rfl,rx⟩:=vals1 r;cases rx;have fin:∀(its:List Value),Vals ys its->ys.length<=gc->∀(h':Heap) (c':Nat),(∀b o',s.heap.get? b=some o'->h'.get? b=some o') ->
   h'.get? s.heap.objs.size=some { cls:=.type "list",dict:=none,data:=.seq its.toArray c',slots:=#[] }->EP X pins σ Q (.ref s.heap.objs.size) { s with heap:=h' }:=λits r' hz h' c' kp e =>
  ⟨.ref s.heap.objs.size,_,I.laid (t':=s.toks) kp (ko _) (show d4 X.prog X.w _ h' _ (.lst ys) from ⟨hz,its,c',r',e⟩),rfl,q _ (I.hok.fresh (ko _))⟩
 rcases hq with hq | hq
 ·obtain⟨its,r',pl,hz⟩:=I.list hq;have hlen:=r'.length;obtain⟨o,ho,hc,n,hd⟩:=pl.isList;exact call_list_seq p (.inl rfl) ho hc hd (λh' c' kp e=>fin its r' hz h' c' kp e) (by simp only[ky] <;> omega)
 ·obtain⟨its,r',pl,hz⟩:=I.tuple hq;have hlen:=r'.length;obtain⟨o,ho,hc,n,hd⟩:=pl;exact call_list_seq p (.inr rfl) ho hc hd (λh' c' kp e=>fin its r' hz h' c' kp e) (by simp only[ky] <;> omega)
def tyV (K:bo)(T:String)(x:V)(H:Hp):Prop:=match x with
 | .str _=>T="str"
 | .int _=>T="int"
 | .ref p=>(T="list"/\∃xs,SqL K H p xs)\/(T="tuple"/\∃o,K.lookup p=some o/\o.cls=.type "tuple"/\o.dict=none) \/
   (T="dict"/\((∃kvs,H p=some (.dK kvs))\/∃kvs,H p=some (.dT kvs)))\/(T="set"/\∃S n,H p=some (.set S n))
 |_=>False
theorem MW {pins:List (Addr×Obj)}{σ:St}{H:Hp}{s:Shared}{T:String}{x:V}{v:Value}(I:Inv X pins σ H s)(r:RelV x v)(ty:tyV X.K T x H) :
  s.TypeIs v T/\∀a,v=.ref a->∃ob,s.heap.get? a=some ob/\ob.dict=none:=by
 cases x with
 |str z =>
  obtain⟨t,rfl⟩:=r;cases (show T="str" from ty)
  exact⟨typeIs_str s z t,λ_ e=>nomatch e⟩
 |int i =>
  obtain⟨t,rfl⟩:=r;cases (show T="int" from ty)
  exact⟨typeIs_int s i t,λ_ e=>nomatch e⟩
 |ref p =>
  cases r;rcases ty with ⟨rfl,xs,hq⟩ | ⟨rfl,o,hk,hc,hd⟩ | ⟨rfl,hk⟩ | ⟨rfl,S,n,hk⟩
  ·obtain⟨its,_,pl,_⟩:=I.list hq;refine⟨pl.isList.typeIs,λa e=>?_⟩
   cases e;obtain⟨o,n,e,c,hd,_⟩:=pl;exact⟨o,e,hd⟩
  ·refine⟨⟨o,I.kIn p o hk,hc⟩,λa e=>?_⟩
   cases e;exact⟨o,I.kIn _ o hk,hd⟩
  ·have z:∃o,s.heap.get? p=some o/\o.ExactDict:=by
    rcases hk with ⟨kvs,hk⟩ | ⟨kvs,hk⟩
    ·obtain⟨_,_,_,_,o,_,_,e,ex,_⟩:=I.hok p _ hk;exact⟨o,e,ex⟩
    ·obtain⟨_,_,_,_,o,_,_,e,ex,_⟩:=I.hok p _ hk;exact⟨o,e,ex⟩
   obtain⟨o,e,ex⟩:=z;refine⟨⟨o,e,ex.1⟩,λa e2=>?_⟩
   cases e2;exact⟨o,e,ex.2.1⟩
  ·obtain⟨o,_,_,_,e,ex,_⟩:=I.hok p _ hk;refine⟨⟨o,e,ex.1⟩,λa e2=>?_⟩
   cases e2;exact⟨o,e,ex.2.1⟩
 |_=>exact aiy ty
def agk (K:bo)(T:String)(r:V->List V->Hp->VK->Prop)(to:TE):TE:=λσ H Q=>to σ H λx H1=>tyV K T x H1/\r x [] H1 Q
def tBM (K:bo)(T:String)(r:V->List V->Hp->VK->Prop)(to:TE)(t:TA):TE:=λσ H Q=>to σ H λx H1=>tyV K T x H1/\t σ H1 λxs H2=>r x xs H2 Q
variable{o e:Expr}{es:List Expr}{to:TE}{t:TA}{name:Str}{apos gj:Pos}{T id:String}{r:V->List V->Hp->VK->Prop}
theorem Ue (pa:PlainAttrs T)(slot:Slot T name id)(hty:typeOf (.builtin id)=pure (.type "method_descriptor"))(hm:MtR X id r)(ho:PE X o to)
  (zF:attributeBase o name X.env (eval o X.env)=eval o X.env:=by rfl) (MX:(apos.endLine == gj.line)=true:=by rfl):PE X (.Call (.Attribute o name apos) [] [] gj) (agk X.K T r to):=by
 intro pins s σ H Q I h;refine wpAny_Call_method0_late zF MX (thn (ho pins s σ H _ I h) λv s1 ⟨x,H1,I1,r1,ty,q1⟩=>?_)
 obtain⟨h1,h2⟩:=MW I1 r1 ty;exact⟨T,id,pa,slot,hty,h1,h2,Calls.callWith_builtin rfl (PySem.evalArgs_none (hm pins s1 σ H1 x [] v [] Q I1 r1 .nil q1))⟩
theorem iP (pa:PlainAttrs T)(slot:Slot T name id)(hty:typeOf (.builtin id)=pure (.type "method_descriptor"))(hm:MtR X id r)(ho:PE X o to)(ha:PA X (e::es) t)
  (zF:attributeBase o name X.env (eval o X.env)=eval o X.env:=by rfl)
  (agl:((backTo gj (sr (e::es) X.env)).all (λx=>!x.1) && (ajR gj (ajh [] X.env)).all (λx=>x.1.isSome)
   && decide ((e::es).length+([]:List Keyword).length+(if ([]:List Keyword).isEmpty then 0 else 1) < 30))=true:=by rfl)
  (MX:(apos.endLine == gj.line)=true:=by rfl) (hs:sr (e::es) X.env=(false,eval e X.env)::sr es X.env:=by rfl) (Ug:(backTo gj (sr es X.env)).any (·.1)=false:=by rfl) :
  PE X (.Call (.Attribute o name apos) (e::es) [] gj) (tBM X.K T r to t):=by
 intro pins s σ H Q I h;refine wpAny_Call_method_late zF agl MX rfl (thn (ho pins s σ H _ I h) λv s1 ⟨x,H1,I1,r1,ty,q1⟩=>?_)
 obtain⟨h1,h2⟩:=MW I1 r1 ty;refine⟨T,id,pa,slot,hty,h1,h2,?_⟩;have hA:=ha gj pins s1 σ H1 _ I1 q1;rw[hs]at hA ⊢;refine Calls.callWith_builtin (by show (false || (backTo gj (sr es X.env)).any (·.1))=false;rw[Ug] <;> rfl) (ajX ?_)
 exact thn hA λus s2 ⟨vs,H2,I2,r2,q2⟩=>hm pins s2 σ H2 x vs v us Q I2 r1 r2 q2
end
def MtM (X:Cx)(id:String)(r:V->List V->Hp->VK->Prop):Prop :=
 ∀(pins:List (Addr×Obj)) (s:Shared) (σ:St) (H:Hp) (x:V) (xs:List V) (v:Value) (us:List Value) (Q:VK),Inv X pins σ H s->RelV x v->Vals xs us->r x xs H Q ->
  wpAny (model X.prog X.w) X.A (call (.builtin id) (v::us)) (EP X pins σ Q) X.xe s
theorem Vals.one:∀ {x:V} {us:List Value},Vals [x] us->∃u,us=[u]/\RelV x u
 |_,_,.cons r .nil=>⟨_,rfl,r⟩
theorem Vals.two:∀ {x y:V} {us:List Value},Vals [x,y] us->∃u v,us=[u,v]/\RelV x u/\RelV y v
 |_,_,_,.cons r (.cons q .nil)=>⟨_,_,rfl,r,q⟩
theorem Vals.zero:∀ {us:List Value},Vals [] us->us=[]
 |_,.nil=>rfl
theorem Vals.dropLast {xs:List V}{us:List Value}(h:Vals xs us):Vals xs.dropLast us.dropLast:=by
 induction h with
 |nil=>exact .nil
 |cons r t ih =>
  cases t with
  |nil=>exact .nil
  |cons q t'=>exact .cons r ih
theorem Vals.eraseIdx:∀ {xs:List V} {us:List Value} (i:Nat),Vals xs us->Vals (xs.eraseIdx i) (us.eraseIdx i)
 |_,_,_,.nil=>.nil
 |_,_,0,.cons _ t=>t
 |_,_,i+1,.cons r t=>.cons r (Vals.eraseIdx i t)
theorem Vals.reverse {xs:List V}{us:List Value}(h:Vals xs us):Vals xs.reverse us.reverse:=by
 induction h with
 |nil=>exact .nil
 |cons r t ih=>rw[List.reverse_cons,List.reverse_cons];exact Vals.append ih (.cons r .nil)
theorem Vals.rep {xs:List V}{us:List Value}(h:Vals xs us):∀k:Nat,Vals (aj6 k xs).flatten (aj6 k us).flatten
 | 0=>.nil
 |k+1=>by
  rw[List.replicate_succ,List.replicate_succ,List.flatten_cons,List.flatten_cons];exact Vals.append h (Vals.rep h k)
theorem HD {α:Type}(l:List α):l.eraseIdx (l.length - 1)=l.dropLast:=by
 induction l with
 |nil=>rfl
 |cons a r ih =>
  cases r with
  |nil=>rfl
  |cons b r =>
   have e:(a::b::r).length - 1=((b::r).length - 1)+1:=by
    have h1:(a::b::r).length=r.length+2:=rfl;have h2:(b::r).length=r.length+1:=rfl;omega
   rw[e,List.eraseIdx_cons_succ,ih]
   all_goals rfl
theorem BP {α:Type}:∀(l:List α) (i:Nat),(l.eraseIdx i).length<=l.length
 |[],_=>ko _
 |_::_,0=>ajn _
 |_::r,i+1=>Nat.succ_le_succ (BP r i)
section
variable{X:Cx}{pins:List (Addr×Obj)}{σ:St}{H:Hp}{s:Shared}{l b:Addr}{xs ys zs:List V}
theorem Inv.MY {its its':List Value}{n:Nat}{f:Array Value->Array Value}{t':Nat}(I:Inv X pins σ H s)(hH:H l=some (.lst xs))
  (e:s.heap.get? l=some { cls:=.type "list",data:=.seq its.toArray n }) (hf:f its.toArray=its'.toArray) (hv:Vals ys its') (hz:ys.length<=gc) :
  Inv X pins σ (upd H l (.lst ys)) { s with heap:=s.heap.update l (Obj.mapSeq f),toks:=t' }:=by
 have q:=PySem.IsL.update e f;rw[hf]at q;refine I.write (x:=l) (e:=l) (by rw[hH];exact trivial) (.inl rfl) (λb' u hb hu=>(aiP s.heap (Obj.mapSeq f) (aiD hb)).trans hu) ⟨_,q⟩ ?_
 exact⟨hz,its',_,hv,q⟩
theorem Inv.Y7 {its:List Value}{t':Nat}(I:Inv X pins σ H s)(hv:Vals ys its)(hz:ys.length<=gc) :
  Inv X pins σ (upd H s.heap.objs.size (.lst ys)) { s with heap:=s.heap.push { cls:=.type "list",data:=.seq its.toArray },toks:=t' } :=
 I.laid (λ_ _ q=>gp _ q) (ko _) ⟨hz,its,0,hv,Lk _ rfl⟩
theorem Inv.fresh (I:Inv X pins σ H s):H s.heap.objs.size=none:=I.hok.fresh (ko _)
theorem Inv.Ec (I:Inv X pins σ H s)(hH:H l=some (.lst xs)):xs.length<=gc/\∃(its:List Value) (n:Nat),Vals xs its/\xs.length=its.length/\s.heap.get? l=some { cls:=.type "list",data:=.seq its.toArray n }:=by
 obtain⟨z,its,n,r,e⟩:=I.hok l _ hH;exact⟨z,its,n,r,r.length,e⟩
theorem MZ {n:Nat}(h:n<=gc):Builtin.List.listTooLong n=false:=by
 unfold Builtin.List.listTooLong;exact decide_eq_false (by omega)
end
section
variable{X:Cx}
def Qf:V->List V->Hp->VK->Prop:=λx vs H Q=>∃l xs y,x=.ref l/\vs=[y]/\H l=some (.lst xs)/\xs.length < gc/\Q .non (upd H l (.lst (xs++[y])))
theorem d6:MtM X "list.append" Qf:=by
 intro pins s σ H x vs v us Q I rx rv h;obtain⟨l,xs,y,rfl,rfl,hH,hz,q⟩:=h;cases rx;obtain⟨u,rfl,ru⟩:=rv.one;obtain⟨z,its,n,r,hl,e⟩:=I.Ec hH;refine call_meets F.slot_list_append ⟨_,e,rfl⟩ F.entry_list_append (F.args_list_append_2 _ _) (PySem.list_append l its.toArray n u (by rw[ky];omega)) ⟨e,?_⟩
 refine⟨.non,_,I.MY (its':=its++[u]) hH e (by simp) (r.append (.cons ru .nil)) ?_,rfl,q⟩
 rw[ki,aiw];omega
def Qg:V->List V->Hp->VK->Prop:=λx vs H Q=>∃l b xs zs,x=.ref l/\vs=[.ref b]/\H l=some (.lst xs)/\H b=some (.lst zs)/\xs.length+zs.length<=gc/\Q .non (upd H l (.lst (xs++zs)))
theorem BQ:MtM X "list.extend" Qg:=by
 intro pins s σ H x vs v us Q I rx rv h;obtain⟨l,b,xs,zs,rfl,rfl,hH,hB,hz,q⟩:=h;cases rx;obtain⟨u,rfl,ru⟩:=rv.one;cases ru;obtain⟨z,its,n,r,hl,e⟩:=I.Ec hH;obtain⟨z2,HE,n2,r2,hl2,e2⟩:=I.Ec hB;have hsz:its.toArray.size+HE.toArray.size<=gc:=by rw[ky,ky];omega
 have Y8:¬(!its.toArray.isEmpty && Builtin.List.listTooLong (its.toArray.size+HE.toArray.size))=true:=by
  rw[MZ hsz,Bool.and_false];exact kg
 refine call_meets F.slot_list_extend ⟨_,e,rfl⟩ F.entry_list_extend (F.args_list_extend_2 _ _)
  (AutoSeq1.list_extend_list_list_0 l its.toArray n b HE.toArray n2 Y8 (by rw[ky];omega) (by omega)) ⟨e,e2,?_⟩
 refine⟨.non,_,I.MY (its':=its++HE) hH e (by simp) (r.append r2) ?_,rfl,q⟩
 rw[ki];omega
def agm:V->List V->Hp->VK->Prop:=λx vs H Q=>∃l xs y,x=.ref l/\vs=[]/\H l=some (.lst xs)/\xs[xs.length - 1]?=some y/\Q y (upd H l (.lst xs.dropLast))
theorem Uh:MtM X "list.pop" agm:=by
 intro pins s σ H x vs v us Q I rx rv h;obtain⟨l,xs,y,rfl,rfl,hH,hy,q⟩:=h;cases rx;have hus:=rv.zero;subst hus;obtain⟨z,its,n,r,hl,e⟩:=I.Ec hH;obtain⟨u,hu,ru⟩:=r.get hy;have hy':its.toArray[its.toArray.size - 1]?=some u:=by
  show its.toArray[its.length - 1]?=some u;rw[<-Array.getElem?_toList,<-hl];exact hu
 refine call_meets F.slot_list_pop ⟨_,e,rfl⟩ F.entry_list_pop (F.args_list_pop_1 _) (MeetsSeq.list_pop_last l its.toArray n u hy' (by rw[ky];omega)) ⟨e,?_⟩
 refine⟨y,_,I.MY (its':=its.dropLast) hH e ?_ r.dropLast ?_,ru,q⟩
 ·show its.toArray.eraseIdxIfInBounds (its.toArray.size - 1)=its.dropLast.toArray;rw[ky,List.eraseIdxIfInBounds_toArray,HD]
 ·rw[List.length_dropLast];omega
def Ui:V->List V->Hp->VK->Prop:=λx vs H Q=>∃l xs i k y,x=.ref l/\vs=[.int i]/\H l=some (.lst xs)/\-(2 ^ 63)<=i/\i < 2 ^ 63/\seqIndex? i xs.length=some k/\xs[k]?=some y/\Q y (upd H l (.lst (xs.eraseIdx k)))
theorem M0:MtM X "list.pop" Ui:=by
 intro pins s σ H x vs v us Q I rx rv h;obtain⟨l,xs,i,k,y,rfl,rfl,hH,h1,h2,hk,hy,q⟩:=h;cases rx;obtain⟨u,rfl,ru⟩:=rv.one;obtain⟨t,rfl⟩:=ru;obtain⟨z,its,n,r,hl,e⟩:=I.Ec hH;obtain⟨w,hw,rw'⟩:=r.get hy;refine call_meets F.slot_list_pop ⟨_,e,rfl⟩ F.entry_list_pop (F.args_list_pop_2 _ _)
  (MeetsSeq.list_pop_at l its.toArray n i t k w (fitsIndex_both h1 h2) (by rw[ky,<-hl];exact hk) (by rw[<-Array.getElem?_toList];exact hw) (by rw[ky];omega)) ⟨e,?_⟩
 refine⟨y,_,I.MY (its':=its.eraseIdx k) hH e ?_ (r.eraseIdx k) ?_,rw',q⟩
 ·show its.toArray.eraseIdxIfInBounds k=(its.eraseIdx k).toArray;rw[List.eraseIdxIfInBounds_toArray]
 ·have:=BP xs k;omega
def agn:R2:=λx y H Q=>∃l b xs zs,x=.ref l/\y=.ref b/\H l=some (.lst xs)/\H b=some (.lst zs)/\xs.length+zs.length<=gc/\∀p,H p=none->Q (.ref p) (upd H p (.lst (xs++zs)))
theorem Uj:OpR X (binaryOp .Add) agn:=by
 intro pins s σ H x y v u Q I rx ry h;obtain⟨l,b,xs,zs,rfl,rfl,hH,hB,hz,q⟩:=h;cases rx;cases ry;obtain⟨z,its,n,r,hl,e⟩:=I.Ec hH;obtain⟨z2,HE,n2,r2,hl2,e2⟩:=I.Ec hB;refine PySem.P.add_list e e2 ?_ (by rw[ky,ky];omega)
 have ea:its.toArray++HE.toArray=(its++HE).toArray:=by simp
 rw[ea];exact⟨.ref _,_,I.Y7 (t':=s.toks) (r.append r2) (by rw[ki];omega),rfl,q _ I.fresh⟩
end
end L2
namespace Att
open PySem PySem.W PySem.Calls PyProof.Rows
theorem yb {P:Params}{h:Heap}:∀(ns:List Int) (vs:List Value),WellAll P h vs (ns.map WData.int)->IntsAre vs ns:=by
 intro ns
 induction ns with
 |nil =>
  intro vs w;rw[ajY]at w;cases w;exact .nil
 |cons n ns ih =>
  intro vs w;rw[ra]at w;cases w with
  |cons a b =>
   cases a;exact .cons _ _ (ih _ b)
theorem Lh {l:OpenLaw}{n:Nat}(hn:l.most=some n){P:Params}{h:Heap}{args:List WData}{vals:List Value}
  (Qh:l.row.toRowW.claim.pre args=true) (hwl:WellAll P h vals args) :
  ∃a vs ns,vals=[si a]/\args=[WData.list (ns.map WData.int)]/\h.get? a=some { cls:=.type "list",data:=.seq vs.toArray }/\IntsAre vs ns/\ns.length<=n:=by
 have hsh:WShape.hasAll [] args [.list .int]=true:=(pre_splitW Qh).1;have hc:l.pre.holds [] { args:=args }=true:=(pre_splitW Qh).2;obtain⟨d,r,rfl,h1,h2⟩:=hasAllW_cons hsh;obtain rfl:=hasAllW_nil h2;obtain⟨xs,rfl,h3⟩:=hasW_list h1;obtain⟨ns,rfl⟩:=items_int h3;have hlen:ns.length<=n:=by
  unfold OpenLaw.pre at hc;have h4:(WTm.not (.lt (.lit (.int (n:Int))) (.len (.arg 0)))).holds [] { args:=[.list (ns.map .int)] }=true:=by
   have h4:=(holds_andW hc).1;rw[hn]at h4;exact h4
  have h5:=condW_of h4 (w_not (w_lt w_lit (w_len_list (w_arg rfl))));rw[da]at h5;refine Nat.le_of_not_lt λq=>?_
  have q':(n:Int) < ((ns.length:Nat):Int):=by omega
  first
   | (rw[decide_eq_true q']at h5;exact absurd h5 (by decide))
   | (simp at h5;omega)
 cases hwl with
 |cons w1 w2 =>
  cases w2;cases w1 with
  |list ho ago=>exact⟨_,_,ns,rfl,rfl,ho,yb ns _ ago,hlen⟩
theorem Li (l:OpenLaw)(args:List WData):l.row.toRowW.claim.post args (.bool true) args=true :=
 postW_of (r:=l.row.toRowW) (X:=(true == true))
  (show WShape.has [] (.bool true) .bool=true by first | rfl | decide | simp[WShape.has,WShape.arms,WShape.armsAll])
  (show (WTm.eq .res (.lit (.bool true))).value [] { args:=args,res:=some (.bool true),after:=args }=some (.bool (true == true)) from w_eq_bool (w_res rfl) w_lit) rfl
theorem Ee {l:OpenLaw}{n:Nat}{q:kx}{loose:List Str}{XP:(Str->Option Value)->Heap->Prop}{YP:World->Heap->Prop}{d:DefRec}
  (hn:l.most=some n) (hdf:d.params.defaults=[])
  (call:∀(w:World) (s₀ s₁:Shared) (mg mb:Str->Option Value) (fa:Addr) (o:Obj) (pm cd doc:Value) (a:Addr) (vs:List Value) (ns:List Int),
   Ground q loose [] XP w s₀ mg mb s₁.heap->YP w s₁.heap ->
   s₁.heap.get? fa=some o->o.data=.func (docDef d.name d.params d.body d.scope pm cd doc)->s₁.heap.CodeRec cd d.name->mg d.name=some (.ref fa) ->
   s₁.heap.get? a=some { cls:=.type "list",data:=.seq vs.toArray }->IntsAre vs ns->ns.length<=n->s₁.gens=#[] ->
   codeAny (model l.prog w) callerA (.call (.ref fa) ⟨[.ref a],[]⟩) (λr s'=>r=.ok (.ret (.bool true))/\OldK s₁.heap s'.heap/\s'.os=s₁.os/\AllBare s'.gens) s₁) :
  WalkO q loose XP YP l.row.toRowW d [] (λf vs=>PySem.call f vs):=by
 intro w s₀ s₁ mg mb G Y fa o pm cd doc dV kV ho hd hcd hD hmg hg args vals as Qh air hrd hwl hlo;obtain rfl:dV=.none:=Dflts.none hD hdf;obtain rfl:kV=.none:=Dflts.noKw hD;obtain⟨a,vs,ns,rfl,rfl,Uk,hints,hlen⟩:=Lh hn Qh hwl;refine enter_call (codeAny_mono (call w s₀ s₁ mg mb fa o pm cd doc a vs ns G Y ho (fd_plain hd) hcd hmg Uk hints hlen hg) λr s' hq=>?_)
 obtain⟨rfl,h2,h3,h4⟩:=hq;exact⟨.inl ⟨.bool true,.bool true,[],rfl,λ_=>rfl,.bool true,Li l _,λ_=>⟨List.Pairwise.nil,λ_ hm=>(nomatch hm)⟩⟩,h2,h3,h4⟩
section
variable{prog:kx}{w:World}{A:Around}{E:Value->Shared->Prop}{s:Shared}{K:Frag}
def ledger (h:Heap)(L d:Addr):List (Addr×Obj):=(aj8 h.objs.size).filterMap λa=>if a=L\/a=d then none else (h.get? a).map λo=>(a,o)
end
end Att
namespace L2
open PySem PySem.Spec PyProof.Rows
theorem BR:∀ {vs:List Value} {ns:List Int},IntsAre vs ns->Vals (ns.map V.int) vs
 |_,_,.nil=>.nil
 |_,_,.cons n t h=>.cons ⟨t,rfl⟩ (BR h)
def Ul (H:Hp):Prop:=∀b,H b=none\/∃o xs,H b=some (.frz o (.lst xs))
theorem M3 {P:kx}{w:World}{K:bo}{mg mb:Str->Option Value}{CX:CXT}{k:Nat}{fa a:Addr}{fd:kf}{x:Str}{sp:Sp}{s₁:Shared}{vs:List Value}{ns:List Int}
  (KX:K.In s₁.heap) (hns:s₁.heap.Ns gr mg) (hb:s₁.heap.Ns builtinsNs mb) (hbb:∀x:Str,x≠"__name__"->mb x=ai6 x) (agp:s₁.heap.NoLimit) (hg:s₁.gens=#[])
  (ha:s₁.heap.get? a=some { cls:=.type "list",data:=.seq vs.toArray }) (hi:IntsAre vs ns) (hl:ns.length<=gc) (hr:Room k callerA)
  (F:∀base:Heap,K.In base->base.Ns gr mg->FnOk P w K mg base CX k fa fd [x] sp) (Y9:∀(s:Shared) (u:Value),BindsTo s fd ⟨[u],[]⟩ [(x,u)])
  (hsp:∀H:Hp,Ul H->SqL K H a (ns.map V.int)->sp [.ref a] H (λv _=>v=.bl true) λ_ _ _=>False)
  (hCX:∀H e s',CX [] H s₁ (λ_ _ _=>False) e s'->False) :
  codeAny (model P w) callerA (.call (.ref fa) ⟨[.ref a],[]⟩) (λr s'=>r=.ok (.ret (.bool true))/\OldK s₁.heap s'.heap/\s'.os=s₁.os/\AllBare s'.gens) s₁:=by
 have rv:=BR hi;have agq:=hi.length;have core:∀H:Hp,Ul H->SqL K H a (ns.map V.int)->HOk P w H s₁.heap->(∀b,H b≠none->b=a)->(H a≠none->K.lookup a=none) ->
   codeAny (model P w) callerA (.call (.ref fa) ⟨[.ref a],[]⟩) (λr s'=>r=.ok (.ret (.bool true))/\OldK s₁.heap s'.heap/\s'.os=s₁.os/\AllBare s'.gens) s₁:=by
  intro H hO hS hok hA hK;have Kj:∀ {b:Addr} {o:Obj},s₁.heap.get? b=some o->H b=none->(Cz s₁.heap H).get? b=some o:=λe n=>MH e n
  have noA:∀ {b:Addr} {o:Obj} {es:Array ajp} {ep:Nat},s₁.heap.get? b=some o->o.data=.dict es ep->H b=none:=λ{b o es ep} e d=>by
   cases q:H b with
   |none=>rfl
   |some u =>
    have e':b=a:=hA b (by rw[q];simp)
    subst e';rw[ha]at e;cases e;have d':Data.seq vs.toArray _=Data.dict es ep:=d;cases d'
  have nsK:∀ {b:Addr} {m:Str->Option Value},s₁.heap.Ns b m->(Cz s₁.heap H).Ns b m:=λ{b m} ⟨o,es,ep,e,d,r⟩=>⟨o,es,ep,Kj e (noA e d),d,r⟩
  have hKb:K.In (Cz s₁.heap H):=λb o e=>Kj (KX b o e) (by
   cases q:H b with
   |none=>rfl
   |some u =>
    have e':b=a:=hA b (by rw[q];simp)
    subst e';rw[hK (by rw[q];simp)]at e;cases e)
  have hM:Mod K mg (Cz s₁.heap H):=⟨hKb,nsK hns,⟨mb,nsK hb,hbb⟩,let ⟨mc,h1,h2⟩:=agp;⟨mc,nsK h1,h2⟩⟩
  have e0:uP P w K mg (Cz s₁.heap H) callerA [] s₁ H:=⟨rfl,hM,λb o e=>P8 e,Nat.le_of_eq (K6 _ _),trivial,λb hb=>absurd (show b∈([]:List Addr) from hb) (by simp),hok,.of_eq hg⟩
  refine codeAny_mono ((F _ hKb (nsK hns)).run callerA [] s₁ H ⟨[.ref a],[]⟩ [.ref a] [.ref a] _ _ hr e0 (Y9 s₁ (.ref a)) (.cons rfl .nil) (hsp H hO hS)) λr s' h=>?_
  cases r with
  |error e=>exact(hCX H e s' h).elim
  |ok fl =>
   cases fl with
   |next=>exact aiy h
   |brk=>exact aiy h
   |cont=>exact aiy h
   |ret u =>
    obtain⟨v,H',os,bare,un,agr,r',q⟩:=h;have q':v=.bl true:=q;subst q';obtain rfl:u=ajB true:=r';refine⟨rfl,OldK.of_keep λb o e=>?_,os,bare⟩
    cases q:H b with
    |none=>exact un.keep b o e q (by intro z;exact absurd (show b∈([]:List Addr) from z) (by simp)) (by simp)
    |some u =>
     rcases hO b with z | ⟨ob,xs,z⟩
     ·rw[q]at z;cases z
     ·have z2:=un.tM b ob _ z;obtain⟨e1,_⟩:=hok b _ z;obtain⟨e2,_⟩:=agr b _ z2;rw[e]at e1;cases e1;exact e2
 cases hk:K.lookup a with
 |some o =>
  have e:=KX a o hk;rw[ha]at e;cases e;refine core (λ_=>none) (λ_=>.inl rfl) (.inr ⟨_,vs.toArray,_,hk,rfl,rfl,rfl,by rw[ky,agq];exact hl,by simpa using rv⟩) (λb u z=>by have z':(none:Option HO)=some u:=z;cases z') (λb z=>absurd rfl z) λz=>absurd rfl z
 |none =>
  refine core (λb=>if b=a then some (.frz { cls:=.type "list",data:=.seq vs.toArray } (.lst (ns.map V.int))) else none) (λb=>?_) (.inl (.inr ⟨{ cls:=.type "list",data:=.seq vs.toArray },if_pos rfl⟩)) (λb u z=>?_) (λb z=>?_) λ_=>hk
  ·by_cases hb:b=a
   ·exact .inr ⟨_,_,if_pos hb⟩
   ·exact .inl (if_neg hb)
  ·by_cases hb:b=a
   ·have z':=(if_pos hb).symm.trans z;cases z';subst hb;exact⟨ha,by rw[da];exact hl,vs,_,rv,ha⟩
   ·have z':=(if_neg hb).symm.trans z;cases z'
  ·by_cases hb:b=a
   ·exact hb
   ·exact absurd (if_neg hb) z
theorem Qi {l:PySem.W.OpenLaw}{n k:Nat}{q:kx}{loose:List Str}{XP:(Str->Option Value)->Heap->Prop}{YP:World->Heap->Prop}{d:DefRec}{K:Params->bo}{CX:World->CXT}{sp:World->Sp}{x:Str}
  (hn:l.most=some n) (hn2:n<=gc) (hdf:d.params.defaults=[]) (hr:Room k callerA)
  (hY:∀(w:World) (h:Heap),YP w h->(K w.params).In h)
  (F:∀(w:World) (mg:Str->Option Value) (fa:Addr) (h:Heap),(K w.params).In h->h.Ns gr mg->mg d.name=some (.ref fa) ->
   ∃fd:kf,(∀(s:Shared) (u:Value),BindsTo s fd ⟨[u],[]⟩ [(x,u)]) /\
    ∀base:Heap,(K w.params).In base->base.Ns gr mg->FnOk l.prog w (K w.params) mg base (CX w) k fa fd [x] (sp w))
  (hsp:∀(w:World) (H:Hp) (a:Addr) (ns:List Int),ns.length<=n->Ul H->SqL (K w.params) H a (ns.map V.int)->sp w [.ref a] H (λv _=>v=.bl true) λ_ _ _=>False)
  (hCX:∀(w:World) (H:Hp) (s:Shared) (e:Value) (s':Shared),CX w [] H s (λ_ _ _=>False) e s'->False) :
  PySem.W.WalkO q loose XP YP l.row.toRowW d [] (λf vs=>PySem.call f vs):=by
 refine Att.Ee hn hdf λw s₀ s₁ mg mb fa o pm cd doc a vs ns G Y ho hd hcd hmg Uk hints hlen hg=>?_
 have KX:=hY w _ Y;obtain⟨fd,hb,hF⟩:=F w mg fa _ KX G.T.g hmg;exact M3 KX G.T.g G.T.b G.T.builtins G.T.nolimit hg Uk hints (rf hlen hn2) hr hF hb (λH hO hS=>hsp w H a ns hlen hO hS) λH e s'=>hCX w H s₁ e s'
def inClass (s:Stmt)(j:Nat):Stmt:=match s with
 | .ClassDef _ _ _ body _ _ _ _ _ _ _=>body.getD j (.Pass ⟨0,0,0,0⟩)
 |_=>.Pass ⟨0,0,0,0⟩
def aB (s:Stmt):Arguments:=match s with
 | .FunctionDef _ a _ _ _ _ _ _ _ _=>a
 |_=>{ posonlyargs:=[],args:=[],vararg:=none,kwonlyargs:=[],kw_defaults:=[],kwarg:=none,defaults:=[] }
def aw (s:Stmt):List Stmt:=match s with
 | .FunctionDef _ _ b _ _ _ _ _ _ _=>b
 |_=>[]
def af (s:Stmt):Scope:=match s with
 | .FunctionDef _ _ _ _ _ _ sc _ _ _=>sc
 |_=>{ kind:=.function,names:=[],isGenerator:=false,isCoroutine:=false }
abbrev CX0:CXT:=λ_ _ _ _ _ _=>False
abbrev E0:XK:=λ_ _ _=>False
theorem a9 {X:Cx}:Passes CX0 X E0:=λ_ _ _ _ _ _ _ h=>h.elim
structure Fun (K:bo)(x qual:Str)(st:Stmt)(f:Addr)(fd:kf):Prop where
 ex:∃(oc:Value) (od:Option Addr) (kV doc pm:Value) (an:Option Addr) (cdv ct:Value) (osl:Array (Option Value)),
  fd=gn x qual (aB st) (aw st) (af st) .none kV doc pm an cdv ct/\K.lookup f=some ⟨oc,od,.func fd,osl⟩/\fu K cdv qual=true
 kp:di K (.ref f)=true
section
variable{P:kx}{w:World}{K:bo}{mg:Str->Option Value}{base:Heap}
theorem Fun.ok {x qual:Str}{st:Stmt}{f:Addr}{fd:kf}{N ps:List Str}{k:Nat}{sp:Sp}(F:Fun K x qual st f fd)(S:ax N ps (af st))(len:∀vs H Q E,sp vs H Q E->vs.length=ps.length)
  (uQ:∀(cdv:Value) (A:Around) (outer:List Env) (s:Shared) (H:Hp) (vs:List V) (Q:VK) (E:XK),Room k (A.deeper (envOfC qual (af st) s.heap.objs.size f cdv))->sp vs H Q E ->
   ∃t,PSs (bI CX0 P w K mg base N qual (af st) f cdv A outer s H E).nox (aw st) t/\t { nx:=λ_ H'=>Q .non H',rt:=Q } (start N vs) H):FnOk P w K mg base CX0 (k+1) f fd ps sp:=by
 obtain⟨oc,od,kV,doc,pm,an,cdv,ct,osl,rfl,lk,hcd⟩:=F.ex;refine MR lk hcd S len λA outer s H vs Q E hr hsp=>?_
 obtain⟨t,h,q⟩:=uQ cdv A outer s H vs Q E hr hsp;exact⟨t,h.nox,q⟩
theorem Fun.binds {x qual:Str}{st:Stmt}{f:Addr}{fd:kf}{ps:List Str}(F:Fun K x qual st f fd)
  (h:∀(kV doc pm:Value) (an:Option Addr) (cdv ct:Value) (us:List Value),us.length=ps.length->bindArgs (gn x qual (aB st) (aw st) (af st) .none kV doc pm an cdv ct) ⟨us,[]⟩=pure (ps.zip us)):Binds K fd ps []:=by
 obtain⟨oc,od,kV,doc,pm,an,cdv,ct,osl,rfl,lk,hcd⟩:=F.ex;exact .all (h kV doc pm an cdv ct)
theorem aQ {x qual:Str}{st:Stmt}{f:Addr}{oc:Value}{od an:Option Addr}{osl:Array (Option Value)}{kV doc pm cdv ct:Value}(l:K.lookup f=some ⟨oc,od,.func (gn x qual (aB st) (aw st) (af st) .none kV doc pm an cdv ct),osl⟩)
  (c:fu K cdv qual=true) (k:di K (.ref f)=true):Fun K x qual st f (gn x qual (aB st) (aw st) (af st) .none kV doc pm an cdv ct):=⟨⟨oc,od,kV,doc,pm,an,cdv,ct,osl,rfl,l,c⟩,k⟩
end
section
variable{X:Cx}
theorem pv (i:Nat){x:Str}{pos:Pos}(hN:X.N[i]?=some x:=by rfl)(hv:Vis X.env.scope x:=by first | exact aiF rfl | exact Or.inr (aiF rfl) | exact Or.inr (Or.inr rfl))(hd:(x == ("__debug__":Str))=false:=by decide)
  (hcd:(x == ("__classdict__":Str))=false:=by decide):PE X (.Name x pos) (YG i):=TQ hN hv hd hcd
end
theorem eu {A B:Prop}(h:B):if false=true then A else B:=by
 rw[if_neg kg];exact h
theorem gS {A B:Prop}(h:A):if true=true then A else B:=by
 rw[if_pos rfl];exact h
theorem gU {c A B:Prop}[Decidable c](h1:c->A)(h2:¬c->B):if c then A else B:=by
 by_cases h:c
 ·rw[if_pos h];exact h1 h
 ·rw[if_neg h];exact h2 h
def aZ (H H':Hp):Prop:=∀b o,H b=some o->H' b=some o
theorem aZ.refl (H:Hp):aZ H H:=λ_ _ h=>h
theorem aZ.trans {H H1 H2:Hp}(a:aZ H H1)(b:aZ H1 H2):aZ H H2:=λc o h=>b c o (a c o h)
theorem aZ.free {H H':Hp}(e:aZ H H'){l:Addr}(h:H' l=Option.none):H l=Option.none:=by
 cases q:H l with
 |none=>rfl
 |some o =>
  rw[e l o q]at h;cases h
theorem aZ.seq {K:bo}{H H':Hp}{a:Addr}{xs:List V}(e:aZ H H')(h:SqL K H a xs):SqL K H' a xs:=by
 rcases h with (h | ⟨o,h⟩) | h
 ·exact .inl (.inl (e _ _ h))
 ·exact .inl (.inr ⟨o,e _ _ h⟩)
 ·exact .inr h
theorem j8:ai6 "len"=some (.builtin "len"):=by trivial
theorem cI:ai6 "isinstance"=some (.builtin "isinstance"):=by trivial
theorem Um:ai6 "max"=some (.builtin "max"):=by trivial
theorem Uo:ai6 "any"=some (.builtin "any"):=by trivial
theorem HF:ai6 "all"=some (.builtin "all"):=by trivial
theorem HG:ai6 "int"=some (.type "int"):=by trivial
theorem CI:ai6 "str"=some (.type "str"):=by trivial
theorem Qj:ai6 "bool"=some (.type "bool"):=by trivial
theorem mT:ai6 "list"=some (.type "list"):=by trivial
theorem Bh:ai6 "ValueError"=some (.type "ValueError"):=by trivial
theorem Up:ai6 "ord"=some (.builtin "ord"):=by trivial
mutual
def DV (K:bo)(H:Hp):PyData->V->Prop
 | .none,x=>x=.non
 | .bool b,x=>x=.bl b
 | .int i,x=>x=.int i
 | .str y,x=>x=.str y
 | .list ds,x=>∃a xs,x=.ref a/\SqL K H a xs/\DVs K H ds xs
 | .tuple ds,x=>∃a xs,x=.ref a/\SqT K H a xs/\DVs K H ds xs
 | .dict _,_=>False
def DVs (K:bo)(H:Hp):List PyData->List V->Prop
 |[],xs=>xs=[]
 |d::ds,xs=>∃x r,xs=x::r/\DV K H d x/\DVs K H ds r
end
section
variable{X:Cx}{pins:List (Addr×Obj)}{σ:St}{H:Hp}{s:Shared}
mutual
theorem DV.reads (I:Inv X pins σ H s):∀(d:PyData) {x:V} {u:Value},DV X.K H d x->RelV x u->∃as,Reads s.heap u d as
 | .none,_,_,h,r=>by
  have h':=h;unfold DV at h';subst h';cases r;exact⟨_,.none⟩
 | .bool b,_,_,h,r=>by
  have h':=h;unfold DV at h';subst h';cases r;exact⟨_,.bool b⟩
 | .int i,_,_,h,r=>by
  have h':=h;unfold DV at h';subst h';obtain⟨t,rfl⟩:=r;exact⟨_,.int i t⟩
 | .str y,_,_,h,r=>by
  have h':=h;unfold DV at h';subst h';obtain⟨t,rfl⟩:=r;exact⟨_,.str y t⟩
 | .list ds,_,_,h,r=>by
  have h':=h;unfold DV at h';obtain⟨a,xs,rfl,hq,hs⟩:=h';cases r;obtain⟨its,rv,⟨o,n,e,c,_,dt⟩,_⟩:=I.list hq;obtain⟨as,q⟩:=DVs.reads I ds hs rv;exact⟨_,.list e c dt (by simpa using q)⟩
 | .tuple ds,_,_,h,r=>by
  have h':=h;unfold DV at h';obtain⟨a,xs,rfl,hq,hs⟩:=h';cases r;obtain⟨its,rv,⟨o,e,c,n,dt⟩,_⟩:=I.tuple hq;obtain⟨as,q⟩:=DVs.reads I ds hs rv;exact⟨_,.tuple e c dt (by simpa using q)⟩
 | .dict _,_,_,h,_=>by
  have h':=h;unfold DV at h';exact h'.elim
theorem DVs.reads (I:Inv X pins σ H s):∀(ds:List PyData) {xs:List V} {us:List Value},DVs X.K H ds xs->Vals xs us->∃as,ReadsAll s.heap us ds as
 |[],_,_,h,r=>by
  have h':=h;unfold DVs at h';subst h';cases r;exact⟨_,.nil⟩
 |d::ds,_,_,h,r=>by
  have h':=h;unfold DVs at h';obtain⟨x,q,rfl,h1,h2⟩:=h';cases r with
  |cons r1 r2 =>
   obtain⟨as,e1⟩:=DV.reads I d h1 r1;obtain⟨bs,e2⟩:=DVs.reads I ds h2 r2;exact⟨_,.cons e1 e2⟩
end
def ags (K:bo):R2:=λx y H Q=>∃d e,DV K H d x/\DV K H e y/\SeqAt.shaped d=true/\SeqAt.shaped e=true/\Q (.bl (aj3 d e)) H
def agt (K:bo):R2:=λx y H Q=>∃d e,DV K H d x/\DV K H e y/\SeqAt.shaped d=true/\SeqAt.shaped e=true/\Q (.bl (!aj3 d e)) H
theorem HI (hu:X.A.units+64 < cLine):OpR X (ajw .Eq) (ags X.K):=by
 intro pins s σ H x y v u Q I rx ry h;obtain⟨d,e,hd,he,sd,se,q⟩:=h;obtain⟨as,r1⟩:=DV.reads I d hd rx;obtain⟨bs,r2⟩:=DV.reads I e he ry;exact eq_dataH r1 r2 sd se hu ⟨.bl _,H,I,rfl,q⟩
theorem M4 (hu:X.A.units+64 < cLine):OpR X (ajw .NotEq) (agt X.K):=by
 intro pins s σ H x y v u Q I rx ry h;obtain⟨d,e,hd,he,sd,se,q⟩:=h;obtain⟨as,r1⟩:=DV.reads I d hd rx;obtain⟨bs,r2⟩:=DV.reads I e he ry;exact ne_dataH r1 r2 sd se hu ⟨.bl _,H,I,rfl,q⟩
end
theorem Ef (K:bo)(H:Hp):∀ws:List Str,DVs K H (ws.map aja) (ws.map V.str)
 |[]=>by unfold DVs;rfl
 |w::ws=>by
  show DVs K H (aja w::ws.map aja) _;unfold DVs;exact⟨_,_,rfl,by unfold DV;rfl,Ef K H ws⟩
theorem pH {K:bo}{H:Hp}{a:Addr}{ws:List Str}(h:SqL K H a (ws.map V.str)):DV K H (.list (ws.map aja)) (.ref a):=by
 unfold DV;exact⟨a,_,rfl,h,Ef K H ws⟩
theorem mU:∀ws:List Str,(∀w∈ws,aiZ w=true)->ajt (ws.map aja)=true
 |[],_=>by simp[ajt]
 |w::ws,h=>by
  simp only[ra,ajt,aju,aiN];exact⟨h w kb,mU ws λv hv=>h v (kj _ hv)⟩
theorem pI:∀ws:List Str,aj9 (ws.map aja)<=1
 |[]=>by simp[aj9]
 |w::ws=>by
  have:=pI ws;simp only[ra,aj9,ajZ];omega
theorem xw {ws:List Str}(h:∀w∈ws,aiZ w=true):SeqAt.shaped (.list (ws.map aja))=true:=by
 have h1:=pI ws;have h2:ajZ (.list (ws.map aja))<=64:=by simp only[ajZ];omega
 show (aju (.list (ws.map aja)) && decide (ajZ (.list (ws.map aja))<=64))=true;rw[aiN];exact⟨by simp only[aju];exact mU ws h,decide_eq_true h2⟩
theorem zG:∀ {ys:List Str} {us:List Value},Vals (ys.map V.str) us->StrsAre us ys
 |[],_,.nil=>.nil
 |y::ys,_,.cons r t=>by
  obtain⟨tk,rfl⟩:=r;exact .cons y tk (zG t)
theorem qF:∀l:List (Str×Tok),Vals ((l.map (·.1)).map V.str) (strValues l)
 |[]=>.nil
 |p::l=>.cons ⟨p.2,rfl⟩ (qF l)
section
variable{X:Cx}
def rJoin (K:bo):V->List V->Hp->VK->Prop:=λx vs H Q=>∃sep a ys,x=.str sep/\vs=[.ref a]/\SqL K H a (ys.map V.str)/\(ys.map (·.length)).sum+ys.length * sep.length<=16777216/\Q (.str (km sep ys)) H
theorem Qk:MtR X "str.join" (rJoin X.K):=by
 intro pins s σ H x vs v us Q I rx rv h;obtain⟨sep,a,ys,rfl,rfl,hq,hz,q⟩:=h;obtain⟨t,rfl⟩:=rx;obtain⟨u,rfl,ru⟩:=rv.one;cases ru;obtain⟨its,r,pl,_⟩:=I.list hq;refine join_list pl.isList (zG (by simpa using r)) hz λt' k=>?_
 rw[show Txt.join sep ys=km sep ys from StrLaws.glued_eq_join sep ys]
 exact⟨.str _,H,I.tok _,⟨_,rfl⟩,q⟩
def Uq:V->List V->Hp->VK->Prop:=λx vs H Q=>∃z y,x=.str z/\vs=[.str y]/\(y.length == 0)=false/\z.length+2<=gc/\∀p,H p=none->Q (.ref p) (upd H p (.lst ((Txt.split z y).map V.str)))
theorem Eg:MtR X "str.split" Uq:=by
 intro pins s σ H x vs v us Q I rx rv h;obtain⟨x,y,rfl,rfl,hy,hsz,q⟩:=h;obtain⟨t,rfl⟩:=rx;obtain⟨_,rfl,u,rfl⟩:=rv.one;have hn:(Builtin.Str.partsBetween x (ajg x y 0 x.length (x.length+1)) y.length).length<=gc:=by
  have e1:=StrLaws.occ_length_le x y 0 x.length (x.length+1);rw[length_partsBetween];omega
 have fin:∀(l:List (Str×Tok)) (tk:Nat),l.map (·.1)=Txt.split x y->(Txt.split x y).length<=gc ->
   EP X pins σ Q (.ref s.heap.objs.size) { s with heap:=s.heap.push { cls:=.type "list",data:=.seq (strValues l).toArray },toks:=tk }:=λl tk e hz=>by
  refine⟨.ref _,_,I.Y7 (t':=tk) (ys:=(Txt.split x y).map V.str) (by rw[<-e];exact qF l) (by rw[da];exact hz),rfl,q _ I.fresh⟩
 have Za:1<=gc:=by omega
 cases h1:(decide (x.length < y.length) || decide (Builtin.Str.strKind x < Builtin.Str.strKind y))
 ·cases hf:(ajg x y 0 x.length (x.length+1)).isEmpty
  ·refine call_meets F.slot_str_split (typeIs_str _ _ _) F.entry_str_split (F.args_str_split_2 _ _) (meets_str_split_sep x y t u h1 hy hf (by omega) hn) ?_
   have e:Txt.split x y=Builtin.Str.partsBetween x (ajg x y 0 x.length (x.length+1)) y.length:=(if_neg (ne_true_of_eq_false h1)).trans (if_neg (ne_true_of_eq_false hf));show wants (EP X pins σ Q) X.xe _ { s with toks:=_,heap:=s.heap.push { cls:=.type "list",data:=.seq (strsFrom s.toks (Builtin.Str.partsBetween x (ajg x y 0 x.length (x.length+1)) y.length)).toArray } }
   rw[strsFrom_eq];exact fin (numbered s.toks _) _ ((numbered_texts _ _).trans e.symm) (by rw[e];exact hn)
  ·have e:Txt.split x y=[x]:=(if_neg (ne_true_of_eq_false h1)).trans (if_pos hf);exact call_meets F.slot_str_split (typeIs_str _ _ _) F.entry_str_split (F.args_str_split_2 _ _) (meets_str_split_not_found x y t u h1 hy hf)
    (fin [(x,t)] s.toks e.symm (by rw[e];exact Za))
 ·have e:Txt.split x y=[x]:=if_pos h1;exact call_meets F.slot_str_split (typeIs_str _ _ _) F.entry_str_split (F.args_str_split_2 _ _) (meets_str_split_cannot_occur x y t u h1)
   (fin [(x,t)] s.toks e.symm (by rw[e];exact Za))
def HJ:V->Value
 | .ty n=>.type n
 | .ref a=>.ref a
 |_=>.none
def isC:V->Bool
 | .ty _=>true
 | .ref _=>true
 |_=>false
theorem Eh:iu X (.builtin "isinstance") (λxs H Q=>∃x c t b,xs=[x,c]/\isC c=true/\vS X.K H x t/\ba X.K t (HJ c)=some b/\Q (.bl b) H):=by
 intro pins s σ H xs us Q I r h;obtain⟨x,c,t,b,rfl,hc,ty,e,q⟩:=h;obtain⟨u,w',rfl,rx,rc⟩:=vals2 r;have fin:∀tk,EP X pins σ Q (.bool b) { s with toks:=tk }:=λtk=>⟨.bl b,H,I.tok _,rfl,q⟩
 cases c with
 |ty n=>cases rc;exact BJ I rx ty e fin
 |ref a=>cases rc;exact BJ I rx ty e fin
 |_=>exact absurd (show false=true from hc) kg
theorem CJ:OpR X (binaryOp .Add) (λx y H Q=>∃l b xs zs,x=.ref l/\y=.ref b/\H l=some (.lst xs)/\H b=some (.lst zs)/\xs.length+zs.length<=gc/\∀p,H p=none->Q (.ref p) (upd H p (.lst (xs++zs)))):=Uj
end
theorem dU (a b:Str):(a++b).cps.toList=a.cps.toList++b.cps.toList:=by
 show (a.cps++b.cps).toList=_;simp
theorem Ei (c:Nat):∀(a b p q:List Nat),c∉a->c∉b->a++c::p=b++c::q->a=b/\p=q
 |[],[],p,q,_,_,e=>by simpa using e
 |[],y::b,p,q,_,hb,e=>by
  have e':c::p=y::(b++c::q):=e;injection e' with e1 _
  exact absurd (by rw[e1];exact kb) hb
 |x::a,[],p,q,ha,_,e=>by
  have e':x::(a++c::p)=c::q:=e;injection e' with e1 _
  exact absurd (by rw[<-e1];exact kb) ha
 |x::a,y::b,p,q,ha,hb,e=>by
  have e':x::(a++c::p)=y::(b++c::q):=e;injection e' with e1 e2
  obtain⟨h1,h2⟩:=Ei c a b p q (λh=>ha (kj _ h)) (λh=>hb (kj _ h)) e2
  exact⟨by rw[e1,h1],h2⟩
theorem sD {a b:Str}(h:a.cps.toList=b.cps.toList):a=b:=by
 cases a;cases b;have:=Array.toList_inj.mp h;subst this;rfl
theorem gk (c:Nat)(x y:Str)(r:List Str):(km ⟨#[c]⟩ (x::y::r)).cps.toList=x.cps.toList++c::(km ⟨#[c]⟩ (y::r)).cps.toList:=by
 show ((x++⟨#[c]⟩)++km ⟨#[c]⟩ (y::r)).cps.toList=_;rw[dU,dU];simp
theorem Ej (c:Nat):∀(vs ws:List Str),vs≠[]->ws≠[]->(∀v∈vs,c∉v.cps.toList)->(∀w∈ws,c∉w.cps.toList)->km ⟨#[c]⟩ vs=km ⟨#[c]⟩ ws->vs=ws
 |[],_,h,_,_,_,_=>absurd rfl h
 |_,[],_,h,_,_,_=>absurd rfl h
 |[x],[y],_,_,_,_,e=>by rw[show x=y from e]
 |[x],y::z::r,_,_,hv,_,e=>by
  have e1:=congrArg (λt:Str=>t.cps.toList) e
  have e2:x.cps.toList=y.cps.toList++c::(km ⟨#[c]⟩ (z::r)).cps.toList:=e1.trans (gk c y z r);exact absurd (by rw[e2];exact ka _ kb) (hv x kb)
 |x::z::r,[y],_,_,_,hw,e=>by
  have e1:=congrArg (λt:Str=>t.cps.toList) e
  have e2:x.cps.toList++c::(km ⟨#[c]⟩ (z::r)).cps.toList=y.cps.toList:=(gk c x z r).symm.trans e1;exact absurd (by rw[<-e2];exact ka _ kb) (hw y kb)
 |x::x2::r,y::y2::q,_,_,hv,hw,e=>by
  have e1:=congrArg (λt:Str=>t.cps.toList) e
  have e2:=(gk c x x2 r).symm.trans (e1.trans (gk c y y2 q));obtain⟨h1,h2⟩:=Ei c _ _ _ _ (hv x kb) (hw y kb) e2;have h3:=Ej c (x2::r) (y2::q) (aiO _ _) (aiO _ _) (λv h=>hv v (kj _ h)) (λw h=>hw w (kj _ h)) (sD h2)
  rw[sD h1,h3]
theorem zH (x y:Str):Txt.split x y≠[]:=by
 unfold Txt.split;split
 ·exact aiO _ _
 ·split
  ·exact aiO _ _
  ·rw[StrLaws.partsBetween_eq];intro h;have:=congrArg List.length h;revert this;cases (ajg x y 0 x.length (x.length+1)) <;> simp[StrLaws.partsFrom]
theorem zI {c:Nat}{ws:List Str}(h0:ws≠[])(h:∀w∈ws,c∉w.cps.toList):Txt.split (km ⟨#[c]⟩ ws) ⟨#[c]⟩=ws :=
 Ej c _ _ (zH _ _) h0 (StrLaws.split_free _ c) h (StrLaws.join_split _ _)
theorem oi (c:Nat):∀ws:List Str,(km ⟨#[c]⟩ ws).length<=(ws.map (·.length)).sum+ws.length
 |[]=>aiW _
 |[x]=>by show x.length<=_;simp
 |x::y::r=>by
  have ih:=oi c (y::r);have e:(km ⟨#[c]⟩ (x::y::r)).length=x.length+1+(km ⟨#[c]⟩ (y::r)).length:=by
   have:=congrArg List.length (gk c x y r);rw[ki,ku]at this;have l1:∀z:Str,z.cps.toList.length=z.length:=λz=>by simp[Str.length]
   rw[l1,l1,l1]at this;omega
  simp only[ra,List.sum_cons,ku]at ih ⊢;omega
theorem Bi {c:Nat}:∀ {ws:List Str},ws≠[]->(∀w∈ws,1<=w.length)->1<=(km ⟨#[c]⟩ ws).length
 |[],h,_=>absurd rfl h
 |[x],_,h=>h x kb
 |x::y::r,_,h=>by
  have h1:=h x kb;have:=congrArg List.length (gk c x y r);rw[ki]at this;have l1:∀z:Str,z.cps.toList.length=z.length:=λz=>by simp[Str.length]
  rw[l1,l1]at this;omega
theorem Ur {b:Bool}{A B:Prop}(hb:b=true)(h:B):if (!b)=true then A else B:=by
 subst hb;exact eu h
theorem Ek {b:Bool}{A B:Prop}(hb:b=true)(h:A):if b=true then A else B:=by
 subst hb;exact gS h
theorem Kk {b:Bool}{A B:Prop}(hb:b=false)(h:B):if b=true then A else B:=by
 subst hb;exact eu h
theorem aI {H:Hp}{p:Addr}{o:HO}(h:H p=none):aZ H (upd H p o):=λb u e=>by
 rw[av (aC e h)];exact e
theorem aZ.own {H H':Hp}{p:Addr}{o:HO}(s:aZ H H')(h:H p=none):aZ H (upd H' p o):=λb u e=>by
 rw[av (aC e h)];exact s b u e
theorem aZ.new {H H':Hp}{p:Addr}{o:HO}(s:aZ H H')(h:H' p=none):aZ H (upd H' p o):=s.trans (aI h)
theorem aZ.nn {H H':Hp}(s:aZ H H'){p:Addr}{o:HO}(h:H p=none)(e:H' p=some o){b:Addr}{u:HO}(eb:H b=some u):b≠p:=aC eb h
theorem uU (xs:List V)(k:Nat):nv xs (some (k:Int)) none=xs.drop k:=by
 unfold nv;rw[HT.uR,HT.Eb]
 by_cases h:k<=xs.length
 ·rw[Nat.min_eq_left h];exact List.take_of_length_le (by rw[ajj];exact ko _)
 ·have h':xs.length<=k:=by omega
  rw[Nat.min_eq_right h',List.drop_of_length_le h',List.drop_of_length_le (ko _)];simp
theorem R6 {α:Type}{xs:List α}{i:Int}{n:Nat}(hn:xs.length=n)(h0:0<=i)(h1:i < n):∃c,atI xs i=some c/\c∈xs:=by
 have hi:i.toNat < xs.length:=by omega
 have e:((i.toNat:Nat):Int)=i:=by omega
 refine⟨xs[i.toNat],?_,List.getElem_mem hi⟩;have q:=sA (aiG hi);rw[e]at q;exact q
def cX (scope outer:Scope):Scope :=
 { scope with names:=scope.names.map λ(n,k)=>if (k == .free && outer.kind == .function && outer.names.lookup n == some .cell) then (n,.cell) else (n,k) }
structure d7 (scope outer:Scope)(x:Str)(N M:List Str):Prop where
 kind:scope.kind=.function
 M5:outer.kind=.function
 zJ:∀y∈scope.names,y.2≠.cell
 names:∀y∈scope.names,y.2=.local->scope.names.lookup y.1=some .local
 hx:scope.names.lookup x=some .local
 free:∀y∈scope.names,y.2=.free->outer.names.lookup y.1=some .cell
 nl:∀n∈M,(cX scope outer).names.lookup n≠some .local
 ndM:M.Nodup
 nd:N.Nodup
 len:M.length=N.length
 rel:∀i:Nat,i < N.length->M[i]?=N[i]?\/M[i]?=some aiT
 em:(cX scope outer).names.lookup aiT=none
theorem d7.mem {scope outer:Scope}{x:Str}{N M:List Str}(S:d7 scope outer x N M){n:Str}{k:NameKind}(h:(cX scope outer).names.lookup n=some k)(hk:k=.cell\/k=.free) :
  k=.cell/\(n,ajq)∈scope.names/\outer.names.lookup n=some .cell:=by
 obtain⟨⟨n',k'⟩,hm,e⟩:=List.mem_map.mp (ajx h);dsimp only at e
 by_cases hc:(k' == ajq && outer.kind == .function && outer.names.lookup n' == some .cell)=true
 ·rw[if_pos hc]at e;injection e with e1 e2
  subst e1 e2;rw[aiN,aiN]at hc;have hk':k'=.free:=beq_iff_eq.mp hc.1.1;subst hk';exact⟨rfl,hm,beq_iff_eq.mp hc.2⟩
 ·rw[if_neg hc]at e;injection e with e1 e2
  subst e1 e2;rcases hk with z | z
  ·exact absurd z (S.zJ _ hm)
  ·subst z
   exfalso
   refine hc ?_;rw[S.free _ hm rfl,S.M5];rfl
theorem CK {env:Env}{f:Str×NameKind->List (Str×Addr)->Sem (ForInStep (List (Str×Addr)))}
  (h1:∀n k r,k≠ajq->f (n,k) r=pure (.yield r)) (h2:∀n r c,env.cells.lookup n=some c->f (n,.free) r=pure (.yield ((n,c)::r))) :
  ∀(ns:List (Str×NameKind)) (acc:List (Str×Addr)),(∀y∈ns,y.2=.free->∃c,env.cells.lookup y.1=some c)->(∀n c,acc.lookup n=some c->env.cells.lookup n=some c) ->
   ∃cl,(forIn ns acc f:Sem (List (Str×Addr)))=pure cl/\(∀n c,cl.lookup n=some c->env.cells.lookup n=some c)/\(∀n c,acc.lookup n=some c->(cl.lookup n).isSome=true)/\∀y∈ns,y.2=.free->(cl.lookup y.1).isSome=true
 |[],acc,_,ha=>⟨acc,by simp,ha,λn c e=>by rw[e];rfl,λy hy=>nomatch hy⟩
 | (n,k)::ns,acc,hn,ha=>by
  by_cases hk:k=ajq
  ·subst hk;obtain⟨c,hc⟩:=hn (n,.free) kb rfl;have ha':∀m d,((n,c)::acc).lookup m=some d->env.cells.lookup m=some d:=λm d e=>by
    rw[aj7]at e;split at e
    ·rename_i hb;have:m=n:=beq_iff_eq.mp hb;subst this;rw[<-aix e];exact hc
    ·exact ha m d e
   obtain⟨cl,e,p1,p2,p3⟩:=CK h1 h2 ns ((n,c)::acc) (λy hy=>hn y (kj _ hy)) ha'
   have hnn:(cl.lookup n).isSome=true:=p2 n c (by simp[aj7])
   refine⟨cl,?_,p1,λm d em=>?_,λy hy hf=>?_⟩
   ·rw[List.forIn_cons,h2 n acc c hc,pure_bind];exact e
   ·by_cases hm:m=n
    ·subst hm;exact hnn
    ·exact p2 m d (by rw[aj7,show (m == n)=false from beq_eq_false_iff_ne.mpr hm];exact em)
   ·rcases List.mem_cons.mp hy with rfl | hy
    ·exact hnn
    ·exact p3 y hy hf
  ·obtain⟨cl,e,p1,p2,p3⟩:=CK h1 h2 ns acc (λy hy=>hn y (kj _ hy)) ha
   refine⟨cl,?_,p1,p2,λy hy hf=>?_⟩
   ·rw[List.forIn_cons,h1 n k acc hk,pure_bind];exact e
   ·rcases List.mem_cons.mp hy with rfl | hy
    ·exact absurd hf hk
    ·exact p3 y hy hf
theorem BS {scope:Scope}{env:Env}(h:∀y∈scope.names,y.2=.free->∃c,env.cells.lookup y.1=some c) :
  ∃cl,closureFor scope env=pure cl/\(∀n c,cl.lookup n=some c->env.cells.lookup n=some c)/\∀y∈scope.names,y.2=.free->(cl.lookup y.1).isSome=true:=by
 unfold closureFor;obtain⟨cl,e,p1,_,p3⟩:=CK (env:=env) (f:=λx r=>match x with | (name,kind)=>if (kind == ajq)=true then do let a <-cellOf env name;pure (.yield ((name,a)::r)) else pure (.yield r))
  (λn k r hk=>by
   have:(k == ajq)=false:=beq_eq_false_iff_ne.mpr hk;simp only[this,Bool.false_eq_true,if_false])
  (λn r c hc=>by
   simp only[beq_self_eq_true,if_true];unfold cellOf;rw[hc];rw[pure_bind])
  scope.names [] h (λn c e=>by simp at e)
 refine⟨cl,?_,p1,p3⟩;have e':=congrArg (λz:Sem (List (Str×Addr))=>z >>= λcs=>pure cs) e
 simp only[pure_bind]at e';exact e'
def je (X:Cx)(x:Str)(M:List Str)(scope:Scope)(cl:List (Str×Addr))(C:Addr)(s:Shared)(H:Hp)(fp:List Addr):Cx :=
 { X with N:=x::M,s₀:=s,H₀:=H,env:=compEnvC scope cl C X.env,outer:=X.stack,ex:=fp,fn:=λ_=>false,pn:=[],xe:=λ_ _=>False }
def oj (J:It)(te:TE)(σ:St)(D:Addr)(H1:Hp)(Q:VK):Prop:=∃W:Nat->Nat->List V->Hp->Prop,(∃m,W 0 m [] (upd H1 D (.lst [])))/\∀i m ys H2,W i m ys H2 ->
 H2 D=some (.lst ys)/\((J.stop i H2/\Q (.ref D) H2)\/(J.go i H2/\ys.length < gc/\∀x H3,J.yld i H2 x H3->te (some x::σ) H3 λy H4=>H4 D=some (.lst ys)/\∃m',m' < m/\W (i+1) m' (ys++[y]) (upd H4 D (.lst (ys++[y])))))
def R7 (wi:TI)(te:TE):TE:=λσ H Q=>wi σ H λJ H1=>∀D,H1 D=none->oj J te σ D H1 Q
section
variable{X:Cx}{pins:List (Addr×Obj)}{σ:St}{H:Hp}{s:Shared}{elt iter:Expr}{x:Str}{px pos:Pos}{scope:Scope}{wi:TI}{te:TE}{Q:VK}{M:List Str}
theorem Ql {cl:List (Str×Addr)}{C:Addr}{fp:List Addr}(S:d7 scope X.env.scope x X.N M)(I:Inv X pins σ H s)(hC:s.heap.objs.size<=C)(p1:∀n c,cl.lookup n=some c->X.env.cells.lookup n=some c)
  (p3:∀y∈scope.names,y.2=.free->(cl.lookup y.1).isSome=true) (f2:∀b∈fp,fj X pins H b) (fo:∀b∈fp,b < s.heap.objs.size):(je X x M scope cl C s H fp).Ok where
 mod:=I.ok.mod
 kind:=S.kind
 glob:=I.ok.glob
 blt:=I.ok.blt
 above:=hC
 inj:=λy z c h1 h2=>I.ok.inj y z c (p1 y c h1) (p1 z c h2)
 has:=λy hy=>by
  have hy':(cX scope X.env.scope).names.lookup y=some .cell\/(cX scope X.env.scope).names.lookup y=some .free:=hy;have hm:(y,ajq)∈scope.names:=by
   rcases hy' with z | z
   ·exact(S.mem z (.inl rfl)).2.1
   ·exact(S.mem z (.inr rfl)).2.1
  exact Option.isSome_iff_exists.mp (p3 _ hm rfl)
 cab:=λy c h=>absurd h kg
 hd:=I.ok.hd
 frames:=I.ok.frames
 stk:=.inl rfl
 exf:=λb hb=>⟨wt (tm (fo b hb) hC),λy c e=>(f2 b hb).2.2.2.2.1 y c (p1 y c e)⟩
 bs:=I.bs
 bsz:=rf I.ok.bsz I.sz
 xZ:=λb o e hb=>by
  rcases (f2 b hb).2.2.2.1 with z | z
  ·exact I.ok.xZ b o e z
  ·exact absurd (tm (ma (I.ok.bs b o e).1) z) (akd _)
 ya:=λb hb z=>by
  rcases List.mem_cons.mp (I.zv b z) with e | e
  ·exact(f2 b hb).2.1 e
  ·exact(f2 b hb).2.2.1 e
 og:=I.stack
 frf:=I.zg
theorem M6 {cl:List (Str×Addr)}{C D:Addr}{fp:List Addr}{h₁:Heap}{tk:Nat}{m:Str->Option Value}(S:d7 scope X.env.scope x X.N M)(I:Inv X pins σ H s)(hC:s.heap.objs.size<=C)(hD:s.heap.objs.size<=D)(hDC:D≠C)
  (p1:∀n c,cl.lookup n=some c->X.env.cells.lookup n=some c)
  (p3:∀y∈scope.names,y.2=.free->(cl.lookup y.1).isSome=true) (f2:∀b∈fp,fj X pins H b) (fo:∀b∈fp,b < s.heap.objs.size)
  (old:∀b o,s.heap.get? b=some o->h₁.get? b=some o) (hn:h₁.Ns C m) (hl:h₁.get? D=some { cls:=.type "list",data:=.seq ([]:List Value).toArray }) :
  Inv (je X x M scope cl C s H fp) [] (none::σ) (upd H D (.lst [])) { s with heap:=h₁,toks:=tk }:=by
 have cellK:∀c v,s.heap.IsCell c v->h₁.IsCell c v:=λc v ⟨o,e,d⟩=>⟨o,old c o e,d⟩
 refine⟨Ql S I hC p1 p3 f2 fo,rfl,I.bare,Un.laid old hD (I.hok.fresh hD),⟨m,hn,λi n v h1 h2 h3=>?_⟩,λy c e=>?_,?_,λy c e=>?_,λp hp=>absurd (show p∈([]:List (Addr×Obj)) from hp) (by simp),I.hok.laid old hD ⟨aiW _,[],0,.nil,hl⟩,?_⟩
 ·cases i with
  |zero =>
   have h2':(none:Option V)=some v:=by simpa using h2
   cases h2'
  |succ i =>
   have h0':M[i]?=some n:=by simpa [je] using h1
   have h2':σ[i]?=some (some v):=by simpa using h2
   have h3':(cX scope X.env.scope).names.lookup n=some .local\/(cX scope X.env.scope).names.lookup n=some .cell\/(cX scope X.env.scope).names.lookup n=some .free:=h3;have kO:(cX scope X.env.scope).names.lookup n=some .cell/\(n,ajq)∈scope.names/\X.env.scope.names.lookup n=some .cell:=by
    rcases h3' with z | z | z
    ·exact absurd z (S.nl n (aiK h0'))
    ·exact⟨z,(S.mem z (.inl rfl)).2⟩
    ·exact absurd (S.mem z (.inr rfl)).1 (by decide)
   have h1':X.N[i]?=some n:=by
    have hi:i < X.N.length:=by rw[<-S.len];exact(List.getElem?_eq_some_iff.mp h0').1
    rcases S.rel i hi with z | z
    ·rw[<-z];exact h0'
    ·rw[h0']at z;have e:n=aiT:=aix z;rw[e,S.em]at kO;cases kO.1
   obtain⟨m0,hn0,hl0⟩:=I.loc;obtain⟨u,r,l⟩:=hl0 i n v h1' h2' (.inr (.inl kO.2.2));refine⟨u,r,.inr ⟨.inl kO.1,?_⟩⟩;obtain⟨c,hc⟩:=Option.isSome_iff_exists.mp (p3 _ kO.2.1 rfl);refine⟨c,hc,?_⟩;rcases l with ⟨k,_⟩ | ⟨_,c',hc',z⟩
   ·have k':X.env.scope.names.lookup n=some .local:=k;rw[kO.2.2]at k';cases k'
   ·rw[p1 n c hc]at hc';cases hc';exact cellK c _ z
 ·obtain⟨v,z⟩:=I.cell y c (p1 y c e);exact⟨v,cellK c v z⟩
 ·show (upd H D (.lst [])) C=none;rw[av (aiD hDC)];exact I.hok.fresh hC
 ·obtain⟨v,z⟩:=I.cell y c (p1 y c e);rw[av (wt (tm z.lt hD))];exact I.jN y c (p1 y c e)
 ·show (none::σ).length=(x::M).length;rw[ku,ku,I.len,S.len]
theorem Lj {cl:List (Str×Addr)}{RR:Value->Addr->Result->Shared->Prop}(S:d7 scope X.env.scope x X.N M)(hc:X.calm=true)(hi:PI X (.Name x px) iter wi)
  (he:∀cl C s H fp,PE (je X x M scope cl C s H fp) elt te) (I:Inv X pins σ H s) (h:R7 wi te σ H Q)
  (p1:∀n c,cl.lookup n=some c->X.env.cells.lookup n=some c) (p3:∀y∈scope.names,y.2=.free->(cl.lookup y.1).isSome=true)
  (hRR:∀D C H' s' o m,Inv X (pins++[(C,o)]) σ H' s'->s'.heap.get? C=some o->s'.heap.Ns C m->X.s₀.heap.objs.size<=C->(∀y c,X.env.cells.lookup y=some c->c≠C)->(∀p∈X.pn++pins,p.1≠C)->Q (.ref D) H'->RR (.ref D) C (.ok .next) s') :
  wpAny (model X.prog X.w) X.A (eval iter X.env) (λxv s₁=>wpAny (model X.prog X.w) X.A (pyIter xv) (λit s₂=>wpAny (model X.prog X.w) X.A (newList []) (λacc s₃ =>
   wpAny (model X.prog X.w) X.A (newFunctionEnv scope X.env.globals cl [] X.env.qual none .none (some X.env)) (λCL s₄ =>
    codeAny (model X.prog X.w) X.A (.compStart (.ListComp elt [⟨.Name x px,iter,[],0⟩] scope pos) 0 it acc { CL with scope:=relabel scope X.env }) (RR acc CL.locals) s₄) X.xe s₃) X.xe s₂) X.xe s₁) X.xe s:=by
 refine thn (hi pins s σ H _ I h) λv s1 h1=>thn h1 λitv s2 h2=>?_
 obtain⟨it,fp,tn,J,H2,rfl,I2,T,st2,f2,q⟩:=h2;refine wpAny_newObj_type (wpAny_newFunctionEnv S.zJ (by intro y hy;simp at hy) (λh₁ hns₁ hsb₁=>?_) S.kind)
 dsimp only at hns₁ hsb₁ ⊢;generalize hHH:s2.heap.push { cls:=.type "list",dict:=none,data:=.seq ([]:List Value).toArray }=HH at hns₁ hsb₁ ⊢;have hCs:HH.objs.size=s2.heap.objs.size+1:=by rw[<-hHH,ajF]
 have hDC:s2.heap.objs.size≠HH.objs.size:=by rw[hCs];exact wt (Nat.lt_succ_self _)
 have M7:s2.heap.objs.size<=HH.objs.size:=by rw[hCs];exact ajn _
 have below:∀b,b < s2.heap.objs.size->b≠HH.objs.size:=λb hb=>by rw[hCs];exact wt (Nat.lt_succ_of_lt hb)
 have old:∀b o,s2.heap.get? b=some o->h₁.get? b=some o:=λb o e=>hsb₁.extBut b o (below b (ma e)) (gp _ (hHH▸gp _ e))
 have Us:h₁.get? s2.heap.objs.size=some { cls:=.type "list",data:=.seq ([]:List Value).toArray }:=hsb₁.extBut _ _ hDC (gp _ (hHH▸Lk _ rfl));have fo:∀b∈fp,b < s2.heap.objs.size:=λb hb=>by
  obtain⟨o,e,_⟩:=T.obj _ _ st2 b hb;exact ma e
 have IY:=M6 (tk:=s2.toks+([]:List (Str×Value)).length) S I2 M7 (ko _) hDC p1 p3 f2 fo old hns₁ Us;have st1:tn 0 h₁:=T.keep _ _ _ st2 λb _ o e=>old b o e
 obtain⟨W,⟨m0,w0⟩,turn⟩:=q _ (I2.hok.fresh (ko _));generalize hC:HH.objs.size=C at *;generalize hDD:s2.heap.objs.size=D at *;have ndY:(je X x M scope cl C s2 H2 fp).N.Nodup:=by
  refine List.nodup_cons.mpr ⟨λhm=>S.nl x hm (lookup_relabel_local S.hx),S.ndM⟩
 have stat:∀ {H':Hp},(∀b∈fp,H' b=none)->∀b∈fp,fj (je X x M scope cl C s2 H2 fp) [] H' b:=λhn b hb =>
  ⟨hn b hb,below b (fo b hb),IY.ok.ya b hb,.inl hb,λy c e=>(f2 b hb).2.2.2.2.1 y c (p1 y c e),λp hp=>absurd (show p∈([]:List (Addr×Obj)) from hp) (by simp)⟩
 have loop:codeAny (model X.prog X.w) X.A (.compLoop (.ListComp elt [⟨.Name x px,iter,[],0⟩] scope pos) 0 (.ref it) (.ref D) (compEnvC scope cl C X.env)) (RR (.ref D) C) { s2 with heap:=h₁,toks:=s2.toks+([]:List (Str×Value)).length }:=by
  refine codeAny_compLoop_tests (λn s'=>∃i v0 ys H',Inv (je X x M scope cl C s2 H2 fp) [] (v0::σ) H' s'/\tn i s'.heap/\(∀b∈fp,H' b=none)/\W i n ys H') ?_ m0 ⟨0,none,[],_,IY,st1,λb hb=>?_,w0⟩
  ·rintro n s3 ⟨i,v0,ys,H3,I3,st3,fr3,w3⟩;obtain⟨hDl,hw⟩:=turn i n ys H3 w3;rcases hw with ⟨stop,qn⟩ | ⟨go,hsz,step⟩
   ·refine thn (T.done (je X x M scope cl C s2 H2 fp) rfl rfl rfl hc i [] s3 _ H3 _ I3 (stat fr3) st3 stop) λr s4 ⟨hr,I4⟩=>?_
    subst hr;obtain⟨m4,hn4,_⟩:=I4.loc;obtain⟨oC,es4,ep4,e4,r4⟩:=id hn4;have Ll:s2.heap.objs.size<=C:=by rw[hDD];exact M7
    have IX:Inv X pins σ H3 s4:=I2.Kb (ch:=fp) I4.os I4.base I4.hok I4.bare λb hb=>⟨(f2 b hb).2.2.2.1,(f2 b hb).2.1,(f2 b hb).2.2.2.2.1,(f2 b hb).2.2.2.2.2⟩
    have fC:=I2.vQ (H':=H3) Ll I4.free;have IX2:Inv X (pins++[(C,oC)]) σ H3 s4:=IX.uN λp hp=>(List.mem_append.mp hp).elim (λz=>IX.pin p (ka _ z)) λz=>by
     have e:p=(C,oC):=by simpa using z
     subst e;exact⟨e4,fC.1,fC.2.1,fC.2.2.1,λv z=>by rw[r4.1]at z;cases z⟩
    exact hRR D C H3 s4 oC m4 IX2 e4 hn4 (rf I2.sz Ll) fC.2.2.2.2.1 fC.2.2.2.2.2 qn
   ·refine thn (T.item (je X x M scope cl C s2 H2 fp) rfl rfl rfl hc i [] s3 _ H3 _ I3 (stat fr3) st3 go) λr s4 ⟨u,hr,h4⟩=>?_
    subst hr;have e0:∀k:Sem Unit,(letOwnedTupleGo (.Name x px) (.ref it) u >>= λ_=>k)=k:=λk=>by
     rw[show letOwnedTupleGo (.Name x px) (.ref it) u=pure () from rfl,pure_bind]
    show wpAny _ _ (assign (.Name x px) (compEnvC scope cl C X.env) u) _ _ s4;rw[<-e0 (assign (.Name x px) (compEnvC scope cl C X.env) u)];refine de (thn h4 λ_ s5 ⟨xv,H5,I5,r5,y5,st5,fr5⟩=>?_)
    have I5':=I5.pinned (stat fr5) (T.obj _ _ st5);have hxl:(je X x M scope cl C s2 H2 fp).env.scope.names.lookup x=some .local:=lookup_relabel_local S.hx;refine wpAny_assign_Name (qC (X:=je X x M scope cl C s2 H2 fp) (i:=0) I5' ndY rfl (aiF hxl) r5 (λs6 I6=>?_) (.inr hxl))
    refine wpAny_tests_nil ?_;rw[if_pos rfl];refine kr (he cl C s2 H2 fp _ s6 _ H5 _ I6 (step xv H5 y5)) (λy s7 ⟨yv,H7,I7,r7,hD7,m',hm',w7⟩=>?_) (λ_ _ f=>f.elim)
    refine kr (d6 (X:=je X x M scope cl C s2 H2 fp) _ s7 _ H7 (.ref D) [yv] (.ref D) [y] (λ_ H8=>H8=upd H7 D (.lst (ys++[yv]))) I7 rfl (.cons r7 .nil) ⟨D,ys,yv,rfl,rfl,hD7,hsz,rfl⟩)
     (λ_ s8 ⟨_,H8,I8,_,e8⟩=>?_) (λ_ _ f=>f.elim)
    subst e8;refine⟨m',hm',i+1,some xv,ys++[yv],_,I8.eR,T.keep _ _ _ st5 λb hb o e=>(I8.pin (b,o) (ka _ (ka _ (gh hb e)))).1,λb hb=>?_,w7⟩
    obtain⟨o,e,d⟩:=T.obj _ _ st5 b hb;exact(I8.pin (b,o) (ka _ (ka _ (gh hb e)))).2.1
  ·show (upd H2 D (.lst [])) b=none;rw[av (wt (fo b hb))];exact(f2 b hb).1
 exact codeAny_compStart_list loop (T.self _ 0 _ _ _ st1 loop)
theorem sE (S:d7 scope X.env.scope x X.N M)(hc:X.calm=true)(hi:PI X (.Name x px) iter wi)(he:∀cl C s H fp,PE (je X x M scope cl C s H fp) elt te)
  (hs:∀x,foldedSetIterable iter X.env x=pure x:=by intro _;rfl):PE X (.ListComp elt [⟨.Name x px,iter,[],0⟩] scope pos) (R7 wi te):=by
 intro pins s σ H Q I h;obtain⟨cl,M8,p1,p3⟩:=BS (scope:=scope) (env:=X.env) (λy hy hf=>I.ok.has y.1 (.inl (S.free y hy hf)))
 rw[eval_ListComp];refine wpAny_comprehension_free (use:=none) rfl hs M8 S.kind S.names (Lj (RR:=λacc C=>compPost (model X.prog X.w) X.A X.xe none (EP X pins σ Q) acc C) S hc hi he I h p1 p3 ?_)
 intro D C H' s' o m I' e hn h0 h1 h2 q;refine⟨m,hn,λh' hs'=>?_⟩
 have pC:=I'.pin (C,o) (ka _ (ka _ (by simp)))
 have IX:Inv X pins σ H' s':=I'.eR;exact⟨.ref D,H',IX.turned (t':=s'.toks) (λb ob hb e=>(hs'.2 b hb).trans e) pC.2.1 pC.2.2.1 (.inr h0) h1 h2,rfl,q⟩
def fB (D:Addr)(n:Nat)(Pv:Nat->List V->Hp->Prop)(i:Nat)(ys:List V):VK:=λy H4=>H4 D=some (.lst ys)/\∃m',m' < n - i/\m'=n - (i+1)/\i+1<=n/\Pv (i+1) (ys++[y]) (upd H4 D (.lst (ys++[y])))
theorem fB.mk {D:Addr}{n:Nat}{Pv:Nat->List V->Hp->Prop}{i:Nat}{ys:List V}{y:V}{H4:Hp}(hi:i < n)(h1:H4 D=some (.lst ys))(h2:Pv (i+1) (ys++[y]) (upd H4 D (.lst (ys++[y])))):fB D n Pv i ys y H4 :=
 ⟨h1,n - (i+1),by omega,rfl,hi,h2⟩
theorem vV {K:bo}{a D:Addr}{xs:List V}{te:TE}{Q:VK}{σ:St}{H1:Hp}(Pv:Nat->List V->Hp->Prop)(h0:Pv 0 [] (upd H1 D (.lst [])))(hz:xs.length<=gc)
  (hl:∀i ys H2,i<=xs.length->Pv i ys H2->SqL K H2 a xs/\H2 D=some (.lst ys)/\ys.length=i)
  (hs:∀i x ys H2,xs[i]?=some x->Pv i ys H2->te (some x::σ) H2 (fB D xs.length Pv i ys)) (hd:∀ys H2,Pv xs.length ys H2->Q (.ref D) H2) :
  oj (Itl K a) te σ D H1 Q:=by
 refine⟨λi m ys H=>m=xs.length - i/\i<=xs.length/\Pv i ys H,⟨xs.length,by simp,aiW _,h0⟩,?_⟩
 rintro i m ys H2 ⟨rfl,hi,p⟩;obtain⟨q,q2,q3⟩:=hl i ys H2 hi p;refine⟨q2,?_⟩
 by_cases hlt:i < xs.length
 ·refine .inr ⟨⟨xs,xs[i],q,by simp[hlt]⟩,by omega,λx H3 y=>?_⟩
  obtain⟨e,y⟩:=y;subst e;exact hs i x ys _ (y xs q) p
 ·have e:i=xs.length:=by omega
  subst e;exact .inl ⟨⟨xs,q,ko _⟩,hd ys H2 p⟩
end
structure MkN (K:bo)(C:Addr):Prop where
 makes:ajc K C=true
 init:cb K (.ref C) "__init__"=some (some (.builtin "object.__init__"))
 kp:di K (.ref C)=true
def Ut (C:Addr):TE:=λ_ H Q=>∀x dx,H x=none->H dx=none->dx≠x->Q (.ref x) (upd (upd H dx (.own x)) x (.ins C dx []))
section
variable{X:Cx}{C:Addr}{x:Str}{p pos:Pos}
theorem oo (M:MkN X.K C)(hg:Gl X x)(hm:X.mg x=some (.ref C))(hdb:(x == ("__debug__":Str))=false:=by decide):PE X (.Call (.Name x p) [] [] pos) (Ut C):=by
 intro pins s σ H Q I h;refine wpAny_Call_Name_kw (iO I hg hm ?_ hdb);refine PySem.W.callWith_K0 I.kIn M.kp (ajL ?_);have I2:=Inv.made (C:=C) I;have q:=h (s.heap.objs.size+1) s.heap.objs.size (I.hok.fresh (ajn _)) (I.hok.fresh (ko _)) (wt (Nat.lt_succ_self _));have fin:EP X pins σ Q (.ref (s.heap.objs.size+1)) { s with heap:=(s.heap.push aiS).push (ai2 C s.heap.objs.size) }:=⟨.ref _,_,I2,rfl,q⟩
 have X1:=I.kIn;have e2:((s.heap.push aiS).push (ai2 C s.heap.objs.size)).get? (s.heap.objs.size+1)=some (ai2 C s.heap.objs.size):=by
  have:=Lk (s.heap.push aiS) (o:=ai2 C s.heap.objs.size) rfl
  rwa [ajF]at this
 clear I2 q h I;obtain⟨hh,g,d,t,os⟩:=s;have Y:=PySem.W.makes_of (M:=model X.prog X.w) X1 M.makes;refine PySem.W.make_core Y (ajV X1 M.init) (λself=>PySem.W.Looks.of_pure (PySem.W.oi_bind self)) (.inr ⟨rfl,rfl⟩) ?_
 have t1:PySem.W.Looks (model X.prog X.w) ((hh.push aiS).push (ai2 C hh.objs.size)) (typeOf (.ref (hh.objs.size+1))) (.ref C):=(PySem.W.Looks.ld e2).andThen .now;have t2:PySem.W.Looks (model X.prog X.w) ((hh.push aiS).push (ai2 C hh.objs.size)) (isInstance (.ref (hh.objs.size+1)) (.type "object")) true:=t1.andThen (Y.top.keeps λb o e=>gp _ (gp _ e))
 refine codeAny_call_builtin PySem.W.oi_plain PySem.W.entry_oi (@PySem.W.check_slot (model X.prog X.w) _ _ _ "object.__init__" "object" "__init__" (.ref (hh.objs.size+1)) [] [] _ PySem.W.oi_kind PySem.W.oi_split t2 (PySem.W.oi_args (.ref (hh.objs.size+1))) ?_);show wpAny _ _ (Builtin.«object.__init__» ⟨[.ref (hh.objs.size+1)],[]⟩) _ _ _;rw[PySem.W.oi_run];exact kq (And.intro rfl fin)
end
structure Zb (P:Params)(K:bo)(a:Addr):Prop where
 ex:∃es n,K.lookup a=some ⟨.type "dict",none,.dict es n,#[]⟩/\PySem.W.KeysLit P es.toList
section
variable{X:Cx}
theorem M9:IxR X (λx y H Q=>∃a z v u,x=.ref a/\y=.str z/\Zb X.w.params X.K a/\eg X.K a z=some (some u)/\RelV v u/\Q v H):=by
 intro value slice pins s σ H x y v u Q I rx ry h hs;obtain⟨a,z,w',u',rfl,rfl,⟨es,n,hl,hk⟩,e,r,q⟩:=h;cases rx;obtain⟨t,rfl⟩:=ry;have hm:=PySem.W.mapOf_K (prog:=X.prog) I.kIn hl hk;exact tail_any hm.typeIs slot_dict_getitem.lookup (wpAny_getItem_of (strKind_is X.prog X.w z t) hm (PySem.W.find_K hl e) ⟨w',H,I.tok _,r,q⟩) hs
end
theorem Qm (bs:List Bool):(aj8 bs.length).any (λi=>bs.getD i false)=bs.any id:=by
 have e:(aj8 bs.length).map (λi=>bs.getD i false)=bs:=by
  apply List.ext_getElem
  ·simp
  ·intro i h1 h2;simp[h2]
 calc _=((aj8 bs.length).map (λi=>bs.getD i false)).any id:=by rw[List.any_map];rfl
  _=_:=by rw[e]
theorem Qn (bs:List Bool):(aj8 bs.length).all (λi=>bs.getD i false)=bs.all id:=by
 have e:(aj8 bs.length).map (λi=>bs.getD i false)=bs:=by
  apply List.ext_getElem
  ·simp
  ·intro i h1 h2;simp[h2]
 calc _=((aj8 bs.length).map (λi=>bs.getD i false)).all id:=by rw[List.all_map];rfl
  _=_:=by rw[e]
theorem zK:∀ {bs:List Bool} {us:List Value},Vals (bs.map V.bl) us->us=bs.map ajB
 |[],_,.nil=>rfl
 |b::bs,_,.cons r t=>by
  cases r;rw[zK t];rfl
section
variable{X:Cx}
theorem Na (hc:X.calm=true):iu X (.builtin "any") (λxs H Q=>∃(p:Addr) (bs:List Bool),xs=[.ref p]/\SqL X.K H p (bs.map V.bl)/\Q (.bl (bs.any id)) H):=by
 intro pins s σ H xs us Q I r h;obtain⟨p,bs,rfl,hq,q⟩:=h;obtain⟨u,rfl,rx⟩:=vals1 r;cases rx;obtain⟨its,rv,pl,hz⟩:=I.list hq;obtain rfl:=zK rv;refine call_any_walk (wpAny_pyIter_list pl.isList ?_);obtain⟨o,n,e,_⟩:=id pl;have hlt:p < s.heap.objs.size:=ma e;refine⟨s.heap.objs.size,_,_,_,_,_,λi=>bs.getD i false,rfl,Walks.list (A:=X.A.in1) (show X.A.in1.handled=none from I.ok.hd hc) s.heap.objs.size p (wt hlt) (bs.map ajB).toArray,⟨⟨_,Lk _ rfl,rfl,rfl⟩,pl.isList.at λo e=>gp _ e⟩,?_,λh' tk kk=>?_⟩
 ·intro i v s' Q' E' hv q';have hv':v=ajB (bs.getD i false):=by
   have h2:(bs.map ajB)[i]?=some v:=by simpa using hv
   rw[aiY]at h2;cases hb:bs[i]? with
   |none=>rw[hb]at h2;cases h2
   |some b =>
    rw[hb]at h2;rw[aiB,hb];exact(aix h2).symm
  rw[hv'];exact wpAny_truthy_bool q'
 ·have I1:Inv X pins σ H { s with heap:=h',toks:=tk }:=I.kept λb o e=>kk b o (by simp;exact wt (ma e)) (gp _ e)
  refine⟨.bl _,H,I1,rfl,?_⟩;have e1:(bs.map ajB).toArray.size=bs.length:=by simp
  rw[e1,Qm];exact q
theorem zL (hc:X.calm=true):iu X (.builtin "all") (λxs H Q=>∃(p:Addr) (bs:List Bool),xs=[.ref p]/\SqL X.K H p (bs.map V.bl)/\Q (.bl (bs.all id)) H):=by
 intro pins s σ H xs us Q I r h;obtain⟨p,bs,rfl,hq,q⟩:=h;obtain⟨u,rfl,rx⟩:=vals1 r;cases rx;obtain⟨its,rv,pl,hz⟩:=I.list hq;obtain rfl:=zK rv;refine call_all_walk (wpAny_pyIter_list pl.isList ?_);obtain⟨o,n,e,_⟩:=id pl;have hlt:p < s.heap.objs.size:=ma e;refine⟨s.heap.objs.size,_,_,_,_,_,λi=>bs.getD i false,rfl,Walks.list (A:=X.A.in1) (show X.A.in1.handled=none from I.ok.hd hc) s.heap.objs.size p (wt hlt) (bs.map ajB).toArray,⟨⟨_,Lk _ rfl,rfl,rfl⟩,pl.isList.at λo e=>gp _ e⟩,?_,λh' tk kk=>?_⟩
 ·intro i v s' Q' E' hv q';have hv':v=ajB (bs.getD i false):=by
   have h2:(bs.map ajB)[i]?=some v:=by simpa using hv
   rw[aiY]at h2;cases hb:bs[i]? with
   |none=>rw[hb]at h2;cases h2
   |some b =>
    rw[hb]at h2;rw[aiB,hb];exact(aix h2).symm
  rw[hv'];exact wpAny_truthy_bool q'
 ·have I1:Inv X pins σ H { s with heap:=h',toks:=tk }:=I.kept λb o e=>kk b o (by simp;exact wt (ma e)) (gp _ e)
  refine⟨.bl _,H,I1,rfl,?_⟩;have e1:(bs.map ajB).toArray.size=bs.length:=by simp
  rw[e1,Qn];exact q
end
def Zc (X:Cx)(pins:List (Addr×Obj))(H:Hp)(h:Heap)(e:Addr)(vs:Array Value):Option Value->Prop
 |none=>vs[1]?=some .none
 |some m=>∃(T:Addr) (oT:Obj) (ts:Array Value),vs[1]?=some (.ref T)/\T≠e/\fj X pins H T/\h.get? T=some oT/\oT.data=.fields ts/\ts[3]?=some m
structure Z2 (X:Cx)(vs:Array Value):Prop where
 sz:1 < vs.size
 cx:X.xc=true->vs[2]?=some .none
structure XAt (X:Cx)(pins:List (Addr×Obj))(H:Hp)(h:Heap)(e:Addr)(cls:Value)(xd:Option Addr)(m:Option Value):Prop where
 ok:fj X pins H e
 ex:∃(sl:Array (Option Value)) (vs:Array Value),h.get? e=some ⟨cls,xd,.fields vs,sl⟩/\Z2 X vs/\Zc X pins H h e vs m
def MOk (_:Cx)(m:Option Value):Prop:=m=none\/m=some .none\/∃v,m=some v
def XP (X:Cx)(pins:List (Addr×Obj))(σ:St)(E:XK)(e:Value)(s':Shared):Prop :=
 ∃(ea:Addr) (cls:Value) (xd:Option Addr) (m:Option Value) (H':Hp),e=.ref ea/\Inv X pins σ H' s'/\XAt X pins H' s'.heap ea cls xd m/\MOk X m/\E cls xd H'
abbrev SXK:=St->XK
def XPS (X:Cx)(pins:List (Addr×Obj))(E:SXK)(e:Value)(s':Shared):Prop:=∃σ',XP X pins σ' (E σ') e s'
structure Fr1 (X:Cx):Prop where
 stk:X.stack=X.env::X.outer
 fr:X.env.frame=some X.env.locals
section
variable{X:Cx}{pins:List (Addr×Obj)}{σ:St}{H H':Hp}{s:Shared}{e:Addr}{cls:Value}{xd:Option Addr}{m:Option Value}
theorem fj.agu {b:Addr}(I:Inv X pins σ H s)(f:fj X pins H' b):b∉frs X.stack:=λz=>by
 rcases List.mem_cons.mp (I.zv b z) with q | q
 ·exact f.2.1 q
 ·exact f.2.2.1 q
theorem fj.drop {pl:List (Addr×Obj)}{b:Addr}(f:fj X (pins++pl) H b):fj X pins H b :=
 ⟨f.1,f.2.1,f.2.2.1,f.2.2.2.1,f.2.2.2.2.1,λp hp=>f.2.2.2.2.2 p ((List.mem_append.mp hp).elim (λz=>aiJ _ z) λz=>ka _ (aiJ _ z))⟩
theorem fj.clear {b:Addr}(f:fj X pins H b):fj X [] H b :=
 ⟨f.1,f.2.1,f.2.2.1,f.2.2.2.1,f.2.2.2.2.1,λp hp=>f.2.2.2.2.2 p ((List.mem_append.mp hp).elim (λz=>aiJ _ z) λz=>nomatch z)⟩
theorem XAt.drop {pl:List (Addr×Obj)}{h:Heap}(x:XAt X (pins++pl) H h e cls xd m):XAt X pins H h e cls xd m:=by
 obtain⟨ok,sl,vs,he,hz,hm⟩:=x;refine⟨ok.drop,sl,vs,he,hz,?_⟩;cases m with
 |none=>exact hm
 |some m=>obtain⟨T,oT,ts,a,b,c,d⟩:=hm;exact⟨T,oT,ts,a,b,c.drop,d⟩
theorem XAt.clear {h:Heap}(x:XAt X pins H h e cls xd m):XAt X [] H h e cls xd m:=by
 obtain⟨ok,sl,vs,he,hz,hm⟩:=x;refine⟨ok.clear,sl,vs,he,hz,?_⟩;cases m with
 |none=>exact hm
 |some m=>obtain⟨T,oT,ts,a,b,c,d⟩:=hm;exact⟨T,oT,ts,a,b,c.clear,d⟩
theorem XP.drop {pl:List (Addr×Obj)}{E:XK}{v:Value}(x:XP X (pins++pl) σ E v s):XP X pins σ E v s:=by
 obtain⟨ea,cls,xd,m,H',rfl,I,hx,hm,q⟩:=x;exact⟨ea,cls,xd,m,H',rfl,I.eR,hx.drop,hm,q⟩
theorem Uu {h':Heap}(I:Inv X pins σ H s)(he:fj X pins H e)(k1:∀b o,b∉frs X.stack->b≠e->s.heap.get? b=some o->h'.get? b=some o)
  (k2:∀b o,b≠e->s.heap.get? b=some o->∃sl,h'.get? b=some { o with slots:=sl }):Un (frs X.stack) [e] H H s.heap h'/\HOk X.prog X.w H h':=by
 refine⟨⟨λb o q _ hb hx=>k1 b o hb (by simpa using hx) q,λb o q _ _ hx=>k2 b o (by simpa using hx) q,λb o _ n _=>n,λb o q hx=>?_,λ_ _ q=>q,λ_ _ _ q=>q,λ_ ps q=>⟨#[],by rw[q];simp⟩⟩,λa o q=>?_⟩
 ·obtain⟨sl,z⟩:=k2 b o (by simpa using hx) q
  exact⟨_,z⟩
 ·refine(I.hok a o q).zu (λb u hb r=>k1 b u (λz=>?_) (λz=>?_) r) (λ_ z=>z) (λ_ _ z=>z)
  ·have n:=I.zg b z;rcases hb with rfl | hb
   ·rw[q]at n;cases n
   ·rw[hb]at n;cases n
  ·have n:=he.1;rw[<-z]at n;rcases hb with rfl | hb
   ·rw[q]at n;cases n
   ·rw[hb]at n;cases n
theorem Qo {h':Heap}(I:Inv X pins σ H s)(he:fj X pins H e)(k1:∀b o,b∉frs X.stack->b≠e->s.heap.get? b=some o->h'.get? b=some o)
  (k2:∀b o,b≠e->s.heap.get? b=some o->∃sl,h'.get? b=some { o with slots:=sl }):Inv X pins σ H { s with heap:=h' }:=by
 obtain⟨u,ok⟩:=Uu I he k1 k2;refine I.call (g':=s.gens) (t':=s.toks) (d':=s.drawn) u ok I.bare λb hb=>?_
 obtain rfl:b=e:=by simpa using hb
 exact⟨he.2.2.2.1,he.2.1,he.2.2.2.2.1,he.2.2.2.2.2⟩
theorem Kl {M:Model}{A:Around}{E:Value->Shared->Prop}{head:Value}{Qp:Bool}{sl:Array (Option Value)}{vs:Array Value}{Q:Unit->Shared->Prop}(F:Fr1 X)(hA:A.frames=some X.stack)(I:Inv X pins σ H s)(ok:fj X pins H e)
  (he:s.heap.get? e=some ⟨cls,xd,.fields vs,sl⟩) (hz:Z2 X vs) (h:∀s',Inv X pins σ H s'->XAt X pins H s'.heap e cls xd (some (rawInt X.env.locals))->Q () s') :
  wpAny M A (do let a <-frameOf X.env;let pl <-entryPlaceOf X.env.locals Qp;let b <-EntryCells.newEntry head a .none (rawInt X.env.locals) .none pl;setField (.ref e) 1 b) Q E s:=by
 have nE:e∉frs X.stack:=ok.agu I;have fs:=I.stack;rw[F.stk]at hA fs nE;refine de (wpAny_frameOf_fun hA fs F.fr λh₁ so=>?_)
 refine de (wpAny_entryPlaceOf λpl hpl=>?_)
 unfold EntryCells.newEntry newFields;refine de (wpAny_newObj_type ?_ (hpl.sizeOk5 _ _ _ _ _));generalize ht:([head,.ref X.env.locals,.none,rawInt X.env.locals,.none]++(if pl.isEmpty then aj6 6 ajm else pl)).toArray=ts
 have t3:ts[3]?=some (rawInt X.env.locals):=by rw[<-ht];simp
 have e1:h₁.get? e=some ⟨cls,xd,.fields vs,sl⟩:=(so.2.1 e nE).trans he;have e2:=gp (h:=h₁) { cls:=.type "traceback",dict:=none,data:=.fields ts } e1;refine wpAny_setField e2 rfl hz.sz ?_;have sz:h₁.objs.size=s.heap.objs.size:=so.1;have nT:h₁.objs.size≠e:=Nat.ne_of_gt (ma e1);have k0:∀b o,b≠e->h₁.get? b=some o->((h₁.push { cls:=.type "traceback",dict:=none,data:=.fields ts }).update e (ajd (·.setIfInBounds 1 (si h₁.objs.size)))).get? b=some o:=λb o hb q =>
  (aiP _ _ (aiD hb)).trans (gp _ q)
 have I':=Qo (h':=(h₁.push { cls:=.type "traceback",dict:=none,data:=.fields ts }).update e (ajd (·.setIfInBounds 1 (si h₁.objs.size)))) I ok
  (λb o hb hbe q=>k0 b o hbe ((so.2.1 b (by rw[<-F.stk];exact hb)).trans q)) (λb o hbe q=>by obtain⟨sl,z⟩:=so.2.2 b o q;exact⟨sl,k0 b _ hbe z⟩)
 have fT:fj X pins H h₁.objs.size:=I.vQ (by rw[sz];exact ko _) (by rw[sz];exact I.fresh)
 have gE:((h₁.push { cls:=.type "traceback",dict:=none,data:=.fields ts }).update e (ajd (·.setIfInBounds 1 (si h₁.objs.size)))).get? e=some ⟨cls,xd,.fields (vs.setIfInBounds 1 (si h₁.objs.size)),sl⟩ :=
  ai5 (ajd (·.setIfInBounds 1 (si h₁.objs.size))) e2 rfl
 have gT:((h₁.push { cls:=.type "traceback",dict:=none,data:=.fields ts }).update e (ajd (·.setIfInBounds 1 (si h₁.objs.size)))).get? h₁.objs.size=some { cls:=.type "traceback",dict:=none,data:=.fields ts } :=
  (aiP _ _ (aiD nT)).trans (Lk h₁ rfl)
 exact h _ I' ⟨ok,sl,_,gE,⟨by simpa using hz.sz,λz=>by rw[Array.getElem?_setIfInBounds_ne (by decide)];exact hz.cx z⟩,h₁.objs.size,_,ts,by simp[hz.sz],nT,fT,gT,rfl,t3⟩
theorem gm {M:Model}{A:Around}{E:Value->Shared->Prop}{f:Option Addr}{mv:Value}{Q:Unit->Shared->Prop}(I:Inv X pins σ H s)(x:XAt X pins H s.heap e cls xd (some mv))
  (h:∀s',Inv X pins σ H s'->XAt X pins H s'.heap e cls xd (some (f.elim .none λb=>rawInt b))->Q () s'):wpAny M A (setFlight (.ref e) f) Q E s:=by
 obtain⟨ok,sl,vs,he,hz,T,oT,ts,h1,nT,fT,hT,hd,h3⟩:=x;unfold setFlight;refine de (ajy he rfl h1 ?_);rw[if_pos (show (si T != ajm)=true by simp)]
 have z3:3 < ts.size:=(Array.getElem?_eq_some_iff.mp h3).1;refine wpAny_setField hT hd z3 ?_;have other:∀b,b≠T->(s.heap.update T (ajd (·.setIfInBounds 3 (f.elim ajm λb=>rawInt b)))).get? b=s.heap.get? b:=λb hb=>aiP _ _ (aiD hb)
 have I':=I.turned (t':=s.toks) (h':=s.heap.update T (ajd (·.setIfInBounds 3 (f.elim ajm λb=>rawInt b)))) (λb o hb q=>(other b hb).trans q) fT.1 fT.2.1 fT.2.2.2.1 fT.2.2.2.2.1 fT.2.2.2.2.2
 exact h _ I' ⟨ok,sl,vs,(other e (aiD nT)).trans he,hz,T,_,_,h1,nT,fT,ai5 _ hT (Obj.isFreed_of_fields (Obj.data_mapFields hd _)),Obj.data_mapFields hd _,by simp[z3]⟩
theorem tQ {M:Model}{A:Around}{E:Value->Shared->Prop}{Q:Unit->Shared->Prop}(F:Fr1 X)(hA:A.frames=some X.stack)(I:Inv X pins σ H s)(x:XAt X pins H s.heap e cls xd m)(hm:MOk X m)
  (h:∀s',Inv X pins σ H s'->XAt X pins H s'.heap e cls xd (some (rawInt X.env.locals))->Q () s'):wpAny M A (noteFrame (.ref e) X.env) Q E s:=by
 obtain⟨ok,sl,vs,he,hz,hv⟩:=x;unfold noteFrame;simp only[F.fr];cases m with
 |none =>
  refine de (ajy he rfl hv ?_);rw[if_neg (by decide)]
  exact Kl F hA I ok he hz h
 |some mv =>
  obtain⟨T,oT,ts,h1,nT,fT,hT,hd,h3⟩:=hv;refine de (ajy he rfl h1 ?_);rw[if_pos (show (si T != ajm)=true by simp)]
  refine de (ajy hT hd h3 ?_)
  by_cases hmv:mv=rawInt X.env.locals
  ·subst hmv;rw[if_pos (show (rawInt X.env.locals == rawInt X.env.locals)=true by simp)]
   exact kq (h s I ⟨ok,sl,vs,he,hz,T,oT,ts,h1,nT,fT,hT,hd,h3⟩)
  ·rw[if_neg (show ¬(mv == rawInt X.env.locals)=true from λz=>hmv (beq_iff_eq.mp z))]
   have z3:3 < ts.size:=(Array.getElem?_eq_some_iff.mp h3).1;refine de (wpAny_setField hT hd z3 ?_);have other:∀b,b≠T->(s.heap.update T (ajd (·.setIfInBounds 3 ajm))).get? b=s.heap.get? b:=λb hb=>aiP _ _ (aiD hb)
   have I':=I.turned (t':=s.toks) (h':=s.heap.update T (ajd (·.setIfInBounds 3 ajm))) (λb o hb q=>(other b hb).trans q) fT.1 fT.2.1 fT.2.2.2.1 fT.2.2.2.2.1 fT.2.2.2.2.2
   exact Kl F hA I' ok ((other e (aiD nT)).trans he) hz h
theorem Nb {E:SXK}(F:Fr1 X)(fr:X.A.frames=some X.stack):PassesOwn (model X.prog X.w) X.A X.env (XPS X pins E):=by
 rintro v s' ⟨σ',ea,cls,xd,m,H',rfl,I,hx,hm,q⟩;refine tQ F fr I hx hm λs1 I1 x1=>?_
 unfold cameBackBy;obtain⟨ok,sl,vs,he,hz,T,oT,ts,h1,r⟩:=id x1;refine de (ajy he rfl h1 ?_);rw[if_neg (show ¬((si T == ajm)=true) by simp)]
 have step:wpAny (model X.prog X.w) X.A (setFlight (.ref ea) X.env.frame) (λ_ s''=>XPS X pins E (.ref ea) s'') (XPS X pins E) s1 :=
  gm I1 x1 λs2 I2 x2=>⟨σ',ea,cls,xd,_,H',rfl,I2,x2,by rw[F.fr];exact .inr (.inr ⟨_,rfl⟩),q⟩
 first
  |exact step
  |exact de (kq step)
end
abbrev CXB (b:Bool)(P:kx)(w:World):CXT:=λouter H s E e s'=>∃(ea T:Addr) (cls:Value) (xd:Option Addr) (H':Hp),e=.ref ea/\s'.os=s.os/\AllBare s'.gens/\Un (frs outer) [] H H' s.heap s'.heap/\HOk P w H' s'.heap /\
 (H' ea=none/\s.heap.objs.size<=ea)/\(H' T=none/\s.heap.objs.size<=T)/\T≠ea /\
 (∃(sl:Array (Option Value)) (vs:Array Value) (oT:Obj) (ts:Array Value),s'.heap.get? ea=some ⟨cls,xd,.fields vs,sl⟩/\(1 < vs.size/\(b=true->vs[2]?=some .none))/\vs[1]?=some (.ref T)/\s'.heap.get? T=some oT/\oT.data=.fields ts/\ts[3]?=some .none)/\E cls xd H'
abbrev CXX (P:kx)(w:World):CXT:=CXB true P w
section
variable{X:Cx}{pins:List (Addr×Obj)}{σ:St}{H:Hp}{s s':Shared}{b:Bool}
theorem Nc {E:XK}{e:Value}(hb:X.xc=true->b=true)(I:Inv X pins σ H s)(h:CXB b X.prog X.w X.stack H s E e s'):XP X pins σ E e s':=by
 obtain⟨ea,T,cls,xd,H',rfl,os,bare,un,hok,⟨e1,e2⟩,⟨t1,t2⟩,ne,⟨sl,vs,oT,ts,g1,g2,g3,g4,g5,g6⟩,q⟩:=h;have I':Inv X pins σ H' s':=I.Kb (ch:=[]) os un hok bare λb z=>absurd z (by simp)
 exact⟨ea,cls,xd,some .none,H',rfl,I',⟨I.vQ e2 e1,sl,vs,g1,⟨g2.1,λz=>g2.2 (hb z)⟩,T,oT,ts,g3,ne,I.vQ t2 t1,g4,g5,g6⟩,.inr (.inl rfl),q⟩
theorem HK:Passes (CXB b X.prog X.w) X E0:=λ_ _ _ _ _ _ _ ⟨_,_,_,_,_,_,_,_,_,_,_,_,_,_,z⟩=>z.elim
end
section
variable{P:kx}{w:World}{K:bo}{mg:Str->Option Value}{base:Heap}{k:Nat}{f:Addr}{fd:kf}{ps:List Str}{sp:Sp}
theorem FnOk.calm (F:FnOk P w K mg base (CXX P w) k f fd ps sp)(h:∀vs H Q E,sp vs H Q E->sp vs H Q E0):FnOk P w K mg base CX0 k f fd ps sp:=by
 refine⟨F.len,λA outer s H args us vs Q E hr he hb hv hs=>codeAny_mono (F.run A outer s H args us vs Q E0 hr he hb hv (h _ _ _ _ hs)) λr s' q=>?_⟩
 cases r with
 |error e=>obtain⟨_,_,_,_,_,_,_,_,_,_,_,_,_,_,z⟩:=q;exact z.elim
 |ok fl=>cases fl <;> exact q
theorem Qq {N:List Str}{qual:Str}{scope:Scope}{cd:Value}{A:Around}{outer:List Env}{s s':Shared}{H:Hp}{E:XK}{e:Value}{pins:List (Addr×Obj)}
  (h:XPS (bI (CXX P w) P w K mg base N qual scope f cd A outer s H E) pins (λ_=>E) e s'):(bI (CXX P w) P w K mg base N qual scope f cd A outer s H E).xe e s':=by
 obtain⟨σ',ea,cls,xd,m,H',rfl,I,hx,hm,q⟩:=h;have fr:(bI (CXX P w) P w K mg base N qual scope f cd A outer s H E).A.frames=some (bI (CXX P w) P w K mg base N qual scope f cd A outer s H E).stack:=I.ok.frames;have F1:Fr1 (bI (CXX P w) P w K mg base N qual scope f cd A outer s H E):=⟨rfl,rfl⟩;show wpAny _ _ (leaving (bI (CXX P w) P w K mg base N qual scope f cd A outer s H E).env (.ref ea)) _ _ s';unfold leaving;refine de (tQ F1 fr I hx hm λs1 I1 x1=>gm I1 x1 λs2 I2 x2=>?_)
 obtain⟨ok,sl,vs,he,hz,T,oT,ts,h1,nT,fT,hT,hd,h3⟩:=x2;have old:∀ {b:Addr},fj (bI (CXX P w) P w K mg base N qual scope f cd A outer s H E) pins H' b->s.heap.objs.size<=b:=λ{b} z=>by
  rcases z.2.2.2.1 with y | y
  ·exact absurd (show b∈([]:List Addr) from y) (by simp)
  ·exact y
 exact⟨ea,T,cls,xd,H',rfl,I2.os,I2.bare,I2.base,I2.hok,⟨ok.1,old ok⟩,⟨fT.1,old fT⟩,nT,⟨sl,vs,oT,ts,he,⟨hz.sz,λ_=>hz.cx rfl⟩,h1,hT,hd,h3⟩,q⟩
end
abbrev TEX:=St->Hp->VK->XK->Prop
abbrev TAX:=St->Hp->(List V->Hp->Prop)->XK->Prop
abbrev TSX:=Ends->SXK->St->Hp->Prop
def PEX (X:Cx)(e:Expr)(t:TEX):Prop :=
 ∀(pins:List (Addr×Obj)) (s:Shared) (σ:St) (H:Hp) (Q:VK) (E:XK),Inv X pins σ H s->t σ H Q E->wpAny (model X.prog X.w) X.A (eval e X.env) (EP X pins σ Q) (XP X pins σ E) s
def PAX (X:Cx)(es:List Expr)(t:TAX):Prop :=
 ∀(pos:Pos) (pins:List (Addr×Obj)) (s:Shared) (σ:St) (H:Hp) (Q:List V->Hp->Prop) (E:XK),Inv X pins σ H s->t σ H Q E->wpAny (model X.prog X.w) X.A (spliced (backTo pos (sr es X.env))) (AP X pins σ Q) (XP X pins σ E) s
def PSX (X:Cx)(st:Stmt)(t:TSX):Prop :=
 ∀(pins:List (Addr×Obj)) (s:Shared) (σ:St) (H:Hp) (D:Ends) (E:SXK),Inv X pins σ H s->t D E σ H->wpAny (model X.prog X.w) X.A (exec st X.env) (SP X pins D) (XPS X pins E) s
def zM (X:Cx)(st:List Stmt)(t:TSX):Prop :=
 ∀(pins:List (Addr×Obj)) (s:Shared) (σ:St) (H:Hp) (D:Ends) (E:SXK),Inv X pins σ H s->t D E σ H->wpAny (model X.prog X.w) X.A (execs st X.env) (SP X pins D) (XPS X pins E) s
def Uv (te:TE):TEX:=λσ H Q _=>te σ H Q
def Uw (ta:TA):TAX:=λσ H Q _=>ta σ H Q
def Nd (ts:TS):TSX:=λD _ σ H=>ts D σ H
def Nf (t1:TEX)(t2:TAX):TAX:=λσ H Q E=>t1 σ H (λx H1=>t2 σ H1 (λxs H2=>Q (x::xs) H2) E) E
def R8 (t1 t2:TSX):TSX:=λD E σ H=>t1 { D with nx:=t2 D E } E σ H
def Zd (tc:TT)(t1 t2:TSX):TSX:=λD E σ H=>tc σ H λd H1=>if d=true then t1 D E σ H1 else t2 D E σ H1
def Ng (t:TEX):TSX:=λD E σ H=>t σ H (λ_ H1=>D.nx σ H1) (E σ)
def R9 (t:TEX):TSX:=λD E σ H=>t σ H D.rt (E σ)
def Sa (i:Nat)(t:TEX):TSX:=λD E σ H=>t σ H (λv H1=>D.nx (σ.set i (some v)) H1) (E σ)
def CM (t:TAX)(sp:Sp):TEX:=λσ H Q E=>t σ H (λvs H1=>sp vs H1 Q E) E
def Nh (C:Addr)(m:Str)(ta:TEX)(t:TAX)(sp:Sp):TEX:=λσ H Q E=>ta σ H (λx H1=>∃a dx fs,x=.ref a/\H1 a=some (.ins C dx fs)/\fs.lookup m=none/\t σ H1 (λvs H2=>sp (x::vs) H2 Q E) E) E
def Km (C:Addr)(m:Str)(ta:TEX)(sp:Sp):TEX:=λσ H Q E=>ta σ H (λx H1=>∃a dx fs,x=.ref a/\H1 a=some (.ins C dx fs)/\fs.lookup m=none/\sp [x] H1 Q E) E
section
variable{X:Cx}{e:Expr}{es:List Expr}{st:Stmt}{sts:List Stmt}{te:TE}{ta:TA}{ts:TS}{pos:Pos}
theorem EP.dD {pins:List (Addr×Obj)}{σ:St}{Q:VK}{u:Value}{s':Shared}{W:Value->Shared->Prop}(h:EP (X.j7 W) pins σ Q u s'):EP X pins σ Q u s':=by
 obtain⟨v,H',I,r,q⟩:=h;exact⟨v,H',I.dD,r,q⟩
theorem px (h:PE X.nox e te):PEX X e (Uv te):=λpins s σ H Q _ I hw =>
 kr (h pins s σ H Q (I.j7 _) hw) (λ_ _ q=>q.dD) λ_ _ z=>aiy z
theorem pax (h:PA X.nox es ta):PAX X es (Uw ta):=λpos pins s σ H Q _ I hw =>
 kr (h pos pins s σ H Q (I.j7 _) hw) (λ_ _ ⟨vs,H',I',r,q⟩=>⟨vs,H',I'.dD,r,q⟩) λ_ _ z=>aiy z
theorem psx (h:PS X.nox st ts):PSX X st (Nd ts):=λpins s σ H D _ I hw =>
 kr (h pins s σ H D (I.j7 _) hw) (λ_ _ q=>q.dD) λ_ _ z=>aiy z
theorem mQ (h:PSs X.nox sts ts):zM X sts (Nd ts):=λpins s σ H D _ I hw =>
 kr (h pins s σ H D (I.j7 _) hw) (λ_ _ q=>q.dD) λ_ _ z=>aiy z
theorem kZ:PAX X [] (λ_ H Q _=>Q [] H):=λ_ _ _ _ H Q _ I h=>Calls.spliced_nil ⟨[],H,I,.nil,h⟩
theorem cC {t1:TEX}{t2:TAX}(ha:PEX X e t1)(hr:PAX X es t2)(hs:sr (e::es) X.env=(false,eval e X.env)::sr es X.env:=by rfl) :
  PAX X (e::es) (Nf t1 t2):=by
 intro pos pins s σ H Q E I h;unfold Nf at h;rw[hs];refine Calls.spliced_cons (kr (ha pins s σ H _ E I h) (λu s1 ⟨x,H1,I1,r1,q1⟩=>?_) λ_ _ z=>z)
 exact kr (hr pos pins s1 σ H1 _ E I1 q1) (λus s2 ⟨xs,H2,I2,r2,q2⟩=>⟨x::xs,H2,I2,.cons r1 r2,q2⟩) λ_ _ z=>z
theorem au {t1 t2:TSX}(h1:PSX X st t1)(h2:zM X sts t2):zM X (st::sts) (R8 t1 t2):=by
 intro pins s σ H D E I h;unfold R8 at h;refine wpAny_execs_cons (thn (h1 pins s σ H { D with nx:=t2 D E } E I h) λf s1 q=>?_)
 cases f with
 |next =>
  obtain⟨σ',H',I',q⟩:=q;exact h2 pins s1 σ' H' D E I' q
 |ret v=>exact q
 |brk=>exact q
 |cont=>exact q
theorem aL {t1:TSX}(h1:PSX X st t1):zM X [st] t1:=by
 intro pins s σ H D E I h;refine wpAny_execs_cons (thn (h1 pins s σ H D E I h) λf s1 q=>?_)
 cases f with
 |next=>exact wpAny_execs_nil q
 |ret v=>exact q
 |brk=>exact q
 |cont=>exact q
theorem dE {c:Expr}{a b:List Stmt}{tc:TT}{t1 t2:TSX}(hc:PT X.nox c tc)(ha:zM X a t1)(hb:zM X b t2):PSX X (.If c a b pos) (Zd tc t1 t2):=by
 intro pins s σ H D E I h;unfold Zd at h;refine wpAny_If (kr (hc pins s σ H _ (I.j7 _) h) (λd s1 ⟨H1,I1,q1⟩=>?_) λ_ _ z=>aiy z)
 cases d with
 |true=>exact ha pins s1 σ H1 D E I1.dD q1
 |false=>exact hb pins s1 σ H1 D E I1.dD q1
theorem cf {t:TEX}(he:PEX X e t)(hs:swapsWith e none pos.line X.env=pure false:=by rfl):PSX X (.Expr e pos) (Ng t):=by
 intro pins s σ H D E I h;unfold Ng at h;exact wpAny_Expr_any (kr (he pins s σ H _ _ I h) (λv s1 ⟨x,H1,I1,r1,q1⟩=>⟨σ,H1,I1,q1⟩) λ_ _ z=>⟨σ,z⟩) I.quiet hs
theorem gK {t:TEX}(he:PEX X e t):PSX X (.Return (some e) pos) (R9 t):=by
 intro pins s σ H D E I h;unfold R9 at h;exact wpAny_Return_some (kr (he pins s σ H _ _ I h) (λv s1 ⟨x,H1,I1,r1,q1⟩=>⟨x,σ,H1,I1,r1,q1⟩) λ_ _ z=>⟨σ,z⟩)
theorem CN {i:Nat}{x:Str}{t:TEX}{pos':Pos}(hN:X.N.Nodup)(hi:X.N[i]?=some x)(hx:Loc X.env.scope x)(he:PEX X e t)(hs:swapsWith e (some (.Name x pos')) pos.line X.env=pure false:=by rfl)(hf:X.fn x=true\/X.env.scope.names.lookup x=some .local:=by first | exact .inl rfl | exact .inr rfl | assumption) :
  PSX X (.Assign [.Name x pos'] e pos) (Sa i t):=by
 intro pins s σ H D E I h;unfold Sa at h;refine wpAny_Assign_Name (kr (he pins s σ H _ _ I h) (λv s1 ⟨y,H1,I1,r1,q1⟩=>?_) λ_ _ z=>⟨σ,z⟩) hs
 exact qC I1 hN hi hx r1 (λs2 I2=>⟨_,H1,I2,q1⟩) hf
end
section
variable{X:Cx}{k:Nat}{f C:Addr}{fd:kf}{ps:List Str}{sp:Sp}{x m:Str}{p pos apos:Pos}{e o:Expr}{es:List Expr}{t:TAX}
theorem CO {pins:List (Addr×Obj)}{σ:St}{H:Hp}{s:Shared}{Q:VK}{E:XK}{us:List Value}{vs:List V}(F:FnOk X.prog X.w X.K X.mg X.base (CXX X.prog X.w) k f fd ps sp)(hr:Room k X.A)(hb:Binds X.K fd ps [])
  (I:Inv X pins σ H s) (r:Vals vs us) (h:sp vs H Q E):wpAny (model X.prog X.w) X.A (call (.ref f) us) (EP X pins σ Q) (XP X pins σ E) s:=by
 have hl:(us++[]).length=ps.length:=by rw[aji,<-r.length];exact F.len _ _ _ _ h
 have b:=hb s us I.kIn hl;rw[aji]at b;refine ajL (codeAny_mono (F.run X.A X.stack s H ⟨us,[]⟩ us vs Q E hr I.MP b r h) λr s' hq=>?_)
 cases r with
 |error e=>exact Nc (λ_=>rfl) I hq
 |ok fl =>
  cases fl with
  |ret u=>exact I.after hq
  |next=>exact aiy hq
  |brk=>exact aiy hq
  |cont=>exact aiy hq
theorem bB (F:FnOk X.prog X.w X.K X.mg X.base (CXX X.prog X.w) k f fd ps sp)(hr:Room k X.A)(hg:Gl X x)(hm:X.mg x=some (.ref f))(hk:di X.K (.ref f)=true)(hb:Binds X.K fd ps [])(ha:PAX X (e::es) t)
  (hdb:(x == ("__debug__":Str))=false:=by decide) (he:sr (e::es) X.env=(false,eval e X.env)::sr es X.env:=by rfl) (hpl:(backTo pos (sr es X.env)).any (·.1)=false:=by rfl) :
  PEX X (.Call (.Name x p) (e::es) [] pos) (CM t sp):=by
 intro pins s σ H Q E I h;unfold CM at h;refine wpAny_Call_Name_kw (iO I hg hm ?_ hdb);exact ajS (h₀:=X.base) I.ok.mod.kin hk (thn (ha pos pins s σ H _ E I h) λus s1 ⟨vs,H1,I1,r,q⟩=>⟨I1.kIn,CO F hr hb I1 r q⟩) he hpl
theorem uV {pl:Sem Bool}{ta:TEX}(he:PEX X o ta)(c:Cls X.K C)(hm:Meth X.K C m f)(F:FnOk X.prog X.w X.K X.mg X.base (CXX X.prog X.w) k f fd ps sp)(hr:Room k X.A)(hb:Binds X.K fd ps [])(ha:PAX X (e::es) t)
  (hst:sr (e::es) X.env=(false,eval e X.env)::sr es X.env:=by rfl) (hpl:(backTo pos (sr es X.env)).any (·.1)=false:=by rfl)
  (ht:eval (.Call (.Attribute o m apos) (e::es) [] pos) X.env=(do
   let ov <-eval o X.env
   standAt apos.atName
   let (f,first) <-holding [ov] (getMethod ov m pl)
   aj5 pos f first (backTo pos (sr (e::es) X.env)) (ajR pos (ajh [] X.env))):=by rfl) :
  PEX X (.Call (.Attribute o m apos) (e::es) [] pos) (Nh C m ta t sp):=by
 intro pins s σ H Q E I h;unfold Nh at h;refine ajo (pl:=pl) (thn (he pins s σ H _ E I h) λu s1 ⟨x,H1,I1,rx,a,dx,fs,ex,ea,l,q⟩=>?_) ht
 subst ex;obtain rfl:u=si a:=rx;refine jd I1 ea c hm l ?_;exact ajS (first:=[.ref a]) (h₀:=X.base) I.ok.mod.kin hm.kp (thn (ha pos pins s1 σ H1 _ E I1 q) λus s2 ⟨vs,H2,I2,r,q2⟩=>⟨I2.kIn,CO (us:=.ref a::us) (vs:=.ref a::vs) F hr hb I2 (.cons rfl r) q2⟩) hst hpl
theorem vW {pl:Sem Bool}{ta:TEX}(he:PEX X o ta)(c:Cls X.K C)(hm:Meth X.K C m f)(F:FnOk X.prog X.w X.K X.mg X.base (CXX X.prog X.w) k f fd ps sp)(hr:Room k X.A)(hb:Binds X.K fd ps [])
  (ht:eval (.Call (.Attribute o m apos) [] [] pos) X.env=(do
   let ov <-eval o X.env
   standAt apos.atName
   let (f,first) <-holding [ov] (getMethod ov m pl)
   aj5 pos f first (backTo pos (sr [] X.env)) (ajR pos (ajh [] X.env))):=by rfl) :
  PEX X (.Call (.Attribute o m apos) [] [] pos) (Km C m ta sp):=by
 intro pins s σ H Q E I h;unfold Km at h;refine ajo (pl:=pl) (thn (he pins s σ H _ E I h) λu s1 ⟨x,H1,I1,rx,a,dx,fs,ex,ea,l,q⟩=>?_) ht
 subst ex;obtain rfl:u=si a:=rx;refine jd I1 ea c hm l ?_;exact PySem.W.callWith_K0 (first:=[.ref a]) I1.kIn hm.kp (CO (us:=[.ref a]) (vs:=[.ref a]) F hr hb I1 (.cons rfl .nil) q)
end
section
variable{P:kx}{w:World}{K:bo}{mg:Str->Option Value}{base:Heap}
theorem Fun.okX {x qual:Str}{st:Stmt}{f:Addr}{fd:kf}{N ps:List Str}{k:Nat}{sp:Sp}(F:Fun K x qual st f fd)(S:ax N ps (af st))(len:∀vs H Q E,sp vs H Q E->vs.length=ps.length)
  (uQ:∀(cdv:Value) (A:Around) (outer:List Env) (s:Shared) (H:Hp) (vs:List V) (Q:VK) (E:XK),Room k (A.deeper (envOfC qual (af st) s.heap.objs.size f cdv))->sp vs H Q E ->
   ∃t,zM (bI (CXX P w) P w K mg base N qual (af st) f cdv A outer s H E) (aw st) t/\t { nx:=λ_ H'=>Q .non H',rt:=Q } (λ_=>E) (start N vs) H):FnOk P w K mg base (CXX P w) (k+1) f fd ps sp:=by
 obtain⟨oc,od,kV,doc,pm,an,cdv,ct,osl,rfl,lk,hcd⟩:=F.ex;refine MR lk hcd S len λA outer s H vs Q E hr hsp=>?_
 obtain⟨t,h,q⟩:=uQ cdv A outer s H vs Q E hr hsp;exact⟨λD σ H=>t D (λ_=>E) σ H,λpins s1 σ H1 D I hw=>kr (h pins s1 σ H1 D _ I hw) (λ_ _ z=>z) λ_ _ z=>Qq z,q⟩
end
def xo (a:Addr)(cls:Value)(xd:Option Addr):HO:=.ext λh=>∃(sl:Array (Option Value)) (vs:Array Value),h.get? a=some ⟨cls,xd,.fields vs,sl⟩
abbrev hcx (X:Cx)(e:Addr):Cx:={ X with A:=X.A.mark (some (.ref e)),calm:=false,xe:=λ_ _=>False }
section
variable{X:Cx}{pins:List (Addr×Obj)}{σ:St}{H:Hp}{s:Shared}{e:Addr}{cls:Value}{xd:Option Addr}{m:Option Value}
theorem CP (I:Inv X pins σ H s)(e:Addr):Inv (hcx X e) pins σ H s :=
 ⟨⟨I.ok.mod,I.ok.kind,I.ok.glob,I.ok.blt,I.ok.above,I.ok.inj,I.ok.has,I.ok.cab,λz=>absurd (show false=true from z) kg,I.ok.frames,I.ok.stk,I.ok.exf,I.ok.bs,I.ok.bsz,I.ok.xZ,I.ok.ya,I.ok.og,I.ok.frf⟩,I.os,I.bare,I.base,I.loc,I.cell,I.free,I.jN,I.pin,I.hok,I.len⟩
theorem k9 (ok:X.Ok)(I:Inv (hcx X e) pins σ H s):Inv X pins σ H s:=⟨ok,I.os,I.bare,I.base,I.loc,I.cell,I.free,I.jN,I.pin,I.hok,I.len⟩
theorem Qr (I:Inv X pins σ H s)(x:XAt X pins H s.heap e cls xd m):Inv X pins σ (upd H e (xo e cls xd)) s:=by
 obtain⟨ok,sl,vs,he,hz,_⟩:=x;have nb:∀b u,H b=some u->b≠e:=λb u q z=>by rw[z,ok.1]at q;cases q
 have hk:HOk X.prog X.w (upd H e (xo e cls xd)) s.heap:=λb u q=>by
  by_cases hb:b=e
  ·subst hb;rw[ae]at q;cases q;exact⟨⟨sl,vs,he⟩,⟨_,he⟩,λh1 h2 ⟨sl',vs',z⟩ k=>⟨sl',vs',k _ z⟩⟩
  ·rw[av hb]at q;exact(I.hok b u q).zu (λc v _ r=>r) (λc r=>by rw[av (nb c _ r)];exact r) λc xs r=>by rw[av (nb c _ r)];exact r
 exact I.step (g':=s.gens) (t':=s.toks) (d':=s.drawn) (h':=s.heap) (ch:=[e]) (λb hb=>by
   obtain rfl:b=e:=by simpa using hb
   exact⟨ok.2.2.2.1,ok.2.1,ok.2.2.2.2.1,ok.2.2.2.2.2⟩)
  (λ_ _ _ _ _ q _=>q) (λb o _ _ _ q _=>⟨o.slots,q⟩) (λb o hb _ n=>by rw[av (by simpa using hb)];exact n) (λb o _ q=>⟨o,q⟩)
  (λb xs q=>by rw[av (nb b _ q)];exact q) (λb o u q=>by rw[av (nb b _ q)];exact q) (λb ps q=>⟨#[],by rw[av (nb b _ q),q];simp⟩) (λ_ q=>q) hk I.bare
theorem CQ {M:Model}{A:Around}{E:Value->Shared->Prop}{n:Str}{i:Nat}{pos:Pos}{Q:Unit->Shared->Prop}(I:Inv X pins σ H s)(hN:X.N.Nodup)(hi:X.N[i]?=some n)(hl:X.env.kindOf n=some .local)
  (h:∀s',Inv X pins (σ.set i none) H s'->Q () s'):wpAny M A (do bindName X.env n .none;unbindBehindTheSuite X.env n pos) Q E s:=by
 obtain⟨mm,hn,agv⟩:=I.loc;refine wpAny_nameGoes_keeps hl hn (by rw[I.ok.kind];rfl) λh' v hn' sb=>h _ ?_
 have ol:∃o,s.heap.get? X.env.locals=some o/\H X.env.locals=none:=by obtain⟨o,_,_,ho,_⟩:=hn;exact⟨o,ho,I.free⟩
 have keep:∀b o,b≠X.env.locals->s.heap.get? b=some o->h'.get? b=some o:=λb o hb q=>(sb.2 b hb).trans q
 have below:∀ {b:Addr} {o:Obj},X.s₀.heap.get? b=some o->b≠X.env.locals:=λ{b o} q=>wt (tm (ma q) I.ok.above)
 refine⟨I.ok,I.os,I.bare,⟨λb o q nn hb hx=>keep b o (below q) (I.base.keep b o q nn hb hx),λb o q nn hb hx=>?_,I.base.free,λb o q hx=>?_,I.base.uL,I.base.tM,I.base.uM⟩,⟨_,hn',λj y w e1 e2 e3=>?_⟩,λy c ec=>?_,I.free,I.jN,λp hp=>?_,λb u q=>?_,by rw[ajM];exact I.len⟩
 ·obtain⟨sl,z⟩:=I.base.slot b o q nn hb hx;exact⟨sl,keep b _ (below q) z⟩
 ·obtain⟨o',z⟩:=I.base.there b o q hx;exact⟨o',keep b _ (below q) z⟩
 ·have hj:j≠i:=λz=>by
   subst z
   by_cases hlt:j < σ.length
   ·rw[List.getElem?_set_self hlt]at e2;cases e2
   ·rw[List.getElem?_eq_none_iff.mpr (by rw[ajM];omega)]at e2;cases e2
  rw[List.getElem?_set_ne (aiD hj)]at e2;obtain⟨u,r,q⟩:=agv j y w e1 e2 e3;refine⟨u,r,?_⟩;rcases q with ⟨k,z⟩ | ⟨k,c,z,hc⟩
  ·have:y≠n:=λz=>hj (zw hN e1 (z▸hi))
   exact .inl ⟨k,by simp only[this,if_false];exact z⟩
  ·obtain⟨o,ho,hd⟩:=hc;exact .inr ⟨k,c,z,o,keep c o (I.cne y c z) ho,hd⟩
 ·obtain⟨v',o,ho,hd⟩:=I.cell y c ec;exact⟨v',o,keep c o (I.cne y c ec) ho,hd⟩
 ·obtain⟨a1,a2,a3,a4,a5⟩:=I.pin p hp;exact⟨keep p.1 p.2 a3 a1,a2,a3,a4,a5⟩
 ·refine(I.hok b u q).zu (λc v hc r=>keep c v (λz=>?_) r) (λ_ z=>z) λ_ _ z=>z
  have fr:=I.free;rw[<-z]at fr;rcases hc with rfl | hc
  ·rw[q]at fr;cases fr
  ·rw[hc]at fr;cases fr
end
abbrev THX:=Ends->SXK->St->XK
def Ni (D:Ends)(i:Nat):Ends:={ nx:=λσ H=>D.nx (σ.set i none) H,rt:=D.rt,bk:=λσ H=>D.bk (σ.set i none) H,ct:=λσ H=>D.ct (σ.set i none) H }
def Sb (K:bo)(C:Addr)(ts:TS)(tr:THX):THX:=λD E σ cls xd H=>∃b,aiA K cls (.ref C)=some b/\if b=true then ts D σ H else tr D E σ cls xd H
def hAs (K:bo)(C:Addr)(i:Nat)(ts:TS)(tr:THX):THX:=λD E σ cls xd H=>∃b,aiA K cls (.ref C)=some b/\if b=true then ∀ea,H ea=none->ts (Ni D i) (σ.set i (some (.ref ea))) (upd H ea (xo ea cls xd)) else tr D E σ cls xd H
def Kn (tb:TSX)(th:THX):TSX:=λD E σ H=>tb D (λσ' cls xd H'=>th D E σ' cls xd H') σ H
def PHX (X:Cx)(hs:List ExceptHandler)(t:THX):Prop :=
 ∀(pins:List (Addr×Obj)) (s:Shared) (σ:St) (H:Hp) (D:Ends) (E:SXK) (ea:Addr) (cls:Value) (xd:Option Addr),Inv X pins σ H s->XAt X pins H s.heap ea cls xd (some .none)->t D E σ cls xd H ->
  wpAny (model X.prog X.w) X.A (handleBy (.ref ea) X.env hs) (SP X pins D) (XPS X pins E) s
section
variable{X:Cx}{x n:Str}{C:Addr}{np pos:Pos}{b₀:Stmt}{Ko:List Stmt}{rest:List ExceptHandler}{ts:TS}{tr:THX}
theorem CS (F:Fr1 X):PHX X [] (λ_ E σ cls xd H=>E σ cls xd H):=by
 intro pins s σ H D E ea cls xd I hx h;refine wpAny_handleBy_nil ?_;unfold PySem.passOn;obtain⟨ok,sl,vs,he,hz,T,oT,ts,h1,r⟩:=id hx;refine de (ajy he rfl h1 ?_);rw[if_neg (show ¬((si T == ajm)=true) by simp)]
 have step:wpAny (model X.prog X.w) X.A (do setFlight (.ref ea) X.env.frame;throw (.ref ea):Sem Flow) (SP X pins D) (XPS X pins E) s :=
  de (gm I hx λs2 I2 x2=>wpAny_throw ⟨σ,ea,cls,xd,_,H,rfl,I2,x2,by rw[F.fr];exact .inr (.inr ⟨_,rfl⟩),h⟩)
 first
  |exact step
  |exact de (kq step)
theorem Nj {pins:List (Addr×Obj)}{s:Shared}{σ:St}{H:Hp}{ea:Addr}{cls:Value}{xd:Option Addr}{b:Bool}{E:Value->Shared->Prop}{R:Bool->Shared->Prop}(I:Inv X pins σ H s)(hx:XAt X pins H s.heap ea cls xd (some .none))
  (hg:Gl X x) (hm:X.mg x=some (.ref C)) (eb:aiA X.K cls (.ref C)=some b) (h:R b s) (hd:(x == ("__debug__":Str))=false:=by decide) :
  wpAny (model X.prog X.w) (X.A.mark (some (.ref ea))) (eval (.Name x np) X.env) (λc s₁=>wpAny (model X.prog X.w) (X.A.mark (some (.ref ea))) (excMatches (.ref ea) c) R E s₁) E s:=by
 obtain⟨_,sl,vs,he,_⟩:=hx;refine iO (CP I ea) hg hm ?_ hd;have lt:PySem.W.Looks (model X.prog X.w) s.heap (typeOf (.ref ea)) cls:=(PySem.W.Looks.ld he).andThen .now;exact PySem.W.exm_one I.kIn lt eb _ _ _ s (λ_ _ q=>q) h
theorem Nk (hg:Gl X x)(hm:X.mg x=some (.ref C))(hs:∀e,PSs (hcx X e) (b₀::Ko) ts)(hr:PHX X rest tr)(hd:(x == ("__debug__":Str))=false:=by decide) :
  PHX X (.ExceptHandler (some (.Name x np)) none (b₀::Ko) pos::rest) (Sb X.K C ts tr):=by
 intro pins s σ H D E ea cls xd I hx h;unfold Sb at h;obtain⟨b,eb,h⟩:=h;refine wpAny_handleBy_cons (codeAny_handlers_test (Nj I hx hg hm eb ?_ hd)) (by intro q;cases q)
 cases b with
 |true =>
  refine codeAny_handlers_suite (gm I hx λs1 I1 x1=>?_)
  refine kr (hs ea pins s1 σ H D (CP I1 ea) h) (λf s2 q=>?_) λ_ _ z=>aiy z
  cases f with
  |next=>obtain⟨σ',H',I',q⟩:=q;exact⟨σ',H',k9 I.ok I',q⟩
  |brk=>obtain⟨σ',H',I',q⟩:=q;exact⟨σ',H',k9 I.ok I',q⟩
  |cont=>obtain⟨σ',H',I',q⟩:=q;exact⟨σ',H',k9 I.ok I',q⟩
  |ret u=>obtain⟨v,σ',H',I',r,q⟩:=q;exact⟨v,σ',H',k9 I.ok I',r,q⟩
 |false=>exact hr pins s σ H D E ea cls xd I hx h
theorem Ux {i:Nat}(hN:X.N.Nodup)(hi:X.N[i]?=some n)(hl:X.env.scope.names.lookup n=some .local)(hg:Gl X x)(hm:X.mg x=some (.ref C))(hs:∀e,PSs (hcx X e) (b₀::Ko) ts)(hr:PHX X rest tr)(hd:(x == ("__debug__":Str))=false:=by decide) :
  PHX X (.ExceptHandler (some (.Name x np)) (some n) (b₀::Ko) pos::rest) (hAs X.K C i ts tr):=by
 intro pins s σ H D E ea cls xd I hx h;unfold hAs at h;obtain⟨b,eb,h⟩:=h;refine wpAny_handleBy_cons (codeAny_handlers_test (Nj I hx hg hm eb ?_ hd)) (by intro q;cases q)
 cases b with
 |true =>
  refine codeAny_handlers_suite_as (gm I hx λs1 I1 x1=>?_)
  refine qC (X:=hcx X ea) (v:=.ref ea) (CP (Qr I1 x1) ea) hN hi (.inl hl) rfl (λs2 I2=>?_) (.inr hl)
  refine kr (hs ea pins s2 _ _ (Ni D i) I2 (h ea hx.ok.1)) (λf s3 q=>?_) λ_ _ z=>aiy z
  show wpAny _ _ _ _ _ _;cases f with
  |next=>obtain⟨σ',H',I',q⟩:=q;exact CQ (k9 I.ok I') hN hi hl λs4 I4=>⟨_,H',I4,q⟩
  |brk=>obtain⟨σ',H',I',q⟩:=q;exact CQ (k9 I.ok I') hN hi hl λs4 I4=>⟨_,H',I4,q⟩
  |cont=>obtain⟨σ',H',I',q⟩:=q;exact CQ (k9 I.ok I') hN hi hl λs4 I4=>⟨_,H',I4,q⟩
  |ret u=>obtain⟨v,σ',H',I',r,q⟩:=q;exact CQ (k9 I.ok I') hN hi hl λs4 I4=>⟨v,_,H',I4,r,q⟩
 |false=>exact hr pins s σ H D E ea cls xd I hx h
theorem Kp {body:List Stmt}{h₀:ExceptHandler}{hs:List ExceptHandler}{tb:TSX}{th:THX}(F:Fr1 X)(hb:zM X body tb)(hh:PHX X (h₀::hs) th) :
  PSX X (.Try body (h₀::hs) [] [] pos) (Kn tb th):=by
 intro pins s σ H D E I h;unfold Kn at h;refine wpAny_Try_except (kr (hb pins s σ H D _ I h) (λf s1 q=>?_) (λv s1 q=>?_))
 ·cases f with
  |next=>exact wpAny_execs_nil q
  |ret v=>exact q
  |brk=>exact q
  |cont=>exact q
 ·obtain⟨σ',ea,cls,xd,m,H',rfl,I1,hx,hm,q⟩:=q;exact tQ F I1.ok.frames I1 hx hm λs2 I2 x2=>gm I2 x2 λs3 I3 x3=>hh pins s3 σ' H' D E ea cls xd I3 x3 q
end
def agw (tb:TSX)(E:SXK):TS:=λD σ H=>tb D E σ H
section
variable{X:Cx}{tg:Expr}
theorem Kq {iter:Expr}{body:List Stmt}{wi:TI}{g:TG}{tb:TSX}{pos:Pos}(F:Fr1 X)(hc:X.calm=true)(hi:PI X.nox tg iter wi)(hg:PG X.nox tg g)(hb:zM X body tb)
  (hs:∀x,foldedSetIterable iter X.env x=pure x:=by intro _;rfl):PSX X (.For tg iter body [] pos) (λD E σ H=>YR wi g (agw tb E) D σ H):=by
 intro pins s σ H D E I h;refine wpAny_For (kr (hi pins s σ H _ (I.j7 _) h) (λv s1 h1=>kr h1 (λitv s2 h2=>?_) λ_ _ z=>aiy z) λ_ _ z=>aiy z) hs
 obtain⟨it,fp,tn,J,H2,e,I2,T,st2,f2,W,⟨m0,w0⟩,turn⟩:=h2;subst e;have hp:PassesOwn (model X.prog X.w) X.A X.env (XPS X pins E):=Nb F I.ok.frames;have stat:∀ {H':Hp},(∀b∈fp,H' b=none)->∀b∈fp,fj X pins H' b:=λhn b hb=>⟨hn b hb,(f2 b hb).2⟩
 refine codeAny_forLoop_any (λn s'=>∃i σ' H',Inv X pins σ' H' s'/\tn i s'.heap/\(∀b∈fp,H' b=none)/\W i n σ' H') ?_ m0 ⟨0,σ,H2,I2.dD,st2,λb hb=>(f2 b hb).1,w0⟩
 rintro n s3 ⟨i,σ3,H3,I3,st3,fr3,w3⟩;rcases turn i n σ3 H3 w3 with ⟨stop,qn⟩ | ⟨go,N,hN,step⟩
 ·refine wpAny_passesOwn hp (thn (T.done X rfl rfl rfl hc i pins s3 σ3 H3 (XPS X pins E) I3 (stat fr3) st3 stop) λr s4 ⟨hr,I4⟩=>?_)
  subst hr;exact wpAny_execs_nil ⟨σ3,H3,I4,qn⟩
 ·refine wpAny_passesOwn hp (thn (T.item X rfl rfl rfl hc i pins s3 σ3 H3 (XPS X pins E) I3 (stat fr3) st3 go) λr s4 ⟨u,hr,h4⟩=>?_)
  subst hr;refine wpAny_passesOwn hp (thn h4 λ_ s5 ⟨x,H5,I5,r5,y5,st5,fr5⟩=>?_)
  have I5':=I5.pinned (stat fr5) (T.obj _ _ st5);refine wpAny_passesOwn hp (kr (hg _ s5 σ3 H5 x u _ (I5'.j7 _) r5 (step x H5 y5)) (λ_ s6 ⟨σ6,H6,I6,q6⟩=>?_) λ_ _ z=>aiy z)
  refine wpAny_passesOwn hp (kr (hb _ s6 σ6 H6 _ E I6.dD q6) (λf s7 q7=>?_) λ_ _ ⟨σ',z⟩=>⟨σ',z.drop⟩)
  have again:∀ {σ7:St} {H7:Hp},Inv X (pins++zy fp s5.heap) σ7 H7 s7->N σ7 H7->∃m,m < n/\∃i σ' H',Inv X pins σ' H' s7/\tn i s7.heap/\(∀b∈fp,H' b=none)/\W i m σ' H':=λ{σ7 H7} I7 n7=>by
   obtain⟨m',hm,w7⟩:=hN σ7 H7 n7;refine⟨m',hm,i+1,σ7,H7,I7.eR,T.keep _ _ _ st5 λb hb o e=>(I7.pin (b,o) (ka _ (ka _ (gh hb e)))).1,λb hb=>?_,w7⟩
   obtain⟨o,e,d⟩:=T.obj _ _ st5 b hb;exact(I7.pin (b,o) (ka _ (ka _ (gh hb e)))).2.1
  cases f with
  |next=>obtain⟨σ7,H7,I7,n7⟩:=q7;exact again I7 n7
  |cont=>obtain⟨σ7,H7,I7,n7⟩:=q7;exact again I7 n7
  |brk=>obtain⟨σ7,H7,I7,q7⟩:=q7;exact⟨σ7,H7,I7.eR,q7⟩
  |ret v=>obtain⟨x7,σ7,H7,I7,r7,q7⟩:=q7;exact⟨x7,σ7,H7,I7.eR,r7,q7⟩
end
structure GaX (K:bo)(C:Addr):Prop where
 ga:cb K (.ref C) "__getattribute__"=some (some (.builtin "BaseException.__getattribute__"))
 hk:cb K (.ref C) "__getattr__"=some none
 mb:aiE K C (.type "BaseException")=some true
theorem El:Slot "ValueError" "__getattribute__" "BaseException.__getattribute__":=F.attr_ValueError.ga
section
variable{prog:kx}{w:World}{A:Around}{E:Value->Shared->Prop}{s:Shared}{K:bo}{x C:Addr}{ox:Obj}{od:Option Obj}{name:Str}
theorem Nl {M:Model}{Sd:Value}{Q:Unit->Shared->Prop}(X:K.In s.heap)(I:ajQ s.heap x ox C od)(t:GaX K C)(hq:Q () s) :
  wpAny M A (checkBuiltinCall "BaseException.__getattribute__" ⟨[.ref x,Sd],[]⟩) Q E s:=by
 have hk:builtinKind "BaseException.__getattribute__"=some .slot:=by trivial
 have Uy:splitId "BaseException.__getattribute__"=some ("BaseException","__getattribute__"):=by trivial
 have L0:=I.type (M:=M);have L1:=PySem.W.looks_mroIn (M:=M) X t.mb;have ha:=F.args_bexc_ga (.ref x) Sd;obtain⟨hh,g,d,tt,os⟩:=s;simp only[checkBuiltinCall,hk,Uy];refine de ?_;unfold isInstance;refine de (L0.at (L1.at ?_))
 repeat (any_goals (first | assumption | wp_step))
def ain (v:Value)(Q:Value->Shared->Prop):Fin->Shared->Prop:=λfin s'=>match fin with | .done (.ret u)=>u=v/\Q u s' | _=>False
theorem Nm {tk:Tok}{v:Value}{Q:Fin->Shared->Prop}(X:K.In s.heap)(I:ajQ s.heap x ox C od)(hf:aka K C od name=some (.value v))(hq:Q (.done (.ret v)) s) :
  wpAny (model prog w) A (Builtin.«object.__getattribute__» ⟨[.ref x,.str name tk],[]⟩) Q E s:=by
 obtain⟨hh,g,d,tt,os⟩:=s;have L0:=I.type (M:=model prog w);have L1:=PySem.W.looks_find (M:=model prog w) X I hf;unfold Builtin.«object.__getattribute__»;refine de (kq (de (kq (de (L0.at (de (L1.at ?_)))))));exact kq hq
theorem Lm {tk:Tok}{g a:Value}{P:Value->Shared->Prop}(X:K.In s.heap)(I:ajQ s.heap x ox C od)(hf:aka K C od name=some (.bind g a))(h:wpAny (model prog w) A (call g [a,.ref x,.ref C]) P E s) :
  wpAny (model prog w) A (Builtin.«object.__getattribute__» ⟨[.ref x,.str name tk],[]⟩) (λfin s'=>match fin with | .done (.ret v)=>P v s' | _=>False) E s:=by
 obtain⟨hh,gg,d,tt,os⟩:=s;have L0:=I.type (M:=model prog w);have L1:=PySem.W.looks_find (M:=model prog w) X I hf;unfold Builtin.«object.__getattribute__»;refine de (kq (de (kq (de (L0.at (de (L1.at ?_)))))));show wpAny _ _ (holding [a] (call g [a,.ref x,.ref C]) >>= ret) _ _ _;exact de (aiU (kr h (λv s' z=>kq z) λ_ _ z=>z))
theorem Se {tk:Tok}{fill ex:Bool}{Q:Value->Shared->Prop}(X:K.In s.heap)(I:ajQ s.heap x ox C od)(t:GaX K C)
  (h:wpAny (model prog w) A.in1 (Builtin.«object.__getattribute__» ⟨[.ref x,.str name tk],[]⟩) (λfin s'=>match fin with | .done (.ret v)=>PySem.W.handedIn v=true/\Q v s' | _=>False) (λ_ _=>False) s) :
  wpAny (model prog w) A (getAttrBy (.ref x) (.str name tk) fill ex) Q E s:=by
 obtain⟨hh,g,d,tt,os⟩:=s;have L0:=I.type (M:=model prog w);have L1:=ajV (M:=model prog w) X t.ga;have L2:=ajV (M:=model prog w) X t.hk;unfold getAttrBy;refine aiU (de (L0.at (de (L1.at ?_))));show wpAny _ _ (if (onTheHeap (si C) && Value.builtin "BaseException.__getattribute__" == Value.builtin "object.__getattribute__")=true then _ else getAttrByItsOwn _ _ _ _ _ _) _ _ _
 rw[if_neg (by rw[show (Value.builtin "BaseException.__getattribute__" == Value.builtin "object.__getattribute__")=false from by trivial];exactλz=>Bool.noConfusion z)]
 unfold getAttrByItsOwn hookBefore callGetattribute boundAndCalled;refine de ?_;show wpAny _ _ (typeLookup (.ref C) "__getattr__") _ _ _;refine L2.at ?_;refine de (wpAny_attempt (aiU ?_));rw[if_neg (by cases ex <;> decide)]
 refine de (wpAny_of_eq (El.bind _) ?_);show wpAny _ _ (call (.builtin "BaseException.__getattribute__") [.ref x,.str name tk]) _ _ _;refine ajL (codeAny_call_builtin El.plain F.entry_bexc_ga (Nl X I t (kr h (λfin s' z=>?_) λ_ _ z=>z.elim)))
 rcases fin with (_ | _ | _ | _) | _ <;> first | exact PySem.W.handed_on z.1 z.2 | exact z.elim
end
structure mV (K:bo)(C:Addr):Prop where
 ga:GaX K C
 cd:(aiX K C).isSome=true
 ha:cb K (.ref C) "__class__"=some (some (.builtin "object.__class__"))
 hn:ajW K (.builtin "object.__class__") "__get__"=some (some (.builtin "getset_descriptor.__get__"))
 htk:PySem.W.takesIn K (.builtin "object.__class__")=some true
 hm:aiE K C (.type "object")=some true
theorem Nn {K:bo}{C:Addr}(t:mV K C)(od:Option Obj):aka K C od "__class__"=some (.bind (.builtin "getset_descriptor.__get__") (.builtin "object.__class__")):=by
 obtain⟨cd,hc⟩:=Option.isSome_iff_exists.mp t.cd;unfold aka;rw[hc,ajC,t.ha,ajC];simp[t.hn,t.htk]
theorem Kr {K:bo}{C x:Addr}{ox:Obj}{od:Option Obj}(t:mV K C):PySem.W.KitX K (.ref x) (.ref C) (λh=>ajQ h x ox C od) where
 ty:=λ_ _ _ I=>I.type
 it:=λ_ _ X _=>by
  obtain⟨cd,hc⟩:=Option.isSome_iff_exists.mp t.cd;unfold aiX at hc;split at hc
  ·rename_i ho;exactλA' Q' E' s' k q=>by
    unfold isType loadHead;exact de (wpAny_loadPart (k _ _ (X _ _ ho)) (kq q))
  ·cases hc
 ne:=λh tp dd its n sl X htp=>by
  obtain⟨cd,hc⟩:=Option.isSome_iff_exists.mp t.cd;refine Bool.eq_false_iff.mpr λq=>?_
  obtain rfl:C=tp:=Value.ref.inj (beq_iff_eq.mp q);unfold aiX at hc;split at hc
  ·rename_i ho;cases (X _ _ ho).symm.trans htp
  ·cases hc
 ca:=λ{prog w A E Q s} X I k=>by
  unfold getAttr? getAttrBy?;refine de (wpAny_mkText (de (wpAny_attempt (Se (s:={ s with toks:=s.toks+1 }) X I t.ga (kr (Lm (s:={ s with toks:=s.toks+1 }) X I (Nn t _) (P:=λv s'=>v=.ref C/\s'={ s with toks:=s.toks+1 }) (E:=λ_ _=>False)
   (ajL (PySem.W.class_get (s:={ s with toks:=s.toks+1 }) (ox:=ox) X I t.hm ⟨rfl,rfl⟩))) (λfin s' z=>?_) λ_ _ z=>z)))))
  rcases fin with (_ | _ | _ | _) | _ <;> first | (obtain⟨rfl,rfl⟩:=z;exact⟨rfl,kq k⟩) | exact z.elim
section
variable{prog:kx}{w:World}{A:Around}{E:Value->Shared->Prop}{h:Heap}{g:Array GenState}{d:Drawn}{t:Nat}{os:OsState}
variable{nm q:Str}{C N:Addr}{bs bm bmB:List Value}{hdct:Bool}{sn:List Str}{sub:List Value}{ab:Bool}{col:Option Bool}{dd:Option Addr}{k0 k1 k2 k3 k5:Option Value}{B nid iid:String}
abbrev mW (h:Heap)(C:Addr)(us:List Value):Heap:=(h.push { cls:=.type "tuple",data:=.seq us.toArray }).push ⟨.ref C,none,.fields #[.ref h.objs.size,.none,.none,.none,.bool false,.none],#[]⟩
theorem fE {us:List Value}{b:Addr}{o:Obj}(e:h.get? b=some o):(mW h C us).get? b=some o:=gp _ (gp _ e)
theorem zN {us:List Value}:(mW h C us).get? (h.objs.size+1)=some ⟨.ref C,none,.fields #[.ref h.objs.size,.none,.none,.none,.bool false,.none],#[]⟩:=by
 have:=Lk (h.push { cls:=.type "tuple",data:=.seq us.toArray }) (o:=⟨.ref C,none,.fields #[.ref h.objs.size,.none,.none,.none,.bool false,.none],#[]⟩) rfl
 rwa [ajF]at this
theorem HL (F:ExcBaseFacts B nid iid bmB)(T:OwnTail h bmB bm){mN:Str->Option Value}{us:List Value}{Q:Fin->Shared->Prop}
  (kC:h.get? C=some (aiM nm q C N bs bm hdct sn sub ab col dd k0 k1 k2 k3 k5 nid)) (kN:h.Ns N mN) (kI:mN "__init__"=none) (hz:us.length<=gc)
  (hq:∀h',(∀b o,h.get? b=some o->h'.get? b=some o)->(∃tp,h'.get? (h.objs.size+1)=some ⟨.ref C,none,.fields #[.ref tp,.none,.none,.none,.bool false,.none],#[]⟩)->Q (.done (.ret (.ref (h.objs.size+1)))) ⟨h',g,d,t,os⟩) :
  wpAny (model prog w) A (Builtin.«type.__call__» ⟨.ref C::us,[]⟩) Q E ⟨h,g,d,t,os⟩:=by
 repeat (first | with_reducible refine wpAny_loadPart_at kC ?_ | with_reducible refine wpAny_madeBy_exc kC ?_ | wp_step)
 refine codeAny_call_builtin_code (Code.quiet_builtin _ F.quiet) (wpAny_check_new_subT F T kC (codeAny_exc_new_subT F T kC ?_ hz));show wpAny _ _ _ _ _ _;have kC1:(mW h C us).get? C=_:=fE kC;have kN1:(mW h C us).Ns N mN:=kN.keeps λb o e=>fE e
 have T1:OwnTail (mW h C us) bmB bm:=T.keeps λb o e=>fE e
 have kE:=zN (h:=h) (C:=C) (us:=us);have self:(si C::bm).contains (.ref C)=true:=by simp
 unfold isInstance
 repeat (first | with_reducible refine wpAny_loadPart_at kE ?_ | (with_reducible refine wpAny_isSubtype_exc kC1 ?_;rw[self]) | wp_step)
 show wpAny _ _ (typeLookup (.ref C) _) _ _ _;refine wpAny_typeLookup_tail kC1 kN1 T1 F.mroIs F.init.lookup ?_;rw[kI];refine aiU (de (wpAny_of_eq (F.init.bind _) ?_));refine de (ajL (codeAny_call_builtin F.init.plain F.initEntry (wpAny_check_init_subT F T1 kC1 kE rfl ?_)))
 wp_walk
 refine hq _ (λb o e=>?_) ⟨h.objs.size+2,?_⟩
 ·rw[aiP _ _ (Nat.ne_of_gt (Nat.lt_succ_of_lt (ma e)))];exact gp _ (fE e)
 ·refine(ai5 _ (gp _ kE) rfl).trans ?_;simp only[ajF];rfl
theorem Ln (F:ExcBaseFacts B nid iid bmB)(T:OwnTail h bmB bm){mN:Str->Option Value}{us:List Value}{Q:Value->Shared->Prop}
  (kC:h.get? C=some (aiM nm q C N bs bm hdct sn sub ab col dd k0 k1 k2 k3 k5 nid)) (kN:h.Ns N mN) (kI:mN "__init__"=none) (hz:us.length<=gc)
  (hq:∀h',(∀b o,h.get? b=some o->h'.get? b=some o)->(∃tp,h'.get? (h.objs.size+1)=some ⟨.ref C,none,.fields #[.ref tp,.none,.none,.none,.bool false,.none],#[]⟩)->Q (.ref (h.objs.size+1)) ⟨h',g,d,t,os⟩) :
  wpAny (model prog w) A (call (.ref C) us) Q E ⟨h,g,d,t,os⟩:=by
 have l1:=tc_lookup;have l2:=tc_bind (.ref C);have ty:(⟨h,g,d,t,os⟩:Shared).TypeIs (.ref C) "type":=⟨_,kC,rfl⟩;refine ajL (codeAny_of_tree ?_);show wpAny _ _ (callAny (.ref C) _) _ _ _
 repeat (any_goals (first | assumption | with_reducible refine wpAny_loadPart_at kC ?_ | wp_step))
 refine⟨rfl,codeAny_call_builtin_at (Code.quiet_builtin _ (by trivial)) entry_typeCall (wpAny_check_type_call_sub kC (HL F T kC kN kI hz λh' k e=>?_))⟩
 exact hq h' k e
theorem sF {M:Model}{env:Env}{s:Shared}{x:Sem Value}{Q:Flow->Shared->Prop}(zF:bm.contains (.type "BaseException")=true)(hh:A.handled=none)
  (hx:wpAny M A x (λv s₁=>∃(e:Addr) (xd:Option Addr) (a0:Value) (sl:Array (Option Value)),v=.ref e/\s₁.heap.get? C=some (aiM nm q C N bs bm hdct sn sub ab col dd k0 k1 k2 k3 k5 nid) /\
   s₁.heap.get? e=some ⟨.ref C,xd,.fields #[a0,.none,.none,.none,.bool false,.none],sl⟩/\E (.ref e) s₁) E s):wpAny M A (raiseStmt env (some x) none) Q E s:=by
 have top:(si C::bm).contains (.type "BaseException")=true:=by rw[List.contains_cons,zF,Bool.or_true]
 unfold raiseStmt;refine de (kr hx (λv s₁ h₁=>?_) λ_ _ z=>z)
 obtain⟨e,xd,a0,sl,rfl,kC,kE,fin⟩:=h₁;obtain⟨hp,g',d',tk,os'⟩:=s₁
 repeat (first | with_reducible refine wpAny_loadPart_at kE ?_ | with_reducible refine wpAny_loadPart_at kC ?_ | (with_reducible refine wpAny_isSubtype_exc kC ?_;rw[top]) | wp_step)
 exact wpAny_raiseNew_none hh fin
end
abbrev oq:List Value:=[.type "ValueError",.type "Exception",.type "BaseException",.type "object"]
def strKeys (es:Array ajp):Bool:=es.toList.all λe=>match e.key with | .str _ _=>true | _=>false
structure CT (K:bo)(N:Addr):Prop where
 ex:∃(c:Value) (dd:Option Addr) (es:Array ajp) (n:Nat) (sl:Array (Option Value)),K.lookup N=some ⟨c,dd,.dict es n,sl⟩/\strKeys es=true
 no:eg K N "__init__"=some none
theorem CT.ns {K:bo}{N:Addr}(x:CT K N){h:Heap}(X:K.In h):∃mN,h.Ns N mN/\mN "__init__"=none:=by
 obtain⟨⟨c,dd,es,n,sl,l,sk⟩,no⟩:=x;have ns:h.Ns N (nsFind es):=⟨_,es,n,X _ _ l,rfl,λe he=>by
  have z:=List.all_eq_true.mp sk e (Array.mem_toList_iff.mpr he);cases hk:e.key with
  |str y t=>exact⟨y,t,rfl⟩
  |_=>rw[hk]at z;exact absurd z kg,λ_=>rfl⟩
 refine⟨_,ns,?_⟩;unfold eg at no;rw[l]at no;dsimp only at no;unfold nsFind findBy;rw[<-Array.find?_toList];cases hf:es.toList.find? (λe=>e.key.isStr "__init__") with
 |none=>rfl
 |some e=>rw[hf]at no;cases no
inductive ic (K:bo):List Value->Prop
 |base:ic K oq
 |own {D:Addr} {c0:Value} {dd:Option Addr} {cd:ajU} {sl:Array (Option Value)} {tl:List Value}:K.lookup D=some ⟨c0,dd,.cls cd,sl⟩->CT K cd.ns->ic K tl->ic K (.ref D::tl)
theorem ic.tail {K:bo}{bm:List Value}(x:ic K bm){h:Heap}(X:K.In h):OwnTail h oq bm:=by
 induction x with
 |base=>exact .base
 |own l n _ ih =>
  obtain⟨mA,a,b⟩:=n.ns X;exact .own (X _ _ l) a b ih
structure Em (K:bo)(C:Addr):Prop where
 ex:∃(nm q:Str) (N:Addr) (bs bm:List Value) (hdct:Bool) (sn:List Str) (sub:List Value) (ab:Bool) (col:Option Bool) (dd:Option Addr) (k0 k1 k2 k3 k5:Option Value),
  K.lookup C=some (aiM nm q C N bs bm hdct sn sub ab col dd k0 k1 k2 k3 k5 "ValueError.__new__")/\CT K N/\ic K bm
section
variable{X:Cx}{x:Str}{C:Addr}{np gj pos:Pos}{e₀:Expr}{rest:List Expr}{ta:TA}
theorem lF (ek:Em X.K C)(hc:X.calm=true)(hg:Gl X x)(hm:X.mg x=some (.ref C))(ha:PA X.nox (e₀::rest) ta)(hdb:(x == ("__debug__":Str))=false:=by decide)
  (he:sr (e₀::rest) X.env=(false,eval e₀ X.env)::sr rest X.env:=by rfl) (hpl:(backTo gj (sr rest X.env)).any (·.1)=false:=by rfl) :
  PSX X (.Raise (some (.Call (.Name x np) (e₀::rest) [] gj)) none pos) (λ_ E σ H=>ta σ H λvs H1=>vs.length<=gc/\E σ (.ref C) none H1):=by
 intro pins s σ H D E I h;obtain⟨nm,q,N,bs,bm,hdct,sn,sub,ab,col,dd,k0,k1,k2,k3,k5,l,n,T⟩:=ek.ex;have go:wpAny (model X.prog X.w) X.A (eval (.Call (.Name x np) (e₀::rest) [] gj) X.env) (λv s₁=>∃(e:Addr) (xd:Option Addr) (a0:Value) (sl:Array (Option Value)),v=.ref e/\s₁.heap.get? C=some (aiM nm q C N bs bm hdct sn sub ab col dd k0 k1 k2 k3 k5 "ValueError.__new__") /\
   s₁.heap.get? e=some ⟨.ref C,xd,.fields #[a0,.none,.none,.none,.bool false,.none],sl⟩/\XPS X pins E (.ref e) s₁) (XPS X pins E) s:=by
  refine wpAny_Call_Name_kw (iO I hg hm ?_ hdb);unfold aj5;rw[he];refine de (aiU (ajX ?_));have ha':=ha gj pins s σ H _ (I.j7 _) h;rw[show X.nox.env=X.env from rfl,he]at ha'
  refine kr ha' (λus s₁ ⟨vs,H1,I1,r,hz,q1⟩=>de (ai1 ?_)) λ_ _ z=>aiy z
  have I1':=I1.dD;have kC:=I1'.kIn _ _ l;obtain⟨mN,kN,kI⟩:=n.ns I1'.kIn;have T1:=T.tail I1'.kIn;have pl:(backTo gj ((false,eval e₀ X.env)::sr rest X.env)).any (·.1)=false:=by
   show (false || (backTo gj (sr rest X.env)).any (·.1))=false
   rw[hpl];rfl
  obtain⟨hp,g',d',tk,os'⟩:=s₁;simp only[pl];refine de (wpAny_keeperOf_exc kC ?_);refine de (Ln (F:=PySem.F.excBase_ValueError) T1 kC kN kI (by rw[List.nil_append,<-r.length];exact hz) λh' k ⟨tp,ke⟩=>de (aiU (wpAny_point (kq ?_))))
  have I2:Inv X pins σ H1 ⟨h',g',d',tk,os'⟩:=I1'.kept (t':=tk) k;refine⟨_,none,_,#[],rfl,k _ _ kC,ke,σ,_,_,none,none,H1,rfl,I2,⟨I1'.vQ (ajn _) (I1'.hok.fresh (ajn _)),_,_,ke,⟨by show 1 < 6;decide,λ_=>rfl⟩,rfl⟩,.inl rfl,q1⟩
 rw[arm_exec_Raise];have hb:bm.contains (.type "BaseException")=true:=(T.tail I.kIn).hasType (b:=true) (by trivial)
 first
  |exact de (ai1 (sF (C:=C) (nm:=nm) (q:=q) (N:=N) (bs:=bs) (bm:=bm) (hdct:=hdct) (sn:=sn) (sub:=sub) (ab:=ab) (col:=col) (dd:=dd) (k0:=k0) (k1:=k1) (k2:=k2) (k3:=k3) (k5:=k5) hb (I.ok.hd hc) (de (kr go (λv s₃ h₃=>de (ai1 (kq h₃))) λ_ _ z=>z))))
  | (simp only[evalOpt,Option.map];exact de (ai1 (sF (C:=C) (nm:=nm) (q:=q) (N:=N) (bs:=bs) (bm:=bm) (hdct:=hdct) (sn:=sn) (sub:=sub) (ab:=ab) (col:=col) (dd:=dd) (k0:=k0) (k1:=k1) (k2:=k2) (k3:=k3) (k5:=k5) hb (I.ok.hd hc) (de (kr go (λv s₃ h₃=>de (ai1 (kq h₃))) λ_ _ z=>z)))))
end
theorem BU {α β:Type}(f:α->β):∀(xs:List α) (n:Nat),(xs.eraseIdx n).map f=(xs.map f).eraseIdx n
 |[],_=>rfl
 |_::_,0=>rfl
 |x::xs,n+1=>by
  show f x::(xs.eraseIdx n).map f=f x::(xs.map f).eraseIdx n;rw[BU f xs n]
section
variable{X:Cx}{pos:Pos}
theorem Vals.insert {xs:List V}{us:List Value}(r:Vals xs us){y:V}{u:Value}(ry:RelV y u)(k:Nat):Vals (xs.take k++y::xs.drop k) (us.take k++u::us.drop k):=(r.take k).append (.cons ry (r.drop k))
def Qs:V->List V->Hp->VK->Prop:=λx vs H Q=>∃(l:Addr) (xs:List V) (i:Int) (k:Nat) (y:V),x=.ref l/\vs=[.int i,y]/\i=(k:Int)/\H l=some (.lst xs)/\k<=xs.length/\xs.length < gc/\Q .non (upd H l (.lst (xs.take k++y::xs.drop k)))
theorem vX:MtM X "list.insert" Qs:=by
 intro pins s σ H x vs v us Q I rx rv h;obtain⟨l,xs,i,k,y,rfl,rfl,hi,hH,hk,hz,q⟩:=h;cases rx;obtain⟨u1,u2,rfl,r1,r2⟩:=rv.two;obtain⟨t,rfl⟩:=r1;obtain⟨z,its,n,r,hl,e⟩:=I.Ec hH;have lim:gc=16777216:=by decide
 have a2:its.toArray.size<=gc:=by rw[ky];omega
 have b:Builtin.List.listFitsIndex i=true:=fitsIndex_both (by omega) (by omega)
 have nb:¬(!Builtin.List.listFitsIndex i)=true:=by rw[b];decide
 refine call_meets F.slot_list_insert ⟨_,e,rfl⟩ F.entry_list_insert (F.args_list_insert_3 _ _ _) (AutoSeq1.list_insert_list_int_val_1 l its.toArray n i t u2 nb a2) ⟨e,?_⟩;refine⟨.non,_,I.MY (its':=its.take k++u2::its.drop k) hH e ?_ (r.insert r2 k) ?_,rfl,q⟩
 ·show (its.toArray.extract 0 (if i < 0 then (i+(its.toArray.size:Int)).toNat else min i.toNat its.toArray.size)).push u2++its.toArray.extract (if i < 0 then (i+(its.toArray.size:Int)).toNat else min i.toNat its.toArray.size)=_
  have e1:(if i < 0 then (i+(its.toArray.size:Int)).toNat else min i.toNat its.toArray.size)=k:=by
   rw[ky,if_neg (by omega)]
   omega
  rw[e1];apply Array.toList_inj.mp;simp;exact List.take_of_length_le (by rw[ajj];omega)
 ·rw[ki,ku,ai4,ajj];omega
end
section
variable{X:Cx}{e:Expr}{te:TE}{y:Str}{j:Nat}{p1 p2 pos:Pos}
def tFR (K:bo)(te:TE)(y:Str):TE:=λσ H Q=>te σ H λx H1=>∃(a:Addr) (d:PyData),x=.ref a/\DV K H1 d x/\d.showable=true/\d.hasDict=false/\d.depth<=60/\d.shown.length+y.length<=gc/\∀z:Str,Q (.str z) H1
theorem len_app (a b:Str):(a++b).length=a.length+b.length:=by
 show (a.cps++b.cps).size=_;simp[Str.length]
theorem Ze (hg:X.A.guards=some [])(hu:X.A.units+64 < cLine)(he:PE X e te):PE X (.JoinedStr [.FormattedValue e 114 none p1,.Constant (.str y) j p2] pos) (tFR X.K te y):=by
 intro pins s σ H Q I h;refine wpAny_JoinedStr ?_;show Joins _ _ _ [eval (.FormattedValue e 114 none p1) X.env,eval (.Constant (.str y) j p2) X.env] _ _ _;refine wpAny_FormattedValue_repr (thn (he pins s σ H _ I h) λv s1 ⟨x,H1,I1,r1,a,d,e1,hd,sh,nd,dp,sz,q⟩=>?_)
 subst e1;obtain rfl:v=si a:=r1;obtain⟨as,rd⟩:=DV.reads I1 d hd rfl;refine pyReprObj_of_reads (h₀:=s1.heap) rd sh (λz=>absurd z (by rw[nd];decide)) hg (by omega) (λ_ _ z=>z) (λh' u tk hk=>?_) (by omega)
 have I2:Inv X pins σ H1 { s1 with heap:=h',toks:=tk }:=I1.kept hk
 have emp:(aiT++d.shown:Str)=d.shown:=by
  apply sD;rw[dU];rfl
 have go:∀(t:Tok) (s2:Shared),Inv X pins σ H1 s2->∃z t',Value.str d.shown t=.str z t'/\(aiT++z).length<=gc/\Joins (model X.prog X.w) X.A X.xe [eval (.Constant (.str y) j p2) X.env] (aiT++z) (λout s₁=>out.length<=gc/\EP X pins σ Q (.str out s₁.toks) { s₁ with toks:=s₁.toks+1 }) s2:=λt s2 I3=>by
  refine⟨_,_,rfl,by rw[emp];omega,Calls.Constant_str ⟨y,_,rfl,?_,?_⟩⟩
  ·rw[emp,len_app];omega
  ·refine⟨by rw[emp,len_app];omega,.str _,H1,(I3.tok _).tok _,⟨_,rfl⟩,q _⟩
 exact wpAny_formatField_str (go _ _ I2) (go _ _ (I2.tok _)) (by omega)
end
theorem Np {K:bo}{a D:Addr}{xs:List V}{te:TE}{Q:VK}{σ:St}{H1:Hp}(Pv:Nat->List V->Hp->Prop)(h0:Pv 0 [] (upd H1 D (.lst [])))(hz:xs.length<=gc)
  (hl:∀i ys H2,i<=xs.length->Pv i ys H2->SqT K H2 a xs/\H2 D=some (.lst ys)/\ys.length=i)
  (hs:∀i x ys H2,xs[i]?=some x->Pv i ys H2->te (some x::σ) H2 (fB D xs.length Pv i ys)) (hd:∀ys H2,Pv xs.length ys H2->Q (.ref D) H2) :
  oj (Itt K a) te σ D H1 Q:=by
 refine⟨λi m ys H=>m=xs.length - i/\i<=xs.length/\Pv i ys H,⟨xs.length,by simp,aiW _,h0⟩,?_⟩
 rintro i m ys H2 ⟨rfl,hi,p⟩;obtain⟨q,q2,q3⟩:=hl i ys H2 hi p;refine⟨q2,?_⟩
 by_cases hlt:i < xs.length
 ·refine .inr ⟨⟨xs,xs[i],q,by simp[hlt]⟩,by omega,λx H3 y=>?_⟩
  obtain⟨e,y⟩:=y;subst e;exact hs i x ys _ (y xs q) p
 ·have e:i=xs.length:=by omega
  subst e;exact .inl ⟨⟨xs,q,ko _⟩,hd ys H2 p⟩
theorem eA {K:bo}{H H':Hp}{t:Addr}{xs:List V}(s:aZ H H')(h:SqT K H t xs):SqT K H' t xs:=by
 rcases h with (h | ⟨o,h⟩) | h
 ·exact .inl (.inl (s _ _ h))
 ·exact .inl (.inr ⟨o,s _ _ h⟩)
 ·exact .inr h
theorem Lo (a b c:Str):(a++b)++c=a++(b++c):=by
 apply sD;rw[dU,dU,dU,dU,ajv]
theorem En (sep:Str):∀(a b:List Str),a≠[]->b≠[]->km sep (a++b)=(km sep a++sep)++km sep b
 |[],_,h,_=>absurd rfl h
 |[x],[],_,h=>absurd rfl h
 |[x],y::b,_,_=>rfl
 |x::x2::a,b,_,hb=>by
  have ih:=En sep (x2::a) b (aiO _ _) hb;show (x++sep)++km sep (x2::a++b)=(((x++sep)++km sep (x2::a))++sep)++km sep b;rw[ih];simp only[Lo]
theorem join_join (sep:Str)(a b:List Str)(ha:a≠[]):km sep (km sep a::b)=km sep (a++b):=by
 cases b with
 |nil=>rw[aji];rfl
 |cons y b=>rw[En sep a (y::b) ha (aiO _ _)];rfl
end L2
namespace L2
open PySem PySem.Spec PySem.Calls PyProof.Rows
def Uz (n:Nat)(Cf:Nat->Addr)(m:Str)(spf:Nat->Sp)(E:XK)(ta:TE):TE:=λσ H Q=>ta σ H λx H1=>∃k,k < n/\∃a dx fs,x=.ref a/\H1 a=some (.ins (Cf k) dx fs)/\fs.lookup m=none/\spf k [x] H1 Q E
section
variable{X:Cx}{o:Expr}{ta:TE}{m:Str}{apos pos:Pos}{n:Nat}{Cf ff:Nat->Addr}{fdf:Nat->kf}{spf:Nat->Sp}{kk:Nat}{ps:List Str}{CX:CXT}{E:XK}
theorem ot {pl:Sem Bool}(he:PE X o ta)(c:∀k,k < n->Cls X.K (Cf k))(hm:∀k,k < n->Meth X.K (Cf k) m (ff k))(F:∀k,k < n->FnOk X.prog X.w X.K X.mg X.base CX kk (ff k) (fdf k) ps (spf k))(hr:Room kk X.A)(hb:∀k,k < n->Binds X.K (fdf k) ps [])
  (hx:Passes CX X E)
  (ht:eval (.Call (.Attribute o m apos) [] [] pos) X.env=(do
   let ov <-eval o X.env
   standAt apos.atName
   let (f,first) <-holding [ov] (getMethod ov m pl)
   aj5 pos f first (backTo pos (sr [] X.env)) (ajR pos (ajh [] X.env))):=by rfl) :
  PE X (.Call (.Attribute o m apos) [] [] pos) (Uz n Cf m spf E ta):=by
 intro pins s σ H Q I h;refine ajo (pl:=pl) (thn (he pins s σ H _ I h) λu s1 ⟨x,H1,I1,rx,k,hk,a,dx,fs,ex,ea,l,q⟩=>?_) ht
 subst ex;obtain rfl:u=si a:=rx;refine jd I1 ea (c k hk) (hm k hk) l ?_;exact PySem.W.callWith_K0 (first:=[.ref a]) I1.kIn (hm k hk).kp (CC (us:=[.ref a]) (vs:=[.ref a]) (dvs:=[]) (F k hk) hr (hb k hk) .nil hx I1 (.cons rfl .nil) q)
theorem Zf {P:kx}{w:World}{K:bo}{mg:Str->Option Value}{base:Heap}{CX:CXT}{k:Nat}{f:Addr}{fd:kf}{ps:List Str}{sp sp':Sp}(F:FnOk P w K mg base CX k f fd ps sp)(G:FnOk P w K mg base CX k f fd ps sp') :
  FnOk P w K mg base CX k f fd ps (λvs H Q E=>sp vs H Q E\/sp' vs H Q E) :=
 ⟨λvs H Q E z=>z.elim (F.len vs H Q E) (G.len vs H Q E),λa b c H d e vs Q E p q r s z=>z.elim (F.run a b c H d e vs Q E p q r s) (G.run a b c H d e vs Q E p q r s)⟩
end
def KeysAre:List ajp->List Str->Prop
 |[],ns=>ns=[]
 |e::r,ns=>∃x xs t,ns=x::xs/\e.key=.str x t/\KeysAre r xs
structure Ks (P:Params)(K:bo)(a:Addr)(ns:List Str):Prop where
 ex:∃es n,K.lookup a=some ⟨.type "dict",none,.dict es n,#[]⟩/\PySem.W.KeysLit P es.toList/\KeysAre es.toList ns
 nd:ns.Nodup
 lo:(a == ajP)=false
theorem HM {prog:kx}{w:World}:∀(es:List ajp) (ns:List Str),PySem.W.KeysLit w.params es->KeysAre es ns->∃kvs:List (Str×Value),Pairs (strKind prog w) es kvs/\kvs.map (·.1)=ns:=by
 intro es
 induction es with
 |nil =>
  intro ns _ h;have h':ns=[]:=h;subst h';exact⟨[],by first | exact .nil | exact trivial | exact rfl | constructor,rfl⟩
 |cons e r ih =>
  rintro ns ⟨⟨x,t,e1,e2⟩,hk⟩ ⟨y,ys,t',rfl,e3,hr⟩;obtain⟨kvs,h1,h2⟩:=ih ys hk hr;rw[e1]at e3;injection e3 with e4 _
  subst e4;exact⟨(x,e.val)::kvs,.cons (by rw[e1];exact strKind_is prog w x t) rfl h1,by rw[ra,h2]⟩
theorem Ks.at {prog:kx}{w:World}{K:bo}{a:Addr}{ns:List Str}(T:Ks w.params K a ns):∃(kvs:List (Str×Value)) (n:Nat),kvs.map (·.1)=ns/\∀h:Heap,K.In h->h.DictAt (strKind prog w) a kvs n:=by
 obtain⟨es,n,hl,hk,ha⟩:=T.ex;obtain⟨kvs,h1,h2⟩:=HM (prog:=prog) es.toList ns hk ha;refine⟨kvs,n,h2,λh X=>⟨_,es,X _ _ hl,⟨rfl,rfl,rfl⟩,rfl,λe he=>?_,h1,by rw[h2];exact T.nd⟩⟩
 obtain⟨x,t,e1,e2⟩:=hk.all e (Array.mem_toList_iff.mpr he);exact⟨x,by rw[e1];exact strKind_is prog w x t,e2⟩
def Eo (n:Nat)(Pv:Nat->List V->Hp->Prop)(i:Nat)(ys:List V)(H4:Hp):Prop:=∃m',m' < n - i/\m'=n - (i+1)/\i+1<=n/\Pv (i+1) ys H4
theorem Eo.mk {n:Nat}{Pv:Nat->List V->Hp->Prop}{i:Nat}{ys:List V}{H4:Hp}(hi:i < n)(h:Pv (i+1) ys H4):Eo n Pv i ys H4:=⟨n - (i+1),by omega,rfl,hi,h⟩
end L2
namespace L2
open PySem PySem.Spec PyProof.Rows
section
variable{X:Cx}
theorem BV:OpR X (ajw .LtE) (λx y H Q=>∃i j,x=.str i/\y=.str j/\Q (.bl (!decide (j.cps.toList < i.cps.toList))) H):=by
 intro pins s σ H x y v u Q I rx ry h;obtain⟨i,j,rfl,rfl,q⟩:=h;obtain⟨t,rfl⟩:=rx;obtain⟨t',rfl⟩:=ry;exact PySem.P.le_str ⟨.bl _,H,I,rfl,q⟩
theorem Bj:iu X (.type "int") (λxs H Q=>∃(z:Str) (n:Int),xs=[.str z]/\PySem.intText? z=some n/\z.length<=640/\Q (.int n) H):=by
 intro pins s σ H xs us Q I r h;obtain⟨z,n,rfl,hn,hl,q⟩:=h;obtain⟨u,rfl,rx⟩:=Vals.one r;obtain⟨t,rfl⟩:=rx;exact PySem.W.KIN.call_text hn hl ⟨.int n,H,I.tok _,⟨_,rfl⟩,q⟩
end
def Itz (x:Str):It:=⟨λi _=>i < x.cps.size,λi H v H'=>H'=H/\∃c,x.cps[i]?=some c/\v=.str ⟨#[c]⟩,λi _=>x.cps.size<=i⟩
theorem Lp {P:kx}{w:World}{K:bo}{tg:Expr}(it:Addr)(x:Str)(t:Tok):Turn P w K tg (Itz x) [it] it (λi h=>h.IsStrIter it "str_ascii_iterator" x t i) where
 mem:=by simp
 obj:=λi h st b hb=>by
  have e:b=it:=by simpa using hb
  subst e;obtain⟨o,e,c,d⟩:=st;exact⟨o,e,λv z=>by rw[d]at z;cases z⟩
 keep:=λi h h' st k=>let ⟨o,e,r⟩:=st;⟨o,k it (by simp) o e,r⟩
 item:=by
  intro X hP hw hK hc i pins s σ H E I hf st hg;subst hP hw hK;obtain⟨f0,f1,f2,f3,f4,f5⟩:=hf it (by simp)
  have hg':i < x.cps.size:=hg;refine wpAny_pyNext_ascii_item st (c:=x.cps[i]) (by simp[hg']) λh' st' sb=>?_
  have I1:Inv X pins σ H { s with heap:=h',toks:=s.toks+1 }:=I.turned (λb o hb e=>(sb.2 b hb).trans e) f0 f1 f3 f4 f5
  obtain⟨o,e,c,d⟩:=id st';exact⟨_,rfl,D8 (s:={ s with heap:=h',toks:=s.toks+1 }) e c d (by decide) ⟨.str ⟨#[x.cps[i]]⟩,H,I1,⟨_,rfl⟩,⟨rfl,_,by simp[hg'],rfl⟩,st',λb hb=>(hf b hb).1⟩⟩
 done:=by
  intro X hP hw hK hc i pins s σ H E I hf st hg;subst hP hw hK;obtain⟨f0,f1,f2,f3,f4,f5⟩:=hf it (by simp)
  have hg':x.cps.size<=i:=hg;exact wpAny_pyNext_ascii_end (I.ok.hd hc) st (by simp[hg']) λh' eb=>⟨rfl,I.turned (t':=s.toks) (λb o hb e=>eb b o hb e) f0 f1 f3 f4 f5⟩
 self:=λ_ _ _ _ _ st h=>wpAny_pyIter_striter_ascii st h
theorem Lq {P:kx}{w:World}{K:bo}{tg:Expr}(it:Addr)(x:Str)(t:Tok):Turn P w K tg (Itz x) [it] it (λi h=>h.IsStrIter it "str_iterator" x t i) where
 mem:=by simp
 obj:=λi h st b hb=>by
  have e:b=it:=by simpa using hb
  subst e;obtain⟨o,e,c,d⟩:=st;exact⟨o,e,λv z=>by rw[d]at z;cases z⟩
 keep:=λi h h' st k=>let ⟨o,e,r⟩:=st;⟨o,k it (by simp) o e,r⟩
 item:=by
  intro X hP hw hK hc i pins s σ H E I hf st hg;subst hP hw hK;obtain⟨f0,f1,f2,f3,f4,f5⟩:=hf it (by simp)
  have hg':i < x.cps.size:=hg;refine wpAny_pyNext_wide_item st (c:=x.cps[i]) (by simp[hg']) λh' st' sb=>?_
  have I1:Inv X pins σ H { s with heap:=h',toks:=s.toks+1 }:=I.turned (λb o hb e=>(sb.2 b hb).trans e) f0 f1 f3 f4 f5
  obtain⟨o,e,c,d⟩:=id st';exact⟨_,rfl,D8 (s:={ s with heap:=h',toks:=s.toks+1 }) e c d (by decide) ⟨.str ⟨#[x.cps[i]]⟩,H,I1,⟨_,rfl⟩,⟨rfl,_,by simp[hg'],rfl⟩,st',λb hb=>(hf b hb).1⟩⟩
 done:=by
  intro X hP hw hK hc i pins s σ H E I hf st hg;subst hP hw hK;obtain⟨f0,f1,f2,f3,f4,f5⟩:=hf it (by simp)
  have hg':x.cps.size<=i:=hg;exact wpAny_pyNext_wide_end (I.ok.hd hc) st (by simp[hg']) λh' eb=>⟨rfl,I.turned (t':=s.toks) (λb o hb e=>eb b o hb e) f0 f1 f3 f4 f5⟩
 self:=λ_ _ _ _ _ st h=>wpAny_pyIter_striter_wide st h
section
variable{X:Cx}{tg:Expr}
def agx (tl:TE):TI:=λσ H R=>tl σ H λx H1=>∃z,x=.str z/\R (Itz z) H1
theorem Nq {l:Expr}{tl:TE}(hl:PE X l tl):PI X tg l (agx tl):=by
 intro pins s σ H R I h;refine thn (hl pins s σ H _ I h) λv s1 ⟨x,H1,I1,r1,z,e,q⟩=>?_
 subst e;obtain⟨t,rfl⟩:=r1;have fp:∀b∈[s1.heap.objs.size],fj X pins H1 b:=λb hb=>by
  have e:b=s1.heap.objs.size:=by simpa using hb
  subst e;exact I1.vQ (ko _) (I1.hok.fresh (ko _))
 cases ha:z.cps.all (· < 128)
 ·exact wpAny_pyIter_wide ha ⟨s1.heap.objs.size,[s1.heap.objs.size],_,_,H1,rfl,I1.kept (t':=s1.toks) λb o e=>gp _ e,Lq _ z t,⟨_,Lk _ rfl,rfl,rfl⟩,fp,q⟩
 ·exact wpAny_pyIter_ascii ha ⟨s1.heap.objs.size,[s1.heap.objs.size],_,_,H1,rfl,I1.kept (t':=s1.toks) λb o e=>gp _ e,Lp _ z t,⟨_,Lk _ rfl,rfl,rfl⟩,fp,q⟩
end
theorem Nr {z:Str}{D:Addr}{te:TE}{Q:VK}{σ:St}{H1:Hp}(Pv:Nat->List V->Hp->Prop)(h0:Pv 0 [] (upd H1 D (.lst [])))(hz:z.cps.size<=gc)
  (hl:∀i ys H2,i<=z.cps.size->Pv i ys H2->H2 D=some (.lst ys)/\ys.length=i)
  (hs:∀i c ys H2,z.cps[i]?=some c->Pv i ys H2->te (some (.str ⟨#[c]⟩)::σ) H2 (fB D z.cps.size Pv i ys)) (hd:∀ys H2,Pv z.cps.size ys H2->Q (.ref D) H2) :
  oj (Itz z) te σ D H1 Q:=by
 refine⟨λi m ys H=>m=z.cps.size - i/\i<=z.cps.size/\Pv i ys H,⟨z.cps.size,by simp,aiW _,h0⟩,?_⟩
 rintro i m ys H2 ⟨rfl,hi,p⟩;obtain⟨q2,q3⟩:=hl i ys H2 hi p;refine⟨q2,?_⟩
 by_cases hlt:i < z.cps.size
 ·refine .inr ⟨hlt,by omega,λx H3 y=>?_⟩
  obtain⟨e,c,y,ex⟩:=y;subst e ex;exact hs i c ys _ y p
 ·have e:i=z.cps.size:=by omega
  subst e;exact .inl ⟨ko _,hd ys H2 p⟩
theorem BW {z:Str}{D:Addr}{te:TE}{Q:VK}{σ:St}{H1:Hp}(p:Nat->Bool)(hz:z.cps.size<=gc)(hD:H1 D=none)
  (hs:∀(c:Nat) (H2:Hp) (Q2:VK),c∈z.cps.toList->aZ H1 H2->(∀H3,aZ H2 H3->Q2 (.bl (p c)) H3)->te (some (.str ⟨#[c]⟩)::σ) H2 Q2)
  (hd:∀H2,aZ H1 H2->H2 D=some (.lst ((z.cps.toList.map p).map V.bl))->Q (.ref D) H2):oj (Itz z) te σ D H1 Q:=by
 refine Nr (λi ys H2=>ys=((z.cps.toList.take i).map p).map V.bl/\aZ H1 H2/\H2 D=some (.lst ys)) ⟨by simp,aI hD,ae⟩ hz ?_ ?_ ?_
 ·rintro i ys H2 hi ⟨rfl,s2,h2⟩;exact⟨h2,by simp;omega⟩
 ·rintro i c ys H2 hi ⟨rfl,s2,h2⟩;have hi':z.cps.toList[i]?=some c:=by rw[Array.getElem?_toList];exact hi
  refine hs c H2 _ (aiK hi') s2 λH3 s3=>?_
  refine fB.mk (Array.getElem?_eq_some_iff.mp hi).1 (s3 _ _ h2) ⟨?_,(s2.trans s3).own hD,ae⟩;rw[aj0,hi'];simp
 ·rintro ys H2 ⟨rfl,s2,h2⟩;refine hd H2 s2 (h2.trans ?_);rw[List.take_of_length_le (by simp)]
inductive UA:List Expr->List Str->Prop
 |nil:UA [] []
 |cons {x:Str} {j:_} {p:Pos} {es:List Expr} {ss:List Str}:UA es ss->UA (.Constant (.str x) j p::es) (x::ss)
structure ie (scope outer:Scope)(xs N M:List Str):Prop where
 kind:scope.kind=.function
 M5:outer.kind=.function
 zJ:∀y∈scope.names,y.2≠.cell
 names:∀y∈scope.names,y.2=.local->scope.names.lookup y.1=some .local
 hx:∀x∈xs,scope.names.lookup x=some .local
 free:∀y∈scope.names,y.2=.free->outer.names.lookup y.1=some .cell
 nl:∀n∈M,(cX scope outer).names.lookup n≠some .local
 nd2:(xs++M).Nodup
 nd:N.Nodup
 len:M.length=N.length
 rel:∀i:Nat,i < N.length->M[i]?=N[i]?\/M[i]?=some aiT
 em:(cX scope outer).names.lookup aiT=none
theorem ie.mem {scope outer:Scope}{xs:List Str}{N M:List Str}(S:ie scope outer xs N M){n:Str}{k:NameKind}(h:(cX scope outer).names.lookup n=some k)(hk:k=.cell\/k=.free) :
  k=.cell/\(n,ajq)∈scope.names/\outer.names.lookup n=some .cell:=by
 obtain⟨⟨n',k'⟩,hm,e⟩:=List.mem_map.mp (ajx h);dsimp only at e
 by_cases hc:(k' == ajq && outer.kind == .function && outer.names.lookup n' == some .cell)=true
 ·rw[if_pos hc]at e;injection e with e1 e2
  subst e1 e2;rw[aiN,aiN]at hc;have hk':k'=.free:=beq_iff_eq.mp hc.1.1;subst hk';exact⟨rfl,hm,beq_iff_eq.mp hc.2⟩
 ·rw[if_neg hc]at e;injection e with e1 e2
  subst e1 e2;rcases hk with z | z
  ·exact absurd z (S.zJ _ hm)
  ·subst z
   exfalso
   refine hc ?_;rw[S.free _ hm rfl,S.M5];rfl
def gb (X:Cx)(xs M:List Str)(scope:Scope)(cl:List (Str×Addr))(C:Addr)(s:Shared)(H:Hp)(fp:List Addr):Cx :=
 { X with N:=xs++M,s₀:=s,H₀:=H,env:=compEnvC scope cl C X.env,outer:=X.stack,ex:=fp,fn:=λ_=>false,pn:=[],xe:=λ_ _=>False }
def BX (n:Nat)(J:It)(g:TG)(te:TEX)(σ:St)(D:Addr)(H1:Hp)(Q:VK)(E:XK):Prop:=∃W:Nat->Nat->List V->Hp->Prop,(∃m,W 0 m [] (upd H1 D (.lst [])))/\∀i m ys H2,W i m ys H2 ->
 H2 D=some (.lst ys)/\((J.stop i H2/\Q (.ref D) H2)\/(J.go i H2/\ys.length < gc/\∀x H3,J.yld i H2 x H3->∀vs:St,vs.length=n->g x (vs++σ) H3 λσ' H4=>∃ws:St,ws.length=n/\σ'=ws++σ /\
  te σ' H4 (λy H5=>H5 D=some (.lst ys)/\∃m',m' < m/\W (i+1) m' (ys++[y]) (upd H5 D (.lst (ys++[y])))) E))
def Nt (n:Nat)(wi:TI)(g:TG)(te:TEX):TEX:=λσ H Q E=>wi σ H λJ H1=>∀D,H1 D=none->BX n J g te σ D H1 Q E
section
variable{prog:kx}{w:World}{A:Around}{R:Result->Shared->Prop}{s:Shared}
theorem HN {elt target iter:Expr}{scope:Scope}{pos:Pos}{it acc:Value}{env:Env}(I:Nat->Shared->Prop)
  (turn:∀n s,I n s->wpAny (model prog w) A (pyNext it) (λr s₁=>match r with
   |none=>R (.ok .next) s₁
   |some v=>wpAny (model prog w) A (letOwnedTupleGo target it v) (λ_ s₀=>wpAny (model prog w) A (assign target env v) (λ_ s₂ =>
     wpAny (model prog w) A (eval elt env) (λx s₄ =>
       wpAny (model prog w) A (call (.builtin "list.append") [acc,x]) (λ_ s₅=>∃m,m < n/\I m s₅) (notedBy (model prog w) A env λe s'=>R (.error e) s') s₄) (notedBy (model prog w) A env λe s'=>R (.error e) s') s₂)
      (notedBy (model prog w) A env λe s'=>R (.error e) s') s₀) (notedBy (model prog w) A env λe s'=>R (.error e) s') s₁) (notedBy (model prog w) A env λe s'=>R (.error e) s') s)
  (n:Nat) (h:I n s) :
  codeAny (model prog w) A (.compLoop (.ListComp elt [⟨target,iter,[],0⟩] scope pos) 0 it acc env) R s:=by
 refine codeAny_loop rfl I (λn s hI=>?_) n h
 show wpAny _ A ((compTurn (.ListComp elt [⟨target,iter,[],0⟩] scope pos) 0 it acc env).onRaise (λx=>do noteFrame x env;theTreesLotGoes x)) _ _ s
 refine wpAny_noted ?_;rw[compTurn_list];refine de (ai1 (de (kr (turn n s hI) (λr s₁ h₁=>?_) λ_ _ h'=>h')))
 cases r with
 |none=>exact kq h₁
 |some v =>
  refine de (kr h₁ (λ_ s₀ h₀=>?_) λ_ _ h'=>h')
  refine de (kr h₀ (λ_ s₂ h₂=>de (wpAny_tests_nil ?_)) λ_ _ h'=>h')
  exact de (de (kr h₂ (λx s₄ h₄=>de (kr h₄ (λ_ s₅ h₅=>kq (kq ⟨rfl,h₅⟩)) λ_ _ h'=>h')) λ_ _ h'=>h'))
end
section
variable{X:Cx}{pins:List (Addr×Obj)}{σ:St}{H:Hp}{s:Shared}{elt iter tg:Expr}{xs:List Str}{px pos:Pos}{scope:Scope}{wi:TI}{te:TEX}{g:TG}{Q:VK}{E:XK}{M:List Str}
theorem Nu {cl:List (Str×Addr)}{C:Addr}{fp:List Addr}(S:ie scope X.env.scope xs X.N M)(I:Inv X pins σ H s)(hC:s.heap.objs.size<=C)(p1:∀n c,cl.lookup n=some c->X.env.cells.lookup n=some c)
  (p3:∀y∈scope.names,y.2=.free->(cl.lookup y.1).isSome=true) (f2:∀b∈fp,fj X pins H b) (fo:∀b∈fp,b < s.heap.objs.size):(gb X xs M scope cl C s H fp).Ok where
 mod:=I.ok.mod
 kind:=S.kind
 glob:=I.ok.glob
 blt:=I.ok.blt
 above:=hC
 inj:=λy z c h1 h2=>I.ok.inj y z c (p1 y c h1) (p1 z c h2)
 has:=λy hy=>by
  have hy':(cX scope X.env.scope).names.lookup y=some .cell\/(cX scope X.env.scope).names.lookup y=some .free:=hy;have hm:(y,ajq)∈scope.names:=by
   rcases hy' with z | z
   ·exact(S.mem z (.inl rfl)).2.1
   ·exact(S.mem z (.inr rfl)).2.1
  exact Option.isSome_iff_exists.mp (p3 _ hm rfl)
 cab:=λy c h=>absurd h kg
 hd:=I.ok.hd
 frames:=I.ok.frames
 stk:=.inl rfl
 exf:=λb hb=>⟨wt (tm (fo b hb) hC),λy c e=>(f2 b hb).2.2.2.2.1 y c (p1 y c e)⟩
 bs:=I.bs
 bsz:=rf I.ok.bsz I.sz
 xZ:=λb o e hb=>by
  rcases (f2 b hb).2.2.2.1 with z | z
  ·exact I.ok.xZ b o e z
  ·exact absurd (tm (ma (I.ok.bs b o e).1) z) (akd _)
 ya:=λb hb z=>by
  rcases List.mem_cons.mp (I.zv b z) with e | e
  ·exact(f2 b hb).2.1 e
  ·exact(f2 b hb).2.2.1 e
 og:=I.stack
 frf:=I.zg
theorem Lr {cl:List (Str×Addr)}{C D:Addr}{fp:List Addr}{h₁:Heap}{tk:Nat}{m:Str->Option Value}(S:ie scope X.env.scope xs X.N M)(I:Inv X pins σ H s)(hC:s.heap.objs.size<=C)(hD:s.heap.objs.size<=D)(hDC:D≠C)
  (p1:∀n c,cl.lookup n=some c->X.env.cells.lookup n=some c)
  (p3:∀y∈scope.names,y.2=.free->(cl.lookup y.1).isSome=true) (f2:∀b∈fp,fj X pins H b) (fo:∀b∈fp,b < s.heap.objs.size)
  (old:∀b o,s.heap.get? b=some o->h₁.get? b=some o) (hn:h₁.Ns C m) (hl:h₁.get? D=some { cls:=.type "list",data:=.seq ([]:List Value).toArray }) :
  Inv (gb X xs M scope cl C s H fp) [] (aj6 xs.length none++σ) (upd H D (.lst [])) { s with heap:=h₁,toks:=tk }:=by
 have cellK:∀c v,s.heap.IsCell c v->h₁.IsCell c v:=λc v ⟨o,e,d⟩=>⟨o,old c o e,d⟩
 refine⟨Nu S I hC p1 p3 f2 fo,rfl,I.bare,Un.laid old hD (I.hok.fresh hD),⟨m,hn,λi n v h1 h2 h3=>?_⟩,λy c e=>?_,?_,λy c e=>?_,λp hp=>absurd (show p∈([]:List (Addr×Obj)) from hp) (by simp),I.hok.laid old hD ⟨aiW _,[],0,.nil,hl⟩,?_⟩
 ·have h1':(xs++M)[i]?=some n:=h1
  by_cases hi:i < xs.length
  ·rw[ajz (by rw[ajA];exact hi),List.getElem?_replicate,if_pos hi]at h2
   cases h2
  ·rw[ajs (by omega)]at h1'
   rw[ajs (by rw[ajA];omega),ajA]at h2
   generalize i - xs.length=i at h1' h2;have h3':(cX scope X.env.scope).names.lookup n=some .local\/(cX scope X.env.scope).names.lookup n=some .cell\/(cX scope X.env.scope).names.lookup n=some .free:=h3;have kO:(cX scope X.env.scope).names.lookup n=some .cell/\(n,ajq)∈scope.names/\X.env.scope.names.lookup n=some .cell:=by
    rcases h3' with z | z | z
    ·exact absurd z (S.nl n (aiK h1'))
    ·exact⟨z,(S.mem z (.inl rfl)).2⟩
    ·exact absurd (S.mem z (.inr rfl)).1 (by decide)
   have agy:X.N[i]?=some n:=by
    have hi:i < X.N.length:=by rw[<-S.len];exact(List.getElem?_eq_some_iff.mp h1').1
    rcases S.rel i hi with z | z
    ·rw[<-z];exact h1'
    ·rw[h1']at z;have e:n=aiT:=aix z;rw[e,S.em]at kO;cases kO.1
   obtain⟨m0,hn0,hl0⟩:=I.loc;obtain⟨u,r,l⟩:=hl0 i n v agy h2 (.inr (.inl kO.2.2));refine⟨u,r,.inr ⟨.inl kO.1,?_⟩⟩;obtain⟨c,hc⟩:=Option.isSome_iff_exists.mp (p3 _ kO.2.1 rfl);refine⟨c,hc,?_⟩;rcases l with ⟨k,_⟩ | ⟨_,c',hc',z⟩
   ·have k':X.env.scope.names.lookup n=some .local:=k;rw[kO.2.2]at k';cases k'
   ·rw[p1 n c hc]at hc';cases hc';exact cellK c _ z
 ·obtain⟨v,z⟩:=I.cell y c (p1 y c e);exact⟨v,cellK c v z⟩
 ·show (upd H D (.lst [])) C=none;rw[av (aiD hDC)];exact I.hok.fresh hC
 ·obtain⟨v,z⟩:=I.cell y c (p1 y c e);rw[av (wt (tm z.lt hD))];exact I.jN y c (p1 y c e)
 ·show (aj6 xs.length none++σ).length=(xs++M).length;rw[ki,ki,ajA,I.len,S.len]
def XPC (X:Cx)(pins:List (Addr×Obj))(σ:St)(E:XK)(C:Addr)(ea:Addr)(s':Shared):Prop :=
 ∃(cls:Value) (xd:Option Addr) (m:Value) (H':Hp) (o:Obj),Inv X (pins++[(C,o)]) σ H' s'/\(∃mC,s'.heap.Ns C mC)/\X.s₀.heap.objs.size<=C/\(∀y c,X.env.cells.lookup y=some c->c≠C)/\(∀p∈X.pn++pins,p.1≠C)/\XAt X (pins++[(C,o)]) H' s'.heap ea cls xd (some m)/\E cls xd H'
theorem HP {cl:List (Str×Addr)}{RR:Value->Addr->Result->Shared->Prop}{xe:Value->Shared->Prop}(F1:Fr1 X)(S:ie scope X.env.scope xs X.N M)(hc:X.calm=true)(hi:PI X.nox tg iter wi)
  (hg:∀cl C s H fp,PG (gb X xs M scope cl C s H fp) tg g)
  (he:∀cl C s H fp,PEX (gb X xs M scope cl C s H fp) elt te) (I:Inv X pins σ H s) (h:Nt xs.length wi g te σ H Q E)
  (p1:∀n c,cl.lookup n=some c->X.env.cells.lookup n=some c) (p3:∀y∈scope.names,y.2=.free->(cl.lookup y.1).isSome=true)
  (hRR:∀D C H' s' o m,Inv X (pins++[(C,o)]) σ H' s'->s'.heap.get? C=some o->s'.heap.Ns C m->X.s₀.heap.objs.size<=C->(∀y c,X.env.cells.lookup y=some c->c≠C)->(∀p∈X.pn++pins,p.1≠C)->Q (.ref D) H'->RR (.ref D) C (.ok .next) s')
  (hRX:∀D C ea s',XPC X pins σ E C ea s'->RR (.ref D) C (.error (.ref ea)) s') :
  wpAny (model X.prog X.w) X.A (eval iter X.env) (λxv s₁=>wpAny (model X.prog X.w) X.A (pyIter xv) (λit s₂=>wpAny (model X.prog X.w) X.A (newList []) (λacc s₃ =>
   wpAny (model X.prog X.w) X.A (newFunctionEnv scope X.env.globals cl [] X.env.qual none .none (some X.env)) (λCL s₄ =>
    codeAny (model X.prog X.w) X.A (.compStart (.ListComp elt [⟨tg,iter,[],0⟩] scope pos) 0 it acc { CL with scope:=relabel scope X.env }) (RR acc CL.locals) s₄) xe s₃) xe s₂) xe s₁) xe s:=by
 refine kr (hi pins s σ H _ (I.j7 _) h) (λv s1 h1=>kr h1 (λitv s2 h2=>?_) λ_ _ z=>aiy z) λ_ _ z=>aiy z
 obtain⟨it,fp,tn,J,H2,rfl,I2',T,st2,f2',q⟩:=h2;have I2:Inv X pins σ H2 s2:=I2'.dD;have f2:∀b∈fp,fj X pins H2 b:=f2';refine wpAny_newObj_type (wpAny_newFunctionEnv S.zJ (by intro y hy;simp at hy) (λh₁ hns₁ hsb₁=>?_) S.kind)
 dsimp only at hns₁ hsb₁ ⊢;generalize hHH:s2.heap.push { cls:=.type "list",dict:=none,data:=.seq ([]:List Value).toArray }=HH at hns₁ hsb₁ ⊢;have hCs:HH.objs.size=s2.heap.objs.size+1:=by rw[<-hHH,ajF]
 have hDC:s2.heap.objs.size≠HH.objs.size:=by rw[hCs];exact wt (Nat.lt_succ_self _)
 have M7:s2.heap.objs.size<=HH.objs.size:=by rw[hCs];exact ajn _
 have below:∀b,b < s2.heap.objs.size->b≠HH.objs.size:=λb hb=>by rw[hCs];exact wt (Nat.lt_succ_of_lt hb)
 have old:∀b o,s2.heap.get? b=some o->h₁.get? b=some o:=λb o e=>hsb₁.extBut b o (below b (ma e)) (gp _ (hHH▸gp _ e))
 have Us:h₁.get? s2.heap.objs.size=some { cls:=.type "list",data:=.seq ([]:List Value).toArray }:=hsb₁.extBut _ _ hDC (gp _ (hHH▸Lk _ rfl));have fo:∀b∈fp,b < s2.heap.objs.size:=λb hb=>by
  obtain⟨o,e,_⟩:=T.obj _ _ st2 b hb;exact ma e
 have IY:=Lr (tk:=s2.toks+([]:List (Str×Value)).length) S I2 M7 (ko _) hDC p1 p3 f2 fo old hns₁ Us;have st1:tn 0 h₁:=T.keep _ _ _ st2 λb _ o e=>old b o e
 obtain⟨W,⟨m0,w0⟩,turn⟩:=q _ (I2.hok.fresh (ko _));generalize hC:HH.objs.size=C at *;generalize hDD:s2.heap.objs.size=D at *;have Ll:s2.heap.objs.size<=C:=by rw[hDD];exact M7
 have stat:∀ {H':Hp},(∀b∈fp,H' b=none)->∀b∈fp,fj (gb X xs M scope cl C s2 H2 fp) [] H' b:=λhn b hb =>
  ⟨hn b hb,below b (fo b hb),IY.ok.ya b hb,.inl hb,λy c e=>(f2 b hb).2.2.2.2.1 y c (p1 y c e),λp hp=>absurd (show p∈([]:List (Addr×Obj)) from hp) (by simp)⟩
 have out:∀ {H':Hp} {s':Shared} {σ':St} {pl:List (Addr×Obj)},Inv (gb X xs M scope cl C s2 H2 fp) pl σ' H' s'->∃oC mC,Inv X (pins++[(C,oC)]) σ H' s'/\s'.heap.get? C=some oC/\s'.heap.Ns C mC/\fj X pins H' C:=λ{H' s' σ' pl} I4=>by
  obtain⟨m4,hn4,_⟩:=I4.loc;obtain⟨oC,es4,ep4,e4,r4⟩:=id hn4;have IX:Inv X pins σ H' s':=I2.Kb (ch:=fp) I4.os I4.base I4.hok I4.bare λb hb=>⟨(f2 b hb).2.2.2.1,(f2 b hb).2.1,(f2 b hb).2.2.2.2.1,(f2 b hb).2.2.2.2.2⟩
  have fC:=I2.vQ (H':=H') Ll I4.free;have IX2:Inv X (pins++[(C,oC)]) σ H' s':=IX.uN λp hp=>(List.mem_append.mp hp).elim (λz=>IX.pin p (ka _ z)) λz=>by
   have e:p=(C,oC):=by simpa using z
   subst e;exact⟨e4,fC.1,fC.2.1,fC.2.2.1,λv z=>by rw[r4.1]at z;cases z⟩
  exact⟨oC,m4,IX2,e4,hn4,fC⟩
 have exo:∀ {e:Value} {s':Shared} {σ':St} {pl:List (Addr×Obj)},XP (gb X xs M scope cl C s2 H2 fp) pl σ' E e s'->notedBy (model X.prog X.w) X.A (compEnvC scope cl C X.env) (λe s''=>RR (.ref D) C (.error e) s'') e s':=λ{e s' σ' pl} xp=>by
  obtain⟨ea,cls,xd,m,H',rfl,I4,hx,_,qe⟩:=xp;obtain⟨oC,mC,IX2,e4,hn4,fC⟩:=out I4;have fpx:∀ {b:Addr},fj (gb X xs M scope cl C s2 H2 fp) pl H' b->fj X (pins++[(C,oC)]) H' b:=λ{b} z=>by
   have base:fj X pins H' b:=by
    rcases z.2.2.2.1 with y | y
    ·exact⟨z.1,(f2 b y).2⟩
    ·exact I2.vQ y z.1
   refine⟨base.1,base.2.1,base.2.2.1,base.2.2.2.1,base.2.2.2.2.1,λp hp=>?_⟩
   rcases List.mem_append.mp hp with y | y
   ·exact base.2.2.2.2.2 p (aiJ _ y)
   ·rcases List.mem_append.mp y with y | y
    ·exact base.2.2.2.2.2 p (ka _ y)
    ·have e:p=(C,oC):=by simpa using y
     subst e;exactλe=>z.2.1 e.symm
  have hx':XAt X (pins++[(C,oC)]) H' s'.heap ea cls xd m:=by
   obtain⟨ok,sl,vs,he',hz,hm⟩:=hx;refine⟨fpx ok,sl,vs,he',⟨hz.sz,λz=>hz.cx (by first | exact z | rfl)⟩,?_⟩
   cases m with
   |none=>exact hm
   |some m=>obtain⟨T',oT,ts,a,b,c,d⟩:=hm;exact⟨T',oT,ts,a,b,fpx c,d⟩
  have hmk:MOk X m:=by cases m with | none=>exact .inl rfl | some m=>exact .inr (.inr ⟨m,rfl⟩)
  show wpAny _ _ (noteFrame (.ref ea) X.env) _ _ s';refine tQ F1 IX2.ok.frames IX2 hx' hmk λs5 I5 x5=>?_
  refine hRX D C ea s5 ⟨cls,xd,_,H',oC,I5,?_,rf I2.sz Ll,fC.2.2.2.2.1,fC.2.2.2.2.2,x5,qe⟩;have pC:=I5.pin (C,oC) (ka _ (ka _ (by simp)))
  obtain⟨o',es,ep,e0,r⟩:=hn4;rw[e4]at e0;cases e0;exact⟨mC,oC,es,ep,pC.1,r⟩
 have loop:codeAny (model X.prog X.w) X.A (.compLoop (.ListComp elt [⟨tg,iter,[],0⟩] scope pos) 0 (.ref it) (.ref D) (compEnvC scope cl C X.env)) (RR (.ref D) C) { s2 with heap:=h₁,toks:=s2.toks+([]:List (Str×Value)).length }:=by
  refine HN (λn s'=>∃i vs ys H',Inv (gb X xs M scope cl C s2 H2 fp) [] (vs++σ) H' s'/\vs.length=xs.length/\tn i s'.heap/\(∀b∈fp,H' b=none)/\W i n ys H') ?_ m0 ⟨0,aj6 xs.length none,[],_,IY,ajA,st1,λb hb=>?_,w0⟩
  ·rintro n s3 ⟨i,vs,ys,H3,I3,hvs,st3,fr3,w3⟩;obtain⟨hDl,hw⟩:=turn i n ys H3 w3;rcases hw with ⟨stop,qn⟩ | ⟨go,hsz,step⟩
   ·refine thn (T.done (gb X xs M scope cl C s2 H2 fp) rfl rfl rfl hc i [] s3 _ H3 _ I3 (stat fr3) st3 stop) λr s4 ⟨hr,I4⟩=>?_
    subst hr;obtain⟨oC,m4,IX2,e4,hn4,fC⟩:=out I4;exact hRR D C H3 s4 oC m4 IX2 e4 hn4 (rf I2.sz Ll) fC.2.2.2.2.1 fC.2.2.2.2.2 qn
   ·refine thn (T.item (gb X xs M scope cl C s2 H2 fp) rfl rfl rfl hc i [] s3 _ H3 _ I3 (stat fr3) st3 go) λr s4 ⟨u,hr,h4⟩=>?_
    subst hr;refine thn h4 λ_ s5 ⟨xv,H5,I5,r5,y5,st5,fr5⟩=>?_
    have I5':=I5.pinned (stat fr5) (T.obj _ _ st5);refine kr (hg cl C s2 H2 fp _ s5 _ H5 xv u _ I5' r5 (step xv H5 y5 vs hvs)) (λ_ s6 ⟨σ6,H6,I6,ws,hws,e6,q6⟩=>?_) (λ_ _ f=>f.elim)
    subst e6;refine kr (he cl C s2 H2 fp _ s6 _ H6 _ E I6 q6) (λy s7 ⟨yv,H7,I7,r7,hD7,m',hm',w7⟩=>?_) (λ_ _ f=>exo f)
    refine kr (d6 (X:=gb X xs M scope cl C s2 H2 fp) _ s7 _ H7 (.ref D) [yv] (.ref D) [y] (λ_ H8=>H8=upd H7 D (.lst (ys++[yv]))) I7 rfl (.cons r7 .nil) ⟨D,ys,yv,rfl,rfl,hD7,hsz,rfl⟩)
     (λ_ s8 ⟨_,H8,I8,_,e8⟩=>?_) (λ_ _ f=>f.elim)
    subst e8;refine⟨m',hm',i+1,ws,ys++[yv],_,I8.eR,hws,T.keep _ _ _ st5 λb hb o e=>(I8.pin (b,o) (ka _ (ka _ (gh hb e)))).1,λb hb=>?_,w7⟩
    obtain⟨o,e,d⟩:=T.obj _ _ st5 b hb;exact(I8.pin (b,o) (ka _ (ka _ (gh hb e)))).2.1
  ·show (upd H2 D (.lst [])) b=none;rw[av (wt (fo b hb))];exact(f2 b hb).1
 exact codeAny_compStart_list loop (T.self _ 0 _ _ _ st1 loop)
theorem Qt {C ea:Addr}{s':Shared}{h':Heap}{CL:Env}{α:Type}{w1:String}{Q':α->Shared->Prop}(x:XPC X pins σ E C ea s')(hs':Heap.SameBut C s'.heap h') :
  wpAny (model X.prog X.w) X.A (passOn w1 (.ref ea) CL:Sem α) Q' (XP X pins σ E) { s' with heap:=h' }:=by
 obtain⟨cls,xd,m,H',o,I5,⟨mC,hn⟩,h0,h1,h2,hx,qe⟩:=x;have pC:=I5.pin (C,o) (ka _ (ka _ (by simp)))
 have IX:Inv X pins σ H' s':=I5.eR;have I6:Inv X pins σ H' { s' with heap:=h' }:=IX.turned (t':=s'.toks) (λb ob hb e=>(hs'.2 b hb).trans e) pC.2.1 pC.2.2.1 (.inr h0) h1 h2
 have ne:∀ {b:Addr},fj X (pins++[(C,o)]) H' b->b≠C:=λ{b} z e=>z.2.2.2.2.2 (C,o) (ka _ (ka _ (by simp))) e.symm
 obtain⟨ok,sl,vs,he,hz,T,oT,ts,a1,nT,fT,hT,hd,h3⟩:=hx;have x6:XAt X pins H' h' ea cls xd (some m):=⟨ok.drop,sl,vs,(hs'.2 ea (ne ok)).trans he,hz,T,oT,ts,a1,nT,fT.drop,(hs'.2 T (ne fT)).trans hT,hd,h3⟩;unfold PySem.passOn;refine de (ajy (s:={ s' with heap:=h' }) ((hs'.2 ea (ne ok)).trans he) rfl a1 ?_)
 rw[if_neg (show ¬((si T == ajm)=true) by simp)]
 have step:wpAny (model X.prog X.w) X.A (do setFlight (.ref ea) CL.frame;throw (.ref ea):Sem α) Q' (XP X pins σ E) { s' with heap:=h' } :=
  de (gm I6 x6 λs2 I2 x2=>wpAny_throw ⟨ea,cls,xd,_,H',rfl,I2,x2,.inr (.inr ⟨_,rfl⟩),qe⟩)
 first
  |exact step
  |exact de (kq step)
theorem Nv (F1:Fr1 X)(S:ie scope X.env.scope xs X.N M)(hc:X.calm=true)(hi:PI X.nox tg iter wi)(hg:∀cl C s H fp,PG (gb X xs M scope cl C s H fp) tg g)
  (he:∀cl C s H fp,PEX (gb X xs M scope cl C s H fp) elt te)
  (hs:∀x,foldedSetIterable iter X.env x=pure x:=by intro _;rfl):PEX X (.ListComp elt [⟨tg,iter,[],0⟩] scope pos) (Nt xs.length wi g te):=by
 intro pins s σ H Q E I h;obtain⟨cl,M8,p1,p3⟩:=BS (scope:=scope) (env:=X.env) (λy hy hf=>I.ok.has y.1 (.inl (S.free y hy hf)))
 rw[eval_ListComp];refine wpAny_comprehension_free (use:=none) rfl hs M8 S.kind S.names (HP (RR:=λacc C=>compPost (model X.prog X.w) X.A (XP X pins σ E) none (EP X pins σ Q) acc C) F1 S hc hi hg he I h p1 p3 ?_ ?_)
 ·intro D C H' s' o m I' e hn h0 h1 h2 q;refine⟨m,hn,λh' hs'=>?_⟩
  have pC:=I'.pin (C,o) (ka _ (ka _ (by simp)))
  have IX:Inv X pins σ H' s':=I'.eR;exact⟨.ref D,H',IX.turned (t':=s'.toks) (λb ob hb e=>(hs'.2 b hb).trans e) pC.2.1 pC.2.2.1 (.inr h0) h1 h2,rfl,q⟩
 ·intro D C ea s' x;obtain⟨_,_,_,_,_,_,⟨mC,hn⟩,_⟩:=id x;exact⟨mC,hn,λh' hs' CL _=>Qt x hs'⟩
end
def Zg (t:TAX):TEX:=λσ H Q E=>t σ H (λxs H1=>xs.length<=gc/\∀p,H1 p=none->Q (.ref p) (upd H1 p (.tup xs))) E
theorem mX {X:Cx}{es:List Expr}{t:TAX}{x1:_}{pos:Pos}(h:PAX X es t):PEX X (.Tuple es x1 pos) (Zg t):=by
 intro pins s σ H Q E I hq;refine wpAny_Tuple_spliced (thn (h pos pins s σ H _ E I hq) λus s1 ⟨xs,H1,I1,r,z,q⟩=>⟨by rw[<-r.length];exact z,?_⟩)
 have hf:H1 s1.heap.objs.size=none:=I1.hok.fresh (ko _);refine⟨.ref s1.heap.objs.size,upd H1 s1.heap.objs.size (.tup xs),I1.laid (t':=s1.toks) (λb u e=>gp _ e) (ko _) ?_,rfl,q _ hf⟩
 exact⟨z,us,r,⟨_,Lk _ rfl,rfl,_,rfl⟩⟩
theorem HQ {K:bo}{a D:Addr}{xs:List V}{te:TEX}{Q:VK}{E:XK}{σ:St}{H1:Hp}(Pv:Nat->List V->Hp->Prop)(h0:Pv 0 [] (upd H1 D (.lst [])))(hz:xs.length<=gc)
  (hl:∀i ys H2,i<=xs.length->Pv i ys H2->SqL K H2 a xs/\H2 D=some (.lst ys)/\ys.length=i)
  (hs:∀i x ys H2,xs[i]?=some x->Pv i ys H2->te (some x::σ) H2 (fB D xs.length Pv i ys) E) (hd:∀ys H2,Pv xs.length ys H2->Q (.ref D) H2) :
  BX 1 (Itl K a) (kP 0) te σ D H1 Q E:=by
 refine⟨λi m ys H=>m=xs.length - i/\i<=xs.length/\Pv i ys H,⟨xs.length,by simp,aiW _,h0⟩,?_⟩
 rintro i m ys H2 ⟨rfl,hi,p⟩;obtain⟨q,q2,q3⟩:=hl i ys H2 hi p;refine⟨q2,?_⟩
 by_cases hlt:i < xs.length
 ·refine .inr ⟨⟨xs,xs[i],q,by simp[hlt]⟩,by omega,λx H3 y vs hv=>?_⟩
  obtain⟨e,y⟩:=y;subst e;obtain⟨v0,rfl⟩:=List.length_eq_one_iff.mp hv;exact⟨[some x],rfl,rfl,hs i x ys _ (y xs q) p⟩
 ·have e:i=xs.length:=by omega
  subst e;exact .inl ⟨⟨xs,q,ko _⟩,hd ys H2 p⟩
abbrev TJ:=St->Hp->Str->(Str->Hp->Prop)->Prop
def PJ (X:Cx)(es:List Expr)(t:TJ):Prop :=
 ∀(pins:List (Addr×Obj)) (s:Shared) (σ:St) (H:Hp) (acc:Str) (Q:Str->Hp->Prop),Inv X pins σ H s->t σ H acc Q ->
  Joins (model X.prog X.w) X.A X.xe (evalEach es X.env) acc (λout s1=>∃H1,Inv X pins σ H1 s1/\out.length<=gc/\Q out H1) s
theorem Joins.mono {M:Model}{A:Around}{E:Value->Shared->Prop}{Q Q':Str->Shared->Prop}(hQ:∀o s,Q o s->Q' o s):∀ {ps:List (Sem Value)} {acc:Str} {s:Shared},Joins M A E ps acc Q s->Joins M A E ps acc Q' s
 |[],_,_,h=>hQ _ _ h
 |_::_,_,_,h=>kr h (λ_ _ ⟨y,t,e,l,r⟩=>⟨y,t,e,l,Joins.mono hQ r⟩) λ_ _ z=>z
inductive Bk:V->Str->Prop
 |int {i:Int}:i.natAbs.log2 < 1920->Bk (.int i) (toString i)
 |str {x:Str}:Bk (.str x) x
section
variable{X:Cx}{e:Expr}{es:List Expr}{te:TE}{t:TJ}{y:Str}{j:Nat}{p1 p2 pos:Pos}
theorem tR:PJ X [] (λ_ H acc Q=>acc.length<=gc/\Q acc H):=λ_ _ _ H _ _ I h=>⟨H,I,h.1,h.2⟩
theorem jO (h:PJ X es t):PJ X (.Constant (.str y) j p1::es) (λσ H acc Q=>(acc++y).length<=gc/\t σ H (acc++y) Q):=by
 intro pins s σ H acc Q I hw;show wpAny _ _ (eval (.Constant (.str y) j p1) X.env) _ _ s;exact Calls.Constant_str ⟨y,_,rfl,hw.1,h pins _ σ H _ Q (I.tok _) hw.2⟩
theorem tS (he:PE X e te)(h:PJ X es t):PJ X (.FormattedValue e (-1) none p1::es) (λσ H acc Q=>te σ H λx H1=>∃z,Bk x z/\z.length<=gc/\(acc++z).length<=gc/\t σ H1 (acc++z) Q):=by
 intro pins s σ H acc Q I hw;show wpAny _ _ (eval (.FormattedValue e (-1) none p1) X.env) _ _ s;refine wpAny_FormattedValue_plain (thn (he pins s σ H _ I hw) λv s1 ⟨x,H1,I1,r1,z,fz,l1,l2,q⟩=>?_)
 cases fz with
 |int hl =>
  obtain⟨tk,rfl⟩:=r1;exact wpAny_formatField_int hl ⟨_,_,rfl,l2,h pins _ σ H1 _ Q ((I1.tok _).tok _) q⟩
 |str =>
  obtain⟨tk,rfl⟩:=r1;exact wpAny_formatField_str ⟨_,_,rfl,l2,h pins _ σ H1 _ Q I1 q⟩ ⟨_,_,rfl,l2,h pins _ σ H1 _ Q (I1.tok _) q⟩ l1
theorem zO {e₂:Expr}(h:PJ X (e::e₂::es) t):PE X (.JoinedStr (e::e₂::es) pos) (λσ H Q=>t σ H aiT λz H1=>Q (.str z) H1):=by
 intro pins s σ H Q I hw;refine wpAny_JoinedStr ?_;have:=h pins s σ H aiT _ I hw;refine Joins.mono ?_ this;rintro out s1 ⟨H1,I1,l,q⟩;exact⟨l,.str out,H1,I1.tok _,⟨_,rfl⟩,q⟩
end
def xi (a C:Addr)(xd:Option Addr):HO:=.ext λh=>∃a0:Addr,h.get? a=some ⟨.ref C,xd,.fields #[.ref a0,.none,.none,.none,.bool false,.none],#[]⟩
section
variable{P:kx}{w:World}{H:Hp}{h:Heap}{a C:Addr}{xd:Option Addr}
theorem Nw {a0:Addr}(e:h.get? a=some ⟨.ref C,xd,.fields #[.ref a0,.none,.none,.none,.bool false,.none],#[]⟩):d4 P w H h a (xi a C xd) :=
 ⟨⟨a0,e⟩,⟨_,e⟩,λ_ _ ⟨b,z⟩ k=>⟨b,k _ z⟩⟩
theorem Nx (x:d4 P w H h a (xi a C xd)):∃a0:Addr,h.get? a=some ⟨.ref C,xd,.fields #[.ref a0,.none,.none,.none,.bool false,.none],#[]⟩:=x.1
end
structure Sf (K:bo)(D:Addr):Prop where
 rd:PySem.W.readsIn K D (.type "type")=true
 sp:ajW K (.ref D) "__getattribute__"=some (some (.builtin "type.__getattribute__"))
 fc:PySem.W.findCls K (.ref D) (.type "type") "__init__"=some (.val (.builtin "ValueError.__init__"))
structure CU (K:bo)(N f:Addr):Prop where
 ex:∃(c:Value) (dd:Option Addr) (es:Array ajp) (n:Nat) (sl:Array (Option Value)),K.lookup N=some ⟨c,dd,.dict es n,sl⟩/\strKeys es=true
 at_:eg K N "__init__"=some (some (.ref f))
theorem CU.ns {K:bo}{N f:Addr}(x:CU K N f){h:Heap}(X:K.In h):∃mN,h.Ns N mN/\mN "__init__"=some (.ref f):=by
 obtain⟨⟨c,dd,es,n,sl,l,sk⟩,no⟩:=x;have ns:h.Ns N (nsFind es):=⟨_,es,n,X _ _ l,rfl,λe he=>by
  have z:=List.all_eq_true.mp sk e (Array.mem_toList_iff.mpr he);cases hk:e.key with
  |str y t=>exact⟨y,t,rfl⟩
  |_=>rw[hk]at z;exact absurd z kg,λ_=>rfl⟩
 refine⟨_,ns,?_⟩;unfold eg at no;rw[l]at no;dsimp only at no;unfold nsFind findBy;rw[<-Array.find?_toList];cases hf:es.toList.find? (λe=>e.key.isStr "__init__") with
 |none =>
  rw[hf]at no;dsimp only at no
  by_cases q:es.toList.any (·.refKey)=true
  ·rw[if_pos q]at no;cases no
  ·rw[if_neg q]at no;cases no
 |some e=>rw[hf]at no;exact aix no
structure yc (K:bo)(C f:Addr)(name:Str):Prop where
 ex:∃(nm q:Str) (N:Addr) (bs bm:List Value) (hdct:Bool) (sn:List Str) (sub:List Value) (ab:Bool) (col:Option Bool) (dd:Option Addr) (k0 k1 k2 k3 k5:Option Value),
  K.lookup C=some (aiM nm q C N bs bm hdct sn sub ab col dd k0 k1 k2 k3 k5 "ValueError.__new__")/\ic K bm/\hdct=true/\CU K N f
 fn:me K (.ref f)=true
 sa:cb K (.ref C) "__setattr__"=some (some (.builtin "object.__setattr__"))
 na:cb K (.ref C) name=some none
section
variable{X:Cx}{pins:List (Addr×Obj)}{σ:St}{H:Hp}{s:Shared}{C f:Addr}{name:Str}
theorem ic.pass {K:bo}{bm:List Value}(x:ic K bm)(self:Value):refuseLoop self "__setattr__" bm=pure ():=by
 induction x with
 |base=>exact PySem.F.store_ValueError.passes self
 |own _ _ _ ih=>rw[refuseLoop_ref];exact ih
theorem HR {xk:yc X.K C f name}:iu X (.builtin "ValueError.__init__") (λxs H Q=>∃ea v,xs=[.ref ea,v]/\H ea=some (xi ea C none)/\Q .non H):=by
 intro pins s σ H xs us Q I r h;obtain⟨ea,v,rfl,hx,q⟩:=h;obtain⟨nm,qn,N,bs,bm,hdct,sn,sub,ab,col,dd,k0,k1,k2,k3,k5,l,T,hd,hi⟩:=xk.ex;obtain⟨u,u2,rfl,rx,rv⟩:=vals2 r;cases rx;obtain⟨a0,e⟩:=Nx (P:=X.prog) (w:=X.w) (I.hok _ _ hx);have kC:=I.kIn _ _ l;have T1:=T.tail I.kIn;have F:=PySem.F.excBase_ValueError;have ha:X.A.handled=X.A.handled:=rfl;obtain⟨hp,g,d,tk,os⟩:=s;dsimp only at e kC T1;refine ajL (codeAny_call_builtin F.init.plain F.initEntry (wpAny_check_init_subT F T1 kC e rfl ?_))
 wp_walk
 have hE:ea≠hp.objs.size:=wt (ma e);have e1:(hp.push { cls:=.type "tuple",data:=.seq #[u2] }).get? ea=_:=gp _ e;have k:∀b o,b≠ea->hp.get? b=some o->((hp.push { cls:=.type "tuple",data:=.seq #[u2] }).update ea (ajd λx=>x.setIfInBounds 0 (.ref hp.objs.size))).get? b=some o:=λb o hb q =>
  (aiP _ _ (aiD hb)).trans (gp _ q)
 have e2:((hp.push { cls:=.type "tuple",data:=.seq #[u2] }).update ea (ajd λx=>x.setIfInBounds 0 (.ref hp.objs.size))).get? ea=some ⟨.ref C,none,.fields #[.ref hp.objs.size,.none,.none,.none,.bool false,.none],#[]⟩:=ai5 _ e1 rfl
 have un:upd H ea (xi ea C none)=H:=by
  funext b
  by_cases z:b=ea
  ·rw[z,ae,hx]
  ·rw[av z]
 have I2:=I.write (x:=ea) (e:=ea) (o:=xi ea C none) (t':=tk) (by rw[hx];exact ajr) (.inl rfl) k ⟨_,e2⟩ (Nw e2)
 rw[un]at I2;exact⟨.non,H,I2,rfl,q⟩
end
end L2
namespace L2
open PySem PySem.Spec PyProof.Rows PySem.Builtin PySem.Builtin.ObjectAttr
section
variable{prog:kx}{w:World}{A:Around}{E:Value->Shared->Prop}{K:bo}{x C f:Addr}{name:Str}{v:Value}
theorem Ny {s:Shared}{vs:Array Value}{sl:Array (Option Value)}{Q:Unit->Shared->Prop}(X:K.In s.heap)(xk:yc K C f name)(hx:s.heap.get? x=some ⟨.ref C,none,.fields vs,sl⟩)
  (h:∀h' tk,h'.get? x=some ⟨.ref C,some s.heap.objs.size,.fields vs,sl⟩->h'.Ns1 s.heap.objs.size (λy=>if y=name then some v else none)->(∀b o,b≠x->s.heap.get? b=some o->h'.get? b=some o) ->
   Q () { s with heap:=h',toks:=tk }):wpAny (model prog w) A (setAttr (.ref x) name v) Q E s:=by
 obtain⟨nm,qn,N,bs,bm,hdct,sn,sub,ab,col,dd,k0,k1,k2,k3,k5,l,T,hd,hi⟩:=xk.ex;subst hd;obtain⟨hp,g,d,tk,os⟩:=s;dsimp only at hx h X;have J:ajQ hp x ⟨.ref C,none,.fields vs,sl⟩ C none:=⟨hx,rfl,rfl,trivial⟩;have SF:=PySem.F.store_object;have kC:=X _ _ l;have hT:=T.tail X;have hob:(si C::bm).contains (.type "object")=true:=by rw[List.contains_cons,hT.hasType (b:=true) (by trivial),Bool.or_true]
 have pass:refuseLoop (.ref x) "__setattr__" (.ref C::bm)=pure ():=by rw[refuseLoop_ref];exact T.pass _
 refine PySem.W.set_plain X J xk.sa ?_;have sb:PySem.W.Looks (model prog w) hp (isInstance (.ref x) (.type "object")) true:=J.type.andThen (PySem.W.looks_mroIn X (by unfold aiE aiX;rw[l];simpa using hob))
 refine codeAny_call_builtin SF.slot.plain SF.entry (@PySem.W.check_slot (model prog w) _ _ ⟨hp,g,d,tk+1,os⟩ "object.__setattr__" "object" "__setattr__" (.ref x) [.str name tk,v] [] _ SF.kind SF.split sb (SF.args (.ref x) (.str name tk) v) ?_);have hm:PySem.W.Looks (model prog w) hp (mroOf (.ref C)) (.ref C::bm):=(PySem.W.looks_clsIn X (by unfold aiX;rw[l])).andThen .now
 rw[PySem.W.osa_eq,refuse_eq];refine de (de ((J.type (M:=model prog w)).at (de (hm.at ?_))));rw[pass];refine kq (de ((J.type (M:=model prog w)).at (de ((ajV X xk.na).at (de ((show PySem.W.Looks (model prog w) hp (storeTaker? none) none from .now).at ?_))))))
 have hxs:x≠hp.objs.size:=wt (ma hx);obtain⟨cd,hcl,hdd⟩:∃cd,aiX K C=some cd/\cd.hasDict=true:=⟨_,by unfold aiX;rw[l],rfl⟩
 refine de (kq (de (de (wpAny_loadPart hx (de ((PySem.W.looks_clsIn X hcl).at ?_))))));rw[hdd];have hx₁:(hp.push { cls:=.type "dict",data:=.dict #[] }).get? x=some _:=gp _ hx;refine de (wpAny_alloc' ?_);refine de (wpAny_update' hx₁ ?_);refine kq ?_;have hgd:((hp.push { cls:=.type "dict",data:=.dict #[] }).update x λo=>{ cls:=o.cls,dict:=some hp.objs.size,data:=o.data,slots:=o.slots }).get? hp.objs.size
   = some { cls:=.type "dict",data:=.dict #[] } :=
  (Heap.get?_update_ne _ _ _ _ hxs.symm).trans (Heap.get?_push_at rfl rfl)
 have hnd:((hp.push { cls:=.type "dict",data:=.dict #[] }).update x λo=>{ cls:=o.cls,dict:=some hp.objs.size,data:=o.data,slots:=o.slots }).Ns hp.objs.size (λ_=>none) :=
  ⟨_,#[],_,hgd,rfl,λe he=>absurd he (by simp),λ_=>rfl⟩
 show wpAny _ _ (storeInDict hp.objs.size (.str name tk) name v) _ _ _;unfold storeInDict newKeyGuard;refine de (kq (de (wpAny_nsSet1 (Heap.Ns1.of_empty hnd) λh' hn' hs=>?_)))
 obtain⟨oD,esD,epD,hoD,hdD,hcD⟩:=hn'.count (Within.cons name v Within.nil);refine de (wpAny_lookBehind hoD (by rw[hdD];exact pastItsLine_dict (rf hcD (by rw[ku,List.length_nil,sizeLine_eq];omega))) ?_)
 refine kq (h h' _ ?_ hn' λb ob hbx hb=>(hs.2 b (wt (ma hb))).trans ((Heap.get?_update_ne _ _ _ _ hbx).trans (gp _ hb)))
 exact(hs.2 x hxs).trans (ai5 _ hx₁ rfl)
end
end L2
namespace L2
open PySem PySem.Spec PyProof.Rows
section
variable{prog:kx}{w:World}{A:Around}{E:Value->Shared->Prop}{h:Heap}{g:Array GenState}{d:Drawn}{t:Nat}{os:OsState}
variable{nm q:Str}{C N fI:Addr}{bs bm bmB:List Value}{hdct:Bool}{sn:List Str}{sub:List Value}{ab:Bool}{col:Option Bool}{dd:Option Addr}{k0 k1 k2 k3 k5:Option Value}{B nid iid:String}{K:bo}
theorem Ls (X:K.In h)(F:ExcBaseFacts B nid iid bmB)(T:OwnTail h bmB bm){mN:Str->Option Value}{us:List Value}{Q:Fin->Shared->Prop}
  (kC:h.get? C=some (aiM nm q C N bs bm hdct sn sub ab col dd k0 k1 k2 k3 k5 nid)) (kN:h.Ns N mN) (kI:mN "__init__"=some (.ref fI)) (hf:PySem.W.typeIn K (.ref fI)=some (.type "function")) (hz:us.length<=gc)
  (hq:wpAny (model prog w) A (call (.ref fI) (.ref (h.objs.size+1)::us)) (λr s'=>r=.none/\Q (.done (.ret (.ref (h.objs.size+1)))) s') E ⟨mW h C us,g,d,t,os⟩) :
  wpAny (model prog w) A (Builtin.«type.__call__» ⟨.ref C::us,[]⟩) Q E ⟨h,g,d,t,os⟩:=by
 repeat (first | with_reducible refine wpAny_loadPart_at kC ?_ | with_reducible refine wpAny_madeBy_exc kC ?_ | wp_step)
 refine codeAny_call_builtin_code (Code.quiet_builtin _ F.quiet) (wpAny_check_new_subT F T kC (codeAny_exc_new_subT F T kC ?_ hz));show wpAny _ _ _ _ _ _;have kC1:(mW h C us).get? C=_:=fE kC;have kN1:(mW h C us).Ns N mN:=kN.keeps λb o e=>fE e
 have X1:K.In (mW h C us):=X.keeps λb o e=>fE e
 have T1:OwnTail (mW h C us) bmB bm:=T.keeps λb o e=>fE e
 have kE:=zN (h:=h) (C:=C) (us:=us);have self:(si C::bm).contains (.ref C)=true:=by simp
 unfold isInstance
 repeat (first | with_reducible refine wpAny_loadPart_at kE ?_ | (with_reducible refine wpAny_isSubtype_exc kC1 ?_;rw[self]) | wp_step)
 show wpAny _ _ (typeLookup (.ref C) _) _ _ _;refine wpAny_typeLookup_tail kC1 kN1 T1 F.mroIs F.init.lookup ?_;rw[kI];refine aiU (de ((PySem.W.bind_fn X1 (.ref (h.objs.size+1)) hf).at ?_));refine de (kr hq (λr s' hr=>?_) λ_ _ z=>z)
 obtain⟨rfl,hQ⟩:=hr
 wp_walk
 exact hQ
theorem Nz (X:K.In h)(F:ExcBaseFacts B nid iid bmB)(T:OwnTail h bmB bm){mN:Str->Option Value}{us:List Value}{Q:Value->Shared->Prop}
  (kC:h.get? C=some (aiM nm q C N bs bm hdct sn sub ab col dd k0 k1 k2 k3 k5 nid)) (kN:h.Ns N mN) (kI:mN "__init__"=some (.ref fI)) (hf:PySem.W.typeIn K (.ref fI)=some (.type "function")) (hz:us.length<=gc)
  (hq:wpAny (model prog w) (A.under (.builtin "type.__call__" ⟨.ref C::us,[]⟩)) (call (.ref fI) (.ref (h.objs.size+1)::us)) (λr s'=>r=.none/\Q (.ref (h.objs.size+1)) s') E ⟨mW h C us,g,d,t,os⟩) :
  wpAny (model prog w) A (call (.ref C) us) Q E ⟨h,g,d,t,os⟩:=by
 have l1:=tc_lookup;have l2:=tc_bind (.ref C);have ty:(⟨h,g,d,t,os⟩:Shared).TypeIs (.ref C) "type":=⟨_,kC,rfl⟩;refine ajL (codeAny_of_tree ?_);show wpAny _ _ (callAny (.ref C) _) _ _ _
 repeat (any_goals (first | assumption | with_reducible refine wpAny_loadPart_at kC ?_ | wp_step))
 exact⟨rfl,codeAny_call_builtin_at (Code.quiet_builtin _ (by trivial)) entry_typeCall (wpAny_check_type_call_sub kC (Ls X F T kC kN kI hf hz hq))⟩
end
def zP (C:Addr)(name:Str):Sp:=λvs H Q _=>∃(e:Addr) (v:V),vs=[.ref e,v]/\H e=some (xi e C none)/\(∃z,Bk v z/\z.length<=10000)/\∀d,H d=none->Q .non (upd (upd H d (.xd [(name,v)])) e (xi e C (some d)))
section
variable{X:Cx}{pins:List (Addr×Obj)}{σ:St}{H:Hp}{s:Shared}{C f:Addr}{name x:Str}{fd:kf}{ps:List Str}{k:Nat}{np gj pos:Pos}{e₀:Expr}{ta:TA}
theorem zQ {E:Value->Shared->Prop}{v:V}{u:Value}{Q:Value->Shared->Prop}(xk:yc X.K C f name)(len:ps.length=2)(run:∀(s:Shared) (H:Hp) (us:List Value) (vs:List V) (Q:VK),uP X.prog X.w X.K X.mg X.base (X.A.under (.builtin "type.__call__" ⟨.ref C::[u],[]⟩)) X.stack s H->BindsTo s fd ⟨us,[]⟩ (ps.zip us)->Vals vs us->zP C name vs H Q E0->codeAny (model X.prog X.w) (X.A.under (.builtin "type.__call__" ⟨.ref C::[u],[]⟩)) (.call (.ref f) ⟨us,[]⟩) (CR CX0 X.stack X.prog X.w H s Q E0) s)(hb:Binds X.K fd ps [])(I:Inv X pins σ H s)(r:RelV v u)
  (hv:∃z,Bk v z/\z.length<=10000)
  (h:∀(e d:Addr) (a0:Value) (s':Shared),H d=none->Inv X pins σ (upd H d (.xd [(name,v)])) s'->fj X pins (upd H d (.xd [(name,v)])) e->s'.heap.get? e=some ⟨.ref C,some d,.fields #[a0,.none,.none,.none,.bool false,.none],#[]⟩->Q (.ref e) s') :
  wpAny (model X.prog X.w) X.A (call (.ref C) [u]) Q E s:=by
 obtain⟨nm,qn,N,bs,bm,hdct,sn,sub,ab,col,dd,k0,k1,k2,k3,k5,l,T,hd,hi⟩:=xk.ex;obtain⟨mN,kN,kI⟩:=hi.ns I.kIn;have fre:=I.hok.fresh (ko _);obtain⟨hp,g,dr,tk,os⟩:=s;have ne:H (hp.objs.size+1)=none:=I.hok.fresh (ajn _);have I2:Inv X pins σ (upd H (hp.objs.size+1) (xi (hp.objs.size+1) C none)) ⟨mW hp C [u],g,dr,tk,os⟩ :=
  I.laid (h':=mW hp C [u]) (t':=tk) (λb o q=>fE q) (ajn _) (Nw zN)
 have r2:Vals [V.ref (hp.objs.size+1),v] [si (hp.objs.size+1),u]:=.cons rfl (.cons r .nil);have hsp:zP C name [V.ref (hp.objs.size+1),v] (upd H (hp.objs.size+1) (xi (hp.objs.size+1) C none))
   (λv' H'=>v'=.non/\∃d,H d=none/\d≠hp.objs.size+1/\H'=upd (upd (upd H (hp.objs.size+1) (xi (hp.objs.size+1) C none)) d (.xd [(name,v)])) (hp.objs.size+1) (xi (hp.objs.size+1) C (some d))) E0:=by
  refine⟨_,v,rfl,ae,hv,λd hd=>⟨rfl,d,?_,?_,rfl⟩⟩
  ·by_cases z:d=hp.objs.size+1
   ·rw[z,ae]at hd;cases hd
   ·rwa [av z]at hd
  ·intro z;rw[z,ae]at hd;cases hd
 have hl:[si (hp.objs.size+1),u].length=ps.length:=len.symm;refine Nz I.kIn (F:=PySem.F.excBase_ValueError) (T.tail I.kIn) (I.kIn _ _ l) kN kI (beq_iff_eq.mp xk.fn) (show 1<=gc by decide) (ajL (codeAny_mono (run _ _ [si (hp.objs.size+1),u] _ _
  (I2.MP.make C [u] []) (by have b:=hb _ [si (hp.objs.size+1),u] I2.kIn (by rw[aji];exact hl);rw[aji]at b;exact b) r2 hsp) λrr s' hq=>?_))
 cases rr with
 |error e=>exact hq.elim
 |ok fl =>
  cases fl with
  |ret u' =>
   obtain⟨v',H',os',bare,un,hok,rv,rfl,d,hd1,hd2,rfl⟩:=hq;cases rv;refine⟨rfl,?_⟩;have HeE:∀ {o:HO},upd (upd (upd H (hp.objs.size+1) (xi (hp.objs.size+1) C none)) d (.xd [(name,v)])) (hp.objs.size+1) o (hp.objs.size+1)=some o:=ae;have Hne:∀b,b≠hp.objs.size+1->upd (upd (upd H (hp.objs.size+1) (xi (hp.objs.size+1) C none)) d (.xd [(name,v)])) (hp.objs.size+1) (xi (hp.objs.size+1) C (some d)) b=upd H d (.xd [(name,v)]) b:=λb hb=>by
    rw[av hb]
    by_cases z:b=d
    ·rw[z,ae,ae]
    ·rw[av z,av z,av hb]
   have He2:upd H d (.xd [(name,v)]) (hp.objs.size+1)=none:=by rw[av (aiD hd2)];exact ne
   have U1:Un (frs X.stack) [] H (upd H (hp.objs.size+1) (xi (hp.objs.size+1) C none)) hp (mW hp C [u]):=Un.laid (λb o q=>fE q) (ajn _) ne
   have U2:=U1.trans un;have lt:∀b o,hp.get? b=some o->b≠hp.objs.size+1:=λb o q=>wt (Nat.lt_succ_of_lt (ma q))
   have U3:Un (frs X.stack) [] H (upd H d (.xd [(name,v)])) hp s'.heap:=by
    refine⟨U2.keep,U2.slot,λb o q n hx=>?_,U2.there,λb xs q=>?_,λb o u q=>?_,λb p q=>?_⟩
    ·have z:=U2.free b o q n hx
     rwa [Hne b (lt b o q)]at z
    ·have z:=U2.uL b xs q
     rwa [Hne b (λe=>by rw[e,ne]at q;cases q)]at z
    ·have z:=U2.tM b o u q
     rwa [Hne b (λe=>by rw[e,ne]at q;cases q)]at z
    ·obtain⟨m,z⟩:=U2.uM b p q;rw[Hne b (λe=>by rw[e,ne]at q;cases q)]at z
     exact⟨m,z⟩
   have K3:HOk X.prog X.w (upd H d (.xd [(name,v)])) s'.heap:=λa o q=>by
    have ha:a≠hp.objs.size+1:=λe=>by rw[e,He2]at q;cases q
    refine(hok a o (by rw[Hne a ha];exact q)).zu (λb u _ z=>z) (λb z=>?_) (λb xs z=>?_)
    ·rwa [Hne b (λe=>by rw[e,HeE]at z;cases z)]at z
    ·rwa [Hne b (λe=>by rw[e,HeE]at z;cases z)]at z
   obtain⟨a0,ea⟩:=Nx (P:=X.prog) (w:=X.w) (hok _ _ HeE);have I3:Inv X pins σ (upd H d (.xd [(name,v)])) s':=I.Kb (ch:=[]) os' U3 K3 bare λb z=>absurd z (by simp)
   exact h _ d (.ref a0) s' hd1 I3 (I.vQ (ajn _) He2) ea
  |next=>exact aiy hq
  |brk=>exact aiy hq
  |cont=>exact aiy hq
theorem Lu {E:Value->Shared->Prop}{v:V}{u:Value}{Q:Value->Shared->Prop}(xk:yc X.K C f name)(F:FnOk X.prog X.w X.K X.mg X.base CX0 k f fd ps (zP C name))(hr:Room (k+1) X.A)(hb:Binds X.K fd ps [])(I:Inv X pins σ H s)(r:RelV v u)
  (hv:∃z,Bk v z/\z.length<=10000)
  (h:∀(e d:Addr) (a0:Value) (s':Shared),H d=none->Inv X pins σ (upd H d (.xd [(name,v)])) s'->fj X pins (upd H d (.xd [(name,v)])) e->s'.heap.get? e=some ⟨.ref C,some d,.fields #[a0,.none,.none,.none,.bool false,.none],#[]⟩->Q (.ref e) s') :
  wpAny (model X.prog X.w) X.A (call (.ref C) [u]) Q E s :=
 zQ xk (by have z:=F.len [V.ref 0,v] (upd H 0 (xi 0 C none)) (λ_ _=>True) E0 ⟨0,v,rfl,ae,hv,λ_ _=>trivial⟩;exact z.symm) (λs H us vs Q e0 b r sp=>F.run _ X.stack s H ⟨us,[]⟩ us vs Q E0 (hr.make C [u] []) e0 b r sp) hb I r hv h
theorem lQ (xk:yc X.K C f name)(F:FnOk X.prog X.w X.K X.mg X.base CX0 k f fd ps (zP C name))(hr:Room (k+1) X.A)(hb:Binds X.K fd ps [])(hc:X.calm=true)(hg:Gl X x)(hm:X.mg x=some (.ref C))(ha:PA X.nox [e₀] ta)
  (hdb:(x == ("__debug__":Str))=false:=by decide) (he:sr [e₀] X.env=[(false,eval e₀ X.env)]:=by rfl) :
  PSX X (.Raise (some (.Call (.Name x np) [e₀] [] gj)) none pos) (λ_ E σ H=>ta σ H λvs H1=>∃v,vs=[v]/\(∃z,Bk v z/\z.length<=10000)/\∀d,H1 d=none->E σ (.ref C) (some d) (upd H1 d (.xd [(name,v)]))):=by
 intro pins s σ H D E I h;obtain⟨nm,q,N,bs,bm,hdct,sn,sub,ab,col,dd,k0,k1,k2,k3,k5,l,T,hd,hi⟩:=xk.ex;have go:wpAny (model X.prog X.w) X.A (eval (.Call (.Name x np) [e₀] [] gj) X.env) (λv s₁=>∃(e:Addr) (xd:Option Addr) (a0:Value) (sl:Array (Option Value)),v=.ref e/\s₁.heap.get? C=some (aiM nm q C N bs bm hdct sn sub ab col dd k0 k1 k2 k3 k5 "ValueError.__new__") /\
   s₁.heap.get? e=some ⟨.ref C,xd,.fields #[a0,.none,.none,.none,.bool false,.none],sl⟩/\XPS X pins E (.ref e) s₁) (XPS X pins E) s:=by
  refine wpAny_Call_Name_kw (iO I hg hm ?_ hdb);unfold aj5;rw[he];refine de (aiU (ajX ?_));have ha':=ha gj pins s σ H _ (I.j7 _) h;rw[show X.nox.env=X.env from rfl,he]at ha'
  refine kr ha' (λus s₁ ⟨vs,H1,I1,r,v,hvs,hv,q1⟩=>de (ai1 ?_)) λ_ _ z=>aiy z
  subst hvs;obtain⟨u,rfl,rv⟩:=Vals.one r;have I1':=I1.dD;have kC:=I1'.kIn _ _ l;have pl:(backTo gj [(false,eval e₀ X.env)]).any (·.1)=false:=rfl
  have fin:wpAny (model X.prog X.w) X.A (call (.ref C) ([]++[u])) (λr s'=>∃(e:Addr) (xd:Option Addr) (a0:Value) (sl:Array (Option Value)),r=.ref e/\s'.heap.get? C=some (aiM nm q C N bs bm hdct sn sub ab col dd k0 k1 k2 k3 k5 "ValueError.__new__") /\
   s'.heap.get? e=some ⟨.ref C,xd,.fields #[a0,.none,.none,.none,.bool false,.none],sl⟩/\XPS X pins E (.ref e) s') (XPS X pins E) s₁:=by
   refine Lu xk F hr hb I1' rv hv λe d a0 s' hd1 I2 fp ke=>?_
   exact⟨e,some d,a0,#[],rfl,I2.kIn _ _ l,ke,σ,e,.ref C,some d,none,_,rfl,I2,⟨fp,_,_,ke,⟨by show 1 < 6;decide,λ_=>rfl⟩,rfl⟩,.inl rfl,q1 d hd1⟩
  obtain⟨hp,g',d',tk,os'⟩:=s₁;simp only[pl];refine de (wpAny_keeperOf_exc kC ?_);exact de (kr fin (λv s2 z=>de (aiU (wpAny_point (kq z)))) λ_ _ z=>z)
 rw[arm_exec_Raise];have hbx:bm.contains (.type "BaseException")=true:=(T.tail I.kIn).hasType (b:=true) (by trivial)
 first
  |exact de (ai1 (sF (C:=C) (nm:=nm) (q:=q) (N:=N) (bs:=bs) (bm:=bm) (hdct:=hdct) (sn:=sn) (sub:=sub) (ab:=ab) (col:=col) (dd:=dd) (k0:=k0) (k1:=k1) (k2:=k2) (k3:=k3) (k5:=k5) hbx (I.ok.hd hc) (de (kr go (λv s₃ h₃=>de (ai1 (kq h₃))) λ_ _ z=>z))))
  | (simp only[evalOpt,Option.map];exact de (ai1 (sF (C:=C) (nm:=nm) (q:=q) (N:=N) (bs:=bs) (bm:=bm) (hdct:=hdct) (sn:=sn) (sub:=sub) (ab:=ab) (col:=col) (dd:=dd) (k0:=k0) (k1:=k1) (k2:=k2) (k3:=k3) (k5:=k5) hbx (I.ok.hd hc) (de (kr go (λv s₃ h₃=>de (ai1 (kq h₃))) λ_ _ z=>z)))))
end
section
variable{X:Cx}{pins:List (Addr×Obj)}{σ:St}{H:Hp}{s:Shared}{C D f:Addr}{name x:Str}{np apos gj pos pos':Pos}{o e value:Expr}{ta tv:TE}{t:TA}
theorem qG {pl:Sem Bool}(ik:Sf X.K D)(xk:yc X.K C f name)(hg:Gl X x)(hm:X.mg x=some (.ref D))(ha:PA X [o,e] t)(hdb:(x == ("__debug__":Str))=false:=by decide)
  (hst:sr [o,e] X.env=(false,eval o X.env)::sr [e] X.env:=by rfl) (hpl:(backTo pos (sr [e] X.env)).any (·.1)=false:=by rfl)
  (ht:eval (.Call (.Attribute (.Name x np) "__init__" apos) [o,e] [] pos) X.env=(do
   let ov <-eval (.Name x np) X.env
   standAt apos.atName
   let (f,first) <-holding [ov] (getMethod ov "__init__" pl)
   aj5 pos f first (backTo pos (sr [o,e] X.env)) (ajR pos (ajh [] X.env))):=by rfl) :
  PE X (.Call (.Attribute (.Name x np) "__init__" apos) [o,e] [] pos) (λσ H Q=>t σ H λvs H1=>∃ea v,vs=[.ref ea,v]/\H1 ea=some (xi ea C none)/\Q .non H1):=by
 intro pins s σ H Q I h;refine ajo (pl:=pl) (iO I hg hm ?_ hdb) ht;refine PySem.W.method_cls I.kIn ik.sp (PySem.W.cls_value I.kIn ik.rd ik.fc (by trivial) ?_)
 show wpAny _ _ (aj5 pos (.builtin "ValueError.__init__") [] (backTo pos (sr [o,e] X.env)) []) _ _ _;exact PyProof.Rows.callWith_builtin1 (thn (ha pos pins _ σ H _ (I.tok _) h) λus s1 ⟨vs,H1,I1,r1,ea,v,hv,hx,q⟩=>HR (xk:=xk) pins s1 σ H1 vs us Q I1 r1 ⟨ea,v,hv,hx,q⟩) hst hpl
theorem uW (xk:yc X.K C f name)(ha:PE X o ta)(hv:PE X value tv)(hs:swapsWith value (some (.Attribute o name pos')) pos.line X.env=pure false:=by rfl):PS X (.Assign [.Attribute o name pos'] value pos)
  (λD σ H=>tv σ H λy H1=>ta σ H1 λx H2=>∃ea,x=.ref ea/\H2 ea=some (xi ea C none)/\∀d,H2 d=none->D.nx σ (upd (upd H2 d (.xd [(name,y)])) ea (xi ea C (some d)))):=by
 intro pins s σ H D I h;refine plainObj_wpAny_Assign_Attribute (thn (hv pins s σ H _ I h) λu s1 ⟨y,H1,I1,ry,q⟩=>thn (ha pins s1 σ H1 _ I1 q) λov s2 ⟨x,H2,I2,rx,ea,ex,hx,q2⟩=>?_) hs
 subst ex;obtain rfl:ov=si ea:=rx;obtain⟨a0,e0⟩:=Nx (P:=X.prog) (w:=X.w) (I2.hok _ _ hx);have fr:H2 s2.heap.objs.size=none:=I2.hok.fresh (ko _);refine Ny I2.kIn xk e0 λh' tk hx' ns kk=>⟨σ,_,?_,q2 _ fr⟩
 have hde:ea≠s2.heap.objs.size:=aC hx fr;have old:∀b,b≠ea->b≠s2.heap.objs.size->upd (upd H2 s2.heap.objs.size (.xd [(name,y)])) ea (xi ea C (some s2.heap.objs.size)) b=H2 b:=λb h1 h2=>by rw[av h1,av h2]
 have lt:∀b ob,s2.heap.get? b=some ob->b≠s2.heap.objs.size:=λb ob q=>wt (ma q)
 have nx:∀b,H2 b=none->b≠ea:=λb n z=>by rw[z,hx]at n;cases n
 have ns':∀b {o:HO},H2 b=some o->b≠s2.heap.objs.size:=λb _ n z=>by rw[z,fr]at n;cases n
 refine I2.un (t':=tk) ⟨λb ob q n _ _=>kk b ob (nx b n) q,λb ob q n _ _=>⟨ob.slots,kk b ob (nx b n) q⟩,λb ob q n _=>by rw[old b (nx b n) (lt b ob q)];exact n,λb ob q _=>?_,λb xs q=>?_,λb ob u q=>?_,λb ps q=>?_⟩ λa ob q=>?_
 ·by_cases z:b=ea
  ·exact⟨_,by rw[z];exact hx'⟩
  ·exact⟨ob,kk b ob z q⟩
 ·rw[old b (λz=>by rw[z,hx]at q;cases q) (ns' b q)];exact q
 ·rw[old b (λz=>by rw[z,hx]at q;cases q) (ns' b q)];exact q
 ·exact⟨#[],by rw[old b (λz=>by rw[z,hx]at q;cases q) (ns' b q),q];simp⟩
 ·by_cases z:a=ea
  ·subst z;rw[ae]at q;cases q;exact Nw hx'
  ·rw[av z]at q
   by_cases z2:a=s2.heap.objs.size
   ·rw[z2,ae]at q;cases q;refine⟨_,by rw[z2];exact ns,λg=>?_⟩
    rw[aj7]
    by_cases hg:g=name
    ·rw[if_pos hg,show (g == name)=true from beq_iff_eq.mpr hg];exact ry
    ·rw[if_neg hg,show (g == name)=false from beq_eq_false_iff_ne.mpr hg];exact ajr
   ·rw[av z2]at q;refine(I2.hok a ob q).zu (λb u hb r=>kk b u ?_ r) (λb r=>?_) (λb xs r=>?_)
    ·rintro rfl;rcases hb with hb | hb
     ·exact z hb.symm
     ·rw[hx]at hb;cases hb
    ·rw[old b (λz=>by rw[z,hx]at r;cases r) (ns' b r)];exact r
    ·rw[old b (λz=>by rw[z,hx]at r;cases r) (ns' b r)];exact r
theorem Ep {ea C d:Addr}{fs:List (Str×V)}(I:Inv X pins σ H s)(h:H ea=some (xo ea (.ref C) (some d)))(hd:H d=some (.xd fs)) :
  ∃ox od,ajQ s.heap ea ox C (some od)/\∃mA:Str->Option Value,(∀n,PySem.W.lookIn n od=some (mA n))/\∀n,oe (fs.lookup n) (mA n):=by
 obtain⟨⟨sl,vs,e⟩,_⟩:=(show d4 X.prog X.w H s.heap ea (xo ea (.ref C) (some d)) from I.hok _ _ h)
 obtain⟨mA,ns,r⟩:=(show d4 X.prog X.w H s.heap d (.xd fs) from I.hok _ _ hd)
 obtain⟨od,ho,lk⟩:=BI ns;exact⟨_,od,⟨e,rfl,rfl,ho⟩,mA,lk,r⟩
structure NA (K:bo)(C:Addr)(name:Str):Prop where
 ga:GaX K C
 na:cb K (.ref C) name=some none
 hd:aiH K C=true
theorem Kt (he:PE X e ta)(hb:attributeBase e name X.env (eval e X.env)=eval e X.env):PE X (.Attribute e name pos)
  (λσ H Q=>ta σ H λx H1=>∃ea C d fs v,x=.ref ea/\H1 ea=some (xo ea (.ref C) (some d))/\H1 d=some (.xd fs)/\NA X.K C name/\fs.lookup name=some v/\(∃z,Bk v z)/\Q v H1):=by
 intro pins s σ H Q I h;refine Kg hb (thn (he pins s σ H _ I h) λu s1 ⟨x,H1,I1,rx,ea,C,d,fs,v,ex,hx,hd,xf,lk,⟨z,fz⟩,q⟩=>?_)
 subst ex;obtain rfl:u=si ea:=rx;obtain⟨ox,od,J,mA,li,rel⟩:=Ep I1 hx hd;have rl:=rel name;rw[lk]at rl;cases hm:mA name with
 |none=>rw[hm]at rl;exact rl.elim
 |some u2 =>
  rw[hm]at rl;have rl':RelV v u2:=rl;have hh:PySem.W.handedIn u2=true:=by
   cases fz with
   |int _=>obtain⟨t,rfl⟩:=rl';rfl
   |str=>obtain⟨t,rfl⟩:=rl';rfl
  obtain⟨cd,hc,hdct⟩:=PySem.W.any_some xf.hd;have fo:aka X.K C (some od) name=some (.value u2):=by
   unfold aka;rw[hc,ajC,xf.na,ajC];simp only[ajC,PySem.W.ownOf,hdct,if_true,li,hm]
  unfold getAttr;refine de (wpAny_mkText (Se (s:={ s1 with toks:=s1.toks+1 }) I1.kIn J xf.ga (Nm (s:={ s1 with toks:=s1.toks+1 }) I1.kIn J fo ?_)))
  exact⟨hh,v,H1,I1.tok _,rl',q⟩
theorem gs:iu X (.builtin "isinstance") (λxs H Q=>∃ea c C d fs b,xs=[.ref ea,c]/\isC c=true/\H ea=some (xo ea (.ref C) (some d))/\H d=some (.xd fs)/\mV X.K C/\ba X.K (.ref C) (HJ c)=some b/\Q (.bl b) H):=by
 intro pins s σ H xs us Q I r h;obtain⟨ea,c,C,d,fs,b,rfl,hc,hx,hd,ty,e,q⟩:=h;obtain⟨u,w',rfl,rx,rc⟩:=vals2 r;cases rx;obtain⟨ox,od,J,_⟩:=Ep I hx hd;have fin:∀tk,EP X pins σ Q (.bool b) { s with toks:=tk }:=λtk=>⟨.bl b,H,I.tok _,rfl,q⟩
 cases c with
 |ty n=>cases rc;exact ai7 (Kr ty) I.kIn J e (λz=>nomatch z) fin
 |ref a=>cases rc;exact ai7 (Kr ty) I.kIn J e (λz=>nomatch z) fin
 |_=>exact absurd (show false=true from hc) kg
end
section
variable{κ:Type}[DecidableEq κ]
def jP (kvs:List (κ×V))(k:κ):Option V:=(kvs.find? λkv=>decide (kv.1=k)).map (·.2)
def putK (kvs:List (κ×V))(k:κ)(v:V):List (κ×V) :=
 if (kvs.any λkv=>decide (kv.1=k))=true then kvs.map (λkv=>if kv.1=k then (kv.1,v) else kv) else kvs++[(k,v)]
def kQ (kvs:List (κ×V))(k:κ):List (κ×V):=kvs.filter λkv=>decide (kv.1≠k)
theorem lR {p:κ×V}{r:List (κ×V)}{k:κ}(e:p.1=k):jP (p::r) k=some p.2:=by simp[jP,ajN,e]
theorem iQ {p:κ×V}{r:List (κ×V)}{k:κ}(e:¬p.1=k):jP (p::r) k=jP r k:=by simp[jP,ajN,e]
theorem uX (k:κ):∀kvs:List (κ×V),(kvs.any λkv=>decide (kv.1=k))=(jP kvs k).isSome
 |[]=>rfl
 |p::r=>by
  rw[aj2]
  by_cases e:p.1=k
  ·simp only[lR e,decide_eq_true e,Bool.true_or,Option.isSome_some]
  ·rw[iQ e,decide_eq_false e,Bool.false_or];exact uX k r
theorem xx (kvs:List (κ×V))(k:κ)(v:V):(putK kvs k v).length<=kvs.length+1:=by
 unfold putK;split
 ·rw[da];omega
 ·rw[ki,ku,List.length_nil];omega
theorem NB {kvs:List (κ×V)}{k:κ}(v:V)(h:jP kvs k=none):putK kvs k v=kvs++[(k,v)]:=by
 unfold putK;rw[uX,h];exact if_neg (by decide)
theorem oe.sG {o:Option V}{u:Option Value}(r:oe o u):o.isSome=u.isSome:=by
 cases o with
 |none=>cases u with
  |none=>rfl
  |some _=>exact(show False from r).elim
 |some _=>cases u with
  |none=>exact(show False from r).elim
  |some _=>rfl
theorem oe.getD {o:Option V}{u:Option Value}{d:V}{d':Value}(r:oe o u)(rd:RelV d d'):RelV (o.getD d) (u.getD d'):=by
 cases o with
 |none=>cases u with
  |none=>exact rd
  |some _=>exact(show False from r).elim
 |some _=>cases u with
  |none=>exact(show False from r).elim
  |some _=>exact r
theorem KV.val {kvs:List (κ×V)}{vs:List (κ×Value)}(r:KV kvs vs)(k:κ):oe (jP kvs k) (valueAt vs k):=by
 unfold KV at r
 induction r with
 |nil=>exact ajr
 | @cons p q ps qs h t ih =>
  obtain⟨h1,h2⟩:=h
  by_cases e:p.1=k
  ·have e':q.1=k:=h1.symm.trans e;have b:valueAt (q::qs) k=some q.2:=by simp[valueAt,ajN,e']
   rw[lR e,b];exact h2
  ·have e':¬q.1=k:=λz=>e (h1.trans z)
   have b:valueAt (q::qs) k=valueAt qs k:=by simp[valueAt,ajN,e']
   rw[iQ e,b];exact ih
theorem KV.any {kvs:List (κ×V)}{vs:List (κ×Value)}(r:KV kvs vs)(k:κ):(kvs.any λkv=>decide (kv.1=k))=vs.any λkv=>decide (kv.1=k):=by
 unfold KV at r
 induction r with
 |nil=>rfl
 |cons h t ih=>rw[aj2,aj2,ih,h.1]
theorem KV.UB {kvs:List (κ×V)}{vs:List (κ×Value)}(r:KV kvs vs)(k:κ){y:V}{u:Value}(ry:RelV y u) :
  KV (kvs.map λkv=>if kv.1=k then (kv.1,y) else kv) (vs.map λkv=>if kv.1=k then (kv.1,u) else kv):=by
 unfold KV at r ⊢
 induction r with
 |nil=>exact .nil
 | @cons p q ps qs h t ih =>
  rw[ra,ra];refine .cons ?_ ih;obtain⟨h1,h2⟩:=h
  by_cases e:p.1=k
  ·rw[if_pos e,if_pos (h1.symm.trans e)];exact⟨h1,ry⟩
  ·rw[if_neg e,if_neg (λz=>e (h1.trans z))];exact⟨h1,h2⟩
theorem KV.put {kvs:List (κ×V)}{vs:List (κ×Value)}(r:KV kvs vs)(k:κ){y:V}{u:Value}(ry:RelV y u):KV (putK kvs k y) (stored vs k u):=by
 unfold putK stored;rw[r.any k]
 by_cases e:(vs.any λkv=>decide (kv.1=k))=true
 ·rw[if_pos e,if_pos e];exact r.UB k ry
 ·rw[if_neg e,if_neg e];exact Paired.snoc r ⟨rfl,ry⟩
theorem KV.drop {kvs:List (κ×V)}{vs:List (κ×Value)}(r:KV kvs vs)(k:κ):KV (kQ kvs k) (without vs k):=by
 unfold KV at r ⊢;unfold kQ without
 induction r with
 |nil=>exact .nil
 | @cons p q ps qs h t ih =>
  obtain⟨h1,h2⟩:=h;rw[List.filter_cons,List.filter_cons]
  by_cases e:p.1=k
  ·have a:¬decide (p.1≠k)=true:=by simp[e]
   have b:¬decide (q.1≠k)=true:=by simp[h1.symm.trans e]
   rw[if_neg a,if_neg b];exact ih
  ·have e':¬q.1=k:=λz=>e (h1.trans z)
   have a:decide (p.1≠k)=true:=by simp[e]
   have b:decide (q.1≠k)=true:=by simp[e']
   rw[if_pos a,if_pos b];exact .cons ⟨h1,h2⟩ ih
theorem KV.keys {kvs:List (κ×V)}{vs:List (κ×Value)}(r:KV kvs vs):kvs.map (·.1)=vs.map (·.1):=by
 unfold KV at r
 induction r with
 |nil=>rfl
 |cons h t ih=>rw[ra,ra,ih,h.1]
theorem KV.length {kvs:List (κ×V)}{vs:List (κ×Value)}(r:KV kvs vs):kvs.length=vs.length:=Paired.length r
theorem Er (kvs:List (κ×V))(k:κ):(kQ kvs k).length<=kvs.length:=List.length_filter_le _ _
end
theorem BY {P:kx}{w:World}{k:Key}{u:Value}(r:RelV (kV k) u):(eO P w).is k u=true:=by
 cases k with
 |inl i=>obtain⟨t,e⟩:=(show ∃t,u=Value.int i t from r);subst e;exact D1 P w i t
 |inr x=>obtain⟨t,e⟩:=(show ∃t,u=Value.str x t from r);subst e;exact D2 P w x t
theorem BZ {P:kx}{w:World}:∀ {ks:List Key} {us:List Value},Vals (ks.map kV) us->ItemsAre (eO P w) ks us
 |[],_,r=>by rw[ajY]at r;cases r;exact .nil
 |k::ks,_,r=>by
  rw[ra]at r;cases r with
  |cons h t=>exact .cons (BY h) (BZ t)
abbrev KT (H:Hp):List (List Key×V)->List (List Key×Addr×Value)->Prop:=Paired λp q=>p.1=q.1/\H q.2.1=some (.tup (p.1.map kV))/\RelV p.2 q.2.2
theorem KT.val {H:Hp}{kvs:List (List Key×V)}{xs:List (List Key×Addr×Value)}(r:KT H kvs xs)(k:List Key):oe (jP kvs k) ((atKey xs k).map (·.2)):=by
 induction r with
 |nil=>exact ajr
 | @cons p q ps qs h t ih =>
  obtain⟨h1,_,h2⟩:=h
  by_cases e:p.1=k
  ·have e':q.1=k:=h1.symm.trans e;have b:atKey (q::qs) k=some q.2:=by simp[atKey,ajN,e']
   rw[lR e,b];exact h2
  ·have e':¬q.1=k:=λz=>e (h1.trans z)
   have b:atKey (q::qs) k=atKey qs k:=by simp[atKey,ajN,e']
   rw[iQ e,b];exact ih
theorem KT.UB {H:Hp}{kvs:List (List Key×V)}{xs:List (List Key×Addr×Value)}(r:KT H kvs xs)(k:List Key){y:V}{u:Value}(ry:RelV y u) :
  KT H (kvs.map λkv=>if kv.1=k then (kv.1,y) else kv) (xs.map (putAt k u)):=by
 induction r with
 |nil=>exact .nil
 | @cons p q ps qs h t ih =>
  rw[ra,ra];refine .cons ?_ ih;obtain⟨h1,h2,h3⟩:=h;unfold putAt
  by_cases e:p.1=k
  ·rw[if_pos e,if_pos (h1.symm.trans e)];exact⟨h1,h2,ry⟩
  ·rw[if_neg e,if_neg (λz=>e (h1.trans z))];exact⟨h1,h2,h3⟩
theorem KT.put {H:Hp}{kvs:List (List Key×V)}{xs:List (List Key×Addr×Value)}(r:KT H kvs xs)(k:List Key){b:Addr}{y:V}{u:Value}(hb:H b=some (.tup (k.map kV)))(ry:RelV y u) :
  KT H (putK kvs k y) (storedH xs k b u):=by
 have e:(kvs.any λkv=>decide (kv.1=k))=(atKey xs k).isSome:=by
  rw[uX,(r.val k).sG,Option.isSome_map]
 unfold putK storedH;rw[e]
 by_cases q:(atKey xs k).isSome=true
 ·rw[if_pos q,if_pos q];exact r.UB k ry
 ·rw[if_neg q,if_neg q];exact Paired.snoc r ⟨rfl,hb,ry⟩
theorem KT.keeps {H H':Hp}{kvs:List (List Key×V)}{xs:List (List Key×Addr×Value)}(r:KT H kvs xs)(ht:∀b ys,H b=some (.tup ys)->H' b=some (.tup ys)):KT H' kvs xs :=
 Paired.TN r λ_ _ z=>⟨z.1,ht _ _ z.2.1,z.2.2⟩
section
variable{P:kx}{w:World}{H:Hp}{h:Heap}{a:Addr}
theorem Sg {u:HO}(ok:HOk P w H h)(e:Rd H a u):d4 P w H h a u:=e.ok ok
theorem B0 {kvs:List (Key×V)}(ok:HOk P w H h)(e:Rd H a (.dK kvs)):kvs.length<=gc/\(a == ajP)=false/\∃vs,KV kvs vs/\h.DictOf (eO P w) a vs :=
 show d4 P w H h a (.dK kvs) from Sg ok e
theorem NC {kvs:List (Key×V)}(ok:HOk P w H h)(e:H a=some (.dK kvs)):kvs.length<=gc/\(a == ajP)=false/\∃vs,KV kvs vs/\h.DictOf (eO P w) a vs:=B0 ok (.inl e)
theorem CV {ks:List Key}(ok:HOk P w H h)(e:H a=some (.tup (ks.map kV))):(tupleKind (eO P w)).is h ks a:=by
 obtain⟨_,its,r,o,h1,h2,n,h3⟩:=(show d4 P w H h a (.tup (ks.map kV)) from ok a _ e)
 exact⟨o,its.toArray,n,h1,h2,h3,by simpa using BZ r⟩
theorem Es {kvs:List (List Key×V)}(ok:HOk P w H h)(e:Rd H a (.dT kvs)):kvs.length<=gc/\(a == ajP)=false /\
  ∃xs,KT H kvs xs/\h.DictOfH (tupleKind (eO P w)) a xs:=by
 obtain⟨z,y,xs,r,o,es,ep,h1,h2,h3,h4,h5⟩:=(show d4 P w H h a (.dT kvs) from Sg ok e)
 refine⟨z,y,xs,r,o,es,ep,h1,h2,h3,h4,λx hx=>?_,h5⟩
 have all:∀ {l:List (List Key×V)} {m:List (List Key×Addr×Value)},KT H l m->∀x∈m,(tupleKind (eO P w)).is h x.1 x.2.1:=by
  intro l m q
  induction q with
  |nil=>intro x hx;exact nomatch hx
  | @cons p q ps qs hq t ih =>
   intro x hx;rcases List.mem_cons.mp hx with e | hx
   ·subst e;exact CV ok (by rw[<-hq.1];exact hq.2.1)
   ·exact ih x hx
 exact all r x hx
theorem Zh {kvs:List (List Key×V)}(ok:HOk P w H h)(e:H a=some (.dT kvs)):kvs.length<=gc/\(a == ajP)=false /\
  ∃xs,KT H kvs xs/\h.DictOfH (tupleKind (eO P w)) a xs:=Es ok (.inl e)
end
def CW (H:Hp)(a:Addr)(y:V)(r:Option V):Prop :=
 (∃kvs k,Rd H a (.dK kvs)/\y=kV k/\r=jP kvs k)\/∃kvs k b,Rd H a (.dT kvs)/\y=.ref b/\H b=some (.tup (k.map kV))/\r=jP kvs k
def yd (H:Hp)(a:Addr)(y v:V)(H':Hp):Prop :=
 (∃kvs k,H a=some (.dK kvs)/\y=kV k/\kvs.length < gc/\H'=upd H a (.dK (putK kvs k v))) \/
 ∃kvs k b,H a=some (.dT kvs)/\y=.ref b/\H b=some (.tup (k.map kV))/\kvs.length < gc/\H'=upd H a (.dT (putK kvs k v))
theorem CW.k {H:Hp}{a:Addr}{kvs:List (Key×V)}{k:Key}(e:H a=some (.dK kvs)):CW H a (kV k) (jP kvs k):=.inl ⟨kvs,k,.inl e,rfl,rfl⟩
theorem CW.t {H:Hp}{a b:Addr}{kvs:List (List Key×V)}{k:List Key}(e:H a=some (.dT kvs))(eb:H b=some (.tup (k.map kV))):CW H a (.ref b) (jP kvs k):=.inr ⟨kvs,k,b,.inl e,rfl,eb,rfl⟩
theorem yd.k {H:Hp}{a:Addr}{kvs:List (Key×V)}{k:Key}{v:V}(e:H a=some (.dK kvs))(hl:kvs.length < gc):yd H a (kV k) v (upd H a (.dK (putK kvs k v))):=.inl ⟨kvs,k,e,rfl,hl,rfl⟩
theorem yd.t {H:Hp}{a b:Addr}{kvs:List (List Key×V)}{k:List Key}{v:V}(e:H a=some (.dT kvs))(eb:H b=some (.tup (k.map kV)))(hl:kvs.length < gc) :
  yd H a (.ref b) v (upd H a (.dT (putK kvs k v))):=.inr ⟨kvs,k,b,e,rfl,eb,hl,rfl⟩
section
variable{X:Cx}{pins:List (Addr×Obj)}{σ:St}{H:Hp}{s:Shared}{a:Addr}{y v:V}{u r:Value}{o:Option V}{A:Around}{E:Value->Shared->Prop}
theorem Inv.big (I:Inv X pins σ H s):ajP < s.heap.objs.size:=by
 have h:gr < s.heap.objs.size:=(I.mod.glob.keeps I.bk).lt;exact Nat.lt_trans (by decide) h
theorem Lv {Q:Value->Shared->Prop}(hu:A.units+1 < cLine)(I:Inv X pins σ H s)(g:CW H a y (some v))(ry:RelV y u)(h:∀w' s',Inv X pins σ H s'->RelV v w'->Q w' s') :
  wpAny (model X.prog X.w) A (getItem (.ref a) u) Q E s:=by
 rcases g with ⟨kvs,k,e,ey,l⟩ | ⟨kvs,k,b,e,ey,eb,l⟩
 ·subst ey;obtain⟨z,hd,vs,rel,dd⟩:=B0 I.hok e;obtain⟨w',hw,rw'⟩:=oe.some_of (v:=v) (o:=valueAt vs k) (by rw[l];exact rel.val k)
  exact wpAny_getItem_of (BY ry) dd.mapOf hw (h w' _ (I.tok _) rw')
 ·subst ey;cases (show u=si b from ry)
  obtain⟨z,hd,xs,rel,dd⟩:=Es I.hok e;obtain⟨w',hw,rw'⟩:=oe.some_of (v:=v) (o:=(atKey xs k).map (·.2)) (by rw[l];exact rel.val k)
  obtain⟨p,hp,hp2⟩:=Option.map_eq_some_iff.mp hw;refine wpAny_getItem_heap (tupleKind_room_in1 hu) (CV I.hok eb) dd hp ?_;rw[hp2];exact h w' _ (I.tok _) rw'
theorem Qu {Q:Value->Shared->Prop}(hu:A.units+1 < cLine)(I:Inv X pins σ H s)(g:CW H a y o)(ry:RelV y u)(h:∀s',Inv X pins σ H s'->Q (.bool (!o.isSome)) s') :
  wpAny (model X.prog X.w) A (ajw .NotIn u (.ref a)) Q E s:=by
 rcases g with ⟨kvs,k,e,ey,l⟩ | ⟨kvs,k,b,e,ey,eb,l⟩
 ·subst ey;obtain⟨z,hd,vs,rel,dd⟩:=B0 I.hok e;refine wpAny_notIn_of (BY ry) hd dd.mapOf ?_;rw[<-(rel.val k).sG,<-l];exact h _ (I.tok _)
 ·subst ey;cases (show u=si b from ry)
  obtain⟨z,hd,xs,rel,dd⟩:=Es I.hok e;refine wpAny_notIn_heap (tupleKind_room_in1 hu) (CV I.hok eb) hd dd ?_;have q:=(rel.val k).sG;rw[Option.isSome_map]at q;rw[<-q,<-l];exact h _ (I.tok _)
theorem zi {h':Heap}{t':Nat}{ob:HO}(I:Inv X pins σ H s)(mu:Mut (H a))(hs:Heap.SameBut a s.heap h')(he:∃q,h'.get? a=some q)(new:d4 X.prog X.w (upd H a ob) h' a ob) :
  Inv X pins σ (upd H a ob) { s with heap:=h',toks:=t' } :=
 I.write (x:=a) (e:=a) mu (.inl rfl) (λb q hb z=>(hs.2 b hb).trans z) he new
theorem HS {P:kx}{w:World}{H':Hp}{h':Heap}{kvs:List (Key×V)}{vs:List (Key×Value)}(z:kvs.length<=gc)(hd:(a == ajP)=false)(rel:KV kvs vs)(dd:h'.DictOf (eO P w) a vs) :
  d4 P w H' h' a (.dK kvs):=⟨z,hd,vs,rel,dd⟩
theorem Lw {H':Hp}{Q:Unit->Shared->Prop}(hu:A.units+1 < cLine)(I:Inv X pins σ H s)(g:yd H a y v H')(ry:RelV y u)(rv:RelV v r)(h:∀s',Inv X pins σ H' s'->Q () s') :
  wpAny (model X.prog X.w) A (setItem (.ref a) u r) Q E s:=by
 rcases g with ⟨kvs,k,e,ey,l,eH⟩ | ⟨kvs,k,b,e,ey,eb,l,eH⟩
 ·subst ey eH;obtain⟨z,hd,vs,rel,dd⟩:=NC I.hok e;have hz:vs.length<=gc:=by rw[<-rel.length];exact z
  have hl:(putK kvs k v).length<=gc:=by have:=xx kvs k v;omega
  refine wpAny_setItem_pairs (hsz:=hz) (BY ry) dd λh' dd' hs=>h _ ?_
  have he:∃q,h'.get? a=some q:=let ⟨q,_,_,hq,_⟩:=dd';⟨q,hq⟩
  exact zi I (by rw[e];exact ajr) hs he (HS hl hd (rel.put k rv) dd')
 ·subst ey eH;cases (show u=si b from ry)
  obtain⟨z,hd,xs,rel,dd⟩:=Zh I.hok e;have hz:xs.length<=gc:=by rw[<-Paired.length rel];exact z
  have hl:(putK kvs k v).length<=gc:=by have:=xx kvs k v;omega
  refine wpAny_setItem_heap (hsz:=hz) (tupleKind_room_in1 hu) (CV I.hok eb) dd λh' dd' hs=>h _ ?_
  obtain⟨q,es,ep,hq,h2,h3,h4,_,h5⟩:=dd';refine zi I (by rw[e];exact ajr) hs ⟨q,hq⟩ ⟨hl,hd,_,(rel.put k eb rv).keeps λc ys ec=>?_,q,es,ep,hq,h2,h3,h4,h5⟩
  rw[av (YE ec e (λz=>nomatch z))]
  exact ec
end
section
variable{X:Cx}{pins:List (Addr×Obj)}{σ:St}{H:Hp}{s:Shared}{a:Addr}{kvs:List (Key×V)}{k:Key}{u:Value}{A:Around}{E:Value->Shared->Prop}
theorem YD {Q:Unit->Shared->Prop}(I:Inv X pins σ H s)(e:H a=some (.dK kvs))(ry:RelV (kV k) u)(l:(jP kvs k).isSome=true)(h:∀s',Inv X pins σ (upd H a (.dK (kQ kvs k))) s'->Q () s') :
  wpAny (model X.prog X.w) A (delItem (.ref a) u) Q E s:=by
 obtain⟨z,hd,vs,rel,dd⟩:=NC I.hok e;refine wpAny_delItem_slot dd.typeIs (by decide) PySem.F.slot_dict_delitem
  (call_meetsIn PySem.F.slot_dict_delitem dd.typeIs PySem.F.entry_dict_delitem (PySem.F.args_dict_delitem_2 _ _) (meets_dict_delitem_pairs (eO X.prog X.w) a (BY ry)) ⟨vs,dd,by rw[<-rel.length];exact z,by rw[<-(rel.val k).sG];exact l,λh' dd' hs=>h _ ?_⟩)
 have he:∃q,h'.get? a=some q:=let ⟨q,_,_,hq,_⟩:=dd';⟨q,hq⟩
 exact zi I (by rw[e];exact ajr) hs he (HS (rf (Er kvs k) z) hd (rel.drop k) dd')
theorem Zi {v:V}{more:List Value}{Q:Value->Shared->Prop}(I:Inv X pins σ H s)(e:H a=some (.dK kvs))(ry:RelV (kV k) u)(l:jP kvs k=some v)(hm:more=[]\/∃x,more=[x])
  (h:∀w' s',Inv X pins σ (upd H a (.dK (kQ kvs k))) s'->RelV v w'->Q w' s'):wpAny (model X.prog X.w) A (call (.builtin "dict.pop") (.ref a::u::more)) Q E s:=by
 obtain⟨z,hd,vs,rel,dd⟩:=NC I.hok e;obtain⟨w',hw,rw'⟩:=oe.some_of (v:=v) (o:=valueAt vs k) (by rw[<-l];exact rel.val k)
 have hp:(keyPart u).isSome=true:=by
  cases k with
  |inl i=>obtain⟨t,q⟩:=(show ∃t,u=Value.int i t from ry);subst q;rfl
  |inr x=>obtain⟨t,q⟩:=(show ∃t,u=Value.str x t from ry);subst q;rfl
 have ha:argsOk "dict.pop" ⟨.ref a::u::more,[]⟩:=by
  rcases hm with q | ⟨x,q⟩
  ·subst q;exact PySem.F.args_dict_pop_2 _ _
  ·subst q;exact PySem.F.args_dict_pop_3 _ _ _
 refine call_meetsIn PySem.F.slot_dict_pop dd.typeIs PySem.F.entry_dict_pop ha (meets_dict_pop_there (eO X.prog X.w) a (BY ry) more hm hp)
  ⟨vs,w',dd,by rw[<-rel.length];exact z,hw,λh' dd' hs=>h w' _ ?_ rw'⟩
 have he:∃q,h'.get? a=some q:=let ⟨q,_,_,hq,_⟩:=dd';⟨q,hq⟩
 exact zi I (by rw[e];exact ajr) hs he (HS (rf (Er kvs k) z) hd (rel.drop k) dd')
theorem Zj {Q:Value->Shared->Prop}(I:Inv X pins σ H s)(e:Rd H a (.dK kvs))(h:∀t s',Inv X pins σ H s'->Q (.int kvs.length t) s'):wpAny (model X.prog X.w) A (call (.builtin "len") [.ref a]) Q E s:=by
 obtain⟨z,hd,vs,rel,dd⟩:=B0 I.hok e;refine call_len_dict hd dd (by rw[<-rel.length];rw[sizeLine_eq]at z;omega) ?_
 rw[<-rel.length];exact h _ _ (I.tok _)
end
def Zk (i:Expr):Prop:=∀ov iv,subscripted i false ov iv=operate [ov,iv] (getItem ov iv)
theorem Qv {prog:kx}{w:World}{A:Around}{E:Value->Shared->Prop}{s:Shared}{env:Env}{value slice:Expr}{pos:Pos}{T id:String}{Q:Value->Shared->Prop}
  (hl:typeLookup (.type T) "__getitem__"=pure (some (.builtin id))) (hs:Zk slice)
  (h:wpAny (model prog w) A (eval value env) (λo s₁=>wpAny (model prog w) A (eval slice env) (λi s₂=>s₂.TypeIs o T/\wpAny (model prog w) A (getItem o i) Q E s₂) E s₁) E s) :
  wpAny (model prog w) A (eval (.Subscript value slice pos) env) Q E s:=by
 refine Subscript_ (kr h (λo s₁ h₁=>kr h₁ (λi s₂ h₂=>?_) λ_ _ x=>x) λ_ _ x=>x)
 obtain⟨hT,h₂⟩:=h₂;unfold subscriptTail;refine de ?_;rw[getitemInPython_of_ne hT.not_modules];refine de (wpAny_specialOf hT hl ?_);have fin:wpAny (model prog w) A (subscripted slice false o i) (λr s₃=>wpAny (model prog w) A (letTemporaryGo value o r >>= λ_=>pure r) Q E s₃) E s₂:=by
  rw[hs o i];exact wpAny_operating (kr h₂ (λr s₃ h₃=>de (wpAny_letTemporaryGo (kq h₃))) λ_ _ x=>x)
 first
  |exact kq (de fin)
  |exact de (kq (de fin))
  |exact de fin
theorem Et {X:Cx}{pins:List (Addr×Obj)}{σ:St}{H:Hp}{s:Shared}{a:Addr}{y:V}{o:Option V}(I:Inv X pins σ H s)(g:CW H a y o):s.TypeIs (.ref a) "dict":=by
 rcases g with ⟨kvs,k,e,_,_⟩ | ⟨kvs,k,b,e,_,_,_⟩
 ·obtain⟨_,_,vs,_,dd⟩:=B0 I.hok e;exact dd.typeIs
 ·obtain⟨_,_,xs,_,dd⟩:=Es I.hok e;exact dd.typeIs
def Zl (td ty:TE):TE:=λσ H Q=>td σ H λx H1=>ty σ H1 λy H2=>∃a v,x=.ref a/\CW H2 a y (some v)/\Q v H2
def Qw (ty td:TE):TE:=λσ H Q=>ty σ H λy H1=>td σ H1 λx H2=>∃a o,x=.ref a/\CW H2 a y o/\Q (.bl (!o.isSome)) H2
def Zm (td ty tv:TE):TS:=λD σ H=>tv σ H λv H1=>td σ H1 λx H2=>ty σ H2 λy H3=>∃a H4,x=.ref a/\yd H3 a y v H4/\D.nx σ H4
section
variable{X:Cx}{o i e value:Expr}{pos pos' age:Pos}{td ty tv:TE}
theorem sH (hu:X.A.units+1 < cLine)(ho:PE X o td)(hi:PE X i ty)(hs:Zk i):PE X (.Subscript o i pos) (Zl td ty):=by
 intro pins s σ H Q I h;refine Qv PySem.F.slot_dict_getitem.lookup hs (thn (ho pins s σ H _ I h) λu s1 ⟨x,H1,I1,rx,q1⟩=>thn (hi pins s1 σ H1 _ I1 q1) λiv s2 ⟨y,H2,I2,ry,a,v,ex,g,q2⟩=>?_)
 subst ex;obtain rfl:u=si a:=rx;exact⟨Et I2 g,Lv hu I2 g ry λw' s3 I3 rw'=>⟨v,H2,I3,rw',q2⟩⟩
theorem Lx (hu:X.A.units+1 < cLine)(hi:PE X i ty)(ho:PE X o td):PC X .NotIn i o (Qw ty td):=by
 intro pins s σ H Q I h;refine thn (hi pins s σ H _ I h) λiv s1 ⟨y,H1,I1,ry,q1⟩=>thn (ho pins s1 σ H1 _ I1 q1) λu s2 ⟨x,H2,I2,rx,a,ov,ex,g,q2⟩=>?_
 subst ex;obtain rfl:u=si a:=rx;exact Qu hu I2 g ry λs3 I3=>⟨.bl (!ov.isSome),H2,I3,rfl,q2⟩
theorem sI (hu:X.A.units+1 < cLine)(ho:PE X o td)(hi:PE X i ty)(hv:PE X value tv)(hs:swapsWith value (some (.Subscript o i pos')) pos.line X.env=pure false) :
  PS X (.Assign [.Subscript o i pos'] value pos) (Zm td ty tv):=by
 intro pins s σ H D I h;refine wpAny_Assign_Subscript (thn (hv pins s σ H _ I h) λr s1 ⟨v,H1,I1,rv,q1⟩=>thn (ho pins s1 σ H1 _ I1 q1) λu s2 ⟨x,H2,I2,rx,q2⟩=>thn (hi pins s2 σ H2 _ I2 q2) λiv s3 ⟨y,H3,I3,ry,a,H4,ex,g,q3⟩=>?_) hs
 subst ex;obtain rfl:u=si a:=rx;exact Lw hu I3 g ry rv λs4 I4=>⟨σ,H4,I4,q3⟩
end
theorem ND {P:kx}{w:World}{H:Hp}(h:Heap)(hb:ajP < h.objs.size):d4 P w H (h.push { cls:=.type "dict",data:=.dict #[] }) h.objs.size (.dK []) :=
 ⟨aiW _,beq_eq_false_iff_ne.mpr (aiD (wt hb)),[],.nil,Heap.DictOf.new h⟩
def UC:TE:=λ_ H Q=>∀p,H p=none->Q (.ref p) (upd H p (.dK []))
section
variable{X:Cx}{pos:Pos}
theorem uY:PE X (.Dict [] [] pos) UC:=λpins s σ H Q I h =>
 wpAny_Dict_empty ⟨.ref s.heap.objs.size,_,I.laid (a:=s.heap.objs.size) (o:=.dK []) (t':=s.toks) (λ_ _ q=>gp _ q) (ko _) (ND s.heap I.big),rfl,h _ (I.hok.fresh (ko _))⟩
end
structure M1 (X:Cx)(o:Expr)(m:Str)(apos:Pos)(e:Expr)(gj:Pos):Prop where
 base:attributeBase o m X.env (eval o X.env)=eval o X.env
 few:((backTo gj (sr [e] X.env)).all (λx=>!x.1) && (ajR gj (ajh [] X.env)).all (λx=>x.1.isSome)
  && decide (([e]:List Expr).length+([]:List Keyword).length+(if ([]:List Keyword).isEmpty then 0 else 1) < 30))=true
 line:(apos.endLine == gj.line)=true
 trees:backTo gj (sr [e] X.env)=[(false,eval e X.env)]
structure M2 (X:Cx)(o:Expr)(m:Str)(apos:Pos)(e f:Expr)(gj:Pos):Prop where
 base:attributeBase o m X.env (eval o X.env)=eval o X.env
 few:((backTo gj (sr [e,f] X.env)).all (λx=>!x.1) && (ajR gj (ajh [] X.env)).all (λx=>x.1.isSome)
  && decide (([e,f]:List Expr).length+([]:List Keyword).length+(if ([]:List Keyword).isEmpty then 0 else 1) < 30))=true
 line:(apos.endLine == gj.line)=true
 trees:backTo gj (sr [e,f] X.env)=[(false,eval e X.env),(false,eval f X.env)]
def IsD (H:Hp)(a:Addr):Prop:=(∃kvs,Rd H a (.dK kvs))\/∃kvs,Rd H a (.dT kvs)
theorem UD {X:Cx}{pins:List (Addr×Obj)}{σ:St}{H:Hp}{s:Shared}{a:Addr}(I:Inv X pins σ H s)(d:IsD H a) :
  s.TypeIs (.ref a) "dict"/\(∀b,si a=.ref b->∃ob,s.heap.get? b=some ob/\ob.dict=none)/\(a == ajP)=false:=by
 rcases d with ⟨kvs,e⟩ | ⟨kvs,e⟩
 ·obtain⟨_,hd,vs,_,dd⟩:=B0 I.hok e;refine⟨dd.typeIs,λb q=>?_,hd⟩
  cases q;obtain⟨ob,_,_,h1,h2,_⟩:=dd;exact⟨ob,h1,h2.2.1⟩
 ·obtain⟨_,hd,xs,_,dd⟩:=Es I.hok e;refine⟨dd.typeIs,λb q=>?_,hd⟩
  cases q;obtain⟨ob,_,_,h1,h2,_⟩:=dd;exact⟨ob,h1,h2.2.1⟩
def UE (td ty:TE):TE:=λσ H Q=>td σ H λx H1=>∃a,x=.ref a/\IsD H1 a/\ty σ H1 λy H2=>∃kvs k v,H2 a=some (.dK kvs)/\y=kV k/\jP kvs k=some v/\Q v (upd H2 a (.dK (kQ kvs k)))
section
variable{X:Cx}{o e f:Expr}{apos gj:Pos}{td ty tx:TE}
theorem NF (ho:PE X o td)(he:PE X e ty)(m:M1 X o "pop" apos e gj):PE X (.Call (.Attribute o "pop" apos) [e] [] gj) (UE td ty):=by
 intro pins s σ H Q I h;refine wpAny_Call_method m.base m.few m.line PySem.F.plainAttrs_dict PySem.F.slot_dict_pop PySem.F.type_dict_pop (thn (ho pins s σ H _ I h) λu s1 ⟨x,H1,I1,rx,a,ex,d,q1⟩=>?_)
 subst ex;obtain rfl:u=si a:=rx;obtain⟨t1,t2,_⟩:=UD I1 d;refine⟨t1,t2,?_⟩;rw[m.trees];refine Calls.callWith_builtin rfl (ajX (Calls.spliced_cons (thn (he pins s1 σ H1 _ I1 q1) λiv s2 ⟨y,H2,I2,ry,kvs,k,v,ea,ey,l,q2⟩=>Calls.spliced_nil ?_)))
 subst ey;exact Zi I2 ea ry l (.inl rfl) λw' s3 I3 rw'=>⟨v,_,I3,rw',q2⟩
end
section
variable{X:Cx}
theorem Ly:iu X (.builtin "len") (λxs H Q=>∃a kvs,xs=[V.ref a]/\H a=some (.dK kvs)/\Q (.int kvs.length) H):=by
 intro pins s σ H xs us Q I r h;obtain⟨a,kvs,rfl,ha,q⟩:=h;obtain⟨u,rfl,ru⟩:=vals1 r;cases ru;exact Zj I (.inl ha) λt s' I'=>⟨.int kvs.length,H,I',⟨t,rfl⟩,q⟩
end
theorem Room.u1 {k:Nat}{A:Around}(r:Room k A):A.units+1 < cLine:=by have:=r.un;omega
theorem Qx {X:Cx}{K:bo}{e:Expr}{f:Str}{pos:Pos}{ta:TE}(ek:X.K=K)(he:PE X e ta)(hb:attributeBase e f X.env (eval e X.env)=eval e X.env):PE X (.Attribute e f pos) (YX K ta f):=by
 subst ek;exact bu he hb
theorem PSX.ps {X:Cx}{st:Stmt}{t:TSX}(h:PSX X st t):PS X st (λD σ H=>t D (λ_=>E0) σ H):=λpins s σ H D I hw =>
 kr (h pins s σ H D (λ_=>E0) I hw) (λ_ _ z=>z) λ_ _ ⟨_,_,_,_,_,_,_,_,_,_,z⟩=>z.elim
theorem aT {P:Prop}(h:∀G:Prop,(P->G)->G):P:=h P id
theorem ixv {s:Option (Option V)}{p:Addr}{n:Int}{S:Addr->List V->Prop}{xs:List V}{z:V}{R:V->Prop}(h0:s=some (some (.ref p)))(h1:S p xs)(h2:atI xs n=some z)(h:R z):∃v,s=some (some v)/\∃q ys i w,v=.ref q/\V.int n=.int i/\S q ys/\atI ys i=some w/\R w :=
 ⟨_,h0,p,xs,n,z,rfl,rfl,h1,h2,h⟩
theorem gu {K:bo}{s:Option (Option V)}{H:Hp}{a C dx:Addr}{fs:List (Str×V)}{f:Str}{w:V}{R:V->Prop}(h0:s=some (some (.ref a)))(h1:H a=some (.ins C dx fs))(h2:Cls K C)(h3:dR K C f)(h4:fs.lookup f=some w)(h:R w) :
  ∃v,s=some (some v)/\∃a C dx fs w,v=.ref a/\H a=some (.ins C dx fs)/\Cls K C/\dR K C f/\fs.lookup f=some w/\R w:=⟨_,h0,a,C,dx,fs,w,rfl,h1,h2,h3,h4,h⟩
theorem mtv {s:Option (Option V)}{H:Hp}{a C dx:Addr}{fs:List (Str×V)}{m:Str}{R:V->Prop}(h0:s=some (some (.ref a)))(h1:H a=some (.ins C dx fs))(h2:fs.lookup m=none)(h:R (.ref a)) :
  ∃v,s=some (some v)/\∃a dx fs,v=.ref a/\H a=some (.ins C dx fs)/\fs.lookup m=none/\R v:=⟨_,h0,a,dx,fs,rfl,h1,h2,h⟩
theorem tsf {b:Bool}{P Q:Prop}(h:b=false)(q:Q):∃k,V.bl b=.bl k/\if k=true then P else Q:=⟨b,rfl,by rw[h];exact q⟩
theorem tst {b:Bool}{P Q:Prop}(h:b=true)(q:P):∃k,V.bl b=.bl k/\if k=true then P else Q:=⟨b,rfl,by rw[h];exact q⟩
def scB (N P:List Str)(sc:Scope):Bool:=(match sc.kind with | .function=>true | _=>false) && !sc.isCoroutine && !sc.isGenerator && decide N.Nodup && decide (N.take P.length=P) && decide (∀x∈P,sc.names.lookup x=some .local\/sc.names.lookup x=some .cell) && decide (∀y∈sc.names,y.2≠.free)
theorem fsc {N P:List Str}{sc:Scope}(h:scB N P sc=true):ax N P sc:=by
 unfold scB at h;simp only[aiN,Bool.not_eq_true',decide_eq_true_eq]at h;obtain⟨⟨⟨⟨⟨⟨h1,h2⟩,h3⟩,h4⟩,h5⟩,h6⟩,h7⟩:=h;refine⟨?_,h2,h3,h4,h5,h6,h7⟩;split at h1
 ·assumption
 ·cases h1
end L2
namespace L2
open PySem
theorem Draws.shift {prog:kx}{w:World}{A:Around}{it:Addr}{fp:List Addr}{n:Nat}{P:Nat->Value->Prop}{St:Nat->Heap->Prop}(k:Nat)(D:Draws prog w A it fp n P St) :
  Draws prog w A it fp (n+k) (λi v=>∃j,i=j+k/\P j v) (λi h=>∃j,i=j+k/\St j h) where
 live:=λ_ h ⟨j,_,st⟩=>D.live j h st
 frame:=λ_ h h' ⟨j,e,st⟩ q=>⟨j,e,D.frame j h h' st q⟩
 item:=λi s Q E hi ⟨j,e,st⟩ hQ=>by
  subst e;exact D.item j s Q E (by omega) st λx h' tk p st' sb=>hQ x h' tk ⟨j,rfl,p⟩ ⟨j+1,by omega,st'⟩ sb
 done:=λs Q E ⟨j,e,st⟩ hE=>by
  obtain rfl:j=n:=by omega
  exact D.done s Q E st hE
section
variable{prog:kx}{w:World}{A:Around}{E:Value->Shared->Prop}{s:Shared}
abbrev kwS (v:Value):List (Str×Value):=[(ar "start",v)]
theorem meets_enumK (l:Addr)(its:Array Value)(n:Nat)(dc:Option Addr)(sl:Array (Option Value))(k:Int)(t:Tok)(hk:ajO k=true) :
  Meets (Builtin.«enumerate.__new__» ⟨[.type "enumerate",.ref l],kwS (.int k t)⟩) (λ_ R s=>s.heap.get? l=some { cls:=.type "list",dict:=dc,data:=.seq its n,slots:=sl } /\
   R (.ok (.ret (.ref (s.heap.objs.size+1)))) { s with heap:=(s.heap.push { cls:=.type "list_iterator",data:=.fields #[.ref l,.int 0 0] }).push { cls:=.type "enumerate",data:=.fields #[.none,.bool false,.ref s.heap.objs.size,rawInt k,.none,.none] } }) :=
 .of_wp λprog w A R s h=>by
  obtain⟨hp,g,d,tk,os⟩:=s;obtain⟨hl,h⟩:=h;have agz:=sub_enumerate;have z:hp.objs.size+1=(hp.push { cls:=.type "list_iterator",data:=.fields #[.ref l,.int 0 0] }).objs.size:=(ajF ..).symm;have hL:Heap.IsList (Shared.heap ⟨hp,g,d,tk,os⟩) l its:=⟨_,hl,rfl,n,rfl⟩;have nk:¬(!ajO k)=true:=by rw[hk];exact kg
  have h2:=h;dsimp only at h2;rw[z]at h2
  wp_walk using AutoSeq1.wpAny_loadPart' hl
  refine wpAny_stack_any λst=>kq ?_
  split
  ·rename_i c _ _ _ _ _;cases (c == Value.type "enumerate") <;> (wp_walk using AutoSeq1.wpAny_loadPart' hl,wpAny_pyIter_list hL;exact⟨_,rfl,h2⟩)
  ·wp_walk using AutoSeq1.wpAny_loadPart' hl,wpAny_pyIter_list hL
   exact⟨_,rfl,h2⟩
theorem argsK (o a v:Value):argsOk "object.__init__" ⟨[o,a],kwS v⟩:=by
 have e:=signature?_of (id:="object.__init__") (n:=("__init__".toList).reverse) (o:=("object".toList).reverse) (by kernel_rfl) F.owner_object
 show argsOk _ _;unfold argsOk;rw[e]
 kernel_rfl
theorem chkK (a v:Value):checkTypeCall "enumerate" ⟨[a],kwS v⟩=pure ():=by kernel_rfl
theorem chkN (a v:Value):checkBuiltinCall "enumerate.__new__" ⟨[.type "enumerate",a],kwS v⟩=pure ():=by kernel_rfl
theorem init_kw {T nw:String}{o a:Value}{kw:List (Str×Value)}(ft:TypeCalled T nw "object.__init__")(hne:(some nw != some "object.__new__")=true) :
  Meets (Builtin.«object.__init__» ⟨[o,a],kw⟩) (λ_ R s=>s.TypeIs o T/\R (.ok (.ret .none)) s):=by
 refine Meets.of_wp λprog w A R s ⟨hT,hq⟩=>?_
 have hl:=ft.init.lookup;have hm:=ft.made
 repeat (any_goals (first | assumption | wp_step))
 exact⟨_,rfl,hq⟩
theorem callType_kw {T nw:String}{Bn:Builtin}{a:Value}{kw:List (Str×Value)}{S:Spec}{Q:Value->Shared->Prop}(ft:TypeCalled T nw "object.__init__")(hne:(some nw != some "object.__new__")=true)
  (ct:checkTypeCall T ⟨[a],kw⟩=pure ()) (cn:checkBuiltinCall nw ⟨[.type T,a],kw⟩=pure ()) (ok:∀o,argsOk "object.__init__" ⟨[o,a],kw⟩) (en:entryFor table nw=some Bn) (g:Meets (Bn ⟨[.type T,a],kw⟩) S)
  (h:S A.in1 (wants (λo s1=>s1.TypeIs o T/\Q o s1) E) s):wpAny (model prog w) A (call (.type T) [a] kw) Q E s:=by
 obtain⟨c,tl,ais⟩:=ft.mro;have aio:=ft.made;have agz:=ft.sub;refine ajL (codeAny_of_tree ?_);refine kq ⟨Code.quiet_builtin _ (by trivial),codeAny_builtin F.entry_type_call ?_⟩
 rw[Around.under_plain (weight_type_call_type T [a] kw) (units_type_call_type T [a] kw)];have h1:=ft.notType;have h2:=ft.canCreate
 repeat (any_goals (first | assumption | wp_step))
 refine codeAny_mono (codeAny_call_builtin ft.plain en (wpAny_of_eq cn (g prog w A.in1 _ s h))) λr s1 hr=>?_
 cases r with
 |error e=>exact hr
 |ok fl=>cases fl with
  |ret o =>
   obtain⟨hT,hq⟩:=hr;have hli:=ft.init.lookup;have hbi:=ft.init.bind o
   repeat (any_goals (first | assumption | wp_step))
   refine codeAny_mono (codeAny_call_builtin ft.init.plain F.entry_object_init (ft.init.check _ _ _ _ _ _ _ _ hT (ok o) (init_kw ft hne prog w A.in1 (wants (λr s2=>r=.none/\Q o s2) E) s1 ⟨hT,rfl,hq⟩))) λr2 s2 hr2=>?_
   cases r2 with
   |error e=>exact hr2
   |ok f2=>cases f2 with
    |ret r =>
     obtain⟨rfl,hq⟩:=hr2
     repeat (any_goals (first | assumption | wp_step))
    |_=>exact hr2.elim
  |_=>exact hr.elim
theorem call_enumK {l:Addr}{its:Array Value}{k:Int}{t:Tok}{Q:Value->Shared->Prop}(hk:ajO k=true)(hL:s.heap.IsList l its)
  (h:∀h',IsEnum h' (s.heap.objs.size+1) s.heap.objs.size k .none->h'.IsListIter s.heap.objs.size l 0->(∀b o,s.heap.get? b=some o->h'.get? b=some o)->Q (.ref (s.heap.objs.size+1)) { s with heap:=h' }) :
  wpAny (model prog w) A (call (.type "enumerate") [.ref l] (kwS (.int k t))) Q E s:=by
 obtain⟨⟨c,dct,dt,sl⟩,hl,hc,n,hd⟩:=hL;obtain rfl:c=.type "list":=hc;obtain rfl:dt=.seq its n:=hd;refine callType_kw F.called_enumerate (by decide) (chkK _ _) (chkN _ _) (λo=>argsK o _ _) F.entry_enumerate_new (meets_enumK l its n dct sl k t hk) ⟨hl,?_⟩
 have z:(s.heap.push { cls:=.type "list_iterator",data:=.fields #[.ref l,.int 0 0] }).objs.size=s.heap.objs.size+1:=ajF ..;have he:=Lk (s.heap.push { cls:=.type "list_iterator",data:=.fields #[.ref l,.int 0 0] }) (o:={ cls:=.type "enumerate",data:=.fields #[.none,.bool false,.ref s.heap.objs.size,rawInt k,.none,.none] }) rfl;rw[z]at he;exact⟨⟨_,he,rfl⟩,h _ he ⟨_,gp _ (Lk _ rfl),rfl,rfl⟩ λb o x=>gp _ (gp _ x)⟩
end
end L2
namespace L2
open PySem PySem.Spec PyProof.Rows
section
variable{prog:kx}{w:World}{A:Around}{E:Value->Shared->Prop}{s:Shared}
theorem callWith_tyKw {M:Model}{env:Env}{pos:Pos}{T:String}{e:Expr}{kws:List Keyword}{Q:Value->Shared->Prop}
  (h:wpAny M A (spliced (backTo pos (sr [e] env))) (λvs s1=>wpAny M A (evalAll ((ajR pos (ajh kws env)).map (·.2))) (λks s2=>wpAny M A (call (.type T) vs (((ajR pos (ajh kws env)).filterMap (·.1)).zip ks)) Q E s2) E s1) E s)
  (he:backTo pos (sr [e] env)=[(false,eval e env)]:=by rfl) (ha:(ajR pos (ajh kws env)).all (·.1.isSome)=true:=by rfl) (hn:(ajR pos (ajh kws env)).any (·.1.isNone)=false:=by rfl) :
  wpAny M A (aj5 pos (.type T) [] (backTo pos (sr [e] env)) (ajR pos (ajh kws env))) Q E s:=by
 unfold aj5;rw[he]at h ⊢;refine de (aiU (kr (PyProof.Rows.evalArgs_kwB (Q:=λa s2=>wpAny M A (call (.type T) a.pos a.kw) Q E s2) ha h) (λa s1 h1=>de (ai1 ?_)) λ_ _ x=>x))
 simp only[aj2,List.any_nil,Bool.or_false,hn];refine de (kq ?_);exact de (kr h1 (λr s2 hr=>de (aiU (wpAny_point (kq hr)))) λ_ _ x=>x)
end
def Ite (K:bo)(a:Addr)(k:Nat):It :=
 ⟨λi H=>∃xs x,SqL K H a xs/\xs[i]?=some x,λi H y H'=>∃t x,y=.ref t/\H t=none/\H'=upd H t (.tup [.int ((i+k:Nat):Int),x])/\∀xs,SqL K H a xs->xs[i]?=some x,λi H=>∃xs,SqL K H a xs/\xs.length<=i⟩
def tnE (e it l:Addr)(k i:Nat)(h:Heap):Prop:=(∃old,IsEnum h e it ((i+k:Nat):Int) old)/\h.IsListIter it l i
theorem turn_enum {P:kx}{w:World}{K:bo}{es:List Expr}{x1}{tp:Pos}(a e it:Addr)(k:Nat)(hei:e≠it):Turn P w K (.Tuple es x1 tp) (Ite K a k) [e,it] e (tnE e it a k) where
 mem:=by simp
 obj:=λi h st b hb=>by
  rcases List.mem_cons.mp hb with rfl | hb
  ·obtain⟨old,he⟩:=st.1;exact⟨_,he,λv z=>by cases z⟩
  ·rw[aiz]at hb;subst hb;obtain⟨o,e,c,d⟩:=st.2;exact⟨o,e,λv z=>by rw[d]at z;cases z⟩
 keep:=λi h h' st q=>⟨let ⟨old,he⟩:=st.1;⟨old,q e (by simp) _ he⟩,st.2.at λo z=>q it (by simp) o z⟩
 item:=by
  intro X hP hw hK hc i pins s σ H E I hf st hg;subst hP hw hK;obtain⟨xs,x,hq,hx⟩:=hg;obtain⟨its,rv,p,hz⟩:=I.list hq;obtain⟨u,hu,ru⟩:=rv.get hx;obtain⟨⟨old,he⟩,hit⟩:=st;have hl:s.heap.IsList a its.toArray:=p.isList;have nli:a≠it:=λz=>by
   obtain⟨o1,g1,c1,_⟩:=hl;obtain⟨o2,g2,c2,_⟩:=hit;rw[z,g2]at g1;cases g1;rw[c2]at c1;exact absurd c1 (by decide)
  have nle:a≠e:=λz=>by
   obtain⟨o1,g1,c1,_⟩:=hl;rw[z,show s.heap.get? e=_ from he]at g1
   cases g1;exact absurd (show Value.type "enumerate"=Value.type "list" from c1) (by decide)
  have D:=Draws.shift k (Draws.list (prog:=X.prog) (w:=X.w) (A:=X.A.in1) (I.ok.hd hc) it a nli its.toArray);have hlt:i < its.length:=(List.getElem?_eq_some_iff.mp hu).1;refine wpAny_pyNext_enum_itemD (i:=i+k) D he ⟨i,rfl,hit,hl⟩ (by simp;omega) hei (by simp;exact⟨hei,aiD nle⟩) λv h1 tk hv ho hs1 hT hsz hk=>?_
  obtain⟨j,ej,hv⟩:=hv;obtain rfl:j=i:=by omega
  obtain rfl:v=u:=by
   have:its.toArray[j]?=some u:=by simpa using hu
   rw[this]at hv;exact(aix hv).symm
  obtain⟨j2,ej2,st1,_⟩:=hs1;obtain rfl:j2=j+1:=by omega
  refine⟨_,rfl,wpAny_letOwnedTupleGo_enum ho λh2 he2 sb=>?_⟩
  have hel:e < s.heap.objs.size:=ma he;have hil:it < s.heap.objs.size:=by obtain⟨o,g,_⟩:=hit;exact ma g
  have nT:s.heap.objs.size≠e:=Nat.ne_of_gt hel;have kk:∀b o,b≠e->b≠it->s.heap.get? b=some o->h2.get? b=some o:=λb o h1 h2 g=>(sb.2 b h1).trans (hk b o h1 h2 g)
  have hT2:h2.get? s.heap.objs.size=some { cls:=.type "tuple",data:=.seq #[.int ((j+k:Nat):Int) tk,v] }:=(sb.2 _ nT).trans hT;have hf0:H s.heap.objs.size=none:=I.hok.fresh (ko _);have fe:=hf e (by simp)
  have fi:=hf it (by simp)
  have nb:∀b z,H b=some z->b≠s.heap.objs.size:=λb z q y=>by rw[y,hf0]at q;cases q
  have I2:Inv X pins σ (upd H s.heap.objs.size (.tup [.int ((j+k:Nat):Int),x])) { s with heap:=h2,toks:=tk+1 }:=by
   refine I.step (g':=s.gens) (d':=s.drawn) (ch:=[e,it]) (λb hb=>?_) (λb o _ _ hc g _=>kk b o (λz=>hc (by simp[z])) (λz=>hc (by simp[z])) g) (λb o _ _ hc g _=>⟨o.slots,kk b o (λz=>hc (by simp[z])) (λz=>hc (by simp[z])) g⟩)
    (λb o hc g n=>by rw[av (wt (ma g))];exact n) (λb o hc g=>⟨o,kk b o (λz=>hc (by simp[z])) (λz=>hc (by simp[z])) g⟩)
    (λb ys q=>by rw[av (nb b _ q)];exact q) (λb o u q=>by rw[av (nb b _ q)];exact q) (λb ps q=>⟨#[],by rw[av (nb b _ q),q];simp⟩) (λm hm=>?_) (λb z q=>?_) I.bare
   ·rcases List.mem_cons.mp hb with rfl | hb
    ·exact⟨fe.2.2.2.1,fe.2.1,fe.2.2.2.2.1,fe.2.2.2.2.2⟩
    ·rw[aiz]at hb;subst hb;exact⟨fi.2.2.2.1,fi.2.1,fi.2.2.2.2.1,fi.2.2.2.2.2⟩
   ·obtain⟨o,es,ep,ho,r⟩:=hm;exact⟨o,es,ep,kk _ o (aiD fe.2.1) (aiD fi.2.1) ho,r⟩
   ·by_cases hb:b=s.heap.objs.size
    ·subst hb;rw[ae]at q;cases q;exact⟨by show 2<=gc;decide,[.int ((j+k:Nat):Int) tk,v],.cons ⟨_,rfl⟩ (.cons ru .nil),⟨_,hT2,rfl,_,rfl⟩⟩
    ·rw[av hb]at q;refine(I.hok b z q).zu (λc o hc g=>kk c o (λy=>?_) (λy=>?_) g) (λc r=>by rw[av (nb c _ r)];exact r) λc ys r=>by rw[av (nb c _ r)];exact r
     ·have n:=fe.1;rw[<-y]at n;rcases hc with rfl | hc
      ·rw[q]at n;cases n
      ·rw[hc]at n;cases n
     ·have n:=fi.1;rw[<-y]at n;rcases hc with rfl | hc
      ·rw[q]at n;cases n
      ·rw[hc]at n;cases n
  refine⟨.ref s.heap.objs.size,_,I2,rfl,⟨_,x,rfl,hf0,rfl,λys hy=>by rw[I.D6 hy hq];exact hx⟩,⟨⟨v,?_⟩,?_⟩,λb hb=>?_⟩
  ·have:((j+1+k:Nat):Int)=((j+k:Nat):Int)+1:=by omega
   rw[this];exact he2
  ·exact st1.at λo z=>(sb.2 it (aiD hei)).trans z
  ·rcases List.mem_cons.mp hb with rfl | hb
   ·rw[av (aiD nT)];exact fe.1
   ·rw[aiz]at hb;subst hb;rw[av (wt hil)];exact fi.1
 done:=by
  intro X hP hw hK hc i pins s σ H E I hf st hg;subst hP hw hK;obtain⟨xs,hq,hx⟩:=hg;obtain⟨its,rv,p,hz⟩:=I.list hq;obtain⟨⟨old,he⟩,hit⟩:=st;obtain⟨f0,f1,f2,f3,f4,f5⟩:=hf it (by simp)
  have hl:=rv.length;have hn:its.toArray[i]?=none:=by simp;omega
  have D:Draws X.prog X.w X.A.in1 it [it,a] i (λ_ _=>False) (λj h=>j=i/\h.IsListIter it a i/\h.IsList a its.toArray) :=
   ⟨λ_ _ st=>let ⟨o,g,_⟩:=st.2.1;⟨o,g⟩,λ_ _ _ st q=>⟨st.1,st.2.1.at λo z=>q it (by simp) o z,st.2.2.at λo z=>q a (by simp) o z⟩,λj _ _ _ hj st _=>absurd st.1 (wt hj),λ_ _ _ st hE=>wpAny_nextOf_list_end (I.ok.hd hc) st.2.1 st.2.2 hn hE⟩
  exact wpAny_pyNext_enum_endD D he ⟨rfl,hit,p.isList⟩ λh' eb=>⟨rfl,I.turned (t':=s.toks) (λb o hb e=>eb b o hb e) f0 f1 f3 f4 f5⟩
 self:=λ_ _ _ _ _ st h=>let ⟨_,he⟩:=st.1;wpAny_pyIter_enum he h
section
variable{X:Cx}
def iEnum (K:bo)(k:Nat)(ta:TA):TI:=λσ H R=>ta σ H λvs H1=>∃a,vs=[.ref a]/\(∃xs,SqL K H1 a xs)/\R (Ite K a k) H1
theorem pi_enum {l:Expr}{ta:TA}{es:List Expr}{x1}{tp p kp cp pos:Pos}{k:Nat}{j}(hk:ajO ((k:Nat):Int)=true)(hg:Gl X "enumerate")(hm:X.mg "enumerate"=none)(ha:PA X [l] ta)(hs:sr [l] X.env=[(false,eval l X.env)]:=by rfl) :
  PI X (.Tuple es x1 tp) (.Call (.Name "enumerate" p) [l] [⟨some (ar "start"),.Constant (.int ((k:Nat):Int)) j cp,kp⟩] pos) (iEnum X.K k ta):=by
 intro pins s σ H R I h;refine wpAny_Call_Name_kw (zx I hg hm PyProof.Rows.boot_enumerate ?_);refine callWith_tyKw (he:=by rw[hs];rfl) (thn (ha pos pins s σ H _ I h) λus s1 ⟨vs,H1,I1,r1,q1⟩=>?_)
 obtain⟨a,rfl,⟨xs,hq⟩,q⟩:=q1;cases r1 with
 |cons r rr =>
  cases rr;cases r;refine PyProof.Rows.kws_cons (wpAny_Constant_int ?_);refine PyProof.Rows.kws_nil ?_;obtain⟨its,rv,p,hz⟩:=I1.list hq;refine call_enumK (s:={ s1 with toks:=s1.toks+1 }) hk p.isList λh' he hit kk=>?_
  refine wpAny_pyIter_enum he ⟨s1.heap.objs.size+1,[s1.heap.objs.size+1,s1.heap.objs.size],tnE _ _ a k,_,H1,rfl,I1.kept (t':=s1.toks+1) kk,turn_enum a _ _ k (Nat.succ_ne_self _),⟨⟨.none,?_⟩,hit⟩,λb hb=>?_,q⟩
  ·rw[Nat.zero_add];exact he
  ·have hb':s1.heap.objs.size<=b:=by
    rcases List.mem_cons.mp hb with rfl | hb
    ·exact ajn _
    ·rw[List.mem_singleton.mp hb];exact ko _
   have I2:Inv X pins σ H1 { s1 with heap:=h',toks:=s1.toks+1 }:=I1.kept kk
   have z:=I1.vQ hb' (I1.hok.fresh hb');exact z
end
theorem for_enum {K:bo}{a:Addr}{k:Nat}{xs:List V}{g:TG}{tb:TS}{D:Ends}{σ:St}{H:Hp}(Pv:Nat->St->Hp->Prop)(h0:Pv 0 σ H)(hl:∀i σ H,i<=xs.length->Pv i σ H->SqL K H a xs)
  (hs:∀i x σ H t,xs[i]?=some x->Pv i σ H->H t=none->g (.ref t) σ (upd H t (.tup [.int ((i+k:Nat):Int),x])) λσ2 H2=>tb { D with nx:=Pv (i+1),ct:=Pv (i+1),bk:=D.nx } σ2 H2) (hd:∀σ H,Pv xs.length σ H->D.nx σ H) :
  ∃W:Nat->Nat->St->Hp->Prop,(∃m,W 0 m σ H)/\∀i m σ H,W i m σ H ->
   ((Ite K a k).stop i H/\D.nx σ H)\/((Ite K a k).go i H/\∃N:St->Hp->Prop,(∀σ' H',N σ' H'->∃m',m' < m/\W (i+1) m' σ' H')/\∀x H',(Ite K a k).yld i H x H'->g x σ H' λσ2 H2=>tb { D with nx:=N,ct:=N,bk:=D.nx } σ2 H2):=by
 refine⟨λi m σ H=>m=xs.length - i/\i<=xs.length/\Pv i σ H,⟨xs.length,by simp,aiW _,h0⟩,?_⟩
 rintro i m σ H ⟨rfl,hi,p⟩;have q:=hl i σ H hi p
 by_cases hlt:i < xs.length
 ·refine .inr ⟨⟨xs,xs[i],q,by simp[hlt]⟩,Pv (i+1),λσ' H' p'=>⟨xs.length - (i+1),by omega,rfl,hlt,p'⟩,λx H' y=>?_⟩
  obtain⟨t,x,rfl,ht,rfl,y⟩:=y;exact hs i x σ H t (y xs q) p ht
 ·have e:i=xs.length:=by omega
  subst e;exact .inl ⟨⟨xs,q,ko _⟩,hd σ H p⟩
abbrev clr (A:Around):Around:={ A with handled:=none }
structure FnOkH (P:kx)(w:World)(K:bo)(mg:Str->Option Value)(base:Heap)(k:Nat)(f:Addr)(fd:kf)(ps:List Str)(sp:Sp):Prop where
 len:∀vs H Q E,sp vs H Q E->vs.length=ps.length
 run:∀(A:Around) (outer:List Env) (s:Shared) (H:Hp) (args:Args) (us:List Value) (vs:List V) (Q:VK) (E:XK),Room k (clr A)->uP P w K mg base A outer s H->BindsTo s fd args (ps.zip us)->Vals vs us->sp vs H Q E ->
  codeAny (model P w) A (.call (.ref f) args) (CR CX0 outer P w H s Q E) s
abbrev cxH (P:kx)(w:World)(K:bo)(mg:Str->Option Value)(base:Heap)(N:List Str)(qual:Str)(scope:Scope)(f:Addr)(cd:Value)(A:Around)(outer:List Env)(s:Shared)(H:Hp)(E:XK):Cx:={ bI CX0 P w K mg base N qual scope f cd A outer s H E with calm:=false }
section
variable{P:kx}{w:World}{K:bo}{mg:Str->Option Value}{base:Heap}
theorem inv_starh {N ps:List Str}{qual:Str}{scope:Scope}{f:Addr}{cd:Value}{A:Around}{outer:List Env}{s s1:Shared}{H:Hp}{E:XK}{us:List Value}{vs:List V}
  (S:ax N ps scope) (e0:uP P w K mg base A outer s H) (hl:vs.length=ps.length) (r:Vals vs us)
  (x:InCallC s s.heap.objs.size (bindL (envOfC qual scope s.heap.objs.size f cd).kindOf (ps.zip us) λ_=>none) (cellsFrom (s.heap.objs.size+1) scope.names []) (bindC (envOfC qual scope s.heap.objs.size f cd).kindOf (ps.zip us) λ_=>none) s1) :
  Inv (cxH P w K mg base N qual scope f cd A outer s H E) [] (start N vs) H s1:=by
 have I:=BO (CX:=CX0) (A:=clr A) (E:=E) S rfl (⟨e0.frames,e0.mod,e0.bs,e0.bsz,e0.og,e0.frf,e0.hok,e0.bare⟩:uP P w K mg base (clr A) outer s H) hl r x;exact⟨⟨I.ok.mod,I.ok.kind,I.ok.glob,I.ok.blt,I.ok.above,I.ok.inj,I.ok.has,I.ok.cab,λz=>absurd (show false=true from z) kg,Around.frames_deeper e0.frames,I.ok.stk,I.ok.exf,I.ok.bs,I.ok.bsz,I.ok.xZ,I.ok.ya,I.ok.og,I.ok.frf⟩,I.os,I.bare,I.base,I.loc,I.cell,I.free,I.jN,I.pin,I.hok,I.len⟩
theorem Fun.okH {x qual:Str}{st:Stmt}{f:Addr}{fd:kf}{N ps:List Str}{k:Nat}{sp:Sp}(F:Fun K x qual st f fd)(S:ax N ps (af st))(len:∀vs H Q E,sp vs H Q E->vs.length=ps.length)
  (uQ:∀(cdv:Value) (A:Around) (outer:List Env) (s:Shared) (H:Hp) (vs:List V) (Q:VK) (E:XK),Room k ((clr A).deeper (envOfC qual (af st) s.heap.objs.size f cdv))->sp vs H Q E ->
   ∃t,PSs (cxH P w K mg base N qual (af st) f cdv A outer s H E).nox (aw st) t/\t { nx:=λ_ H'=>Q .non H',rt:=Q } (start N vs) H):FnOkH P w K mg base (k+1) f fd ps sp:=by
 obtain⟨oc,od,kV,doc,pm,an,cdv,ct,osl,rfl,lk,hcd⟩:=F.ex;refine⟨len,λA outer s H args us vs Q E hr e0 hb r hsp=>?_⟩
 have hl:=len _ _ _ _ hsp;have KX:K.In s.heap:=e0.mod.kin.keeps λb o e=>(e0.bs b o e).1
 have lim:s.heap.NoLimit:=e0.mod.nolimit.keeps λb o e=>(e0.bs b o e).1
 have MS:∀y∈ps.zip us,(af st).names.lookup y.1=some .local\/((af st).names.lookup y.1=some .cell/\((cellsFrom (s.heap.objs.size+1) (af st).names []).lookup y.1).isSome=true):=λ⟨n,v⟩ hy=>by
  rcases S.par n (List.of_mem_zip hy).1 with q | q
  ·exact .inl q
  ·exact .inr ⟨q,PySem.W.cellsFrom_some _ _ _ (.inl q)⟩
 refine codeAny_call_function (show A.depth < recursionLimit from hr.depth) (KX _ _ lk) rfl S.co S.gen rfl (PySem.W.codeRec_of KX hcd) (hb _ _ _ _ ?_)
 refine wpAny_newFunctionEnv_cells S.kind MS λenv he s1 x=>?_
 subst he;refine⟨lim.keeps x.toInCall.keep,codeAny_func ?_⟩;obtain⟨t,ht,hq⟩:=uQ cdv A outer s H vs Q E (hr.deeper _) hsp;have I:Inv (cxH P w K mg base N qual (af st) f cdv A outer s H E) [] (start N vs) H s1:=inv_starh S e0 hl r x;refine kr (ht [] s1 (start N vs) H _ (I.j7 _) hq) (λfl s' hs=>?_) λe s' hs=>aiy hs
 have hs:=hs.dD;cases fl with
 |ret u =>
  obtain⟨v,σ',H',J,rv,q⟩:=hs;exact⟨v,H',J.os,J.bare,J.base,J.hok,rv,q⟩
 |next =>
  obtain⟨σ',H',J,q⟩:=hs;exact⟨V.non,H',J.os,J.bare,J.base,J.hok,rfl,q⟩
 |brk =>
  obtain⟨_,_,_,q⟩:=hs;exact aiy q
 |cont =>
  obtain⟨_,_,_,q⟩:=hs;exact aiy q
end
section
variable{prog:kx}{w:World}{A:Around}{E:Value->Shared->Prop}
variable{nm q:Str}{C N:Addr}{bs bm:List Value}{hdct:Bool}{sn:List Str}{sub:List Value}{ab:Bool}{col:Option Bool}{dd:Option Addr}{k0 k1 k2 k3 k5:Option Value}{nid:String}
theorem entry_unchain:entryFor table "proto.unchain"=some Builtin.«proto.unchain»:=entryFor_of_tree (by kernel_rfl)
theorem raise_objF {env:Env}{s:Shared}{x c:Sem Value}{Q:Flow->Shared->Prop}{ea:Addr}(zF:bm.contains (.type "BaseException")=true)(hh:A.handled=some (.ref ea))
  (hc:∀(s:Shared) (R:Value->Shared->Prop),R .none s->wpAny (model prog w) A c R E s)
  (hx:wpAny (model prog w) A x (λv s₁=>∃(e:Addr) (xd:Option Addr) (a0:Value),v=.ref e/\e≠ea/\s₁.heap.get? C=some (aiM nm q C N bs bm hdct sn sub ab col dd k0 k1 k2 k3 k5 nid) /\
   s₁.heap.get? e=some ⟨.ref C,xd,.fields #[a0,.none,.none,.none,.bool false,.none],#[]⟩/\(∃(cl:Value) (d2:Option Addr) (vs:Array Value) (sl:Array (Option Value)),s₁.heap.get? ea=some ⟨cl,d2,.fields vs,sl⟩/\vs[2]?=some .none) /\
   ∀h',(∀b o,b≠e->s₁.heap.get? b=some o->h'.get? b=some o)->h'.get? e=some ⟨.ref C,xd,.fields #[a0,.none,.ref ea,.none,.bool true,.none],#[]⟩->E (.ref e) { s₁ with heap:=h' }) E s) :
  wpAny (model prog w) A (raiseStmt env (some x) (some c)) Q E s:=by
 have top:(si C::bm).contains (.type "BaseException")=true:=by rw[List.contains_cons,zF,Bool.or_true]
 unfold raiseStmt;refine de (kr hx (λv s₁ h₁=>?_) λ_ _ z=>z)
 obtain⟨e,xd,a0,rfl,ne,kC,kE,⟨cl,d2,vs,sl,kH,h2⟩,fin⟩:=h₁;obtain⟨hp,g',d',tk,os'⟩:=s₁;dsimp only;refine de (aiU (hc _ _ ?_))
 repeat (first | with_reducible refine wpAny_loadPart_at kE ?_ | with_reducible refine wpAny_loadPart_at kC ?_ | (with_reducible refine wpAny_isSubtype_exc kC ?_;rw[top]) | wp_step)
 have nC:C≠e:=λz=>by
  subst z;have:some (aiM nm q C N bs bm hdct sn sub ab col dd k0 k1 k2 k3 k5 nid)=some _:=kC.symm.trans kE;cases this
 generalize hg:(hp.update e (ajd λx=>x.setIfInBounds 3 ajm)).update e (ajd λx=>x.setIfInBounds 4 (ajB true))=hq
 have oth:∀b,b≠e->hq.get? b=hp.get? b:=λb hb=>by rw[<-hg,aiP _ _ (aiD hb),aiP _ _ (aiD hb)]
 have kE1:(hp.update e (ajd λx=>x.setIfInBounds 3 ajm)).get? e=some ⟨.ref C,xd,.fields #[a0,.none,.none,.none,.bool false,.none],#[]⟩:=(ai5 _ kE rfl).trans rfl
 have kE2:hq.get? e=some ⟨.ref C,xd,.fields #[a0,.none,.none,.none,.bool true,.none],#[]⟩:=by rw[<-hg];exact(ai5 _ kE1 rfl).trans rfl
 have kC2:(⟨hq,g',d',tk,os'⟩:Shared).heap.get? C=_:=(oth C nC).trans kC;refine wpAny_loadPart_at kC2 ?_;refine kq ?_;rw[if_pos (show ((aiM nm q C N bs bm hdct sn sub ab col dd k0 k1 k2 k3 k5 nid).cls == Value.type "type")=true from by simp[aiM])]
 refine kq ?_;unfold setFlight;refine de (de (ajy kE2 rfl (x:=.none) rfl ?_));rw[if_neg (by decide)]
 refine kq ?_;unfold raiseNew;refine de (wpAny_handled ?_);rw[hh];dsimp only;rw[if_pos (show (si ea != si e)=true by simp;exactλz=>ne z.symm)]
 have kH2:(⟨hq,g',d',tk,os'⟩:Shared).heap.get? ea=some ⟨cl,d2,.fields vs,sl⟩:=(oth ea (aiD ne)).trans kH;refine de (aiU (wpAny_runValue (codeAny_builtin entry_unchain ?_)));unfold Builtin.«proto.unchain»;dsimp only;refine de (ajy kH2 rfl h2 ?_);rw[if_pos (by decide)]
 repeat (first | wp_step)
 exact fin _ (λb o hb g=>(aiP _ _ (aiD hb)).trans ((oth b hb).trans g)) ((ai5 _ kE2 rfl).trans rfl)
end
section
variable{X:Cx}{pins:List (Addr×Obj)}{σ:St}{H:Hp}{s:Shared}{b:Bool}
theorem xc_in (I:Inv X pins σ H s)(b:Bool):Inv { X with xc:=b } pins σ H s :=
 ⟨⟨I.ok.mod,I.ok.kind,I.ok.glob,I.ok.blt,I.ok.above,I.ok.inj,I.ok.has,I.ok.cab,I.ok.hd,I.ok.frames,I.ok.stk,I.ok.exf,I.ok.bs,I.ok.bsz,I.ok.xZ,I.ok.ya,I.ok.og,I.ok.frf⟩,I.os,I.bare,I.base,I.loc,I.cell,I.free,I.jN,I.pin,I.hok,I.len⟩
theorem xc_out (I:Inv { X with xc:=b } pins σ H s):Inv X pins σ H s :=
 ⟨⟨I.ok.mod,I.ok.kind,I.ok.glob,I.ok.blt,I.ok.above,I.ok.inj,I.ok.has,I.ok.cab,I.ok.hd,I.ok.frames,I.ok.stk,I.ok.exf,I.ok.bs,I.ok.bsz,I.ok.xZ,I.ok.ya,I.ok.og,I.ok.frf⟩,I.os,I.bare,I.base,I.loc,I.cell,I.free,I.jN,I.pin,I.hok,I.len⟩
theorem sp_out {D:Ends}{f:Flow}(h:SP { X with xc:=b } pins D f s):SP X pins D f s:=by
 cases f with
 |next=>obtain⟨σ',H',I',q⟩:=h;exact⟨σ',H',xc_out I',q⟩
 |brk=>obtain⟨σ',H',I',q⟩:=h;exact⟨σ',H',xc_out I',q⟩
 |cont=>obtain⟨σ',H',I',q⟩:=h;exact⟨σ',H',xc_out I',q⟩
 |ret u=>obtain⟨v,σ',H',I',r,q⟩:=h;exact⟨v,σ',H',xc_out I',r,q⟩
theorem XAt.xc {h:Heap}{e:Addr}{cls:Value}{xd:Option Addr}{m:Option Value}(x:XAt { X with xc:=true } pins H h e cls xd m):XAt X pins H h e cls xd m:=by
 obtain⟨ok,sl,vs,he,hz,hm⟩:=x;refine⟨ok,sl,vs,he,⟨hz.sz,λ_=>hz.cx rfl⟩,?_⟩
 cases m with
 |none=>exact hm
 |some m=>exact hm
theorem came_x {E:SXK}{v:Value}{hv:Option Value}(F:Fr1 X)(fr:X.A.frames=some X.stack)(h:XPS X pins E v s):notedBy (model X.prog X.w) (X.A.mark hv) X.env (λx s2=>cameBackBy (model X.prog X.w) X.A X.env (XPS X pins E) x s2) v s:=by
 obtain⟨σ',ea,cls,xd,m,H',rfl,I,hx,hm,q⟩:=h;refine tQ F fr I hx hm λs1 I1 x1=>?_
 unfold cameBackBy;obtain⟨ok,sl,vs,he,hz,T,oT,ts,h1,r⟩:=id x1;refine de (ajy he rfl h1 ?_);rw[if_neg (show ¬((si T == ajm)=true) by simp)]
 have step:wpAny (model X.prog X.w) X.A (setFlight (.ref ea) X.env.frame) (λ_ s''=>XPS X pins E (.ref ea) s'') (XPS X pins E) s1 :=
  gm I1 x1 λs2 I2 x2=>⟨σ',ea,cls,xd,_,H',rfl,I2,x2,by rw[F.fr];exact .inr (.inr ⟨_,rfl⟩),q⟩
 first
  |exact step
  |exact de (kq step)
end
def PHX2 (X:Cx)(hs:List ExceptHandler)(t:THX):Prop :=
 ∀(pins:List (Addr×Obj)) (s:Shared) (σ:St) (H:Hp) (D:Ends) (E:SXK) (ea:Addr) (cls:Value) (xd:Option Addr),Inv X pins σ H s->XAt { X with xc:=true } pins H s.heap ea cls xd (some .none)->t D E σ cls xd H ->
  wpAny (model X.prog X.w) X.A (handleBy (.ref ea) X.env hs) (SP X pins D) (XPS X pins E) s
def hFrom (K:bo)(C D:Addr)(name:Str)(ta:TA)(tr:THX):THX:=λDn E σ cls xd H=>∃b,aiA K cls (.ref C)=some b/\if b=true then ta σ H (λvs H1=>∃v,vs=[v]/\(∃z,Bk v z/\z.length<=10000)/\∀d,H1 d=none->E σ (.ref D) (some d) (upd H1 d (.xd [(name,v)]))) else tr Dn E σ cls xd H
section
variable{X:Cx}{x y name:Str}{C D f:Addr}{np yp cp kp rp pos:Pos}{j}{e₀:Expr}{rest:List ExceptHandler}{ta:TA}{tr:THX}{fd:kf}{ps:List Str}{k:Nat}
theorem phx2_nil (F:Fr1 X):PHX2 X [] (λ_ E σ cls xd H=>E σ cls xd H):=λpins s σ H D E ea cls xd I hx h=>CS F pins s σ H D E ea cls xd I hx.xc h
theorem psx_tryB {body:List Stmt}{h₀:ExceptHandler}{hs:List ExceptHandler}{tb:TSX}{th:THX}(F:Fr1 X)(hb:zM { X with xc:=true } body tb)(hh:PHX2 X (h₀::hs) th) :
  PSX X (.Try body (h₀::hs) [] [] pos) (Kn tb th):=by
 intro pins s σ H D E I h;unfold Kn at h;refine wpAny_Try_except (kr (hb pins s σ H D _ (xc_in I true) h) (λf s1 q=>?_) (λv s1 q=>?_))
 ·have q:=sp_out q;cases f with
  |next=>exact wpAny_execs_nil q
  |ret v=>exact q
  |brk=>exact q
  |cont=>exact q
 ·obtain⟨σ',ea,cls,xd,m,H',rfl,I1,hx,hm,q⟩:=q;exact tQ (X:={ X with xc:=true }) ⟨F.stk,F.fr⟩ I1.ok.frames I1 hx hm λs2 I2 x2=>gm I2 x2 λs3 I3 x3=>hh pins s3 σ' H' D E ea cls xd (xc_out I3) x3 q
theorem phx_from (nx:X.xc=false)(F1:Fr1 X)(xk:yc X.K D f name)(F:FnOkH X.prog X.w X.K X.mg X.base k f fd ps (zP D name))(hr:Room (k+1) X.A)(hb:Binds X.K fd ps [])(hg:Gl X x)(hm:X.mg x=some (.ref C))(hg2:Gl X y)(hm2:X.mg y=some (.ref D))
  (ha:∀e,PA (hcx X e).nox [e₀] ta) (Si:PHX2 X rest tr) (hd:(x == ("__debug__":Str))=false:=by decide) (hd2:(y == ("__debug__":Str))=false:=by decide) (hst:sr [e₀] X.env=[(false,eval e₀ X.env)]:=by rfl) :
  PHX2 X (.ExceptHandler (some (.Name x np)) none [.Raise (some (.Call (.Name y yp) [e₀] [] cp)) (some (.Constant .none j kp)) rp] pos::rest) (hFrom X.K C D name ta tr):=by
 intro pins s σ H D' E ea cls xd I hx h;unfold hFrom at h;obtain⟨b,eb,h⟩:=h;refine wpAny_handleBy_cons (codeAny_handlers_test (Nj I hx.xc hg hm eb ?_ hd)) (by intro q;cases q)
 cases b with
 |false=>exact Si pins s σ H D' E ea cls xd I hx h
 |true =>
  refine codeAny_handlers_suite (gm (X:={ X with xc:=true }) (xc_in I true) hx λs1 I1 x1=>?_)
  refine wpAny_execs_cons (kr (Q:=λ_ _=>False) (E:=XPS X pins E) ?_ (λ_ _ z=>z.elim) λv s' z=>came_x F1 I.ok.frames z)
  obtain⟨ok,sl,vs,he,hz,hmk⟩:=x1;have I1:=xc_out I1;have Ip:Inv X (pins++[(ea,⟨cls,xd,.fields vs,sl⟩)]) σ H s1:=I1.uN λp hp=>by
   rcases List.mem_append.mp hp with z | z
   ·exact I1.pin p (ka _ z)
   ·rw[aiz]at z;subst z;exact⟨he,ok.1,ok.2.1,ok.2.2.1,λv z=>by cases z⟩
  obtain⟨nm,qn,N,bs,bm,hdct,sn,sub,ab,col,dd,k0,k1,k2,k3,k5,l,T,hdd,hi⟩:=xk.ex;have hbx:bm.contains (.type "BaseException")=true:=(T.tail I.kIn).hasType (b:=true) (by trivial)
  rw[arm_exec_Raise];refine de (ai1 ?_);refine raise_objF (ea:=ea) (C:=D) (nm:=nm) (q:=qn) (N:=N) (bs:=bs) (bm:=bm) (hdct:=hdct) (sn:=sn) (sub:=sub) (ab:=ab) (col:=col) (dd:=dd) (k0:=k0) (k1:=k1) (k2:=k2) (k3:=k3) (k5:=k5) (nid:="ValueError.__new__") hbx rfl (λs R hR=>de (Constant_none (de (ai1 (kq hR))))) ?_
  have Ih:Inv (hcx X ea) (pins++[(ea,⟨cls,xd,.fields vs,sl⟩)]) σ H s1:=CP Ip ea;refine de (kr (Q:=λv s₁=>∃(e:Addr) (xd2:Option Addr) (a0:Value),v=.ref e/\e≠ea/\s₁.heap.get? D=some (aiM nm qn D N bs bm hdct sn sub ab col dd k0 k1 k2 k3 k5 "ValueError.__new__") /\
   s₁.heap.get? e=some ⟨.ref D,xd2,.fields #[a0,.none,.none,.none,.bool false,.none],#[]⟩/\(∃(cl:Value) (d2:Option Addr) (vs:Array Value) (sl:Array (Option Value)),s₁.heap.get? ea=some ⟨cl,d2,.fields vs,sl⟩/\vs[2]?=some .none) /\
   ∀h',(∀b o,b≠e->s₁.heap.get? b=some o->h'.get? b=some o)->h'.get? e=some ⟨.ref D,xd2,.fields #[a0,.none,.ref ea,.none,.bool true,.none],#[]⟩->XPS X pins E (.ref e) { s₁ with heap:=h' }) (E:=XPS X pins E) ?_ (λv s₂ z=>de (ai1 (kq z))) λ_ _ z=>z)
  refine wpAny_Call_Name_kw (iO Ih hg2 hm2 ?_ hd2);unfold aj5;rw[show (hcx X ea).env=X.env from rfl,hst]
  refine de (aiU (ajX ?_));have ha':=ha ea cp _ s1 σ H _ (Ih.j7 _) h;rw[show (hcx X ea).nox.env=X.env from rfl,hst]at ha'
  refine kr ha' (λus s₂ ⟨ws,H1,I2,r,v,hvs,hv,q1⟩=>de (ai1 ?_)) λ_ _ z=>aiy z
  subst hvs;obtain⟨u,rfl,rv⟩:=Vals.one r;have I2':=I2.dD;have kC:=I2'.kIn _ _ l;have pl:(backTo cp [(false,eval e₀ X.env)]).any (·.1)=false:=rfl
  have agA:ps.length=2:=(F.len [V.ref 0,v] (upd H 0 (xi 0 D none)) (λ_ _=>True) E0 ⟨0,v,rfl,ae,hv,λ_ _=>trivial⟩).symm
  have z:=hr.make D [u] [];have fin:=zQ (X:=hcx X ea) (E:=XPS X pins E) (Q:=λv s₁=>∃(e:Addr) (xd2:Option Addr) (a0:Value),v=.ref e/\e≠ea/\s₁.heap.get? D=some (aiM nm qn D N bs bm hdct sn sub ab col dd k0 k1 k2 k3 k5 "ValueError.__new__") /\
   s₁.heap.get? e=some ⟨.ref D,xd2,.fields #[a0,.none,.none,.none,.bool false,.none],#[]⟩/\(∃(cl:Value) (d2:Option Addr) (vs:Array Value) (sl:Array (Option Value)),s₁.heap.get? ea=some ⟨cl,d2,.fields vs,sl⟩/\vs[2]?=some .none) /\
   ∀h',(∀b o,b≠e->s₁.heap.get? b=some o->h'.get? b=some o)->h'.get? e=some ⟨.ref D,xd2,.fields #[a0,.none,.ref ea,.none,.bool true,.none],#[]⟩->XPS X pins E (.ref e) { s₁ with heap:=h' }) xk agA (λs H us vs Q e0 b r sp=>F.run _ _ s H ⟨us,[]⟩ us vs Q E0 ⟨rfl,z.dp,z.un,z.gd⟩ e0 b r sp) hb I2' rv hv λe d a0 s' hd1 I3 fp ke=>by
    have hea:=(I3.pin (ea,⟨cls,xd,.fields vs,sl⟩) (ka _ (ka _ (List.mem_singleton.mpr rfl)))).1;have ne:e≠ea:=λy=>fp.2.2.2.2.2 (ea,⟨cls,xd,.fields vs,sl⟩) (ka _ (ka _ (List.mem_singleton.mpr rfl))) y.symm
    refine⟨e,some d,a0,rfl,ne,I3.kIn _ _ l,ke,⟨cls,xd,vs,sl,hea,hz.cx rfl⟩,λh' kk ke'=>?_⟩
    have I4:Inv X pins σ (upd H1 d (.xd [(name,v)])) s':=(k9 Ip.ok I3).eR;have fp':fj X pins (upd H1 d (.xd [(name,v)])) e:=fj.drop (X:=X) (pl:=[(ea,⟨cls,xd,.fields vs,sl⟩)]) fp;have I5:Inv X pins σ (upd H1 d (.xd [(name,v)])) { s' with heap:=h' }:=I4.turned (t':=s'.toks) kk fp'.1 fp'.2.1 fp'.2.2.2.1 fp'.2.2.2.2.1 fp'.2.2.2.2.2
    exact⟨σ,e,.ref D,some d,none,_,rfl,I5,⟨fp',_,_,ke',⟨by show 1 < 6;decide,λc=>absurd (nx.symm.trans c) kg⟩,rfl⟩,.inl rfl,q1 d hd1⟩
  obtain⟨hp,g',d',tk,os'⟩:=s₂;simp only[pl];refine de (wpAny_keeperOf_exc kC ?_);exact de (kr fin (λv s2 z=>de (aiU (wpAny_point (kq z)))) λ_ _ z=>z)
end
section
variable{P:kx}{w:World}{K:bo}{mg:Str->Option Value}{base:Heap}
abbrev cxB (P:kx)(w:World)(K:bo)(mg:Str->Option Value)(base:Heap)(N:List Str)(qual:Str)(scope:Scope)(f:Addr)(cd:Value)(A:Around)(outer:List Env)(s:Shared)(H:Hp)(E:XK):Cx:={ bI (CXB false P w) P w K mg base N qual scope f cd A outer s H E with xc:=false }
theorem leave_xB {N:List Str}{qual:Str}{scope:Scope}{f:Addr}{cd:Value}{A:Around}{outer:List Env}{s s':Shared}{H:Hp}{E:XK}{e:Value}{pins:List (Addr×Obj)}
  (h:XPS (cxB P w K mg base N qual scope f cd A outer s H E) pins (λ_=>E) e s'):(bI (CXB false P w) P w K mg base N qual scope f cd A outer s H E).xe e s':=by
 obtain⟨σ',ea,cls,xd,m,H',rfl,I,hx,hm,q⟩:=h;have F1:Fr1 (cxB P w K mg base N qual scope f cd A outer s H E):=⟨rfl,rfl⟩;show wpAny _ _ (leaving (cxB P w K mg base N qual scope f cd A outer s H E).env (.ref ea)) _ _ s';unfold leaving;refine de (tQ F1 I.ok.frames I hx hm λs1 I1 x1=>gm I1 x1 λs2 I2 x2=>?_)
 obtain⟨ok,sl,vs,he,hz,T,oT,ts,h1,nT,fT,hT,hd,h3⟩:=x2;have old:∀ {b:Addr},fj (cxB P w K mg base N qual scope f cd A outer s H E) pins H' b->s.heap.objs.size<=b:=λ{b} z=>by
  rcases z.2.2.2.1 with y | y
  ·exact absurd (show b∈([]:List Addr) from y) (by simp)
  ·exact y
 exact⟨ea,T,cls,xd,H',rfl,I2.os,I2.bare,I2.base,I2.hok,⟨ok.1,old ok⟩,⟨fT.1,old fT⟩,nT,⟨sl,vs,oT,ts,he,⟨hz.sz,λz=>nomatch z⟩,h1,hT,hd,h3⟩,q⟩
theorem Fun.okXB {x qual:Str}{st:Stmt}{f:Addr}{fd:kf}{N ps:List Str}{k:Nat}{sp:Sp}(F:Fun K x qual st f fd)(S:ax N ps (af st))(len:∀vs H Q E,sp vs H Q E->vs.length=ps.length)
  (uQ:∀(cdv:Value) (A:Around) (outer:List Env) (s:Shared) (H:Hp) (vs:List V) (Q:VK) (E:XK),Room k (A.deeper (envOfC qual (af st) s.heap.objs.size f cdv))->sp vs H Q E ->
   ∃t,zM (cxB P w K mg base N qual (af st) f cdv A outer s H E) (aw st) t/\t { nx:=λ_ H'=>Q .non H',rt:=Q } (λ_=>E) (start N vs) H):FnOk P w K mg base (CXB false P w) (k+1) f fd ps sp:=by
 obtain⟨oc,od,kV,doc,pm,an,cdv,ct,osl,rfl,lk,hcd⟩:=F.ex;refine MR lk hcd S len λA outer s H vs Q E hr hsp=>?_
 obtain⟨t,h,q⟩:=uQ cdv A outer s H vs Q E hr hsp;exact⟨λD σ H=>t D (λ_=>E) σ H,λpins s1 σ H1 D I hw=>kr (h pins s1 σ H1 D _ (xc_in I false) hw) (λ_ _ z=>sp_out z) λ_ _ z=>leave_xB z,q⟩
theorem FnOk.calmB {b:Bool}{k:Nat}{f:Addr}{fd:kf}{ps:List Str}{sp:Sp}(F:FnOk P w K mg base (CXB b P w) k f fd ps sp)(h:∀vs H Q E,sp vs H Q E->sp vs H Q E0):FnOk P w K mg base CX0 k f fd ps sp:=by
 refine⟨F.len,λA outer s H args us vs Q E hr he hb hv hs=>codeAny_mono (F.run A outer s H args us vs Q E0 hr he hb hv (h _ _ _ _ hs)) λr s' q=>?_⟩
 cases r with
 |error e=>obtain⟨_,_,_,_,_,_,_,_,_,_,_,_,_,_,z⟩:=q;exact z.elim
 |ok fl=>cases fl <;> exact q
end
section
variable{X:Cx}{k:Nat}{f:Addr}{fd:kf}{ps:List Str}{sp:Sp}{x:Str}{p pos:Pos}{e:Expr}{es:List Expr}{t:TAX}{b:Bool}
theorem run_fnXB {pins:List (Addr×Obj)}{σ:St}{H:Hp}{s:Shared}{Q:VK}{E:XK}{us:List Value}{vs:List V}(nx:X.xc=false)(F:FnOk X.prog X.w X.K X.mg X.base (CXB b X.prog X.w) k f fd ps sp)(hr:Room k X.A)(hb:Binds X.K fd ps [])
  (I:Inv X pins σ H s) (r:Vals vs us) (h:sp vs H Q E):wpAny (model X.prog X.w) X.A (call (.ref f) us) (EP X pins σ Q) (XP X pins σ E) s:=by
 have hl:(us++[]).length=ps.length:=by rw[aji,<-r.length];exact F.len _ _ _ _ h
 have bb:=hb s us I.kIn hl;rw[aji]at bb;refine ajL (codeAny_mono (F.run X.A X.stack s H ⟨us,[]⟩ us vs Q E hr I.MP bb r h) λr s' hq=>?_)
 cases r with
 |error e=>exact Nc (λz=>absurd (nx.symm.trans z) kg) I hq
 |ok fl =>
  cases fl with
  |ret u=>exact I.after hq
  |next=>exact aiy hq
  |brk=>exact aiy hq
  |cont=>exact aiy hq
theorem pe_callXB (nx:X.xc=false)(F:FnOk X.prog X.w X.K X.mg X.base (CXB b X.prog X.w) k f fd ps sp)(hr:Room k X.A)(hg:Gl X x)(hm:X.mg x=some (.ref f))(hk:di X.K (.ref f)=true)(hb:Binds X.K fd ps [])(ha:PAX X (e::es) t)
  (hdb:(x == ("__debug__":Str))=false:=by decide) (he:sr (e::es) X.env=(false,eval e X.env)::sr es X.env:=by rfl) (hpl:(backTo pos (sr es X.env)).any (·.1)=false:=by rfl) :
  PEX X (.Call (.Name x p) (e::es) [] pos) (CM t sp):=by
 intro pins s σ H Q E I h;unfold CM at h;refine wpAny_Call_Name_kw (iO I hg hm ?_ hdb);exact ajS (h₀:=X.base) I.ok.mod.kin hk (thn (ha pos pins s σ H _ E I h) λus s1 ⟨vs,H1,I1,r,q⟩=>⟨I1.kIn,run_fnXB nx F hr hb I1 r q⟩) he hpl
end
end L2
namespace My
open PySem L2
seal PySem.wpAny
def top (i:Nat):Stmt:=PySem.Challenge.pw_moot_k32_rows_that_lead_nowhere.main.body.getD i (.Pass ⟨0,0,0,0⟩)
abbrev fF:Stmt:=inClass (top 23) 1
theorem zR:ax ["self"] ["self"] (af fF):=fsc (by trivial)
abbrev fG:Stmt:=inClass (top 24) 1
theorem zS:ax ["self"] ["self"] (af fG):=fsc (by trivial)
abbrev iw:Stmt:=inClass (top 25) 1
theorem CY:ax ["self"] ["self"] (af iw):=fsc (by trivial)
abbrev fH:Stmt:=inClass (top 26) 1
theorem zT:ax ["self"] ["self"] (af fH):=fsc (by trivial)
abbrev gL:Stmt:=inClass (top 27) 0
theorem Bl:ax ["self"] ["self"] (af gL):=fsc (by trivial)
abbrev jf:Stmt:=inClass (top 28) 0
theorem Eu:ax ["self"] ["self"] (af jf):=fsc (by trivial)
abbrev ix:Stmt:=inClass (top 29) 0
theorem CZ:ax ["self"] ["self"] (af ix):=fsc (by trivial)
abbrev gM:Stmt:=inClass (top 30) 1
theorem Bm:ax ["self"] ["self"] (af gM):=fsc (by trivial)
abbrev fJ:Stmt:=inClass (top 22) 1
theorem zU:ax ["self"] ["self"] (af fJ):=fsc (by trivial)
abbrev fK:Stmt:=inClass (top 22) 2
theorem zV:ax ["self"] ["self"] (af fK):=fsc (by trivial)
abbrev gN:Stmt:=inClass (top 27) 1
theorem Bo:ax ["self"] ["self"] (af gN):=fsc (by trivial)
abbrev fL:Stmt:=inClass (top 22) 3
theorem zW:ax ["self"] ["self"] (af fL):=fsc (by trivial)
abbrev fM:Stmt:=inClass (top 23) 2
theorem zX:ax ["self"] ["self"] (af fM):=fsc (by trivial)
abbrev fN:Stmt:=inClass (top 24) 2
theorem zY:ax ["self"] ["self"] (af fN):=fsc (by trivial)
abbrev iy:Stmt:=inClass (top 25) 2
theorem C0:ax ["self"] ["self"] (af iy):=fsc (by trivial)
abbrev fO:Stmt:=inClass (top 26) 2
theorem zZ:ax ["self"] ["self"] (af fO):=fsc (by trivial)
abbrev gO:Stmt:=inClass (top 30) 2
theorem Bp:ax ["self"] ["self"] (af gO):=fsc (by trivial)
abbrev fP:Stmt:=inClass (top 23) 0
theorem Aa:ax ["self","text"] ["self","text"] (af fP):=fsc (by trivial)
abbrev fQ:Stmt:=inClass (top 24) 0
theorem Ab:ax ["self","edit"] ["self","edit"] (af fQ):=fsc (by trivial)
abbrev iz:Stmt:=inClass (top 25) 0
theorem C1:ax ["self","edit"] ["self","edit"] (af iz):=fsc (by trivial)
abbrev fR:Stmt:=inClass (top 26) 0
theorem Ac:ax ["self","sitting"] ["self","sitting"] (af fR):=fsc (by trivial)
abbrev gP:Stmt:=inClass (top 30) 0
theorem Bq:ax ["self","clause"] ["self","clause"] (af gP):=fsc (by trivial)
abbrev fS:Stmt:=inClass (top 4) 0
theorem Ad:ax ["self","bar"] ["self","bar"] (af fS):=fsc (by trivial)
abbrev d8:Stmt:=inClass (top 7) 0
theorem vY:ax ["self","sitting"] ["self","sitting"] (af d8):=fsc (by trivial)
abbrev fU:Stmt:=inClass (top 11) 0
theorem Ae:ax ["self","sitting"] ["self","sitting"] (af fU):=fsc (by trivial)
abbrev gQ:Stmt:=inClass (top 13) 0
theorem tq:ax ["self","row"] ["self","row"] (af gQ):=fsc (by trivial)
abbrev eU:Stmt:=inClass (top 64) 0
theorem ye:ax ["self","seats"] ["self","seats"] (af eU):=fsc (by trivial)
abbrev eV:Stmt:=inClass (top 64) 1
theorem qd:ax ["self","told","number"] ["self","told"] (af eV):=fsc (by trivial)
abbrev eW:Stmt:=inClass (top 64) 2
theorem j9:ax ["self","ayes","noes","motion","word"] ["self","ayes","noes"] (af eW):=fsc (by trivial)
abbrev eX:Stmt:=inClass (top 64) 3
theorem yf:ax ["self"] ["self"] (af eX):=fsc (by trivial)
abbrev eY:Stmt:=inClass (top 64) 4
theorem qf:ax ["self","number","until"] ["self","number"] (af eY):=fsc (by trivial)
abbrev dz:Stmt:=inClass (top 64) 11
theorem tT:ax ["self"] ["self"] (af dz):=fsc (by trivial)
abbrev cJ:Stmt:=inClass (top 64) 12
theorem tU:ax ["self"] ["self"] (af cJ):=fsc (by trivial)
abbrev jc:Scope:={ kind:=.function,names:=[(ar ".0",.local),(ar "number",.local),(ar "self",.free)],isGenerator:=false,isCoroutine:=false,more:=[] }
theorem qH:d7 jc (af cJ) "number" ["self"] ["self"]:=⟨rfl,rfl,by trivial,by trivial,rfl,by trivial,by trivial,by trivial,by trivial,rfl,by trivial,by trivial⟩
abbrev bF:Stmt:=inClass (top 64) 14
theorem c8:ax ["self","told","kind","pile"] ["self","told"] (af bF):=fsc (by trivial)
abbrev bR:Stmt:=inClass (top 64) 15
theorem lS:ax ["self"] ["self"] (af bR):=fsc (by trivial)
abbrev dO:Stmt:=inClass (top 64) 17
theorem uZ:ax ["self","word"] ["self","word"] (af dO):=fsc (by trivial)
abbrev cg:Stmt:=inClass (top 64) 18
theorem ou:ax ["self","deed"] ["self","deed"] (af cg):=fsc (by trivial)
abbrev cT:Stmt:=inClass (top 64) 19
theorem jQ:ax ["self","motion","kind"] ["self","motion"] (af cT):=fsc (by trivial)
abbrev b8:Stmt:=inClass (top 64) 20
theorem gZ:ax ["self","edit","number"] ["self","edit"] (af b8):=fsc (by trivial)
abbrev b9:Stmt:=inClass (top 64) 21
theorem dq:ax ["self","edit","number","change","words"] ["self","edit"] (af b9):=fsc (by trivial)
abbrev cU:Stmt:=inClass (top 64) 22
theorem qI:ax ["self","until"] ["self","until"] (af cU):=fsc (by trivial)
abbrev vZ:Stmt:=top 15
theorem C2:ax ["things","edit","places"] ["things","edit"] (af vZ):=fsc (by trivial)
abbrev fV:Stmt:=top 16
theorem Af:ax ["things","edit"] ["things","edit"] (af fV):=fsc (by trivial)
abbrev wc:Stmt:=top 17
theorem zj:ax ["things","edit","kind","place","behind"] ["things","edit"] (af wc):=fsc (by trivial)
abbrev jg:Stmt:=top 18
theorem Ew:ax ["clause"] ["clause"] (af jg):=fsc (by trivial)
abbrev iA:Stmt:=top 19
theorem C3:ax ["words"] ["words"] (af iA):=fsc (by trivial)
abbrev iB:Stmt:=top 31
theorem lb:ax ["told","kind"] ["told"] (af iB):=fsc (by trivial)
abbrev oy:Stmt:=top 34
theorem B1:ax ["pile","closed","bar"] ["pile","closed"] (af oy):=fsc (by trivial)
abbrev fq:Stmt:=top 35
theorem Br:ax ["pile"] ["pile"] (af fq):=fsc (by trivial)
abbrev oz:Scope:={ kind:=.function,names:=[(ar ".0",.local),(ar "motion",.local)],isGenerator:=false,isCoroutine:=false,more:=[] }
theorem yg:d7 oz (af fq) "motion" ["pile"] ["pile"]:=⟨rfl,rfl,by trivial,by trivial,rfl,by trivial,by trivial,by trivial,by trivial,rfl,by trivial,by trivial⟩
abbrev d9:Stmt:=top 36
theorem oB:ax ["pile","told"] ["pile"] (af d9):=fsc (by trivial)
abbrev cV:Stmt:=top 37
theorem qJ:ax ["kind","pile"] ["kind","pile"] (af cV):=fsc (by trivial)
abbrev df:Stmt:=top 38
theorem kR:ax ["kind","pile","closed","bar"] ["kind","pile","closed"] (af df):=fsc (by trivial)
abbrev lG:Stmt:=top 46
theorem HU:ax ["holds"] ["holds"] (af lG):=fsc (by trivial)
abbrev lH:Stmt:=top 47
theorem HV:ax ["sign"] ["sign"] (af lH):=fsc (by trivial)
abbrev jh:Stmt:=top 48
theorem HW:ax ["word"] ["word"] (af jh):=fsc (by trivial)
abbrev tw:Scope:={ kind:=.function,names:=[(ar ".0",.local),(ar "sign",.local),(ar "is_sign",.globalImplicit)],isGenerator:=false,isCoroutine:=false,more:=[] }
theorem C4:d7 tw (af jh) "sign" ["word"] ["word"]:=⟨rfl,rfl,by trivial,by trivial,rfl,by trivial,by trivial,by trivial,by trivial,rfl,by trivial,by trivial⟩
abbrev gv:Stmt:=top 49
theorem C5:ax ["word"] ["word"] (af gv):=fsc (by trivial)
abbrev qg:Scope:={ kind:=.function,names:=[(ar ".0",.local),(ar "sign",.local),(ar "FIGURES",.globalImplicit)],isGenerator:=false,isCoroutine:=false,more:=[] }
theorem Ag:d7 qg (af gv) "sign" ["word"] ["word"]:=⟨rfl,rfl,by trivial,by trivial,rfl,by trivial,by trivial,by trivial,by trivial,rfl,by trivial,by trivial⟩
abbrev fW:Stmt:=top 50
theorem Ah:ax ["word"] ["word"] (af fW):=fsc (by trivial)
abbrev eG:Stmt:=top 51
theorem Ai:ax ["words"] ["words"] (af eG):=fsc (by trivial)
abbrev mY:Scope:={ kind:=.function,names:=[(ar ".0",.local),(ar "word",.local),(ar "is_word",.globalImplicit)],isGenerator:=false,isCoroutine:=false,more:=[] }
theorem we:d7 mY (af eG) "word" ["words"] ["words"]:=⟨rfl,rfl,by trivial,by trivial,rfl,by trivial,by trivial,by trivial,by trivial,rfl,by trivial,by trivial⟩
abbrev gw:Stmt:=top 52
theorem pJ:ax ["words","clauses","word"] ["words"] (af gw):=fsc (by trivial)
abbrev qh:Scope:={ kind:=.function,names:=[(ar ".0",.local),(ar "clause",.local),(ar "read_clause",.globalImplicit)],isGenerator:=false,isCoroutine:=false,more:=[] }
theorem qK:ie qh (af gw) ["clause"] ["words","clauses","word"] ["words","clauses","word"]:=⟨rfl,rfl,by trivial,by trivial,by trivial,by trivial,by trivial,by trivial,by trivial,rfl,by trivial,by trivial⟩
abbrev iC:Stmt:=top 53
theorem lh:ax ["words","kind","place","thing"] ["words"] (af iC):=fsc (by trivial)
abbrev iD:Stmt:=top 54
theorem u0:ax ["words","edit"] ["words"] (af iD):=fsc (by trivial)
abbrev eZ:Stmt:=top 55
theorem qi:ax ["words","sitting"] ["words"] (af eZ):=fsc (by trivial)
abbrev iE:Stmt:=top 56
theorem lj:ax ["row","words","kind","behind"] ["row"] (af iE):=fsc (by trivial)
abbrev ee:Stmt:=top 57
theorem ji:ax ["text","words","clause"] ["text"] (af ee):=fsc (by trivial)
abbrev ef:Stmt:=top 58
theorem oE:ax ["edit","words"] ["edit"] (af ef):=fsc (by trivial)
abbrev dW:Stmt:=top 59
theorem qj:ax ["deed","kind"] ["deed"] (af dW):=fsc (by trivial)
abbrev lT:Scope:={ kind:=.function,names:=[(ar ".0",.local),(ar "number",.local),(ar "str",.globalImplicit)],isGenerator:=false,isCoroutine:=false,more:=[] }
theorem u3:d7 lT (af dW) "number" ["deed","kind"] ["deed","kind"]:=⟨rfl,rfl,by trivial,by trivial,rfl,by trivial,by trivial,by trivial,by trivial,rfl,by trivial,by trivial⟩
abbrev iF:Stmt:=top 60
theorem C6:ax ["deed"] ["deed"] (af iF):=fsc (by trivial)
abbrev lI:Stmt:=top 62
theorem HX:ax ["need","ayes","noes"] ["need","ayes","noes"] (af lI):=fsc (by trivial)
abbrev lJ:Stmt:=top 66
theorem Aj:ax ["chamber","deed","kind"] ["chamber","deed"] (af lJ):=fsc (by trivial)
abbrev oF:Stmt:=top 67
theorem Lz:ax ["chamber","row","number"] ["chamber","row","number"] (af oF):=fsc (by trivial)
abbrev oG:Stmt:=top 68
theorem sJ:ax ["seats","rows","chamber","number","row"] ["seats","rows"] (af oG):=fsc (by trivial)
abbrev iG:Stmt:=top 70
theorem C7:ax ["_law_script","_law_k"] ["_law_script","_law_k"] (af iG):=fsc (by trivial)
abbrev lK:Stmt:=top 71
theorem HY:ax ["_law_found"] ["_law_found"] (af lK):=fsc (by trivial)
abbrev jj:Stmt:=top 72
theorem jR:ax ["_law_cell","_law_many","_law_found","_law_number","_law_k"] ["_law_cell","_law_many"] (af jj):=fsc (by trivial)
abbrev oH:Stmt:=top 73
theorem sL:ax ["_law_draws","_law_seats","_law_way","_law_clause","_law_ayes"] ["_law_draws","_law_seats"] (af oH):=fsc (by trivial)
abbrev oI:Stmt:=top 74
theorem wg:ax ["_law_chamber","_law_deed_here","_law_done_here"] ["_law_chamber","_law_deed_here"] (af oI):=fsc (by trivial)
abbrev iH:Stmt:=top 75
theorem iR:ax ["_law_cells","_law_seats","_law_chamber","_law_many","_law_cell"] ["_law_cells","_law_seats"] (af iH):=fsc (by trivial)
abbrev sM:Stmt:=top 76
theorem u4:ax ["_law_draw","_law_seats","_law_some"] ["_law_draw","_law_seats"] (af sM):=fsc (by trivial)
abbrev iI:Stmt:=top 77
theorem lq:ax ["_law_seats","_law_rows","_law_number","_law_caught","e"] ["_law_seats","_law_rows","_law_number"] (af iI):=fsc (by trivial)
abbrev u5:Stmt:=top 78
theorem tV:ax ["_law_script","_law_seats","_law_rows","_law_draws","_law_at","_law_bad_here","_law_handed"] ["_law_script"] (af u5):=fsc (by trivial)
structure Adr where
 fits:Addr
 C8:kf
 qL:Addr
 lU:kf
 laid:Addr
 C9:kf
 words_of:Addr
 iJ:kf
 oJ:Addr
 iS:kf
 oK:Addr
 iT:kf
 HZ:Addr
 wj:kf
 tW:Addr
 ny:kf
 nz:Addr
 jl:kf
 iU:Addr
 gx:kf
 jm:Addr
 gW:kf
 u6:Addr
 lV:kf
 Dc:Addr
 tX:kf
 Dd:Addr
 tY:kf
 wk:Addr
 pK:kf
 mZ:Addr
 iV:kf
 qM:Addr
 lW:kf
 wm:Addr
 pL:kf
 wq:Addr
 pM:kf
 wu:Addr
 pN:kf
 pO:Addr
 kh:kf
 sN:Addr
 lu:kf
 nA:Addr
 jn:kf
 nB:Addr
 jo:kf
 pP:Addr
 kz:kf
 lL:Addr
 gR:kf
 De:Addr
 tZ:kf
 Df:Addr
 t4:kf
 Ia:Addr
 wx:kf
 replay:Addr
 oM:kf
 wz:Addr
 pQ:kf
 Dg:Addr
 t5:kf
 Ak:Addr
 qN:kf
 Ib:Addr
 wA:kf
 Dh:Addr
 sO:kf
 wB:Addr
 pR:kf
 NG:Addr
 Al:kf
 sP:Addr
 lx:kf
 pS:Tok
 hZ:Tok
 jH:Tok
 ia:Tok
 pT:Tok
 qO:Addr
 jI:Tok
 c0:Addr
 c1:Addr
 c2:Addr
 c3:Addr
 c4:Addr
 c5:Addr
 c6:Addr
 c7:Addr
 Cm:Addr
 tab:Addr
 UG:Addr
 NH:kf
 UH:Addr
 NI:kf
 UI:Addr
 NJ:kf
 UJ:Addr
 NK:kf
 UK:Addr
 NL:kf
 UL:Addr
 NM:kf
 UM:Addr
 NN:kf
 UN:Addr
 NO:kf
 f_r:Addr
 Qy:kf
 f_n:Addr
 Di:kf
 UO:Addr
 NP:kf
 f_t:Addr
 NQ:kf
 UP:Addr
 NR:kf
 UQ:Addr
 NS:kf
 UR:Addr
 NT:kf
 US:Addr
 NU:kf
 UT:Addr
 NV:kf
 UU:Addr
 NW:kf
 UW:Addr
 NX:kf
 UX:Addr
 NY:kf
 UY:Addr
 NZ:kf
 UZ:Addr
 N0:kf
 ak:Addr
 cK:Addr
 kA:kf
 cL:Addr
 kB:kf
 cM:Addr
 kD:kf
 cN:Addr
 kF:kf
 cO:Addr
 kG:kf
 b6:Addr
 ig:kf
 b7:Addr
 ij:kf
 aX:Addr
 dg:kf
 bc:Addr
 dX:kf
 cq:Addr
 iW:kf
 bA:Addr
 e9:kf
 bM:Addr
 gy:kf
 br:Addr
 eI:kf
 bt:Addr
 eJ:kf
 bN:Addr
 gz:kf
 bJ:Addr
 cc:Addr
 bL:Addr
 dh:Addr
 dj:Addr
 a8:Addr
 bC:Addr
 bG:Addr
 bH:Addr
 dY:Addr
 dn:Addr
 a6:Addr
 Am:Addr
 wC:kf
 t8:Addr
 qP:kf
 An:Addr
 wD:kf
 u7:Addr
 qQ:kf
def Adr.C (A:Adr):Nat->Addr
 | 0=>A.c0
 | 1=>A.c1
 | 2=>A.c2
 | 3=>A.c3
 | 4=>A.c4
 | 5=>A.c5
 | 6=>A.c6
 |_=>A.c7
def Adr.fk (A:Adr):Nat->Addr
 | 0=>A.UG
 | 1=>A.UH
 | 2=>A.UI
 | 3=>A.UJ
 | 4=>A.UK
 | 5=>A.UL
 | 6=>A.UM
 |_=>A.UN
def Adr.fkd (A:Adr):Nat->kf
 | 0=>A.NH
 | 1=>A.NI
 | 2=>A.NJ
 | 3=>A.NK
 | 4=>A.NL
 | 5=>A.NM
 | 6=>A.NN
 |_=>A.NO
def Adr.fn (A:Adr):Nat->Addr
 | 0=>A.f_n
 | 1=>A.f_n
 | 2=>A.f_n
 | 3=>A.f_n
 | 4=>A.UO
 | 5=>A.f_n
 | 6=>A.f_n
 |_=>A.f_n
def Adr.fnd (A:Adr):Nat->kf
 | 0=>A.Di
 | 1=>A.Di
 | 2=>A.Di
 | 3=>A.Di
 | 4=>A.NP
 | 5=>A.Di
 | 6=>A.Di
 |_=>A.Di
def Adr.ft (A:Adr):Nat->Addr
 | 0=>A.UP
 | 1=>A.UQ
 | 2=>A.UR
 | 3=>A.US
 | 4=>A.f_t
 | 5=>A.f_t
 | 6=>A.f_t
 |_=>A.UT
def Adr.ftd (A:Adr):Nat->kf
 | 0=>A.NR
 | 1=>A.NS
 | 2=>A.NT
 | 3=>A.NU
 | 4=>A.NQ
 | 5=>A.NQ
 | 6=>A.NQ
 |_=>A.NV
def nm:Nat->Str
 | 0=>ar "matter"
 | 1=>ar "change"
 | 2=>ar "mend"
 | 3=>ar "put off"
 | 4=>ar "close"
 | 5=>ar "lay"
 | 6=>ar "rest"
 |_=>ar "point"
structure Txt (P:Params)(K:bo)(mg:Str->Option Value)(A:Adr):Prop where
 Ic:Fun K "fits" "fits" vZ A.fits A.C8
 N1:Binds K A.C8 ["things","edit"] []
 N2:mg "fits"=some (.ref A.fits)
 g0:Fun K "require_fit" "require_fit" fV A.qL A.lU
 jJ:Binds K A.lU ["things","edit"] []
 jK:mg "require_fit"=some (.ref A.qL)
 Dj:Fun K "laid" "laid" wc A.laid A.C9
 Ie:Binds K A.C9 ["things","edit"] []
 Ig:mg "laid"=some (.ref A.laid)
 il:Fun K "words_of" "words_of" jg A.words_of A.iJ
 jq:Binds K A.iJ ["clause"] []
 jr:mg "words_of"=some (.ref A.words_of)
 jS:Fun K "clause_of" "clause_of" iA A.oJ A.iS
 m3:Binds K A.iS ["words"] []
 m5:mg "clause_of"=some (.ref A.oJ)
 m6:Fun K "motion_of" "motion_of" iB A.oK A.iT
 xy:Binds K A.iT ["told"] []
 xA:mg "motion_of"=some (.ref A.oK)
 u9:Fun K "bar_of" "bar_of" oy A.HZ A.wj
 Ao:Binds K A.wj ["pile","closed"] []
 Aq:mg "bar_of"=some (.ref A.HZ)
 lz:Fun K "has_matter" "has_matter" fq A.tW A.ny
 pU:Binds K A.ny ["pile"] []
 pV:mg "has_matter"=some (.ref A.tW)
 kJ:Fun K "can_be_mended" "can_be_mended" d9 A.nz A.jl
 qk:Binds K A.jl ["pile"] []
 ql:mg "can_be_mended"=some (.ref A.nz)
 gX:Fun K "has_what_it_needs" "has_what_it_needs" cV A.iU A.gx
 kS:Binds K A.gx ["kind","pile"] []
 kT:mg "has_what_it_needs"=some (.ref A.iU)
 ip:Fun K "require_in_order" "require_in_order" df A.jm A.gW
 lX:Binds K A.gW ["kind","pile","closed"] []
 lY:mg "require_in_order"=some (.ref A.jm)
 dA:Fun K "require" "require" lG A.u6 A.lV
 dP:Binds K A.lV ["holds"] []
 dQ:mg "require"=some (.ref A.u6)
 wF:Fun K "is_sign" "is_sign" lH A.Dc A.tX
 B2:Binds K A.tX ["sign"] []
 B3:mg "is_sign"=some (.ref A.Dc)
 wG:Fun K "is_word" "is_word" jh A.Dd A.tY
 B4:Binds K A.tY ["word"] []
 B5:mg "is_word"=some (.ref A.Dd)
 qR:Fun K "is_number" "is_number" gv A.wk A.pK
 xB:Binds K A.pK ["word"] []
 xC:mg "is_number"=some (.ref A.wk)
 eK:Fun K "read_number" "read_number" fW A.mZ A.iV
 fX:Binds K A.iV ["word"] []
 fY:mg "read_number"=some (.ref A.mZ)
 g7:Fun K "read_clause" "read_clause" eG A.qM A.lW
 jL:Binds K A.lW ["words"] []
 jM:mg "read_clause"=some (.ref A.qM)
 qS:Fun K "read_text" "read_text" gw A.wm A.pL
 xD:Binds K A.pL ["words"] []
 xE:mg "read_text"=some (.ref A.wm)
 m7:Fun K "read_edit" "read_edit" iC A.wq A.pM
 qT:Binds K A.pM ["words"] []
 qU:mg "read_edit"=some (.ref A.wq)
 qV:Fun K "read_mend" "read_mend" iD A.wu A.pN
 xF:Binds K A.pN ["words"] []
 xG:mg "read_mend"=some (.ref A.wu)
 lZ:Fun K "read_sitting" "read_sitting" eZ A.pO A.kh
 qW:Binds K A.kh ["words"] []
 qX:mg "read_sitting"=some (.ref A.pO)
 qY:Fun K "read_deed" "read_deed" iE A.sN A.lu
 xH:Binds K A.lu ["row"] []
 xI:mg "read_deed"=some (.ref A.sN)
 kK:Fun K "words_of_text" "words_of_text" ee A.nA A.jn
 qm:Binds K A.jn ["text"] []
 qo:mg "words_of_text"=some (.ref A.nA)
 kL:Fun K "words_of_edit" "words_of_edit" ef A.nB A.jo
 qp:Binds K A.jo ["edit"] []
 qq:mg "words_of_edit"=some (.ref A.nB)
 l4:Fun K "words_behind" "words_behind" dW A.pP A.kz
 qZ:Binds K A.kz ["deed"] []
 q5:mg "words_behind"=some (.ref A.pP)
 jT:Fun K "show_deed" "show_deed" iF A.lL A.gR
 m8:Binds K A.gR ["deed"] []
 m9:mg "show_deed"=some (.ref A.lL)
 wH:Fun K "is_kept" "is_kept" lI A.De A.tZ
 B6:Binds K A.tZ ["need","ayes","noes"] []
 B7:mg "is_kept"=some (.ref A.De)
 sQ:Fun K "do_deed" "do_deed" lJ A.Df A.t4
 wI:Binds K A.t4 ["chamber","deed"] []
 wJ:mg "do_deed"=some (.ref A.Df)
 Ar:Fun K "do_row" "do_row" oF A.Ia A.wx
 Ex:Binds K A.wx ["chamber","row","number"] []
 Ey:mg "do_row"=some (.ref A.Ia)
 va:Fun K "replay" "replay" oG A.replay A.oM
 As:Binds K A.oM ["seats","rows"] []
 Au:mg "replay"=some (.ref A.replay)
 nc:Fun K "_law_cell_at" "_law_cell_at" iG A.wz A.pQ
 q8:Binds K A.pQ ["_law_script","_law_k"] []
 q9:mg "_law_cell_at"=some (.ref A.wz)
 wK:Fun K "_law_whole" "_law_whole" lK A.Dg A.t5
 B8:Binds K A.t5 ["_law_found"] []
 B9:mg "_law_whole"=some (.ref A.Dg)
 pW:Fun K "_law_stream" "_law_stream" jj A.Ak A.qN
 t9:Binds K A.qN ["_law_cell","_law_many"] []
 ua:mg "_law_stream"=some (.ref A.Ak)
 Av:Fun K "_law_deed" "_law_deed" oH A.Ib A.wA
 Ez:Binds K A.wA ["_law_draws","_law_seats"] []
 EA:mg "_law_deed"=some (.ref A.Ib)
 Aw:Fun K "_law_done" "_law_done" oI A.Dh A.sO
 EB:Binds K A.sO ["_law_chamber","_law_deed_here"] []
 EC:mg "_law_done"=some (.ref A.Dh)
 rb:Fun K "_law_minutes" "_law_minutes" iH A.wB A.pR
 xJ:Binds K A.pR ["_law_cells","_law_seats"] []
 xK:mg "_law_minutes"=some (.ref A.wB)
 zk:Fun K "_law_bad" "_law_bad" sM A.NG A.Al
 Dk:Binds K A.Al ["_law_draw","_law_seats"] []
 Dl:mg "_law_bad"=some (.ref A.NG)
 rg:Fun K "_law_refused" "_law_refused" iI A.sP A.lx
 xM:Binds K A.lx ["_law_seats","_law_rows","_law_number"] []
 xN:mg "_law_refused"=some (.ref A.sP)
 Ku:mg "range"=none
 pX:mg "list"=none
 ED:mg "str"=none
 Kv:mg "int"=none
 N3:mg "bool"=none
 cP:mg "isinstance"=none
 Sj:mg "max"=none
 oN:mg "len"=none
 Kw:mg "all"=none
 Sk:mg "any"=none
 Sl:mg "ord"=none
 xO:mg "enumerate"=none
 vb:mg "ValueError"=none
 Ca:mg "FIGURES"=some (.str (ar "0123456789") A.pS)
 rh:mg "MOST_FIGURES"=some (.int 10 A.hZ)
 vc:mg "MOST_SIGNS"=some (.int 20 A.jH)
 rj:mg "LAST_SITTING"=some (.int 999999999 A.ia)
 Cb:mg "PERCENT"=some (.int 37 A.pT)
 N4:mg "LONE"=some (.ref A.qO)
 N5:∀H,SqT K H A.qO [.str (ar "close"),.str (ar "lay"),.str (ar "rest"),.str (ar "drop")]
 vd:mg "CLOSED_BAR"=some (.int 4 A.jI)
 cl:∀k,k < 8->Cls K (A.C k)
 ve:mg "Matter"=some (.ref (A.C 0))
 vf:mg "Change"=some (.ref (A.C 1))
 Ii:mg "Mend"=some (.ref (A.C 2))
 Ax:mg "PutOff"=some (.ref (A.C 3))
 Dm:mg "Close"=some (.ref (A.C 4))
 N6:mg "Lay"=some (.ref (A.C 5))
 Ik:mg "Rest"=some (.ref (A.C 6))
 Dp:mg "Point"=some (.ref (A.C 7))
 Dq:mg "RANKS"=some (.ref A.tab)
 tb:Zb P K A.tab
 rk:∀k,k < 8->∃t,eg K A.tab (nm k)=some (some (.int k t))
 nD:∀k,k < 8->Meth K (A.C k) "kind" (A.fk k)
 nF:∀k,k < 8->Binds K (A.fkd k) ["self"] []
 N7:∀k,k < 8->Meth K (A.C k) "need" (A.fn k)
 N8:∀k,k < 8->Binds K (A.fnd k) ["self"] []
 N9:∀k,k < 8->Meth K (A.C k) "told" (A.ft k)
 Oa:∀k,k < 8->Binds K (A.ftd k) ["self"] []
 Ob:∀k,k < 8->Meth K (A.C k) "rank" A.f_r
 Oc:∀k,k < 8->Binds K A.Qy ["self"] []
 Zn:Fun K "kind" "Matter.kind" fF A.UG A.NH
 Zo:Fun K "kind" "Change.kind" fG A.UH A.NI
 Zp:Fun K "kind" "Mend.kind" iw A.UI A.NJ
 Zq:Fun K "kind" "PutOff.kind" fH A.UJ A.NK
 Zr:Fun K "kind" "Close.kind" gL A.UK A.NL
 Zs:Fun K "kind" "Lay.kind" jf A.UL A.NM
 Zt:Fun K "kind" "Rest.kind" ix A.UM A.NN
 Zu:Fun K "kind" "Point.kind" gM A.UN A.NO
 F_r:Fun K "rank" "Motion.rank" fJ A.f_r A.Qy
 F_n:Fun K "need" "Motion.need" fK A.f_n A.Di
 Zv:Fun K "need" "Close.need" gN A.UO A.NP
 F_t:Fun K "told" "Motion.told" fL A.f_t A.NQ
 Zw:Fun K "told" "Matter.told" fM A.UP A.NR
 Zx:Fun K "told" "Change.told" fN A.UQ A.NS
 Zy:Fun K "told" "Mend.told" iy A.UR A.NT
 Zz:Fun K "told" "PutOff.told" fO A.US A.NU
 ZA:Fun K "told" "Point.told" gO A.UT A.NV
 ZC:Fun K "__init__" "Matter.__init__" fP A.UU A.NW
 ZD:Fun K "__init__" "Change.__init__" fQ A.UW A.NX
 ZE:Fun K "__init__" "Mend.__init__" iz A.UX A.NY
 ZF:Fun K "__init__" "PutOff.__init__" fR A.UY A.NZ
 ZG:Fun K "__init__" "Point.__init__" gP A.UZ A.N0
 vg:Mk K (A.C 0) A.UU
 Qz:Binds K A.NW ["self","text"] []
 na0:dR K (A.C 0) "text"
 vh:Mk K (A.C 1) A.UW
 QA:Binds K A.NX ["self","edit"] []
 na1:dR K (A.C 1) "edit"
 Il:Mk K (A.C 2) A.UX
 U0:Binds K A.NY ["self","edit"] []
 na2:dR K (A.C 2) "edit"
 Ay:Mk K (A.C 3) A.UY
 U4:Binds K A.NZ ["self","sitting"] []
 na3:dR K (A.C 3) "sitting"
 Dr:Mk K (A.C 7) A.UZ
 U5:Binds K A.N0 ["self","clause"] []
 na7:dR K (A.C 7) "clause"
 mkn:∀k,k=4\/k=5\/k=6->MkN K (A.C k)
 wL:mg "Chamber"=some (.ref A.ak)
 ah:Cls K A.ak
 gA:Fun K "__init__" "Chamber.__init__" eU A.cK A.kA
 gB:Binds K A.kA ["self","seats"] []
 wM:Mk K A.ak A.cK
 gC:Fun K "move" "Chamber.move" eV A.cL A.kB
 iX:Binds K A.kB ["self","told"] []
 rn:Meth K A.ak "move" A.cL
 gD:Fun K "vote" "Chamber.vote" eW A.cM A.kD
 iY:Binds K A.kD ["self","ayes","noes"] []
 rq:Meth K A.ak "vote" A.cM
 gF:Fun K "drop" "Chamber.drop" eX A.cN A.kF
 iZ:Binds K A.kF ["self"] []
 rz:Meth K A.ak "drop" A.cN
 gG:Fun K "take" "Chamber.take" eY A.cO A.kG
 i3:Binds K A.kG ["self","number"] []
 rA:Meth K A.ak "take" A.cO
 eB:Fun K "minutes" "Chamber.minutes" dz A.b6 A.ig
 eC:Binds K A.ig ["self"] []
 i4:Meth K A.ak "minutes" A.b6
 eD:Fun K "pending" "Chamber.pending" cJ A.b7 A.ij
 eE:Binds K A.ij ["self"] []
 i5:Meth K A.ak "pending" A.b7
 bQ:Fun K "require_can_be_made" "Chamber.require_can_be_made" bF A.aX A.dg
 cy:Binds K A.dg ["self","told"] []
 fm:Meth K A.ak "require_can_be_made" A.aX
 cu:Fun K "require_pending" "Chamber.require_pending" bR A.bc A.dX
 cv:Binds K A.dX ["self"] []
 d5:Meth K A.ak "require_pending" A.bc
 fb:Fun K "decide" "Chamber.decide" dO A.cq A.iW
 fg:Binds K A.iW ["self","word"] []
 js:Meth K A.ak "decide" A.cq
 cQ:Fun K "end_decision" "Chamber.end_decision" cg A.bA A.e9
 cR:Binds K A.e9 ["self","deed"] []
 fv:Meth K A.ak "end_decision" A.bA
 dG:Fun K "carry_out" "Chamber.carry_out" cT A.bM A.gy
 eQ:Binds K A.gy ["self","motion"] []
 kU:Meth K A.ak "carry_out" A.bM
 cD:Fun K "lay_on_matter" "Chamber.lay_on_matter" b8 A.br A.eI
 dB:Binds K A.eI ["self","edit"] []
 iK:Meth K A.ak "lay_on_matter" A.br
 cE:Fun K "lay_on_change" "Chamber.lay_on_change" b9 A.bt A.eJ
 dC:Binds K A.eJ ["self","edit"] []
 iL:Meth K A.ak "lay_on_change" A.bt
 dH:Fun K "put_aside" "Chamber.put_aside" cU A.bN A.gz
 dI:Binds K A.gz ["self","until"] []
 gY:Meth K A.ak "put_aside" A.bN
 jqz:dR K A.ak "seats"
 jq1:dR K A.ak "sitting"
 jq8:dR K A.ak "closed"
 jq2:dR K A.ak "made"
 jq0:dR K A.ak "pile"
 jqa:dR K A.ak "aside"
 jqp:dR K A.ak "decided"
 jqb:dR K A.ak "first_texts"
 jq9:dR K A.ak "edits_kept"
 jqc:dR K A.ak "rows"
 cS:mg "ChamberError"=some (.ref A.bJ)
 Ds:mg "NoFit"=some (.ref A.cc)
 vi:mg "Barred"=some (.ref A.bL)
 Az:mg "NoMatter"=some (.ref A.dh)
 AA:mg "NoChange"=some (.ref A.dj)
 ub:mg "NotLater"=some (.ref A.a8)
 wN:mg "Nothing"=some (.ref A.bC)
 wO:mg "TooMany"=some (.ref A.bG)
 wQ:mg "NoAside"=some (.ref A.bH)
 EE:mg "NotYet"=some (.ref A.dY)
 Im:mg "NoNumber"=some (.ref A.dn)
 zm:mg "NoRow"=some (.ref A.a6)
 eh:Sf K A.bJ
 Od:mV K A.cc
 EF:Em K A.cc
 jqo:aiA K (.ref A.cc) (.ref A.bJ)=some true
 jq2i:ba K (.ref A.cc) (.ref A.a6)=some false
 jq2c:ba K (.ref A.cc) (.ref A.bL)=some false
 jq2j:ba K (.ref A.cc) (.ref A.cc)=some true
 jq1R:ba K (.ref A.cc) (.ref A.bC)=some false
 jq1S:ba K (.ref A.cc) (.ref A.bG)=some false
 jq1T:ba K (.ref A.cc) (.ref A.bH)=some false
 jq1r:ba K (.ref A.cc) (.ref A.a8)=some false
 jqO:ba K (.ref A.cc) (.type "ValueError")=some true
 EG:mV K A.dh
 xP:Em K A.dh
 jqd:aiA K (.ref A.dh) (.ref A.bJ)=some true
 jq1s:ba K (.ref A.dh) (.ref A.a6)=some false
 jq17:ba K (.ref A.dh) (.ref A.bL)=some false
 jq1t:ba K (.ref A.dh) (.ref A.cc)=some false
 jqP:ba K (.ref A.dh) (.ref A.bC)=some false
 jqQ:ba K (.ref A.dh) (.ref A.bG)=some false
 jqR:ba K (.ref A.dh) (.ref A.bH)=some false
 jqF:ba K (.ref A.dh) (.ref A.a8)=some false
 jqq:ba K (.ref A.dh) (.type "ValueError")=some true
 EH:mV K A.dj
 xQ:Em K A.dj
 jqe:aiA K (.ref A.dj) (.ref A.bJ)=some true
 jq1u:ba K (.ref A.dj) (.ref A.a6)=some false
 jq18:ba K (.ref A.dj) (.ref A.bL)=some false
 jq1v:ba K (.ref A.dj) (.ref A.cc)=some false
 jqS:ba K (.ref A.dj) (.ref A.bC)=some false
 jqT:ba K (.ref A.dj) (.ref A.bG)=some false
 jqU:ba K (.ref A.dj) (.ref A.bH)=some false
 jqG:ba K (.ref A.dj) (.ref A.a8)=some false
 jqr:ba K (.ref A.dj) (.type "ValueError")=some true
 Io:mV K A.bC
 AB:Em K A.bC
 jqi:aiA K (.ref A.bC) (.ref A.bJ)=some true
 jq1U:ba K (.ref A.bC) (.ref A.a6)=some false
 jq1w:ba K (.ref A.bC) (.ref A.bL)=some false
 jq1V:ba K (.ref A.bC) (.ref A.cc)=some false
 jq19:ba K (.ref A.bC) (.ref A.bC)=some true
 jq1a:ba K (.ref A.bC) (.ref A.bG)=some false
 jq1b:ba K (.ref A.bC) (.ref A.bH)=some false
 jqV:ba K (.ref A.bC) (.ref A.a8)=some false
 jqw:ba K (.ref A.bC) (.type "ValueError")=some true
 Iq:mV K A.bG
 AD:Em K A.bG
 jqj:aiA K (.ref A.bG) (.ref A.bJ)=some true
 jq1W:ba K (.ref A.bG) (.ref A.a6)=some false
 jq1x:ba K (.ref A.bG) (.ref A.bL)=some false
 jq1X:ba K (.ref A.bG) (.ref A.cc)=some false
 jq1c:ba K (.ref A.bG) (.ref A.bC)=some false
 jq1d:ba K (.ref A.bG) (.ref A.bG)=some true
 jq1e:ba K (.ref A.bG) (.ref A.bH)=some false
 jqW:ba K (.ref A.bG) (.ref A.a8)=some false
 jqx:ba K (.ref A.bG) (.type "ValueError")=some true
 Ir:mV K A.bH
 AE:Em K A.bH
 jqk:aiA K (.ref A.bH) (.ref A.bJ)=some true
 jq1Y:ba K (.ref A.bH) (.ref A.a6)=some false
 jq1y:ba K (.ref A.bH) (.ref A.bL)=some false
 jq1Z:ba K (.ref A.bH) (.ref A.cc)=some false
 jq1f:ba K (.ref A.bH) (.ref A.bC)=some false
 jq1g:ba K (.ref A.bH) (.ref A.bG)=some false
 jq1h:ba K (.ref A.bH) (.ref A.bH)=some true
 jqX:ba K (.ref A.bH) (.ref A.a8)=some false
 jqy:ba K (.ref A.bH) (.type "ValueError")=some true
 EI:mV K A.dn
 EJ:Em K A.dn
 jqf:aiA K (.ref A.dn) (.ref A.bJ)=some true
 jq1z:ba K (.ref A.dn) (.ref A.a6)=some false
 jq1i:ba K (.ref A.dn) (.ref A.bL)=some false
 jq1A:ba K (.ref A.dn) (.ref A.cc)=some false
 jqY:ba K (.ref A.dn) (.ref A.bC)=some false
 jqZ:ba K (.ref A.dn) (.ref A.bG)=some false
 jq10:ba K (.ref A.dn) (.ref A.bH)=some false
 jqH:ba K (.ref A.dn) (.ref A.a8)=some false
 jqs:ba K (.ref A.dn) (.type "ValueError")=some true
 LA:mV K A.bL
 l5:Fun K "__init__" "Barred.__init__" fS A.Am A.wC
 l6:Binds K A.wC ["self","bar"] []
 oO:yc K A.bL A.Am "bar"
 LB:NA K A.bL "bar"
 jql:aiA K (.ref A.bL) (.ref A.bJ)=some true
 jq2d:ba K (.ref A.bL) (.ref A.a6)=some false
 jq20:ba K (.ref A.bL) (.ref A.bL)=some true
 jq2e:ba K (.ref A.bL) (.ref A.cc)=some false
 jq1B:ba K (.ref A.bL) (.ref A.bC)=some false
 jq1C:ba K (.ref A.bL) (.ref A.bG)=some false
 jq1D:ba K (.ref A.bL) (.ref A.bH)=some false
 jq1j:ba K (.ref A.bL) (.ref A.a8)=some false
 jqI:ba K (.ref A.bL) (.type "ValueError")=some true
 EK:mV K A.a8
 i6:Fun K "__init__" "NotLater.__init__" d8 A.t8 A.qP
 lA:Binds K A.qP ["self","sitting"] []
 ng:yc K A.a8 A.t8 "sitting"
 EL:NA K A.a8 "sitting"
 jqg:aiA K (.ref A.a8) (.ref A.bJ)=some true
 jq1E:ba K (.ref A.a8) (.ref A.a6)=some false
 jq1k:ba K (.ref A.a8) (.ref A.bL)=some false
 jq1F:ba K (.ref A.a8) (.ref A.cc)=some false
 jq11:ba K (.ref A.a8) (.ref A.bC)=some false
 jq12:ba K (.ref A.a8) (.ref A.bG)=some false
 jq13:ba K (.ref A.a8) (.ref A.bH)=some false
 jqJ:ba K (.ref A.a8) (.ref A.a8)=some true
 jqt:ba K (.ref A.a8) (.type "ValueError")=some true
 LC:mV K A.dY
 l7:Fun K "__init__" "NotYet.__init__" fU A.An A.wD
 pY:Binds K A.wD ["self","sitting"] []
 sS:yc K A.dY A.An "sitting"
 LD:NA K A.dY "sitting"
 jqm:aiA K (.ref A.dY) (.ref A.bJ)=some true
 jq2f:ba K (.ref A.dY) (.ref A.a6)=some false
 jq21:ba K (.ref A.dY) (.ref A.bL)=some false
 jq2g:ba K (.ref A.dY) (.ref A.cc)=some false
 jq1G:ba K (.ref A.dY) (.ref A.bC)=some false
 jq1H:ba K (.ref A.dY) (.ref A.bG)=some false
 jq1I:ba K (.ref A.dY) (.ref A.bH)=some false
 jq1l:ba K (.ref A.dY) (.ref A.a8)=some false
 jqK:ba K (.ref A.dY) (.type "ValueError")=some true
 i7:mV K A.a6
 lN:Fun K "__init__" "NoRow.__init__" gQ A.u7 A.qQ
 oQ:Binds K A.qQ ["self","row"] []
 l8:yc K A.a6 A.u7 "row"
 AF:NA K A.a6 "row"
 jqh:aiA K (.ref A.a6) (.ref A.bJ)=some true
 jq22:ba K (.ref A.a6) (.ref A.a6)=some true
 jq1q:ba K (.ref A.a6) (.ref A.bL)=some false
 jq23:ba K (.ref A.a6) (.ref A.cc)=some false
 jq14:ba K (.ref A.a6) (.ref A.bC)=some false
 jq15:ba K (.ref A.a6) (.ref A.bG)=some false
 jq16:ba K (.ref A.a6) (.ref A.bH)=some false
 jqM:ba K (.ref A.a6) (.ref A.a8)=some false
 jqv:ba K (.ref A.a6) (.type "ValueError")=some true
theorem sl (n:Nat)(h:n<=64:=by decide):n<=gc:=rf h (by decide)
abbrev bl1:Str:=ar " "
def Asc (x:Str):Prop:=∀c∈x.cps.toList,c < 128
theorem Asc.ok {x:Str}(h:Asc x):aiZ x=true:=by
 unfold aiZ;rw[Array.all_eq_true];intro i hi;have:=h x.cps[i] (by simp)
 exact decide_eq_true (by omega)
theorem l9 {sep:Str}(hs:Asc sep):∀ws:List Str,(∀w∈ws,Asc w)->Asc (km sep ws)
 |[],_=>λc hc=>by
  have:c∈([]:List Nat):=hc;cases this
 |[x],h=>h x kb
 |x::y::r,h=>λc hc=>by
  have hc':c∈((x++sep)++km sep (y::r)).cps.toList:=hc;rw[dU,dU,akb,akb]at hc';rcases hc' with (h1 | h1) | h1
  ·exact h x kb c h1
  ·exact hs c h1
  ·exact l9 hs (y::r) (λw hw=>h w (kj _ hw)) c h1
structure Sh (n:Nat)(x:Str):Prop where
 asc:Asc x
 len:x.length<=n
structure Ed where
 k:Nat
 at_:Int
 th:Str
def kn:Nat->Str
 | 0=>ar "put"
 | 1=>ar "cut"
 |_=>ar "turn"
def i8 (e:Ed):List V:=match e.k with
 | 0=>[.str (kn 0),.int e.at_,.str e.th]
 | 1=>[.str (kn 1),.int e.at_]
 |_=>[.str (kn 2),.int e.at_,.str e.th]
def edD (e:Ed):PyData:=match e.k with
 | 0=>.tuple [.str (kn 0),.int e.at_,.str e.th]
 | 1=>.tuple [.str (kn 1),.int e.at_]
 |_=>.tuple [.str (kn 2),.int e.at_,.str e.th]
structure vj (e:Ed):Prop where
 k3:e.k=0\/e.k=1\/e.k=2
 lo:-9999999999<=e.at_
 hi:e.at_<=9999999999
 th:Sh 100000 e.th
def g8 (n:Nat)(e:Ed):Bool:=decide (0<=e.at_) && decide (e.at_ < (n:Int)+(if e.k=0 then 1 else 0))
def cG (xs:List Str)(e:Ed):List Str:=match e.k with
 | 0=>xs.take e.at_.toNat++e.th::xs.drop e.at_.toNat
 | 1=>xs.eraseIdx e.at_.toNat
 |_=>xs.set e.at_.toNat e.th
theorem Dt (e:Ed):atI (i8 e) 0=some (.str (kn e.k)):=by
 unfold i8;split
 ·rename_i h;rw[h];rfl
 ·rename_i h;rw[h];rfl
 ·rename_i h1 h2;have:kn e.k=kn 2:=by
   unfold kn;split
   ·rename_i h;exact absurd h h1
   ·rename_i h;exact absurd h h2
   ·rfl
  rw[this];rfl
theorem Du (e:Ed):atI (i8 e) 1=some (.int e.at_):=by
 unfold i8;split <;> rfl
theorem Dv {e:Ed}(h:e.k≠1):atI (i8 e) 2=some (.str e.th):=by
 unfold i8;split
 ·rfl
 ·rename_i z;exact absurd z h
 ·rfl
theorem U6 (e:Ed){K:bo}{H:Hp}{t:Addr}(h:SqT K H t (i8 e)):DV K H (edD e) (.ref t):=by
 unfold i8 at h;unfold edD;split
 ·rename_i z;rw[z]at h;unfold DV;exact⟨t,_,rfl,h,by unfold DVs;exact⟨_,_,rfl,by unfold DV;rfl,by unfold DVs;exact⟨_,_,rfl,by unfold DV;rfl,by unfold DVs;exact⟨_,_,rfl,by unfold DV;rfl,by unfold DVs;rfl⟩⟩⟩⟩
 ·rename_i z;rw[z]at h;unfold DV;exact⟨t,_,rfl,h,by unfold DVs;exact⟨_,_,rfl,by unfold DV;rfl,by unfold DVs;exact⟨_,_,rfl,by unfold DV;rfl,by unfold DVs;rfl⟩⟩⟩
 ·rename_i z1 z2;split at h
  ·rename_i z;exact absurd z z1
  ·rename_i z;exact absurd z z2
  ·unfold DV;exact⟨t,_,rfl,h,by unfold DVs;exact⟨_,_,rfl,by unfold DV;rfl,by unfold DVs;exact⟨_,_,rfl,by unfold DV;rfl,by unfold DVs;exact⟨_,_,rfl,by unfold DV;rfl,by unfold DVs;rfl⟩⟩⟩⟩
theorem Cc {i:Int}(h0:-9999999999<=i)(h1:i<=9999999999):i.natAbs.log2 < 1920:=by
 have e40:(2:Nat) ^ 40=1099511627776:=by decide
 have h:i.natAbs < 2 ^ 40:=by omega
 by_cases hz:i.natAbs=0
 ·rw[hz];decide
 ·exact Nat.lt_trans ((Nat.log2_lt hz).mpr h) (by decide)
theorem Oe {e:Ed}(o:vj e):(edD e).showable=true/\(edD e).hasDict=false/\(edD e).depth<=60:=by
 have lg:=Cc o.lo o.hi;unfold edD;split <;> simp[PyData.showable,PyData.showableAll,PyData.hasDict,PyData.hasDictAll,ajZ,aj9,lg]
theorem QB {i:Int}(h0:-9999999999<=i)(h1:i<=9999999999):(ar (toString i)).length<=1921:=by
 have h:=int_text_length_le (a:=i) (k:=1920) (by decide) (Cc h0 h1)
 have e:(ar (toString i)).length=(toString i).length:=by first | exact PySem.ofString_length _ | exact ofString_length _
 omega
theorem Sh.rep {n:Nat}{x:Str}(s:Sh n x):(reprText x).length<=10 * n+2:=by
 have h:=StrLaws.reprText_len x λc hc=>Nat.lt_trans (s.asc c hc) (by decide)
 have:=s.len;omega
theorem Of (k:Nat):Sh 4 (kn k):=by
 unfold kn;split <;> exact⟨by unfold Asc;trivial,by trivial⟩
theorem QC {e:Ed}(o:vj e):(edD e).shown.length<=1100000:=by
 have a:=(Of 0).rep;have b:=(Of 1).rep;have c:=(Of 2).rep;have d:=o.th.rep;have i:=QB o.lo o.hi;unfold edD;split
 ·have h:=tupleText_len_le [reprText (kn 0),ar (toString e.at_),reprText e.th];simp only[ra,ajY,List.sum_cons,List.sum_nil,ku,List.length_nil]at h;show (tupleText [reprText (kn 0),ar (toString e.at_),reprText e.th]).length<=_;omega
 ·have h:=tupleText_len_le [reprText (kn 1),ar (toString e.at_)];simp only[ra,ajY,List.sum_cons,List.sum_nil,ku,List.length_nil]at h;show (tupleText [reprText (kn 1),ar (toString e.at_)]).length<=_;omega
 ·have h:=tupleText_len_le [reprText (kn 2),ar (toString e.at_),reprText e.th];simp only[ra,ajY,List.sum_cons,List.sum_nil,ku,List.length_nil]at h;show (tupleText [reprText (kn 2),ar (toString e.at_),reprText e.th]).length<=_;omega
theorem Dw {e:Ed}(o:vj e):(V.str (kn e.k)=V.str (ar "put"))↔e.k=0:=by
 rcases o.k3 with h | h | h <;> rw[h] <;> trivial
theorem wR {e:Ed}(o:vj e):(V.str (kn e.k)=V.str (ar "cut"))↔e.k=1:=by
 rcases o.k3 with h | h | h <;> rw[h] <;> trivial
def U7 (K:bo):Sp:=λvs H Q _=>∃(a t:Addr) (xs:List V) (e:Ed),vs=[.ref a,.ref t]/\SqL K H a xs/\SqT K H t (i8 e)/\vj e/\Q (.bl (g8 xs.length e)) H
def ZH (A:Adr)(K:bo):Sp:=λvs H Q E=>∃(a t:Addr) (xs:List V) (e:Ed),vs=[.ref a,.ref t]/\SqL K H a xs/\SqT K H t (i8 e)/\vj e/\(g8 xs.length e=true->Q .non H)/\(g8 xs.length e=false->E (.ref A.cc) none H)
def U8 (A:Adr)(K:bo):Sp:=λvs H Q E=>∃(a t:Addr) (xs:List Str) (e:Ed),vs=[.ref a,.ref t]/\SqL K H a (xs.map V.str)/\xs.length<=1000/\SqT K H t (i8 e)/\vj e /\
 (g8 xs.length e=true->∀p,H p=none->Q (.ref p) (upd H p (.lst ((cG xs e).map V.str))))/\(g8 xs.length e=false->E (.ref A.cc) none H)
theorem EM {n:Nat}{e:Ed}:g8 n e=true↔0<=e.at_/\e.at_ < (n:Int)+(if e.k=0 then 1 else 0):=by
 unfold g8;rw[aiN,decide_eq_true_iff,decide_eq_true_iff]
section
variable{P:kx}{w:World}{K:bo}{mg:Str->Option Value}{base:Heap}{A:Adr}
theorem Og {H H':Hp}{t:Addr}{xs:List V}(s:aZ H H')(h:SqT K H t xs):SqT K H' t xs:=by
 rcases h with (h | ⟨o,h⟩) | h
 ·exact .inl (.inl (s _ _ h))
 ·exact .inl (.inr ⟨o,s _ _ h⟩)
 ·exact .inr h
theorem QD (T:Txt w.params K mg A):FnOk P w K mg base CX0 1 A.fits A.C8 ["things","edit"] (U7 K):=by
 refine T.Ic.ok C2 (λvs H Q E h=>?_) (λcdv A' outer s H vs Q E hr h=>?_)
 ·obtain⟨a,t,xs,e,rfl,_⟩:=h;rfl
 ·obtain⟨a,t,xs,e,rfl,ha,ht,o,q⟩:=h;refine⟨_,(ao (bg (i:=2) C2.nd rfl (aiF rfl) (bK dM (by rfl) T.oN j8 (aa (pv 0) ag)))
 (ao (bX (aO bD (aW bE (pv 1) aj (λ_ _=>rfl)) aq (aJ _))
 (ai (bg (i:=2) C2.nd rfl (aiF rfl) (bP eS (pv 2) aj)))
 aN)
 (ai (aG (uO xn zB aj (aW bE (pv 1) aj (λ_ _=>rfl)) (pv 2)))))),?_⟩
  try dsimp only[bI]
  refine⟨_,rfl,a,xs,rfl,.inl ha,?_⟩;refine ixv rfl ht (Dt e) ⟨rfl,_,rfl,gU (λz=>?_) (λz=>?_)⟩
  ·have hk:e.k=0:=(Dw o).mp (of_decide_eq_true z);refine⟨_,rfl,_,_,rfl,rfl,?_⟩;unfold g8 at q;rw[if_pos hk]at q;refine ixv rfl ht (Du e) ⟨_,_,rfl,rfl,_,rfl,gU (λz1=>?_) (λz1=>?_)⟩
   ·have h1:0<=e.at_:=of_decide_eq_true z1;rw[decide_eq_true h1,Bool.true_and]at q;exact⟨_,rfl,_,_,rfl,rfl,q⟩
   ·have h1:¬0<=e.at_:=λy=>z1 (decide_eq_true y)
    rw[decide_eq_false h1,Bool.false_and]at q;exact q
  ·have hk:¬e.k=0:=λy=>z (decide_eq_true ((Dw o).mpr y))
   unfold g8 at q;rw[if_neg hk,Int.add_zero]at q;refine ixv rfl ht (Du e) ⟨_,_,rfl,rfl,_,rfl,gU (λz1=>?_) (λz1=>?_)⟩
   ·have h1:0<=e.at_:=of_decide_eq_true z1;rw[decide_eq_true h1,Bool.true_and]at q;exact⟨_,rfl,_,_,rfl,rfl,q⟩
   ·have h1:¬0<=e.at_:=λy=>z1 (decide_eq_true y)
    rw[decide_eq_false h1,Bool.false_and]at q;exact q
theorem md (T:Txt w.params K mg A):FnOk P w K mg base (CXX P w) 2 A.qL A.lU ["things","edit"] (ZH A K):=by
 refine T.g0.okX Af (λvs H Q E h=>?_) (λcdv A' outer s H vs Q E hr h=>?_)
 ·obtain⟨a,t,xs,e,rfl,_⟩:=h;rfl
 ·obtain⟨a,t,xs,e,rfl,ha,ht,o,q1,q2⟩:=h;have hgd:=hr.gd;have Bs:=hr.units;refine⟨_,(aL (dE (pD (ib (bw (QD T) hr rfl T.N2 T.Ic.kp T.N1 .nil a9 (aa (pv 0) (aa (pv 1) ag)))))
 (aL (lF T.EF rfl rfl T.Ds (aa (Ze hgd Bs (pv 1)) ag)))
 (mQ aN))),?_⟩
  try dsimp only[bI]
  refine⟨_,rfl,_,rfl,a,t,xs,e,rfl,ha,ht,o,_,rfl,?_⟩;cases hf:g8 xs.length e with
  |true=>exact eu (q1 hf)
  |false =>
   refine aT λGq gq=>?_
   obtain⟨s1,s2,s3⟩:=Oe o;have s4:=QC o;refine gq ?_;refine gS ⟨_,rfl,t,edD e,rfl,U6 e ht,s1,s2,s3,rf (Nat.add_le_add_right s4 _) (by trivial),λz=>?_⟩
   exact⟨(sl 1),q2 hf⟩
theorem Kx (T:Txt w.params K mg A):FnOk P w K mg base (CXX P w) 3 A.laid A.C9 ["things","edit"] (U8 A K):=by
 refine T.Dj.okX zj (λvs H Q E h=>?_) (λcdv A' outer s H vs Q E hr h=>?_)
 ·obtain⟨a,t,xs,e,rfl,_⟩:=h;rfl
 ·obtain⟨a,t,xs,e,rfl,ha,hz,ht,o,q1,q2⟩:=h;refine⟨_,(au (cf (bB (md T) hr rfl T.jK T.g0.kp T.jJ (pax (aa (pv 0) (aa (pv 1) ag)))))
 (au (psx (bg (i:=2) zj.nd rfl (aiF rfl) (aW bE (pv 1) aj (λ_ _=>rfl))))
 (au (psx (bg (i:=3) zj.nd rfl (aiF rfl) (aW bE (pv 1) aj (λ_ _=>rfl))))
 (au (psx (bg (i:=4) zj.nd rfl (aiF rfl) (dv et (by rfl) T.pX mT (aa (pv 0) ag))))
 (au (psx (bX (aO bD (pv 2) aq (aJ _))
 (ai (bY (iP adm PySem.F.slot_list_insert PySem.F.type_list_insert vX (pv 4) (aa (pv 3) (aa (aW bE (pv 1) aj (λ_ _=>rfl)) ag)))))
 (ai (bX (aO bD (pv 2) aq (aJ _))
 (ai (bY (iP adm PySem.F.slot_list_pop PySem.F.type_list_pop M0 (pv 4) (aa (pv 3) ag))))
 (ai (T2 (aW bE (pv 1) aj (λ_ _=>rfl)) (TZ (pv 4) (pv 3) set_list)))))))
 (aL (psx (aG (pv 4))))))))),?_⟩
  try dsimp only[bI]
  refine⟨_,rfl,_,rfl,a,t,_,e,rfl,ha,ht,o,λhf=>?_,λhf=>q2 (by rw[da]at hf;exact hf)⟩
  refine aT λGq gq=>?_
  rw[da]at hf;obtain⟨f0,f1⟩:=EM.mp hf;have q:=q1 hf;have lim:(1001:Nat) < gc:=by decide
  obtain⟨n,hn⟩:∃n:Nat,e.at_=(n:Int):=⟨e.at_.toNat,by omega⟩
  refine gq ?_;refine ixv rfl ht (Dt e) ?_;refine ixv rfl ht (Du e) ?_;refine⟨_,rfl,a,_,rfl,.inl ha,λp hp=>?_⟩
  have sp:aZ H (upd H p (.lst (xs.map V.str))):=aI hp;have ht':=Og sp ht;have q:=q p hp;rw[hn];rw[hn]at f1;refine⟨_,rfl,rfl,_,rfl,gU (λz=>?_) (λz=>?_)⟩
  ·have hk:e.k=0:=(Dw o).mp (of_decide_eq_true z);rw[if_pos hk]at f1;refine⟨_,rfl,.inl ⟨rfl,_,SqL.of ae⟩,_,rfl,ixv rfl ht' (Dv (by omega)) ⟨p,_,_,n,_,rfl,rfl,rfl,ae,(by rw[da];omega),(by rw[da];omega),?_⟩⟩
   rw[mR];refine⟨_,rfl,?_⟩;have e1:(cG xs e).map V.str=(xs.map V.str).take n++V.str e.th::(xs.map V.str).drop n:=by
    unfold cG;rw[hk,hn];simp
   rw[e1]at q;exact q
  ·have hk0:¬e.k=0:=λy=>z (decide_eq_true ((Dw o).mpr y))
   rw[if_neg hk0,Int.add_zero]at f1;have hlt:n < xs.length:=by omega
   refine⟨_,rfl,rfl,_,rfl,gU (λz2=>?_) (λz2=>?_)⟩
   ·have hk:e.k=1:=(wR o).mp (of_decide_eq_true z2);refine⟨_,rfl,.inl ⟨rfl,_,SqL.of ae⟩,_,rfl,p,_,(n:Int),n,_,rfl,rfl,ae,by omega,by omega,?_,(by rw[aiG (by rw[da];exact hlt)]),?_⟩
    ·rw[da];exact(CD (by unfold ixN;rw[if_pos (by omega),if_pos (by omega)];rfl)).1
    ·rw[mR];refine⟨_,rfl,?_⟩;have e1:(cG xs e).map V.str=(xs.map V.str).eraseIdx n:=by
      unfold cG;rw[hk,hn];exact BU V.str xs _
     rw[e1]at q;exact q
   ·have hk1:¬e.k=1:=λy=>z2 (decide_eq_true ((wR o).mpr y))
    have hk:e.k=2:=by have:=o.k3;omega
    refine ixv rfl ht' (Dv (by omega)) ⟨_,rfl,_,rfl,p,_,(n:Int),n,rfl,rfl,ae,?_,?_⟩
    ·rw[da];unfold ixN;rw[if_pos (by omega),if_pos (by omega)];rfl
    ·rw[mR];refine⟨_,rfl,?_⟩;have e1:(cG xs e).map V.str=(xs.map V.str).set n (V.str e.th):=by
      unfold cG;rw[hk,hn];simp[List.map_set]
     rw[e1]at q;exact q
end
mutual
theorem eqv_refl:∀d:PyData,d.canLay0=true->aj3 d d=true
 | .none,_=>by simp[aj3]
 | .bool _,_=>by simp[aj3]
 | .int _,_=>by simp[aj3]
 | .str _,_=>by simp[aj3]
 | .list xs,h=>by simp only[aj3];exact eqvAll_refl xs (by simpa [aju] using h)
 | .tuple xs,h=>by simp only[aj3];exact eqvAll_refl xs (by simpa [aju] using h)
 | .dict _,h=>by simp[aju]at h
theorem eqvAll_refl:∀xs:List PyData,ajt xs=true->PyData.eqvAll xs xs=true
 |[],_=>by simp[PyData.eqvAll]
 |x::xs,h=>by
  have h':x.canLay0=true/\ajt xs=true:=by simpa [ajt] using h
  simp only[PyData.eqvAll,eqv_refl x h'.1,eqvAll_refl xs h'.2,Bool.and_self]
end
theorem aip:∀k,k < 8->aiZ (nm k)=true
 | 0,_=>by trivial
 | 1,_=>by trivial
 | 2,_=>by trivial
 | 3,_=>by trivial
 | 4,_=>by trivial
 | 5,_=>by trivial
 | 6,_=>by trivial
 | 7,_=>by trivial
 |n+8,h=>absurd h (by omega)
def nd (k:Nat):Str:=if k=4 then ar "two thirds" else ar "more"
def rowOf (k:Nat)(v:V):List V:=match k with
 | 4=>[.str (nm 4)]
 | 5=>[.str (nm 5)]
 | 6=>[.str (nm 6)]
 |k=>[.str (nm k),v]
def oR (k:Nat)(v:V):List (Str×V):=match k with
 | 0=>[(ar "text",v)]
 | 1=>[(ar "edit",v)]
 | 2=>[(ar "edit",v)]
 | 3=>[(ar "sitting",v)]
 | 4=>[]
 | 5=>[]
 | 6=>[]
 |_=>[(ar "clause",v)]
theorem Ky {m:Str}(h:m≠ar "text"/\m≠ar "edit"/\m≠ar "sitting"/\m≠ar "clause")(k:Nat)(v:V):(oR k v).lookup m=none:=by
 obtain⟨h1,h2,h3,h4⟩:=h;have b1:(m == ar "text")=false:=beq_eq_false_iff_ne.mpr h1;have b2:(m == ar "edit")=false:=beq_eq_false_iff_ne.mpr h2;have b3:(m == ar "sitting")=false:=beq_eq_false_iff_ne.mpr h3;have b4:(m == ar "clause")=false:=beq_eq_false_iff_ne.mpr h4;unfold oR;split <;> simp[aj7,b1,b2,b3,b4]
theorem lB (k:Nat)(v:V):(oR k v).lookup (ar "kind")=none:=Ky (by trivial) k v
theorem QE (k:Nat)(v:V):(oR k v).lookup (ar "rank")=none:=Ky (by trivial) k v
theorem QF (k:Nat)(v:V):(oR k v).lookup (ar "need")=none:=Ky (by trivial) k v
theorem QG (k:Nat)(v:V):(oR k v).lookup (ar "told")=none:=Ky (by trivial) k v
def f6 (k:Nat):Sp:=λvs H Q _=>∃m:Addr,vs=[.ref m]/\Q (.str (nm k)) H
def Oh (A:Adr):Sp:=λvs H Q _=>∃(m:Addr) (k:Nat) (dx:Addr) (fs:List (Str×V)),k < 8/\vs=[.ref m]/\H m=some (.ins (A.C k) dx fs)/\fs.lookup (ar "kind")=none/\Q (.int k) H
def Dx (k:Nat):Sp:=λvs H Q _=>∃m:Addr,vs=[.ref m]/\Q (.str (nd k)) H
def Kz (A:Adr):Sp:=λvs H Q _=>∃(m:Addr) (k:Nat) (dx:Addr) (fs:List (Str×V)),k < 8/\vs=[.ref m]/\H m=some (.ins (A.C k) dx fs)/\fs.lookup (ar "kind")=none/\∀p,H p=none->Q (.ref p) (upd H p (.tup [.str (nm k)]))
def zo (A:Adr)(k:Nat)(a:Str):Sp:=λvs H Q _=>∃(m dx:Addr) (fs:List (Str×V)) (v:V),vs=[.ref m]/\H m=some (.ins (A.C k) dx fs)/\fs.lookup (ar "kind")=none/\fs.lookup a=some v/\∀p,H p=none->Q (.ref p) (upd H p (.tup [.str (nm k),v]))
def Iu (A:Adr)(k:Nat):Sp:=λvs H Q _=>1<=k/\∃(m dx:Addr) (v:V),vs=[.ref m]/\H m=some (.ins (A.C k) dx (oR k v))/\∀p,H p=none->Q (.ref p) (upd H p (.tup (rowOf k v)))
def Dy (A:Adr)(k:Nat):Sp:=λvs H Q _=>∃(m dx:Addr) (v:V),vs=[.ref m,v]/\H m=some (.ins (A.C k) dx [])/\Q .non (upd H m (.ins (A.C k) dx (oR k v)))
def KA (A:Adr)(K:bo):Sp:=λvs H Q _=>∃(m dx L:Addr) (xs:List V),vs=[.ref m]/\H m=some (.ins (A.C 0) dx (oR 0 (.ref L)))/\SqL K H L xs/\∀p q,H p=none->H q=none->p≠q->Q (.ref q) (upd (upd H p (.lst xs)) q (.tup [.str (nm 0),.ref p]))
def QH (A:Adr)(K:bo):Sp:=λvs H Q _=>∃(m dx L:Addr) (xs:List V),vs=[.ref m,.ref L]/\H m=some (.ins (A.C 0) dx [])/\SqL K H L xs/\∀p,H p=none->Q .non (upd (upd H p (.lst xs)) m (.ins (A.C 0) dx (oR 0 (.ref p))))
def KC (A:Adr):Sp:=λvs H Q _=>∃(t:Addr) (k:Nat) (v:V),1<=k/\k < 8/\vs=[.ref t]/\H t=some (.tup (rowOf k v))/\∀m H',aZ H H'->H m=none->(∃dx,H' m=some (.ins (A.C k) dx (oR k v)))->Q (.ref m) H'
def EN (A:Adr)(K:bo):Sp:=λvs H Q _=>∃(t L:Addr) (xs:List V),vs=[.ref t]/\H t=some (.tup [.str (nm 0),.ref L])/\SqL K H L xs /\
 ∀m p H',aZ H H'->H m=none->H p=none->H' p=some (.lst xs)->(∃dx,H' m=some (.ins (A.C 0) dx (oR 0 (.ref p))))->Q (.ref m) H'
section
variable{P:kx}{w:World}{K:bo}{mg:Str->Option Value}{base:Heap}{A:Adr}
theorem AG (T:Txt w.params K mg A):FnOk P w K mg base CX0 1 A.UG A.NH ["self"] (f6 0):=by
 refine T.Zn.ok zR (λvs H Q E h=>?_) (λcdv A' outer s H vs Q E hr h=>?_)
 ·obtain⟨m,rfl,_⟩:=h;rfl
 ·obtain⟨m,rfl,q⟩:=h;exact⟨_,(ai (aG aq)),q⟩
theorem AH (T:Txt w.params K mg A):FnOk P w K mg base CX0 1 A.UH A.NI ["self"] (f6 1):=by
 refine T.Zo.ok zS (λvs H Q E h=>?_) (λcdv A' outer s H vs Q E hr h=>?_)
 ·obtain⟨m,rfl,_⟩:=h;rfl
 ·obtain⟨m,rfl,q⟩:=h;exact⟨_,(ai (aG aq)),q⟩
theorem Dz (T:Txt w.params K mg A):FnOk P w K mg base CX0 1 A.UI A.NJ ["self"] (f6 2):=by
 refine T.Zp.ok CY (λvs H Q E h=>?_) (λcdv A' outer s H vs Q E hr h=>?_)
 ·obtain⟨m,rfl,_⟩:=h;rfl
 ·obtain⟨m,rfl,q⟩:=h;exact⟨_,(ai (aG aq)),q⟩
theorem AI (T:Txt w.params K mg A):FnOk P w K mg base CX0 1 A.UJ A.NK ["self"] (f6 3):=by
 refine T.Zq.ok zT (λvs H Q E h=>?_) (λcdv A' outer s H vs Q E hr h=>?_)
 ·obtain⟨m,rfl,_⟩:=h;rfl
 ·obtain⟨m,rfl,q⟩:=h;exact⟨_,(ai (aG aq)),q⟩
theorem Bt (T:Txt w.params K mg A):FnOk P w K mg base CX0 1 A.UK A.NL ["self"] (f6 4):=by
 refine T.Zr.ok Bl (λvs H Q E h=>?_) (λcdv A' outer s H vs Q E hr h=>?_)
 ·obtain⟨m,rfl,_⟩:=h;rfl
 ·obtain⟨m,rfl,q⟩:=h;exact⟨_,(ai (aG aq)),q⟩
theorem EO (T:Txt w.params K mg A):FnOk P w K mg base CX0 1 A.UL A.NM ["self"] (f6 5):=by
 refine T.Zs.ok Eu (λvs H Q E h=>?_) (λcdv A' outer s H vs Q E hr h=>?_)
 ·obtain⟨m,rfl,_⟩:=h;rfl
 ·obtain⟨m,rfl,q⟩:=h;exact⟨_,(ai (aG aq)),q⟩
theorem DA (T:Txt w.params K mg A):FnOk P w K mg base CX0 1 A.UM A.NN ["self"] (f6 6):=by
 refine T.Zt.ok CZ (λvs H Q E h=>?_) (λcdv A' outer s H vs Q E hr h=>?_)
 ·obtain⟨m,rfl,_⟩:=h;rfl
 ·obtain⟨m,rfl,q⟩:=h;exact⟨_,(ai (aG aq)),q⟩
theorem Bu (T:Txt w.params K mg A):FnOk P w K mg base CX0 1 A.UN A.NO ["self"] (f6 7):=by
 refine T.Zu.ok Bm (λvs H Q E h=>?_) (λcdv A' outer s H vs Q E hr h=>?_)
 ·obtain⟨m,rfl,_⟩:=h;rfl
 ·obtain⟨m,rfl,q⟩:=h;exact⟨_,(ai (aG aq)),q⟩
theorem lC (T:Txt w.params K mg A):∀k,k < 8->FnOk P w K mg base CX0 1 (A.fk k) (A.fkd k) ["self"] (f6 k)
 | 0,_=>AG T
 | 1,_=>AH T
 | 2,_=>Dz T
 | 3,_=>AI T
 | 4,_=>Bt T
 | 5,_=>EO T
 | 6,_=>DA T
 | 7,_=>Bu T
 |n+8,h=>absurd h (by omega)
theorem QI (T:Txt w.params K mg A):FnOk P w K mg base CX0 2 A.f_r A.Qy ["self"] (Oh A):=by
 have gH:∀k,k < 8->FnOk P w K mg base CX0 1 (A.fk k) (A.fkd k) ["self"] (f6 k):=lC T;refine T.F_r.ok zU (λvs H Q E h=>?_) (λcdv A' outer s H vs Q E hr h=>?_)
 ·obtain⟨m,k,dx,fs,_,rfl,_⟩:=h;rfl
 ·obtain⟨m,k,dx,fs,hk,rfl,hm,hl,q⟩:=h;obtain⟨t,ht⟩:=T.rk k hk;refine⟨_,(ai (aG (aW M9 (eP (v:=V.ref A.tab) rfl T.Dq rfl) (gi (pv 0) (T.cl k hk) (T.nD k hk) (gH k hk) hr (T.nF k hk) .nil a9) (λ_ _=>rfl)))),?_⟩
  try dsimp only[bI]
  exact⟨_,rfl,m,dx,fs,rfl,hm,hl,m,rfl,A.tab,nm k,.int k,_,rfl,rfl,T.tb,ht,⟨_,rfl⟩,q⟩
theorem wU (T:Txt w.params K mg A):FnOk P w K mg base CX0 2 A.f_t A.NQ ["self"] (Kz A):=by
 have gH:∀k,k < 8->FnOk P w K mg base CX0 1 (A.fk k) (A.fkd k) ["self"] (f6 k):=lC T;refine T.F_t.ok zW (λvs H Q E h=>?_) (λcdv A' outer s H vs Q E hr h=>?_)
 ·obtain⟨m,k,dx,fs,_,rfl,_⟩:=h;rfl
 ·obtain⟨m,k,dx,fs,hk,rfl,hm,hl,q⟩:=h;refine⟨_,(ai (aG (cZ (aa (gi (pv 0) (T.cl k hk) (T.nD k hk) (gH k hk) hr (T.nF k hk) .nil a9) ag)))),?_⟩
  try dsimp only[bI]
  exact⟨_,rfl,m,dx,fs,rfl,hm,hl,m,rfl,(sl 1),λp hp=>q p hp⟩
theorem AJ (T:Txt w.params K mg A):FnOk P w K mg base CX0 2 A.UQ A.NS ["self"] (zo A 1 "edit"):=by
 have gH:∀k,k < 8->FnOk P w K mg base CX0 1 (A.fk k) (A.fkd k) ["self"] (f6 k):=lC T;refine T.Zx.ok zY (λvs H Q E h=>?_) (λcdv A' outer s H vs Q E hr h=>?_)
 ·obtain⟨m,dx,fs,v,rfl,_⟩:=h;rfl
 ·obtain⟨m,dx,fs,v,rfl,hm,hl,hv,q⟩:=h;obtain⟨k,hk,ek⟩:∃k,k < 8/\k=1:=⟨1,by decide,rfl⟩
  have hm':H m=some (.ins (A.C k) dx fs):=by rw[ek];exact hm
  refine⟨_,(ai (aG (cZ (aa (gi (pv 0) (T.cl k hk) (T.nD k hk) (gH k hk) hr (T.nF k hk) .nil a9) (aa (bu (pv 0) rfl) ag))))),?_⟩
  try dsimp only[bI]
  subst ek;exact⟨_,rfl,m,dx,fs,rfl,hm,hl,m,rfl,_,rfl,m,A.C 1,dx,fs,v,rfl,hm,T.cl 1 hk,T.na1,hv,(sl 2),λp hp=>q p hp⟩
theorem mf (T:Txt w.params K mg A):FnOk P w K mg base CX0 1 A.UW A.NX ["self","edit"] (Dy A 1):=by
 refine T.ZD.ok Ab (λvs H Q E h=>?_) (λcdv A' outer s H vs Q E hr h=>?_)
 ·obtain⟨m,dx,v,rfl,_⟩:=h;rfl
 ·obtain⟨m,dx,v,rfl,hm,q⟩:=h;refine⟨_,(ai (eT (pv 0) (pv 1) rfl)),?_⟩
  try dsimp only[bI]
  exact⟨_,rfl,_,rfl,m,A.C 1,dx,[],rfl,hm,T.cl 1 (by decide),T.na1,by decide,q⟩
theorem DB (T:Txt w.params K mg A):FnOk P w K mg base CX0 2 A.UR A.NT ["self"] (zo A 2 "edit"):=by
 have gH:∀k,k < 8->FnOk P w K mg base CX0 1 (A.fk k) (A.fkd k) ["self"] (f6 k):=lC T;refine T.Zy.ok C0 (λvs H Q E h=>?_) (λcdv A' outer s H vs Q E hr h=>?_)
 ·obtain⟨m,dx,fs,v,rfl,_⟩:=h;rfl
 ·obtain⟨m,dx,fs,v,rfl,hm,hl,hv,q⟩:=h;obtain⟨k,hk,ek⟩:∃k,k < 8/\k=2:=⟨2,by decide,rfl⟩
  have hm':H m=some (.ins (A.C k) dx fs):=by rw[ek];exact hm
  refine⟨_,(ai (aG (cZ (aa (gi (pv 0) (T.cl k hk) (T.nD k hk) (gH k hk) hr (T.nF k hk) .nil a9) (aa (bu (pv 0) rfl) ag))))),?_⟩
  try dsimp only[bI]
  subst ek;exact⟨_,rfl,m,dx,fs,rfl,hm,hl,m,rfl,_,rfl,m,A.C 2,dx,fs,v,rfl,hm,T.cl 2 hk,T.na2,hv,(sl 2),λp hp=>q p hp⟩
theorem vk (T:Txt w.params K mg A):FnOk P w K mg base CX0 1 A.UX A.NY ["self","edit"] (Dy A 2):=by
 refine T.ZE.ok C1 (λvs H Q E h=>?_) (λcdv A' outer s H vs Q E hr h=>?_)
 ·obtain⟨m,dx,v,rfl,_⟩:=h;rfl
 ·obtain⟨m,dx,v,rfl,hm,q⟩:=h;refine⟨_,(ai (eT (pv 0) (pv 1) rfl)),?_⟩
  try dsimp only[bI]
  exact⟨_,rfl,_,rfl,m,A.C 2,dx,[],rfl,hm,T.cl 2 (by decide),T.na2,by decide,q⟩
theorem AK (T:Txt w.params K mg A):FnOk P w K mg base CX0 2 A.US A.NU ["self"] (zo A 3 "sitting"):=by
 have gH:∀k,k < 8->FnOk P w K mg base CX0 1 (A.fk k) (A.fkd k) ["self"] (f6 k):=lC T;refine T.Zz.ok zZ (λvs H Q E h=>?_) (λcdv A' outer s H vs Q E hr h=>?_)
 ·obtain⟨m,dx,fs,v,rfl,_⟩:=h;rfl
 ·obtain⟨m,dx,fs,v,rfl,hm,hl,hv,q⟩:=h;obtain⟨k,hk,ek⟩:∃k,k < 8/\k=3:=⟨3,by decide,rfl⟩
  have hm':H m=some (.ins (A.C k) dx fs):=by rw[ek];exact hm
  refine⟨_,(ai (aG (cZ (aa (gi (pv 0) (T.cl k hk) (T.nD k hk) (gH k hk) hr (T.nF k hk) .nil a9) (aa (bu (pv 0) rfl) ag))))),?_⟩
  try dsimp only[bI]
  subst ek;exact⟨_,rfl,m,dx,fs,rfl,hm,hl,m,rfl,_,rfl,m,A.C 3,dx,fs,v,rfl,hm,T.cl 3 hk,T.na3,hv,(sl 2),λp hp=>q p hp⟩
theorem rB (T:Txt w.params K mg A):FnOk P w K mg base CX0 1 A.UY A.NZ ["self","sitting"] (Dy A 3):=by
 refine T.ZF.ok Ac (λvs H Q E h=>?_) (λcdv A' outer s H vs Q E hr h=>?_)
 ·obtain⟨m,dx,v,rfl,_⟩:=h;rfl
 ·obtain⟨m,dx,v,rfl,hm,q⟩:=h;refine⟨_,(ai (eT (pv 0) (pv 1) rfl)),?_⟩
  try dsimp only[bI]
  exact⟨_,rfl,_,rfl,m,A.C 3,dx,[],rfl,hm,T.cl 3 (by decide),T.na3,by decide,q⟩
theorem Bv (T:Txt w.params K mg A):FnOk P w K mg base CX0 2 A.UT A.NV ["self"] (zo A 7 "clause"):=by
 have gH:∀k,k < 8->FnOk P w K mg base CX0 1 (A.fk k) (A.fkd k) ["self"] (f6 k):=lC T;refine T.ZA.ok Bp (λvs H Q E h=>?_) (λcdv A' outer s H vs Q E hr h=>?_)
 ·obtain⟨m,dx,fs,v,rfl,_⟩:=h;rfl
 ·obtain⟨m,dx,fs,v,rfl,hm,hl,hv,q⟩:=h;obtain⟨k,hk,ek⟩:∃k,k < 8/\k=7:=⟨7,by decide,rfl⟩
  have hm':H m=some (.ins (A.C k) dx fs):=by rw[ek];exact hm
  refine⟨_,(ai (aG (cZ (aa (gi (pv 0) (T.cl k hk) (T.nD k hk) (gH k hk) hr (T.nF k hk) .nil a9) (aa (bu (pv 0) rfl) ag))))),?_⟩
  try dsimp only[bI]
  subst ek;exact⟨_,rfl,m,dx,fs,rfl,hm,hl,m,rfl,_,rfl,m,A.C 7,dx,fs,v,rfl,hm,T.cl 7 hk,T.na7,hv,(sl 2),λp hp=>q p hp⟩
theorem tD (T:Txt w.params K mg A):FnOk P w K mg base CX0 1 A.UZ A.N0 ["self","clause"] (Dy A 7):=by
 refine T.ZG.ok Bq (λvs H Q E h=>?_) (λcdv A' outer s H vs Q E hr h=>?_)
 ·obtain⟨m,dx,v,rfl,_⟩:=h;rfl
 ·obtain⟨m,dx,v,rfl,hm,q⟩:=h;refine⟨_,(ai (eT (pv 0) (pv 1) rfl)),?_⟩
  try dsimp only[bI]
  exact⟨_,rfl,_,rfl,m,A.C 7,dx,[],rfl,hm,T.cl 7 (by decide),T.na7,by decide,q⟩
theorem Oi {k:Nat}{f:Addr}{fd:kf}{ps:List Str}{sp:Sp}(h:∀vs H Q E,¬sp vs H Q E):FnOk P w K mg base CX0 k f fd ps sp :=
 ⟨λvs H Q E z=>(h vs H Q E z).elim,λ_ _ _ H _ _ vs Q E _ _ _ _ z=>(h vs H Q E z).elim⟩
theorem uc {k:Nat}(hk:k=4\/k=5\/k=6):∀vs H Q E,Iu A k vs H Q E->Kz A vs H Q E:=λvs H Q E ⟨_,m,dx,v,e,hm,q⟩ =>
 ⟨m,k,dx,oR k v,by omega,e,hm,lB k v,λp hp=>by
  have:=q p hp;rcases hk with rfl | rfl | rfl <;> exact this⟩
theorem pZ (T:Txt w.params K mg A):∀k,k < 8->FnOk P w K mg base CX0 2 (A.ft k) (A.ftd k) ["self"] (Iu A k)
 | 0,_=>Oi λvs H Q E h=>absurd h.1 (by decide)
 | 1,_=>(AJ T).imp λvs H Q E ⟨_,m,dx,v,e,hm,q⟩=>⟨m,dx,_,v,e,hm,lB 1 v,rfl,q⟩
 | 2,_=>(DB T).imp λvs H Q E ⟨_,m,dx,v,e,hm,q⟩=>⟨m,dx,_,v,e,hm,lB 2 v,rfl,q⟩
 | 3,_=>(AK T).imp λvs H Q E ⟨_,m,dx,v,e,hm,q⟩=>⟨m,dx,_,v,e,hm,lB 3 v,rfl,q⟩
 | 4,_=>(wU T).imp (uc (.inl rfl))
 | 5,_=>(wU T).imp (uc (.inr (.inl rfl)))
 | 6,_=>(wU T).imp (uc (.inr (.inr rfl)))
 | 7,_=>(Bv T).imp λvs H Q E ⟨_,m,dx,v,e,hm,q⟩=>⟨m,dx,_,v,e,hm,lB 7 v,rfl,q⟩
 |n+8,h=>absurd h (by omega)
theorem AL (T:Txt w.params K mg A):FnOk P w K mg base CX0 1 A.UU A.NW ["self","text"] (QH A K):=by
 refine T.ZC.ok Aa (λvs H Q E h=>?_) (λcdv A' outer s H vs Q E hr h=>?_)
 ·obtain⟨m,dx,L,xs,rfl,_⟩:=h;rfl
 ·obtain⟨m,dx,L,xs,rfl,hm,hL,q⟩:=h;refine⟨_,(ai (eT (pv 0) (dv et (by rfl) T.pX mT (aa (pv 1) ag)) rfl)),?_⟩
  try dsimp only[bI]
  refine⟨_,rfl,L,xs,rfl,.inl hL,λp hp=>?_⟩
  have nmp:m≠p:=aC hm hp;exact⟨_,rfl,m,A.C 0,dx,[],rfl,(av nmp).trans hm,T.cl 0 (by decide),T.na0,by decide,q p hp⟩
theorem Oj (T:Txt w.params K mg A):FnOk P w K mg base CX0 2 A.UP A.NR ["self"] (KA A K):=by
 have gH:∀k,k < 8->FnOk P w K mg base CX0 1 (A.fk k) (A.fkd k) ["self"] (f6 k):=lC T;refine T.Zw.ok zX (λvs H Q E h=>?_) (λcdv A' outer s H vs Q E hr h=>?_)
 ·obtain⟨m,dx,L,xs,rfl,_⟩:=h;rfl
 ·obtain⟨m,dx,L,xs,rfl,hm,hL,q⟩:=h;obtain⟨k,hk,ek⟩:∃k,k < 8/\k=0:=⟨0,by decide,rfl⟩
  refine⟨_,(ai (aG (cZ (aa (gi (pv 0) (T.cl k hk) (T.nD k hk) (gH k hk) hr (T.nF k hk) .nil a9) (aa (dv et (by rfl) T.pX mT (aa (bu (pv 0) rfl) ag)) ag))))),?_⟩
  try dsimp only[bI]
  subst ek;refine⟨_,rfl,m,dx,_,rfl,hm,lB 0 _,m,rfl,_,rfl,m,A.C 0,dx,_,_,rfl,hm,T.cl 0 hk,T.na0,rfl,L,xs,rfl,.inl hL,λp hp=>⟨(sl 2),λq' hq'=>?_⟩⟩
  have npq:p≠q':=aC ae hq';have hq:H q'=none:=by rw[av (aiD npq)]at hq';exact hq'
  exact q p q' hp hq npq
theorem DC (T:Txt w.params K mg A):FnOk P w K mg base CX0 3 A.oK A.iT ["told"] (KC A):=by
 refine T.m6.ok lb (λvs H Q E h=>?_) (λcdv A' outer s H vs Q E hr h=>?_)
 ·obtain⟨t,k,v,_,_,rfl,_⟩:=h;rfl
 ·obtain⟨t,k,v,h1,h8,rfl,ht,q⟩:=h;have i9:=hr;refine⟨_,(ao (bg (i:=1) lb.nd rfl (aiF rfl) (aW bE (pv 0) aj (λ_ _=>rfl)))
 (ao (bX (aO bD (pv 1) aq (aJ _))
 (ai (aG (f9 T.vg (AL T) i9 rfl T.ve T.Qz .nil a9 (aa (aW bE (pv 0) aj (λ_ _=>rfl)) ag))))
 aN)
 (ao (bX (aO bD (pv 1) aq (aJ _))
 (ai (aG (f9 T.vh (mf T) i9 rfl T.vf T.QA .nil a9 (aa (aW bE (pv 0) aj (λ_ _=>rfl)) ag))))
 aN)
 (ao (bX (aO bD (pv 1) aq (aJ _))
 (ai (aG (f9 T.Il (vk T) i9 rfl T.Ii T.U0 .nil a9 (aa (aW bE (pv 0) aj (λ_ _=>rfl)) ag))))
 aN)
 (ao (bX (aO bD (pv 1) aq (aJ _))
 (ai (aG (f9 T.Ay (rB T) i9 rfl T.Ax T.U4 .nil a9 (aa (aW bE (pv 0) aj (λ_ _=>rfl)) ag))))
 aN)
 (ao (bX (aO bD (pv 1) aq (aJ _))
 (ai (aG (oo (T.mkn 4 (by decide)) rfl T.Dm)))
 aN)
 (ao (bX (aO bD (pv 1) aq (aJ _))
 (ai (aG (oo (T.mkn 5 (by decide)) rfl T.N6)))
 aN)
 (ao (bX (aO bD (pv 1) aq (aJ _))
 (ai (aG (oo (T.mkn 6 (by decide)) rfl T.Ik)))
 aN)
 (ai (aG (f9 T.Dr (tD T) i9 rfl T.Dp T.U5 .nil a9 (aa (aW bE (pv 0) aj (λ_ _=>rfl)) ag)))))))))))),?_⟩
  try dsimp only[bI]
  have h0:atI (rowOf k v) 0=some (.str (nm k)):=by
   have hk:k=1\/k=2\/k=3\/k=4\/k=5\/k=6\/k=7:=by omega
   rcases hk with rfl | rfl | rfl | rfl | rfl | rfl | rfl <;> rfl
  refine ixv rfl (SqT.of ht) h0 ?_;have hk:k=1\/k=2\/k=3\/k=4\/k=5\/k=6\/k=7:=by omega
  rcases hk with rfl | rfl | rfl | rfl | rfl | rfl | rfl
  ·refine⟨_,rfl,rfl,tsf (by trivial) ⟨_,rfl,rfl,tst (by trivial) ?_⟩⟩
   exact⟨_,rfl,t,_,_,v,rfl,rfl,SqT.of ht,rfl,λm dx nm ndx ne=>⟨m,dx,v,rfl,ae,rfl,q m _ ((((aZ.refl H).own ndx).own nm).own nm) nm ⟨dx,ae⟩⟩⟩
  ·refine⟨_,rfl,rfl,tsf (by trivial) ⟨_,rfl,rfl,tsf (by trivial) ⟨_,rfl,rfl,tst (by trivial) ?_⟩⟩⟩
   exact⟨_,rfl,t,_,_,v,rfl,rfl,SqT.of ht,rfl,λm dx nm ndx ne=>⟨m,dx,v,rfl,ae,rfl,q m _ ((((aZ.refl H).own ndx).own nm).own nm) nm ⟨dx,ae⟩⟩⟩
  ·refine⟨_,rfl,rfl,tsf (by trivial) ⟨_,rfl,rfl,tsf (by trivial) ⟨_,rfl,rfl,tsf (by trivial) ⟨_,rfl,rfl,tst (by trivial) ?_⟩⟩⟩⟩
   exact⟨_,rfl,t,_,_,v,rfl,rfl,SqT.of ht,rfl,λm dx nm ndx ne=>⟨m,dx,v,rfl,ae,rfl,q m _ ((((aZ.refl H).own ndx).own nm).own nm) nm ⟨dx,ae⟩⟩⟩
  ·refine⟨_,rfl,rfl,tsf (by trivial) ⟨_,rfl,rfl,tsf (by trivial) ⟨_,rfl,rfl,tsf (by trivial) ⟨_,rfl,rfl,tsf (by trivial) ⟨_,rfl,rfl,tst (by trivial) ?_⟩⟩⟩⟩⟩
   exactλm dx nm ndx ne=>q m _ (((aZ.refl H).own ndx).own nm) nm ⟨dx,ae⟩
  ·refine⟨_,rfl,rfl,tsf (by trivial) ⟨_,rfl,rfl,tsf (by trivial) ⟨_,rfl,rfl,tsf (by trivial) ⟨_,rfl,rfl,tsf (by trivial) ⟨_,rfl,rfl,tsf (by trivial) ⟨_,rfl,rfl,tst (by trivial) ?_⟩⟩⟩⟩⟩⟩
   exactλm dx nm ndx ne=>q m _ (((aZ.refl H).own ndx).own nm) nm ⟨dx,ae⟩
  ·refine⟨_,rfl,rfl,tsf (by trivial) ⟨_,rfl,rfl,tsf (by trivial) ⟨_,rfl,rfl,tsf (by trivial) ⟨_,rfl,rfl,tsf (by trivial) ⟨_,rfl,rfl,tsf (by trivial) ⟨_,rfl,rfl,tsf (by trivial) ⟨_,rfl,rfl,tst (by trivial) ?_⟩⟩⟩⟩⟩⟩⟩
   exactλm dx nm ndx ne=>q m _ (((aZ.refl H).own ndx).own nm) nm ⟨dx,ae⟩
  ·refine⟨_,rfl,rfl,tsf (by trivial) ⟨_,rfl,rfl,tsf (by trivial) ⟨_,rfl,rfl,tsf (by trivial) ⟨_,rfl,rfl,tsf (by trivial) ⟨_,rfl,rfl,tsf (by trivial) ⟨_,rfl,rfl,tsf (by trivial) ⟨_,rfl,rfl,tsf (by trivial) ?_⟩⟩⟩⟩⟩⟩⟩
   exact⟨_,rfl,t,_,_,v,rfl,rfl,SqT.of ht,rfl,λm dx nm ndx ne=>⟨m,dx,v,rfl,ae,rfl,q m _ ((((aZ.refl H).own ndx).own nm).own nm) nm ⟨dx,ae⟩⟩⟩
theorem Bw (T:Txt w.params K mg A):FnOk P w K mg base CX0 3 A.oK A.iT ["told"] (EN A K):=by
 refine T.m6.ok lb (λvs H Q E h=>?_) (λcdv A' outer s H vs Q E hr h=>?_)
 ·obtain⟨t,L,xs,rfl,_⟩:=h;rfl
 ·obtain⟨t,L,xs,rfl,ht,hL,q⟩:=h;have i9:=hr;refine⟨_,(ao (bg (i:=1) lb.nd rfl (aiF rfl) (aW bE (pv 0) aj (λ_ _=>rfl)))
 (ao (bX (aO bD (pv 1) aq (aJ _))
 (ai (aG (f9 T.vg (AL T) i9 rfl T.ve T.Qz .nil a9 (aa (aW bE (pv 0) aj (λ_ _=>rfl)) ag))))
 aN)
 (ao (bX (aO bD (pv 1) aq (aJ _))
 (ai (aG (f9 T.vh (mf T) i9 rfl T.vf T.QA .nil a9 (aa (aW bE (pv 0) aj (λ_ _=>rfl)) ag))))
 aN)
 (ao (bX (aO bD (pv 1) aq (aJ _))
 (ai (aG (f9 T.Il (vk T) i9 rfl T.Ii T.U0 .nil a9 (aa (aW bE (pv 0) aj (λ_ _=>rfl)) ag))))
 aN)
 (ao (bX (aO bD (pv 1) aq (aJ _))
 (ai (aG (f9 T.Ay (rB T) i9 rfl T.Ax T.U4 .nil a9 (aa (aW bE (pv 0) aj (λ_ _=>rfl)) ag))))
 aN)
 (ao (bX (aO bD (pv 1) aq (aJ _))
 (ai (aG (oo (T.mkn 4 (by decide)) rfl T.Dm)))
 aN)
 (ao (bX (aO bD (pv 1) aq (aJ _))
 (ai (aG (oo (T.mkn 5 (by decide)) rfl T.N6)))
 aN)
 (ao (bX (aO bD (pv 1) aq (aJ _))
 (ai (aG (oo (T.mkn 6 (by decide)) rfl T.Ik)))
 aN)
 (ai (aG (f9 T.Dr (tD T) i9 rfl T.Dp T.U5 .nil a9 (aa (aW bE (pv 0) aj (λ_ _=>rfl)) ag)))))))))))),?_⟩
  try dsimp only[bI]
  refine ixv rfl (SqT.of ht) rfl ?_;refine⟨_,rfl,rfl,tst (by trivial) ?_⟩
  refine⟨_,rfl,t,_,_,.ref L,rfl,rfl,SqT.of ht,rfl,λm dx nm ndx ne=>⟨m,dx,L,xs,rfl,ae,(((aZ.refl H).own ndx).own nm).seq hL,λp hp=>⟨rfl,?_⟩⟩⟩
  have s1:aZ H (upd (upd H dx (.own m)) m (.ins (A.C 0) dx [])):=((aZ.refl H).own ndx).own nm;have npm:p≠m:=λz=>by rw[z,ae]at hp;cases hp
  exact q m p _ ((s1.new hp).own nm) nm (s1.free hp) ((av npm).trans ae) ⟨dx,ae⟩
end
abbrev Ol:Str:=ar "more"
def tE (n:Str)(a b:Int):Bool:=if a<=b then false else (decide (n=Ol) || decide (2 * b<=a))
def U9:Sp:=λvs H Q _=>∃(n:Str) (a b:Int),vs=[.str n,.int a,.int b]/\Q (.bl (tE n a b)) H
section
variable{P:kx}{w:World}{K:bo}{mg:Str->Option Value}{base:Heap}{A:Adr}
theorem Iv (T:Txt w.params K mg A):FnOk P w K mg base CX0 1 A.De A.tZ ["need","ayes","noes"] U9:=by
 refine T.wH.ok HX (λvs H Q E h=>?_) (λcdv A' outer s H vs Q E hr h=>?_)
 ·obtain⟨n,a,b,rfl,_⟩:=h;rfl
 ·obtain⟨n,a,b,rfl,q⟩:=h;refine⟨_,(ao (bX (aO xn (pv 1) (pv 2) (aJ _))
 (ai (aG oh))
 aN)
 (ai (aG (MJ (cF bD (pv 0) aq (aJ _)) (lO (cF R3 (pv 1) (bP Ht aj (pv 2)) (aJ _))))))),?_⟩
  try dsimp only[bI]
  refine⟨_,rfl,_,rfl,_,_,rfl,rfl,_,rfl,gU (λe=>?_) (λe=>?_)⟩
  ·have e':a<=b:=of_decide_eq_true e;rw[tE,if_pos e']at q;exact q
  ·have e':¬a<=b:=λz=>e (decide_eq_true z)
   rw[tE,if_neg e']at q;refine⟨_,rfl,rfl,_,rfl,gU (λe2=>?_) (λe2=>?_)⟩
   ·have h2:n=Ol:=by injection of_decide_eq_true e2
    rw[decide_eq_true h2,Bool.true_or]at q;exact q
   ·have h2:¬n=Ol:=λz=>e2 (decide_eq_true (by rw[z]))
    rw[decide_eq_false h2,Bool.false_or]at q;exact⟨_,rfl,_,rfl,_,_,rfl,rfl,.inl ⟨by decide,by decide⟩,_,_,rfl,rfl,q⟩
end
namespace R
abbrev bl1:Str:=ar " "
abbrev em:Str:=ar ""
theorem jt:bl1=⟨#[32]⟩:=by trivial
theorem ER:em=⟨#[]⟩:=by trivial
abbrev sg:Str:=ar "!\"#$&'()*+,-./0123456789:;<=>?@ABCDEFGHIJKLMNOPQRSTUVWXYZ[\\]^_`abcdefghijklmnopqrstuvwxyz{|}~"
def Sign (c:Nat):Prop:=33<=c/\c<=126/\c≠37
instance:DecidablePred Sign:=λc=>by unfold Sign;exact inferInstance
structure p0 (x:Str):Prop where
 l1:1<=x.length
 l2:x.length<=20
 sgn:∀c∈x.cps.toList,Sign c
 ns:x≠ar "/"
def Asc (x:Str):Prop:=∀c∈x.cps.toList,c < 128
theorem Asc.ok {x:Str}(h:Asc x):aiZ x=true:=by
 unfold aiZ;rw[Array.all_eq_true];intro i hi;have:=h x.cps[i] (by simp)
 exact decide_eq_true (by omega)
theorem p0.asc {x:Str}(w:p0 x):Asc x:=λc hc=>by have:=w.sgn c hc;unfold Sign at this;omega
theorem l9 {sep:Str}(hs:Asc sep):∀ws:List Str,(∀w∈ws,Asc w)->Asc (km sep ws)
 |[],_=>λc hc=>by
  have:c∈([]:List Nat):=hc;cases this
 |[x],h=>h x kb
 |x::y::r,h=>λc hc=>by
  have hc':c∈((x++sep)++km sep (y::r)).cps.toList:=hc;rw[dU,dU,akb,akb]at hc';rcases hc' with (h1 | h1) | h1
  ·exact h x kb c h1
  ·exact hs c h1
  ·exact l9 hs (y::r) (λw hw=>h w (kj _ hw)) c h1
theorem p6 (x:Str):x.cps.toList.length=x.length:=by simp[Str.length]
abbrev ZI:List Str:=[ar "-",ar "put",ar "/a",ar "0",ar "off",ar "//",ar "matter",ar "a"]
theorem ES {x:Str}(h:decide (1<=x.length/\x.length<=20/\(∀c∈x.cps.toList,Sign c)/\x≠ar "/")=true):p0 x:=by
 obtain⟨a,b,c,d⟩:=of_decide_eq_true h;exact⟨a,b,c,d⟩
theorem Va:∀x∈ZI,p0 x:=by
 intro x hx;simp only[ajE,ajk,or_false]at hx;rcases hx with rfl | rfl | rfl | rfl | rfl | rfl | rfl | rfl <;> exact ES (by trivial)
structure Clause (n:Nat)(x:Str)(ws:List Str):Prop where
 eq:x=km bl1 ws
 len:ws.length<=n
 wd:∀w∈ws,p0 w
theorem Clause.asc {n:Nat}{x:Str}{ws:List Str}(c:Clause n x ws):Asc x:=by
 rw[c.eq];exact l9 (by rw[jt];intro d hd;have:d=32:=(by simpa using hd);omega) ws λw hw=>(c.wd w hw).asc
theorem KD {ws:List Str}(h:∀w∈ws,p0 w):(ws.map (·.length)).sum<=ws.length * 20:=StrLaws.sumLen_le ws λw hw=>(h w hw).l2
theorem Clause.size {n:Nat}{x:Str}{ws:List Str}(c:Clause n x ws):x.length<=n * 21:=by
 rw[c.eq,jt];have h1:=oi 32 ws;have h2:=KD c.wd;have h3:=c.len;omega
def Om:Sp:=λvs H Q _=>∃(c n:Int),vs=[.int c,.int n]/\0<=n/\n<=1000 /\
 ∀(zs:List Int) (p:Addr) (H':Hp),(zs.length:Int)=n->(∀z∈zs,0<=z/\z < 4294967311)->aZ H H'->H p=none->H' p=some (.lst (zs.map V.int))->Q (.ref p) H'
abbrev sl1:Str:=ar "/"
def num (i:Int):Str:=ar (toString i)
theorem DD {i:Int}(h0:0<=i)(h1:i < 10 ^ 10):(num i).length<=10:=PyProof.Rows.toString_length_le h0 (by decide) h1
theorem KG {i:Int}(h0:0<=i)(h1:i < 10 ^ 10):i.natAbs.log2 < 1920:=by
 have h:i.natAbs < 2 ^ 34:=by
  have:(10:Int) ^ 10<=2 ^ 34:=by decide
  omega
 by_cases hz:i.natAbs=0
 ·rw[hz];decide
 ·exact Nat.lt_trans ((Nat.log2_lt hz).mpr h) (by decide)
def bS (z:Str):List Str:=if z=em then [] else PySem.Txt.split z bl1
theorem p0.free {x:Str}(w:p0 x):32∉x.cps.toList:=λz=>by have:=w.sgn _ z;unfold Sign at this;omega
theorem lD {ws:List Str}(h:∀w∈ws,p0 w):bS (km bl1 ws)=ws:=by
 cases ws with
 |nil=>exact if_pos (by rw[ER];rfl)
 |cons x r =>
  have l:=Bi (c:=32) (aiO x r) λw hw=>(h w hw).l1
  have ne:¬km bl1 (x::r)=em:=λe=>by
   rw[jt]at e;rw[e,ER]at l;exact absurd l (by decide)
  unfold bS;rw[if_neg ne,jt];exact zI (aiO x r) λw hw=>(h w hw).free
inductive bT where
 |mat (cs:List (List Str))
 |ed (m:Bool) (k:Nat) (i:Int) (ws:List Str)
 |pt (ws:List Str)
 |nums (kd:Str) (ns:List Int)
def kEd (m:Bool):Str:=if m then ar "mend" else ar "change"
def kn:Nat->Str
 | 0=>ar "put"
 | 1=>ar "cut"
 |_=>ar "turn"
def edR (k:Nat)(i:Int)(x:Str):List V:=if k=1 then [.str (kn 1),.int i] else [.str (kn k),.int i,.str x]
def dJ:List (Str×Nat):=[(ar "put off",1),(ar "vote",2),(ar "take",1),(ar "close",0),(ar "lay",0),(ar "rest",0),(ar "drop",0)]
structure g9 (n:Nat)(ws:List Str):Prop where
 len:ws.length<=n
 wd:∀w∈ws,p0 w
def DOk:bT->Prop
 | .mat cs=>cs.length<=12/\∀ws∈cs,g9 12 ws
 | .ed m k i ws=>(k=0\/k=1\/k=2)/\(0<=i/\i < 10 ^ 10)/\g9 12 ws/\(m=true->ws.length=1)
 | .pt ws=>g9 12 ws
 | .nums kd ns=>(kd,ns.length)∈dJ/\∀i∈ns,0<=i/\i < 10 ^ 10
def p7 (K:bo)(H:Hp):bT->Addr->Prop
 | .mat cs,t=>∃L,SqT K H t [.str (ar "matter"),.ref L]/\SqL K H L ((cs.map (km bl1)).map V.str)
 | .ed m k i ws,t=>∃e,SqT K H t [.str (kEd m),.ref e]/\SqT K H e (edR k i (km bl1 ws))
 | .pt ws,t=>SqT K H t [.str (ar "point"),.str (km bl1 ws)]
 | .nums kd ns,t=>SqT K H t (.str kd::ns.map V.int)
theorem p7.same {K:bo}{H H':Hp}(s:aZ H H'):∀ {d:bT} {t:Addr},p7 K H d t->p7 K H' d t
 | .mat _,_,⟨L,a,b⟩=>⟨L,eA s a,s.seq b⟩
 | .ed _ _ _ _,_,⟨e,a,b⟩=>⟨e,eA s a,eA s b⟩
 | .pt _,_,a=>eA s a
 | .nums _ _,_,a=>eA s a
def nh:bT->Str
 | .mat _=>ar "matter"
 | .ed m _ _ _=>kEd m
 | .pt _=>ar "point"
 | .nums kd _=>kd
def fw:bT->List Str
 | .mat cs=>cs.flatMap λws=>sl1::ws
 | .ed _ k i ws=>kn k::num i::(if k=1 then [] else ws)
 | .pt ws=>ws
 | .nums _ ns=>ns.map num
def cz (d:bT):Str:=km bl1 (nh d::fw d)
theorem Vb (k:Nat):(kn k).length<=4:=by
 unfold kn;split <;> trivial
theorem QJ (m:Bool):(kEd m).length<=6:=by cases m <;> trivial
theorem kd_len {kd:Str}{n:Nat}(h:(kd,n)∈dJ):kd.length<=7/\n<=2:=by
 simp only[dJ,ajE,ajk,or_false,ake]at h;rcases h with ⟨rfl,rfl⟩ | ⟨rfl,rfl⟩ | ⟨rfl,rfl⟩ | ⟨rfl,rfl⟩ | ⟨rfl,rfl⟩ | ⟨rfl,rfl⟩ | ⟨rfl,rfl⟩ <;> trivial
theorem wV {d:bT}(o:DOk d):(fw d).length<=200/\(∀w∈fw d,w.length<=20)/\(nh d).length<=20:=by
 cases d with
 |mat cs =>
  obtain⟨o1,o2⟩:=o;refine⟨?_,λw hw=>?_,by show (ar "matter").length<=20;trivial⟩
  ·show (cs.flatMap λws=>sl1::ws).length<=200
   have:∀l:List (List Str),(∀ws∈l,g9 12 ws)->(l.flatMap λws=>sl1::ws).length<=l.length * 13:=λl=>by
    induction l with
    |nil=>intro _;exact ko _
    |cons x l ih =>
     intro h;have h1:=(h x kb).len;have h2:=ih λw hw=>h w (kj _ hw)
     rw[List.flatMap_cons,ki,ku,ku];omega
   have:=this cs o2;omega
  ·obtain⟨ws,h1,h2⟩:=List.mem_flatMap.mp hw;rcases List.mem_cons.mp h2 with rfl | h2
   ·trivial
   ·exact((o2 ws h1).wd w h2).l2
 |ed m k i ws =>
  obtain⟨o1,⟨i0,i1⟩,o3,_⟩:=o;have l:=o3.len;refine⟨?_,λw hw=>?_,?_⟩
  ·show (kn k::num i::(if k=1 then [] else ws)).length<=200
   split <;> simp <;> omega
  ·have hw':w∈kn k::num i::(if k=1 then [] else ws):=hw
   rcases List.mem_cons.mp hw' with rfl | hw'
   ·have:=Vb k;omega
   ·rcases List.mem_cons.mp hw' with rfl | hw'
    ·have:=DD i0 i1;omega
    ·split at hw'
     ·cases hw'
     ·exact(o3.wd w hw').l2
  ·have:=QJ m;show (kEd m).length<=20;omega
 |pt ws=>exact⟨by have:=o.len;show ws.length<=200;omega,λw hw=>(o.wd w hw).l2,by show (ar "point").length<=20;trivial⟩
 |nums kd ns =>
  obtain⟨o1,o2⟩:=o;have:=kd_len o1;refine⟨by show (ns.map num).length<=200;rw[da];omega,λw hw=>?_,by show kd.length<=20;omega⟩
  obtain⟨i,hi,rfl⟩:=List.mem_map.mp hw;have:=DD (o2 i hi).1 (o2 i hi).2;omega
def sT:Sp:=λvs H Q _=>∃z,vs=[.str z]/\z.length+2<=gc/\∀p,H p=none->Q (.ref p) (upd H p (.lst ((bS z).map V.str)))
def ud (K:bo):Sp:=λvs H Q _=>∃a ws,vs=[.ref a]/\SqL K H a (ws.map V.str)/\(ws.map (·.length)).sum+ws.length<=16777216/\Q (.str (km bl1 ws)) H
def Vc (K:bo):Sp:=λvs H Q _=>∃(L:Addr) (cs:List (List Str)),vs=[.ref L]/\SqL K H L ((cs.map (km bl1)).map V.str)/\DOk (.mat cs)/\∀p H',aZ H H'->H p=none->H' p=some (.lst ((fw (.mat cs)).map V.str))->Q (.ref p) H'
def QK (K:bo):Sp:=λvs H Q _=>∃(t:Addr) (m:Bool) (k:Nat) (i:Int) (ws:List Str),vs=[.ref t]/\SqT K H t (edR k i (km bl1 ws))/\DOk (.ed m k i ws)/\∀p H',aZ H H'->H p=none->H' p=some (.lst ((fw (.ed m k i ws)).map V.str))->Q (.ref p) H'
def Oo (K:bo):Sp:=λvs H Q _=>∃(t:Addr) (d:bT),vs=[.ref t]/\p7 K H d t/\DOk d/\∀p H',aZ H H'->H p=none->H' p=some (.lst ((fw d).map V.str))->Q (.ref p) H'
def DE (K:bo):Sp:=λvs H Q _=>∃(t:Addr) (d:bT),vs=[.ref t]/\p7 K H d t/\DOk d/\∀H',aZ H H'->Q (.str (cz d)) H'
theorem wR {k:Nat}(h:k=0\/k=1\/k=2):(V.str (kn k)=V.str (ar "cut"))↔k=1:=by
 rcases h with rfl | rfl | rfl <;> trivial
theorem DF (k:Nat)(i:Int)(x:Str):atI (edR k i x) 0=some (.str (kn k)):=by
 unfold edR;split
 ·rename_i h;rw[h];rfl
 ·rfl
theorem QL (k:Nat)(i:Int)(x:Str):atI (edR k i x) 1=some (.int i):=by
 unfold edR;split <;> rfl
theorem QM {k:Nat}(h:k≠1)(i:Int)(x:Str):atI (edR k i x) 2=some (.str x):=by
 unfold edR;rw[if_neg h];rfl
theorem ue {ws:List Str}(o:g9 12 ws):(km bl1 ws).length<=300:=by
 have h1:=oi 32 ws;have h2:=KD o.wd;have h3:=o.len;rw[jt];omega
theorem ZJ {kd:Str}{n:Nat}(h:(kd,n)∈dJ):V.str kd≠V.str (ar "matter")/\V.str kd≠V.str (ar "change")/\V.str kd≠V.str (ar "mend")/\V.str kd≠V.str (ar "point"):=by
 simp only[dJ,ajE,ajk,or_false,ake]at h;rcases h with ⟨rfl,rfl⟩ | ⟨rfl,rfl⟩ | ⟨rfl,rfl⟩ | ⟨rfl,rfl⟩ | ⟨rfl,rfl⟩ | ⟨rfl,rfl⟩ | ⟨rfl,rfl⟩ <;> trivial
section
variable{K:bo}
theorem p7.at0 {H:Hp}{d:bT}{t:Addr}(h:p7 K H d t):∃xs,SqT K H t xs/\atI xs 0=some (.str (nh d)):=by
 cases d with
 |mat cs=>obtain⟨L,a,b⟩:=h;exact⟨_,a,rfl⟩
 |ed m k i ws=>obtain⟨e,a,b⟩:=h;exact⟨_,a,rfl⟩
 |pt ws=>exact⟨_,h,rfl⟩
 |nums kd ns=>exact⟨_,h,sA (j:=0) rfl⟩
end
section
variable{P:kx}{w:World}{K:bo}{mg:Str->Option Value}{base:Heap}{A:Adr}
theorem p8 (T:Txt w.params K mg A):FnOk P w K mg base CX0 1 A.oJ A.iS ["words"] (ud K):=by
 refine T.jS.ok C3 (λvs H Q E h=>?_) (λcdv A' outer s H vs Q E hr h=>?_)
 ·obtain⟨a,ws,rfl,_⟩:=h;rfl
 ·obtain⟨a,ws,rfl,hq,hz,k⟩:=h;refine⟨_,(ai (aG (iP PySem.F.plainAttrs_str PySem.F.slot_str_join PySem.F.type_str_join Qk aq (aa (pv 0) ag)))),?_⟩
  try dsimp only[bI]
  exact⟨rfl,_,rfl,bl1,a,ws,rfl,rfl,hq,by rw[jt];show _+ws.length * 1<=_;omega,k⟩
theorem jU (T:Txt w.params K mg A):FnOk P w K mg base CX0 1 A.words_of A.iJ ["clause"] sT:=by
 refine T.il.ok Ew (λvs H Q E h=>?_) (λcdv A' outer s H vs Q E hr h=>?_)
 ·obtain⟨z,rfl,_⟩:=h;rfl
 ·obtain⟨z,rfl,hz,k⟩:=h;refine⟨_,(ao (bX (aO bD (pv 0) aq (aJ _))
 (ai (aG (dS ag)))
 aN)
 (ai (aG (iP PySem.F.plainAttrs_str PySem.F.slot_str_split PySem.F.type_str_split Eg (pv 0) (aa aq ag))))),?_⟩
  try dsimp only[bI]
  refine⟨_,rfl,rfl,_,rfl,gU (λe=>?_) (λe=>?_)⟩
  ·have e':z=em:=by injection of_decide_eq_true e
   refine⟨aiW _,λp hp=>?_⟩
   have:=k p hp;rw[bS,if_pos e']at this;exact this
  ·have e':¬z=em:=λq=>e (decide_eq_true (by rw[q]))
   refine⟨_,rfl,rfl,z,bl1,rfl,rfl,by rw[jt];rfl,hz,λp hp=>?_⟩
   have:=k p hp;rw[bS,if_neg e']at this;exact this
theorem wW (T:Txt w.params K mg A):FnOk P w K mg base CX0 2 A.nA A.jn ["text"] (Vc K):=by
 refine T.kK.ok ji (λvs H Q E h=>?_) (λcdv A' outer s H vs Q E hr h=>?_)
 ·obtain⟨L,cs,rfl,_⟩:=h;rfl
 ·obtain⟨L,cs,rfl,hL,o,k⟩:=h;refine⟨_,(ao (bg (i:=1) ji.nd rfl (aiF rfl) (dS ag))
 (ao (Hr PassesOwn.never rfl (pG (pv 0)) (pF (i:=2) ji.nd rfl (aiF rfl))
 (ao (bY (iP adm aiQ aiR d6 (pv 1) (aa aq ag)))
 (ai (bY (iP adm PySem.F.slot_list_extend PySem.F.type_list_extend BQ (pv 1) (aa (bw (jU T) hr rfl T.jr T.il.kp T.jq .nil a9 (aa (pv 2) ag)) ag))))))
 (ai (aG (pv 1))))),?_⟩
  try dsimp only[bI]
  have lim:gc=16777216:=by decide
  refine⟨aiW _,λW hW=>?_⟩
  refine⟨_,rfl,L,rfl,⟨_,(aI hW).seq hL⟩,?_⟩;refine zz (K:=K) (a:=L) (xs:=(cs.map (km bl1)).map V.str) (λi σ H2=>∃v2:Option V,σ=[some (.ref L),some (.ref W),v2]/\aZ H H2/\H2 W=some (.lst ((fw (.mat (cs.take i))).map V.str)))
   ⟨_,rfl,aI hW,ae⟩ (λi σ H2 _ ⟨_,_,s2,_⟩=>s2.seq hL) ?_ ?_
  ·rintro i y σ H2 hi ⟨v2,rfl,s2,h2⟩;rw[aiY,aiY]at hi;cases hc:cs[i]? with
   |none=>rw[hc]at hi;cases hi
   |some ws =>
    rw[hc]at hi;obtain rfl:V.str (km bl1 ws)=y:=aix hi;have ow:=o.2 ws (aiK hc);have hcl:=ue ow;have hil:i < cs.length:=(List.getElem?_eq_some_iff.mp hc).1;have hb:(fw (.mat (cs.take i))).length<=200:=(wV (d:=.mat (cs.take i)) ⟨by rw[ai4];have:=o.1;omega,λws hw=>o.2 ws (ajG hw)⟩).1
    refine⟨_,rfl,.inl ⟨rfl,_,SqL.of h2⟩,W,_,_,rfl,rfl,h2,(by rw[da];omega),?_⟩
    refine⟨_,rfl,.inl ⟨rfl,_,SqL.of ae⟩,_,rfl,_,rfl,by omega,λp hp=>?_⟩
    rw[lD ow.wd];have nWp:W≠p:=aC ae hp;have wl:=ow.len;refine⟨W,p,_,_,rfl,rfl,(av nWp).trans ae,ae,(by rw[ki,da,da];show _+1+_<=_;omega),?_⟩
    refine⟨_,rfl,((s2.own hW).new hp).own hW,?_⟩;rw[ae,List.take_succ,hc];show some (HO.lst _)=some (HO.lst (((cs.take i++[ws]).flatMap λws=>sl1::ws).map V.str))
    rw[List.flatMap_append];simp[fw]
  ·rintro σ H2 ⟨v2,rfl,s2,h2⟩;rw[da,da,ajl]at h2;exact⟨_,rfl,k W H2 s2 hW h2⟩
theorem wX (T:Txt w.params K mg A):FnOk P w K mg base CX0 2 A.nB A.jo ["edit"] (QK K):=by
 refine T.kL.ok oE (λvs H Q E h=>?_) (λcdv A' outer s H vs Q E hr h=>?_)
 ·obtain⟨t,m,k,i,ws,rfl,_⟩:=h;rfl
 ·obtain⟨t,m,k,i,ws,rfl,ht,⟨o1,⟨i0,i1⟩,o3,_⟩,q⟩:=h;refine⟨_,(ao (bg (i:=1) oE.nd rfl (aiF rfl) (dS (aa (aW bE (pv 0) aj (λ_ _=>rfl)) (aa (dv kX (by rfl) T.ED CI (aa (aW bE (pv 0) aj (λ_ _=>rfl)) ag)) ag))))
 (ao (bX (aO D9 (aW bE (pv 0) aj (λ_ _=>rfl)) aq (aJ _))
 (ai (bY (iP adm PySem.F.slot_list_extend PySem.F.type_list_extend BQ (pv 1) (aa (bw (jU T) hr rfl T.jr T.il.kp T.jq .nil a9 (aa (aW bE (pv 0) aj (λ_ _=>rfl)) ag)) ag))))
 aN)
 (ai (aG (pv 1))))),?_⟩
  try dsimp only[bI]
  have lim:gc=16777216:=by decide
  refine ixv rfl ht (DF k i _) (ixv rfl ht (QL k i _) ⟨_,rfl,KG i0 i1,(sl 2),λW hW=>?_⟩)
  have s1:aZ H (upd H W (.lst [V.str (kn k),V.str (num i)])):=aI hW;have hcl:=ue o3;refine ixv rfl (eA s1 ht) (DF k i _) ⟨rfl,_,rfl,?_⟩
  by_cases hk:k=1
  ·rw[decide_eq_true ((wR o1).mpr hk)];refine eu ⟨_,rfl,q W _ s1 hW ?_⟩;show (upd H W (.lst [V.str (kn k),V.str (num i)])) W=some (.lst ((kn k::num i::(if k=1 then [] else ws)).map V.str))
   rw[ae,if_pos hk];rfl
  ·rw[decide_eq_false λz=>hk ((wR o1).mp z)]
   refine gS ⟨_,rfl,.inl ⟨rfl,_,SqL.of ae⟩,ixv rfl (eA s1 ht) (QM hk i _) ⟨_,rfl,by omega,λp hp=>?_⟩⟩
   rw[lD o3.wd];have nWp:W≠p:=aC ae hp;have wl:=o3.len;refine⟨W,p,_,_,rfl,rfl,(av nWp).trans ae,ae,(by rw[da];show 2+_<=_;omega),_,rfl,q W _ ((s1.new hp).own hW) hW ?_⟩
   show (upd (upd (upd H W (.lst [V.str (kn k),V.str (num i)])) p (.lst (ws.map V.str))) W (.lst ([V.str (kn k),V.str (num i)]++ws.map V.str))) W=some (.lst ((kn k::num i::(if k=1 then [] else ws)).map V.str))
   rw[ae,if_neg hk];rfl
theorem yh (T:Txt w.params K mg A):FnOk P w K mg base CX0 3 A.pP A.kz ["deed"] (Oo K):=by
 have mh:FnOk P w K mg base CX0 2 A.words_of A.iJ ["clause"] sT:=(jU T).mono (by decide)
 refine T.l4.ok qj (λvs H Q E h=>?_) (λcdv A' outer s H vs Q E hr h=>?_)
 ·obtain⟨t,d,rfl,_⟩:=h;rfl
 ·obtain⟨t,d,rfl,hd,o,q⟩:=h;refine⟨_,(ao (bg (i:=1) qj.nd rfl (aiF rfl) (aW bE (pv 0) aj (λ_ _=>rfl)))
 (ao (bX (aO bD (pv 1) aq (aJ _))
 (ai (aG (bw (wW T) hr rfl T.qo T.kK.kp T.qm .nil a9 (aa (aW bE (pv 0) aj (λ_ _=>rfl)) ag))))
 aN)
 (ao (bX (PW.pt (pw_or (aO bD (pv 1) aq (aJ _)) (pw_or1 (aO bD (pv 1) aq (aJ _)))))
 (ai (aG (bw (wX T) hr rfl T.qq T.kL.kp T.qp .nil a9 (aa (aW bE (pv 0) aj (λ_ _=>rfl)) ag))))
 aN)
 (ao (bX (aO bD (pv 1) aq (aJ _))
 (ai (aG (bw mh hr rfl T.jr T.il.kp T.jq .nil a9 (aa (aW bE (pv 0) aj (λ_ _=>rfl)) ag))))
 aN)
 (ai (aG (sE (scope:=lT) u3 rfl (T3 (lP Ua (pv 0) (mS aj) sy)) (λ_ _ _ _ _=>(dv kX (by rfl) T.ED CI (aa (pv 0) ag)))))))))),?_⟩
  try dsimp only[bI]
  have lim:gc=16777216:=by decide
  cases d with
  |mat cs =>
   refine aT λGq gq=>?_
   obtain⟨L,ht,hL⟩:=hd;refine gq ?_;refine ixv rfl ht rfl ?_;refine⟨_,rfl,rfl,tst (decide_eq_true rfl) ?_⟩;exact ixv rfl ht rfl ⟨L,cs,rfl,hL,o,q⟩
  |ed m k i ws =>
   refine aT λGq gq=>?_
   obtain⟨e,ht,he⟩:=hd;refine gq ?_;refine ixv rfl ht rfl ?_;refine⟨_,rfl,rfl,tsf (decide_eq_false (by cases m <;> trivial)) ?_⟩
   cases m with
   |false =>
    refine⟨_,rfl,rfl,tst (decide_eq_true rfl) ?_⟩;exact ixv rfl ht rfl ⟨e,false,k,i,ws,rfl,he,o,q⟩
   |true =>
    refine⟨_,rfl,rfl,tsf (decide_eq_false (by trivial)) ?_⟩
    refine⟨_,rfl,rfl,tst (decide_eq_true rfl) ?_⟩;exact ixv rfl ht rfl ⟨e,true,k,i,ws,rfl,he,o,q⟩
  |pt ws =>
   have ht:=hd;refine ixv rfl ht rfl ?_;refine⟨_,rfl,rfl,tsf (decide_eq_false (by trivial)) ?_⟩
   refine⟨_,rfl,rfl,tsf (decide_eq_false (by trivial)) ?_⟩
   refine⟨_,rfl,rfl,tsf (decide_eq_false (by trivial)) ?_⟩
   refine⟨_,rfl,rfl,tst (decide_eq_true rfl) ?_⟩;have hcl:=ue o;refine ixv rfl ht rfl ⟨_,rfl,by omega,λp hp=>q p _ (aI hp) hp ?_⟩
   rw[ae,lD o.wd];rfl
  |nums kd ns =>
   refine aT λGq gq=>?_
   have ht:=hd;obtain⟨o1,o2⟩:=o;obtain⟨n1,n2,n3,n4⟩:=ZJ o1;have kl:=(kd_len o1).2;refine gq ?_;refine ixv rfl ht (sA (j:=0) rfl) ?_;refine⟨_,rfl,rfl,tsf (decide_eq_false n1) ?_⟩;refine⟨_,rfl,rfl,tsf (decide_eq_false n2) ?_⟩;refine⟨_,rfl,rfl,tsf (decide_eq_false n3) ?_⟩;refine⟨_,rfl,rfl,tsf (decide_eq_false n4) ?_⟩;refine⟨_,rfl,_,rfl,t,_,rfl,ht,λz=>?_,λp hp=>?_⟩
   ·have z1:=z.1;rw[show (1:Int)=((1:Nat):Int) from rfl,HT.uR,ku]at z1
    omega
   ·rw[show (1:Int)=((1:Nat):Int) from rfl,uU]
    show _;have hs1:aZ H (upd H p (.tup (ns.map V.int))):=aI hp;have hpp:(upd H p (.tup (ns.map V.int))) p=some (.tup (ns.map V.int)):=ae;refine⟨p,rfl,⟨_,SqT.of hpp⟩,λD hD=>?_⟩
    have npD:p≠D:=aC hpp hD;refine Np (K:=K) (a:=p) (xs:=ns.map V.int) (λi ys H3=>ys=(ns.take i).map (λn=>V.str (num n))/\H3=upd (upd H p (.tup (ns.map V.int))) D (.lst ys)) ⟨rfl,rfl⟩ (by rw[da];omega) ?_ ?_ ?_
    ·rintro i ys H3 hi ⟨rfl,rfl⟩;rw[da]at hi;exact⟨SqT.of ((av npD).trans hpp),ae,by rw[da,ai4];omega⟩
    ·rintro i y ys H3 hi ⟨rfl,rfl⟩;rw[aiY]at hi;cases hc:ns[i]? with
     |none=>rw[hc]at hi;cases hi
     |some n =>
      refine aT λGq gq=>?_
      rw[hc]at hi;obtain rfl:V.int n=y:=aix hi;obtain⟨b0,b1⟩:=o2 n (aiK hc);refine gq ?_;refine⟨_,rfl,_,rfl,KG b0 b1,?_⟩;refine fB.mk (by rw[da];exact(List.getElem?_eq_some_iff.mp hc).1) ae ⟨?_,by rw[mR]⟩
      rw[List.take_succ,hc,tu];rfl
    ·rintro ys H3 ⟨rfl,rfl⟩;rw[da,ajl];refine q D _ (hs1.new hD) (hs1.free hD) ?_;rw[ae];show some (HO.lst _)=some (HO.lst ((ns.map num).map V.str));rw[List.map_map];rfl
theorem p9 (T:Txt w.params K mg A):FnOk P w K mg base CX0 4 A.lL A.gR ["deed"] (DE K):=by
 have rC:FnOk P w K mg base CX0 3 A.oJ A.iS ["words"] (ud K):=(p8 T).mono (by decide)
 refine T.jT.ok C6 (λvs H Q E h=>?_) (λcdv A' outer s H vs Q E hr h=>?_)
 ·obtain⟨t,d,rfl,_⟩:=h;rfl
 ·obtain⟨t,d,rfl,hd,o,q⟩:=h;refine⟨_,(ai (aG (bw rC hr rfl T.m5 T.jS.kp T.m3 .nil a9 (aa (bP CJ (dS (aa (aW bE (pv 0) aj (λ_ _=>rfl)) ag)) (bw (yh T) hr rfl T.q5 T.l4.kp T.qZ .nil a9 (aa (pv 0) ag))) ag)))),?_⟩
  try dsimp only[bI]
  refine aT λGq gq=>?_
  have lim:gc=16777216:=by decide
  obtain⟨b1,b2,b3⟩:=wV o;obtain⟨xs,hx,hx0⟩:=hd.at0;refine gq ?_;refine ixv rfl hx hx0 ⟨(sl 1),λp hp=>?_⟩
  refine⟨_,rfl,t,d,rfl,hd.same (aI hp),o,λp2 H2 s2 hn2 h2=>?_⟩
  have hp2:H2 p=some (.lst [V.str (nh d)]):=s2 _ _ ae;refine⟨p,p2,_,_,rfl,rfl,hp2,h2,(by rw[da];show 1+_<=_;omega),λp3 hp3=>?_⟩
  refine⟨p3,nh d::fw d,rfl,SqL.of (by rw[ae];rfl),?_,q _ (((aI hp).trans s2).new hp3)⟩
  have:=StrLaws.sumLen_le (B:=20) (nh d::fw d) (λw hw=>by
   rcases List.mem_cons.mp hw with rfl | hw
   ·exact b3
   ·exact b2 w hw)
  rw[ku]at this ⊢;omega
end
end R
inductive Rl where
 |ob | made | aH | aU | decided | firsts | kept | rows
 |mi (n:Nat) | rD (n:Nat) | mj (n:Nat)
abbrev Col:=Addr->Option (Nat×Rl)
def eL (i:Nat)(x:Option (Nat×Rl)):Prop:=∃r,x=some (i,r)
theorem Iw {i j:Nat}(n:i≠j)(r:Rl):¬eL j (some (i,r)):=λ⟨_,e⟩=>by cases e;exact n rfl
theorem aS {i:Nat}:¬eL i none:=λ⟨_,e⟩=>by cases e
structure Step (W:Option (Nat×Rl)->Prop)(c c':Col)(H H':Hp):Prop where
 nn:¬W none
 keep:∀a v,H a=some v->¬W (c a)->H' a=some v
 there:∀a v,H a=some v->∃v',H' a=some v'
 col:∀a v,H a=some v->¬W (c a)->c' a=c a
section
variable{W W':Option (Nat×Rl)->Prop}{c c1 c2:Col}{H H' H1 H2:Hp}{a:Addr}{o:HO}
theorem Step.refl (n:¬W none):Step W c c H H:=⟨n,λ_ _ h _=>h,λ_ v h=>⟨v,h⟩,λ_ _ _ _=>rfl⟩
theorem Step.same (n:¬W none)(s:aZ H H'):Step W c c H H':=⟨n,λa v h _=>s a v h,λa v h=>⟨v,s a v h⟩,λ_ _ _ _=>rfl⟩
theorem Step.mono (f:∀x,W x->W' x)(n:¬W' none)(s:Step W c c1 H H1):Step W' c c1 H H1 where
 nn:=n
 keep:=λa v h m=>s.keep a v h λz=>m (f _ z)
 there:=s.there
 col:=λa v h m=>s.col a v h λz=>m (f _ z)
theorem Step.trans (x:Step W c c1 H H1)(y:Step W c1 c2 H1 H2):Step W c c2 H H2 where
 nn:=x.nn
 keep:=λa v h n=>y.keep a v (x.keep a v h n) (by rw[x.col a v h n];exact n)
 there:=λa v h=>let ⟨v1,h1⟩:=x.there a v h;y.there a v1 h1
 col:=λa v h n=>(y.col a v (x.keep a v h n) (by rw[x.col a v h n];exact n)).trans (x.col a v h n)
theorem Step.upd (n:¬W none)(m:W (c a)):Step W c c H (L2.upd H a o) where
 nn:=n
 keep:=λb v h n=>by rw[av (λz=>n (by rw[z];exact m))];exact h
 there:=λb v h=>by
  by_cases z:b=a
  ·rw[z];exact⟨o,ae⟩
  ·exact⟨v,by rw[av z];exact h⟩
 col:=λ_ _ _ _=>rfl
def aY (c:Col)(a:Addr)(x:Option (Nat×Rl)):Col:=λb=>if b=a then x else c b
theorem b5 {x:Option (Nat×Rl)}:aY c a x a=x:=if_pos rfl
theorem az {b:Addr}{x:Option (Nat×Rl)}(h:b≠a):aY c a x b=c b:=if_neg h
theorem Step.new {x:Option (Nat×Rl)}(n:¬W none)(h:H a=none):Step W c (aY c a x) H (L2.upd H a o) where
 nn:=n
 keep:=λb v e _=>aI h b v e
 there:=λb v e=>⟨v,aI h b v e⟩
 col:=λb v e _=>az (λz=>by rw[z,h]at e;cases e)
theorem Step.role {x:Option (Nat×Rl)}(n:¬W none)(m:W (c a)):Step W c (aY c a x) H H where
 nn:=n
 keep:=λ_ _ h _=>h
 there:=λ_ v h=>⟨v,h⟩
 col:=λb _ _ n=>az (λz=>n (by rw[z];exact m))
def eM (c:Col)(H:Hp):Col:=λa=>if (H a).isSome then c a else none
theorem fA (h:H a=none):eM c H a=none:=by unfold eM;rw[h];rfl
theorem Vd {v:HO}(h:H a=some v):eM c H a=c a:=by unfold eM;rw[h];rfl
theorem Step.cl (n:¬W none)(s:aZ H H'):Step W c (eM c H) H H':=⟨n,λa v h _=>s a v h,λa v h=>⟨v,s a v h⟩,λ_ _ h _=>Vd h⟩
end
def Wr (i:Nat)(p:Rl->Bool)(x:Option (Nat×Rl)):Prop:=∃r,x=some (i,r)/\p r=true
section
variable{i:Nat}{p:Rl->Bool}{r:Rl}{c c':Col}{H H':Hp}{a:Addr}
theorem Wr.nn:¬Wr i p none:=λ⟨_,e,_⟩=>nomatch e
theorem Wr.no (h:p r=false):¬Wr i p (some (i,r)):=λ⟨_,e,z⟩=>by cases e;rw[h]at z;cases z
theorem Wr.yes (e:c a=some (i,r))(h:p r=true):Wr i p (c a):=⟨r,e,h⟩
theorem Step.rF (s:Step (Wr i p) c c' H H'):Step (eL i) c c' H H':=s.mono (λ_ ⟨r,e,_⟩=>⟨r,e⟩) aS
theorem uf {o:Addr}{v:HO}(h:p .ob=false)(s:Step (Wr i p) c c' H H')(h1:c o=some (i,.ob))(h2:H o=some v):c' o=some (i,.ob)/\H' o=some v:=by
 have hn:¬Wr i p (c o):=by rw[h1];exact Wr.no h
 exact⟨by rw[s.col o _ h2 hn];exact h1,s.keep _ _ h2 hn⟩
end
inductive Mn where
 |mat (tx:List Str) | chg (e:Ed) | mnd (e:Ed) | off (n:Int) | cls | lay | rst | pnt (z:Str)
def Mn.k:Mn->Nat
 | .mat _=>0 | .chg _=>1 | .mnd _=>2 | .off _=>3 | .cls=>4 | .lay=>5 | .rst=>6 | .pnt _=>7
theorem Mn.k8 (m:Mn):m.k < 8:=by cases m <;> simp only[Mn.k] <;> omega
def TupAt (c:Col)(H:Hp)(t:Addr)(xs:List V):Prop:=c t=none/\Rd H t (.tup xs)
theorem TupAt.sq {K:bo}{c:Col}{H:Hp}{t:Addr}{xs:List V}(h:TupAt c H t xs):SqT K H t xs:=.inl h.2
theorem TupAt.step {W:Option (Nat×Rl)->Prop}{c c':Col}{H H':Hp}{t:Addr}{xs:List V}(s:Step W c c' H H')(h:TupAt c H t xs):TupAt c' H' t xs:=by
 obtain⟨n,h⟩:=h;have hn:¬W (c t):=by rw[n];exact s.nn
 rcases h with h | ⟨o,h⟩
 ·exact⟨by rw[s.col t _ h hn];exact n,.inl (s.keep _ _ h hn)⟩
 ·exact⟨by rw[s.col t _ h hn];exact n,.inr ⟨o,s.keep _ _ h hn⟩⟩
def KH (c:Col)(H:Hp)(p:Addr)(tx:List Str):Prop:=c p=none/\H p=some (.lst (tx.map V.str))
theorem KH.step {W:Option (Nat×Rl)->Prop}{c c':Col}{H H':Hp}{p:Addr}{tx:List Str}(s:Step W c c' H H')(h:KH c H p tx):KH c' H' p tx :=
 have hn:¬W (c p):=by rw[h.1];exact s.nn
 ⟨by rw[s.col p _ h.2 hn];exact h.1,s.keep _ _ h.2 hn⟩
def Mn.Val (c:Col)(H:Hp):Mn->V->Prop
 | .mat tx,v=>∃p,v=.ref p/\KH c H p tx
 | .chg e,v=>∃t,v=.ref t/\TupAt c H t (i8 e)
 | .mnd e,v=>∃t,v=.ref t/\TupAt c H t (i8 e)
 | .off n,v=>v=.int n
 | .pnt z,v=>v=.str z
 |_,_=>True
theorem Mn.Val.step {W:Option (Nat×Rl)->Prop}{c c':Col}{H H':Hp}(s:Step W c c' H H'):∀ {m:Mn} {v:V},m.Val c H v->m.Val c' H' v
 | .mat _,_,⟨p,e,h⟩=>⟨p,e,h.step s⟩
 | .chg _,_,⟨t,e,h⟩=>⟨t,e,h.step s⟩
 | .mnd _,_,⟨t,e,h⟩=>⟨t,e,h.step s⟩
 | .off _,_,h=>h
 | .pnt _,_,h=>h
 | .cls,_,_=>trivial
 | .lay,_,_=>trivial
 | .rst,_,_=>trivial
def mn (A:Adr)(c:Col)(H:Hp)(m:Mn)(o:Addr):Prop:=c o=none/\∃dx v,H o=some (.ins (A.C m.k) dx (oR m.k v))/\m.Val c H v
theorem mn.step {A:Adr}{W:Option (Nat×Rl)->Prop}{c c':Col}{H H':Hp}{m:Mn}{o:Addr}(s:Step W c c' H H')(h:mn A c H m o):mn A c' H' m o:=by
 obtain⟨n,dx,v,h,hv⟩:=h;have hn:¬W (c o):=by rw[n];exact s.nn
 exact⟨by rw[s.col o _ h hn];exact n,dx,v,s.keep _ _ h hn,hv.step s⟩
structure Ch where
 cW:Int
 bf:Int
 closed:Bool
 made:List Mn
 aH:List Nat
 aU:List (Nat×Int×List Nat)
 decided:List (Nat×Str)
 firsts:List (Nat×List Str)
 kept:List (Nat×List Ed)
 rows:List Str
def nV (n:Nat):V:=.int (n:Int)
def bh (xs:List (Nat×V)):List (Key×V):=xs.map λp=>(om (p.1:Int),p.2)
inductive cY {α β:Type}(R:α->β->Prop):List α->List β->Prop
 |nil:cY R [] []
 |cons {a b as bs}:R a b->cY R as bs->cY R (a::as) (b::bs)
theorem cY.imp {α β:Type}{R R':α->β->Prop}(f:∀a b,R a b->R' a b):∀ {as:List α} {bs:List β},cY R as bs->cY R' as bs
 |_,_,.nil=>.nil
 |_,_,.cons h t=>.cons (f _ _ h) (t.imp f)
def LstAt (i:Nat)(c:Col)(H:Hp)(r:Rl)(a:Addr)(xs:List V):Prop:=c a=some (i,r)/\H a=some (.lst xs)
def jV (i:Nat)(c:Col)(H:Hp)(r:Rl)(a:Addr)(xs:List (Nat×V)):Prop:=c a=some (i,r)/\H a=some (.dK (bh xs))
def chF (v0 v1 v2 v3 v4 v5 v6 v7 v8 v9:V):List (Str×V):=[(ar "seats",v0),(ar "sitting",v1),(ar "closed",v2),(ar "made",v3),(ar "pile",v4),(ar "aside",v5),(ar "decided",v6),(ar "first_texts",v7),(ar "edits_kept",v8),(ar "rows",v9)]
abbrev Oq (i:Nat)(c:Col)(H:Hp)(x:Nat×Int×List Nat)(v:V):Prop:=∃t p,v=.ref t/\TupAt c H t [.int x.2.1,.ref p]/\LstAt i c H (.mi x.1) p (x.2.2.map nV)
abbrev DG (i:Nat)(c:Col)(H:Hp)(x:Nat×List Str)(v:V):Prop:=∃p,v=.ref p/\LstAt i c H (.mj x.1) p (x.2.map V.str)
abbrev KI (i:Nat)(c:Col)(H:Hp)(x:Nat×List Ed)(v:V):Prop:=∃p ts,v=.ref p/\LstAt i c H (.rD x.1) p (ts.map V.ref)/\cY (λe t=>TupAt c H t (i8 e)) x.2 ts
structure ChX (A:Adr)(i:Nat)(c:Col)(H:Hp)(o:Addr)(st:Ch)(dx aM aP aA aD aF aE aR:Addr)(ms ds:List Addr)(ws fs es:List V):Prop where
 co:c o=some (i,.ob)
 ob:H o=some (.ins A.ak dx (chF (.int st.cW) (.int st.bf) (.bl st.closed) (.ref aM) (.ref aP) (.ref aA) (.ref aD) (.ref aF) (.ref aE) (.ref aR)))
 made:jV i c H .made aM ((ai0 1 st.made.length).zip (ms.map V.ref))
 mot:cY (λm p=>mn A c H m p) st.made ms
 aH:LstAt i c H .aH aP (st.aH.map nV)
 aU:jV i c H .aU aA ((st.aU.map (·.1)).zip ws)
 wait:cY (Oq i c H) st.aU ws
 dec:LstAt i c H .decided aD (ds.map V.ref)
 AM:cY (λ(x:Nat×Str) t=>TupAt c H t [nV x.1,.str x.2]) st.decided ds
 firsts:jV i c H .firsts aF ((st.firsts.map (·.1)).zip fs)
 first:cY (DG i c H) st.firsts fs
 jW:jV i c H .kept aE ((st.kept.map (·.1)).zip es)
 kept:cY (KI i c H) st.kept es
 rows:LstAt i c H .rows aR (st.rows.map V.str)
structure eN (A:Adr)(i:Nat)(c:Col)(H:Hp)(o:Addr)(st:Ch):Prop where
 ex:∃(dx aM aP aA aD aF aE aR:Addr) (ms ds:List Addr) (ws fs es:List V),ChX A i c H o st dx aM aP aA aD aF aE aR ms ds ws fs es
theorem LstAt.keep {i:Nat}{W:Option (Nat×Rl)->Prop}{c c':Col}{H H':Hp}{r:Rl}{a:Addr}{xs:List V}(n:¬W (some (i,r)))(s:Step W c c' H H')(h:LstAt i c H r a xs):LstAt i c' H' r a xs:=by
 have hn:¬W (c a):=by rw[h.1];exact n
 exact⟨by rw[s.col a _ h.2 hn];exact h.1,s.keep _ _ h.2 hn⟩
theorem jV.keep {i:Nat}{W:Option (Nat×Rl)->Prop}{c c':Col}{H H':Hp}{r:Rl}{a:Addr}{xs:List (Nat×V)}(n:¬W (some (i,r)))(s:Step W c c' H H')(h:jV i c H r a xs):jV i c' H' r a xs:=by
 have hn:¬W (c a):=by rw[h.1];exact n
 exact⟨by rw[s.col a _ h.2 hn];exact h.1,s.keep _ _ h.2 hn⟩
section
variable{A:Adr}{i:Nat}{p:Rl->Bool}{r:Rl}{c c':Col}{H H':Hp}{a o:Addr}
theorem LstAt.kp {xs:List V}(h:p r=false)(s:Step (Wr i p) c c' H H')(z:LstAt i c H r a xs):LstAt i c' H' r a xs:=z.keep (Wr.no h) s
theorem jV.kp {xs:List (Nat×V)}(h:p r=false)(s:Step (Wr i p) c c' H H')(z:jV i c H r a xs):jV i c' H' r a xs:=z.keep (Wr.no h) s
theorem cY.imp_mem {α β:Type}{R R':α->β->Prop}:∀ {as:List α} {bs:List β},(∀a∈as,∀b,R a b->R' a b)->cY R as bs->cY R' as bs
 |_,_,_,.nil=>.nil
 |_,_,f,.cons h t=>.cons (f _ kb _ h) (t.imp_mem λa m b=>f a (kj _ m) b)
theorem rG {as:List Mn}{ms:List Addr}{W:Option (Nat×Rl)->Prop}(s:Step W c c' H H')(z:cY (λm p=>mn A c H m p) as ms):cY (λm p=>mn A c' H' m p) as ms:=z.imp λ_ _ y=>y.step s
theorem rH {as:List (Nat×Str)}{ds:List Addr}{W:Option (Nat×Rl)->Prop}(s:Step W c c' H H')(z:cY (λ(x:Nat×Str) t=>TupAt c H t [nV x.1,.str x.2]) as ds):cY (λ(x:Nat×Str) t=>TupAt c' H' t [nV x.1,.str x.2]) as ds:=z.imp λ_ _ y=>y.step s
theorem tF {as:List (Nat×Int×List Nat)}{ws:List V}(h:∀x∈as,p (.mi x.1)=false)(s:Step (Wr i p) c c' H H')(z:cY (Oq i c H) as ws):cY (Oq i c' H') as ws :=
 z.imp_mem λx m v ⟨t,q,e,z1,z2⟩=>⟨t,q,e,z1.step s,z2.kp (h x m) s⟩
theorem tG {as:List (Nat×List Str)}{ws:List V}(h:∀x∈as,p (.mj x.1)=false)(s:Step (Wr i p) c c' H H')(z:cY (DG i c H) as ws):cY (DG i c' H') as ws :=
 z.imp_mem λx m v ⟨q,e,z2⟩=>⟨q,e,z2.kp (h x m) s⟩
theorem vm {as:List (Nat×List Ed)}{ws:List V}(h:∀x∈as,p (.rD x.1)=false)(s:Step (Wr i p) c c' H H')(z:cY (KI i c H) as ws):cY (KI i c' H') as ws :=
 z.imp_mem λx m v ⟨q,ts,e,z2,z3⟩=>⟨q,ts,e,z2.kp (h x m) s,z3.imp λ_ _ y=>y.step s⟩
end
theorem eN.other {A:Adr}{i j:Nat}(n:i≠j){c c':Col}{H H':Hp}{o:Addr}{st:Ch}(s:Step (eL j) c c' H H')(h:eN A i c H o st):eN A i c' H' o st:=by
 obtain⟨dx,aM,aP,aA,aD,aF,aE,aR,ms,ds,ws,fs,es,h1,h2,h3,h4,h5,h6,h7,h8,h9,h10,h11,h12,h13,h14⟩:=h.ex;have no:=λr=>Iw n r
 have hn:¬eL j (c o):=by rw[h1];exact no _
 refine⟨dx,aM,aP,aA,aD,aF,aE,aR,ms,ds,ws,fs,es,by rw[s.col o _ h2 hn];exact h1,s.keep _ _ h2 hn,h3.keep (no _) s,h4.imp λ_ _ z=>z.step s,h5.keep (no _) s,h6.keep (no _) s,h7.imp ?_,h8.keep (no _) s,h9.imp λ_ _ z=>z.step s,
  h10.keep (no _) s,h11.imp ?_,h12.keep (no _) s,h13.imp ?_,h14.keep (no _) s⟩
 ·rintro x v ⟨t,p,e,z1,z2⟩;exact⟨t,p,e,z1.step s,z2.keep (no _) s⟩
 ·rintro x v ⟨p,e,z⟩;exact⟨p,e,z.keep (no _) s⟩
 ·rintro x v ⟨p,ts,e,z1,z2⟩;exact⟨p,ts,e,z1.keep (no _) s,z2.imp λ_ _ y=>y.step s⟩
section
variable{v0 v1 v2 v3 v4 v5 v6 v7 v8 v9 y:V}
theorem LF:(chF v0 v1 v2 v3 v4 v5 v6 v7 v8 v9).lookup (ar "seats")=some v0:=by simp only[chF,ai9,show (ar "seats" == ar "seats")=true from by trivial]
theorem jX:(chF v0 v1 v2 v3 v4 v5 v6 v7 v8 v9).lookup (ar "sitting")=some v1:=by simp only[chF,ai9,show (ar "sitting" == ar "seats")=false from by trivial,show (ar "sitting" == ar "sitting")=true from by trivial]
theorem ug:(chF v0 v1 v2 v3 v4 v5 v6 v7 v8 v9).lookup (ar "closed")=some v2:=by simp only[chF,ai9,show (ar "closed" == ar "seats")=false from by trivial,show (ar "closed" == ar "sitting")=false from by trivial,show (ar "closed" == ar "closed")=true from by trivial]
theorem jY:(chF v0 v1 v2 v3 v4 v5 v6 v7 v8 v9).lookup (ar "made")=some v3:=by simp only[chF,ai9,show (ar "made" == ar "seats")=false from by trivial,show (ar "made" == ar "sitting")=false from by trivial,show (ar "made" == ar "closed")=false from by trivial,show (ar "made" == ar "made")=true from by trivial]
theorem fD:(chF v0 v1 v2 v3 v4 v5 v6 v7 v8 v9).lookup (ar "pile")=some v4:=by simp only[chF,ai9,show (ar "pile" == ar "seats")=false from by trivial,show (ar "pile" == ar "sitting")=false from by trivial,show (ar "pile" == ar "closed")=false from by trivial,show (ar "pile" == ar "made")=false from by trivial,show (ar "pile" == ar "pile")=true from by trivial]
theorem oS:(chF v0 v1 v2 v3 v4 v5 v6 v7 v8 v9).lookup (ar "aside")=some v5:=by simp only[chF,ai9,show (ar "aside" == ar "seats")=false from by trivial,show (ar "aside" == ar "sitting")=false from by trivial,show (ar "aside" == ar "closed")=false from by trivial,show (ar "aside" == ar "made")=false from by trivial,show (ar "aside" == ar "pile")=false from by trivial,show (ar "aside" == ar "aside")=true from by trivial]
theorem ET:(chF v0 v1 v2 v3 v4 v5 v6 v7 v8 v9).lookup (ar "decided")=some v6:=by simp only[chF,ai9,show (ar "decided" == ar "seats")=false from by trivial,show (ar "decided" == ar "sitting")=false from by trivial,show (ar "decided" == ar "closed")=false from by trivial,show (ar "decided" == ar "made")=false from by trivial,show (ar "decided" == ar "pile")=false from by trivial,show (ar "decided" == ar "aside")=false from by trivial,show (ar "decided" == ar "decided")=true from by trivial]
theorem yi:(chF v0 v1 v2 v3 v4 v5 v6 v7 v8 v9).lookup (ar "first_texts")=some v7:=by simp only[chF,ai9,show (ar "first_texts" == ar "seats")=false from by trivial,show (ar "first_texts" == ar "sitting")=false from by trivial,show (ar "first_texts" == ar "closed")=false from by trivial,show (ar "first_texts" == ar "made")=false from by trivial,show (ar "first_texts" == ar "pile")=false from by trivial,show (ar "first_texts" == ar "aside")=false from by trivial,show (ar "first_texts" == ar "decided")=false from by trivial,show (ar "first_texts" == ar "first_texts")=true from by trivial]
theorem rJ:(chF v0 v1 v2 v3 v4 v5 v6 v7 v8 v9).lookup (ar "edits_kept")=some v8:=by simp only[chF,ai9,show (ar "edits_kept" == ar "seats")=false from by trivial,show (ar "edits_kept" == ar "sitting")=false from by trivial,show (ar "edits_kept" == ar "closed")=false from by trivial,show (ar "edits_kept" == ar "made")=false from by trivial,show (ar "edits_kept" == ar "pile")=false from by trivial,show (ar "edits_kept" == ar "aside")=false from by trivial,show (ar "edits_kept" == ar "decided")=false from by trivial,show (ar "edits_kept" == ar "first_texts")=false from by trivial,show (ar "edits_kept" == ar "edits_kept")=true from by trivial]
theorem rK:(chF v0 v1 v2 v3 v4 v5 v6 v7 v8 v9).lookup (ar "rows")=some v9:=by simp only[chF,ai9,show (ar "rows" == ar "seats")=false from by trivial,show (ar "rows" == ar "sitting")=false from by trivial,show (ar "rows" == ar "closed")=false from by trivial,show (ar "rows" == ar "made")=false from by trivial,show (ar "rows" == ar "pile")=false from by trivial,show (ar "rows" == ar "aside")=false from by trivial,show (ar "rows" == ar "decided")=false from by trivial,show (ar "rows" == ar "first_texts")=false from by trivial,show (ar "rows" == ar "edits_kept")=false from by trivial,show (ar "rows" == ar "rows")=true from by trivial]
theorem EU:gf (ar "sitting") y (chF v0 v1 v2 v3 v4 v5 v6 v7 v8 v9)=chF v0 y v2 v3 v4 v5 v6 v7 v8 v9:=by
 unfold chF;simp only[gf];rw[if_neg (by trivial),if_pos trivial]
theorem AN:gf (ar "closed") y (chF v0 v1 v2 v3 v4 v5 v6 v7 v8 v9)=chF v0 v1 y v3 v4 v5 v6 v7 v8 v9:=by
 unfold chF;simp only[gf];rw[if_neg (by trivial),if_neg (by trivial),if_pos trivial]
theorem EV:gf (ar "pile") y (chF v0 v1 v2 v3 v4 v5 v6 v7 v8 v9)=chF v0 v1 v2 v3 y v5 v6 v7 v8 v9:=by
 unfold chF;simp only[gf];rw[if_neg (by trivial),if_neg (by trivial),if_neg (by trivial),if_neg (by trivial),if_pos trivial]
end
def LG (A:Adr)(i:Nat):Sp:=λvs H Q E=>∃(o:Addr) (c:Col) (st:Ch),vs=[.ref o]/\eN A i c H o st/\(st.aH≠[]->Q .non H)/\(st.aH=[]->E (.ref A.bC) none H)
section
variable{P:kx}{w:World}{K:bo}{mg:Str->Option Value}{base:Heap}{A:Adr}
theorem mq (T:Txt w.params K mg A){i:Nat}:FnOk P w K mg base (CXX P w) 1 A.bc A.dX ["self"] (LG A i):=by
 refine T.cu.okX lS (λvs H Q E h=>?_) (λcdv A' outer s H vs Q E hr h=>?_)
 ·obtain⟨o,c,st,rfl,_⟩:=h;rfl
 ·obtain⟨o,c,st,rfl,hc,q1,q2⟩:=h;obtain⟨dx,aM,aP,aA,aD,aF,aE,aR,ms,ds,ws,fs,es,h1,h2,h3,h4,h5,h6,h7,h8,h9,h10,h11,h12,h13,h14⟩:=hc.ex;refine⟨_,(aL (dE (pD (qD (bu (pv 0) rfl) (λ_=>rfl)))
 (aL (lF T.AB rfl rfl T.wN (aa aq ag)))
 (mQ aN))),?_⟩
  try dsimp only[bI]
  refine gu rfl h2 T.ah T.jq0 fD ?_;refine⟨_,.inl ⟨_,.inl (.inl h5.2),rfl⟩,?_⟩;cases e:st.aH with
  |nil=>exact gS ⟨by decide,q2 e⟩
  |cons x r=>exact eu (q1 (by rw[e];exact aiO _ _))
end
theorem cY.len {α β:Type}{R:α->β->Prop}:∀ {as:List α} {bs:List β},cY R as bs->as.length=bs.length
 |_,_,.nil=>rfl
 |_,_,.cons _ t=>by rw[ku,ku,t.len]
theorem cY.get {α β:Type}{R:α->β->Prop}:∀ {as:List α} {bs:List β} {i:Nat} {a:α},cY R as bs->as[i]?=some a->∃b,bs[i]?=some b/\R a b
 |_,_,_,_,.nil,h=>by simp at h
 |_,_,0,_,.cons h t,e=>by
  rw[ajJ]at e;cases e;exact⟨_,ajJ,h⟩
 |_,_,i+1,_,.cons h t,e=>by
  rw[ajK]at e;obtain⟨b,e1,e2⟩:=t.get e;exact⟨b,by rw[ajK];exact e1,e2⟩
theorem AO:∀(ms:List Addr) (s k:Nat) {o:Addr},ms[k]?=some o->jP (bh ((ai0 s ms.length).zip (ms.map V.ref))) (om ((s+k:Nat):Int))=some (.ref o)
 |[],_,_,_,h=>by simp at h
 |m::ms,s,0,o,h=>by
  rw[ajJ]at h;cases h;exact lR (p:=(om ((s:Nat):Int),V.ref m)) rfl
 |m::ms,s,k+1,o,h=>by
  rw[ajK]at h;have ih:=AO ms (s+1) k h;have e:s+(k+1)=s+1+k:=by omega
  rw[e];refine(iQ (p:=(om ((s:Nat):Int),V.ref m)) ?_).trans ih;intro z;have z':((s:Nat):Int)=((s+1+k:Nat):Int):=Sum.inl.inj z;omega
def Ch.mo (st:Ch)(n:Nat):Mn:=st.made.getD (n - 1) .cls
def ja (st:Ch)(n:Nat):Prop:=1<=n/\n<=st.made.length
def LH (A:Adr)(i:Nat):Sp:=λvs H Q _=>∃(o:Addr) (c:Col) (st:Ch),vs=[.ref o]/\eN A i c H o st/\(∀n∈st.aH,ja st n)/\st.aH.length<=1000 /\
 ∀R os,H R=none->cY (λn m=>mn A c H (st.mo n) m) st.aH os->Q (.ref R) (upd H R (.lst (os.map V.ref)))
theorem KJ {A:Adr}{c:Col}{H:Hp}{st:Ch}{ms:List Addr}(h:cY (λm p=>mn A c H m p) st.made ms):∀(ns:List Nat),(∀n∈ns,ja st n)->cY (λn m=>mn A c H (st.mo n) m) ns (ns.map λn=>ms.getD (n - 1) 0)
 |[],_=>.nil
 |n::ns,g=>by
  have hn:=g n kb;have hlt:n - 1 < st.made.length:=by have:=hn.1;have:=hn.2;omega
  obtain⟨b,e1,e2⟩:=h.get (aiG hlt);refine .cons ?_ (KJ h ns λn hn=>g n (kj _ hn))
  have e3:st.mo n=st.made[n - 1]:=by unfold Ch.mo;rw[aiB,aiG hlt];rfl
  have e4:ms.getD (n - 1) 0=b:=by rw[aiB,e1];rfl
  show mn A c H (st.mo n) (ms.getD (n - 1) 0);rw[e3,e4];exact e2
section
variable{P:kx}{w:World}{K:bo}{mg:Str->Option Value}{base:Heap}{A:Adr}
theorem AQ (T:Txt w.params K mg A){i:Nat}:FnOk P w K mg base CX0 1 A.b7 A.ij ["self"] (LH A i):=by
 refine T.eD.ok tU (λvs H Q E h=>?_) (λcdv A' outer s H vs Q E hr h=>?_)
 ·obtain⟨o,c,st,rfl,_⟩:=h;rfl
 ·obtain⟨o,c,st,rfl,hc,hp,hpl,q⟩:=h;obtain⟨dx,aM,aP,aA,aD,aF,aE,aR,ms,ds,ws,fs,es,h1,h2,h3,h4,h5,h6,h7,h8,h9,h10,h11,h12,h13,h14⟩:=hc.ex;have hu1:=hr.u1;refine⟨_,(ai (aG (sE (scope:=jc) qH rfl (pG (bu (pv 0) rfl)) (λ_ _ _ _ _=>(sH hu1 (Qx (K:=K) rfl (pv 1) rfl) (pv 0) (λ_ _=>rfl)))))),?_⟩
  try dsimp only[bI]
  have ml:=h4.len;refine gu rfl h2 T.ah T.jq0 fD ?_;have hB:SqL K H aP (st.aH.map nV):=SqL.of h5.2;refine⟨aP,rfl,⟨_,hB⟩,λR hR=>?_⟩
  have sR:∀ {o:HO},aZ H (upd H R o):=aI hR;refine vV (K:=K) (a:=aP) (xs:=st.aH.map nV) (λi ys H2=>ys=((st.aH.take i).map λn=>V.ref (ms.getD (n - 1) 0))/\H2=upd H R (.lst ys)) ⟨rfl,rfl⟩ (by rw[da,sizeLine_eq];omega) ?_ ?_ ?_
  ·rintro i ys H2 hi ⟨rfl,rfl⟩;rw[da]at hi;exact⟨sR.seq hB,ae,by rw[da,ai4];omega⟩
  ·rintro i y ys H2 hy ⟨rfl,rfl⟩;refine aT λGq gq=>?_
   obtain⟨n,hn1,rfl⟩:∃n,st.aH[i]?=some n/\nV n=y:=by
    rw[aiY]at hy;cases ht:st.aH[i]? with
    |none=>rw[ht]at hy;cases hy
    |some t=>rw[ht]at hy;exact⟨t,rfl,aix hy⟩
   have hn:=hp n (aiK hn1);have hlt:n - 1 < ms.length:=by have:=hn.1;have:=hn.2;omega
   have hm:ms[n - 1]?=some (ms.getD (n - 1) 0):=by rw[aiB,aiG hlt];rfl
   have hv:=AO ms 1 (n - 1) hm;rw[<-ml,show 1+(n - 1)=n by have:=hn.1;omega]at hv
   refine gq ?_;refine gu rfl (sR _ _ h2) T.ah T.jq2 jY ?_;refine⟨_,rfl,aM,_,rfl,.inl ⟨_,om (n:Int),.inl (sR _ _ h3.2),rfl,hv.symm⟩,?_⟩;refine fB.mk (List.getElem?_eq_some_iff.mp hy).1 ae ⟨?_,by rw[mR]⟩
   rw[List.take_succ,hn1,tu];rfl
  ·rintro ys H2 ⟨rfl,rfl⟩;rw[da,ajl];have:=q R _ hR (KJ h4 st.aH hp);rw[List.map_map]at this;exact this
end
theorem cY.snoc {α β:Type}{R:α->β->Prop}:∀ {as:List α} {bs:List β} {a:α} {b:β},cY R as bs->R a b->cY R (as++[a]) (bs++[b])
 |_,_,_,_,.nil,h=>.cons h .nil
 |_,_,_,_,.cons g t,h=>.cons g (t.snoc h)
def Ot (A:Adr)(i:Nat):Sp:=λvs H Q _=>∃(o:Addr) (wd:Str) (c:Col) (st:Ch) (pre:List Nat) (n:Nat),vs=[.ref o,.str wd]/\eN A i c H o st/\st.aH=pre++[n]/\st.aH.length<=1000/\st.decided.length<=1000 /\
 ∀c' H',Step (eL i) c c' H H'->eN A i c' H' o { st with aH:=pre,decided:=st.decided++[(n,wd)] }->Q .non H'
section
variable{P:kx}{w:World}{K:bo}{mg:Str->Option Value}{base:Heap}{A:Adr}
theorem Cd (T:Txt w.params K mg A){i:Nat}:FnOk P w K mg base CX0 1 A.cq A.iW ["self","word"] (Ot A i):=by
 refine T.fb.ok uZ (λvs H Q E h=>?_) (λcdv A' outer s H vs Q E hr h=>?_)
 ·obtain⟨o,wd,c,st,pre,n,rfl,_⟩:=h;rfl
 ·obtain⟨o,wd,c,st,pre,n,rfl,hc,hp,hpl,hdl,q⟩:=h;obtain⟨dx,aM,aP,aA,aD,aF,aE,aR,ms,ds,ws,fs,es,h1,h2,h3,h4,h5,h6,h7,h8,h9,h10,h11,h12,h13,h14⟩:=hc.ex;refine⟨_,(ai (bY (iP adm aiQ aiR d6 (bu (pv 0) rfl) (aa (cZ (aa (Ue adm PySem.F.slot_list_pop PySem.F.type_list_pop Uh (bu (pv 0) rfl)) (aa (pv 1) ag))) ag)))),?_⟩
  try dsimp only[bI]
  refine gu rfl h2 T.ah T.jqp ET ?_;have hy:(st.aH.map nV)[(st.aH.map nV).length - 1]?=some (nV n):=by rw[hp];simp
  have hdr:(st.aH.map nV).dropLast=pre.map nV:=by rw[hp,tu];simp
  have nPD:aD≠aP:=λz=>by have:=h8.1;rw[z,h5.1]at this;cases this
  refine⟨.inl ⟨rfl,_,SqL.of h8.2⟩,gu rfl h2 T.ah T.jq0 fD ?_⟩;refine⟨.inl ⟨rfl,_,SqL.of h5.2⟩,aP,_,_,rfl,rfl,h5.2,hy,_,rfl,(sl 2),λp hp0=>?_⟩
  have np:∀ {a:Addr} {v:HO},H a=some v->a≠p:=by
   intro a v e z;subst z
   by_cases y:a=aP
   ·subst y;rw[ae]at hp0;cases hp0
   ·rw[av y,e]at hp0;cases hp0
  have nn:¬(λx=>x=some (i,Rl.aH)\/x=some (i,Rl.decided)) (none:Option (Nat×Rl)):=by rintro (z | z) <;> cases z
  refine⟨aD,_,_,rfl,rfl,(av (np h8.2)).trans ((av nPD).trans h8.2),?_,?_⟩
  ·rw[da,<-h9.len,sizeLine_eq];omega
  have sp:Step (λx=>x=some (i,Rl.aH)\/x=some (i,Rl.decided)) c (aY c p none) H (upd (upd (upd H aP (.lst (st.aH.map nV).dropLast)) p (.tup [nV n,.str wd])) aD (.lst (ds.map V.ref++[.ref p]))) :=
   ((Step.upd nn (.inl h5.1)).trans (Step.new nn hp0)).trans (Step.upd nn (.inr (by rw[az (np h8.2)];exact h8.1)))
  have ht:TupAt (aY c p none) (upd (upd (upd H aP (.lst (st.aH.map nV).dropLast)) p (.tup [nV n,.str wd])) aD (.lst (ds.map V.ref++[.ref p]))) p [nV n,.str wd] :=
   ⟨b5,.inl ((av (np h8.2).symm).trans ae)⟩
  have kp:LstAt i (aY c p none) (upd (upd (upd H aP (.lst (st.aH.map nV).dropLast)) p (.tup [nV n,.str wd])) aD (.lst (ds.map V.ref++[.ref p]))) .aH aP (pre.map nV) :=
   ⟨by rw[az (np h5.2)];exact h5.1,by rw[av nPD.symm,av (np h5.2),ae,hdr]⟩
  have kd:LstAt i (aY c p none) (upd (upd (upd H aP (.lst (st.aH.map nV).dropLast)) p (.tup [nV n,.str wd])) aD (.lst (ds.map V.ref++[.ref p]))) .decided aD ((ds++[p]).map V.ref) :=
   ⟨by rw[az (np h8.2)];exact h8.1,by rw[ae,tu];rfl⟩
  generalize upd (upd (upd H aP (.lst (st.aH.map nV).dropLast)) p (.tup [nV n,.str wd])) aD (.lst (ds.map V.ref++[.ref p]))=H' at sp ht kp kd ⊢;generalize aY c p none=c' at sp ht kp kd;have no:∀r,r≠Rl.aH->r≠Rl.decided->¬(λx=>x=some (i,Rl.aH)\/x=some (i,Rl.decided)) (some (i,r)):=λr y1 y2=>by
   rintro (z | z)
   ·cases z;exact y1 rfl
   ·cases z;exact y2 rfl
  have hno:=no .ob (λz=>nomatch z) (λz=>nomatch z)
  refine q c' H' (sp.mono (by rintro x (z | z) <;> exact⟨_,z⟩) aS) ⟨dx,aM,aP,aA,aD,aF,aE,aR,ms,ds++[p],ws,fs,es,by rw[sp.col o _ h2 (by rw[h1];exact hno)];exact h1,sp.keep _ _ h2 (by rw[h1];exact hno),
   h3.keep (no .made (λz=>nomatch z) (λz=>nomatch z)) sp,h4.imp λ_ _ z=>z.step sp,kp,h6.keep (no .aU (λz=>nomatch z) (λz=>nomatch z)) sp,h7.imp ?_,kd,(h9.imp λ_ _ z=>z.step sp).snoc ht,
   h10.keep (no .firsts (λz=>nomatch z) (λz=>nomatch z)) sp,h11.imp ?_,h12.keep (no .kept (λz=>nomatch z) (λz=>nomatch z)) sp,h13.imp ?_,h14.keep (no .rows (λz=>nomatch z) (λz=>nomatch z)) sp⟩
  ·rintro x v ⟨t,a,e,z1,z2⟩;exact⟨t,a,e,z1.step sp,z2.keep (no (.mi x.1) (λz=>nomatch z) (λz=>nomatch z)) sp⟩
  ·rintro x v ⟨a,e,z⟩;exact⟨a,e,z.keep (no (.mj x.1) (λz=>nomatch z) (λz=>nomatch z)) sp⟩
  ·rintro x v ⟨a,ts,e,z1,z2⟩;exact⟨a,ts,e,z1.keep (no (.rD x.1) (λz=>nomatch z) (λz=>nomatch z)) sp,z2.imp λ_ _ y=>y.step sp⟩
end
inductive Xc where
 |AR (b:Int) | AS | noChange | noFit | vn (n:Int) | nothing | tooMany | DH | Iy (n:Int) | EW
def Xc.At (A:Adr)(H:Hp):Xc->Value->Option Addr->Prop
 | .AR b,C,d=>C=.ref A.bL/\∃a,d=some a/\H a=some (.xd [(ar "bar",.int b)])
 | .AS,C,d=>C=.ref A.dh/\d=none
 | .noChange,C,d=>C=.ref A.dj/\d=none
 | .noFit,C,d=>C=.ref A.cc/\d=none
 | .vn n,C,d=>C=.ref A.a8/\∃a,d=some a/\H a=some (.xd [(ar "sitting",.int n)])
 | .nothing,C,d=>C=.ref A.bC/\d=none
 | .tooMany,C,d=>C=.ref A.bG/\d=none
 | .DH,C,d=>C=.ref A.bH/\d=none
 | .Iy n,C,d=>C=.ref A.dY/\∃a,d=some a/\H a=some (.xd [(ar "sitting",.int n)])
 | .EW,C,d=>C=.ref A.dn/\d=none
def Xc.New (A:Adr)(H H':Hp)(x:Xc)(C:Value)(d:Option Addr):Prop:=x.At A H' C d/\∀a,d=some a->H a=none
theorem same_none {H H':Hp}(s:aZ H H'){a:Addr}(h:H' a=none):H a=none:=by
 cases z:H a with
 |none=>rfl
 |some v=>rw[s _ _ z]at h;cases h
theorem oU {i:Int}(h0:-10000000000 < i)(h1:i < 10000000000):i.natAbs.log2 < 1920:=by
 have h:i.natAbs < 2 ^ 34:=by
  have:(10000000000:Int)<=2 ^ 34:=by decide
  omega
 by_cases hz:i.natAbs=0
 ·rw[hz];decide
 ·exact Nat.lt_trans ((Nat.log2_lt hz).mpr h) (by decide)
theorem sU {i:Int}(h0:0<=i)(h1:i < 10000000000):(ar (toString i)).length<=20 :=
 rf (PyProof.Rows.toString_length_le h0 (by decide:(1:Nat)<=11) (by show i < (10:Int) ^ 11;omega)) (by decide)
theorem oV {i:Int}(h0:0<=i)(h1:i < 10000000000):∃z,Bk (.int i) z/\z.length<=10000 :=
 ⟨_,.int (oU (by omega) h1),rf (sU h0 h1) (by decide)⟩
def rL (ms:List Mn):Int:=match ms.getLast? with
 |none=>-1
 |some m=>(m.k:Int)
def uh (cl:Bool)(ms:List Mn):Int:=if cl=true then (if (4:Int) > rL ms then 4 else rL ms) else rL ms
def LI (ms:List Mn):Bool:=ms.any λm=>decide (m.k=0)
def mr (ms:List Mn):Bool:=match ms.getLast? with
 |some (.chg e)=>!decide (e.k=1)
 |_=>false
def EX (ms:List Mn)(k:Nat):Bool:=if k=2 then mr ms else if k=1\/k=3\/k=4\/k=5 then LI ms else true
def yj (cl:Bool)(ms:List Mn)(k:Nat):Option Xc :=
 if (k:Int)<=uh cl ms then some (.AR (uh cl ms)) else if EX ms k=true then none else if LI ms=true then some .noChange else some .AS
theorem Ou (ms:List Mn):-1<=rL ms/\rL ms < 8:=by
 unfold rL;split
 ·omega
 ·rename_i m _;have:=m.k8;omega
theorem Iz (cl:Bool)(ms:List Mn):-1<=uh cl ms/\uh cl ms < 8:=by
 have:=Ou ms;unfold uh;split
 ·split <;> omega
 ·omega
def vo (A:Adr)(K:bo)(c:Col)(H:Hp)(B:Addr)(ms:List Mn)(os:List Addr):Prop:=SqL K H B (os.map V.ref)/\cY (λm p=>mn A c H m p) ms os
theorem mn.same {A:Adr}{c:Col}{H H':Hp}{m:Mn}{o:Addr}(s:aZ H H')(h:mn A c H m o):mn A c H' m o:=h.step (Step.same (W:=λ_=>False) id s)
theorem vo.same {A:Adr}{K:bo}{c:Col}{H H':Hp}{B:Addr}{ms:List Mn}{os:List Addr}(s:aZ H H')(h:vo A K c H B ms os):vo A K c H' B ms os:=⟨s.seq h.1,h.2.imp λ_ _ y=>y.same s⟩
def ZK (A:Adr)(K:bo):Sp:=λvs H Q _=>∃(B:Addr) (cl:Bool) (c:Col) (ms:List Mn) (os:List Addr),vs=[.ref B,.bl cl]/\vo A K c H B ms os/\Q (.int (uh cl ms)) H
def ZL (A:Adr)(K:bo):Sp:=λvs H Q _=>∃(B:Addr) (c:Col) (ms:List Mn) (os:List Addr),vs=[.ref B]/\vo A K c H B ms os/\ms.length<=1000/\∀H',aZ H H'->Q (.bl (LI ms)) H'
def Ve (A:Adr)(K:bo):Sp:=λvs H Q _=>∃(B:Addr) (c:Col) (ms:List Mn) (os:List Addr),vs=[.ref B]/\vo A K c H B ms os/\∀H',aZ H H'->Q (.bl (mr ms)) H'
def QN (A:Adr)(K:bo):Sp:=λvs H Q _=>∃(k:Nat) (B:Addr) (c:Col) (ms:List Mn) (os:List Addr),vs=[.str (nm k),.ref B]/\k < 8/\vo A K c H B ms os/\ms.length<=1000/\∀H',aZ H H'->Q (.bl (EX ms k)) H'
def ZM (A:Adr)(K:bo):Sp:=λvs H Q E=>∃(k:Nat) (B:Addr) (cl:Bool) (c:Col) (ms:List Mn) (os:List Addr),vs=[.str (nm k),.ref B,.bl cl]/\k < 8/\vo A K c H B ms os/\ms.length<=1000 /\
 (yj cl ms k=none->∀H',aZ H H'->Q .non H')/\∀x,yj cl ms k=some x->∀C d H',aZ H H'->x.New A H H' C d->E C d H'
def KL (A:Adr)(K:bo)(k:Nat):Sp:=λvs H Q E=>(k=0/\KA A K vs H Q E)\/Iu A k vs H Q E
theorem AU (pre:List Addr)(q:Addr):atI ((pre++[q]).map V.ref) (-1)=some (.ref q):=by
 rw[tu];exact qE _ _
theorem IA:∀k,k < 8->decide (V.str (nm k)=V.str (ar "matter"))=decide (k=0):=by trivial
theorem f7:∀k,k < 8->decide (V.str (nm k)=V.str (ar "change"))=decide (k=1):=by trivial
theorem iq:∀k,k < 8->decide (V.str (nm k)=V.str (ar "mend"))=decide (k=2):=by trivial
theorem kM:∀k,k < 8->decide (V.str (nm k)=V.str (ar "put off"))=decide (k=3):=by trivial
theorem AV:∀k,k < 8->decide (V.str (nm k)=V.str (ar "close"))=decide (k=4):=by trivial
theorem DI:∀k,k < 8->decide (V.str (nm k)=V.str (ar "lay"))=decide (k=5):=by trivial
theorem IB:∀k,k < 8->decide (V.str (nm k)=V.str (ar "rest"))=decide (k=6):=by trivial
theorem zq:∀ {k:Nat} {v:V},atI (rowOf k v) 0=some (.str (nm k))
 | 0,_=>rfl
 | 1,_=>rfl
 | 2,_=>rfl
 | 3,_=>rfl
 | 4,_=>rfl
 | 5,_=>rfl
 | 6,_=>rfl
 | 7,_=>rfl
 |_+8,_=>rfl
theorem QO:∀k,decide (V.str (kn k)=V.str (ar "cut"))=decide (k=1)
 | 0=>by trivial
 | 1=>by trivial
 |n+2=>by rw[decide_eq_false (show ¬n+2=1 by omega)];show decide (V.str (ar "turn")=_)=_;trivial
theorem cY.last {α β:Type}{R:α->β->Prop}{as:List α}{pre:List β}{b:β}(h:cY R as (pre++[b])):∃as' a,as=as'++[a]/\cY R as' pre/\R a b:=by
 induction pre generalizing as with
 |nil =>
  cases h with
  |cons h t=>cases t;exact⟨[],_,rfl,.nil,h⟩
 |cons x r ih =>
  cases h with
  |cons h t =>
   obtain⟨as',a,rfl,h1,h2⟩:=ih t;exact⟨_::as',a,rfl,.cons h h1,h2⟩
theorem sV (ms:List Mn)(m:Mn):rL (ms++[m])=(m.k:Int):=by unfold rL;rw[ajH]
section
variable{P:kx}{w:World}{K:bo}{mg:Str->Option Value}{base:Heap}{A:Adr}
theorem xR (T:Txt w.params K mg A):FnOk P w K mg base CX0 1 A.Am A.wC ["self","bar"] (zP A.bL "bar"):=by
 refine T.l5.ok Ad (λvs H Q E h=>?_) (λcdv A' outer s H vs Q E hr h=>?_)
 ·obtain⟨e,v,rfl,_⟩:=h;rfl
 ·obtain⟨e,v,rfl,hx,⟨z,fz,zl⟩,q⟩:=h;refine⟨_,(ao (bY (qG T.eh T.oO rfl T.cS (aa (pv 0) (aa (zO (jO (tS (pv 1) tR))) ag))))
 (ai (uW T.oO (pv 0) (pv 1)))),?_⟩
  try dsimp only[bI]
  have sz:gc=16777216:=by decide
  have c5:(ar "barred by the bar ").length=18:=by trivial
  have e5:(aiT++ar "barred by the bar ":Str).length=18:=by trivial
  refine⟨_,rfl,by rw[e5];omega,_,rfl,z,fz,by omega,by rw[len_app,e5];omega,by rw[len_app,e5];omega,e,_,rfl,hx,?_⟩
  exact⟨_,rfl,_,rfl,e,rfl,hx,λd hd=>q d hd⟩
theorem Bx (T:Txt w.params K mg A):FnOk P w K mg base CX0 1 A.t8 A.qP ["self","sitting"] (zP A.a8 "sitting"):=by
 refine T.i6.ok vY (λvs H Q E h=>?_) (λcdv A' outer s H vs Q E hr h=>?_)
 ·obtain⟨e,v,rfl,_⟩:=h;rfl
 ·obtain⟨e,v,rfl,hx,⟨z,fz,zl⟩,q⟩:=h;refine⟨_,(ao (bY (qG T.eh T.ng rfl T.cS (aa (pv 0) (aa (zO (jO (tS (pv 1) tR))) ag))))
 (ai (uW T.ng (pv 0) (pv 1)))),?_⟩
  try dsimp only[bI]
  have sz:gc=16777216:=by decide
  have c5:(ar "not later than the sitting ").length=27:=by trivial
  have e5:(aiT++ar "not later than the sitting ":Str).length=27:=by trivial
  refine⟨_,rfl,by rw[e5];omega,_,rfl,z,fz,by omega,by rw[len_app,e5];omega,by rw[len_app,e5];omega,e,_,rfl,hx,?_⟩
  exact⟨_,rfl,_,rfl,e,rfl,hx,λd hd=>q d hd⟩
theorem EY (T:Txt w.params K mg A):FnOk P w K mg base CX0 1 A.An A.wD ["self","sitting"] (zP A.dY "sitting"):=by
 refine T.l7.ok Ae (λvs H Q E h=>?_) (λcdv A' outer s H vs Q E hr h=>?_)
 ·obtain⟨e,v,rfl,_⟩:=h;rfl
 ·obtain⟨e,v,rfl,hx,⟨z,fz,zl⟩,q⟩:=h;refine⟨_,(ao (bY (qG T.eh T.sS rfl T.cS (aa (pv 0) (aa (zO (jO (tS (pv 1) tR))) ag))))
 (ai (uW T.sS (pv 0) (pv 1)))),?_⟩
  try dsimp only[bI]
  have sz:gc=16777216:=by decide
  have c5:(ar "aside until the sitting ").length=24:=by trivial
  have e5:(aiT++ar "aside until the sitting ":Str).length=24:=by trivial
  refine⟨_,rfl,by rw[e5];omega,_,rfl,z,fz,by omega,by rw[len_app,e5];omega,by rw[len_app,e5];omega,e,_,rfl,hx,?_⟩
  exact⟨_,rfl,_,rfl,e,rfl,hx,λd hd=>q d hd⟩
theorem Ov (T:Txt w.params K mg A):∀k,k < 8->FnOk P w K mg base CX0 2 (A.ft k) (A.ftd k) ["self"] (KL A K k)
 | 0,_=>(Oj T).imp λvs H Q E h=>h.elim (λz=>z.2) (λz=>absurd z.1 (by decide))
 | 1,h=>(pZ T 1 h).imp λvs H Q E h=>h.elim (λz=>absurd z.1 (by decide)) id
 | 2,h=>(pZ T 2 h).imp λvs H Q E h=>h.elim (λz=>absurd z.1 (by decide)) id
 | 3,h=>(pZ T 3 h).imp λvs H Q E h=>h.elim (λz=>absurd z.1 (by decide)) id
 | 4,h=>(pZ T 4 h).imp λvs H Q E h=>h.elim (λz=>absurd z.1 (by decide)) id
 | 5,h=>(pZ T 5 h).imp λvs H Q E h=>h.elim (λz=>absurd z.1 (by decide)) id
 | 6,h=>(pZ T 6 h).imp λvs H Q E h=>h.elim (λz=>absurd z.1 (by decide)) id
 | 7,h=>(pZ T 7 h).imp λvs H Q E h=>h.elim (λz=>absurd z.1 (by decide)) id
 |n+8,h=>absurd h (by omega)
theorem Ce (T:Txt w.params K mg A):FnOk P w K mg base CX0 3 A.HZ A.wj ["pile","closed"] (ZK A K):=by
 have Vf:∀k,k < 8->FnOk P w K mg base CX0 2 A.f_r A.Qy ["self"] (Oh A):=λ_ _=>QI T
 refine T.u9.ok B1 (λvs H Q E h=>?_) (λcdv A' outer s H vs Q E hr h=>?_)
 ·obtain⟨B,cl,c,ms,os,rfl,_⟩:=h;rfl
 ·obtain⟨B,cl,c,ms,os,rfl,⟨hB,ho⟩,q⟩:=h;refine⟨_,(ao (bg (i:=2) B1.nd rfl (aiF rfl) (D5 (qD (pv 0) (λ_=>rfl)) (ot (n:=8) (Cf:=A.C) (aW bx (pv 0) (zA tN aj) (λ_ _=>rfl)) T.cl T.Ob Vf hr T.Oc a9) (zA tN aj)))
 (ao (bX (ib (pv 1))
 (ai (aG (bK (Le rfl) (by rfl) T.Sj Um (aa (pv 2) (aa (eP (v:=V.int 4) rfl T.vd ⟨_,rfl⟩) ag)))))
 aN)
 (ai (aG (pv 2))))),?_⟩
  try dsimp only[bI]
  unfold uh at q;rcases aje os with h | ⟨pre,o,h⟩
  ·subst h;cases ho;refine⟨_,rfl,_,.inl ⟨_,hB,rfl⟩,eu ⟨_,rfl,?_⟩⟩;refine⟨_,rfl,_,rfl,?_⟩;cases cl with
   |true=>exact gS ⟨_,rfl,_,_,rfl,q⟩
   |false=>exact eu ⟨_,rfl,q⟩
  ·rw[ajf]at h;refine aT λGq gq=>?_
   subst h;obtain⟨ms',m,rfl,_,_,dx,v,hm,_⟩:=ho.last;rw[sV]at q;refine gq ?_;refine⟨_,rfl,_,.inl ⟨_,hB,rfl⟩,Ek (by simp) ⟨_,rfl,_,rfl,B,_,_,_,rfl,rfl,hB,AU pre o,m.k,m.k8,o,dx,_,rfl,hm,QE m.k v,o,m.k,dx,_,m.k8,rfl,hm,lB m.k v,?_⟩⟩
   refine⟨_,rfl,_,rfl,?_⟩;cases cl with
   |true=>exact gS ⟨_,rfl,_,_,rfl,q⟩
   |false=>exact eu ⟨_,rfl,q⟩
theorem tH (T:Txt w.params K mg A):FnOk P w K mg base CX0 2 A.tW A.ny ["pile"] (ZL A K):=by
 have gH:∀k,k < 8->FnOk P w K mg base CX0 1 (A.fk k) (A.fkd k) ["self"] (f6 k):=lC T;refine T.lz.ok Br (λvs H Q E h=>?_) (λcdv A' outer s H vs Q E hr h=>?_)
 ·obtain⟨B,c,ms,os,rfl,_⟩:=h;rfl
 ·obtain⟨B,c,ms,os,rfl,⟨hB,ho⟩,hl,q⟩:=h;refine⟨_,(ai (aG (bK (Na rfl) (by rfl) T.Sk Uo (aa (sE (scope:=oz) yg rfl (pG (pv 0)) (λ_ _ _ _ _=>(cF bD (ot (n:=8) (Cf:=A.C) (pv 0) T.cl T.nD gH hr T.nF a9) aq (aJ _)))) ag)))),?_⟩
  try dsimp only[bI]
  have lim:gc=16777216:=by decide
  have ol:=ho.len;refine⟨_,rfl,B,rfl,⟨_,hB⟩,λR hR=>?_⟩
  have sR:∀ {o:HO},aZ H (upd H R o):=aI hR;refine vV (K:=K) (a:=B) (xs:=os.map V.ref) (λi ys H2=>ys=(ms.take i).map (λm=>V.bl (decide (m.k=0)))/\H2=upd H R (.lst ys)) ⟨rfl,rfl⟩ (by rw[da];omega) ?_ ?_ ?_
  ·rintro i ys H2 hi ⟨rfl,rfl⟩;rw[da]at hi;exact⟨sR.seq hB,ae,by rw[da,ai4];omega⟩
  ·rintro i y ys H2 hy ⟨rfl,rfl⟩;refine aT λGq gq=>?_
   have hi:i < ms.length:=by have:=(List.getElem?_eq_some_iff.mp hy).1;rw[da]at this;omega
   obtain⟨o,ho1,_,dx,v,ho2,_⟩:=ho.get (aiG hi);rw[aiY,ho1]at hy;cases hy;refine gq ?_;refine⟨_,rfl,ms[i].k,ms[i].k8,o,dx,_,rfl,sR _ _ ho2,lB _ v,o,rfl,rfl,?_⟩;rw[IA _ ms[i].k8];refine fB.mk (by rw[da];omega) ae ⟨?_,by rw[mR]⟩
   rw[List.take_succ,aiG hi,tu];rfl
  ·rintro ys H2 ⟨rfl,rfl⟩;rw[da,<-ol,ajl];refine⟨R,ms.map (λm=>decide (m.k=0)),rfl,SqL.of (by rw[ae,List.map_map];rfl),?_⟩
   rw[List.any_map];exact q _ sR
theorem wY (T:Txt w.params K mg A):FnOk P w K mg base CX0 3 A.nz A.jl ["pile"] (Ve A K):=by
 have Vg:∀k,k < 8->FnOk P w K mg base CX0 2 (A.ft k) (A.ftd k) ["self"] (KL A K k):=Ov T;refine T.kJ.ok oB (λvs H Q E h=>?_) (λcdv A' outer s H vs Q E hr h=>?_)
 ·obtain⟨B,c,ms,os,rfl,_⟩:=h;rfl
 ·obtain⟨B,c,ms,os,rfl,⟨hB,ho⟩,q⟩:=h;refine⟨_,(ao (bX (pD (qD (pv 0) (λ_=>rfl)))
 (ai (aG oh))
 aN)
 (ao (bg (i:=1) oB.nd rfl (aiF rfl) (ot (n:=8) (Cf:=A.C) (aW bx (pv 0) (zA tN aj) (λ_ _=>rfl)) T.cl T.N9 Vg hr T.Oa a9))
 (ai (aG (pE (cF bD (aW bE (pv 1) aj (λ_ _=>rfl)) aq (aJ _)) (lO (cF D9 (aW bE (aW bE (pv 1) aj (λ_ _=>rfl)) aj (λ_ _=>rfl)) aq (aJ _)))))))),?_⟩
  try dsimp only[bI]
  rcases aje os with h | ⟨pre,o,h⟩
  ·subst h;cases ho;refine⟨_,rfl,_,.inl ⟨_,hB,rfl⟩,gS ?_⟩;exact q H (aZ.refl _)
  ·rw[ajf]at h;subst h;refine⟨_,rfl,_,.inl ⟨_,hB,rfl⟩,Kk (by simp) ?_⟩
   refine aT λGq gq=>?_
   obtain⟨ms',m,rfl,_,_,dx,v,hm,hv⟩:=ho.last;have gl:(ms'++[m]).getLast?=some m:=ajH;unfold mr at q;rw[gl]at q;refine gq ?_;refine⟨_,rfl,_,rfl,B,_,_,_,rfl,rfl,hB,AU pre o,m.k,m.k8,o,dx,_,rfl,hm,QG m.k v,?_⟩
   by_cases h0:m.k=0
   ·obtain⟨tx,rfl⟩:∃tx,m=.mat tx:=by cases m <;> first | exact⟨_,rfl⟩ | exact absurd h0 (by simp[Mn.k])
    refine aT λGq gq=>?_
    obtain⟨p,rfl,_,hp⟩:=hv;refine gq ?_;refine .inl ⟨rfl,o,dx,p,tx.map V.str,rfl,hm,SqL.of hp,λp2 u hp2 hu npu=>?_⟩
    have nu:(upd H p2 (.lst (tx.map V.str))) u=none:=(av (aiD npu)).trans hu;refine ixv rfl (SqT.of ae) rfl ⟨rfl,_,rfl,?_⟩;rw[f7 0 (by decide)]
    exact eu (q _ ((aI hp2).new nu))
   ·refine .inr ⟨by omega,o,dx,v,rfl,hm,λu hu=>?_⟩
    have su:=aI (o:=.tup (rowOf m.k v)) hu;refine ixv rfl (SqT.of ae) zq ⟨rfl,_,rfl,?_⟩;rw[f7 m.k m.k8]
    by_cases h1:m.k=1
    ·obtain⟨e,rfl⟩:∃e,m=.chg e:=by cases m <;> first | exact⟨_,rfl⟩ | exact absurd h1 (by simp[Mn.k])
     refine aT λGq gq=>?_
     obtain⟨t,rfl,ht⟩:=hv;refine gq ?_;refine Ek (decide_eq_true rfl) (ixv rfl (SqT.of ae) rfl ⟨t,_,_,_,rfl,rfl,eA su ht.sq,Dt e,rfl,?_⟩);rw[QO];exact q _ su
    ·rw[decide_eq_false h1];have q':∀H',aZ H H'->Q (.bl false) H':=by
      cases m with
      |chg e=>exact absurd rfl h1
      |_=>exact q
     exact eu (q' _ su)
theorem rM (T:Txt w.params K mg A):FnOk P w K mg base CX0 4 A.iU A.gx ["kind","pile"] (QN A K):=by
 refine T.gX.ok qJ (λvs H Q E h=>?_) (λcdv A' outer s H vs Q E hr h=>?_)
 ·obtain⟨k,B,c,ms,os,rfl,_⟩:=h;rfl
 ·obtain⟨k,B,c,ms,os,rfl,k8,hp,hl,q⟩:=h;refine⟨_,(ao (bX (aO bD (pv 0) aq (aJ _))
 (ai (aG (bw (wY T) hr rfl T.ql T.kJ.kp T.qk .nil a9 (aa (pv 1) ag))))
 aN)
 (ao (bX (aO vU (pv 0) (cZ (aa aq (aa aq (aa aq (aa aq ag))))) rfl)
 (ai (aG (bw (tH T) (hr.mono (by decide)) rfl T.pV T.lz.kp T.pU .nil a9 (aa (pv 1) ag))))
 aN)
 (ai (aG oh)))),?_⟩
  try dsimp only[bI]
  refine⟨_,rfl,rfl,_,rfl,?_⟩;rw[iq k k8];unfold EX at q
  by_cases h2:k=2
  ·rw[if_pos h2]at q;exact Ek (decide_eq_true h2) ⟨_,rfl,B,c,ms,os,rfl,hp,q⟩
  ·rw[if_neg h2]at q;refine Kk (decide_eq_false h2) ?_;refine⟨_,rfl,(sl 4),λt ht=>?_⟩
   have st:=aI (o:=.tup [V.str (ar "change"),V.str (ar "put off"),V.str (ar "close"),V.str (ar "lay")]) ht;refine⟨t,_,rfl,.inr (SqT.of ae),rfl,rfl,_,rfl,?_⟩;have ein:(if false=true then !inV (V.str (nm k)) [V.str (ar "change"),V.str (ar "put off"),V.str (ar "close"),V.str (ar "lay")] else inV (V.str (nm k)) [V.str (ar "change"),V.str (ar "put off"),V.str (ar "close"),V.str (ar "lay")])=decide (k=1\/k=3\/k=4\/k=5):=by
    have:∀k,k < 8->inV (V.str (nm k)) [V.str (ar "change"),V.str (ar "put off"),V.str (ar "close"),V.str (ar "lay")]=decide (k=1\/k=3\/k=4\/k=5):=by trivial
    exact this k k8
   rw[ein]
   by_cases h3:k=1\/k=3\/k=4\/k=5
   ·rw[if_pos h3]at q;exact Ek (decide_eq_true h3) ⟨_,rfl,B,c,ms,os,rfl,hp.same st,hl,λH' s'=>q H' (st.trans s')⟩
   ·rw[if_neg h3]at q;exact Kk (decide_eq_false h3) (q _ st)
theorem tf (T:Txt w.params K mg A):FnOk P w K mg base (CXX P w) 5 A.jm A.gW ["kind","pile","closed"] (ZM A K):=by
 refine T.ip.okX kR (λvs H Q E h=>?_) (λcdv A' outer s H vs Q E hr h=>?_)
 ·obtain⟨k,B,cl,c,ms,os,rfl,_⟩:=h;rfl
 ·obtain⟨k,B,cl,c,ms,os,rfl,k8,hp,hl,q,qx⟩:=h;refine⟨_,(au (psx (bg (i:=3) kR.nd rfl (aiF rfl) (bw (Ce T) (hr.mono (by decide)) rfl T.Aq T.u9.kp T.Ao .nil a9 (aa (pv 1) (aa (pv 2) ag)))))
 (au (dE (aO xn (aW M9 (eP (v:=V.ref A.tab) rfl T.Dq rfl) (pv 0) (λ_ _=>rfl)) (pv 3) (aJ _))
 (aL (lQ T.oO (xR T) (hr.mono (by decide)) T.l6 rfl rfl T.vi (aa (pv 3) ag)))
 (mQ aN))
 (aL (dE (pD (ib (bw (rM T) hr rfl T.kT T.gX.kp T.kS .nil a9 (aa (pv 0) (aa (pv 1) ag)))))
 (au (dE (ib (bw (tH T) (hr.mono (by decide)) rfl T.pV T.lz.kp T.pU .nil a9 (aa (pv 1) ag)))
 (aL (lF T.xQ rfl rfl T.AA (aa aq ag)))
 (mQ aN))
 (aL (lF T.xP rfl rfl T.Az (aa (zO (tS (pv 0) (jO tR))) ag))))
 (mQ aN))))),?_⟩
  try dsimp only[bI]
  refine⟨_,rfl,_,rfl,B,cl,c,ms,os,rfl,hp,?_⟩;obtain⟨tk,htk⟩:=T.rk k k8;refine⟨_,rfl,A.tab,nm k,.int k,_,rfl,rfl,T.tb,htk,⟨_,rfl⟩,_,rfl,_,_,rfl,rfl,_,rfl,gU (λe=>?_) (λe=>?_)⟩
  ·have e':(k:Int)<=uh cl ms:=of_decide_eq_true e;have hb:=Iz cl ms;refine⟨_,rfl,_,rfl,oV (by omega) (by omega),λd hd=>qx (.AR (uh cl ms)) (by unfold yj;rw[if_pos e']) _ _ _ (aI hd) ⟨⟨rfl,d,rfl,ae⟩,λ_ z=>by cases z;exact hd⟩⟩
  ·have e':¬(k:Int)<=uh cl ms:=λz=>e (decide_eq_true z)
   unfold yj at q qx;rw[if_neg e']at q qx;refine⟨_,rfl,_,rfl,k,B,c,ms,os,rfl,k8,hp,hl,λH' s'=>⟨_,rfl,?_⟩⟩
   cases hn:EX ms k with
   |true =>
    rw[hn,if_pos rfl]at q;exact eu (q rfl _ s')
   |false =>
    rw[hn,if_neg kg]at qx;refine gS ⟨_,rfl,B,c,ms,os,rfl,hp.same s',hl,λH2 s2=>⟨_,rfl,?_⟩⟩
    cases hm:LI ms with
    |true =>
     rw[hm,if_pos rfl]at qx;exact gS ⟨by decide,qx _ rfl _ _ _ (s'.trans s2) ⟨⟨rfl,rfl⟩,λ_ z=>nomatch z⟩⟩
    |false =>
     rw[hm,if_neg kg]at qx;refine eu ⟨_,rfl,nm k,.str,?_,?_,?_⟩
     ·have:∀k,k < 8->(nm k).length<=10:=by trivial
      exact rf (this k k8) (by decide)
     ·have:∀k,k < 8->(aiT++nm k:Str).length<=10:=by trivial
      exact rf (this k k8) (by decide)
     ·have:∀k,k < 8->((aiT++nm k)++ar " needs a matter on the pile":Str).length<=100:=by trivial
      have l:=rf (this k k8) (show 100<=gc by decide)
      exact⟨l,l,(sl 1),qx _ rfl _ _ _ (s'.trans s2) ⟨⟨rfl,rfl⟩,λ_ z=>nomatch z⟩⟩
theorem ju (T:Txt w.params K mg A):FnOk P w K mg base CX0 1 A.f_n A.Di ["self"] (Dx 0):=by
 refine T.F_n.ok zV (λvs H Q E h=>?_) (λcdv A' outer s H vs Q E hr h=>?_)
 ·obtain⟨m,rfl,_⟩:=h;rfl
 ·obtain⟨m,rfl,q⟩:=h;exact⟨_,(ai (aG aq)),q⟩
theorem LJ (T:Txt w.params K mg A):FnOk P w K mg base CX0 1 A.UO A.NP ["self"] (Dx 4):=by
 refine T.Zv.ok Bo (λvs H Q E h=>?_) (λcdv A' outer s H vs Q E hr h=>?_)
 ·obtain⟨m,rfl,_⟩:=h;rfl
 ·obtain⟨m,rfl,q⟩:=h;exact⟨_,(ai (aG aq)),q⟩
theorem QP (T:Txt w.params K mg A):∀k,k < 8->FnOk P w K mg base CX0 1 (A.fn k) (A.fnd k) ["self"] (Dx k)
 | 0,_=>ju T
 | 1,_=>ju T
 | 2,_=>ju T
 | 3,_=>ju T
 | 4,_=>LJ T
 | 5,_=>ju T
 | 6,_=>ju T
 | 7,_=>ju T
 |n+8,h=>absurd h (by omega)
end
theorem lE {a b:Nat}:((om (a:Int):Key)=om (b:Int))↔a=b:=⟨λh=>by have:=Sum.inl.inj h;omega,λh=>by rw[h]⟩
theorem dF {k:Nat}{v:V}{ks:List Nat}{vs:List V}:bh ((k::ks).zip (v::vs))=(om (k:Int),v)::bh (ks.zip vs):=rfl
theorem ui {n:Nat}:∀ {ks:List Nat} {vs:List V},n∉ks->jP (bh (ks.zip vs)) (om (n:Int))=none
 |[],_,_=>rfl
 |_::_,[],_=>rfl
 |k::ks,v::vs,h=>by
  rw[dF,iQ (λz=>h (by rw[lE.mp z];exact kb))]
  exact ui λz=>h (kj _ z)
theorem Cg {n:Nat}{v:V}:∀ {ks:List Nat} {vs:List V} {j:Nat},ks.Nodup->ks[j]?=some n->vs[j]?=some v->jP (bh (ks.zip vs)) (om (n:Int))=some v
 |[],_,_,_,h,_=>by simp at h
 |_::_,[],_,_,_,h=>by simp at h
 |k::ks,u::vs,0,_,h,g=>by
  rw[ajJ]at h g;cases h;cases g;exact lR rfl
 |k::ks,u::vs,j+1,nd,h,g=>by
  rw[ajK]at h g;obtain⟨n1,n2⟩:=List.nodup_cons.mp nd;rw[dF,iQ (λz=>n1 (by rw[lE.mp z];exact aiK h))]
  exact Cg n2 h g
theorem vp {n:Nat}{v:V}:∀ {ks:List Nat} {vs:List V},n∉ks->(bh (ks.zip vs)).map (λkv=>if kv.1=(om (n:Int):Key) then (kv.1,v) else kv)=bh (ks.zip vs)
 |[],_,_=>rfl
 |_::_,[],_=>rfl
 |k::ks,u::vs,h=>by
  rw[dF,ra,vp λz=>h (kj _ z),if_neg (λz=>h (by rw[lE.mp z];exact kb))]
theorem Ci {n:Nat}{v:V}:∀ {ks:List Nat} {vs:List V} {j:Nat},ks.Nodup->ks[j]?=some n->(bh (ks.zip vs)).map (λkv=>if kv.1=(om (n:Int):Key) then (kv.1,v) else kv)=bh (ks.zip (vs.set j v))
 |[],_,_,_,h=>by simp at h
 |k::ks,[],_,_,_=>by simp[bh]
 |k::ks,u::vs,0,nd,h=>by
  rw[ajJ]at h;cases h;rw[dF,ra,vp (List.nodup_cons.mp nd).1,if_pos rfl];rfl
 |k::ks,u::vs,j+1,nd,h=>by
  rw[ajK]at h;obtain⟨n1,n2⟩:=List.nodup_cons.mp nd;rw[dF,ra,Ci n2 h,if_neg (λz=>n1 (by rw[lE.mp z];exact aiK h))]
  rfl
theorem LK {n:Nat}{v:V}{ks:List Nat}{vs:List V}{j:Nat}(nd:ks.Nodup)(h:ks[j]?=some n)(l:ks.length=vs.length):putK (bh (ks.zip vs)) (om (n:Int)) v=bh (ks.zip (vs.set j v)):=by
 have hj:j < vs.length:=by rw[<-l];exact(List.getElem?_eq_some_iff.mp h).1
 unfold putK;rw[uX,Cg nd h (aiG hj)];exact(if_pos rfl).trans (Ci nd h)
theorem sW {n:Nat}{v:V}{ks:List Nat}{vs:List V}(h:n∉ks)(l:ks.length=vs.length):putK (bh (ks.zip vs)) (om (n:Int)) v=bh ((ks++[n]).zip (vs++[v])):=by
 rw[NB v (ui h),List.zip_append l];unfold bh;rw[tu];rfl
section
variable{β:Type}{R:Nat×β->V->Prop}
def at1 (n:Nat)(xs:List (Nat×β)):Option (Nat×β):=xs.find? λx=>decide (x.1=n)
theorem qa {n:Nat}{xs:List (Nat×β)}{x:Nat×β}(h:at1 n xs=some x):x.1=n/\x∈xs:=by
 unfold at1 at h;have:=List.find?_some h;exact⟨of_decide_eq_true this,List.mem_of_find?_eq_some h⟩
theorem EZ {n:Nat}{xs:List (Nat×β)}(h:at1 n xs=none):n∉xs.map (·.1):=λz=>by
 obtain⟨x,hx,e⟩:=List.mem_map.mp z;have:=List.find?_eq_none.mp h x hx;exact this (decide_eq_true e)
theorem cY.val {n:Nat}:∀ {xs:List (Nat×β)} {ws:List V} {x:Nat×β},cY R xs ws->at1 n xs=some x->∃v,jP (bh ((xs.map (·.1)).zip ws)) (om (n:Int))=some v/\R x v
 |_,_,_,.nil,h=>nomatch h
 |y::xs,w::ws,x,.cons g t,h=>by
  unfold at1 at h;rw[ajN]at h
  by_cases e:y.1=n
  ·rw[decide_eq_true e]at h;cases h;exact⟨w,by rw[ra,dF];exact lR (lE.mpr e),g⟩
  ·rw[decide_eq_false e]at h;obtain⟨v,h1,h2⟩:=cY.val t h;exact⟨v,by rw[ra,dF,iQ (λz=>e (lE.mp z))];exact h1,h2⟩
theorem cY.drop {n:Nat}:∀ {xs:List (Nat×β)} {ws:List V},cY R xs ws->∃ws',kQ (bh ((xs.map (·.1)).zip ws)) (om (n:Int))=bh (((xs.filter λx=>decide (x.1≠n)).map (·.1)).zip ws')/\cY R (xs.filter λx=>decide (x.1≠n)) ws'
 |_,_,.nil=>⟨[],rfl,.nil⟩
 |y::xs,w::ws,.cons g t=>by
  obtain⟨ws',h1,h2⟩:=cY.drop (n:=n) t
  by_cases e:y.1=n
  ·refine⟨ws',?_,?_⟩
   ·rw[List.filter_cons_of_neg (by simp[e]),<-h1,ra,dF]
    unfold kQ;rw[List.filter_cons_of_neg (by simp[e])]
   ·rw[List.filter_cons_of_neg (by simp[e])];exact h2
  ·refine⟨w::ws',?_,?_⟩
   ·rw[List.filter_cons_of_pos (by simp[e]),ra,ra,dF,dF,<-h1]
    unfold kQ;have hne:(om (y.1:Int):Key)≠om (n:Int):=λz=>e (lE.mp z)
    rw[List.filter_cons_of_pos (by exact decide_eq_true hne)]
   ·rw[List.filter_cons_of_pos (by simp[e])];exact .cons g h2
theorem cY.ZN {R':Nat×β->V->Prop}{n:Nat}{f:Nat×β->Nat×β}{v:V}(h1:∀x,x.1=n->R x v->R' (f x) v)(h2:∀x u,x.1≠n->R x u->R' x u):∀ {xs:List (Nat×β)} {ws:List V},cY R xs ws->(xs.map (·.1)).Nodup->jP (bh ((xs.map (·.1)).zip ws)) (om (n:Int))=some v ->
  cY R' (xs.map λx=>if x.1=n then f x else x) ws
 |_,_,.nil,_,h=>nomatch h
 |y::xs,w::ws,.cons g t,nd,h=>by
  rw[ra]at nd;obtain⟨n1,n2⟩:=List.nodup_cons.mp nd;rw[ra,dF]at h;rw[ra]
  by_cases e:y.1=n
  ·rw[lR (lE.mpr e)]at h;cases h;rw[if_pos e];refine .cons (h1 y e g) ?_;have hne:∀x∈xs,x.1≠n:=λx hx z=>n1 (by rw[e,<-z];exact List.mem_map_of_mem hx)
   have em:xs.map (λx=>if x.1=n then f x else x)=xs:=by
    have:xs.map (λx=>if x.1=n then f x else x)=xs.map id:=aj4 λx hx=>if_neg (hne x hx)
    rw[this,List.map_id]
   rw[em];exact t.imp_mem λx hx u=>h2 x u (hne x hx)
  ·rw[iQ (λz=>e (lE.mp z))]at h
   rw[if_neg e];exact .cons (h2 y w e g) (cY.ZN h1 h2 t n2 h)
end
theorem cY.set {α β:Type}{R:α->β->Prop}:∀ {as:List α} {bs:List β} {a:α} {b:β} (j:Nat),cY R as bs->R a b->cY R (as.set j a) (bs.set j b)
 |_,_,_,_,_,.nil,_=>.nil
 |_,_,_,_,0,.cons _ t,h=>.cons h t
 |_,_,_,_,j+1,.cons g t,h=>.cons g (t.set j h)
def pOb:Rl->Bool | .ob=>true | _=>false
def Sm:Rl->Bool | .rows=>true | _=>false
def KN:Rl->Bool | .made=>true | _=>false
def Sn:Rl->Bool | .aH=>true | _=>false
def ZO:Rl->Bool | .ob=>true | .aH=>true | .aU=>true | _=>false
def So (n:Nat):Rl->Bool | .rD m=>decide (m=n) | _=>false
def ZP:Rl->Bool | .firsts=>true | _=>false
def ZQ:Rl->Bool | .kept=>true | _=>false
def Sq (n:Nat):Rl->Bool | .ob=>true | .aU=>true | .mi m=>decide (m=n) | _=>false
theorem rN {i:Nat}{c:Col}{a b:Addr}{r r':Rl}(h:c a=some (i,r))(h':c b=some (i,r'))(n:r≠r'):a≠b:=λz=>by
 rw[z,h']at h;cases h;exact n rfl
section
variable{A:Adr}{i:Nat}{c c':Col}{H H':Hp}{o dx aM aP aA aD aF aE aR:Addr}{st:Ch}{ms ds:List Addr}{ws fs es:List V}
theorem ChX.free {W:Option (Nat×Rl)->Prop}(h:∀r,¬W (some (i,r)))(s:Step W c c' H H')(X:ChX A i c H o st dx aM aP aA aD aF aE aR ms ds ws fs es):ChX A i c' H' o st dx aM aP aA aD aF aE aR ms ds ws fs es:=by
 have hn:¬W (c o):=by rw[X.co];exact h _
 refine⟨by rw[s.col o _ X.ob hn];exact X.co,s.keep _ _ X.ob hn,X.made.keep (h _) s,rG s X.mot,X.aH.keep (h _) s,X.aU.keep (h _) s,X.wait.imp ?_,X.dec.keep (h _) s,rH s X.AM,X.firsts.keep (h _) s,X.first.imp ?_,X.jW.keep (h _) s,X.kept.imp ?_,X.rows.keep (h _) s⟩
 ·rintro x v ⟨t,p,e,z1,z2⟩;exact⟨t,p,e,z1.step s,z2.keep (h _) s⟩
 ·rintro x v ⟨p,e,z⟩;exact⟨p,e,z.keep (h _) s⟩
 ·rintro x v ⟨p,ts,e,z1,z2⟩;exact⟨p,ts,e,z1.keep (h _) s,z2.imp λ_ _ y=>y.step s⟩
theorem ChX.same (s:aZ H H')(X:ChX A i c H o st dx aM aP aA aD aF aE aR ms ds ws fs es):ChX A i c H' o st dx aM aP aA aD aF aE aR ms ds ws fs es:=X.free (W:=λ_=>False) (λ_=>id) (Step.same id s)
theorem ChX.cl (s:aZ H H')(X:ChX A i c H o st dx aM aP aA aD aF aE aR ms ds ws fs es):ChX A i (eM c H) H' o st dx aM aP aA aD aF aE aR ms ds ws fs es:=X.free (W:=λ_=>False) (λ_=>id) (Step.cl id s)
theorem ChX.at (X:ChX A i c H o st dx aM aP aA aD aF aE aR ms ds ws fs es):eN A i c H o st:=⟨_,_,_,_,_,_,_,_,_,_,_,_,_,X⟩
theorem ChX.attr (X:ChX A i c H o st dx aM aP aA aD aF aE aR ms ds ws fs es)(n:Int)(b:Bool) :
  Step (Wr i pOb) c c H (upd H o (.ins A.ak dx (chF (.int st.cW) (.int n) (.bl b) (.ref aM) (.ref aP) (.ref aA) (.ref aD) (.ref aF) (.ref aE) (.ref aR)))) /\
  ChX A i c (upd H o (.ins A.ak dx (chF (.int st.cW) (.int n) (.bl b) (.ref aM) (.ref aP) (.ref aA) (.ref aD) (.ref aF) (.ref aE) (.ref aR)))) o { st with bf:=n,closed:=b } dx aM aP aA aD aF aE aR ms ds ws fs es:=by
 have s:Step (Wr i pOb) c c H (upd H o (.ins A.ak dx (chF (.int st.cW) (.int n) (.bl b) (.ref aM) (.ref aP) (.ref aA) (.ref aD) (.ref aF) (.ref aE) (.ref aR)))):=Step.upd Wr.nn (Wr.yes X.co rfl);exact⟨s,X.co,ae,X.made.kp rfl s,rG s X.mot,X.aH.kp rfl s,X.aU.kp rfl s,tF (λ_ _=>rfl) s X.wait,X.dec.kp rfl s,rH s X.AM,X.firsts.kp rfl s,tG (λ_ _=>rfl) s X.first,X.jW.kp rfl s,vm (λ_ _=>rfl) s X.kept,X.rows.kp rfl s⟩
theorem ChX.row (X:ChX A i c H o st dx aM aP aA aD aF aE aR ms ds ws fs es)(z:Str) :
  Step (Wr i Sm) c c H (upd H aR (.lst (st.rows.map V.str++[.str z])))/\ChX A i c (upd H aR (.lst (st.rows.map V.str++[.str z]))) o { st with rows:=st.rows++[z] } dx aM aP aA aD aF aE aR ms ds ws fs es:=by
 have s:Step (Wr i Sm) c c H (upd H aR (.lst (st.rows.map V.str++[.str z]))):=Step.upd Wr.nn (Wr.yes X.rows.1 rfl);have k:=uf rfl s X.co X.ob;exact⟨s,k.1,k.2,X.made.kp rfl s,rG s X.mot,X.aH.kp rfl s,X.aU.kp rfl s,tF (λ_ _=>rfl) s X.wait,X.dec.kp rfl s,rH s X.AM,X.firsts.kp rfl s,tG (λ_ _=>rfl) s X.first,X.jW.kp rfl s,vm (λ_ _=>rfl) s X.kept,X.rows.1,by rw[ae,tu];rfl⟩
theorem ChX.push (X:ChX A i c H o st dx aM aP aA aD aF aE aR ms ds ws fs es)(n:Nat) :
  Step (Wr i Sn) c c H (upd H aP (.lst (st.aH.map nV++[nV n])))/\ChX A i c (upd H aP (.lst (st.aH.map nV++[nV n]))) o { st with aH:=st.aH++[n] } dx aM aP aA aD aF aE aR ms ds ws fs es:=by
 have s:Step (Wr i Sn) c c H (upd H aP (.lst (st.aH.map nV++[nV n]))):=Step.upd Wr.nn (Wr.yes X.aH.1 rfl);have k:=uf rfl s X.co X.ob;exact⟨s,k.1,k.2,X.made.kp rfl s,rG s X.mot,⟨X.aH.1,by rw[ae,tu];rfl⟩,X.aU.kp rfl s,tF (λ_ _=>rfl) s X.wait,X.dec.kp rfl s,rH s X.AM,X.firsts.kp rfl s,tG (λ_ _=>rfl) s X.first,X.jW.kp rfl s,vm (λ_ _=>rfl) s X.kept,X.rows.kp rfl s⟩
theorem Ow {n k:Nat}(h1:1<=n)(h2:n<=k):(ai0 1 k)[n - 1]?=some n:=by
 rw[List.getElem?_range' (by omega)]
 congr 1
 omega
theorem ChX.KO (X:ChX A i c H o st dx aM aP aA aD aF aE aR ms ds ws fs es){n:Nat}{m:Mn}{x:Addr}(hn:ja st n)(hm:mn A c H m x) :
  Step (Wr i KN) c c H (upd H aM (.dK (putK (bh ((ai0 1 st.made.length).zip (ms.map V.ref))) (om (n:Int)) (.ref x)))) /\
  ChX A i c (upd H aM (.dK (putK (bh ((ai0 1 st.made.length).zip (ms.map V.ref))) (om (n:Int)) (.ref x)))) o { st with made:=st.made.set (n - 1) m } dx aM aP aA aD aF aE aR (ms.set (n - 1) x) ds ws fs es:=by
 have s:Step (Wr i KN) c c H (upd H aM (.dK (putK (bh ((ai0 1 st.made.length).zip (ms.map V.ref))) (om (n:Int)) (.ref x)))):=Step.upd Wr.nn (Wr.yes X.made.1 rfl);have k:=uf rfl s X.co X.ob;have ml:=X.mot.len;have e:=LK (v:=.ref x) (List.nodup_range' (s:=1) (n:=st.made.length)) (Ow hn.1 hn.2) (vs:=ms.map V.ref) (by rw[ajD,da];exact ml)
 have hd:jV i c (upd H aM (.dK (putK (bh ((ai0 1 st.made.length).zip (ms.map V.ref))) (om (n:Int)) (.ref x)))) .made aM ((ai0 1 (st.made.set (n - 1) m).length).zip ((ms.set (n - 1) x).map V.ref)) :=
  ⟨X.made.1,by rw[ae,e,ajM,List.map_set]⟩
 exact⟨s,k.1,k.2,hd,(rG s X.mot).set _ (hm.step s),X.aH.kp rfl s,X.aU.kp rfl s,tF (λ_ _=>rfl) s X.wait,X.dec.kp rfl s,rH s X.AM,X.firsts.kp rfl s,tG (λ_ _=>rfl) s X.first,X.jW.kp rfl s,vm (λ_ _=>rfl) s X.kept,X.rows.kp rfl s⟩
theorem ChX.QQ (X:ChX A i c H o st dx aM aP aA aD aF aE aR ms ds ws fs es){m:Mn}{x:Addr}(hm:mn A c H m x) :
  Step (Wr i KN) c c H (upd H aM (.dK (putK (bh ((ai0 1 st.made.length).zip (ms.map V.ref))) (om ((st.made.length+1:Nat):Int)) (.ref x)))) /\
  ChX A i c (upd H aM (.dK (putK (bh ((ai0 1 st.made.length).zip (ms.map V.ref))) (om ((st.made.length+1:Nat):Int)) (.ref x)))) o { st with made:=st.made++[m] } dx aM aP aA aD aF aE aR (ms++[x]) ds ws fs es:=by
 have s:Step (Wr i KN) c c H (upd H aM (.dK (putK (bh ((ai0 1 st.made.length).zip (ms.map V.ref))) (om ((st.made.length+1:Nat):Int)) (.ref x)))):=Step.upd Wr.nn (Wr.yes X.made.1 rfl);have k:=uf rfl s X.co X.ob;have ml:=X.mot.len;have e:=sW (v:=.ref x) (n:=st.made.length+1) (ks:=ai0 1 st.made.length) (vs:=ms.map V.ref) (by rw[List.mem_range'_1];omega) (by rw[ajD,da];exact ml)
 have hd:jV i c (upd H aM (.dK (putK (bh ((ai0 1 st.made.length).zip (ms.map V.ref))) (om ((st.made.length+1:Nat):Int)) (.ref x)))) .made aM ((ai0 1 (st.made++[m]).length).zip ((ms++[x]).map V.ref)) :=
  ⟨X.made.1,by rw[ae,e,ki,aiw,List.range'_concat,tu,Nat.one_mul,Nat.add_comm 1];rfl⟩
 exact⟨s,k.1,k.2,hd,(rG s X.mot).snoc (hm.step s),X.aH.kp rfl s,X.aU.kp rfl s,tF (λ_ _=>rfl) s X.wait,X.dec.kp rfl s,rH s X.AM,X.firsts.kp rfl s,tG (λ_ _=>rfl) s X.first,X.jW.kp rfl s,vm (λ_ _=>rfl) s X.kept,X.rows.kp rfl s⟩
def E1 (n:Nat)(e:Ed)(xs:List (Nat×List Ed)):List (Nat×List Ed):=xs.map λx=>if x.1=n then (x.1,x.2++[e]) else x
theorem ChX.Vh (X:ChX A i c H o st dx aM aP aA aD aF aE aR ms ds ws fs es){n:Nat}{x:Nat×List Ed}(hx:at1 n st.kept=some x):∃(p:Addr) (ts:List Addr),jP (bh ((st.kept.map (·.1)).zip es)) (om (n:Int))=some (.ref p)/\LstAt i c H (.rD n) p (ts.map V.ref)/\ts.length=x.2.length:=by
 obtain⟨v,h1,p,ts,rfl,h2,h3⟩:=X.kept.val hx;rw[(qa hx).1]at h2;exact⟨p,ts,h1,h2,h3.len.symm⟩
theorem ChX.QR (X:ChX A i c H o st dx aM aP aA aD aF aE aR ms ds ws fs es){n:Nat}{e:Ed}{t p:Addr}{ts:List Addr}(hv:jP (bh ((st.kept.map (·.1)).zip es)) (om (n:Int))=some (.ref p))(hl:LstAt i c H (.rD n) p (ts.map V.ref))(nd:(st.kept.map (·.1)).Nodup)(ht:TupAt c H t (i8 e)) :
  Step (Wr i (So n)) c c H (upd H p (.lst (ts.map V.ref++[.ref t])))/\ChX A i c (upd H p (.lst (ts.map V.ref++[.ref t]))) o { st with kept:=E1 n e st.kept } dx aM aP aA aD aF aE aR ms ds ws fs es:=by
 have s:Step (Wr i (So n)) c c H (upd H p (.lst (ts.map V.ref++[.ref t]))):=Step.upd Wr.nn (Wr.yes hl.1 (decide_eq_true rfl));have k:=uf rfl s X.co X.ob;have ek:(E1 n e st.kept).map (·.1)=st.kept.map (·.1):=by
  unfold E1;rw[List.map_map];refine aj4 λx _=>?_
  show (if x.1=n then (x.1,x.2++[e]) else x).1=x.1
  split <;> rfl
 refine⟨s,k.1,k.2,X.made.kp rfl s,rG s X.mot,X.aH.kp rfl s,X.aU.kp rfl s,tF (λ_ _=>rfl) s X.wait,X.dec.kp rfl s,rH s X.AM,X.firsts.kp rfl s,tG (λ_ _=>rfl) s X.first,by show jV i c _ .kept aE (((E1 n e st.kept).map (·.1)).zip es);rw[ek];exact X.jW.kp rfl s,?_,X.rows.kp rfl s⟩
 refine cY.ZN (f:=λx=>(x.1,x.2++[e])) (v:=.ref p) ?_ ?_ X.kept nd hv
 ·rintro x e1 ⟨q,us,e2,z1,z2⟩;cases e2;have e3:us.map V.ref=ts.map V.ref:=by
   have:=z1.2;rw[hl.2]at this;injection this with this
   injection this with this
   exact this.symm
  refine⟨p,us++[t],rfl,⟨z1.1,?_⟩,(z2.imp λ_ _ y=>y.step s).snoc (ht.step s)⟩
  rw[ae,<-e3,tu];rfl
 ·rintro x u e1 ⟨q,us,rfl,z1,z2⟩;exact⟨q,us,rfl,z1.kp (decide_eq_false e1) s,z2.imp λ_ _ y=>y.step s⟩
theorem ChX.Ox (X:ChX A i c H o st dx aM aP aA aD aF aE aR ms ds ws fs es){n:Nat}{tx:List Str}{p:Addr}(hp:H p=none)(hn:n∉st.firsts.map (·.1)) :
  Step (Wr i ZP) c (aY c p (some (i,.mj n))) H (upd (upd H p (.lst (tx.map V.str))) aF (.dK (putK (bh ((st.firsts.map (·.1)).zip fs)) (om (n:Int)) (.ref p)))) /\
  ChX A i (aY c p (some (i,.mj n))) (upd (upd H p (.lst (tx.map V.str))) aF (.dK (putK (bh ((st.firsts.map (·.1)).zip fs)) (om (n:Int)) (.ref p)))) o { st with firsts:=st.firsts++[(n,tx)] } dx aM aP aA aD aF aE aR ms ds ws (fs++[.ref p]) es:=by
 have np:∀ {a:Addr} {v:HO},H a=some v->a≠p:=λe=>aC e hp
 have s:Step (Wr i ZP) c (aY c p (some (i,.mj n))) H (upd (upd H p (.lst (tx.map V.str))) aF (.dK (putK (bh ((st.firsts.map (·.1)).zip fs)) (om (n:Int)) (.ref p)))) :=
  (Step.new Wr.nn hp).trans (Step.upd Wr.nn ⟨.firsts,by rw[az (np X.firsts.2)];exact X.firsts.1,rfl⟩)
 have k:=uf rfl s X.co X.ob;have e:=sW (v:=.ref p) hn (vs:=fs) (by rw[da];exact X.first.len)
 have hd:jV i (aY c p (some (i,.mj n))) (upd (upd H p (.lst (tx.map V.str))) aF (.dK (putK (bh ((st.firsts.map (·.1)).zip fs)) (om (n:Int)) (.ref p)))) .firsts aF (((st.firsts++[(n,tx)]).map (·.1)).zip (fs++[.ref p])) :=
  ⟨by rw[az (np X.firsts.2)];exact X.firsts.1,by rw[ae,e,tu];rfl⟩
 have hl:DG i (aY c p (some (i,.mj n))) (upd (upd H p (.lst (tx.map V.str))) aF (.dK (putK (bh ((st.firsts.map (·.1)).zip fs)) (om (n:Int)) (.ref p)))) (n,tx) (.ref p) :=
  ⟨p,rfl,b5,(av (np X.firsts.2).symm).trans ae⟩
 exact⟨s,k.1,k.2,X.made.kp rfl s,rG s X.mot,X.aH.kp rfl s,X.aU.kp rfl s,tF (λ_ _=>rfl) s X.wait,X.dec.kp rfl s,rH s X.AM,hd,(tG (λ_ _=>rfl) s X.first).snoc hl,X.jW.kp rfl s,vm (λ_ _=>rfl) s X.kept,X.rows.kp rfl s⟩
theorem ChX.QS (X:ChX A i c H o st dx aM aP aA aD aF aE aR ms ds ws fs es){n:Nat}{p:Addr}(hp:H p=none)(hn:n∉st.kept.map (·.1)) :
  Step (Wr i ZQ) c (aY c p (some (i,.rD n))) H (upd (upd H p (.lst [])) aE (.dK (putK (bh ((st.kept.map (·.1)).zip es)) (om (n:Int)) (.ref p)))) /\
  ChX A i (aY c p (some (i,.rD n))) (upd (upd H p (.lst [])) aE (.dK (putK (bh ((st.kept.map (·.1)).zip es)) (om (n:Int)) (.ref p)))) o { st with kept:=st.kept++[(n,([]:List Ed))] } dx aM aP aA aD aF aE aR ms ds ws fs (es++[.ref p]):=by
 have np:∀ {a:Addr} {v:HO},H a=some v->a≠p:=λe=>aC e hp
 have s:Step (Wr i ZQ) c (aY c p (some (i,.rD n))) H (upd (upd H p (.lst [])) aE (.dK (putK (bh ((st.kept.map (·.1)).zip es)) (om (n:Int)) (.ref p)))) :=
  (Step.new Wr.nn hp).trans (Step.upd Wr.nn ⟨.kept,by rw[az (np X.jW.2)];exact X.jW.1,rfl⟩)
 have k:=uf rfl s X.co X.ob;have e:=sW (v:=.ref p) hn (vs:=es) (by rw[da];exact X.kept.len)
 have hd:jV i (aY c p (some (i,.rD n))) (upd (upd H p (.lst [])) aE (.dK (putK (bh ((st.kept.map (·.1)).zip es)) (om (n:Int)) (.ref p)))) .kept aE (((st.kept++[(n,([]:List Ed))]).map (·.1)).zip (es++[.ref p])) :=
  ⟨by rw[az (np X.jW.2)];exact X.jW.1,by rw[ae,e,tu];rfl⟩
 have hl:KI i (aY c p (some (i,.rD n))) (upd (upd H p (.lst [])) aE (.dK (putK (bh ((st.kept.map (·.1)).zip es)) (om (n:Int)) (.ref p)))) (n,[]) (.ref p) :=
  ⟨p,[],rfl,⟨b5,(av (np X.jW.2).symm).trans ae⟩,.nil⟩
 exact⟨s,k.1,k.2,X.made.kp rfl s,rG s X.mot,X.aH.kp rfl s,X.aU.kp rfl s,tF (λ_ _=>rfl) s X.wait,X.dec.kp rfl s,rH s X.AM,X.firsts.kp rfl s,tG (λ_ _=>rfl) s X.first,hd,(vm (λ_ _=>rfl) s X.kept).snoc hl,X.rows.kp rfl s⟩
def Ch.tj (st:Ch)(n:Nat)(u:Int):Ch:={ st with aH:=[],aU:=st.aU++[(n,u,st.aH)] }
theorem ChX.tj (X:ChX A i c H o st dx aM aP aA aD aF aE aR ms ds ws fs es){n:Nat}{u:Int}{t p:Addr}(ht:H t=none)(hp:H p=none)(ntp:p≠t)(hn:n∉st.aU.map (·.1)) :
  ∃c',Step (Wr i ZO) c c' H (upd (upd (upd (upd H t (.tup [.int u,.ref aP])) aA (.dK (putK (bh ((st.aU.map (·.1)).zip ws)) (om (n:Int)) (.ref t)))) p (.lst [])) o (.ins A.ak dx (chF (.int st.cW) (.int st.bf) (.bl st.closed) (.ref aM) (.ref p) (.ref aA) (.ref aD) (.ref aF) (.ref aE) (.ref aR)))) /\
  ChX A i c' (upd (upd (upd (upd H t (.tup [.int u,.ref aP])) aA (.dK (putK (bh ((st.aU.map (·.1)).zip ws)) (om (n:Int)) (.ref t)))) p (.lst [])) o (.ins A.ak dx (chF (.int st.cW) (.int st.bf) (.bl st.closed) (.ref aM) (.ref p) (.ref aA) (.ref aD) (.ref aF) (.ref aE) (.ref aR)))) o (st.tj n u) dx aM p aA aD aF aE aR ms ds (ws++[.ref t]) fs es:=by
 have nt:∀ {a:Addr} {v:HO},H a=some v->a≠t:=λe=>aC e ht
 have np:∀ {a:Addr} {v:HO},H a=some v->a≠p:=λe=>aC e hp
 have oA:o≠aA:=rN X.co X.aU.1 (λz=>nomatch z)
 have oP:o≠aP:=rN X.co X.aH.1 (λz=>nomatch z)
 have AP:aA≠aP:=rN X.aU.1 X.aH.1 (λz=>nomatch z)
 have e:=sW (v:=.ref t) hn (vs:=ws) (by rw[da];exact X.wait.len)
 have hp2:(upd (upd H t (.tup [.int u,.ref aP])) aA (.dK (putK (bh ((st.aU.map (·.1)).zip ws)) (om (n:Int)) (.ref t)))) p=none:=by
  rw[av (np X.aU.2).symm,av ntp];exact hp
 refine⟨aY (aY (aY c t none) p (some (i,.aH))) aP (some (i,.mi n)),?_⟩;have s:Step (Wr i ZO) c (aY (aY (aY c t none) p (some (i,.aH))) aP (some (i,.mi n))) H (upd (upd (upd (upd H t (.tup [.int u,.ref aP])) aA (.dK (putK (bh ((st.aU.map (·.1)).zip ws)) (om (n:Int)) (.ref t)))) p (.lst [])) o (.ins A.ak dx (chF (.int st.cW) (.int st.bf) (.bl st.closed) (.ref aM) (.ref p) (.ref aA) (.ref aD) (.ref aF) (.ref aE) (.ref aR)))):=by
  refine((((Step.new Wr.nn ht).trans (Step.upd Wr.nn ⟨.aU,?_,rfl⟩)).trans (Step.new Wr.nn hp2)).trans (Step.upd Wr.nn ⟨.ob,?_,rfl⟩)).trans (Step.role Wr.nn ⟨.aH,?_,rfl⟩)
  ·rw[az (nt X.aU.2)];exact X.aU.1
  ·rw[az (np X.ob),az (nt X.ob)];exact X.co
  ·rw[az (np X.aH.2),az (nt X.aH.2)];exact X.aH.1
 have k1:aY (aY (aY c t none) p (some (i,.aH))) aP (some (i,.mi n)) o=some (i,.ob):=by
  rw[az oP,az (np X.ob),az (nt X.ob)];exact X.co
 have hd:jV i (aY (aY (aY c t none) p (some (i,.aH))) aP (some (i,.mi n))) (upd (upd (upd (upd H t (.tup [.int u,.ref aP])) aA (.dK (putK (bh ((st.aU.map (·.1)).zip ws)) (om (n:Int)) (.ref t)))) p (.lst [])) o (.ins A.ak dx (chF (.int st.cW) (.int st.bf) (.bl st.closed) (.ref aM) (.ref p) (.ref aA) (.ref aD) (.ref aF) (.ref aE) (.ref aR)))) .aU aA (((st.aU++[(n,u,st.aH)]).map (·.1)).zip (ws++[.ref t])) :=
  ⟨by rw[az AP,az (np X.aU.2),az (nt X.aU.2)];exact X.aU.1,by rw[av oA.symm,av (np X.aU.2),ae,e,tu];rfl⟩
 have hl:LstAt i (aY (aY (aY c t none) p (some (i,.aH))) aP (some (i,.mi n))) (upd (upd (upd (upd H t (.tup [.int u,.ref aP])) aA (.dK (putK (bh ((st.aU.map (·.1)).zip ws)) (om (n:Int)) (.ref t)))) p (.lst [])) o (.ins A.ak dx (chF (.int st.cW) (.int st.bf) (.bl st.closed) (.ref aM) (.ref p) (.ref aA) (.ref aD) (.ref aF) (.ref aE) (.ref aR)))) (.mi n) aP (st.aH.map nV) :=
  ⟨b5,by rw[av oP.symm,av (np X.aH.2),av AP.symm,av (nt X.aH.2)];exact X.aH.2⟩
 have hn':LstAt i (aY (aY (aY c t none) p (some (i,.aH))) aP (some (i,.mi n))) (upd (upd (upd (upd H t (.tup [.int u,.ref aP])) aA (.dK (putK (bh ((st.aU.map (·.1)).zip ws)) (om (n:Int)) (.ref t)))) p (.lst [])) o (.ins A.ak dx (chF (.int st.cW) (.int st.bf) (.bl st.closed) (.ref aM) (.ref p) (.ref aA) (.ref aD) (.ref aF) (.ref aE) (.ref aR)))) .aH p [] :=
  ⟨by rw[az (np X.aH.2).symm,b5],by rw[av (np X.ob).symm,ae]⟩
 have htt:TupAt (aY (aY (aY c t none) p (some (i,.aH))) aP (some (i,.mi n))) (upd (upd (upd (upd H t (.tup [.int u,.ref aP])) aA (.dK (putK (bh ((st.aU.map (·.1)).zip ws)) (om (n:Int)) (.ref t)))) p (.lst [])) o (.ins A.ak dx (chF (.int st.cW) (.int st.bf) (.bl st.closed) (.ref aM) (.ref p) (.ref aA) (.ref aD) (.ref aF) (.ref aE) (.ref aR)))) t [.int u,.ref aP] :=
  ⟨by rw[az (nt X.aH.2).symm,az ntp.symm,b5],.inl (by rw[av (nt X.ob).symm,av ntp.symm,av (nt X.aU.2).symm,ae])⟩
 exact⟨s,k1,ae,X.made.kp rfl s,rG s X.mot,hn',hd,(tF (λ_ _=>rfl) s X.wait).snoc ⟨t,aP,rfl,htt,hl⟩,X.dec.kp rfl s,rH s X.AM,X.firsts.kp rfl s,tG (λ_ _=>rfl) s X.first,X.jW.kp rfl s,vm (λ_ _=>rfl) s X.kept,X.rows.kp rfl s⟩
def Ch.vq (st:Ch)(n:Nat)(pl:List Nat):Ch:={ st with aH:=pl,aU:=st.aU.filter λx=>decide (x.1≠n) }
theorem ChX.waitOf (X:ChX A i c H o st dx aM aP aA aD aF aE aR ms ds ws fs es){n:Nat}{x:Nat×Int×List Nat}(hx:at1 n st.aU=some x):∃t p,jP (bh ((st.aU.map (·.1)).zip ws)) (om (n:Int))=some (.ref t)/\TupAt c H t [.int x.2.1,.ref p]/\LstAt i c H (.mi n) p (x.2.2.map nV):=by
 obtain⟨v,h1,t,p,rfl,h2,h3⟩:=X.wait.val hx;rw[(qa hx).1]at h3;exact⟨t,p,h1,h2,h3⟩
theorem ChX.vq (X:ChX A i c H o st dx aM aP aA aD aF aE aR ms ds ws fs es){n:Nat}{p:Addr}{pl:List Nat}(hl:LstAt i c H (.mi n) p (pl.map nV)) :
  ∃c' ws',Step (Wr i (Sq n)) c c' H (upd (upd H aA (.dK (kQ (bh ((st.aU.map (·.1)).zip ws)) (om (n:Int))))) o (.ins A.ak dx (chF (.int st.cW) (.int st.bf) (.bl st.closed) (.ref aM) (.ref p) (.ref aA) (.ref aD) (.ref aF) (.ref aE) (.ref aR)))) /\
  ChX A i c' (upd (upd H aA (.dK (kQ (bh ((st.aU.map (·.1)).zip ws)) (om (n:Int))))) o (.ins A.ak dx (chF (.int st.cW) (.int st.bf) (.bl st.closed) (.ref aM) (.ref p) (.ref aA) (.ref aD) (.ref aF) (.ref aE) (.ref aR)))) o (st.vq n pl) dx aM p aA aD aF aE aR ms ds ws' fs es:=by
 have oA:o≠aA:=rN X.co X.aU.1 (λz=>nomatch z)
 have op:o≠p:=rN X.co hl.1 (λz=>nomatch z)
 have Ap:aA≠p:=rN X.aU.1 hl.1 (λz=>nomatch z)
 obtain⟨ws',e1,e2⟩:=X.wait.drop (n:=n);refine⟨aY c p (some (i,.aH)),ws',?_⟩;have s:Step (Wr i (Sq n)) c (aY c p (some (i,.aH))) H (upd (upd H aA (.dK (kQ (bh ((st.aU.map (·.1)).zip ws)) (om (n:Int))))) o (.ins A.ak dx (chF (.int st.cW) (.int st.bf) (.bl st.closed) (.ref aM) (.ref p) (.ref aA) (.ref aD) (.ref aF) (.ref aE) (.ref aR)))) :=
  ((Step.upd Wr.nn ⟨.aU,X.aU.1,rfl⟩).trans (Step.upd Wr.nn ⟨.ob,X.co,rfl⟩)).trans (Step.role Wr.nn ⟨.mi n,hl.1,decide_eq_true rfl⟩)
 have k1:aY c p (some (i,.aH)) o=some (i,.ob):=by rw[az op];exact X.co
 have hd:jV i (aY c p (some (i,.aH))) (upd (upd H aA (.dK (kQ (bh ((st.aU.map (·.1)).zip ws)) (om (n:Int))))) o (.ins A.ak dx (chF (.int st.cW) (.int st.bf) (.bl st.closed) (.ref aM) (.ref p) (.ref aA) (.ref aD) (.ref aF) (.ref aE) (.ref aR)))) .aU aA (((st.aU.filter λx=>decide (x.1≠n)).map (·.1)).zip ws') :=
  ⟨by rw[az Ap];exact X.aU.1,by rw[av oA.symm,ae,e1]⟩
 have hpl:LstAt i (aY c p (some (i,.aH))) (upd (upd H aA (.dK (kQ (bh ((st.aU.map (·.1)).zip ws)) (om (n:Int))))) o (.ins A.ak dx (chF (.int st.cW) (.int st.bf) (.bl st.closed) (.ref aM) (.ref p) (.ref aA) (.ref aD) (.ref aF) (.ref aE) (.ref aR)))) .aH p (pl.map nV) :=
  ⟨b5,by rw[av op.symm,av Ap.symm];exact hl.2⟩
 exact⟨s,k1,ae,X.made.kp rfl s,rG s X.mot,hpl,hd,tF (λx hx=>decide_eq_false (of_decide_eq_true (List.mem_filter.mp hx).2)) s e2,X.dec.kp rfl s,rH s X.AM,X.firsts.kp rfl s,tG (λ_ _=>rfl) s X.first,X.jW.kp rfl s,vm (λ_ _=>rfl) s X.kept,X.rows.kp rfl s⟩
end
def wZ (i:Nat)(c:Col)(H:Hp)(t:Addr)(xs:List V):Prop:=¬eL i (c t)/\H t=some (.tup xs)
def LL (i:Nat)(c:Col)(H:Hp)(t:Addr)(xs:List V):Prop:=¬eL i (c t)/\H t=some (.lst xs)
def ni (i:Nat)(c:Col)(H:Hp):R.bT->Addr->Prop
 | .mat cs,t=>∃L,wZ i c H t [.str (ar "matter"),.ref L]/\LL i c H L ((cs.map (km R.bl1)).map V.str)
 | .ed m k j ws,t=>∃e,wZ i c H t [.str (R.kEd m),.ref e]/\TupAt c H e (R.edR k j (km R.bl1 ws))
 | .pt ws,t=>wZ i c H t [.str (ar "point"),.str (km R.bl1 ws)]
 | .nums kd ns,t=>wZ i c H t (.str kd::ns.map V.int)
section
variable{i:Nat}{c c':Col}{H H':Hp}{t:Addr}{xs:List V}
theorem wZ.step (s:Step (eL i) c c' H H')(h:wZ i c H t xs):wZ i c' H' t xs:=⟨by rw[s.col t _ h.2 h.1];exact h.1,s.keep _ _ h.2 h.1⟩
theorem LL.step (s:Step (eL i) c c' H H')(h:LL i c H t xs):LL i c' H' t xs:=⟨by rw[s.col t _ h.2 h.1];exact h.1,s.keep _ _ h.2 h.1⟩
theorem ni.step (s:Step (eL i) c c' H H'):∀ {d:R.bT},ni i c H d t->ni i c' H' d t
 | .mat _,⟨L,a,b⟩=>⟨L,a.step s,b.step s⟩
 | .ed _ _ _ _,⟨e,a,b⟩=>⟨e,a.step s,b.step s⟩
 | .pt _,h=>wZ.step s h
 | .nums _ _,h=>wZ.step s h
theorem ni.at {K:bo}:∀ {d:R.bT},ni i c H d t->R.p7 K H d t
 | .mat _,⟨L,a,b⟩=>⟨L,SqT.of a.2,SqL.of b.2⟩
 | .ed _ _ _ _,⟨e,a,b⟩=>⟨e,SqT.of a.2,b.sq⟩
 | .pt _,h=>SqT.of h.2
 | .nums _ _,h=>SqT.of h.2
end
theorem Oy {k:Nat}{j:Int}{x:Str}(h:k=0\/k=1\/k=2):R.edR k j x=i8 ⟨k,j,x⟩:=by
 rcases h with rfl | rfl | rfl <;> rfl
theorem QT {t1 t2:TS}{D:Ends}{σ:St}{H:Hp}(J:St->Hp->Prop)(h2:∀σ' H',J σ' H'->t2 D σ' H')(h1:∀N:St->Hp->Prop,(∀σ' H',J σ' H'->N σ' H')->t1 { D with nx:=N } σ H):YJ t1 t2 D σ H:=h1 (t2 D) h2
def Ch.opened (st:Ch):Ch:={ st with closed:=if st.aH=[] then false else st.closed }
def Ch.yk (st:Ch)(row:Str):Ch:={ st.opened with rows:=st.rows++[row] }
def ZR (A:Adr)(i:Nat):Sp:=λvs H Q _=>∃(o t:Addr) (c:Col) (st:Ch) (d:R.bT),vs=[.ref o,.ref t]/\eN A i c H o st/\ni i c H d t/\R.DOk d/\st.rows.length<=1000 /\
 ∀c' H',Step (eL i) c c' H H'->eN A i c' H' o (st.yk (R.cz d))->Q .non H'
def Vi (A:Adr)(i:Nat):Sp:=λvs H Q _=>∃(o:Addr) (u:Int) (c:Col) (st:Ch) (n:Nat) (r:List Nat),vs=[.ref o,.int u]/\eN A i c H o st/\st.aH=n::r/\n∉st.aU.map (·.1)/\st.aU.length<=1000 /\
 ∀c' H',Step (eL i) c c' H H'->eN A i c' H' o (st.tj n u)->Q .non H'
def Ch.QU (st:Ch)(n:Nat)(tx:List Str)(e:Ed):Ch:={ st with made:=st.made.set (n - 1) (.mat (cG tx e)),kept:=E1 n e st.kept }
def Vj (A:Adr)(i:Nat):Sp:=λvs H Q _=>∃(o t:Addr) (c:Col) (st:Ch) (n:Nat) (r:List Nat) (tx:List Str) (e:Ed) (x:Nat×List Ed),vs=[.ref o,.ref t]/\eN A i c H o st/\st.aH=n::r/\ja st n/\st.mo n=.mat tx/\tx.length<=1000/\st.made.length<=1000 /\
 TupAt c H t (i8 e)/\vj e/\g8 tx.length e=true/\at1 n st.kept=some x/\x.2.length<=1000/\(st.kept.map (·.1)).Nodup /\
 ∀c' H',Step (eL i) c c' H H'->eN A i c' H' o (st.QU n tx e)->Q .non H'
def Ch.QV (st:Ch)(n:Nat)(e:Ed)(ws:List Str):Ch:={ st with made:=st.made.set (n - 1) (.chg ⟨e.k,e.at_,km R.bl1 ws⟩) }
def Vk (A:Adr)(i:Nat):Sp:=λvs H Q _=>∃(o t:Addr) (c:Col) (st:Ch) (n:Nat) (r:List Nat) (e f:Ed),vs=[.ref o,.ref t]/\eN A i c H o st/\st.aH=r++[n]/\ja st n/\st.mo n=.chg e/\e.k≠1/\vj e/\(R.bS e.th).length<=1000/\st.made.length<=1000 /\
 TupAt c H t (i8 f)/\vj f/\g8 (R.bS e.th).length f=true/\((cG (R.bS e.th) f).map (·.length)).sum+(cG (R.bS e.th) f).length<=16777216 /\
 ∀c' H',Step (eL i) c c' H H'->eN A i c' H' o (st.QV n e (cG (R.bS e.th) f))->Q .non H'
theorem ChX.Vl {A:Adr}{i:Nat}{c:Col}{H:Hp}{o dx aM aP aA aD aF aE aR:Addr}{st:Ch}{ms ds:List Addr}{ws fs es:List V}(X:ChX A i c H o st dx aM aP aA aD aF aE aR ms ds ws fs es){n:Nat}(hn:ja st n) :
  ∃x,jP (bh ((ai0 1 st.made.length).zip (ms.map V.ref))) (om (n:Int))=some (.ref x)/\mn A c H (st.mo n) x:=by
 have ml:=X.mot.len;have hlt:n - 1 < st.made.length:=by have:=hn.1;have:=hn.2;omega
 obtain⟨x,e1,e2⟩:=X.mot.get (aiG hlt);have hv:=AO ms 1 (n - 1) e1;rw[<-ml,show 1+(n - 1)=n by have:=hn.1;omega]at hv
 have e3:st.mo n=st.made[n - 1]:=by unfold Ch.mo;rw[aiB,aiG hlt];rfl
 exact⟨x,hv,by rw[e3];exact e2⟩
section
variable{P:kx}{w:World}{K:bo}{mg:Str->Option Value}{base:Heap}{A:Adr}
theorem qr (T:Txt w.params K mg A){i:Nat}:FnOk P w K mg base CX0 5 A.bA A.e9 ["self","deed"] (ZR A i):=by
 have jZ:FnOk P w K mg base CX0 4 A.lL A.gR ["deed"] (R.DE K):=R.p9 T;refine T.cQ.ok ou (λvs H Q E h=>?_) (λcdv A' outer s H vs Q E hr h=>?_)
 ·obtain⟨o,t,c,st,d,rfl,_⟩:=h;rfl
 ·obtain⟨o,t,c,st,d,rfl,hc,hd,hk,hl,q⟩:=h;refine⟨_,(ao (bX (pD (qD (bu (pv 0) rfl) (λ_=>rfl)))
 (ai (eT (pv 0) oh rfl))
 aN)
 (ai (bY (iP adm aiQ aiR d6 (bu (pv 0) rfl) (aa (bw jZ hr rfl T.m9 T.jT.kp T.m8 .nil a9 (aa (pv 1) ag)) ag))))),?_⟩
  try dsimp only[bI]
  have lim:gc=16777216:=by decide
  refine QT (λσ' H'=>σ'=[some (.ref o),some (.ref t)]/\Step (eL i) c c H H'/\eN A i c H' o st.opened) ?r (λN nN=>?f)
  case f =>
   refine aT λGq gq=>?_
   obtain⟨dx,aM,aP,aA,aD,aF,aE,aR,ms,ds,ws,fs,es,X⟩:=hc.ex;refine gq ?_;refine gu rfl X.ob T.ah T.jq0 fD ?_;refine⟨_,.inl ⟨_,.inl (.inl X.aH.2),rfl⟩,?_⟩;cases e:st.aH with
   |nil =>
    refine gS ⟨_,rfl,o,A.ak,dx,_,rfl,X.ob,T.ah,T.jq8,(by show 10 < 1000;decide),?_⟩
    rw[AN];obtain⟨s1,X1⟩:=X.attr st.bf false;refine nN _ _ ⟨rfl,s1.rF,?_⟩;have e1:st.opened={ st with bf:=st.bf,closed:=false }:=by unfold Ch.opened;rw[e,if_pos rfl]
    rw[e1];exact X1.at
   |cons x r =>
    refine eu (nN _ _ ⟨rfl,Step.refl aS,?_⟩);have e1:st.opened=st:=by unfold Ch.opened;rw[e,if_neg (aiO _ _)];cases st;cases e;rfl
    rw[e1];exact hc
  case r =>
   rintro σ' H1 ⟨rfl,s1,hc1⟩;refine aT λGq gq=>?_
   obtain⟨dx,aM,aP,aA,aD,aF,aE,aR,ms,ds,ws,fs,es,X⟩:=hc1.ex;refine gq ?_;refine gu rfl X.ob T.ah T.jqc rK ?_;refine⟨.inl ⟨rfl,_,SqL.of X.rows.2⟩,_,rfl,t,d,rfl,(hd.step s1).at,hk,λH2 s2=>?_⟩
   have X2:=X.same s2;obtain⟨s3,X3⟩:=X2.row (R.cz d);refine⟨aR,_,_,rfl,rfl,X2.rows.2,by rw[da];show st.rows.length < _;omega,?_⟩
   exact q c _ ((s1.trans (Step.same aS s2)).trans s3.rF) X3.at
theorem vv (T:Txt w.params K mg A){i:Nat}:FnOk P w K mg base CX0 1 A.bN A.gz ["self","until"] (Vi A i):=by
 refine T.dH.ok qI (λvs H Q E h=>?_) (λcdv A' outer s H vs Q E hr h=>?_)
 ·obtain⟨o,u,c,st,n,r,rfl,_⟩:=h;rfl
 ·obtain⟨o,u,c,st,n,r,rfl,hc,hp,hn,hl,q⟩:=h;obtain⟨dx,aM,aP,aA,aD,aF,aE,aR,ms,ds,ws,fs,es,X⟩:=hc.ex;have hu1:=hr.u1;have lim:gc=16777216:=by decide
  refine⟨_,(ao (sI hu1 (bu (pv 0) rfl) (aW bx (bu (pv 0) rfl) aj (λ_ _=>rfl)) (cZ (aa (pv 1) (aa (bu (pv 0) rfl) ag))) rfl)
 (ai (eT (pv 0) (dS ag) rfl))),?_⟩
  try dsimp only[bI]
  refine⟨_,rfl,gu rfl X.ob T.ah T.jq0 fD ⟨(sl 2),λt ht=>?_⟩⟩
  have s1:=aI (o:=.tup [V.int u,.ref aP]) ht;refine gu rfl (s1 _ _ X.ob) T.ah T.jqa oS ?_;have h0:atI (st.aH.map nV) 0=some (nV n):=by rw[hp];exact sA (j:=0) rfl
  refine gu rfl (s1 _ _ X.ob) T.ah T.jq0 fD ⟨aP,_,_,_,rfl,rfl,SqL.of (s1 _ _ X.aH.2),h0,?_⟩;refine⟨aA,_,rfl,yd.k (k:=om (n:Int)) (s1 _ _ X.aU.2) ?_,?_⟩
  ·unfold bh;rw[da,akc,da];omega
  have oA:o≠aA:=rN X.co X.aU.1 (λz=>nomatch z)
  refine⟨(sl 0),λp hp0=>?_⟩
  have npA:p≠aA:=λz=>by rw[z,ae]at hp0;cases hp0
  have npt:p≠t:=λz=>by rw[av npA,z,ae]at hp0;cases hp0
  have hp1:H p=none:=by rw[av npA,av npt]at hp0;exact hp0
  have hob:(upd (upd (upd H t (.tup [V.int u,.ref aP])) aA (.dK (putK (bh ((st.aU.map (·.1)).zip ws)) (om (n:Int)) (.ref t)))) p (.lst [])) o=some (.ins A.ak dx (chF (.int st.cW) (.int st.bf) (.bl st.closed) (.ref aM) (.ref aP) (.ref aA) (.ref aD) (.ref aF) (.ref aE) (.ref aR))):=by
   rw[av (aC X.ob hp1),av oA];exact s1 _ _ X.ob
  refine⟨_,rfl,o,A.ak,dx,_,rfl,hob,T.ah,T.jq0,(by show 10 < 1000;decide),?_⟩
  rw[EV];refine aT λGq gq=>?_
  obtain⟨c',s2,X2⟩:=X.tj (u:=u) ht hp1 npt hn;refine gq ?_;exact q c' _ s2.rF X2.at
theorem w4 (T:Txt w.params K mg A){i:Nat}:FnOk P w K mg base CX0 4 A.br A.eI ["self","edit"] (Vj A i):=by
 refine T.cD.ok gZ (λvs H Q E h=>?_) (λcdv A' outer s H vs Q E hr h=>?_)
 ·obtain⟨o,t,c,st,n,r,tx,e,x,rfl,_⟩:=h;rfl
 ·obtain⟨o,t,c,st,n,r,tx,e,x,rfl,hc,hp,hn,hm,htx,hml,ht,he,hf,hx,hxl,hnd,q⟩:=h;obtain⟨dx,aM,aP,aA,aD,aF,aE,aR,ms,ds,ws,fs,es,X⟩:=hc.ex;have hu1:=hr.u1;have lim:gc=16777216:=by decide
  refine⟨_,(ao (bg (i:=2) gZ.nd rfl (aiF rfl) (aW bx (bu (pv 0) rfl) aj (λ_ _=>rfl)))
 (ao (sI hu1 (bu (pv 0) rfl) (pv 2) (f9 T.vg (AL T) (hr.mono (by decide)) rfl T.ve T.Qz .nil a9 (aa (bw (Kx T) hr rfl T.Ig T.Dj.kp T.Ie .nil HK (aa (bu (sH hu1 (bu (pv 0) rfl) (pv 2) (λ_ _=>rfl)) rfl) (aa (pv 1) ag))) ag)) rfl)
 (ai (bY (iP adm aiQ aiR d6 (sH hu1 (bu (pv 0) rfl) (pv 2) (λ_ _=>rfl)) (aa (pv 1) ag)))))),?_⟩
  try dsimp only[bI]
  refine aT λGq gq=>?_
  have h0:atI (st.aH.map nV) 0=some (nV n):=by rw[hp];exact sA (j:=0) rfl
  obtain⟨m,hv,hmo⟩:=X.Vl hn;rw[hm]at hmo;obtain⟨_,dm,v,Vm,L,rfl,hL⟩:=hmo;refine gq ?_;refine gu rfl X.ob T.ah T.jq0 fD ⟨aP,_,_,_,rfl,rfl,SqL.of X.aH.2,h0,?_⟩;refine⟨_,rfl,o,A.ak,dx,_,.ref aM,rfl,X.ob,T.ah,T.jq2,jY,_,rfl,aM,_,rfl,.inl ⟨_,om (n:Int),.inl X.made.2,rfl,hv.symm⟩,?_⟩;refine⟨m,A.C 0,dm,_,.ref L,rfl,Vm,T.cl 0 (by decide),T.na0,rfl,_,rfl,?_⟩
  refine⟨L,t,tx,e,rfl,SqL.of hL.2,htx,ht.sq,he,λ_ p hp0=>?_,λz=>by rw[hf]at z;cases z⟩
  refineλy dy hy hdy ndy=>?_
  refine⟨y,dy,p,(cG tx e).map V.str,rfl,ae,?_,λp2 hp2=>⟨rfl,?_⟩⟩
  ·exact(((aI hdy).new ((av (aiD ndy)).trans hy)).seq (SqL.of ae))
  have hy0:H y=none:=by
   by_cases z:y=p
   ·rw[z,ae]at hy;cases hy
   ·rw[av z]at hy;exact hy
  have agB:H dy=none:=by
   by_cases z:dy=p
   ·rw[z,ae]at hdy;cases hdy
   ·rw[av z]at hdy;exact hdy
  have sm0:aZ H (upd (upd (upd H p (.lst ((cG tx e).map V.str))) dy (.own y)) y (.ins (A.C 0) dy [])):=((aI hp0).own agB).own hy0;have ZS:H p2=none:=by
   cases z:H p2 with
   |none=>rfl
   |some v=>rw[sm0 _ _ z]at hp2;cases hp2
  have sm:aZ H (upd (upd (upd (upd (upd H p (.lst ((cG tx e).map V.str))) dy (.own y)) y (.ins (A.C 0) dy [])) p2 (.lst ((cG tx e).map V.str))) y (.ins (A.C 0) dy (oR 0 (.ref p2)))):=(sm0.own ZS).own hy0;have nyp:y≠p2:=λz=>by rw[<-z,ae]at hp2;cases hp2
  have X1:=X.cl sm;have hmn:mn A (eM c H) (upd (upd (upd (upd (upd H p (.lst ((cG tx e).map V.str))) dy (.own y)) y (.ins (A.C 0) dy [])) p2 (.lst ((cG tx e).map V.str))) y (.ins (A.C 0) dy (oR 0 (.ref p2)))) (.mat (cG tx e)) y :=
   ⟨fA hy0,dy,.ref p2,ae,p2,rfl,fA ZS,(av (aiD nyp)).trans ae⟩
  have st1:Step (eL i) c (eM c H) H _:=Step.cl aS sm;have ht1:=ht.step st1;generalize upd (upd (upd (upd (upd H p (.lst ((cG tx e).map V.str))) dy (.own y)) y (.ins (A.C 0) dy [])) p2 (.lst ((cG tx e).map V.str))) y (.ins (A.C 0) dy (oR 0 (.ref p2)))=H1 at X1 hmn st1 ht1 ⊢;generalize eM c H=c1 at X1 hmn st1 ht1;refine gu rfl X1.ob T.ah T.jq2 jY ⟨_,rfl,aM,_,rfl,yd.k (k:=om (n:Int)) X1.made.2 ?_,?_⟩
  ·unfold bh;rw[da,akc,ajD];omega
  obtain⟨s2,X2⟩:=X1.KO hn hmn;have ht2:=ht1.step s2.rF;generalize upd H1 aM (.dK (putK (bh ((ai0 1 st.made.length).zip (ms.map V.ref))) (om (n:Int)) (.ref y)))=H2 at s2 X2 ht2 ⊢;refine aT λGq gq=>?_
  obtain⟨pk,ts,hv2,hl2,tl⟩:=X2.Vh hx;refine gq ?_;refine⟨_,rfl,o,A.ak,dx,_,.ref aE,rfl,X2.ob,T.ah,T.jq9,rJ,_,rfl,aE,_,rfl,.inl ⟨_,om (n:Int),.inl X2.jW.2,rfl,hv2.symm⟩,?_⟩;refine⟨.inl ⟨rfl,_,SqL.of hl2.2⟩,_,rfl,pk,_,_,rfl,rfl,hl2.2,by rw[da];omega,?_⟩
  obtain⟨s3,X3⟩:=X2.QR hv2 hl2 hnd ht2;exact q c1 _ ((st1.trans s2.rF).trans s3.rF) X3.at
theorem w5 (T:Txt w.params K mg A){i:Nat}:FnOk P w K mg base CX0 4 A.bt A.eJ ["self","edit"] (Vk A i):=by
 have mh:FnOk P w K mg base CX0 1 A.words_of A.iJ ["clause"] R.sT:=R.jU T;have rC:FnOk P w K mg base CX0 1 A.oJ A.iS ["words"] (R.ud K):=R.p8 T;refine T.cE.ok dq (λvs H Q E h=>?_) (λcdv A' outer s H vs Q E hr h=>?_)
 ·obtain⟨o,t,c,st,n,r,e,f,rfl,_⟩:=h;rfl
 ·obtain⟨o,t,c,st,n,r,e,f,rfl,hc,hp,hn,hm,hk1,heo,hwl,hml,ht,hfo,hf,hsz,q⟩:=h;obtain⟨dx,aM,aP,aA,aD,aF,aE,aR,ms,ds,ws,fs,es,X⟩:=hc.ex;have hu1:=hr.u1;have lim:gc=16777216:=by decide
  refine⟨_,(ao (bg (i:=2) dq.nd rfl (aiF rfl) (aW bx (bu (pv 0) rfl) (zA tN aj) (λ_ _=>rfl)))
 (ao (bg (i:=3) dq.nd rfl (aiF rfl) (bu (sH hu1 (bu (pv 0) rfl) (pv 2) (λ_ _=>rfl)) rfl))
 (ao (bg (i:=4) dq.nd rfl (aiF rfl) (bw (Kx T) hr rfl T.Ig T.Dj.kp T.Ie .nil HK (aa (bw mh (hr.mono (by decide)) rfl T.jr T.il.kp T.jq .nil a9 (aa (aW bE (pv 3) aj (λ_ _=>rfl)) ag)) (aa (pv 1) ag))))
 (ai (sI hu1 (bu (pv 0) rfl) (pv 2) (f9 T.vh (mf T) (hr.mono (by decide)) rfl T.vf T.QA .nil a9 (aa (cZ (aa (aW bE (pv 3) aj (λ_ _=>rfl)) (aa (aW bE (pv 3) aj (λ_ _=>rfl)) (aa (bw rC (hr.mono (by decide)) rfl T.m5 T.jS.kp T.m3 .nil a9 (aa (pv 4) ag)) ag)))) ag)) rfl))))),?_⟩
  try dsimp only[bI]
  refine aT λGq gq=>?_
  have h0:atI (st.aH.map nV) (-1)=some (nV n):=by rw[hp,tu];exact qE _ _
  obtain⟨m,hv,hmo⟩:=X.Vl hn;rw[hm]at hmo;obtain⟨_,dm,v,Vm,te,rfl,hte⟩:=hmo;refine gq ?_;refine⟨_,rfl,o,A.ak,dx,_,.ref aP,rfl,X.ob,T.ah,T.jq0,fD,_,rfl,aP,_,_,_,rfl,rfl,SqL.of X.aH.2,h0,?_⟩;refine⟨_,rfl,o,A.ak,dx,_,.ref aM,rfl,X.ob,T.ah,T.jq2,jY,_,rfl,aM,_,rfl,.inl ⟨_,om (n:Int),.inl X.made.2,rfl,hv.symm⟩,?_⟩;refine⟨m,A.C 1,dm,_,.ref te,rfl,Vm,T.cl 1 (by decide),T.na1,rfl,?_⟩
  have h2:=Dv (e:=e) hk1;refine ixv rfl hte.sq h2 ⟨e.th,rfl,?_,λp1 hp1=>?_⟩
  ·have:=heo.th.len;omega
  have s1:=aI (o:=.lst ((R.bS e.th).map V.str)) hp1;refine⟨_,rfl,p1,t,R.bS e.th,f,rfl,SqL.of ae,hwl,eA s1 ht.sq,hfo,λ_ p2 hp2=>?_,λz=>by rw[hf]at z;cases z⟩
  have s2:=s1.new (o:=.lst ((cG (R.bS e.th) f).map V.str)) hp2;refine ixv rfl (eA s2 hte.sq) (Dt e) (ixv rfl (eA s2 hte.sq) (Du e) ⟨_,rfl,p2,_,rfl,SqL.of ae,hsz,(sl 3),λtn htn=>?_⟩)
  have s3:=s2.new (o:=.tup [V.str (kn e.k),.int e.at_,.str (km R.bl1 (cG (R.bS e.th) f))]) htn;refineλy dy hy hdy ndy=>?_
  refine⟨y,dy,.ref tn,rfl,ae,rfl,?_⟩;have hno:∀ {a:Addr},(upd (upd (upd H p1 (.lst ((R.bS e.th).map V.str))) p2 (.lst ((cG (R.bS e.th) f).map V.str))) tn (.tup [V.str (kn e.k),.int e.at_,.str (km R.bl1 (cG (R.bS e.th) f))])) a=none->H a=none:=by
   intro a ha;cases z:H a with
   |none=>rfl
   |some v=>rw[s3 _ _ z]at ha;cases ha
  have nyt:y≠tn:=λz=>by rw[z,ae]at hy;cases hy
  have ndt:dy≠tn:=λz=>by rw[z,ae]at hdy;cases hdy
  have agC:H tn=none:=by
   cases z:H tn with
   |none=>rfl
   |some v=>rw[s2 _ _ z]at htn;cases htn
  have sm:=((s3.own (o:=.own y) (hno hdy)).own (o:=.ins (A.C 1) dy []) (hno hy)).own (o:=.ins (A.C 1) dy (oR 1 (.ref tn))) (hno hy);have X1:=X.cl sm;have er:i8 ⟨e.k,e.at_,km R.bl1 (cG (R.bS e.th) f)⟩=[V.str (kn e.k),.int e.at_,.str (km R.bl1 (cG (R.bS e.th) f))]:=by
   obtain⟨k,a,th⟩:=e;have h3:=heo.k3;dsimp only at h3 hk1 ⊢;rcases h3 with rfl | rfl | rfl
   ·rfl
   ·exact absurd rfl hk1
   ·rfl
  have hmn:=(⟨fA (hno hy),dy,.ref tn,ae,tn,rfl,fA agC,.inl (by rw[av (aiD nyt),av (aiD nyt),av (aiD ndt),ae,er])⟩:mn A (eM c H) (upd (upd (upd (upd (upd (upd H p1 (.lst ((R.bS e.th).map V.str))) p2 (.lst ((cG (R.bS e.th) f).map V.str))) tn (.tup [V.str (kn e.k),.int e.at_,.str (km R.bl1 (cG (R.bS e.th) f))])) dy (.own y)) y (.ins (A.C 1) dy [])) y (.ins (A.C 1) dy (oR 1 (.ref tn)))) (.chg ⟨e.k,e.at_,km R.bl1 (cG (R.bS e.th) f)⟩) y)
  have st1:Step (eL i) c (eM c H) H _:=Step.cl aS sm;generalize upd (upd (upd (upd (upd (upd H p1 (.lst ((R.bS e.th).map V.str))) p2 (.lst ((cG (R.bS e.th) f).map V.str))) tn (.tup [V.str (kn e.k),.int e.at_,.str (km R.bl1 (cG (R.bS e.th) f))])) dy (.own y)) y (.ins (A.C 1) dy [])) y (.ins (A.C 1) dy (oR 1 (.ref tn)))=H1 at X1 hmn st1 ⊢;generalize eM c H=c1 at X1 hmn st1;refine gu rfl X1.ob T.ah T.jq2 jY ⟨_,rfl,aM,_,rfl,yd.k (k:=om (n:Int)) X1.made.2 ?_,?_⟩
  ·unfold bh;rw[da,akc,ajD];omega
  obtain⟨s4,X2⟩:=X1.KO hn hmn;exact q c1 _ (st1.trans s4.rF) X2.at
end
def AW (below:List Mn):Mn->Prop
 | .mat _=>below=[]
 | .chg e=>∃tx,below=[.mat tx]/\g8 tx.length e=true
 | .mnd f=>∃tx e,below=[.mat tx,.chg e]/\e.k≠1/\g8 (R.bS e.th).length f=true
 | .off _=>(∃tx r,below=.mat tx::r)/\∀b∈below,b.k < 3
 | .cls=>(∃tx r,below=.mat tx::r)/\∀b∈below,b.k < 4
 | .lay=>(∃tx r,below=.mat tx::r)/\∀b∈below,b.k < 5
 | .rst=>∀b∈below,b.k < 6
 | .pnt _=>∀b∈below,b.k < 7
inductive PMs:List Mn->Prop
 |nil:PMs []
 |snoc {ms:List Mn} {m:Mn}:PMs ms->AW ms m->PMs (ms++[m])
theorem PMs.pop {ms:List Mn}{m:Mn}(h:PMs (ms++[m])):PMs ms/\AW ms m:=by
 generalize e:ms++[m]=l at h;cases h with
 |nil=>simp at e
 |snoc h1 h2 =>
  obtain⟨e1,e2⟩:=List.append_inj' e rfl;cases e2;subst e1;exact⟨h1,h2⟩
theorem AW.lt {below:List Mn}:∀ {m:Mn},AW below m->∀b∈below,b.k < m.k
 | .mat _,h,b,hb=>by rw[h]at hb;cases hb
 | .chg _,⟨tx,h,_⟩,b,hb=>by
  rw[h,aiz]at hb;rw[hb];show 0 < 1;decide
 | .mnd _,⟨tx,e,h,_,_⟩,b,hb=>by
  rw[h]at hb;rcases List.mem_cons.mp hb with rfl | hb
  ·show 0 < 2;decide
  ·rw[aiz]at hb;rw[hb];show 1 < 2;decide
 | .off _,h,b,hb=>h.2 b hb
 | .cls,h,b,hb=>h.2 b hb
 | .lay,h,b,hb=>h.2 b hb
 | .rst,h,b,hb=>h b hb
 | .pnt _,h,b,hb=>h b hb
theorem PMs.le_top {ms:List Mn}(h:PMs ms):∀b∈ms,(b.k:Int)<=rL ms:=by
 cases h with
 |nil=>intro b hb;cases hb
 |snoc h1 h2 =>
  intro b hb;rw[sV];rcases List.mem_append.mp hb with hb | hb
  ·have:=h2.lt b hb;omega
  ·rw[aiz]at hb;rw[hb];exact Int.le_refl _
theorem PMs.IC {ms:List Mn}(h:PMs ms):LI ms=true->∃tx r,ms=.mat tx::r:=by
 induction h with
 |nil=>intro h;cases h
 | @snoc ms m h1 h2 ih =>
  intro h;unfold LI at h ih;rw[List.any_append,Bool.or_eq_true]at h;rcases h with h | h
  ·obtain⟨tx,r,e⟩:=ih h;exact⟨tx,r++[m],by rw[e];rfl⟩
  ·cases m with
   |mat tx =>
    have:ms=[]:=h2;rw[this];exact⟨tx,[],rfl⟩
   |_=>simp[Mn.k]at h
theorem PMs.len {ms:List Mn}(h:PMs ms):(ms.length:Int)<=rL ms+1:=by
 induction h with
 |nil=>decide
 | @snoc ms m h1 h2 ih =>
  rw[sV,ki,aiw];have:rL ms < (m.k:Int):=by
   unfold rL;split
   ·omega
   ·rename_i b hb;have:=h2.lt b (List.mem_of_getLast? hb);omega
  omega
theorem PMs.LM {ms:List Mn}(h:PMs ms):ms.length<=8:=by
 have:=h.len;have:=Ou ms;omega
theorem rO (cl:Bool)(ms:List Mn):rL ms<=uh cl ms:=by
 unfold uh;split
 ·split <;> omega
 ·exact Int.le_refl _
theorem oW {cl:Bool}{ms:List Mn}{k:Nat}(h:yj cl ms k=none):rL ms < (k:Int)/\EX ms k=true:=by
 have hb:=rO cl ms;unfold yj at h;split at h
 ·cases h
 ·split at h
  ·exact⟨by omega,by assumption⟩
  ·split at h <;> cases h
theorem AX {ms:List Mn}(h:rL ms < 0):ms=[]:=by
 rcases aje ms with e | ⟨r,b,e⟩
 ·exact e
 ·rw[e,ajf,sV]at h;omega
def ZT (ms:List Mn):Mn->Prop
 | .chg e=>∀tx r,ms=.mat tx::r->g8 tx.length e=true
 | .mnd f=>∀r e,ms=r++[.chg e]->g8 (R.bS e.th).length f=true
 |_=>True
theorem sX {α:Type}{xs:List α}{x:α}(h:xs.getLast?=some x):∃r,xs=r++[x]:=by
 rcases aje xs with e | ⟨r,b,e⟩
 ·rw[e]at h;cases h
 ·rw[ajf]at e;rw[e,ajH]at h;cases h;exact⟨r,e⟩
theorem PMs.push {cl:Bool}{ms:List Mn}(h:PMs ms){m:Mn}(ho:yj cl ms m.k=none)(hf:ZT ms m):PMs (ms++[m]):=by
 obtain⟨h1,h2⟩:=oW ho;have lt:∀b∈ms,b.k < m.k:=λb hb=>by have:=h.le_top b hb;omega
 refine .snoc h ?_;cases m with
 |mat tx=>exact AX h1
 |chg e =>
  obtain⟨tx,r,e1⟩:=h.IC h2;refine⟨tx,?_,hf tx r e1⟩;rcases aje r with e2 | ⟨r',b,e2⟩
  ·rw[e1,e2]
  ·rw[ajf]at e2;have hb:b.k < 1:=lt b (by rw[e1,e2];simp)
   rw[e1,e2,<-List.cons_append]at h;have ht:=h.pop.2;cases b with
   |mat ty=>exact absurd ht (aiO _ _)
   |_=>simp[Mn.k]at hb
 |mnd f =>
  have h3:mr ms=true:=h2;unfold mr at h3;split at h3
  ·rename_i e he;obtain⟨r,e1⟩:=sX he;rw[e1]at h;obtain⟨tx,e2,_⟩:=h.pop.2;refine⟨tx,e,by rw[e1,e2];rfl,?_,hf r e e1⟩
   intro z;rw[z]at h3;cases h3
  ·cases h3
 |off n=>exact⟨h.IC h2,lt⟩
 |cls=>exact⟨h.IC h2,lt⟩
 |lay=>exact⟨h.IC h2,lt⟩
 |rst=>exact lt
 |pnt z=>exact lt
theorem ID {st:Ch}{n:Nat}{m:Mn}(hn:ja st n){st':Ch}(h:st'.made=st.made.set (n - 1) m):st'.mo n=m:=by
 unfold Ch.mo;have:=hn.1;have:=hn.2;rw[h,aiB,List.getElem?_set_self (by omega)]
 rfl
theorem w6 {st:Ch}{n k:Nat}{m:Mn}(hn:ja st n)(h1:1<=k)(ne:k≠n){st':Ch}(h:st'.made=st.made.set (n - 1) m):st'.mo k=st.mo k:=by
 unfold Ch.mo;have:=hn.1;rw[h,aiB,List.getElem?_set_ne (by omega),<-aiB]
theorem Oz {st:Ch}{m:Mn}{st':Ch}(h:st'.made=st.made++[m]){k:Nat}(hk:ja st k):st'.mo k=st.mo k:=by
 unfold Ch.mo;have:=hk.1;have:=hk.2;rw[h,aiB,ajz (by omega),<-aiB]
theorem OA {st:Ch}{m:Mn}{st':Ch}(h:st'.made=st.made++[m]):st'.mo (st.made.length+1)=m:=by
 unfold Ch.mo;rw[h,aiB,Nat.add_sub_cancel,ajs (ko _),Nat.sub_self];rfl
def EdB (N:Nat)(e:Ed):Prop:=(e.k=0\/e.k=1\/e.k=2)/\-9999999999<=e.at_/\e.at_<=9999999999/\∃ws,e.th=km R.bl1 ws/\(∀w∈ws,R.p0 w)/\ws.length<=N
def MOk (N:Nat):Mn->Prop
 | .mat tx=>tx.length<=12+N/\∀x∈tx,aiZ x=true
 | .chg e=>EdB (12+N) e
 | .mnd f=>EdB 1 f/\∃w,f.th=w/\R.p0 w
 | .off u=>-10000000000 < u/\u < 10000000000
 | .pnt z=>aiZ z=true
 |_=>True
theorem EdB.mono {N M:Nat}(h:N<=M){e:Ed}(z:EdB N e):EdB M e:=by
 obtain⟨a,b,c,ws,d,f,g⟩:=z;exact⟨a,b,c,ws,d,f,rf g h⟩
theorem MOk.mono {N M:Nat}(h:N<=M):∀ {m:Mn},MOk N m->MOk M m
 | .mat tx,z=>⟨rf z.1 (by omega),z.2⟩
 | .chg e,z=>EdB.mono (by omega) z
 | .mnd f,z=>z
 | .off u,z=>z
 | .cls,_=>trivial
 | .lay,_=>trivial
 | .rst,_=>trivial
 | .pnt _,z=>z
def Ch.all (st:Ch):List Nat:=st.aH++(st.aU.flatMap (·.2.2)++st.decided.map (·.1))
def Ch.w8 (st:Ch):List Nat:=(ai0 1 st.made.length).filter λn=>decide ((st.mo n).k=0)
structure Inv (N:Nat)(st:Ch):Prop where
 lm:3 * st.made.length<=N
 lr:st.rows.length<=N
 ld:st.decided.length<=N
 la:st.aU.length<=N
 lk:∀x∈st.kept,x.2.length<=N
 sit:1<=st.bf/\st.bf<=N+1
 mok:∀m∈st.made,MOk N m
 num:∀n∈st.all,ja st n
 nd:st.all.Nodup
 pil:PMs (st.aH.map st.mo)
 asd:∀x∈st.aU,PMs (x.2.2.map st.mo)/\(∃r,x.2.2=x.1::r)/\-10000000000 < x.2.1/\x.2.1 < 10000000000
 kk:st.kept.map (·.1)=st.w8
 ff:st.firsts.map (·.1)=st.w8
 dw:∀x∈st.decided,aiZ x.2=true
theorem Inv.mono {N M:Nat}(h:N<=M){st:Ch}(I:Inv N st):Inv M st where
 lm:=rf I.lm h
 lr:=rf I.lr h
 ld:=rf I.ld h
 la:=rf I.la h
 lk:=λx hx=>rf (I.lk x hx) h
 sit:=⟨I.sit.1,by have:=I.sit.2;omega⟩
 mok:=λm hm=>(I.mok m hm).mono h
 num:=I.num
 nd:=I.nd
 pil:=I.pil
 asd:=I.asd
 kk:=I.kk
 ff:=I.ff
 dw:=I.dw
theorem Inv.DJ {N:Nat}{st:Ch}(I:Inv N st){n:Nat}(hn:ja st n):MOk N (st.mo n):=by
 have:=hn.1;have:=hn.2;have hlt:n - 1 < st.made.length:=by omega
 have e:st.mo n=st.made[n - 1]:=by unfold Ch.mo;rw[aiB,aiG hlt];rfl
 rw[e];exact I.mok _ (List.getElem_mem hlt)
theorem Inv.d0 {N:Nat}{st:Ch}(I:Inv N st):∀n∈st.aH,ja st n:=λn hn=>I.num n (aiJ _ hn)
theorem Inv.vw {N:Nat}{st:Ch}(I:Inv N st){x:Nat×Int×List Nat}(hx:x∈st.aU):∀n∈x.2.2,ja st n:=λn hn =>
 I.num n (ka _ (aiJ _ (List.mem_flatMap.mpr ⟨x,hx,hn⟩)))
theorem Inv.KP {N:Nat}{st:Ch}(I:Inv N st){n:Nat}(hn:n∈st.aH){x:Nat×Int×List Nat}(hx:x∈st.aU):n∉x.2.2:=λz =>
 (List.nodup_append.mp I.nd).2.2 n hn n (aiJ _ (List.mem_flatMap.mpr ⟨x,hx,z⟩)) rfl
theorem Inv.OB {N:Nat}{st:Ch}(I:Inv N st){n:Nat}(hn:n∈st.aH):n∉st.aU.map (·.1):=λz=>by
 obtain⟨x,hx,e⟩:=List.mem_map.mp z;obtain⟨r,er⟩:=(I.asd x hx).2.1;exact I.KP hn hx (by rw[er,e];exact kb)
theorem QW {st st':Ch}(hl:st'.made.length=st.made.length)(hk:∀n,ja st n->(st'.mo n).k=(st.mo n).k):st'.w8=st.w8:=by
 unfold Ch.w8;rw[hl];refine List.filter_congr λn hn=>?_
 rw[List.mem_range'_1]at hn;rw[hk n ⟨hn.1,by omega⟩]
theorem IE (st:Ch):st.w8.Nodup:=List.filter_sublist.nodup List.nodup_range'
theorem Inv.keptAt {N:Nat}{st:Ch}(I:Inv N st){n:Nat}(hn:ja st n)(hk:(st.mo n).k=0):∃x,at1 n st.kept=some x/\x.2.length<=N:=by
 cases e:at1 n st.kept with
 |some x=>exact⟨x,rfl,I.lk x (qa e).2⟩
 |none =>
  have h:=EZ e;rw[I.kk]at h;have hr:n∈ai0 1 st.made.length:=by
   rw[List.mem_range'_1];have:=hn.1;have:=hn.2;omega
  exact absurd (show n∈st.w8 from List.mem_filter.mpr ⟨hr,by exact decide_eq_true hk⟩) h
def Ch.popped (st:Ch)(pre:List Nat)(n:Nat)(wd:Str):Ch:={ st with aH:=pre,decided:=st.decided++[(n,wd)] }
theorem Inv.pop {N:Nat}{st:Ch}(I:Inv N st){pre:List Nat}{n:Nat}(e:st.aH=pre++[n])(wd:Str)(hw:aiZ wd=true):Inv (N+1) (st.popped pre n wd)/\AW (pre.map st.mo) (st.mo n):=by
 have hp:=I.pil;rw[e,tu]at hp;obtain⟨p1,p2⟩:=PMs.pop hp;have perm:List.Perm (st.popped pre n wd).all st.all:=by
  unfold Ch.all Ch.popped;rw[e,tu];have:List.Perm (st.aU.flatMap (·.2.2)++(st.decided.map (·.1)++[(n,wd)].map (·.1))) ([n]++(st.aU.flatMap (·.2.2)++st.decided.map (·.1))):=by
   rw[<-ajv];exact List.perm_append_comm
  exact(List.Perm.append_left pre this).trans (by rw[ajv])
 refine⟨⟨aiI I.lm,aiI I.lr,?_,aiI I.la,λx hx=>aiI (I.lk x hx),⟨I.sit.1,by have:=I.sit.2;show st.bf<=_;omega⟩,λm hm=>(I.mok m hm).mono (by omega),λk hk=>I.num k (perm.mem_iff.mp hk),perm.nodup_iff.mpr I.nd,p1,I.asd,I.kk,I.ff,?_⟩,p2⟩
 ·show (st.decided++[(n,wd)]).length<=_;rw[ki,aiw];have:=I.ld;omega
 ·intro x hx;rcases List.mem_append.mp hx with h | h
  ·exact I.dw x h
  ·rw[aiz]at h;rw[h];exact hw
theorem Inv.yk {N:Nat}{st:Ch}(I:Inv N st)(z:Str):Inv (N+1) (st.yk z):=by
 refine⟨aiI I.lm,?_,aiI I.ld,aiI I.la,λx hx=>aiI (I.lk x hx),⟨I.sit.1,by have:=I.sit.2;show st.bf<=_;omega⟩,λm hm=>(I.mok m hm).mono (by omega),I.num,I.nd,I.pil,I.asd,I.kk,I.ff,I.dw⟩
 show (st.rows++[z]).length<=_;rw[ki,aiw];have:=I.lr;omega
theorem Inv.Sr {N:Nat}{st:Ch}(I:Inv N st){n:Nat}{m:Mn}(hn:n∈st.aH)(hk:m.k=(st.mo n).k)(hm:MOk (N+1) m){kp:List (Nat×List Ed)}(ek:kp.map (·.1)=st.kept.map (·.1))(lk:∀x∈kp,x.2.length<=N+1)
  (hp:PMs (st.aH.map (Ch.mo { st with made:=st.made.set (n - 1) m,kept:=kp }))):Inv (N+1) { st with made:=st.made.set (n - 1) m,kept:=kp }:=by
 have hno:=I.d0 n hn;have kinds:∀k,ja st k->(Ch.mo { st with made:=st.made.set (n - 1) m,kept:=kp } k).k=(st.mo k).k:=λk h=>by
  by_cases z:k=n
  ·subst z;rw[ID hno rfl,hk]
  ·rw[w6 hno h.1 z rfl]
 have em:Ch.w8 { st with made:=st.made.set (n - 1) m,kept:=kp }=st.w8:=QW (by show (st.made.set (n - 1) m).length=_;rw[ajM]) kinds
 refine⟨?_,aiI I.lr,aiI I.ld,aiI I.la,lk,⟨I.sit.1,by have:=I.sit.2;show st.bf<=_;omega⟩,?_,?_,I.nd,hp,?_,by rw[em,<-I.kk];exact ek,by rw[em];exact I.ff,I.dw⟩
 ·show 3 * (st.made.set (n - 1) m).length<=_;rw[ajM];have:=I.lm;omega
 ·intro x hx;rcases List.mem_or_eq_of_mem_set hx with h | h
  ·exact(I.mok x h).mono (by omega)
  ·rw[h];exact hm
 ·intro k hk;have:=I.num k hk;exact⟨this.1,by show k<=(st.made.set (n - 1) m).length;rw[ajM];exact this.2⟩
 ·intro x hx;obtain⟨h1,h2⟩:=I.asd x hx;refine⟨?_,h2⟩;have:x.2.2.map (Ch.mo { st with made:=st.made.set (n - 1) m,kept:=kp })=x.2.2.map st.mo:=aj4 λk hk =>
   w6 hno (I.vw hx k hk).1 (λz=>I.KP hn hx (by rw[<-z];exact hk)) rfl
  rw[this];exact h1
theorem Inv.tj {N:Nat}{st:Ch}(I:Inv N st){n:Nat}{r:List Nat}(e:st.aH=n::r){u:Int}(h0:-10000000000 < u)(h1:u < 10000000000):Inv (N+1) (st.tj n u):=by
 have perm:List.Perm (st.tj n u).all st.all:=by
  unfold Ch.all Ch.tj;rw[List.flatMap_append,List.nil_append];show List.Perm ((st.aU.flatMap (·.2.2)++[(n,u,st.aH)].flatMap (·.2.2))++st.decided.map (·.1)) _
  rw[show [(n,u,st.aH)].flatMap (·.2.2)=st.aH by simp,<-ajv]
  exact List.Perm.append_right _ List.perm_append_comm
 refine⟨aiI I.lm,aiI I.lr,aiI I.ld,?_,λx hx=>aiI (I.lk x hx),⟨I.sit.1,by have:=I.sit.2;show st.bf<=_;omega⟩,λm hm=>(I.mok m hm).mono (by omega),λk hk=>I.num k (perm.mem_iff.mp hk),perm.nodup_iff.mpr I.nd,.nil,?_,I.kk,I.ff,I.dw⟩
 ·show (st.aU++[(n,u,st.aH)]).length<=_;rw[ki,aiw];have:=I.la;omega
 ·intro x hx;rcases List.mem_append.mp hx with hx | hx
  ·exact I.asd x hx
  ·rw[aiz]at hx;subst hx;exact⟨I.pil,⟨r,e⟩,h0,h1⟩
def Ch.carry (st:Ch):Mn->Ch
 | .chg e=>match st.aH with
  |n::_=>(match st.mo n with
   | .mat tx=>st.QU n tx e
   |_=>st)
  |[]=>st
 | .mnd f=>match st.aH.getLast? with
  |some n=>(match st.mo n with
   | .chg e=>st.QV n e (cG (R.bS e.th) f)
   |_=>st)
  |none=>st
 | .off u=>match st.aH with
  |n::_=>st.tj n u
  |[]=>st
 | .cls=>{ st with closed:=true }
 | .lay=>match st.aH with
  |n::_=>st.tj n st.bf
  |[]=>st
 | .rst=>{ st with bf:=st.bf+1 }
 |_=>st
theorem w9 (xs:List Str)(e:Ed):(cG xs e).length<=xs.length+1:=by
 unfold cG;split
 ·rw[ki,ku,ai4,ajj];omega
 ·exact aiI (List.length_eraseIdx_le _ _)
 ·rw[ajM];omega
theorem Cj {xs:List Str}{e:Ed}{x:Str}(h:x∈cG xs e):x∈xs\/x=e.th:=by
 unfold cG at h;split at h
 ·rcases List.mem_append.mp h with h | h
  ·exact .inl (ajG h)
  ·rcases List.mem_cons.mp h with h | h
   ·exact .inr h
   ·exact .inl (ajI h)
 ·exact .inl (List.mem_of_mem_eraseIdx h)
 ·exact List.mem_or_eq_of_mem_set h
theorem Vn {α β:Type}{f:α->β}{xs:List α}{y:β}(h:xs.map f=[y]):∃a,xs=[a]/\f a=y:=by
 cases xs with
 |nil=>cases h
 |cons a r =>
  cases r with
  |nil=>exact⟨a,rfl,by simpa using h⟩
  |cons b r=>simp at h
theorem ZU {α β:Type}{f:α->β}{xs:List α}{y z:β}(h:xs.map f=[y,z]):∃a b,xs=[a,b]/\f a=y/\f b=z:=by
 cases xs with
 |nil=>cases h
 |cons a r =>
  rw[ra]at h;obtain⟨b,rfl,e⟩:=Vn (List.cons.inj h).2;exact⟨a,b,rfl,(List.cons.inj h).1,e⟩
theorem OC {α β:Type}{f:α->β}{xs:List α}{y:β}{r:List β}(h:xs.map f=y::r):∃a s,xs=a::s/\f a=y:=by
 cases xs with
 |nil=>cases h
 |cons a s=>exact⟨a,s,rfl,(List.cons.inj h).1⟩
theorem EdB.ok {N:Nat}{e:Ed}(h:EdB N e)(hN:N<=4000):vj e:=by
 obtain⟨a,b,c,ws,d,f,g⟩:=h;refine⟨a,b,c,?_,?_⟩
 ·rw[d];exact l9 (λx hx=>by
   rw[show (R.bl1:Str).cps.toList=[32] by trivial,aiz]at hx
   omega) ws λw hw=>λx hx=>by have:=(f w hw).sgn x hx;unfold R.Sign at this;omega
 ·rw[d,R.jt];have h1:=oi 32 ws;have h2:=R.KD f;omega
theorem EdB.str {N:Nat}{e:Ed}(h:EdB N e):aiZ e.th=true:=by
 obtain⟨a,b,c,ws,d,f,g⟩:=h;rw[d];exact(l9 (λx hx=>by
  rw[show (R.bl1:Str).cps.toList=[32] by trivial,aiz]at hx
  omega) ws λw hw=>λx hx=>by have:=(f w hw).sgn x hx;unfold R.Sign at this;omega).ok
theorem EdB.words {N:Nat}{e:Ed}(h:EdB N e):(∀w∈R.bS e.th,R.p0 w)/\(R.bS e.th).length<=N:=by
 obtain⟨a,b,c,ws,d,f,g⟩:=h;rw[d,R.lD f];exact⟨f,g⟩
theorem AY {ws:List Str}{f:Ed}(h:∀w∈ws,R.p0 w)(hf:R.p0 f.th):∀w∈cG ws f,R.p0 w:=λw hw=>by
 rcases Cj hw with h1 | h1
 ·exact h w h1
 ·rw[h1];exact hf
theorem LN (n:Nat)(e:Ed)(xs:List (Nat×List Ed)):(E1 n e xs).map (·.1)=xs.map (·.1):=by
 unfold E1;rw[List.map_map];refine aj4 λx _=>?_
 show (if x.1=n then (x.1,x.2++[e]) else x).1=x.1
 split <;> rfl
theorem OD {n N:Nat}{e:Ed}{xs:List (Nat×List Ed)}(h:∀x∈xs,x.2.length<=N):∀x∈E1 n e xs,x.2.length<=N+1:=by
 intro x hx;obtain⟨y,hy,rfl⟩:=List.mem_map.mp hx;have:=h y hy;split
 ·show (y.2++[e]).length<=_;rw[ki,aiw];omega
 ·omega
theorem Inv.carry {N:Nat}{st:Ch}(I:Inv N st)(hN:N<=900){m:Mn}(ht:AW (st.aH.map st.mo) m)(hm:MOk N m):Inv (N+1) (st.carry m):=by
 have J:=I.mono (ajn N);cases m with
 |mat tx=>exact J
 |pnt z=>exact J
 |chg e =>
  obtain⟨tx,h1,hf⟩:=ht;obtain⟨k,e1,e2⟩:=Vn h1;have hn:k∈st.aH:=by rw[e1];exact kb
  have htx:=I.DJ (I.d0 k hn);rw[e2]at htx;have e3:st.carry (.chg e)=st.QU k tx e:=by unfold Ch.carry;rw[e1];dsimp only;rw[e2]
  rw[e3];refine I.Sr hn (by rw[e2];rfl) ?_ (LN k e st.kept) (OD I.lk) ?_
  ·have:=w9 tx e;have h3:tx.length<=12+N:=htx.1;refine⟨by omega,λx hx=>?_⟩
   rcases Cj hx with h | h
   ·exact htx.2 x h
   ·rw[h];exact EdB.str hm
  ·rw[e1,ra,ajY,ID (I.d0 k hn) rfl];exact PMs.snoc (ms:=[]) .nil rfl
 |mnd f =>
  obtain⟨tx,e,h1,hk,hf⟩:=ht;obtain⟨a,b,e1,e2,e3⟩:=ZU h1;have ha:a∈st.aH:=by rw[e1];exact kb
  have hb:b∈st.aH:=by rw[e1];exact kj _ kb
  have he:=I.DJ (I.d0 b hb);rw[e3]at he;have he':EdB (12+N) e:=he;obtain⟨w1,w2⟩:=he'.words;have e4:st.carry (.mnd f)=st.QV b e (cG (R.bS e.th) f):=by unfold Ch.carry;rw[e1];show (match st.mo b with | .chg e=>_ | _=>st)=_;rw[e3];rfl
  rw[e4];obtain⟨_,w,hw,hw2⟩:=hm;refine I.Sr (kp:=st.kept) hb (by rw[e3];rfl) ?_ rfl (λx hx=>aiI (I.lk x hx)) ?_
  ·refine⟨he'.1,he'.2.1,he'.2.2.1,_,rfl,AY w1 (by rw[hw];exact hw2),?_⟩
   have:=w9 (R.bS e.th) f;omega
  ·have ne:a≠b:=λz=>by rw[z,e3]at e2;cases e2
   have hp:=I.pil;rw[h1]at hp;obtain⟨tx',e5,e6⟩:=(PMs.pop (ms:=[.mat tx]) hp).2;cases e5;rw[e1,ra,ra,ajY,ID (I.d0 b hb) rfl,w6 (I.d0 b hb) (I.d0 a ha).1 ne rfl,e2];exact PMs.snoc (ms:=[.mat tx]) (PMs.snoc (ms:=[]) .nil rfl) ⟨tx,rfl,e6⟩
 |off u =>
  obtain⟨⟨tx,r,h1⟩,_⟩:=ht;obtain⟨k,s,e1,_⟩:=OC h1;have e3:st.carry (.off u)=st.tj k u:=by unfold Ch.carry;rw[e1]
  rw[e3];exact I.tj e1 hm.1 hm.2
 |lay =>
  obtain⟨⟨tx,r,h1⟩,_⟩:=ht;obtain⟨k,s,e1,_⟩:=OC h1;have e3:st.carry .lay=st.tj k st.bf:=by unfold Ch.carry;rw[e1]
  rw[e3];have:=I.sit;exact I.tj e1 (by omega) (by omega)
 |cls=>exact⟨J.lm,J.lr,J.ld,J.la,J.lk,J.sit,J.mok,J.num,J.nd,J.pil,J.asd,J.kk,J.ff,J.dw⟩
 |rst=>exact⟨J.lm,J.lr,J.ld,J.la,J.lk,⟨by have:=I.sit.1;show 1<=st.bf+1;omega,by have:=I.sit.2;show st.bf+1<=_;omega⟩,J.mok,J.num,J.nd,J.pil,J.asd,J.kk,J.ff,J.dw⟩
inductive Rs where
 |num (n:Nat) | txt (z:Str) | exc (x:Xc)
abbrev Ss:Str:=ar "kept"
abbrev Su:Str:=ar "lost"
abbrev vx:Str:=ar "dropped"
def IF (b:Bool):Str:=if b=true then Ss else Su
theorem KQ (b:Bool):aiZ (IF b)=true:=by
 unfold IF;split <;> trivial
def oX (st:Ch)(a b:Int):Rs×Ch:=match st.aH.getLast? with
 |none=>(.exc .nothing,st)
 |some n=>if a+b > st.cW then (.exc .tooMany,st) else
  (.txt (IF (tE (nd (st.mo n).k) a b)),(if tE (nd (st.mo n).k) a b=true then (st.popped st.aH.dropLast n (IF (tE (nd (st.mo n).k) a b))).carry (st.mo n) else st.popped st.aH.dropLast n (IF (tE (nd (st.mo n).k) a b))).yk (R.cz (.nums (ar "vote") [a,b])))
def qt (st:Ch):Rs×Ch:=match st.aH.getLast? with
 |none=>(.exc .nothing,st)
 |some n=>(.txt vx,(st.popped st.aH.dropLast n vx).yk (R.cz (.nums (ar "drop") [])))
def stepT (st:Ch)(n:Nat):Rs×Ch:=if st.aH=[] then (match at1 n st.aU with
 |none=>(.exc .DH,st)
 |some x=>if st.bf < x.2.1 then (.exc (.Iy x.2.1),st) else (.num n,{ st.vq n x.2.2 with rows:=st.rows++[R.cz (.nums (ar "take") [(n:Int)])] })) else (.exc (.AR (uh st.closed (st.aH.map st.mo))),st)
def oY (st:Ch):Mn->Option Xc
 | .chg e=>match st.aH.map st.mo with
  | .mat tx::_=>if g8 tx.length e=true then none else some .noFit
  |_=>none
 | .mnd f=>match (st.aH.map st.mo).getLast? with
  |some (.chg e)=>if g8 (R.bS e.th).length f=true then none else some .noFit
  |_=>none
 | .off u=>if u<=st.bf then some (.vn st.bf) else none
 |_=>none
def qb (st:Ch)(m:Mn):Option Xc:=match yj st.closed (st.aH.map st.mo) m.k with
 |some x=>some x
 |none=>oY st m
def Ch.moved (st:Ch)(m:Mn)(row:Str):Ch:={ st with made:=st.made++[m],aH:=st.aH++[st.made.length+1],firsts:=(match m with | .mat tx=>st.firsts++[(st.made.length+1,tx)] | _=>st.firsts),kept:=(match m with | .mat _=>st.kept++[(st.made.length+1,([]:List Ed))] | _=>st.kept),rows:=st.rows++[row] }
def oZ (st:Ch)(m:Mn)(row:Str):Rs×Ch:=match qb st m with
 |some x=>(.exc x,st)
 |none=>(.num (st.made.length+1),st.moved m row)
theorem Inv.moved {N:Nat}{st:Ch}(I:Inv N st){m:Mn}(hm:MOk N m)(hc:qb st m=none)(row:Str):Inv (N+3) (st.moved m row):=by
 have J:=I.mono (show N<=N+3 by omega)
 have ho:yj st.closed (st.aH.map st.mo) m.k=none/\oY st m=none:=by
  unfold qb at hc;split at hc
  ·cases hc
  ·exact⟨by assumption,hc⟩
 have hf:ZT (st.aH.map st.mo) m:=by
  have h:=ho.2;cases m with
  |chg e =>
   intro tx r e1;unfold oY at h;dsimp only at h;rw[e1]at h;dsimp only at h;split at h
   ·assumption
   ·cases h
  |mnd f =>
   intro r e e1;unfold oY at h;dsimp only at h;rw[e1,ajH]at h;dsimp only at h;split at h
   ·assumption
   ·cases h
  |_=>trivial
 have em:(st.moved m row).made=st.made++[m]:=rfl;have old:∀ks:List Nat,(∀k∈ks,ja st k)->ks.map (st.moved m row).mo=ks.map st.mo:=λks h=>aj4 λk hk=>Oz em (h k hk)
 have nok:∀k,ja st k->ja (st.moved m row) k:=λk h=>⟨h.1,by show k<=(st.made++[m]).length;rw[ki];have:=h.2;omega⟩
 have perm:List.Perm (st.moved m row).all ((st.made.length+1)::st.all):=by
  unfold Ch.all Ch.moved;rw[ajv];exact List.perm_middle
 have mt:(st.moved m row).w8=st.w8++(if m.k=0 then [st.made.length+1] else []):=by
  unfold Ch.w8;rw[em,ki,aiw,List.range'_concat,List.filter_append,Nat.one_mul,Nat.add_comm 1]
  congr 1
  ·refine List.filter_congr λk hk=>?_
   rw[List.mem_range'_1]at hk;rw[Oz em ⟨hk.1,by omega⟩]
  ·rw[List.filter_cons,OA em]
   by_cases z:m.k=0
   ·rw[if_pos (decide_eq_true z),if_pos z];rfl
   ·rw[if_neg (by rw[decide_eq_false z];decide),if_neg z];rfl
 refine⟨?_,?_,J.ld,J.la,?_,J.sit,?_,?_,?_,?_,?_,?_,?_,J.dw⟩
 ·show 3 * (st.made++[m]).length<=_;rw[ki,aiw];have:=I.lm;omega
 ·show (st.rows++[row]).length<=_;rw[ki,aiw];have:=I.lr;omega
 ·intro x hx;have hx':x∈(match m with | .mat _=>st.kept++[(st.made.length+1,([]:List Ed))] | _=>st.kept):=hx
  cases m with
  |mat tx =>
   rcases List.mem_append.mp hx' with h | h
   ·exact J.lk x h
   ·rw[aiz]at h;rw[h];exact aiW _
  |_=>exact J.lk x hx'
 ·intro x hx;rcases List.mem_append.mp (show x∈st.made++[m] from hx) with h | h
  ·exact J.mok x h
  ·rw[aiz]at h;rw[h];exact hm.mono (by omega)
 ·intro k hk;rcases List.mem_cons.mp (perm.mem_iff.mp hk) with h | h
  ·rw[h];exact⟨by omega,by show _<=(st.made++[m]).length;rw[ki,aiw];omega⟩
  ·exact nok k (I.num k h)
 ·rw[perm.nodup_iff,List.nodup_cons];exact⟨λz=>by have:=(I.num _ z).2;omega,I.nd⟩
 ·show PMs ((st.aH++[st.made.length+1]).map (st.moved m row).mo);rw[tu,old st.aH I.d0,ra,ajY,OA em];exact I.pil.push ho.1 hf
 ·intro x hx;obtain⟨h1,h2⟩:=I.asd x hx;exact⟨by rw[old _ (I.vw hx)];exact h1,h2⟩
 ·rw[mt,<-I.kk];cases m with
  |mat tx=>show (st.kept++[(st.made.length+1,([]:List Ed))]).map (·.1)=_;rw[tu,if_pos (show (Mn.mat tx).k=0 from rfl)];rfl
  |_=>exact(aji _).symm
 ·rw[mt,<-I.ff];cases m with
  |mat tx=>show (st.firsts++[(st.made.length+1,tx)]).map (·.1)=_;rw[tu,if_pos (show (Mn.mat tx).k=0 from rfl)];rfl
  |_=>exact(aji _).symm
theorem Ck {n:Nat}{x:Nat×Int×List Nat}:∀ {as:List (Nat×Int×List Nat)},(as.flatMap (·.2.2)).Nodup->(∀y∈as,∃r,y.2.2=y.1::r)->at1 n as=some x->List.Perm (x.2.2++(as.filter λy=>decide (y.1≠n)).flatMap (·.2.2)) (as.flatMap (·.2.2))
 |[],_,_,h=>nomatch h
 |y::as,nd,hd,h=>by
  rw[List.flatMap_cons]at nd ⊢;obtain⟨n1,n2,n3⟩:=List.nodup_append.mp nd;unfold at1 at h;rw[ajN]at h
  by_cases e:y.1=n
  ·rw[decide_eq_true e]at h;cases h;have:as.filter (λz=>decide (z.1≠n))=as:=by
    rw[List.filter_eq_self];intro z hz;refine decide_eq_true λq=>?_
    obtain⟨r,hr⟩:=hd z (kj _ hz);obtain⟨r',hr'⟩:=hd x kb;exact n3 n (by rw[hr',e];exact kb) n (List.mem_flatMap.mpr ⟨z,hz,by rw[hr,q];exact kb⟩) rfl
   rw[List.filter_cons_of_neg (by simp[e]),this]
  ·rw[decide_eq_false e]at h;have ih:=Ck n2 (λz hz=>hd z (kj _ hz)) h
   rw[List.filter_cons_of_pos (by simp[e]),List.flatMap_cons,<-ajv]
   exact(List.Perm.append_right _ List.perm_append_comm).trans (by rw[ajv];exact List.Perm.append_left _ ih)
theorem Inv.vq {N:Nat}{st:Ch}(I:Inv N st){n:Nat}{x:Nat×Int×List Nat}(hp:st.aH=[])(hx:at1 n st.aU=some x)(row:Str):Inv (N+1) { st.vq n x.2.2 with rows:=st.rows++[row] }:=by
 have J:=I.mono (ajn N);have hm:=(qa hx).2;have nd:=I.nd;unfold Ch.all at nd;rw[hp,List.nil_append]at nd;have pm:=Ck (List.nodup_append.mp nd).1 (λy hy=>(I.asd y hy).2.1) hx
 have perm:List.Perm (Ch.all { st.vq n x.2.2 with rows:=st.rows++[row] }) st.all:=by
  unfold Ch.all Ch.vq;rw[hp,List.nil_append,<-ajv];exact List.Perm.append_right _ pm
 refine⟨J.lm,?_,J.ld,?_,J.lk,J.sit,J.mok,λk hk=>I.num k (perm.mem_iff.mp hk),perm.nodup_iff.mpr I.nd,(I.asd x hm).1,λy hy=>I.asd y (List.mem_filter.mp hy).1,I.kk,I.ff,I.dw⟩
 ·show (st.rows++[row]).length<=_;rw[ki,aiw];have:=I.lr;omega
 ·exact rf (List.length_filter_le _ _) J.la
theorem Inv.oX {N:Nat}{st:Ch}(I:Inv N st)(hN:N<=800)(a b:Int):Inv (N+3) (oX st a b).2:=by
 unfold My.oX;split
 ·exact I.mono (by omega)
 ·rename_i n h;obtain⟨pre,e⟩:=sX h;split
  ·exact I.mono (by omega)
  ·have ed:st.aH.dropLast=pre:=by rw[e];exact List.dropLast_concat
   obtain⟨I1,ht⟩:=I.pop e (IF (tE (My.nd (st.mo n).k) a b)) (KQ _);rw[ed];have hn:n∈st.aH:=by rw[e];simp
   split
   ·exact(I1.carry (by omega) ht ((I.DJ (I.d0 n hn)).mono (by omega))).yk _
   ·exact(I1.yk _).mono (by omega)
theorem Inv.qt {N:Nat}{st:Ch}(I:Inv N st):Inv (N+3) (qt st).2:=by
 unfold My.qt;split
 ·exact I.mono (by omega)
 ·rename_i n h;obtain⟨pre,e⟩:=sX h;have ed:st.aH.dropLast=pre:=by rw[e];exact List.dropLast_concat
  rw[ed];exact((I.pop e vx (by trivial)).1.yk _).mono (by omega)
theorem Inv.stepT {N:Nat}{st:Ch}(I:Inv N st)(n:Nat):Inv (N+3) (stepT st n).2:=by
 unfold My.stepT;split
 ·split
  ·exact I.mono (by omega)
  ·split
   ·exact I.mono (by omega)
   ·exact(I.vq (by assumption) (by assumption) _).mono (by omega)
 ·exact I.mono (by omega)
theorem Inv.oZ {N:Nat}{st:Ch}(I:Inv N st){m:Mn}(hm:MOk N m)(row:Str):Inv (N+3) (oZ st m row).2:=by
 unfold My.oZ;split
 ·exact I.mono (by omega)
 ·exact I.moved hm (by assumption) row
def E2 (A:Adr)(i:Nat)(c:Col)(H:Hp)(o:Addr):Rs×Ch->VK->XK->Prop
 | (.num n,st),Q,_=>∀c' H',Step (eL i) c c' H H'->eN A i c' H' o st->Q (nV n) H'
 | (.txt z,st),Q,_=>∀c' H',Step (eL i) c c' H H'->eN A i c' H' o st->Q (.str z) H'
 | (.exc x,st),_,E=>∀c' H' C d,Step (eL i) c c' H H'->eN A i c' H' o st->x.At A H' C d->(∀a,d=some a->c' a=none)->E C d H'
def KR:List Str:=[ar "seats",ar "sitting",ar "closed",ar "made",ar "pile",ar "aside",ar "decided",ar "first_texts",ar "edits_kept",ar "rows"]
theorem dZ {m:Str}{v0 v1 v2 v3 v4 v5 v6 v7 v8 v9:V}(h:m∉KR):(chF v0 v1 v2 v3 v4 v5 v6 v7 v8 v9).lookup m=none:=by
 unfold KR at h;simp only[ajE,ajk,or_false,not_or]at h;obtain⟨h0,h1,h2,h3,h4,h5,h6,h7,h8,h9⟩:=h;unfold chF;simp only[ai9,beq_eq_false_iff_ne.mpr h0,beq_eq_false_iff_ne.mpr h1,beq_eq_false_iff_ne.mpr h2,beq_eq_false_iff_ne.mpr h3,beq_eq_false_iff_ne.mpr h4,beq_eq_false_iff_ne.mpr h5,beq_eq_false_iff_ne.mpr h6,beq_eq_false_iff_ne.mpr h7,beq_eq_false_iff_ne.mpr h8,beq_eq_false_iff_ne.mpr h9]
def QX (A:Adr)(i:Nat):Sp:=λvs H Q _=>∃(o mo:Addr) (c:Col) (st:Ch) (m:Mn) (N:Nat),vs=[.ref o,.ref mo]/\eN A i c H o st/\mn A c H m mo/\Inv N st/\N<=900/\AW (st.aH.map st.mo) m/\MOk N m /\
 ∀c' H',Step (eL i) c c' H H'->eN A i c' H' o (st.carry m)->Q .non H'
def Vo (A:Adr)(i:Nat):Sp:=λvs H Q E=>∃(o:Addr) (a b:Int) (c:Col) (st:Ch) (N:Nat),vs=[.ref o,.int a,.int b]/\eN A i c H o st/\Inv N st/\N<=800/\(0<=a/\a < 10 ^ 10)/\(0<=b/\b < 10 ^ 10)/\E2 A i c H o (oX st a b) Q E
def Vp (A:Adr)(i:Nat):Sp:=λvs H Q E=>∃(o:Addr) (c:Col) (st:Ch) (N:Nat),vs=[.ref o]/\eN A i c H o st/\Inv N st/\N<=800/\E2 A i c H o (qt st) Q E
def Vq (A:Adr)(i:Nat):Sp:=λvs H Q E=>∃(o:Addr) (z:Int) (c:Col) (st:Ch) (N:Nat),vs=[.ref o,.int z]/\eN A i c H o st/\Inv N st/\N<=800/\-1<=z/\z < 10 ^ 10/\E2 A i c H o (stepT st z.toNat) Q E
theorem Cn:∀ {ks:List Nat} {vs:List V},jP (bh (ks.zip vs)) (om (-1))=none
 |[],_=>rfl
 |_::_,[]=>rfl
 |k::ks,v::vs=>by
  rw[dF,iQ (λz=>by have:=Sum.inl.inj z;omega)]
  exact Cn
theorem Inv.no0 {N:Nat}{st:Ch}(I:Inv N st):at1 0 st.aU=none:=by
 cases e:at1 0 st.aU with
 |none=>rfl
 |some x =>
  obtain⟨h1,h2⟩:=qa e;obtain⟨r,hr⟩:=(I.asd x h2).2.1;have:=(I.vw h2 x.1 (by rw[hr];exact kb)).1
  omega
theorem DK {i:Nat}{c:Col}{H:Hp}{t:Addr}{xs:List V}:wZ i (aY c t none) (upd H t (.tup xs)) t xs:=⟨by rw[b5];exact aS,ae⟩
theorem vy {A:Adr}{c:Col}{H H':Hp}{f:Nat->Mn}(s:aZ H H'):∀ {ns:List Nat} {os:List Addr},cY (λn m=>mn A c H (f n) m) ns os->cY (λm p=>mn A c H' m p) (ns.map f) os
 |_,_,.nil=>.nil
 |_,_,.cons h t=>.cons (h.same s) (vy s t)
theorem AZ {kd:Str}{ns:List Int}(h:(kd,ns.length)∈R.dJ)(hn:∀i∈ns,0<=i/\i < 10 ^ 10):R.DOk (.nums kd ns):=⟨h,hn⟩
section
variable{P:kx}{w:World}{K:bo}{mg:Str->Option Value}{base:Heap}{A:Adr}
theorem DL (T:Txt w.params K mg A){i:Nat}:FnOk P w K mg base CX0 5 A.bM A.gy ["self","motion"] (QX A i):=by
 have gH:∀k,k < 8->FnOk P w K mg base CX0 1 (A.fk k) (A.fkd k) ["self"] (f6 k):=lC T;refine T.dG.ok jQ (λvs H Q E h=>?_) (λcdv A' outer s H vs Q E hr h=>?_)
 ·obtain⟨o,mo,c,st,m,N,rfl,_⟩:=h;rfl
 ·obtain⟨o,mo,c,st,m,N,rfl,hc,hmo,I,hN,IG,OE,q⟩:=h;obtain⟨dx,aM,aP,aA,aD,aF,aE,aR,ms,ds,ws,fs,es,X⟩:=hc.ex;refine⟨_,(ao (bg (i:=2) jQ.nd rfl (aiF rfl) (ot (n:=8) (Cf:=A.C) (pv 1) T.cl T.nD gH (hr.mono (by decide)) T.nF a9))
 (ai (bX (aO bD (pv 2) aq (aJ _))
 (ai (bY (kY (pv 0) T.ah T.iK (w4 (i:=i) T) hr T.dB .nil a9 (aa (bu (pv 1) rfl) ag))))
 (ai (bX (aO bD (pv 2) aq (aJ _))
 (ai (bY (kY (pv 0) T.ah T.iL (w5 (i:=i) T) hr T.dC .nil a9 (aa (bu (pv 1) rfl) ag))))
 (ai (bX (aO bD (pv 2) aq (aJ _))
 (ai (bY (kY (pv 0) T.ah T.gY (vv (i:=i) T) (hr.mono (by decide)) T.dI .nil a9 (aa (bu (pv 1) rfl) ag))))
 (ai (bX (aO bD (pv 2) aq (aJ _))
 (ai (eT (pv 0) oh rfl))
 (ai (bX (aO bD (pv 2) aq (aJ _))
 (ai (bY (kY (pv 0) T.ah T.gY (vv (i:=i) T) (hr.mono (by decide)) T.dI .nil a9 (aa (bu (pv 0) rfl) ag))))
 (ai (bX (aO bD (pv 2) aq (aJ _))
 (ai (eT (pv 0) (bP eS (bu (pv 0) rfl) aj) rfl))
 aN))))))))))))),?_⟩
  try dsimp only[bI]
  refine aT λGq gq=>?_
  obtain⟨hcn,dm,v,hm,hv⟩:=hmo;refine gq ?_;refine⟨_,rfl,m.k,m.k8,mo,dm,_,rfl,hm,lB m.k v,mo,rfl,?_⟩;have lM:=I.lm;cases m with
  |mat tx=>exact⟨_,rfl,rfl,tsf (f7 0 (by decide)) ⟨_,rfl,rfl,tsf (iq 0 (by decide)) ⟨_,rfl,rfl,tsf (kM 0 (by decide)) ⟨_,rfl,rfl,tsf (AV 0 (by decide)) ⟨_,rfl,rfl,tsf (DI 0 (by decide)) ⟨_,rfl,rfl,tsf (IB 0 (by decide)) (q c H (Step.refl aS) hc)⟩⟩⟩⟩⟩⟩
  |pnt z=>exact⟨_,rfl,rfl,tsf (f7 7 (by decide)) ⟨_,rfl,rfl,tsf (iq 7 (by decide)) ⟨_,rfl,rfl,tsf (kM 7 (by decide)) ⟨_,rfl,rfl,tsf (AV 7 (by decide)) ⟨_,rfl,rfl,tsf (DI 7 (by decide)) ⟨_,rfl,rfl,tsf (IB 7 (by decide)) (q c H (Step.refl aS) hc)⟩⟩⟩⟩⟩⟩
  |chg e =>
   refine⟨_,rfl,rfl,tst (f7 1 (by decide)) ?_⟩
   refine aT λGq gq=>?_
   obtain⟨tx,h1,hf⟩:=IG;obtain⟨k,e1,e2⟩:=Vn h1;have hn:k∈st.aH:=by rw[e1];exact kb
   have hno:=I.d0 k hn;have htx:=I.DJ hno;rw[e2]at htx;have ait:tx.length<=12+N:=htx.1;obtain⟨x,hx,hxl⟩:=I.keptAt hno (by rw[e2];rfl)
   have e3:st.carry (.chg e)=st.QU k tx e:=by unfold Ch.carry;rw[e1];dsimp only;rw[e2]
   rw[e3]at q;have ZV:EdB (12+N) e:=OE;obtain⟨t,rfl,ht⟩:=hv;refine gq ?_;refine mtv rfl X.ob (dZ (by trivial)) ⟨_,rfl,mo,A.C 1,dm,_,.ref t,rfl,hm,T.cl 1 (by decide),T.na1,rfl,?_⟩
   exact⟨o,t,c,st,k,[],tx,e,x,rfl,hc,e1,hno,e2,by omega,by omega,ht,ZV.ok (by omega),hf,hx,by omega,by rw[I.kk];exact IE st,q⟩
  |mnd f =>
   refine⟨_,rfl,rfl,tsf (f7 2 (by decide)) ⟨_,rfl,rfl,tst (iq 2 (by decide)) ?_⟩⟩
   refine aT λGq gq=>?_
   obtain⟨tx,e,h1,hk,hf⟩:=IG;obtain⟨a,b,e1,e2,e3⟩:=ZU h1;have hb:b∈st.aH:=by rw[e1];exact kj _ kb
   have hno:=I.d0 b hb;have he:=I.DJ hno;rw[e3]at he;have he':EdB (12+N) e:=he;obtain⟨w1,w2⟩:=he'.words;have e4:st.carry (.mnd f)=st.QV b e (cG (R.bS e.th) f):=by unfold Ch.carry;rw[e1];show (match st.mo b with | .chg e=>_ | _=>st)=_;rw[e3];rfl
   rw[e4]at q;obtain⟨hf1,w0,hw0,hw1⟩:=OE;have l1:=w9 (R.bS e.th) f;have l2:=R.KD (AY w1 (by rw[hw0];exact hw1):∀w∈cG (R.bS e.th) f,R.p0 w)
   obtain⟨t,rfl,ht⟩:=hv;refine gq ?_;refine mtv rfl X.ob (dZ (by trivial)) ⟨_,rfl,mo,A.C 2,dm,_,.ref t,rfl,hm,T.cl 2 (by decide),T.na2,rfl,?_⟩
   exact⟨o,t,c,st,b,[a],e,f,rfl,hc,e1,hno,e3,hk,he'.ok (by omega),by omega,by omega,ht,hf1.ok (by omega),hf,by omega,q⟩
  |off u =>
   refine⟨_,rfl,rfl,tsf (f7 3 (by decide)) ⟨_,rfl,rfl,tsf (iq 3 (by decide)) ⟨_,rfl,rfl,tst (kM 3 (by decide)) ?_⟩⟩⟩
   refine aT λGq gq=>?_
   obtain⟨⟨tx,r,h1⟩,_⟩:=IG;obtain⟨k,r',e1,_⟩:=OC h1;have e3:st.carry (.off u)=st.tj k u:=by unfold Ch.carry;rw[e1]
   rw[e3]at q;have hv':v=.int u:=hv;subst hv';have:=I.la;refine gq ?_;refine mtv rfl X.ob (dZ (by trivial)) ⟨_,rfl,mo,A.C 3,dm,_,.int u,rfl,hm,T.cl 3 (by decide),T.na3,rfl,?_⟩
   exact⟨o,u,c,st,k,r',rfl,hc,e1,I.OB (by rw[e1];exact kb),by omega,q⟩
  |cls =>
   refine⟨_,rfl,rfl,tsf (f7 4 (by decide)) ⟨_,rfl,rfl,tsf (iq 4 (by decide)) ⟨_,rfl,rfl,tsf (kM 4 (by decide)) ⟨_,rfl,rfl,tst (AV 4 (by decide)) ?_⟩⟩⟩⟩
   refine⟨_,rfl,o,A.ak,dx,_,rfl,X.ob,T.ah,T.jq8,(by show 10 < 1000;decide),?_⟩
   rw[AN];obtain⟨s1,X1⟩:=X.attr st.bf true;exact q c _ s1.rF X1.at
  |lay =>
   refine⟨_,rfl,rfl,tsf (f7 5 (by decide)) ⟨_,rfl,rfl,tsf (iq 5 (by decide)) ⟨_,rfl,rfl,tsf (kM 5 (by decide)) ⟨_,rfl,rfl,tsf (AV 5 (by decide)) ⟨_,rfl,rfl,tst (DI 5 (by decide)) ?_⟩⟩⟩⟩⟩
   refine aT λGq gq=>?_
   obtain⟨⟨tx,r,h1⟩,_⟩:=IG;obtain⟨k,r',e1,_⟩:=OC h1;have e3:st.carry .lay=st.tj k st.bf:=by unfold Ch.carry;rw[e1]
   rw[e3]at q;have:=I.la;refine gq ?_;refine mtv rfl X.ob (dZ (by trivial)) (gu rfl X.ob T.ah T.jq1 jX ?_)
   exact⟨o,st.bf,c,st,k,r',rfl,hc,e1,I.OB (by rw[e1];exact kb),by omega,q⟩
  |rst =>
   refine⟨_,rfl,rfl,tsf (f7 6 (by decide)) ⟨_,rfl,rfl,tsf (iq 6 (by decide)) ⟨_,rfl,rfl,tsf (kM 6 (by decide)) ⟨_,rfl,rfl,tsf (AV 6 (by decide)) ⟨_,rfl,rfl,tsf (DI 6 (by decide)) ⟨_,rfl,rfl,tst (IB 6 (by decide)) ?_⟩⟩⟩⟩⟩⟩
   refine gu rfl X.ob T.ah T.jq1 jX ⟨_,_,rfl,rfl,_,rfl,o,A.ak,dx,_,rfl,X.ob,T.ah,T.jq1,(by show 10 < 1000;decide),?_⟩
   rw[EU];obtain⟨s1,X1⟩:=X.attr (st.bf+1) st.closed;exact q c _ s1.rF X1.at
theorem QY (T:Txt w.params K mg A){i:Nat}:FnOk P w K mg base (CXX P w) 6 A.cM A.kD ["self","ayes","noes"] (Vo A i):=by
 have Vr:∀k,k < 8->FnOk P w K mg base CX0 1 (A.fn k) (A.fnd k) ["self"] (Dx k):=QP T;refine T.gD.okX j9 (λvs H Q E h=>?_) (λcdv A' outer s H vs Q E hr h=>?_)
 ·obtain⟨o,a,b,c,st,N,rfl,_⟩:=h;rfl
 ·obtain⟨o,a,b,c,st,N,rfl,hc,I,hN,ha,hb,q⟩:=h;obtain⟨dx,aM,aP,aA,aD,aF,aE,aR,ms,ds,ws,fs,es,X⟩:=hc.ex;have hu1:=hr.u1;refine⟨_,(au (cf (vW (px (pv 0)) T.ah T.d5 (mq (i:=i) T) (hr.mono (by decide)) T.cv))
 (au (dE (aO R1 (bP eS (pv 1) (pv 2)) (bu (pv 0) rfl) (aJ _))
 (aL (lF T.AD rfl rfl T.wO (aa aq ag)))
 (mQ aN))
 (au (psx (bg (i:=3) j9.nd rfl (aiF rfl) (sH hu1 (bu (pv 0) rfl) (aW bx (bu (pv 0) rfl) (zA tN aj) (λ_ _=>rfl)) (λ_ _=>rfl))))
 (au (psx (bg (i:=4) j9.nd rfl (aiF rfl) (D5 (ib (bw (Iv T) (hr.mono (by decide)) rfl T.B7 T.wH.kp T.B6 .nil a9 (aa (ot (n:=8) (Cf:=A.C) (pv 3) T.cl T.N7 Vr (hr.mono (by decide)) T.N8 a9) (aa (pv 1) (aa (pv 2) ag))))) aq aq)))
 (au (psx (bY (kY (pv 0) T.ah T.js (Cd (i:=i) T) (hr.mono (by decide)) T.fg .nil a9 (aa (pv 4) ag))))
 (au (psx (bX (aO bD (pv 4) aq (aJ _))
 (ai (bY (kY (pv 0) T.ah T.kU (DL (i:=i) T) hr T.eQ .nil a9 (aa (pv 3) ag))))
 aN))
 (au (psx (bY (kY (pv 0) T.ah T.fv (qr (i:=i) T) hr T.cR .nil a9 (aa (cZ (aa aq (aa (pv 1) (aa (pv 2) ag)))) ag))))
 (aL (psx (aG (pv 4))))))))))),?_⟩
  try dsimp only[bI]
  refine mtv rfl X.ob (dZ (by trivial)) ⟨o,c,st,rfl,hc,λhne=>?_,λhe=>?_⟩
  case refine_2 =>
   unfold oX at q;rw[he]at q;exact q c H _ _ (Step.refl aS) hc ⟨rfl,rfl⟩ (λ_ z=>nomatch z)
  refine aT λGq gq=>?_
  obtain⟨pre,n,e⟩:∃pre n,st.aH=pre++[n]:=by
   rcases aje st.aH with e | ⟨pre,n,e⟩
   ·exact absurd e hne
   ·exact⟨pre,n,by rw[e,ajf]⟩
  have gl:st.aH.getLast?=some n:=by rw[e];exact ajH
  have ed:st.aH.dropLast=pre:=by rw[e];exact List.dropLast_concat
  unfold oX at q;rw[gl]at q;dsimp only at q;rw[ed]at q;refine gq ?_;refine⟨_,rfl,_,rfl,_,_,rfl,rfl,gu rfl X.ob T.ah T.jqz LF ⟨_,_,rfl,rfl,_,rfl,gU (λz=>?_) (λz=>?_)⟩⟩
  ·have z':a+b > st.cW:=of_decide_eq_true z;rw[if_pos z']at q;exact⟨by decide,q c H _ _ (Step.refl aS) hc ⟨rfl,rfl⟩ (λ_ z=>nomatch z)⟩
  refine aT λGq gq=>?_
  have z':¬a+b > st.cW:=λy=>z (decide_eq_true y)
  rw[if_neg z']at q;have hn:n∈st.aH:=by rw[e];simp
  have hno:=I.d0 n hn;obtain⟨mo,hv,hmo⟩:=X.Vl hno;have hcp:=hmo;obtain⟨_,dm,v,hm,_⟩:=hmo;have h0:atI (st.aH.map nV) (-1)=some (nV n):=by rw[e,tu];exact qE _ _
  refine gq ?_;refine⟨_,rfl,o,A.ak,dx,_,.ref aM,rfl,X.ob,T.ah,T.jq2,jY,_,rfl,o,A.ak,dx,_,.ref aP,rfl,X.ob,T.ah,T.jq0,fD,_,rfl,aP,_,_,_,rfl,rfl,SqL.of X.aH.2,h0,aM,_,rfl,.inl ⟨_,om (n:Int),.inl X.made.2,rfl,hv.symm⟩,?_⟩;refine⟨_,rfl,(st.mo n).k,(st.mo n).k8,mo,dm,_,rfl,hm,QF _ v,mo,rfl,_,rfl,_,rfl,nd (st.mo n).k,a,b,rfl,_,rfl,?_⟩;obtain⟨I1,IG⟩:=I.pop e (IF (tE (nd (st.mo n).k) a b)) (KQ _);have OE:=(I.DJ hno).mono (ajn N);have lp:=I.pil.LM;rw[da]at lp;have ld:=I.ld;have lr:=I.lr;have dk:R.DOk (.nums (ar "vote") [a,b]):=AZ (by show (ar "vote",2)∈R.dJ;trivial) (by
   intro i hi;rcases List.mem_cons.mp hi with h | hi
   ·rw[h];exact ha
   ·rw[aiz]at hi;rw[hi];exact hb)
  cases hk:tE (nd (st.mo n).k) a b with
  |true =>
   rw[hk]at q I1;rw[if_pos rfl]at q;refine gS (mtv rfl X.ob (dZ (by trivial)) ⟨_,rfl,o,Ss,c,st,pre,n,rfl,hc,e,by omega,by omega,λc1 H1 s1 hc1=>?_⟩)
   refine aT λGq gq=>?_
   obtain⟨dx1,aM1,aP1,aA1,aD1,aF1,aE1,aR1,ms1,ds1,ws1,fs1,es1,X1⟩:=hc1.ex;refine gq ?_;refine⟨_,rfl,rfl,tst (by trivial) (mtv rfl X1.ob (dZ (by trivial)) ⟨_,rfl,o,mo,c1,_,st.mo n,N+1,rfl,hc1,hcp.step s1,I1,by omega,IG,OE,λc2 H2 s2 hc2=>?_⟩)⟩
   refine aT λGq gq=>?_
   obtain⟨dx2,aM2,aP2,aA2,aD2,aF2,aE2,aR2,ms2,ds2,ws2,fs2,es2,X2⟩:=hc2.ex;have I2:=I1.carry (by omega) IG OE
   refine gq ?_;refine mtv rfl X2.ob (dZ (by trivial)) ⟨_,rfl,_,rfl,(sl 3),λt ht=>?_⟩
   have s3:Step (eL i) c2 (aY c2 t none) H2 (upd H2 t (.tup [V.str (ar "vote"),.int a,.int b])):=Step.new aS ht;have X3:=X2.free (W:=λ_=>False) (λ_=>id) (Step.new (x:=none) (o:=.tup [V.str (ar "vote"),.int a,.int b]) id ht)
   have lr2:=I2.lr;refine⟨o,t,_,_,.nums (ar "vote") [a,b],rfl,X3.at,DK,dk,rf lr2 (by omega),λc4 H4 s4 hc4=>⟨_,rfl,?_⟩⟩
   exact q c4 H4 (((s1.trans s2).trans s3).trans s4) hc4
  |false =>
   rw[hk]at q I1;rw[if_neg kg]at q;refine eu (mtv rfl X.ob (dZ (by trivial)) ⟨_,rfl,o,Su,c,st,pre,n,rfl,hc,e,by omega,by omega,λc1 H1 s1 hc1=>?_⟩)
   refine aT λGq gq=>?_
   obtain⟨dx2,aM2,aP2,aA2,aD2,aF2,aE2,aR2,ms2,ds2,ws2,fs2,es2,X2⟩:=hc1.ex;refine gq ?_;refine⟨_,rfl,rfl,tsf (by trivial) ?_⟩
   refine mtv rfl X2.ob (dZ (by trivial)) ⟨_,rfl,_,rfl,(sl 3),λt ht=>?_⟩
   have s3:Step (eL i) c1 (aY c1 t none) H1 (upd H1 t (.tup [V.str (ar "vote"),.int a,.int b])):=Step.new aS ht;have X3:=X2.free (W:=λ_=>False) (λ_=>id) (Step.new (x:=none) (o:=.tup [V.str (ar "vote"),.int a,.int b]) id ht)
   refine⟨o,t,_,_,.nums (ar "vote") [a,b],rfl,X3.at,DK,dk,by show st.rows.length<=1000;omega,λc4 H4 s4 hc4=>⟨_,rfl,?_⟩⟩
   exact q c4 H4 ((s1.trans s3).trans s4) hc4
theorem QZ (T:Txt w.params K mg A){i:Nat}:FnOk P w K mg base (CXX P w) 6 A.cN A.kF ["self"] (Vp A i):=by
 refine T.gF.okX yf (λvs H Q E h=>?_) (λcdv A' outer s H vs Q E hr h=>?_)
 ·obtain⟨o,c,st,N,rfl,_⟩:=h;rfl
 ·obtain⟨o,c,st,N,rfl,hc,I,hN,q⟩:=h;obtain⟨dx,aM,aP,aA,aD,aF,aE,aR,ms,ds,ws,fs,es,X⟩:=hc.ex;refine⟨_,(au (cf (vW (px (pv 0)) T.ah T.d5 (mq (i:=i) T) (hr.mono (by decide)) T.cv))
 (au (psx (bY (kY (pv 0) T.ah T.js (Cd (i:=i) T) (hr.mono (by decide)) T.fg .nil a9 (aa aq ag))))
 (au (psx (bY (kY (pv 0) T.ah T.fv (qr (i:=i) T) hr T.cR .nil a9 (aa (cZ (aa aq ag)) ag))))
 (aL (psx (aG aq)))))),?_⟩
  try dsimp only[bI]
  refine mtv rfl X.ob (dZ (by trivial)) ⟨o,c,st,rfl,hc,λhne=>?_,λhe=>?_⟩
  case refine_2 =>
   unfold qt at q;rw[he]at q;exact q c H _ _ (Step.refl aS) hc ⟨rfl,rfl⟩ (λ_ z=>nomatch z)
  refine aT λGq gq=>?_
  obtain⟨pre,n,e⟩:∃pre n,st.aH=pre++[n]:=by
   rcases aje st.aH with e | ⟨pre,n,e⟩
   ·exact absurd e hne
   ·exact⟨pre,n,by rw[e,ajf]⟩
  have gl:st.aH.getLast?=some n:=by rw[e];exact ajH
  have ed:st.aH.dropLast=pre:=by rw[e];exact List.dropLast_concat
  unfold qt at q;rw[gl]at q;dsimp only at q;rw[ed]at q;have lp:=I.pil.LM;rw[da]at lp;have ld:=I.ld;have lr:=I.lr;refine gq ?_;refine mtv rfl X.ob (dZ (by trivial)) ⟨o,vx,c,st,pre,n,rfl,hc,e,by omega,by omega,λc1 H1 s1 hc1=>?_⟩
  refine aT λGq gq=>?_
  obtain⟨dx2,aM2,aP2,aA2,aD2,aF2,aE2,aR2,ms2,ds2,ws2,fs2,es2,X2⟩:=hc1.ex;refine gq ?_;refine mtv rfl X2.ob (dZ (by trivial)) ⟨(sl 1),λt ht=>?_⟩
  have s3:Step (eL i) c1 (aY c1 t none) H1 (upd H1 t (.tup [V.str (ar "drop")])):=Step.new aS ht;have X3:=X2.free (W:=λ_=>False) (λ_=>id) (Step.new (x:=none) (o:=.tup [V.str (ar "drop")]) id ht)
  refine⟨o,t,_,_,.nums (ar "drop") [],rfl,X3.at,DK,AZ (by trivial) (λ_ h=>nomatch h),by show st.rows.length<=1000;omega,λc4 H4 s4 hc4=>?_⟩
  exact q c4 H4 ((s1.trans s3).trans s4) hc4
theorem Q0 (T:Txt w.params K mg A){i:Nat}:FnOk P w K mg base (CXX P w) 6 A.cO A.kG ["self","number"] (Vq A i):=by
 have jZ:FnOk P w K mg base CX0 4 A.lL A.gR ["deed"] (R.DE K):=R.p9 T;refine T.gG.okX qf (λvs H Q E h=>?_) (λcdv A' outer s H vs Q E hr h=>?_)
 ·obtain⟨o,z,c,st,N,rfl,_⟩:=h;rfl
 ·obtain⟨o,z,c,st,N,rfl,hc,I,hN,hz0,hz1,q⟩:=h;obtain⟨dx,aM,aP,aA,aD,aF,aE,aR,ms,ds,ws,fs,es,X⟩:=hc.ex;have hu1:=hr.u1;have hgd:=hr.gd;have lim:gc=16777216:=by decide
  refine⟨_,(au (dE (qD (bu (pv 0) rfl) (λ_=>rfl))
 (aL (lQ T.oO (xR T) (hr.mono (by decide)) T.l6 rfl rfl T.vi (aa (bw (Ce T) (hr.mono (by decide)) rfl T.Aq T.u9.kp T.Ao .nil a9 (aa (gi (pv 0) T.ah T.i5 (AQ (i:=i) T) (hr.mono (by decide)) T.eE .nil a9) (aa (bu (pv 0) rfl) ag))) ag)))
 (mQ aN))
 (au (dE (TU (Lx hu1 (pv 1) (bu (pv 0) rfl)))
 (aL (lF T.AE rfl rfl T.wQ (aa (zO (jO (tS (pv 1) (jO tR)))) ag)))
 (mQ aN))
 (au (psx (bg (i:=2) qf.nd rfl (aiF rfl) (aW bE (sH hu1 (bu (pv 0) rfl) (pv 1) (λ_ _=>rfl)) aj (λ_ _=>rfl))))
 (au (dE (aO zB (bu (pv 0) rfl) (pv 2) (aJ _))
 (aL (lQ T.sS (EY T) (hr.mono (by decide)) T.pY rfl rfl T.EE (aa (pv 2) ag)))
 (mQ aN))
 (au (psx (eT (pv 0) (aW Ub (NF (bu (pv 0) rfl) (pv 1) ⟨rfl,rfl,rfl,rfl⟩) aj (λ_ _=>rfl)) rfl))
 (au (psx (bY (iP adm aiQ aiR d6 (bu (pv 0) rfl) (aa (bw jZ (hr.mono (by decide)) rfl T.m9 T.jT.kp T.m8 .nil a9 (aa (cZ (aa aq (aa (pv 1) ag))) ag)) ag))))
 (aL (psx (aG (pv 1)))))))))),?_⟩
  try dsimp only[bI]
  by_cases hz:z=-1
  ·subst hz;refine gu rfl X.ob T.ah T.jq0 fD ⟨_,.inl ⟨_,.inl (.inl X.aH.2),rfl⟩,?_⟩;rw[show ((-1:Int).toNat)=0 from rfl]at q
   unfold stepT at q;cases e:st.aH with
   |cons k0 r0 =>
    rw[if_neg (by rw[e];exact aiO _ _)]at q
    have lp:=I.pil.LM;rw[da]at lp;have hb:=Iz st.closed (st.aH.map st.mo);have hb0:0<=uh st.closed (st.aH.map st.mo):=Int.le_trans (by
     by_cases z:rL (st.aH.map st.mo) < 0
     ·have:=AX z;rw[e]at this;cases this
     ·omega) (rO _ _)
    refine gS (mtv rfl X.ob (dZ (by trivial)) ⟨o,c,st,rfl,hc,I.d0,by omega,λB os hB hos=>?_⟩)
    have sB:=aI (o:=.lst (os.map V.ref)) hB;refine gu rfl (sB _ _ X.ob) T.ah T.jq8 ug ⟨B,st.closed,c,st.aH.map st.mo,os,rfl,⟨SqL.of ae,vy sB hos⟩,?_⟩;refine⟨_,rfl,oV (by omega) (by omega),λd hd=>?_⟩
    exact q (eM c H) _ _ _ (Step.cl aS (sB.new hd)) (X.cl (sB.new hd)).at ⟨rfl,d,rfl,ae⟩ (λ_ z=>by cases z;exact fA (same_none sB hd))
   |nil =>
    rw[if_pos e,I.no0]at q;refine eu ?_;refine⟨_,rfl,gu rfl X.ob T.ah T.jqa oS ⟨aA,_,rfl,.inl ⟨_,om (-1),.inl X.aU.2,rfl,rfl⟩,_,rfl,?_⟩⟩;rw[Cn];have l1:(aiT++ar "no matter of the number ":Str).length=24:=by trivial
    have l2:(ar " is aside").length=9:=by trivial
    have l3:(ar (toString (-1:Int))).length=2:=by trivial
    refine gS ⟨by rw[l1];omega,_,rfl,_,.int (by decide),by rw[l3];omega,by rw[len_app,l1,l3];omega,by rw[len_app,len_app,l1,l2,l3];omega,by rw[len_app,len_app,l1,l2,l3];omega,(sl 1),?_⟩
    exact q c H _ _ (Step.refl aS) hc ⟨rfl,rfl⟩ (λ_ z=>nomatch z)
  refine aT λGq gq=>?_
  obtain⟨n,rfl⟩:∃n:Nat,z=(n:Int):=⟨z.toNat,by omega⟩
  rw[Int.toNat_natCast]at q;have aiu:n < 10 ^ 10:=by
   have:(10:Nat) ^ 10=10000000000:=by decide
   have:(10:Int) ^ 10=10000000000:=by decide
   omega
  clear hz hz0 hz1;refine gq ?_;refine gu rfl X.ob T.ah T.jq0 fD ⟨_,.inl ⟨_,.inl (.inl X.aH.2),rfl⟩,?_⟩;unfold stepT at q;cases e:st.aH with
  |cons k0 r0 =>
   rw[if_neg (by rw[e];exact aiO _ _)]at q
   have lp:=I.pil.LM;rw[da]at lp;have hb:=Iz st.closed (st.aH.map st.mo);have hb0:0<=uh st.closed (st.aH.map st.mo):=Int.le_trans (by
    by_cases z:rL (st.aH.map st.mo) < 0
    ·have:=AX z;rw[e]at this;cases this
    ·omega) (rO _ _)
   refine gS (mtv rfl X.ob (dZ (by trivial)) ⟨o,c,st,rfl,hc,I.d0,by omega,λB os hB hos=>?_⟩)
   have sB:=aI (o:=.lst (os.map V.ref)) hB;refine gu rfl (sB _ _ X.ob) T.ah T.jq8 ug ⟨B,st.closed,c,st.aH.map st.mo,os,rfl,⟨SqL.of ae,vy sB hos⟩,?_⟩;refine⟨_,rfl,oV (by omega) (by omega),λd hd=>?_⟩
   exact q (eM c H) _ _ _ (Step.cl aS (sB.new hd)) (X.cl (sB.new hd)).at ⟨rfl,d,rfl,ae⟩ (λ_ z=>by cases z;exact fA (same_none sB hd))
  |nil =>
   rw[if_pos e]at q;refine eu ?_;refine⟨_,rfl,gu rfl X.ob T.ah T.jqa oS ⟨aA,_,rfl,.inl ⟨_,om (n:Int),.inl X.aU.2,rfl,rfl⟩,_,rfl,?_⟩⟩;cases hx:at1 n st.aU with
   |none =>
    rw[hx]at q;rw[ui (EZ hx)];have l1:(aiT++ar "no matter of the number ":Str).length=24:=by trivial
    have l2:(ar " is aside").length=9:=by trivial
    have e10:(10:Nat) ^ 10=10000000000:=by decide
    have l3:(ar (toString (n:Int))).length<=20:=sU (by omega) (by omega)
    refine gS ⟨by rw[l1];omega,_,rfl,_,.int (oU (by omega) (by omega)),by omega,by rw[len_app,l1];omega,by rw[len_app,len_app,l1,l2];omega,by rw[len_app,len_app,l1,l2];omega,(sl 1),?_⟩
    exact q c H _ _ (Step.refl aS) hc ⟨rfl,rfl⟩ (λ_ z=>nomatch z)
   |some x =>
    refine aT λGq gq=>?_
    rw[hx]at q;dsimp only at q;obtain⟨t,p,hv,ht,hl⟩:=X.waitOf hx;refine gq ?_;rw[hv];refine eu ?_;refine⟨_,rfl,o,A.ak,dx,_,.ref aA,rfl,X.ob,T.ah,T.jqa,oS,_,rfl,aA,_,rfl,.inl ⟨_,om (n:Int),.inl X.aU.2,rfl,hv.symm⟩,t,_,_,_,rfl,rfl,ht.sq,rfl,?_⟩;refine⟨_,rfl,o,A.ak,dx,_,.int st.bf,rfl,X.ob,T.ah,T.jq1,jX,_,rfl,_,_,rfl,rfl,_,rfl,gU (λz=>?_) (λz=>?_)⟩
    ·have z':st.bf < x.2.1:=of_decide_eq_true z;refine aT λGq gq=>?_
     rw[if_pos z']at q;obtain⟨_,_,b1,b2⟩:=I.asd x (qa hx).2;refine gq ?_;refine⟨_,rfl,_,rfl,oV (by have:=I.sit.1;omega) b2,λd hd=>?_⟩
     exact q (eM c H) _ _ _ (Step.cl aS (aI hd)) (X.cl (aI hd)).at ⟨rfl,d,rfl,ae⟩ (λ_ z=>by cases z;exact fA hd)
    ·have z':¬st.bf < x.2.1:=λy=>z (decide_eq_true y)
     rw[if_neg z']at q;have nAt:t≠aA:=λy=>by have:=ht.1;rw[y,X.aU.1]at this;cases this
     have ht':SqT K (upd H aA (.dK (kQ (bh ((st.aU.map (·.1)).zip ws)) (om (n:Int))))) t [.int x.2.1,.ref p]:=by
      rcases ht.2 with h | ⟨u,h⟩
      ·exact .inl (.inl ((av nAt).trans h))
      ·exact .inl (.inr ⟨u,(av nAt).trans h⟩)
     have oA:o≠aA:=rN X.co X.aU.1 (λz=>nomatch z)
     refine gu rfl X.ob T.ah T.jqa oS ⟨aA,rfl,.inl ⟨_,.inl X.aU.2⟩,_,rfl,_,om (n:Int),_,X.aU.2,rfl,hv,.inr (.inl ⟨t,_,1,.ref p,rfl,rfl,ht',rfl,?_⟩)⟩;refine⟨_,rfl,o,A.ak,dx,_,rfl,(av oA).trans X.ob,T.ah,T.jq0,(by show 10 < 1000;decide),?_⟩
     rw[EV];refine aT λGq gq=>?_
     obtain⟨c1,ws1,s1,X1⟩:=X.vq hl;refine gq ?_;generalize upd (upd H aA (.dK (kQ (bh ((st.aU.map (·.1)).zip ws)) (om (n:Int))))) o (.ins A.ak dx (chF (.int st.cW) (.int st.bf) (.bl st.closed) (.ref aM) (.ref p) (.ref aA) (.ref aD) (.ref aF) (.ref aE) (.ref aR)))=H1 at s1 X1 ⊢
     have lr:=I.lr;have h10:(n:Int) < 10 ^ 10:=by
      have:(10:Nat) ^ 10=10000000000:=by decide
      have:(10:Int) ^ 10=10000000000:=by decide
      omega
     refine gu rfl X1.ob T.ah T.jqc rK ⟨.inl ⟨rfl,_,SqL.of X1.rows.2⟩,_,rfl,(sl 2),λu hu=>?_⟩
     have s2:=aI (o:=.tup [V.str (ar "take"),nV n]) hu;refine⟨u,.nums (ar "take") [(n:Int)],rfl,SqT.of ae,AZ (by show (ar "take",1)∈R.dJ;trivial) (by intro i hi;rw[aiz]at hi;rw[hi];exact⟨by omega,h10⟩),λH2 s3=>?_⟩
     have X2:=X1.same (s2.trans s3);obtain⟨s4,X3⟩:=X2.row (R.cz (.nums (ar "take") [(n:Int)]));refine⟨aR,_,_,rfl,rfl,X2.rows.2,by rw[da];show st.rows.length < _;omega,_,rfl,?_⟩
     exact q c1 _ ((s1.rF.trans (Step.same aS (s2.trans s3))).trans s4.rF) X3.at
end
theorem ZW {α:Type}{P:kx}{w:World}{K:bo}{mg:Str->Option Value}{base:Heap}{CX:CXT}{k:Nat}{f:Addr}{fd:kf}{ps:List Str}{sp:α->Sp}(F:∀a,FnOk P w K mg base CX k f fd ps (sp a)) :
  FnOk P w K mg base CX k f fd ps (λvs H Q E=>∃a,sp a vs H Q E) :=
 ⟨λvs H Q E ⟨a,z⟩=>(F a).1 vs H Q E z,λx1 x2 x3 H x4 x5 vs Q E x6 x7 x8 x9 ⟨a,z⟩=>(F a).2 x1 x2 x3 H x4 x5 vs Q E x6 x7 x8 x9 z⟩
def hG:R.bT->Mn
 | .mat cs=>.mat (cs.map (km R.bl1))
 | .ed m k j ws=>if m=true then .mnd ⟨k,j,km R.bl1 ws⟩ else .chg ⟨k,j,km R.bl1 ws⟩
 | .pt ws=>.pnt (km R.bl1 ws)
 | .nums kd ns=>if kd=ar "put off" then .off (ns.getD 0 0) else if kd=ar "close" then .cls else if kd=ar "lay" then .lay else .rst
def vz:List (Str×Nat):=[(ar "put off",1),(ar "close",0),(ar "lay",0),(ar "rest",0)]
def DM:R.bT->Prop
 | .mat cs=>cs.length<=12/\∀ws∈cs,R.g9 12 ws
 | .ed m k j ws=>(k=0\/k=1\/k=2)/\(-9999999999<=j/\j<=9999999999)/\R.g9 12 ws/\(m=true->ws.length=1)
 | .pt ws=>R.g9 12 ws
 | .nums kd ns=>(kd,ns.length)∈vz/\∀i∈ns,-10000000000 < i/\i < 10 ^ 10
theorem zr {kd:Str}{ns:List Int}(h:(kd,ns.length)∈vz):(∃u,kd=ar "put off"/\ns=[u])\/(kd=ar "close"/\ns=[])\/(kd=ar "lay"/\ns=[])\/(kd=ar "rest"/\ns=[]):=by
 unfold vz at h;simp only[ajE,ajk,or_false,ake]at h;rcases h with ⟨h1,h2⟩ | ⟨h1,h2⟩ | ⟨h1,h2⟩ | ⟨h1,h2⟩
 ·cases ns with
  |nil=>simp at h2
  |cons u r =>
   cases r with
   |nil=>exact .inl ⟨u,h1,rfl⟩
   |cons _ _=>simp at h2
 ·exact .inr (.inl ⟨h1,List.length_eq_zero_iff.mp h2⟩)
 ·exact .inr (.inr (.inl ⟨h1,List.length_eq_zero_iff.mp h2⟩))
 ·exact .inr (.inr (.inr ⟨h1,List.length_eq_zero_iff.mp h2⟩))
theorem E3 {n:Nat}{ws:List Str}(h:R.g9 n ws):aiZ (km R.bl1 ws)=true:=(R.Clause.asc (n:=n) ⟨rfl,h.len,h.wd⟩).ok
theorem OF {N:Nat}:∀ {d:R.bT},DM d->MOk N (hG d)
 | .mat cs,h=>by
  refine⟨?_,?_⟩
  ·rw[da];have:=h.1;omega
  ·intro x hx;obtain⟨ws,hw,rfl⟩:=List.mem_map.mp hx;exact E3 (h.2 ws hw)
 | .ed m k j ws,h=>by
  obtain⟨h1,⟨h2,h3⟩,h4,h5⟩:=h;cases m with
  |true =>
   show EdB 1 ⟨k,j,km R.bl1 ws⟩/\_;have hl:=h5 rfl
   match ws,hl,h4 with
   |[x],_,h4=>exact⟨⟨h1,h2,h3,[x],rfl,h4.wd,ko 1⟩,x,rfl,h4.wd x kb⟩
  |false =>
   show EdB (12+N) ⟨k,j,km R.bl1 ws⟩;exact⟨h1,h2,h3,ws,rfl,h4.wd,by have:=h4.len;omega⟩
 | .pt ws,h=>E3 h
 | .nums kd ns,h=>by
  obtain⟨h1,h2⟩:=h;rcases zr h1 with ⟨u,rfl,rfl⟩ | ⟨rfl,rfl⟩ | ⟨rfl,rfl⟩ | ⟨rfl,rfl⟩
  ·rw[hG,if_pos rfl];obtain⟨a,b⟩:=h2 u kb;have:(10:Int) ^ 10=10000000000:=by decide
   exact⟨a,by show u < _;omega⟩
  ·rw[hG,if_neg (by trivial),if_pos rfl];trivial
  ·rw[hG,if_neg (by trivial),if_neg (by trivial),if_pos rfl];trivial
  ·rw[hG,if_neg (by trivial),if_neg (by trivial),if_neg (by trivial)];trivial
theorem Sv {M:Nat}{e:Ed}(h:g8 M e=true):0<=e.at_:=(EM.mp h).1
theorem Vs {N:Nat}{st:Ch}(I:Inv N st){d:R.bT}(h:DM d)(hc:qb st (hG d)=none):R.DOk d:=by
 have ho:yj st.closed (st.aH.map st.mo) (hG d).k=none/\oY st (hG d)=none:=by
  unfold qb at hc;split at hc
  ·cases hc
  ·exact⟨by assumption,hc⟩
 obtain⟨h0,hf⟩:=ho;cases d with
 |mat cs=>exact h
 |pt ws=>exact h
 |ed m k j ws =>
  obtain⟨h1,⟨h2,h3⟩,h4,h5⟩:=h;have e10:(10:Int) ^ 10=10000000000:=by decide
  refine⟨h1,⟨?_,by omega⟩,h4,h5⟩
  cases m with
  |true =>
   rw[hG,if_pos rfl]at h0 hf;have h3:mr (st.aH.map st.mo)=true:=(oW h0).2;unfold mr at h3;split at h3
   ·rename_i e he;unfold oY at hf;dsimp only at hf;rw[he]at hf;dsimp only at hf;split at hf
    ·rename_i h6;exact Sv h6
    ·cases hf
   ·cases h3
  |false =>
   rw[hG,if_neg kg]at h0 hf;obtain⟨tx,r,e1⟩:=I.pil.IC (oW h0).2;unfold oY at hf;dsimp only at hf;rw[e1]at hf;dsimp only at hf;split at hf
   ·rename_i h6;exact Sv h6
   ·cases hf
 |nums kd ns =>
  obtain⟨h1,h2⟩:=h;have s1:=I.sit.1;rcases zr h1 with ⟨u,rfl,rfl⟩ | ⟨rfl,rfl⟩ | ⟨rfl,rfl⟩ | ⟨rfl,rfl⟩
  ·rw[hG,if_pos rfl]at hf;refine⟨by show (ar "put off",1)∈R.dJ;trivial,λi hi=>?_⟩
   rw[aiz]at hi;subst hi;unfold oY at hf;dsimp only at hf;split at hf
   ·cases hf
   ·rename_i h6;have h7:¬i<=st.bf:=h6;exact⟨by omega,(h2 i kb).2⟩
  ·exact⟨by trivial,λ_ h=>nomatch h⟩
  ·exact⟨by trivial,λ_ h=>nomatch h⟩
  ·exact⟨by trivial,λ_ h=>nomatch h⟩
theorem A0 {i:Nat}{c:Col}{H:Hp}{t:Addr}:∀ {d:R.bT},DM d->ni i c H d t->∃v,wZ i c H t (rowOf (hG d).k v)/\((hG d).k=0->∃L tx,v=.ref L/\hG d=.mat tx/\LL i c H L (tx.map V.str))/\((hG d).k≠0->(hG d).Val c H v)
 | .mat cs,_,⟨L,a,b⟩=>⟨.ref L,a,λ_=>⟨L,_,rfl,rfl,b⟩,λz=>absurd rfl z⟩
 | .ed true k j ws,h,⟨e,a,b⟩=>⟨.ref e,a,λz=>(nomatch z),λ_=>⟨e,rfl,by rw[<-Oy h.1];exact b⟩⟩
 | .ed false k j ws,h,⟨e,a,b⟩=>⟨.ref e,a,λz=>(nomatch z),λ_=>⟨e,rfl,by rw[<-Oy h.1];exact b⟩⟩
 | .pt ws,_,a=>⟨.str (km R.bl1 ws),a,λz=>(nomatch z),λ_=>rfl⟩
 | .nums kd ns,h,a=>by
  rcases zr h.1 with ⟨u,rfl,rfl⟩ | ⟨rfl,rfl⟩ | ⟨rfl,rfl⟩ | ⟨rfl,rfl⟩
  ·rw[hG,if_pos rfl];exact⟨.int u,a,λz=>(nomatch z),λ_=>rfl⟩
  ·rw[hG,if_neg (by trivial),if_pos rfl]
   exact⟨.non,a,λz=>(nomatch z),λ_=>trivial⟩
  ·rw[hG,if_neg (by trivial),if_neg (by trivial),if_pos rfl]
   exact⟨.non,a,λz=>(nomatch z),λ_=>trivial⟩
  ·rw[hG,if_neg (by trivial),if_neg (by trivial),if_neg (by trivial)]
   exact⟨.non,a,λz=>(nomatch z),λ_=>trivial⟩
def OG (A:Adr)(K:bo):Sp:=λvs H Q E=>KC A vs H Q E\/EN A K vs H Q E
def ZX (A:Adr)(i:Nat):Sp:=λvs H Q E=>∃(o t:Addr) (c:Col) (st:Ch) (N:Nat) (d:R.bT),vs=[.ref o,.ref t]/\eN A i c H o st/\Inv N st/\N<=800/\DM d/\ni i c H d t /\
 (qb st (hG d)=none->∀H',aZ H H'->Q .non H')/\∀x,qb st (hG d)=some x->∀C e H',aZ H H'->x.New A H H' C e->E C e H'
def Vt (A:Adr)(i:Nat):Sp:=λvs H Q E=>∃(o t:Addr) (c:Col) (st:Ch) (N:Nat) (d:R.bT),vs=[.ref o,.ref t]/\eN A i c H o st/\Inv N st/\N<=800/\DM d/\ni i c H d t/\E2 A i c H o (oZ st (hG d) (R.cz d)) Q E
theorem MOk.ed1 {N:Nat}{e:Ed}(h:MOk N (.chg e))(hN:N<=800):vj e:=EdB.ok h (by omega)
theorem MOk.ed2 {N:Nat}{e:Ed}(h:MOk N (.mnd e)):vj e:=EdB.ok h.1 (by decide)
section
variable{P:kx}{w:World}{K:bo}{mg:Str->Option Value}{base:Heap}{A:Adr}
theorem qc (T:Txt w.params K mg A){i:Nat}:FnOk P w K mg base (CXX P w) 6 A.aX A.dg ["self","told"] (ZX A i):=by
 have mh:FnOk P w K mg base CX0 1 A.words_of A.iJ ["clause"] R.sT:=R.jU T;refine T.bQ.okX c8 (λvs H Q E h=>?_) (λcdv A' outer s H vs Q E hr h=>?_)
 ·obtain⟨o,t,c,st,N,d,rfl,_⟩:=h;rfl
 ·obtain⟨o,t,c,st,N,d,rfl,hc,I,hN,hd,hdc,q,qx⟩:=h;obtain⟨dx,aM,aP,aA,aD,aF,aE,aR,ms,ds,ws,fs,es,X⟩:=hc.ex;have hu1:=hr.u1;refine⟨_,(au (psx (bg (i:=2) c8.nd rfl (aiF rfl) (aW bE (pv 1) aj (λ_ _=>rfl))))
 (au (psx (bg (i:=3) c8.nd rfl (aiF rfl) (gi (pv 0) T.ah T.i5 (AQ (i:=i) T) (hr.mono (by decide)) T.eE .nil a9)))
 (au (cf (bB (tf T) hr rfl T.lY T.ip.kp T.lX (pax (aa (pv 2) (aa (pv 3) (aa (bu (pv 0) rfl) ag))))))
 (aL (dE (aO bD (pv 2) aq (aJ _))
 (aL (cf (bB (md T) (hr.mono (by decide)) rfl T.jK T.g0.kp T.jJ (pax (aa (bu (aW bx (pv 3) aj (λ_ _=>rfl)) rfl) (aa (aW bE (pv 1) aj (λ_ _=>rfl)) ag))))))
 (aL (dE (aO bD (pv 2) aq (aJ _))
 (aL (cf (bB (md T) (hr.mono (by decide)) rfl T.jK T.g0.kp T.jJ (pax (aa (bw mh (hr.mono (by decide)) rfl T.jr T.il.kp T.jq .nil a9 (aa (aW bE (bu (aW bx (pv 3) (zA tN aj) (λ_ _=>rfl)) rfl) aj (λ_ _=>rfl)) ag)) (aa (aW bE (pv 1) aj (λ_ _=>rfl)) ag))))))
 (aL (dE (PW.pt (pw_and (aO bD (pv 2) aq (aJ _)) (pw_and1 (aO xn (aW bE (pv 1) aj (λ_ _=>rfl)) (bu (pv 0) rfl) (aJ _)))))
 (aL (lQ T.ng (Bx T) (hr.mono (by decide)) T.lA rfl rfl T.ub (aa (bu (pv 0) rfl) ag)))
 (mQ aN)))))))))),?_⟩
  try dsimp only[bI]
  refine aT λGq gq=>?_
  obtain⟨v,ht,hv0,hv1⟩:=A0 hd hdc;have hmk:=OF (N:=N) hd;refine gq ?_;generalize hG d=m at ht hv0 hv1 hmk q qx;have lp:=I.pil.LM;rw[da]at lp;refine ixv rfl (SqT.of ht.2) zq ?_;refine mtv rfl X.ob (dZ (by trivial)) ⟨o,c,st,rfl,hc,I.d0,by omega,λB os hB hos=>?_⟩
  have sB:=aI (o:=.lst (os.map V.ref)) hB;have hp:vo A K c (upd H B (.lst (os.map V.ref))) B (st.aH.map st.mo) os:=⟨SqL.of ae,vy sB hos⟩;generalize upd H B (.lst (os.map V.ref))=H1 at sB hp;refine⟨_,rfl,_,rfl,gu rfl (sB _ _ X.ob) T.ah T.jq8 ug ⟨m.k,B,st.closed,c,st.aH.map st.mo,os,rfl,m.k8,hp,by rw[da];omega,λho H2 s2=>?_,λx hx C e H2 s2 hat=>?_⟩⟩
  case refine_2=>exact qx x (by unfold qb;rw[hx]) C e H2 (sB.trans s2) ⟨hat.1,λa z=>same_none sB (hat.2 a z)⟩
  have ec:qb st m=oY st m:=by unfold qb;rw[ho]
  rw[ec]at q qx;have s12:=sB.trans s2;have hp2:=hp.same s2;obtain⟨h1,h2⟩:=oW ho;have X2:=X.same s12;have ht2:H2 t=some (.tup (rowOf m.k v)):=s12 _ _ ht.2;cases m with
  |mat tx=>exact⟨_,rfl,rfl,tsf (f7 0 (by decide)) ⟨_,rfl,rfl,tsf (iq 0 (by decide)) ⟨_,rfl,rfl,tsf (kM 0 (by decide)) (eu (q rfl H2 s12))⟩⟩⟩
  |pnt z=>exact⟨_,rfl,rfl,tsf (f7 7 (by decide)) ⟨_,rfl,rfl,tsf (iq 7 (by decide)) ⟨_,rfl,rfl,tsf (kM 7 (by decide)) (eu (q rfl H2 s12))⟩⟩⟩
  |cls=>exact⟨_,rfl,rfl,tsf (f7 4 (by decide)) ⟨_,rfl,rfl,tsf (iq 4 (by decide)) ⟨_,rfl,rfl,tsf (kM 4 (by decide)) (eu (q rfl H2 s12))⟩⟩⟩
  |lay=>exact⟨_,rfl,rfl,tsf (f7 5 (by decide)) ⟨_,rfl,rfl,tsf (iq 5 (by decide)) ⟨_,rfl,rfl,tsf (kM 5 (by decide)) (eu (q rfl H2 s12))⟩⟩⟩
  |rst=>exact⟨_,rfl,rfl,tsf (f7 6 (by decide)) ⟨_,rfl,rfl,tsf (iq 6 (by decide)) ⟨_,rfl,rfl,tsf (kM 6 (by decide)) (eu (q rfl H2 s12))⟩⟩⟩
  |chg e =>
   refine⟨_,rfl,rfl,tst (f7 1 (by decide)) ?_⟩
   refine aT λGq gq=>?_
   obtain⟨tx,r,e1⟩:=I.pil.IC h2;obtain⟨te,rfl,hte⟩:=hv1 (by simp[Mn.k])
   rw[e1]at hp2;obtain⟨hB2,ho2⟩:=hp2;refine gq ?_;cases ho2 with
   | @cons _ ob _ bs hm Si =>
    refine aT λGq gq=>?_
    obtain⟨_,dm,v,hm2,L,rfl,hL⟩:=hm;refine gq ?_;refine ixv rfl hB2 (sA (j:=0) rfl) ⟨ob,A.C 0,dm,_,.ref L,rfl,hm2,T.cl 0 (by decide),T.na0,rfl,ixv rfl (SqT.of ht2) rfl ?_⟩
    refine⟨L,te,tx.map V.str,e,rfl,SqL.of hL.2,eA s12 hte.sq,hmk.ed1 hN,λhf=>?_,λhf=>?_⟩
    ·rw[da]at hf;refine q ?_ H2 s12;unfold oY;dsimp only;rw[e1];dsimp only;rw[if_pos hf]
    ·rw[da]at hf;refine qx .noFit ?_ _ _ H2 s12 ⟨⟨rfl,rfl⟩,λ_ z=>nomatch z⟩
     unfold oY;dsimp only;rw[e1];dsimp only;rw[if_neg (by rw[hf];decide)]
  |mnd f =>
   refine⟨_,rfl,rfl,tsf (f7 2 (by decide)) ⟨_,rfl,rfl,tst (iq 2 (by decide)) ?_⟩⟩
   refine aT λGq gq=>?_
   have h3:mr (st.aH.map st.mo)=true:=h2;unfold mr at h3;obtain⟨e,he,hk1⟩:∃e,(st.aH.map st.mo).getLast?=some (.chg e)/\e.k≠1:=by
    split at h3
    ·rename_i e he;exact⟨e,he,λz=>by rw[z]at h3;cases h3⟩
    ·cases h3
   obtain⟨r,e1⟩:=sX he;obtain⟨te,rfl,hte⟩:=hv1 (by simp[Mn.k])
   obtain⟨hB2,ho2⟩:=hp2;obtain⟨pre,ob,eo⟩:∃pre ob,os=pre++[ob]:=by
    have hl:=ho2.len;rw[e1,ki,aiw]at hl;rcases aje os with e | ⟨pre,n,e⟩
    ·rw[e]at hl;simp at hl
    ·exact⟨pre,n,by rw[e,ajf]⟩
   subst eo;obtain⟨as',a,e3,_,hm⟩:=ho2.last;rw[e1]at e3;obtain⟨_,e4⟩:=List.append_inj' e3 rfl;cases e4;obtain⟨_,dm,v,hm2,tc,rfl,htc⟩:=hm;have hem:EdB (12+N) e:=by
    have agD:Mn.chg e∈st.aH.map st.mo:=by rw[e1];simp
    obtain⟨k,hk,ek⟩:=List.mem_map.mp agD;have:=I.DJ (I.d0 k hk);rw[ek]at this;exact this
   have heo:vj e:=hem.ok (by omega)
   refine gq ?_;refine⟨_,rfl,_,rfl,B,_,_,_,rfl,rfl,hB2,AU pre ob,ob,A.C 1,dm,_,.ref tc,rfl,hm2,T.cl 1 (by decide),T.na1,rfl,tc,_,_,_,rfl,rfl,htc.sq,Dv hk1,e.th,rfl,?_,λp1 hp1=>?_⟩
   ·have:=heo.th.len;have lim:gc=16777216:=by decide
    omega
   have s3:=aI (o:=.lst ((R.bS e.th).map V.str)) hp1;have s13:=s12.trans s3;refine ixv rfl (SqT.of (s3 _ _ ht2)) rfl ?_;refine⟨p1,te,(R.bS e.th).map V.str,f,rfl,SqL.of ae,eA s13 hte.sq,hmk.ed2,λhf=>?_,λhf=>?_⟩
   ·rw[da]at hf;refine q ?_ _ s13;unfold oY;dsimp only;rw[he];dsimp only;rw[if_pos hf]
   ·rw[da]at hf;refine qx .noFit ?_ _ _ _ s13 ⟨⟨rfl,rfl⟩,λ_ z=>nomatch z⟩
    unfold oY;dsimp only;rw[he];dsimp only;rw[if_neg (by rw[hf];decide)]
  |off u =>
   have hv':v=.int u:=hv1 (by simp[Mn.k])
   subst hv';refine⟨_,rfl,rfl,tsf (f7 3 (by decide)) ⟨_,rfl,rfl,tsf (iq 3 (by decide)) ⟨_,rfl,rfl,tst (kM 3 (by decide)) ?_⟩⟩⟩
   refine ixv rfl (SqT.of ht2) rfl (gu rfl X2.ob T.ah T.jq1 jX ⟨_,_,rfl,rfl,_,rfl,gU (λz=>?_) (λz=>?_)⟩)
   ·have z':u<=st.bf:=of_decide_eq_true z;have:=I.sit;refine gu rfl X2.ob T.ah T.jq1 jX ⟨_,rfl,oV (by omega) (by omega),λd hd=>?_⟩
    refine qx (.vn st.bf) ?_ _ _ _ (s12.new hd) ⟨⟨rfl,d,rfl,ae⟩,λ_ z=>by cases z;exact same_none s12 hd⟩
    unfold oY;dsimp only;rw[if_pos z']
   ·have z':¬u<=st.bf:=λy=>z (decide_eq_true y)
    refine q ?_ _ s12;unfold oY;dsimp only;rw[if_neg z']
theorem Q1 (T:Txt w.params K mg A):FnOk P w K mg base CX0 3 A.oK A.iT ["told"] (OG A K):=Zf (DC T) (Bw T)
theorem OH {i:Nat}{c:Col}{H:Hp}{t:Addr}{m:Mn}{v:V}{Q:VK}{E:XK}(ht:wZ i c H t (rowOf m.k v))(hv0:m.k=0->∃L tx,v=.ref L/\m=.mat tx/\LL i c H L (tx.map V.str))(hv1:m.k≠0->m.Val c H v)
  (q:∀mo H',aZ H H'->mn A (eM c H) H' m mo->Q (.ref mo) H'):OG A K [.ref t] H Q E:=by
 by_cases h0:m.k=0
 ·obtain⟨L,tx,rfl,rfl,hL⟩:=hv0 h0;refine .inr ⟨t,L,tx.map V.str,rfl,ht.2,SqL.of hL.2,λmo p H' s hm hp hp' hmo=>q mo H' s ?_⟩
  obtain⟨dx,hmo⟩:=hmo;exact⟨fA hm,dx,.ref p,hmo,p,rfl,fA hp,hp'⟩
 ·refine .inl ⟨t,m.k,v,by omega,m.k8,rfl,ht.2,λmo H' s hm hmo=>q mo H' s ?_⟩
  obtain⟨dx,hmo⟩:=hmo;exact⟨fA hm,dx,v,hmo,(hv1 h0).step (Step.cl (W:=λ_=>False) id s)⟩
theorem Q3 (T:Txt w.params K mg A){i:Nat}:FnOk P w K mg base (CXX P w) 7 A.cL A.kB ["self","told"] (Vt A i):=by
 have jZ:FnOk P w K mg base CX0 4 A.lL A.gR ["deed"] (R.DE K):=R.p9 T;refine T.gC.okX qd (λvs H Q E h=>?_) (λcdv A' outer s H vs Q E hr h=>?_)
 ·obtain⟨o,t,c,st,N,d,rfl,_⟩:=h;rfl
 ·obtain⟨o,t,c,st,N,d,rfl,hc,I,hN,hd,hdc,q⟩:=h;obtain⟨dx,aM,aP,aA,aD,aF,aE,aR,ms,ds,ws,fs,es,X⟩:=hc.ex;have hu1:=hr.u1;have lim:gc=16777216:=by decide
  refine⟨_,(au (cf (uV (px (pv 0)) T.ah T.fm (qc (i:=i) T) hr T.cy (pax (aa (pv 1) ag))))
 (au (psx (bg (i:=2) qd.nd rfl (aiF rfl) (bP eS (bK Ly (by rfl) T.oN j8 (aa (bu (pv 0) rfl) ag)) aj)))
 (au (psx (sI hu1 (bu (pv 0) rfl) (pv 2) (bw (Q1 T) (hr.mono (by decide)) rfl T.xA T.m6.kp T.xy .nil a9 (aa (pv 1) ag)) rfl))
 (au (psx (bY (iP adm aiQ aiR d6 (bu (pv 0) rfl) (aa (pv 2) ag))))
 (au (psx (bX (aO bD (aW bE (pv 1) aj (λ_ _=>rfl)) aq (aJ _))
 (ao (sI hu1 (bu (pv 0) rfl) (pv 2) (dv et (by rfl) T.pX mT (aa (aW bE (pv 1) aj (λ_ _=>rfl)) ag)) rfl)
 (ai (sI hu1 (bu (pv 0) rfl) (pv 2) (dS ag) rfl)))
 aN))
 (au (psx (bY (iP adm aiQ aiR d6 (bu (pv 0) rfl) (aa (bw jZ (hr.mono (by decide)) rfl T.m9 T.jT.kp T.m8 .nil a9 (aa (pv 1) ag)) ag))))
 (aL (psx (aG (pv 2)))))))))),?_⟩
  try dsimp only[bI]
  unfold oZ at q;refine mtv rfl X.ob (dZ (by trivial)) ⟨_,rfl,o,t,c,st,N,d,rfl,hc,I,hN,hd,hdc,λZY H1 s1=>?_,λx hx C e H1 s1 hat=>?_⟩
  case refine_2 =>
   rw[hx]at q;exact q (eM c H) H1 C e (Step.cl aS s1) (X.cl s1).at hat.1 (λa z=>fA (hat.2 a z))
  refine aT λGq gq=>?_
  rw[ZY]at q;have ZZ:=Vs I hd ZY;have X1:=X.same s1;have st1:Step (eL i) c c H H1:=Step.same aS s1;have Vu:=hdc.step st1;obtain⟨v,ht,hv0,hv1⟩:=A0 hd Vu;obtain⟨m,em⟩:∃m,m=hG d:=⟨_,rfl⟩;rw[<-em]at ht hv0 hv1 q;have lm:=I.lm;have lr:=I.lr;have ml:=X1.mot.len;have lp:=I.pil.LM;rw[da]at lp;have el:(bh ((ai0 1 st.made.length).zip (ms.map V.ref))).length=st.made.length:=by
   unfold bh;rw[da,akc,ajD,da,<-ml,Nat.min_self]
  have en:(((bh ((ai0 1 st.made.length).zip (ms.map V.ref))).length:Nat):Int)+1=((st.made.length+1:Nat):Int):=by rw[el];omega
  refine gq ?_;refine gu rfl X1.ob T.ah T.jq2 jY ⟨aM,_,rfl,X1.made.2,_,_,rfl,rfl,?_⟩;dsimp only[kP];rw[en];refine⟨_,rfl,OH ht hv0 hv1 λmo H2 s2 hmo=>?_⟩
  have X2:=X1.cl s2;have st2:Step (eL i) c (eM c H1) H1 H2:=Step.cl aS s2;refine gu rfl X2.ob T.ah T.jq2 jY ⟨_,rfl,aM,_,rfl,yd.k (k:=om ((st.made.length+1:Nat):Int)) X2.made.2 (by omega),?_⟩
  obtain⟨st3,X3⟩:=X2.QQ hmo;have Vv:=st2.trans st3.rF;generalize upd H2 aM (.dK (putK (bh ((ai0 1 st.made.length).zip (ms.map V.ref))) (om ((st.made.length+1:Nat):Int)) (.ref mo)))=H3 at Vv X3 ⊢;clear hmo st2 X2;generalize eM c H1=c3 at Vv X3;refine gu rfl X3.ob T.ah T.jq0 fD ⟨.inl ⟨rfl,_,SqL.of X3.aH.2⟩,_,rfl,aP,_,_,rfl,rfl,X3.aH.2,by rw[da];show st.aH.length < _;omega,?_⟩
  obtain⟨st4,X4⟩:=X3.push (st.made.length+1);have Z0:=Vv.trans st4.rF;have X4':ChX A i c3 (upd H3 aP (.lst (st.aH.map nV++[V.int ((st.made.length+1:Nat):Int)]))) o { st with made:=st.made++[m],aH:=st.aH++[st.made.length+1] } dx aM aP aA aD aF aE aR (ms++[mo]) ds ws fs es:=X4
  have Co:Step (eL i) c c3 H1 (upd H3 aP (.lst (st.aH.map nV++[V.int ((st.made.length+1:Nat):Int)]))):=Z0;clear X4 Z0 st4;generalize upd H3 aP (.lst (st.aH.map nV++[V.int ((st.made.length+1:Nat):Int)]))=H4 at X4' Co ⊢;have nf:st.made.length+1∉st.w8:=λz=>by
   have:=(List.mem_filter.mp z).1;rw[List.mem_range'_1]at this;omega
  have ht4:=ht.step Co
  by_cases h0:m.k=0
  ·obtain⟨L,tx,rfl,rfl,hL⟩:=hv0 h0;have hL4:=hL.step Co;refine ixv rfl (SqT.of ht4.2) rfl ⟨rfl,tst (IA 0 (by decide)) ?_⟩
   refine ixv rfl (SqT.of ht4.2) rfl ⟨L,_,rfl,.inl (SqL.of hL4.2),λp hp=>?_⟩
   have lf:st.firsts.length=fs.length:=X4'.first.len;have lff:st.firsts.length<=st.made.length:=by
    have:=congrArg List.length I.ff;rw[da]at this;rw[this];exact rf (List.length_filter_le _ _) (by rw[ajD];exact ko _)
   have lkk:st.kept.length<=st.made.length:=by
    have:=congrArg List.length I.kk;rw[da]at this;rw[this];exact rf (List.length_filter_le _ _) (by rw[ajD];exact ko _)
   have sp:=aI (o:=.lst (tx.map V.str)) hp;refine gu rfl (sp _ _ X4'.ob) T.ah T.jqb yi ⟨_,rfl,aF,_,rfl,yd.k (k:=om ((st.made.length+1:Nat):Int)) (sp _ _ X4'.firsts.2) ?_,?_⟩
   ·unfold bh;rw[da,akc,da];show min st.firsts.length _ < _;omega
   obtain⟨st5,X5⟩:=X4'.Ox (tx:=tx) hp (n:=st.made.length+1) (by show _∉st.firsts.map (·.1);rw[I.ff];exact nf)
   have X5':ChX A i (aY c3 p (some (i,.mj (st.made.length+1)))) (upd (upd H4 p (.lst (tx.map V.str))) aF (.dK (putK (bh ((st.firsts.map (·.1)).zip fs)) (om ((st.made.length+1:Nat):Int)) (.ref p)))) o { st with made:=st.made++[.mat tx],aH:=st.aH++[st.made.length+1],firsts:=st.firsts++[(st.made.length+1,tx)] } dx aM aP aA aD aF aE aR (ms++[mo]) ds ws (fs++[.ref p]) es:=X5
   have Vw:Step (eL i) c (aY c3 p (some (i,.mj (st.made.length+1)))) H1 (upd (upd H4 p (.lst (tx.map V.str))) aF (.dK (putK (bh ((st.firsts.map (·.1)).zip fs)) (om ((st.made.length+1:Nat):Int)) (.ref p)))):=Co.trans st5.rF
   clear X5 st5;generalize aY c3 p (some (i,.mj (st.made.length+1)))=c5 at X5' Vw;generalize upd (upd H4 p (.lst (tx.map V.str))) aF (.dK (putK (bh ((st.firsts.map (·.1)).zip fs)) (om ((st.made.length+1:Nat):Int)) (.ref p)))=H5 at X5' Vw ⊢
   refine⟨(sl 0),λp2 hp2=>?_⟩
   have sp2:=aI (o:=.lst []) hp2;refine gu rfl (sp2 _ _ X5'.ob) T.ah T.jq9 rJ ⟨_,rfl,aE,_,rfl,yd.k (k:=om ((st.made.length+1:Nat):Int)) (sp2 _ _ X5'.jW.2) ?_,?_⟩
   ·unfold bh;rw[da,akc,da];show min st.kept.length _ < _;omega
   obtain⟨st6,X6⟩:=X5'.QS hp2 (n:=st.made.length+1) (by show _∉st.kept.map (·.1);rw[I.kk];exact nf)
   have Z1:=Vw.trans st6.rF;have Vx:=Vu.step Z1;refine gu rfl X6.ob T.ah T.jqc rK ⟨.inl ⟨rfl,_,SqL.of X6.rows.2⟩,_,rfl,t,d,rfl,Vx.at,ZZ,λH7 s7=>?_⟩
   have X7:=X6.same s7;obtain⟨st8,X8⟩:=X7.row (R.cz d);refine⟨aR,_,_,rfl,rfl,X7.rows.2,by rw[da];show st.rows.length < _;omega,_,rfl,?_⟩
   exact q _ _ (((st1.trans Z1).trans (Step.same aS s7)).trans st8.rF) X8.at
  ·refine ixv rfl (SqT.of ht4.2) zq ⟨rfl,tsf ((IA m.k m.k8).trans (decide_eq_false h0)) ?_⟩;have Vx:=Vu.step Co;refine gu rfl X4'.ob T.ah T.jqc rK ⟨.inl ⟨rfl,_,SqL.of X4'.rows.2⟩,_,rfl,t,d,rfl,Vx.at,ZZ,λH7 s7=>?_⟩
   have X7:=X4'.same s7;obtain⟨st8,X8⟩:=X7.row (R.cz d);refine⟨aR,_,_,rfl,rfl,X7.rows.2,by rw[da];show st.rows.length < _;omega,_,rfl,?_⟩
   have e8:st.moved m (R.cz d)={ st with made:=st.made++[m],aH:=st.aH++[st.made.length+1],rows:=st.rows++[R.cz d] }:=by
    unfold Ch.moved;cases m with
    |mat tx=>exact absurd rfl h0
    |_=>rfl
   rw[e8]at q;exact q _ _ (((st1.trans Co).trans (Step.same aS s7)).trans st8.rF) X8.at
end
def E4 (n:Int):Ch:=⟨n,1,false,[],[],[],[],[],[],[]⟩
def Z3 (A:Adr):Sp:=λvs H Q _=>∃(o dx:Addr) (n:Int),vs=[.ref o,.int n]/\H o=some (.ins A.ak dx []) /\
 ∀H',(∀(i:Nat) (c:Col),∃c',(∀a v,H a=some v->a≠o->H' a=some v/\c' a=c a)/\eN A i c' H' o (E4 n))->Q .non H'
theorem hJ {f:Str}{v:V}:∀ {fs:List (Str×V)},f∉fs.map (·.1)->gf f v fs=fs++[(f,v)]
 |[],_=>rfl
 | (g,x)::r,h=>by
  rw[gf,if_neg (λz=>h (by rw[<-z];exact kb)),hJ λz=>h (kj _ z)]
  rfl
theorem nxt {H:Hp}{o a C dx:Addr}{fs fs':List (Str×V)}{v:HO}(ho:H o=some (.ins C dx fs))(ha:H a=none) :
  (upd (upd H a v) o (.ins C dx fs')) a=some v/\(upd (upd H a v) o (.ins C dx fs')) o=some (.ins C dx fs')/\a≠o/\∀b u,H b=some u->b≠o->(upd (upd H a v) o (.ins C dx fs')) b=some u/\b≠a:=by
 have na:a≠o:=(aC ho ha).symm;refine⟨(av na).trans ae,ae,na,λb u hb hbo=>?_⟩
 have nb:b≠a:=aC hb ha;exact⟨(av hbo).trans ((av nb).trans hb),nb⟩
section
variable{P:kx}{w:World}{K:bo}{mg:Str->Option Value}{base:Heap}{A:Adr}
theorem OI (T:Txt w.params K mg A):FnOk P w K mg base CX0 2 A.cK A.kA ["self","seats"] (Z3 A):=by
 refine T.gA.ok ye (λvs H Q E h=>?_) (λcdv A' outer s H vs Q E hr h=>?_)
 ·obtain⟨o,dx,n,rfl,_⟩:=h;rfl
 ·obtain⟨o,dx,n,rfl,ho,q⟩:=h;refine⟨_,(ao (eT (pv 0) (pv 1) rfl)
 (ao (eT (pv 0) aj rfl)
 (ao (eT (pv 0) oh rfl)
 (ao (eT (pv 0) uY rfl)
 (ao (eT (pv 0) (dS ag) rfl)
 (ao (eT (pv 0) uY rfl)
 (ao (eT (pv 0) (dS ag) rfl)
 (ao (eT (pv 0) uY rfl)
 (ao (eT (pv 0) uY rfl)
 (ai (eT (pv 0) (dS ag) rfl))))))))))),?_⟩
  try dsimp only[bI]
  refine⟨_,rfl,_,rfl,o,A.ak,dx,_,rfl,ho,T.ah,T.jqz,(by show 0 < 1000;decide),?_⟩
  refine⟨_,rfl,o,A.ak,dx,_,rfl,ae,T.ah,T.jq1,(by show 1 < 1000;decide),?_⟩
  rw[mR];refine⟨_,rfl,o,A.ak,dx,_,rfl,ae,T.ah,T.jq8,(by show 2 < 1000;decide),?_⟩
  rw[mR];have e0:gf (ar "closed") (V.bl false) (gf (ar "sitting") (V.int 1) (gf (ar "seats") (V.int n) []))=[(ar "seats",V.int n),(ar "sitting",V.int 1),(ar "closed",V.bl false)]:=by
   have f1:gf (ar "seats") (V.int n) []=[(ar "seats",V.int n)]:=rfl;have f2:gf (ar "sitting") (V.int 1) [(ar "seats",V.int n)]=[(ar "seats",V.int n),(ar "sitting",V.int 1)]:=hJ (by show _∉[ar "seats"];trivial)
   rw[f1,f2];exact hJ (by show _∉[ar "seats",ar "sitting"];trivial)
  rw[e0];have o0:(upd H o (.ins A.ak dx [(ar "seats",V.int n),(ar "sitting",V.int 1),(ar "closed",V.bl false)])) o=some (.ins A.ak dx [(ar "seats",V.int n),(ar "sitting",V.int 1),(ar "closed",V.bl false)]):=ae;have k0:∀b u,H b=some u->b≠o->(upd H o (.ins A.ak dx [(ar "seats",V.int n),(ar "sitting",V.int 1),(ar "closed",V.bl false)])) b=some u:=λb u hb hbo=>(av hbo).trans hb
  generalize upd H o (.ins A.ak dx [(ar "seats",V.int n),(ar "sitting",V.int 1),(ar "closed",V.bl false)])=H0 at o0 k0 ⊢;refineλaM zaM=>?_
  have naM:o≠aM:=aC o0 zaM;refine⟨_,rfl,o,A.ak,dx,_,rfl,(av naM).trans o0,T.ah,T.jq2,(by show 3 < 1000;decide),?_⟩
  have e1:gf (ar "made") (V.ref aM) [(ar "seats",V.int n),(ar "sitting",V.int 1),(ar "closed",V.bl false)]=[(ar "seats",V.int n),(ar "sitting",V.int 1),(ar "closed",V.bl false),(ar "made",V.ref aM)]:=hJ (by show _∉[ar "seats",ar "sitting",ar "closed"];trivial)
  rw[e1];refine aT λGq gq=>?_
  obtain⟨yaM,o1,_,waM⟩:=nxt (v:=.dK []) (fs':=[(ar "seats",V.int n),(ar "sitting",V.int 1),(ar "closed",V.bl false),(ar "made",V.ref aM)]) o0 zaM;have k1:=λb u (hb:H b=some u) (hbo:b≠o)=>waM b u (k0 b u hb hbo) hbo
  refine gq ?_;generalize upd (upd H0 aM (.dK [])) o (.ins A.ak dx [(ar "seats",V.int n),(ar "sitting",V.int 1),(ar "closed",V.bl false),(ar "made",V.ref aM)])=H1 at o1 k1 waM yaM ⊢;clear waM;refine⟨(sl 0),λaP zaP=>?_⟩
  have naP:o≠aP:=aC o1 zaP;refine⟨_,rfl,o,A.ak,dx,_,rfl,(av naP).trans o1,T.ah,T.jq0,(by show 4 < 1000;decide),?_⟩
  have e2:gf (ar "pile") (V.ref aP) [(ar "seats",V.int n),(ar "sitting",V.int 1),(ar "closed",V.bl false),(ar "made",V.ref aM)]=[(ar "seats",V.int n),(ar "sitting",V.int 1),(ar "closed",V.bl false),(ar "made",V.ref aM),(ar "pile",V.ref aP)]:=hJ (by show _∉[ar "seats",ar "sitting",ar "closed",ar "made"];trivial)
  rw[e2];refine aT λGq gq=>?_
  obtain⟨yaP,o2,_,waP⟩:=nxt (v:=.lst []) (fs':=[(ar "seats",V.int n),(ar "sitting",V.int 1),(ar "closed",V.bl false),(ar "made",V.ref aM),(ar "pile",V.ref aP)]) o1 zaP;obtain⟨yaM,Z4⟩:=waP _ _ yaM (aiD naM);have k2:=λb u (hb:H b=some u) (hbo:b≠o)=>waP b u ((k1 b u hb hbo).1) hbo
  refine gq ?_;generalize upd (upd H1 aP (.lst [])) o (.ins A.ak dx [(ar "seats",V.int n),(ar "sitting",V.int 1),(ar "closed",V.bl false),(ar "made",V.ref aM),(ar "pile",V.ref aP)])=H2 at o2 k2 waP yaM yaP ⊢;clear waP;refineλaA zaA=>?_
  have naA:o≠aA:=aC o2 zaA;refine⟨_,rfl,o,A.ak,dx,_,rfl,(av naA).trans o2,T.ah,T.jqa,(by show 5 < 1000;decide),?_⟩
  have e3:gf (ar "aside") (V.ref aA) [(ar "seats",V.int n),(ar "sitting",V.int 1),(ar "closed",V.bl false),(ar "made",V.ref aM),(ar "pile",V.ref aP)]=[(ar "seats",V.int n),(ar "sitting",V.int 1),(ar "closed",V.bl false),(ar "made",V.ref aM),(ar "pile",V.ref aP),(ar "aside",V.ref aA)]:=hJ (by show _∉[ar "seats",ar "sitting",ar "closed",ar "made",ar "pile"];trivial)
  rw[e3];refine aT λGq gq=>?_
  obtain⟨yaA,o3,_,waA⟩:=nxt (v:=.dK []) (fs':=[(ar "seats",V.int n),(ar "sitting",V.int 1),(ar "closed",V.bl false),(ar "made",V.ref aM),(ar "pile",V.ref aP),(ar "aside",V.ref aA)]) o2 zaA;obtain⟨yaM,Z5⟩:=waA _ _ yaM (aiD naM);obtain⟨yaP,Z6⟩:=waA _ _ yaP (aiD naP);have k3:=λb u (hb:H b=some u) (hbo:b≠o)=>waA b u ((k2 b u hb hbo).1) hbo
  refine gq ?_;generalize upd (upd H2 aA (.dK [])) o (.ins A.ak dx [(ar "seats",V.int n),(ar "sitting",V.int 1),(ar "closed",V.bl false),(ar "made",V.ref aM),(ar "pile",V.ref aP),(ar "aside",V.ref aA)])=H3 at o3 k3 waA yaM yaP yaA ⊢;clear waA;refine⟨(sl 0),λaD zaD=>?_⟩
  have naD:o≠aD:=aC o3 zaD;refine⟨_,rfl,o,A.ak,dx,_,rfl,(av naD).trans o3,T.ah,T.jqp,(by show 6 < 1000;decide),?_⟩
  have e4:gf (ar "decided") (V.ref aD) [(ar "seats",V.int n),(ar "sitting",V.int 1),(ar "closed",V.bl false),(ar "made",V.ref aM),(ar "pile",V.ref aP),(ar "aside",V.ref aA)]=[(ar "seats",V.int n),(ar "sitting",V.int 1),(ar "closed",V.bl false),(ar "made",V.ref aM),(ar "pile",V.ref aP),(ar "aside",V.ref aA),(ar "decided",V.ref aD)]:=hJ (by show _∉[ar "seats",ar "sitting",ar "closed",ar "made",ar "pile",ar "aside"];trivial)
  rw[e4];refine aT λGq gq=>?_
  obtain⟨yaD,o4,_,waD⟩:=nxt (v:=.lst []) (fs':=[(ar "seats",V.int n),(ar "sitting",V.int 1),(ar "closed",V.bl false),(ar "made",V.ref aM),(ar "pile",V.ref aP),(ar "aside",V.ref aA),(ar "decided",V.ref aD)]) o3 zaD;obtain⟨yaM,Z7⟩:=waD _ _ yaM (aiD naM);obtain⟨yaP,Z8⟩:=waD _ _ yaP (aiD naP);obtain⟨yaA,Z9⟩:=waD _ _ yaA (aiD naA);have k4:=λb u (hb:H b=some u) (hbo:b≠o)=>waD b u ((k3 b u hb hbo).1) hbo
  refine gq ?_;generalize upd (upd H3 aD (.lst [])) o (.ins A.ak dx [(ar "seats",V.int n),(ar "sitting",V.int 1),(ar "closed",V.bl false),(ar "made",V.ref aM),(ar "pile",V.ref aP),(ar "aside",V.ref aA),(ar "decided",V.ref aD)])=H4 at o4 k4 waD yaM yaP yaA yaD ⊢;clear waD;refineλaF zaF=>?_
  have naF:o≠aF:=aC o4 zaF;refine⟨_,rfl,o,A.ak,dx,_,rfl,(av naF).trans o4,T.ah,T.jqb,(by show 7 < 1000;decide),?_⟩
  have e5:gf (ar "first_texts") (V.ref aF) [(ar "seats",V.int n),(ar "sitting",V.int 1),(ar "closed",V.bl false),(ar "made",V.ref aM),(ar "pile",V.ref aP),(ar "aside",V.ref aA),(ar "decided",V.ref aD)]=[(ar "seats",V.int n),(ar "sitting",V.int 1),(ar "closed",V.bl false),(ar "made",V.ref aM),(ar "pile",V.ref aP),(ar "aside",V.ref aA),(ar "decided",V.ref aD),(ar "first_texts",V.ref aF)]:=hJ (by show _∉[ar "seats",ar "sitting",ar "closed",ar "made",ar "pile",ar "aside",ar "decided"];trivial)
  rw[e5];refine aT λGq gq=>?_
  obtain⟨yaF,o5,_,waF⟩:=nxt (v:=.dK []) (fs':=[(ar "seats",V.int n),(ar "sitting",V.int 1),(ar "closed",V.bl false),(ar "made",V.ref aM),(ar "pile",V.ref aP),(ar "aside",V.ref aA),(ar "decided",V.ref aD),(ar "first_texts",V.ref aF)]) o4 zaF;obtain⟨yaM,aaa⟩:=waF _ _ yaM (aiD naM);obtain⟨yaP,aab⟩:=waF _ _ yaP (aiD naP);obtain⟨yaA,aac⟩:=waF _ _ yaA (aiD naA);obtain⟨yaD,aad⟩:=waF _ _ yaD (aiD naD);have k5:=λb u (hb:H b=some u) (hbo:b≠o)=>waF b u ((k4 b u hb hbo).1) hbo
  refine gq ?_;generalize upd (upd H4 aF (.dK [])) o (.ins A.ak dx [(ar "seats",V.int n),(ar "sitting",V.int 1),(ar "closed",V.bl false),(ar "made",V.ref aM),(ar "pile",V.ref aP),(ar "aside",V.ref aA),(ar "decided",V.ref aD),(ar "first_texts",V.ref aF)])=H5 at o5 k5 waF yaM yaP yaA yaD yaF ⊢;clear waF;refineλaE zaE=>?_
  have naE:o≠aE:=aC o5 zaE;refine⟨_,rfl,o,A.ak,dx,_,rfl,(av naE).trans o5,T.ah,T.jq9,(by show 8 < 1000;decide),?_⟩
  have e6:gf (ar "edits_kept") (V.ref aE) [(ar "seats",V.int n),(ar "sitting",V.int 1),(ar "closed",V.bl false),(ar "made",V.ref aM),(ar "pile",V.ref aP),(ar "aside",V.ref aA),(ar "decided",V.ref aD),(ar "first_texts",V.ref aF)]=[(ar "seats",V.int n),(ar "sitting",V.int 1),(ar "closed",V.bl false),(ar "made",V.ref aM),(ar "pile",V.ref aP),(ar "aside",V.ref aA),(ar "decided",V.ref aD),(ar "first_texts",V.ref aF),(ar "edits_kept",V.ref aE)]:=hJ (by show _∉[ar "seats",ar "sitting",ar "closed",ar "made",ar "pile",ar "aside",ar "decided",ar "first_texts"];trivial)
  rw[e6];refine aT λGq gq=>?_
  obtain⟨yaE,o6,_,waE⟩:=nxt (v:=.dK []) (fs':=[(ar "seats",V.int n),(ar "sitting",V.int 1),(ar "closed",V.bl false),(ar "made",V.ref aM),(ar "pile",V.ref aP),(ar "aside",V.ref aA),(ar "decided",V.ref aD),(ar "first_texts",V.ref aF),(ar "edits_kept",V.ref aE)]) o5 zaE;obtain⟨yaM,aae⟩:=waE _ _ yaM (aiD naM);obtain⟨yaP,aaf⟩:=waE _ _ yaP (aiD naP);obtain⟨yaA,aag⟩:=waE _ _ yaA (aiD naA);obtain⟨yaD,aah⟩:=waE _ _ yaD (aiD naD);obtain⟨yaF,aai⟩:=waE _ _ yaF (aiD naF);have k6:=λb u (hb:H b=some u) (hbo:b≠o)=>waE b u ((k5 b u hb hbo).1) hbo
  refine gq ?_;generalize upd (upd H5 aE (.dK [])) o (.ins A.ak dx [(ar "seats",V.int n),(ar "sitting",V.int 1),(ar "closed",V.bl false),(ar "made",V.ref aM),(ar "pile",V.ref aP),(ar "aside",V.ref aA),(ar "decided",V.ref aD),(ar "first_texts",V.ref aF),(ar "edits_kept",V.ref aE)])=H6 at o6 k6 waE yaM yaP yaA yaD yaF yaE ⊢;clear waE;refine⟨(sl 0),λaR zaR=>?_⟩
  have naR:o≠aR:=aC o6 zaR;refine⟨_,rfl,o,A.ak,dx,_,rfl,(av naR).trans o6,T.ah,T.jqc,(by show 9 < 1000;decide),?_⟩
  have e7:gf (ar "rows") (V.ref aR) [(ar "seats",V.int n),(ar "sitting",V.int 1),(ar "closed",V.bl false),(ar "made",V.ref aM),(ar "pile",V.ref aP),(ar "aside",V.ref aA),(ar "decided",V.ref aD),(ar "first_texts",V.ref aF),(ar "edits_kept",V.ref aE)]=[(ar "seats",V.int n),(ar "sitting",V.int 1),(ar "closed",V.bl false),(ar "made",V.ref aM),(ar "pile",V.ref aP),(ar "aside",V.ref aA),(ar "decided",V.ref aD),(ar "first_texts",V.ref aF),(ar "edits_kept",V.ref aE),(ar "rows",V.ref aR)]:=hJ (by show _∉[ar "seats",ar "sitting",ar "closed",ar "made",ar "pile",ar "aside",ar "decided",ar "first_texts",ar "edits_kept"];trivial)
  rw[e7];refine aT λGq gq=>?_
  obtain⟨yaR,o7,_,waR⟩:=nxt (v:=.lst []) (fs':=[(ar "seats",V.int n),(ar "sitting",V.int 1),(ar "closed",V.bl false),(ar "made",V.ref aM),(ar "pile",V.ref aP),(ar "aside",V.ref aA),(ar "decided",V.ref aD),(ar "first_texts",V.ref aF),(ar "edits_kept",V.ref aE),(ar "rows",V.ref aR)]) o6 zaR;obtain⟨yaM,aaj⟩:=waR _ _ yaM (aiD naM);obtain⟨yaP,aak⟩:=waR _ _ yaP (aiD naP);obtain⟨yaA,aal⟩:=waR _ _ yaA (aiD naA);obtain⟨yaD,aam⟩:=waR _ _ yaD (aiD naD);obtain⟨yaF,aan⟩:=waR _ _ yaF (aiD naF);obtain⟨yaE,aao⟩:=waR _ _ yaE (aiD naE);have k7:=λb u (hb:H b=some u) (hbo:b≠o)=>waR b u ((k6 b u hb hbo).1) hbo
  refine gq ?_;generalize upd (upd H6 aR (.lst [])) o (.ins A.ak dx [(ar "seats",V.int n),(ar "sitting",V.int 1),(ar "closed",V.bl false),(ar "made",V.ref aM),(ar "pile",V.ref aP),(ar "aside",V.ref aA),(ar "decided",V.ref aD),(ar "first_texts",V.ref aF),(ar "edits_kept",V.ref aE),(ar "rows",V.ref aR)])=H7 at o7 k7 waR yaM yaP yaA yaD yaF yaE yaR ⊢;clear waR;refine q H7 λi c=>⟨aY (aY (aY (aY (aY (aY (aY (aY c o (some (i,Rl.ob))) aM (some (i,Rl.made))) aP (some (i,Rl.aH))) aA (some (i,Rl.aU))) aD (some (i,Rl.decided))) aF (some (i,Rl.firsts))) aE (some (i,Rl.kept))) aR (some (i,Rl.rows)),λb u hb hbo=>⟨(k7 b u hb hbo).1,?_⟩,⟨dx,aM,aP,aA,aD,aF,aE,aR,[],[],[],[],[],?_⟩⟩
  ·rw[az (k7 b u hb hbo).2,az (k6 b u hb hbo).2,az (k5 b u hb hbo).2,az (k4 b u hb hbo).2,az (k3 b u hb hbo).2,az (k2 b u hb hbo).2,az (k1 b u hb hbo).2,az hbo]
  ·exact⟨by rw[az naR,az naE,az naF,az naD,az naA,az naP,az naM,b5],o7,⟨by rw[az aaj,az aae,az aaa,az Z7,az Z5,az Z4,b5],yaM⟩,.nil,⟨by rw[az aak,az aaf,az aab,az Z8,az Z6,b5],yaP⟩,⟨by rw[az aal,az aag,az aac,az Z9,b5],yaA⟩,.nil,⟨by rw[az aam,az aah,az aad,b5],yaD⟩,.nil,⟨by rw[az aan,az aai,b5],yaF⟩,.nil,⟨by rw[az aao,b5],yaE⟩,.nil,⟨by rw[b5],yaR⟩⟩
end
def cH (st:Ch):R.bT->Rs×Ch
 | .nums kd ns=>if kd=ar "vote" then oX st (ns.getD 0 0) (ns.getD 1 0) else if kd=ar "drop" then qt st else if kd=ar "take" then stepT st (ns.getD 0 0).toNat else oZ st (hG (.nums kd ns)) (R.cz (.nums kd ns))
 |d=>oZ st (hG d) (R.cz d)
inductive vA:R.bT->Prop
 |LO {a b:Int}:(0<=a/\a < 10 ^ 10)->(0<=b/\b < 10 ^ 10)->vA (.nums (ar "vote") [a,b])
 |drop:vA (.nums (ar "drop") [])
 |take {z:Int}:-1<=z->z < 10 ^ 10->vA (.nums (ar "take") [z])
 |move {d:R.bT}:DM d->vA d
theorem jv {st:Ch}{a b:Int}:cH st (.nums (ar "vote") [a,b])=oX st a b:=by rw[cH,if_pos rfl];rfl
theorem mw {st:Ch}:cH st (.nums (ar "drop") [])=qt st:=by rw[cH,if_neg (by trivial),if_pos rfl]
theorem jw {st:Ch}{z:Int}:cH st (.nums (ar "take") [z])=stepT st z.toNat:=by
 rw[cH,if_neg (by trivial),if_neg (by trivial),if_pos rfl]
 rfl
theorem jx {st:Ch}{d:R.bT}(h:DM d):cH st d=oZ st (hG d) (R.cz d):=by
 cases d with
 |nums kd ns =>
  rcases zr h.1 with ⟨u,rfl,rfl⟩ | ⟨rfl,rfl⟩ | ⟨rfl,rfl⟩ | ⟨rfl,rfl⟩ <;> rw[cH,if_neg (by trivial),if_neg (by trivial),if_neg (by trivial)]
 |_=>rfl
theorem Inv.cH {N:Nat}{st:Ch}(I:Inv N st)(hN:N<=800){d:R.bT}(h:vA d):Inv (N+3) (cH st d).2:=by
 cases h with
 |LO=>rw[jv];exact I.oX hN _ _
 |drop=>rw[mw];exact I.qt
 |take=>rw[jw];exact I.stepT _
 |move h=>rw[jx h];exact I.oZ (OF h) _
theorem KS {W:Option (Nat×Rl)->Prop}{c c':Col}{H H':Hp}(s:Step W c c' H H'){a:Addr}{v:HO}(h:c a=none)(hv:H a=some v):c' a=none/\H' a=some v:=by
 have hn:¬W (c a):=by rw[h];exact s.nn
 exact⟨by rw[s.col a _ hv hn];exact h,s.keep _ _ hv hn⟩
def agE (A:Adr)(i:Nat):Sp:=λvs H Q E=>∃(o t:Addr) (c:Col) (st:Ch) (N:Nat) (d:R.bT),vs=[.ref o,.ref t]/\eN A i c H o st/\Inv N st/\N<=800/\vA d/\ni i c H d t/\E2 A i c H o (cH st d) Q E
theorem Vy:∀k,k < 8->decide (V.str (nm k)=V.str (ar "vote"))=false:=by trivial
theorem Vz:∀k,k < 8->decide (V.str (nm k)=V.str (ar "drop"))=false:=by trivial
theorem VA:∀k,k < 8->decide (V.str (nm k)=V.str (ar "take"))=false:=by trivial
section
variable{P:kx}{w:World}{K:bo}{mg:Str->Option Value}{base:Heap}{A:Adr}
theorem A1 (T:Txt w.params K mg A){i:Nat}:FnOk P w K mg base (CXX P w) 8 A.Df A.t4 ["chamber","deed"] (agE A i):=by
 refine T.sQ.okX Aj (λvs H Q E h=>?_) (λcdv A' outer s H vs Q E hr h=>?_)
 ·obtain⟨o,t,c,st,N,d,rfl,_⟩:=h;rfl
 ·obtain⟨o,t,c,st,N,d,rfl,hc,I,hN,hd,hdc,q⟩:=h;obtain⟨dx,aM,aP,aA,aD,aF,aE,aR,ms,ds,ws,fs,es,X⟩:=hc.ex;refine⟨_,(au (psx (bg (i:=2) Aj.nd rfl (aiF rfl) (aW bE (pv 1) aj (λ_ _=>rfl))))
 (au (dE (aO bD (pv 2) aq (aJ _))
 (aL (gK (uV (px (pv 0)) T.ah T.rq (QY (i:=i) T) (hr.mono (by decide)) T.iY (pax (aa (aW bE (pv 1) aj (λ_ _=>rfl)) (aa (aW bE (pv 1) aj (λ_ _=>rfl)) ag))))))
 (mQ aN))
 (au (dE (aO bD (pv 2) aq (aJ _))
 (aL (gK (vW (px (pv 0)) T.ah T.rz (QZ (i:=i) T) (hr.mono (by decide)) T.iZ)))
 (mQ aN))
 (au (dE (aO bD (pv 2) aq (aJ _))
 (aL (gK (uV (px (pv 0)) T.ah T.rA (Q0 (i:=i) T) (hr.mono (by decide)) T.i3 (pax (aa (aW bE (pv 1) aj (λ_ _=>rfl)) ag)))))
 (mQ aN))
 (aL (gK (uV (px (pv 0)) T.ah T.rn (Q3 (i:=i) T) hr T.iX (pax (aa (pv 1) ag))))))))),?_⟩
  try dsimp only[bI]
  cases hd with
  | @LO a b ha hb =>
   rw[jv]at q;have ht:SqT K H t [.str (ar "vote"),.int a,.int b]:=SqT.of hdc.2;refine ixv rfl ht rfl ⟨_,rfl,rfl,tst (by trivial) ?_⟩
   exact mtv rfl X.ob (dZ (by trivial)) (ixv rfl ht rfl (ixv rfl ht rfl ⟨o,a,b,c,st,N,rfl,hc,I,hN,ha,hb,q⟩))
  |drop =>
   rw[mw]at q;have ht:SqT K H t [.str (ar "drop")]:=SqT.of hdc.2;refine ixv rfl ht rfl ⟨_,rfl,rfl,tsf (by trivial) ⟨_,rfl,rfl,tst (by trivial) ?_⟩⟩
   exact mtv rfl X.ob (dZ (by trivial)) ⟨o,c,st,N,rfl,hc,I,hN,q⟩
  | @take z h0 h1 =>
   rw[jw]at q;have ht:SqT K H t [.str (ar "take"),.int z]:=SqT.of hdc.2;refine ixv rfl ht rfl ⟨_,rfl,rfl,tsf (by trivial) ⟨_,rfl,rfl,tsf (by trivial) ⟨_,rfl,rfl,tst (by trivial) ?_⟩⟩⟩
   exact mtv rfl X.ob (dZ (by trivial)) (ixv rfl ht rfl ⟨o,z,c,st,N,rfl,hc,I,hN,h0,h1,q⟩)
  |move hm =>
   refine aT λGq gq=>?_
   rw[jx hm]at q;obtain⟨v,ht,_,_⟩:=A0 hm hdc;have k8:=(hG d).k8;refine gq ?_;refine ixv rfl (SqT.of ht.2) zq ⟨_,rfl,rfl,tsf (Vy _ k8) ⟨_,rfl,rfl,tsf (Vz _ k8) ⟨_,rfl,rfl,tsf (VA _ k8) ?_⟩⟩⟩;exact mtv rfl X.ob (dZ (by trivial)) ⟨_,rfl,o,t,c,st,N,d,rfl,hc,I,hN,hm,hdc,q⟩
end
theorem eN.free {A:Adr}{i:Nat}{W:Option (Nat×Rl)->Prop}{c c':Col}{H H':Hp}{o:Addr}{st:Ch}(h:∀r,¬W (some (i,r)))(s:Step W c c' H H')(hc:eN A i c H o st):eN A i c' H' o st:=by
 obtain⟨dx,aM,aP,aA,aD,aF,aE,aR,ms,ds,ws,fs,es,X⟩:=hc.ex;exact(X.free h s).at
namespace R
def WAt (H:Hp):List Addr->List (List Str)->Prop
 |[],cs=>cs=[]
 |p::ps,cs=>∃ws r,cs=ws::r/\H p=some (.lst (ws.map V.str))/\WAt H ps r
theorem WAt.same {H H':Hp}(s:aZ H H'):∀ {ps:List Addr} {cs:List (List Str)},WAt H ps cs->WAt H' ps cs
 |[],_,h=>h
 |_::_,_,⟨ws,r,e,h,t⟩=>⟨ws,r,e,s _ _ h,WAt.same s t⟩
theorem WAt.upd {H:Hp}{b:Addr}{o:HO}:∀ {ps:List Addr} {cs:List (List Str)},b∉ps->WAt H ps cs->WAt (upd H b o) ps cs
 |[],_,_,h=>h
 |p::ps,_,hb,⟨ws,r,e,h,t⟩=>⟨ws,r,e,(av λz=>hb (by rw[z];exact kb)).trans h,WAt.upd (λz=>hb (kj _ z)) t⟩
theorem WAt.snoc {H:Hp}:∀ {ps:List Addr} {cs:List (List Str)} {p:Addr} {ws:List Str},WAt H ps cs->H p=some (.lst (ws.map V.str))->WAt H (ps++[p]) (cs++[ws])
 |[],_,p,ws,h,e=>by
  have h':_=[]:=h;subst h';exact⟨ws,[],rfl,e,rfl⟩
 |_::_,_,p,ws,⟨ws',r,e',h,t⟩,e=>⟨ws',r++[ws],by rw[e'];rfl,h,WAt.snoc t e⟩
theorem WAt.OJ {H:Hp}:∀ {ps:List Addr} {cs:List (List Str)} {p:Addr},WAt H (ps++[p]) cs->∃ds d,cs=ds++[d]/\WAt H ps ds/\H p=some (.lst (d.map V.str))
 |[],_,p,⟨ws,r,e,h,t⟩=>by
  have t':r=[]:=t;exact⟨[],ws,by rw[e,t'];rfl,rfl,h⟩
 |_::_,_,p,⟨ws,r,e,h,t⟩=>by
  obtain⟨ds,d,e2,t2,h2⟩:=WAt.OJ t;exact⟨ws::ds,d,by rw[e,e2];rfl,⟨ws,ds,rfl,h,t2⟩,h2⟩
theorem WAt.len {H:Hp}:∀ {ps:List Addr} {cs:List (List Str)},WAt H ps cs->ps.length=cs.length
 |[],_,h=>by
  have h':_=[]:=h;rw[h'];rfl
 |_::_,_,⟨ws,r,e,h,t⟩=>by rw[e,ku,ku,WAt.len t]
theorem WAt.get {H:Hp}:∀ {ps:List Addr} {cs:List (List Str)} {i:Nat} {p:Addr},WAt H ps cs->ps[i]?=some p->∃ws,cs[i]?=some ws/\H p=some (.lst (ws.map V.str))
 |[],_,_,_,_,g=>by simp at g
 |_::_,_,0,p,⟨ws,r,e,h,t⟩,g=>by
  obtain rfl:=aix g;exact⟨ws,by rw[e];rfl,h⟩
 |_::_,_,i+1,p,⟨ws,r,e,h,t⟩,g=>by
  obtain⟨x,h1,h2⟩:=WAt.get t (show _=some p from g)
  exact⟨x,by rw[e];exact h1,h2⟩
def eF (H H':Hp):bT->Addr->Prop
 | .mat cs,t=>∃L,H' t=some (.tup [.str (ar "matter"),.ref L])/\H L=none/\H' L=some (.lst ((cs.map (km bl1)).map V.str))
 | .ed m k i ws,t=>∃e,H' t=some (.tup [.str (kEd m),.ref e])/\H e=none/\H' e=some (.tup (edR k i (km bl1 ws)))
 | .pt ws,t=>H' t=some (.tup [.str (ar "point"),.str (km bl1 ws)])
 | .nums kd ns,t=>H' t=some (.tup (.str kd::ns.map V.int))
theorem eF.at {K:bo}{H H':Hp}:∀ {d:bT} {t:Addr},eF H H' d t->p7 K H' d t
 | .mat _,_,⟨L,a,_,b⟩=>⟨L,SqT.of a,SqL.of b⟩
 | .ed _ _ _ _,_,⟨e,a,_,b⟩=>⟨e,SqT.of a,SqT.of b⟩
 | .pt _,_,h=>SqT.of h
 | .nums _ _,_,h=>SqT.of h
theorem eF.back {H H1 H2:Hp}(s:aZ H H1):∀ {d:bT} {t:Addr},eF H1 H2 d t->eF H H2 d t
 | .mat _,_,⟨L,a,b,c⟩=>⟨L,a,s.free b,c⟩
 | .ed _ _ _ _,_,⟨e,a,b,c⟩=>⟨e,a,s.free b,c⟩
 | .pt _,_,h=>h
 | .nums _ _,_,h=>h
theorem eF.top {H H':Hp}:∀ {d:bT} {t:Addr},eF H H' d t->∃xs,H' t=some (.tup (.str (nh d)::xs))
 | .mat _,_,⟨_,a,_⟩=>⟨_,a⟩
 | .ed _ _ _ _,_,⟨_,a,_⟩=>⟨_,a⟩
 | .pt _,_,h=>⟨_,h⟩
 | .nums _ _,_,h=>⟨_,h⟩
theorem eF.same {H H1 H2:Hp}(s:aZ H1 H2):∀ {d:bT} {t:Addr},eF H H1 d t->eF H H2 d t
 | .mat _,_,⟨L,a,b,c⟩=>⟨L,s _ _ a,b,s _ _ c⟩
 | .ed _ _ _ _,_,⟨e,a,n,b⟩=>⟨e,s _ _ a,n,s _ _ b⟩
 | .pt _,_,h=>s _ _ h
 | .nums _ _,_,h=>s _ _ h
def nj (c:Nat):Bool:=decide (33<=c) && (decide (c<=126) && decide (c≠37))
def du (z:Str):Bool:=decide (1<=z.length) && (decide (z.length<=20) && (!decide (z=sl1) && z.cps.toList.all nj))
def nG (c:Nat):Bool:=decide (48<=c) && decide (c<=57)
def dN (z:Str):Bool:=decide (z≠em) && (decide (z.length<=10) && (z.cps.toList.all nG && (decide (z=ar "0") || !decide (z.cps.toList.head?=some 48))))
def j3 (z:Str):Int:=(PySem.intText? z).getD 0
def clausesOf:List (List Str)->List Str->Option (List (List Str))
 |acc,[]=>some acc
 |acc,w::r=>if w=sl1 then clausesOf (acc++[[]]) r else if acc=[] then none else clausesOf (acc.dropLast++[acc.getLastD []++[w]]) r
def readText (ws:List Str):Option (List (List Str)):=(clausesOf [] ws).bind λcs=>if cs.all (λc=>c.all du)=true then some cs else none
def hU:List Str->Option (Nat×Int×List Str)
 |k::p::th=>if dN p=true then (if k=kn 1 then (if th=[] then some (1,j3 p,[]) else none) else if (k=kn 0\/k=kn 2)/\th.all du=true then some (if k=kn 0 then 0 else 2,j3 p,th) else none) else none
 |_=>none
def j4 (ws:List Str):Option (Nat×Int×List Str):=(hU ws).bind λe=>if e.1=1\/ws.length=3 then some e else none
def sY:List Str->Option Int
 |[o,n]=>if o=ar "off"/\dN n=true/\1<=j3 n/\j3 n<=999999999 then some (j3 n) else none
 |_=>none
def LP:List Str:=[ar "close",ar "lay",ar "rest",ar "drop"]
def vB:List Str->Option bT
 |[a,b]=>if dN a=true/\dN b=true then some (.nums (ar "vote") [j3 a,j3 b]) else none
 |_=>none
def vC:List Str->Option bT
 |[a]=>if dN a=true then some (.nums (ar "take") [j3 a]) else none
 |_=>none
def cA:List Str->Option bT
 |[]=>none
 |k::ws =>
  if k=ar "matter" then (readText ws).map .mat
  else if k=ar "change" then (hU ws).map λe=>.ed false e.1 e.2.1 e.2.2
  else if k=ar "mend" then (j4 ws).map λe=>.ed true e.1 e.2.1 e.2.2
  else if k=ar "put" then (sY ws).map λn=>.nums (ar "put off") [n]
  else if k=ar "point" then (if ws.all du=true then some (.pt ws) else none)
  else if k=ar "vote" then vB ws
  else if k=ar "take" then vC ws
  else if k∈LP/\ws=[] then some (.nums k []) else none
structure kW (ws:List Str):Prop where
 sz:(ws.map (·.length)).sum+ws.length<=60000
 asc:∀w∈ws,Asc w
theorem kW.len {ws:List Str}(o:kW ws):ws.length<=60000:=by have:=o.sz;omega
theorem OK:∀ {ws:List Str} {w:Str},w∈ws->w.length<=(ws.map (·.length)).sum
 |x::r,w,h=>by
  rw[ra,List.sum_cons];rcases List.mem_cons.mp h with rfl | h
  ·omega
  ·have:=OK h;omega
theorem kW.wl {ws:List Str}(o:kW ws){w:Str}(h:w∈ws):w.length<=60000:=by have:=o.sz;have:=OK h;omega
theorem OL (ws:List Str)(n:Nat):((ws.drop n).map (·.length)).sum<=(ws.map (·.length)).sum:=by
 rw[List.map_drop]
 conv=>rhs;rw[<-List.take_append_drop n (ws.map (·.length)),List.sum_append]
 omega
theorem kW.drop {ws:List Str}(o:kW ws)(n:Nat):kW (ws.drop n) :=
 have h1:=OL ws n;have h2:=o.sz;have h3:(ws.drop n).length<=ws.length:=by rw[ajj];omega
 ⟨by omega,λw hw=>o.asc w (ajI hw)⟩
def A2 (A:Adr)(n:Int)(E:XK)(H:Hp):Prop:=∀(d:Addr) (H':Hp),aZ H H'->H' d=some (.xd [("row",.int n)])->E (.ref A.a6) (some d) H'
theorem A2.same {A:Adr}{n:Int}{E:XK}{H H1:Hp}(e:A2 A n E H)(s:aZ H H1):A2 A n E H1:=λd H' s' h=>e d H' (s.trans s') h
def xa (A:Adr):Sp:=λvs H Q E=>∃b:Bool,vs=[.bl b]/\(b=true->Q .non H)/\(b=false->A2 A 1 E H)
def OM:Sp:=λvs H Q _=>∃c:Nat,vs=[.str ⟨#[c]⟩]/\Q (.bl (nj c)) H
def ON:Sp:=λvs H Q _=>∃z:Str,vs=[.str z]/\z.length<=60000/\∀H',aZ H H'->Q (.bl (du z)) H'
def Q4:Sp:=λvs H Q _=>∃z:Str,vs=[.str z]/\z.length<=60000/\∀H',aZ H H'->Q (.bl (dN z)) H'
def OO (A:Adr):Sp:=λvs H Q E=>∃z:Str,vs=[.str z]/\z.length<=60000/\(dN z=true->∀H',aZ H H'->Q (.int (j3 z)) H')/\(dN z=false->A2 A 1 E H)
def LQ (K:bo)(A:Adr):Sp:=λvs H Q E=>∃(a:Addr) (ws:List Str),vs=[.ref a]/\SqL K H a (ws.map V.str)/\kW ws/\(ws.all du=true->∀H',aZ H H'->Q (.str (km bl1 ws)) H')/\(ws.all du=false->A2 A 1 E H)
theorem lt1 (a b:Nat):decide ([a] < [b])=decide (a < b):=by
 rw[ajb,decide_eq_true_iff,decide_eq_true_iff];constructor
 ·intro h;cases h with
  |rel h=>exact h
  |cons h=>cases h
 ·exactλh=>.rel h
section
variable{P:kx}{w:World}{K:bo}{mg:Str->Option Value}{base:Heap}{A:Adr}
theorem IH (T:Txt w.params K mg A):FnOk P w K mg base CX0 1 A.u7 A.qQ ["self","row"] (zP A.a6 "row"):=by
 refine T.lN.ok tq (λvs H Q E h=>?_) (λcdv A' outer s H vs Q E hr h=>?_)
 ·obtain⟨e,v,rfl,_⟩:=h;rfl
 ·obtain⟨e,v,rfl,hx,⟨z,fz,zl⟩,q⟩:=h;refine⟨_,(ao (bY (qG T.eh T.l8 rfl T.cS (aa (pv 0) (aa (zO (jO (tS (pv 1) tR))) ag))))
 (ai (uW T.l8 (pv 0) (pv 1)))),?_⟩
  try dsimp only[bI]
  have sz:gc=16777216:=by decide
  have c5:(ar "refused at the row ").length=19:=by trivial
  have e5:(aiT++ar "refused at the row ":Str).length=19:=by trivial
  refine⟨_,rfl,by rw[e5];omega,_,rfl,z,fz,by omega,by rw[len_app,e5];omega,by rw[len_app,e5];omega,e,_,rfl,hx,?_⟩
  exact⟨_,rfl,_,rfl,e,rfl,hx,λd hd=>q d hd⟩
theorem gI (T:Txt w.params K mg A):FnOk P w K mg base (CXX P w) 3 A.u6 A.lV ["holds"] (xa A):=by
 refine T.dA.okX HU (λvs H Q E h=>?_) (λcdv A' outer s H vs Q E hr h=>?_)
 ·obtain⟨b,rfl,_⟩:=h;rfl
 ·obtain⟨b,rfl,h1,h2⟩:=h;refine⟨_,(aL (dE (pD (ib (pv 0)))
 (aL (lQ T.l8 (IH T) hr T.oQ rfl rfl T.zm (aa aj ag)))
 (mQ aN))),?_⟩
  try dsimp only[bI]
  refine⟨_,rfl,b,rfl,?_⟩;cases b with
  |true=>exact eu (h1 rfl)
  |false=>exact gS ⟨_,rfl,⟨_,.int (by decide),by trivial⟩,λd hd=>h2 rfl d _ (aI hd) ae⟩
theorem II (T:Txt w.params K mg A):FnOk P w K mg base CX0 1 A.Dc A.tX ["sign"] OM:=by
 refine T.wF.ok HV (λvs H Q E h=>?_) (λcdv A' outer s H vs Q E hr h=>?_)
 ·obtain⟨c,rfl,_⟩:=h;rfl
 ·obtain⟨c,rfl,q⟩:=h;refine⟨_,(ai (aG (pE (uO BV BV aq (pv 0) aq) (lO (cF D9 (bK MM (by rfl) T.Sl Up (aa (pv 0) ag)) (eP (v:=V.int 37) rfl T.Cb ⟨_,rfl⟩) (aJ _)))))),?_⟩
  try dsimp only[bI]
  have e1:(ar "!").cps.toList=[33]:=by trivial
  have e2:(ar "~").cps.toList=[126]:=by trivial
  refine⟨_,rfl,_,_,rfl,rfl,_,rfl,?_⟩;rw[e1,show (⟨#[c]⟩:Str).cps.toList=[c] from rfl,lt1]
  by_cases h1:c < 33
  ·rw[decide_eq_true h1];refine eu ⟨_,rfl,eu ?_⟩;rw[nj,decide_eq_false (show ¬33<=c by omega)]at q
   exact q
  ·rw[decide_eq_false h1];refine gS ⟨_,_,rfl,rfl,_,rfl,?_⟩;rw[e2,show (⟨#[c]⟩:Str).cps.toList=[c] from rfl,lt1]
   by_cases h2:126 < c
   ·rw[decide_eq_true h2];refine eu ?_;rw[nj,decide_eq_true (show 33<=c by omega),decide_eq_false (show ¬c<=126 by omega)]at q
    exact q
   ·rw[decide_eq_false h2];refine gS ⟨_,rfl,_,rfl,rfl,rfl,?_⟩;rw[nj,decide_eq_true (show 33<=c by omega),decide_eq_true (show c<=126 by omega)]at q
    have e3:(!decide (V.int ((((⟨#[c]⟩:Str).cps.getD 0 0:Nat)):Int)=V.int 37))=decide (c≠37):=by
     rw[ajb];simp;omega
    rw[e3];exact q
theorem uj {α:Type}(p:α->Bool)(l:List α):(l.map p).all id=l.all p:=by
 induction l with
 |nil=>rfl
 |cons a l ih=>simp[ih]
theorem IJ (T:Txt w.params K mg A):FnOk P w K mg base CX0 2 A.Dd A.tY ["word"] ON:=by
 refine T.wG.ok HW (λvs H Q E h=>?_) (λcdv A' outer s H vs Q E hr h=>?_)
 ·obtain⟨z,rfl,_⟩:=h;rfl
 ·obtain⟨z,rfl,zl,q⟩:=h;refine⟨_,(ai (aG (pE (uO xn xn aj (bK uT (by rfl) T.oN j8 (aa (pv 0) ag)) (eP (v:=V.int 20) rfl T.vc ⟨_,rfl⟩)) (pE (cF D9 (pv 0) aq (aJ _)) (lO (bK (zL rfl) (by rfl) T.Kw HF (aa (sE (scope:=tw) C4 rfl (Nq (pv 0)) (λ_ _ _ _ _=>(bw (II T) hr rfl T.B3 T.wF.kp T.B2 .nil a9 (aa (pv 0) ag)))) ag))))))),?_⟩
  try dsimp only[bI]
  have sz:gc=16777216:=by decide
  refine⟨_,rfl,z,rfl,by omega,_,_,rfl,rfl,_,rfl,?_⟩
  by_cases h1:1<=z.length
  ·rw[decide_eq_true (show (1:Int)<=(z.length:Int) by omega)]
   refine gS ⟨_,_,rfl,rfl,_,rfl,?_⟩
   by_cases h2:z.length<=20
   ·rw[decide_eq_true (show (z.length:Int)<=20 by omega)]
    refine gS ⟨_,rfl,rfl,_,rfl,?_⟩
    by_cases h3:z=sl1
    ·rw[decide_eq_true (show V.str z=V.str (ar "/") from congrArg V.str h3)]
     refine eu ?_;have:=q H (aZ.refl H);rw[du,decide_eq_true h1,decide_eq_true h2,decide_eq_true h3]at this;exact this
    ·rw[decide_eq_false (show ¬V.str z=V.str (ar "/") from λe=>h3 (by injection e))]
     refine gS ⟨_,rfl,z,rfl,λD hD=>?_⟩
     refine BW nj (by show z.length<=_;omega) hD (λc H2 Q2 hc s2 k=>⟨_,rfl,c,rfl,k H2 (aZ.refl _)⟩) λH2 s2 h2'=>?_
     refine⟨D,z.cps.toList.map nj,rfl,SqL.of h2',?_⟩;have:=q H2 s2;rw[du,decide_eq_true h1,decide_eq_true h2,decide_eq_false h3]at this;rw[uj];exact this
   ·rw[decide_eq_false (show ¬(z.length:Int)<=20 by omega)]
    refine eu ?_;have:=q H (aZ.refl H);rw[du,decide_eq_true h1,decide_eq_false h2]at this;exact this
  ·rw[decide_eq_false (show ¬(1:Int)<=(z.length:Int) by omega)]
   refine eu ⟨_,rfl,eu ?_⟩;have:=q H (aZ.refl H);rw[du,decide_eq_false h1]at this;exact this
theorem o8 {α:Type}{c:α}{r:List α}:atI (c::r) 0=some c:=by
 unfold atI ixN;simp
theorem VB (c:Nat):(!(ajg (ar "0123456789") ⟨#[c]⟩ 0 (ar "0123456789").length 1).isEmpty)=nG c:=by
 rw[StrLaws.found_one];have e:(ar "0123456789").cps.toList=[48,49,50,51,52,53,54,55,56,57]:=by trivial
 rw[e,nG,ajb];simp;omega
theorem DN (T:Txt w.params K mg A):FnOk P w K mg base CX0 1 A.wk A.pK ["word"] Q4:=by
 refine T.qR.ok C5 (λvs H Q E h=>?_) (λcdv A' outer s H vs Q E hr h=>?_)
 ·obtain⟨z,rfl,_⟩:=h;rfl
 ·obtain⟨z,rfl,zl,q⟩:=h;refine⟨_,(ao (bX (PW.pt (pw_or (aO bD (pv 0) aq (aJ _)) (pw_or1 (aO R1 (bK uT (by rfl) T.oN j8 (aa (pv 0) ag)) (eP (v:=V.int 10) rfl T.rh ⟨_,rfl⟩) (aJ _)))))
 (ai (aG oh))
 aN)
 (ai (aG (pE (bK (zL rfl) (by rfl) T.Kw HF (aa (sE (scope:=qg) Ag rfl (Nq (pv 0)) (λ_ _ _ _ _=>(cF Ld (pv 0) (eP (v:=V.str (ar "0123456789")) rfl T.Ca ⟨_,rfl⟩) rfl))) ag)) (lO (MJ (cF bD (pv 0) aq (aJ _)) (lO (cF D9 (aW MU (pv 0) aj (λ_ _=>rfl)) aq (aJ _))))))))),?_⟩
  try dsimp only[bI]
  have sz:gc=16777216:=by decide
  refine⟨_,rfl,rfl,_,rfl,gU (λe=>?_) (λe=>?_)⟩
  ·refine gS ?_;have e':z=em:=by injection of_decide_eq_true e
   have:=q H (aZ.refl H);rw[dN,decide_eq_false (λz=>z e')]at this
   exact this
  ·have hne:z≠em:=λq=>e (decide_eq_true (congrArg V.str q))
   refine⟨_,rfl,z,rfl,by omega,_,_,rfl,rfl,_,rfl,gU (λe=>?_) (λe=>?_)⟩
   ·have e':(10:Int) < (z.length:Int):=of_decide_eq_true e;have:=q H (aZ.refl H);rw[dN,decide_eq_true hne,decide_eq_false (show ¬z.length<=10 by omega)]at this
    exact this
   ·have e':¬(10:Int) < (z.length:Int):=λh=>e (decide_eq_true h)
    have hl:z.length<=10:=by omega
    have hq:=λH2 s2=>q H2 s2
    rw[dN,decide_eq_true hne,decide_eq_true hl]at hq;refine⟨_,rfl,z,rfl,λD hD=>?_⟩
    refine BW nG (by show z.length<=_;omega) hD (λc H2 Q2 hc s2 k=>⟨_,rfl,_,_,rfl,rfl,by rw[VB];exact k H2 (aZ.refl _)⟩) λH2 s2 h2'=>?_
    refine⟨D,z.cps.toList.map nG,rfl,SqL.of h2',_,rfl,?_⟩;have hq2:=hq H2 s2;rw[uj];cases ha:z.cps.toList.all nG with
    |false=>rw[ha]at hq2;exact eu hq2
    |true =>
     rw[ha]at hq2;refine gS ⟨_,rfl,rfl,_,rfl,?_⟩
     by_cases h0:z=ar "0"
     ·rw[decide_eq_true (congrArg V.str h0)];rw[decide_eq_true h0]at hq2;exact gS hq2
     ·rw[decide_eq_false (show ¬V.str z=V.str (ar "0") from λe=>h0 (by injection e))]
      rw[decide_eq_false h0]at hq2;cases hz:z.cps.toList with
      |nil =>
       exfalso
       refine hne (sD ?_);rw[hz,ER]
      |cons c r =>
       rw[hz]at hq2;refine eu ⟨_,rfl,z,0,c,rfl,rfl,by omega,by rw[hz];exact o8,rfl,?_⟩
       have e0:ar "0"=⟨#[48]⟩:=by trivial
       have e3:(!decide (V.str ⟨#[c]⟩=V.str (ar "0")))=(!decide ((c::r).head?=some 48)):=by
        rw[e0]
        congr 1
        rw[ajb];simp
       rw[e3];exact hq2
theorem Sw:∀(cs:List Nat) (acc:Nat),PySem.NumText.AllDigits cs->cs.foldl (λacc c=>acc * 10+(c - 48)) acc < (acc+1) * 10 ^ cs.length
 |[],acc,_=>by simp
 |c::cs,acc,h=>by
  have h1:=h.head;have h2:=Sw cs (acc * 10+(c - 48)) h.tail;rw[List.foldl_cons,ku,Nat.pow_succ];refine tm h2 ?_;rw[Nat.mul_comm (10 ^ cs.length) 10,<-Nat.mul_assoc];exact Nat.mul_le_mul_right _ (by omega)
theorem Q5 {z:Str}(h:dN z=true):PySem.intText? z=some (j3 z)/\z.length<=10/\0<=j3 z/\j3 z < 10 ^ 10:=by
 simp only[dN,aiN,decide_eq_true_iff]at h;obtain⟨h1,h2,h3,_⟩:=h;have hd:PySem.NumText.AllDigits z.cps.toList:=λc hc=>by
  have:=List.all_eq_true.mp h3 c hc;simp only[nG,aiN,decide_eq_true_iff]at this;exact this
 have hne:z.cps.toList≠[]:=λe=>h1 (sD (by rw[e,ER]))
 have e:=PySem.intText_digits hd hne (rf h2 (by decide))
 have ev:j3 z=((PySem.NumText.digitsVal z.cps.toList:Nat):Int):=by unfold j3;rw[e];rfl
 have lt:=Sw z.cps.toList 0 hd;have lt2:PySem.NumText.digitsVal z.cps.toList < 10 ^ 10:=by
  refine tm lt ?_;rw[Nat.zero_add,Nat.one_mul];exact Nat.pow_le_pow_right (by decide) (by rw[p6];exact h2)
 refine⟨by rw[e,ev],h2,by rw[ev];omega,by rw[ev];omega⟩
end
end R
namespace R
theorem IK {K:bo}{a D:Addr}{ws:List Str}{te:TE}{Q:VK}{σ:St}{H1:Hp}(p:Str->Bool)(hq:SqL K H1 a (ws.map V.str))(hz:ws.length<=gc)(hD:H1 D=none)
  (hs:∀(x:Str) (H2:Hp) (Q2:VK),x∈ws->aZ H1 H2->(∀H3,aZ H2 H3->Q2 (.bl (p x)) H3)->te (some (.str x)::σ) H2 Q2)
  (hd:∀H2,aZ H1 H2->H2 D=some (.lst ((ws.map p).map V.bl))->Q (.ref D) H2):oj (Itl K a) te σ D H1 Q:=by
 refine vV (K:=K) (a:=a) (xs:=ws.map V.str) (λi ys H2=>ys=((ws.take i).map p).map V.bl/\aZ H1 H2/\H2 D=some (.lst ys)) ⟨by simp,aI hD,ae⟩ (by rw[da];exact hz) ?_ ?_ ?_
 ·rintro i ys H2 hi ⟨rfl,s2,h2⟩;rw[da]at hi;exact⟨s2.seq hq,h2,by simp;omega⟩
 ·rintro i y ys H2 hi ⟨rfl,s2,h2⟩;rw[aiY]at hi;cases hw:ws[i]? with
  |none=>rw[hw]at hi;cases hi
  |some x =>
   rw[hw]at hi;obtain rfl:V.str x=y:=aix hi;refine hs x H2 _ (aiK hw) s2 λH3 s3=>?_
   refine fB.mk (by rw[da];exact(List.getElem?_eq_some_iff.mp hw).1) (s3 _ _ h2) ⟨?_,(s2.trans s3).own hD,ae⟩
   rw[aj0,hw];simp
 ·rintro ys H2 ⟨rfl,s2,h2⟩;refine hd H2 s2 (h2.trans ?_);rw[da,ajl]
def csD (cs:List (List Str)):PyData:=.list (cs.map λc=>.list (c.map aja))
theorem WAt.dvs {K:bo}{H:Hp}:∀ {ps:List Addr} {cs:List (List Str)},WAt H ps cs->DVs K H (cs.map λc=>.list (c.map aja)) (ps.map V.ref)
 |[],_,h=>by
  have h':_=[]:=h;subst h';simp only[ajY];unfold DVs;rfl
 |_::_,_,⟨ws,r,e,h,t⟩=>by
  subst e;simp only[ra];unfold DVs;exact⟨_,_,rfl,pH (SqL.of h),WAt.dvs t⟩
theorem IL {cs:List (List Str)}(h:∀c∈cs,∀w∈c,Asc w):SeqAt.shaped (csD cs)=true:=by
 have key:∀l:List (List Str),(∀c∈l,∀w∈c,Asc w)->ajt (l.map λc=>.list (c.map aja))=true/\aj9 (l.map λc=>PyData.list (c.map aja))<=10:=λl=>by
  induction l with
  |nil=>intro _;exact⟨rfl,aiW _⟩
  |cons c l ih =>
   intro h;obtain⟨i1,i2⟩:=ih λc hc=>h c (kj _ hc)
   have h1:=mU c λw hw=>(h c kb w hw).ok
   have h2:=pI c;refine⟨?_,?_⟩
   ·simp[ajt,aju,h1,i1]
   ·simp only[ra,aj9,ajZ];omega
 obtain⟨k1,k2⟩:=key cs h;have k3:(csD cs).canLay0=true:=by simp[csD,aju,k1]
 have k4:(csD cs).depth<=64:=by simp only[csD,ajZ];omega
 show (aju (csD cs) && decide (ajZ (csD cs)<=64))=true;rw[k3,decide_eq_true k4];rfl
theorem Q6 (cs:List (List Str)):aj3 (csD cs) (.list [])=decide (cs=[]):=by
 cases cs with
 |nil=>rfl
 |cons c r=>rfl
theorem strs_nil (cs:List Str):aj3 (.list (cs.map aja)) (.list [])=decide (cs=[]):=by
 cases cs with
 |nil=>rfl
 |cons c r=>rfl
def Q7 (K:bo)(A:Adr):Sp:=λvs H Q E=>∃(a:Addr) (ws:List Str),vs=[.ref a]/\SqL K H a (ws.map V.str)/\kW ws /\
 (∀cs,readText ws=some cs->∀L H',aZ H H'->H L=none->H' L=some (.lst ((cs.map (km bl1)).map V.str))->Q (.ref L) H')/\(readText ws=none->A2 A 1 E H)
structure WOk (i:Nat)(ws:List Str)(cs:List (List Str)):Prop where
 cl:cs.length<=i
 ln:∀c∈cs,c.length<=i
 sm:∀c∈cs,(c.map (·.length)).sum<=((ws.take i).map (·.length)).sum
 mm:∀c∈cs,∀w∈c,w∈ws
theorem WOk.more {i:Nat}{ws:List Str}{cs:List (List Str)}{x:Str}(o:WOk i ws cs)(hx:ws[i]?=some x):WOk (i+1) ws (cs++[[]]):=by
 have t:((ws.take (i+1)).map (·.length)).sum=((ws.take i).map (·.length)).sum+x.length:=by rw[aj0,hx];simp
 refine⟨by rw[ki];have:=o.cl;simp;omega,λc hc=>?_,λc hc=>?_,λc hc=>?_⟩
 all_goals
  rcases List.mem_append.mp hc with hc | hc
  ·first
    | (have:=o.ln c hc;omega)
    | (have:=o.sm c hc;omega)
    |exact o.mm c hc
  ·obtain rfl:=List.mem_singleton.mp hc;simp
theorem WOk.word {i:Nat}{ws:List Str}{ds:List (List Str)}{d:List Str}{x:Str}(o:WOk i ws (ds++[d]))(hx:ws[i]?=some x):WOk (i+1) ws (ds++[d++[x]]):=by
 have t:((ws.take (i+1)).map (·.length)).sum=((ws.take i).map (·.length)).sum+x.length:=by rw[aj0,hx];simp
 have dm:d∈ds++[d]:=ka _ kb;refine⟨by have:=o.cl;rw[ki]at this ⊢;simp at this ⊢;omega,λc hc=>?_,λc hc=>?_,λc hc=>?_⟩
 ·rcases List.mem_append.mp hc with hc | hc
  ·have:=o.ln c (aiJ _ hc);omega
  ·obtain rfl:=List.mem_singleton.mp hc;have:=o.ln d dm;rw[ki];simp;omega
 ·rcases List.mem_append.mp hc with hc | hc
  ·have:=o.sm c (aiJ _ hc);omega
  ·obtain rfl:=List.mem_singleton.mp hc;have:=o.sm d dm;have e1:([x].map λx:Str=>x.length).sum=x.length:=by simp
   rw[tu,List.sum_append,e1];omega
 ·rcases List.mem_append.mp hc with hc | hc
  ·exact o.mm c (aiJ _ hc)
  ·obtain rfl:=List.mem_singleton.mp hc;intro w hw;rcases List.mem_append.mp hw with hw | hw
   ·exact o.mm d dm w hw
   ·rw[List.mem_singleton.mp hw];exact aiK hx
section
variable{P:kx}{w:World}{K:bo}{mg:Str->Option Value}{base:Heap}{A:Adr}
theorem mx (T:Txt w.params K mg A):FnOk P w K mg base (CXX P w) 4 A.mZ A.iV ["word"] (OO A):=by
 refine T.eK.okX Ah (λvs H Q E h=>?_) (λcdv A' outer s H vs Q E hr h=>?_)
 ·obtain⟨z,rfl,_⟩:=h;rfl
 ·obtain⟨z,rfl,zl,h1,h2⟩:=h;refine⟨_,(au (cf (bB (gI T) hr rfl T.dQ T.dA.kp T.dP (pax (aa (bw (DN T) (hr.mono (by decide)) rfl T.xC T.qR.kp T.xB .nil a9 (aa (pv 0) ag)) ag))))
 (aL (psx (aG (dv Bj (by rfl) T.Kv HG (aa (pv 0) ag)))))),?_⟩
  try dsimp only[bI]
  refine⟨_,rfl,z,rfl,zl,λH2 s2=>⟨dN z,rfl,λhb=>?_,λhb=>(h2 hb).same s2⟩⟩
  refine aT λGq gq=>?_
  obtain⟨v1,v2,_⟩:=Q5 hb;refine gq ?_;exact⟨_,rfl,z,j3 z,rfl,v1,by omega,h1 hb H2 s2⟩
theorem my (T:Txt w.params K mg A):FnOk P w K mg base (CXX P w) 4 A.qM A.lW ["words"] (LQ K A):=by
 refine T.g7.okX Ai (λvs H Q E h=>?_) (λcdv A' outer s H vs Q E hr h=>?_)
 ·obtain⟨a,ws,rfl,_⟩:=h;rfl
 ·obtain⟨a,ws,rfl,hS,o,h1,h2⟩:=h;refine⟨_,(au (cf (bB (gI T) hr rfl T.dQ T.dA.kp T.dP (pax (aa (bK (zL rfl) (by rfl) T.Kw HF (aa (sE (scope:=mY) we rfl (pG (pv 0)) (λ_ _ _ _ _=>(bw (IJ T) (hr.mono (by decide)) rfl T.B5 T.wG.kp T.B4 .nil a9 (aa (pv 0) ag)))) ag)) ag))))
 (aL (psx (aG (bw (p8 T) (hr.mono (by decide)) rfl T.m5 T.jS.kp T.m3 .nil a9 (aa (pv 0) ag)))))),?_⟩
  try dsimp only[bI]
  have sz:gc=16777216:=by decide
  have ol:=o.len;have os:=o.sz;refine⟨_,rfl,a,rfl,⟨_,hS⟩,λD hD=>?_⟩
  refine IK du hS (by omega) hD (λx H2 Q2 hx s2 k=>⟨_,rfl,x,rfl,o.wl hx,k⟩) λH2 s2 h2'=>?_
  refine⟨D,ws.map du,rfl,SqL.of h2',?_⟩;rw[uj];refine⟨ws.all du,rfl,λhb=>?_,λhb=>(h2 hb).same s2⟩
  exact⟨_,rfl,a,ws,rfl,s2.seq hS,by omega,h1 hb H2 s2⟩
theorem VC {α:Type}{l:List α}(h:l≠[]):∃(r:List α) (a:α),l=r++[a]:=⟨l.dropLast,l.getLast h,(List.dropLast_concat_getLast h).symm⟩
theorem qE {α:Type}{r:List α}{a:α}:atI (r++[a]) (-1)=some a:=by
 unfold atI ixN;rw[if_neg (by decide),if_pos (by rw[ki,aiw];omega),ajC,show ((-1:Int)+((r++[a]).length:Int)).toNat=r.length by rw[ki,aiw];omega]
 simp
theorem DO (T:Txt w.params K mg A):FnOk P w K mg base (CXX P w) 5 A.wm A.pL ["words"] (Q7 K A):=by
 refine T.qS.okX pJ (λvs H Q E h=>?_) (λcdv A' outer s H vs Q E hr h=>?_)
 ·obtain⟨a,ws,rfl,_⟩:=h;rfl
 ·obtain⟨a,ws,rfl,hS,o,h1,h2⟩:=h;have Bs:=hr.units;refine⟨_,(au (psx (bg (i:=1) pJ.nd rfl (aiF rfl) (dS ag)))
 (au (Kq ⟨rfl,rfl⟩ rfl (pG (pv 0)) (pF (i:=2) pJ.nd rfl (aiF rfl))
 (aL (dE (aO bD (pv 2) aq (aJ _))
 (aL (psx (bY (iP adm aiQ aiR d6 (pv 1) (aa (dS ag) ag)))))
 (au (cf (bB (gI T) (hr.mono (by decide)) rfl T.dQ T.dA.kp T.dP (pax (aa (cF (M4 Bs) (pv 1) (dS ag) (aJ _)) ag))))
 (aL (psx (bY (iP adm aiQ aiR d6 (aW bx (pv 1) (zA tN aj) (λ_ _=>rfl)) (aa (pv 2) ag)))))))))
 (aL (gK (Nv (scope:=qh) ⟨rfl,rfl⟩ qK rfl (pG (pv 1)) (λ_ _ _ _ _=>(pF (i:=0) qK.nd2 rfl (aiF rfl))) (λ_ _ _ _ _=>(bB (my T) hr rfl T.jM T.g7.kp T.jL (pax (aa (pv 0) ag))))))))),?_⟩
  try dsimp only[bI]
  have sz:gc=16777216:=by decide
  have ol:=o.len;refine⟨aiW _,λC hC=>?_⟩
  refine⟨_,rfl,a,rfl,⟨_,(aI hC).seq hS⟩,?_⟩;refine zz (K:=K) (a:=a) (xs:=ws.map V.str) (λi σ H2=>∃(v2:Option V) (ps:List Addr) (cs:List (List Str)),σ=[some (.ref a),some (.ref C),v2]/\aZ H H2/\H2 C=some (.lst (ps.map V.ref))/\WAt H2 ps cs/\ps.Nodup/\C∉ps/\(∀p∈ps,H p=none) /\
    clausesOf cs (ws.drop i)=clausesOf [] ws/\WOk i ws cs)
   ⟨_,[],[],rfl,aI hC,ae,rfl,List.nodup_nil,(λz=>nomatch z),(λp hp=>nomatch hp),rfl,⟨ko _,(λc hc=>nomatch hc),(λc hc=>nomatch hc),λc hc=>nomatch hc⟩⟩ (λi σ H2 _ ⟨_,_,_,_,s2,_⟩=>s2.seq hS) ?_ ?_
  ·rintro i y σ H2 hi ⟨v2,ps,cs,rfl,s2,hCl,hW,nd,nC,hn,ecl,wo⟩;rw[aiY]at hi;cases hx:ws[i]? with
   |none=>rw[hx]at hi;cases hi
   |some x =>
    rw[hx]at hi;obtain rfl:V.str x=y:=aix hi;have hil:i < ws.length:=(List.getElem?_eq_some_iff.mp hx).1;have dr:ws.drop i=x::ws.drop (i+1):=by
     rw[List.drop_eq_getElem_cons hil,(List.getElem?_eq_some_iff.mp hx).2]
    have pl:=hW.len;have cl:=wo.cl;refine⟨_,rfl,rfl,_,rfl,gU (λe=>?_) (λe=>?_)⟩
    ·have e':x=sl1:=by injection of_decide_eq_true e
     refine⟨_,rfl,.inl ⟨rfl,_,SqL.of hCl⟩,aiW _,λp hp=>?_⟩
     have nCp:C≠p:=aC hCl hp;have aap:p∉ps:=λz=>by
      obtain⟨j,hj⟩:=List.getElem?_of_mem z;obtain⟨_,_,h3⟩:=hW.get hj;rw[hp]at h3;cases h3
     refine⟨C,_,_,rfl,rfl,(av nCp).trans hCl,(by rw[da];omega),?_⟩
     refine⟨_,ps++[p],cs++[[]],rfl,((s2.new hp).own hC),?_,?_,?_,?_,?_,?_,wo.more hx⟩
     ·rw[ae,tu];rfl
     ·refine WAt.upd (by rw[akb,not_or];exact⟨nC,λz=>nCp (List.mem_singleton.mp z)⟩) (WAt.snoc (WAt.upd aap hW) ?_)
      rw[ae];rfl
     ·exact List.nodup_append.mpr ⟨nd,by simp,λb hb c hc e=>aap (by rw[<-List.mem_singleton.mp hc,<-e];exact hb)⟩
     ·rw[akb,not_or];exact⟨nC,λz=>nCp (List.mem_singleton.mp z)⟩
     ·intro b hb;rcases List.mem_append.mp hb with hb | hb
      ·exact hn b hb
      ·rw[List.mem_singleton.mp hb];exact s2.free hp
     ·rw[<-ecl,dr,clausesOf,if_pos e']
    ·have e':¬x=sl1:=λz=>e (decide_eq_true (congrArg V.str z))
     refine⟨_,rfl,aiW _,λp hp=>?_⟩
     have s3:aZ H2 (upd H2 p (.lst [])):=aI hp;refine⟨csD cs,.list [],?_,?_,IL (λc hc w hw=>o.asc w (wo.mm c hc w hw)),by trivial,?_⟩
     ·unfold csD DV;exact⟨C,_,rfl,SqL.of (s3 _ _ hCl),(hW.same s3).dvs⟩
     ·unfold DV;exact⟨p,[],rfl,SqL.of ae,by unfold DVs;rfl⟩
     ·rw[Q6];refine⟨!decide (cs=[]),rfl,λhb=>?_,λhb=>?_⟩
      ·have hcs:cs≠[]:=by simpa using hb
       refine aT λGq gq=>?_
       have hps:ps≠[]:=λz=>by rw[z]at pl;exact hcs (List.length_eq_zero_iff.mp pl.symm)
       obtain⟨qs,q,rfl⟩:=VC hps;obtain⟨ds,d,rfl,hWd,hq⟩:=hW.OJ;have nq:q≠p:=aC hq hp;have nqs:q∉qs:=λz=>by
        have:=(List.nodup_append.mp nd).2.2 q z q (by simp)
        exact this rfl
       have nqC:q≠C:=λz=>nC (by rw[<-z];simp)
       have dl:=wo.ln d (by simp)
       refine gq ?_;refine⟨_,rfl,_,rfl,C,_,_,.ref q,rfl,rfl,SqL.of (s3 _ _ hCl),?_,.inl ⟨rfl,_,SqL.of (s3 _ _ hq)⟩,_,rfl,q,_,_,rfl,rfl,s3 _ _ hq,(by rw[da];omega),?_⟩
       ·rw[tu];exact qE
       ·have hHq:H q=none:=hn q (by simp)
        refine⟨_,qs++[q],ds++[d++[x]],rfl,(s2.trans s3).own hHq,?_,?_,nd,nC,hn,?_,wo.word hx⟩
        ·exact(av (aiD nqC)).trans (s3 _ _ hCl)
        ·refine WAt.snoc (WAt.upd nqs (hWd.same s3)) ?_;rw[ae,tu];rfl
        ·rw[<-ecl,dr]
         conv=>rhs;rw[clausesOf]
         rw[if_neg e',if_neg (by simp)]
         simp
      ·have hcs:cs=[]:=by simpa using hb
       refine(h2 ?_).same (s2.trans s3);unfold readText;rw[<-ecl,hcs,dr,clausesOf,if_neg e',if_pos rfl];rfl
  ·rintro σ H2 ⟨v2,ps,cs,rfl,s2,hCl,hW,nd,nC,hn,ecl,wo⟩;rw[da,List.drop_length]at ecl;have ecs:clausesOf [] ws=some cs:=ecl.symm;rw[da]at wo;have pl:=hW.len;have cl:=wo.cl;refine⟨_,rfl,C,rfl,⟨_,SqL.of hCl⟩,λD hD=>?_⟩
   have nCD:C≠D:=aC hCl hD;refine HQ (K:=K) (a:=C) (xs:=ps.map V.ref) (λi ys H3=>ys=((cs.take i).map (km bl1)).map V.str/\(cs.take i).all (λc=>c.all du)=true/\aZ H2 H3/\H3 D=some (.lst ys))
    ⟨rfl,rfl,aI hD,ae⟩ (by rw[da];omega) ?_ ?_ ?_
   ·rintro i ys H3 hi ⟨rfl,_,s3,h3⟩;rw[da]at hi;exact⟨SqL.of (s3 _ _ hCl),h3,by simp;omega⟩
   ·rintro i y ys H3 hi ⟨rfl,al,s3,h3⟩;rw[aiY]at hi;cases hp:ps[i]? with
    |none=>rw[hp]at hi;cases hi
    |some p =>
     refine aT λGq gq=>?_
     rw[hp]at hi;obtain rfl:V.ref p=y:=aix hi;obtain⟨c,hc,hpc⟩:=hW.get hp;have cm:=aiK hc;have co:kW c:=⟨by have:=wo.ln c cm;have:=wo.sm c cm;have:=o.sz;rw[ajl]at *;omega,λw hw=>o.asc w (wo.mm c cm w hw)⟩
     refine gq ?_;refine⟨_,rfl,p,c,rfl,SqL.of (s3 _ _ hpc),co,λok H4 s4=>?_,λbad=>(h2 ?_).same (s2.trans s3)⟩
     ·refine fB.mk (by rw[da];exact(List.getElem?_eq_some_iff.mp hp).1) (s4 _ _ h3) ⟨?_,?_,(s3.trans s4).own hD,ae⟩
      ·rw[aj0,hc];simp
      ·rw[aj0,hc,List.all_append,al];simp[ok]
     ·unfold readText;rw[ecs];refine if_neg λz=>?_
      have:=List.all_eq_true.mp z c cm;rw[bad]at this;cases this
   ·rintro ys H3 ⟨rfl,al,s3,h3⟩;rw[da,pl,ajl]at al h3;refine h1 cs ?_ D H3 (s2.trans s3) (s2.free hD) h3;unfold readText;rw[ecs];exact if_pos al
end
end R
namespace R
theorem DP {α:Type}{b c:α}{r:List α}:atI (b::c::r) 1=some c:=by
 unfold atI ixN;rw[if_pos (by decide),if_pos (by rw[ku,ku];omega)]
 rfl
theorem E5 (k a b:Str):inV (.str k) [.str a,.str b]=decide (k=a\/k=b):=by
 have e:∀x y:Str,eqV (.str x) (.str y)=decide (y=x):=λx y=>by
  show (x == y)=_;rw[ajb];simp;exact⟨λh=>h.symm,λh=>h.symm⟩
 unfold inV;simp only[aj2,List.any_nil,e,Bool.or_false];rw[ajb];simp
theorem KU:kn 0≠kn 1/\kn 2≠kn 1/\kn 0≠kn 2:=by trivial
def Q8 (K:bo)(A:Adr):Sp:=λvs H Q E=>∃(a:Addr) (ws:List Str),vs=[.ref a]/\SqL K H a (ws.map V.str)/\kW ws /\
 (∀k i th,hU ws=some (k,i,th)->∀t H',aZ H H'->H t=none->H' t=some (.tup (edR k i (km bl1 th)))->Q (.ref t) H')/\(hU ws=none->A2 A 1 E H)
def Q9 (K:bo)(A:Adr):Sp:=λvs H Q E=>∃(a:Addr) (ws:List Str),vs=[.ref a]/\SqL K H a (ws.map V.str)/\kW ws /\
 (∀k i th,j4 ws=some (k,i,th)->∀t H',aZ H H'->H t=none->H' t=some (.tup (edR k i (km bl1 th)))->Q (.ref t) H')/\(j4 ws=none->A2 A 1 E H)
def VD (K:bo)(A:Adr):Sp:=λvs H Q E=>∃(a:Addr) (ws:List Str),vs=[.ref a]/\SqL K H a (ws.map V.str)/\kW ws /\
 (∀n,sY ws=some n->∀H',aZ H H'->Q (.int n) H')/\(sY ws=none->A2 A 1 E H)
def KW (K:bo)(A:Adr):Sp:=λvs H Q E=>∃(z:Str),vs=[.str z]/\z.length<=50000/\Asc z /\
 (∀d,cA (Txt.split z bl1)=some d->∀t H',aZ H H'->H t=none->eF H H' d t->Q (.ref t) H')/\(cA (Txt.split z bl1)=none->A2 A 1 E H)
theorem agF (a b:V)(r:List V):nv (a::b::r) (some 2) none=r:=by
 rw[show (2:Int)=((2:Nat):Int) from rfl,uU]
 rfl
theorem agG (a:V)(r:List V):nv (a::r) (some 1) none=r:=by
 rw[show (1:Int)=((1:Nat):Int) from rfl,uU]
 rfl
section
variable{P:kx}{w:World}{K:bo}{mg:Str->Option Value}{base:Heap}{A:Adr}
theorem vD (T:Txt w.params K mg A):FnOk P w K mg base (CXX P w) 5 A.wq A.pM ["words"] (Q8 K A):=by
 have jy:FnOk P w K mg base (CXX P w) 3 A.u6 A.lV ["holds"] (xa A):=gI T;refine T.m7.okX lh (λvs H Q E h=>?_) (λcdv A' outer s H vs Q E hr h=>?_)
 ·obtain⟨a,ws,rfl,_⟩:=h;rfl
 ·obtain⟨a,ws,rfl,hS,o,h1,h2⟩:=h;have ir:Room 3 _:=hr.mono (by decide)
  have Bs:=hr.units;refine⟨_,(au (cf (bB jy ir rfl T.dQ T.dA.kp T.dP (pax (aa (cF R3 (bK dM (by rfl) T.oN j8 (aa (pv 0) ag)) aj (aJ _)) ag))))
 (au (psx (bg (i:=1) lh.nd rfl (aiF rfl) (aW bx (pv 0) aj (λ_ _=>rfl))))
 (au (CN (i:=2) lh.nd rfl (aiF rfl) (bB (mx T) hr rfl T.fY T.eK.kp T.fX (pax (aa (aW bx (pv 0) aj (λ_ _=>rfl)) ag))))
 (au (psx (bg (i:=3) lh.nd rfl (aiF rfl) (lP sC (pv 0) (mS aj) sy)))
 (au (dE (aO bD (pv 1) aq (aJ _))
 (au (cf (bB jy ir rfl T.dQ T.dA.kp T.dP (pax (aa (cF (HI Bs) (pv 3) (dS ag) (aJ _)) ag))))
 (aL (psx (aG (cZ (aa aq (aa (pv 2) ag)))))))
 (mQ aN))
 (au (cf (bB jy ir rfl T.dQ T.dA.kp T.dP (pax (aa (cF vU (pv 1) (cZ (aa aq (aa aq ag))) rfl) ag))))
 (aL (gK (mX (cC (px (pv 1)) (cC (px (pv 2)) (cC (bB (my T) hr rfl T.jM T.g7.kp T.jL (pax (aa (pv 3) ag))) kZ)))))))))))),?_⟩
  try dsimp only[bI]
  have sz:gc=16777216:=by decide
  have ol:=o.len;refine⟨_,rfl,a,_,rfl,.inl hS,_,_,rfl,rfl,_,rfl,λhb=>?_,λhb=>h2 ?_⟩
  rotate_left
  ·have hb':=of_decide_eq_false hb;rw[da]at hb'
   match ws,hb' with
   |[],_=>rfl
   |[_],_=>rfl
   |_::_::r,h=>exact absurd (show (2:Int)<=((_::_::r).length:Int) by rw[ku,ku];omega) h
  refine aT λGq gq=>?_
  have hb':=of_decide_eq_true hb;rw[da]at hb';obtain⟨k,p,th,rfl⟩:∃k p th,ws=k::p::th:=by
   match ws,hb' with
   |[],h=>exact absurd h (by decide)
   |[_],h=>exact absurd h (by simp)
   |k::p::r,_=>exact⟨k,p,r,rfl⟩
  refine gq ?_;refine ixv rfl hS o8 ?_;refine⟨_,rfl,a,_,_,.str p,rfl,rfl,hS,DP,p,rfl,o.wl (by simp),λhn H2 s2=>?_,λhn=>h2 ?_⟩
  rotate_left
  ·show (if dN p=true then _ else none)=none
   rw[hn];rfl
  refine⟨_,rfl,_,rfl,a,_,rfl,s2.seq hS,λtp htp=>?_⟩
  have s3:aZ H2 (upd H2 tp (.lst (nv (List.map V.str (k::p::th)) (some 2) none))):=aI htp;have e2:nv (List.map V.str (k::p::th)) (some 2) none=th.map V.str:=agF _ _ _;rw[e2]at s3 ⊢;have oth:kW th:=o.drop 2;have aiv:=oth.len;have hth:upd H2 tp (.lst (th.map V.str)) tp=some (.lst (th.map V.str)):=ae;generalize upd H2 tp (.lst (th.map V.str))=H3 at s3 hth ⊢;have s13:=s2.trans s3;have rE:hU (k::p::th)=if k=kn 1 then (if th=[] then some (1,j3 p,[]) else none) else if (k=kn 0\/k=kn 2)/\th.all du=true then some (if k=kn 0 then 0 else 2,j3 p,th) else none:=by
   show (if dN p=true then _ else none)=_
   rw[if_pos hn]
  refine⟨_,rfl,rfl,_,rfl,gU (λe=>?_) (λe=>?_)⟩
  ·have ek:k=kn 1:=by injection of_decide_eq_true e
   rw[if_pos ek]at rE;refine⟨_,rfl,aiW _,λq hq=>?_⟩
   have s4:aZ H3 (upd H3 q (.lst [])):=aI hq;refine⟨.list (th.map aja),.list [],pH (s4.seq (SqL.of hth)),?_,xw λw hw=>(oth.asc w hw).ok,by trivial,?_⟩
   ·unfold DV;exact⟨q,[],rfl,SqL.of ae,by unfold DVs;rfl⟩
   ·rw[strs_nil];refine⟨_,rfl,λhb=>?_,λhb=>?_⟩
    ·have ht:=of_decide_eq_true hb;rw[if_pos ht]at rE;refine⟨_,rfl,(by show 2<=gc;decide),λt ht2=>h1 _ _ _ rE t _ ((s13.trans s4).new ht2) ((s13.trans s4).free ht2) ae⟩
    ·rw[if_neg (of_decide_eq_false hb)]at rE;exact(h2 rE).same (s13.trans s4)
  ·have ek:¬k=kn 1:=λz=>e (decide_eq_true (congrArg V.str z))
   rw[if_neg ek]at rE;refine⟨_,rfl,(by show 2<=gc;decide),λq hq=>?_⟩
   have s4:aZ H3 (upd H3 q (.tup [.str (ar "put"),.str (ar "turn")])):=aI hq;refine⟨q,_,rfl,.inr (SqT.of ae),rfl,rfl,?_⟩;refine⟨_,rfl,λhb=>?_,λhb=>?_⟩
   ·have hb':inV (.str k) [.str (ar "put"),.str (ar "turn")]=true:=hb;rw[E5]at hb';have hk:k=kn 0\/k=kn 2:=of_decide_eq_true hb';refine⟨_,rfl,_,rfl,_,rfl,tp,th,rfl,SqL.of (s4 _ _ hth),oth,λok H5 s5=>?_,λbad=>?_⟩
    ·rw[if_pos ⟨hk,ok⟩]at rE;refine⟨(by show 3<=gc;decide),λt ht=>h1 _ _ _ rE t _ (((s13.trans s4).trans s5).new ht) (((s13.trans s4).trans s5).free ht) ?_⟩
     rw[ae];rcases hk with rfl | rfl
     ·rfl
     ·rw[if_neg (aiD KU.2.2)];rfl
    ·rw[if_neg (λz=>by rw[z.2]at bad;cases bad)]at rE
     exact(h2 rE).same (s13.trans s4)
   ·have hb':inV (.str k) [.str (ar "put"),.str (ar "turn")]=false:=hb;rw[E5]at hb';rw[if_neg (λz=>(of_decide_eq_false hb') z.1)]at rE
    exact(h2 rE).same (s13.trans s4)
theorem DQ (T:Txt w.params K mg A):FnOk P w K mg base (CXX P w) 6 A.wu A.pN ["words"] (Q9 K A):=by
 refine T.qV.okX u0 (λvs H Q E h=>?_) (λcdv A' outer s H vs Q E hr h=>?_)
 ·obtain⟨a,ws,rfl,_⟩:=h;rfl
 ·obtain⟨a,ws,rfl,hS,o,h1,h2⟩:=h;refine⟨_,(au (CN (i:=1) u0.nd rfl (aiF rfl) (bB (vD T) hr rfl T.qU T.m7.kp T.qT (pax (aa (pv 0) ag))))
 (au (cf (bB (gI T) (hr.mono (by decide)) rfl T.dQ T.dA.kp T.dP (pax (aa (MJ (cF bD (aW bE (pv 1) aj (λ_ _=>rfl)) aq (aJ _)) (lO (cF bD (bK dM (by rfl) T.oN j8 (aa (pv 0) ag)) aj (aJ _)))) ag))))
 (aL (psx (aG (pv 1)))))),?_⟩
  try dsimp only[bI]
  refine⟨_,rfl,a,ws,rfl,hS,o,λk i th re t H2 s2 nt ht=>?_,λhn=>h2 (by unfold j4;rw[hn];rfl)⟩
  have rm:j4 ws=if k=1\/ws.length=3 then some (k,i,th) else none:=by unfold j4;rw[re];rfl
  refine ixv rfl (SqT.of ht) (DF k i _) ⟨rfl,_,rfl,?_⟩;have kk:(V.str (kn k)=V.str (ar "cut"))↔k=1:=by
   refine wR ?_
   match ws,re with
   |x::p::r,re =>
    by_cases hp:dN p=true
    ·have re':=re;simp only[hU,if_pos hp]at re';split at re'
     ·split at re'
      ·simp at re';omega
      ·cases re'
     ·split at re'
      ·simp only[Option.some.injEq,ake]at re';rw[<-re'.1];split <;> simp
      ·cases re'
    ·simp only[hU,if_neg hp]at re;cases re
  by_cases hk:k=1
  ·rw[decide_eq_true (kk.mpr hk)];refine gS ⟨true,rfl,λ_=>?_,λz=>nomatch z⟩
   rw[if_pos (.inl hk)]at rm;exact⟨_,rfl,h1 _ _ _ rm t H2 s2 nt ht⟩
  ·rw[decide_eq_false λz=>hk (kk.mp z)]
   refine eu ⟨_,rfl,a,_,rfl,.inl (s2.seq hS),rfl,_,rfl,λhb=>?_,λhb=>?_⟩
   ·have hl:ws.length=3:=by
     have:=of_decide_eq_true hb;rw[da]at this;injection this with this
     omega
    rw[if_pos (.inr hl)]at rm;exact⟨_,rfl,h1 _ _ _ rm t H2 s2 nt ht⟩
   ·have hl:¬ws.length=3:=λz=>by
     refine of_decide_eq_false hb ?_;rw[da,z];rfl
    rw[if_neg (by rintro (z | z);exact hk z;exact hl z)]at rm
    exact(h2 rm).same s2
theorem yl (T:Txt w.params K mg A):FnOk P w K mg base (CXX P w) 5 A.pO A.kh ["words"] (VD K A):=by
 refine T.lZ.okX qi (λvs H Q E h=>?_) (λcdv A' outer s H vs Q E hr h=>?_)
 ·obtain⟨a,ws,rfl,_⟩:=h;rfl
 ·obtain⟨a,ws,rfl,hS,o,h1,h2⟩:=h;refine⟨_,(au (cf (bB (gI T) (hr.mono (by decide)) rfl T.dQ T.dA.kp T.dP (pax (aa (pE (cF bD (bK dM (by rfl) T.oN j8 (aa (pv 0) ag)) aj (aJ _)) (lO (cF bD (aW bx (pv 0) aj (λ_ _=>rfl)) aq (aJ _)))) ag))))
 (au (CN (i:=1) qi.nd rfl (aiF rfl) (bB (mx T) hr rfl T.fY T.eK.kp T.fX (pax (aa (aW bx (pv 0) aj (λ_ _=>rfl)) ag))))
 (au (cf (bB (gI T) (hr.mono (by decide)) rfl T.dQ T.dA.kp T.dP (pax (aa (uO xn xn aj (pv 1) (eP (v:=V.int 999999999) rfl T.rj ⟨_,rfl⟩)) ag))))
 (aL (psx (aG (pv 1))))))),?_⟩
  try dsimp only[bI]
  refine⟨_,rfl,a,_,rfl,.inl hS,rfl,_,rfl,?_⟩;rw[da]
  by_cases hl:ws.length=2
  ·obtain⟨x,n,rfl⟩:∃x n,ws=[x,n]:=by
    match ws,hl with
    |[x,n],_=>exact⟨x,n,rfl⟩
   refine gS ⟨_,rfl,a,_,_,.str x,rfl,rfl,hS,o8,rfl,_,rfl,λhb=>?_,λhb=>?_⟩
   ·have hx:x=ar "off":=by injection of_decide_eq_true hb
    refine⟨_,rfl,a,_,_,.str n,rfl,rfl,hS,DP,n,rfl,o.wl (by simp),λhn H2 s2=>?_,λhn=>h2 ?_⟩
    ·refine⟨_,rfl,_,_,rfl,rfl,_,rfl,?_⟩
     by_cases b1:1<=j3 n
     ·rw[decide_eq_true b1];refine gS ⟨_,_,rfl,rfl,_,rfl,λb2=>?_,λb2=>?_⟩
      ·exact⟨_,rfl,h1 _ (if_pos ⟨hx,hn,b1,of_decide_eq_true b2⟩) H2 s2⟩
      ·exact(h2 (if_neg λz=>of_decide_eq_false b2 z.2.2.2)).same s2
     ·rw[decide_eq_false b1];exact eu ⟨false,rfl,(λz=>nomatch z),λ_=>(h2 (if_neg λz=>b1 z.2.2.1)).same s2⟩
    ·exact if_neg λz=>by rw[z.2.1]at hn;cases hn
   ·exact h2 (if_neg λz=>of_decide_eq_false hb (congrArg V.str z.1))
  ·rw[decide_eq_false (show ¬V.int (ws.length:Int)=V.int 2 from λz=>hl (by injection z with z;omega))]
   refine eu ⟨false,rfl,(λz=>nomatch z),λ_=>h2 ?_⟩
   match ws,hl with
   |[],_=>rfl
   |[_],_=>rfl
   |[_,_],h=>exact absurd rfl h
   |_::_::_::_,_=>rfl
end
theorem E6 (c:Nat):∀ws:List Str,ws≠[]->(ws.map (·.length)).sum+ws.length=(km ⟨#[c]⟩ ws).length+1
 |[],h=>absurd rfl h
 |[x],_=>by show _=x.length+1;simp
 |x::y::r,_=>by
  have ih:=E6 c (y::r) (aiO _ _);have e:(km ⟨#[c]⟩ (x::y::r)).length=x.length+1+(km ⟨#[c]⟩ (y::r)).length:=by
   have:=congrArg List.length (gk c x y r);rw[ki,ku,p6,p6,p6]at this;omega
  simp only[ra,List.sum_cons,ku]at ih ⊢;omega
theorem Cp (c:Nat):∀ws:List Str,Asc (km ⟨#[c]⟩ ws)->∀w∈ws,Asc w
 |[],_,_,h=>nomatch h
 |[x],h,w,hw=>by rw[List.mem_singleton.mp hw];exact h
 |x::y::r,h,w,hw=>by
  have e:=gk c x y r;rcases List.mem_cons.mp hw with rfl | hw
  ·exactλd hd=>h d (by rw[e];exact aiJ _ hd)
  ·exact Cp c (y::r) (λd hd=>h d (by rw[e];exact ka _ (kj _ hd))) w hw
theorem VE {z:Str}(h:z.length<=50000)(ha:Asc z):kW (Txt.split z bl1):=by
 have e:km ⟨#[32]⟩ (Txt.split z ⟨#[32]⟩)=z:=StrLaws.join_split _ _;rw[jt];have s:=E6 32 _ (zH z ⟨#[32]⟩);rw[e]at s;exact⟨by omega,Cp 32 _ (by rw[e];exact ha)⟩
theorem E7 (k:Str):inV (.str k) [.str (ar "close"),.str (ar "lay"),.str (ar "rest"),.str (ar "drop")]=decide (k∈LP):=by
 have e:∀x y:Str,eqV (.str x) (.str y)=decide (y=x):=λx y=>by
  show (x == y)=_;rw[ajb];simp;exact⟨λh=>h.symm,λh=>h.symm⟩
 unfold inV;simp only[aj2,List.any_nil,e,Bool.or_false];rw[ajb];simp[LP]
theorem uk {a b:Str}(h:¬decide (V.str a=V.str b)=true):¬a=b:=λz=>h (decide_eq_true (congrArg V.str z))
theorem um {a b:Str}(h:decide (V.str a=V.str b)=true):a=b:=by injection of_decide_eq_true h
section
variable{P:kx}{w:World}{K:bo}{mg:Str->Option Value}{base:Heap}{A:Adr}
theorem DR (T:Txt w.params K mg A):FnOk P w K mg base (CXX P w) 7 A.sN A.lu ["row"] (KW K A):=by
 have jy:FnOk P w K mg base (CXX P w) 3 A.u6 A.lV ["holds"] (xa A):=gI T;have nH:FnOk P w K mg base (CXX P w) 4 A.mZ A.iV ["word"] (OO A):=mx T;refine T.qY.okX lj (λvs H Q E h=>?_) (λcdv A' outer s H vs Q E hr h=>?_)
 ·obtain⟨z,rfl,_⟩:=h;rfl
 ·obtain⟨z,rfl,zl,za,h1,h2⟩:=h;have ir:Room 3 _:=hr.mono (by decide)
  have mz:Room 4 _:=hr.mono (by decide)
  have Bs:=hr.units;refine⟨_,(au (psx (bg (i:=1) lj.nd rfl (aiF rfl) (iP PySem.F.plainAttrs_str PySem.F.slot_str_split PySem.F.type_str_split Eg (pv 0) (aa aq ag))))
 (au (psx (bg (i:=2) lj.nd rfl (aiF rfl) (aW bx (pv 1) aj (λ_ _=>rfl))))
 (au (psx (bg (i:=3) lj.nd rfl (aiF rfl) (lP sC (pv 1) (mS aj) sy)))
 (au (dE (aO bD (pv 2) aq (aJ _))
 (aL (gK (mX (cC (px aq) (cC (bB (DO T) (hr.mono (by decide)) rfl T.xE T.qS.kp T.xD (pax (aa (pv 3) ag))) kZ)))))
 (mQ aN))
 (au (dE (aO bD (pv 2) aq (aJ _))
 (aL (gK (mX (cC (px aq) (cC (bB (vD T) (hr.mono (by decide)) rfl T.qU T.m7.kp T.qT (pax (aa (pv 3) ag))) kZ)))))
 (mQ aN))
 (au (dE (aO bD (pv 2) aq (aJ _))
 (aL (gK (mX (cC (px aq) (cC (bB (DQ T) hr rfl T.xG T.qV.kp T.xF (pax (aa (pv 3) ag))) kZ)))))
 (mQ aN))
 (au (dE (aO bD (pv 2) aq (aJ _))
 (aL (gK (mX (cC (px aq) (cC (bB (yl T) (hr.mono (by decide)) rfl T.qX T.lZ.kp T.qW (pax (aa (pv 3) ag))) kZ)))))
 (mQ aN))
 (au (dE (aO bD (pv 2) aq (aJ _))
 (aL (gK (mX (cC (px aq) (cC (bB (my T) (hr.mono (by decide)) rfl T.jM T.g7.kp T.jL (pax (aa (pv 3) ag))) kZ)))))
 (mQ aN))
 (au (dE (aO bD (pv 2) aq (aJ _))
 (au (cf (bB jy ir rfl T.dQ T.dA.kp T.dP (pax (aa (cF bD (bK dM (by rfl) T.oN j8 (aa (pv 3) ag)) aj (aJ _)) ag))))
 (aL (gK (mX (cC (px aq) (cC (bB nH mz rfl T.fY T.eK.kp T.fX (pax (aa (aW bx (pv 3) aj (λ_ _=>rfl)) ag))) (cC (bB nH mz rfl T.fY T.eK.kp T.fX (pax (aa (aW bx (pv 3) aj (λ_ _=>rfl)) ag))) kZ)))))))
 (mQ aN))
 (au (dE (aO bD (pv 2) aq (aJ _))
 (au (cf (bB jy ir rfl T.dQ T.dA.kp T.dP (pax (aa (cF bD (bK dM (by rfl) T.oN j8 (aa (pv 3) ag)) aj (aJ _)) ag))))
 (aL (gK (mX (cC (px aq) (cC (bB nH mz rfl T.fY T.eK.kp T.fX (pax (aa (aW bx (pv 3) aj (λ_ _=>rfl)) ag))) kZ))))))
 (mQ aN))
 (au (cf (bB jy ir rfl T.dQ T.dA.kp T.dP (pax (aa (pE (cF vU (pv 2) (eP (v:=V.ref A.qO) rfl T.N4 rfl) rfl) (lO (cF (HI Bs) (pv 3) (dS ag) (aJ _)))) ag))))
 (aL (psx (aG (cZ (aa (pv 2) ag)))))))))))))))),?_⟩
  try dsimp only[bI]
  have sz:gc=16777216:=by decide
  refine⟨_,rfl,rfl,z,bl1,rfl,rfl,by rw[jt];rfl,by omega,λW hW=>?_⟩
  have o:=VE zl za;have hsp:=zH z bl1;generalize Txt.split z bl1=sp at o hsp h1 h2 ⊢;refine aT λGq gq=>?_
  obtain⟨k,ws,rfl⟩:∃k ws,sp=k::ws:=by
   cases sp with
   |nil=>exact absurd rfl hsp
   |cons k ws=>exact⟨k,ws,rfl⟩
  have hWl:upd H W (.lst ((k::ws).map V.str)) W=some (.lst ((k::ws).map V.str)):=ae;have s1:aZ H (upd H W (.lst ((k::ws).map V.str))):=aI hW;refine gq ?_;generalize upd H W (.lst ((k::ws).map V.str))=H1 at hWl s1 ⊢;refine⟨_,rfl,W,_,_,.str k,rfl,rfl,SqL.of hWl,o8,?_⟩;refine⟨_,rfl,_,rfl,W,_,rfl,SqL.of hWl,λB hB=>?_⟩
  have e1:nv (List.map V.str (k::ws)) (some 1) none=ws.map V.str:=agG _ _;rw[e1];have s2:aZ H1 (upd H1 B (.lst (ws.map V.str))):=aI hB;have hBl:upd H1 B (.lst (ws.map V.str)) B=some (.lst (ws.map V.str)):=ae;generalize upd H1 B (.lst (ws.map V.str))=H2 at s2 hBl ⊢;have s12:=s1.trans s2;have hB':SqL K H2 B (ws.map V.str):=SqL.of hBl;have ow:kW ws:=o.drop 1;have owl:=ow.len;have R:cA (k::ws)=_:=rfl;refine⟨_,rfl,rfl,_,rfl,gU (λe=>?_) (λe=>?_)⟩
  ·have R':cA (k::ws)=(readText ws).map .mat:=by rw[cA,if_pos (um e)]
   refine⟨_,rfl,B,ws,rfl,hB',ow,λcs ec L H3 s3 nL hL=>⟨(by show 2<=gc;decide),λt ht=>?_⟩,λen=>(h2 (by rw[R',en];rfl)).same s12⟩
   have nLt:L≠t:=aC hL ht;exact h1 (.mat cs) (by rw[R',ec];rfl) t _ ((s12.trans s3).new ht) (s12.free (s3.free ht)) ⟨L,ae,s12.free nL,(av nLt).trans hL⟩
  have n1:=uk e;refine⟨_,rfl,rfl,_,rfl,gU (λe=>?_) (λe=>?_)⟩
  ·have R':cA (k::ws)=(hU ws).map λe=>.ed false e.1 e.2.1 e.2.2:=by rw[cA,if_neg n1,if_pos (um e)]
   refine⟨_,rfl,B,ws,rfl,hB',ow,λkk i th ec ta H3 s3 nta hta=>⟨(by show 2<=gc;decide),λt ht=>?_⟩,λen=>(h2 (by rw[R',en];rfl)).same s12⟩
   have nLt:ta≠t:=aC hta ht;exact h1 (.ed false kk i th) (by rw[R',ec];rfl) t _ ((s12.trans s3).new ht) (s12.free (s3.free ht)) ⟨ta,ae,s12.free nta,(av nLt).trans hta⟩
  have n2:=uk e;refine⟨_,rfl,rfl,_,rfl,gU (λe=>?_) (λe=>?_)⟩
  ·have R':cA (k::ws)=(j4 ws).map λe=>.ed true e.1 e.2.1 e.2.2:=by rw[cA,if_neg n1,if_neg n2,if_pos (um e)]
   refine⟨_,rfl,B,ws,rfl,hB',ow,λkk i th ec ta H3 s3 nta hta=>⟨(by show 2<=gc;decide),λt ht=>?_⟩,λen=>(h2 (by rw[R',en];rfl)).same s12⟩
   have nLt:ta≠t:=aC hta ht;exact h1 (.ed true kk i th) (by rw[R',ec];rfl) t _ ((s12.trans s3).new ht) (s12.free (s3.free ht)) ⟨ta,ae,s12.free nta,(av nLt).trans hta⟩
  have n3:=uk e;refine⟨_,rfl,rfl,_,rfl,gU (λe=>?_) (λe=>?_)⟩
  ·have R':cA (k::ws)=(sY ws).map λn=>.nums (ar "put off") [n]:=by rw[cA,if_neg n1,if_neg n2,if_neg n3,if_pos (um e)]
   refine⟨_,rfl,B,ws,rfl,hB',ow,λn ec H3 s3=>⟨(by show 2<=gc;decide),λt ht=>?_⟩,λen=>(h2 (by rw[R',en];rfl)).same s12⟩
   exact h1 (.nums (ar "put off") [n]) (by rw[R',ec];rfl) t _ ((s12.trans s3).new ht) (s12.free (s3.free ht)) ae
  have n4:=uk e;refine⟨_,rfl,rfl,_,rfl,gU (λe=>?_) (λe=>?_)⟩
  ·have R':cA (k::ws)=if ws.all du=true then some (.pt ws) else none:=by rw[cA,if_neg n1,if_neg n2,if_neg n3,if_neg n4,if_pos (um e)]
   refine⟨_,rfl,B,ws,rfl,hB',ow,λok H3 s3=>⟨(by show 2<=gc;decide),λt ht=>?_⟩,λen=>(h2 (by rw[R',en];rfl)).same s12⟩
   exact h1 (.pt ws) (by rw[R',if_pos ok]) t _ ((s12.trans s3).new ht) (s12.free (s3.free ht)) ae
  have n5:=uk e;refine⟨_,rfl,rfl,_,rfl,gU (λe=>?_) (λe=>?_)⟩
  ·have R':cA (k::ws)=vB ws:=by rw[cA,if_neg n1,if_neg n2,if_neg n3,if_neg n4,if_neg n5,if_pos (um e)]
   refine⟨_,rfl,B,_,rfl,.inl hB',rfl,_,rfl,?_⟩;rw[da]
   by_cases hl:ws.length=2
   ·obtain⟨a,b,rfl⟩:∃x n,ws=[x,n]:=by
     match ws,hl with
     |[x,n],_=>exact⟨x,n,rfl⟩
    refine⟨λ_=>?_,λz=>nomatch z⟩
    have R2:cA [k,a,b]=if dN a=true/\dN b=true then some (.nums (ar "vote") [j3 a,j3 b]) else none:=R'
    refine⟨_,rfl,B,_,_,.str a,rfl,rfl,hB',o8,a,rfl,ow.wl (by simp),λha H3 s3=>?_,λha=>(h2 (by rw[R2,if_neg (λz=>by rw[z.1]at ha;cases ha)])).same s12⟩
    refine⟨_,rfl,B,_,_,.str b,rfl,rfl,s3.seq hB',DP,b,rfl,ow.wl (by simp),λhb H4 s4=>?_,λhb=>(h2 (by rw[R2,if_neg (λz=>by rw[z.2]at hb;cases hb)])).same (s12.trans s3)⟩
    refine⟨(by show 3<=gc;decide),λt ht=>?_⟩
    exact h1 (.nums (ar "vote") [j3 a,j3 b]) (by rw[R2,if_pos ⟨ha,hb⟩]) t _ (((s12.trans s3).trans s4).new ht) (s12.free (s3.free (s4.free ht))) ae
   ·rw[decide_eq_false (show ¬V.int (ws.length:Int)=V.int 2 from λz=>hl (by injection z with z;omega))]
    refine⟨(λz=>nomatch z),λ_=>(h2 ?_).same s12⟩
    rw[R']
    match ws,hl with
    |[],_=>rfl
    |[_],_=>rfl
    |[_,_],h=>exact absurd rfl h
    |_::_::_::_,_=>rfl
  have n6:=uk e;refine⟨_,rfl,rfl,_,rfl,gU (λe=>?_) (λe=>?_)⟩
  ·have R':cA (k::ws)=vC ws:=by rw[cA,if_neg n1,if_neg n2,if_neg n3,if_neg n4,if_neg n5,if_neg n6,if_pos (um e)]
   refine⟨_,rfl,B,_,rfl,.inl hB',rfl,_,rfl,?_⟩;rw[da]
   by_cases hl:ws.length=1
   ·obtain⟨a,rfl⟩:=List.length_eq_one_iff.mp hl;refine⟨λ_=>?_,λz=>nomatch z⟩
    have R2:cA [k,a]=if dN a=true then some (.nums (ar "take") [j3 a]) else none:=R'
    refine⟨_,rfl,B,_,_,.str a,rfl,rfl,hB',o8,a,rfl,ow.wl (by simp),λha H3 s3=>?_,λha=>(h2 (by rw[R2,if_neg (λz=>by rw[z]at ha;cases ha)])).same s12⟩
    refine⟨(by show 2<=gc;decide),λt ht=>?_⟩
    exact h1 (.nums (ar "take") [j3 a]) (by rw[R2,if_pos ha]) t _ ((s12.trans s3).new ht) (s12.free (s3.free ht)) ae
   ·rw[decide_eq_false (show ¬V.int (ws.length:Int)=V.int 1 from λz=>hl (by injection z with z;omega))]
    refine⟨(λz=>nomatch z),λ_=>(h2 ?_).same s12⟩
    rw[R']
    match ws,hl with
    |[],_=>rfl
    |[_],h=>exact absurd rfl h
    |_::_::_,_=>rfl
  have n7:=uk e;have R':cA (k::ws)=if k∈LP/\ws=[] then some (.nums k []) else none:=by rw[cA,if_neg n1,if_neg n2,if_neg n3,if_neg n4,if_neg n5,if_neg n6,if_neg n7]
  refine⟨_,rfl,A.qO,_,rfl,.inr (T.N5 _),rfl,rfl,_,rfl,?_⟩
  by_cases hk:k∈LP
  ·have hi:inV (.str k) [.str (ar "close"),.str (ar "lay"),.str (ar "rest"),.str (ar "drop")]=true:=by rw[E7];exact decide_eq_true hk
   refine Ek (show (if false=true then _ else inV (.str k) _)=true from hi) ?_
   refine⟨_,rfl,aiW _,λq hq=>?_⟩
   have s4:aZ H2 (upd H2 q (.lst [])):=aI hq;refine⟨.list (ws.map aja),.list [],pH (s4.seq hB'),?_,xw λw hw=>(ow.asc w hw).ok,by trivial,?_⟩
   ·unfold DV;exact⟨q,[],rfl,SqL.of ae,by unfold DVs;rfl⟩
   ·rw[strs_nil];refine⟨_,rfl,λhb=>?_,λhb=>?_⟩
    ·have hw:=of_decide_eq_true hb;refine⟨_,rfl,(by show 1<=gc;decide),λt ht=>?_⟩
     exact h1 (.nums k []) (by rw[R',if_pos ⟨hk,hw⟩]) t _ ((s12.trans s4).new ht) (s12.free (s4.free ht)) ae
    ·exact(h2 (by rw[R',if_neg (λz=>of_decide_eq_false hb z.2)])).same (s12.trans s4)
  ·have hi:inV (.str k) [.str (ar "close"),.str (ar "lay"),.str (ar "rest"),.str (ar "drop")]=false:=by rw[E7];exact decide_eq_false hk
   refine Kk (show (if false=true then _ else inV (.str k) _)=false from hi) ?_
   exact⟨false,rfl,(λz=>nomatch z),λ_=>(h2 (by rw[R',if_neg (λz=>hk z.1)])).same s12⟩
end
end R
namespace R
def KY:bT->Prop
 | .nums kd ns=>kd=ar "put off"->∀i∈ns,1<=i/\i<=999999999
 |_=>True
theorem VF {x:Str}(h:p0 x):du x=true:=by
 unfold du;rw[decide_eq_true h.l1,decide_eq_true h.l2,decide_eq_false h.ns];refine List.all_eq_true.mpr λc hc=>?_
 obtain⟨a,b,d⟩:=h.sgn c hc;unfold nj;rw[decide_eq_true a,decide_eq_true b,decide_eq_true d];rfl
theorem zt {ws:List Str}(h:∀w∈ws,p0 w):ws.all du=true:=List.all_eq_true.mpr λw hw=>VF (h w hw)
theorem E8:∀m:Nat,0 < m->∃c r,Nat.toDigits 10 m=c::r/\c≠'0':=by
 intro m
 induction m using Nat.strongRecOn with
 |_ m ih =>
  intro hm
  by_cases h:m < 10
  ·rw[Nat.toDigits_of_lt_base h];refine⟨_,_,rfl,?_⟩;have:∀d:Nat,d < 10->0 < d->Nat.digitChar d≠'0':=by decide
   exact this m h hm
  ·have hm2:m % 10 < 10:=Nat.mod_lt m (by decide)
   have t:Nat.toDigits 10 (m / 10)++Nat.toDigits 10 (m % 10)=Nat.toDigits 10 (10 * (m / 10)+m % 10):=Nat.toDigits_append_toDigits (by decide) (by omega) hm2
   rw[Nat.div_add_mod]at t;obtain⟨c,r,e,n⟩:=ih (m / 10) (by omega) (by omega)
   exact⟨c,r++Nat.toDigits 10 (m % 10),by rw[<-t,e];rfl,n⟩
theorem A3 {i:Int}(h0:0<=i)(h1:i < 10 ^ 10):dN (num i)=true/\j3 (num i)=i:=by
 have rd:=PySem.W.KIN.num_reads h0 h1;have hl:=DD h0 h1;obtain⟨m,rfl⟩:=Int.eq_ofNat_of_zero_le h0;have sg:=PySem.W.KIN.signs_num m;have hd:∀c∈(num ((m:Nat):Int)).cps.toList,nG c=true:=λc hc=>by
  have hc':c∈(Nat.toDigits 10 m).map Char.toNat:=by rw[<-sg];exact hc
  obtain⟨ch,hch,e⟩:=List.mem_map.mp hc';have r:=PyProof.Rows.digit_range (Nat.isDigit_of_mem_toDigits (by decide) (by decide) hch)
  rw[<-e];unfold nG;rw[decide_eq_true r.1,decide_eq_true r.2];rfl
 have hne:num ((m:Nat):Int)≠em:=λe=>by
  have e2:(num ((m:Nat):Int)).cps.toList=em.cps.toList:=congrArg (λz:Str=>z.cps.toList) e
  rw[show (num ((m:Nat):Int)).cps.toList=_ from sg,ER]at e2
  by_cases hm:0 < m
  ·obtain⟨c,r,e3,_⟩:=E8 m hm;rw[e3]at e2;cases e2
  ·obtain rfl:m=0:=by omega
   revert e2;decide
 refine⟨?_,by unfold j3;rw[show PySem.intText? (num ((m:Nat):Int))=_ from rd];rfl⟩
 unfold dN;rw[decide_eq_true hne,decide_eq_true hl,List.all_eq_true.mpr hd]
 by_cases hm:0 < m
 ·obtain⟨c,r,e3,n⟩:=E8 m hm;have:¬(num ((m:Nat):Int)).cps.toList.head?=some 48:=λz=>by
   rw[show (num ((m:Nat):Int)).cps.toList=_ from sg,e3]at z
   have z':c.toNat=48:=by simpa using z
   exact n (Char.ext (UInt32.toNat_inj.mp z'))
  rw[decide_eq_false this];simp
 ·obtain rfl:m=0:=by omega
  have:num ((0:Nat):Int)=ar "0":=by trivial
  rw[decide_eq_true this];simp
def norm:bT->bT
 | .ed m k i ws=>.ed m k i (if k=1 then [] else ws)
 |d=>d
theorem OP (k:Nat)(i:Int)(ws:List Str):edR k i (km bl1 (if k=1 then [] else ws))=edR k i (km bl1 ws):=by
 unfold edR;split
 ·rfl
 ·rfl
theorem eF.norm {H H':Hp}{d:bT}{t:Addr}(h:eF H H' (norm d) t):eF H H' d t:=by
 cases d with
 |ed m k i ws =>
  obtain⟨e,a,n,b⟩:=h;exact⟨e,a,n,by rw[OP]at b;exact b⟩
 |_=>exact h
def DS:bT->List Str
 | .nums kd ns=>if kd=ar "put off" then ar "put"::ar "off"::ns.map num else kd::ns.map num
 |d=>nh d::fw d
theorem IM (d:bT):cz d=km bl1 (DS d):=by
 cases d with
 |nums kd ns =>
  show km bl1 (kd::ns.map num)=km bl1 (if kd=ar "put off" then _ else _)
  split
  ·rename_i h;rw[h];have e:ar "put off"=km bl1 [ar "put",ar "off"]:=by trivial
   rw[e];exact join_join bl1 [ar "put",ar "off"] (ns.map num) (aiO _ _)
  ·rfl
 |_=>rfl
theorem E9 {i:Int}(h0:0<=i)(h1:i < 10 ^ 10):32∉(num i).cps.toList:=λz=>by
 have:=(A3 h0 h1).1;simp only[dN,aiN]at this;have:=List.all_eq_true.mp this.2.2.1 32 z;revert this;decide
theorem Fb {d:bT}(o:DOk d):∀w∈DS d,32∉w.cps.toList:=by
 have lit:∀x∈([ar "matter",sl1,ar "mend",ar "change",kn 0,kn 1,kn 2,ar "point",ar "put",ar "off",ar "vote",ar "take",ar "close",ar "lay",ar "rest",ar "drop"]:List Str),32∉x.cps.toList:=by trivial
 cases d with
 |mat cs =>
  intro w hw;have hw':w∈ar "matter"::cs.flatMap (λws=>sl1::ws):=hw
  rcases List.mem_cons.mp hw' with rfl | hw'
  ·exact lit _ (by simp)
  ·obtain⟨ws,h1,h2⟩:=List.mem_flatMap.mp hw';rcases List.mem_cons.mp h2 with rfl | h2
   ·exact lit _ (by simp)
   ·exact((o.2 ws h1).wd w h2).free
 |ed m k i ws =>
  obtain⟨o1,⟨i0,i1⟩,o3,_⟩:=o;intro w hw;have hw':w∈kEd m::kn k::num i::(if k=1 then [] else ws):=hw
  rcases List.mem_cons.mp hw' with rfl | hw'
  ·cases m <;> exact lit _ (by simp[kEd])
  rcases List.mem_cons.mp hw' with rfl | hw'
  ·rcases o1 with rfl | rfl | rfl <;> exact lit _ (by simp)
  rcases List.mem_cons.mp hw' with rfl | hw'
  ·exact E9 i0 i1
  split at hw'
  ·cases hw'
  ·exact(o3.wd w hw').free
 |pt ws =>
  intro w hw;have hw':w∈ar "point"::ws:=hw;rcases List.mem_cons.mp hw' with rfl | hw'
  ·exact lit _ (by simp)
  ·exact(o.wd w hw').free
 |nums kd ns =>
  obtain⟨o1,o2⟩:=o;intro w hw;have nf:∀w∈ns.map num,32∉w.cps.toList:=λw hw=>by
   obtain⟨i,hi,rfl⟩:=List.mem_map.mp hw;exact E9 (o2 i hi).1 (o2 i hi).2
  have hw':w∈(if kd=ar "put off" then ar "put"::ar "off"::ns.map num else kd::ns.map num):=hw
  split at hw'
  ·rcases List.mem_cons.mp hw' with rfl | hw'
   ·exact lit _ (by simp)
   rcases List.mem_cons.mp hw' with rfl | hw'
   ·exact lit _ (by simp)
   ·exact nf w hw'
  ·rename_i hk;rcases List.mem_cons.mp hw' with rfl | hw'
   ·simp only[dJ,ajE,ajk,or_false,ake]at o1;rcases o1 with ⟨rfl,_⟩ | ⟨rfl,_⟩ | ⟨rfl,_⟩ | ⟨rfl,_⟩ | ⟨rfl,_⟩ | ⟨rfl,_⟩ | ⟨rfl,_⟩
    ·exact absurd rfl hk
    all_goals exact lit _ (by simp)
   ·exact nf w hw'
theorem Cq {d:bT}(o:DOk d):Txt.split (cz d) bl1=DS d:=by
 rw[IM,jt];refine zI ?_ (Fb o);cases d with
 |nums kd ns =>
  show (if kd=ar "put off" then _ else _)≠[]
  split <;> exact aiO _ _
 |_=>exact aiO _ _
theorem tI:∀(ws:List Str) (acc:List (List Str)) (c rest:List Str),(∀w∈ws,w≠sl1)->True->∀tl:List Str,clausesOf (acc++[c]) (ws++tl)=clausesOf (acc++[c++ws]) tl
 |[],acc,c,_,_,_,tl=>by simp
 |w::ws,acc,c,r,h,_,tl=>by
  show clausesOf (acc++[c]) (w::(ws++tl))=_;rw[clausesOf,if_neg (h w kb),if_neg (by simp)]
  have e1:(acc++[c]).dropLast=acc:=by simp
  have e2:(acc++[c]).getLastD []=c:=by simp
  rw[e1,e2,tI ws acc (c++[w]) r (λx hx=>h x (kj _ hx)) trivial tl]
  simp
theorem vE:∀(cs acc:List (List Str)),(∀ws∈cs,∀w∈ws,w≠sl1)->clausesOf acc (cs.flatMap λws=>sl1::ws)=some (acc++cs)
 |[],acc,_=>by simp[clausesOf]
 |ws::cs,acc,h=>by
  rw[List.flatMap_cons];show clausesOf acc (sl1::(ws++cs.flatMap λws=>sl1::ws))=_
  rw[clausesOf,if_pos rfl,tI ws acc [] [] (h ws kb) trivial,vE cs _ λx hx=>h x (kj _ hx)]
  simp
theorem LR {kd:Str}(h:kd∈LP)(r:¬kd=ar "matter"/\¬kd=ar "change"/\¬kd=ar "mend"/\¬kd=ar "put"/\¬kd=ar "point")
  (r2:¬kd=ar "vote"/\¬kd=ar "take"):cA [kd]=some (.nums kd []):=by
 rw[cA,if_neg r.1,if_neg r.2.1,if_neg r.2.2.1,if_neg r.2.2.2.1,if_neg r.2.2.2.2,if_neg r2.1,if_neg r2.2,if_pos ⟨h,rfl⟩]
theorem LS {d:bT}(o:DOk d)(so:KY d):cA (DS d)=some (norm d):=by
 have k1:¬ar "change"=ar "matter":=by trivial
 have k2:¬ar "mend"=ar "matter"/\¬ar "mend"=ar "change":=by trivial
 have k3:¬ar "put"=ar "matter"/\¬ar "put"=ar "change"/\¬ar "put"=ar "mend":=by trivial
 have k4:¬ar "point"=ar "matter"/\¬ar "point"=ar "change"/\¬ar "point"=ar "mend"/\¬ar "point"=ar "put":=by trivial
 have rest:∀kd∈([ar "vote",ar "take",ar "close",ar "lay",ar "rest",ar "drop"]:List Str),¬kd=ar "matter"/\¬kd=ar "change"/\¬kd=ar "mend"/\¬kd=ar "put"/\¬kd=ar "point":=by trivial
 cases d with
 |mat cs =>
  show cA (ar "matter"::cs.flatMap λws=>sl1::ws)=some (.mat cs)
  rw[cA,if_pos rfl];unfold readText;rw[vE cs [] λws hw w h=>((o.2 ws hw).wd w h).ns,ajC,if_pos]
  ·rfl
  ·exact List.all_eq_true.mpr λc hc=>zt (o.2 c (by simpa using hc)).wd
 |ed m k i ws =>
  obtain⟨o1,⟨i0,i1⟩,o3,o4⟩:=o;obtain⟨n1,n2⟩:=A3 i0 i1;have re:hU (kn k::num i::(if k=1 then [] else ws))=some (k,i,if k=1 then [] else ws):=by
   rw[hU,if_pos n1,n2];rcases o1 with rfl | rfl | rfl
   ·rw[if_neg KU.1,if_neg (show ¬(0=1) by decide),if_pos (show (kn 0=kn 0\/kn 0=kn 2)/\ws.all du=true from ⟨.inl rfl,zt o3.wd⟩),if_pos rfl]
   ·rw[if_pos rfl];rfl
   ·rw[if_neg KU.2.1,if_neg (show ¬(2=1) by decide),if_pos (show (kn 2=kn 0\/kn 2=kn 2)/\ws.all du=true from ⟨.inr rfl,zt o3.wd⟩),if_neg (aiD KU.2.2)]
  show cA (kEd m::kn k::num i::(if k=1 then [] else ws))=some (.ed m k i (if k=1 then [] else ws))
  cases m with
  |false =>
   show cA (ar "change"::_)=_;rw[cA,if_neg k1,if_pos rfl,re];rfl
  |true =>
   show cA (ar "mend"::_)=_;rw[cA,if_neg k2.1,if_neg k2.2,if_pos rfl];unfold j4;rw[re,ajC,if_pos]
   ·rfl
   ·by_cases hk:k=1
    ·exact .inl hk
    ·right;rw[if_neg hk];have:=o4 rfl;simp[this]
 |pt ws =>
  show cA (ar "point"::ws)=some (.pt ws);rw[cA,if_neg k4.1,if_neg k4.2.1,if_neg k4.2.2.1,if_neg k4.2.2.2,if_pos rfl,if_pos (zt o.wd)]
 |nums kd ns =>
  obtain⟨o1,o2⟩:=o;show cA (if kd=ar "put off" then ar "put"::ar "off"::ns.map num else kd::ns.map num)=some (.nums kd ns)
  simp only[dJ,ajE,ajk,or_false,ake]at o1;rcases o1 with ⟨rfl,hl⟩ | ⟨rfl,hl⟩ | ⟨rfl,hl⟩ | ⟨rfl,hl⟩ | ⟨rfl,hl⟩ | ⟨rfl,hl⟩ | ⟨rfl,hl⟩
  ·obtain⟨n,rfl⟩:=List.length_eq_one_iff.mp hl;obtain⟨b1,b2⟩:=A3 (o2 n (by simp)).1 (o2 n (by simp)).2
   obtain⟨s1,s2⟩:=so rfl n (by simp)
   rw[if_pos rfl,cA,if_neg k3.1,if_neg k3.2.1,if_neg k3.2.2,if_pos rfl];show (sY [ar "off",num n]).map _=_;rw[sY,b2,if_pos ⟨rfl,b1,s1,s2⟩];rfl
  ·obtain⟨a,b,rfl⟩:∃x n,ns=[x,n]:=by
    match ns,hl with
    |[x,n],_=>exact⟨x,n,rfl⟩
   obtain⟨b1,b2⟩:=A3 (o2 a (by simp)).1 (o2 a (by simp)).2
   obtain⟨c1,c2⟩:=A3 (o2 b (by simp)).1 (o2 b (by simp)).2
   obtain⟨r1,r2,r3,r4,r5⟩:=rest (ar "vote") (by simp)
   rw[if_neg (by trivial),cA,if_neg r1,if_neg r2,if_neg r3,if_neg r4,if_neg r5,if_pos rfl]
   show vB [num a,num b]=_;rw[vB,b2,c2,if_pos ⟨b1,c1⟩]
  ·obtain⟨n,rfl⟩:=List.length_eq_one_iff.mp hl;obtain⟨b1,b2⟩:=A3 (o2 n (by simp)).1 (o2 n (by simp)).2
   obtain⟨r1,r2,r3,r4,r5⟩:=rest (ar "take") (by simp)
   rw[if_neg (by trivial),cA,if_neg r1,if_neg r2,if_neg r3,if_neg r4,if_neg r5,if_neg (by trivial),if_pos rfl]
   show vC [num n]=_;rw[vC,b2,if_pos b1]
  all_goals
   obtain rfl:=List.length_eq_zero_iff.mp hl;rw[if_neg (by trivial)]
   exact LR (by trivial) (rest _ (by simp)) (by trivial)
theorem row_read {d:bT}(o:DOk d)(so:KY d):cA (Txt.split (cz d) bl1)=some (norm d):=by rw[Cq o,LS o so]
theorem A4 {d:bT}(o:DOk d):Asc (cz d):=by
 have e:=Cq o;have hne:∀w∈nh d::fw d,Asc w:=by
  have lit:∀x∈([ar "matter",sl1,ar "mend",ar "change",kn 0,kn 1,kn 2,ar "point",ar "put off",ar "vote",ar "take",ar "close",ar "lay",ar "rest",ar "drop"]:List Str),∀c∈x.cps.toList,c < 128:=by trivial
  have nf:∀ {i:Int},0<=i->i < 10 ^ 10->Asc (num i):=λh0 h1 c hc=>by
   have:=(A3 h0 h1).1;simp only[dN,aiN]at this;have:=List.all_eq_true.mp this.2.2.1 c hc;simp only[nG,aiN,decide_eq_true_iff]at this;omega
  cases d with
  |mat cs =>
   intro w hw;rcases List.mem_cons.mp hw with rfl | hw'
   ·exact lit _ (by simp[nh])
   ·obtain⟨ws,h1,h2⟩:=List.mem_flatMap.mp hw';rcases List.mem_cons.mp h2 with rfl | h2
    ·exact lit _ (by simp)
    ·exact((o.2 ws h1).wd w h2).asc
  |ed m k i ws =>
   obtain⟨o1,⟨i0,i1⟩,o3,_⟩:=o;intro w hw;have hw':w∈kEd m::kn k::num i::(if k=1 then [] else ws):=hw
   rcases List.mem_cons.mp hw' with rfl | hw'
   ·cases m <;> exact lit _ (by simp[kEd])
   rcases List.mem_cons.mp hw' with rfl | hw'
   ·rcases o1 with rfl | rfl | rfl <;> exact lit _ (by simp)
   rcases List.mem_cons.mp hw' with rfl | hw'
   ·exact nf i0 i1
   split at hw'
   ·cases hw'
   ·exact(o3.wd w hw').asc
  |pt ws =>
   intro w hw;rcases List.mem_cons.mp hw with rfl | hw'
   ·exact lit _ (by simp[nh])
   ·exact(o.wd w hw').asc
  |nums kd ns =>
   obtain⟨o1,o2⟩:=o;intro w hw;rcases List.mem_cons.mp hw with hk | hw'
   ·have o1':=o1;simp only[dJ,ajE,ajk,or_false,ake]at o1';rw[hk];show Asc kd;rcases o1' with ⟨rfl,_⟩ | ⟨rfl,_⟩ | ⟨rfl,_⟩ | ⟨rfl,_⟩ | ⟨rfl,_⟩ | ⟨rfl,_⟩ | ⟨rfl,_⟩ <;> exact lit _ (by simp)
   ·obtain⟨i,hi,rfl⟩:=List.mem_map.mp hw';exact nf (o2 i hi).1 (o2 i hi).2
 have hs:Asc bl1:=by
  rw[jt];intro c hc;have:c=32:=by simpa using hc
  omega
 exact l9 hs _ hne
end R
mutual
theorem DV.same {K:bo}{H H':Hp}(s:aZ H H'):∀(d:PyData) {x:V},DV K H d x->DV K H' d x
 | .none,_,h=>by unfold DV at h ⊢;exact h
 | .bool _,_,h=>by unfold DV at h ⊢;exact h
 | .int _,_,h=>by unfold DV at h ⊢;exact h
 | .str _,_,h=>by unfold DV at h ⊢;exact h
 | .list ds,_,h=>by
  unfold DV at h ⊢;obtain⟨a,xs,e,h1,h2⟩:=h;exact⟨a,xs,e,s.seq h1,DVs.same s ds h2⟩
 | .tuple ds,_,h=>by
  unfold DV at h ⊢;obtain⟨a,xs,e,h1,h2⟩:=h;exact⟨a,xs,e,eA s h1,DVs.same s ds h2⟩
 | .dict _,_,h=>by unfold DV at h;exact h.elim
theorem DVs.same {K:bo}{H H':Hp}(s:aZ H H'):∀(ds:List PyData) {xs:List V},DVs K H ds xs->DVs K H' ds xs
 |[],_,h=>by unfold DVs at h ⊢;exact h
 |d::ds,_,h=>by
  unfold DVs at h ⊢;obtain⟨x,r,e,h1,h2⟩:=h;exact⟨x,r,e,DV.same s d h1,DVs.same s ds h2⟩
end
theorem sZ {d:PyData}(h1:d.canLay0=true)(h2:d.depth<=64):SeqAt.shaped d=true:=by
 show (d.canLay0 && decide (d.depth<=64))=true;rw[h1,decide_eq_true h2];rfl
theorem Fc {tx:List Str}(h:∀x∈tx,aiZ x=true):(PyData.list (tx.map aja)).canLay0=true:=by
 simp only[aju];exact mU tx h
theorem OQ (tx:List Str):(PyData.list (tx.map aja)).depth<=10:=by
 have:=pI tx;simp only[ajZ];omega
def tJ (H H':Hp):R.bT->Addr->Prop
 | .mat cs,t=>∃L,H t=none/\H L=none/\H' t=some (.tup [.str (ar "matter"),.ref L])/\H' L=some (.lst ((cs.map (km R.bl1)).map V.str))
 | .ed m k j ws,t=>∃e,H t=none/\H e=none/\H' t=some (.tup [.str (R.kEd m),.ref e])/\H' e=some (.tup (R.edR k j (km R.bl1 ws)))
 | .pt ws,t=>H t=none/\H' t=some (.tup [.str (ar "point"),.str (km R.bl1 ws)])
 | .nums kd ns,t=>H t=none/\H' t=some (.tup (.str kd::ns.map V.int))
theorem tJ.c {i:Nat}{c:Col}{H H':Hp}{t:Addr}:∀ {d:R.bT},tJ H H' d t->ni i (eM c H) H' d t
 | .mat _,⟨L,h1,h2,h3,h4⟩=>⟨L,⟨by rw[fA h1];exact aS,h3⟩,by rw[fA h2];exact aS,h4⟩
 | .ed _ _ _ _,⟨e,h1,h2,h3,h4⟩=>⟨e,⟨by rw[fA h1];exact aS,h3⟩,fA h2,.inl h4⟩
 | .pt _,⟨h1,h2⟩=>⟨by rw[fA h1];exact aS,h2⟩
 | .nums _ _,⟨h1,h2⟩=>⟨by rw[fA h1];exact aS,h2⟩
theorem tJ.pre {H0 H H':Hp}(s:aZ H0 H){t:Addr}:∀ {d:R.bT},tJ H H' d t->tJ H0 H' d t
 | .mat _,⟨L,h1,h2,h3,h4⟩=>⟨L,same_none s h1,same_none s h2,h3,h4⟩
 | .ed _ _ _ _,⟨e,h1,h2,h3,h4⟩=>⟨e,same_none s h1,same_none s h2,h3,h4⟩
 | .pt _,⟨h1,h2⟩=>⟨same_none s h1,h2⟩
 | .nums _ _,⟨h1,h2⟩=>⟨same_none s h1,h2⟩
theorem OR (xs:List V)(k:Nat):nv xs none (some (k:Int))=xs.take k:=by
 unfold nv;rw[HT.uR,HT.Eb,List.drop_zero,Nat.sub_zero,<-List.take_eq_take_min]
theorem Ra {xs:List V}{lo hi:Option Int}{x:V}(h:x∈nv xs lo hi):x∈xs:=by
 unfold nv at h;exact ajI (ajG h)
def OS (K:bo):Sp:=λvs H Q _=>∃(a:Addr) (ns:List Int) (k:Int),vs=[.ref a,.int k]/\SqL K H a (ns.map V.int)/\0<=k/\∀z:Int,Q (.int z) H
theorem g9.up {n m:Nat}{ws:List Str}(h:R.g9 n ws)(l:n<=m):R.g9 m ws:=⟨rf h.len l,h.wd⟩
section
variable{P:kx}{w:World}{K:bo}{mg:Str->Option Value}{base:Heap}{A:Adr}
theorem xS (T:Txt w.params K mg A):FnOk P w K mg base CX0 1 A.Ak A.qN ["_law_cell","_law_many"] R.Om:=by
 refine T.pW.ok jR (λvs H Q E h=>?_) (λcdv A' outer s H vs Q E hr h=>?_)
 ·obtain⟨c,n,rfl,_⟩:=h;rfl
 ·obtain⟨c,n,rfl,h0,h1,k⟩:=h;refine⟨_,(ao (bg (i:=2) jR.nd rfl (aiF rfl) (dS ag))
 (ao (bg (i:=3) jR.nd rfl (aiF rfl) (bP eS (bP fZ (pv 0) aj) aj))
 (ao (Hr PassesOwn.never rfl (La rfl T.Ku (aa (bP eS (pv 1) aj) ag)) (pF (i:=4) jR.nd rfl (aiF rfl))
 (ao (bg (i:=3) jR.nd rfl (aiF rfl) (bP fZ (bP eS (bP eS (bP Ht (pv 3) (pv 3)) (bP Ht aj (pv 3))) (pv 4)) aj))
 (ai (bY (iP adm aiQ aiR d6 (pv 2) (aa (pv 3) ag))))))
 (ai (aG (lP sC (pv 2) (mS aj) sy)))))),?_⟩
  try dsimp only[bI]
  have sz:gc=16777216:=by decide
  refine⟨aiW _,λF hF=>?_⟩
  refine⟨_,rfl,_,_,rfl,rfl,(by show (0:Int) < 4294967311;decide),_,_,rfl,rfl,?_⟩
  refine⟨_,rfl,_,_,rfl,rfl,_,rfl,by omega,by omega,?_⟩
  refine Lc (lo:=0) (n:=(n+1).toNat) (λi σ H2=>∃(zs:List Int) (m:Int) (kv:Option V),σ=[some (.int c),some (.int n),some (.ref F),some (.int m),kv]/\H2 F=some (.lst (zs.map V.int))/\zs.length=i/\(∀z∈zs,0<=z/\z < 4294967311)/\0<=m/\m < 4295015582/\aZ H H2)
   ⟨[],_,_,rfl,ae,rfl,(λz hz=>nomatch hz),by omega,by omega,aI hF⟩ ?_ ?_
  ·rintro i σ H2 hi ⟨zs,m,kv,rfl,h2,hl,hz,m0,m1,s2⟩;refine⟨_,rfl,_,rfl,_,_,rfl,rfl,.inl ⟨by omega,by omega⟩,_,rfl,_,_,rfl,rfl,.inl ⟨by decide,by decide⟩,_,_,rfl,rfl,_,rfl,_,_,rfl,rfl,_,_,rfl,rfl,(by show (0:Int) < 4294967311;decide),?_⟩
   refine⟨_,rfl,.inl ⟨rfl,_,SqL.of h2⟩,_,rfl,F,_,_,rfl,rfl,h2,(by rw[da];omega),?_⟩
   have q0:0<=(m * m+69621 * m+(0+(i:Int))) % 4294967311:=Int.emod_nonneg _ (by decide)
   have q1:(m * m+69621 * m+(0+(i:Int))) % 4294967311 < 4294967311:=Int.emod_lt_of_pos _ (by decide)
   refine⟨zs++[(m * m+69621 * m+(0+(i:Int))) % 4294967311],_,_,rfl,?_,?_,λz h=>?_,q0,by omega,s2.own hF⟩
   ·rw[ae,tu];rfl
   ·rw[ki,hl];rfl
   ·rcases List.mem_append.mp h with h | h
    ·exact hz z h
    ·rw[List.mem_singleton.mp h];exact⟨q0,q1⟩
  ·rintro σ H2 ⟨zs,m,kv,rfl,h2,hl,hz,m0,m1,s2⟩;refine⟨_,rfl,_,rfl,F,_,rfl,SqL.of h2,λp hp=>?_⟩
   have e:nv (zs.map V.int) (some 1) none=(zs.drop 1).map V.int:=by
    rw[show (1:Int)=((1:Nat):Int) from rfl,uU,List.map_drop]
   rw[e];refine k (zs.drop 1) p _ (by rw[ajj];omega) (λz h=>hz z (ajI h)) (s2.new hp) (s2.free hp) ae
theorem vF (T:Txt w.params K mg A):FnOk P w K mg base CX0 1 A.wz A.pQ ["_law_script","_law_k"] (OS K):=by
 refine T.nc.ok C7 (λvs H Q E h=>?_) (λcdv A' outer s H vs Q E hr h=>?_)
 ·obtain⟨a,ns,k,rfl,_⟩:=h;rfl
 ·obtain⟨a,ns,k,rfl,hS,h0,q⟩:=h;refine⟨_,(ao (bX (aO zB (pv 1) (bK dM (by rfl) T.oN j8 (aa (pv 0) ag)) (aJ _))
 (ai (aG (aW bx (pv 0) (pv 1) (λ_ _=>rfl))))
 aN)
 (ai (aG aj))),?_⟩
  try dsimp only[bI]
  refine⟨_,rfl,_,rfl,a,_,rfl,.inl hS,_,_,rfl,rfl,_,rfl,gU (λe=>?_) (λ_=>q 0)⟩
  refine aT λGq gq=>?_
  have e':k < ((ns.map V.int).length:Int):=of_decide_eq_true e;rw[da]at e';obtain⟨c,hc,hm⟩:=R6 (xs:=ns.map V.int) (i:=k) (n:=ns.length) (da _) h0 e';obtain⟨z,_,rfl⟩:=List.mem_map.mp hm;refine gq ?_;exact⟨_,rfl,_,rfl,a,_,_,_,rfl,rfl,hS,hc,q z⟩
end
def xb (c:Col)(H:Hp)(t:Addr)(xs:List V):Prop:=c t=none/\H t=some (.tup xs)
def tK (c:Col)(H:Hp):R.bT->Addr->Prop
 | .mat cs,t=>∃L,xb c H t [.str (ar "matter"),.ref L]/\c L=none/\H L=some (.lst ((cs.map (km R.bl1)).map V.str))
 | .ed m k j ws,t=>∃e,xb c H t [.str (R.kEd m),.ref e]/\TupAt c H e (R.edR k j (km R.bl1 ws))
 | .pt ws,t=>xb c H t [.str (ar "point"),.str (km R.bl1 ws)]
 | .nums kd ns,t=>xb c H t (.str kd::ns.map V.int)
theorem xb.c {i:Nat}{c:Col}{H:Hp}{t:Addr}{xs:List V}(h:xb c H t xs):wZ i c H t xs:=⟨by rw[h.1];exact aS,h.2⟩
theorem xb.step {W:Option (Nat×Rl)->Prop}{c c':Col}{H H':Hp}{t:Addr}{xs:List V}(s:Step W c c' H H')(h:xb c H t xs):xb c' H' t xs:=KS s h.1 h.2
theorem tK.step {W:Option (Nat×Rl)->Prop}{c c':Col}{H H':Hp}{t:Addr}(s:Step W c c' H H'):∀ {d:R.bT},tK c H d t->tK c' H' d t
 | .mat _,⟨L,a,b1,b2⟩=>⟨L,a.step s,KS s b1 b2⟩
 | .ed _ _ _ _,⟨e,a,b⟩=>⟨e,a.step s,b.step s⟩
 | .pt _,h=>xb.step s h
 | .nums _ _,h=>xb.step s h
theorem tK.c {i:Nat}{c:Col}{H:Hp}{t:Addr}:∀ {d:R.bT},tK c H d t->ni i c H d t
 | .mat _,⟨L,a,b1,b2⟩=>⟨L,a.c,by rw[b1];exact aS,b2⟩
 | .ed _ _ _ _,⟨e,a,b⟩=>⟨e,a.c,b⟩
 | .pt _,h=>xb.c h
 | .nums _ _,h=>xb.c h
theorem tK.kind {c:Col}{H:Hp}{t:Addr}:∀ {d:R.bT},tK c H d t->∃xs,H t=some (.tup (.str (R.nh d)::xs))
 | .mat _,⟨_,a,_⟩=>⟨_,a.2⟩
 | .ed _ _ _ _,⟨_,a,_⟩=>⟨_,a.2⟩
 | .pt _,h=>⟨_,h.2⟩
 | .nums _ _,h=>⟨_,h.2⟩
theorem Cr {W:Option (Nat×Rl)->Prop}(n:¬W none){c c':Col}{H1 H2:Hp}{x dx:Addr}{o:HO}(hx:H1 x=none)(hdx:H1 dx=none)(hk:∀a v,(upd (upd H1 dx (.own x)) x o) a=some v->a≠x->H2 a=some v/\c' a=c a):Step W c c' H1 H2:=by
 have old:∀a v,H1 a=some v->H2 a=some v/\c' a=c a:=λa v h =>
  hk a v ((av (aC h hx)).trans ((av (aC h hdx)).trans h)) (aC h hx)
 exact⟨n,λa v h _=>(old a v h).1,λa v h=>⟨v,(old a v h).1⟩,λa v h _=>(old a v h).2⟩
section
variable{P:kx}{w:World}{K:bo}{mg:Str->Option Value}{base:Heap}{A:Adr}
theorem Xc.mat (T:Txt w.params K mg A){H:Hp}{C:Value}{d:Option Addr}:∀ {x:Xc},x.At A H C d->aiA K C (.ref A.bJ)=some true
 | .AR _,⟨e,_⟩=>by rw[e];exact T.jql
 | .vn _,⟨e,_⟩=>by rw[e];exact T.jqg
 | .Iy _,⟨e,_⟩=>by rw[e];exact T.jqm
 | .AS,⟨e,_⟩=>by rw[e];exact T.jqd
 | .noChange,⟨e,_⟩=>by rw[e];exact T.jqe
 | .noFit,⟨e,_⟩=>by rw[e];exact T.jqo
 | .nothing,⟨e,_⟩=>by rw[e];exact T.jqi
 | .tooMany,⟨e,_⟩=>by rw[e];exact T.jqj
 | .DH,⟨e,_⟩=>by rw[e];exact T.jqk
 | .EW,⟨e,_⟩=>by rw[e];exact T.jqf
end
def LU (A:Adr)(i:Nat):Sp:=λvs H Q _=>∃(o:Addr) (c:Col) (st:Ch),vs=[.ref o]/\eN A i c H o st/\∀l,H l=none->Q (.ref l) (upd H l (.lst (st.rows.map V.str)))
section
variable{P:kx}{w:World}{K:bo}{mg:Str->Option Value}{base:Heap}{A:Adr}
theorem A5 (T:Txt w.params K mg A){i:Nat}:FnOk P w K mg base CX0 1 A.b6 A.ig ["self"] (LU A i):=by
 refine T.eB.ok tT (λvs H Q E h=>?_) (λcdv A' outer s H vs Q E hr h=>?_)
 ·obtain⟨o,c,st,rfl,_⟩:=h;rfl
 ·obtain⟨o,c,st,rfl,hc,q⟩:=h;obtain⟨dx,aM,aP,aA,aD,aF,aE,aR,ms,ds,ws,fs,es,X⟩:=hc.ex;refine⟨_,(ai (aG (dv et (by rfl) T.pX mT (aa (bu (pv 0) rfl) ag)))),?_⟩
  try dsimp only[bI]
  exact gu rfl X.ob T.ah T.jqc rK ⟨aR,_,rfl,.inl (SqL.of X.rows.2),q⟩
end
def isX:Rs->Bool
 | .exc _=>true
 |_=>false
def o9 (d:R.bT):Prop:=vA d/\R.DOk d/\R.KY d
theorem IP (st:Ch)(m:Mn):(st.carry m).rows=st.rows:=by
 unfold Ch.carry;split
 ·split
  ·split <;> rfl
  ·rfl
 ·split
  ·split <;> rfl
  ·rfl
 ·split <;> rfl
 ·rfl
 ·split <;> rfl
 ·rfl
 ·rfl
theorem LV {st:Ch}{d:R.bT}(hd:vA d){x:Xc}(h:(cH st d).1=.exc x):(cH st d).2=st:=by
 cases hd with
 |LO =>
  rw[jv]at h ⊢;unfold oX at h ⊢;split
  ·rfl
  ·rename_i n hn;rw[hn]at h;dsimp only at h;split
   ·rfl
   ·rename_i z;rw[if_neg z]at h;cases h
 |drop =>
  rw[mw]at h ⊢;unfold qt at h ⊢;split
  ·rfl
  ·rename_i n hn;rw[hn]at h;cases h
 |take =>
  rw[jw]at h ⊢;unfold stepT at h ⊢;split
  ·rename_i hp;rw[if_pos hp]at h;split
   ·rfl
   ·rename_i y hy;rw[hy]at h;dsimp only at h;split
    ·rfl
    ·rename_i z;rw[if_neg z]at h;cases h
  ·rfl
 |move hm =>
  rw[jx hm]at h ⊢;unfold oZ at h ⊢;split
  ·rfl
  ·rename_i hc;rw[hc]at h;cases h
theorem OT {st:Ch}{d:R.bT}(hd:vA d)(h:isX (cH st d).1=true):(cH st d).2=st:=by
 cases e:(cH st d).1 with
 |exc x=>exact LV hd e
 |num n=>rw[e]at h;cases h
 |txt z=>rw[e]at h;cases h
theorem LW {st:Ch}{d:R.bT}(hd:vA d)(hn:R.DOk d)(h:isX (cH st d).1=false):(cH st d).2.rows=st.rows++[R.cz d]:=by
 cases hd with
 | @LO a b ha hb =>
  rw[jv]at h ⊢;unfold oX at h ⊢;cases e:st.aH.getLast? with
  |none=>rw[e]at h;cases h
  |some n =>
   rw[e]at h;dsimp only at h ⊢;split at h
   ·cases h
   ·rename_i hz;rw[if_neg hz];show (if _ then _ else _:Ch).rows++[_]=_
    congr 1
    split
    ·exact IP _ _
    ·rfl
 |drop =>
  rw[mw]at h ⊢;unfold qt at h ⊢;cases e:st.aH.getLast? with
  |none=>rw[e]at h;cases h
  |some n=>rfl
 | @take z z0 z1 =>
  have zp:0<=z:=(hn.2 z (by simp)).1
  rw[jw]at h ⊢;unfold stepT at h ⊢;split at h
  ·rename_i hp;rw[if_pos hp];cases e:at1 z.toNat st.aU with
   |none=>rw[e]at h;cases h
   |some x =>
    rw[e]at h;dsimp only at h ⊢;split at h
    ·cases h
    ·rename_i hs;rw[if_neg hs];show st.rows++[R.cz (.nums _ [((z.toNat:Nat):Int)])]=_;rw[Int.toNat_of_nonneg zp]
  ·cases h
 |move hm =>
  rw[jx hm]at h ⊢;unfold oZ at h ⊢;cases e:qb st (hG d) with
  |some x=>rw[e]at h;cases h
  |none=>rfl
def vG (n:Int)(ds:List R.bT):Ch:=ds.foldl (λst d=>(cH st d).2) (E4 n)
theorem Cs (n:Int)(ds:List R.bT)(d:R.bT):vG n (ds++[d])=(cH (vG n ds) d).2:=by
 unfold vG;rw[List.foldl_append];rfl
structure Rep (n:Int)(ds:List R.bT)(st:Ch):Prop where
 run:vG n ds=st
 ok:∀d∈ds,o9 d
 good:∀i d,ds[i]?=some d->isX (cH (vG n (ds.take i)) d).1=false
 rows:st.rows=ds.map R.cz
theorem Rep.nil (n:Int):Rep n [] (E4 n):=⟨rfl,(λ_ h=>nomatch h),(λ_ _ h=>by simp at h),rfl⟩
theorem Rep.snoc {n:Int}{ds:List R.bT}{st:Ch}{d:R.bT}(h:Rep n ds st)(hd:o9 d)(hx:isX (cH st d).1=false):Rep n (ds++[d]) (cH st d).2:=by
 refine⟨by rw[Cs,h.run],λe he=>?_,λi e he=>?_,?_⟩
 ·rcases List.mem_append.mp he with he | he
  ·exact h.ok e he
  ·rw[aiz]at he;rw[he];exact hd
 ·by_cases hi:i < ds.length
  ·rw[ajz hi]at he;rw[List.take_append_of_le_length (Nat.le_of_lt hi)];exact h.good i e he
  ·have hl:i < (ds++[d]).length:=(List.getElem?_eq_some_iff.mp he).1;rw[ki,aiw]at hl;obtain rfl:i=ds.length:=by omega
   rw[List.getElem?_concat_length]at he;cases he;rw[List.take_left,h.run];exact hx
 ·rw[LW hd.1 hd.2.1 hx,h.rows,tu];rfl
theorem A6 {d:R.bT}(h:o9 d):aiZ (R.cz d)=true:=(R.A4 h.2.1).ok
theorem Rep.aaq {n:Int}{ds:List R.bT}{st:Ch}(h:Rep n ds st):∀r∈st.rows,aiZ r=true:=λr hr=>by
 rw[h.rows]at hr;obtain⟨d,hd,rfl⟩:=List.mem_map.mp hr;exact A6 (h.ok d hd)
theorem Ct {d:R.bT}(h:R.DOk d):(R.cz d).length<=50000:=by
 obtain⟨b1,b2,b3⟩:=R.wV h;have h1:=StrLaws.sumLen_le (B:=20) (R.nh d::R.fw d) (λw hw=>by
   rcases List.mem_cons.mp hw with rfl | hw
   ·exact b3
   ·exact b2 w hw)
 have h2:=oi 32 (R.nh d::R.fw d);unfold R.cz;rw[R.jt];rw[ku]at h1 h2;omega
theorem Fd {c:Col}{H H':Hp}{t:Addr}(ht:H t=none)(hc:∀b,H b=none->c b=none):∀ {d:R.bT},R.eF H H' d t->tK c H' d t
 | .mat _,⟨L,a,b,e⟩=>⟨L,⟨hc t ht,a⟩,hc L b,e⟩
 | .ed _ _ _ _,⟨e,a,n,b⟩=>⟨e,⟨hc t ht,a⟩,hc e n,.inl b⟩
 | .pt _,h=>⟨hc t ht,h⟩
 | .nums _ _,h=>⟨hc t ht,h⟩
theorem tJ.zc {c:Col}{H H':Hp}{t:Addr}(hc:∀b,H b=none->c b=none):∀ {d:R.bT},tJ H H' d t->tK c H' d t
 | .mat _,⟨L,h1,h2,h3,h4⟩=>⟨L,⟨hc _ h1,h3⟩,hc _ h2,h4⟩
 | .ed _ _ _ _,⟨e,h1,h2,h3,h4⟩=>⟨e,⟨hc _ h1,h3⟩,hc _ h2,.inl h4⟩
 | .pt _,⟨h1,h2⟩=>⟨hc _ h1,h2⟩
 | .nums _ _,⟨h1,h2⟩=>⟨hc _ h1,h2⟩
theorem Cu (n:Int):Inv 0 (E4 n) :=
 ⟨ko 0,ko 0,ko 0,ko 0,(λ_ h=>nomatch h),⟨by show (1:Int)<=1;decide,by show (1:Int)<=_;decide⟩,(λ_ h=>nomatch h),(λ_ h=>nomatch h),List.nodup_nil,.nil,(λ_ h=>nomatch h),rfl,rfl,(λ_ h=>nomatch h)⟩
theorem Fe (st:Ch)(m:Mn):(st.carry m).cW=st.cW:=by
 unfold Ch.carry;split
 ·split
  ·split <;> rfl
  ·rfl
 ·split
  ·split <;> rfl
  ·rfl
 ·split <;> rfl
 ·rfl
 ·split <;> rfl
 ·rfl
 ·rfl
theorem vH (st:Ch):st.opened.cW=st.cW:=by unfold Ch.opened;rfl
theorem Ff {st:Ch}{d:R.bT}(h:vA d):(cH st d).2.cW=st.cW:=by
 cases h with
 |LO =>
  rw[jv];unfold oX;split
  ·rfl
  ·split
   ·rfl
   ·show ((if _ then _ else _:Ch).yk _).cW=_
    unfold Ch.yk;rw[show ∀(x:Ch) (r:List Str),({ x.opened with rows:=r }:Ch).cW=x.opened.cW from λ_ _=>rfl,vH]
    split
    ·rw[Fe];rfl
    ·rfl
 |drop =>
  rw[mw];unfold qt;split
  ·rfl
  ·show ((_:Ch).yk _).cW=_;unfold Ch.yk;rw[show ∀(x:Ch) (r:List Str),({ x.opened with rows:=r }:Ch).cW=x.opened.cW from λ_ _=>rfl,vH]
   rfl
 |take =>
  rw[jw];unfold stepT;split
  ·split
   ·rfl
   ·split <;> rfl
  ·rfl
 |move h =>
  rw[jx h];unfold oZ;split <;> rfl
theorem VG {cs:List (List Str)}(h:cs.length<=12)(hw:∀ws∈cs,R.g9 8 ws):o9 (.mat cs) :=
 ⟨.move ⟨h,λws z=>g9.up (hw ws z) (by decide)⟩,⟨h,λws z=>g9.up (hw ws z) (by decide)⟩,trivial⟩
theorem OU {u:Int}(h1:1<=u)(h2:u<=5):o9 (.nums (ar "put off") [u]):=by
 have e10:(10:Int) ^ 10=10000000000:=by decide
 have b:∀i∈[u],1<=i/\i<=5:=λi hi=>by rw[aiz]at hi;rw[hi];exact⟨h1,h2⟩
 exact⟨.move ⟨by show (ar "put off",1)∈vz;trivial,λi hi=>by have:=b i hi;omega⟩,⟨by show (ar "put off",1)∈R.dJ;trivial,λi hi=>by have:=b i hi;omega⟩,λ_ i hi=>by have:=b i hi;omega⟩
theorem DT {kd:Str}(h:(kd,0)∈vz)(h2:(kd,0)∈R.dJ)(h3:¬kd=ar "put off"):o9 (.nums kd []):=⟨.move ⟨h,λ_ z=>nomatch z⟩,⟨h2,λ_ z=>nomatch z⟩,λz=>absurd z h3⟩
theorem aar {ws:List Str}(h:R.g9 8 ws):o9 (.pt ws):=⟨.move (g9.up h (by decide)),g9.up h (by decide),trivial⟩
theorem KZ {a b:Int}(ha:0<=a/\a < 10 ^ 10)(hb:0<=b/\b < 10 ^ 10):o9 (.nums (ar "vote") [a,b]) :=
 ⟨.LO ha hb,⟨by show (ar "vote",2)∈R.dJ;trivial,λi hi=>by
  rcases List.mem_cons.mp hi with rfl | hi
  ·exact ha
  ·rw[aiz]at hi;rw[hi];exact hb⟩,λz=>absurd z (by trivial)⟩
theorem Rb:o9 (.nums (ar "drop") []):=⟨.drop,⟨by trivial,λ_ z=>nomatch z⟩,λz=>absurd z (by trivial)⟩
theorem K0 {z:Int}(h0:0<=z)(h1:z < 10 ^ 10):o9 (.nums (ar "take") [z]) :=
 ⟨.take (by omega) h1,⟨by show (ar "take",1)∈R.dJ;trivial,λi hi=>by rw[aiz]at hi;rw[hi];exact⟨h0,h1⟩⟩,λz=>absurd z (by trivial)⟩
def Fg (A:Adr)(i:Nat):Sp:=λvs H Q _=>∃(o t:Addr) (c:Col) (st:Ch) (N:Nat) (d:R.bT),vs=[.ref o,.ref t]/\eN A i c H o st/\Inv N st/\N<=800/\vA d/\ni i c H d t /\
 ∀c' H',Step (eL i) c c' H H'->eN A i c' H' o (cH st d).2->Q (.bl (!isX (cH st d).1)) H'
abbrev HJ:List V:=[V.str (ar ""),V.str (ar "a"),V.str (ar "a b"),V.str (ar "- //")]
theorem ws1 {x:Str}(h:decide (1<=x.length/\x.length<=20/\(∀c∈x.cps.toList,R.Sign c)/\x≠ar "/")=true):R.g9 8 [x]:=⟨by show 1<=8;decide,λw hw=>by rw[aiz]at hw;rw[hw];exact R.ES h⟩
theorem ws2 {x y:Str}(h:R.g9 8 [x])(h':R.g9 8 [y]):R.g9 8 [x,y]:=⟨by show 2<=8;decide,λw hw=>by
 rcases List.mem_cons.mp hw with rfl | hw
 ·exact h.wd _ (by simp)
 ·exact h'.wd _ hw⟩
theorem VH (i:Int):∃ws:List Str,R.g9 8 ws/\atI HJ (i % 4)=some (.str (km R.bl1 ws)):=by
 have h4:i % 4=0\/i % 4=1\/i % 4=2\/i % 4=3:=by omega
 have wa:R.g9 8 [ar "a"]:=ws1 (by trivial)
 rcases h4 with h | h | h | h
 ·exact⟨[],⟨by decide,λ_ z=>nomatch z⟩,by rw[h,show km R.bl1 []=ar "" from by trivial];rfl⟩
 ·exact⟨[ar "a"],wa,by rw[h];rfl⟩
 ·exact⟨[ar "a",ar "b"],ws2 wa (ws1 (by trivial)),by rw[h,show km R.bl1 [ar "a",ar "b"]=ar "a b" from by trivial];rfl⟩
 ·exact⟨[ar "-",ar "//"],ws2 (ws1 (by trivial)) (ws1 (by trivial)),by rw[h,show km R.bl1 [ar "-",ar "//"]=ar "- //" from by trivial];rfl⟩
theorem OV (i:Int):∃k:Nat,(k=0\/k=2)/\atI [V.str (ar "put"),V.str (ar "turn")] (i % 2)=some (.str (R.kn k)):=by
 have h2:i % 2=0\/i % 2=1:=by omega
 rcases h2 with h | h
 ·exact⟨0,.inl rfl,by rw[h];rfl⟩
 ·exact⟨2,.inr rfl,by rw[h];rfl⟩
theorem Sx {m:Bool}{k:Nat}{j:Int}{ws:List Str}(hk:k=0\/k=2)(j0:0<=j)(j1:j<=3)(hw:R.g9 8 ws)(hm:m=true->ws.length=1):o9 (.ed m k j ws):=by
 have e10:(10:Int) ^ 10=10000000000:=by decide
 have hk3:k=0\/k=1\/k=2:=hk.elim .inl λh=>.inr (.inr h)
 exact⟨.move ⟨hk3,⟨by omega,by omega⟩,g9.up hw (by decide),hm⟩,⟨hk3,⟨j0,by omega⟩,g9.up hw (by decide),hm⟩,trivial⟩
theorem K1 {k:Nat}(hk:k=0\/k=2)(j:Int)(x:Str):R.edR k j x=[V.str (R.kn k),.int j,.str x]:=by
 unfold R.edR;rw[if_neg (by rcases hk with rfl | rfl <;> decide)]
def OW (K:bo):Sp:=λvs H Q _=>∃(L:Addr) (z0 z1 z2 n:Int),vs=[.ref L,.int n]/\SqL K H L [.int z0,.int z1,.int z2]/\1<=n/\n<=1000000000 /\
 ∀(d:R.bT) (t:Addr) (H':Hp),o9 d->aZ H H'->tJ H H' d t->Q (.ref t) H'
def Rc:Sp:=λvs H Q _=>∃n:Int,vs=[.int n]/\Q (.bl true) H
section
variable{P:kx}{w:World}{K:bo}{mg:Str->Option Value}{base:Heap}{A:Adr}
theorem IQ (T:Txt w.params K mg A):FnOk P w K mg base CX0 1 A.Dg A.t5 ["_law_found"] Rc:=by
 refine T.wK.ok HY (λvs H Q E h=>?_) (λcdv A' outer s H vs Q E hr h=>?_)
 ·obtain⟨n,rfl,_⟩:=h;rfl
 ·obtain⟨n,rfl,q⟩:=h;refine⟨_,(ai (aG (pE (bK Eh (by rfl) T.cP cI (aa (pv 0) (aa (CA (v:=V.ty "int") rfl T.Kv HG rfl) ag))) (lO (TV (bK Eh (by rfl) T.cP cI (aa (pv 0) (aa (CA (v:=V.ty "bool") rfl T.N3 Qj rfl) ag)))))))),?_⟩
  try dsimp only[bI]
  exact⟨_,rfl,_,_,_,true,rfl,rfl,.int _,rfl,_,rfl,gS ⟨_,rfl,_,_,_,false,rfl,rfl,.int _,rfl,_,rfl,q⟩⟩
theorem LX (T:Txt w.params K mg A):FnOk P w K mg base CX0 1 A.Ib A.wA ["_law_draws","_law_seats"] (OW K):=by
 refine T.Av.ok sL (λvs H Q E h=>?_) (λcdv A' outer s H vs Q E hr h=>?_)
 ·obtain⟨L,z0,z1,z2,n,rfl,_⟩:=h;rfl
 ·obtain⟨L,z0,z1,z2,n,rfl,hL,n0,n1,q⟩:=h;refine⟨_,(ao (bg (i:=2) sL.nd rfl (aiF rfl) (bP fZ (aW bx (pv 0) aj (λ_ _=>rfl)) aj))
 (ao (bg (i:=3) sL.nd rfl (aiF rfl) (aW bx (dS (aa aq (aa aq (aa aq (aa aq ag))))) (bP fZ (aW bx (pv 0) aj (λ_ _=>rfl)) aj) (λ_ _=>rfl)))
 (ao (bX (aO zB (pv 2) aj (aJ _))
 (ai (aG (cZ (aa aq (aa (lP sC (dS (aa (pv 3) (aa aq ag))) sy (mS (bP fZ (aW bx (pv 0) aj (λ_ _=>rfl)) aj))) ag)))))
 aN)
 (ao (bX (aO zB (pv 2) aj (aJ _))
 (ai (aG (cZ (aa aq (aa (cZ (aa (aW bx (dS (aa aq (aa aq ag))) (bP fZ (bP CB (aW bx (pv 0) aj (λ_ _=>rfl)) aj) aj) (λ_ _=>rfl)) (aa (bP fZ (aW bx (pv 0) aj (λ_ _=>rfl)) aj) (aa (pv 3) ag)))) ag)))))
 aN)
 (ao (bX (aO bD (pv 2) aj (aJ _))
 (ai (aG (cZ (aa aq (aa (cZ (aa (aW bx (dS (aa aq (aa aq ag))) (bP fZ (bP CB (aW bx (pv 0) aj (λ_ _=>rfl)) aj) aj) (λ_ _=>rfl)) (aa (bP fZ (aW bx (pv 0) aj (λ_ _=>rfl)) aj) (aa aq ag)))) ag)))))
 aN)
 (ao (bX (aO bD (pv 2) aj (aJ _))
 (ai (aG (cZ (aa aq (aa (bP eS aj (bP fZ (aW bx (pv 0) aj (λ_ _=>rfl)) aj)) ag)))))
 aN)
 (ao (bX (aO zB (pv 2) aj (aJ _))
 (ai (aG (cZ (aa (aW bx (dS (aa aq (aa aq (aa aq ag)))) (bP Hs (pv 2) aj) (λ_ _=>rfl)) ag))))
 aN)
 (ao (bX (aO bD (pv 2) aj (aJ _))
 (ai (aG (cZ (aa aq (aa (pv 3) ag)))))
 aN)
 (ao (bX (aO zB (pv 2) aj (aJ _))
 (ao (bg (i:=4) sL.nd rfl (aiF rfl) (bP fZ (aW bx (pv 0) aj (λ_ _=>rfl)) (bP eS (pv 1) aj)))
 (ai (aG (cZ (aa aq (aa (pv 4) (aa (bP fZ (aW bx (pv 0) aj (λ_ _=>rfl)) (bP eS (bP Hs (pv 1) (pv 4)) aj)) ag)))))))
 aN)
 (ao (bX (aO bD (pv 2) aj (aJ _))
 (ai (aG (cZ (aa aq ag))))
 aN)
 (ai (aG (cZ (aa aq (aa (bP eS aj (bP fZ (aW bx (pv 0) aj (λ_ _=>rfl)) aj)) ag))))))))))))))),?_⟩
  try dsimp only[bI]
  have a0:atI [V.int z0,V.int z1,V.int z2] 0=some (.int z0):=rfl;have a1:atI [V.int z0,V.int z1,V.int z2] 1=some (.int z1):=rfl;have a2:atI [V.int z0,V.int z1,V.int z2] 2=some (.int z2):=rfl;have e10:(10:Int) ^ 10=10000000000:=by decide
  refine ixv rfl hL a0 ⟨_,_,rfl,rfl,(by show (0:Int) < 14;decide),?_⟩
  have w0:0<=z0 % 14:=by omega
  have w1:z0 % 14 < 14:=by omega
  try dsimp only[kP]
  generalize z0 % 14=wy at w0 w1 ⊢;refine aT λGq gq=>?_
  obtain⟨ws,hws,hc⟩:=VH z1;refine gq ?_;refine⟨(by show 4<=gc;decide),λlc hlc=>?_⟩
  have s0:aZ H (upd H lc (.lst HJ)):=aI hlc;refine ixv rfl (s0.seq hL) a1 ⟨_,_,rfl,rfl,(by show (0:Int) < 4;decide),lc,_,_,_,rfl,rfl,SqL.of ae,hc,?_⟩
  have hL1:=s0.seq hL;have q:=λd t H' hd (s:aZ (upd H lc (.lst HJ)) H') hn=>q d t H' hd (s0.trans s) (tJ.pre s0 hn)
  try dsimp only[kP]
  generalize upd H lc (.lst HJ)=H1 at hL1 q ⊢;clear hL s0 hlc;refine⟨_,rfl,_,_,rfl,rfl,_,rfl,gU (λh=>?_) (λg1=>?_)⟩
  ·
   refine⟨_,rfl,(by show 2<=gc;decide),λl0 hl0=>?_⟩
   have s1:=aI (o:=.lst [V.str (km R.bl1 ws),V.str (ar "b")]) hl0;obtain⟨k,hk⟩:∃k:Nat,z2 % 3=(k:Int):=⟨(z2 % 3).toNat,by omega⟩
   refine ixv rfl (s1.seq hL1) a2 ⟨_,_,rfl,rfl,(by show (0:Int) < 3;decide),_,rfl,l0,_,rfl,SqL.of ae,λl1 hl1=>?_⟩
   rw[hk,OR];refine⟨(by show 2<=gc;decide),λt ht=>?_⟩
   have e:([V.str (km R.bl1 ws),V.str (ar "b")]:List V).take k=((([ws,[ar "b"]]:List (List Str)).take k).map (km R.bl1)).map V.str:=by
    rw[List.map_take,List.map_take];rfl
   rw[e]at ht ⊢;have nt:l1≠t:=aC ae ht;have s2:=s1.new (o:=.lst (((([ws,[ar "b"]]:List (List Str)).take k).map (km R.bl1)).map V.str)) hl1;have wb:R.g9 8 [ar "b"]:=ws1 (by trivial)
   refine q (.mat (([ws,[ar "b"]]:List (List Str)).take k)) t _ (VG (by rw[ai4];show min k 2<=12;omega) λv hv=>?_) (s2.new ht) ⟨l1,same_none s2 ht,same_none s1 hl1,ae,(av nt).trans ae⟩
   have:=ajG hv;simp only[ajE,ajk,or_false]at this;rcases this with rfl | rfl
   ·exact hws
   ·exact wb
  ·refine⟨_,rfl,_,_,rfl,rfl,_,rfl,gU (λh=>?_) (λg2=>?_)⟩
   ·
    refine aT λGq gq=>?_
    obtain⟨k,hk3,hk⟩:=OV (z1 / 4);refine gq ?_;refine⟨(by show 2<=gc;decide),λl0 hl0=>?_⟩
    have s1:=aI (o:=.lst [V.str (ar "put"),V.str (ar "turn")]) hl0;refine ixv rfl (s1.seq hL1) a1 ⟨_,_,rfl,rfl,⟨by decide,by decide⟩,_,_,rfl,rfl,(by show (0:Int) < 2;decide),l0,_,_,_,rfl,rfl,SqL.of ae,hk,ixv rfl (s1.seq hL1) a2 ⟨_,_,rfl,rfl,(by show (0:Int) < 3;decide),_,rfl,(by show 3<=gc;decide),λte hte=>⟨(by show 2<=gc;decide),λt ht=>?_⟩⟩⟩
    have nte:te≠t:=aC ae ht;refine q (.ed false k (z2 % 3) ws) t _ (Sx hk3 (by omega) (by omega) hws λz=>nomatch z) ((s1.new hte).new ht) ⟨te,same_none (s1.new hte) ht,same_none s1 hte,ae,?_⟩
    rw[K1 hk3];exact(av nte).trans ae
   ·refine⟨_,rfl,rfl,_,rfl,gU (λh=>?_) (λg3=>?_)⟩
    ·
     refine aT λGq gq=>?_
     obtain⟨k,hk3,hk⟩:=OV (z1 / 4);refine gq ?_;refine⟨(by show 2<=gc;decide),λl0 hl0=>?_⟩
     have s1:=aI (o:=.lst [V.str (ar "put"),V.str (ar "turn")]) hl0;refine ixv rfl (s1.seq hL1) a1 ⟨_,_,rfl,rfl,⟨by decide,by decide⟩,_,_,rfl,rfl,(by show (0:Int) < 2;decide),l0,_,_,_,rfl,rfl,SqL.of ae,hk,ixv rfl (s1.seq hL1) a2 ⟨_,_,rfl,rfl,(by show (0:Int) < 3;decide),(by show 3<=gc;decide),λte hte=>⟨(by show 2<=gc;decide),λt ht=>?_⟩⟩⟩
     have nte:te≠t:=aC ae ht;refine q (.ed true k (z2 % 3) [ar "c"]) t _ (Sx hk3 (by omega) (by omega) (ws1 (by trivial)) λ_=>rfl) ((s1.new hte).new ht) ⟨te,same_none (s1.new hte) ht,same_none s1 hte,ae,?_⟩
     rw[K1 hk3];exact(av nte).trans ae
    ·refine⟨_,rfl,rfl,_,rfl,gU (λh=>?_) (λg4=>?_)⟩
     ·refine ixv rfl hL1 a1 ⟨_,_,rfl,rfl,(by show (0:Int) < 5;decide),_,_,rfl,rfl,(by show 2<=gc;decide),λt ht=>?_⟩
      exact q (.nums (ar "put off") [1+z1 % 5]) t _ (OU (by omega) (by omega)) (aI ht) ⟨ht,ae⟩
     ·refine⟨_,rfl,_,_,rfl,rfl,_,rfl,gU (λh2=>?_) (λh2=>?_)⟩
      ·refine⟨(by show 3<=gc;decide),λl0 hl0=>?_⟩
       refine aT λGq gq=>?_
       have s1:=aI (o:=.lst [V.str (ar "close"),.str (ar "lay"),.str (ar "rest")]) hl0;obtain⟨kd,hkd,hk⟩:∃kd:Str,o9 (.nums kd [])/\atI [V.str (ar "close"),.str (ar "lay"),.str (ar "rest")] (wy - 6)=some (.str kd):=by
        have e1:¬wy < 4:=λz=>g2 (decide_eq_true z)
        have e2:¬wy=4:=λz=>g3 (decide_eq_true (by rw[z]))
        have e4:¬wy=5:=λz=>g4 (decide_eq_true (by rw[z]))
        have e3:wy < 9:=of_decide_eq_true h2;have h3:wy - 6=0\/wy - 6=1\/wy - 6=2:=by omega
        rcases h3 with e | e | e
        ·exact⟨ar "close",DT (by trivial) (by trivial) (by trivial),by rw[e];rfl⟩
        ·exact⟨ar "lay",DT (by trivial) (by trivial) (by trivial),by rw[e];rfl⟩
        ·exact⟨ar "rest",DT (by trivial) (by trivial) (by trivial),by rw[e];rfl⟩
       refine gq ?_;refine⟨_,rfl,_,_,rfl,rfl,l0,_,_,_,rfl,rfl,SqL.of ae,hk,(by show 1<=gc;decide),λt ht=>?_⟩
       exact q (.nums kd []) t _ hkd (s1.new ht) ⟨same_none s1 ht,ae⟩
      ·refine⟨_,rfl,rfl,_,rfl,gU (λh=>?_) (λh=>?_)⟩
       ·exact⟨_,rfl,(by show 2<=gc;decide),λt ht=>q (.pt ws) t _ (aar hws) (aI ht) ⟨ht,ae⟩⟩
       ·refine⟨_,rfl,_,_,rfl,rfl,_,rfl,gU (λh=>?_) (λh=>?_)⟩
        ·refine ixv rfl hL1 a1 ⟨_,rfl,_,_,rfl,rfl,_,_,rfl,rfl,(by show (0:Int) < n+1;omega),?_⟩
         have y0:0<=z1 % (n+1):=Int.emod_nonneg _ (by omega)
         have y1:z1 % (n+1) < n+1:=Int.emod_lt_of_pos _ (by omega)
         dsimp only[kP];generalize z1 % (n+1)=ay at y0 y1 ⊢;refine⟨_,rfl,ixv rfl hL1 a2 ⟨_,rfl,_,rfl,_,_,rfl,rfl,_,_,rfl,rfl,_,_,rfl,rfl,(by show (0:Int) < n - ay+1;omega),(by show 3<=gc;decide),λt ht=>?_⟩⟩
         have x0:0<=z2 % (n - ay+1):=Int.emod_nonneg _ (by omega)
         have x1:z2 % (n - ay+1) < n - ay+1:=Int.emod_lt_of_pos _ (by omega)
         exact q (.nums (ar "vote") [ay,z2 % (n - ay+1)]) t _ (KZ ⟨y0,by omega⟩ ⟨x0,by omega⟩) (aI ht) ⟨ht,ae⟩
        ·refine⟨_,rfl,rfl,_,rfl,gU (λh=>?_) (λh=>?_)⟩
         ·exact⟨(by show 1<=gc;decide),λt ht=>q (.nums (ar "drop") []) t _ Rb (aI ht) ⟨ht,ae⟩⟩
         ·refine ixv rfl hL1 a1 ⟨_,_,rfl,rfl,(by show (0:Int) < 9;decide),_,_,rfl,rfl,(by show 2<=gc;decide),λt ht=>?_⟩
          exact q (.nums (ar "take") [1+z1 % 9]) t _ (K0 (by omega) (by omega)) (aI ht) ⟨ht,ae⟩
theorem IS (T:Txt w.params K mg A){i:Nat}:FnOk P w K mg base (CXX P w) 9 A.Dh A.sO ["_law_chamber","_law_deed_here"] (Fg A i):=by
 refine T.Aw.okX wg (λvs H Q E h=>?_) (λcdv A' outer s H vs Q E hr h=>?_)
 ·obtain⟨o,t,c,st,N,d,rfl,_⟩:=h;rfl
 ·obtain⟨o,t,c,st,N,d,rfl,hc,I,hN,hd,hdc,q⟩:=h;refine⟨_,(au (psx (bg (i:=2) wg.nd rfl (aiF rfl) oh))
 (au (Kp ⟨rfl,rfl⟩ (aL (cf (bB (A1 (i:=i) T) hr rfl T.wJ T.sQ.kp T.wI (pax (aa (pv 0) (aa (pv 1) ag))))))
 (Nk rfl T.cS (λ_=>(ai (bg (i:=2) wg.nd rfl (aiF rfl) oh))) (CS ⟨rfl,rfl⟩)))
 (aL (psx (aG (pv 2)))))),?_⟩
  try dsimp only[bI]
  refine⟨_,rfl,_,rfl,o,t,c,st,N,d,rfl,hc,I,hN,hd,hdc,?_⟩;generalize cH st d=rs at q ⊢;obtain⟨r,st'⟩:=rs;cases r with
  |num n=>exactλc1 H1 s1 hc1=>⟨_,rfl,q c1 H1 s1 hc1⟩
  |txt z=>exactλc1 H1 s1 hc1=>⟨_,rfl,q c1 H1 s1 hc1⟩
  |exc x=>exactλc1 H1 C e s1 hc1 hat he=>⟨true,Xc.mat T hat,gS ⟨_,rfl,q c1 H1 s1 hc1⟩⟩
theorem LY (T:Txt w.params K mg A):FnOk P w K mg base CX0 9 A.Dh A.sO ["_law_chamber","_law_deed_here"] (λvs H Q E=>∃i,Fg A i vs H Q E) :=
 ZW λi=>(IS T).calm λ_ _ _ _ h=>h
end
def DU (n:Int)(z:Str):Prop:=z.length<=50000/\R.Asc z/\(R.cA (PySem.Txt.split z R.bl1)=none\/∃d,R.cA (PySem.Txt.split z R.bl1)=some d/\vA d/\∀(N:Nat) (st:Ch),Inv N st->N<=600->st.cW=n->isX (cH st d).1=true)
theorem Fh {N:Nat}{st:Ch}(I:Inv N st)(hN:N<=600){z:Int}(h:z=0\/z=10000):isX (cH st (.nums (ar "take") [z])).1=true:=by
 have e:at1 z.toNat st.aU=none:=by
  cases e:at1 z.toNat st.aU with
  |none=>rfl
  |some x =>
   obtain⟨k1,k2⟩:=qa e;obtain⟨r,hr⟩:=(I.asd x k2).2.1;have hn:=I.vw k2 x.1 (by rw[hr];exact kb)
   have h1:=hn.1;have h2:=hn.2;have h3:=I.lm;rcases h with rfl | rfl
   ·have:x.1=0:=k1;omega
   ·have:x.1=10000:=k1;omega
 rw[jw];unfold stepT;split
 ·rw[e];rfl
 ·rfl
theorem Fi {st:Ch}{a b:Int}(h:a+b > st.cW):isX (cH st (.nums (ar "vote") [a,b])).1=true:=by
 rw[jv];unfold oX;split
 ·rfl
 ·rw[if_pos h];rfl
theorem Fj {st:Ch}{d:R.bT}(hm:DM d)(h:qb st (hG d)≠none):isX (cH st d).1=true:=by
 rw[jx hm];unfold oZ;cases e:qb st (hG d) with
 |none=>exact absurd e h
 |some x=>rfl
theorem Rf {N:Nat}{st:Ch}(I:Inv N st):qb st (.off 1)≠none:=by
 unfold qb oY;split
 ·exactλz=>nomatch z
 ·dsimp only;rw[if_pos I.sit.1];exactλz=>nomatch z
theorem far {n:Nat}{e:Ed}(h:5000<=e.at_)(hn:n<=4000):g8 n e=false:=by
 unfold g8;rw[decide_eq_false (show ¬e.at_ < (n:Int)+(if e.k=0 then 1 else 0) from λz=>by split at z <;> omega),Bool.and_false]
theorem Rg {N:Nat}{st:Ch}(I:Inv N st)(hN:N<=600){e:Ed}(h:5000<=e.at_):qb st (.chg e)≠none:=by
 unfold qb;cases ho:yj st.closed (st.aH.map st.mo) (Mn.chg e).k with
 |some x=>exactλz=>nomatch z
 |none =>
  have h2:=(oW ho).2;obtain⟨tx,r,e1⟩:=I.pil.IC h2;obtain⟨n,s,e2,e3⟩:=OC e1;have hm:=I.DJ (I.d0 n (by rw[e2];exact kb))
  rw[e3]at hm;have hl:tx.length<=12+N:=hm.1;show oY st (.chg e)≠none;unfold oY;rw[e1];dsimp only;rw[if_neg (by rw[far h (by omega)];exact kg)]
  exactλz=>nomatch z
theorem Rh {N:Nat}{st:Ch}(I:Inv N st)(hN:N<=600){f:Ed}(h:5000<=f.at_):qb st (.mnd f)≠none:=by
 unfold qb;cases ho:yj st.closed (st.aH.map st.mo) (Mn.mnd f).k with
 |some x=>exactλz=>nomatch z
 |none =>
  have h2:mr (st.aH.map st.mo)=true:=(oW ho).2;unfold mr at h2;split at h2
  ·rename_i e he;show oY st (.mnd f)≠none;unfold oY;rw[he];dsimp only;obtain⟨n,hn,e3⟩:=List.mem_map.mp (List.mem_of_getLast? he);have hm:=I.DJ (I.d0 n hn);rw[e3]at hm;have hl:=(EdB.words (show EdB (12+N) e from hm)).2
   rw[if_neg (by rw[far h (by omega)];exact kg)]
   exactλz=>nomatch z
  ·cases h2
theorem pb {n:Int}{z:Str}{d:R.bT}(e:z=R.cz d)(o:R.DOk d)(so:R.KY d)(hn:R.norm d=d)(hd:vA d)(h:∀(N:Nat) (st:Ch),Inv N st->N<=600->st.cW=n->isX (cH st d).1=true):DU n z:=by
 subst e;exact⟨Ct o,R.A4 o,.inr ⟨d,by rw[R.row_read o so,hn],hd,h⟩⟩
theorem iM {n:Int}{z:Str}(h:decide (z.length<=50000/\(∀c∈z.cps.toList,c < 128)/\(R.cA (PySem.Txt.split z R.bl1)).isNone=true)=true):DU n z:=by
 obtain⟨a,b,c⟩:=of_decide_eq_true h;refine⟨a,b,.inl ?_⟩;cases e:R.cA (PySem.Txt.split z R.bl1) with
 |none=>rfl
 |some d=>rw[e]at c;cases c
theorem VI {m:Bool}{k:Nat}{j:Int}{ws:List Str}(hk:k=0\/k=1\/k=2)(j0:0<=j)(j1:j<=9999999999)(hw:R.g9 12 ws)(hm:m=true->ws.length=1):o9 (.ed m k j ws):=by
 have e10:(10:Int) ^ 10=10000000000:=by decide
 exact⟨.move ⟨hk,⟨by omega,by omega⟩,hw,hm⟩,⟨hk,⟨j0,by omega⟩,hw,hm⟩,trivial⟩
theorem aas {m:Bool}{k:Nat}{j:Int}{ws:List Str}(h:o9 (.ed m k j ws)):DM (.ed m k j ws):=by
 cases h.1 with
 |move h=>exact h
theorem DW {n:Int}{z:Str}{m:Bool}{k:Nat}{j:Int}{ws:List Str}(e:z=R.cz (.ed m k j ws))(hk:k=0\/k=1\/k=2)(j0:5000<=j)(j1:j<=9999999999)(hw:R.g9 12 ws)(hm:m=true->ws.length=1)(hn:k=1->ws=[]):DU n z:=by
 have r:o9 (.ed m k j ws):=VI hk (by omega) j1 hw hm
 refine pb e r.2.1 r.2.2 ?_ r.1 λN st I hN _=>Fj (aas r) ?_
 ·show R.bT.ed m k j (if k=1 then [] else ws)=_
  split
  ·rename_i h1;rw[hn h1]
  ·rfl
 ·cases m with
  |false=>exact Rg I hN (e:=⟨k,j,km R.bl1 ws⟩) j0
  |true=>exact Rh I hN (f:=⟨k,j,km R.bl1 ws⟩) j0
theorem nine {n:Int}(h1:1<=n)(h9:n<=9):n=1\/n=2\/n=3\/n=4\/n=5\/n=6\/n=7\/n=8\/n=9:=by omega
theorem VJ {n:Int}(h1:1<=n)(h9:n<=9):ar "vote 0 "++ar (toString (n+1))=R.cz (.nums (ar "vote") [0,n+1]):=by
 rcases nine h1 h9 with rfl | rfl | rfl | rfl | rfl | rfl | rfl | rfl | rfl <;> trivial
theorem VL {n:Int}(h1:1<=n)(h9:n<=9):ar "vote "++ar (toString (n+1))++ar " 0"=R.cz (.nums (ar "vote") [n+1,0]):=by
 rcases nine h1 h9 with rfl | rfl | rfl | rfl | rfl | rfl | rfl | rfl | rfl <;> trivial
def Ri (n:Int):List Str:=[ar "closed",ar "matter a",ar "",ar "vote 1",ar "mend put 0",ar "take x",ar "change put 01 a",ar "drop ",ar "take 10000",ar "vote 0 "++ar (toString (n+1)),ar "vote "++ar (toString (n+1))++ar " 0",ar "put off 1",ar "take 0",ar "change cut 9999999999",ar "mend turn 9999999999 a",ar "change turn 5000 a"]
theorem Rj {n:Int}(h1:1<=n)(h9:n<=9):∀z∈Ri n,DU n z:=by
 have e10:(10:Int) ^ 10=10000000000:=by decide
 have wa:R.g9 12 [ar "a"]:=g9.up (ws1 (by trivial)) (by decide)
 have tk:∀z:Int,z=0\/z=10000->o9 (.nums (ar "take") [z]):=λz hz=>K0 (by omega) (by omega)
 have vt:∀a b:Int,0<=a->a<=10->0<=b->b<=10->o9 (.nums (ar "vote") [a,b]):=λa b _ _ _ _=>KZ ⟨by omega,by omega⟩ ⟨by omega,by omega⟩
 intro z hz;unfold Ri at hz;simp only[ajE,ajk,or_false]at hz;rcases hz with rfl | rfl | rfl | rfl | rfl | rfl | rfl | rfl | rfl | rfl | rfl | rfl | rfl | rfl | rfl | rfl
 ·exact iM (by trivial)
 ·exact iM (by trivial)
 ·exact iM (by trivial)
 ·exact iM (by trivial)
 ·exact iM (by trivial)
 ·exact iM (by trivial)
 ·exact iM (by trivial)
 ·exact iM (by trivial)
 ·exact pb (d:=.nums (ar "take") [10000]) (by trivial) (tk _ (.inr rfl)).2.1 (tk _ (.inr rfl)).2.2 rfl (tk _ (.inr rfl)).1 λN st I hN _=>Fh I hN (.inr rfl)
 ·have r:=vt 0 (n+1) (by omega) (by omega) (by omega) (by omega)
  exact pb (VJ h1 h9) r.2.1 r.2.2 rfl r.1 λN st I hN hs=>Fi (by omega)
 ·have r:=vt (n+1) 0 (by omega) (by omega) (by omega) (by omega)
  exact pb (VL h1 h9) r.2.1 r.2.2 rfl r.1 λN st I hN hs=>Fi (by omega)
 ·have r:o9 (.nums (ar "put off") [1]):=OU (by omega) (by omega)
  refine pb (d:=.nums (ar "put off") [1]) (by trivial) r.2.1 r.2.2 rfl r.1 λN st I hN _=>?_
  cases r.1 with
  |move h=>exact Fj h (Rf I)
 ·exact pb (d:=.nums (ar "take") [0]) (by trivial) (tk _ (.inl rfl)).2.1 (tk _ (.inl rfl)).2.2 rfl (tk _ (.inl rfl)).1 λN st I hN _=>Fh I hN (.inl rfl)
 ·exact DW (m:=false) (k:=1) (j:=9999999999) (ws:=[]) (by trivial) (.inr (.inl rfl)) (by omega) (by omega) ⟨by decide,λ_ z=>nomatch z⟩ (λz=>nomatch z) (λ_=>rfl)
 ·exact DW (m:=true) (k:=2) (j:=9999999999) (ws:=[ar "a"]) (by trivial) (.inr (.inr rfl)) (by omega) (by omega) wa (λ_=>rfl) (λz=>nomatch z)
 ·exact DW (m:=false) (k:=2) (j:=5000) (ws:=[ar "a"]) (by trivial) (.inr (.inr rfl)) (by omega) (by omega) wa (λz=>nomatch z) (λz=>nomatch z)
def aat:Sp:=λvs H Q _=>∃d n:Int,vs=[.int d,.int n]/\1<=n/\n<=9/\∀z H',DU n z->aZ H H'->Q (.str z) H'
def Rk (A:Adr)(K:bo):Sp:=λvs H Q _=>∃(l:Addr) (cs:List V) (n:Int),vs=[.ref l,.int n]/\1<=n/\n<=9/\SqL K H l cs/\(∀x∈cs,∃z,x=V.int z)/\cs.length<=50 /\
 ∀ds st p H',Rep n ds st->ds.length<=50->aZ H H'->H p=none->H' p=some (.lst (st.rows.map V.str))->Q (.ref p) H'
section
variable{P:kx}{w:World}{K:bo}{mg:Str->Option Value}{base:Heap}{A:Adr}
theorem Fl (T:Txt w.params K mg A):FnOk P w K mg base CX0 1 A.NG A.Al ["_law_draw","_law_seats"] aat:=by
 refine T.zk.ok u4 (λvs H Q E h=>?_) (λcdv A' outer s H vs Q E hr h=>?_)
 ·obtain⟨d,n,rfl,_⟩:=h;rfl
 ·obtain⟨d,n,rfl,h1,h9,q⟩:=h;refine⟨_,(ao (bg (i:=2) u4.nd rfl (aiF rfl) (dS (aa aq (aa aq (aa aq (aa aq (aa aq (aa aq (aa aq (aa aq ag))))))))))
 (ao (bg (i:=2) u4.nd rfl (aiF rfl) (bP CJ (pv 2) (dS (aa aq (aa (bP tP aq (dv kX (by rfl) T.ED CI (aa (bP eS (pv 1) aj) ag))) (aa (bP tP (bP tP aq (dv kX (by rfl) T.ED CI (aa (bP eS (pv 1) aj) ag))) aq) (aa aq (aa aq ag))))))))
 (ao (bg (i:=2) u4.nd rfl (aiF rfl) (bP CJ (pv 2) (dS (aa aq (aa aq (aa aq ag))))))
 (ai (aG (aW bx (pv 2) (bP fZ (pv 0) aj) (λ_ _=>rfl))))))),?_⟩
  try dsimp only[bI]
  have sz:gc=16777216:=by decide
  have lg:(n+1).natAbs.log2 < 1920:=oU (by omega) (by omega)
  have ln:(ar (toString (n+1))).length<=20:=sU (by omega) (by omega)
  have l1:(ar "vote 0 ").length=7:=by trivial
  have l2:(ar "vote ").length=5:=by trivial
  have l3:(ar " 0").length=2:=by trivial
  refine⟨(by show 8<=gc;decide),λp1 hp1=>?_⟩
  try dsimp only[kP]
  refine⟨_,rfl,_,rfl,_,_,rfl,rfl,_,rfl,lg,_,_,rfl,rfl,by rw[l1];omega,_,rfl,_,_,rfl,rfl,_,rfl,lg,_,_,rfl,rfl,by rw[l2];omega,_,_,rfl,rfl,by rw[len_app,l2,l3];omega,(by show 5<=gc;decide),λp2 hp2=>?_⟩
  refine⟨p1,p2,_,_,rfl,rfl,(av (aC ae hp2)).trans ae,ae,(by show 8+5<=gc;decide),λp3 hp3=>?_⟩
  try dsimp only[kP]
  refine⟨_,rfl,(by show 3<=gc;decide),λp4 hp4=>?_⟩
  refine⟨p3,p4,_,_,rfl,rfl,(av (aC ae hp4)).trans ae,ae,(by show 13+3<=gc;decide),λp5 hp5=>?_⟩
  refine aT λGq gq=>?_
  obtain⟨v,hv,hm⟩:=R6 (xs:=(Ri n).map V.str) (i:=d % 16) (n:=16) rfl (by omega) (by omega)
  obtain⟨x,hx,rfl⟩:=List.mem_map.mp hm;refine gq ?_;exact⟨_,rfl,_,rfl,_,_,rfl,rfl,(by show (0:Int) < 16;decide),p5,(Ri n).map V.str,_,_,rfl,rfl,SqL.of ae,hv,q x _ (Rj h1 h9 x hx) (((((aI hp1).new hp2).new hp3).new hp4).new hp5)⟩
theorem DX (T:Txt w.params K mg A):FnOk P w K mg base CX0 10 A.wB A.pR ["_law_cells","_law_seats"] (Rk A K):=by
 refine T.rb.ok iR (λvs H Q E h=>?_) (λcdv A' outer s H vs Q E hr h=>?_)
 ·obtain⟨l,cs,n,rfl,_⟩:=h;rfl
 ·obtain⟨l,cs,n,rfl,h1,h9,hS,isI,hcl,q⟩:=h;refine⟨_,(ao (bg (i:=2) iR.nd rfl (aiF rfl) (f9 T.wM (OI T) (hr.mono (by decide)) rfl T.wL T.gB .nil a9 (aa (pv 1) ag)))
 (ao (bg (i:=3) iR.nd rfl (aiF rfl) aj)
 (ao (Hr PassesOwn.never rfl (pG (pv 0)) (pF (i:=4) iR.nd rfl (aiF rfl))
 (ai (bg (i:=3) iR.nd rfl (aiF rfl) (bP eS (pv 3) (dv Lf (by rfl) T.Kv HG (aa (bw (LY T) hr rfl T.EC T.Aw.kp T.EB .nil a9 (aa (pv 2) (aa (bw (LX T) (hr.mono (by decide)) rfl T.EA T.Av.kp T.Ez .nil a9 (aa (bw (xS T) (hr.mono (by decide)) rfl T.ua T.pW.kp T.t9 .nil a9 (aa (pv 4) (aa aj ag))) (aa (pv 1) ag))) ag))) ag))))))
 (ai (aG (lP sC (gi (pv 2) T.ah T.i4 (A5 (i:=1) T) (hr.mono (by decide)) T.eC .nil a9) sy (mS (pv 3)))))))),?_⟩
  try dsimp only[bI]
  refine⟨_,rfl,λo d1 ho1 hd1 ne1=>⟨o,d1,n,rfl,ae,λH2 h2=>⟨rfl,?_⟩⟩⟩
  refine aT λGq gq=>?_
  obtain⟨c1,k1,ch1⟩:=h2 1 (λ_=>none)
  have st1:Step (eL 1) (λ_=>none) c1 H H2:=Cr aS ho1 hd1 k1
  have sm:∀ {c':Col} {H':Hp},Step (eL 1) (λ_=>none) c' H H'->aZ H H':=λs a v h=>s.keep a v h aS
  refine gq ?_
  try dsimp only[kP]
  refine⟨_,rfl,l,rfl,⟨_,(sm st1).seq hS⟩,?_⟩;refine zz (K:=K) (a:=l) (xs:=cs) (λk σ Hk=>∃(v4:Option V) (ck:Col) (ds:List R.bT) (st:Ch),σ=[some (.ref l),some (.int n),some (.ref o),some (.int (ds.length:Int)),v4]/\Step (eL 1) (λ_=>none) ck H Hk/\eN A 1 ck Hk o st/\Rep n ds st/\Inv (3 * k) st/\ds.length<=k)
   ⟨_,c1,[],E4 n,rfl,st1,ch1,Rep.nil n,Cu n,ko _⟩ (λk σ Hk _ ⟨_,_,_,_,_,sk,_⟩=>(sm sk).seq hS) ?_ ?_
  ·rintro k y σ Hk hy ⟨v4,ck,ds,st,rfl,sk,chk,rep,I,hdl⟩;refine aT λGq gq=>?_
   obtain⟨z,rfl⟩:=isI _ (aiK hy);have kl:k < cs.length:=(List.getElem?_eq_some_iff.mp hy).1;refine gq ?_;refine⟨_,rfl,_,rfl,_,rfl,z,3,rfl,by decide,by decide,λzs pz H5 zl hz s5 npz hpz=>?_⟩
   refine aT λGq gq=>?_
   obtain⟨z0,z1,z2,rfl⟩:∃z0 z1 z2,zs=[z0,z1,z2]:=by
    match zs,zl with
    |[z0,z1,z2],_=>exact⟨z0,z1,z2,rfl⟩
    |[],h=>exact absurd h (by decide)
    |[_],h=>exact absurd h (by simp)
    |[_,_],h=>exact absurd h (by simp)
    |_::_::_::_::_,h=>simp at h;omega
   refine gq ?_;refine⟨_,rfl,pz,z0,z1,z2,n,rfl,SqL.of hpz,h1,by omega,λd t H6 hd s6 hdn=>?_⟩
   have s56:=s5.trans s6;have z6:tK (eM ck Hk) H6 d t:=tJ.zc (λ_ h=>fA h) (hdn.pre s5)
   have ch6:=chk.free (W:=λ_=>False) (λ_=>id) (Step.cl id s56)
   have t6:Step (eL 1) ck (eM ck Hk) Hk H6:=Step.cl aS s56;refine⟨1,o,t,eM ck Hk,st,3 * k,d,rfl,ch6,I,by omega,hd.1,z6.c,λc7 H7 s7 ch7=>.inr ⟨_,rfl,_,_,rfl,rfl,?_⟩⟩
   have I':=I.cH (by omega) hd.1
   have e3:3 * (k+1)=3 * k+3:=by omega
   have t7:=(sk.trans t6).trans s7;cases hx:isX (cH st d).1 with
   |true =>
    rw[OT hd.1 hx]at ch7;exact⟨some (.int z),c7,ds,st,(by simp),t7,ch7,rep,by rw[e3];exact I.mono (by omega),by omega⟩
   |false =>
    refine⟨some (.int z),c7,ds++[d],_,?_,t7,ch7,rep.snoc hd hx,by rw[e3];exact I',by rw[ki,aiw];omega⟩
    rw[ki,aiw];simp
  ·rintro σ Hk ⟨v4,ck,ds,st,rfl,sk,chk,rep,I,hdl⟩;refine aT λGq gq=>?_
   obtain⟨dx,aM,aP,aA,aD,aF,aE,aR,ms,dss,ws,fs,es,X⟩:=chk.ex;have er:(st.rows.map V.str).length=ds.length:=by rw[rep.rows,da,da]
   refine gq ?_;refine mtv rfl X.ob (dZ (by trivial)) ⟨o,ck,st,rfl,chk,λl2 hl2=>?_⟩
   have s2:=(sm sk).new (o:=.lst (st.rows.map V.str)) hl2;refine⟨_,rfl,_,rfl,l2,_,rfl,SqL.of ae,λp hp=>?_⟩
   rw[OR,<-er,ajl];exact q ds st p _ rep (by omega) (s2.new hp) (s2.free hp) ae
end
def OX (A:Adr)(i:Nat):Sp:=λvs H Q E=>∃(o:Addr) (z:Str) (n:Int) (c:Col) (st:Ch) (N:Nat),vs=[.ref o,.str z,.int n]/\eN A i c H o st/\Inv N st/\N<=600/\0<=n/\n<=1000 /\
  ((∃d,z=R.cz d/\o9 d/\isX (cH st d).1=false/\∀c' H',Step (eL i) c c' H H'->eN A i c' H' o (cH st d).2->Q .non H') \/
   (DU st.cW z/\∀c' H' dd,Step (eL i) c c' H H'->H' dd=some (.xd [("row",.int n)])->E (.ref A.a6) (some dd) H'))
def xg (A:Adr)(i:Nat):Sp:=λvs H Q E=>∃(n:Int) (l:Addr) (c:Col) (ds:List R.bT) (st:Ch) (k:Nat) (tl:List Str),vs=[.int n,.ref l]/\c l=none/\H l=some (.lst (((ds.take k).map R.cz++tl).map V.str))/\Rep n ds st/\ds.length<=50/\k<=ds.length /\
 ((tl=[]/\∀o c' H',Step (eL i) c c' H H'->eN A i c' H' o (vG n (ds.take k))->Q (.ref o) H') \/
 (∃z r,tl=z::r/\DU n z/\∀c' H' dd,Step (eL i) c c' H H'->H' dd=some (.xd [("row",.int ((k+1:Nat):Int))])->E (.ref A.a6) (some dd) H'))
def Cv (A:Adr):Sp:=λvs H Q _=>∃(n:Int) (l:Addr) (ds:List R.bT) (st:Ch),vs=[.int n,.ref l]/\H l=some (.lst (st.rows.map V.str))/\Rep n ds st/\ds.length<=50 /\
 ∀o c' H',Step (eL 1) (λ_=>none) c' H H'->eN A 1 c' H' o st->Q (.ref o) H'
def Fm:Sp:=λvs H Q _=>∃(n:Int) (l:Addr) (ds:List R.bT) (st:Ch) (k:Nat) (z:Str) (r:List Str),vs=[.int n,.ref l,.int ((k+1:Nat):Int)]/\H l=some (.lst (((ds.take k).map R.cz++z::r).map V.str))/\Rep n ds st/\ds.length<=50/\k<=ds.length/\DU n z/\∀H',aZ H H'->Q (.bl true) H'
section
variable{P:kx}{w:World}{K:bo}{mg:Str->Option Value}{base:Heap}{A:Adr}
theorem Fn (T:Txt w.params K mg A):FnOkH P w K mg base 1 A.u7 A.qQ ["self","row"] (zP A.a6 "row"):=by
 refine T.lN.okH tq (λvs H Q E h=>?_) (λcdv A' outer s H vs Q E hr h=>?_)
 ·obtain⟨e,v,rfl,_⟩:=h;rfl
 ·obtain⟨e,v,rfl,hx,⟨z,fz,zl⟩,q⟩:=h;refine⟨_,(ao (bY (qG T.eh T.l8 rfl T.cS (aa (pv 0) (aa (zO (jO (tS (pv 1) tR))) ag))))
 (ai (uW T.l8 (pv 0) (pv 1)))),?_⟩
  try dsimp only[bI]
  have sz:gc=16777216:=by decide
  have e5:(aiT++ar "refused at the row ":Str).length=19:=by trivial
  refine⟨_,rfl,by rw[e5];omega,_,rfl,z,fz,by omega,by rw[len_app,e5];omega,by rw[len_app,e5];omega,e,_,rfl,hx,?_⟩
  exact⟨_,rfl,_,rfl,e,rfl,hx,λd hd=>q d hd⟩
theorem IT (T:Txt w.params K mg A){i:Nat}:FnOk P w K mg base (CXB false P w) 9 A.Ia A.wx ["chamber","row","number"] (OX A i):=by
 have Fo:FnOk P w K mg base (CXX P w) 7 A.sN A.lu ["row"] (R.KW K A):=R.DR T;have LZ:FnOkH P w K mg base 1 A.u7 A.qQ ["self","row"] (zP A.a6 "row"):=Fn T;refine T.Ar.okXB Lz (λvs H Q E h=>?_) (λcdv A' outer s H vs Q E hr h=>?_)
 ·obtain⟨o,z,n,c,st,N,rfl,_⟩:=h;rfl
 ·obtain⟨o,z,n,c,st,N,rfl,hc,I,hN,n0,n1,q⟩:=h;have lg:n.natAbs.log2 < 1920:=oU (by omega) (by omega)
  have ln:(ar (toString n)).length<=20:=sU (by omega) (by omega)
  refine⟨_,(aL (psx_tryB ⟨rfl,rfl⟩ (aL (cf (bB (A1 (i:=i) T) hr rfl T.wJ T.sQ.kp T.wI (cC (px (pv 0)) (cC (bB Fo (hr.mono (by decide)) rfl T.xI T.qY.kp T.xH (pax (aa (pv 1) ag))) kZ)))))
 (phx_from rfl ⟨rfl,rfl⟩ T.l8 LZ (hr.mono (by decide)) T.oQ rfl T.cS rfl T.zm (λ_=>(aa (pv 2) ag)) (phx2_nil ⟨rfl,rfl⟩)))),?_⟩
  try dsimp only[bI]
  have go:∀(d:R.bT) (t:Addr) (H1:Hp),aZ H H1->H t=none->R.eF H H1 d t->Step (eL i) c (eM c H) H H1/\eN A i (eM c H) H1 o st/\ni i (eM c H) H1 d t:=λd t H1 s1 nt h1=>⟨Step.cl aS s1,hc.free (W:=λ_=>False) (λ_=>id) (Step.cl id s1),(Fd nt (λ_ h=>fA h) h1).c⟩
  rcases q with ⟨d,rfl,hd,hx,q⟩ | ⟨⟨zl,za,hz⟩,q⟩
  ·refine⟨_,rfl,_,rfl,R.cz d,rfl,Ct hd.2.1,R.A4 hd.2.1,λe he t H1 s1 nt h1=>?_,λhe=>?_⟩
   ·rw[R.row_read hd.2.1 hd.2.2]at he;refine aT λGq gq=>?_
    cases he;obtain⟨t1,hc1,hd1⟩:=go d t H1 s1 nt (R.eF.norm h1);refine gq ?_;refine⟨o,t,eM c H,st,N,d,rfl,hc1,I,by omega,hd.1,hd1,?_⟩
    generalize cH st d=rs at q hx ⊢;obtain⟨r,st'⟩:=rs;cases r with
    |num n=>exactλc2 H2 s2 hc2=>q c2 H2 (t1.trans s2) hc2
    |txt z=>exactλc2 H2 s2 hc2=>q c2 H2 (t1.trans s2) hc2
    |exc x=>cases hx
   ·rw[R.row_read hd.2.1 hd.2.2]at he;cases he
  ·refine⟨_,rfl,_,rfl,z,rfl,zl,za,λd he t H1 s1 nt h1=>?_,λhe dd H1 s1 hdd=>?_⟩
   ·rcases hz with hz | ⟨d',hz,hd,hx⟩
    ·rw[hz]at he;cases he
    ·rw[hz]at he;refine aT λGq gq=>?_
     cases he;obtain⟨t1,hc1,hd1⟩:=go d t H1 s1 nt h1;refine gq ?_;refine⟨o,t,eM c H,st,N,d,rfl,hc1,I,by omega,hd,hd1,?_⟩
     have hx:=hx N st I hN rfl;generalize cH st d=rs at hx ⊢;obtain⟨r,st'⟩:=rs;cases r with
     |num n=>cases hx
     |txt z=>cases hx
     |exc x=>exactλc2 H2 C e s2 hc2 hat he=>⟨true,Xc.mat T hat,gS ⟨_,rfl,_,rfl,⟨_,.int lg,rf ln (by decide)⟩,λd3 hd3=>q _ _ d3 ((t1.trans s2).trans (Step.new aS hd3 (x:=none))) ae⟩⟩
   ·exact⟨true,T.jqh,gS ⟨_,rfl,_,rfl,⟨_,.int lg,rf ln (by decide)⟩,λd3 hd3=>q _ _ d3 ((Step.cl aS s1).trans (Step.new aS hd3 (x:=none))) ae⟩⟩
theorem A7 (T:Txt w.params K mg A){i:Nat}:FnOk P w K mg base (CXB false P w) 10 A.replay A.oM ["seats","rows"] (xg A i):=by
 refine T.va.okXB sJ (λvs H Q E h=>?_) (λcdv A' outer s H vs Q E hr h=>?_)
 ·obtain⟨n,l,c,ds,st,k,tl,rfl,_⟩:=h;rfl
 ·obtain⟨n,l,c,ds,st,k,tl,rfl,cl,hl,rep,hN,hk,q⟩:=h;refine⟨_,(au (psx (bg (i:=2) sJ.nd rfl (aiF rfl) (f9 T.wM (OI T) (hr.mono (by decide)) rfl T.wL T.gB .nil a9 (aa (pv 0) ag))))
 (au (Kq ⟨rfl,rfl⟩ rfl (pi_enum (k:=1) (by trivial) rfl T.xO (aa (pv 1) ag)) (TY rfl (D7 (pF (i:=3) sJ.nd rfl (aiF rfl)) (D7 (pF (i:=4) sJ.nd rfl (aiF rfl)) Qa)))
 (aL (cf (pe_callXB rfl (IT (i:=i) T) hr rfl T.Ey T.Ar.kp T.Ex (pax (aa (pv 2) (aa (pv 4) (aa (pv 3) ag))))))))
 (aL (psx (aG (pv 2)))))),?_⟩
  try dsimp only[bI]
  refine⟨_,rfl,λo d1 ho1 hd1 ne1=>⟨o,d1,n,rfl,ae,λH2 h2=>⟨rfl,?_⟩⟩⟩
  refine aT λGq gq=>?_
  obtain⟨c1,k1,ch1⟩:=h2 i c;have st1:Step (eL i) c c1 H H2:=Cr aS ho1 hd1 k1;have kl:=KS st1 cl hl;refine gq ?_
  try dsimp only[kP]
  have ltk:((ds.take k).map R.cz).length=k:=by rw[da,ai4];omega
  refine⟨_,rfl,l,rfl,⟨_,SqL.of kl.2⟩,?_⟩;refine for_enum (K:=K) (a:=l) (xs:=((ds.take k).map R.cz++tl).map V.str) (λj σ Hj=>∃(cj:Col) (v3 v4:Option V),σ=[some (.int n),some (.ref l),some (.ref o),v3,v4]/\Step (eL i) c cj H Hj/\eN A i cj Hj o (vG n (ds.take j))/\Inv (3 * j) (vG n (ds.take j))/\(vG n (ds.take j)).cW=n/\j<=k)
   ⟨c1,_,_,rfl,st1,ch1,Cu n,rfl,aiW _⟩ (λj σ Hj _ ⟨cj,_,_,_,sj,_⟩=>SqL.of (KS sj cl hl).2) ?_ ?_
  ·rintro j y σ Hj t hy ⟨cj,v3,v4,rfl,sj,chj,Ij,sjn,jk⟩ ht;have sn:Step (eL i) cj (aY cj t none) Hj (upd Hj t (.tup [.int ((j+1:Nat):Int),y])):=Step.new aS ht;have chn:=chj.free (W:=λ_=>False) (λ_=>id) (Step.new (x:=none) (o:=.tup [.int ((j+1:Nat):Int),y]) id ht)
   rw[aiY]at hy
   by_cases hj:j < k
   ·obtain⟨d,hdj⟩:∃d,ds[j]?=some d:=⟨_,aiG (by omega)⟩
    obtain rfl:V.str (R.cz d)=y:=by
     rw[ajz (by omega),aiY,List.getElem?_take_of_lt hj,hdj]at hy
     exact aix hy
    have hd:=rep.ok d (aiK hdj);refine⟨t,_,rfl,SqT.of ae,rfl,_,_,rfl,_,_,rfl,rfl,?_⟩;refine⟨_,rfl,_,rfl,_,rfl,o,_,_,aY cj t none,vG n (ds.take j),3 * j,rfl,chn,Ij,by omega,by omega,by omega,.inl ⟨d,rfl,hd,rep.good j d hdj,λc' H' s' ch'=>?_⟩⟩
    have e:vG n (ds.take (j+1))=(cH (vG n (ds.take j)) d).2:=by rw[List.take_succ,hdj];exact Cs _ _ _
    have I':=Ij.cH (by omega) hd.1
    have es:=(Ff (st:=vG n (ds.take j)) hd.1).trans sjn;rw[<-e]at ch' I' es;exact⟨c',_,_,rfl,(sj.trans sn).trans s',ch',by rw[show 3 * (j+1)=3 * j+3 by omega];exact I',es,hj⟩
   ·obtain rfl:j=k:=by omega
    rw[ajs (by omega),ltk,Nat.sub_self]at hy
    rcases q with ⟨rfl,_⟩ | ⟨z,r,rfl,hz,q⟩
    ·cases hy
    ·obtain rfl:V.str z=y:=aix hy;refine⟨t,_,rfl,SqT.of ae,rfl,_,_,rfl,_,_,rfl,rfl,?_⟩;exact⟨_,rfl,_,rfl,_,rfl,o,_,_,aY cj t none,vG n (ds.take j),3 * j,rfl,chn,Ij,by omega,by omega,by omega,.inr ⟨by rw[sjn];exact hz,λc' H' dd s' hdd=>q c' H' dd ((sj.trans sn).trans s') hdd⟩⟩
  ·rintro σ Hj ⟨cj,v3,v4,rfl,sj,chj,Ij,sjn,jk⟩;rw[da,ki,ltk]at chj jk;rcases q with ⟨rfl,q⟩ | ⟨z,r,rfl,_⟩
   ·exact⟨_,rfl,q o cj Hj sj chj⟩
   ·rw[ku]at jk;omega
theorem IU (T:Txt w.params K mg A):FnOk P w K mg base (CXB false P w) 10 A.replay A.oM ["seats","rows"] (Cv A):=by
 have F:FnOk P w K mg base (CXB false P w) 10 A.replay A.oM ["seats","rows"] (xg A 1):=A7 T;have im:∀vs H Q E,Cv A vs H Q E->xg A 1 vs H Q E:=λvs H Q E ⟨n,l,ds,st,e,hl,rep,hN,q⟩=>by
  refine⟨n,l,λ_=>none,ds,st,ds.length,[],e,rfl,?_,rep,hN,ko _,.inl ⟨rfl,λo c' H' s h=>q o c' H' s ?_⟩⟩
  ·rw[ajl,aji,<-rep.rows];exact hl
  ·rw[ajl,rep.run]at h;exact h
 exact⟨λvs H Q E h=>F.len vs H Q E (im vs H Q E h),λA outer s H args us vs Q E hr he hb hv hs=>F.run A outer s H args us vs Q E hr he hb hv (im vs H Q E hs)⟩
theorem By (T:Txt w.params K mg A):FnOk P w K mg base (CXB false P w) 11 A.sP A.lx ["_law_seats","_law_rows","_law_number"] Fm:=by
 refine T.rg.okXB lq (λvs H Q E h=>?_) (λcdv A' outer s H vs Q E hr h=>?_)
 ·obtain⟨n,l,ds,st,k,z,r,rfl,_⟩:=h;rfl
 ·obtain⟨n,l,ds,st,k,z,r,rfl,hl,rep,hN,hk,hz,q⟩:=h;refine⟨_,(au (psx (bg (i:=3) lq.nd rfl (aiF rfl) TR))
 (au (Kp ⟨rfl,rfl⟩ (aL (cf (pe_callXB rfl (A7 (i:=1) T) hr rfl T.Au T.va.kp T.As (pax (aa (pv 0) (aa (pv 1) ag))))))
 (Ux (i:=4) lq.nd rfl rfl rfl T.cS (λ_=>(ai (bg (i:=3) lq.nd rfl (aiF rfl) (pv 4)))) (CS ⟨rfl,rfl⟩)))
 (au (psx (bX (PW.pt (pw_or (pD (ib (bK gs (by rfl) T.cP cI (aa (pv 3) (aa (eP (v:=V.ref A.a6) rfl T.zm rfl) ag))))) (pw_or1 (pD (ib (bK gs (by rfl) T.cP cI (aa (pv 3) (aa (CA (v:=V.ty "ValueError") rfl T.vb Bh rfl) ag))))))))
 (ai (aG oh))
 aN))
 (au (psx (bX (PW.pt (pw_or (ib (bK gs (by rfl) T.cP cI (aa (pv 3) (aa (eP (v:=V.ref A.bL) rfl T.vi rfl) ag)))) (pw_or (ib (bK gs (by rfl) T.cP cI (aa (pv 3) (aa (eP (v:=V.ref A.cc) rfl T.Ds rfl) ag)))) (pw_or1 (ib (bK gs (by rfl) T.cP cI (aa (pv 3) (aa (eP (v:=V.ref A.bC) rfl T.wN rfl) ag))))))))
 (ai (aG oh))
 aN))
 (au (psx (bX (PW.pt (pw_or (ib (bK gs (by rfl) T.cP cI (aa (pv 3) (aa (eP (v:=V.ref A.bG) rfl T.wO rfl) ag)))) (pw_or (ib (bK gs (by rfl) T.cP cI (aa (pv 3) (aa (eP (v:=V.ref A.bH) rfl T.wQ rfl) ag)))) (pw_or1 (ib (bK gs (by rfl) T.cP cI (aa (pv 3) (aa (eP (v:=V.ref A.a8) rfl T.ub rfl) ag))))))))
 (ai (aG oh))
 aN))
 (aL (psx (aG (pE (bw (IQ T) (hr.mono (by decide)) rfl T.B9 T.wK.kp T.B8 .nil a9 (aa (Kt (pv 3) rfl) ag)) (lO (cF bD (Kt (pv 3) rfl) (pv 2) (aJ _)))))))))))),?_⟩
  try dsimp only[bI]
  refine⟨_,rfl,_,rfl,n,l,λ_=>none,ds,st,k,z::r,rfl,rfl,hl,rep,hN,hk,.inr ⟨z,r,rfl,hz,λc1 H2 d st2 hd=>?_⟩⟩
  have s2:aZ H H2:=λa v h=>st2.keep a v h aS
  refine⟨true,T.jqh,gS λea hea=>?_⟩
  have nde:d≠ea:=aC hd hea;have s3:aZ H (upd H2 ea (xo ea (.ref A.a6) (some d))):=s2.new hea;have hx:upd H2 ea (xo ea (.ref A.a6) (some d)) ea=some (xo ea (.ref A.a6) (some d)):=ae;have hd3:upd H2 ea (xo ea (.ref A.a6) (some d)) d=some (.xd [("row",.int ((k+1:Nat):Int))]):=(av nde).trans hd;generalize upd H2 ea (xo ea (.ref A.a6) (some d))=H3 at s3 hx hd3 ⊢;refine⟨_,rfl,?_⟩;refine⟨_,rfl,ea,.ref A.a6,A.a6,d,_,true,rfl,rfl,hx,hd3,T.i7,T.jq22,_,rfl,eu ?_⟩;refine⟨_,rfl,ea,.ty "ValueError",A.a6,d,_,true,rfl,rfl,hx,hd3,T.i7,T.jqv,_,rfl,eu ?_⟩;refine⟨_,rfl,ea,.ref A.bL,A.a6,d,_,false,rfl,rfl,hx,hd3,T.i7,T.jq1q,_,rfl,eu ⟨_,rfl,ea,.ref A.cc,A.a6,d,_,false,rfl,rfl,hx,hd3,T.i7,T.jq23,_,rfl,eu ⟨_,rfl,ea,.ref A.bC,A.a6,d,_,false,rfl,rfl,hx,hd3,T.i7,T.jq14,_,rfl,eu ?_⟩⟩⟩;refine⟨_,rfl,ea,.ref A.bG,A.a6,d,_,false,rfl,rfl,hx,hd3,T.i7,T.jq15,_,rfl,eu ⟨_,rfl,ea,.ref A.bH,A.a6,d,_,false,rfl,rfl,hx,hd3,T.i7,T.jq16,_,rfl,eu ⟨_,rfl,ea,.ref A.a8,A.a6,d,_,false,rfl,rfl,hx,hd3,T.i7,T.jqM,_,rfl,eu ?_⟩⟩⟩;have lk:([(ar "row",V.int ((k+1:Nat):Int))]:List (Str×V)).lookup (ar "row")=some (V.int ((k+1:Nat):Int)):=by
   rw[aj7];rfl
  have lg:((k+1:Nat):Int).natAbs.log2 < 1920:=oU (by omega) (by omega)
  refine⟨_,rfl,ea,A.a6,d,_,.int _,rfl,hx,hd3,T.AF,lk,⟨_,.int lg⟩,_,rfl,_,rfl,gS ?_⟩;exact⟨_,rfl,ea,A.a6,d,_,.int _,rfl,hx,hd3,T.AF,lk,⟨_,.int lg⟩,_,rfl,(by show rEq _ _ _ _;unfold rEq;simp only[decide_true];exact⟨rfl,q H3 s3⟩)⟩
theorem DY (T:Txt w.params K mg A):FnOk P w K mg base CX0 11 A.sP A.lx ["_law_seats","_law_rows","_law_number"] Fm:=(By T).calmB λ_ _ _ _ h=>h
end
def K2 (K:bo):Sp:=λvs H Q _=>∃(a:Addr) (ns:List Int),vs=[.ref a]/\SqL K H a (ns.map V.int)/\ns.length<=63/\∀H',Q (.bl true) H'
theorem Rm (xs:List V):(nv xs (some 2) (some 52)).length<=50:=by
 unfold nv;rw[show (2:Int)=((2:Nat):Int) from rfl,show (52:Int)=((52:Nat):Int) from rfl,HT.uR,HT.uR,ai4,ajj]
 omega
section
variable{P:kx}{w:World}{K:bo}{mg:Str->Option Value}{base:Heap}{A:Adr}
theorem VM {f:Addr}{fd:kf}(F:Fun K "law" "law" u5 f fd)(T:Txt w.params K mg A):FnOk P w K mg base CX0 20 f fd ["_law_script"] (K2 K):=by
 refine F.ok tV (λvs H Q E h=>?_) (λcdv A' outer s H vs Q E hr h=>?_)
 ·obtain⟨a,ns,rfl,_⟩:=h;rfl
 ·obtain⟨a,ns,rfl,hS,hlen,q⟩:=h;have Bs:=hr.units;refine⟨_,(ao (bg (i:=1) tV.nd rfl (aiF rfl) (bP eS aj (bP fZ (bw (vF T) (hr.mono (by decide)) rfl T.q9 T.nc.kp T.q8 .nil a9 (aa (pv 0) (aa aj ag))) aj)))
 (ao (bg (i:=2) tV.nd rfl (aiF rfl) (bw (DX T) (hr.mono (by decide)) rfl T.xK T.rb.kp T.xJ .nil a9 (aa (lP sC (pv 0) (mS aj) (mS aj)) (aa (pv 1) ag))))
 (ao (bg (i:=3) tV.nd rfl (aiF rfl) (bw (xS T) (hr.mono (by decide)) rfl T.ua T.pW.kp T.t9 .nil a9 (aa (bw (vF T) (hr.mono (by decide)) rfl T.q9 T.nc.kp T.q8 .nil a9 (aa (pv 0) (aa aj ag))) (aa aj ag))))
 (ao (bg (i:=4) tV.nd rfl (aiF rfl) (bP fZ (aW bx (pv 3) aj (λ_ _=>rfl)) (bP eS (bK dM (by rfl) T.oN j8 (aa (pv 2) ag)) aj)))
 (ao (bg (i:=5) tV.nd rfl (aiF rfl) (dv et (by rfl) T.pX mT (aa (pv 2) ag)))
 (ao (bY (iP adm PySem.F.slot_list_insert PySem.F.type_list_insert vX (pv 5) (aa (pv 4) (aa (bw (Fl T) (hr.mono (by decide)) rfl T.Dl T.zk.kp T.Dk .nil a9 (aa (aW bx (pv 3) aj (λ_ _=>rfl)) (aa (pv 1) ag))) ag))))
 (ao (bX (aO bD (bP fZ (aW bx (pv 3) aj (λ_ _=>rfl)) aj) aj (aJ _))
 (ai (bY (iP adm PySem.F.slot_list_insert PySem.F.type_list_insert vX (pv 5) (aa (bP eS (bP eS (pv 4) aj) (bP fZ (bP CB (aW bx (pv 3) aj (λ_ _=>rfl)) aj) (bP Hs (bK dM (by rfl) T.oN j8 (aa (pv 5) ag)) (pv 4)))) (aa (bw (Fl T) (hr.mono (by decide)) rfl T.Dl T.zk.kp T.Dk .nil a9 (aa (aW bx (pv 3) aj (λ_ _=>rfl)) (aa (pv 1) ag))) ag)))))
 aN)
 (ao (bg (i:=6) tV.nd rfl (aiF rfl) (dv et (by rfl) T.pX mT (aa (pv 5) ag)))
 (ao (bX (PW.pt (pw_or (pD (ib (bw (DY T) (hr.mono (by decide)) rfl T.xN T.rg.kp T.xM .nil a9 (aa (pv 1) (aa (pv 6) (aa (bP eS (pv 4) aj) ag)))))) (pw_or1 (aO (M4 Bs) (pv 6) (pv 5) (aJ _)))))
 (ai (aG oh))
 aN)
 (ai (aG (cF (HI Bs) (gi (bw (IU T) (hr.mono (by decide)) rfl T.Au T.va.kp T.As .nil HK (aa (pv 1) (aa (dv et (by rfl) T.pX mT (aa (pv 2) ag)) ag))) T.ah T.i4 (A5 (i:=1) T) (hr.mono (by decide)) T.eC .nil a9) (pv 2) (aJ _))))))))))))),?_⟩
  try dsimp only[bI]
  have sz:gc=16777216:=by decide
  refine⟨_,rfl,a,ns,0,rfl,hS,Int.le_refl _,λfi=>⟨_,_,rfl,rfl,(by show (0:Int) < 9;decide),_,_,rfl,rfl,?_⟩⟩
  have n1:1<=1+fi % 9:=by omega
  have n9:1+fi % 9<=9:=by omega
  try dsimp only[kP]
  generalize 1+fi % 9=n at n1 n9 ⊢;refine⟨_,rfl,_,rfl,_,rfl,a,_,rfl,hS,λl hl=>?_⟩
  have s1:aZ H (upd H l (.lst (nv (ns.map V.int) (some 2) (some 52)))):=aI hl;refine⟨_,rfl,l,_,n,rfl,n1,n9,SqL.of ae,λx hx=>?_,Rm _,λds st p H2 rep hdl s2 np hp=>?_⟩
  ·obtain⟨z,_,e⟩:=List.mem_map.mp (Ra hx);exact⟨z,e.symm⟩
  have hS2:=(s1.trans s2).seq hS;clear s1 s2 np hl hS;have er:st.rows.map V.str=(ds.map R.cz).map V.str:=by rw[rep.rows]
  have el:(st.rows.map V.str).length=ds.length:=by rw[er,da,da]
  try dsimp only[kP]
  refine⟨_,rfl,a,ns,1,rfl,hS2,by decide,λc1=>⟨c1,4,rfl,by decide,by decide,λzs pz H3 zl hz s3 npz hpz=>?_⟩⟩
  refine aT λGq gq=>?_
  obtain⟨z0,z1,z2,z3,rfl⟩:∃z0 z1 z2 z3,zs=[z0,z1,z2,z3]:=by
   match zs,zl with
   |[z0,z1,z2,z3],_=>exact⟨z0,z1,z2,z3,rfl⟩
   |[],h=>exact absurd h (by decide)
   |[_],h=>exact absurd h (by simp)
   |[_,_],h=>exact absurd h (by simp)
   |[_,_,_],h=>exact absurd h (by simp)
   |_::_::_::_::_::_,h=>simp at h;omega
  have a0:atI [V.int z0,V.int z1,V.int z2,V.int z3] 0=some (.int z0):=rfl;have a1:atI [V.int z0,V.int z1,V.int z2,V.int z3] 1=some (.int z1):=rfl;have a2:atI [V.int z0,V.int z1,V.int z2,V.int z3] 2=some (.int z2):=rfl;have a3:atI [V.int z0,V.int z1,V.int z2,V.int z3] 3=some (.int z3):=rfl;have hpz:H3 pz=some (.lst [V.int z0,V.int z1,V.int z2,V.int z3]):=hpz;have hp3:=s3 _ _ hp;clear hp hS2 s3 npz hz zl;refine gq ?_
  try dsimp only[kP]
  refine ixv rfl (SqL.of hpz) a0 ⟨_,rfl,p,_,rfl,.inl (SqL.of hp3),_,_,rfl,rfl,_,_,rfl,rfl,(by show (0:Int) < _+1;omega),?_⟩
  obtain⟨k,hk⟩:∃k:Nat,z0 % (((st.rows.map V.str).length:Int)+1)=(k:Int):=⟨(z0 % (((st.rows.map V.str).length:Int)+1)).toNat,by
   have:=Int.emod_nonneg z0 (show (((st.rows.map V.str).length:Int)+1)≠0 by omega)
   omega⟩
  have kl:k<=ds.length:=by
   have:=Int.emod_lt_of_pos z0 (show (0:Int) < (((st.rows.map V.str).length:Int)+1) by omega)
   omega
  try dsimp only[kP]
  rw[hk];refine⟨_,rfl,p,_,rfl,.inl (SqL.of hp3),λb hb=>?_⟩
  have npb:p≠b:=aC hp3 hb;have nzb:pz≠b:=aC hpz hb;have s4:aZ H3 (upd H3 b (.lst (st.rows.map V.str))):=aI hb;have hb4:upd H3 b (.lst (st.rows.map V.str)) b=some (.lst (st.rows.map V.str)):=ae;have hp4:=s4 _ _ hp3;have VN:=s4 _ _ hpz
  try dsimp only[kP]
  generalize upd H3 b (.lst (st.rows.map V.str))=H4 at s4 hb4 hp4 VN ⊢;clear s4 hb hpz hp3;refine⟨_,rfl,.inl ⟨rfl,_,SqL.of hb4⟩,_,rfl,ixv rfl (SqL.of VN) a1 ⟨_,rfl,_,n,rfl,n1,n9,λz H5 hz s5=>⟨b,_,_,k,_,rfl,rfl,rfl,s5 _ _ hb4,by omega,by omega,?_⟩⟩⟩
  have hz':DU n z:=hz;have ez:(st.rows.map V.str).take k++V.str z::(st.rows.map V.str).drop k=((ds.take k).map R.cz++z::(ds.drop k).map R.cz).map V.str:=by
   rw[er,<-List.map_take,<-List.map_take,<-List.map_drop,<-List.map_drop,tu,ra]
  rw[ez];have ro:∀x∈(ds.take k).map R.cz++z::(ds.drop k).map R.cz,aiZ x=true:=λx hx=>by
   rcases List.mem_append.mp hx with hx | hx
   ·obtain⟨d,hd,rfl⟩:=List.mem_map.mp hx;exact A6 (rep.ok d (ajG hd))
   ·rcases List.mem_cons.mp hx with rfl | hx
    ·exact hz.2.1.ok
    ·obtain⟨d,hd,rfl⟩:=List.mem_map.mp hx;exact A6 (rep.ok d (ajI hd))
  have lt:((ds.take k).map R.cz).length=k:=by rw[da,ai4];omega
  have ld:((ds.drop k).map R.cz).length+k=ds.length:=by rw[da,ajj];omega
  generalize (ds.drop k).map R.cz=r at ro ez ld ⊢;have hb5:upd H5 b (.lst (((ds.take k).map R.cz++z::r).map V.str)) b=some (.lst (((ds.take k).map R.cz++z::r).map V.str)):=ae;have hp5:upd H5 b (.lst (((ds.take k).map R.cz++z::r).map V.str)) p=some (.lst (st.rows.map V.str)):=(av npb).trans (s5 _ _ hp4);have Rn:upd H5 b (.lst (((ds.take k).map R.cz++z::r).map V.str)) pz=some (.lst [V.int z0,V.int z1,V.int z2,V.int z3]):=(av nzb).trans (s5 _ _ VN)
  try dsimp only[Kc]
  generalize upd H5 b (.lst (((ds.take k).map R.cz++z::r).map V.str))=H6 at hb5 hp5 Rn ⊢;have rl:r.length<=50:=by omega
  refine ixv rfl (SqL.of Rn) a2 ⟨_,_,rfl,rfl,(by show (0:Int) < 2;decide),rfl,_,rfl,gU (λh=>?_) (λh=>?_)⟩
  have ll:((((ds.take k).map R.cz++z::r).map V.str).length:Int)=(k:Int)+1+r.length:=by rw[da,ki,lt,ku];omega
  refine⟨_,rfl,.inl ⟨rfl,_,SqL.of hb5⟩,_,rfl,_,_,rfl,rfl,ixv rfl (SqL.of Rn) a2 ⟨_,_,rfl,rfl,⟨by decide,by decide⟩,_,rfl,b,_,rfl,.inl (SqL.of hb5),_,rfl,_,_,rfl,rfl,_,_,rfl,rfl,(by show (0:Int) < _ - _;omega),_,_,rfl,rfl,ixv rfl (SqL.of Rn) a3 ⟨_,rfl,_,n,rfl,n1,n9,λy H7 hy s7=>?_⟩⟩⟩
  obtain⟨x,hx⟩:∃x:Nat,z2 / 2 % (((((ds.take k).map R.cz++z::r).map V.str).length:Int) - (k:Int))=(x:Int):=⟨(z2 / 2 % (((((ds.take k).map R.cz++z::r).map V.str).length:Int) - (k:Int))).toNat,by
   have:=Int.emod_nonneg (z2 / 2) (show (((((ds.take k).map R.cz++z::r).map V.str).length:Int) - (k:Int))≠0 by omega)
   omega⟩
  have xl:x<=r.length:=by
   have:=Int.emod_lt_of_pos (z2 / 2) (show (0:Int) < (((((ds.take k).map R.cz++z::r).map V.str).length:Int) - (k:Int)) by omega)
   omega
  refine⟨b,_,_,k+(1+x),_,rfl,rfl,by rw[hx];omega,s7 _ _ hb5,by omega,by omega,?_⟩
  have ey:(((ds.take k).map R.cz++z::r).map V.str).take (k+(1+x))++V.str y::(((ds.take k).map R.cz++z::r).map V.str).drop (k+(1+x))=((ds.take k).map R.cz++z::(r.take x++y::r.drop x)).map V.str:=by
   have e:∀B:List Str,B.length=k->(B++z::r).take (k+(1+x))=B++z::r.take x/\(B++z::r).drop (k+(1+x))=r.drop x:=λB h=>by
    subst h;rw[List.take_length_add_append,List.drop_length_add_append,Nat.add_comm 1 x];exact⟨rfl,rfl⟩
   rw[<-List.map_take,<-List.map_drop,(e _ lt).1,(e _ lt).2];simp
  rw[ey];have ro:∀u∈(ds.take k).map R.cz++z::(r.take x++y::r.drop x),aiZ u=true:=λu hu=>by
   rcases List.mem_append.mp hu with hu | hu
   ·exact ro u (aiJ _ hu)
   ·rcases List.mem_cons.mp hu with rfl | hu
    ·exact hz.2.1.ok
    ·rcases List.mem_append.mp hu with hu | hu
     ·exact ro u (ka _ (kj _ (ajG hu)))
     ·rcases List.mem_cons.mp hu with rfl | hu
      ·exact hy.2.1.ok
      ·exact ro u (ka _ (kj _ (ajI hu)))
  have hb5:upd H7 b (.lst (((ds.take k).map R.cz++z::(r.take x++y::r.drop x)).map V.str)) b=some (.lst (((ds.take k).map R.cz++z::(r.take x++y::r.drop x)).map V.str)):=ae;have hp5:upd H7 b (.lst (((ds.take k).map R.cz++z::(r.take x++y::r.drop x)).map V.str)) p=some (.lst (st.rows.map V.str)):=(av npb).trans (s7 _ _ hp5);generalize upd H7 b (.lst (((ds.take k).map R.cz++z::(r.take x++y::r.drop x)).map V.str))=H6 at hb5 hp5 ⊢;generalize r.take x++y::r.drop x=r at ro hb5 ⊢
  all_goals
   try dsimp only[Kc]
   refine⟨_,rfl,b,_,rfl,.inl (SqL.of hb5),λh hh=>?_⟩
   have nph:p≠h:=aC hp5 hh;have s7:aZ H6 (upd H6 h (.lst (((ds.take k).map R.cz++z::r).map V.str))):=aI hh;refine⟨_,rfl,_,rfl,_,rfl,_,_,rfl,rfl,n,h,ds,st,k,z,r,rfl,ae,rep,hdl,kl,hz,λH8 s8=>⟨_,rfl,eu ?_⟩⟩
   have hb8:=s8 _ _ (s7 _ _ hb5);have hh8:=s8 _ _ (ae (H:=H6) (a:=h) (o:=.lst (((ds.take k).map R.cz++z::r).map V.str)));have hp8:=s8 _ _ (s7 _ _ hp5);have ly:=Fc ro;have dp:∀xs:List Str,(PyData.list (xs.map aja)).depth<=64:=λxs=>rf (OQ _) (by decide)
   refine⟨_,rfl,_,rfl,_,_,pH (SqL.of hh8),pH (SqL.of hb8),sZ ly (dp _),sZ ly (dp _),_,rfl,Ur (eqv_refl _ ly) ?_⟩
   try dsimp only[Kc]
   refine⟨_,rfl,_,rfl,p,_,rfl,.inl (SqL.of hp8),λg hg=>⟨n,g,ds,st,rfl,ae,rep,hdl,λo c9 H9 s9 ch9=>?_⟩⟩
   refine aT λGq gq=>?_
   have hp9:=s9.keep _ _ ((aI (o:=.lst (st.rows.map V.str)) hg) _ _ hp8) aS;obtain⟨dx,aM,aP,aA,aD,aF,aE,aR,ms,dss,ws,fs,es,X⟩:=ch9.ex;have ly2:=Fc rep.aaq;refine gq ?_;exact⟨o,dx,_,rfl,X.ob,dZ (by trivial),o,c9,st,rfl,ch9,λm hm=>⟨_,rfl,_,_,pH (SqL.of ae),pH (SqL.of ((av (aC hp9 hm)).trans hp9)),sZ ly2 (dp _),sZ ly2 (dp _),by rw[eqv_refl _ ly2];exact q _⟩⟩
end
set_option maxHeartbeats 0 in
theorem all_mk {l:PySem.W.OpenLaw}{w:World}{K:bo}{h:Heap}{mg:Str->Option Value}{P:Params}{fa f_1 f_2 f_3 f_4 f_5 f_6 f_7 f_8 f_9 Ro Rp Rq Rr Rt Ru Rv Rw Rx Ry Rz RA RB RC RD RE RF RG RH RI RJ RK RL RM RN RO RP RQ RS VO qO c0 c1 c2 c3 c4 c5 c6 c7 cm tb Fp Fq Fs Ft Fu Fv Fw Fx ym A8 Fy IV Fz FA FC FD FE FF FG FH FI FJ a7 cK cL cM cN cO b6 b7 aX bc cq bA bM br bt bN aK bZ bz bU bV aV bj bp bq cw bW bO mB jb mD pd:Addr}(X:K.In h)(G:h.Ns gr mg)(hfa:mg "law"=some (.ref fa))(hP:w.params=P)
  {agH agI agJ agK agL agM agN agO agP agQ agR agS agT agU agV agW agX agY aau aav aaw aax aay aaz aaA aaB aaC aaD aaE aaF aaG aaH aaI aaJ aaK aaL aaM aaN aaO aaP aaQ aaR aaS aaT aaU aaV aaW aaX aaY aaZ aa0 aa1 aa2 aa3 aa4 aa5 aa6 aa7 aa8 aa9 aba abb abc abd abe abf abg abh abi abj abk abl abm abn abo abp abq Sy VP VQ VR VS VT VU VV VW VX VY VZ V0 V1 V2 V3 V4 abr abt abu abv V5 V6 abw abx V7 V8 V9 Wa Wb Wc Wd We Wf Wg Wh Wi Wj Wk Wl Wm Wn Wo Wq Ws yn yo yq yr yt yu yw yx yy yz uo uq ur uu jz jA mE mF vI vJ pe pf rP rQ nI nJ nK nM rR rS FK FL Bz BA FN FO IW IZ:Option Addr} {agZ ag0 ag1 ag2 ag3 ag4 ag5 ag6 ag7 aby abz abA abB abC abD abE abF abG abH abI abJ abK abL abM abN abO abP abQ abR abS abT abU abV abW abX abY abZ ab0 ab1 Wt Wu Wv Ww Wx Wy Wz WA ab2 ab3 WB ab4 WC WD WE WG WH WI WJ WK WL WM yA yB yC yD yE uv uw jB mG vK ph rT nO nP rV FP BB FQ I0:Array (Option Value)} {ag8 ag9 aha ahb ab5 ahc ahd ahe ahf ahg ab6 ahh ahi ahj ahk ahl ab7 ahm ahn aho ahp ahq ab8 ahr ahs aht ahu ahv ab9 ahw ahx ahy ahz ahA aca ahB ahC ahD ahE ahF acb ahG ahH ahI ahJ ahK acd ahL ahM ahN ahO ahP ace ahQ acf acg ach aci Sz acj ack acn aco acp SA acq acr acs acu acv SD acw acx acy acz acA SE acB acC acD acE acF SG acG acH acI acJ acK SH acL acM acN acO acP SI acQ acR acS acT acU SJ acV acW acX acY acZ SK ac8 ac9 ada adb ade SM adf adg adh adi adj SN adk adl adn ado adp SO adq ads adt adu adv SQ adw adx ady adz adA SR adB adC adD adE adF SS adG adH adI adJ adK SU adL adM adN adO adP SV adQ adR adS adT adU SW adV adW adX adY adZ SX ad0 ad1 ad2 ad3 ad4 SY ad5 ad6 ad7 ad8 ad9 S0 aea aeb aec aed aee S1 aef aeg aeh aei aej S2 aek ael aem aen aeo S3 aep aeq aer aes aet S4 aeu aev aew aex aey S5 aez aeA aeB aeC aeD S6 aeE aeF aeG aeH aeI S7 aeJ aeK aeL aeM aeN S8 aeO aeP S9 Ta Tb OY Tc WN WO WQ WR OZ WS WT WU WV WW O0 WX WY WZ W0 W2 O1 W3 W4 W5 W6 W7 O2 W8 W9 Xa Xb Xd O3 Xe Xf Xg Xh Xi O4 Xj Xk Xl Xm Xn O5 Xo Xp Xq Xr Xs O6 Xt aeQ aeR aeS aeT Td aeU aeV aeW aeX aeY Te aeZ Xu Xv Xw Xx O7 Xy ae0 ae1 ae2 ae3 Tf ae4 Xz XA XB XC O8 XD XE XF XG XH O9 XI XJ XM XN XO Pa XQ XR XS XT XU Pb XW XX XY XZ X0 Pc X9 Ya Yb Yc Yd Pd Ye Yf Yg Yh Yi Pe Yj Yk Yl Ym Yn Pf Yo Yp Yq Yr Ys Pg Yt Yu Yv Yw Yx Ph Yy yF yG yH yI qu yJ yK yL yM yN qv yO yP yQ yR yS qw yT yU yV yW yX qy yY yZ y3 y4 y6 qz y7 ux uy uz uA mH uB uC uD uE uF mI uG jC jD jE jF fh jG mJ mK mL mM gJ mO vL vM vN vO nr vP pj pq pw pA iN pB rW rX rY rZ j5 r6 nQ nR nS nU hV nW nX nY nZ n8 hX oa r8 r9 sf sv j6 sx FR FT FU FV xT FW BC BD BE BF tL BG FX FY FZ F0 xU F2 I9 Ja Jb Jc A9 Jd:Value} {pS hZ jH ia pT RT RU RV RW jI tr0 tr1 tr2 tr3 tr4 tr5 tr6 tr7:Tok} {Yz:Option Addr} {YA:Nat} {YB:Array (Option Value)} {est:Array ajp} {nt:Nat} {DZ:Addr} {Pj:Value} {Pk:Option Addr} {F3:Array ajp} {Pl:Nat} {Pm:Array (Option Value)} {mP:Addr} {y8:Value} {y9:Option Addr} {qA:Array ajp} {zb:Nat} {zd:Array (Option Value)} {uH:Addr} {F4:Value} {F5:Option Addr} {xV:Array ajp} {F6:Nat} {F7:Array (Option Value)} {uI:Addr} {F8:Value} {F9:Option Addr} {xW:Array ajp} {Ga:Nat} {Gb:Array (Option Value)} {xh:Addr} {Je:Value} {Jf:Option Addr} {Ba:Array ajp} {Jg:Nat} {Jh:Array (Option Value)} {xj:Addr} {Ji:Value} {Jj:Option Addr} {Bb:Array ajp} {Jk:Nat} {Jl:Array (Option Value)} {xm:Addr} {Jm:Value} {Jn:Option Addr} {Bc:Array ajp} {Jo:Nat} {Jp:Array (Option Value)} {uJ:Addr} {Gd:Value} {Ge:Option Addr} {xX:Array ajp} {Gf:Nat} {Gg:Array (Option Value)} {Bd:Addr} {L3:Value} {L4:Option Addr} {Cw:Array ajp} {L5:Nat} {L6:Array (Option Value)} {uK:Addr} {Gh:Value} {Gi:Option Addr} {xY:Array ajp} {Gj:Nat} {Gk:Array (Option Value)} {Be:Addr} {L7:Value} {L8:Option Addr} {Cy:Array ajp} {L9:Nat} {Ma:Array (Option Value)} {D0:Addr} {Pn:Value} {Po:Option Addr} {Gm:Array ajp} {Pp:Nat} {Pq:Array (Option Value)} {Pr RX:Str} {Pt:List Value} {Pu:List Str} {Pw:List Value} {Px:Bool} {Py:Option Bool} {Pz:Option Addr} {PB PD PF PH PK:Option Value} {PL:Bool}{PM:ajU} {Gn Jq:Str} {Gp:List Value} {Gr:List Str} {Gs:List Value} {Gu:Bool} {Gv:Option Bool} {Gw:Option Addr} {Gx Gy Gz GA GB:Option Value} {GC:Bool}{GD:ajU} {GF Jr:Str} {GG:List Value} {GH:List Str} {GI:List Value} {GJ:Bool} {GK:Option Bool} {GL:Option Addr} {GN GO GP GQ GR:Option Value} {GS:Bool}{GU:ajU} {Js Mb:Str} {Jt:List Value} {Ju:List Str} {Jv:List Value} {Jw:Bool} {Jx:Option Bool} {Jy:Option Addr} {Jz JA JB JC JD:Option Value} {JE:Bool}{JF:ajU} {JG Mc:Str} {JH:List Value} {JI:List Str} {JJ:List Value} {JK:Bool} {JL:Option Bool} {JM:Option Addr} {JN JO JP JQ JR:Option Value} {JS:Bool}{JT:ajU} {JU Md:Str} {JV:List Value} {JW:List Str} {JX:List Value} {JY:Bool} {JZ:Option Bool} {J0:Option Addr} {J1 J2 J3 J4 J5:Option Value} {J6:Bool}{J7:ajU} {GV J8:Str} {GW:List Value} {GX:List Str} {GY:List Value} {GZ:Bool} {G0:Option Bool} {G1:Option Addr} {G2 G3 G4 G5 G6:Option Value} {G7:Bool}{G8:ajU} {Me PN:Str} {Mf:List Value} {Mg:List Str} {Mh:List Value} {Mi:Bool} {Mj:Option Bool} {Ml:Option Addr} {Mm Mo Mp Mq Mr:Option Value} {Ms:ajU} {G9 J9:Str} {Ha:List Value} {Hb:List Str} {Hc:List Value} {Hd:Bool} {He:Option Bool} {Hf:Option Addr} {Hg Hh Hi Hl Hm:Option Value} {Hn:ajU} {Mt PQ:Str} {Mu:List Value} {Mv:List Str} {Mw:List Value} {Mx:Bool} {Mz:Option Bool} {MA:Option Addr} {MB MC MD ME MF:Option Value} {MG:ajU} {PR RY:Str} {PU:List Value} {PV:List Str} {PX:List Value} {PY:Bool} {PZ:Option Bool} {P0:Option Addr} {P1 P2 P4 P5 P6:Option Value} {P7:ajU} {Bf:Value} {ze:Option Addr} {qB:ajU} {zf:Array (Option Value)}
  (a_1:eg K gr "fits"=some (some (.ref f_1)))
  (l_1:K.lookup f_1=some ⟨ag8,agH,.func (gn "fits" "fits" (aB vZ) (aw vZ) (af vZ) .none ag9 aha ahb agI ab5 ahc),agZ⟩)
  (cc_1:fu K ab5 "fits"=true)
  (kp_1:di K (.ref f_1)=true)
  (a_2:eg K gr "require_fit"=some (some (.ref f_2)))
  (l_2:K.lookup f_2=some ⟨ahd,agJ,.func (gn "require_fit" "require_fit" (aB fV) (aw fV) (af fV) .none ahe ahf ahg agK ab6 ahh),ag0⟩)
  (cc_2:fu K ab6 "require_fit"=true)
  (kp_2:di K (.ref f_2)=true)
  (a_3:eg K gr "laid"=some (some (.ref f_3)))
  (l_3:K.lookup f_3=some ⟨ahi,agL,.func (gn "laid" "laid" (aB wc) (aw wc) (af wc) .none ahj ahk ahl agM ab7 ahm),ag1⟩)
  (cc_3:fu K ab7 "laid"=true)
  (kp_3:di K (.ref f_3)=true)
  (a_4:eg K gr "words_of"=some (some (.ref f_4)))
  (l_4:K.lookup f_4=some ⟨ahn,agN,.func (gn "words_of" "words_of" (aB jg) (aw jg) (af jg) .none aho ahp ahq agO ab8 ahr),ag2⟩)
  (cc_4:fu K ab8 "words_of"=true)
  (kp_4:di K (.ref f_4)=true)
  (a_5:eg K gr "clause_of"=some (some (.ref f_5)))
  (l_5:K.lookup f_5=some ⟨ahs,agP,.func (gn "clause_of" "clause_of" (aB iA) (aw iA) (af iA) .none aht ahu ahv agQ ab9 ahw),ag3⟩)
  (cc_5:fu K ab9 "clause_of"=true)
  (kp_5:di K (.ref f_5)=true)
  (a_6:eg K gr "motion_of"=some (some (.ref f_6)))
  (l_6:K.lookup f_6=some ⟨ahx,agR,.func (gn "motion_of" "motion_of" (aB iB) (aw iB) (af iB) .none ahy ahz ahA agS aca ahB),ag4⟩)
  (cc_6:fu K aca "motion_of"=true)
  (kp_6:di K (.ref f_6)=true)
  (a_7:eg K gr "bar_of"=some (some (.ref f_7)))
  (l_7:K.lookup f_7=some ⟨ahC,agT,.func (gn "bar_of" "bar_of" (aB oy) (aw oy) (af oy) .none ahD ahE ahF agU acb ahG),ag5⟩)
  (cc_7:fu K acb "bar_of"=true)
  (kp_7:di K (.ref f_7)=true)
  (a_8:eg K gr "has_matter"=some (some (.ref f_8)))
  (l_8:K.lookup f_8=some ⟨ahH,agV,.func (gn "has_matter" "has_matter" (aB fq) (aw fq) (af fq) .none ahI ahJ ahK agW acd ahL),ag6⟩)
  (cc_8:fu K acd "has_matter"=true)
  (kp_8:di K (.ref f_8)=true)
  (a_9:eg K gr "can_be_mended"=some (some (.ref f_9)))
  (l_9:K.lookup f_9=some ⟨ahM,agX,.func (gn "can_be_mended" "can_be_mended" (aB d9) (aw d9) (af d9) .none ahN ahO ahP agY ace ahQ),ag7⟩)
  (cc_9:fu K ace "can_be_mended"=true)
  (kp_9:di K (.ref f_9)=true)
  (a_10:eg K gr "has_what_it_needs"=some (some (.ref Ro)))
  (l_10:K.lookup Ro=some ⟨acf,aau,.func (gn "has_what_it_needs" "has_what_it_needs" (aB cV) (aw cV) (af cV) .none acg ach aci aav Sz acj),aby⟩)
  (jq7o:fu K Sz "has_what_it_needs"=true)
  (jq7p:di K (.ref Ro)=true)
  (a_11:eg K gr "require_in_order"=some (some (.ref Rp)))
  (l_11:K.lookup Rp=some ⟨ack,aaw,.func (gn "require_in_order" "require_in_order" (aB df) (aw df) (af df) .none acn aco acp aax SA acq),abz⟩)
  (jq7q:fu K SA "require_in_order"=true)
  (jq7r:di K (.ref Rp)=true)
  (a_12:eg K gr "require"=some (some (.ref Rq)))
  (l_12:K.lookup Rq=some ⟨acr,aay,.func (gn "require" "require" (aB lG) (aw lG) (af lG) .none acs acu acv aaz SD acw),abA⟩)
  (jq7s:fu K SD "require"=true)
  (jq7t:di K (.ref Rq)=true)
  (a_13:eg K gr "is_sign"=some (some (.ref Rr)))
  (l_13:K.lookup Rr=some ⟨acx,aaA,.func (gn "is_sign" "is_sign" (aB lH) (aw lH) (af lH) .none acy acz acA aaB SE acB),abB⟩)
  (jq7u:fu K SE "is_sign"=true)
  (jq7v:di K (.ref Rr)=true)
  (a_14:eg K gr "is_word"=some (some (.ref Rt)))
  (l_14:K.lookup Rt=some ⟨acC,aaC,.func (gn "is_word" "is_word" (aB jh) (aw jh) (af jh) .none acD acE acF aaD SG acG),abC⟩)
  (jq7w:fu K SG "is_word"=true)
  (jq7x:di K (.ref Rt)=true)
  (a_15:eg K gr "is_number"=some (some (.ref Ru)))
  (l_15:K.lookup Ru=some ⟨acH,aaE,.func (gn "is_number" "is_number" (aB gv) (aw gv) (af gv) .none acI acJ acK aaF SH acL),abD⟩)
  (jq7y:fu K SH "is_number"=true)
  (jq7z:di K (.ref Ru)=true)
  (a_16:eg K gr "read_number"=some (some (.ref Rv)))
  (l_16:K.lookup Rv=some ⟨acM,aaG,.func (gn "read_number" "read_number" (aB fW) (aw fW) (af fW) .none acN acO acP aaH SI acQ),abE⟩)
  (jq7A:fu K SI "read_number"=true)
  (jq7B:di K (.ref Rv)=true)
  (a_17:eg K gr "read_clause"=some (some (.ref Rw)))
  (l_17:K.lookup Rw=some ⟨acR,aaI,.func (gn "read_clause" "read_clause" (aB eG) (aw eG) (af eG) .none acS acT acU aaJ SJ acV),abF⟩)
  (jq7C:fu K SJ "read_clause"=true)
  (jq7D:di K (.ref Rw)=true)
  (a_18:eg K gr "read_text"=some (some (.ref Rx)))
  (l_18:K.lookup Rx=some ⟨acW,aaK,.func (gn "read_text" "read_text" (aB gw) (aw gw) (af gw) .none acX acY acZ aaL SK ac8),abG⟩)
  (jq7E:fu K SK "read_text"=true)
  (jq7F:di K (.ref Rx)=true)
  (a_19:eg K gr "read_edit"=some (some (.ref Ry)))
  (l_19:K.lookup Ry=some ⟨ac9,aaM,.func (gn "read_edit" "read_edit" (aB iC) (aw iC) (af iC) .none ada adb ade aaN SM adf),abH⟩)
  (jq7G:fu K SM "read_edit"=true)
  (jq7H:di K (.ref Ry)=true)
  (a_20:eg K gr "read_mend"=some (some (.ref Rz)))
  (l_20:K.lookup Rz=some ⟨adg,aaO,.func (gn "read_mend" "read_mend" (aB iD) (aw iD) (af iD) .none adh adi adj aaP SN adk),abI⟩)
  (jq7I:fu K SN "read_mend"=true)
  (jq7J:di K (.ref Rz)=true)
  (a_21:eg K gr "read_sitting"=some (some (.ref RA)))
  (l_21:K.lookup RA=some ⟨adl,aaQ,.func (gn "read_sitting" "read_sitting" (aB eZ) (aw eZ) (af eZ) .none adn ado adp aaR SO adq),abJ⟩)
  (jq7K:fu K SO "read_sitting"=true)
  (jq7L:di K (.ref RA)=true)
  (a_22:eg K gr "read_deed"=some (some (.ref RB)))
  (l_22:K.lookup RB=some ⟨ads,aaS,.func (gn "read_deed" "read_deed" (aB iE) (aw iE) (af iE) .none adt adu adv aaT SQ adw),abK⟩)
  (jq7M:fu K SQ "read_deed"=true)
  (jq7N:di K (.ref RB)=true)
  (a_23:eg K gr "words_of_text"=some (some (.ref RC)))
  (l_23:K.lookup RC=some ⟨adx,aaU,.func (gn "words_of_text" "words_of_text" (aB ee) (aw ee) (af ee) .none ady adz adA aaV SR adB),abL⟩)
  (jq7O:fu K SR "words_of_text"=true)
  (jq7P:di K (.ref RC)=true)
  (a_24:eg K gr "words_of_edit"=some (some (.ref RD)))
  (l_24:K.lookup RD=some ⟨adC,aaW,.func (gn "words_of_edit" "words_of_edit" (aB ef) (aw ef) (af ef) .none adD adE adF aaX SS adG),abM⟩)
  (jq7Q:fu K SS "words_of_edit"=true)
  (jq7R:di K (.ref RD)=true)
  (a_25:eg K gr "words_behind"=some (some (.ref RE)))
  (l_25:K.lookup RE=some ⟨adH,aaY,.func (gn "words_behind" "words_behind" (aB dW) (aw dW) (af dW) .none adI adJ adK aaZ SU adL),abN⟩)
  (jq7S:fu K SU "words_behind"=true)
  (jq7T:di K (.ref RE)=true)
  (a_26:eg K gr "show_deed"=some (some (.ref RF)))
  (l_26:K.lookup RF=some ⟨adM,aa0,.func (gn "show_deed" "show_deed" (aB iF) (aw iF) (af iF) .none adN adO adP aa1 SV adQ),abO⟩)
  (jq7U:fu K SV "show_deed"=true)
  (jq7V:di K (.ref RF)=true)
  (a_27:eg K gr "is_kept"=some (some (.ref RG)))
  (l_27:K.lookup RG=some ⟨adR,aa2,.func (gn "is_kept" "is_kept" (aB lI) (aw lI) (af lI) .none adS adT adU aa3 SW adV),abP⟩)
  (jq7W:fu K SW "is_kept"=true)
  (jq7X:di K (.ref RG)=true)
  (a_28:eg K gr "do_deed"=some (some (.ref RH)))
  (l_28:K.lookup RH=some ⟨adW,aa4,.func (gn "do_deed" "do_deed" (aB lJ) (aw lJ) (af lJ) .none adX adY adZ aa5 SX ad0),abQ⟩)
  (jq7Y:fu K SX "do_deed"=true)
  (jq7Z:di K (.ref RH)=true)
  (a_29:eg K gr "do_row"=some (some (.ref RI)))
  (l_29:K.lookup RI=some ⟨ad1,aa6,.func (gn "do_row" "do_row" (aB oF) (aw oF) (af oF) .none ad2 ad3 ad4 aa7 SY ad5),abR⟩)
  (jq80:fu K SY "do_row"=true)
  (jq81:di K (.ref RI)=true)
  (a_30:eg K gr "replay"=some (some (.ref RJ)))
  (l_30:K.lookup RJ=some ⟨ad6,aa8,.func (gn "replay" "replay" (aB oG) (aw oG) (af oG) .none ad7 ad8 ad9 aa9 S0 aea),abS⟩)
  (jq82:fu K S0 "replay"=true)
  (jq83:di K (.ref RJ)=true)
  (a_31:eg K gr "_law_cell_at"=some (some (.ref RK)))
  (l_31:K.lookup RK=some ⟨aeb,aba,.func (gn "_law_cell_at" "_law_cell_at" (aB iG) (aw iG) (af iG) .none aec aed aee abb S1 aef),abT⟩)
  (jq84:fu K S1 "_law_cell_at"=true)
  (jq85:di K (.ref RK)=true)
  (a_32:eg K gr "_law_whole"=some (some (.ref RL)))
  (l_32:K.lookup RL=some ⟨aeg,abc,.func (gn "_law_whole" "_law_whole" (aB lK) (aw lK) (af lK) .none aeh aei aej abd S2 aek),abU⟩)
  (jq86:fu K S2 "_law_whole"=true)
  (jq87:di K (.ref RL)=true)
  (a_33:eg K gr "_law_stream"=some (some (.ref RM)))
  (l_33:K.lookup RM=some ⟨ael,abe,.func (gn "_law_stream" "_law_stream" (aB jj) (aw jj) (af jj) .none aem aen aeo abf S3 aep),abV⟩)
  (jq88:fu K S3 "_law_stream"=true)
  (jq89:di K (.ref RM)=true)
  (a_34:eg K gr "_law_deed"=some (some (.ref RN)))
  (l_34:K.lookup RN=some ⟨aeq,abg,.func (gn "_law_deed" "_law_deed" (aB oH) (aw oH) (af oH) .none aer aes aet abh S4 aeu),abW⟩)
  (jq8a:fu K S4 "_law_deed"=true)
  (jq8b:di K (.ref RN)=true)
  (a_35:eg K gr "_law_done"=some (some (.ref RO)))
  (l_35:K.lookup RO=some ⟨aev,abi,.func (gn "_law_done" "_law_done" (aB oI) (aw oI) (af oI) .none aew aex aey abj S5 aez),abX⟩)
  (jq8c:fu K S5 "_law_done"=true)
  (jq8d:di K (.ref RO)=true)
  (a_36:eg K gr "_law_minutes"=some (some (.ref RP)))
  (l_36:K.lookup RP=some ⟨aeA,abk,.func (gn "_law_minutes" "_law_minutes" (aB iH) (aw iH) (af iH) .none aeB aeC aeD abl S6 aeE),abY⟩)
  (jq8e:fu K S6 "_law_minutes"=true)
  (jq8f:di K (.ref RP)=true)
  (a_37:eg K gr "_law_bad"=some (some (.ref RQ)))
  (l_37:K.lookup RQ=some ⟨aeF,abm,.func (gn "_law_bad" "_law_bad" (aB sM) (aw sM) (af sM) .none aeG aeH aeI abn S7 aeJ),abZ⟩)
  (jq8g:fu K S7 "_law_bad"=true)
  (jq8h:di K (.ref RQ)=true)
  (a_38:eg K gr "_law_refused"=some (some (.ref RS)))
  (l_38:K.lookup RS=some ⟨aeK,abo,.func (gn "_law_refused" "_law_refused" (aB iI) (aw iI) (af iI) .none aeL aeM aeN abp S8 aeO),ab0⟩)
  (jq8i:fu K S8 "_law_refused"=true)
  (jq8j:di K (.ref RS)=true)
  (a_39:eg K gr "law"=some (some (.ref VO)))
  (l_39:K.lookup VO=some ⟨aeP,abq,.func (gn "law" "law" (aB u5) (aw u5) (af u5) .none S9 Ta Tb Sy OY Tc),ab1⟩)
  (jq8k:fu K OY "law"=true)
  (jq8l:di K (.ref VO)=true)
  (z1:eg K gr "range"=some none)
  (z2:eg K gr "list"=some none)
  (z3:eg K gr "str"=some none)
  (z4:eg K gr "int"=some none)
  (z5:eg K gr "bool"=some none)
  (z6:eg K gr "isinstance"=some none)
  (z7:eg K gr "max"=some none)
  (z8:eg K gr "len"=some none)
  (z9:eg K gr "all"=some none)
  (z10:eg K gr "any"=some none)
  (z11:eg K gr "ord"=some none)
  (z12:eg K gr "enumerate"=some none)
  (z13:eg K gr "ValueError"=some none)
  (jq4j:eg K gr "FIGURES"=some (some (.str (ar "0123456789") pS)))
  (jq2L:eg K gr "MOST_FIGURES"=some (some (.int 10 hZ)))
  (jq3d:eg K gr "MOST_SIGNS"=some (some (.int 20 jH)))
  (jq2M:eg K gr "LAST_SITTING"=some (some (.int 999999999 ia)))
  (jq4k:eg K gr "PERCENT"=some (some (.int 37 pT)))
  (jq5P:eg K gr "LONE"=some (some (.ref qO)))
  (jq5Q:K.lookup qO=some ⟨.type "tuple",Yz,.seq #[.str (ar "close") RT,.str (ar "lay") RU,.str (ar "rest") RV,.str (ar "drop") RW] YA,YB⟩)
  (jq3e:eg K gr "CLOSED_BAR"=some (some (.int 4 jI)))
  (ac0:eg K gr "Matter"=some (some (.ref c0)))
  (ac1:eg K gr "Change"=some (some (.ref c1)))
  (ac2:eg K gr "Mend"=some (some (.ref c2)))
  (ac3:eg K gr "PutOff"=some (some (.ref c3)))
  (ac4:eg K gr "Close"=some (some (.ref c4)))
  (ac5:eg K gr "Lay"=some (some (.ref c5)))
  (ac6:eg K gr "Rest"=some (some (.ref c6)))
  (ac7:eg K gr "Point"=some (some (.ref c7)))
  (acm:eg K gr "Motion"=some (some (.ref cm)))
  (atb:eg K gr "RANKS"=some (some (.ref tb)))
  (ltb:K.lookup tb=some ⟨.type "dict",none,.dict est nt,#[]⟩)
  (ktb:PySem.W.KeysLit P est.toList)
  (rk0:eg K tb (ar "matter")=some (some (.int 0 tr0)))
  (rk1:eg K tb (ar "change")=some (some (.int 1 tr1)))
  (rk2:eg K tb (ar "mend")=some (some (.int 2 tr2)))
  (rk3:eg K tb (ar "put off")=some (some (.int 3 tr3)))
  (rk4:eg K tb (ar "close")=some (some (.int 4 tr4)))
  (rk5:eg K tb (ar "lay")=some (some (.int 5 tr5)))
  (rk6:eg K tb (ar "rest")=some (some (.int 6 tr6)))
  (rk7:eg K tb (ar "point")=some (some (.int 7 tr7)))
  (pg0:ai3 K c0 aiT=true)
  (hd0:aiH K c0=true)
  (po0:ai8 K c0=true)
  (sa0:cb K (.ref c0) "__setattr__"=some (some (.builtin "object.__setattr__")))
  (mk0:ajc K c0=true)
  (kc0:di K (.ref c0)=true)
  (pg1:ai3 K c1 aiT=true)
  (hd1:aiH K c1=true)
  (po1:ai8 K c1=true)
  (sa1:cb K (.ref c1) "__setattr__"=some (some (.builtin "object.__setattr__")))
  (mk1:ajc K c1=true)
  (kc1:di K (.ref c1)=true)
  (pg2:ai3 K c2 aiT=true)
  (hd2:aiH K c2=true)
  (po2:ai8 K c2=true)
  (sa2:cb K (.ref c2) "__setattr__"=some (some (.builtin "object.__setattr__")))
  (mk2:ajc K c2=true)
  (kc2:di K (.ref c2)=true)
  (pg3:ai3 K c3 aiT=true)
  (hd3:aiH K c3=true)
  (po3:ai8 K c3=true)
  (sa3:cb K (.ref c3) "__setattr__"=some (some (.builtin "object.__setattr__")))
  (mk3:ajc K c3=true)
  (kc3:di K (.ref c3)=true)
  (pg4:ai3 K c4 aiT=true)
  (hd4:aiH K c4=true)
  (po4:ai8 K c4=true)
  (sa4:cb K (.ref c4) "__setattr__"=some (some (.builtin "object.__setattr__")))
  (mk4:ajc K c4=true)
  (kc4:di K (.ref c4)=true)
  (pg5:ai3 K c5 aiT=true)
  (hd5:aiH K c5=true)
  (po5:ai8 K c5=true)
  (sa5:cb K (.ref c5) "__setattr__"=some (some (.builtin "object.__setattr__")))
  (mk5:ajc K c5=true)
  (kc5:di K (.ref c5)=true)
  (pg6:ai3 K c6 aiT=true)
  (hd6:aiH K c6=true)
  (po6:ai8 K c6=true)
  (sa6:cb K (.ref c6) "__setattr__"=some (some (.builtin "object.__setattr__")))
  (mk6:ajc K c6=true)
  (kc6:di K (.ref c6)=true)
  (pg7:ai3 K c7 aiT=true)
  (hd7:aiH K c7=true)
  (po7:ai8 K c7=true)
  (sa7:cb K (.ref c7) "__setattr__"=some (some (.builtin "object.__setattr__")))
  (mk7:ajc K c7=true)
  (kc7:di K (.ref c7)=true)
  (jq5R:cb K (.ref c0) "kind"=some (some (.ref Fp)))
  (jq8m:K.lookup Fp=some ⟨WN,VP,.func (gn "kind" "Matter.kind" (aB fF) (aw fF) (af fF) .none WO WQ WR VQ OZ WS),Wt⟩)
  (jq6p:fu K OZ "Matter.kind"=true)
  (jq5S:di K (.ref Fp)=true)
  (jq6q:me K (.ref Fp)=true)
  (jq5T:cb K (.ref c1) "kind"=some (some (.ref Fq)))
  (jq8n:K.lookup Fq=some ⟨WT,VR,.func (gn "kind" "Change.kind" (aB fG) (aw fG) (af fG) .none WU WV WW VS O0 WX),Wu⟩)
  (jq6r:fu K O0 "Change.kind"=true)
  (jq5U:di K (.ref Fq)=true)
  (jq6s:me K (.ref Fq)=true)
  (jq5V:cb K (.ref c2) "kind"=some (some (.ref Fs)))
  (jq8o:K.lookup Fs=some ⟨WY,VT,.func (gn "kind" "Mend.kind" (aB iw) (aw iw) (af iw) .none WZ W0 W2 VU O1 W3),Wv⟩)
  (jq6t:fu K O1 "Mend.kind"=true)
  (jq5W:di K (.ref Fs)=true)
  (jq6u:me K (.ref Fs)=true)
  (jq5X:cb K (.ref c3) "kind"=some (some (.ref Ft)))
  (jq8p:K.lookup Ft=some ⟨W4,VV,.func (gn "kind" "PutOff.kind" (aB fH) (aw fH) (af fH) .none W5 W6 W7 VW O2 W8),Ww⟩)
  (jq6v:fu K O2 "PutOff.kind"=true)
  (jq5Y:di K (.ref Ft)=true)
  (jq6w:me K (.ref Ft)=true)
  (jq5Z:cb K (.ref c4) "kind"=some (some (.ref Fu)))
  (jq8q:K.lookup Fu=some ⟨W9,VX,.func (gn "kind" "Close.kind" (aB gL) (aw gL) (af gL) .none Xa Xb Xd VY O3 Xe),Wx⟩)
  (jq6x:fu K O3 "Close.kind"=true)
  (jq60:di K (.ref Fu)=true)
  (jq6y:me K (.ref Fu)=true)
  (jq61:cb K (.ref c5) "kind"=some (some (.ref Fv)))
  (jq8r:K.lookup Fv=some ⟨Xf,VZ,.func (gn "kind" "Lay.kind" (aB jf) (aw jf) (af jf) .none Xg Xh Xi V0 O4 Xj),Wy⟩)
  (jq6z:fu K O4 "Lay.kind"=true)
  (jq62:di K (.ref Fv)=true)
  (jq6A:me K (.ref Fv)=true)
  (jq63:cb K (.ref c6) "kind"=some (some (.ref Fw)))
  (jq8s:K.lookup Fw=some ⟨Xk,V1,.func (gn "kind" "Rest.kind" (aB ix) (aw ix) (af ix) .none Xl Xm Xn V2 O5 Xo),Wz⟩)
  (jq6B:fu K O5 "Rest.kind"=true)
  (jq64:di K (.ref Fw)=true)
  (jq6C:me K (.ref Fw)=true)
  (jq65:cb K (.ref c7) "kind"=some (some (.ref Fx)))
  (jq8t:K.lookup Fx=some ⟨Xp,V3,.func (gn "kind" "Point.kind" (aB gM) (aw gM) (af gM) .none Xq Xr Xs V4 O6 Xt),WA⟩)
  (jq6D:fu K O6 "Point.kind"=true)
  (jq66:di K (.ref Fx)=true)
  (jq6E:me K (.ref Fx)=true)
  (jq6F:cb K (.ref c0) "rank"=some (some (.ref ym)))
  (jq6G:cb K (.ref c1) "rank"=some (some (.ref ym)))
  (jq6H:cb K (.ref c2) "rank"=some (some (.ref ym)))
  (jq6I:cb K (.ref c3) "rank"=some (some (.ref ym)))
  (jq6J:cb K (.ref c4) "rank"=some (some (.ref ym)))
  (jq6K:cb K (.ref c5) "rank"=some (some (.ref ym)))
  (jq6L:cb K (.ref c6) "rank"=some (some (.ref ym)))
  (jq6M:cb K (.ref c7) "rank"=some (some (.ref ym)))
  (l_mr:K.lookup ym=some ⟨aeQ,abr,.func (gn "rank" "Motion.rank" (aB fJ) (aw fJ) (af fJ) .none aeR aeS aeT abt Td aeU),ab2⟩)
  (jq8u:fu K Td "Motion.rank"=true)
  (jq3n:di K (.ref ym)=true)
  (jq4h:me K (.ref ym)=true)
  (jq6N:cb K (.ref c0) "need"=some (some (.ref A8)))
  (jq6O:cb K (.ref c1) "need"=some (some (.ref A8)))
  (jq6P:cb K (.ref c2) "need"=some (some (.ref A8)))
  (jq6Q:cb K (.ref c3) "need"=some (some (.ref A8)))
  (jq6R:cb K (.ref c5) "need"=some (some (.ref A8)))
  (jq6S:cb K (.ref c6) "need"=some (some (.ref A8)))
  (jq6T:cb K (.ref c7) "need"=some (some (.ref A8)))
  (l_mn:K.lookup A8=some ⟨aeV,abu,.func (gn "need" "Motion.need" (aB fK) (aw fK) (af fK) .none aeW aeX aeY abv Te aeZ),ab3⟩)
  (jq8v:fu K Te "Motion.need"=true)
  (jq4i:di K (.ref A8)=true)
  (jq50:me K (.ref A8)=true)
  (jq67:cb K (.ref c4) "need"=some (some (.ref Fy)))
  (jq8w:K.lookup Fy=some ⟨Xu,V5,.func (gn "need" "Close.need" (aB gN) (aw gN) (af gN) .none Xv Xw Xx V6 O7 Xy),WB⟩)
  (jq6U:fu K O7 "Close.need"=true)
  (jq68:di K (.ref Fy)=true)
  (jq6V:me K (.ref Fy)=true)
  (jq6W:cb K (.ref c4) "told"=some (some (.ref IV)))
  (jq6X:cb K (.ref c5) "told"=some (some (.ref IV)))
  (jq6Y:cb K (.ref c6) "told"=some (some (.ref IV)))
  (l_mt:K.lookup IV=some ⟨ae0,abw,.func (gn "told" "Motion.told" (aB fL) (aw fL) (af fL) .none ae1 ae2 ae3 abx Tf ae4),ab4⟩)
  (jq8x:fu K Tf "Motion.told"=true)
  (jq5O:di K (.ref IV)=true)
  (jq6o:me K (.ref IV)=true)
  (jq69:cb K (.ref c0) "told"=some (some (.ref Fz)))
  (jq8y:K.lookup Fz=some ⟨Xz,V7,.func (gn "told" "Matter.told" (aB fM) (aw fM) (af fM) .none XA XB XC V8 O8 XD),WC⟩)
  (jq6Z:fu K O8 "Matter.told"=true)
  (jq6a:di K (.ref Fz)=true)
  (jq70:me K (.ref Fz)=true)
  (jq6b:cb K (.ref c1) "told"=some (some (.ref FA)))
  (jq8z:K.lookup FA=some ⟨XE,V9,.func (gn "told" "Change.told" (aB fN) (aw fN) (af fN) .none XF XG XH Wa O9 XI),WD⟩)
  (jq71:fu K O9 "Change.told"=true)
  (jq6c:di K (.ref FA)=true)
  (jq72:me K (.ref FA)=true)
  (jq6d:cb K (.ref c2) "told"=some (some (.ref FC)))
  (jq8A:K.lookup FC=some ⟨XJ,Wb,.func (gn "told" "Mend.told" (aB iy) (aw iy) (af iy) .none XM XN XO Wc Pa XQ),WE⟩)
  (jq73:fu K Pa "Mend.told"=true)
  (jq6e:di K (.ref FC)=true)
  (jq74:me K (.ref FC)=true)
  (jq6f:cb K (.ref c3) "told"=some (some (.ref FD)))
  (jq8B:K.lookup FD=some ⟨XR,Wd,.func (gn "told" "PutOff.told" (aB fO) (aw fO) (af fO) .none XS XT XU We Pb XW),WG⟩)
  (jq75:fu K Pb "PutOff.told"=true)
  (jq6g:di K (.ref FD)=true)
  (jq76:me K (.ref FD)=true)
  (jq6h:cb K (.ref c7) "told"=some (some (.ref FE)))
  (jq8C:K.lookup FE=some ⟨XX,Wf,.func (gn "told" "Point.told" (aB gO) (aw gO) (af gO) .none XY XZ X0 Wg Pc X9),WH⟩)
  (jq77:fu K Pc "Point.told"=true)
  (jq6i:di K (.ref FE)=true)
  (jq78:me K (.ref FE)=true)
  (jq6j:cb K (.ref c0) "__init__"=some (some (.ref FF)))
  (jq8D:K.lookup FF=some ⟨Ya,Wh,.func (gn "__init__" "Matter.__init__" (aB fP) (aw fP) (af fP) .none Yb Yc Yd Wi Pd Ye),WI⟩)
  (jq79:fu K Pd "Matter.__init__"=true)
  (jq7a:di K (.ref FF)=true)
  (jq7b:me K (.ref FF)=true)
  (jq6k:cb K (.ref c1) "__init__"=some (some (.ref FG)))
  (jq8E:K.lookup FG=some ⟨Yf,Wj,.func (gn "__init__" "Change.__init__" (aB fQ) (aw fQ) (af fQ) .none Yg Yh Yi Wk Pe Yj),WJ⟩)
  (jq7c:fu K Pe "Change.__init__"=true)
  (jq7d:di K (.ref FG)=true)
  (jq7e:me K (.ref FG)=true)
  (jq6l:cb K (.ref c2) "__init__"=some (some (.ref FH)))
  (jq8F:K.lookup FH=some ⟨Yk,Wl,.func (gn "__init__" "Mend.__init__" (aB iz) (aw iz) (af iz) .none Yl Ym Yn Wm Pf Yo),WK⟩)
  (jq7f:fu K Pf "Mend.__init__"=true)
  (jq7g:di K (.ref FH)=true)
  (jq7h:me K (.ref FH)=true)
  (jq6m:cb K (.ref c3) "__init__"=some (some (.ref FI)))
  (jq8G:K.lookup FI=some ⟨Yp,Wn,.func (gn "__init__" "PutOff.__init__" (aB fR) (aw fR) (af fR) .none Yq Yr Ys Wo Pg Yt),WL⟩)
  (jq7i:fu K Pg "PutOff.__init__"=true)
  (jq7j:di K (.ref FI)=true)
  (jq7k:me K (.ref FI)=true)
  (jq6n:cb K (.ref c7) "__init__"=some (some (.ref FJ)))
  (jq8H:K.lookup FJ=some ⟨Yu,Wq,.func (gn "__init__" "Point.__init__" (aB gP) (aw gP) (af gP) .none Yv Yw Yx Ws Ph Yy),WM⟩)
  (jq7l:fu K Ph "Point.__init__"=true)
  (jq7m:di K (.ref FJ)=true)
  (jq7n:me K (.ref FJ)=true)
  (na0:cb K (.ref c0) "text"=some none)
  (na1:cb K (.ref c1) "edit"=some none)
  (na2:cb K (.ref c2) "edit"=some none)
  (na3:cb K (.ref c3) "sitting"=some none)
  (na7:cb K (.ref c7) "clause"=some none)
  (ni4:cb K (.ref c4) "__init__"=some (some (.builtin "object.__init__")))
  (ni5:cb K (.ref c5) "__init__"=some (some (.builtin "object.__init__")))
  (ni6:cb K (.ref c6) "__init__"=some (some (.builtin "object.__init__")))
  (jq4l:eg K gr "Chamber"=some (some (.ref a7)))
  (jq4m:ai3 K a7 aiT=true)
  (jq4n:aiH K a7=true)
  (jq4o:ai8 K a7=true)
  (jq4p:cb K (.ref a7) "__setattr__"=some (some (.builtin "object.__setattr__")))
  (jq4q:ajc K a7=true)
  (jq4r:di K (.ref a7)=true)
  (jq2N:cb K (.ref a7) "__init__"=some (some (.ref cK)))
  (jq35:K.lookup cK=some ⟨yF,yn,.func (gn "__init__" "Chamber.__init__" (aB eU) (aw eU) (af eU) .none yG yH yI yo qu yJ),yA⟩)
  (jq2O:fu K qu "Chamber.__init__"=true)
  (jq2P:di K (.ref cK)=true)
  (jq2Q:me K (.ref cK)=true)
  (jq2R:cb K (.ref a7) "move"=some (some (.ref cL)))
  (jq36:K.lookup cL=some ⟨yK,yq,.func (gn "move" "Chamber.move" (aB eV) (aw eV) (af eV) .none yL yM yN yr qv yO),yB⟩)
  (jq2S:fu K qv "Chamber.move"=true)
  (jq2s:di K (.ref cL)=true)
  (jq2T:me K (.ref cL)=true)
  (jq2U:cb K (.ref a7) "vote"=some (some (.ref cM)))
  (jq37:K.lookup cM=some ⟨yP,yt,.func (gn "vote" "Chamber.vote" (aB eW) (aw eW) (af eW) .none yQ yR yS yu qw yT),yC⟩)
  (jq2V:fu K qw "Chamber.vote"=true)
  (jq2t:di K (.ref cM)=true)
  (jq2W:me K (.ref cM)=true)
  (jq2X:cb K (.ref a7) "drop"=some (some (.ref cN)))
  (jq38:K.lookup cN=some ⟨yU,yw,.func (gn "drop" "Chamber.drop" (aB eX) (aw eX) (af eX) .none yV yW yX yx qy yY),yD⟩)
  (jq2Y:fu K qy "Chamber.drop"=true)
  (jq2u:di K (.ref cN)=true)
  (jq2Z:me K (.ref cN)=true)
  (jq30:cb K (.ref a7) "take"=some (some (.ref cO)))
  (jq39:K.lookup cO=some ⟨yZ,yy,.func (gn "take" "Chamber.take" (aB eY) (aw eY) (af eY) .none y3 y4 y6 yz qz y7),yE⟩)
  (jq31:fu K qz "Chamber.take"=true)
  (jq2v:di K (.ref cO)=true)
  (jq32:me K (.ref cO)=true)
  (jq2w:cb K (.ref a7) "minutes"=some (some (.ref b6)))
  (jq2C:K.lookup b6=some ⟨ux,uo,.func (gn "minutes" "Chamber.minutes" (aB dz) (aw dz) (af dz) .none uy uz uA uq mH uB),uv⟩)
  (jq2x:fu K mH "Chamber.minutes"=true)
  (jq29:di K (.ref b6)=true)
  (jq2y:me K (.ref b6)=true)
  (jq2z:cb K (.ref a7) "pending"=some (some (.ref b7)))
  (jq2D:K.lookup b7=some ⟨uC,ur,.func (gn "pending" "Chamber.pending" (aB cJ) (aw cJ) (af cJ) .none uD uE uF uu mI uG),uw⟩)
  (jq2A:fu K mI "Chamber.pending"=true)
  (jq2a:di K (.ref b7)=true)
  (jq2B:me K (.ref b7)=true)
  (jqA:cb K (.ref a7) "require_can_be_made"=some (some (.ref aX)))
  (jqL:K.lookup aX=some ⟨jC,jz,.func (gn "require_can_be_made" "Chamber.require_can_be_made" (aB bF) (aw bF) (af bF) .none jD jE jF jA fh jG),jB⟩)
  (jqB:fu K fh "Chamber.require_can_be_made"=true)
  (jqn:di K (.ref aX)=true)
  (jqC:me K (.ref aX)=true)
  (jq1m:cb K (.ref a7) "require_pending"=some (some (.ref bc)))
  (jq1p:K.lookup bc=some ⟨mJ,mE,.func (gn "require_pending" "Chamber.require_pending" (aB bR) (aw bR) (af bR) .none mK mL mM mF gJ mO),mG⟩)
  (jq1n:fu K gJ "Chamber.require_pending"=true)
  (jqu:di K (.ref bc)=true)
  (jq1o:me K (.ref bc)=true)
  (jq2E:cb K (.ref a7) "decide"=some (some (.ref cq)))
  (jq2H:K.lookup cq=some ⟨vL,vI,.func (gn "decide" "Chamber.decide" (aB dO) (aw dO) (af dO) .none vM vN vO vJ nr vP),vK⟩)
  (jq2F:fu K nr "Chamber.decide"=true)
  (jq2h:di K (.ref cq)=true)
  (jq2G:me K (.ref cq)=true)
  (jq24:cb K (.ref a7) "end_decision"=some (some (.ref bA)))
  (jq2b:K.lookup bA=some ⟨pj,pe,.func (gn "end_decision" "Chamber.end_decision" (aB cg) (aw cg) (af cg) .none pq pw pA pf iN pB),ph⟩)
  (jq25:fu K iN "Chamber.end_decision"=true)
  (jqN:di K (.ref bA)=true)
  (jq26:me K (.ref bA)=true)
  (jq2k:cb K (.ref a7) "carry_out"=some (some (.ref bM)))
  (jq2q:K.lookup bM=some ⟨rW,rP,.func (gn "carry_out" "Chamber.carry_out" (aB cT) (aw cT) (af cT) .none rX rY rZ rQ j5 r6),rT⟩)
  (jq2l:fu K j5 "Chamber.carry_out"=true)
  (jq1J:di K (.ref bM)=true)
  (jq2m:me K (.ref bM)=true)
  (jq1L:cb K (.ref a7) "lay_on_matter"=some (some (.ref br)))
  (jq27:K.lookup br=some ⟨nQ,nI,.func (gn "lay_on_matter" "Chamber.lay_on_matter" (aB b8) (aw b8) (af b8) .none nR nS nU nJ hV nW),nO⟩)
  (jq1M:fu K hV "Chamber.lay_on_matter"=true)
  (jqD:di K (.ref br)=true)
  (jq1N:me K (.ref br)=true)
  (jq1O:cb K (.ref a7) "lay_on_change"=some (some (.ref bt)))
  (jq28:K.lookup bt=some ⟨nX,nK,.func (gn "lay_on_change" "Chamber.lay_on_change" (aB b9) (aw b9) (af b9) .none nY nZ n8 nM hX oa),nP⟩)
  (jq1P:fu K hX "Chamber.lay_on_change"=true)
  (jqE:di K (.ref bt)=true)
  (jq1Q:me K (.ref bt)=true)
  (jq2n:cb K (.ref a7) "put_aside"=some (some (.ref bN)))
  (jq2r:K.lookup bN=some ⟨r8,rR,.func (gn "put_aside" "Chamber.put_aside" (aB cU) (aw cU) (af cU) .none r9 sf sv rS j6 sx),rV⟩)
  (jq2o:fu K j6 "Chamber.put_aside"=true)
  (jq1K:di K (.ref bN)=true)
  (jq2p:me K (.ref bN)=true)
  (jqz:cb K (.ref a7) "seats"=some none)
  (jq1:cb K (.ref a7) "sitting"=some none)
  (jq8:cb K (.ref a7) "closed"=some none)
  (jq2:cb K (.ref a7) "made"=some none)
  (jq0:cb K (.ref a7) "pile"=some none)
  (jqa:cb K (.ref a7) "aside"=some none)
  (jqp:cb K (.ref a7) "decided"=some none)
  (jqb:cb K (.ref a7) "first_texts"=some none)
  (jq9:cb K (.ref a7) "edits_kept"=some none)
  (jqc:cb K (.ref a7) "rows"=some none)
  (jq33:eg K gr "ChamberError"=some (some (.ref aK)))
  (jq5t:eg K gr "NoFit"=some (some (.ref bZ)))
  (jq54:eg K gr "Barred"=some (some (.ref bz)))
  (jq3o:eg K gr "NoMatter"=some (some (.ref bU)))
  (jq3p:eg K gr "NoChange"=some (some (.ref bV)))
  (jq3q:eg K gr "NotLater"=some (some (.ref aV)))
  (jq4s:eg K gr "Nothing"=some (some (.ref bj)))
  (jq4t:eg K gr "TooMany"=some (some (.ref bp)))
  (jq4u:eg K gr "NoAside"=some (some (.ref bq)))
  (jq55:eg K gr "NotYet"=some (some (.ref cw)))
  (jq3r:eg K gr "NoNumber"=some (some (.ref bW)))
  (jq5u:eg K gr "NoRow"=some (some (.ref bO)))
  (jq5v:K.lookup bZ=some (aiM Pr RX bZ DZ Pt (.ref aK::oq) PL Pu Pw Px Py Pz PB PD PF PH PK "ValueError.__new__"))
  (jq3s:K.lookup bU=some (aiM Gn Jq bU uH Gp (.ref aK::oq) GC Gr Gs Gu Gv Gw Gx Gy Gz GA GB "ValueError.__new__"))
  (jq3t:K.lookup bV=some (aiM GF Jr bV uI GG (.ref aK::oq) GS GH GI GJ GK GL GN GO GP GQ GR "ValueError.__new__"))
  (jq4v:K.lookup bj=some (aiM Js Mb bj xh Jt (.ref aK::oq) JE Ju Jv Jw Jx Jy Jz JA JB JC JD "ValueError.__new__"))
  (jq4w:K.lookup bp=some (aiM JG Mc bp xj JH (.ref aK::oq) JS JI JJ JK JL JM JN JO JP JQ JR "ValueError.__new__"))
  (jq4x:K.lookup bq=some (aiM JU Md bq xm JV (.ref aK::oq) J6 JW JX JY JZ J0 J1 J2 J3 J4 J5 "ValueError.__new__"))
  (jq3u:K.lookup bW=some (aiM GV J8 bW uJ GW (.ref aK::oq) G7 GX GY GZ G0 G1 G2 G3 G4 G5 G6 "ValueError.__new__"))
  (jq56:K.lookup bz=some (aiM Me PN bz Bd Mf (.ref aK::oq) true Mg Mh Mi Mj Ml Mm Mo Mp Mq Mr "ValueError.__new__"))
  (jq3v:K.lookup aV=some (aiM G9 J9 aV uK Ha (.ref aK::oq) true Hb Hc Hd He Hf Hg Hh Hi Hl Hm "ValueError.__new__"))
  (jq57:K.lookup cw=some (aiM Mt PQ cw Be Mu (.ref aK::oq) true Mv Mw Mx Mz MA MB MC MD ME MF "ValueError.__new__"))
  (jq5w:K.lookup bO=some (aiM PR RY bO D0 PU (.ref aK::oq) true PV PX PY PZ P0 P1 P2 P4 P5 P6 "ValueError.__new__"))
  (jq3:K.lookup aK=some ⟨Bf,ze,.cls qB,zf⟩)
  (jq4:qB.ns=mP)
  (jq5x:K.lookup DZ=some ⟨Pj,Pk,.dict F3 Pl,Pm⟩)
  (jq5y:strKeys F3=true)
  (jq5z:eg K DZ "__init__"=some none)
  (jq5:K.lookup mP=some ⟨y8,y9,.dict qA zb,zd⟩)
  (jq6:strKeys qA=true)
  (jq7:eg K mP "__init__"=some none)
  (jq3w:K.lookup uH=some ⟨F4,F5,.dict xV F6,F7⟩)
  (jq3x:strKeys xV=true)
  (jq3y:eg K uH "__init__"=some none)
  (jq3z:K.lookup uI=some ⟨F8,F9,.dict xW Ga,Gb⟩)
  (jq3A:strKeys xW=true)
  (jq3B:eg K uI "__init__"=some none)
  (jq4y:K.lookup xh=some ⟨Je,Jf,.dict Ba Jg,Jh⟩)
  (jq4z:strKeys Ba=true)
  (jq4A:eg K xh "__init__"=some none)
  (jq4B:K.lookup xj=some ⟨Ji,Jj,.dict Bb Jk,Jl⟩)
  (jq4C:strKeys Bb=true)
  (jq4D:eg K xj "__init__"=some none)
  (jq4E:K.lookup xm=some ⟨Jm,Jn,.dict Bc Jo,Jp⟩)
  (jq4F:strKeys Bc=true)
  (jq4G:eg K xm "__init__"=some none)
  (jq3C:K.lookup uJ=some ⟨Gd,Ge,.dict xX Gf,Gg⟩)
  (jq3D:strKeys xX=true)
  (jq3E:eg K uJ "__init__"=some none)
  (jq58:K.lookup Bd=some ⟨L3,L4,.dict Cw L5,L6⟩)
  (jq59:strKeys Cw=true)
  (jq5a:eg K Bd "__init__"=some (some (.ref mB)))
  (jq3F:K.lookup uK=some ⟨Gh,Gi,.dict xY Gj,Gk⟩)
  (jq3G:strKeys xY=true)
  (jq3H:eg K uK "__init__"=some (some (.ref jb)))
  (jq5b:K.lookup Be=some ⟨L7,L8,.dict Cy L9,Ma⟩)
  (jq5c:strKeys Cy=true)
  (jq5d:eg K Be "__init__"=some (some (.ref mD)))
  (jq5A:K.lookup D0=some ⟨Pn,Po,.dict Gm Pp,Pq⟩)
  (jq5B:strKeys Gm=true)
  (jq5C:eg K D0 "__init__"=some (some (.ref pd)))
  (xhn:ajW K (.builtin "object.__class__") "__get__"=some (some (.builtin "getset_descriptor.__get__")))
  (xhtk:PySem.W.takesIn K (.builtin "object.__class__")=some true)
  (jq2I:PySem.W.readsIn K aK (.type "type")=true)
  (jq2J:ajW K (.ref aK) "__getattribute__"=some (some (.builtin "type.__getattribute__")))
  (jq2K:PySem.W.findCls K (.ref aK) (.type "type") "__init__"=some (.val (.builtin "ValueError.__init__")))
  (jq5D:cb K (.ref bZ) "__getattribute__"=some (some (.builtin "BaseException.__getattribute__")))
  (jq5f:cb K (.ref bZ) "__getattr__"=some none)
  (jq5E:aiE K bZ (.type "BaseException")=some true)
  (jq5F:aiX K bZ=some PM)
  (jq5G:cb K (.ref bZ) "__class__"=some (some (.builtin "object.__class__")))
  (jq5H:aiE K bZ (.type "object")=some true)
  (jqo:aiA K (.ref bZ) (.ref aK)=some true)
  (jq2i:ba K (.ref bZ) (.ref bO)=some false)
  (jq2c:ba K (.ref bZ) (.ref bz)=some false)
  (jq2j:ba K (.ref bZ) (.ref bZ)=some true)
  (jq1R:ba K (.ref bZ) (.ref bj)=some false)
  (jq1S:ba K (.ref bZ) (.ref bp)=some false)
  (jq1T:ba K (.ref bZ) (.ref bq)=some false)
  (jq1r:ba K (.ref bZ) (.ref aV)=some false)
  (jqO:ba K (.ref bZ) (.type "ValueError")=some true)
  (jq3I:cb K (.ref bU) "__getattribute__"=some (some (.builtin "BaseException.__getattribute__")))
  (jq3h:cb K (.ref bU) "__getattr__"=some none)
  (jq3J:aiE K bU (.type "BaseException")=some true)
  (jq3K:aiX K bU=some GD)
  (jq3L:cb K (.ref bU) "__class__"=some (some (.builtin "object.__class__")))
  (jq3M:aiE K bU (.type "object")=some true)
  (jqd:aiA K (.ref bU) (.ref aK)=some true)
  (jq1s:ba K (.ref bU) (.ref bO)=some false)
  (jq17:ba K (.ref bU) (.ref bz)=some false)
  (jq1t:ba K (.ref bU) (.ref bZ)=some false)
  (jqP:ba K (.ref bU) (.ref bj)=some false)
  (jqQ:ba K (.ref bU) (.ref bp)=some false)
  (jqR:ba K (.ref bU) (.ref bq)=some false)
  (jqF:ba K (.ref bU) (.ref aV)=some false)
  (jqq:ba K (.ref bU) (.type "ValueError")=some true)
  (jq3N:cb K (.ref bV) "__getattribute__"=some (some (.builtin "BaseException.__getattribute__")))
  (jq3i:cb K (.ref bV) "__getattr__"=some none)
  (jq3O:aiE K bV (.type "BaseException")=some true)
  (jq3P:aiX K bV=some GU)
  (jq3Q:cb K (.ref bV) "__class__"=some (some (.builtin "object.__class__")))
  (jq3R:aiE K bV (.type "object")=some true)
  (jqe:aiA K (.ref bV) (.ref aK)=some true)
  (jq1u:ba K (.ref bV) (.ref bO)=some false)
  (jq18:ba K (.ref bV) (.ref bz)=some false)
  (jq1v:ba K (.ref bV) (.ref bZ)=some false)
  (jqS:ba K (.ref bV) (.ref bj)=some false)
  (jqT:ba K (.ref bV) (.ref bp)=some false)
  (jqU:ba K (.ref bV) (.ref bq)=some false)
  (jqG:ba K (.ref bV) (.ref aV)=some false)
  (jqr:ba K (.ref bV) (.type "ValueError")=some true)
  (jq4H:cb K (.ref bj) "__getattribute__"=some (some (.builtin "BaseException.__getattribute__")))
  (jq3S:cb K (.ref bj) "__getattr__"=some none)
  (jq4I:aiE K bj (.type "BaseException")=some true)
  (jq4J:aiX K bj=some JF)
  (jq4K:cb K (.ref bj) "__class__"=some (some (.builtin "object.__class__")))
  (jq4L:aiE K bj (.type "object")=some true)
  (jqi:aiA K (.ref bj) (.ref aK)=some true)
  (jq1U:ba K (.ref bj) (.ref bO)=some false)
  (jq1w:ba K (.ref bj) (.ref bz)=some false)
  (jq1V:ba K (.ref bj) (.ref bZ)=some false)
  (jq19:ba K (.ref bj) (.ref bj)=some true)
  (jq1a:ba K (.ref bj) (.ref bp)=some false)
  (jq1b:ba K (.ref bj) (.ref bq)=some false)
  (jqV:ba K (.ref bj) (.ref aV)=some false)
  (jqw:ba K (.ref bj) (.type "ValueError")=some true)
  (jq4M:cb K (.ref bp) "__getattribute__"=some (some (.builtin "BaseException.__getattribute__")))
  (jq3T:cb K (.ref bp) "__getattr__"=some none)
  (jq4N:aiE K bp (.type "BaseException")=some true)
  (jq4O:aiX K bp=some JT)
  (jq4P:cb K (.ref bp) "__class__"=some (some (.builtin "object.__class__")))
  (jq4Q:aiE K bp (.type "object")=some true)
  (jqj:aiA K (.ref bp) (.ref aK)=some true)
  (jq1W:ba K (.ref bp) (.ref bO)=some false)
  (jq1x:ba K (.ref bp) (.ref bz)=some false)
  (jq1X:ba K (.ref bp) (.ref bZ)=some false)
  (jq1c:ba K (.ref bp) (.ref bj)=some false)
  (jq1d:ba K (.ref bp) (.ref bp)=some true)
  (jq1e:ba K (.ref bp) (.ref bq)=some false)
  (jqW:ba K (.ref bp) (.ref aV)=some false)
  (jqx:ba K (.ref bp) (.type "ValueError")=some true)
  (jq4R:cb K (.ref bq) "__getattribute__"=some (some (.builtin "BaseException.__getattribute__")))
  (jq3U:cb K (.ref bq) "__getattr__"=some none)
  (jq4S:aiE K bq (.type "BaseException")=some true)
  (jq4T:aiX K bq=some J7)
  (jq4U:cb K (.ref bq) "__class__"=some (some (.builtin "object.__class__")))
  (jq4V:aiE K bq (.type "object")=some true)
  (jqk:aiA K (.ref bq) (.ref aK)=some true)
  (jq1Y:ba K (.ref bq) (.ref bO)=some false)
  (jq1y:ba K (.ref bq) (.ref bz)=some false)
  (jq1Z:ba K (.ref bq) (.ref bZ)=some false)
  (jq1f:ba K (.ref bq) (.ref bj)=some false)
  (jq1g:ba K (.ref bq) (.ref bp)=some false)
  (jq1h:ba K (.ref bq) (.ref bq)=some true)
  (jqX:ba K (.ref bq) (.ref aV)=some false)
  (jqy:ba K (.ref bq) (.type "ValueError")=some true)
  (jq3V:cb K (.ref bW) "__getattribute__"=some (some (.builtin "BaseException.__getattribute__")))
  (jq3j:cb K (.ref bW) "__getattr__"=some none)
  (jq3W:aiE K bW (.type "BaseException")=some true)
  (jq3X:aiX K bW=some G8)
  (jq3Y:cb K (.ref bW) "__class__"=some (some (.builtin "object.__class__")))
  (jq3Z:aiE K bW (.type "object")=some true)
  (jqf:aiA K (.ref bW) (.ref aK)=some true)
  (jq1z:ba K (.ref bW) (.ref bO)=some false)
  (jq1i:ba K (.ref bW) (.ref bz)=some false)
  (jq1A:ba K (.ref bW) (.ref bZ)=some false)
  (jqY:ba K (.ref bW) (.ref bj)=some false)
  (jqZ:ba K (.ref bW) (.ref bp)=some false)
  (jq10:ba K (.ref bW) (.ref bq)=some false)
  (jqH:ba K (.ref bW) (.ref aV)=some false)
  (jqs:ba K (.ref bW) (.type "ValueError")=some true)
  (jq4a:cb K (.ref bz) "__getattribute__"=some (some (.builtin "BaseException.__getattribute__")))
  (jq3k:cb K (.ref bz) "__getattr__"=some none)
  (jq4b:aiE K bz (.type "BaseException")=some true)
  (jq5g:aiX K bz=some Ms)
  (jq5h:cb K (.ref bz) "__class__"=some (some (.builtin "object.__class__")))
  (jq5i:aiE K bz (.type "object")=some true)
  (jq4W:K.lookup mB=some ⟨FR,FK,.func (gn "__init__" "Barred.__init__" (aB fS) (aw fS) (af fS) .none FT FU FV FL xT FW),FP⟩)
  (jq40:fu K xT "Barred.__init__"=true)
  (jq41:di K (.ref mB)=true)
  (jq5j:me K (.ref mB)=true)
  (jq5k:cb K (.ref bz) "__setattr__"=some (some (.builtin "object.__setattr__")))
  (jq4c:cb K (.ref bz) "bar"=some none)
  (jq5l:aiH K bz=true)
  (jql:aiA K (.ref bz) (.ref aK)=some true)
  (jq2d:ba K (.ref bz) (.ref bO)=some false)
  (jq20:ba K (.ref bz) (.ref bz)=some true)
  (jq2e:ba K (.ref bz) (.ref bZ)=some false)
  (jq1B:ba K (.ref bz) (.ref bj)=some false)
  (jq1C:ba K (.ref bz) (.ref bp)=some false)
  (jq1D:ba K (.ref bz) (.ref bq)=some false)
  (jq1j:ba K (.ref bz) (.ref aV)=some false)
  (jqI:ba K (.ref bz) (.type "ValueError")=some true)
  (jq3a:cb K (.ref aV) "__getattribute__"=some (some (.builtin "BaseException.__getattribute__")))
  (jq34:cb K (.ref aV) "__getattr__"=some none)
  (jq3b:aiE K aV (.type "BaseException")=some true)
  (jq42:aiX K aV=some Hn)
  (jq43:cb K (.ref aV) "__class__"=some (some (.builtin "object.__class__")))
  (jq44:aiE K aV (.type "object")=some true)
  (jq3l:K.lookup jb=some ⟨BC,Bz,.func (gn "__init__" "NotLater.__init__" (aB d8) (aw d8) (af d8) .none BD BE BF BA tL BG),BB⟩)
  (jq3f:fu K tL "NotLater.__init__"=true)
  (jq3g:di K (.ref jb)=true)
  (jq45:me K (.ref jb)=true)
  (jq46:cb K (.ref aV) "__setattr__"=some (some (.builtin "object.__setattr__")))
  (jq3c:cb K (.ref aV) "sitting"=some none)
  (jq47:aiH K aV=true)
  (jqg:aiA K (.ref aV) (.ref aK)=some true)
  (jq1E:ba K (.ref aV) (.ref bO)=some false)
  (jq1k:ba K (.ref aV) (.ref bz)=some false)
  (jq1F:ba K (.ref aV) (.ref bZ)=some false)
  (jq11:ba K (.ref aV) (.ref bj)=some false)
  (jq12:ba K (.ref aV) (.ref bp)=some false)
  (jq13:ba K (.ref aV) (.ref bq)=some false)
  (jqJ:ba K (.ref aV) (.ref aV)=some true)
  (jqt:ba K (.ref aV) (.type "ValueError")=some true)
  (jq4d:cb K (.ref cw) "__getattribute__"=some (some (.builtin "BaseException.__getattribute__")))
  (jq3m:cb K (.ref cw) "__getattr__"=some none)
  (jq4e:aiE K cw (.type "BaseException")=some true)
  (jq5m:aiX K cw=some MG)
  (jq5n:cb K (.ref cw) "__class__"=some (some (.builtin "object.__class__")))
  (jq5o:aiE K cw (.type "object")=some true)
  (jq4X:K.lookup mD=some ⟨FX,FN,.func (gn "__init__" "NotYet.__init__" (aB fU) (aw fU) (af fU) .none FY FZ F0 FO xU F2),FQ⟩)
  (jq48:fu K xU "NotYet.__init__"=true)
  (jq49:di K (.ref mD)=true)
  (jq5p:me K (.ref mD)=true)
  (jq5q:cb K (.ref cw) "__setattr__"=some (some (.builtin "object.__setattr__")))
  (jq4f:cb K (.ref cw) "sitting"=some none)
  (jq5r:aiH K cw=true)
  (jqm:aiA K (.ref cw) (.ref aK)=some true)
  (jq2f:ba K (.ref cw) (.ref bO)=some false)
  (jq21:ba K (.ref cw) (.ref bz)=some false)
  (jq2g:ba K (.ref cw) (.ref bZ)=some false)
  (jq1G:ba K (.ref cw) (.ref bj)=some false)
  (jq1H:ba K (.ref cw) (.ref bp)=some false)
  (jq1I:ba K (.ref cw) (.ref bq)=some false)
  (jq1l:ba K (.ref cw) (.ref aV)=some false)
  (jqK:ba K (.ref cw) (.type "ValueError")=some true)
  (jq51:cb K (.ref bO) "__getattribute__"=some (some (.builtin "BaseException.__getattribute__")))
  (jq4g:cb K (.ref bO) "__getattr__"=some none)
  (jq52:aiE K bO (.type "BaseException")=some true)
  (jq5I:aiX K bO=some P7)
  (jq5J:cb K (.ref bO) "__class__"=some (some (.builtin "object.__class__")))
  (jq5K:aiE K bO (.type "object")=some true)
  (jq5s:K.lookup pd=some ⟨I9,IW,.func (gn "__init__" "NoRow.__init__" (aB gQ) (aw gQ) (af gQ) .none Ja Jb Jc IZ A9 Jd),I0⟩)
  (jq4Y:fu K A9 "NoRow.__init__"=true)
  (jq4Z:di K (.ref pd)=true)
  (jq5L:me K (.ref pd)=true)
  (jq5M:cb K (.ref bO) "__setattr__"=some (some (.builtin "object.__setattr__")))
  (jq53:cb K (.ref bO) "row"=some none)
  (jq5N:aiH K bO=true)
  (jqh:aiA K (.ref bO) (.ref aK)=some true)
  (jq22:ba K (.ref bO) (.ref bO)=some true)
  (jq1q:ba K (.ref bO) (.ref bz)=some false)
  (jq23:ba K (.ref bO) (.ref bZ)=some false)
  (jq14:ba K (.ref bO) (.ref bj)=some false)
  (jq15:ba K (.ref bO) (.ref bp)=some false)
  (jq16:ba K (.ref bO) (.ref bq)=some false)
  (jqM:ba K (.ref bO) (.ref aV)=some false)
  (jqv:ba K (.ref bO) (.type "ValueError")=some true) :
  ∃fd:kf,(∀(s:Shared) (v:Value),BindsTo s fd ⟨[v],[]⟩ [("_law_script",v)])/\∀base:Heap,K.In base->base.Ns gr mg->FnOk l.prog w K mg base CX0 20 fa fd ["_law_script"] (K2 K):=by
 have e:=hfa.symm.trans (kc X G a_39);cases e;have F_1:=aQ (st:=vZ) l_1 cc_1 kp_1;have b_1:=F_1.binds (ps:=["things","edit"]) λ_ _ _ _ _ _ us hl=>match us,hl with | [_,_],_=>rfl
 have F_2:=aQ (st:=fV) l_2 cc_2 kp_2;have b_2:=F_2.binds (ps:=["things","edit"]) λ_ _ _ _ _ _ us hl=>match us,hl with | [_,_],_=>rfl
 have F_3:=aQ (st:=wc) l_3 cc_3 kp_3;have b_3:=F_3.binds (ps:=["things","edit"]) λ_ _ _ _ _ _ us hl=>match us,hl with | [_,_],_=>rfl
 have F_4:=aQ (st:=jg) l_4 cc_4 kp_4;have b_4:=F_4.binds (ps:=["clause"]) λ_ _ _ _ _ _ us hl=>match us,hl with | [_],_=>rfl
 have F_5:=aQ (st:=iA) l_5 cc_5 kp_5;have b_5:=F_5.binds (ps:=["words"]) λ_ _ _ _ _ _ us hl=>match us,hl with | [_],_=>rfl
 have F_6:=aQ (st:=iB) l_6 cc_6 kp_6;have b_6:=F_6.binds (ps:=["told"]) λ_ _ _ _ _ _ us hl=>match us,hl with | [_],_=>rfl
 have F_7:=aQ (st:=oy) l_7 cc_7 kp_7;have b_7:=F_7.binds (ps:=["pile","closed"]) λ_ _ _ _ _ _ us hl=>match us,hl with | [_,_],_=>rfl
 have F_8:=aQ (st:=fq) l_8 cc_8 kp_8;have b_8:=F_8.binds (ps:=["pile"]) λ_ _ _ _ _ _ us hl=>match us,hl with | [_],_=>rfl
 have F_9:=aQ (st:=d9) l_9 cc_9 kp_9;have b_9:=F_9.binds (ps:=["pile"]) λ_ _ _ _ _ _ us hl=>match us,hl with | [_],_=>rfl
 have ae5:=aQ (st:=cV) l_10 jq7o jq7p;have ahR:=ae5.binds (ps:=["kind","pile"]) λ_ _ _ _ _ _ us hl=>match us,hl with | [_,_],_=>rfl
 have ae6:=aQ (st:=df) l_11 jq7q jq7r;have ahS:=ae6.binds (ps:=["kind","pile","closed"]) λ_ _ _ _ _ _ us hl=>match us,hl with | [_,_,_],_=>rfl
 have ae7:=aQ (st:=lG) l_12 jq7s jq7t;have ahT:=ae7.binds (ps:=["holds"]) λ_ _ _ _ _ _ us hl=>match us,hl with | [_],_=>rfl
 have ae8:=aQ (st:=lH) l_13 jq7u jq7v;have ahU:=ae8.binds (ps:=["sign"]) λ_ _ _ _ _ _ us hl=>match us,hl with | [_],_=>rfl
 have ae9:=aQ (st:=jh) l_14 jq7w jq7x;have ahV:=ae9.binds (ps:=["word"]) λ_ _ _ _ _ _ us hl=>match us,hl with | [_],_=>rfl
 have afa:=aQ (st:=gv) l_15 jq7y jq7z;have ahW:=afa.binds (ps:=["word"]) λ_ _ _ _ _ _ us hl=>match us,hl with | [_],_=>rfl
 have afb:=aQ (st:=fW) l_16 jq7A jq7B;have ahX:=afb.binds (ps:=["word"]) λ_ _ _ _ _ _ us hl=>match us,hl with | [_],_=>rfl
 have afc:=aQ (st:=eG) l_17 jq7C jq7D;have ahY:=afc.binds (ps:=["words"]) λ_ _ _ _ _ _ us hl=>match us,hl with | [_],_=>rfl
 have afd:=aQ (st:=gw) l_18 jq7E jq7F;have ahZ:=afd.binds (ps:=["words"]) λ_ _ _ _ _ _ us hl=>match us,hl with | [_],_=>rfl
 have afe:=aQ (st:=iC) l_19 jq7G jq7H;have ah0:=afe.binds (ps:=["words"]) λ_ _ _ _ _ _ us hl=>match us,hl with | [_],_=>rfl
 have aff:=aQ (st:=iD) l_20 jq7I jq7J;have ah1:=aff.binds (ps:=["words"]) λ_ _ _ _ _ _ us hl=>match us,hl with | [_],_=>rfl
 have afg:=aQ (st:=eZ) l_21 jq7K jq7L;have ah2:=afg.binds (ps:=["words"]) λ_ _ _ _ _ _ us hl=>match us,hl with | [_],_=>rfl
 have afh:=aQ (st:=iE) l_22 jq7M jq7N;have ah3:=afh.binds (ps:=["row"]) λ_ _ _ _ _ _ us hl=>match us,hl with | [_],_=>rfl
 have afi:=aQ (st:=ee) l_23 jq7O jq7P;have ah4:=afi.binds (ps:=["text"]) λ_ _ _ _ _ _ us hl=>match us,hl with | [_],_=>rfl
 have afj:=aQ (st:=ef) l_24 jq7Q jq7R;have ah5:=afj.binds (ps:=["edit"]) λ_ _ _ _ _ _ us hl=>match us,hl with | [_],_=>rfl
 have afk:=aQ (st:=dW) l_25 jq7S jq7T;have ah6:=afk.binds (ps:=["deed"]) λ_ _ _ _ _ _ us hl=>match us,hl with | [_],_=>rfl
 have afl:=aQ (st:=iF) l_26 jq7U jq7V;have ah7:=afl.binds (ps:=["deed"]) λ_ _ _ _ _ _ us hl=>match us,hl with | [_],_=>rfl
 have afm:=aQ (st:=lI) l_27 jq7W jq7X;have ah8:=afm.binds (ps:=["need","ayes","noes"]) λ_ _ _ _ _ _ us hl=>match us,hl with | [_,_,_],_=>rfl
 have afn:=aQ (st:=lJ) l_28 jq7Y jq7Z;have ah9:=afn.binds (ps:=["chamber","deed"]) λ_ _ _ _ _ _ us hl=>match us,hl with | [_,_],_=>rfl
 have afo:=aQ (st:=oF) l_29 jq80 jq81;have aia:=afo.binds (ps:=["chamber","row","number"]) λ_ _ _ _ _ _ us hl=>match us,hl with | [_,_,_],_=>rfl
 have afp:=aQ (st:=oG) l_30 jq82 jq83;have aib:=afp.binds (ps:=["seats","rows"]) λ_ _ _ _ _ _ us hl=>match us,hl with | [_,_],_=>rfl
 have afq:=aQ (st:=iG) l_31 jq84 jq85;have aic:=afq.binds (ps:=["_law_script","_law_k"]) λ_ _ _ _ _ _ us hl=>match us,hl with | [_,_],_=>rfl
 have afr:=aQ (st:=lK) l_32 jq86 jq87;have aid:=afr.binds (ps:=["_law_found"]) λ_ _ _ _ _ _ us hl=>match us,hl with | [_],_=>rfl
 have afs:=aQ (st:=jj) l_33 jq88 jq89;have aie:=afs.binds (ps:=["_law_cell","_law_many"]) λ_ _ _ _ _ _ us hl=>match us,hl with | [_,_],_=>rfl
 have aft:=aQ (st:=oH) l_34 jq8a jq8b;have aif:=aft.binds (ps:=["_law_draws","_law_seats"]) λ_ _ _ _ _ _ us hl=>match us,hl with | [_,_],_=>rfl
 have afu:=aQ (st:=oI) l_35 jq8c jq8d;have aih:=afu.binds (ps:=["_law_chamber","_law_deed_here"]) λ_ _ _ _ _ _ us hl=>match us,hl with | [_,_],_=>rfl
 have afv:=aQ (st:=iH) l_36 jq8e jq8f;have aii:=afv.binds (ps:=["_law_cells","_law_seats"]) λ_ _ _ _ _ _ us hl=>match us,hl with | [_,_],_=>rfl
 have afw:=aQ (st:=sM) l_37 jq8g jq8h;have aij:=afw.binds (ps:=["_law_draw","_law_seats"]) λ_ _ _ _ _ _ us hl=>match us,hl with | [_,_],_=>rfl
 have afx:=aQ (st:=iI) l_38 jq8i jq8j;have aik:=afx.binds (ps:=["_law_seats","_law_rows","_law_number"]) λ_ _ _ _ _ _ us hl=>match us,hl with | [_,_,_],_=>rfl
 have ail:=aQ (st:=u5) l_39 jq8k jq8l;have Tg:=aQ (st:=fF) jq8m jq6p jq5S;have afy:=Tg.binds (ps:=["self"]) λ_ _ _ _ _ _ us hl=>match us,hl with | [_],_=>rfl
 have Th:=aQ (st:=fG) jq8n jq6r jq5U;have afz:=Th.binds (ps:=["self"]) λ_ _ _ _ _ _ us hl=>match us,hl with | [_],_=>rfl
 have Ti:=aQ (st:=iw) jq8o jq6t jq5W;have afA:=Ti.binds (ps:=["self"]) λ_ _ _ _ _ _ us hl=>match us,hl with | [_],_=>rfl
 have Tj:=aQ (st:=fH) jq8p jq6v jq5Y;have afB:=Tj.binds (ps:=["self"]) λ_ _ _ _ _ _ us hl=>match us,hl with | [_],_=>rfl
 have Tn:=aQ (st:=gL) jq8q jq6x jq60;have afC:=Tn.binds (ps:=["self"]) λ_ _ _ _ _ _ us hl=>match us,hl with | [_],_=>rfl
 have To:=aQ (st:=jf) jq8r jq6z jq62;have afD:=To.binds (ps:=["self"]) λ_ _ _ _ _ _ us hl=>match us,hl with | [_],_=>rfl
 have Tp:=aQ (st:=ix) jq8s jq6B jq64;have afE:=Tp.binds (ps:=["self"]) λ_ _ _ _ _ _ us hl=>match us,hl with | [_],_=>rfl
 have Tq:=aQ (st:=gM) jq8t jq6D jq66;have afF:=Tq.binds (ps:=["self"]) λ_ _ _ _ _ _ us hl=>match us,hl with | [_],_=>rfl
 have afG:=aQ (st:=fJ) l_mr jq8u jq3n;have aim:=afG.binds (ps:=["self"]) λ_ _ _ _ _ _ us hl=>match us,hl with | [_],_=>rfl
 have afH:=aQ (st:=fK) l_mn jq8v jq4i;have Ka:=afH.binds (ps:=["self"]) λ_ _ _ _ _ _ us hl=>match us,hl with | [_],_=>rfl
 have Tr:=aQ (st:=gN) jq8w jq6U jq68;have afI:=Tr.binds (ps:=["self"]) λ_ _ _ _ _ _ us hl=>match us,hl with | [_],_=>rfl
 have afJ:=aQ (st:=fL) l_mt jq8x jq5O;have YC:=afJ.binds (ps:=["self"]) λ_ _ _ _ _ _ us hl=>match us,hl with | [_],_=>rfl
 have Ts:=aQ (st:=fM) jq8y jq6Z jq6a;have afK:=Ts.binds (ps:=["self"]) λ_ _ _ _ _ _ us hl=>match us,hl with | [_],_=>rfl
 have Tt:=aQ (st:=fN) jq8z jq71 jq6c;have afL:=Tt.binds (ps:=["self"]) λ_ _ _ _ _ _ us hl=>match us,hl with | [_],_=>rfl
 have Tu:=aQ (st:=iy) jq8A jq73 jq6e;have afM:=Tu.binds (ps:=["self"]) λ_ _ _ _ _ _ us hl=>match us,hl with | [_],_=>rfl
 have Tv:=aQ (st:=fO) jq8B jq75 jq6g;have afN:=Tv.binds (ps:=["self"]) λ_ _ _ _ _ _ us hl=>match us,hl with | [_],_=>rfl
 have Tw:=aQ (st:=gO) jq8C jq77 jq6i;have afO:=Tw.binds (ps:=["self"]) λ_ _ _ _ _ _ us hl=>match us,hl with | [_],_=>rfl
 have Tx:=aQ (st:=fP) jq8D jq79 jq7a;have afP:=Tx.binds (ps:=["self","text"]) λ_ _ _ _ _ _ us hl=>match us,hl with | [_,_],_=>rfl
 have Tz:=aQ (st:=fQ) jq8E jq7c jq7d;have afQ:=Tz.binds (ps:=["self","edit"]) λ_ _ _ _ _ _ us hl=>match us,hl with | [_,_],_=>rfl
 have TB:=aQ (st:=iz) jq8F jq7f jq7g;have afR:=TB.binds (ps:=["self","edit"]) λ_ _ _ _ _ _ us hl=>match us,hl with | [_,_],_=>rfl
 have TC:=aQ (st:=fR) jq8G jq7i jq7j;have afS:=TC.binds (ps:=["self","sitting"]) λ_ _ _ _ _ _ us hl=>match us,hl with | [_,_],_=>rfl
 have TF:=aQ (st:=gP) jq8H jq7l jq7m;have afT:=TF.binds (ps:=["self","clause"]) λ_ _ _ _ _ _ us hl=>match us,hl with | [_,_],_=>rfl
 have gA:=aQ (st:=eU) jq35 jq2O jq2P;have gB:=gA.binds (ps:=["self","seats"]) λ_ _ _ _ _ _ us hl=>match us,hl with | [_,_],_=>rfl
 have gC:=aQ (st:=eV) jq36 jq2S jq2s;have iX:=gC.binds (ps:=["self","told"]) λ_ _ _ _ _ _ us hl=>match us,hl with | [_,_],_=>rfl
 have gD:=aQ (st:=eW) jq37 jq2V jq2t;have iY:=gD.binds (ps:=["self","ayes","noes"]) λ_ _ _ _ _ _ us hl=>match us,hl with | [_,_,_],_=>rfl
 have gF:=aQ (st:=eX) jq38 jq2Y jq2u;have iZ:=gF.binds (ps:=["self"]) λ_ _ _ _ _ _ us hl=>match us,hl with | [_],_=>rfl
 have gG:=aQ (st:=eY) jq39 jq31 jq2v;have i3:=gG.binds (ps:=["self","number"]) λ_ _ _ _ _ _ us hl=>match us,hl with | [_,_],_=>rfl
 have eB:=aQ (st:=dz) jq2C jq2x jq29;have eC:=eB.binds (ps:=["self"]) λ_ _ _ _ _ _ us hl=>match us,hl with | [_],_=>rfl
 have eD:=aQ (st:=cJ) jq2D jq2A jq2a;have eE:=eD.binds (ps:=["self"]) λ_ _ _ _ _ _ us hl=>match us,hl with | [_],_=>rfl
 have bQ:=aQ (st:=bF) jqL jqB jqn;have cy:=bQ.binds (ps:=["self","told"]) λ_ _ _ _ _ _ us hl=>match us,hl with | [_,_],_=>rfl
 have cu:=aQ (st:=bR) jq1p jq1n jqu;have cv:=cu.binds (ps:=["self"]) λ_ _ _ _ _ _ us hl=>match us,hl with | [_],_=>rfl
 have fb:=aQ (st:=dO) jq2H jq2F jq2h;have fg:=fb.binds (ps:=["self","word"]) λ_ _ _ _ _ _ us hl=>match us,hl with | [_,_],_=>rfl
 have cQ:=aQ (st:=cg) jq2b jq25 jqN;have cR:=cQ.binds (ps:=["self","deed"]) λ_ _ _ _ _ _ us hl=>match us,hl with | [_,_],_=>rfl
 have dG:=aQ (st:=cT) jq2q jq2l jq1J;have eQ:=dG.binds (ps:=["self","motion"]) λ_ _ _ _ _ _ us hl=>match us,hl with | [_,_],_=>rfl
 have cD:=aQ (st:=b8) jq27 jq1M jqD;have dB:=cD.binds (ps:=["self","edit"]) λ_ _ _ _ _ _ us hl=>match us,hl with | [_,_],_=>rfl
 have cE:=aQ (st:=b9) jq28 jq1P jqE;have dC:=cE.binds (ps:=["self","edit"]) λ_ _ _ _ _ _ us hl=>match us,hl with | [_,_],_=>rfl
 have dH:=aQ (st:=cU) jq2r jq2o jq1K;have dI:=dH.binds (ps:=["self","until"]) λ_ _ _ _ _ _ us hl=>match us,hl with | [_,_],_=>rfl
 have l5:=aQ (st:=fS) jq4W jq40 jq41;have l6:=l5.binds (ps:=["self","bar"]) λ_ _ _ _ _ _ us hl=>match us,hl with | [_,_],_=>rfl
 have i6:=aQ (st:=d8) jq3l jq3f jq3g;have lA:=i6.binds (ps:=["self","sitting"]) λ_ _ _ _ _ _ us hl=>match us,hl with | [_,_],_=>rfl
 have l7:=aQ (st:=fU) jq4X jq48 jq49;have pY:=l7.binds (ps:=["self","sitting"]) λ_ _ _ _ _ _ us hl=>match us,hl with | [_,_],_=>rfl
 have lN:=aQ (st:=gQ) jq5s jq4Y jq4Z;have oQ:=lN.binds (ps:=["self","row"]) λ_ _ _ _ _ _ us hl=>match us,hl with | [_,_],_=>rfl
 have T:Txt P K mg ⟨f_1,_,f_2,_,f_3,_,f_4,_,f_5,_,f_6,_,f_7,_,f_8,_,f_9,_,Ro,_,Rp,_,Rq,_,Rr,_,Rt,_,Ru,_,Rv,_,Rw,_,Rx,_,Ry,_,Rz,_,RA,_,RB,_,RC,_,RD,_,RE,_,RF,_,RG,_,RH,_,RI,_,RJ,_,RK,_,RL,_,RM,_,RN,_,RO,_,RP,_,RQ,_,RS,_,pS,hZ,jH,ia,pT,qO,jI,c0,c1,c2,c3,c4,c5,c6,c7,cm,tb,Fp,_,Fq,_,Fs,_,Ft,_,Fu,_,Fv,_,Fw,_,Fx,_,ym,_,A8,_,Fy,_,IV,_,Fz,_,FA,_,FC,_,FD,_,FE,_,FF,_,FG,_,FH,_,FI,_,FJ,_,a7,cK,_,cL,_,cM,_,cN,_,cO,_,b6,_,b7,_,aX,_,bc,_,cq,_,bA,_,bM,_,br,_,bt,_,bN,_,aK,bZ,bz,bU,bV,aV,bj,bp,bq,cw,bW,bO,mB,_,jb,_,mD,_,pd,_⟩:={
  Ic:=F_1,
  N1:=b_1,
  N2:=kc X G a_1,
  g0:=F_2,
  jJ:=b_2,
  jK:=kc X G a_2,
  Dj:=F_3,
  Ie:=b_3,
  Ig:=kc X G a_3,
  il:=F_4,
  jq:=b_4,
  jr:=kc X G a_4,
  jS:=F_5,
  m3:=b_5,
  m5:=kc X G a_5,
  m6:=F_6,
  xy:=b_6,
  xA:=kc X G a_6,
  u9:=F_7,
  Ao:=b_7,
  Aq:=kc X G a_7,
  lz:=F_8,
  pU:=b_8,
  pV:=kc X G a_8,
  kJ:=F_9,
  qk:=b_9,
  ql:=kc X G a_9,
  gX:=ae5,
  kS:=ahR,
  kT:=kc X G a_10,
  ip:=ae6,
  lX:=ahS,
  lY:=kc X G a_11,
  dA:=ae7,
  dP:=ahT,
  dQ:=kc X G a_12,
  wF:=ae8,
  B2:=ahU,
  B3:=kc X G a_13,
  wG:=ae9,
  B4:=ahV,
  B5:=kc X G a_14,
  qR:=afa,
  xB:=ahW,
  xC:=kc X G a_15,
  eK:=afb,
  fX:=ahX,
  fY:=kc X G a_16,
  g7:=afc,
  jL:=ahY,
  jM:=kc X G a_17,
  qS:=afd,
  xD:=ahZ,
  xE:=kc X G a_18,
  m7:=afe,
  qT:=ah0,
  qU:=kc X G a_19,
  qV:=aff,
  xF:=ah1,
  xG:=kc X G a_20,
  lZ:=afg,
  qW:=ah2,
  qX:=kc X G a_21,
  qY:=afh,
  xH:=ah3,
  xI:=kc X G a_22,
  kK:=afi,
  qm:=ah4,
  qo:=kc X G a_23,
  kL:=afj,
  qp:=ah5,
  qq:=kc X G a_24,
  l4:=afk,
  qZ:=ah6,
  q5:=kc X G a_25,
  jT:=afl,
  m8:=ah7,
  m9:=kc X G a_26,
  wH:=afm,
  B6:=ah8,
  B7:=kc X G a_27,
  sQ:=afn,
  wI:=ah9,
  wJ:=kc X G a_28,
  Ar:=afo,
  Ex:=aia,
  Ey:=kc X G a_29,
  va:=afp,
  As:=aib,
  Au:=kc X G a_30,
  nc:=afq,
  q8:=aic,
  q9:=kc X G a_31,
  wK:=afr,
  B8:=aid,
  B9:=kc X G a_32,
  pW:=afs,
  t9:=aie,
  ua:=kc X G a_33,
  Av:=aft,
  Ez:=aif,
  EA:=kc X G a_34,
  Aw:=afu,
  EB:=aih,
  EC:=kc X G a_35,
  rb:=afv,
  xJ:=aii,
  xK:=kc X G a_36,
  zk:=afw,
  Dk:=aij,
  Dl:=kc X G a_37,
  rg:=afx,
  xM:=aik,
  xN:=kc X G a_38,
  Ku:=aiV X G z1,
  pX:=aiV X G z2,
  ED:=aiV X G z3,
  Kv:=aiV X G z4,
  N3:=aiV X G z5,
  cP:=aiV X G z6,
  Sj:=aiV X G z7,
  oN:=aiV X G z8,
  Kw:=aiV X G z9,
  Sk:=aiV X G z10,
  Sl:=aiV X G z11,
  xO:=aiV X G z12,
  vb:=aiV X G z13,
  Ca:=kc X G jq4j,
  rh:=kc X G jq2L,
  vc:=kc X G jq3d,
  rj:=kc X G jq2M,
  Cb:=kc X G jq4k,
  N5:=λ_=>.inr ⟨_,_,_,jq5Q,rfl,rfl,(by show 4<=gc;decide),(.cons ⟨_,rfl⟩ (.cons ⟨_,rfl⟩ (.cons ⟨_,rfl⟩ (.cons ⟨_,rfl⟩ .nil))))⟩,
  N4:=kc X G jq5P,
  vd:=kc X G jq3e,
  cl:=λk hk=>match k,hk with | 0,_=>⟨pg0,hd0,po0,sa0⟩ | 1,_=>⟨pg1,hd1,po1,sa1⟩ | 2,_=>⟨pg2,hd2,po2,sa2⟩ | 3,_=>⟨pg3,hd3,po3,sa3⟩ | 4,_=>⟨pg4,hd4,po4,sa4⟩ | 5,_=>⟨pg5,hd5,po5,sa5⟩ | 6,_=>⟨pg6,hd6,po6,sa6⟩ | 7,_=>⟨pg7,hd7,po7,sa7⟩ | n+8,h=>absurd h (by omega),
  ve:=kc X G ac0,
  vf:=kc X G ac1,
  Ii:=kc X G ac2,
  Ax:=kc X G ac3,
  Dm:=kc X G ac4,
  N6:=kc X G ac5,
  Ik:=kc X G ac6,
  Dp:=kc X G ac7,
  Dq:=kc X G atb,
  tb:=⟨est,nt,ltb,ktb⟩,
  rk:=λk hk=>match k,hk with | 0,_=>⟨_,rk0⟩ | 1,_=>⟨_,rk1⟩ | 2,_=>⟨_,rk2⟩ | 3,_=>⟨_,rk3⟩ | 4,_=>⟨_,rk4⟩ | 5,_=>⟨_,rk5⟩ | 6,_=>⟨_,rk6⟩ | 7,_=>⟨_,rk7⟩ | n+8,h=>absurd h (by omega),
  nD:=λk hk=>match k,hk with | 0,_=>⟨jq5R,jq6q,jq5S⟩ | 1,_=>⟨jq5T,jq6s,jq5U⟩ | 2,_=>⟨jq5V,jq6u,jq5W⟩ | 3,_=>⟨jq5X,jq6w,jq5Y⟩ | 4,_=>⟨jq5Z,jq6y,jq60⟩ | 5,_=>⟨jq61,jq6A,jq62⟩ | 6,_=>⟨jq63,jq6C,jq64⟩ | 7,_=>⟨jq65,jq6E,jq66⟩ | n+8,h=>absurd h (by omega),
  nF:=λk hk=>match k,hk with | 0,_=>afy | 1,_=>afz | 2,_=>afA | 3,_=>afB | 4,_=>afC | 5,_=>afD | 6,_=>afE | 7,_=>afF | n+8,h=>absurd h (by omega),
  N7:=λk hk=>match k,hk with | 0,_=>⟨jq6N,jq50,jq4i⟩ | 1,_=>⟨jq6O,jq50,jq4i⟩ | 2,_=>⟨jq6P,jq50,jq4i⟩ | 3,_=>⟨jq6Q,jq50,jq4i⟩ | 4,_=>⟨jq67,jq6V,jq68⟩ | 5,_=>⟨jq6R,jq50,jq4i⟩ | 6,_=>⟨jq6S,jq50,jq4i⟩ | 7,_=>⟨jq6T,jq50,jq4i⟩ | n+8,h=>absurd h (by omega),
  N8:=λk hk=>match k,hk with | 0,_=>Ka | 1,_=>Ka | 2,_=>Ka | 3,_=>Ka | 4,_=>afI | 5,_=>Ka | 6,_=>Ka | 7,_=>Ka | n+8,h=>absurd h (by omega),
  N9:=λk hk=>match k,hk with | 0,_=>⟨jq69,jq70,jq6a⟩ | 1,_=>⟨jq6b,jq72,jq6c⟩ | 2,_=>⟨jq6d,jq74,jq6e⟩ | 3,_=>⟨jq6f,jq76,jq6g⟩ | 4,_=>⟨jq6W,jq6o,jq5O⟩ | 5,_=>⟨jq6X,jq6o,jq5O⟩ | 6,_=>⟨jq6Y,jq6o,jq5O⟩ | 7,_=>⟨jq6h,jq78,jq6i⟩ | n+8,h=>absurd h (by omega),
  Oa:=λk hk=>match k,hk with | 0,_=>afK | 1,_=>afL | 2,_=>afM | 3,_=>afN | 4,_=>YC | 5,_=>YC | 6,_=>YC | 7,_=>afO | n+8,h=>absurd h (by omega),
  Ob:=λk hk=>match k,hk with | 0,_=>⟨jq6F,jq4h,jq3n⟩ | 1,_=>⟨jq6G,jq4h,jq3n⟩ | 2,_=>⟨jq6H,jq4h,jq3n⟩ | 3,_=>⟨jq6I,jq4h,jq3n⟩ | 4,_=>⟨jq6J,jq4h,jq3n⟩ | 5,_=>⟨jq6K,jq4h,jq3n⟩ | 6,_=>⟨jq6L,jq4h,jq3n⟩ | 7,_=>⟨jq6M,jq4h,jq3n⟩ | n+8,h=>absurd h (by omega),
  Oc:=λ_ _=>aim,
  Zn:=Tg,
  Zo:=Th,
  Zp:=Ti,
  Zq:=Tj,
  Zr:=Tn,
  Zs:=To,
  Zt:=Tp,
  Zu:=Tq,
  F_r:=afG,
  F_n:=afH,
  Zv:=Tr,
  F_t:=afJ,
  Zw:=Ts,
  Zx:=Tt,
  Zy:=Tu,
  Zz:=Tv,
  ZA:=Tw,
  ZC:=Tx,
  ZD:=Tz,
  ZE:=TB,
  ZF:=TC,
  ZG:=TF,
  vg:=⟨mk0,jq6j,jq7b,kc0⟩,
  Qz:=afP,
  na0:=na0,
  vh:=⟨mk1,jq6k,jq7e,kc1⟩,
  QA:=afQ,
  na1:=na1,
  Il:=⟨mk2,jq6l,jq7h,kc2⟩,
  U0:=afR,
  na2:=na2,
  Ay:=⟨mk3,jq6m,jq7k,kc3⟩,
  U4:=afS,
  na3:=na3,
  Dr:=⟨mk7,jq6n,jq7n,kc7⟩,
  U5:=afT,
  na7:=na7,
  mkn:=λk hk=>by
   rcases hk with rfl | rfl | rfl
   ·exact⟨mk4,ni4,kc4⟩
   ·exact⟨mk5,ni5,kc5⟩
   ·exact⟨mk6,ni6,kc6⟩,
  wL:=kc X G jq4l,
  ah:=⟨jq4m,jq4n,jq4o,jq4p⟩,
  gA:=gA,
  gB:=gB,
  wM:=⟨jq4q,jq2N,jq2Q,jq4r⟩,
  gC:=gC,
  iX:=iX,
  rn:=⟨jq2R,jq2T,jq2s⟩,
  gD:=gD,
  iY:=iY,
  rq:=⟨jq2U,jq2W,jq2t⟩,
  gF:=gF,
  iZ:=iZ,
  rz:=⟨jq2X,jq2Z,jq2u⟩,
  gG:=gG,
  i3:=i3,
  rA:=⟨jq30,jq32,jq2v⟩,
  eB:=eB,
  eC:=eC,
  i4:=⟨jq2w,jq2y,jq29⟩,
  eD:=eD,
  eE:=eE,
  i5:=⟨jq2z,jq2B,jq2a⟩,
  bQ:=bQ,
  cy:=cy,
  fm:=⟨jqA,jqC,jqn⟩,
  cu:=cu,
  cv:=cv,
  d5:=⟨jq1m,jq1o,jqu⟩,
  fb:=fb,
  fg:=fg,
  js:=⟨jq2E,jq2G,jq2h⟩,
  cQ:=cQ,
  cR:=cR,
  fv:=⟨jq24,jq26,jqN⟩,
  dG:=dG,
  eQ:=eQ,
  kU:=⟨jq2k,jq2m,jq1J⟩,
  cD:=cD,
  dB:=dB,
  iK:=⟨jq1L,jq1N,jqD⟩,
  cE:=cE,
  dC:=dC,
  iL:=⟨jq1O,jq1Q,jqE⟩,
  dH:=dH,
  dI:=dI,
  gY:=⟨jq2n,jq2p,jq1K⟩,
  jqz:=jqz,
  jq1:=jq1,
  jq8:=jq8,
  jq2:=jq2,
  jq0:=jq0,
  jqa:=jqa,
  jqp:=jqp,
  jqb:=jqb,
  jq9:=jq9,
  jqc:=jqc,
  cS:=kc X G jq33,
  Ds:=kc X G jq5t,
  vi:=kc X G jq54,
  Az:=kc X G jq3o,
  AA:=kc X G jq3p,
  ub:=kc X G jq3q,
  wN:=kc X G jq4s,
  wO:=kc X G jq4t,
  wQ:=kc X G jq4u,
  EE:=kc X G jq55,
  Im:=kc X G jq3r,
  zm:=kc X G jq5u,
  eh:=⟨jq2I,jq2J,jq2K⟩,
  Od:=⟨⟨jq5D,jq5f,jq5E⟩,by rw[jq5F];rfl,jq5G,xhn,xhtk,jq5H⟩,
  EF:=⟨⟨_,_,_,_,_,_,_,_,_,_,_,_,_,_,_,_,jq5v,⟨⟨_,_,_,_,_,jq5x,jq5y⟩,jq5z⟩,(ic.own jq3 (by rw[jq4];exact⟨⟨_,_,_,_,_,jq5,jq6⟩,jq7⟩) ic.base)⟩⟩,
  jqo:=jqo,
  jq2i:=jq2i,
  jq2c:=jq2c,
  jq2j:=jq2j,
  jq1R:=jq1R,
  jq1S:=jq1S,
  jq1T:=jq1T,
  jq1r:=jq1r,
  jqO:=jqO,
  EG:=⟨⟨jq3I,jq3h,jq3J⟩,by rw[jq3K];rfl,jq3L,xhn,xhtk,jq3M⟩,
  xP:=⟨⟨_,_,_,_,_,_,_,_,_,_,_,_,_,_,_,_,jq3s,⟨⟨_,_,_,_,_,jq3w,jq3x⟩,jq3y⟩,(ic.own jq3 (by rw[jq4];exact⟨⟨_,_,_,_,_,jq5,jq6⟩,jq7⟩) ic.base)⟩⟩,
  jqd:=jqd,
  jq1s:=jq1s,
  jq17:=jq17,
  jq1t:=jq1t,
  jqP:=jqP,
  jqQ:=jqQ,
  jqR:=jqR,
  jqF:=jqF,
  jqq:=jqq,
  EH:=⟨⟨jq3N,jq3i,jq3O⟩,by rw[jq3P];rfl,jq3Q,xhn,xhtk,jq3R⟩,
  xQ:=⟨⟨_,_,_,_,_,_,_,_,_,_,_,_,_,_,_,_,jq3t,⟨⟨_,_,_,_,_,jq3z,jq3A⟩,jq3B⟩,(ic.own jq3 (by rw[jq4];exact⟨⟨_,_,_,_,_,jq5,jq6⟩,jq7⟩) ic.base)⟩⟩,
  jqe:=jqe,
  jq1u:=jq1u,
  jq18:=jq18,
  jq1v:=jq1v,
  jqS:=jqS,
  jqT:=jqT,
  jqU:=jqU,
  jqG:=jqG,
  jqr:=jqr,
  Io:=⟨⟨jq4H,jq3S,jq4I⟩,by rw[jq4J];rfl,jq4K,xhn,xhtk,jq4L⟩,
  AB:=⟨⟨_,_,_,_,_,_,_,_,_,_,_,_,_,_,_,_,jq4v,⟨⟨_,_,_,_,_,jq4y,jq4z⟩,jq4A⟩,(ic.own jq3 (by rw[jq4];exact⟨⟨_,_,_,_,_,jq5,jq6⟩,jq7⟩) ic.base)⟩⟩,
  jqi:=jqi,
  jq1U:=jq1U,
  jq1w:=jq1w,
  jq1V:=jq1V,
  jq19:=jq19,
  jq1a:=jq1a,
  jq1b:=jq1b,
  jqV:=jqV,
  jqw:=jqw,
  Iq:=⟨⟨jq4M,jq3T,jq4N⟩,by rw[jq4O];rfl,jq4P,xhn,xhtk,jq4Q⟩,
  AD:=⟨⟨_,_,_,_,_,_,_,_,_,_,_,_,_,_,_,_,jq4w,⟨⟨_,_,_,_,_,jq4B,jq4C⟩,jq4D⟩,(ic.own jq3 (by rw[jq4];exact⟨⟨_,_,_,_,_,jq5,jq6⟩,jq7⟩) ic.base)⟩⟩,
  jqj:=jqj,
  jq1W:=jq1W,
  jq1x:=jq1x,
  jq1X:=jq1X,
  jq1c:=jq1c,
  jq1d:=jq1d,
  jq1e:=jq1e,
  jqW:=jqW,
  jqx:=jqx,
  Ir:=⟨⟨jq4R,jq3U,jq4S⟩,by rw[jq4T];rfl,jq4U,xhn,xhtk,jq4V⟩,
  AE:=⟨⟨_,_,_,_,_,_,_,_,_,_,_,_,_,_,_,_,jq4x,⟨⟨_,_,_,_,_,jq4E,jq4F⟩,jq4G⟩,(ic.own jq3 (by rw[jq4];exact⟨⟨_,_,_,_,_,jq5,jq6⟩,jq7⟩) ic.base)⟩⟩,
  jqk:=jqk,
  jq1Y:=jq1Y,
  jq1y:=jq1y,
  jq1Z:=jq1Z,
  jq1f:=jq1f,
  jq1g:=jq1g,
  jq1h:=jq1h,
  jqX:=jqX,
  jqy:=jqy,
  EI:=⟨⟨jq3V,jq3j,jq3W⟩,by rw[jq3X];rfl,jq3Y,xhn,xhtk,jq3Z⟩,
  EJ:=⟨⟨_,_,_,_,_,_,_,_,_,_,_,_,_,_,_,_,jq3u,⟨⟨_,_,_,_,_,jq3C,jq3D⟩,jq3E⟩,(ic.own jq3 (by rw[jq4];exact⟨⟨_,_,_,_,_,jq5,jq6⟩,jq7⟩) ic.base)⟩⟩,
  jqf:=jqf,
  jq1z:=jq1z,
  jq1i:=jq1i,
  jq1A:=jq1A,
  jqY:=jqY,
  jqZ:=jqZ,
  jq10:=jq10,
  jqH:=jqH,
  jqs:=jqs,
  LA:=⟨⟨jq4a,jq3k,jq4b⟩,by rw[jq5g];rfl,jq5h,xhn,xhtk,jq5i⟩,
  l5:=l5,
  l6:=l6,
  oO:=⟨⟨_,_,_,_,_,_,_,_,_,_,_,_,_,_,_,_,jq56,(ic.own jq3 (by rw[jq4];exact⟨⟨_,_,_,_,_,jq5,jq6⟩,jq7⟩) ic.base),rfl,⟨⟨_,_,_,_,_,jq58,jq59⟩,jq5a⟩⟩,jq5j,jq5k,jq4c⟩,
  LB:=⟨⟨jq4a,jq3k,jq4b⟩,jq4c,jq5l⟩,
  jql:=jql,
  jq2d:=jq2d,
  jq20:=jq20,
  jq2e:=jq2e,
  jq1B:=jq1B,
  jq1C:=jq1C,
  jq1D:=jq1D,
  jq1j:=jq1j,
  jqI:=jqI,
  EK:=⟨⟨jq3a,jq34,jq3b⟩,by rw[jq42];rfl,jq43,xhn,xhtk,jq44⟩,
  i6:=i6,
  lA:=lA,
  ng:=⟨⟨_,_,_,_,_,_,_,_,_,_,_,_,_,_,_,_,jq3v,(ic.own jq3 (by rw[jq4];exact⟨⟨_,_,_,_,_,jq5,jq6⟩,jq7⟩) ic.base),rfl,⟨⟨_,_,_,_,_,jq3F,jq3G⟩,jq3H⟩⟩,jq45,jq46,jq3c⟩,
  EL:=⟨⟨jq3a,jq34,jq3b⟩,jq3c,jq47⟩,
  jqg:=jqg,
  jq1E:=jq1E,
  jq1k:=jq1k,
  jq1F:=jq1F,
  jq11:=jq11,
  jq12:=jq12,
  jq13:=jq13,
  jqJ:=jqJ,
  jqt:=jqt,
  LC:=⟨⟨jq4d,jq3m,jq4e⟩,by rw[jq5m];rfl,jq5n,xhn,xhtk,jq5o⟩,
  l7:=l7,
  pY:=pY,
  sS:=⟨⟨_,_,_,_,_,_,_,_,_,_,_,_,_,_,_,_,jq57,(ic.own jq3 (by rw[jq4];exact⟨⟨_,_,_,_,_,jq5,jq6⟩,jq7⟩) ic.base),rfl,⟨⟨_,_,_,_,_,jq5b,jq5c⟩,jq5d⟩⟩,jq5p,jq5q,jq4f⟩,
  LD:=⟨⟨jq4d,jq3m,jq4e⟩,jq4f,jq5r⟩,
  jqm:=jqm,
  jq2f:=jq2f,
  jq21:=jq21,
  jq2g:=jq2g,
  jq1G:=jq1G,
  jq1H:=jq1H,
  jq1I:=jq1I,
  jq1l:=jq1l,
  jqK:=jqK,
  i7:=⟨⟨jq51,jq4g,jq52⟩,by rw[jq5I];rfl,jq5J,xhn,xhtk,jq5K⟩,
  lN:=lN,
  oQ:=oQ,
  l8:=⟨⟨_,_,_,_,_,_,_,_,_,_,_,_,_,_,_,_,jq5w,(ic.own jq3 (by rw[jq4];exact⟨⟨_,_,_,_,_,jq5,jq6⟩,jq7⟩) ic.base),rfl,⟨⟨_,_,_,_,_,jq5A,jq5B⟩,jq5C⟩⟩,jq5L,jq5M,jq53⟩,
  AF:=⟨⟨jq51,jq4g,jq52⟩,jq53,jq5N⟩,
  jqh:=jqh,
  jq22:=jq22,
  jq1q:=jq1q,
  jq23:=jq23,
  jq14:=jq14,
  jq15:=jq15,
  jq16:=jq16,
  jqM:=jqM,
  jqv:=jqv }
 subst hP;exact⟨gn "law" "law" (aB u5) (aw u5) (af u5) .none S9 Ta Tb Sy OY Tc,λs v=>.of_eq rfl,λbase _ _=>VM ail T⟩
theorem walk {l:PySem.W.OpenLaw}{q:kx}{loose:List Str}{XP:(Str->Option Value)->Heap->Prop}{YP:World->Heap->Prop}{d:DefRec}{K:Params->bo}(hn:l.most=some 63)(hdf:d.params.defaults=[])
  (hY:∀(w:World) (h:Heap),YP w h->(K w.params).In h)
  (F:∀(w:World) (mg:Str->Option Value) (fa:Addr) (h:Heap),(K w.params).In h->h.Ns gr mg->mg d.name=some (.ref fa) ->
   ∃fd:kf,(∀(s:Shared) (u:Value),BindsTo s fd ⟨[u],[]⟩ [("_law_script",u)])/\∀base:Heap,(K w.params).In base->base.Ns gr mg->FnOk l.prog w (K w.params) mg base CX0 20 fa fd ["_law_script"] (K2 (K w.params))) :
  PySem.W.WalkO q loose XP YP l.row.toRowW d [] (λf vs=>PySem.call f vs) :=
 L2.Qi (n:=63) (k:=20) (x:="_law_script") (CX:=λ_=>CX0) (sp:=λw=>K2 (K w.params)) hn (by decide) hdf ⟨rfl,by decide,by decide,rfl⟩ hY F (λ_ _ a ns hl _ hS=>⟨a,ns,rfl,hS,hl,λ_=>rfl⟩) λ_ _ _ _ _ z=>z
end My
structure PySem.W.Fast:Prop where(tw3799264707452279991 tw11540708175334069644 tw17544909591747567565 tw7057845064060591820 tw1068290132523041631 tw2987440910996123676 tw18054404746101719107 tw6004736862533383759 tw11686192864714795171 tw3539175241311539558 tw15899040529924285986 tw3790478804962790266 tw15291551823501779701 tw546028949726515384 tw14351169416150805730 tw6528875255739971680 tw11775285662860329490 tw1744065711451555198 tw8121064809466292023 tw1826277306041731458 tw4000343708642423143 tw8862385006385235242 tw8667056858737482595 tw12289057485987954800 tw17297480787766488456 tw7588833303688987298 tw10697202028863296811 tw15703498986625288349 tw11027405741152410268 tw3233313697984443367 tw8132180933122669096 tw5046546139517899066 tw272352753784782927 tw9988176541273707097 tw12244163093952809472 tw1244472515575520007 tw8490483428038896191 tw10437718088332490635 tw7277196133831378483 tw7169974998537095826 tw7933914149434179442 tw14577367244212461593 tw6341613605144122904 tw6473903912851059649 tw671416989152566814 tw11783774034783221103 tw7395212392868514841 tw14416550241439160355 tw155995993779176127 tw10897137922746721780 tw8090738473023621575 tw17112293007727859169 tw6944096221352763383 tw9284499675707138637 tw205893488127137163 tw365151899890123736 tw6510030480126842744 tw472317967217864465 tw15757461450745998228 tw751360096955128504 tw8804220657133931884 tw9883756793594008120 tw8829536525903840126 tw459305303513010050 tw14529407837554876 tw15519009745544606812 tw11344881910681293685 tw13352231939232659285 tw4829034692244480331 tw12199151807464323178 tw9741353604803532888 tw2261820365740886315 tw1907584696691546051 tw12050291970020282404 tw9513868340113584470 tw6562195104095617301 tw1153927219960104052 tw17820884143907539604 tw16691882979704497302 tw13023119147193912153 tw17088229740044936237 tw8749257492436925876 tw1223907395214043897 tw13963724762374985112 tw6242726527080490672 tw18426015973892248170 tw11323896152684411069 tw4406150046962951209 tw8452378086333434418 tw1436017101739753711 tw16665116033097505274 tw10683241452768698016 tw4998829630047494912 tw10907863843919651139 tw15542600281769238858 tw11782557495921805924 tw8891069109157243900 tw9416017831507658846 tw16878632843661476574 tw5000806408348906888 tw573154585267604967 tw13638263688990909988 tw15077064755224030985 tw8263827389319402276 tw14463242047422898561 tw17515705996344005117 tw16195471550477026573 tw4744508898177264880 tw6836631249651496157 tw12094785898716739561 tw9683255380664370418 tw16543074148649517185 tw10784288411530871444 tw7963656320991186700 tw7779689466237562600 tw14338185863503356189 tw13279928413134661331 tw11554720766073367667 tw1810732581908544426 tw5574984284052299112 tw8056001345305103924 tw7484875176598146267 tw14327681575248296456 tw10297733274829543283 tw2136386755975348357 tw6251671956823061535 tw779563815102394541 tw3571501652105035033 tw7537589598286362197 tw4407566801359060022 tw2402651657742694006 tw4727234540333226698 tw10571562885845202008 tw4849107776302153465 tw4952395263903657541 tw3928921723980292819 tw9127679449575806432 tw14726280153039779385 tw1056682418622507508 tw13929596016128732142 tw6162846294367837827 tw2075221540311925571 tw6655810534290429829 tw8145161983569750298 tw14674593972768040451 tw3869749152141392336 tw9636860249572708044 tw5315595552692390521 tw9540869598537357864 tw10233684138233362987 tw16227963699861516375 tw15631091679918911507 tw14959441842124028701 tw631029774137876165 tw16471592937244504700 tw3711895556032885651 tw18366424515407058594 tw6492214957898076959 tw14940920512356877924 tw11945800613275373098 tw17664211707255144770 tw7601313475089665125 tw13937627433622781213 tw1853071137552067530 tw12273804571164151355 tw8692011172595259553 tw13497528756770326899 tw6512002743261383830 tw1852867258787061463 tw16897044272400327360 tw10284132520645585592 tw360874583027401752 tw9584189375036060197 tw211299134292921533 tw4565989717819773708 tw564879844177805759 tw6320561230823709987 tw13913070702131307774 tw4079209565518293631 tw10760798910175956462 tw4236022277754715653 tw7642309712202649684 tw12225772302029064266 tw1684418941463195451 tw18165874085764415092 tw4701171985070031895 tw9789565757139009892 tw14112083135575750718 tw13296218550946986291 tw7951332673019541043 tw3426481932424815282 tw671902773008186469 tw2451958236374737157 tw6318457104412616207 tw1618273941749952464 tw17737228826394489740 tw2589003209762449929 tw8277381095184759212 tw421934789227757520 tw10769730889262661405 tw2077913436029063638 tw2555722682824267533 tw9734663081331041225 tw3240192045049042319 tw14542437411782285506 tw16366057535565892135 tw7117252618170817714 tw12430914479089723476 tw1452146566119900384 tw10773644261063970784 tw15658466903178511008 tw13670815253451185340 tw15156185012659083605 tw3870955680146590723 tw9879549774343248578 tw12264378540436122212 tw9191371035540940461 tw13942905883002722467 tw15636434530350856511 tw17412728003384870544 tw9367658962988445822 tw5628074805445127818 tw17918953211224970603 tw11042092649162429174 tw12359919782625558521 tw2742800011191345664 tw6585077881116787162 tw17627028268236927899 tw16001421025160844156 tw11006425829038562176 tw6943470539438442777 tw17070661626964173951 tw15930050613127354161 tw5571331043195986591 tw5940049124542622487 tw13800997998329521424 tw10060334377823521613 tw6036787891559508158 tw3754795521720519954 tw3363997869863067845 tw3153382800537991195 tw2294229250862253074 tw12220635438270662565 tw8153714178893279178 tw4943374477104389986 tw13739338372419579418 tw11287547598996134092 tw6689132487568172257 tw8683876257641299532 tw17764800277176915777 tw3129723269584080940 tw8924790531891583388 tw10405639265176613669 tw15203435813925058117 tw4101627296573341826 tw4856076841502800325 tw5494671938496768286 tw2822383650858250064 tw8923594352638663597 tw2428214250675510390 tw6273959655015553732 tw8465246760283465023 tw13506365592809216904 tw1798953513871715284 tw16672634613257932480 tw11637400439582766205 tw5064712340629746410 tw3034784586236740378 tw6626662450062785844 tw8077005746718937213 tw8419501172179886413 tw9714180527890621669 tw13456496625914439603 tw1887948997623059476 tw18362925076740798725 tw15144042217864073093 tw17031050847935337929 tw8824553392687256866 tw4582365423673535696 tw2525360552872300173 tw15171922812444162233 tw10226059046739536092 tw10400629592157941187 tw223664577320768643 tw10749888411312566783 tw4104551328974206062 tw8049659024314164171 tw445841324499418264 tw4646638382004194723 tw17317718508049945043 tw9425879365070551640 tw15018981029697433902 tw16591716939345356769 tw10902888148903564811 tw10262206558158834067 tw14899308592619266031 tw3678235243568128579 tw13424974359275701097 tw8358268631374460046 tw16820057267566203977 tw3109971276392023695 tw17811310259905299317 tw13126088575643913556 tw15763610518744298898 tw13730100003426991314 tw11797700313068561346 tw12769589341423457525 tw9823452416785256788 tw6013673030438360562 tw16456871765931485258 tw9867967964048362356 tw13532148322953975351 tw14686153123172347448 tw10860616549002956779 tw14592799337763983263 tw8848538480312984518 tw2705023249559981578 tw5796725309747509208 tw10640921704438677535 tw401626023812659887 tw13794818526295768861 tw1233457042028189097 tw6730306690825423068 tw12165631560931716051 tw11938375053347073807 tw17281003949350251549 tw546451248984175131 tw5888529660311411142 tw13836877784797504618 tw12379907876162022449 tw14891566584548934462 tw17576744062213238463 tw217224496545631326 tw14252875278598486469 tw15524861585397425712 tw6101004515764750547 tw10322529189418808260 tw8027261552000072697 tw16032712143284730282 tw3966759238674974175 tw8014520841965022026 tw544227180017786850 tw6234463416844266292 tw2517405809294942302 tw18049839113792113000 tw15485325614545597791 tw10894598930233917012 tw7361287261032414337 tw9090603849412325730 tw12728466183058403998 tw16026422509382171987 tw16462096300383204127 tw15411585609402844408 tw9626150736340702465 tw345549463625053724 tw5928348921575743848 tw10260530802807023490 tw9884528352419368572 tw18247013992685360312 tw18232748344041372371 tw5964016407412302266 tw126872902316188568 tw1692127210857550634 tw6603317589355629236 tw7652521557301590556 tw5299760272209050518 tw9350230426639924230 tw13335770207850422623 tw4725235286337870558 tw15555510877217866408 tw2788454764403187101 tw13707907142259842536 tw10889161812630619951 tw7439547522744575375 tw6463902374597661310 tw8882384121499384114 tw17073394830327087516 tw2959921276258196294 tw14885755830627589556 tw16821820413364114136 tw13948624139582374513 tw18286063013292075995 tw10206362176943084067 tw6689930890171936996 tw157429328747166846 tw3399695774911239907 tw46488110992722744 tw15920046814680993389 tw1421670566453732685 tw1475601713380509558 tw7197865146044141246 tw12920927365823757267 tw2300589160932217247 tw4826460702196781455 tw4463827982152299072 tw4641171638427905437 tw10707406832394642856 tw11185519655203304829 tw11618501280986101763 tw4235112727346060509 tw15677857725258807874 tw16393472215792388434 tw7726716896080418508 tw8650335219733366497 tw18403146175523119201 tw14884156183157903940 tw13419725239467582137 tw18127758318658113747 tw7017664452088362676 tw1592672108623984312 tw16993974510384959560 tw8025781679723385577 tw17480759720237006635 tw11099723775657070976 tw8618733414767302186 tw17702192893163178778 tw10762262167008606687 tw9615245438792600244 tw11020743377575250815 tw322808229175782621 tw5024364203531169250 tw9572641534321993981 tw10152025944103458363 tw8887158190168764124 tw14064749414717154535 tw12631136021386567162 tw913247717608805706 tw18187203738055068742 tw3592145300215497535 tw9427108093821961632 tw3871472796280829816 tw5655099818046077625 tw8211875062214318614 tw16639959940116136353 tw10388698547778500547 tw5919329123035023080 tw12960929409804340826 tw3261819827727322950 tw8619398973818905827 tw3946612098481173135 tw4737458613904480711 tw12113909113248861907 tw5378398821982165817 tw3568486241530153549 tw7509834206368882988 tw10677325414396992772 tw590873108361364908 tw16243405771049309952 tw3805117730668763694 tw13836667712071451074 tw8925349142091805839 tw13562600844904959235 tw11910754864398853599 tw6614788158634259249 tw4722698558383923006 tw16168202956075145197 tw12714150639802272412 tw3716274793230157253 tw2428866400451792586 tw15520550094302617413 tw207662602850243915 tw6718759140535738445 tw18009235177073480811 tw18400294128839244254 tw5636054273492792644 tw13356812913507720424 tw14771352504969020536 tw12972283353942186031 tw4111525181247253807 tw2980749913652438276 tw7122839324300662508 tw16893078983920472423 tw1274727660219899064 tw7891266781661108344 tw6634512460649805965 tw4534281115734948880 tw13480308121251735636 tw6804942684796968922 tw12014431861567953598 tw5309244993319323776 tw2840983419987290646 tw9592754372622582438 tw17729071889466087922 tw9653129346314601384 tw11269623280820711874 tw11478168902897091790 tw13813281549424240353 tw10385364125172482370 tw11607200665476575122 tw17805407346096176557 tw8422826420844464041 tw13401558173497006823 tw8992845272074566010 tw8127037051629463600 tw12469920514315091936 tw3199591367982227869 tw4183284493793708274 tw3029863693796425092 tw3476978320377795214 tw13737651057328680450 tw5087364620111287699 tw14322987053165806645 tw9747614947719415850 tw6809742731692278629 tw17349671631104883128 tw7936476864879989635 tw17764286249243859261 tw12466170012154829965 tw15076936167402765337 tw10073852776480699736 tw9086139270939267655 tw513707646602478961 tw12513072086981217555 tw11391489816372993816 tw12485340209923856849 tw2519085643512990155 tw7781113412914957428 tw3665877019388711296 tw6609339674332524039 tw15993000047518413285 tw8648271504528890192 tw6941409329956001106 tw10609120830778327129 tw14258937355711691248 tw16145395963086881584 tw6597833646175205800 tw16979332898331104209 tw4891289328213534230 tw16187844388897468658 tw3827668013705673782 tw9950477896869563543 tw11091985382503331327 tw12255943557905761092 tw15616138707754583519 tw2366378523788974563 tw5781589166875635274 tw1400146876577219226 tw16691251520346149393 tw12768799177537786316 tw4817570402522697095 tw4803506213062114013 tw11676685076431810041 tw5650077173334173415 tw11059667828831665052 tw4867752795738224736 tw16252291497458618986 tw2175515667711333243 tw16075614550725601896 tw14177154469193586070 tw16690148253469262133 tw12695705814603821792 tw14849088224579755310 tw17427241423678887259 tw10691496929484394929 tw10379562239709097645 tw10245596097502749743 tw9338782592520175740 tw5695496089317924605 tw13393641154762781774 tw10973630562196398367 tw3164398677299205971 tw10142101206759830278 tw16367143238649493351 tw454367767464668961 tw15827769558376283651 tw7853913587783088268 tw5298368494076412436 tw9253906001374736500 tw13393339658034238253 tw17275253786798538405 tw12140297293962888103 tw3621591556465109640 tw8746653050598016670 tw13520894490838330218 tw10017682127991643135 tw15257952833172828716 tw819803756395885723 tw2570971261075840337 tw1019046150210962180 tw7956483015198660164 tw4632266468228674983 tw14140980769800067895 tw18166197291693681822 tw8946701036970509716 tw1202879425365117835 tw6214195478788720777 tw12226259868622033839 tw14596779016673617179 tw1311545130614943000 tw8123606068126042600 tw15358219664833831263 tw11250346172015855957 tw2418067327454609429 tw14076584898837553438 tw10251101372058514780 tw17312985169686749977 tw837249684508369554 tw17819142806975876617 tw16343535708236184468 tw10099620374143229900 tw6707996256698913599 tw13195242264637177196 tw6073063481318105114 tw3475849089610612216 tw7490941488024481156 tw1518345935083311155 tw4510232026656209808 tw13060758523616541369 tw11167470165034771457 tw7336588820578933270 tw14279183920401550014 tw3265290037160175824 tw7440089761533194116 tw9520520256988830246 tw4994297623289585170 tw4626988252940266757 tw14961265561943085672 tw5817664583273566745 tw14923162935335361754 tw1161331466532348506 tw8569064171547267965 tw6488121361327141377 tw12412149855993373198 tw12587505652451297827 tw11492011733117911427 tw4936607094569501573 tw1643171739543066727 tw563701809772133450 tw13306738592776165083 tw1417678536255262731 tw3487689972455097036 tw238917363385406348 tw17494470282337955883 tw15180856515571739389 tw10397853420626496748 tw9052365228572342211 tw4383469843302414131 tw8067098569387659153 tw7379778710734730971 tw4944235383548971314 tw9029996021367124060 tw8374611092446661393 tw5127869122598991807 tw7831637759459153321 tw13765611874282060276 tw11932327401630158599 tw12939973169869352302 tw14186866648757746006 tw624368363159977513 tw4772173675900447115 tw4363092099393121403 tw7099332786300793825 tw2939472987030731908 tw1271801766413144771 tw6539234830824750911 tw16306307010609006467 tw1260721105873190618 tw7563795194345200262 tw5126260542765131390 tw1061947681410606258 tw7135404032838841510:True)
open PySem PySem.W PyProof.Rows
set_option maxRecDepth 100000 in
set_option maxHeartbeats 0 in
theorem PySem.Challenge.cw_moot_k32_rows_that_lead_nowhere_holds : PySem.Challenge.rw_moot_k32_rows_that_lead_nowhere.Holds := by
 w_on;o_law;k_head;(case hw=>w_witness2)
 k_fill;refine My.walk (l:=PySem.Challenge.rw_moot_k32_rows_that_lead_nowhere) rfl rfl (λw h Y=>PySem.W.kIn_of Y) ?F
 case F =>
  intro w mg fa h KX G hmg;refine' My.all_mk KX G hmg rfl ?a_1 ?l_1 ?cc_1 ?kp_1 ?a_2 ?l_2 ?cc_2 ?kp_2 ?a_3 ?l_3 ?cc_3 ?kp_3 ?a_4 ?l_4 ?cc_4 ?kp_4 ?a_5 ?l_5 ?cc_5 ?kp_5 ?a_6 ?l_6 ?cc_6 ?kp_6 ?a_7 ?l_7 ?cc_7 ?kp_7 ?a_8 ?l_8 ?cc_8 ?kp_8 ?a_9 ?l_9 ?cc_9 ?kp_9 ?a_10 ?l_10 ?jq7o ?jq7p ?a_11 ?l_11 ?jq7q ?jq7r ?a_12 ?l_12 ?jq7s ?jq7t ?a_13 ?l_13 ?jq7u ?jq7v ?a_14 ?l_14 ?jq7w ?jq7x ?a_15 ?l_15 ?jq7y ?jq7z ?a_16 ?l_16 ?jq7A ?jq7B ?a_17 ?l_17 ?jq7C ?jq7D ?a_18 ?l_18 ?jq7E ?jq7F ?a_19 ?l_19 ?jq7G ?jq7H ?a_20 ?l_20 ?jq7I ?jq7J ?a_21 ?l_21 ?jq7K ?jq7L ?a_22 ?l_22 ?jq7M ?jq7N ?a_23 ?l_23 ?jq7O ?jq7P ?a_24 ?l_24 ?jq7Q ?jq7R ?a_25 ?l_25 ?jq7S ?jq7T ?a_26 ?l_26 ?jq7U ?jq7V ?a_27 ?l_27 ?jq7W ?jq7X ?a_28 ?l_28 ?jq7Y ?jq7Z ?a_29 ?l_29 ?jq80 ?jq81 ?a_30 ?l_30 ?jq82 ?jq83 ?a_31 ?l_31 ?jq84 ?jq85 ?a_32 ?l_32 ?jq86 ?jq87 ?a_33 ?l_33 ?jq88 ?jq89 ?a_34 ?l_34 ?jq8a ?jq8b ?a_35 ?l_35 ?jq8c ?jq8d ?a_36 ?l_36 ?jq8e ?jq8f ?a_37 ?l_37 ?jq8g ?jq8h ?a_38 ?l_38 ?jq8i ?jq8j ?a_39 ?l_39 ?jq8k ?jq8l ?z1 ?z2 ?z3 ?z4 ?z5 ?z6 ?z7 ?z8 ?z9 ?z10 ?z11 ?z12 ?z13 ?jq4j ?jq2L ?jq3d ?jq2M ?jq4k ?jq5P ?jq5Q ?jq3e ?ac0 ?ac1 ?ac2 ?ac3 ?ac4 ?ac5 ?ac6 ?ac7 ?acm ?atb ?ltb ?ktb ?rk0 ?rk1 ?rk2 ?rk3 ?rk4 ?rk5 ?rk6 ?rk7 ?pg0 ?hd0 ?po0 ?sa0 ?mk0 ?kc0 ?pg1 ?hd1 ?po1 ?sa1 ?mk1 ?kc1 ?pg2 ?hd2 ?po2 ?sa2 ?mk2 ?kc2 ?pg3 ?hd3 ?po3 ?sa3 ?mk3 ?kc3 ?pg4 ?hd4 ?po4 ?sa4 ?mk4 ?kc4 ?pg5 ?hd5 ?po5 ?sa5 ?mk5 ?kc5 ?pg6 ?hd6 ?po6 ?sa6 ?mk6 ?kc6 ?pg7 ?hd7 ?po7 ?sa7 ?mk7 ?kc7 ?jq5R ?jq8m ?jq6p ?jq5S ?jq6q ?jq5T ?jq8n ?jq6r ?jq5U ?jq6s ?jq5V ?jq8o ?jq6t ?jq5W ?jq6u ?jq5X ?jq8p ?jq6v ?jq5Y ?jq6w ?jq5Z ?jq8q ?jq6x ?jq60 ?jq6y ?jq61 ?jq8r ?jq6z ?jq62 ?jq6A ?jq63 ?jq8s ?jq6B ?jq64 ?jq6C ?jq65 ?jq8t ?jq6D ?jq66 ?jq6E ?jq6F ?jq6G ?jq6H ?jq6I ?jq6J ?jq6K ?jq6L ?jq6M ?l_mr ?jq8u ?jq3n ?jq4h ?jq6N ?jq6O ?jq6P ?jq6Q ?jq6R ?jq6S ?jq6T ?l_mn ?jq8v ?jq4i ?jq50 ?jq67 ?jq8w ?jq6U ?jq68 ?jq6V ?jq6W ?jq6X ?jq6Y ?l_mt ?jq8x ?jq5O ?jq6o ?jq69 ?jq8y ?jq6Z ?jq6a ?jq70 ?jq6b ?jq8z ?jq71 ?jq6c ?jq72 ?jq6d ?jq8A ?jq73 ?jq6e ?jq74 ?jq6f ?jq8B ?jq75 ?jq6g ?jq76 ?jq6h ?jq8C ?jq77 ?jq6i ?jq78 ?jq6j ?jq8D ?jq79 ?jq7a ?jq7b ?jq6k ?jq8E ?jq7c ?jq7d ?jq7e ?jq6l ?jq8F ?jq7f ?jq7g ?jq7h ?jq6m ?jq8G ?jq7i ?jq7j ?jq7k ?jq6n ?jq8H ?jq7l ?jq7m ?jq7n ?na0 ?na1 ?na2 ?na3 ?na7 ?ni4 ?ni5 ?ni6 ?jq4l ?jq4m ?jq4n ?jq4o ?jq4p ?jq4q ?jq4r ?jq2N ?jq35 ?jq2O ?jq2P ?jq2Q ?jq2R ?jq36 ?jq2S ?jq2s ?jq2T ?jq2U ?jq37 ?jq2V ?jq2t ?jq2W ?jq2X ?jq38 ?jq2Y ?jq2u ?jq2Z ?jq30 ?jq39 ?jq31 ?jq2v ?jq32 ?jq2w ?jq2C ?jq2x ?jq29 ?jq2y ?jq2z ?jq2D ?jq2A ?jq2a ?jq2B ?jqA ?jqL ?jqB ?jqn ?jqC ?jq1m ?jq1p ?jq1n ?jqu ?jq1o ?jq2E ?jq2H ?jq2F ?jq2h ?jq2G ?jq24 ?jq2b ?jq25 ?jqN ?jq26 ?jq2k ?jq2q ?jq2l ?jq1J ?jq2m ?jq1L ?jq27 ?jq1M ?jqD ?jq1N ?jq1O ?jq28 ?jq1P ?jqE ?jq1Q ?jq2n ?jq2r ?jq2o ?jq1K ?jq2p ?jqz ?jq1 ?jq8 ?jq2 ?jq0 ?jqa ?jqp ?jqb ?jq9 ?jqc ?jq33 ?jq5t ?jq54 ?jq3o ?jq3p ?jq3q ?jq4s ?jq4t ?jq4u ?jq55 ?jq3r ?jq5u ?jq5v ?jq3s ?jq3t ?jq4v ?jq4w ?jq4x ?jq3u ?jq56 ?jq3v ?jq57 ?jq5w ?jq3 ?jq4 ?jq5x ?jq5y ?jq5z ?jq5 ?jq6 ?jq7 ?jq3w ?jq3x ?jq3y ?jq3z ?jq3A ?jq3B ?jq4y ?jq4z ?jq4A ?jq4B ?jq4C ?jq4D ?jq4E ?jq4F ?jq4G ?jq3C ?jq3D ?jq3E ?jq58 ?jq59 ?jq5a ?jq3F ?jq3G ?jq3H ?jq5b ?jq5c ?jq5d ?jq5A ?jq5B ?jq5C ?xhn ?xhtk ?jq2I ?jq2J ?jq2K ?jq5D ?jq5f ?jq5E ?jq5F ?jq5G ?jq5H ?jqo ?jq2i ?jq2c ?jq2j ?jq1R ?jq1S ?jq1T ?jq1r ?jqO ?jq3I ?jq3h ?jq3J ?jq3K ?jq3L ?jq3M ?jqd ?jq1s ?jq17 ?jq1t ?jqP ?jqQ ?jqR ?jqF ?jqq ?jq3N ?jq3i ?jq3O ?jq3P ?jq3Q ?jq3R ?jqe ?jq1u ?jq18 ?jq1v ?jqS ?jqT ?jqU ?jqG ?jqr ?jq4H ?jq3S ?jq4I ?jq4J ?jq4K ?jq4L ?jqi ?jq1U ?jq1w ?jq1V ?jq19 ?jq1a ?jq1b ?jqV ?jqw ?jq4M ?jq3T ?jq4N ?jq4O ?jq4P ?jq4Q ?jqj ?jq1W ?jq1x ?jq1X ?jq1c ?jq1d ?jq1e ?jqW ?jqx ?jq4R ?jq3U ?jq4S ?jq4T ?jq4U ?jq4V ?jqk ?jq1Y ?jq1y ?jq1Z ?jq1f ?jq1g ?jq1h ?jqX ?jqy ?jq3V ?jq3j ?jq3W ?jq3X ?jq3Y ?jq3Z ?jqf ?jq1z ?jq1i ?jq1A ?jqY ?jqZ ?jq10 ?jqH ?jqs ?jq4a ?jq3k ?jq4b ?jq5g ?jq5h ?jq5i ?jq4W ?jq40 ?jq41 ?jq5j ?jq5k ?jq4c ?jq5l ?jql ?jq2d ?jq20 ?jq2e ?jq1B ?jq1C ?jq1D ?jq1j ?jqI ?jq3a ?jq34 ?jq3b ?jq42 ?jq43 ?jq44 ?jq3l ?jq3f ?jq3g ?jq45 ?jq46 ?jq3c ?jq47 ?jqg ?jq1E ?jq1k ?jq1F ?jq11 ?jq12 ?jq13 ?jqJ ?jqt ?jq4d ?jq3m ?jq4e ?jq5m ?jq5n ?jq5o ?jq4X ?jq48 ?jq49 ?jq5p ?jq5q ?jq4f ?jq5r ?jqm ?jq2f ?jq21 ?jq2g ?jq1G ?jq1H ?jq1I ?jq1l ?jqK ?jq51 ?jq4g ?jq52 ?jq5I ?jq5J ?jq5K ?jq5s ?jq4Y ?jq4Z ?jq5L ?jq5M ?jq53 ?jq5N ?jqh ?jq22 ?jq1q ?jq23 ?jq14 ?jq15 ?jq16 ?jqM ?jqv
  (case a_1 | l_1 | cc_1 | kp_1 | a_2 | l_2 | cc_2 | kp_2 | a_3 | l_3 | cc_3 | kp_3 | a_4 | l_4 | cc_4 | kp_4 | a_5 | l_5 | cc_5 | kp_5 | a_6 | l_6 | cc_6 | kp_6 | a_7 | l_7 | cc_7 | kp_7 | a_8 | l_8 | cc_8 | kp_8 | a_9 | l_9 | cc_9 | kp_9 | a_10 | l_10 | jq7o | jq7p | a_11 | l_11 | jq7q | jq7r | a_12 | l_12 | jq7s | jq7t | a_13 | l_13 | jq7u | jq7v | a_14 | l_14 | jq7w | jq7x | a_15 | l_15 | jq7y | jq7z | a_16 | l_16 | jq7A | jq7B | a_17 | l_17 | jq7C | jq7D | a_18 | l_18 | jq7E | jq7F | a_19 | l_19 | jq7G | jq7H | a_20 | l_20 | jq7I | jq7J | a_21 | l_21 | jq7K | jq7L | a_22 | l_22 | jq7M | jq7N | a_23 | l_23 | jq7O | jq7P | a_24 | l_24 | jq7Q | jq7R | a_25 | l_25 | jq7S | jq7T | a_26 | l_26 | jq7U | jq7V | a_27 | l_27 | jq7W | jq7X | a_28 | l_28 | jq7Y | jq7Z | a_29 | l_29 | jq80 | jq81 | a_30 | l_30 | jq82 | jq83 | a_31 | l_31 | jq84 | jq85 | a_32 | l_32 | jq86 | jq87 | a_33 | l_33 | jq88 | jq89 | a_34 | l_34 | jq8a | jq8b | a_35 | l_35 | jq8c | jq8d | a_36 | l_36 | jq8e | jq8f | a_37 | l_37 | jq8g | jq8h | a_38 | l_38 | jq8i | jq8j | a_39 | l_39 | jq8k | jq8l | z1 | z2 | z3 | z4 | z5 | z6 | z7 | z8 | z9 | z10 | z11 | z12 | z13 | jq4j | jq2L | jq3d | jq2M | jq4k | jq5P | jq5Q | jq3e | ac0 | ac1 | ac2 | ac3 | ac4 | ac5 | ac6 | ac7 | acm | atb | ltb=>k_is)
  (case ktb=>k_keys)
  (case rk0 | rk1 | rk2 | rk3 | rk4 | rk5 | rk6 | rk7 | pg0 | hd0 | po0 | sa0 | mk0 | kc0 | pg1 | hd1 | po1 | sa1 | mk1 | kc1 | pg2 | hd2 | po2 | sa2 | mk2 | kc2 | pg3 | hd3 | po3 | sa3 | mk3 | kc3 | pg4 | hd4 | po4 | sa4 | mk4 | kc4 | pg5 | hd5 | po5 | sa5 | mk5 | kc5 | pg6 | hd6 | po6 | sa6 | mk6 | kc6 | pg7 | hd7 | po7 | sa7 | mk7 | kc7 | jq5R | jq8m | jq6p | jq5S | jq6q | jq5T | jq8n | jq6r | jq5U | jq6s | jq5V | jq8o | jq6t | jq5W | jq6u | jq5X | jq8p | jq6v | jq5Y | jq6w | jq5Z | jq8q | jq6x | jq60 | jq6y | jq61 | jq8r | jq6z | jq62 | jq6A | jq63 | jq8s | jq6B | jq64 | jq6C | jq65 | jq8t | jq6D | jq66 | jq6E | jq6F | jq6G | jq6H | jq6I | jq6J | jq6K | jq6L | jq6M | l_mr | jq8u | jq3n | jq4h | jq6N | jq6O | jq6P | jq6Q | jq6R | jq6S | jq6T | l_mn | jq8v | jq4i | jq50 | jq67 | jq8w | jq6U | jq68 | jq6V | jq6W | jq6X | jq6Y | l_mt | jq8x | jq5O | jq6o | jq69 | jq8y | jq6Z | jq6a | jq70 | jq6b | jq8z | jq71 | jq6c | jq72 | jq6d | jq8A | jq73 | jq6e | jq74 | jq6f | jq8B | jq75 | jq6g | jq76 | jq6h | jq8C | jq77 | jq6i | jq78 | jq6j | jq8D | jq79 | jq7a | jq7b | jq6k | jq8E | jq7c | jq7d | jq7e | jq6l | jq8F | jq7f | jq7g | jq7h | jq6m | jq8G | jq7i | jq7j | jq7k | jq6n | jq8H | jq7l | jq7m | jq7n | na0 | na1 | na2 | na3 | na7 | ni4 | ni5 | ni6 | jq4l | jq4m | jq4n | jq4o | jq4p | jq4q | jq4r | jq2N | jq35 | jq2O | jq2P | jq2Q | jq2R | jq36 | jq2S | jq2s | jq2T | jq2U | jq37 | jq2V | jq2t | jq2W | jq2X | jq38 | jq2Y | jq2u | jq2Z | jq30 | jq39 | jq31 | jq2v | jq32 | jq2w | jq2C | jq2x | jq29 | jq2y | jq2z | jq2D | jq2A | jq2a | jq2B | jqA | jqL | jqB | jqn | jqC | jq1m | jq1p | jq1n | jqu | jq1o | jq2E | jq2H | jq2F | jq2h | jq2G | jq24 | jq2b | jq25 | jqN | jq26 | jq2k | jq2q | jq2l | jq1J | jq2m | jq1L | jq27 | jq1M | jqD | jq1N | jq1O | jq28 | jq1P | jqE | jq1Q | jq2n | jq2r | jq2o | jq1K | jq2p | jqz | jq1 | jq8 | jq2 | jq0 | jqa | jqp | jqb | jq9 | jqc | jq33 | jq5t | jq54 | jq3o | jq3p | jq3q | jq4s | jq4t | jq4u | jq55 | jq3r | jq5u | jq5v | jq3s | jq3t | jq4v | jq4w | jq4x | jq3u | jq56 | jq3v | jq57 | jq5w | jq3=>k_is)
  (case jq4=>rfl)
  (case jq5x=>k_is)
  (case jq5y=>with_unfolding_all rfl)
  (case jq5z | jq5=>k_is)
  (case jq6=>with_unfolding_all rfl)
  (case jq7 | jq3w=>k_is)
  (case jq3x=>with_unfolding_all rfl)
  (case jq3y | jq3z=>k_is)
  (case jq3A=>with_unfolding_all rfl)
  (case jq3B | jq4y=>k_is)
  (case jq4z=>with_unfolding_all rfl)
  (case jq4A | jq4B=>k_is)
  (case jq4C=>with_unfolding_all rfl)
  (case jq4D | jq4E=>k_is)
  (case jq4F=>with_unfolding_all rfl)
  (case jq4G | jq3C=>k_is)
  (case jq3D=>with_unfolding_all rfl)
  (case jq3E | jq58=>k_is)
  (case jq59=>with_unfolding_all rfl)
  (case jq5a | jq3F=>k_is)
  (case jq3G=>with_unfolding_all rfl)
  (case jq3H | jq5b=>k_is)
  (case jq5c=>with_unfolding_all rfl)
  (case jq5d | jq5A=>k_is)
  (case jq5B=>with_unfolding_all rfl)
  (case jq5C | xhn | xhtk | jq2I | jq2J | jq2K | jq5D | jq5f | jq5E | jq5F | jq5G | jq5H=>k_is)
  (case jqo=>kts_exm)
  (case jq2i | jq2c | jq2j | jq1R | jq1S | jq1T | jq1r | jqO=>kit_is)
  (case jq3I | jq3h | jq3J | jq3K | jq3L | jq3M=>k_is)
  (case jqd=>kts_exm)
  (case jq1s | jq17 | jq1t | jqP | jqQ | jqR | jqF | jqq=>kit_is)
  (case jq3N | jq3i | jq3O | jq3P | jq3Q | jq3R=>k_is)
  (case jqe=>kts_exm)
  (case jq1u | jq18 | jq1v | jqS | jqT | jqU | jqG | jqr=>kit_is)
  (case jq4H | jq3S | jq4I | jq4J | jq4K | jq4L=>k_is)
  (case jqi=>kts_exm)
  (case jq1U | jq1w | jq1V | jq19 | jq1a | jq1b | jqV | jqw=>kit_is)
  (case jq4M | jq3T | jq4N | jq4O | jq4P | jq4Q=>k_is)
  (case jqj=>kts_exm)
  (case jq1W | jq1x | jq1X | jq1c | jq1d | jq1e | jqW | jqx=>kit_is)
  (case jq4R | jq3U | jq4S | jq4T | jq4U | jq4V=>k_is)
  (case jqk=>kts_exm)
  (case jq1Y | jq1y | jq1Z | jq1f | jq1g | jq1h | jqX | jqy=>kit_is)
  (case jq3V | jq3j | jq3W | jq3X | jq3Y | jq3Z=>k_is)
  (case jqf=>kts_exm)
  (case jq1z | jq1i | jq1A | jqY | jqZ | jq10 | jqH | jqs=>kit_is)
  (case jq4a | jq3k | jq4b | jq5g | jq5h | jq5i | jq4W | jq40 | jq41 | jq5j | jq5k | jq4c | jq5l=>k_is)
  (case jql=>kts_exm)
  (case jq2d | jq20 | jq2e | jq1B | jq1C | jq1D | jq1j | jqI=>kit_is)
  (case jq3a | jq34 | jq3b | jq42 | jq43 | jq44 | jq3l | jq3f | jq3g | jq45 | jq46 | jq3c | jq47=>k_is)
  (case jqg=>kts_exm)
  (case jq1E | jq1k | jq1F | jq11 | jq12 | jq13 | jqJ | jqt=>kit_is)
  (case jq4d | jq3m | jq4e | jq5m | jq5n | jq5o | jq4X | jq48 | jq49 | jq5p | jq5q | jq4f | jq5r=>k_is)
  (case jqm=>kts_exm)
  (case jq2f | jq21 | jq2g | jq1G | jq1H | jq1I | jq1l | jqK=>kit_is)
  (case jq51 | jq4g | jq52 | jq5I | jq5J | jq5K | jq5s | jq4Y | jq4Z | jq5L | jq5M | jq53 | jq5N=>k_is)
  (case jqh=>kts_exm)
  (case jq22 | jq1q | jq23 | jq14 | jq15 | jq16 | jqM | jqv=>kit_is)
