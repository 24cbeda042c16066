import PyProof.Rows.All
import Wide.All
import OpenK.AllK
import Wide.FinOn
import Lean
import PyProof.EqAt
import PyProof.EqKinds
import PyProof.TupleCall
import PySem.Challenge.RW_moot_k18_whole_just_those_in_order
set_option Elab.async false
set_option linter.all false
set_option maxRecDepth 100000
set_option maxHeartbeats 4000000
local macro_rules|`(tactic|trivial)=>`(tactic|decide +kernel)
open PySem.Str renaming ofString → ar, join → tu, empty → alE
open PySem.W renaming Frag → ba, findIn → cb, keepIn → da, codeIn → de, exmOne → eg, nsIn → fe, fnOf → fu, mg_of → ki, isFn → om, hasDictIn → alu, emptyDict → alz, instObj → alF, plainGet → alG, plainOver → alQ, mg_none_of → alT, makesIn → alU, mroIn → alV, methodCall_KW → al2, looks_findIn → amw, callWith_K0 → amA, callWith_K → amD
open List renaming length_map → bo, mem_cons_self → gr, map_cons → km, map_append → ko, mem_append_right → kx, size_toArray → ky, length_append → ma, mem_cons_of_mem → me, getElem?_eq_getElem → adm, eq_nil_or_concat → ak4, concat_eq_append → ak5, length_singleton → ala, length_cons → alb, getD_eq_getElem?_getD → alj, getElem?_map → aln, mem_singleton → alo, getElem?_cons_zero → alq, cons_ne_nil → alv, mem_of_getElem? → alw, getElem?_cons_succ → alx, range' → alC, length_take → alD, mem_append_left → alI, getLast?_concat → alK, map_nil → alM, find?_cons → alO, lookup → alR, length_set → alZ, length_range' → al5, append_nil → ama, take_length → amc, dropLast_concat → amf, mem_range'_1 → amh, append_assoc → ami, length_zip → amk, map_congr_left → aml, getElem?_set_self → amm, length_drop → amo, getElem?_append_right → amr, take_succ → ams, length_filter_le → amt, getElem?_set_ne → amv, lookup_cons → amC, length_nil → amE, any_cons → amF
open PySem renaming wpAny_bind → gn, mainGlobals → ka, sizeLine → kg, FuncData → kj, Program → rf, wpAny_pure → wa, wpAny → ak7, starEach → ak8, wpAny_mono → alg, Spec → alh, excClassObj → alJ, wpAny_holding → alY, DictEntry → al3, wpAny_standAt → al4, compareOp → al6, bootBuiltins → al8, mem_of_lookup → al9, sysModules → amj
open PySem.Heap renaming get?_push_of_some → kf, lt_size → sr, get?_push_size → alf, get?_update_other → alS, get?_update_self → amb, size_push → amB
open Nat renaming le_refl → kq, le_trans → ak3, ne_of_lt → ale, lt_of_lt_of_le → ali, le_succ_of_le → alp, zero_le → alX, le_succ → al1
open Bool renaming false_ne_true → kr, and_eq_true → alW, and_self → al0
open Sum renaming inl → ku, inr → wt
open PySem.F renaming plainAttrs_list → si, slot_list_append → alk, type_list_append → alm, plainAttrs_str → amn
open Or renaming inl → tm
open PySem.PyData renaming canLay0 → ak6, canLayAll0 → ald, depthAll → alA, strOk → alB, str → alL, depth → alN, eqv → alP, eqvAll → amG
open Option.some renaming inj → ak9
open PySem.Value renaming ref → alc, none → amx
open Ne renaming symm → alr
open False renaming elim → als
open Int renaming emod_lt_of_pos → aly, emod_nonneg → alH
open PySem.Obj renaming mapFields → al7
open PySem.SeqAt renaming shaped → amd
open PySem.NameKind renaming free → ame
open PySem.Builtin.Str renaming occurrences → amg
open True renaming intro → amq
open PySem.Builtin.Slice renaming slicePlaces → amu
open PySem.Builtin.Tuple renaming tupleExact → amy
open Array renaming length_toList → amz
namespace L2
open PySem PySem.Spec PyProof.Rows
abbrev Key:=Sum Int Str
def AF:Key->Value->Bool
 | .inl k,v=>Value.isInt k v
 | .inr x,v=>Value.isStrOf x v
def ahZ (w:World):Key->Int
 | .inl k=>hashInt k
 | .inr x=>hashStr w x
theorem dZ:∀ {k:Key} {v:Value},AF k v=true->(∃i t,k=ku i/\v=Value.int i t)\/(∃x t,k=wt x/\v=Value.str x t)
 | .inl i,v,h=>by
  obtain⟨t,e⟩:=Value.isInt_shape (k:=i) (v:=v) h;exact .inl ⟨i,t,rfl,e⟩
 | .inr x,v,h=>by
  obtain⟨t,e⟩:=Value.isStrOf_shape (x:=x) (v:=v) h;exact .inr ⟨x,t,rfl,e⟩
theorem MB (i:Int)(t:Tok):AF (.inl i) (.int i t)=true:=by simp[AF,Value.isInt]
theorem MC (x:Str)(t:Tok):AF (.inr x) (.str x t)=true:=by simp[AF,Value.isStrOf]
theorem Vj (a b:Int):decide ((ku a:Key)=ku b)=(a == b):=by
 by_cases e:a=b
 ·subst e;simp
 ·have h:¬(ku a:Key)=ku b:=λq=>e (Sum.inl.inj q)
  rw[decide_eq_false h];exact(beq_eq_false_iff_ne.mpr e).symm
theorem Vk (a b:Str):decide ((wt a:Key)=wt b)=decide (a=b):=by
 by_cases e:a=b
 ·subst e;simp
 ·have h:¬(wt a:Key)=wt b:=λq=>e (Sum.inr.inj q)
  rw[decide_eq_false h,decide_eq_false e]
theorem Vl (a:Int)(b:Str):decide ((ku a:Key)=wt b)=false:=decide_eq_false (λq=>nomatch q)
theorem Vm (a:Str)(b:Int):decide ((wt a:Key)=ku b)=false:=decide_eq_false (λq=>nomatch q)
def dF (prog:rf)(w:World):PySem.KeyKind prog w Key where
 is:=AF
 hash:=ahZ w
 inj:=λv a b ha hb=>by
  rcases dZ ha with ⟨i,t,rfl,rfl⟩ | ⟨x,t,rfl,rfl⟩
  ·rcases dZ hb with ⟨j,u,rfl,e⟩ | ⟨y,u,rfl,e⟩
   ·injection e with e1 _;rw[e1]
   ·exact nomatch e
  ·rcases dZ hb with ⟨j,u,rfl,e⟩ | ⟨y,u,rfl,e⟩
   ·exact nomatch e
   ·injection e with e1 _;rw[e1]
 byValue:=λk v h=>by
  rcases dZ h with ⟨i,t,rfl,rfl⟩ | ⟨x,t,rfl,rfl⟩ <;> rfl
 pyHash:=λhv h=>by
  rcases dZ hv with ⟨i,t,rfl,rfl⟩ | ⟨x,t,rfl,rfl⟩
  ·exact wpAny_pyHash_int h
  ·exact wpAny_pyHash_str h
 eqBool:=λhu hv h=>by
  rcases dZ hu with ⟨i,t,rfl,rfl⟩ | ⟨x,t,rfl,rfl⟩
  ·rcases dZ hv with ⟨j,u,rfl,rfl⟩ | ⟨y,u,rfl,rfl⟩
   ·rw[Vj]at h;exact wpAny_eqBool_int h
   ·rw[Vl]at h;exact SeqAt.EqAt.int_str i t y u _ _ _ _ h
  ·rcases dZ hv with ⟨j,u,rfl,rfl⟩ | ⟨y,u,rfl,rfl⟩
   ·rw[Vm]at h;exact SeqAt.EqAt.str_int x t j u _ _ _ _ h
   ·rw[Vk]at h;exact wpAny_eqBool_str h
 «strs»:=λk x t v h=>by
  rcases dZ h with ⟨i,u,rfl,e⟩ | ⟨y,u,rfl,e⟩
  ·exact nomatch e
  ·injection e with e1 _
   subst e1;cases v <;> rfl
theorem FK (prog:rf)(w:World)(i:Int)(t:Tok):(dF prog w).is (.inl i) (.int i t)=true:=MB i t
theorem FL (prog:rf)(w:World)(x:Str)(t:Tok):(dF prog w).is (.inr x) (.str x t)=true:=MC x t
inductive V where
 |non | bl (b:Bool) | int (i:Int) | str (x:Str) | byt (b:Array UInt8) | flt (b:UInt64) | ref (a:Addr) | ty (n:String)
 deriving DecidableEq
def RelV:V->Value->Prop
 | .non,u=>u=amx
 | .bl b,u=>u=Value.bool b
 | .int i,u=>∃t,u=Value.int i t
 | .str x,u=>∃t,u=Value.str x t
 | .byt b,u=>∃t,u=Value.bytes b t
 | .flt b,u=>∃t,u=Value.float b t
 | .ref a,u=>u=alc a
 | .ty n,u=>u=Value.type n
abbrev Vals:List V->List Value->Prop:=Paired RelV
theorem Vals.length {xs:List V}{us:List Value}(r:Vals xs us):xs.length=us.length:=Paired.length r
theorem Vals.get:∀ {xs:List V} {us:List Value} {i:Nat} {x:V},Vals xs us->xs[i]?=some x->∃u,us[i]?=some u/\RelV x u
 |_,_,_,_,.nil,e=>by simp at e
 |_,_,0,_,.cons r _,e=>by simp at e;subst e;exact⟨_,rfl,r⟩
 |_,_,i+1,x,.cons _ t,e=>by
  obtain⟨u,h1,h2⟩:=Vals.get (i:=i) (x:=x) t (by simpa using e)
  exact⟨u,by simpa using h1,h2⟩
theorem Vals.set {x:V}{u:Value}(r:RelV x u):∀ {xs:List V} {us:List Value} (i:Nat),Vals xs us->Vals (xs.set i x) (us.set i u)
 |_,_,_,.nil=>.nil
 |_,_,0,.cons _ t=>.cons r t
 |_,_,i+1,.cons q t=>.cons q (Vals.set r i t)
theorem Vals.append:∀ {xs ys:List V} {us ws:List Value},Vals xs us->Vals ys ws->Vals (xs++ys) (us++ws)
 |_,_,_,_,.nil,s=>s
 |_,_,_,_,.cons r t,s=>.cons r (Vals.append t s)
theorem Vals.take:∀ {xs:List V} {us:List Value} (n:Nat),Vals xs us->Vals (xs.take n) (us.take n)
 |_,_,0,_=>.nil
 |_,_,_+1,.nil=>.nil
 |_,_,n+1,.cons r t=>.cons r (Vals.take n t)
theorem Vals.drop:∀ {xs:List V} {us:List Value} (n:Nat),Vals xs us->Vals (xs.drop n) (us.drop n)
 |_,_,0,r=>r
 |_,_,_+1,.nil=>.nil
 |_,_,n+1,.cons _ t=>Vals.drop n t
theorem Vals.none_of:∀ {xs:List V} {us:List Value} {i:Nat},Vals xs us->xs[i]?=none->us[i]?=none:=λ{xs us i} r e=>by
 have h1:=r.length;have h2:xs.length<=i:=List.getElem?_eq_none_iff.mp e;exact List.getElem?_eq_none_iff.mpr (by omega)
def o8:Option V->Option Value->Prop
 |some v,some u=>RelV v u
 |none,none=>True
 |_,_=>False
def KV {κ:Type}:List (κ×V)->List (κ×Value)->Prop:=Paired λ(p:κ×V) (q:κ×Value)=>p.1=q.1/\RelV p.2 q.2
def kV:Key->V
 | .inl i=>.int i
 | .inr x=>.str x
inductive HO where
 |lst (xs:List V)
 |tup (xs:List V)
 |dK (kvs:List (Key×V)) | dT (kvs:List (List Key×V))
 |set (S:Int->Bool) (n:Nat)
 |ins (C dx:Addr) (fs:List (Str×V))
 |own (x:Addr)
 |xd (fs:List (Str×V))
 |met (f x:Addr)
 |rng (lo hi:Int)
 |frz (o:Obj) (u:HO)
 |tbl (ps:Array Value)
 |ext (φ:Heap->Prop)
abbrev Hp:=Addr->Option HO
def upd (H:Hp)(a:Addr)(o:HO):Hp:=λb=>if b=a then some o else H b
theorem ae {H:Hp}{a:Addr}{o:HO}:upd H a o a=some o:=by unfold upd;rw[if_pos rfl]
theorem av {H:Hp}{a b:Addr}{o:HO}(h:b≠a):upd H a o b=H b:=by unfold upd;rw[if_neg h]
theorem nJ {H:Hp}{a:Addr}{o u:HO}:upd (upd H a o) a u=upd H a u:=by
 funext b;unfold upd;split <;> rfl
theorem ZY {H:Hp}{a b:Addr}{o u:HO}(h:H a=some o)(h':H b=some u)(d:o≠u):a≠b:=by
 intro e;subst e;rw[h]at h';exact d (ak9 h')
theorem aI {H:Hp}{a b:Addr}{o:HO}(h:H a=some o)(h':H b=none):a≠b:=by
 intro e;subst e;rw[h]at h';cases h'
section
variable(P:rf)(w:World)
def fE (H:Hp)(h:Heap)(a:Addr):HO->Prop
 | .lst xs=>xs.length<=kg/\∃(its:List Value) (n:Nat),Vals xs its/\h.get? a=some { cls:=.type "list",data:=.seq its.toArray n }
 | .tup xs=>xs.length<=kg/\∃its:List Value,Vals xs its/\IsTup h a its.toArray
 | .dK kvs=>kvs.length<=kg/\(a == amj)=false/\∃vs,KV kvs vs/\h.DictOf (dF P w) a vs
 | .dT kvs=>kvs.length<=kg/\(a == amj)=false/\∃xs:List (List Key×Addr×Value),
   Paired (λ(p:List Key×V) (q:List Key×Addr×Value)=>p.1=q.1/\H q.2.1=some (.tup (p.1.map kV))/\RelV p.2 q.2.2) kvs xs /\
   ∃o es ep,h.get? a=some o/\o.ExactDict/\o.data=.dict es ep/\es.toList=xs.map (entryOfKey (tupleKind (dF P w)))/\(xs.map (·.1)).Nodup
 | .set S n=>h.SetOf (intKind P w) a S n
 | .ins C dx fs=>H dx=some (.own a)/\fs.length<=1000/\dx≠a/\h.get? a=some (alF C dx) /\
   ∃mA,h.Ns1 dx mA/\(∀f,o8 (fs.lookup f) (mA f))/\PySem.Within mA (fs.map (·.1))
 | .own _=>∃o,h.get? a=some o
 | .xd fs=>∃mA,h.Ns1 a mA/\∀f,o8 (fs.lookup f) (mA f)
 | .rng lo hi=>∃t u v,h.get? a=some { cls:=.type "range",data:=.fields #[.int lo t,.int hi u,.int 1 v] }
 | .frz o u=>h.get? a=some o/\fE H h a u
 | .tbl ps=>h.get? a=some { cls:=.none,data:=.fields ps }
 | .met f x=>h.get? a=some (PySem.W.methodObj (.ref f) (.ref x))
 | .ext φ=>φ h/\(∃o,h.get? a=some o)/\∀h1 h2:Heap,φ h1->(∀o,h1.get? a=some o->h2.get? a=some o)->φ h2
def HOk (H:Hp)(h:Heap):Prop:=∀a o,H a=some o->fE P w H h a o
end
section
variable{P:rf}{w:World}{H H':Hp}{h h':Heap}{a:Addr}{o:HO}
theorem fE.lt (x:fE P w H h a o):a < h.objs.size:=by
 cases o with
 |lst xs=>obtain⟨_,_,_,_,e⟩:=x;exact sr e
 |tup xs=>obtain⟨_,_,_,p⟩:=x;exact p.lt
 |dK kvs=>obtain⟨_,_,_,_,o,_,_,e,_⟩:=x;exact sr e
 |dT kvs=>obtain⟨_,_,_,_,o,_,_,e,_⟩:=x;exact sr e
 |set S n=>obtain⟨o,_,_,_,e,_⟩:=x;exact sr e
 |ins C dx fs=>obtain⟨_,_,_,e,_⟩:=x;exact sr e
 |own y=>obtain⟨_,e⟩:=x;exact sr e
 |xd fs=>obtain⟨_,⟨_,_,_,e,_⟩,_⟩:=x;exact sr e
 |rng lo hi=>obtain⟨_,_,_,e⟩:=x;exact sr e
 |frz ob u=>obtain⟨e,_⟩:=x;exact sr e
 |tbl ps=>exact sr (show h.get? a=some _ from x)
 |met f y=>exact sr (show h.get? a=some _ from x)
 |ext φ=>obtain⟨_,⟨_,e⟩,_⟩:=x;exact sr e
theorem Paired.Vn {α β:Type}{F G:α->β->Prop}:∀ {l₁:List α} {l₂:List β},Paired F l₁ l₂->(∀a b,F a b->G a b)->Paired G l₁ l₂
 |_,_,.nil,_=>.nil
 |_,_,.cons r t,f=>.cons (f _ _ r) (Paired.Vn t f)
theorem fE.CI (x:fE P w H h a o)(k:∀b u,(b=a\/H b=some (.own a))->h.get? b=some u->h'.get? b=some u)
  (ho:∀b,H b=some (.own a)->H' b=some (.own a)) (ht:∀b xs,H b=some (.tup xs)->H' b=some (.tup xs)):fE P w H' h' a o:=by
 induction o with
 |lst xs=>obtain⟨z,its,n,r,e⟩:=x;exact⟨z,its,n,r,k _ _ (.inl rfl) e⟩
 |tup xs=>obtain⟨z,its,r,ob,e,c⟩:=x;exact⟨z,its,r,ob,k _ _ (.inl rfl) e,c⟩
 |dK kvs=>obtain⟨z,y,vs,r,ob,es,ep,e,c⟩:=x;exact⟨z,y,vs,r,ob,es,ep,k _ _ (.inl rfl) e,c⟩
 |dT kvs =>
  obtain⟨z,y,xs,r,ob,es,ep,e,c⟩:=x;exact⟨z,y,xs,Paired.Vn r λp q z=>⟨z.1,ht _ _ z.2.1,z.2.2⟩,ob,es,ep,k _ _ (.inl rfl) e,c⟩
 |set S n=>obtain⟨ob,es,ep,t,e,c⟩:=x;exact⟨ob,es,ep,t,k _ _ (.inl rfl) e,c⟩
 |ins C dx fs =>
  obtain⟨d,z,ne,e,mA,⟨od,es,ep,e2,c⟩,r⟩:=x;exact⟨ho _ d,z,ne,k _ _ (.inl rfl) e,mA,⟨od,es,ep,k _ _ (.inr d) e2,c⟩,r⟩
 |own y=>obtain⟨ob,e⟩:=x;exact⟨ob,k _ _ (.inl rfl) e⟩
 |xd fs=>obtain⟨mA,⟨od,es,ep,e,c⟩,r⟩:=x;exact⟨mA,⟨od,es,ep,k _ _ (.inl rfl) e,c⟩,r⟩
 |rng lo hi=>obtain⟨t,u,v,e⟩:=x;exact⟨t,u,v,k _ _ (.inl rfl) e⟩
 |frz ob u ih=>obtain⟨e,q⟩:=x;exact⟨k _ _ (.inl rfl) e,ih q⟩
 |tbl ps =>
  have e:h.get? a=some { cls:=.none,data:=.fields ps }:=x;show h'.get? a=some { cls:=.none,data:=.fields ps };exact k a _ (.inl rfl) e
 |met f y =>
  have e:h.get? a=some (PySem.W.methodObj (.ref f) (.ref y)):=x;show h'.get? a=some (PySem.W.methodObj (.ref f) (.ref y));exact k a _ (.inl rfl) e
 |ext φ=>obtain⟨p,⟨o,e⟩,st⟩:=x;exact⟨st _ _ p λo q=>k _ _ (.inl rfl) q,⟨o,k _ _ (.inl rfl) e⟩,st⟩
theorem HOk.lt (x:HOk P w H h)(e:H a=some o):a < h.objs.size:=(x a o e).lt
theorem HOk.fresh (x:HOk P w H h)(e:h.objs.size<=a):H a=none:=by
 cases q:H a with
 |none=>rfl
 |some u=>exact absurd (ali (x.lt q) e) (Nat.lt_irrefl _)
theorem HOk.kept (x:HOk P w H h)(k:∀b u,h.get? b=some u->h'.get? b=some u):HOk P w H h':=λa o e =>
 (x a o e).CI (λb u _ q=>k b u q) (λ_ q=>q) λ_ _ q=>q
theorem HOk.laid (x:HOk P w H h)(k:∀b u,h.get? b=some u->h'.get? b=some u)(hp:h.objs.size<=a)(new:fE P w (upd H a o) h' a o):HOk P w (upd H a o) h':=λb u e=>by
 have hn:=x.fresh hp
 by_cases hb:b=a
 ·subst hb;rw[ae]at e;cases e;exact new
 ·rw[av hb]at e;exact(x b u e).CI (λc v _ q=>k c v q) (λc q=>by rw[av (aI q hn)];exact q) λc xs q=>by rw[av (aI q hn)];exact q
end
def Rd (H:Hp)(a:Addr)(u:HO):Prop:=H a=some u\/∃o,H a=some (.frz o u)
theorem Rd.of {H:Hp}{a:Addr}{u:HO}(h:H a=some u):Rd H a u:=.inl h
theorem Rd.ok {P:rf}{w:World}{H:Hp}{h:Heap}{a:Addr}{u:HO}(r:Rd H a u)(x:HOk P w H h):fE P w H h a u:=by
 rcases r with r | ⟨o,r⟩
 ·exact x a u r
 ·obtain⟨_,q⟩:=x a _ r;exact q
def Mut:Option HO->Prop
 |some (.lst _)=>True
 |some (.dK _)=>True
 |some (.dT _)=>True
 |some (.set _ _)=>True
 |some (.ins _ _ _)=>True
 |some (.ext _)=>True
 |_=>False
section
variable{P:rf}{w:World}{H:Hp}{h h':Heap}{x e:Addr}{o':HO}
theorem HOk.write (ok:HOk P w H h)(mu:Mut (H x))(he:e=x\/H e=some (.own x))(k:∀b u,b≠e->h.get? b=some u->h'.get? b=some u)(heo:∃u,h'.get? e=some u)
  (new:fE P w (upd H x o') h' x o'):HOk P w (upd H x o') h':=λb u q=>by
 have ZZ:∀c y,H c=some (.own y)->c≠x:=λc y r z=>by subst z;rw[r]at mu;exact mu
 have ah0:∀c xs,H c=some (.tup xs)->c≠x:=λc xs r z=>by subst z;rw[r]at mu;exact mu
 by_cases hb:b=x
 ·subst hb;rw[ae]at q;cases q;exact new
 ·rw[av hb]at q
  by_cases hbe:b=e
  ·have q':H b=some (.own x):=by
    rcases he with z | z
    ·exact absurd (hbe.trans z) hb
    ·rw[hbe];exact z
   rw[q]at q';cases q';obtain⟨v,hv⟩:=heo;exact⟨v,by rw[hbe];exact hv⟩
  ·refine(ok b u q).CI (λc v hc r=>k c v ?_ r) (λc r=>by rw[av (ZZ c b r)];exact r) λc xs r=>by rw[av (ah0 c xs r)];exact r
   rcases hc with rfl | hc
   ·exact hbe
   ·rintro rfl;rcases he with z | z
    ·exact ZZ c b hc z
    ·rw[hc]at z;cases z;exact hb rfl
end
structure Un (fs ex:List Addr)(H H':Hp)(h h':Heap):Prop where
 keep:∀b o,h.get? b=some o->H b=none->b∉fs->b∉ex->h'.get? b=some o
 slot:∀b o,h.get? b=some o->H b=none->b∈fs->b∉ex->∃sl,h'.get? b=some { o with slots:=sl }
 free:∀b o,h.get? b=some o->H b=none->b∉ex->H' b=none
 there:∀b o,h.get? b=some o->b∉ex->∃o',h'.get? b=some o'
 vF:∀b xs,H b=some (.tup xs)->H' b=some (.tup xs)
 uC:∀b o u,H b=some (.frz o u)->H' b=some (.frz o u)
 vG:∀b ps,H b=some (.tbl ps)->∃more,H' b=some (.tbl (ps++more))
section
variable{fs fs' ex ex':List Addr}{H H1 H2:Hp}{h h1 h2 h':Heap}{a x e:Addr}{o:HO}
theorem Un.any (u:Un fs ex H H1 h h1){b:Addr}{ob:Obj}(q:h.get? b=some ob)(n:H b=none)(hx:b∉ex):∃sl,h1.get? b=some { ob with slots:=sl }:=by
 by_cases hb:b∈fs
 ·exact u.slot b ob q n hb hx
 ·exact⟨ob.slots,u.keep b ob q n hb hx⟩
theorem Un.trans (a:Un fs ex H H1 h h1)(b:Un fs ex H1 H2 h1 h2):Un fs ex H H2 h h2 where
 keep:=λc ob q n hc hx=>b.keep c ob (a.keep c ob q n hc hx) (a.free c ob q n hx) hc hx
 slot:=λc ob q n hc hx=>by
  obtain⟨sl,e1⟩:=a.slot c ob q n hc hx;obtain⟨sl',e2⟩:=b.slot c _ e1 (a.free c ob q n hx) hc hx;exact⟨sl',e2⟩
 free:=λc ob q n hx=>by
  obtain⟨o',e1⟩:=a.there c ob q hx;exact b.free c o' e1 (a.free c ob q n hx) hx
 there:=λc ob q hx=>by
  obtain⟨o',e1⟩:=a.there c ob q hx;exact b.there c o' e1 hx
 vF:=λc xs q=>b.vF c xs (a.vF c xs q)
 uC:=λc ob xs q=>b.uC c ob xs (a.uC c ob xs q)
 vG:=λc ps q=>by
  obtain⟨m1,e1⟩:=a.vG c ps q;obtain⟨m2,e2⟩:=b.vG c _ e1;exact⟨m1++m2,by rw[e2,Array.append_assoc]⟩
theorem Un.kept (k:∀b u,h.get? b=some u->h'.get? b=some u):Un fs ex H H h h' :=
 ⟨λb ob q _ _ _=>k b ob q,λb ob q _ _ _=>⟨ob.slots,k b ob q⟩,λ_ _ _ n _=>n,λb ob q _=>⟨ob,k b ob q⟩,λ_ _ q=>q,λ_ _ _ q=>q,λ_ ps q=>⟨#[],by rw[q];simp⟩⟩
theorem Un.refl:Un fs ex H H h h:=Un.kept λ_ _ q=>q
theorem Un.laid (k:∀b u,h.get? b=some u->h'.get? b=some u)(hp:h.objs.size<=a)(hn:H a=none):Un fs ex H (upd H a o) h h' where
 keep:=λb u q _ _ _=>k b u q
 slot:=λb u q _ _ _=>⟨u.slots,k b u q⟩
 free:=λb u q n _=>by rw[av (ale (ali (sr q) hp))];exact n
 there:=λb u q _=>⟨u,k b u q⟩
 vF:=λb xs q=>by rw[av (aI q hn)];exact q
 uC:=λb u xs q=>by rw[av (aI q hn)];exact q
 vG:=λb ps q=>⟨#[],by rw[av (aI q hn),q];simp⟩
theorem Un.write (mu:Mut (H x))(he:e=x\/H e=some (.own x))(k:∀b u,b≠e->h.get? b=some u->h'.get? b=some u)(heo:∃u,h'.get? e=some u):Un fs ex H (upd H x o) h h':=by
 have hx:∀b,H b=none->b≠x:=λb n z=>by subst z;rw[n]at mu;exact mu
 have hb:∀b,H b=none->b≠e:=λb n z=>by
  subst z;rcases he with r | r
  ·exact hx b n r
  ·rw[n]at r;cases r
 have hm:∀b u,H b=some u->¬Mut (some u)->b≠x:=λb u q nm z=>by subst z;rw[q]at mu;exact nm mu
 refine⟨λb u q n _ _=>k b u (hb b n) q,λb u q n _ _=>⟨u.slots,k b u (hb b n) q⟩,λb u q n _=>by rw[av (hx b n)];exact n,λb u q _=>?_,
  λb xs q=>by rw[av (hm b _ q λz=>z)];exact q,λb u xs q=>by rw[av (hm b _ q λz=>z)];exact q,λb ps q=>⟨#[],by rw[av (hm b _ q λz=>z),q];simp⟩⟩
 by_cases hbe:b=e
 ·subst hbe;exact heo
 ·exact⟨u,k b u hbe q⟩
theorem Un.mono (u:Un fs ex H H1 h h1)(hs:∀b∈fs,b∈fs')(hx:∀b∈ex,b∈ex'):Un fs' ex' H H1 h h1 :=
 ⟨λb ob q n hb he=>u.keep b ob q n (λz=>hb (hs b z)) λz=>he (hx b z),λ_ _ q n _ he=>u.any q n λz=>he (hx _ z),λb ob q n he=>u.free b ob q n λz=>he (hx b z),λb ob q he=>u.there b ob q λz=>he (hx b z),u.vF,u.uC,u.vG⟩
end
def trk (h:Heap)(H:Hp):List Addr:=(List.range h.objs.size).filter λa=>(H a).isSome
def Ej (h:Heap)(H:Hp):Heap:=PySem.W.hideAll h (trk h H)
theorem MD (h:Heap)(H:Hp):(Ej h H).objs.size=h.objs.size:=PySem.W.hideAll_size _ _
theorem NZ {h:Heap}{H:Hp}{b:Addr}{o:Obj}(e:h.get? b=some o)(n:H b=none):(Ej h H).get? b=some o :=
 PySem.W.hideAll_get _ e λhm=>by
  have q:(H b).isSome=true:=(List.mem_filter.mp hm).2;rw[n]at q;simp at q
theorem Rj {h:Heap}{H:Hp}{b:Addr}{o:Obj}(e:(Ej h H).get? b=some o):h.get? b=some o/\H b=none:=by
 have e':h.get? b=some o:=PySem.W.of_hideAll (trk h H) e;refine⟨e',?_⟩;cases q:H b with
 |none=>rfl
 |some x =>
  have hm:b∈trk h H:=List.mem_filter.mpr ⟨List.mem_range.mpr (sr e'),by simp[q]⟩
  have z:(Ej h H).get? b=none:=PySem.W.hideAll_none (trk h H) hm;rw[z]at e;cases e
def Rk (g h:Heap)(L:Addr):List (Addr×Obj):=(List.range h.objs.size).filterMap λa=>if a=L\/(g.get? a).isSome=true then none else (h.get? a).map λo=>(a,o)
def rest (g h:Heap)(L d:Addr):List (Addr×Obj):=(Rk g h L).filter λp=>decide (p.1≠d)
structure Mod (K:ba)(mg:Str->Option Value)(base:Heap):Prop where
 kin:K.In base
 glob:base.Ns ka mg
 blt:∃mb,base.Ns builtinsNs mb/\∀x:Str,x≠"__name__"->mb x=al8 x
 nolimit:base.NoLimit
structure Cx where
 prog:rf
 w:World
 K:ba
 mg:Str->Option Value
 base:Heap
 A:Around
 N:List Str
 s₀:Shared
 H₀:Hp
 env:Env
 outer:List Env
 stack:List Env
 ex:List Addr
 fn:Str->Bool
 calm:Bool
 pn:List (Addr×Obj)
 xe:Value->Shared->Prop
def frs (l:List Env):List Addr:=l.filterMap (·.frame)
abbrev Cx.fs (X:Cx):List Addr:=frs X.outer
def Vis (sc:Scope)(x:Str):Prop:=sc.names.lookup x=some .local\/sc.names.lookup x=some .cell\/sc.names.lookup x=some .free
def Loc (sc:Scope)(x:Str):Prop:=sc.names.lookup x=some .local\/sc.names.lookup x=some .cell
def Look (env:Env)(h:Heap)(m:Str->Option Value)(x:Str)(u:Value):Prop :=
 (env.kindOf x=some .local/\m x=some u)\/((env.kindOf x=some .cell\/env.kindOf x=some .free)/\∃c,env.cells.lookup x=some c/\h.IsCell c (some u))
structure Cx.Ok (X:Cx):Prop where
 mod:Mod X.K X.mg X.base
 kind:X.env.scope.kind=.function
 glob:X.env.globals=ka
 blt:X.env.builtins=builtinsNs
 above:X.s₀.heap.objs.size<=X.env.locals
 inj:∀x y c,X.env.cells.lookup x=some c->X.env.cells.lookup y=some c->x=y
 has:∀x,(X.env.kindOf x=some .cell\/X.env.kindOf x=some .free)->∃c,X.env.cells.lookup x=some c
 cab:∀x c,X.fn x=true->X.env.cells.lookup x=some c->X.s₀.heap.objs.size<=c
 hd:X.calm=true->X.A.handled=none
 frames:X.A.frames=some X.stack
 stk:X.stack=X.outer\/(X.stack=X.env::X.outer/\X.env.frame=some X.env.locals)
 exf:∀b∈X.ex,b≠X.env.locals/\∀x c,X.env.cells.lookup x=some c->c≠b
 bs:∀b o,X.base.get? b=some o->X.s₀.heap.get? b=some o/\X.H₀ b=none
 bsz:X.base.objs.size<=X.s₀.heap.objs.size
 Jj:∀b o,X.base.get? b=some o->b∉X.ex
 FN:∀b∈X.ex,b∉X.fs
 uD:X.s₀.heap.FunFrames X.base X.outer
 frf:∀b∈X.fs,X.H₀ b=none
structure Inv (X:Cx)(pins:List (Addr×Obj))(σ:List (Option V))(H:Hp)(s:Shared):Prop where
 ok:X.Ok
 os:s.os=X.s₀.os
 bare:AllBare s.gens
 base:Un X.fs X.ex X.H₀ H X.s₀.heap s.heap
 loc:∃m,s.heap.Ns X.env.locals m/\∀(i:Nat) (x:Str) (v:V),X.N[i]?=some x->σ[i]?=some (some v)->Vis X.env.scope x->∃u,RelV v u/\Look X.env s.heap m x u
 cell:∀x c,X.env.cells.lookup x=some c->∃v,s.heap.IsCell c v
 free:H X.env.locals=none
 o9:∀x c,X.env.cells.lookup x=some c->H c=none
 pin:∀p∈X.pn++pins,s.heap.get? p.1=some p.2/\H p.1=none/\p.1≠X.env.locals/\p.1∉X.fs/\∀v,p.2.data≠.cell v
 hok:HOk X.prog X.w H s.heap
 len:σ.length=X.N.length
section
variable{X:Cx}{pins:List (Addr×Obj)}{σ:List (Option V)}{H H':Hp}{s:Shared}{h':Heap}
theorem Cx.Ok.ah1 (ok:X.Ok){b:Addr}{o:Obj}(e:X.base.get? b=some o):b∉X.fs:=λhb=>by
 have:=(ok.uD.mem hb).1;rw[e]at this;cases this
theorem Inv.bs (I:Inv X pins σ H s):∀b o,X.base.get? b=some o->s.heap.get? b=some o/\H b=none:=λb o e =>
 ⟨I.base.keep b o (I.ok.bs b o e).1 (I.ok.bs b o e).2 (I.ok.ah1 e) (I.ok.Jj b o e),I.base.free b o (I.ok.bs b o e).1 (I.ok.bs b o e).2 (I.ok.Jj b o e)⟩
theorem Inv.bk (I:Inv X pins σ H s):∀b o,X.base.get? b=some o->s.heap.get? b=some o:=λb o e=>(I.bs b o e).1
theorem Inv.mod (I:Inv X pins σ H s):Mod X.K X.mg X.base:=I.ok.mod
theorem Inv.kIn (I:Inv X pins σ H s):X.K.In s.heap:=I.ok.mod.kin.keeps I.bk
theorem Inv.nolimit (I:Inv X pins σ H s):s.heap.NoLimit:=I.ok.mod.nolimit.keeps I.bk
theorem Inv.fr (I:Inv X pins σ H s):∃m,Fr X.base X.env.locals s.heap m :=
 let ⟨m,hn,_⟩:=I.loc
 ⟨m,hn,I.bk,ak3 I.ok.bsz I.ok.above⟩
theorem Inv.lt (I:Inv X pins σ H s):X.env.locals < s.heap.objs.size:=let ⟨_,hn,_⟩:=I.loc;hn.lt
theorem Inv.sz (I:Inv X pins σ H s):X.s₀.heap.objs.size<=s.heap.objs.size:=ak3 I.ok.above (Nat.le_of_lt I.lt)
theorem Inv.ah2 (I:Inv X pins σ H s){a:Addr}(h:s.heap.objs.size<=a):a∉X.fs:=λhb=>by
 obtain⟨_,o,ho,_⟩:=I.ok.uD.mem hb;exact absurd (ali (sr ho) (ak3 I.sz h)) (Nat.lt_irrefl _)
theorem Inv.cne (I:Inv X pins σ H s):∀x c,X.env.cells.lookup x=some c->c≠X.env.locals:=λx c e z=>by
 obtain⟨v,o,ho,hd⟩:=I.cell x c e;obtain⟨m,⟨o',es,ep,ho',hd',_⟩,_⟩:=I.loc;rw[z,ho']at ho;cases ho;rw[hd']at hd;cases hd
theorem Inv.uD (I:Inv X pins σ H s):s.heap.FunFrames X.base X.outer:=by
 have all:∀(l:List Env),(∀b∈frs l,b∈X.fs)->X.s₀.heap.FunFrames X.base l->s.heap.FunFrames X.base l:=by
  intro l
  induction l with
  |nil=>intro _ _;trivial
  |cons env r ih =>
   intro hs hl;obtain⟨hk,⟨L,o,hf,hn,ho,hd⟩,hr⟩:=hl;have hL:L∈X.fs:=hs L (by unfold frs;rw[List.filterMap_cons,hf];exact gr)
   obtain⟨sl,e⟩:=I.base.slot L o ho (I.ok.frf L hL) hL λz=>I.ok.FN L z hL
   exact⟨hk,⟨L,_,hf,hn,e,hd⟩,ih (λb hb=>hs b (by unfold frs;rw[List.filterMap_cons,hf];exact me _ hb)) hr⟩
 exact all X.outer (λ_ hb=>hb) I.ok.uD
theorem Inv.stack (I:Inv X pins σ H s):s.heap.FunFrames X.base X.stack:=by
 rcases I.ok.stk with e | ⟨e,hf⟩
 ·rw[e];exact I.uD
 ·rw[e];obtain⟨m,hn,_⟩:=I.loc;refine .cons (by rw[I.ok.kind];decide) hf hn ?_ I.uD
  exact Heap.get?_none_of_le (ak3 I.ok.bsz I.ok.above)
theorem Inv.Ek (I:Inv X pins σ H s):∀b∈frs X.stack,b∈X.env.locals::X.fs:=λb hb=>by
 rcases I.ok.stk with e | ⟨e,hf⟩
 ·rw[e]at hb;exact me _ hb
 ·rw[e]at hb;unfold frs at hb;rw[List.filterMap_cons,hf]at hb;exact hb
theorem Inv.El (I:Inv X pins σ H s):∀b∈frs X.stack,H b=none:=λb hb=>by
 rcases List.mem_cons.mp (I.Ek b hb) with e | hb
 ·rw[e];exact I.free
 ·obtain⟨_,o,ho,_⟩:=I.ok.uD.mem hb;exact I.base.free b o ho (I.ok.frf b hb) λz=>I.ok.FN b z hb
theorem Inv.step {g':Array GenState}{t':Nat}{d':Drawn}{ch:List Addr}(I:Inv X pins σ H s)
  (hch:∀b∈ch,(b∈X.ex\/X.s₀.heap.objs.size<=b)/\b≠X.env.locals/\(∀x c,X.env.cells.lookup x=some c->c≠b)/\∀p∈X.pn++pins,p.1≠b)
  (keep:∀b o,b≠X.env.locals->b∉X.fs->b∉ch->s.heap.get? b=some o->H b=none->h'.get? b=some o)
  (slot:∀b o,b≠X.env.locals->b∈X.fs->b∉ch->s.heap.get? b=some o->H b=none->∃sl,h'.get? b=some { o with slots:=sl }) (free:∀b o,b∉ch->s.heap.get? b=some o->H b=none->H' b=none)
  (there:∀b o,b∉ch->s.heap.get? b=some o->∃o',h'.get? b=some o')
  (vF:∀b xs,H b=some (.tup xs)->H' b=some (.tup xs)) (uC:∀b o u,H b=some (.frz o u)->H' b=some (.frz o u)) (vG:∀b ps,H b=some (.tbl ps)->∃more,H' b=some (.tbl (ps++more)))
  (ns:∀m,s.heap.Ns X.env.locals m->h'.Ns X.env.locals m) (hok:HOk X.prog X.w H' h') (hg:AllBare g') :
  Inv X pins σ H' { s with heap:=h',gens:=g',drawn:=d',toks:=t' }:=by
 have neL:∀b o,X.s₀.heap.get? b=some o->b≠X.env.locals:=λb o e=>ale (ali (sr e) I.ok.above)
 have neC:∀b o,X.s₀.heap.get? b=some o->b∉X.ex->b∉ch:=λb o e hx hb=>by
  rcases (hch b hb).1 with z | z
  ·exact hx z
  ·exact absurd (ali (sr e) z) (Nat.lt_irrefl _)
 have cellK:∀x c,X.env.cells.lookup x=some c->∀v,s.heap.IsCell c v->h'.IsCell c v:=λx c e v ⟨o,ho,hd⟩=>by
  have nch:c∉ch:=λz=>(hch c z).2.2.1 x c e rfl
  by_cases hc:c∈X.fs
  ·obtain⟨sl,q⟩:=slot c o (I.cne x c e) hc nch ho (I.o9 x c e);exact⟨_,q,hd⟩
  ·exact⟨o,keep c o (I.cne x c e) hc nch ho (I.o9 x c e),hd⟩
 refine⟨I.ok,I.os,hg,⟨λb o e n hb hx=>?_,λb o e n hb hx=>?_,λb o e n hx=>?_,λb o e hx=>?_,λb xs e=>vF b xs (I.base.vF b xs e),λb o xs e=>uC b o xs (I.base.uC b o xs e),λb ps e=>?_⟩,?_,λx c e=>?_,?_,λx c e=>?_,λp hp=>?_,hok,I.len⟩
 ·exact keep b o (neL b o e) hb (neC b o e hx) (I.base.keep b o e n hb hx) (I.base.free b o e n hx)
 ·obtain⟨sl,e1⟩:=I.base.slot b o e n hb hx;obtain⟨sl',e2⟩:=slot b _ (neL b o e) hb (neC b o e hx) e1 (I.base.free b o e n hx);exact⟨sl',e2⟩
 ·obtain⟨o',e1⟩:=I.base.there b o e hx;exact free b o' (neC b o e hx) e1 (I.base.free b o e n hx)
 ·obtain⟨o',e1⟩:=I.base.there b o e hx;exact there b o' (neC b o e hx) e1
 ·obtain⟨m1,e1⟩:=I.base.vG b ps e;obtain⟨m2,e2⟩:=vG b _ e1;exact⟨m1++m2,by rw[e2,Array.append_assoc]⟩
 ·obtain⟨m,hn,hl⟩:=I.loc;refine⟨m,ns m hn,λi x v e1 e2 e3=>?_⟩
  obtain⟨u,r,l⟩:=hl i x v e1 e2 e3;refine⟨u,r,?_⟩;rcases l with l | ⟨k,c,e,z⟩
  ·exact .inl l
  ·exact .inr ⟨k,c,e,cellK x c e _ z⟩
 ·obtain⟨v,z⟩:=I.cell x c e;exact⟨v,cellK x c e v z⟩
 ·obtain⟨m,⟨o,_,_,ho,_⟩,_⟩:=I.loc;exact free _ o (λz=>(hch _ z).2.1 rfl) ho I.free
 ·obtain⟨v,o,ho,hd⟩:=I.cell x c e;exact free c o (λz=>(hch c z).2.2.1 x c e rfl) ho (I.o9 x c e)
 ·obtain⟨e,n,ne,nf,d⟩:=I.pin p hp;have nch:p.1∉ch:=λz=>(hch p.1 z).2.2.2 p hp rfl
  exact⟨keep p.1 p.2 ne nf nch e n,free p.1 p.2 nch e n,ne,nf,d⟩
theorem Inv.un {t':Nat}(I:Inv X pins σ H s)(u:Un X.fs [] H H' s.heap h')(hok:HOk X.prog X.w H' h'):Inv X pins σ H' { s with heap:=h',toks:=t' }:=by
 obtain⟨m,⟨o,es,ep,ho,r⟩,_⟩:=id I.loc;obtain⟨sl,hL⟩:=u.any ho I.free (by simp)
 exact I.step (g':=s.gens) (d':=s.drawn) (ch:=[]) (λ_ z=>nomatch z) (λb o _ hb _ e n=>u.keep b o e n hb (by simp)) (λb o _ hb _ e n=>u.slot b o e n hb (by simp)) (λb o _ e n=>u.free b o e n (by simp)) (λb o _ e=>u.there b o e (by simp)) u.vF u.uC u.vG (λm' hm=>by
  obtain⟨o',es',ep',ho',r'⟩:=hm;rw[ho]at ho';cases ho';exact⟨_,es',ep',hL,r'⟩) hok I.bare
theorem Inv.call {g':Array GenState}{t':Nat}{d':Drawn}{ch:List Addr}(I:Inv X pins σ H s)(u:Un (frs X.stack) ch H H' s.heap h')(hok:HOk X.prog X.w H' h')(hg:AllBare g')
  (hch:∀b∈ch,(b∈X.ex\/X.s₀.heap.objs.size<=b)/\b≠X.env.locals/\(∀x c,X.env.cells.lookup x=some c->c≠b)/\∀p∈X.pn++pins,p.1≠b) :
  Inv X pins σ H' { s with heap:=h',gens:=g',drawn:=d',toks:=t' }:=by
 obtain⟨m,⟨o,es,ep,ho,r⟩,_⟩:=id I.loc;obtain⟨sl,hL⟩:=u.any ho I.free λz=>(hch _ z).2.1 rfl
 exact I.step (ch:=ch) hch (λb o hL hb hc e n=>u.keep b o e n (λz=>(List.mem_cons.mp (I.Ek b z)).elim hL hb) hc) (λb o _ _ hc e n=>u.any e n hc) (λb o hc e n=>u.free b o e n hc) (λb o hc e=>u.there b o e hc) u.vF u.uC u.vG (λm' hm=>by
  obtain⟨o',es',ep',ho',r'⟩:=hm;rw[ho]at ho';cases ho';exact⟨_,es',ep',hL,r'⟩) hok hg
theorem Inv.turned {t':Nat}{it:Addr}(I:Inv X pins σ H s)(k:∀b o,b≠it->s.heap.get? b=some o->h'.get? b=some o)(hn:H it=none)(hL:it≠X.env.locals)
  (h1:it∈X.ex\/X.s₀.heap.objs.size<=it) (h2:∀x c,X.env.cells.lookup x=some c->c≠it) (h3:∀p∈X.pn++pins,p.1≠it):Inv X pins σ H { s with heap:=h',toks:=t' }:=by
 have nit:∀b u,H b=some u->b≠it:=λb u e z=>by rw[z,hn]at e;cases e
 refine I.step (g':=s.gens) (d':=s.drawn) (ch:=[it]) (λb hb=>?_) (λb o _ _ hc e _=>k b o (λz=>hc (by simp[z])) e) (λb o _ _ hc e _=>⟨o.slots,k b o (λz=>hc (by simp[z])) e⟩) (λ_ _ _ _ n=>n)
  (λb o hc e=>⟨o,k b o (λz=>hc (by simp[z])) e⟩) (λ_ _ e=>e) (λ_ _ _ e=>e) (λb ps e=>⟨#[],by rw[e];simp⟩) (λm hm=>?_) (λb u e=>?_) I.bare
 ·have e:b=it:=by simpa using hb
  subst e;exact⟨h1,hL,h2,h3⟩
 ·obtain⟨o,es,ep,ho,r⟩:=hm;exact⟨o,es,ep,k _ o (alr hL) ho,r⟩
 ·refine(I.hok b u e).CI (λc v hc q=>k c v ?_ q) (λ_ q=>q) λ_ _ q=>q
  rcases hc with z | z
  ·rw[z];exact nit b u e
  ·exact nit c _ z
theorem Inv.tok (I:Inv X pins σ H s)(t:Nat):Inv X pins σ H { s with toks:=t }:=I.un (h':=s.heap) (t':=t) Un.refl I.hok
theorem Inv.kept {t':Nat}(I:Inv X pins σ H s)(k:∀b u,s.heap.get? b=some u->h'.get? b=some u):Inv X pins σ H { s with heap:=h',toks:=t' }:=I.un (Un.kept k) (I.hok.kept k)
theorem Inv.laid {a:Addr}{o:HO}{t':Nat}(I:Inv X pins σ H s)(k:∀b u,s.heap.get? b=some u->h'.get? b=some u)(hp:s.heap.objs.size<=a)(new:fE X.prog X.w (upd H a o) h' a o) :
  Inv X pins σ (upd H a o) { s with heap:=h',toks:=t' }:=I.un (Un.laid k hp (I.hok.fresh hp)) (I.hok.laid k hp new)
theorem Inv.write {x e:Addr}{o:HO}{t':Nat}(I:Inv X pins σ H s)(mu:Mut (H x))(he:e=x\/H e=some (.own x))(k:∀b u,b≠e->s.heap.get? b=some u->h'.get? b=some u)(heo:∃u,h'.get? e=some u)
  (new:fE X.prog X.w (upd H x o) h' x o):Inv X pins σ (upd H x o) { s with heap:=h',toks:=t' }:=I.un (Un.write mu he k heo) (I.hok.write mu he k heo new)
theorem Inv.Am {TB:List (Addr×Obj)}(I:Inv X pins σ H s)(h:∀p∈TB,s.heap.get? p.1=some p.2/\H p.1=none/\p.1≠X.env.locals/\p.1∉X.fs/\∀v,p.2.data≠.cell v):Inv X TB σ H s :=
 ⟨I.ok,I.os,I.bare,I.base,I.loc,I.cell,I.free,I.o9,λp hp=>(List.mem_append.mp hp).elim (λz=>I.pin p (alI _ z)) (h p),I.hok,I.len⟩
theorem AG {N:List Str}(hN:N.Nodup){i j:Nat}{x:Str}(a:N[i]?=some x)(b:N[j]?=some x):i=j:=by
 obtain⟨h1,e1⟩:=List.getElem?_eq_some_iff.mp a;obtain⟨h2,e2⟩:=List.getElem?_eq_some_iff.mp b;exact(List.getElem_inj hN).mp (e1.trans e2.symm)
theorem ME {M:Model}{A:Around}{E:Value->Shared->Prop}{i:Nat}{x:Str}{v:V}{u:Value}{Q:Unit->Shared->Prop}(I:Inv X pins σ H s)(hN:X.N.Nodup)(hi:X.N[i]?=some x)(hx:Loc X.env.scope x)(r:RelV v u)
  (h:∀s',Inv X pins (σ.set i (some v)) H s'->(∃a,Heap.SameBut a s.heap s'.heap/\(a=X.env.locals\/X.env.cells.lookup x=some a))->Q () s') (hf:X.fn x=true\/X.env.scope.names.lookup x=some .local:=by first | exact .inl rfl | exact .inr rfl | assumption):wpAny M A (storeName X.env x u) Q E s:=by
 obtain⟨m,hn,hl⟩:=id I.loc;have ah3:(X.env.scope.kind == .class || (X.env.scope.kind == .module && X.env.locals != X.env.globals))=false:=by rw[I.ok.kind];rfl
 have hiσ:i < σ.length:=by rw[I.len];exact(List.getElem?_eq_some_iff.mp hi).1
 have cne:=I.cne;have tracked:∀ {a:Addr} {h':Heap},(∃o,s.heap.get? a=some o/\H a=none)->Heap.SameBut a s.heap h'->HOk X.prog X.w H h':=λ{a h'} ha hs b ob e=>by
  obtain⟨_,_,TC⟩:=ha;refine(I.hok b ob e).CI (λc w' hc q=>(hs.2 c ?_).trans q) (λ_ q=>q) λ_ _ q=>q
  rintro rfl;rcases hc with rfl | hc
  ·rw[TC]at e;cases e
  ·rw[TC]at hc;cases hc
 rcases hx with hk | hk
 ·refine wpAny_storeName_local hk hn (λh' hn' hs=>?_) ah3
  obtain⟨oL,_,_,hoL,_⟩:=id hn;refine h _ ⟨I.ok,I.os,I.bare,⟨λb o e n hb hx=>?_,λb o e n hb hx=>?_,I.base.free,λb o e hx=>?_,I.base.vF,I.base.uC,I.base.vG⟩,⟨_,hn',λj y v' e1 e2 e3=>?_⟩,λy c e=>?_,I.free,I.o9,λp hp=>?_,tracked ⟨oL,hoL,I.free⟩ hs,by simpa using I.len⟩ ⟨_,hs,.inl rfl⟩
  ·exact(hs.2 b (ale (ali (sr e) I.ok.above))).trans (I.base.keep b o e n hb hx)
  ·obtain⟨sl,e1⟩:=I.base.slot b o e n hb hx;exact⟨sl,(hs.2 b (ale (ali (sr e) I.ok.above))).trans e1⟩
  ·obtain⟨o',e1⟩:=I.base.there b o e hx;exact⟨o',(hs.2 b (ale (ali (sr e) I.ok.above))).trans e1⟩
  ·by_cases hj:j=i
   ·subst hj;rw[hi]at e1;cases e1;rw[amm hiσ]at e2;cases e2;exact⟨u,r,.inl ⟨hk,by simp⟩⟩
   ·rw[amv (alr hj)]at e2;obtain⟨u',r',q⟩:=hl j y v' e1 e2 e3;refine⟨u',r',?_⟩;rcases q with ⟨k,e⟩ | ⟨k,c,e,z⟩
    ·refine .inl ⟨k,?_⟩;have:y≠x:=λe=>hj (AG hN e1 (e▸hi))
     simp[this,e]
    ·exact .inr ⟨k,c,e,z.sameBut hs (cne y c e)⟩
  ·obtain⟨w',z⟩:=I.cell y c e;exact⟨w',z.sameBut hs (cne y c e)⟩
  ·obtain⟨e,n,ne,nf,d⟩:=I.pin p hp;exact⟨(hs.2 p.1 ne).trans e,n,ne,nf,d⟩
 ·have hfn:X.fn x=true:=by
   rcases hf with z | z
   ·exact z
   ·rw[z]at hk;cases hk
  obtain⟨c,hc⟩:=I.ok.has x (.inl hk);obtain⟨w',z⟩:=I.cell x c hc;refine wpAny_storeName_cell I.ok.kind hk hc z (λh' hc' hs=>?_)
  obtain⟨oc,hoc,ah4⟩:=id z;refine h { s with heap:=h' } ⟨I.ok,I.os,I.bare,⟨λb o e n hb hx=>?_,λb o e n hb hx=>?_,I.base.free,λb o e hx=>?_,I.base.vF,I.base.uC,I.base.vG⟩,⟨m,hn.sameBut hs (alr (cne x c hc)),λj y v' e1 e2 e3=>?_⟩,λy c' e=>?_,I.free,I.o9,λp hp=>?_,tracked ⟨oc,hoc,I.o9 x c hc⟩ hs,by simpa using I.len⟩ ⟨c,hs,.inr hc⟩
  ·exact(hs.2 b (ale (ali (sr e) (I.ok.cab x c hfn hc)))).trans (I.base.keep b o e n hb hx)
  ·obtain⟨sl,e1⟩:=I.base.slot b o e n hb hx;exact⟨sl,(hs.2 b (ale (ali (sr e) (I.ok.cab x c hfn hc)))).trans e1⟩
  ·obtain⟨o',e1⟩:=I.base.there b o e hx;exact⟨o',(hs.2 b (ale (ali (sr e) (I.ok.cab x c hfn hc)))).trans e1⟩
  ·by_cases hj:j=i
   ·subst hj;rw[hi]at e1;cases e1;rw[amm hiσ]at e2;cases e2;exact⟨u,r,.inr ⟨.inl hk,c,hc,hc'⟩⟩
   ·rw[amv (alr hj)]at e2;obtain⟨u',r',q⟩:=hl j y v' e1 e2 e3;refine⟨u',r',?_⟩;rcases q with q | ⟨k,c',e,z'⟩
    ·exact .inl q
    ·refine .inr ⟨k,c',e,z'.sameBut hs ?_⟩;rintro rfl;exact hj (AG hN e1 (I.ok.inj _ _ _ e hc▸hi))
  ·by_cases hcc:c'=c
   ·subst hcc;exact⟨_,hc'⟩
   ·obtain⟨w2,z2⟩:=I.cell y c' e;exact⟨w2,z2.sameBut hs hcc⟩
  ·obtain⟨e,n,ne,nf,d⟩:=I.pin p hp;refine⟨(hs.2 p.1 ?_).trans e,n,ne,nf,d⟩;intro q;rw[q,hoc]at e;have q':oc=p.2:=ak9 e;exact d w' (by rw[<-q'];exact ah4)
theorem pb {M:Model}{A:Around}{E:Value->Shared->Prop}{i:Nat}{x:Str}{v:V}{u:Value}{Q:Unit->Shared->Prop}(I:Inv X pins σ H s)(hN:X.N.Nodup)(hi:X.N[i]?=some x)(hx:Loc X.env.scope x)(r:RelV v u)
  (h:∀s',Inv X pins (σ.set i (some v)) H s'->Q () s') (hf:X.fn x=true\/X.env.scope.names.lookup x=some .local:=by first | exact .inl rfl | exact .inr rfl | assumption):wpAny M A (storeName X.env x u) Q E s :=
 ME I hN hi hx r (λs' I' _=>h s' I') hf
theorem Inv.LC {s':Shared}{ch:List Addr}(I:Inv X pins σ H s)(ho:s'.os=s.os)(u:Un (frs X.stack) ch H H' s.heap s'.heap)(hok:HOk X.prog X.w H' s'.heap)(hg:AllBare s'.gens)
  (hch:∀b∈ch,(b∈X.ex\/X.s₀.heap.objs.size<=b)/\b≠X.env.locals/\(∀x c,X.env.cells.lookup x=some c->c≠b)/\∀p∈X.pn++pins,p.1≠b):Inv X pins σ H' s':=by
 obtain⟨h',g',d',t',o'⟩:=s';have e:o'=s.os:=ho;subst e;exact I.call (g':=g') (t':=t') (d':=d') u hok hg hch
end
abbrev XK:=Value->Option Addr->Hp->Prop
abbrev St:=List (Option V)
abbrev VK:=V->Hp->Prop
abbrev TE:=St->Hp->VK->Prop
abbrev TT:=St->Hp->(Bool->Hp->Prop)->Prop
abbrev TA:=St->Hp->(List V->Hp->Prop)->Prop
structure Ends where
 nx:St->Hp->Prop
 rt:VK
 bk:St->Hp->Prop:=λ_ _=>False
 ct:St->Hp->Prop:=λ_ _=>False
abbrev TS:=Ends->St->Hp->Prop
def EP (X:Cx)(pins:List (Addr×Obj))(σ:St)(Q:VK)(u:Value)(s':Shared):Prop:=∃v H',Inv X pins σ H' s'/\RelV v u/\Q v H'
def TP (X:Cx)(pins:List (Addr×Obj))(σ:St)(Q:Bool->Hp->Prop)(b:Bool)(s':Shared):Prop:=∃H',Inv X pins σ H' s'/\Q b H'
def AP (X:Cx)(pins:List (Addr×Obj))(σ:St)(Q:List V->Hp->Prop)(us:List Value)(s':Shared):Prop:=∃vs H',Inv X pins σ H' s'/\Vals vs us/\Q vs H'
def SP (X:Cx)(pins:List (Addr×Obj))(D:Ends)(f:Flow)(s':Shared):Prop :=
 match f with
 | .next=>∃σ' H',Inv X pins σ' H' s'/\D.nx σ' H'
 | .brk=>∃σ' H',Inv X pins σ' H' s'/\D.bk σ' H'
 | .cont=>∃σ' H',Inv X pins σ' H' s'/\D.ct σ' H'
 | .ret u=>∃v σ' H',Inv X pins σ' H' s'/\RelV v u/\D.rt v H'
def PE (X:Cx)(e:Expr)(t:TE):Prop :=
 ∀(pins:List (Addr×Obj)) (s:Shared) (σ:St) (H:Hp) (Q:VK),Inv X pins σ H s->t σ H Q->wpAny (model X.prog X.w) X.A (eval e X.env) (EP X pins σ Q) X.xe s
def PT (X:Cx)(e:Expr)(t:TT):Prop :=
 ∀(pins:List (Addr×Obj)) (s:Shared) (σ:St) (H:Hp) (Q:Bool->Hp->Prop),Inv X pins σ H s->t σ H Q->wpAny (model X.prog X.w) X.A (isTrue e X.env (eval e X.env)) (TP X pins σ Q) X.xe s
def PW (X:Cx)(e:Expr)(t:TT):Prop :=
 ∀(whole:Sem Value) (pins:List (Addr×Obj)) (s:Shared) (σ:St) (H:Hp) (Q:Bool->Hp->Prop),Inv X pins σ H s->t σ H Q->wpAny (model X.prog X.w) X.A (isTrue e X.env whole) (TP X pins σ Q) X.xe s
theorem PW.pt {X:Cx}{e:Expr}{t:TT}(h:PW X e t):PT X e t:=h _
def PA (X:Cx)(es:List Expr)(t:TA):Prop :=
 ∀(pos:Pos) (pins:List (Addr×Obj)) (s:Shared) (σ:St) (H:Hp) (Q:List V->Hp->Prop),Inv X pins σ H s->t σ H Q->wpAny (model X.prog X.w) X.A (spliced (backTo pos (ak8 es X.env))) (AP X pins σ Q) X.xe s
def PS (X:Cx)(st:Stmt)(t:TS):Prop :=
 ∀(pins:List (Addr×Obj)) (s:Shared) (σ:St) (H:Hp) (D:Ends),Inv X pins σ H s->t D σ H->wpAny (model X.prog X.w) X.A (exec st X.env) (SP X pins D) X.xe s
def PSs (X:Cx)(st:List Stmt)(t:TS):Prop :=
 ∀(pins:List (Addr×Obj)) (s:Shared) (σ:St) (H:Hp) (D:Ends),Inv X pins σ H s->t D σ H->wpAny (model X.prog X.w) X.A (execs st X.env) (SP X pins D) X.xe s
theorem thn {α:Type}{t:Sem α}{Q Q':α->Shared->Prop}{M:Model}{A:Around}{E:Value->Shared->Prop}{s:Shared}(h:wpAny M A t Q E s)(hQ:∀a s,Q a s->Q' a s):wpAny M A t Q' E s:=alg h hQ λ_ _ x=>x
section
variable{X:Cx}
theorem bin {a b:Expr}{ta tb:TE}(ha:PE X a ta)(hb:PE X b tb){pins:List (Addr×Obj)}{s:Shared}{σ:St}{H:Hp}{R:V->V->Hp->Prop}(I:Inv X pins σ H s)(h:ta σ H λx H1=>tb σ H1 λy H2=>R x y H2)
  {α:Type} {Q:α->Shared->Prop} {f:Value->Value->Sem α}
  (hf:∀v u s2 x y H2,Inv X pins σ H2 s2->RelV x v->RelV y u->R x y H2->wpAny (model X.prog X.w) X.A (f v u) Q X.xe s2) :
  wpAny (model X.prog X.w) X.A (eval a X.env) (λv s₁=>wpAny (model X.prog X.w) X.A (eval b X.env) (λu s₂=>wpAny (model X.prog X.w) X.A (f v u) Q X.xe s₂) X.xe s₁) X.xe s:=by
 refine thn (ha pins s σ H _ I h) λv s1 ⟨x,H1,I1,r1,q1⟩=>?_
 refine thn (hb pins s1 σ H1 _ I1 q1) λu s2 ⟨y,H2,I2,r2,q2⟩=>?_
 exact hf v u s2 x y H2 I2 r1 r2 q2
def Z0 (i:Nat):TE:=λσ H Q=>∃v,σ[i]?=some (some v)/\Q v H
def tC (v:V):TE:=λ_ H Q=>Q v H
theorem Vo {i:Nat}{x:Str}{pos:Pos}(hN:X.N[i]?=some x)(hv:Vis X.env.scope x)(hd:(x == ("__debug__":Str))=false:=by decide)(hcd:(x == ("__classdict__":Str))=false:=by decide):PE X (.Name x pos) (Z0 i):=by
 intro pins s σ H Q I h;obtain⟨v,e,h⟩:=h;obtain⟨m,hn,hl⟩:=I.loc;obtain⟨u,r,l⟩:=hl i x v hN e hv;have fin:EP X pins σ Q u s:=⟨v,H,I,r,h⟩;rcases l with ⟨hk,hm⟩ | ⟨hk,c,hc,vH⟩
 ·exact wpAny_Name (wpAny_loadName_local I.ok.kind hk hn hm fin) hd
 ·rcases hk with hk | hk
  ·exact wpAny_Name (wpAny_loadName_cell I.ok.kind hk hc vH fin) hd
  ·exact wpAny_Name (wpAny_loadName_free I.ok.kind hk hc vH fin hcd) hd
theorem af {i j pos}:PE X (.Constant (.int i) j pos) (tC (.int i)):=λ_ _ _ H _ I h=>wpAny_Constant_int ⟨.int i,H,I.tok _,⟨_,rfl⟩,h⟩
theorem lO {b j pos}:PE X (.Constant (.bool b) j pos) (tC (.bl b)):=λ_ _ _ H _ I h=>Constant_bool ⟨.bl b,H,I,rfl,h⟩
theorem xp {j pos}:PE X (.Constant .none j pos) (tC .non):=λ_ _ _ H _ I h=>Constant_none ⟨.non,H,I,rfl,h⟩
theorem ao {x j pos}:PE X (.Constant (.str x) j pos) (tC (.str x)):=λ_ _ _ H _ I h=>Calls.Constant_str ⟨.str x,H,I.tok _,⟨_,rfl⟩,h⟩
def Gl (X:Cx)(x:Str):Prop:=X.env.kindOf x=some .globalImplicit
theorem jb {E:Value->Shared->Prop}{pins:List (Addr×Obj)}{s:Shared}{σ:St}{H:Hp}{x:Str}{u:Value}{pos:Pos}{Q:Value->Shared->Prop}(I:Inv X pins σ H s)(hg:Gl X x)(hm:X.mg x=some u)(h:Q u s)
  (hd:(x == ("__debug__":Str))=false:=by decide):wpAny (model X.prog X.w) X.A (eval (.Name x pos) X.env) Q E s :=
 Calls.Name_function_global I.ok.kind hg (Calls.loadGlobal_global (by rw[I.ok.glob];exact I.mod.glob.keeps I.bk) hm h) hd
theorem Jk {E:Value->Shared->Prop}{pins:List (Addr×Obj)}{s:Shared}{σ:St}{H:Hp}{x:Str}{u:Value}{pos:Pos}{Q:Value->Shared->Prop}(I:Inv X pins σ H s)(hg:Gl X x)(hm:X.mg x=none)(hv:al8 x=some u)(h:Q u s)
  (hn:x≠"__name__":=by decide) (hd:(x == ("__debug__":Str))=false:=by decide):wpAny (model X.prog X.w) X.A (eval (.Name x pos) X.env) Q E s:=by
 obtain⟨mb,h1,h2⟩:=I.mod.blt;exact Calls.Name_function_global I.ok.kind hg (Calls.loadGlobal_builtin (by rw[I.ok.glob];exact I.mod.glob.keeps I.bk) hm (by rw[I.ok.blt];exact h1.keeps I.bk) ((h2 x hn).trans hv) h) hd
theorem An {x:Str}{v:V}{u:Value}{pos:Pos}(hg:Gl X x)(hm:X.mg x=some u)(r:RelV v u)(hd:(x == ("__debug__":Str))=false:=by decide):PE X (.Name x pos) (tC v) :=
 λ_ _ _ H _ I h=>jb I hg hm ⟨v,H,I,r,h⟩ hd
variable{a b:Expr}{ta tb:TE}{pos:Pos}
def PC (X:Cx)(op:CmpOp)(a b:Expr)(t:TE):Prop :=
 ∀(pins:List (Addr×Obj)) (s:Shared) (σ:St) (H:Hp) (Q:VK),Inv X pins σ H s->t σ H Q ->
  wpAny (model X.prog X.w) X.A (eval a X.env) (λv s₁=>wpAny (model X.prog X.w) X.A (eval b X.env) (λu s₂=>wpAny (model X.prog X.w) X.A (al6 op v u) (EP X pins σ Q) X.xe s₂) X.xe s₁) X.xe s
theorem N0 (b:Expr){op:CmpOp}(h:op≠.In)(h2:op≠.NotIn):behindInMarks op b=false:=by
 have e1:(op == CmpOp.In)=false:=by cases op <;> first | rfl | exact absurd rfl h
 have e2:(op == CmpOp.NotIn)=false:=by cases op <;> first | rfl | exact absurd rfl h2
 cases b <;> simp[behindInMarks,e1,e2]
def tB (t:TE):TT:=λσ H Q=>t σ H λx H1=>∃c,x=.bl c/\Q c H1
theorem Jl {op:CmpOp}{t:TE}(h:PC X op a b t)(h1:behindInMarks op b=false:=by first | exact N0 _ (by decide) (by decide) | rfl):PT X (.Compare a [op] [b] pos) (tB t):=by
 intro pins s σ H Q I hw;refine wpAny_isTrue_Compare1 (thn (h pins s σ H _ I hw) λv s1 h1=>thn h1 λu s2 h2=>thn h2 λc s3 ⟨x,H1,I1,r1,q1⟩=>?_) h1
 obtain⟨d,rfl,q⟩:=q1;cases r1;exact wpAny_truthy_bool ⟨H1,I1,q⟩
theorem mC {e:Expr}{t:TE}(h:PE X e t)(he:∀whole,isTrue e X.env whole=(do let v <-whole;standAt e.pos;holding [v] (truthy v)):=by intro _;rfl):PT X e (tB t):=by
 intro pins s σ H Q I hw;refine isTrue_plain (thn (h pins s σ H _ I hw) λv s1 ⟨x,H1,I1,r1,q1⟩=>?_) (he _)
 obtain⟨d,rfl,q⟩:=q1;cases r1;exact wpAny_truthy_bool ⟨H1,I1,q⟩
variable{tA tB':TT}{rest:List Expr}
def ah5 (t u:TT):TT:=λσ H Q=>t σ H λc H1=>if c=true then u σ H1 Q else Q false H1
def tOr (t u:TT):TT:=λσ H Q=>t σ H λc H1=>if c=true then Q true H1 else u σ H1 Q
def ah6 (t:TT):TT:=λσ H Q=>t σ H λc H1=>Q (!c) H1
theorem pw_and1 (ha:PT X a tA):PW X (.BoolOp .And [a] pos) tA:=by
 intro wh pins s σ H Q I h;refine isTrue_and (thn (ha pins s σ H Q I h) λc s1 e=>?_)
 cases c with
 |true=>exact isTrue_and_nil e
 |false=>exact e
theorem pw_or1 (ha:PT X a tA):PW X (.BoolOp .Or [a] pos) tA:=by
 intro wh pins s σ H Q I h;refine isTrue_or (thn (ha pins s σ H Q I h) λc s1 e=>?_)
 cases c with
 |false=>exact isTrue_or_nil e
 |true=>exact e
theorem pw_and (ha:PT X a tA)(hb:PW X (.BoolOp .And (b::rest) pos) tB'):PW X (.BoolOp .And (a::b::rest) pos) (ah5 tA tB'):=by
 intro wh pins s σ H Q I h;refine isTrue_and (thn (ha pins s σ H _ I h) λc s1 ⟨H1,I1,q1⟩=>?_)
 cases c with
 |true=>exact hb wh pins s1 σ H1 Q I1 q1
 |false=>exact⟨H1,I1,q1⟩
theorem pw_or (ha:PT X a tA)(hb:PW X (.BoolOp .Or (b::rest) pos) tB'):PW X (.BoolOp .Or (a::b::rest) pos) (tOr tA tB'):=by
 intro wh pins s σ H Q I h;refine isTrue_or (thn (ha pins s σ H _ I h) λc s1 ⟨H1,I1,q1⟩=>?_)
 cases c with
 |true=>exact⟨H1,I1,q1⟩
 |false=>exact hb wh pins s1 σ H1 Q I1 q1
theorem rH (ha:PT X a tA):PT X (.UnaryOp .Not a pos) (ah6 tA):=by
 intro pins s σ H Q I h;exact isTrue_not (ha pins s σ H (λc H1=>Q (!c) H1) I h)
def Z1 (ta tb:TE):TE:=λσ H Q=>ta σ H λx H1=>∃c,x=.bl c/\if c=true then tb σ H1 Q else Q (.bl false) H1
def ah7 (ta tb:TE):TE:=λσ H Q=>ta σ H λx H1=>∃c,x=.bl c/\if c=true then Q (.bl true) H1 else tb σ H1 Q
theorem AH {op}{t:TE}(h:PE X a t):PE X (.BoolOp op [a] pos) t:=λpins s σ H Q I hw=>BoolOp_one (h pins s σ H Q I hw)
theorem Em (ha:PE X a ta)(hb:PE X (.BoolOp .And (b::rest) pos) tb):PE X (.BoolOp .And (a::b::rest) pos) (Z1 ta tb):=by
 intro pins s σ H Q I h;refine BoolOp_and (thn (ha pins s σ H _ I h) λv s1 ⟨x,H1,I1,r1,q1⟩=>?_)
 obtain⟨c,rfl,q1⟩:=q1;cases r1;refine wpAny_truthy_bool ?_;cases c with
 |true=>exact hb pins s1 σ H1 Q I1 q1
 |false=>exact⟨.bl false,H1,I1,rfl,q1⟩
theorem Z2 (ha:PE X a ta)(hb:PE X (.BoolOp .Or (b::rest) pos) tb):PE X (.BoolOp .Or (a::b::rest) pos) (ah7 ta tb):=by
 intro pins s σ H Q I h;refine BoolOp_or (thn (ha pins s σ H _ I h) λv s1 ⟨x,H1,I1,r1,q1⟩=>?_)
 obtain⟨c,rfl,q1⟩:=q1;cases r1;refine wpAny_truthy_bool ?_;cases c with
 |false=>exact hb pins s1 σ H1 Q I1 q1
 |true=>exact⟨.bl true,H1,I1,rfl,q1⟩
def tIf (t:TT)(ta tb:TE):TE:=λσ H Q=>t σ H λc H1=>if c=true then ta σ H1 Q else tb σ H1 Q
theorem FO {c:Expr}(hc:PT X c tA)(ha:PE X a ta)(hb:PE X b tb):PE X (.IfExp c a b pos) (tIf tA ta tb):=by
 intro pins s σ H Q I h;refine wpAny_IfExp (thn (hc pins s σ H _ I h) λd s1 ⟨H1,I1,q1⟩=>?_)
 cases d with
 |true=>exact ha pins s1 σ H1 Q I1 q1
 |false=>exact hb pins s1 σ H1 Q I1 q1
end
def SqL (K:ba)(H:Hp)(a:Addr)(xs:List V):Prop :=
 Rd H a (.lst xs) \/
  ∃(o:Obj) (its:Array Value) (n:Nat),K.lookup a=some o/\o.cls=.type "list"/\o.dict=none/\o.data=.seq its n/\its.size<=kg/\Vals xs its.toList
def SqT (K:ba)(H:Hp)(a:Addr)(xs:List V):Prop :=
 Rd H a (.tup xs) \/
  ∃(o:Obj) (its:Array Value) (n:Nat),K.lookup a=some o/\o.cls=.type "tuple"/\o.data=.seq its n/\its.size<=kg/\Vals xs its.toList
def ah8:Value->Option V
 | .none=>some .non
 | .bool b=>some (.bl b)
 | .int i _=>some (.int i)
 | .str x _=>some (.str x)
 | .bytes b _=>some (.byt b)
 | .float b _=>some (.flt b)
 | .ref a=>some (.ref a)
 | .type n=>some (.ty n)
 |_=>none
theorem RelV.abs {x:V}{u:Value}(r:RelV x u):ah8 u=some x:=by
 cases x with
 |non=>cases r;rfl
 |bl _=>cases r;rfl
 |int _=>obtain⟨t,rfl⟩:=r;rfl
 |str _=>obtain⟨t,rfl⟩:=r;rfl
 |byt _=>obtain⟨t,rfl⟩:=r;rfl
 |flt _=>obtain⟨t,rfl⟩:=r;rfl
 |ref _=>cases r;rfl
 |ty _=>cases r;rfl
theorem RelV.inj {x y:V}{u:Value}(r:RelV x u)(q:RelV y u):x=y:=ak9 (r.abs.symm.trans q.abs)
theorem Vals.inj:∀ {xs ys:List V} {us:List Value},Vals xs us->Vals ys us->xs=ys
 |_,_,_,.nil,.nil=>rfl
 |_,_,_,.cons r t,.cons r' t'=>by rw[r.inj r',Vals.inj t t']
section
variable{X:Cx}{pins:List (Addr×Obj)}{σ:St}{H:Hp}{s:Shared}{a:Addr}{xs ys:List V}
theorem SqL.of {K:ba}(h:H a=some (.lst xs)):SqL K H a xs:=.inl (.inl h)
theorem SqT.of {K:ba}(h:H a=some (.tup xs)):SqT K H a xs:=.inl (.inl h)
theorem Inv.list (I:Inv X pins σ H s)(h:SqL X.K H a xs):∃its:List Value,Vals xs its/\PlainL s.heap a its.toArray/\xs.length<=kg:=by
 rcases h with h | ⟨o,its,n,hk,hc,hd,hs,hz,r⟩
 ·obtain⟨z,its,n,r,e⟩:=h.ok I.hok;exact⟨its,r,⟨_,n,e,rfl,rfl,rfl⟩,z⟩
 ·refine⟨its.toList,r,⟨o,n,I.kIn a o hk,hc,hd,by simpa using hs⟩,?_⟩
  have e:=r.length;simp only[amz]at e;omega
theorem Inv.tuple (I:Inv X pins σ H s)(h:SqT X.K H a xs):∃its:List Value,Vals xs its/\IsTup s.heap a its.toArray/\xs.length<=kg:=by
 rcases h with h | ⟨o,its,n,hk,hc,hs,hz,r⟩
 ·obtain⟨z,its,r,p⟩:=h.ok I.hok;exact⟨its,r,p,z⟩
 ·refine⟨its.toList,r,⟨o,I.kIn a o hk,hc,n,by simpa using hs⟩,?_⟩
  have e:=r.length;simp only[amz]at e;omega
theorem Inv.N3 (I:Inv X pins σ H s)(h:SqL X.K H a xs)(h':SqL X.K H a ys):xs=ys:=by
 obtain⟨its,r,⟨o,n,e,_,_,d⟩,_⟩:=I.list h;obtain⟨its',r',⟨o',n',e',_,_,d'⟩,_⟩:=I.list h';rw[e]at e';cases e';rw[d]at d';injection d' with d1 _
 have:its=its':=by simpa using congrArg Array.toList d1
 subst this;exact r.inj r'
theorem Inv.MF (I:Inv X pins σ H s)(h:SqT X.K H a xs)(h':SqT X.K H a ys):xs=ys:=by
 obtain⟨its,r,⟨o,e,_,n,d⟩,_⟩:=I.tuple h;obtain⟨its',r',⟨o',e',_,n',d'⟩,_⟩:=I.tuple h';rw[e]at e';cases e';rw[d]at d';injection d' with d1 _
 have:its=its':=by simpa using congrArg Array.toList d1
 subst this;exact r.inj r'
end
abbrev Cx.pd (X:Cx)(E:Value->Shared->Prop):Cx:={ X with xe:=E }
abbrev Cx.nox (X:Cx):Cx:=X.pd λ_ _=>False
theorem Cx.Ok.pd {X:Cx}(ok:X.Ok)(E:Value->Shared->Prop):(X.pd E).Ok :=
 ⟨ok.mod,ok.kind,ok.glob,ok.blt,ok.above,ok.inj,ok.has,ok.cab,ok.hd,ok.frames,ok.stk,ok.exf,ok.bs,ok.bsz,ok.Jj,ok.FN,ok.uD,ok.frf⟩
theorem Cx.Ok.eO {X:Cx}{E:Value->Shared->Prop}(ok:(X.pd E).Ok):X.Ok :=
 ⟨ok.mod,ok.kind,ok.glob,ok.blt,ok.above,ok.inj,ok.has,ok.cab,ok.hd,ok.frames,ok.stk,ok.exf,ok.bs,ok.bsz,ok.Jj,ok.FN,ok.uD,ok.frf⟩
section
variable{X:Cx}{pins:List (Addr×Obj)}{σ:St}{H:Hp}{s:Shared}{E:Value->Shared->Prop}
theorem Inv.pd (I:Inv X pins σ H s)(E:Value->Shared->Prop):Inv (X.pd E) pins σ H s:=⟨I.ok.pd E,I.os,I.bare,I.base,I.loc,I.cell,I.free,I.o9,I.pin,I.hok,I.len⟩
theorem Inv.eO (I:Inv (X.pd E) pins σ H s):Inv X pins σ H s:=⟨I.ok.eO,I.os,I.bare,I.base,I.loc,I.cell,I.free,I.o9,I.pin,I.hok,I.len⟩
theorem SP.eO {D:Ends}{f:Flow}{s':Shared}(h:SP (X.pd E) pins D f s'):SP X pins D f s':=by
 cases f with
 |next=>obtain⟨σ',H',I,q⟩:=h;exact⟨σ',H',I.eO,q⟩
 |brk=>obtain⟨σ',H',I,q⟩:=h;exact⟨σ',H',I.eO,q⟩
 |cont=>obtain⟨σ',H',I,q⟩:=h;exact⟨σ',H',I.eO,q⟩
 |ret u=>obtain⟨v,σ',H',I,r,q⟩:=h;exact⟨v,σ',H',I.eO,r,q⟩
theorem PE.nox {e:Expr}{t:TE}(h:PE X.nox e t):PE X e t:=λpins s σ H Q I hw =>
 alg (h pins s σ H Q (I.pd _) hw) (λ_ _ ⟨v,H',I',r,q⟩=>⟨v,H',I'.eO,r,q⟩) λ_ _ z=>als z
theorem PT.nox {e:Expr}{t:TT}(h:PT X.nox e t):PT X e t:=λpins s σ H Q I hw =>
 alg (h pins s σ H Q (I.pd _) hw) (λ_ _ ⟨H',I',q⟩=>⟨H',I'.eO,q⟩) λ_ _ z=>als z
theorem PSs.nox {st:List Stmt}{t:TS}(h:PSs X.nox st t):PSs X st t:=λpins s σ H D I hw =>
 alg (h pins s σ H D (I.pd _) hw) (λ_ _ q=>q.eO) λ_ _ z=>als z
end
section
variable{X:Cx}{st:Stmt}{rest:List Stmt}{t u:TS}{e:Expr}{te:TE}{pos:Pos}
def Z3:TS:=λD σ H=>D.nx σ H
def Vp (t u:TS):TS:=λD σ H=>t { D with nx:=u D } σ H
theorem aC:PSs X [] Z3:=λ_ _ σ H _ I h=>wpAny_execs_nil ⟨σ,H,I,h⟩
theorem ai (h1:PS X st t)(h2:PSs X rest u):PSs X (st::rest) (Vp t u):=by
 intro pins s σ H D I h;refine wpAny_execs_cons (thn (h1 pins s σ H { D with nx:=u D } I h) λf s1 q=>?_)
 cases f with
 |next =>
  obtain⟨σ',H',I',q⟩:=q;exact h2 pins s1 σ' H' D I' q
 |ret v=>exact q
 |brk=>exact q
 |cont=>exact q
theorem aj (h1:PS X st t):PSs X [st] t:=by
 intro pins s σ H D I h;refine wpAny_execs_cons (thn (h1 pins s σ H D I h) λf s1 q=>?_)
 cases f with
 |next=>exact wpAny_execs_nil q
 |ret v=>exact q
 |brk=>exact q
 |cont=>exact q
theorem Inv.quiet {pins:List (Addr×Obj)}{σ:St}{H:Hp}{s:Shared}(I:Inv X pins σ H s):interactive X.env=false:=by simp[interactive,I.ok.kind]
def Z4 (te:TE):TS:=λD σ H=>te σ H λ_ H1=>D.nx σ H1
theorem bK (he:PE X e te)(hs:swapsWith e none pos.line X.env=pure false:=by rfl):PS X (.Expr e pos) (Z4 te):=by
 intro pins s σ H D I h;exact wpAny_Expr_any (thn (he pins s σ H _ I h) λv s1 ⟨x,H1,I1,r1,q1⟩=>⟨σ,H1,I1,q1⟩) I.quiet hs
def ah9 (te:TE):TS:=λD σ H=>te σ H D.rt
theorem aB (he:PE X e te):PS X (.Return (some e) pos) (ah9 te):=by
 intro pins s σ H D I h;exact wpAny_Return_some (thn (he pins s σ H _ I h) λv s1 ⟨x,H1,I1,r1,q1⟩=>⟨x,σ,H1,I1,r1,q1⟩)
def aia (c:TT)(t u:TS):TS:=λD σ H=>c σ H λb H1=>if b=true then t D σ H1 else u D σ H1
theorem a9 {c:Expr}{a b:List Stmt}{tc:TT}(hc:PT X c tc)(ha:PSs X a t)(hb:PSs X b u):PS X (.If c a b pos) (aia tc t u):=by
 intro pins s σ H D I h;refine wpAny_If (thn (hc pins s σ H _ I h) λd s1 ⟨H1,I1,q1⟩=>?_)
 cases d with
 |true=>exact ha pins s1 σ H1 D I1 q1
 |false=>exact hb pins s1 σ H1 D I1 q1
end
abbrev TG:=V->St->Hp->(St->Hp->Prop)->Prop
abbrev TGs:=List V->St->Hp->(St->Hp->Prop)->Prop
def PG (X:Cx)(target:Expr)(t:TG):Prop :=
 ∀(pins:List (Addr×Obj)) (s:Shared) (σ:St) (H:Hp) (v:V) (u:Value) (Q:St->Hp->Prop),Inv X pins σ H s->RelV v u->t v σ H Q ->
  wpAny (model X.prog X.w) X.A (assign target X.env u) (λ_ s'=>∃σ' H',Inv X pins σ' H' s'/\Q σ' H') X.xe s
def PGs (X:Cx)(ts:List Expr)(t:TGs):Prop :=
 ∀(pins:List (Addr×Obj)) (s:Shared) (σ:St) (H:Hp) (vs:List V) (us:List Value) (Q:St->Hp->Prop),Inv X pins σ H s->Vals vs us->t vs σ H Q ->
  wpAny (model X.prog X.w) X.A (assignInOrder ((assignEach ts X.env).map (·.2)) us) (λ_ s'=>∃σ' H',Inv X pins σ' H' s'/\Q σ' H') X.xe s
abbrev Vq:=V->V->V->Hp->(Hp->Prop)->Prop
def Z5 (X:Cx)(t:Vq):Prop :=
 ∀(pins:List (Addr×Obj)) (s:Shared) (σ:St) (H:Hp) (o i v:V) (ov iv u:Value) (Q:Hp->Prop),Inv X pins σ H s->RelV o ov->RelV i iv->RelV v u->t o i v H Q ->
  wpAny (model X.prog X.w) X.A (setItem ov iv u) (λ_ s'=>∃H',Inv X pins σ H' s'/\Q H') X.xe s
section
variable{X:Cx}{pos:Pos}
def dh (i:Nat):TG:=λv σ H Q=>Q (σ.set i (some v)) H
theorem kL {i:Nat}{x:Str}(hN:X.N.Nodup)(hi:X.N[i]?=some x)(hx:Loc X.env.scope x)(hf:X.fn x=true\/X.env.scope.names.lookup x=some .local:=by first | exact .inl rfl | exact .inr rfl | assumption):PG X (.Name x pos) (dh i):=by
 intro pins s σ H v u Q I r h;exact wpAny_assign_Name (pb I hN hi hx r (λs' I'=>⟨_,H,I',h⟩) hf)
def aib:TGs:=λvs σ H Q=>vs=[]/\Q σ H
def Z6 (t:TG)(u:TGs):TGs:=λvs σ H Q=>∃v r,vs=v::r/\t v σ H λσ' H'=>u r σ' H' Q
theorem LD:PGs X [] aib:=by
 intro pins s σ H vs us Q I r h;obtain⟨e,h⟩:=h;subst e;cases r;exact assignInOrder_nil ⟨σ,H,I,h⟩
theorem rJ {e:Expr}{es:List Expr}{t:TG}{u:TGs}(h1:PG X e t)(h2:PGs X es u)
  (hs:(assignEach (e::es) X.env).map (·.2)=assign e X.env::(assignEach es X.env).map (·.2):=by rfl):PGs X (e::es) (Z6 t u):=by
 intro pins s σ H vs us Q I r h;obtain⟨v,vr,e1,h⟩:=h;subst e1;cases r with
 |cons r rr =>
  rw[hs];refine assignInOrder_cons (thn (h1 pins s σ H _ _ _ I r h) λ_ s1 ⟨σ1,H1,I1,q1⟩=>?_)
  exact h2 pins s1 σ1 H1 _ _ Q I1 rr q1
def aic (K:ba)(n:Nat)(t:TGs):TG:=λv σ H Q=>∃a xs,v=.ref a/\SqT K H a xs/\xs.length=n/\t xs σ H Q
theorem N4 {es:List Expr}{k:Nat}{t:TGs}{n:Nat}(hc:X.calm=true)(h:PGs X es t)
  (hn:(assignEach es X.env).length=n:=by rfl) (hst:(assignEach es X.env).findIdx? (·.1)=none:=by rfl):PG X (.Tuple es k pos) (aic X.K n t):=by
 intro pins s σ H v u Q I r hw;obtain⟨a,xs,e1,hq,hl,hw⟩:=hw;subst e1;cases r;obtain⟨its,rv,ht,hz⟩:=I.tuple hq;refine assign_Tuple_tuple (I.ok.hd hc) ht (by simp[hn,<-hl,rv.length]) hst λh' hx=>?_
 have I1:Inv X pins σ H { s with heap:=h' }:=I.kept (t':=s.toks) λb o e=>hx b o (ale (sr e)) e
 exact h pins _ σ H xs _ Q I1 (by simpa using rv) hw
def aid (to ti:TE)(t:Vq):TG:=λv σ H Q=>to σ H λo H1=>ti σ H1 λi H2=>t o i v H2 λH3=>Q σ H3
theorem Jm {o i:Expr}{to ti:TE}{t:Vq}(ho:PE X o to)(hi:PE X i ti)(hs:Z5 X t)
  (ha:∀v,assign (.Subscript o i pos) X.env v=(do
   let ov <-holding [v] (eval o X.env)
   let iv <-holding [v,ov] (eval i X.env)
   standAt pos
   holding [v,ov,iv] (setItem ov iv v)
   release [v,ov,iv] []):=by intro _;rfl):PG X (.Subscript o i pos) (aid to ti t):=by
 intro pins s σ H v u Q I r h;rw[ha];refine gn (alY (thn (ho pins s σ H _ I h) λov s1 ⟨x,H1,I1,r1,q1⟩=>?_))
 refine gn (alY (thn (hi pins s1 σ H1 _ I1 q1) λiv s2 ⟨y,H2,I2,r2,q2⟩=>?_))
 refine gn (al4 (gn (alY (thn (hs pins s2 σ H2 x y v ov iv u _ I2 r1 r2 r q2) λ_ s3 ⟨H3,I3,q3⟩=>?_))))
 exact wpAny_release ⟨σ,H3,I3,q3⟩
def Rm (te:TE)(g:TG):TS:=λD σ H=>te σ H λx H1=>g x σ H1 D.nx
theorem AI {tg e:Expr}{te:TE}{g:TG}(he:PE X e te)(hg:PG X tg g)(hs:swapsWithSole [tg] e pos.line X.env=pure false:=by rfl)(hw:swappedStores [tg] e X.env=pure none:=by rfl)
  (h1:(assignEach [tg] X.env).map (·.2)=[assign tg X.env]:=by rfl):PS X (.Assign [tg] e pos) (Rm te g):=by
 intro pins s σ H D I h;refine wpAny_Assign_stores (thn (he pins s σ H _ I h) λv s1 ⟨x,H1,I1,r1,q1⟩=>?_) hs hw
 rw[h1];exact thn (hg pins s1 σ H1 x v _ I1 r1 q1) λ_ s2 q=>q
theorem aY {i:Nat}{x:Str}{e:Expr}{te:TE}{pos':Pos}(hN:X.N.Nodup)(hi:X.N[i]?=some x)(hx:Loc X.env.scope x)(he:PE X e te)(hs:swapsWith e (some (.Name x pos')) pos.line X.env=pure false:=by rfl)(hf:X.fn x=true\/X.env.scope.names.lookup x=some .local:=by first | exact .inl rfl | exact .inr rfl | assumption) :
  PS X (.Assign [.Name x pos'] e pos) (Rm te (dh i)):=by
 intro pins s σ H D I h;refine wpAny_Assign_Name (thn (he pins s σ H _ I h) λv s1 ⟨y,H1,I1,r1,q1⟩=>?_) hs
 exact pb I1 hN hi hx r1 (λs2 I2=>⟨_,H1,I2,q1⟩) hf
end
structure It where
 go:Nat->Hp->Prop
 yld:Nat->Hp->V->Hp->Prop
 stop:Nat->Hp->Prop
def kT (X:Cx)(pins:List (Addr×Obj))(H:Hp)(b:Addr):Prop :=
 H b=none/\b≠X.env.locals/\b∉X.fs/\(b∈X.ex\/X.s₀.heap.objs.size<=b)/\(∀x c,X.env.cells.lookup x=some c->c≠b)/\∀p∈X.pn++pins,p.1≠b
theorem Inv.AJ {X:Cx}{pins:List (Addr×Obj)}{σ:St}{H H':Hp}{s:Shared}{b:Addr}(I:Inv X pins σ H s)(hb:s.heap.objs.size<=b)(hn:H' b=none):kT X pins H' b:=by
 refine⟨hn,Nat.ne_of_gt (ali I.lt hb),I.ah2 hb,.inr (ak3 I.sz hb),λx c e z=>?_,λp hp z=>?_⟩
 ·obtain⟨v,q⟩:=I.cell x c e;exact absurd (ali q.lt (by rw[z];exact hb)) (Nat.lt_irrefl _)
 ·exact absurd (ali (sr (I.pin p hp).1) (by rw[z];exact hb)) (Nat.lt_irrefl _)
structure Turn (P:rf)(w:World)(K:ba)(tg:Expr)(J:It)(fp:List Addr)(it:Addr)(tn:Nat->Heap->Prop):Prop where
 mem:it∈fp
 obj:∀i h,tn i h->∀b∈fp,∃o,h.get? b=some o/\∀v,o.data≠.cell v
 keep:∀i h h',tn i h->(∀b∈fp,∀o,h.get? b=some o->h'.get? b=some o)->tn i h'
 item:∀(X:Cx),X.prog=P->X.w=w->X.K=K->X.calm=true->∀(i:Nat) (pins:List (Addr×Obj)) (s:Shared) (σ:St) (H:Hp) (E:Value->Shared->Prop),Inv X pins σ H s->(∀b∈fp,kT X pins H b)->tn i s.heap->J.go i H ->
  wpAny (model P w) X.A (pyNext (.ref it)) (λr s1=>∃u,r=some u /\
   wpAny (model P w) X.A (letOwnedTupleGo tg (.ref it) u) (λ_ s2=>∃x H',Inv X pins σ H' s2/\RelV x u/\J.yld i H x H'/\tn (i+1) s2.heap/\∀b∈fp,H' b=none) E s1) E s
 done:∀(X:Cx),X.prog=P->X.w=w->X.K=K->X.calm=true->∀(i:Nat) (pins:List (Addr×Obj)) (s:Shared) (σ:St) (H:Hp) (E:Value->Shared->Prop),Inv X pins σ H s->(∀b∈fp,kT X pins H b)->tn i s.heap->J.stop i H ->
  wpAny (model P w) X.A (pyNext (.ref it)) (λr s1=>r=none/\Inv X pins σ H s1) E s
 self:∀(A:Around) (i:Nat) (s:Shared) (Q:Value->Shared->Prop) (E:Value->Shared->Prop),tn i s.heap->Q (.ref it) s->wpAny (model P w) A (pyIter (.ref it)) Q E s
abbrev TI:=St->Hp->(It->Hp->Prop)->Prop
def PIE (X:Cx)(pins:List (Addr×Obj))(σ:St)(tg:Expr)(R:It->Hp->Prop)(itv:Value)(s2:Shared):Prop :=
 ∃(it:Addr) (fp:List Addr) (tn:Nat->Heap->Prop) (J:It) (H':Hp),itv=.ref it/\Inv X pins σ H' s2/\Turn X.prog X.w X.K tg J fp it tn/\tn 0 s2.heap/\(∀b∈fp,kT X pins H' b)/\R J H'
def PI (X:Cx)(tg iter:Expr)(wi:TI):Prop :=
 ∀(pins:List (Addr×Obj)) (s:Shared) (σ:St) (H:Hp) (R:It->Hp->Prop),Inv X pins σ H s->wi σ H R ->
  wpAny (model X.prog X.w) X.A (eval iter X.env) (λv s1=>wpAny (model X.prog X.w) X.A (pyIter v) (PIE X pins σ tg R) X.xe s1) X.xe s
theorem LF {M:Model}{A:Around}{E:Value->Shared->Prop}{s:Shared}{tg:Expr}{it:Addr}{u:Value}{o:Obj}{n:String}{vs:Array Value}{Q:Unit->Shared->Prop}(ho:s.heap.get? it=some o)(hc:o.cls=.type n)(hd:o.data=.fields vs)
    (hn:["enumerate","zip","dict_itemiterator","dict_reverseitemiterator","odict_iterator","itertools.zip_longest","itertools.pairwise"].contains n=false) (hQ:Q () s):wpAny M A (letOwnedTupleGo tg (.ref it) u) Q E s:=by
  unfold letOwnedTupleGo
  cases tg <;> first
    |exact wa hQ
    | (cases u <;> first
        |exact wa hQ
        | (refine gn (wpAny_load ho ?_)
           rw[hc,hd]
           show wpAny M A (if (["enumerate","zip","dict_itemiterator","dict_reverseitemiterator","odict_iterator","itertools.zip_longest","itertools.pairwise"].contains n && vs[0]? == some (rawInt _))=true then _ else _) Q E s
           rw[if_neg (by intro h;rw[hn,Bool.false_and]at h;cases h)]
           exact wa hQ))
def Itl (K:ba)(a:Addr):It :=
 ⟨λi H=>∃xs x,SqL K H a xs/\xs[i]?=some x,λi H x H'=>H'=H/\∀xs,SqL K H a xs->xs[i]?=some x,λi H=>∃xs,SqL K H a xs/\xs.length<=i⟩
def Itt (K:ba)(a:Addr):It :=
 ⟨λi H=>∃xs x,SqT K H a xs/\xs[i]?=some x,λi H x H'=>H'=H/\∀xs,SqT K H a xs->xs[i]?=some x,λi H=>∃xs,SqT K H a xs/\xs.length<=i⟩
def Itr (lo:Int)(n:Nat):It:=⟨λi _=>i < n,λi H x H'=>H'=H/\x=.int (lo+i),λi _=>n<=i⟩
theorem MG {P:rf}{w:World}{K:ba}{tg:Expr}(a it:Addr):Turn P w K tg (Itl K a) [it] it (λi h=>h.IsListIter it a i) where
 mem:=by simp
 obj:=λi h st b hb=>by
  have e:b=it:=by simpa using hb
  subst e;obtain⟨o,e,c,d⟩:=st;exact⟨o,e,λv z=>by rw[d]at z;cases z⟩
 keep:=λi h h' st k=>st.at λo e=>k it (by simp) o e
 item:=by
  intro X hP hw hK hc i pins s σ H E I hf st hg;subst hP hw hK;obtain⟨xs,x,hq,hx⟩:=hg;obtain⟨its,rv,p,hz⟩:=I.list hq;obtain⟨u,hu,ru⟩:=rv.get hx;obtain⟨f0,f1,f2,f3,f4,f5⟩:=hf it (by simp)
  refine wpAny_pyNext_list_item st p.isList (x:=u) (by simpa using hu) λh' st' sb=>?_
  have I1:Inv X pins σ H { s with heap:=h' }:=I.turned (t':=s.toks) (λb o hb e=>(sb.2 b hb).trans e) f0 f1 f3 f4 f5
  obtain⟨o,e,c,d⟩:=id st';exact⟨u,rfl,LF (s:={ s with heap:=h' }) e c d (by decide) ⟨x,H,I1,ru,⟨rfl,λys hy=>by rw[I.N3 hy hq];exact hx⟩,st',λb hb=>(hf b hb).1⟩⟩
 done:=by
  intro X hP hw hK hc i pins s σ H E I hf st hg;subst hP hw hK;obtain⟨xs,hq,hx⟩:=hg;obtain⟨its,rv,p,hz⟩:=I.list hq;obtain⟨f0,f1,f2,f3,f4,f5⟩:=hf it (by simp)
  have hl:=rv.length;exact wpAny_pyNext_list_end (I.ok.hd hc) st p.isList (by simp;omega) λh' eb=>⟨rfl,I.turned (t':=s.toks) (λb o hb e=>eb b o hb e) f0 f1 f3 f4 f5⟩
 self:=λ_ _ _ _ _ st h=>wpAny_pyIter_listiter st h
theorem Jn {P:rf}{w:World}{K:ba}{tg:Expr}(a it:Addr):Turn P w K tg (Itt K a) [it] it (λi h=>h.IsTupleIter it a i) where
 mem:=by simp
 obj:=λi h st b hb=>by
  have e:b=it:=by simpa using hb
  subst e;obtain⟨o,e,c,d⟩:=st;exact⟨o,e,λv z=>by rw[d]at z;cases z⟩
 keep:=λi h h' st k=>st.at λo e=>k it (by simp) o e
 item:=by
  intro X hP hw hK hc i pins s σ H E I hf st hg;subst hP hw hK;obtain⟨xs,x,hq,hx⟩:=hg;obtain⟨its,rv,p,hz⟩:=I.tuple hq;obtain⟨u,hu,ru⟩:=rv.get hx;obtain⟨f0,f1,f2,f3,f4,f5⟩:=hf it (by simp)
  refine wpAny_pyNext_tuple_item st (show s.heap.IsTuple a its.toArray from p) (x:=u) (by simpa using hu) λh' st' sb=>?_
  have I1:Inv X pins σ H { s with heap:=h' }:=I.turned (t':=s.toks) (λb o hb e=>(sb.2 b hb).trans e) f0 f1 f3 f4 f5
  obtain⟨o,e,c,d⟩:=id st';exact⟨u,rfl,LF (s:={ s with heap:=h' }) e c d (by decide) ⟨x,H,I1,ru,⟨rfl,λys hy=>by rw[I.MF hy hq];exact hx⟩,st',λb hb=>(hf b hb).1⟩⟩
 done:=by
  intro X hP hw hK hc i pins s σ H E I hf st hg;subst hP hw hK;obtain⟨xs,hq,hx⟩:=hg;obtain⟨its,rv,p,hz⟩:=I.tuple hq;obtain⟨f0,f1,f2,f3,f4,f5⟩:=hf it (by simp)
  have hl:=rv.length;exact wpAny_pyNext_tuple_end (I.ok.hd hc) st (show s.heap.IsTuple a its.toArray from p) (by simp;omega) λh' eb=>⟨rfl,I.turned (t':=s.toks) (λb o hb e=>eb b o hb e) f0 f1 f3 f4 f5⟩
 self:=λ_ _ _ _ _ st h=>wpAny_pyIter_tupleiter st h
theorem Jo {P:rf}{w:World}{K:ba}{tg:Expr}(it:Addr)(lo:Int)(n:Nat):Turn P w K tg (Itr lo n) [it] it (λi h=>IsRangeIter h it (lo+(i:Nat) * 1) ((n:Int) - (i:Nat)) 1) where
 mem:=by simp
 obj:=λi h st b hb=>by
  have e:b=it:=by simpa using hb
  subst e;exact⟨_,st,λv z=>by
   have z':Data.fields _=Data.cell v:=z;cases z'⟩
 keep:=λi h h' st k=>k it (by simp) _ st
 item:=by
  intro X hP hw hK hc i pins s σ H E I hf st hg;subst hP hw hK;obtain⟨f0,f1,f2,f3,f4,f5⟩:=hf it (by simp)
  have W:=Walks.range (prog:=X.prog) (w:=X.w) (I.ok.hd hc) it lo 1 n;refine W.item i s _ _ hg st λv h' tk hv st' kk=>?_
  obtain⟨t,rfl⟩:=hv;have I1:Inv X pins σ H { s with heap:=h',toks:=tk }:=I.turned (λb o hb e=>kk b o (by simpa using hb) e) f0 f1 f3 f4 f5
  refine⟨_,rfl,LF (s:={ s with heap:=h',toks:=tk }) (n:="range_iterator") st' rfl rfl (by decide) ⟨.int (lo+i),H,I1,⟨t,?_⟩,⟨rfl,rfl⟩,st',λb hb=>(hf b hb).1⟩⟩
  rw[Int.mul_one]
 done:=by
  intro X hP hw hK hc i pins s σ H E I hf st hg;subst hP hw hK;obtain⟨f0,f1,f2,f3,f4,f5⟩:=hf it (by simp)
  exact wpAny_pyNext_range_end (I.ok.hd hc) st (by have:n<=i:=hg;omega) λh' eb=>⟨rfl,I.turned (t':=s.toks) (λb o hb e=>eb b o hb e) f0 f1 f3 f4 f5⟩
 self:=λ_ _ _ _ _ st h=>wpAny_pyIter_rangeiter st h
section
variable{X:Cx}{tg:Expr}
def Z7 (K:ba)(tl:TE):TI:=λσ H R=>tl σ H λx H1=>∃a,x=.ref a/\(∃xs,SqL K H1 a xs)/\R (Itl K a) H1
def aie (K:ba)(tl:TE):TI:=λσ H R=>tl σ H λx H1=>∃a,x=.ref a/\(∃xs,SqT K H1 a xs)/\R (Itt K a) H1
theorem nK {l:Expr}{tl:TE}(hl:PE X l tl):PI X tg l (Z7 X.K tl):=by
 intro pins s σ H R I h;refine thn (hl pins s σ H _ I h) λv s1 ⟨x,H1,I1,r1,q1⟩=>?_
 obtain⟨a,e,⟨xs,hq⟩,q⟩:=q1;subst e;cases r1;obtain⟨its,rv,p,hz⟩:=I1.list hq;refine wpAny_pyIter_list p.isList ?_;refine⟨s1.heap.objs.size,[s1.heap.objs.size],_,_,H1,rfl,I1.kept (t':=s1.toks) λb o e=>kf _ e,MG a _,⟨_,alf _ rfl,rfl,rfl⟩,λb hb=>?_,q⟩
 have e:b=s1.heap.objs.size:=by simpa using hb
 subst e;exact I1.AJ (kq _) (I1.hok.fresh (kq _))
theorem Vr {l:Expr}{tl:TE}(hl:PE X l tl):PI X tg l (aie X.K tl):=by
 intro pins s σ H R I h;refine thn (hl pins s σ H _ I h) λv s1 ⟨x,H1,I1,r1,q1⟩=>?_
 obtain⟨a,e,⟨xs,hq⟩,q⟩:=q1;subst e;cases r1;obtain⟨its,rv,p,hz⟩:=I1.tuple hq;refine wpAny_pyIter_tuple (show s1.heap.IsTuple a its.toArray from p) ?_
 refine⟨s1.heap.objs.size,[s1.heap.objs.size],_,_,H1,rfl,I1.kept (t':=s1.toks) λb o e=>kf _ e,Jn a _,⟨_,alf _ rfl,rfl,rfl⟩,λb hb=>?_,q⟩
 have e:b=s1.heap.objs.size:=by simpa using hb
 subst e;exact I1.AJ (kq _) (I1.hok.fresh (kq _))
theorem N5 {pins:List (Addr×Obj)}{σ:St}{H:Hp}{s:Shared}{R:It->Hp->Prop}{E:Value->Shared->Prop}{lo hi:Int}{t u v:Tok}{tk:Nat}(I:Inv X pins σ H s)(h1:-(2 ^ 62)<=lo)(h2:lo < 2 ^ 62)(h3:-(2 ^ 62)<=hi)(h4:hi < 2 ^ 62)
  (q:R (Itr lo (hi - lo).toNat) H):wpAny (model X.prog X.w) X.A (pyIter (.ref s.heap.objs.size)) (PIE X pins σ tg R) E { s with heap:=s.heap.push { cls:=.type "range",data:=.fields #[.int lo t,.int hi u,.int 1 v] },toks:=tk }:=by
 refine wpAny_pyIter_range (IsRange.new ..) (small_one h1 h2 h3 h4) ?_;have I1:Inv X pins σ H { s with heap:=s.heap.push { cls:=.type "range",data:=.fields #[.int lo t,.int hi u,.int 1 v] },toks:=tk }:=I.kept λb o e=>kf _ e
 refine⟨(s.heap.push { cls:=.type "range",data:=.fields #[.int lo t,.int hi u,.int 1 v] }).objs.size,[(s.heap.push { cls:=.type "range",data:=.fields #[.int lo t,.int hi u,.int 1 v] }).objs.size],_,_,H,rfl,
  I1.kept (t':=tk) λb o e=>kf _ e,Jo _ lo (hi - lo).toNat,?_,λb hb=>?_,q⟩
 ·have e1:lo+((0:Nat):Int) * 1=lo:=by simp
  have e2:(((hi - lo).toNat:Nat):Int) - ((0:Nat):Int)=Builtin.Range.rangeSize lo hi 1:=by rw[rangeSize_one];split <;> omega
  show IsRangeIter _ _ (lo+((0:Nat):Int) * 1) ((((hi - lo).toNat:Nat):Int) - ((0:Nat):Int)) 1;rw[e1,e2];exact alf _ rfl
 ·have e:b=(s.heap.push { cls:=.type "range",data:=.fields #[.int lo t,.int hi u,.int 1 v] }).objs.size:=by simpa using hb
  subst e;exact I1.AJ (kq _) (I1.hok.fresh (kq _))
def Z8 (ta:TA):TI:=λσ H R=>ta σ H λvs H1=>∃j:Int,vs=[.int j]/\-(2 ^ 62)<=j/\j < 2 ^ 62/\R (Itr 0 j.toNat) H1
theorem xq {a:Expr}{ta:TA}{p pos:Pos}(hg:Gl X "range")(hm:X.mg "range"=none)(ha:PA X [a] ta)(hs:ak8 [a] X.env=[(false,eval a X.env)]:=by rfl):PI X tg (.Call (.Name "range" p) [a] [] pos) (Z8 ta):=by
 intro pins s σ H R I h;refine Call_ (Jk I hg hm boot_range (PyProof.Rows.callWith_type1 (thn (ha pos pins s σ H _ I h) λus s1 ⟨vs,H1,I1,r1,q1⟩=>?_) hs rfl))
 obtain⟨j,e,q1,q2,q⟩:=q1;subst e;cases r1 with
 |cons r rr =>
  cases rr;obtain⟨t,rfl⟩:=r;exact call_range_1 (N5 I1 (by omega) (by omega) q1 q2 (by simpa using q))
def aif (wi:TI)(g:TG)(tb:TS):TS:=λD σ H=>wi σ H λJ H1=>∃W:Nat->Nat->St->Hp->Prop,(∃m,W 0 m σ H1)/\∀i m σ H,W i m σ H ->
 (J.stop i H/\D.nx σ H)\/(J.go i H/\∃N:St->Hp->Prop,(∀σ' H',N σ' H'->∃m',m' < m/\W (i+1) m' σ' H')/\∀x H',J.yld i H x H'->g x σ H' λσ2 H2=>tb { D with nx:=N,ct:=N,bk:=D.nx } σ2 H2)
def En (fp:List Addr)(h:Heap):List (Addr×Obj):=fp.filterMap λb=>(h.get? b).map λo=>(b,o)
theorem gG {fp:List Addr}{h:Heap}{b:Addr}{o:Obj}(hb:b∈fp)(e:h.get? b=some o):(b,o)∈En fp h:=List.mem_filterMap.mpr ⟨b,hb,by rw[e];rfl⟩
theorem MH {fp:List Addr}{h:Heap}{p:Addr×Obj}(hp:p∈En fp h):p.1∈fp/\h.get? p.1=some p.2:=by
 obtain⟨b,hb,e⟩:=List.mem_filterMap.mp hp;cases q:h.get? b with
 |none=>rw[q]at e;cases e
 |some o =>
  rw[q]at e;have e':(b,o)=p:=ak9 e;subst e';exact⟨hb,q⟩
theorem Inv.pinned {pins:List (Addr×Obj)}{σ:St}{H:Hp}{s:Shared}{fp:List Addr}(I:Inv X pins σ H s)(hf:∀b∈fp,kT X pins H b)(ho:∀b∈fp,∃o,s.heap.get? b=some o/\∀v,o.data≠.cell v):Inv X (pins++En fp s.heap) σ H s :=
 I.Am λp hp=>(List.mem_append.mp hp).elim (λz=>I.pin p (kx _ z)) λz=>by
  obtain⟨hb,e⟩:=MH z;obtain⟨f0,f1,f2,_⟩:=hf p.1 hb;obtain⟨o,e',d⟩:=ho p.1 hb;rw[e]at e';cases e';exact⟨e,f0,f1,f2,d⟩
theorem Inv.iu {pins pl:List (Addr×Obj)}{σ:St}{H:Hp}{s:Shared}(I:Inv X (pins++pl) σ H s):Inv X pins σ H s:=I.Am λp hp=>I.pin p (kx _ (alI _ hp))
theorem AK {iter:Expr}{body:List Stmt}{wi:TI}{g:TG}{tb:TS}{pos:Pos}(hp:PassesOwn (model X.prog X.w) X.A X.env X.xe)(hc:X.calm=true)(hi:PI X tg iter wi)(hg:PG X tg g)(hb:PSs X body tb)
  (hs:∀x,foldedSetIterable iter X.env x=pure x:=by intro _;rfl):PS X (.For tg iter body [] pos) (aif wi g tb):=by
 intro pins s σ H D I h;refine wpAny_For (thn (hi pins s σ H _ I h) λv s1 h1=>thn h1 λitv s2 h2=>?_) hs
 obtain⟨it,fp,tn,J,H2,e,I2,T,st2,f2,W,⟨m0,w0⟩,turn⟩:=h2;subst e;have stat:∀ {H':Hp},(∀b∈fp,H' b=none)->∀b∈fp,kT X pins H' b:=λhn b hb=>⟨hn b hb,(f2 b hb).2⟩
 refine codeAny_forLoop_any (λn s'=>∃i σ' H',Inv X pins σ' H' s'/\tn i s'.heap/\(∀b∈fp,H' b=none)/\W i n σ' H') ?_ m0 ⟨0,σ,H2,I2,st2,λb hb=>(f2 b hb).1,w0⟩
 rintro n s3 ⟨i,σ3,H3,I3,st3,fr3,w3⟩;rcases turn i n σ3 H3 w3 with ⟨stop,qn⟩ | ⟨go,N,hN,step⟩
 ·refine wpAny_passesOwn hp (thn (T.done X rfl rfl rfl hc i pins s3 σ3 H3 X.xe I3 (stat fr3) st3 stop) λr s4 ⟨hr,I4⟩=>?_)
  subst hr;exact wpAny_execs_nil ⟨σ3,H3,I4,qn⟩
 ·refine wpAny_passesOwn hp (thn (T.item X rfl rfl rfl hc i pins s3 σ3 H3 X.xe I3 (stat fr3) st3 go) λr s4 ⟨u,hr,h4⟩=>?_)
  subst hr;refine wpAny_passesOwn hp (thn h4 λ_ s5 ⟨x,H5,I5,r5,y5,st5,fr5⟩=>?_)
  have I5':=I5.pinned (stat fr5) (T.obj _ _ st5);refine wpAny_passesOwn hp (thn (hg _ s5 σ3 H5 x u _ I5' r5 (step x H5 y5)) λ_ s6 ⟨σ6,H6,I6,q6⟩=>?_)
  refine wpAny_passesOwn hp (thn (hb _ s6 σ6 H6 _ I6 q6) λf s7 q7=>?_)
  have again:∀ {σ7:St} {H7:Hp},Inv X (pins++En fp s5.heap) σ7 H7 s7->N σ7 H7->∃m,m < n/\∃i σ' H',Inv X pins σ' H' s7/\tn i s7.heap/\(∀b∈fp,H' b=none)/\W i m σ' H':=λ{σ7 H7} I7 n7=>by
   obtain⟨m',hm,w7⟩:=hN σ7 H7 n7;refine⟨m',hm,i+1,σ7,H7,I7.iu,T.keep _ _ _ st5 λb hb o e=>(I7.pin (b,o) (kx _ (kx _ (gG hb e)))).1,λb hb=>?_,w7⟩
   obtain⟨o,e,d⟩:=T.obj _ _ st5 b hb;exact(I7.pin (b,o) (kx _ (kx _ (gG hb e)))).2.1
  cases f with
  |next=>obtain⟨σ7,H7,I7,n7⟩:=q7;exact again I7 n7
  |cont=>obtain⟨σ7,H7,I7,n7⟩:=q7;exact again I7 n7
  |brk=>obtain⟨σ7,H7,I7,q7⟩:=q7;exact⟨σ7,H7,I7.iu,q7⟩
  |ret v=>obtain⟨x7,σ7,H7,I7,r7,q7⟩:=q7;exact⟨x7,σ7,H7,I7.iu,r7,q7⟩
end
theorem AL {K:ba}{a:Addr}{xs:List V}{g:TG}{tb:TS}{D:Ends}{σ:St}{H:Hp}(Pv:Nat->St->Hp->Prop)(h0:Pv 0 σ H)(hl:∀i σ H,i<=xs.length->Pv i σ H->SqL K H a xs)
  (hs:∀i x σ H,xs[i]?=some x->Pv i σ H->g x σ H λσ2 H2=>tb { D with nx:=Pv (i+1),ct:=Pv (i+1),bk:=D.nx } σ2 H2) (hd:∀σ H,Pv xs.length σ H->D.nx σ H) :
  ∃W:Nat->Nat->St->Hp->Prop,(∃m,W 0 m σ H)/\∀i m σ H,W i m σ H ->
   ((Itl K a).stop i H/\D.nx σ H)\/((Itl K a).go i H/\∃N:St->Hp->Prop,(∀σ' H',N σ' H'->∃m',m' < m/\W (i+1) m' σ' H')/\∀x H',(Itl K a).yld i H x H'->g x σ H' λσ2 H2=>tb { D with nx:=N,ct:=N,bk:=D.nx } σ2 H2):=by
 refine⟨λi m σ H=>m=xs.length - i/\i<=xs.length/\Pv i σ H,⟨xs.length,by simp,alX _,h0⟩,?_⟩
 rintro i m σ H ⟨rfl,hi,p⟩;have q:=hl i σ H hi p
 by_cases hlt:i < xs.length
 ·refine .inr ⟨⟨xs,xs[i],q,by simp[hlt]⟩,Pv (i+1),λσ' H' p'=>⟨xs.length - (i+1),by omega,rfl,hlt,p'⟩,λx H' y=>?_⟩
  obtain⟨e,y⟩:=y;subst e;exact hs i x σ _ (y xs q) p
 ·have e:i=xs.length:=by omega
  subst e;exact .inl ⟨⟨xs,q,kq _⟩,hd σ H p⟩
theorem Df {lo:Int}{n:Nat}{g:TG}{tb:TS}{D:Ends}{σ:St}{H:Hp}(Pv:Nat->St->Hp->Prop)(h0:Pv 0 σ H)
  (hs:∀i σ H,i < n->Pv i σ H->g (.int (lo+i)) σ H λσ2 H2=>tb { D with nx:=Pv (i+1),ct:=Pv (i+1),bk:=D.nx } σ2 H2) (hd:∀σ H,Pv n σ H->D.nx σ H) :
  ∃W:Nat->Nat->St->Hp->Prop,(∃m,W 0 m σ H)/\∀i m σ H,W i m σ H ->
   ((Itr lo n).stop i H/\D.nx σ H)\/((Itr lo n).go i H/\∃N:St->Hp->Prop,(∀σ' H',N σ' H'->∃m',m' < m/\W (i+1) m' σ' H')/\∀x H',(Itr lo n).yld i H x H'->g x σ H' λσ2 H2=>tb { D with nx:=N,ct:=N,bk:=D.nx } σ2 H2):=by
 refine⟨λi m σ H=>m=n - i/\i<=n/\Pv i σ H,⟨n,by simp,alX _,h0⟩,?_⟩
 rintro i m σ H ⟨rfl,hi,p⟩
 by_cases hlt:i < n
 ·refine .inr ⟨hlt,Pv (i+1),λσ' H' p'=>⟨n - (i+1),by omega,rfl,hlt,p'⟩,λx H' y=>?_⟩
  obtain⟨e,y⟩:=y;subst e y;exact hs i σ _ hlt p
 ·have e:i=n:=by omega
  subst e;exact .inl ⟨kq _,hd σ H p⟩
abbrev R2:=V->V->Hp->VK->Prop
def OpR (X:Cx)(f:Value->Value->Sem Value)(r:R2):Prop :=
 ∀(pins:List (Addr×Obj)) (s:Shared) (σ:St) (H:Hp) (x y:V) (v u:Value) (Q:VK),Inv X pins σ H s->RelV x v->RelV y u->r x y H Q ->
  wpAny (model X.prog X.w) X.A (f v u) (EP X pins σ Q) X.xe s
def UnR (X:Cx)(f:Value->Sem Value)(r:V->Hp->VK->Prop):Prop :=
 ∀(pins:List (Addr×Obj)) (s:Shared) (σ:St) (H:Hp) (x:V) (v:Value) (Q:VK),Inv X pins σ H s->RelV x v->r x H Q ->
  wpAny (model X.prog X.w) X.A (f v) (EP X pins σ Q) X.xe s
def mD (X:Cx)(f:Value)(r:List V->Hp->VK->Prop):Prop :=
 ∀(pins:List (Addr×Obj)) (s:Shared) (σ:St) (H:Hp) (xs:List V) (us:List Value) (Q:VK),Inv X pins σ H s->Vals xs us->r xs H Q ->
  wpAny (model X.prog X.w) X.A (call f us) (EP X pins σ Q) X.xe s
def aih (X:Cx)(r:V->Hp->(Bool->Hp->Prop)->Prop):Prop :=
 ∀(pins:List (Addr×Obj)) (s:Shared) (σ:St) (H:Hp) (x:V) (v:Value) (Q:Bool->Hp->Prop),Inv X pins σ H s->RelV x v->r x H Q ->
  wpAny (model X.prog X.w) X.A (truthy v) (TP X pins σ Q) X.xe s
def tOp (r:R2)(ta tb:TE):TE:=λσ H Q=>ta σ H λx H1=>tb σ H1 λy H2=>r x y H2 Q
def tUn (r:V->Hp->VK->Prop)(ta:TE):TE:=λσ H Q=>ta σ H λx H1=>r x H1 Q
def rI (C:Int->Int->Prop)(g:Int->Int->V):R2:=λx y H Q=>∃i j,x=.int i/\y=.int j/\C i j/\Q (g i j) H
def rI0 (g:Int->Int->V):R2:=λx y H Q=>∃i j,x=.int i/\y=.int j/\Q (g i j) H
def rU (g:Int->V):V->Hp->VK->Prop:=λx H Q=>∃i,x=.int i/\Q (g i) H
section
variable{X:Cx}{a b c:Expr}{ta tb tc:TE}{pos:Pos}
theorem Vs (ha:PE X a ta)(hb:PE X b tb){pins:List (Addr×Obj)}{s:Shared}{σ:St}{H:Hp}{R:V->V->Hp->Prop}(I:Inv X pins σ H s)
  (h:ta σ H λx H1=>tb σ H1 λy H2=>R x y H2) {Q:Value->Shared->Prop} {f:Value->Value->Sem Value}
  (hf:∀v u s2 x y H2,Inv X pins σ H2 s2->RelV x v->RelV y u->R x y H2->wpAny (model X.prog X.w) X.A (f v u) Q X.xe s2) :
  wpAny (model X.prog X.w) X.A (eval a X.env) (λv s₁=>wpAny (model X.prog X.w) X.A (eval b X.env) (λu s₂=>wpAny (model X.prog X.w) X.A (f v u) Q X.xe s₂) X.xe s₁) X.xe s:=by
 refine thn (ha pins s σ H _ I h) λv s1 ⟨x,H1,I1,r1,q1⟩=>?_
 refine thn (hb pins s1 σ H1 _ I1 q1) λu s2 ⟨y,H2,I2,r2,q2⟩=>?_
 exact hf v u s2 x y H2 I2 r1 r2 q2
theorem a6 {op:Operator}{r:R2}(ho:OpR X (binaryOp op) r)(ha:PE X a ta)(hb:PE X b tb):PE X (.BinOp a op b pos) (tOp r ta tb):=by
 intro pins s σ H Q I h;exact wpAny_BinOp (Vs ha hb I h λv u s2 x y H2 I2 rx ry q=>ho pins s2 σ H2 x y v u Q I2 rx ry q)
theorem jE {op:UnaryOp}{r:V->Hp->VK->Prop}(ho:UnR X (unaryOp op) r)(ha:PE X a ta):PE X (.UnaryOp op a pos) (tUn r ta):=by
 intro pins s σ H Q I h;exact UnaryOp_ (thn (ha pins s σ H _ I h) λv s1 ⟨x,H1,I1,r1,q1⟩=>ho pins s1 σ H1 x v Q I1 r1 q1)
theorem opI {f:Value->Value->Sem Value}{C:Int->Int->Prop}{g:Int->Int->Int}
  (rule:∀(i j:Int) (t u:Tok) (s:Shared) (Q:Value->Shared->Prop) (E:Value->Shared->Prop),C i j->Q (.int (g i j) s.toks) { s with toks:=s.toks+1 }->wpAny (model X.prog X.w) X.A (f (.int i t) (.int j u)) Q E s) :
  OpR X f (rI C λi j=>.int (g i j)):=by
 intro pins s σ H x y v u Q I rx ry h;obtain⟨i,j,rfl,rfl,hc,q⟩:=h;obtain⟨t,rfl⟩:=rx;obtain⟨t',rfl⟩:=ry;exact rule i j t t' s _ _ hc ⟨.int (g i j),H,I.tok _,⟨_,rfl⟩,q⟩
theorem Z9 {f:Value->Value->Sem Value}{g:Int->Int->Int}
  (rule:∀(i j:Int) (t u:Tok) (s:Shared) (Q:Value->Shared->Prop) (E:Value->Shared->Prop),Q (.int (g i j) s.toks) { s with toks:=s.toks+1 }->wpAny (model X.prog X.w) X.A (f (.int i t) (.int j u)) Q E s) :
  OpR X f (rI0 λi j=>.int (g i j)):=by
 intro pins s σ H x y v u Q I rx ry h;obtain⟨i,j,rfl,rfl,q⟩:=h;obtain⟨t,rfl⟩:=rx;obtain⟨t',rfl⟩:=ry;exact rule i j t t' s _ _ ⟨.int (g i j),H,I.tok _,⟨_,rfl⟩,q⟩
theorem Rn {f:Value->Value->Sem Value}{g:Int->Int->Bool}
  (rule:∀(i j:Int) (t u:Tok) (s:Shared) (Q:Value->Shared->Prop) (E:Value->Shared->Prop),Q (.bool (g i j)) s->wpAny (model X.prog X.w) X.A (f (.int i t) (.int j u)) Q E s) :
  OpR X f (rI0 λi j=>.bl (g i j)):=by
 intro pins s σ H x y v u Q I rx ry h;obtain⟨i,j,rfl,rfl,q⟩:=h;obtain⟨t,rfl⟩:=rx;obtain⟨t',rfl⟩:=ry;exact rule i j t t' s _ _ ⟨.bl (g i j),H,I,rfl,q⟩
def aii (i j:Int):Prop:=0 < j/\j < 1073741824
def aij (i j:Int):Prop:=0<=j/\j<=1000000/\i.natAbs < 2 ^ 64
def Vt (i j:Int):Prop:=(-(2 ^ 64) < i/\i < 2 ^ 64)\/(-(2 ^ 64) < j/\j < 2 ^ 64)
theorem Vt.ok {i j:Int}(h:Vt i j):IntMulOk i j:=by
 rcases h with ⟨h1,h2⟩ | ⟨h1,h2⟩
 ·exact .of_left (intBits_le_64 h1 h2)
 ·exact .of_right (intBits_le_64 h1 h2)
theorem dI:OpR X (binaryOp .Add) (rI0 λi j=>.int (i+j)):=Z9 λ_ _ _ _ _ _ _ q=>add_int q
theorem oh:OpR X (binaryOp .Sub) (rI0 λi j=>.int (i - j)):=Z9 λ_ _ _ _ _ _ _ q=>sub_int q
theorem uE:OpR X (binaryOp .Mult) (rI Vt λi j=>.int (i * j)):=opI λ_ _ _ _ _ _ _ hc q=>mul_int q hc.ok
theorem cO:OpR X (binaryOp .FloorDiv) (rI aii λi j=>.int (i / j)):=opI λi j _ _ _ _ _ hc q=>by
 have h1:(0:Int) < j:=hc.1;have h2:j < 1073741824:=hc.2;exact floordiv_int (by omega) (by rw[Int.fdiv_eq_ediv_of_nonneg i (by omega)];exact q) (.inl (PyProof.noPylong_small (by omega)))
theorem b6:OpR X (binaryOp .Mod) (rI (λ_ j=>0 < j) λi j=>.int (i % j)):=opI λi j _ _ _ _ _ hc q=>by
 have h1:(0:Int) < j:=hc;exact mod_int' (by omega) (by rw[Int.fmod_eq_emod_of_nonneg i (by omega)];exact q)
theorem N6:OpR X (binaryOp .Pow) (rI aij λi j=>.int (i ^ j.toNat)):=opI λ_ _ _ _ _ _ _ hc q=>pow_int_small hc.1 hc.2.1 hc.2.2 q
theorem unI {f:Value->Sem Value}{g:Int->Int}
  (rule:∀(i:Int) (t:Tok) (s:Shared) (Q:Value->Shared->Prop) (E:Value->Shared->Prop),Q (.int (g i) s.toks) { s with toks:=s.toks+1 }->wpAny (model X.prog X.w) X.A (f (.int i t)) Q E s) :
  UnR X f (rU λi=>.int (g i)):=by
 intro pins s σ H x v Q I rx h;obtain⟨i,rfl,q⟩:=h;obtain⟨t,rfl⟩:=rx;exact rule i t s _ _ ⟨.int (g i),H,I.tok _,⟨_,rfl⟩,q⟩
theorem gv:UnR X (unaryOp .USub) (rU λi=>.int (-i)):=unI λ_ _ _ _ _ q=>neg_int q
end
def aaa:V->V->Bool
 | .non,.non=>true | .non,.int _=>true | .int _,.non=>true | .non,.bl _=>true | .bl _,.non=>true | .non,.str _=>true | .str _,.non=>true
 | .int _,.int _=>true | .bl _,.bl _=>true | .str _,.str _=>true | .byt _,.byt _=>true
 | .int _,.str _=>true | .str _,.int _=>true | .bl _,.str _=>true | .str _,.bl _=>true
 |_,_=>false
def rEq:R2:=λx y H Q=>aaa x y=true/\Q (.bl (decide (x=y))) H
def rNe:R2:=λx y H Q=>aaa x y=true/\Q (.bl (!decide (x=y))) H
theorem LG {i j:Int}:decide (V.int i=V.int j)=(i == j):=by
 rw[Bool.eq_iff_iff];simp
theorem N7 {i j:Bool}:decide (V.bl i=V.bl j)=(i == j):=by
 rw[Bool.eq_iff_iff];simp
theorem LH {i j:Str}:decide (V.str i=V.str j)=(i == j):=by
 rw[Bool.eq_iff_iff];simp
theorem LI {i j:Array UInt8}:decide (V.byt i=V.byt j)=(i.toList == j.toList):=by
 rw[Bool.eq_iff_iff];cases i;cases j;simp
section
variable{X:Cx}{a b c:Expr}{ta tb tc:TE}{pos:Pos}
theorem cE {pins:List (Addr×Obj)}{σ:St}{H:Hp}{s:Shared}{Q:VK}{k k':Bool}(I:Inv X pins σ H s)(q:Q (.bl k) H)(e:k=k'):EP X pins σ Q (.bool k') s:=by
 subst e;exact⟨.bl k,H,I,rfl,q⟩
theorem bt:OpR X (al6 .Eq) rEq:=by
 intro pins s σ H x y v u Q I rx ry h;obtain⟨hs,q⟩:=h;cases x with
 |non =>
  cases rx;cases y with
  |non=>cases ry;exact PySem.EqNone.eq_none_none (cE I q (by simp))
  |bl j=>cases ry;exact PySem.EqNone.eq_none_bool (cE I q (by simp))
  |int j=>obtain⟨t',rfl⟩:=ry;exact PySem.EqNone.eq_none_int (cE I q (by simp))
  |str j=>obtain⟨t',rfl⟩:=ry;exact PySem.EqNone.eq_none_str (cE I q (by simp))
  |_=>exact absurd (show false=true from hs) kr
 |bl i =>
  cases rx;cases y with
  |non=>cases ry;exact PySem.EqNone.eq_bool_none (cE I q (by simp))
  |bl j=>cases ry;exact eq_bool (cE I q N7)
  |str j=>obtain⟨t',rfl⟩:=ry;exact PySem.EqMixed.eq_bool_str (cE I q (by simp))
  |_=>exact absurd (show false=true from hs) kr
 |int i =>
  obtain⟨t,rfl⟩:=rx;cases y with
  |non=>cases ry;exact PySem.EqNone.eq_int_none (cE I q (by simp))
  |int j=>obtain⟨t',rfl⟩:=ry;exact eq_int (cE I q LG)
  |str j=>obtain⟨t',rfl⟩:=ry;exact PySem.EqMixed.eq_int_str (cE I q (by simp))
  |_=>exact absurd (show false=true from hs) kr
 |str i =>
  obtain⟨t,rfl⟩:=rx;cases y with
  |non=>cases ry;exact PySem.EqNone.eq_str_none (cE I q (by simp))
  |bl j=>cases ry;exact PySem.EqMixed.eq_str_bool (cE I q (by simp))
  |int j=>obtain⟨t',rfl⟩:=ry;exact PySem.EqMixed.eq_str_int (cE I q (by simp))
  |str j=>obtain⟨t',rfl⟩:=ry;exact eq_str (cE I q LH)
  |_=>exact absurd (show false=true from hs) kr
 |byt i =>
  obtain⟨t,rfl⟩:=rx;cases y with
  |byt j=>obtain⟨t',rfl⟩:=ry;exact PySem.W.eq_bytes (cE I q LI)
  |_=>exact absurd (show false=true from hs) kr
 |_=>cases y <;> exact absurd (show false=true from hs) kr
theorem AM:OpR X (al6 .NotEq) rNe:=by
 intro pins s σ H x y v u Q I rx ry h;obtain⟨hs,q⟩:=h;cases x with
 |non =>
  cases rx;cases y with
  |non=>cases ry;exact PySem.EqNone.ne_none_none (cE I q (by simp))
  |bl j=>cases ry;exact PySem.EqNone.ne_none_bool (cE I q (by simp))
  |int j=>obtain⟨t',rfl⟩:=ry;exact PySem.EqNone.ne_none_int (cE I q (by simp))
  |str j=>obtain⟨t',rfl⟩:=ry;exact PySem.EqNone.ne_none_str (cE I q (by simp))
  |_=>exact absurd (show false=true from hs) kr
 |bl i =>
  cases rx;cases y with
  |non=>cases ry;exact PySem.EqNone.ne_bool_none (cE I q (by simp))
  |bl j=>cases ry;exact ne_bool (cE I q (congrArg not N7))
  |str j=>obtain⟨t',rfl⟩:=ry;exact PySem.EqMixed.ne_bool_str (cE I q (by simp))
  |_=>exact absurd (show false=true from hs) kr
 |int i =>
  obtain⟨t,rfl⟩:=rx;cases y with
  |non=>cases ry;exact PySem.EqNone.ne_int_none (cE I q (by simp))
  |int j=>obtain⟨t',rfl⟩:=ry;exact ne_int (cE I q (congrArg not LG))
  |str j=>obtain⟨t',rfl⟩:=ry;exact PySem.EqMixed.ne_int_str (cE I q (by simp))
  |_=>exact absurd (show false=true from hs) kr
 |str i =>
  obtain⟨t,rfl⟩:=rx;cases y with
  |non=>cases ry;exact PySem.EqNone.ne_str_none (cE I q (by simp))
  |bl j=>cases ry;exact PySem.EqMixed.ne_str_bool (cE I q (by simp))
  |int j=>obtain⟨t',rfl⟩:=ry;exact PySem.EqMixed.ne_str_int (cE I q (by simp))
  |str j=>obtain⟨t',rfl⟩:=ry;exact ne_str (cE I q (congrArg not LH))
  |_=>exact absurd (show false=true from hs) kr
 |byt i =>
  obtain⟨t,rfl⟩:=rx;cases y with
  |byt j=>obtain⟨t',rfl⟩:=ry;exact PySem.W.ne_bytes (cE I q (congrArg not LI))
  |_=>exact absurd (show false=true from hs) kr
 |_=>cases y <;> exact absurd (show false=true from hs) kr
theorem rK:OpR X (al6 .Lt) (rI0 λi j=>.bl (decide (i < j))):=Rn λ_ _ _ _ _ _ _ q=>lt_int q
theorem uq:OpR X (al6 .LtE) (rI0 λi j=>.bl (decide (i<=j))):=Rn λ_ _ _ _ _ _ _ q=>le_int q
theorem AN:OpR X (al6 .Gt) (rI0 λi j=>.bl (decide (j < i))):=Rn λ_ _ _ _ _ _ _ q=>gt_int q
theorem TF:OpR X (al6 .GtE) (rI0 λi j=>.bl (decide (j<=i))):=Rn λ_ _ _ _ _ _ _ q=>ge_int q
theorem Ro:OpR X (al6 .IsNot) (λx y H Q=>y=.non/\Q (.bl (!decide (x=.non))) H):=by
 intro pins s σ H x y v u Q I rx ry h;obtain⟨rfl,q⟩:=h;cases ry;refine isnot_none_gen (cE I q ?_);cases x <;> first
  | (cases rx;rfl)
  | (obtain⟨t,rfl⟩:=rx;rfl)
theorem OpR.or {f:Value->Value->Sem Value}{r r':R2}(h:OpR X f r)(h':OpR X f r'):OpR X f (λx y H Q=>r x y H Q\/r' x y H Q):=by
 intro pins s σ H x y v u Q I rx ry q;rcases q with q | q
 ·exact h pins s σ H x y v u Q I rx ry q
 ·exact h' pins s σ H x y v u Q I rx ry q
theorem aJ (b:Expr){op:CmpOp}(h:op≠.In:=by decide)(h2:op≠.NotIn:=by decide):behindInMarks op b=false:=by
 have e1:(op == CmpOp.In)=false:=by cases op <;> first | rfl | exact absurd rfl h
 have e2:(op == CmpOp.NotIn)=false:=by cases op <;> first | rfl | exact absurd rfl h2
 cases b <;> simp[behindInMarks,e1,e2]
theorem gA {op:CmpOp}{r:R2}(ho:OpR X (al6 op) r)(ha:PE X a ta)(hb:PE X b tb)(hm:behindInMarks op b=false):PE X (.Compare a [op] [b] pos) (tOp r ta tb):=by
 intro pins s σ H Q I h;exact wpAny_Compare1 (Vs ha hb I h λv u s2 x y H2 I2 rx ry q=>ho pins s2 σ H2 x y v u Q I2 rx ry q) hm
def aab (t:TE):TT:=λσ H Q=>t σ H λx H'=>∃k,x=.bl k/\Q k H'
theorem ay {op:CmpOp}{r:R2}(ho:OpR X (al6 op) r)(ha:PE X a ta)(hb:PE X b tb)(hm:behindInMarks op b=false):PT X (.Compare a [op] [b] pos) (aab (tOp r ta tb)):=by
 intro pins s σ H Q I h;refine wpAny_isTrue_Compare1 (thn (ha pins s σ H _ I h) λv s1 ⟨x,H1,I1,r1,q1⟩=>thn (hb pins s1 σ H1 _ I1 q1) λu s2 ⟨y,H2,I2,r2,q2⟩ =>
  thn (ho pins s2 σ H2 x y v u _ I2 r1 r2 q2) λc s3 ⟨z,H3,I3,r3,k,e,q3⟩=>?_) hm
 subst e;cases r3;exact wpAny_truthy_bool ⟨H3,I3,q3⟩
def Vu (r r':R2)(ta tb tc:TE):TE:=λσ H Q=>ta σ H λx H1=>tb σ H1 λy H2=>r x y H2 λz H3=>∃k,z=.bl k /\
 (if k=true then tc σ H3 λw' H4=>r' y w' H4 Q else Q (.bl false) H3)
theorem AO {op op':CmpOp}{r r':R2}(ho:OpR X (al6 op) r)(ho':OpR X (al6 op') r')(ha:PE X a ta)(hb:PE X b tb)(hc:PE X c tc)
  (hm:lastMarks [op,op'] [b,c]=false:=by with_unfolding_all rfl):PE X (.Compare a [op,op'] [b,c] pos) (Vu r r' ta tb tc):=by
 intro pins s σ H Q I h;refine Compare_chain (thn (ha pins s σ H _ I h) λv s1 ⟨x,H1,I1,r1,q1⟩=>chain_link (thn (hb pins s1 σ H1 _ I1 q1) λu s2 ⟨y,H2,I2,r2,q2⟩ =>
  thn (ho pins s2 σ H2 x y v u _ I2 r1 r2 q2) λd s3 ⟨z,H3,I3,r3,k,e,q3⟩=>?_)) hm
 subst e;cases r3;refine wpAny_truthy_bool ?_;cases k with
 |false=>exact ite_ff ⟨.bl false,H3,I3,rfl,q3⟩
 |true=>exact ite_tt (chain_last (thn (hc pins s3 σ H3 _ I3 q3) λw' s4 ⟨z',H4,I4,r4,q4⟩=>ho' pins s4 σ H4 y z' u w' Q I4 r2 r4 q4))
def aac (K:ba)(x:V)(H:Hp)(k:Bool):Prop :=
 match x with
 | .non=>k=false
 | .bl b=>k=b
 | .int i=>k=(i != 0)
 | .str y=>y.length<=kg/\k=((y.length:Int) != 0)
 | .byt y=>y.size<=kg/\k=((y.size:Int) != 0)
 | .ref p=>(∃xs,SqL K H p xs/\k=!xs.isEmpty)\/(∃xs,SqT K H p xs/\k=!xs.isEmpty)\/∃kvs,H p=some (.dK kvs)/\k=!kvs.isEmpty
 |_=>False
theorem Jp {κ:Type}{kvs:List (κ×V)}{vs:List (κ×Value)}(r:KV kvs vs):(!vs.isEmpty)=!kvs.isEmpty:=by
 cases r <;> rfl
theorem AQ {xs:List V}{its:List Value}(r:Vals xs its):(!its.toArray.isEmpty)=!xs.isEmpty:=by
 cases r <;> simp
theorem uF:(kg:Nat) < 2 ^ 63:=by rw[sizeLine_eq];decide
theorem Vv:aih X (λx H Q=>∃k,aac X.K x H k/\Q k H):=by
 intro pins s σ H x v Q I rx h;obtain⟨k,e,q⟩:=h;have hl:=uF;have hs:kg=16777216:=sizeLine_eq;cases x with
 |non =>
  cases rx;have e':k=false:=e;subst e';exact truthy_none ⟨H,I,q⟩
 |bl b =>
  cases rx;have e':k=b:=e;subst e';exact wpAny_truthy_bool ⟨H,I,q⟩
 |int i =>
  obtain⟨t,rfl⟩:=rx;have e':k=(i != 0):=e;subst e';exact PySem.P.truthy_int ⟨H,I,q⟩
 |str y =>
  obtain⟨t,rfl⟩:=rx;obtain⟨hy,e'⟩:y.length<=kg/\k=((y.length:Int) != 0):=e;subst e';exact PySem.P.truthy_str (by omega) ⟨H,I.tok _,q⟩
 |byt y =>
  obtain⟨t,rfl⟩:=rx;obtain⟨hy,e'⟩:y.size<=kg/\k=((y.size:Int) != 0):=e;subst e';exact PySem.W.truthy_bytes (by omega) ⟨H,I.tok _,q⟩
 |ref p =>
  cases rx;have e':(∃xs,SqL X.K H p xs/\k=!xs.isEmpty)\/(∃xs,SqT X.K H p xs/\k=!xs.isEmpty)\/∃kvs,H p=some (.dK kvs)/\k=!kvs.isEmpty:=e;rcases e' with ⟨xs,hx,e'⟩ | ⟨xs,hx,e'⟩ | ⟨kvs,hx,e'⟩
  ·subst e';obtain⟨its,r,pl,hz⟩:=I.list hx;have hlen:=r.length;exact wpAny_truthy_list pl.isList (by simp only[ky];omega) ⟨H,I.tok _,by rw[AQ r];exact q⟩
  ·subst e';obtain⟨its,r,pl,hz⟩:=I.tuple hx;have hlen:=r.length;exact truthy_tuple pl (by simp only[ky];omega) ⟨H,I.tok _,by rw[AQ r];exact q⟩
  ·subst e';obtain⟨hz,hS,vs,r,m⟩:kvs.length<=kg/\(p == amj)=false/\∃vs,KV kvs vs/\s.heap.DictOf (dF X.prog X.w) p vs:=I.hok p _ hx;have hlen:kvs.length=vs.length:=Paired.length r;exact wpAny_truthy_dict hS m (by omega) ⟨H,I.tok _,by rw[Jp r];exact q⟩
 |_=>exact(show False from e).elim
theorem rL (ha:PE X a ta)(he:∀whole,isTrue a X.env whole=(do let v <-whole;standAt a.pos;holding [v] (truthy v))) :
  PT X a (λσ H Q=>ta σ H λx H'=>∃k,aac X.K x H' k/\Q k H'):=by
 intro pins s σ H Q I h;exact isTrue_plain (thn (ha pins s σ H _ I h) λv s1 ⟨x,H1,I1,r1,q1⟩=>Vv pins s1 σ H1 x v Q I1 r1 q1) (he _)
theorem Jq:OpR X (binaryOp .Add) (λx y H Q=>∃i j,x=.str i/\y=.str j/\i.length+j.length<=kg/\Q (.str (i++j)) H):=by
 intro pins s σ H x y v u Q I rx ry h;obtain⟨i,j,rfl,rfl,hz,q⟩:=h;obtain⟨t,rfl⟩:=rx;obtain⟨t',rfl⟩:=ry;exact add_str (λt' tk=>⟨.str (i++j),H,I.tok _,⟨_,rfl⟩,q⟩) hz
theorem vals1 {x:V}{us:List Value}(r:Vals [x] us):∃u,us=[u]/\RelV x u:=by
 cases r with
 |cons r1 r2=>cases r2;exact⟨_,rfl,r1⟩
theorem vals2 {x y:V}{us:List Value}(r:Vals [x,y] us):∃u w',us=[u,w']/\RelV x u/\RelV y w':=by
 cases r with
 |cons r1 r2 =>
  cases r2 with
  |cons r3 r4=>cases r4;exact⟨_,_,rfl,r1,r3⟩
theorem pe (hc:X.calm=true):mD X (.builtin "max") (λxs H Q=>∃i j,xs=[.int i,.int j]/\Q (.int (if j > i then j else i)) H):=by
 intro pins s σ H xs us Q I r h;obtain⟨i,j,rfl,q⟩:=h;obtain⟨u,w',rfl,⟨t,rfl⟩,⟨t',rfl⟩⟩:=vals2 r;refine max_two_ints (I.ok.hd hc) λh' tk k=>⟨_,H,I.kept k,?_,q⟩
 by_cases hj:j > i
 ·rw[if_pos hj,if_pos hj];exact⟨_,rfl⟩
 ·rw[if_neg hj,if_neg hj];exact⟨_,rfl⟩
theorem Dg:mD X (.type "int") (λxs H Q=>(∃i,xs=[.int i]/\Q (.int i) H)\/∃k,xs=[.bl k]/\Q (.int (if k then 1 else 0)) H):=by
 intro pins s σ H xs us Q I r h;rcases h with ⟨i,rfl,q⟩ | ⟨k,rfl,q⟩
 ·obtain⟨u,rfl,t,rfl⟩:=vals1 r;exact call_int_int ⟨.int i,H,I,⟨_,rfl⟩,q⟩
 ·obtain⟨u,rfl,r1⟩:=vals1 r;cases r1;exact call_int_bool ⟨.int (if k then 1 else 0),H,I.tok _,⟨_,rfl⟩,q⟩
theorem vI:mD X (.type "str") (λxs H Q=>∃i,xs=[.int i]/\i.natAbs.log2 < 1920/\Q (.str (toString i)) H):=by
 intro pins s σ H xs us Q I r h;obtain⟨i,rfl,hz,q⟩:=h;obtain⟨u,rfl,t,rfl⟩:=vals1 r;exact PySem.P.str_of_int hz ⟨.str _,H,I.tok _,⟨_,rfl⟩,q⟩
end
structure Jr (h:Heap)(x dx C:Addr)(mA:Str->Option Value):Prop where
 obj:h.get? x=some (alF C dx)
 ns:h.Ns1 dx mA
 ne:dx≠x
theorem Dh {h:Heap}{dx:Addr}{mA:Str->Option Value}(n:h.Ns1 dx mA):∃od,h.get? dx=some od/\∀name,PySem.W.lookIn name od=some (mA name):=by
 obtain⟨o,es,ep,ho,hd,hk,_,hm⟩:=n;refine⟨o,ho,λname=>?_⟩
 have e:=hm name;unfold nsFind findBy at e;rw[<-Array.find?_toList]at e;unfold PySem.W.lookIn;rw[hd];dsimp only;split
 ·rename_i y q;rw[q]at e;exact congrArg some e
 ·rename_i q;rw[q]at e;have a:es.toList.any (·.refKey)=false:=by
   rw[List.any_eq_false];intro y hy;obtain⟨z,t,aik⟩:=hk y (Array.mem_toList_iff.mp hy);simp[DictEntry.refKey,aik]
  have a':¬es.toList.any (·.refKey)=true:=by rw[a];exact kr
  rw[if_neg a'];exact congrArg some e
theorem Jr.look {h:Heap}{x dx C:Addr}{mA:Str->Option Value}(I:Jr h x dx C mA):∃od,PySem.W.InstAt h x (alF C dx) C (some od)/\∀name,PySem.W.lookIn name od=some (mA name) :=
 let ⟨od,ho,hl⟩:=Dh I.ns
 ⟨od,⟨I.obj,rfl,rfl,ho⟩,hl⟩
section
variable{prog:rf}{w:World}{A:Around}{E:Value->Shared->Prop}{s:Shared}{K:ba}{x dx C f:Addr}{mA:Str->Option Value}{name:Str}{v:Value}
theorem get_map {expr:Bool}{Q:Value->Shared->Prop}(X:K.In s.heap)(I:Jr s.heap x dx C mA)(hg:alG K C name=true)(hh:alu K C=true)
  (ha:cb K (.ref C) name=some none) (hv:mA name=some v) (hv':PySem.W.handedIn v=true) (h:Q v { s with toks:=s.toks+1 }) :
  wpAny (model prog w) A (getAttr (.ref x) name expr) Q E s:=by
 obtain⟨od,J,hl⟩:=I.look;exact PySem.W.get_value X J (PySem.W.plainGet_of hg).1 (PySem.W.findObj_own hh ha rfl (by rw[hl,hv])) hv' h
theorem N8 {pl:Sem Bool}{Q:Value×List Value->Shared->Prop}(X:K.In s.heap)(I:Jr s.heap x dx C mA)(hg:alG K C name=true)
  (hf:cb K (.ref C) name=some (some (.ref f))) (ht:om K (.ref f)=true) (hv:mA name=none) (h:Q (.ref f,[.ref x]) s) :
  wpAny (model prog w) A (getMethod (.ref x) name pl) Q E s:=by
 obtain⟨od,J,hl⟩:=I.look;exact PySem.W.method_fn X J (PySem.W.plainGet_of hg).1 (PySem.W.plainGet_of hg).2 hf (beq_iff_eq.mp ht) (by show (PySem.W.lookIn name od).map (·.isSome)=some false;rw[hl,hv];rfl) h
theorem Rp {ns:List Str}{Q:Unit->Shared->Prop}(X:K.In s.heap)(I:Jr s.heap x dx C mA)
  (hs:cb K (.ref C) "__setattr__"=some (some (.builtin "object.__setattr__"))) (hp:alQ K C=true) (ht:PySem.W.takerIn K C name=some none) (hh:alu K C=true)
  (hw:PySem.Within mA ns) (hsz:ns.length<=kg)
  (h:∀h',Jr h' x dx C (λy=>if y=name then some v else mA y)->Heap.SameBut dx s.heap h'->Q () { s with heap:=h',toks:=s.toks+2 }) :
  wpAny (model prog w) A (setAttr (.ref x) name v) Q E s:=by
 obtain⟨od,J,hl⟩:=I.look;refine PySem.W.set_plain X J hs (PySem.W.osa_open (s:={ s with toks:=s.toks+1 }) (r:=none) X J hp ht λb=>?_)
 obtain⟨cd,hc,hd'⟩:=PySem.W.any_some hh;have hx:s.heap.get? x=some ⟨.ref C,some dx,.plain,#[]⟩:=I.obj;refine gn (wa (gn (gn (wpAny_loadPart hx (gn (PySem.W.Looks.here (s:={ s with toks:=s.toks+1 }) (PySem.W.looks_clsIn X hc) ?_))))))
 rw[hd'];refine wa (a:=some dx) (gn (wa (gn ?_)));refine wpAny_nsSet1 (s:={ s with toks:=s.toks+1 }) I.ns λh' hn2 hs2=>?_
 obtain⟨oD,esD,epD,hoD,hdD,hcD⟩:=hn2.count (PySem.Within.cons name v hw);refine gn (wpAny_lookBehind hoD (by rw[hdD];exact pastItsLine_dict (ak3 hcD (by rw[alb];omega))) ?_)
 exact wa (h _ ⟨(hs2.2 _ (alr I.ne)).trans I.obj,hn2,I.ne⟩ hs2)
theorem N9 {R:Result->Shared->Prop}{vs:List Value}{kw:List (Str×Value)}(X:K.In s.heap)(hm:alU K C=true)
  (hi:cb K (.ref C) "__init__"=some (some (.ref f))) (hf:PySem.W.typeIn K (.ref f)=some (.type "function"))
  (h:codeAny (model prog w) (A.under (.builtin "type.__call__" ⟨.ref C::vs,kw⟩)) (.call (.ref f) ⟨.ref (s.heap.objs.size+1)::vs,kw⟩) (PySem.W.InitBack (s.heap.objs.size+1) R)
   { s with heap:=(s.heap.push alz).push (alF C s.heap.objs.size) }) :
  codeAny (model prog w) A (.call (.ref C) ⟨vs,kw⟩) R s:=by
 obtain⟨hh,g,d,t,os⟩:=s;exact PySem.W.make_core (PySem.W.makes_of X hm) (amw X hi) (λself=>PySem.W.bind_fn X self hf) (.inl rfl) h
end
def gD (f:Str)(v:V):List (Str×V)->List (Str×V)
 |[]=>[(f,v)]
 | (g,x)::r=>if g=f then (g,v)::r else (g,x)::gD f v r
theorem yL (f g:Str)(v:V):∀fs:List (Str×V),(gD f v fs).lookup g=if g=f then some v else fs.lookup g
 |[]=>by
  show alR g [(f,v)]=_
  by_cases h:g=f
  ·have hb:(g == f)=true:=beq_iff_eq.mpr h;simp only[alR,hb,if_pos h]
  ·have hb:(g == f)=false:=beq_eq_false_iff_ne.mpr h;simp only[alR,hb,if_neg h]
 | (k,x)::r=>by
  have ih:=yL f g v r;rw[show gD f v ((k,x)::r)=(if k=f then (k,v)::r else (k,x)::gD f v r) from rfl]
  by_cases hk:k=f
  ·rw[if_pos hk]
   by_cases h:g=k
   ·have hb:(g == k)=true:=beq_iff_eq.mpr h;simp only[alR,hb,if_pos (h.trans hk)]
   ·have hb:(g == k)=false:=beq_eq_false_iff_ne.mpr h;simp only[alR,hb,if_neg (λe:g=f=>h (e.trans hk.symm))]
  ·rw[if_neg hk]
   by_cases h:g=k
   ·have hb:(g == k)=true:=beq_iff_eq.mpr h;simp only[alR,hb,if_neg (λe:g=f=>hk (h.symm.trans e))]
   ·have hb:(g == k)=false:=beq_eq_false_iff_ne.mpr h;simp only[alR,hb];exact ih
theorem xr (f:Str)(v:V):∀fs:List (Str×V),f∈(gD f v fs).map (·.1)/\∀g,g∈fs.map (·.1)->g∈(gD f v fs).map (·.1)
 |[]=>⟨by simp[gD],λg h=>by simp at h⟩
 | (k,x)::r=>by
  obtain⟨i1,i2⟩:=xr f v r;rw[show gD f v ((k,x)::r)=(if k=f then (k,v)::r else (k,x)::gD f v r) from rfl]
  by_cases hk:k=f
  ·rw[if_pos hk];subst hk;exact⟨by simp,λg h=>by simpa using h⟩
  ·rw[if_neg hk];refine⟨?_,λg h=>?_⟩
   ·rw[km];exact me _ i1
   ·rw[km]at h ⊢;rcases List.mem_cons.mp h with e | e
    ·exact List.mem_cons.mpr (.inl e)
    ·exact me _ (i2 g e)
theorem yM (f:Str)(v:V):∀fs:List (Str×V),(gD f v fs).length<=fs.length+1
 |[]=>by simp[gD]
 | (k,x)::r=>by
  have ih:=yM f v r;rw[show gD f v ((k,x)::r)=(if k=f then (k,v)::r else (k,x)::gD f v r) from rfl]
  by_cases hk:k=f
  ·rw[if_pos hk,alb,alb];omega
  ·rw[if_neg hk,alb,alb];omega
theorem o8.some_of {v:V}{o:Option Value}(r:o8 (some v) o):∃u,o=some u/\RelV v u:=by
 cases o with
 |none=>exact(show False from r).elim
 |some u=>exact⟨u,rfl,r⟩
theorem o8.none_of {o:Option Value}(r:o8 none o):o=none:=by
 cases o with
 |none=>rfl
 |some u=>exact(show False from r).elim
theorem MI {v:V}{u:Value}(r:RelV v u):PySem.W.handedIn u=true:=by
 cases v with
 |non=>cases (show u=amx from r);rfl
 |bl b=>cases (show u=Value.bool b from r);rfl
 |int i=>obtain⟨t,e⟩:=(show ∃t,u=Value.int i t from r);cases e;rfl
 |str x=>obtain⟨t,e⟩:=(show ∃t,u=Value.str x t from r);cases e;rfl
 |byt b=>obtain⟨t,e⟩:=(show ∃t,u=Value.bytes b t from r);cases e;rfl
 |flt b=>obtain⟨t,e⟩:=(show ∃t,u=Value.float b t from r);cases e;rfl
 |ref a=>cases (show u=alc a from r);rfl
 |ty n=>cases (show u=Value.type n from r);rfl
section
variable{P:rf}{w:World}{H H':Hp}{h h':Heap}{a C dx:Addr}{fs fs':List (Str×V)}
theorem Eo (hok:HOk P w H h)(e:H a=some (.ins C dx fs)):∃mA,Jr h a dx C mA/\(∀f,o8 (fs.lookup f) (mA f))/\PySem.Within mA (fs.map (·.1))/\fs.length<=1000/\H dx=some (.own a):=by
 obtain⟨d,z,ne,ob,mA,n,r,q⟩:=(show fE P w H h a (.ins C dx fs) from hok a _ e)
 exact⟨mA,⟨ob,n,ne⟩,r,q,z,d⟩
end
structure Cls (K:ba)(C:Addr):Prop where
 pg:alG K C alE=true
 hd:alu K C=true
 po:alQ K C=true
 sa:cb K (.ref C) "__setattr__"=some (some (.builtin "object.__setattr__"))
theorem Cls.get {K:ba}{C:Addr}(c:Cls K C)(f:Str):alG K C f=true:=c.pg
def d4 (K:ba)(C:Addr)(f:Str):Prop:=cb K (.ref C) f=some none
theorem d4.aad {K:ba}{C:Addr}{f:Str}(n:d4 K C f):PySem.W.takerIn K C f=some none:=by
 unfold PySem.W.takerIn;rw[show cb K (.ref C) f=some none from n]
 rfl
structure Con (K:ba)(C:Addr)(f:Str)(v:V)(u:Value):Prop where
 at_:cb K (.ref C) f=some (some u)
 rel:RelV v u
 get:PySem.W.specialIn K u "__get__"=some none
 cp:PySem.W.copiedNames.contains f=false
structure Meth (K:ba)(C:Addr)(m:Str)(f:Addr):Prop where
 at_:cb K (.ref C) m=some (some (.ref f))
 fn:om K (.ref f)=true
 kp:da K (.ref f)=true
section
variable{X:Cx}{pins:List (Addr×Obj)}{σ:St}{H:Hp}{s:Shared}{a C dx:Addr}{fs:List (Str×V)}{f:Str}{v:V}{A:Around}{E:Value->Shared->Prop}
theorem Js {b:Bool}{Q:Value->Shared->Prop}(I:Inv X pins σ H s)(e:H a=some (.ins C dx fs))(c:Cls X.K C)(n:d4 X.K C f)(l:fs.lookup f=some v)
  (h:∀u s',Inv X pins σ H s'->RelV v u->Q u s'):wpAny (model X.prog X.w) A (getAttr (.ref a) f b) Q E s:=by
 obtain⟨mA,O,r,_,_,_⟩:=Eo I.hok e;obtain⟨u,hu,ru⟩:=o8.some_of (v:=v) (o:=mA f) (by rw[<-l];exact r f)
 exact get_map I.kIn O (c.get f) c.hd n hu (MI ru) (h u _ (I.tok _) ru)
theorem jJ {m:Str}{g:Addr}{pl:Sem Bool}{Q:Value×List Value->Shared->Prop}(I:Inv X pins σ H s)(e:H a=some (.ins C dx fs))(c:Cls X.K C)(k:Meth X.K C m g)(l:fs.lookup m=none)
  (h:Q (.ref g,[.ref a]) s):wpAny (model X.prog X.w) A (getMethod (.ref a) m pl) Q E s:=by
 obtain⟨mA,O,r,_,_,_⟩:=Eo I.hok e;have hn:mA m=none:=o8.none_of (by rw[<-l];exact r m)
 exact N8 I.kIn O (c.get m) k.at_ k.fn hn h
theorem Jt {y:V}{u:Value}{Q:Unit->Shared->Prop}(I:Inv X pins σ H s)(e:H a=some (.ins C dx fs))(c:Cls X.K C)(n:d4 X.K C f)(hl:fs.length < 1000)(ry:RelV y u)
  (h:∀s',Inv X pins σ (upd H a (.ins C dx (gD f y fs))) s'->Q () s'):wpAny (model X.prog X.w) A (setAttr (.ref a) f u) Q E s:=by
 obtain⟨mA,O,r,wi,_,ho⟩:=Eo I.hok e;have hz:(fs.map (·.1)).length<=kg:=by rw[bo,sizeLine_eq];omega
 refine Rp I.kIn O c.sa c.po n.aad c.hd wi hz λh' O' sb=>h _ ?_
 have hd:∃o,h'.get? dx=some o:=let ⟨o,_,_,e',_⟩:=O'.ns;⟨o,e'⟩
 refine I.write (x:=a) (e:=dx) (by rw[e];exact amq) (.inr ho) (λb q hb z=>(sb.2 b hb).trans z) hd ?_
 refine⟨by rw[av O.ne];exact ho,?_,O.ne,O'.obj,_,O'.ns,λg=>?_,λg hg=>?_⟩
 ·have:=yM f y fs;omega
 ·show o8 ((gD f y fs).lookup g) (if g=f then some u else mA g)
  rw[yL]
  by_cases q:g=f
  ·rw[if_pos q,if_pos q];exact ry
  ·rw[if_neg q,if_neg q];exact r g
 ·by_cases q:g=f
  ·rw[q];exact(xr f y fs).1
  ·refine(xr f y fs).2 g (wi g λz=>hg ?_)
   show (if g=f then some u else mA g)=none
   rw[if_neg q];exact z
theorem Inv.made (I:Inv X pins σ H s):Inv X pins σ (upd (upd H s.heap.objs.size (.own (s.heap.objs.size+1))) (s.heap.objs.size+1) (.ins C s.heap.objs.size []))
  { s with heap:=(s.heap.push alz).push (alF C s.heap.objs.size) }:=by
 have e1:(s.heap.push alz).get? s.heap.objs.size=some alz:=alf s.heap rfl;have e2:((s.heap.push alz).push (alF C s.heap.objs.size)).get? (s.heap.objs.size+1)=some (alF C s.heap.objs.size):=by
  have:=alf (s.heap.push alz) (o:=alF C s.heap.objs.size) rfl
  rwa [amB]at this
 have e3:(s.heap.push alz).Ns s.heap.objs.size (λ_=>none):=⟨alz,#[],_,e1,rfl,(λe he=>absurd he (by simp)),λ_=>rfl⟩
 have I1:=I.laid (a:=s.heap.objs.size) (o:=.own (s.heap.objs.size+1)) (h':=s.heap.push alz) (t':=s.toks) (λb u q=>kf _ q) (kq _) ⟨_,e1⟩
 refine I1.laid (a:=s.heap.objs.size+1) (o:=.ins C s.heap.objs.size []) (t':=s.toks) (λb u q=>kf _ q) (Nat.le_of_eq (amB _ _)) ?_
 have ne:s.heap.objs.size≠s.heap.objs.size+1:=ale (Nat.lt_succ_self _);refine⟨by rw[av ne,ae],alX _,ne,e2,λ_=>none,(Heap.Ns1.of_empty e3).at λo q=>kf _ q,λ_=>amq,λy hy=>absurd rfl hy⟩
theorem LJ {prog:rf}{w:World}{env:Env}{e:Expr}{f:Str}{pos:Pos}{s:Shared}{Q:Value->Shared->Prop}(hb:attributeBase e f env (eval e env)=eval e env)
  (h:wpAny (model prog w) A (eval e env) (λo s₁=>wpAny (model prog w) A (getAttr o f true) Q E s₁) E s):wpAny (model prog w) A (eval (.Attribute e f pos) env) Q E s :=
 Attribute_any_ h (by rw[arm_eval_Attribute,hb])
end
def aae (K:ba)(ta:TE)(f:Str):TE:=λσ H Q=>ta σ H λx H1=>∃a C dx fs v,x=.ref a/\H1 a=some (.ins C dx fs)/\Cls K C/\d4 K C f/\fs.lookup f=some v/\Q v H1
def ail (K:ba)(ta tv:TE)(f:Str):TS:=λD σ H=>tv σ H λy H1=>ta σ H1 λx H2=>∃a C dx fs,x=.ref a/\H2 a=some (.ins C dx fs)/\Cls K C/\d4 K C f/\fs.length < 1000 /\
 D.nx σ (upd H2 a (.ins C dx (gD f y fs)))
section
variable{X:Cx}{o e value:Expr}{f:Str}{pos pos' aim:Pos}{ta tv:TE}
theorem br (he:PE X e ta)(hb:attributeBase e f X.env (eval e X.env)=eval e X.env):PE X (.Attribute e f pos) (aae X.K ta f):=by
 intro pins s σ H Q I h;refine LJ hb (thn (he pins s σ H _ I h) λu s1 ⟨x,H1,I1,rx,a,C,dx,fs,v,ex,ea,c,n,l,q⟩=>?_)
 subst ex;obtain rfl:u=alc a:=rx;exact Js I1 ea c n l λu' s2 I2 ru=>⟨v,H1,I2,ru,q⟩
theorem eP (ha:PE X o ta)(hv:PE X value tv)(hs:swapsWith value (some (.Attribute o f pos')) pos.line X.env=pure false):PS X (.Assign [.Attribute o f pos'] value pos) (ail X.K ta tv f):=by
 intro pins s σ H D I h;refine plainObj_wpAny_Assign_Attribute (thn (hv pins s σ H _ I h) λu s1 ⟨y,H1,I1,ry,q⟩=>thn (ha pins s1 σ H1 _ I1 q) λov s2 ⟨x,H2,I2,rx,a,C,dx,fs,ex,ea,c,n,l,q2⟩=>?_) hs
 subst ex;obtain rfl:ov=alc a:=rx;exact Jt I2 ea c n l ry λs3 I3=>⟨σ,_,I3,q2⟩
theorem TH {pl:Sem Bool}{m:Str}{apos:Pos}{args:List Expr}{pins:List (Addr×Obj)}{s:Shared}{σ:St}{H:Hp}{Q:Value->Shared->Prop}{te:TE}(he:PE X e te)(I:Inv X pins σ H s)
  (h:te σ H λx H1=>∃a C dx fs g,x=.ref a/\H1 a=some (.ins C dx fs)/\Cls X.K C/\Meth X.K C m g/\fs.lookup m=none /\
   ∀s1,Inv X pins σ H1 s1->wpAny (model X.prog X.w) X.A (callWith pos (.ref g) [.ref a] (backTo pos (ak8 args X.env)) (backToKw pos (keywordEach [] X.env))) Q X.xe s1)
  (ht:eval (.Call (.Attribute e m apos) args [] pos) X.env=(do
   let ov <-eval e X.env
   standAt apos.atName
   let (f,first) <-holding [ov] (getMethod ov m pl)
   callWith pos f first (backTo pos (ak8 args X.env)) (backToKw pos (keywordEach [] X.env)))) :
  wpAny (model X.prog X.w) X.A (eval (.Call (.Attribute e m apos) args [] pos) X.env) Q X.xe s:=by
 refine al2 (pl:=pl) (thn (he pins s σ H _ I h) λu s1 ⟨x,H1,I1,rx,a,C,dx,fs,g,ex,ea,c,k,l,q⟩=>?_) ht
 subst ex;obtain rfl:u=alc a:=rx;exact jJ I1 ea c k l (q s1 I1)
end
section
variable{X:Cx}{pins:List (Addr×Obj)}{σ:St}{H:Hp}{s:Shared}{A:Around}{E:Value->Shared->Prop}{Q:Value->Shared->Prop}{c:Value}{b:Bool}
inductive AR (K:ba)(H:Hp):V->Value->Prop where
 |non:AR K H .non (.type "NoneType")
 |bl (x:Bool):AR K H (.bl x) (.type "bool")
 |int (i:Int):AR K H (.int i) (.type "int")
 |str (x:Str):AR K H (.str x) (.type "str")
 |flt (x:UInt64):AR K H (.flt x) (.type "float")
 |lst {a:Addr} {xs:List V} (e:H a=some (.lst xs)):AR K H (.ref a) (.type "list")
 |frz {a:Addr} {o:Obj} {xs:List V} (e:H a=some (.frz o (.lst xs))):AR K H (.ref a) (.type "list")
 |tup {a:Addr} {xs:List V} (e:H a=some (.tup xs)):AR K H (.ref a) (.type "tuple")
 |dK {a:Addr} {kvs:List (Key×V)} (e:H a=some (.dK kvs)):AR K H (.ref a) (.type "dict")
 |dT {a:Addr} {kvs:List (List Key×V)} (e:H a=some (.dT kvs)):AR K H (.ref a) (.type "dict")
 |ins {a C dx:Addr} {fs:List (Str×V)} (e:H a=some (.ins C dx fs)) (cl:Cls K C) (ha:cb K (.ref C) "__class__"=some (some (.builtin "object.__class__")))
   (hn:PySem.W.specialIn K (.builtin "object.__class__") "__get__"=some (some (.builtin "getset_descriptor.__get__"))) (htk:PySem.W.takesIn K (.builtin "object.__class__")=some true)
   (hm:alV K C (.type "object")=some true):AR K H (.ref a) (.ref C)
end
structure Room (k:Nat)(A:Around):Prop where
 hd:A.handled=none
 dp:A.depth+3 * k+5 < recursionLimit
 un:A.units+16 * k+200 < cLine
 gd:A.guards=some []
theorem Room.mono {j k:Nat}{A:Around}(r:Room k A)(h:j<=k):Room j A:=⟨r.hd,by have:=r.dp;omega,by have:=r.un;omega,r.gd⟩
theorem Room.deeper {k:Nat}{A:Around}(r:Room (k+1) A)(env:Env):Room k (A.deeper env) :=
 ⟨r.hd,by have:=r.dp;show A.depth+1+3 * k+5 < _;omega,by have:=r.un;show A.units+3+16 * k+200 < _;omega,r.gd⟩
theorem Room.in1 {k:Nat}{A:Around}(r:Room (k+1) A):Room k A.in1 :=
 ⟨r.hd,by have:=r.dp;show A.depth+3 * k+5 < _;omega,by have:=r.un;show A.units+1+16 * k+200 < _;omega,r.gd⟩
theorem Ju {A:Around}{C:Addr}{us:List Value}{kw:List (Str×Value)}:(A.under (.builtin "type.__call__" ⟨.ref C::us,kw⟩)).depth=A.depth+1:=by
 first | rfl | simp[Around.under,Code.weight,Code.isCreation,Code.isGuard,Code.isCaller,Code.frames,Code.isFrame,guardIds]
theorem Jv {A:Around}{C:Addr}{us:List Value}{kw:List (Str×Value)}:(A.under (.builtin "type.__call__" ⟨.ref C::us,kw⟩)).units=A.units+1:=by
 first | rfl | simp[Around.under,Code.cUnits,Code.frames,Code.isFrame]
theorem Room.make {k:Nat}{A:Around}(r:Room (k+1) A)(C:Addr)(us:List Value)(kw:List (Str×Value)):Room k (A.under (.builtin "type.__call__" ⟨.ref C::us,kw⟩)) :=
 ⟨r.hd,by have:=r.dp;rw[Ju];omega,by have:=r.un;rw[Jv];omega,by
  have g:=r.gd
  first | exact g | simp[Around.under,Code.guards,Code.isGuard,guardIds,pushGuards,g]⟩
theorem Room.depth {k:Nat}{A:Around}(r:Room k A):A.depth < recursionLimit:=by have:=r.dp;omega
theorem Room.units {k:Nat}{A:Around}(r:Room k A):A.units+64 < cLine:=by have:=r.un;omega
def Vw:TA:=λ_ H Q=>Q [] H
def aaf (ta:TE)(tr:TA):TA:=λσ H Q=>ta σ H λx H1=>tr σ H1 λxs H2=>Q (x::xs) H2
section
variable{X:Cx}{e:Expr}{es:List Expr}{te:TE}{t:TA}{pos:Pos}
theorem ag:PA X [] Vw:=λ_ _ _ _ H Q I h=>Calls.spliced_nil ⟨[],H,I,.nil,h⟩
theorem aa (ha:PE X e te)(hr:PA X es t)(hs:ak8 (e::es) X.env=(false,eval e X.env)::ak8 es X.env:=by rfl):PA X (e::es) (aaf te t):=by
 intro pos pins s σ H Q I h;rw[hs];show wpAny _ _ (spliced ((false,eval e X.env)::backTo pos (ak8 es X.env))) _ _ s;refine Calls.spliced_cons (thn (ha pins s σ H _ I h) λu s1 ⟨x,H1,I1,r1,q1⟩=>?_)
 exact thn (hr pos pins s1 σ H1 _ I1 q1) λus s2 ⟨xs,H2,I2,r2,q2⟩=>⟨x::xs,H2,I2,.cons r1 r2,q2⟩
def ain (t:TA):TE:=λσ H Q=>t σ H λxs H1=>xs.length<=kg/\∀p,H1 p=none->Q (.ref p) (upd H1 p (.tup xs))
def aio (t:TA):TE:=λσ H Q=>t σ H λxs H1=>xs.length<=kg/\∀p,H1 p=none->Q (.ref p) (upd H1 p (.lst xs))
theorem bg {x1}(h:PA X es t):PE X (.Tuple es x1 pos) (ain t):=by
 intro pins s σ H Q I hq;refine wpAny_Tuple_spliced (thn (h pos pins s σ H _ I hq) λus s1 ⟨xs,H1,I1,r,z,q⟩=>⟨by rw[<-r.length];exact z,?_⟩)
 have hf:H1 s1.heap.objs.size=none:=I1.hok.fresh (kq _);refine⟨.ref s1.heap.objs.size,upd H1 s1.heap.objs.size (.tup xs),I1.laid (t':=s1.toks) (λb u e=>kf _ e) (kq _) ?_,rfl,q _ hf⟩
 exact⟨z,us,r,⟨_,alf _ rfl,rfl,_,rfl⟩⟩
theorem bS (h:PA X es t):PE X (.List es pos) (aio t):=by
 intro pins s σ H Q I hq;refine wpAny_List_spliced (thn (h pos pins s σ H _ I hq) λus s1 ⟨xs,H1,I1,r,z,q⟩=>⟨by rw[<-r.length];exact z,?_⟩)
 have hf:H1 s1.heap.objs.size=none:=I1.hok.fresh (kq _);refine⟨.ref s1.heap.objs.size,upd H1 s1.heap.objs.size (.lst xs),I1.laid (t':=s1.toks) (λb u e=>kf _ e) (kq _) ?_,rfl,q _ hf⟩
 exact⟨z,us,0,r,alf _ rfl⟩
end
abbrev Sp:=List V->Hp->VK->XK->Prop
abbrev CXT:=List Env->Hp->Shared->XK->Value->Shared->Prop
structure CJ (P:rf)(w:World)(K:ba)(mg:Str->Option Value)(base:Heap)(A:Around)(outer:List Env)(s:Shared)(H:Hp):Prop where
 frames:A.frames=some outer
 mod:Mod K mg base
 bs:∀b o,base.get? b=some o->s.heap.get? b=some o/\H b=none
 bsz:base.objs.size<=s.heap.objs.size
 uD:s.heap.FunFrames base outer
 frf:∀b∈frs outer,H b=none
 hok:HOk P w H s.heap
 bare:AllBare s.gens
def CE (outer:List Env)(P:rf)(w:World)(H:Hp)(s:Shared)(Q:VK)(u:Value)(s':Shared):Prop :=
 ∃v H',s'.os=s.os/\AllBare s'.gens/\Un (frs outer) [] H H' s.heap s'.heap/\HOk P w H' s'.heap/\RelV v u/\Q v H'
def CR (CX:CXT)(outer:List Env)(P:rf)(w:World)(H:Hp)(s:Shared)(Q:VK)(E:XK)(r:Result)(s':Shared):Prop :=
 match r with
 | .ok (.ret u)=>CE outer P w H s Q u s'
 | .ok _=>False
 | .error e=>CX outer H s E e s'
structure a8 (P:rf)(w:World)(K:ba)(mg:Str->Option Value)(base:Heap)(CX:CXT)(k:Nat)(f:Addr)(fd:kj)(ps:List Str)(sp:Sp):Prop where
 len:∀vs H Q E,sp vs H Q E->vs.length=ps.length
 run:∀(A:Around) (outer:List Env) (s:Shared) (H:Hp) (args:Args) (us:List Value) (vs:List V) (Q:VK) (E:XK),Room k A->CJ P w K mg base A outer s H->BindsTo s fd args (ps.zip us)->Vals vs us->sp vs H Q E ->
  codeAny (model P w) A (.call (.ref f) args) (CR CX outer P w H s Q E) s
theorem a8.mono {P:rf}{w:World}{K:ba}{mg:Str->Option Value}{base:Heap}{CX:CXT}{j k:Nat}{f:Addr}{fd:kj}{ps:List Str}{sp:Sp}(F:a8 P w K mg base CX j f fd ps sp)(h:j<=k) :
  a8 P w K mg base CX k f fd ps sp:=⟨F.len,λA outer s H args us vs Q E hr=>F.run A outer s H args us vs Q E (hr.mono h)⟩
theorem a8.imp {P:rf}{w:World}{K:ba}{mg:Str->Option Value}{base:Heap}{CX:CXT}{k:Nat}{f:Addr}{fd:kj}{ps:List Str}{sp sp':Sp}(F:a8 P w K mg base CX k f fd ps sp)
  (h:∀vs H Q E,sp' vs H Q E->sp vs H Q E):a8 P w K mg base CX k f fd ps sp' :=
 ⟨λvs H Q E q=>F.len vs H Q E (h _ _ _ _ q),λA outer s H args us vs Q E hr he hb hv hs=>F.run A outer s H args us vs Q E hr he hb hv (h _ _ _ _ hs)⟩
theorem CJ.make {P:rf}{w:World}{K:ba}{mg:Str->Option Value}{base:Heap}{A:Around}{outer:List Env}{s:Shared}{H:Hp}(e:CJ P w K mg base A outer s H)(C:Addr)(us:List Value)(kw:List (Str×Value)) :
  CJ P w K mg base (A.under (.builtin "type.__call__" ⟨.ref C::us,kw⟩)) outer s H:=⟨by first | exact e.frames | (simpa [Around.under,Code.envs,Code.isFrame,pushEnvs] using e.frames),e.mod,e.bs,e.bsz,e.uD,e.frf,e.hok,e.bare⟩
theorem CJ.in1 {P:rf}{w:World}{K:ba}{mg:Str->Option Value}{base:Heap}{A:Around}{outer:List Env}{s:Shared}{H:Hp}(e:CJ P w K mg base A outer s H) :
  CJ P w K mg base A.in1 outer s H:=⟨e.frames,e.mod,e.bs,e.bsz,e.uD,e.frf,e.hok,e.bare⟩
section
variable{X:Cx}{pins:List (Addr×Obj)}{σ:St}{H:Hp}{s s':Shared}
theorem Inv.Rq (I:Inv X pins σ H s):CJ X.prog X.w X.K X.mg X.base X.A X.stack s H :=
 ⟨I.ok.frames,I.ok.mod,I.bs,ak3 I.ok.bsz I.sz,I.stack,I.El,I.hok,I.bare⟩
theorem Inv.after {Q:VK}{u:Value}(I:Inv X pins σ H s)(h:CE X.stack X.prog X.w H s Q u s'):EP X pins σ Q u s':=by
 obtain⟨v,H',os,bare,un,hok,r,q⟩:=h;obtain⟨hh,g,d,t,os'⟩:=s';obtain rfl:os'=s.os:=os;exact⟨v,H',I.call (h':=hh) (g':=g) (d':=d) (t':=t) (ch:=[]) un hok bare (λb z=>absurd z (by simp)),r,q⟩
end
def TK (sp:Sp)(dvs:List V)(E:XK)(t:TA):TE:=λσ H Q=>t σ H λvs H1=>sp (vs++dvs) H1 Q E
def TL (C:Addr)(m:Str)(sp:Sp)(dvs:List V)(E:XK)(ta:TE)(t:TA):TE:=λσ H Q=>ta σ H λx H1=>∃a dx fs,x=.ref a/\H1 a=some (.ins C dx fs)/\fs.lookup m=none /\
 t σ H1 λvs H2=>sp (x::(vs++dvs)) H2 Q E
def aag (C:Addr)(sp:Sp)(dvs:List V)(E:XK)(t:TA):TE:=λσ H Q=>t σ H λvs H1=>∀x dx,H1 x=none->H1 dx=none->dx≠x ->
 sp (.ref x::(vs++dvs)) (upd (upd H1 dx (.own x)) x (.ins C dx [])) (λv H2=>v=.non/\Q (.ref x) H2) E
def Binds (K:ba)(fd:kj)(ps:List Str)(ds:List Value):Prop :=
 ∀(s:Shared) (us:List Value),K.In s.heap->(us++ds).length=ps.length->BindsTo s fd ⟨us,[]⟩ (ps.zip (us++ds))
theorem Binds.all {K:ba}{fd:kj}{ps:List Str}(h:∀us:List Value,us.length=ps.length->bindArgs fd ⟨us,[]⟩=pure (ps.zip us)):Binds K fd ps []:=λs us _ hl=>by
 rw[ama]at hl ⊢;exact .of_eq (h us hl)
def Passes (CX:CXT)(X:Cx)(E:XK):Prop:=∀(pins:List (Addr×Obj)) (σ:St) (H:Hp) (s:Shared) (e:Value) (s':Shared),Inv X pins σ H s->CX X.stack H s E e s'->X.xe e s'
section
variable{X:Cx}{CX:CXT}{k:Nat}{f C:Addr}{fd:kj}{ps:List Str}{sp:Sp}{dvs:List V}{ds:List Value}{E:XK}{x m:Str}{p pos apos:Pos}{e o:Expr}{es:List Expr}{ta:TE}{t:TA}
theorem AS {pins:List (Addr×Obj)}{σ:St}{H:Hp}{s:Shared}{Q:VK}{us:List Value}{vs:List V}(F:a8 X.prog X.w X.K X.mg X.base CX k f fd ps sp)(hr:Room k X.A)(hb:Binds X.K fd ps ds)(hd:Vals dvs ds)(hx:Passes CX X E)
  (I:Inv X pins σ H s) (r:Vals vs us) (h:sp (vs++dvs) H Q E):wpAny (model X.prog X.w) X.A (call (.ref f) us) (EP X pins σ Q) X.xe s:=by
 have r2:Vals (vs++dvs) (us++ds):=r.append hd;have hl:(us++ds).length=ps.length:=by rw[<-r2.length];exact F.len _ _ _ _ h
 refine wpAny_call (codeAny_mono (F.run X.A X.stack s H ⟨us,[]⟩ (us++ds) (vs++dvs) Q E hr I.Rq (hb s us I.kIn hl) r2 h) λr s' hq=>?_)
 cases r with
 |error e=>exact hx pins σ H s e s' I hq
 |ok fl =>
  cases fl with
  |ret u=>exact I.after hq
  |next=>exact als hq
  |brk=>exact als hq
  |cont=>exact als hq
theorem aV (F:a8 X.prog X.w X.K X.mg X.base CX k f fd ps sp)(hr:Room k X.A)(hg:Gl X x)(hm:X.mg x=some (.ref f))(hk:da X.K (.ref f)=true)(hb:Binds X.K fd ps ds)(hd:Vals dvs ds)(hx:Passes CX X E)
  (ha:PA X (e::es) t) (hdb:(x == ("__debug__":Str))=false:=by decide) (he:ak8 (e::es) X.env=(false,eval e X.env)::ak8 es X.env:=by rfl) (hpl:(backTo pos (ak8 es X.env)).any (·.1)=false:=by rfl) :
  PE X (.Call (.Name x p) (e::es) [] pos) (TK sp dvs E t):=by
 intro pins s σ H Q I h;refine wpAny_Call_Name_kw (jb I hg hm ?_ hdb);refine amD (h₀:=X.base) I.ok.mod.kin hk (thn (ha pos pins s σ H _ I h) λus s1 ⟨vs,H1,I1,r,q⟩=>⟨I1.kIn,?_⟩) he hpl
 exact AS F hr hb hd hx I1 r q
theorem Oa (F:a8 X.prog X.w X.K X.mg X.base CX k f fd ps sp)(hr:Room k X.A)(hg:Gl X x)(hm:X.mg x=some (.ref f))(hk:da X.K (.ref f)=true)(hb:Binds X.K fd ps ds)(hd:Vals dvs ds)(hx:Passes CX X E)
  (hdb:(x == ("__debug__":Str))=false:=by decide):PE X (.Call (.Name x p) [] [] pos) (TK sp dvs E Vw):=by
 intro pins s σ H Q I h;refine wpAny_Call_Name_kw (jb I hg hm ?_ hdb);exact amA I.kIn hk (AS (us:=[]) F hr hb hd hx I .nil h)
theorem iE {pl:Sem Bool}(he:PE X o ta)(c:Cls X.K C)(hm:Meth X.K C m f)(F:a8 X.prog X.w X.K X.mg X.base CX k f fd ps sp)(hr:Room k X.A)(hb:Binds X.K fd ps ds)(hd:Vals dvs ds)(hx:Passes CX X E)(ha:PA X (e::es) t)
  (hst:ak8 (e::es) X.env=(false,eval e X.env)::ak8 es X.env:=by rfl) (hpl:(backTo pos (ak8 es X.env)).any (·.1)=false:=by rfl)
  (ht:eval (.Call (.Attribute o m apos) (e::es) [] pos) X.env=(do
   let ov <-eval o X.env
   standAt apos.atName
   let (f,first) <-holding [ov] (getMethod ov m pl)
   callWith pos f first (backTo pos (ak8 (e::es) X.env)) (backToKw pos (keywordEach [] X.env))):=by rfl) :
  PE X (.Call (.Attribute o m apos) (e::es) [] pos) (TL C m sp dvs E ta t):=by
 intro pins s σ H Q I h;refine al2 (pl:=pl) (thn (he pins s σ H _ I h) λu s1 ⟨x,H1,I1,rx,a,dx,fs,ex,ea,l,q⟩=>?_) ht
 subst ex;obtain rfl:u=alc a:=rx;refine jJ I1 ea c hm l ?_;refine amD (first:=[.ref a]) (h₀:=X.base) I.ok.mod.kin hm.kp (thn (ha pos pins s1 σ H1 _ I1 q) λus s2 ⟨vs,H2,I2,r,q2⟩=>⟨I2.kIn,?_⟩) hst hpl
 exact AS (us:=.ref a::us) (vs:=.ref a::vs) F hr hb hd hx I2 (.cons rfl r) q2
theorem d5 {pl:Sem Bool}(he:PE X o ta)(c:Cls X.K C)(hm:Meth X.K C m f)(F:a8 X.prog X.w X.K X.mg X.base CX k f fd ps sp)(hr:Room k X.A)(hb:Binds X.K fd ps ds)(hd:Vals dvs ds)(hx:Passes CX X E)
  (ht:eval (.Call (.Attribute o m apos) [] [] pos) X.env=(do
   let ov <-eval o X.env
   standAt apos.atName
   let (f,first) <-holding [ov] (getMethod ov m pl)
   callWith pos f first (backTo pos (ak8 [] X.env)) (backToKw pos (keywordEach [] X.env))):=by rfl) :
  PE X (.Call (.Attribute o m apos) [] [] pos) (TL C m sp dvs E ta Vw):=by
 intro pins s σ H Q I h;refine al2 (pl:=pl) (thn (he pins s σ H _ I h) λu s1 ⟨x,H1,I1,rx,a,dx,fs,ex,ea,l,q⟩=>?_) ht
 subst ex;obtain rfl:u=alc a:=rx;refine jJ I1 ea c hm l ?_;exact amA (first:=[.ref a]) I1.kIn hm.kp (AS (us:=[.ref a]) (vs:=[.ref a]) F hr hb hd hx I1 (.cons rfl .nil) q)
structure Mk (K:ba)(C f:Addr):Prop where
 makes:alU K C=true
 init:cb K (.ref C) "__init__"=some (some (.ref f))
 fn:om K (.ref f)=true
 kp:da K (.ref C)=true
theorem Ob {pins:List (Addr×Obj)}{σ:St}{H:Hp}{s:Shared}{Q:VK}{us:List Value}{vs:List V}(M:Mk X.K C f)(F:a8 X.prog X.w X.K X.mg X.base CX k f fd ps sp)(hr:Room (k+1) X.A)(hb:Binds X.K fd ps ds)(hd:Vals dvs ds)
  (hx:Passes CX X E) (I:Inv X pins σ H s) (r:Vals vs us)
  (h:∀x dx,H x=none->H dx=none->dx≠x->sp (.ref x::(vs++dvs)) (upd (upd H dx (.own x)) x (.ins C dx [])) (λv H2=>v=.non/\Q (.ref x) H2) E) :
  wpAny (model X.prog X.w) X.A (call (.ref C) us) (EP X pins σ Q) X.xe s:=by
 have hq:=h (s.heap.objs.size+1) s.heap.objs.size (I.hok.fresh (al1 _)) (I.hok.fresh (kq _)) (ale (Nat.lt_succ_self _));have I2:=Inv.made (C:=C) I;have r2:Vals (V.ref (s.heap.objs.size+1)::(vs++dvs)) (alc (s.heap.objs.size+1)::(us++ds)):=.cons rfl (r.append hd);have hl:(alc (s.heap.objs.size+1)::us++ds).length=ps.length:=by
  have e:=r2.length;rw[F.len _ _ _ _ hq]at e;exact e.symm
 refine wpAny_call (N9 (f:=f) I.kIn M.makes M.init (beq_iff_eq.mp M.fn) (codeAny_mono (F.run _ X.stack _ _ ⟨alc (s.heap.objs.size+1)::us,[]⟩ (alc (s.heap.objs.size+1)::(us++ds)) _ _ E (hr.make C us [])
  (I2.Rq.make C us []) (hb _ (alc (s.heap.objs.size+1)::us) I2.kIn hl) r2 hq) λr s' hq'=>?_))
 cases r with
 |error e=>exact hx pins σ _ _ e s' I2 hq'
 |ok fl =>
  cases fl with
  |ret u =>
   obtain⟨v,H',I3,rv,ev,q3⟩:=I2.after hq';subst ev;exact⟨rv,⟨V.ref (s.heap.objs.size+1),H',I3,rfl,q3⟩⟩
  |next=>exact als hq'
  |brk=>exact als hq'
  |cont=>exact als hq'
theorem gB (M:Mk X.K C f)(F:a8 X.prog X.w X.K X.mg X.base CX k f fd ps sp)(hr:Room (k+1) X.A)(hg:Gl X x)(hm:X.mg x=some (.ref C))(hb:Binds X.K fd ps ds)(hd:Vals dvs ds)(hx:Passes CX X E)
  (ha:PA X (e::es) t) (hdb:(x == ("__debug__":Str))=false:=by decide) (he:ak8 (e::es) X.env=(false,eval e X.env)::ak8 es X.env:=by rfl) (hpl:(backTo pos (ak8 es X.env)).any (·.1)=false:=by rfl) :
  PE X (.Call (.Name x p) (e::es) [] pos) (aag C sp dvs E t):=by
 intro pins s σ H Q I h;refine wpAny_Call_Name_kw (jb I hg hm ?_ hdb);refine amD (h₀:=X.base) I.ok.mod.kin M.kp (thn (ha pos pins s σ H _ I h) λus s1 ⟨vs,H1,I1,r,q⟩=>⟨I1.kIn,?_⟩) he hpl
 exact Ob M F hr hb hd hx I1 r q
end
section
variable{X:Cx}{CX:CXT}{k:Nat}{f C:Addr}{fd:kj}{ps ks:List Str}{sp:Sp}{E:XK}{x m:Str}{p pos apos akL:Pos}{e o:Expr}{es:List Expr}{kws:List Keyword}{te ta:TE}{t tk:TA}{nm:Option Str}
structure aip (K:ba)(fd:kj)(ps ks:List Str)(g:List Value->List Value->List Value)(gV:List V->List V->List V):Prop where
 to:∀(s:Shared) (us ws:List Value),K.In s.heap->(g us ws).length=ps.length->BindsTo s fd ⟨us,ks.zip ws⟩ (ps.zip (g us ws))
 rel:∀ {vs:List V} {us:List Value} {zs:List V} {ws:List Value},Vals vs us->Vals zs ws->Vals (gV vs zs) (g us ws)
variable{g:List Value->List Value->List Value}{gV:List V->List V->List V}
end
structure aQ (N P:List Str)(sc:Scope):Prop where
 kind:sc.kind=.function
 co:sc.isCoroutine=false
 gen:sc.isGenerator=false
 nd:N.Nodup
 pre:N.take P.length=P
 par:∀x∈P,sc.names.lookup x=some .local\/sc.names.lookup x=some .cell
 Vx:∀y∈sc.names,y.2≠.free
theorem Di {kindOf:Str->Option NameKind}{x:Str}:∀ {binds:List (Str×Value)} {m:Str->Option Value},(∀v,(x,v)∉binds)->bindL kindOf binds m x=m x
 |[],_,_=>rfl
 | (n,v)::r,m,h=>by
  unfold bindL;rw[Di λw hw=>h w (me _ hw)]
  split
  ·have:x≠n:=by rintro rfl;exact h v gr
   simp[this]
  ·rfl
theorem Dj {kindOf:Str->Option NameKind}{x:Str}:∀ {binds:List (Str×Value)} {m:Str->Option Value},(∀v,(x,v)∉binds)->bindC kindOf binds m x=m x
 |[],_,_=>rfl
 | (n,v)::r,m,h=>by
  unfold bindC;rw[Dj λw hw=>h w (me _ hw)]
  split
  ·rfl
  ·have:x≠n:=by rintro rfl;exact h v gr
   simp[this]
theorem Dk {kindOf:Str->Option NameKind}{x:Str}{v:Value}:∀ {P:List Str} {vs:List Value} {i:Nat} {m:Str->Option Value},P.Nodup->P[i]?=some x->vs[i]?=some v->kindOf x=some .local ->
  bindL kindOf (P.zip vs) m x=some v
 |[],_,_,_,_,h,_,_=>by simp at h
 |_::_,[],_,_,_,_,h,_=>by simp at h
 |p::P,w::vs,0,m,nd,h1,h2,hk=>by
  simp at h1 h2;subst h1;subst h2;show bindL kindOf ((p,w)::P.zip vs) m p=_;unfold bindL;rw[Di λv hv=>(List.nodup_cons.mp nd).1 (List.of_mem_zip hv).1,if_pos hk]
  simp
 |p::P,w::vs,i+1,m,nd,h1,h2,hk=>by
  show bindL kindOf ((p,w)::P.zip vs) m x=_;unfold bindL;exact Dk (i:=i) (List.nodup_cons.mp nd).2 (by simpa using h1) (by simpa using h2) hk
theorem Dl {kindOf:Str->Option NameKind}{x:Str}{v:Value}:∀ {P:List Str} {vs:List Value} {i:Nat} {m:Str->Option Value},P.Nodup->P[i]?=some x->vs[i]?=some v->kindOf x≠some .local ->
  bindC kindOf (P.zip vs) m x=some v
 |[],_,_,_,_,h,_,_=>by simp at h
 |_::_,[],_,_,_,_,h,_=>by simp at h
 |p::P,w::vs,0,m,nd,h1,h2,hk=>by
  simp at h1 h2;subst h1;subst h2;show bindC kindOf ((p,w)::P.zip vs) m p=_;unfold bindC;rw[Dj λv hv=>(List.nodup_cons.mp nd).1 (List.of_mem_zip hv).1,if_neg hk]
  simp
 |p::P,w::vs,i+1,m,nd,h1,h2,hk=>by
  show bindC kindOf ((p,w)::P.zip vs) m x=_;unfold bindC;exact Dl (i:=i) (List.nodup_cons.mp nd).2 (by simpa using h1) (by simpa using h2) hk
def start (N:List Str)(vs:List V):St:=vs.map some++List.replicate (N.length - vs.length) none
def bF (CX:CXT)(P:rf)(w:World)(K:ba)(mg:Str->Option Value)(base:Heap)(N:List Str)(qual:Str)(scope:Scope)(f:Addr)(cd:Value)(A:Around)(outer:List Env)(s:Shared)(H:Hp)(E:XK):Cx where
 prog:=P
 w:=w
 K:=K
 mg:=mg
 base:=base
 A:=A.deeper (envOfC qual scope s.heap.objs.size f cd)
 N:=N
 s₀:=s
 H₀:=H
 env:=envOfC qual scope s.heap.objs.size f cd
 outer:=outer
 stack:=envOfC qual scope s.heap.objs.size f cd::outer
 ex:=[]
 calm:=true
 fn:=λ_=>true
 pn:=[]
 xe:=λe s'=>wpAny (model P w) (A.deeper (envOfC qual scope s.heap.objs.size f cd)) (leaving (envOfC qual scope s.heap.objs.size f cd) e) (λ_ s''=>CX outer H s E e s'') (λe' s''=>CX outer H s E e' s'') s'
theorem FP {sc:Scope}{n:Nat}{x:Str}(h:sc.names.lookup x=some .cell):∃c,(cellsFrom n sc.names []).lookup x=some c:=by
 have q:=PySem.W.cellsFrom_some sc.names n [] (.inl h);exact Option.isSome_iff_exists.mp q
theorem MJ {CX:CXT}{P:rf}{w:World}{K:ba}{mg:Str->Option Value}{base:Heap}{N ps:List Str}{qual:Str}{scope:Scope}{f:Addr}{cd:Value}{A:Around}{outer:List Env}{s s1:Shared}{H:Hp}{E:XK}{us:List Value}{vs:List V}
  (S:aQ N ps scope) (hd:A.handled=none) (e0:CJ P w K mg base A outer s H) (hl:vs.length=ps.length) (r:Vals vs us)
  (x:InCallC s s.heap.objs.size (bindL (envOfC qual scope s.heap.objs.size f cd).kindOf (ps.zip us) λ_=>none) (cellsFrom (s.heap.objs.size+1) scope.names []) (bindC (envOfC qual scope s.heap.objs.size f cd).kindOf (ps.zip us) λ_=>none) s1) :
  Inv (bF CX P w K mg base N qual scope f cd A outer s H E) [] (start N vs) H s1:=by
 have hpl:ps.length<=N.length:=by have:=congrArg List.length S.pre;rw[alD]at this;omega
 obtain⟨h1,tk,rfl,hk⟩:=x.done;have noA:∀b:Addr,b∉(bF CX P w K mg base N qual scope f cd A outer s H E).ex:=λb z=>absurd (show b∈([]:List Addr) from z) (by simp)
 refine⟨⟨e0.mod,S.kind,rfl,rfl,kq _,λy z c h1 h2=>?_,λy hy=>?_,λy c _ h=>?_,λ_=>hd,Around.frames_deeper e0.frames,.inr ⟨rfl,rfl⟩,λb z=>absurd z (noA b),e0.bs,e0.bsz,λb _ _=>noA b,λb z=>absurd z (noA b),e0.uD,e0.frf⟩,
  rfl,e0.bare,Un.kept hk,⟨_,x.toInCall.ns,λi y v h1 h2 h3=>?_⟩,λy c h=>⟨_,x.cell y c h⟩,e0.hok.fresh (kq _),λy c h=>?_,λp hp=>absurd (show p∈([]:List (Addr×Obj)) from hp) (by simp),e0.hok.kept hk,?_⟩
 ·exact name_of_addr x.apart (al9 h1) (al9 h2)
 ·have hy:scope.names.lookup y=some .cell\/scope.names.lookup y=some .free:=hy;rcases hy with hy | hy
  ·exact FP hy
  ·exact absurd rfl (S.Vx _ (al9 hy))
 ·exact Nat.le_of_lt (x.above y c (al9 h))
 ·have hi:i < vs.length:=by
   unfold start at h2
   by_cases hi:i < vs.length
   ·exact hi
   ·rw[amr (by simpa using hi)]at h2
    rw[List.getElem?_replicate]at h2;split at h2 <;> cases h2
  have ha:vs[i]?=some v:=by
   unfold start at h2;rw[List.getElem?_append_left (by simpa using hi),aln]at h2
   cases e:vs[i]? with
   |none=>rw[e]at h2;cases h2
   |some a=>rw[e]at h2;cases h2;rfl
  obtain⟨u,hu,rv⟩:=r.get ha;have hp:ps[i]?=some y:=by
   rw[<-S.pre,List.getElem?_take_of_lt (by omega)];exact h1
  have ndP:ps.Nodup:=by rw[<-S.pre];exact S.nd.sublist (List.take_sublist _ _)
  refine⟨u,rv,?_⟩;rcases S.par y (alw hp) with k | k
  ·exact .inl ⟨k,Dk ndP hp hu k⟩
  ·obtain⟨c,e⟩:=FP (n:=s.heap.objs.size+1) k;refine .inr ⟨.inl k,c,e,?_⟩;have q:=x.cell y c e;rw[Dl ndP hp hu (by show scope.names.lookup y≠_;rw[k];decide)]at q
   exact q
 ·exact e0.hok.fresh (Nat.le_of_lt (x.above y c (al9 h)))
 ·unfold start;show _=N.length;rw[ma,bo,List.length_replicate];omega
theorem TM {CX:CXT}{P:rf}{w:World}{K:ba}{mg:Str->Option Value}{base:Heap}{k:Nat}{f:Addr}{name qual:Str}{params:Arguments}{body:List Stmt}{scope:Scope}{dV kV doc pm cdv ct oc:Value}{an od:Option Addr}
  {osl:Array (Option Value)} {N ps:List Str} {sp:Sp} (lk:K.lookup f=some ⟨oc,od,.func (fu name qual params body scope dV kV doc pm an cdv ct),osl⟩) (hcd:de K cdv qual=true) (S:aQ N ps scope)
  (len:∀vs H Q E,sp vs H Q E->vs.length=ps.length)
  (FQ:∀(A:Around) (outer:List Env) (s:Shared) (H:Hp) (vs:List V) (Q:VK) (E:XK),Room k (A.deeper (envOfC qual scope s.heap.objs.size f cdv))->sp vs H Q E ->
   ∃t,PSs (bF CX P w K mg base N qual scope f cdv A outer s H E) body t/\t { nx:=λ_ H'=>Q .non H',rt:=Q } (start N vs) H) :
  a8 P w K mg base CX (k+1) f (fu name qual params body scope dV kV doc pm an cdv ct) ps sp:=by
 refine⟨len,λA outer s H args us vs Q E hr e0 hb r hsp=>?_⟩
 have hl:=len _ _ _ _ hsp;have KX:K.In s.heap:=e0.mod.kin.keeps λb o e=>(e0.bs b o e).1
 have lim:s.heap.NoLimit:=e0.mod.nolimit.keeps λb o e=>(e0.bs b o e).1
 have aah:∀y∈ps.zip us,scope.names.lookup y.1=some .local\/(scope.names.lookup y.1=some .cell/\((cellsFrom (s.heap.objs.size+1) scope.names []).lookup y.1).isSome=true):=λ⟨n,v⟩ hy=>by
  rcases S.par n (List.of_mem_zip hy).1 with q | q
  ·exact .inl q
  ·exact .inr ⟨q,PySem.W.cellsFrom_some _ _ _ (.inl q)⟩
 refine codeAny_call_function hr.depth (KX _ _ lk) rfl S.co S.gen rfl (PySem.W.codeRec_of KX hcd) (hb _ _ _ _ ?_);refine wpAny_newFunctionEnv_cells S.kind aah λenv he s1 x=>?_
 subst he;refine⟨lim.keeps x.toInCall.keep,codeAny_func ?_⟩;obtain⟨t,ht,hq⟩:=FQ A outer s H vs Q E (hr.deeper _) hsp;have I:Inv (bF CX P w K mg base N qual scope f cdv A outer s H E) [] (start N vs) H s1:=MJ S hr.hd e0 hl r x;refine alg (ht [] s1 (start N vs) H _ I hq) (λfl s' hs=>?_) λe s' hs=>hs
 have fin:∀ {σ':St} {H':Hp} {v:V} {u:Value},Inv (bF CX P w K mg base N qual scope f cdv A outer s H E) [] σ' H' s'->RelV v u->Q v H'->CE outer P w H s Q u s' :=
  λ{σ' H' v u} J rv q=>⟨v,H',J.os,J.bare,J.base,J.hok,rv,q⟩
 cases fl with
 |ret u =>
  obtain⟨v,σ',H',J,rv,q⟩:=hs;exact fin J rv q
 |next =>
  obtain⟨σ',H',J,q⟩:=hs;exact fin (v:=V.non) (u:=amx) J rfl q
 |brk =>
  obtain⟨_,_,_,q⟩:=hs;exact als q
 |cont =>
  obtain⟨_,_,_,q⟩:=hs;exact als q
section
variable{X:Cx}{x:Str}{p pos:Pos}{e:Expr}{es:List Expr}{t:TA}{id T:String}{r:List V->Hp->VK->Prop}
def tCB (r:List V->Hp->VK->Prop)(t:TA):TE:=λσ H Q=>t σ H λvs H1=>r vs H1 Q
theorem cA (hc:mD X (.builtin id) r)(hg:Gl X x)(hm:X.mg x=none)(hv:al8 x=some (.builtin id))(ha:PA X (e::es) t)(hn:x≠"__name__":=by decide)(hdb:(x == ("__debug__":Str))=false:=by decide)
  (he:ak8 (e::es) X.env=(false,eval e X.env)::ak8 es X.env:=by rfl) (hpl:(backTo pos (ak8 es X.env)).any (·.1)=false:=by rfl):PE X (.Call (.Name x p) (e::es) [] pos) (tCB r t):=by
 intro pins s σ H Q I h;refine wpAny_Call_Name_kw (Jk I hg hm hv ?_ hn hdb);exact PyProof.Rows.callWith_builtin1 (thn (ha pos pins s σ H _ I h) λus s1 ⟨vs,H1,I1,r1,q1⟩=>hc pins s1 σ H1 vs us Q I1 r1 q1) he hpl
theorem eQ (hc:mD X (.type T) r)(hg:Gl X x)(hm:X.mg x=none)(hv:al8 x=some (.type T))(ha:PA X (e::es) t)(hn:x≠"__name__":=by decide)(hdb:(x == ("__debug__":Str))=false:=by decide)
  (he:ak8 (e::es) X.env=(false,eval e X.env)::ak8 es X.env:=by rfl) (hpl:(backTo pos (ak8 es X.env)).any (·.1)=false:=by rfl):PE X (.Call (.Name x p) (e::es) [] pos) (tCB r t):=by
 intro pins s σ H Q I h;refine wpAny_Call_Name_kw (Jk I hg hm hv ?_ hn hdb);exact PyProof.Rows.callWith_type1 (thn (ha pos pins s σ H _ I h) λus s1 ⟨vs,H1,I1,r1,q1⟩=>hc pins s1 σ H1 vs us Q I1 r1 q1) he hpl
end
end L2
namespace HT
open PySem PyProof.Rows
section
open PySem.SeqAt
open PySem.AutoSeq1 (wpAny_loadPart')
open PySem.MeetsSeq PySem.MeetsSeq2 PySem.MeetsSeq3
end
section
variable{prog:rf}{w:World}{A:Around}{E:Value->Shared->Prop}{s:Shared}
theorem Rt {t b:Addr}{vs ws:List Value}{Q:Value->Shared->Prop}(ht:IsTup s.heap t vs.toArray)(hb:IsTup s.heap b ws.toArray)(hv:vs≠[])
  (h1:ws=[]->Q (.ref t) s) (h2:ws≠[]->Q (.ref s.heap.objs.size) { s with heap:=s.heap.push { cls:=.type "tuple",data:=.seq (vs++ws).toArray } })
  (hsz:vs.length+ws.length<=kg):wpAny (model prog w) A (binaryOp .Add (.ref t) (.ref b)) Q E s:=by
 obtain⟨⟨cls,dd,data,sl⟩,ho,hc,n,hd⟩:=id ht;obtain⟨⟨akM,dd2,data2,sl2⟩,ho2,hc2,n2,hd2⟩:=id hb;simp only at hc hd hc2 hd2;subst hc hd hc2 hd2;have e:vs.toArray++ws.toArray=(vs++ws).toArray:=by simp
 by_cases hw:ws=[]
 ·exact concat_meets ⟨_,ho,rfl⟩ ⟨_,ho2,rfl⟩ noFill_tuple_add seq_tuple_add PySem.F.slot_tuple_add PySem.F.entry_tuple_add (PySem.F.args_tuple_add_2 _ _)
   (tuple_addW1 t b vs.toArray ws.toArray n n2 dd dd2 sl sl2 (by simpa using hv) (by simp[hw])) ⟨ho,ho2,h1 hw⟩
 ·refine concat_meets ⟨_,ho,rfl⟩ ⟨_,ho2,rfl⟩ noFill_tuple_add seq_tuple_add PySem.F.slot_tuple_add PySem.F.entry_tuple_add (PySem.F.args_tuple_add_2 _ _)
   (tuple_addW2 t b vs.toArray ws.toArray n n2 dd dd2 sl sl2 (by simpa using hv) (by simpa using hw) (by rw[ky,ky];exact hsz)) ⟨ho,ho2,?_⟩
  rw[e];exact h2 hw
def sIx (n d:Nat):Option Int->Nat
 |none=>d
 |some v=>if v < 0 then (v+(n:Int)).toNat else min v.toNat n
theorem FR (n d:Nat):sIx n d none=d:=rfl
theorem vJ (n d k:Nat):sIx n d (some (k:Int))=min k n:=by
 show (if (k:Int) < 0 then ((k:Int)+(n:Int)).toNat else min (k:Int).toNat n)=min k n
 rw[if_neg (by omega),Int.toNat_natCast]
theorem Vy (n d:Nat)(hd:d<=n)(o:Option Int):sIx n d o<=n:=by
 cases o with
 |none=>exact hd
 |some v =>
  show (if v < 0 then (v+(n:Int)).toNat else min v.toNat n)<=n
  by_cases hv:v < 0
  ·rw[if_pos hv];omega
  ·rw[if_neg hv];exact Nat.min_le_right _ _
theorem LK (v:Int)(n d:Nat):(if v < 0 then max (v+(n:Int)) 0 else min v (n:Int))=((sIx n d (some v):Nat):Int):=by
 show (if v < 0 then max (v+(n:Int)) 0 else min v (n:Int))=(((if v < 0 then (v+(n:Int)).toNat else min v.toNat n):Nat):Int)
 by_cases hv:v < 0
 ·simp only[if_pos hv];omega
 ·simp only[if_neg hv];omega
theorem Jw (lo hi:Option Int)(n:Nat):Builtin.Slice.sliceAdjust lo hi 1 (n:Int)=(((sIx n 0 lo:Nat):Int),((sIx n n hi:Nat):Int)):=by
 have h1:¬((1:Int) < 0):=by omega
 unfold Builtin.Slice.sliceAdjust;simp only[h1,if_false];refine Prod.ext ?_ ?_
 ·cases lo with
  |none=>rfl
  |some v=>exact LK v n 0
 ·cases hi with
  |none=>rfl
  |some v=>exact LK v n n
theorem Jx (i j:Nat):amu (i:Int) (j:Int) 1=j - i:=by
 unfold amu;have h1:(1:Int) > 0:=by omega
 simp only[h1,if_true,Int.ediv_one];split <;> omega
theorem AU {v:Value}{o:Option Int}{Q:Option Int->Shared->Prop}(p:IsPart v o)(h:Q o s):wpAny (model prog w) A (Builtin.Slice.slicePartIndex v) Q E s:=by
 cases p with
 |none=>exact slicePart_none h
 |int i t=>exact slicePart_int h
theorem xt {sl:Addr}{vl vu:Value}{lo hi:Option Int}{n:Nat}{Q:Int×Int×Nat->Shared->Prop}(hs:s.heap.IsSliceOf sl vl vu .none)(pl:IsPart vl lo)(pu:IsPart vu hi)
  (h:Q (((sIx n 0 lo:Nat):Int),1,sIx n n hi - sIx n 0 lo) s):wpAny (model prog w) A (Builtin.Slice.sliceApplied (.ref sl) (pure (n:Int))) Q E s:=by
 obtain⟨os,hos,hcs,hds⟩:=id hs;unfold Builtin.Slice.sliceApplied Builtin.Slice.sliceFields;refine gn (gn (wpAny_field hos hds (x:=vl) rfl (gn (wpAny_field hos hds (x:=vu) rfl (gn (wpAny_field hos hds (x:=.none) rfl (wa ?_)))))));refine gn (slicePart_none ?_);show wpAny _ _ (if ((1:Int) == 0)=true then _ else _) _ _ s
 rw[if_neg (by decide)]
 refine gn (AU pl (gn (AU pu (gn (wa ?_)))));show wpAny _ _ (match Builtin.Slice.sliceAdjust lo hi 1 (n:Int) with | (lo,hi)=>pure (lo,(1:Int),amu lo hi 1)) _ _ s
 rw[Jw lo hi n];show wpAny _ _ (pure (((sIx n 0 lo:Nat):Int),(1:Int),amu ((sIx n 0 lo:Nat):Int) ((sIx n n hi:Nat):Int) 1)) _ _ s;rw[Jx];exact wa h
theorem Oc (xs:Array Value)(i k:Nat):((List.range k).filterMap λ(m:Nat)=>xs[((i:Int)+(m:Int) * 1).toNat]?).toArray=((xs.toList.drop i).take k).toArray:=by
 have e:(λ(m:Nat)=>xs[((i:Int)+(m:Int) * 1).toNat]?)=λm=>xs[i+m]?:=by
  funext m
  have:((i:Int)+(m:Int) * 1).toNat=i+m:=by omega
  rw[this]
 rw[e];have:=pick_run xs i k;rw[List.filterMap_map]at this;have e2:((λx=>xs[x]?)∘λx=>i+x)=λm=>xs[i+m]?:=rfl
 rw[e2]at this;rw[this]
theorem vK {t sl:Addr}{items:Array Value}{vl vu:Value}{lo hi:Option Int}{Q:Value->Shared->Prop}(ht:IsTup s.heap t items)(hs:s.heap.IsSliceOf sl vl vu .none)(pl:IsPart vl lo)(pu:IsPart vu hi)
  (hw:¬(sIx items.size 0 lo=0/\sIx items.size items.size hi=items.size))
  (h:Q (.ref s.heap.objs.size) { s with heap:=s.heap.push { cls:=.type "tuple",data:=.seq ((items.toList.drop (sIx items.size 0 lo)).take (sIx items.size items.size hi - sIx items.size 0 lo)).toArray } })
  (hsz:items.size<=kg):wpAny (model prog w) A (getItem (.ref t) (.ref sl)) Q E s:=by
 have LL:sizeOk (.seq ((items.toList.drop (sIx items.size 0 lo)).take (sIx items.size items.size hi - sIx items.size 0 lo)).toArray):=by
  show ((items.toList.drop (sIx items.size 0 lo)).take (sIx items.size items.size hi - sIx items.size 0 lo)).toArray.size<=kg;rw[ky,alD,amo,amz];omega
 have hj:sIx items.size items.size hi<=items.size:=Vy _ _ (kq _) hi;obtain⟨os,hos,hcs,hds⟩:=id hs;have hTs:s.TypeIs (.ref sl) "slice":=⟨os,hos,hcs⟩;unfold getItem
 try with_reducible refine alY ?_
 first | refine gn (wa ?_) | skip
 refine gn (wpAny_sequenceKey ht.typeIs (by decide) ?_)
 refine gn (wpAny_callSpecial?_slot (name:=ar "__getitem__") ht.typeIs PyProof.Rows.slot_tuple_getitem
  (wpAny_call_entry PyProof.Rows.slot_tuple_getitem ht.typeIs entry_tuple_getitem ?_ (args_tuple_getitem _ _)))
 show wpAny _ _ (Builtin.Tuple.tupleItemsOf (.ref t) >>= _) _ _ s;refine gn (tupleItemsOf_ ht ?_);refine gn (wpAny_typeOf hTs ?_);rw[if_pos (by decide)]
 refine gn (xt hs pl pu ?_);have hno:¬((((sIx items.size 0 lo:Nat):Int) == 0 && (1:Int) == 1 && (sIx items.size items.size hi - sIx items.size 0 lo) == items.size)=true):=by
  intro q;rw[alW,alW]at q;have q1:((sIx items.size 0 lo:Nat):Int)=0:=eq_of_beq q.1.1;have q2:sIx items.size items.size hi - sIx items.size 0 lo=items.size:=eq_of_beq q.2;exact hw ⟨by omega,by omega⟩
 show wpAny _ _ (if (((sIx items.size 0 lo:Nat):Int) == 0 && (1:Int) == 1 && (sIx items.size items.size hi - sIx items.size 0 lo) == items.size)=true then _ else _) _ _ s
 rw[if_neg hno,Oc]
 first
  |exact gn (m:=amy _) (wpAny_newObj_type (wa ⟨_,rfl,wa h⟩) LL)
  |exact gn (m:=amy _) (wpAny_newObj_type (gn (wa (wa ⟨_,rfl,wa h⟩))) LL)
  |exact gn (gn (m:=amy _) (wpAny_newObj_type (wa (wa ⟨_,rfl,wa h⟩)) LL))
  |exact gn (gn (m:=amy _) (wpAny_newObj_type (wa ⟨_,rfl,wa h⟩) LL))
end
end HT
namespace L2
open PySem PySem.Spec PyProof.Rows
abbrev TO:=St->Hp->(Option Int->Hp->Prop)->Prop
def PO (X:Cx)(e:Option Expr)(t:TO):Prop :=
 ∀(pins:List (Addr×Obj)) (s:Shared) (σ:St) (H:Hp) (Q:Option Int->Hp->Prop),Inv X pins σ H s->t σ H Q ->
  wpAny (model X.prog X.w) X.A (evalPart e X.env) (λu s'=>∃o H',Inv X pins σ H' s'/\IsPart u o/\Q o H') X.xe s
def Ru:TO:=λ_ H Q=>Q none H
def aai (t:TE):TO:=λσ H Q=>t σ H λx H1=>∃i,x=.int i/\Q (some i) H1
section
variable{X:Cx}{e:Expr}{te:TE}{lo hi:Option Expr}{tl th:TO}{pos p2:Pos}
theorem vL:PO X none Ru:=by
 intro pins s σ H Q I h;rw[evalPart_none];exact wa ⟨none,H,I,.none,h⟩
theorem qt (h:PE X e te):PO X (some e) (aai te):=by
 intro pins s σ H Q I hw;rw[evalPart_some];refine thn (h pins s σ H _ I hw) λu s1 ⟨x,H1,I1,r1,q1⟩=>?_
 obtain⟨i,rfl,q⟩:=q1;obtain⟨t,rfl⟩:=r1;exact⟨some i,H1,I1,.int i t,q⟩
def SlR (X:Cx)(r:V->Option Int->Option Int->Hp->VK->Prop):Prop :=
 ∀(pins:List (Addr×Obj)) (s:Shared) (σ:St) (H:Hp) (x:V) (v vl vu:Value) (lo hi:Option Int) (sl:Addr) (Q:VK),Inv X pins σ H s->RelV x v->s.heap.IsSliceOf sl vl vu .none->IsPart vl lo->IsPart vu hi->r x lo hi H Q ->
  ∃T id,typeLookup (.type T) "__getitem__"=pure (some (.builtin id))/\s.TypeIs v T/\wpAny (model X.prog X.w) X.A (getItem v (.ref sl)) (EP X pins σ Q) X.xe s
theorem SlR.or {r r':V->Option Int->Option Int->Hp->VK->Prop}(h:SlR X r)(h':SlR X r'):SlR X (λx lo hi H Q=>r x lo hi H Q\/r' x lo hi H Q):=by
 intro pins s σ H x v vl vu lo hi sl Q I rx hs pl pu q;rcases q with q | q
 ·exact h pins s σ H x v vl vu lo hi sl Q I rx hs pl pu q
 ·exact h' pins s σ H x v vl vu lo hi sl Q I rx hs pl pu q
def tSl (r:V->Option Int->Option Int->Hp->VK->Prop)(te:TE)(tl th:TO):TE:=λσ H Q=>te σ H λx H1=>tl σ H1 λl H2=>th σ H2 λu H3=>r x l u H3 Q
theorem pf {r:V->Option Int->Option Int->Hp->VK->Prop}(hr:SlR X r)(he:PE X e te)(hl:PO X lo tl)(hu:PO X hi th):PE X (.Subscript e (.Slice lo hi none p2) pos) (tSl r te tl th):=by
 intro pins s σ H Q I h;refine Subscript_ (thn (he pins s σ H _ I h) λv s1 ⟨x,H1,I1,r1,q1⟩=>?_)
 refine wpAny_Slice (thn (hl pins s1 σ H1 _ I1 q1) λvl s2 ⟨l,H2,I2,pl,q2⟩=>thn (hu pins s2 σ H2 _ I2 q2) λvu s3 ⟨u,H3,I3,pu,q3⟩=>?_)
 rw[evalPart_none];refine wa ?_;have I4:Inv X pins σ H3 { s3 with heap:=s3.heap.push { cls:=.type "slice",data:=.fields #[vl,vu,.none] } }:=I3.kept (t':=s3.toks) λb ob q=>kf _ q
 obtain⟨T,id,hT,ht,hg⟩:=hr pins { s3 with heap:=s3.heap.push { cls:=.type "slice",data:=.fields #[vl,vu,.none] } } σ H3 x v vl vu l u s3.heap.objs.size Q I4 r1 (Heap.IsSliceOf.new ..) pl pu q3
 show wpAny (model X.prog X.w) X.A (subscriptTail e (.Slice lo hi none p2) v (.ref s3.heap.objs.size)) (EP X pins σ Q) X.xe { s3 with heap:=s3.heap.push { cls:=.type "slice",data:=.fields #[vl,vu,.none] } }
 exact tail_any (ops:=[.ref s3.heap.objs.size,v]) ht hT hg (by with_unfolding_all rfl)
def gF (xs:List V)(lo hi:Option Int):List V:=(xs.drop (HT.sIx xs.length 0 lo)).take (HT.sIx xs.length xs.length hi - HT.sIx xs.length 0 lo)
theorem iQ (xs:List V)(lo hi:Option Int):(gF xs lo hi).length<=xs.length:=by
 unfold gF;rw[alD,amo];omega
def aiq (K:ba):V->Option Int->Option Int->Hp->VK->Prop:=λx lo hi H Q=>∃a xs,x=.ref a/\SqT K H a xs /\
 ¬(HT.sIx xs.length 0 lo=0/\HT.sIx xs.length xs.length hi=xs.length)/\∀p,H p=none->Q (.ref p) (upd H p (.tup (gF xs lo hi)))
theorem Vz:SlR X (aiq X.K):=by
 intro pins s σ H x v vl vu lo hi sl Q I rx hs pl pu h;obtain⟨a,xs,rfl,hx,hw,q⟩:=h;cases rx;obtain⟨its,r,ht,hz⟩:=I.tuple hx;have hlen:its.toArray.size=xs.length:=by rw[ky];exact r.length.symm
 refine⟨"tuple",_,PyProof.Rows.slot_tuple_getitem.lookup,ht.typeIs,?_⟩;refine HT.vK ht hs pl pu (by rw[hlen];exact hw) ?_ (by rw[hlen];exact hz)
 rw[hlen];refine⟨.ref s.heap.objs.size,_,I.laid (t':=s.toks) (o:=.tup (gF xs lo hi)) (λb ob q=>kf _ q) (kq _) ?_,rfl,q _ (I.hok.fresh (kq _))⟩
 exact⟨ak3 (iQ xs lo hi) hz,_,(r.drop (HT.sIx xs.length 0 lo)).take (HT.sIx xs.length xs.length hi - HT.sIx xs.length 0 lo),IsTup.new _ _⟩
def aaj (K:ba):R2:=λx y H Q=>∃a b xs ys,x=.ref a/\y=.ref b/\SqT K H a xs/\SqT K H b ys/\xs≠[]/\xs.length+ys.length<=kg /\
 (ys=[]->Q (.ref a) H)/\(ys≠[]->∀p,H p=none->Q (.ref p) (upd H p (.tup (xs++ys))))
theorem Vals.Ep {xs:List V}{us:List Value}(r:Vals xs us):us=[]↔xs=[]:=by
 cases r with
 |nil=>simp
 |cons _ _=>simp
theorem Rv:OpR X (binaryOp .Add) (aaj X.K):=by
 intro pins s σ H x y v u Q I rx ry h;obtain⟨a,b,xs,ys,rfl,rfl,ha,hb,hx,hz,q1,q2⟩:=h;cases rx;cases ry;obtain⟨its,r1,p1,_⟩:=I.tuple ha;obtain⟨FT,r2,p2,_⟩:=I.tuple hb;refine HT.Rt p1 p2 (λz=>hx (r1.Ep.mp z)) (λz=>⟨.ref a,H,I,rfl,q1 (r2.Ep.mp z)⟩) (λz=>?_) (by rw[<-r1.length,<-r2.length];exact hz)
 refine⟨.ref s.heap.objs.size,_,I.laid (t':=s.toks) (o:=.tup (xs++ys)) (λb ob q=>kf _ q) (kq _) ?_,rfl,q2 (λw=>z (r2.Ep.mpr w)) _ (I.hok.fresh (kq _))⟩
 exact⟨by rw[ma];exact hz,_,r1.append r2,IsTup.new _ _⟩
end
def ixN (n:Nat)(i:Int):Option Nat:=if 0<=i then (if i < n then some i.toNat else none) else if -(n:Int)<=i then some (i+n).toNat else none
def atI {α:Type}(xs:List α)(i:Int):Option α:=(ixN xs.length i).bind λj=>xs[j]?
theorem Er {n:Nat}{i:Int}{j:Nat}(h:ixN n i=some j):seqIndex? i n=some j/\j < n/\-(n:Int)<=i/\i < n:=by
 unfold ixN at h
 by_cases h0:0<=i
 ·rw[if_pos h0]at h
  by_cases h1:i < n
  ·rw[if_pos h1]at h;have e:i.toNat=j:=ak9 h;exact⟨by rw[seqIndex_of h0 h1,e],by omega,by omega,h1⟩
  ·rw[if_neg h1]at h;cases h
 ·rw[if_neg h0]at h
  by_cases h1:-(n:Int)<=i
  ·rw[if_pos h1]at h;have e:(i+n).toNat=j:=ak9 h;exact⟨by rw[seqIndex_neg (by omega) h1,e],by omega,h1,by omega⟩
  ·rw[if_neg h1]at h;cases h
theorem Es {α:Type}{xs:List α}{i:Int}{v:α}(h:atI xs i=some v):∃j,seqIndex? i xs.length=some j/\xs[j]?=some v/\j < xs.length/\-(xs.length:Int)<=i/\i < xs.length:=by
 unfold atI at h;cases e:ixN xs.length i with
 |none=>rw[e]at h;cases h
 |some j =>
  rw[e]at h;obtain⟨h1,h2,h3,h4⟩:=Er e;exact⟨j,h1,h,h2,h3,h4⟩
theorem cB {α:Type}{xs:List α}{j:Nat}{v:α}(h:xs[j]?=some v):atI xs (j:Int)=some v:=by
 have hj:j < xs.length:=(List.getElem?_eq_some_iff.mp h).1;have e:ixN xs.length (j:Int)=some j:=by
  unfold ixN;rw[if_pos (by omega),if_pos (by omega)];simp
 unfold atI;rw[e];exact h
theorem gH {α:Type}(xs:List α)(v:α):atI (xs++[v]) (-1)=some v:=by
 have hl:(xs++[v]).length=xs.length+1:=by simp
 have e:ixN (xs++[v]).length (-1)=some xs.length:=by
  unfold ixN;rw[hl,if_neg (by decide),if_pos (by omega)]
  congr 1
  omega
 unfold atI;rw[e];show (xs++[v])[xs.length]?=some v;simp
def Rw (b:Expr):Prop:=∀o i,subscripted b false o i=operate [o,i] (getItem o i)
def IxR (X:Cx)(r:R2):Prop :=
 ∀(value slice:Expr) (pins:List (Addr×Obj)) (s:Shared) (σ:St) (H:Hp) (x y:V) (v u:Value) (Q:VK),Inv X pins σ H s->RelV x v->RelV y u->r x y H Q ->
  subscripted slice false v u=operate [v,u] (getItem v u)->wpAny (model X.prog X.w) X.A (subscriptTail value slice v u) (EP X pins σ Q) X.xe s
def MtR (X:Cx)(id:String)(r:V->List V->Hp->VK->Prop):Prop :=
 ∀(pins:List (Addr×Obj)) (s:Shared) (σ:St) (H:Hp) (x:V) (xs:List V) (v:Value) (us:List Value) (Q:VK),Inv X pins σ H s->RelV x v->Vals xs us->r x xs H Q ->
  wpAny (model X.prog X.w) X.A (call (.builtin id) (v::us)) (EP X pins σ Q) X.xe s
section
variable{X:Cx}{a b:Expr}{ta tb:TE}{pos:Pos}
theorem IxR.or {r r':R2}(h:IxR X r)(h':IxR X r'):IxR X (λx y H Q=>r x y H Q\/r' x y H Q):=by
 intro value slice pins s σ H x y v u Q I rx ry q hs;rcases q with q | q
 ·exact h value slice pins s σ H x y v u Q I rx ry q hs
 ·exact h' value slice pins s σ H x y v u Q I rx ry q hs
theorem MtR.or {id:String}{r r':V->List V->Hp->VK->Prop}(h:MtR X id r)(h':MtR X id r'):MtR X id (λx xs H Q=>r x xs H Q\/r' x xs H Q):=by
 intro pins s σ H x xs v us Q I rx rs q;rcases q with q | q
 ·exact h pins s σ H x xs v us Q I rx rs q
 ·exact h' pins s σ H x xs v us Q I rx rs q
theorem aK {r:R2}(hr:IxR X r)(ha:PE X a ta)(hb:PE X b tb)(hs:Rw b):PE X (.Subscript a b pos) (tOp r ta tb):=by
 intro pins s σ H Q I h;exact Subscript_ (Vs ha hb I h λv u s2 x y H2 I2 rx ry q=>hr a b pins s2 σ H2 x y v u Q I2 rx ry q (hs _ _))
def aak (K:ba):R2:=λx y H Q=>∃p xs i v,x=.ref p/\y=.int i/\SqL K H p xs/\atI xs i=some v/\Q v H
def VA (K:ba):R2:=λx y H Q=>∃p xs i v,x=.ref p/\y=.int i/\SqT K H p xs/\atI xs i=some v/\Q v H
def aal:R2:=λx y H Q=>∃z i c,x=.str z/\y=.int i/\z.length<=kg/\atI z.cps.toList i=some c/\Q (.str ⟨#[c]⟩) H
theorem bx:IxR X (aak X.K):=by
 intro value slice pins s σ H x y v u Q I rx ry h hs;obtain⟨p,xs,i,z,rfl,rfl,hq,he,q⟩:=h;cases rx;obtain⟨t,rfl⟩:=ry;obtain⟨its,r,pl,hz⟩:=I.list hq;obtain⟨j,h1,h2,h3,h4,h5⟩:=Es he;obtain⟨w,ew,rw'⟩:=r.get h2;have hl:=r.length;have hn:=uF;have fin:EP X pins σ Q w s:=⟨z,H,I,rw',q⟩
 by_cases h0:0<=i
 ·have hj:i.toNat=j:=by
   rw[seqIndex_of h0 h5]at h1;exact ak9 h1
  exact item_listR pl.isList h0 (by omega) (by rw[hj];simpa using ew) fin hs
 ·have hj:(i+(its.toArray.size:Int)).toNat=j:=by
   rw[seqIndex_neg (by omega) h4]at h1
   rw[ky,<-hl];exact ak9 h1
  exact subscriptTail_builtinR (x:=w) pl.isList.typeIs slot_list_getitem.lookup
   (wpAny_getItem_list_neg (Q:=λr s'=>r=w/\EP X pins σ Q r s') pl.isList (by omega) (by rw[ky] <;> omega) (by omega) (by rw[hj];simpa using ew) ⟨rfl,fin⟩) hs
theorem aT:IxR X (VA X.K):=by
 intro value slice pins s σ H x y v u Q I rx ry h hs;obtain⟨p,xs,i,z,rfl,rfl,hq,he,q⟩:=h;cases rx;obtain⟨t,rfl⟩:=ry;obtain⟨its,r,pl,hz⟩:=I.tuple hq;obtain⟨j,h1,h2,h3,h4,h5⟩:=Es he;obtain⟨w,ew,rw'⟩:=r.get h2;have hl:=r.length;have hn:=uF;have fin:EP X pins σ Q w s:=⟨z,H,I,rw',q⟩;exact subscriptTail_builtinR (x:=w) pl.typeIs slot_tuple_getitem.lookup
  (getItem_tuple (j:=j) (Q:=λr s'=>r=w/\EP X pins σ Q r s') pl (by omega) (by omega) (by rw[ky,<-hl];exact h1) (by simpa using ew) ⟨rfl,fin⟩) hs
theorem Jy:IxR X aal:=by
 intro value slice pins s σ H x y v u Q I rx ry h hs;obtain⟨z,i,c,rfl,rfl,hz,he,q⟩:=h;obtain⟨t,rfl⟩:=rx;obtain⟨t',rfl⟩:=ry;obtain⟨j,h1,h2,h3,h4,h5⟩:=Es he;have hl:z.cps.toList.length=z.length:=by simp[Str.length]
 rw[hl]at h1 h4 h5;have hn:=uF;exact tail_any (typeIs_str s z t) slot_str_getitem.lookup (getItem_str (c:=c) (by
  have e1:decide (i < -(2 ^ 63:Int))=false:=decide_eq_false (by omega)
  have e2:decide (i≥2 ^ 63)=false:=decide_eq_false (by omega)
  rw[e1,e2,Bool.or_false]) (by rw[h1];simpa using h2) ⟨.str ⟨#[c]⟩,H,I.tok _,⟨_,rfl⟩,q⟩) hs
def rIx (K:ba):R2:=λx y H Q=>aak K x y H Q\/VA K x y H Q\/aal x y H Q
theorem VB:IxR X (rIx X.K):=bx.or (aT.or Jy)
theorem Jz (its:List Value)(n j:Nat)(u:Value):Obj.mapSeq (·.setIfInBounds j u) { cls:=.type "list",data:=.seq its.toArray n }={ cls:=.type "list",data:=.seq (its.set j u).toArray n }:=by
 simp[Obj.mapSeq]
theorem Inv.lst {pins:List (Addr×Obj)}{σ:St}{H:Hp}{s:Shared}{p:Addr}{xs:List V}(I:Inv X pins σ H s)(h:H p=some (.lst xs)) :
  ∃(its:List Value) (n:Nat),Vals xs its/\s.heap.get? p=some { cls:=.type "list",data:=.seq its.toArray n }/\xs.length<=kg:=by
 obtain⟨z,its,n,r,e⟩:=I.hok p _ h;exact⟨its,n,r,e,z⟩
theorem Inv.VC {pins:List (Addr×Obj)}{σ:St}{H:Hp}{s:Shared}{p:Addr}{xs ys:List V}{its its':List Value}{n n':Nat}{f:Obj->Obj}(I:Inv X pins σ H s)(h:H p=some (.lst xs))
  (ho:s.heap.get? p=some { cls:=.type "list",data:=.seq its.toArray n }) (hf:f { cls:=.type "list",data:=.seq its.toArray n }={ cls:=.type "list",data:=.seq its'.toArray n' }) (r:Vals ys its') (hz:ys.length<=kg) (t:Nat) :
  Inv X pins σ (upd H p (.lst ys)) { s with heap:=s.heap.update p f,toks:=t }:=by
 have e:(s.heap.update p f).get? p=some { cls:=.type "list",data:=.seq its'.toArray n' }:=by
  rw[amb f ho (by rw[hf] <;> rfl),hf]
 refine I.write (x:=p) (e:=p) (by rw[h];trivial) (.inl rfl) (λb u hb q=>(alS _ _ (alr hb)).trans q) ⟨_,e⟩ ?_
 exact⟨hz,its',n',r,e⟩
def aam:V->V->V->Hp->(Hp->Prop)->Prop:=λo i v H Q=>∃p xs k j,o=.ref p/\i=.int k/\H p=some (.lst xs)/\ixN xs.length k=some j/\Q (upd H p (.lst (xs.set j v)))
theorem set_list:Z5 X aam:=by
 intro pins s σ H o i v ov iv u Q I ro ri rv h;obtain⟨p,xs,k,j,rfl,rfl,hp,hj,q⟩:=h;cases ro;obtain⟨t,rfl⟩:=ri;obtain⟨its,n,r,ho,hz⟩:=I.lst hp;obtain⟨h1,h2,h3,h4⟩:=Er hj;have hl:=r.length;have hn:=uF;have I':Inv X pins σ (upd H p (.lst (xs.set j v))) { s with heap:=s.heap.update p (Obj.mapSeq (·.setIfInBounds j u)) } :=
  I.VC hp ho (Jz its n j u) (r.set rv j) (by rw[alZ];exact hz) s.toks
 by_cases h0:0<=k
 ·have hk:k.toNat=j:=by
   rw[seqIndex_of h0 h4]at h1;exact ak9 h1
  exact PySem.W.ki_setAt ho h0 (by omega) (by rw[ky,<-hl];exact h4) (by rw[hk];exact⟨_,I',q⟩)
 ·have hk:(k+(its.toArray.size:Int)).toNat=j:=by
   rw[seqIndex_neg (by omega) h3]at h1
   rw[ky,<-hl];exact ak9 h1
  exact PySem.W.ki_setBack ho (by omega) (by rw[ky,<-hl];exact h3) (by omega) (by rw[hk];exact⟨_,I',q⟩)
theorem Et (lo hi:Option Int)(n:Nat):(sliceBounds lo hi none n).1=((HT.sIx n 0 lo:Nat):Int)/\(sliceBounds lo hi none n).2.1=((HT.sIx n n hi:Nat):Int)/\(sliceBounds lo hi none n).2.2=1:=by
 refine⟨?_,?_,rfl⟩
 ·cases lo with
  |none=>simp[sliceBounds,HT.sIx]
  |some i =>
   simp only[sliceBounds,HT.sIx,Option.getD_none,show (1:Int) > 0 by decide,if_true]
   by_cases h:i < 0
   ·simp only[h,if_true] <;> omega
   ·simp only[h,if_false] <;> omega
 ·cases hi with
  |none=>simp[sliceBounds,HT.sIx]
  |some i =>
   simp only[sliceBounds,HT.sIx,Option.getD_none,show (1:Int) > 0 by decide,if_true]
   by_cases h:i < 0
   ·simp only[h,if_true] <;> omega
   ·simp only[h,if_false] <;> omega
theorem CK (its:List Value)(lo hi:Option Int):slicePick its.toArray lo hi none=((its.drop (HT.sIx its.length 0 lo)).take (HT.sIx its.length its.length hi - HT.sIx its.length 0 lo)).toArray:=by
 obtain⟨h1,h2,h3⟩:=Et lo hi its.toArray.size;unfold slicePick;rw[h1,h2,h3];simp only[sliceRange_one,pick_run,ky] <;> rfl
def air (K:ba):V->Option Int->Option Int->Hp->VK->Prop:=λx lo hi H Q=>∃a xs,x=.ref a/\SqL K H a xs/\∀p,H p=none->Q (.ref p) (upd H p (.lst (gF xs lo hi)))
theorem vM:SlR X (air X.K):=by
 intro pins s σ H x v vl vu lo hi sl Q I rx hs pl pu h;obtain⟨a,xs,rfl,hx,q⟩:=h;cases rx;obtain⟨its,r,ht,hz⟩:=I.list hx;have hlen:=r.length;refine⟨"list",_,slot_list_getitem.lookup,ht.isList.typeIs,?_⟩;refine wpAny_getItem_list_slice ht.isList hs pl pu .none (by simp) ?_ (by rw[ky] <;> omega)
 rw[CK,<-hlen];refine⟨.ref s.heap.objs.size,_,I.laid (t':=s.toks) (o:=.lst (gF xs lo hi)) (λb ob q=>kf _ q) (kq _) ?_,rfl,q _ (I.hok.fresh (kq _))⟩
 exact⟨ak3 (iQ xs lo hi) hz,_,0,(r.drop (HT.sIx xs.length 0 lo)).take (HT.sIx xs.length xs.length hi - HT.sIx xs.length 0 lo),alf _ rfl⟩
def uu:V->Bool
 | .non=>true
 | .bl _=>true
 | .int _=>true
 | .str _=>true
 |_=>false
def eqV:V->V->Bool
 | .non,.non=>true
 | .bl a,.bl b=>a == b
 | .bl a,.int b=>(if a then 1 else 0) == b
 | .int a,.bl b=>a == (if b then 1 else 0)
 | .int a,.int b=>a == b
 | .str a,.str b=>a == b
 |_,_=>false
theorem VD {A:Around}{s:Shared}{y x:V}{u v:Value}(ry:RelV y u)(rx:RelV x v)(fy:uu y=true)(fx:uu x=true):SeqAt.EqAt A s u v (eqV y x):=by
 cases y with
 |non =>
  cases ry;cases x with
  |non=>cases rx;exact SeqAt.EqAt.same _
  |bl b=>cases rx;exact SeqAt.EqAt.none_bool b
  |int b=>obtain⟨t,rfl⟩:=rx;exact SeqAt.EqAt.none_int b t
  |str b=>obtain⟨t,rfl⟩:=rx;exact SeqAt.EqAt.none_str b t
  |_=>exact absurd (show false=true from fx) kr
 |bl a =>
  cases ry;cases x with
  |non=>cases rx;exact SeqAt.EqAt.bool_none a
  |bl b=>cases rx;exact SeqAt.EqAt.bool_bool a b
  |int b=>obtain⟨t,rfl⟩:=rx;exact SeqAt.EqAt.bool_int a b t
  |str b=>obtain⟨t,rfl⟩:=rx;exact SeqAt.EqAt.bool_str a b t
  |_=>exact absurd (show false=true from fx) kr
 |int a =>
  obtain⟨t',rfl⟩:=ry;cases x with
  |non=>cases rx;exact SeqAt.EqAt.int_none a t'
  |bl b=>cases rx;exact SeqAt.EqAt.int_bool a t' b
  |int b=>obtain⟨t,rfl⟩:=rx;exact SeqAt.EqAt.int_int a t' b t
  |str b=>obtain⟨t,rfl⟩:=rx;exact SeqAt.EqAt.int_str a t' b t
  |_=>exact absurd (show false=true from fx) kr
 |str a =>
  obtain⟨t',rfl⟩:=ry;cases x with
  |non=>cases rx;exact SeqAt.EqAt.str_none a t'
  |bl b=>cases rx;exact SeqAt.EqAt.str_bool a t' b
  |int b=>obtain⟨t,rfl⟩:=rx;exact SeqAt.EqAt.str_int a t' b t
  |str b=>obtain⟨t,rfl⟩:=rx;exact SeqAt.EqAt.str_str a t' b t
  |_=>exact absurd (show false=true from fx) kr
 |_=>exact absurd (show false=true from fy) kr
def eqU (x:V)(u:Value):Bool:=match u with
 | .none=>eqV .non x
 | .bool b=>eqV (.bl b) x
 | .int i _=>eqV (.int i) x
 | .str z _=>eqV (.str z) x
 |_=>false
theorem JA {x y:V}{u:Value}(r:RelV y u)(f:uu y=true):eqU x u=eqV y x:=by
 cases y with
 |non=>cases r;rfl
 |bl b=>cases r;rfl
 |int i=>obtain⟨t,rfl⟩:=r;rfl
 |str z=>obtain⟨t,rfl⟩:=r;rfl
 |_=>exact absurd (show false=true from f) kr
theorem vN {x:V}:∀ {xs:List V} {us:List Value},Vals xs us->xs.all uu=true->us.any (eqU x)=xs.any λy=>eqV y x
 |_,_,.nil,_=>rfl
 |y::xs,u::us,.cons r t,f=>by
  rw[List.all_cons,alW]at f;rw[amF,amF,JA r f.1,vN t f.2]
theorem ph {A:Around}{s:Shared}{x:V}{v:Value}(rx:RelV x v)(fx:uu x=true):∀ {xs:List V} {us:List Value},Vals xs us->xs.all uu=true->∀u∈us,SeqAt.EqAt A s u v (eqU x u)
 |_,_,.nil,_=>λu hu=>by cases hu
 |y::xs,u::us,.cons r t,f=>λu' hu=>by
  rw[List.all_cons,alW]at f;rcases List.mem_cons.mp hu with rfl | hu
  ·rw[JA r f.1];exact VD r rx f.1 fx
  ·exact ph rx fx t f.2 u' hu
def inV (x:V)(xs:List V):Bool:=xs.any λy=>eqV y x
def rIn (K:ba)(neg:Bool):R2:=λx y H Q=>∃p xs,y=.ref p/\(SqL K H p xs\/SqT K H p xs)/\uu x=true/\xs.all uu=true/\Q (.bl (if neg then !inV x xs else inV x xs)) H
theorem tN:OpR X (al6 .In) (rIn X.K false):=by
 intro pins s σ H x y v u Q I rx ry h;obtain⟨p,xs,rfl,hq,fx,fs,q⟩:=h;cases ry;rcases hq with hq | hq
 ·obtain⟨its,r,pl,hz⟩:=I.list hq;refine SeqAt.in_listAt (eqU x) pl.isList (λw hw=>ph rx fx r fs w (by simpa using hw)) ⟨.bl _,H,I,rfl,?_⟩
  rw[show its.toArray.any (eqU x)=its.any (eqU x) by simp,vN r fs]
  exact q
 ·obtain⟨its,r,pl,hz⟩:=I.tuple hq;refine SeqAt.in_tupleAt (eqU x) pl (λw hw=>ph rx fx r fs w (by simpa using hw)) ⟨.bl _,H,I,rfl,?_⟩
  rw[show its.toArray.any (eqU x)=its.any (eqU x) by simp,vN r fs]
  exact q
theorem Eu:OpR X (al6 .NotIn) (rIn X.K true):=by
 intro pins s σ H x y v u Q I rx ry h;obtain⟨p,xs,rfl,hq,fx,fs,q⟩:=h;cases ry;rcases hq with hq | hq
 ·obtain⟨its,r,pl,hz⟩:=I.list hq;refine SeqAt.notIn_listAt (eqU x) pl.isList (λw hw=>ph rx fx r fs w (by simpa using hw)) ⟨.bl _,H,I,rfl,?_⟩
  rw[show its.toArray.any (eqU x)=its.any (eqU x) by simp,vN r fs]
  exact q
 ·obtain⟨its,r,pl,hz⟩:=I.tuple hq;refine SeqAt.notIn_tupleAt (eqU x) pl (λw hw=>ph rx fx r fs w (by simpa using hw)) ⟨.bl _,H,I,rfl,?_⟩
  rw[show its.toArray.any (eqU x)=its.any (eqU x) by simp,vN r fs]
  exact q
theorem cP:mD X (.builtin "len") (λxs H Q=>∃p ys,xs=[.ref p]/\(SqL X.K H p ys\/SqT X.K H p ys)/\Q (.int ys.length) H):=by
 intro pins s σ H xs us Q I r h;obtain⟨p,ys,rfl,hq,q⟩:=h;obtain⟨u,rfl,rx⟩:=vals1 r;cases rx;have hn:=uF;rcases hq with hq | hq
 ·obtain⟨its,r',pl,hz⟩:=I.list hq;have hlen:=r'.length;exact Calls.call_len_list pl.isList (by simp only[ky] <;> omega) ⟨.int ys.length,H,I.tok _,⟨s.toks+1,by rw[ky,hlen]⟩,q⟩
 ·obtain⟨its,r',pl,hz⟩:=I.tuple hq;have hlen:=r'.length;exact len_tuple pl (by simp only[ky] <;> omega) ⟨.int ys.length,H,I.tok _,⟨s.toks+1,by rw[ky,hlen]⟩,q⟩
theorem mD.or {f:Value}{r r':List V->Hp->VK->Prop}(h:mD X f r)(h':mD X f r'):mD X f (λxs H Q=>r xs H Q\/r' xs H Q):=by
 intro pins s σ H xs us Q I rs q;rcases q with q | q
 ·exact h pins s σ H xs us Q I rs q
 ·exact h' pins s σ H xs us Q I rs q
theorem fG:mD X (.type "list") (λxs H Q=>∃p ys,xs=[.ref p]/\(SqL X.K H p ys\/SqT X.K H p ys)/\∀l,H l=none->Q (.ref l) (upd H l (.lst ys))):=by
 intro pins s σ H xs us Q I r h;obtain⟨p,ys,rfl,hq,q⟩:=h;obtain⟨u,rfl,rx⟩:=vals1 r;cases rx;have fin:∀(its:List Value),Vals ys its->ys.length<=kg->∀(h':Heap) (c':Nat),(∀b o',s.heap.get? b=some o'->h'.get? b=some o') ->
   h'.get? s.heap.objs.size=some { cls:=.type "list",dict:=none,data:=.seq its.toArray c',slots:=#[] }->EP X pins σ Q (.ref s.heap.objs.size) { s with heap:=h' }:=λits r' hz h' c' kp e =>
  ⟨.ref s.heap.objs.size,_,I.laid (t':=s.toks) kp (kq _) (show fE X.prog X.w _ h' _ (.lst ys) from ⟨hz,its,c',r',e⟩),rfl,q _ (I.hok.fresh (kq _))⟩
 rcases hq with hq | hq
 ·obtain⟨its,r',pl,hz⟩:=I.list hq;have hlen:=r'.length;obtain⟨o,ho,hc,n,hd⟩:=pl.isList;exact call_list_seq p (.inl rfl) ho hc hd (λh' c' kp e=>fin its r' hz h' c' kp e) (by simp only[ky] <;> omega)
 ·obtain⟨its,r',pl,hz⟩:=I.tuple hq;have hlen:=r'.length;obtain⟨o,ho,hc,n,hd⟩:=pl;exact call_list_seq p (.inr rfl) ho hc hd (λh' c' kp e=>fin its r' hz h' c' kp e) (by simp only[ky] <;> omega)
def tyV (K:ba)(T:String)(x:V)(H:Hp):Prop:=match x with
 | .str _=>T="str"
 | .int _=>T="int"
 | .ref p=>(T="list"/\∃xs,SqL K H p xs)\/(T="tuple"/\∃o,K.lookup p=some o/\o.cls=.type "tuple"/\o.dict=none) \/
   (T="dict"/\((∃kvs,H p=some (.dK kvs))\/∃kvs,H p=some (.dT kvs)))\/(T="set"/\∃S n,H p=some (.set S n))
 |_=>False
theorem Od {pins:List (Addr×Obj)}{σ:St}{H:Hp}{s:Shared}{T:String}{x:V}{v:Value}(I:Inv X pins σ H s)(r:RelV x v)(ty:tyV X.K T x H) :
  s.TypeIs v T/\∀a,v=.ref a->∃ob,s.heap.get? a=some ob/\ob.dict=none:=by
 cases x with
 |str z =>
  obtain⟨t,rfl⟩:=r;cases (show T="str" from ty)
  exact⟨typeIs_str s z t,λ_ e=>nomatch e⟩
 |int i =>
  obtain⟨t,rfl⟩:=r;cases (show T="int" from ty)
  exact⟨typeIs_int s i t,λ_ e=>nomatch e⟩
 |ref p =>
  cases r;rcases ty with ⟨rfl,xs,hq⟩ | ⟨rfl,o,hk,hc,hd⟩ | ⟨rfl,hk⟩ | ⟨rfl,S,n,hk⟩
  ·obtain⟨its,_,pl,_⟩:=I.list hq;refine⟨pl.isList.typeIs,λa e=>?_⟩
   cases e;obtain⟨o,n,e,c,hd,_⟩:=pl;exact⟨o,e,hd⟩
  ·refine⟨⟨o,I.kIn p o hk,hc⟩,λa e=>?_⟩
   cases e;exact⟨o,I.kIn _ o hk,hd⟩
  ·have z:∃o,s.heap.get? p=some o/\o.ExactDict:=by
    rcases hk with ⟨kvs,hk⟩ | ⟨kvs,hk⟩
    ·obtain⟨_,_,_,_,o,_,_,e,ex,_⟩:=I.hok p _ hk;exact⟨o,e,ex⟩
    ·obtain⟨_,_,_,_,o,_,_,e,ex,_⟩:=I.hok p _ hk;exact⟨o,e,ex⟩
   obtain⟨o,e,ex⟩:=z;refine⟨⟨o,e,ex.1⟩,λa e2=>?_⟩
   cases e2;exact⟨o,e,ex.2.1⟩
  ·obtain⟨o,_,_,_,e,ex,_⟩:=I.hok p _ hk;refine⟨⟨o,e,ex.1⟩,λa e2=>?_⟩
   cases e2;exact⟨o,e,ex.2.1⟩
 |_=>exact als ty
def ais (K:ba)(T:String)(r:V->List V->Hp->VK->Prop)(to:TE):TE:=λσ H Q=>to σ H λx H1=>tyV K T x H1/\r x [] H1 Q
def tBM (K:ba)(T:String)(r:V->List V->Hp->VK->Prop)(to:TE)(t:TA):TE:=λσ H Q=>to σ H λx H1=>tyV K T x H1/\t σ H1 λxs H2=>r x xs H2 Q
variable{o e:Expr}{es:List Expr}{to:TE}{t:TA}{name:Str}{apos gI:Pos}{T id:String}{r:V->List V->Hp->VK->Prop}
theorem Oe (pa:PlainAttrs T)(slot:Slot T name id)(hty:typeOf (.builtin id)=pure (.type "method_descriptor"))(hm:MtR X id r)(ho:PE X o to)
  (FU:attributeBase o name X.env (eval o X.env)=eval o X.env:=by rfl) (Of:(apos.endLine == gI.line)=true:=by rfl):PE X (.Call (.Attribute o name apos) [] [] gI) (ais X.K T r to):=by
 intro pins s σ H Q I h;refine wpAny_Call_method0_late FU Of (thn (ho pins s σ H _ I h) λv s1 ⟨x,H1,I1,r1,ty,q1⟩=>?_)
 obtain⟨h1,h2⟩:=Od I1 r1 ty;exact⟨T,id,pa,slot,hty,h1,h2,Calls.callWith_builtin rfl (PySem.evalArgs_none (hm pins s1 σ H1 x [] v [] Q I1 r1 .nil q1))⟩
theorem gJ (pa:PlainAttrs T)(slot:Slot T name id)(hty:typeOf (.builtin id)=pure (.type "method_descriptor"))(hm:MtR X id r)(ho:PE X o to)(ha:PA X (e::es) t)
  (FU:attributeBase o name X.env (eval o X.env)=eval o X.env:=by rfl)
  (ait:((backTo gI (ak8 (e::es) X.env)).all (λx=>!x.1) && (backToKw gI (keywordEach [] X.env)).all (λx=>x.1.isSome)
   && decide ((e::es).length+([]:List Keyword).length+(if ([]:List Keyword).isEmpty then 0 else 1) < 30))=true:=by rfl)
  (Of:(apos.endLine == gI.line)=true:=by rfl) (hs:ak8 (e::es) X.env=(false,eval e X.env)::ak8 es X.env:=by rfl) (VE:(backTo gI (ak8 es X.env)).any (·.1)=false:=by rfl) :
  PE X (.Call (.Attribute o name apos) (e::es) [] gI) (tBM X.K T r to t):=by
 intro pins s σ H Q I h;refine wpAny_Call_method_late FU ait Of rfl (thn (ho pins s σ H _ I h) λv s1 ⟨x,H1,I1,r1,ty,q1⟩=>?_)
 obtain⟨h1,h2⟩:=Od I1 r1 ty;refine⟨T,id,pa,slot,hty,h1,h2,?_⟩;have hA:=ha gI pins s1 σ H1 _ I1 q1;rw[hs]at hA ⊢;refine Calls.callWith_builtin (by show (false || (backTo gI (ak8 es X.env)).any (·.1))=false;rw[VE] <;> rfl) (Calls.evalArgs_plain ?_)
 exact thn hA λus s2 ⟨vs,H2,I2,r2,q2⟩=>hm pins s2 σ H2 x vs v us Q I2 r1 r2 q2
end
def MtM (X:Cx)(id:String)(r:V->List V->Hp->VK->Prop):Prop :=
 ∀(pins:List (Addr×Obj)) (s:Shared) (σ:St) (H:Hp) (x:V) (xs:List V) (v:Value) (us:List Value) (Q:VK),Inv X pins σ H s->RelV x v->Vals xs us->r x xs H Q ->
  wpAny (model X.prog X.w) X.A (call (.builtin id) (v::us)) (EP X pins σ Q) X.xe s
theorem Vals.one:∀ {x:V} {us:List Value},Vals [x] us->∃u,us=[u]/\RelV x u
 |_,_,.cons r .nil=>⟨_,rfl,r⟩
theorem Vals.two:∀ {x y:V} {us:List Value},Vals [x,y] us->∃u v,us=[u,v]/\RelV x u/\RelV y v
 |_,_,_,.cons r (.cons q .nil)=>⟨_,_,rfl,r,q⟩
theorem Vals.zero:∀ {us:List Value},Vals [] us->us=[]
 |_,.nil=>rfl
theorem Vals.dropLast {xs:List V}{us:List Value}(h:Vals xs us):Vals xs.dropLast us.dropLast:=by
 induction h with
 |nil=>exact .nil
 |cons r t ih =>
  cases t with
  |nil=>exact .nil
  |cons q t'=>exact .cons r ih
theorem Vals.eraseIdx:∀ {xs:List V} {us:List Value} (i:Nat),Vals xs us->Vals (xs.eraseIdx i) (us.eraseIdx i)
 |_,_,_,.nil=>.nil
 |_,_,0,.cons _ t=>t
 |_,_,i+1,.cons r t=>.cons r (Vals.eraseIdx i t)
theorem Vals.rep {xs:List V}{us:List Value}(h:Vals xs us):∀k:Nat,Vals (List.replicate k xs).flatten (List.replicate k us).flatten
 | 0=>.nil
 |k+1=>by
  rw[List.replicate_succ,List.replicate_succ,List.flatten_cons,List.flatten_cons];exact Vals.append h (Vals.rep h k)
theorem JB {α:Type}(l:List α):l.eraseIdx (l.length - 1)=l.dropLast:=by
 induction l with
 |nil=>rfl
 |cons a r ih =>
  cases r with
  |nil=>rfl
  |cons b r =>
   have e:(a::b::r).length - 1=((b::r).length - 1)+1:=by
    have h1:(a::b::r).length=r.length+2:=rfl;have h2:(b::r).length=r.length+1:=rfl;omega
   rw[e,List.eraseIdx_cons_succ,ih]
   all_goals rfl
theorem Dm {α:Type}:∀(l:List α) (i:Nat),(l.eraseIdx i).length<=l.length
 |[],_=>kq _
 |_::_,0=>al1 _
 |_::r,i+1=>Nat.succ_le_succ (Dm r i)
section
variable{X:Cx}{pins:List (Addr×Obj)}{σ:St}{H:Hp}{s:Shared}{l b:Addr}{xs ys zs:List V}
theorem Inv.Og {its its':List Value}{n:Nat}{f:Array Value->Array Value}{t':Nat}(I:Inv X pins σ H s)(hH:H l=some (.lst xs))
  (e:s.heap.get? l=some { cls:=.type "list",data:=.seq its.toArray n }) (hf:f its.toArray=its'.toArray) (hv:Vals ys its') (hz:ys.length<=kg) :
  Inv X pins σ (upd H l (.lst ys)) { s with heap:=s.heap.update l (Obj.mapSeq f),toks:=t' }:=by
 have q:=PySem.IsL.update e f;rw[hf]at q;refine I.write (x:=l) (e:=l) (by rw[hH];exact trivial) (.inl rfl) (λb' u hb hu=>(alS s.heap (Obj.mapSeq f) (alr hb)).trans hu) ⟨_,q⟩ ?_
 exact⟨hz,its',_,hv,q⟩
theorem Inv.aan {its:List Value}{t':Nat}(I:Inv X pins σ H s)(hv:Vals ys its)(hz:ys.length<=kg) :
  Inv X pins σ (upd H s.heap.objs.size (.lst ys)) { s with heap:=s.heap.push { cls:=.type "list",data:=.seq its.toArray },toks:=t' } :=
 I.laid (λ_ _ q=>kf _ q) (kq _) ⟨hz,its,0,hv,alf _ rfl⟩
theorem Inv.fresh (I:Inv X pins σ H s):H s.heap.objs.size=none:=I.hok.fresh (kq _)
theorem Inv.FV (I:Inv X pins σ H s)(hH:H l=some (.lst xs)):xs.length<=kg/\∃(its:List Value) (n:Nat),Vals xs its/\xs.length=its.length/\s.heap.get? l=some { cls:=.type "list",data:=.seq its.toArray n }:=by
 obtain⟨z,its,n,r,e⟩:=I.hok l _ hH;exact⟨z,its,n,r,r.length,e⟩
theorem Oh {n:Nat}(h:n<=kg):Builtin.List.listTooLong n=false:=by
 unfold Builtin.List.listTooLong;exact decide_eq_false (by omega)
end
section
variable{X:Cx}
def Rx:V->List V->Hp->VK->Prop:=λx vs H Q=>∃l xs y,x=.ref l/\vs=[y]/\H l=some (.lst xs)/\xs.length < kg/\Q .non (upd H l (.lst (xs++[y])))
theorem dj:MtM X "list.append" Rx:=by
 intro pins s σ H x vs v us Q I rx rv h;obtain⟨l,xs,y,rfl,rfl,hH,hz,q⟩:=h;cases rx;obtain⟨u,rfl,ru⟩:=rv.one;obtain⟨z,its,n,r,hl,e⟩:=I.FV hH;refine call_meets F.slot_list_append ⟨_,e,rfl⟩ F.entry_list_append (F.args_list_append_2 _ _) (PySem.list_append l its.toArray n u (by rw[ky];omega)) ⟨e,?_⟩
 refine⟨.non,_,I.Og (its':=its++[u]) hH e (by simp) (r.append (.cons ru .nil)) ?_,rfl,q⟩
 rw[ma,ala];omega
def Ry:V->List V->Hp->VK->Prop:=λx vs H Q=>∃l b xs zs,x=.ref l/\vs=[.ref b]/\H l=some (.lst xs)/\H b=some (.lst zs)/\xs.length+zs.length<=kg/\Q .non (upd H l (.lst (xs++zs)))
theorem Dn:MtM X "list.extend" Ry:=by
 intro pins s σ H x vs v us Q I rx rv h;obtain⟨l,b,xs,zs,rfl,rfl,hH,hB,hz,q⟩:=h;cases rx;obtain⟨u,rfl,ru⟩:=rv.one;cases ru;obtain⟨z,its,n,r,hl,e⟩:=I.FV hH;obtain⟨z2,FT,n2,r2,hl2,e2⟩:=I.FV hB;have hsz:its.toArray.size+FT.toArray.size<=kg:=by rw[ky,ky];omega
 have aao:¬(!its.toArray.isEmpty && Builtin.List.listTooLong (its.toArray.size+FT.toArray.size))=true:=by
  rw[Oh hsz,Bool.and_false];exact kr
 refine call_meets F.slot_list_extend ⟨_,e,rfl⟩ F.entry_list_extend (F.args_list_extend_2 _ _)
  (AutoSeq1.list_extend_list_list_0 l its.toArray n b FT.toArray n2 aao (by rw[ky];omega) (by omega)) ⟨e,e2,?_⟩
 refine⟨.non,_,I.Og (its':=its++FT) hH e (by simp) (r.append r2) ?_,rfl,q⟩
 rw[ma];omega
def aiu:V->List V->Hp->VK->Prop:=λx vs H Q=>∃l xs y,x=.ref l/\vs=[]/\H l=some (.lst xs)/\xs[xs.length - 1]?=some y/\Q y (upd H l (.lst xs.dropLast))
theorem Oi:MtM X "list.pop" aiu:=by
 intro pins s σ H x vs v us Q I rx rv h;obtain⟨l,xs,y,rfl,rfl,hH,hy,q⟩:=h;cases rx;have hus:=rv.zero;subst hus;obtain⟨z,its,n,r,hl,e⟩:=I.FV hH;obtain⟨u,hu,ru⟩:=r.get hy;have hy':its.toArray[its.toArray.size - 1]?=some u:=by
  show its.toArray[its.length - 1]?=some u;rw[<-Array.getElem?_toList,<-hl];exact hu
 refine call_meets F.slot_list_pop ⟨_,e,rfl⟩ F.entry_list_pop (F.args_list_pop_1 _) (MeetsSeq.list_pop_last l its.toArray n u hy' (by rw[ky];omega)) ⟨e,?_⟩
 refine⟨y,_,I.Og (its':=its.dropLast) hH e ?_ r.dropLast ?_,ru,q⟩
 ·show its.toArray.eraseIdxIfInBounds (its.toArray.size - 1)=its.dropLast.toArray;rw[ky,List.eraseIdxIfInBounds_toArray,JB]
 ·rw[List.length_dropLast];omega
def VF:V->List V->Hp->VK->Prop:=λx vs H Q=>∃l xs i k y,x=.ref l/\vs=[.int i]/\H l=some (.lst xs)/\-(2 ^ 63)<=i/\i < 2 ^ 63/\seqIndex? i xs.length=some k/\xs[k]?=some y/\Q y (upd H l (.lst (xs.eraseIdx k)))
theorem Oj:MtM X "list.pop" VF:=by
 intro pins s σ H x vs v us Q I rx rv h;obtain⟨l,xs,i,k,y,rfl,rfl,hH,h1,h2,hk,hy,q⟩:=h;cases rx;obtain⟨u,rfl,ru⟩:=rv.one;obtain⟨t,rfl⟩:=ru;obtain⟨z,its,n,r,hl,e⟩:=I.FV hH;obtain⟨w,hw,rw'⟩:=r.get hy;refine call_meets F.slot_list_pop ⟨_,e,rfl⟩ F.entry_list_pop (F.args_list_pop_2 _ _)
  (MeetsSeq.list_pop_at l its.toArray n i t k w (fitsIndex_both h1 h2) (by rw[ky,<-hl];exact hk) (by rw[<-Array.getElem?_toList];exact hw) (by rw[ky];omega)) ⟨e,?_⟩
 refine⟨y,_,I.Og (its':=its.eraseIdx k) hH e ?_ (r.eraseIdx k) ?_,rw',q⟩
 ·show its.toArray.eraseIdxIfInBounds k=(its.eraseIdx k).toArray;rw[List.eraseIdxIfInBounds_toArray]
 ·have:=Dm xs k;omega
def aiv:R2:=λx y H Q=>∃l b xs zs,x=.ref l/\y=.ref b/\H l=some (.lst xs)/\H b=some (.lst zs)/\xs.length+zs.length<=kg/\∀p,H p=none->Q (.ref p) (upd H p (.lst (xs++zs)))
theorem VG:OpR X (binaryOp .Add) aiv:=by
 intro pins s σ H x y v u Q I rx ry h;obtain⟨l,b,xs,zs,rfl,rfl,hH,hB,hz,q⟩:=h;cases rx;cases ry;obtain⟨z,its,n,r,hl,e⟩:=I.FV hH;obtain⟨z2,FT,n2,r2,hl2,e2⟩:=I.FV hB;refine PySem.P.add_list e e2 ?_ (by rw[ky,ky];omega)
 have ea:its.toArray++FT.toArray=(its++FT).toArray:=by simp
 rw[ea];exact⟨.ref _,_,I.aan (t':=s.toks) (r.append r2) (by rw[ma];omega),rfl,q _ I.fresh⟩
end
end L2
namespace Att
open PySem PySem.W PySem.Calls PyProof.Rows
theorem zj {P:Params}{h:Heap}:∀(ns:List Int) (vs:List Value),WellAll P h vs (ns.map WData.int)->IntsAre vs ns:=by
 intro ns
 induction ns with
 |nil =>
  intro vs w;rw[alM]at w;cases w;exact .nil
 |cons n ns ih =>
  intro vs w;rw[km]at w;cases w with
  |cons a b =>
   cases a;exact .cons _ _ (ih _ b)
theorem MK {l:OpenLaw}{n:Nat}(hn:l.most=some n){P:Params}{h:Heap}{args:List WData}{vals:List Value}
  (Rz:l.row.toRowW.claim.pre args=true) (hwl:WellAll P h vals args) :
  ∃a vs ns,vals=[alc a]/\args=[WData.list (ns.map WData.int)]/\h.get? a=some { cls:=.type "list",data:=.seq vs.toArray }/\IntsAre vs ns/\ns.length<=n:=by
 have hsh:WShape.hasAll [] args [.list .int]=true:=(pre_splitW Rz).1;have hc:l.pre.holds [] { args:=args }=true:=(pre_splitW Rz).2;obtain⟨d,r,rfl,h1,h2⟩:=hasAllW_cons hsh;obtain rfl:=hasAllW_nil h2;obtain⟨xs,rfl,h3⟩:=hasW_list h1;obtain⟨ns,rfl⟩:=items_int h3;have hlen:ns.length<=n:=by
  unfold OpenLaw.pre at hc;have h4:(WTm.not (.lt (.lit (.int (n:Int))) (.len (.arg 0)))).holds [] { args:=[.list (ns.map .int)] }=true:=by
   have h4:=(holds_andW hc).1;rw[hn]at h4;exact h4
  have h5:=condW_of h4 (w_not (w_lt w_lit (w_len_list (w_arg rfl))));rw[bo]at h5;refine Nat.le_of_not_lt λq=>?_
  have q':(n:Int) < ((ns.length:Nat):Int):=by omega
  first
   | (rw[decide_eq_true q']at h5;exact absurd h5 (by decide))
   | (simp at h5;omega)
 cases hwl with
 |cons w1 w2 =>
  cases w2;cases w1 with
  |list ho VH=>exact⟨_,_,ns,rfl,rfl,ho,zj ns _ VH,hlen⟩
theorem ML (l:OpenLaw)(args:List WData):l.row.toRowW.claim.post args (.bool true) args=true :=
 postW_of (r:=l.row.toRowW) (X:=(true == true))
  (show WShape.has [] (.bool true) .bool=true by first | rfl | decide | simp[WShape.has,WShape.arms,WShape.armsAll])
  (show (WTm.eq .res (.lit (.bool true))).value [] { args:=args,res:=some (.bool true),after:=args }=some (.bool (true == true)) from w_eq_bool (w_res rfl) w_lit) rfl
theorem FW {l:OpenLaw}{n:Nat}{q:rf}{loose:List Str}{XP:(Str->Option Value)->Heap->Prop}{YP:World->Heap->Prop}{d:DefRec}
  (hn:l.most=some n) (hdf:d.params.defaults=[])
  (call:∀(w:World) (s₀ s₁:Shared) (mg mb:Str->Option Value) (fa:Addr) (o:Obj) (pm cd doc:Value) (a:Addr) (vs:List Value) (ns:List Int),
   Ground q loose [] XP w s₀ mg mb s₁.heap->YP w s₁.heap ->
   s₁.heap.get? fa=some o->o.data=.func (docDef d.name d.params d.body d.scope pm cd doc)->s₁.heap.CodeRec cd d.name->mg d.name=some (.ref fa) ->
   s₁.heap.get? a=some { cls:=.type "list",data:=.seq vs.toArray }->IntsAre vs ns->ns.length<=n->s₁.gens=#[] ->
   codeAny (model l.prog w) callerA (.call (.ref fa) ⟨[.ref a],[]⟩) (λr s'=>r=.ok (.ret (.bool true))/\OldK s₁.heap s'.heap/\s'.os=s₁.os/\AllBare s'.gens) s₁) :
  WalkO q loose XP YP l.row.toRowW d [] (λf vs=>PySem.call f vs):=by
 intro w s₀ s₁ mg mb G Y fa o pm cd doc dV kV ho hd hcd hD hmg hg args vals as Rz akN hrd hwl hlo;obtain rfl:dV=.none:=Dflts.none hD hdf;obtain rfl:kV=.none:=Dflts.noKw hD;obtain⟨a,vs,ns,rfl,rfl,VI,hints,hlen⟩:=MK hn Rz hwl;refine enter_call (codeAny_mono (call w s₀ s₁ mg mb fa o pm cd doc a vs ns G Y ho (fd_plain hd) hcd hmg VI hints hlen hg) λr s' hq=>?_)
 obtain⟨rfl,h2,h3,h4⟩:=hq;exact⟨.inl ⟨.bool true,.bool true,[],rfl,λ_=>rfl,.bool true,ML l _,λ_=>⟨List.Pairwise.nil,λ_ hm=>(nomatch hm)⟩⟩,h2,h3,h4⟩
section
variable{prog:rf}{w:World}{A:Around}{E:Value->Shared->Prop}{s:Shared}{K:Frag}
def ledger (h:Heap)(L d:Addr):List (Addr×Obj):=(List.range h.objs.size).filterMap λa=>if a=L\/a=d then none else (h.get? a).map λo=>(a,o)
end
end Att
namespace L2
open PySem PySem.Spec PyProof.Rows
theorem Dp:∀ {vs:List Value} {ns:List Int},IntsAre vs ns->Vals (ns.map V.int) vs
 |_,_,.nil=>.nil
 |_,_,.cons n t h=>.cons ⟨t,rfl⟩ (Dp h)
def VJ (H:Hp):Prop:=∀b,H b=none\/∃o xs,H b=some (.frz o (.lst xs))
theorem Ol {P:rf}{w:World}{K:ba}{mg mb:Str->Option Value}{CX:CXT}{k:Nat}{fa a:Addr}{fd:kj}{x:Str}{sp:Sp}{s₁:Shared}{vs:List Value}{ns:List Int}
  (KX:K.In s₁.heap) (hns:s₁.heap.Ns ka mg) (hb:s₁.heap.Ns builtinsNs mb) (hbb:∀x:Str,x≠"__name__"->mb x=al8 x) (aiw:s₁.heap.NoLimit) (hg:s₁.gens=#[])
  (ha:s₁.heap.get? a=some { cls:=.type "list",data:=.seq vs.toArray }) (hi:IntsAre vs ns) (hl:ns.length<=kg) (hr:Room k callerA)
  (F:∀base:Heap,K.In base->base.Ns ka mg->a8 P w K mg base CX k fa fd [x] sp) (aap:∀(s:Shared) (u:Value),BindsTo s fd ⟨[u],[]⟩ [(x,u)])
  (hsp:∀H:Hp,VJ H->SqL K H a (ns.map V.int)->sp [.ref a] H (λv _=>v=.bl true) λ_ _ _=>False)
  (hCX:∀H e s',CX [] H s₁ (λ_ _ _=>False) e s'->False) :
  codeAny (model P w) callerA (.call (.ref fa) ⟨[.ref a],[]⟩) (λr s'=>r=.ok (.ret (.bool true))/\OldK s₁.heap s'.heap/\s'.os=s₁.os/\AllBare s'.gens) s₁:=by
 have rv:=Dp hi;have aix:=hi.length;have core:∀H:Hp,VJ H->SqL K H a (ns.map V.int)->HOk P w H s₁.heap->(∀b,H b≠none->b=a)->(H a≠none->K.lookup a=none) ->
   codeAny (model P w) callerA (.call (.ref fa) ⟨[.ref a],[]⟩) (λr s'=>r=.ok (.ret (.bool true))/\OldK s₁.heap s'.heap/\s'.os=s₁.os/\AllBare s'.gens) s₁:=by
  intro H hO hS hok hA hK;have LM:∀ {b:Addr} {o:Obj},s₁.heap.get? b=some o->H b=none->(Ej s₁.heap H).get? b=some o:=λe n=>NZ e n
  have noA:∀ {b:Addr} {o:Obj} {es:Array al3} {ep:Nat},s₁.heap.get? b=some o->o.data=.dict es ep->H b=none:=λ{b o es ep} e d=>by
   cases q:H b with
   |none=>rfl
   |some u =>
    have e':b=a:=hA b (by rw[q];simp)
    subst e';rw[ha]at e;cases e;have d':Data.seq vs.toArray _=Data.dict es ep:=d;cases d'
  have nsK:∀ {b:Addr} {m:Str->Option Value},s₁.heap.Ns b m->(Ej s₁.heap H).Ns b m:=λ{b m} ⟨o,es,ep,e,d,r⟩=>⟨o,es,ep,LM e (noA e d),d,r⟩
  have hKb:K.In (Ej s₁.heap H):=λb o e=>LM (KX b o e) (by
   cases q:H b with
   |none=>rfl
   |some u =>
    have e':b=a:=hA b (by rw[q];simp)
    subst e';rw[hK (by rw[q];simp)]at e;cases e)
  have hM:Mod K mg (Ej s₁.heap H):=⟨hKb,nsK hns,⟨mb,nsK hb,hbb⟩,let ⟨mc,h1,h2⟩:=aiw;⟨mc,nsK h1,h2⟩⟩
  have e0:CJ P w K mg (Ej s₁.heap H) callerA [] s₁ H:=⟨rfl,hM,λb o e=>Rj e,Nat.le_of_eq (MD _ _),trivial,λb hb=>absurd (show b∈([]:List Addr) from hb) (by simp),hok,.of_eq hg⟩
  refine codeAny_mono ((F _ hKb (nsK hns)).run callerA [] s₁ H ⟨[.ref a],[]⟩ [.ref a] [.ref a] _ _ hr e0 (aap s₁ (.ref a)) (.cons rfl .nil) (hsp H hO hS)) λr s' h=>?_
  cases r with
  |error e=>exact(hCX H e s' h).elim
  |ok fl =>
   cases fl with
   |next=>exact als h
   |brk=>exact als h
   |cont=>exact als h
   |ret u =>
    obtain⟨v,H',os,bare,un,aiy,r',q⟩:=h;have q':v=.bl true:=q;subst q';obtain rfl:u=Value.bool true:=r';refine⟨rfl,OldK.of_keep λb o e=>?_,os,bare⟩
    cases q:H b with
    |none=>exact un.keep b o e q (by intro z;exact absurd (show b∈([]:List Addr) from z) (by simp)) (by simp)
    |some u =>
     rcases hO b with z | ⟨ob,xs,z⟩
     ·rw[q]at z;cases z
     ·have z2:=un.uC b ob _ z;obtain⟨e1,_⟩:=hok b _ z;obtain⟨e2,_⟩:=aiy b _ z2;rw[e]at e1;cases e1;exact e2
 cases hk:K.lookup a with
 |some o =>
  have e:=KX a o hk;rw[ha]at e;cases e;refine core (λ_=>none) (λ_=>.inl rfl) (.inr ⟨_,vs.toArray,_,hk,rfl,rfl,rfl,by rw[ky,aix];exact hl,by simpa using rv⟩) (λb u z=>by have z':(none:Option HO)=some u:=z;cases z') (λb z=>absurd rfl z) λz=>absurd rfl z
 |none =>
  refine core (λb=>if b=a then some (.frz { cls:=.type "list",data:=.seq vs.toArray } (.lst (ns.map V.int))) else none) (λb=>?_) (.inl (.inr ⟨{ cls:=.type "list",data:=.seq vs.toArray },if_pos rfl⟩)) (λb u z=>?_) (λb z=>?_) λ_=>hk
  ·by_cases hb:b=a
   ·exact .inr ⟨_,_,if_pos hb⟩
   ·exact .inl (if_neg hb)
  ·by_cases hb:b=a
   ·have z':=(if_pos hb).symm.trans z;cases z';subst hb;exact⟨ha,by rw[bo];exact hl,vs,_,rv,ha⟩
   ·have z':=(if_neg hb).symm.trans z;cases z'
  ·by_cases hb:b=a
   ·exact hb
   ·exact absurd (if_neg hb) z
theorem RA {l:PySem.W.OpenLaw}{n k:Nat}{q:rf}{loose:List Str}{XP:(Str->Option Value)->Heap->Prop}{YP:World->Heap->Prop}{d:DefRec}{K:Params->ba}{CX:World->CXT}{sp:World->Sp}{x:Str}
  (hn:l.most=some n) (hn2:n<=kg) (hdf:d.params.defaults=[]) (hr:Room k callerA)
  (hY:∀(w:World) (h:Heap),YP w h->(K w.params).In h)
  (F:∀(w:World) (mg:Str->Option Value) (fa:Addr) (h:Heap),(K w.params).In h->h.Ns ka mg->mg d.name=some (.ref fa) ->
   ∃fd:kj,(∀(s:Shared) (u:Value),BindsTo s fd ⟨[u],[]⟩ [(x,u)]) /\
    ∀base:Heap,(K w.params).In base->base.Ns ka mg->a8 l.prog w (K w.params) mg base (CX w) k fa fd [x] (sp w))
  (hsp:∀(w:World) (H:Hp) (a:Addr) (ns:List Int),ns.length<=n->VJ H->SqL (K w.params) H a (ns.map V.int)->sp w [.ref a] H (λv _=>v=.bl true) λ_ _ _=>False)
  (hCX:∀(w:World) (H:Hp) (s:Shared) (e:Value) (s':Shared),CX w [] H s (λ_ _ _=>False) e s'->False) :
  PySem.W.WalkO q loose XP YP l.row.toRowW d [] (λf vs=>PySem.call f vs):=by
 refine Att.FW hn hdf λw s₀ s₁ mg mb fa o pm cd doc a vs ns G Y ho hd hcd hmg VI hints hlen hg=>?_
 have KX:=hY w _ Y;obtain⟨fd,hb,hF⟩:=F w mg fa _ KX G.T.g hmg;exact Ol KX G.T.g G.T.b G.T.builtins G.T.nolimit hg VI hints (ak3 hlen hn2) hr hF hb (λH hO hS=>hsp w H a ns hlen hO hS) λH e s'=>hCX w H s₁ e s'
def inClass (s:Stmt)(j:Nat):Stmt:=match s with
 | .ClassDef _ _ _ body _ _ _ _ _ _ _=>body.getD j (.Pass ⟨0,0,0,0⟩)
 |_=>.Pass ⟨0,0,0,0⟩
def aS (s:Stmt):Arguments:=match s with
 | .FunctionDef _ a _ _ _ _ _ _ _ _=>a
 |_=>{ posonlyargs:=[],args:=[],vararg:=none,kwonlyargs:=[],kw_defaults:=[],kwarg:=none,defaults:=[] }
def aO (s:Stmt):List Stmt:=match s with
 | .FunctionDef _ _ b _ _ _ _ _ _ _=>b
 |_=>[]
def ah (s:Stmt):Scope:=match s with
 | .FunctionDef _ _ _ _ _ _ sc _ _ _=>sc
 |_=>{ kind:=.function,names:=[],isGenerator:=false,isCoroutine:=false }
abbrev CX0:CXT:=λ_ _ _ _ _ _=>False
abbrev E0:XK:=λ_ _ _=>False
theorem aW {X:Cx}:Passes CX0 X E0:=λ_ _ _ _ _ _ _ h=>h.elim
structure Fun (K:ba)(x qual:Str)(st:Stmt)(f:Addr)(fd:kj):Prop where
 ex:∃(oc:Value) (od:Option Addr) (kV doc pm:Value) (an:Option Addr) (cdv ct:Value) (osl:Array (Option Value)),
  fd=fu x qual (aS st) (aO st) (ah st) .none kV doc pm an cdv ct/\K.lookup f=some ⟨oc,od,.func fd,osl⟩/\de K cdv qual=true
 kp:da K (.ref f)=true
section
variable{P:rf}{w:World}{K:ba}{mg:Str->Option Value}{base:Heap}
theorem Fun.ok {x qual:Str}{st:Stmt}{f:Addr}{fd:kj}{N ps:List Str}{k:Nat}{sp:Sp}(F:Fun K x qual st f fd)(S:aQ N ps (ah st))(len:∀vs H Q E,sp vs H Q E->vs.length=ps.length)
  (FQ:∀(cdv:Value) (A:Around) (outer:List Env) (s:Shared) (H:Hp) (vs:List V) (Q:VK) (E:XK),Room k (A.deeper (envOfC qual (ah st) s.heap.objs.size f cdv))->sp vs H Q E ->
   ∃t,PSs (bF CX0 P w K mg base N qual (ah st) f cdv A outer s H E).nox (aO st) t/\t { nx:=λ_ H'=>Q .non H',rt:=Q } (start N vs) H):a8 P w K mg base CX0 (k+1) f fd ps sp:=by
 obtain⟨oc,od,kV,doc,pm,an,cdv,ct,osl,rfl,lk,hcd⟩:=F.ex;refine TM lk hcd S len λA outer s H vs Q E hr hsp=>?_
 obtain⟨t,h,q⟩:=FQ cdv A outer s H vs Q E hr hsp;exact⟨t,h.nox,q⟩
theorem Fun.binds {x qual:Str}{st:Stmt}{f:Addr}{fd:kj}{ps:List Str}(F:Fun K x qual st f fd)
  (h:∀(kV doc pm:Value) (an:Option Addr) (cdv ct:Value) (us:List Value),us.length=ps.length->bindArgs (fu x qual (aS st) (aO st) (ah st) .none kV doc pm an cdv ct) ⟨us,[]⟩=pure (ps.zip us)):Binds K fd ps []:=by
 obtain⟨oc,od,kV,doc,pm,an,cdv,ct,osl,rfl,lk,hcd⟩:=F.ex;exact .all (h kV doc pm an cdv ct)
theorem aZ {x qual:Str}{st:Stmt}{f:Addr}{oc:Value}{od an:Option Addr}{osl:Array (Option Value)}{kV doc pm cdv ct:Value}(l:K.lookup f=some ⟨oc,od,.func (fu x qual (aS st) (aO st) (ah st) .none kV doc pm an cdv ct),osl⟩)
  (c:de K cdv qual=true) (k:da K (.ref f)=true):Fun K x qual st f (fu x qual (aS st) (aO st) (ah st) .none kV doc pm an cdv ct):=⟨⟨oc,od,kV,doc,pm,an,cdv,ct,osl,rfl,l,c⟩,k⟩
end
section
variable{X:Cx}
theorem pv (i:Nat){x:Str}{pos:Pos}(hN:X.N[i]?=some x:=by rfl)(hv:Vis X.env.scope x:=by first | exact tm rfl | exact Or.inr (tm rfl) | exact Or.inr (Or.inr rfl))(hd:(x == ("__debug__":Str))=false:=by decide)
  (hcd:(x == ("__classdict__":Str))=false:=by decide):PE X (.Name x pos) (Z0 i):=Vo hN hv hd hcd
end
theorem bM {A B:Prop}(h:B):if false=true then A else B:=by
 rw[if_neg kr];exact h
theorem cN {A B:Prop}(h:A):if true=true then A else B:=by
 rw[if_pos rfl];exact h
theorem fD {c A B:Prop}[Decidable c](h1:c->A)(h2:¬c->B):if c then A else B:=by
 by_cases h:c
 ·rw[if_pos h];exact h1 h
 ·rw[if_neg h];exact h2 h
def bw (H H':Hp):Prop:=∀b o,H b=some o->H' b=some o
theorem bw.refl (H:Hp):bw H H:=λ_ _ h=>h
theorem bw.trans {H H1 H2:Hp}(a:bw H H1)(b:bw H1 H2):bw H H2:=λc o h=>b c o (a c o h)
theorem bw.free {H H':Hp}(e:bw H H'){l:Addr}(h:H' l=Option.none):H l=Option.none:=by
 cases q:H l with
 |none=>rfl
 |some o =>
  rw[e l o q]at h;cases h
theorem bw.seq {K:ba}{H H':Hp}{a:Addr}{xs:List V}(e:bw H H')(h:SqL K H a xs):SqL K H' a xs:=by
 rcases h with (h | ⟨o,h⟩) | h
 ·exact .inl (.inl (e _ _ h))
 ·exact .inl (.inr ⟨o,e _ _ h⟩)
 ·exact .inr h
theorem jK:al8 "len"=some (.builtin "len"):=by trivial
theorem AV:al8 "max"=some (.builtin "max"):=by trivial
theorem VL:al8 "any"=some (.builtin "any"):=by trivial
theorem Om:al8 "int"=some (.type "int"):=by trivial
theorem Oo:al8 "str"=some (.type "str"):=by trivial
theorem qu:al8 "list"=some (.type "list"):=by trivial
mutual
def DV (K:ba)(H:Hp):PyData->V->Prop
 | .none,x=>x=.non
 | .bool b,x=>x=.bl b
 | .int i,x=>x=.int i
 | .str y,x=>x=.str y
 | .list ds,x=>∃a xs,x=.ref a/\SqL K H a xs/\DVs K H ds xs
 | .tuple ds,x=>∃a xs,x=.ref a/\SqT K H a xs/\DVs K H ds xs
 | .dict _,_=>False
def DVs (K:ba)(H:Hp):List PyData->List V->Prop
 |[],xs=>xs=[]
 |d::ds,xs=>∃x r,xs=x::r/\DV K H d x/\DVs K H ds r
end
section
variable{X:Cx}{pins:List (Addr×Obj)}{σ:St}{H:Hp}{s:Shared}
mutual
theorem DV.reads (I:Inv X pins σ H s):∀(d:PyData) {x:V} {u:Value},DV X.K H d x->RelV x u->∃as,Reads s.heap u d as
 | .none,_,_,h,r=>by
  have h':=h;unfold DV at h';subst h';cases r;exact⟨_,.none⟩
 | .bool b,_,_,h,r=>by
  have h':=h;unfold DV at h';subst h';cases r;exact⟨_,.bool b⟩
 | .int i,_,_,h,r=>by
  have h':=h;unfold DV at h';subst h';obtain⟨t,rfl⟩:=r;exact⟨_,.int i t⟩
 | .str y,_,_,h,r=>by
  have h':=h;unfold DV at h';subst h';obtain⟨t,rfl⟩:=r;exact⟨_,.str y t⟩
 | .list ds,_,_,h,r=>by
  have h':=h;unfold DV at h';obtain⟨a,xs,rfl,hq,hs⟩:=h';cases r;obtain⟨its,rv,⟨o,n,e,c,_,dt⟩,_⟩:=I.list hq;obtain⟨as,q⟩:=DVs.reads I ds hs rv;exact⟨_,.list e c dt (by simpa using q)⟩
 | .tuple ds,_,_,h,r=>by
  have h':=h;unfold DV at h';obtain⟨a,xs,rfl,hq,hs⟩:=h';cases r;obtain⟨its,rv,⟨o,e,c,n,dt⟩,_⟩:=I.tuple hq;obtain⟨as,q⟩:=DVs.reads I ds hs rv;exact⟨_,.tuple e c dt (by simpa using q)⟩
 | .dict _,_,_,h,_=>by
  have h':=h;unfold DV at h';exact h'.elim
theorem DVs.reads (I:Inv X pins σ H s):∀(ds:List PyData) {xs:List V} {us:List Value},DVs X.K H ds xs->Vals xs us->∃as,ReadsAll s.heap us ds as
 |[],_,_,h,r=>by
  have h':=h;unfold DVs at h';subst h';cases r;exact⟨_,.nil⟩
 |d::ds,_,_,h,r=>by
  have h':=h;unfold DVs at h';obtain⟨x,q,rfl,h1,h2⟩:=h';cases r with
  |cons r1 r2 =>
   obtain⟨as,e1⟩:=DV.reads I d h1 r1;obtain⟨bs,e2⟩:=DVs.reads I ds h2 r2;exact⟨_,.cons e1 e2⟩
end
def aiz (K:ba):R2:=λx y H Q=>∃d e,DV K H d x/\DV K H e y/\amd d=true/\amd e=true/\Q (.bl (alP d e)) H
def aiA (K:ba):R2:=λx y H Q=>∃d e,DV K H d x/\DV K H e y/\amd d=true/\amd e=true/\Q (.bl (!alP d e)) H
theorem qv (hu:X.A.units+64 < cLine):OpR X (al6 .Eq) (aiz X.K):=by
 intro pins s σ H x y v u Q I rx ry h;obtain⟨d,e,hd,he,sd,se,q⟩:=h;obtain⟨as,r1⟩:=DV.reads I d hd rx;obtain⟨bs,r2⟩:=DV.reads I e he ry;exact eq_dataH r1 r2 sd se hu ⟨.bl _,H,I,rfl,q⟩
theorem uG (hu:X.A.units+64 < cLine):OpR X (al6 .NotEq) (aiA X.K):=by
 intro pins s σ H x y v u Q I rx ry h;obtain⟨d,e,hd,he,sd,se,q⟩:=h;obtain⟨as,r1⟩:=DV.reads I d hd rx;obtain⟨bs,r2⟩:=DV.reads I e he ry;exact ne_dataH r1 r2 sd se hu ⟨.bl _,H,I,rfl,q⟩
end
theorem FX (K:ba)(H:Hp):∀ws:List Str,DVs K H (ws.map alL) (ws.map V.str)
 |[]=>by unfold DVs;rfl
 |w::ws=>by
  show DVs K H (alL w::ws.map alL) _;unfold DVs;exact⟨_,_,rfl,by unfold DV;rfl,FX K H ws⟩
theorem LN {K:ba}{H:Hp}{a:Addr}{ws:List Str}(h:SqL K H a (ws.map V.str)):DV K H (.list (ws.map alL)) (.ref a):=by
 unfold DV;exact⟨a,_,rfl,h,FX K H ws⟩
theorem yN:∀ws:List Str,(∀w∈ws,alB w=true)->ald (ws.map alL)=true
 |[],_=>by simp[ald]
 |w::ws,h=>by
  simp only[km,ald,ak6,alW];exact⟨h w gr,yN ws λv hv=>h v (me _ hv)⟩
theorem AW:∀ws:List Str,alA (ws.map alL)<=1
 |[]=>by simp[alA]
 |w::ws=>by
  have:=AW ws;simp only[km,alA,alN];omega
theorem AX:∀ {ys:List Str} {us:List Value},Vals (ys.map V.str) us->StrsAre us ys
 |[],_,.nil=>.nil
 |y::ys,_,.cons r t=>by
  obtain⟨tk,rfl⟩:=r;exact .cons y tk (AX t)
theorem rM:∀l:List (Str×Tok),Vals ((l.map (·.1)).map V.str) (strValues l)
 |[]=>.nil
 |p::l=>.cons ⟨p.2,rfl⟩ (rM l)
section
variable{X:Cx}
def rJoin (K:ba):V->List V->Hp->VK->Prop:=λx vs H Q=>∃sep a ys,x=.str sep/\vs=[.ref a]/\SqL K H a (ys.map V.str)/\(ys.map (·.length)).sum+ys.length * sep.length<=16777216/\Q (.str (tu sep ys)) H
theorem Ew:MtR X "str.join" (rJoin X.K):=by
 intro pins s σ H x vs v us Q I rx rv h;obtain⟨sep,a,ys,rfl,rfl,hq,hz,q⟩:=h;obtain⟨t,rfl⟩:=rx;obtain⟨u,rfl,ru⟩:=rv.one;cases ru;obtain⟨its,r,pl,_⟩:=I.list hq;refine join_list pl.isList (AX (by simpa using r)) hz λt' k=>?_
 rw[show Txt.join sep ys=tu sep ys from StrLaws.glued_eq_join sep ys]
 exact⟨.str _,H,I.tok _,⟨_,rfl⟩,q⟩
def VM:V->List V->Hp->VK->Prop:=λx vs H Q=>∃z y,x=.str z/\vs=[.str y]/\(y.length == 0)=false/\z.length+2<=kg/\∀p,H p=none->Q (.ref p) (upd H p (.lst ((Txt.split z y).map V.str)))
theorem FY:MtR X "str.split" VM:=by
 intro pins s σ H x vs v us Q I rx rv h;obtain⟨x,y,rfl,rfl,hy,hsz,q⟩:=h;obtain⟨t,rfl⟩:=rx;obtain⟨_,rfl,u,rfl⟩:=rv.one;have hn:(Builtin.Str.partsBetween x (amg x y 0 x.length (x.length+1)) y.length).length<=kg:=by
  have e1:=StrLaws.occ_length_le x y 0 x.length (x.length+1);rw[length_partsBetween];omega
 have fin:∀(l:List (Str×Tok)) (tk:Nat),l.map (·.1)=Txt.split x y->(Txt.split x y).length<=kg ->
   EP X pins σ Q (.ref s.heap.objs.size) { s with heap:=s.heap.push { cls:=.type "list",data:=.seq (strValues l).toArray },toks:=tk }:=λl tk e hz=>by
  refine⟨.ref _,_,I.aan (t':=tk) (ys:=(Txt.split x y).map V.str) (by rw[<-e];exact rM l) (by rw[bo];exact hz),rfl,q _ I.fresh⟩
 have aaq:1<=kg:=by omega
 cases h1:(decide (x.length < y.length) || decide (Builtin.Str.strKind x < Builtin.Str.strKind y))
 ·cases hf:(amg x y 0 x.length (x.length+1)).isEmpty
  ·refine call_meets F.slot_str_split (typeIs_str _ _ _) F.entry_str_split (F.args_str_split_2 _ _) (meets_str_split_sep x y t u h1 hy hf (by omega) hn) ?_
   have e:Txt.split x y=Builtin.Str.partsBetween x (amg x y 0 x.length (x.length+1)) y.length:=(if_neg (ne_true_of_eq_false h1)).trans (if_neg (ne_true_of_eq_false hf));show wants (EP X pins σ Q) X.xe _ { s with toks:=_,heap:=s.heap.push { cls:=.type "list",data:=.seq (strsFrom s.toks (Builtin.Str.partsBetween x (amg x y 0 x.length (x.length+1)) y.length)).toArray } }
   rw[strsFrom_eq];exact fin (numbered s.toks _) _ ((numbered_texts _ _).trans e.symm) (by rw[e];exact hn)
  ·have e:Txt.split x y=[x]:=(if_neg (ne_true_of_eq_false h1)).trans (if_pos hf);exact call_meets F.slot_str_split (typeIs_str _ _ _) F.entry_str_split (F.args_str_split_2 _ _) (meets_str_split_not_found x y t u h1 hy hf)
    (fin [(x,t)] s.toks e.symm (by rw[e];exact aaq))
 ·have e:Txt.split x y=[x]:=if_pos h1;exact call_meets F.slot_str_split (typeIs_str _ _ _) F.entry_str_split (F.args_str_split_2 _ _) (meets_str_split_cannot_occur x y t u h1)
   (fin [(x,t)] s.toks e.symm (by rw[e];exact aaq))
theorem Ao:OpR X (binaryOp .Add) (λx y H Q=>∃l b xs zs,x=.ref l/\y=.ref b/\H l=some (.lst xs)/\H b=some (.lst zs)/\xs.length+zs.length<=kg/\∀p,H p=none->Q (.ref p) (upd H p (.lst (xs++zs)))):=VG
end
theorem fH (a b:Str):(a++b).cps.toList=a.cps.toList++b.cps.toList:=by
 show (a.cps++b.cps).toList=_;simp
theorem FZ (c:Nat):∀(a b p q:List Nat),c∉a->c∉b->a++c::p=b++c::q->a=b/\p=q
 |[],[],p,q,_,_,e=>by simpa using e
 |[],y::b,p,q,_,hb,e=>by
  have e':c::p=y::(b++c::q):=e;injection e' with e1 _
  exact absurd (by rw[e1];exact gr) hb
 |x::a,[],p,q,ha,_,e=>by
  have e':x::(a++c::p)=c::q:=e;injection e' with e1 _
  exact absurd (by rw[<-e1];exact gr) ha
 |x::a,y::b,p,q,ha,hb,e=>by
  have e':x::(a++c::p)=y::(b++c::q):=e;injection e' with e1 e2
  obtain⟨h1,h2⟩:=FZ c a b p q (λh=>ha (me _ h)) (λh=>hb (me _ h)) e2
  exact⟨by rw[e1,h1],h2⟩
theorem Ex {a b:Str}(h:a.cps.toList=b.cps.toList):a=b:=by
 cases a;cases b;have:=Array.toList_inj.mp h;subst this;rfl
theorem jL (c:Nat)(x y:Str)(r:List Str):(tu ⟨#[c]⟩ (x::y::r)).cps.toList=x.cps.toList++c::(tu ⟨#[c]⟩ (y::r)).cps.toList:=by
 show ((x++⟨#[c]⟩)++tu ⟨#[c]⟩ (y::r)).cps.toList=_;rw[fH,fH];simp
theorem F0 (c:Nat):∀(vs ws:List Str),vs≠[]->ws≠[]->(∀v∈vs,c∉v.cps.toList)->(∀w∈ws,c∉w.cps.toList)->tu ⟨#[c]⟩ vs=tu ⟨#[c]⟩ ws->vs=ws
 |[],_,h,_,_,_,_=>absurd rfl h
 |_,[],_,h,_,_,_=>absurd rfl h
 |[x],[y],_,_,_,_,e=>by rw[show x=y from e]
 |[x],y::z::r,_,_,hv,_,e=>by
  have e1:=congrArg (λt:Str=>t.cps.toList) e
  have e2:x.cps.toList=y.cps.toList++c::(tu ⟨#[c]⟩ (z::r)).cps.toList:=e1.trans (jL c y z r);exact absurd (by rw[e2];exact kx _ gr) (hv x gr)
 |x::z::r,[y],_,_,_,hw,e=>by
  have e1:=congrArg (λt:Str=>t.cps.toList) e
  have e2:x.cps.toList++c::(tu ⟨#[c]⟩ (z::r)).cps.toList=y.cps.toList:=(jL c x z r).symm.trans e1;exact absurd (by rw[<-e2];exact kx _ gr) (hw y gr)
 |x::x2::r,y::y2::q,_,_,hv,hw,e=>by
  have e1:=congrArg (λt:Str=>t.cps.toList) e
  have e2:=(jL c x x2 r).symm.trans (e1.trans (jL c y y2 q));obtain⟨h1,h2⟩:=FZ c _ _ _ _ (hv x gr) (hw y gr) e2;have h3:=F0 c (x2::r) (y2::q) (alv _ _) (alv _ _) (λv h=>hv v (me _ h)) (λw h=>hw w (me _ h)) (Ex h2)
  rw[Ex h1,h3]
theorem Oq (x y:Str):Txt.split x y≠[]:=by
 unfold Txt.split;split
 ·exact alv _ _
 ·split
  ·exact alv _ _
  ·rw[StrLaws.partsBetween_eq];intro h;have:=congrArg List.length h;revert this;cases (amg x y 0 x.length (x.length+1)) <;> simp[StrLaws.partsFrom]
theorem JC {c:Nat}{ws:List Str}(h0:ws≠[])(h:∀w∈ws,c∉w.cps.toList):Txt.split (tu ⟨#[c]⟩ ws) ⟨#[c]⟩=ws :=
 F0 c _ _ (Oq _ _) h0 (StrLaws.split_free _ c) h (StrLaws.join_split _ _)
theorem tO (c:Nat):∀ws:List Str,(tu ⟨#[c]⟩ ws).length<=(ws.map (·.length)).sum+ws.length
 |[]=>alX _
 |[x]=>by show x.length<=_;simp
 |x::y::r=>by
  have ih:=tO c (y::r);have e:(tu ⟨#[c]⟩ (x::y::r)).length=x.length+1+(tu ⟨#[c]⟩ (y::r)).length:=by
   have:=congrArg List.length (jL c x y r);rw[ma,alb]at this;have l1:∀z:Str,z.cps.toList.length=z.length:=λz=>by simp[Str.length]
   rw[l1,l1,l1]at this;omega
  simp only[km,List.sum_cons,alb]at ih ⊢;omega
theorem CL {c:Nat}:∀ {ws:List Str},ws≠[]->(∀w∈ws,1<=w.length)->1<=(tu ⟨#[c]⟩ ws).length
 |[],h,_=>absurd rfl h
 |[x],_,h=>h x gr
 |x::y::r,_,h=>by
  have h1:=h x gr;have:=congrArg List.length (jL c x y r);rw[ma]at this;have l1:∀z:Str,z.cps.toList.length=z.length:=λz=>by simp[Str.length]
  rw[l1,l1]at this;omega
theorem yO {b:Bool}{A B:Prop}(hb:b=true)(h:A):if b=true then A else B:=by
 subst hb;exact cN h
theorem yP {b:Bool}{A B:Prop}(hb:b=false)(h:B):if b=true then A else B:=by
 subst hb;exact bM h
theorem aG {H:Hp}{p:Addr}{o:HO}(h:H p=none):bw H (upd H p o):=λb u e=>by
 rw[av (aI e h)];exact e
theorem bw.own {H H':Hp}{p:Addr}{o:HO}(s:bw H H')(h:H p=none):bw H (upd H' p o):=λb u e=>by
 rw[av (aI e h)];exact s b u e
theorem bw.new {H H':Hp}{p:Addr}{o:HO}(s:bw H H')(h:H' p=none):bw H (upd H' p o):=s.trans (aG h)
theorem bw.nn {H H':Hp}(s:bw H H'){p:Addr}{o:HO}(h:H p=none)(e:H' p=some o){b:Addr}{u:HO}(eb:H b=some u):b≠p:=aI eb h
theorem AY (xs:List V)(k:Nat):gF xs (some (k:Int)) none=xs.drop k:=by
 unfold gF;rw[HT.vJ,HT.FR]
 by_cases h:k<=xs.length
 ·rw[Nat.min_eq_left h];exact List.take_of_length_le (by rw[amo];exact kq _)
 ·have h':xs.length<=k:=by omega
  rw[Nat.min_eq_right h',List.drop_of_length_le h',List.drop_of_length_le (kq _)];simp
theorem TN {α:Type}{xs:List α}{i:Int}{n:Nat}(hn:xs.length=n)(h0:0<=i)(h1:i < n):∃c,atI xs i=some c/\c∈xs:=by
 have hi:i.toNat < xs.length:=by omega
 have e:((i.toNat:Nat):Int)=i:=by omega
 refine⟨xs[i.toNat],?_,List.getElem_mem hi⟩;have q:=cB (adm hi);rw[e]at q;exact q
def fP (scope outer:Scope):Scope :=
 { scope with names:=scope.names.map λ(n,k)=>if (k == .free && outer.kind == .function && outer.names.lookup n == some .cell) then (n,.cell) else (n,k) }
structure cG (scope outer:Scope)(x:Str)(N M:List Str):Prop where
 kind:scope.kind=.function
 Ot:outer.kind=.function
 AZ:∀y∈scope.names,y.2≠.cell
 names:∀y∈scope.names,y.2=.local->scope.names.lookup y.1=some .local
 hx:scope.names.lookup x=some .local
 free:∀y∈scope.names,y.2=.free->outer.names.lookup y.1=some .cell
 nl:∀n∈M,(fP scope outer).names.lookup n≠some .local
 ndM:M.Nodup
 nd:N.Nodup
 len:M.length=N.length
 rel:∀i:Nat,i < N.length->M[i]?=N[i]?\/M[i]?=some alE
 em:(fP scope outer).names.lookup alE=none
theorem cG.mem {scope outer:Scope}{x:Str}{N M:List Str}(S:cG scope outer x N M){n:Str}{k:NameKind}(h:(fP scope outer).names.lookup n=some k)(hk:k=.cell\/k=.free) :
  k=.cell/\(n,ame)∈scope.names/\outer.names.lookup n=some .cell:=by
 obtain⟨⟨n',k'⟩,hm,e⟩:=List.mem_map.mp (al9 h);dsimp only at e
 by_cases hc:(k' == ame && outer.kind == .function && outer.names.lookup n' == some .cell)=true
 ·rw[if_pos hc]at e;injection e with e1 e2
  subst e1 e2;rw[alW,alW]at hc;have hk':k'=.free:=beq_iff_eq.mp hc.1.1;subst hk';exact⟨rfl,hm,beq_iff_eq.mp hc.2⟩
 ·rw[if_neg hc]at e;injection e with e1 e2
  subst e1 e2;rcases hk with z | z
  ·exact absurd z (S.AZ _ hm)
  ·subst z
   exfalso
   refine hc ?_;rw[S.free _ hm rfl,S.Ot];rfl
theorem Ey {env:Env}{f:Str×NameKind->List (Str×Addr)->Sem (ForInStep (List (Str×Addr)))}
  (h1:∀n k r,k≠ame->f (n,k) r=pure (.yield r)) (h2:∀n r c,env.cells.lookup n=some c->f (n,.free) r=pure (.yield ((n,c)::r))) :
  ∀(ns:List (Str×NameKind)) (acc:List (Str×Addr)),(∀y∈ns,y.2=.free->∃c,env.cells.lookup y.1=some c)->(∀n c,acc.lookup n=some c->env.cells.lookup n=some c) ->
   ∃cl,(forIn ns acc f:Sem (List (Str×Addr)))=pure cl/\(∀n c,cl.lookup n=some c->env.cells.lookup n=some c)/\(∀n c,acc.lookup n=some c->(cl.lookup n).isSome=true)/\∀y∈ns,y.2=.free->(cl.lookup y.1).isSome=true
 |[],acc,_,ha=>⟨acc,by simp,ha,λn c e=>by rw[e];rfl,λy hy=>nomatch hy⟩
 | (n,k)::ns,acc,hn,ha=>by
  by_cases hk:k=ame
  ·subst hk;obtain⟨c,hc⟩:=hn (n,.free) gr rfl;have ha':∀m d,((n,c)::acc).lookup m=some d->env.cells.lookup m=some d:=λm d e=>by
    rw[amC]at e;split at e
    ·rename_i hb;have:m=n:=beq_iff_eq.mp hb;subst this;rw[<-ak9 e];exact hc
    ·exact ha m d e
   obtain⟨cl,e,p1,p2,p3⟩:=Ey h1 h2 ns ((n,c)::acc) (λy hy=>hn y (me _ hy)) ha'
   have hnn:(cl.lookup n).isSome=true:=p2 n c (by simp[amC])
   refine⟨cl,?_,p1,λm d em=>?_,λy hy hf=>?_⟩
   ·rw[List.forIn_cons,h2 n acc c hc,pure_bind];exact e
   ·by_cases hm:m=n
    ·subst hm;exact hnn
    ·exact p2 m d (by rw[amC,show (m == n)=false from beq_eq_false_iff_ne.mpr hm];exact em)
   ·rcases List.mem_cons.mp hy with rfl | hy
    ·exact hnn
    ·exact p3 y hy hf
  ·obtain⟨cl,e,p1,p2,p3⟩:=Ey h1 h2 ns acc (λy hy=>hn y (me _ hy)) ha
   refine⟨cl,?_,p1,p2,λy hy hf=>?_⟩
   ·rw[List.forIn_cons,h1 n k acc hk,pure_bind];exact e
   ·rcases List.mem_cons.mp hy with rfl | hy
    ·exact absurd hf hk
    ·exact p3 y hy hf
theorem xu {scope:Scope}{env:Env}(h:∀y∈scope.names,y.2=.free->∃c,env.cells.lookup y.1=some c) :
  ∃cl,closureFor scope env=pure cl/\(∀n c,cl.lookup n=some c->env.cells.lookup n=some c)/\∀y∈scope.names,y.2=.free->(cl.lookup y.1).isSome=true:=by
 unfold closureFor;obtain⟨cl,e,p1,_,p3⟩:=Ey (env:=env) (f:=λx r=>match x with | (name,kind)=>if (kind == ame)=true then do let a <-cellOf env name;pure (.yield ((name,a)::r)) else pure (.yield r))
  (λn k r hk=>by
   have:(k == ame)=false:=beq_eq_false_iff_ne.mpr hk;simp only[this,Bool.false_eq_true,if_false])
  (λn r c hc=>by
   simp only[beq_self_eq_true,if_true];unfold cellOf;rw[hc];rw[pure_bind])
  scope.names [] h (λn c e=>by simp at e)
 refine⟨cl,?_,p1,p3⟩;have e':=congrArg (λz:Sem (List (Str×Addr))=>z >>= λcs=>pure cs) e
 simp only[pure_bind]at e';exact e'
def dJ (X:Cx)(x:Str)(M:List Str)(scope:Scope)(cl:List (Str×Addr))(C:Addr)(s:Shared)(H:Hp)(fp:List Addr):Cx :=
 { X with N:=x::M,s₀:=s,H₀:=H,env:=compEnvC scope cl C X.env,outer:=X.stack,ex:=fp,fn:=λ_=>false,pn:=[],xe:=λ_ _=>False }
def rN (J:It)(te:TE)(σ:St)(D:Addr)(H1:Hp)(Q:VK):Prop:=∃W:Nat->Nat->List V->Hp->Prop,(∃m,W 0 m [] (upd H1 D (.lst [])))/\∀i m ys H2,W i m ys H2 ->
 H2 D=some (.lst ys)/\((J.stop i H2/\Q (.ref D) H2)\/(J.go i H2/\ys.length < kg/\∀x H3,J.yld i H2 x H3->te (some x::σ) H3 λy H4=>H4 D=some (.lst ys)/\∃m',m' < m/\W (i+1) m' (ys++[y]) (upd H4 D (.lst (ys++[y])))))
def Ou (wi:TI)(te:TE):TE:=λσ H Q=>wi σ H λJ H1=>∀D,H1 D=none->rN J te σ D H1 Q
section
variable{X:Cx}{pins:List (Addr×Obj)}{σ:St}{H:Hp}{s:Shared}{elt iter:Expr}{x:Str}{px pos:Pos}{scope:Scope}{wi:TI}{te:TE}{Q:VK}{M:List Str}
theorem RB {cl:List (Str×Addr)}{C:Addr}{fp:List Addr}(S:cG scope X.env.scope x X.N M)(I:Inv X pins σ H s)(hC:s.heap.objs.size<=C)(p1:∀n c,cl.lookup n=some c->X.env.cells.lookup n=some c)
  (p3:∀y∈scope.names,y.2=.free->(cl.lookup y.1).isSome=true) (f2:∀b∈fp,kT X pins H b) (fo:∀b∈fp,b < s.heap.objs.size):(dJ X x M scope cl C s H fp).Ok where
 mod:=I.ok.mod
 kind:=S.kind
 glob:=I.ok.glob
 blt:=I.ok.blt
 above:=hC
 inj:=λy z c h1 h2=>I.ok.inj y z c (p1 y c h1) (p1 z c h2)
 has:=λy hy=>by
  have hy':(fP scope X.env.scope).names.lookup y=some .cell\/(fP scope X.env.scope).names.lookup y=some .free:=hy;have hm:(y,ame)∈scope.names:=by
   rcases hy' with z | z
   ·exact(S.mem z (.inl rfl)).2.1
   ·exact(S.mem z (.inr rfl)).2.1
  exact Option.isSome_iff_exists.mp (p3 _ hm rfl)
 cab:=λy c h=>absurd h kr
 hd:=I.ok.hd
 frames:=I.ok.frames
 stk:=.inl rfl
 exf:=λb hb=>⟨ale (ali (fo b hb) hC),λy c e=>(f2 b hb).2.2.2.2.1 y c (p1 y c e)⟩
 bs:=I.bs
 bsz:=ak3 I.ok.bsz I.sz
 Jj:=λb o e hb=>by
  rcases (f2 b hb).2.2.2.1 with z | z
  ·exact I.ok.Jj b o e z
  ·exact absurd (ali (sr (I.ok.bs b o e).1) z) (Nat.lt_irrefl _)
 FN:=λb hb z=>by
  rcases List.mem_cons.mp (I.Ek b z) with e | e
  ·exact(f2 b hb).2.1 e
  ·exact(f2 b hb).2.2.1 e
 uD:=I.stack
 frf:=I.El
theorem F2 {cl:List (Str×Addr)}{C D:Addr}{fp:List Addr}{h₁:Heap}{tk:Nat}{m:Str->Option Value}(S:cG scope X.env.scope x X.N M)(I:Inv X pins σ H s)(hC:s.heap.objs.size<=C)(hD:s.heap.objs.size<=D)(hDC:D≠C)
  (p1:∀n c,cl.lookup n=some c->X.env.cells.lookup n=some c)
  (p3:∀y∈scope.names,y.2=.free->(cl.lookup y.1).isSome=true) (f2:∀b∈fp,kT X pins H b) (fo:∀b∈fp,b < s.heap.objs.size)
  (old:∀b o,s.heap.get? b=some o->h₁.get? b=some o) (hn:h₁.Ns C m) (hl:h₁.get? D=some { cls:=.type "list",data:=.seq ([]:List Value).toArray }) :
  Inv (dJ X x M scope cl C s H fp) [] (none::σ) (upd H D (.lst [])) { s with heap:=h₁,toks:=tk }:=by
 have cellK:∀c v,s.heap.IsCell c v->h₁.IsCell c v:=λc v ⟨o,e,d⟩=>⟨o,old c o e,d⟩
 refine⟨RB S I hC p1 p3 f2 fo,rfl,I.bare,Un.laid old hD (I.hok.fresh hD),⟨m,hn,λi n v h1 h2 h3=>?_⟩,λy c e=>?_,?_,λy c e=>?_,λp hp=>absurd (show p∈([]:List (Addr×Obj)) from hp) (by simp),I.hok.laid old hD ⟨alX _,[],0,.nil,hl⟩,?_⟩
 ·cases i with
  |zero =>
   have h2':(none:Option V)=some v:=by simpa using h2
   cases h2'
  |succ i =>
   have h0':M[i]?=some n:=by simpa [dJ] using h1
   have h2':σ[i]?=some (some v):=by simpa using h2
   have h3':(fP scope X.env.scope).names.lookup n=some .local\/(fP scope X.env.scope).names.lookup n=some .cell\/(fP scope X.env.scope).names.lookup n=some .free:=h3;have vH:(fP scope X.env.scope).names.lookup n=some .cell/\(n,ame)∈scope.names/\X.env.scope.names.lookup n=some .cell:=by
    rcases h3' with z | z | z
    ·exact absurd z (S.nl n (alw h0'))
    ·exact⟨z,(S.mem z (.inl rfl)).2⟩
    ·exact absurd (S.mem z (.inr rfl)).1 (by decide)
   have h1':X.N[i]?=some n:=by
    have hi:i < X.N.length:=by rw[<-S.len];exact(List.getElem?_eq_some_iff.mp h0').1
    rcases S.rel i hi with z | z
    ·rw[<-z];exact h0'
    ·rw[h0']at z;have e:n=alE:=ak9 z;rw[e,S.em]at vH;cases vH.1
   obtain⟨m0,hn0,hl0⟩:=I.loc;obtain⟨u,r,l⟩:=hl0 i n v h1' h2' (.inr (.inl vH.2.2));refine⟨u,r,.inr ⟨.inl vH.1,?_⟩⟩;obtain⟨c,hc⟩:=Option.isSome_iff_exists.mp (p3 _ vH.2.1 rfl);refine⟨c,hc,?_⟩;rcases l with ⟨k,_⟩ | ⟨_,c',hc',z⟩
   ·have k':X.env.scope.names.lookup n=some .local:=k;rw[vH.2.2]at k';cases k'
   ·rw[p1 n c hc]at hc';cases hc';exact cellK c _ z
 ·obtain⟨v,z⟩:=I.cell y c (p1 y c e);exact⟨v,cellK c v z⟩
 ·show (upd H D (.lst [])) C=none;rw[av (alr hDC)];exact I.hok.fresh hC
 ·obtain⟨v,z⟩:=I.cell y c (p1 y c e);rw[av (ale (ali z.lt hD))];exact I.o9 y c (p1 y c e)
 ·show (none::σ).length=(x::M).length;rw[alb,alb,I.len,S.len]
theorem Dq {cl:List (Str×Addr)}{RR:Value->Addr->Result->Shared->Prop}(S:cG scope X.env.scope x X.N M)(hc:X.calm=true)(hi:PI X (.Name x px) iter wi)
  (he:∀cl C s H fp,PE (dJ X x M scope cl C s H fp) elt te) (I:Inv X pins σ H s) (h:Ou wi te σ H Q)
  (p1:∀n c,cl.lookup n=some c->X.env.cells.lookup n=some c) (p3:∀y∈scope.names,y.2=.free->(cl.lookup y.1).isSome=true)
  (hRR:∀D C H' s' o m,Inv X (pins++[(C,o)]) σ H' s'->s'.heap.get? C=some o->s'.heap.Ns C m->X.s₀.heap.objs.size<=C->(∀y c,X.env.cells.lookup y=some c->c≠C)->(∀p∈X.pn++pins,p.1≠C)->Q (.ref D) H'->RR (.ref D) C (.ok .next) s') :
  wpAny (model X.prog X.w) X.A (eval iter X.env) (λxv s₁=>wpAny (model X.prog X.w) X.A (pyIter xv) (λit s₂=>wpAny (model X.prog X.w) X.A (newList []) (λacc s₃ =>
   wpAny (model X.prog X.w) X.A (newFunctionEnv scope X.env.globals cl [] X.env.qual none .none (some X.env)) (λOv s₄ =>
    codeAny (model X.prog X.w) X.A (.compStart (.ListComp elt [⟨.Name x px,iter,[],0⟩] scope pos) 0 it acc { Ov with scope:=relabel scope X.env }) (RR acc Ov.locals) s₄) X.xe s₃) X.xe s₂) X.xe s₁) X.xe s:=by
 refine thn (hi pins s σ H _ I h) λv s1 h1=>thn h1 λitv s2 h2=>?_
 obtain⟨it,fp,tn,J,H2,rfl,I2,T,st2,f2,q⟩:=h2;refine wpAny_newObj_type (wpAny_newFunctionEnv S.AZ (by intro y hy;simp at hy) (λh₁ hns₁ hsb₁=>?_) S.kind)
 dsimp only at hns₁ hsb₁ ⊢;generalize hHH:s2.heap.push { cls:=.type "list",dict:=none,data:=.seq ([]:List Value).toArray }=HH at hns₁ hsb₁ ⊢;have hCs:HH.objs.size=s2.heap.objs.size+1:=by rw[<-hHH,amB]
 have hDC:s2.heap.objs.size≠HH.objs.size:=by rw[hCs];exact ale (Nat.lt_succ_self _)
 have Ow:s2.heap.objs.size<=HH.objs.size:=by rw[hCs];exact al1 _
 have below:∀b,b < s2.heap.objs.size->b≠HH.objs.size:=λb hb=>by rw[hCs];exact ale (Nat.lt_succ_of_lt hb)
 have old:∀b o,s2.heap.get? b=some o->h₁.get? b=some o:=λb o e=>hsb₁.extBut b o (below b (sr e)) (kf _ (hHH▸kf _ e))
 have MM:h₁.get? s2.heap.objs.size=some { cls:=.type "list",data:=.seq ([]:List Value).toArray }:=hsb₁.extBut _ _ hDC (kf _ (hHH▸alf _ rfl));have fo:∀b∈fp,b < s2.heap.objs.size:=λb hb=>by
  obtain⟨o,e,_⟩:=T.obj _ _ st2 b hb;exact sr e
 have IY:=F2 (tk:=s2.toks+([]:List (Str×Value)).length) S I2 Ow (kq _) hDC p1 p3 f2 fo old hns₁ MM;have st1:tn 0 h₁:=T.keep _ _ _ st2 λb _ o e=>old b o e
 obtain⟨W,⟨m0,w0⟩,turn⟩:=q _ (I2.hok.fresh (kq _));generalize hC:HH.objs.size=C at *;generalize hDD:s2.heap.objs.size=D at *;have ndY:(dJ X x M scope cl C s2 H2 fp).N.Nodup:=by
  refine List.nodup_cons.mpr ⟨λhm=>S.nl x hm (lookup_relabel_local S.hx),S.ndM⟩
 have stat:∀ {H':Hp},(∀b∈fp,H' b=none)->∀b∈fp,kT (dJ X x M scope cl C s2 H2 fp) [] H' b:=λhn b hb =>
  ⟨hn b hb,below b (fo b hb),IY.ok.FN b hb,.inl hb,λy c e=>(f2 b hb).2.2.2.2.1 y c (p1 y c e),λp hp=>absurd (show p∈([]:List (Addr×Obj)) from hp) (by simp)⟩
 have loop:codeAny (model X.prog X.w) X.A (.compLoop (.ListComp elt [⟨.Name x px,iter,[],0⟩] scope pos) 0 (.ref it) (.ref D) (compEnvC scope cl C X.env)) (RR (.ref D) C) { s2 with heap:=h₁,toks:=s2.toks+([]:List (Str×Value)).length }:=by
  refine codeAny_compLoop_tests (λn s'=>∃i v0 ys H',Inv (dJ X x M scope cl C s2 H2 fp) [] (v0::σ) H' s'/\tn i s'.heap/\(∀b∈fp,H' b=none)/\W i n ys H') ?_ m0 ⟨0,none,[],_,IY,st1,λb hb=>?_,w0⟩
  ·rintro n s3 ⟨i,v0,ys,H3,I3,st3,fr3,w3⟩;obtain⟨hDl,hw⟩:=turn i n ys H3 w3;rcases hw with ⟨stop,qn⟩ | ⟨go,hsz,step⟩
   ·refine thn (T.done (dJ X x M scope cl C s2 H2 fp) rfl rfl rfl hc i [] s3 _ H3 _ I3 (stat fr3) st3 stop) λr s4 ⟨hr,I4⟩=>?_
    subst hr;obtain⟨m4,hn4,_⟩:=I4.loc;obtain⟨oC,es4,ep4,e4,r4⟩:=id hn4;have Ox:s2.heap.objs.size<=C:=by rw[hDD];exact Ow
    have IX:Inv X pins σ H3 s4:=I2.LC (ch:=fp) I4.os I4.base I4.hok I4.bare λb hb=>⟨(f2 b hb).2.2.2.1,(f2 b hb).2.1,(f2 b hb).2.2.2.2.1,(f2 b hb).2.2.2.2.2⟩
    have fC:=I2.AJ (H':=H3) Ox I4.free;have IX2:Inv X (pins++[(C,oC)]) σ H3 s4:=IX.Am λp hp=>(List.mem_append.mp hp).elim (λz=>IX.pin p (kx _ z)) λz=>by
     have e:p=(C,oC):=by simpa using z
     subst e;exact⟨e4,fC.1,fC.2.1,fC.2.2.1,λv z=>by rw[r4.1]at z;cases z⟩
    exact hRR D C H3 s4 oC m4 IX2 e4 hn4 (ak3 I2.sz Ox) fC.2.2.2.2.1 fC.2.2.2.2.2 qn
   ·refine thn (T.item (dJ X x M scope cl C s2 H2 fp) rfl rfl rfl hc i [] s3 _ H3 _ I3 (stat fr3) st3 go) λr s4 ⟨u,hr,h4⟩=>?_
    subst hr;have e0:∀k:Sem Unit,(letOwnedTupleGo (.Name x px) (.ref it) u >>= λ_=>k)=k:=λk=>by
     rw[show letOwnedTupleGo (.Name x px) (.ref it) u=pure () from rfl,pure_bind]
    show wpAny _ _ (assign (.Name x px) (compEnvC scope cl C X.env) u) _ _ s4;rw[<-e0 (assign (.Name x px) (compEnvC scope cl C X.env) u)];refine gn (thn h4 λ_ s5 ⟨xv,H5,I5,r5,y5,st5,fr5⟩=>?_)
    have I5':=I5.pinned (stat fr5) (T.obj _ _ st5);have hxl:(dJ X x M scope cl C s2 H2 fp).env.scope.names.lookup x=some .local:=lookup_relabel_local S.hx;refine wpAny_assign_Name (pb (X:=dJ X x M scope cl C s2 H2 fp) (i:=0) I5' ndY rfl (tm hxl) r5 (λs6 I6=>?_) (.inr hxl))
    refine wpAny_tests_nil ?_;rw[if_pos rfl];refine alg (he cl C s2 H2 fp _ s6 _ H5 _ I6 (step xv H5 y5)) (λy s7 ⟨yv,H7,I7,r7,hD7,m',hm',w7⟩=>?_) (λ_ _ f=>f.elim)
    refine alg (dj (X:=dJ X x M scope cl C s2 H2 fp) _ s7 _ H7 (.ref D) [yv] (.ref D) [y] (λ_ H8=>H8=upd H7 D (.lst (ys++[yv]))) I7 rfl (.cons r7 .nil) ⟨D,ys,yv,rfl,rfl,hD7,hsz,rfl⟩)
     (λ_ s8 ⟨_,H8,I8,_,e8⟩=>?_) (λ_ _ f=>f.elim)
    subst e8;refine⟨m',hm',i+1,some xv,ys++[yv],_,I8.iu,T.keep _ _ _ st5 λb hb o e=>(I8.pin (b,o) (kx _ (kx _ (gG hb e)))).1,λb hb=>?_,w7⟩
    obtain⟨o,e,d⟩:=T.obj _ _ st5 b hb;exact(I8.pin (b,o) (kx _ (kx _ (gG hb e)))).2.1
  ·show (upd H2 D (.lst [])) b=none;rw[av (ale (fo b hb))];exact(f2 b hb).1
 exact codeAny_compStart_list loop (T.self _ 0 _ _ _ st1 loop)
theorem Aq (S:cG scope X.env.scope x X.N M)(hc:X.calm=true)(hi:PI X (.Name x px) iter wi)(he:∀cl C s H fp,PE (dJ X x M scope cl C s H fp) elt te)
  (hs:∀x,foldedSetIterable iter X.env x=pure x:=by intro _;rfl):PE X (.ListComp elt [⟨.Name x px,iter,[],0⟩] scope pos) (Ou wi te):=by
 intro pins s σ H Q I h;obtain⟨cl,F3,p1,p3⟩:=xu (scope:=scope) (env:=X.env) (λy hy hf=>I.ok.has y.1 (.inl (S.free y hy hf)))
 rw[eval_ListComp];refine wpAny_comprehension_free (use:=none) rfl hs F3 S.kind S.names (Dq (RR:=λacc C=>compPost (model X.prog X.w) X.A X.xe none (EP X pins σ Q) acc C) S hc hi he I h p1 p3 ?_)
 intro D C H' s' o m I' e hn h0 h1 h2 q;refine⟨m,hn,λh' hs'=>?_⟩
 have pC:=I'.pin (C,o) (kx _ (kx _ (by simp)))
 have IX:Inv X pins σ H' s':=I'.iu;exact⟨.ref D,H',IX.turned (t':=s'.toks) (λb ob hb e=>(hs'.2 b hb).trans e) pC.2.1 pC.2.2.1 (.inr h0) h1 h2,rfl,q⟩
theorem uH {i:Nat}{y:Str}{py aar:Pos}(S:cG scope X.env.scope x X.N M)(hc:X.calm=true)(hj:X.N[i]?=some y)(hy:Loc X.env.scope y)(hi:PI X (.Name x px) iter wi)(he:∀cl C s H fp,PE (dJ X x M scope cl C s H fp) elt te)
  (hsw:swapsWith (.ListComp elt [⟨.Name x px,iter,[],0⟩] scope pos) (some (.Name y py)) aar.line X.env=pure true:=by rfl)
  (hf:X.fn y=true\/X.env.scope.names.lookup y=some .local:=by first | exact .inl rfl | exact .inr rfl | assumption)
  (hs:∀x,foldedSetIterable iter X.env x=pure x:=by intro _;rfl):PS X (.Assign [.Name y py] (.ListComp elt [⟨.Name x px,iter,[],0⟩] scope pos) aar) (Rm (Ou wi te) (dh i)):=by
 intro pins s σ H D I h;obtain⟨cl,F3,p1,p3⟩:=xu (scope:=scope) (env:=X.env) (λy hy hf=>I.ok.has y.1 (.inl (S.free y hy hf)))
 rw[exec_Assign_Name_used _ _ _ _ hsw];refine gn (al4 (gn ?_));show wpAny _ _ (do let _ <-comprehension (.ListComp elt [⟨.Name x px,iter,[],0⟩] scope pos) scope X.env _ (newList []) false (eval iter X.env) (some (assign (.Name y py) X.env))) _ _ s
 refine gn (alg (wpAny_comprehension_free (use:=some (assign (.Name y py) X.env)) (Q:=λ_ s'=>SP X pins D .next s') rfl hs F3 S.kind S.names
  (Dq (RR:=λacc C=>compPost (model X.prog X.w) X.A X.xe (some (assign (.Name y py) X.env)) (λ_ s'=>SP X pins D .next s') acc C) S hc hi he I h p1 p3 ?_)) (λ_ s' hq=>wa (wa hq)) λ_ _ e=>e)
 intro Dd C H' s' o m I' e hn h0 h1 h2 q;show wpAny _ _ (assign (.Name y py) X.env (.ref Dd)) _ _ s';refine wpAny_assign_Name (pb I' S.nd hj hy (v:=.ref Dd) rfl (λs'' I''=>?_) hf)
 have pC:=I''.pin (C,o) (kx _ (kx _ (by simp)))
 obtain⟨o',es,ep,e0,r⟩:=hn;rw[e]at e0;cases e0;have IX:Inv X pins _ H' s'':=I''.iu;refine⟨m,⟨o,es,ep,pC.1,r⟩,λh' hs'=>?_⟩
 exact⟨_,H',IX.turned (t':=s''.toks) (λb ob hb e=>(hs'.2 b hb).trans e) pC.2.1 pC.2.2.1 (.inr h0) h1 h2,q⟩
def eD (D:Addr)(n:Nat)(Pv:Nat->List V->Hp->Prop)(i:Nat)(ys:List V):VK:=λy H4=>H4 D=some (.lst ys)/\∃m',m' < n - i/\m'=n - (i+1)/\i+1<=n/\Pv (i+1) (ys++[y]) (upd H4 D (.lst (ys++[y])))
theorem eD.mk {D:Addr}{n:Nat}{Pv:Nat->List V->Hp->Prop}{i:Nat}{ys:List V}{y:V}{H4:Hp}(hi:i < n)(h1:H4 D=some (.lst ys))(h2:Pv (i+1) (ys++[y]) (upd H4 D (.lst (ys++[y])))):eD D n Pv i ys y H4 :=
 ⟨h1,n - (i+1),by omega,rfl,hi,h2⟩
theorem pj {K:ba}{a D:Addr}{xs:List V}{te:TE}{Q:VK}{σ:St}{H1:Hp}(Pv:Nat->List V->Hp->Prop)(h0:Pv 0 [] (upd H1 D (.lst [])))(hz:xs.length<=kg)
  (hl:∀i ys H2,i<=xs.length->Pv i ys H2->SqL K H2 a xs/\H2 D=some (.lst ys)/\ys.length=i)
  (hs:∀i x ys H2,xs[i]?=some x->Pv i ys H2->te (some x::σ) H2 (eD D xs.length Pv i ys)) (hd:∀ys H2,Pv xs.length ys H2->Q (.ref D) H2) :
  rN (Itl K a) te σ D H1 Q:=by
 refine⟨λi m ys H=>m=xs.length - i/\i<=xs.length/\Pv i ys H,⟨xs.length,by simp,alX _,h0⟩,?_⟩
 rintro i m ys H2 ⟨rfl,hi,p⟩;obtain⟨q,q2,q3⟩:=hl i ys H2 hi p;refine⟨q2,?_⟩
 by_cases hlt:i < xs.length
 ·refine .inr ⟨⟨xs,xs[i],q,by simp[hlt]⟩,by omega,λx H3 y=>?_⟩
  obtain⟨e,y⟩:=y;subst e;exact hs i x ys _ (y xs q) p
 ·have e:i=xs.length:=by omega
  subst e;exact .inl ⟨⟨xs,q,kq _⟩,hd ys H2 p⟩
theorem JD {lo:Int}{n:Nat}{D:Addr}{te:TE}{Q:VK}{σ:St}{H1:Hp}(Pv:Nat->List V->Hp->Prop)(h0:Pv 0 [] (upd H1 D (.lst [])))(hz:n<=kg)
  (hl:∀i ys H2,i<=n->Pv i ys H2->H2 D=some (.lst ys)/\ys.length=i)
  (hs:∀i ys H2,i < n->Pv i ys H2->te (some (.int (lo+i))::σ) H2 (eD D n Pv i ys)) (hd:∀ys H2,Pv n ys H2->Q (.ref D) H2) :
  rN (Itr lo n) te σ D H1 Q:=by
 refine⟨λi m ys H=>m=n - i/\i<=n/\Pv i ys H,⟨n,by simp,alX _,h0⟩,?_⟩
 rintro i m ys H2 ⟨rfl,hi,p⟩;obtain⟨q2,q3⟩:=hl i ys H2 hi p;refine⟨q2,?_⟩
 by_cases hlt:i < n
 ·refine .inr ⟨hlt,by omega,λx H3 y=>?_⟩
  obtain⟨e,y⟩:=y;subst e y;exact hs i ys _ hlt p
 ·have e:i=n:=by omega
  subst e;exact .inl ⟨kq _,hd ys H2 p⟩
end
structure MkN (K:ba)(C:Addr):Prop where
 makes:alU K C=true
 init:cb K (.ref C) "__init__"=some (some (.builtin "object.__init__"))
 kp:da K (.ref C)=true
def VN (C:Addr):TE:=λ_ H Q=>∀x dx,H x=none->H dx=none->dx≠x->Q (.ref x) (upd (upd H dx (.own x)) x (.ins C dx []))
section
variable{X:Cx}{C:Addr}{x:Str}{p pos:Pos}
theorem pq (M:MkN X.K C)(hg:Gl X x)(hm:X.mg x=some (.ref C))(hdb:(x == ("__debug__":Str))=false:=by decide):PE X (.Call (.Name x p) [] [] pos) (VN C):=by
 intro pins s σ H Q I h;refine wpAny_Call_Name_kw (jb I hg hm ?_ hdb);refine amA I.kIn M.kp (wpAny_call ?_);have I2:=Inv.made (C:=C) I;have q:=h (s.heap.objs.size+1) s.heap.objs.size (I.hok.fresh (al1 _)) (I.hok.fresh (kq _)) (ale (Nat.lt_succ_self _));have fin:EP X pins σ Q (.ref (s.heap.objs.size+1)) { s with heap:=(s.heap.push alz).push (alF C s.heap.objs.size) }:=⟨.ref _,_,I2,rfl,q⟩
 have X1:=I.kIn;have e2:((s.heap.push alz).push (alF C s.heap.objs.size)).get? (s.heap.objs.size+1)=some (alF C s.heap.objs.size):=by
  have:=alf (s.heap.push alz) (o:=alF C s.heap.objs.size) rfl
  rwa [amB]at this
 clear I2 q h I;obtain⟨hh,g,d,t,os⟩:=s;have Y:=PySem.W.makes_of (M:=model X.prog X.w) X1 M.makes;refine PySem.W.make_core Y (amw X1 M.init) (λself=>PySem.W.Looks.of_pure (PySem.W.oi_bind self)) (.inr ⟨rfl,rfl⟩) ?_
 have t1:PySem.W.Looks (model X.prog X.w) ((hh.push alz).push (alF C hh.objs.size)) (typeOf (.ref (hh.objs.size+1))) (.ref C):=(PySem.W.Looks.ld e2).andThen .now;have t2:PySem.W.Looks (model X.prog X.w) ((hh.push alz).push (alF C hh.objs.size)) (isInstance (.ref (hh.objs.size+1)) (.type "object")) true:=t1.andThen (Y.top.keeps λb o e=>kf _ (kf _ e))
 refine codeAny_call_builtin PySem.W.oi_plain PySem.W.entry_oi (@PySem.W.check_slot (model X.prog X.w) _ _ _ "object.__init__" "object" "__init__" (.ref (hh.objs.size+1)) [] [] _ PySem.W.oi_kind PySem.W.oi_split t2 (PySem.W.oi_args (.ref (hh.objs.size+1))) ?_);show wpAny _ _ (Builtin.«object.__init__» ⟨[.ref (hh.objs.size+1)],[]⟩) _ _ _;rw[PySem.W.oi_run];exact wa (And.intro rfl fin)
end
structure VO (P:Params)(K:ba)(a:Addr):Prop where
 ex:∃es n,K.lookup a=some ⟨.type "dict",none,.dict es n,#[]⟩/\PySem.W.KeysLit P es.toList
section
variable{X:Cx}
theorem JE:IxR X (λx y H Q=>∃a z v u,x=.ref a/\y=.str z/\VO X.w.params X.K a/\fe X.K a z=some (some u)/\RelV v u/\Q v H):=by
 intro value slice pins s σ H x y v u Q I rx ry h hs;obtain⟨a,z,w',u',rfl,rfl,⟨es,n,hl,hk⟩,e,r,q⟩:=h;cases rx;obtain⟨t,rfl⟩:=ry;have hm:=PySem.W.mapOf_K (prog:=X.prog) I.kIn hl hk;exact tail_any hm.typeIs slot_dict_getitem.lookup (wpAny_getItem_of (strKind_is X.prog X.w z t) hm (PySem.W.find_K hl e) ⟨w',H,I.tok _,r,q⟩) hs
end
theorem RC (bs:List Bool):(List.range bs.length).any (λi=>bs.getD i false)=bs.any id:=by
 have e:(List.range bs.length).map (λi=>bs.getD i false)=bs:=by
  apply List.ext_getElem
  ·simp
  ·intro i h1 h2;simp[h2]
 calc _=((List.range bs.length).map (λi=>bs.getD i false)).any id:=by rw[List.any_map];rfl
  _=_:=by rw[e]
theorem F4:∀ {bs:List Bool} {us:List Value},Vals (bs.map V.bl) us->us=bs.map Value.bool
 |[],_,.nil=>rfl
 |b::bs,_,.cons r t=>by
  cases r;rw[F4 t];rfl
section
variable{X:Cx}
theorem Oy (hc:X.calm=true):mD X (.builtin "any") (λxs H Q=>∃(p:Addr) (bs:List Bool),xs=[.ref p]/\SqL X.K H p (bs.map V.bl)/\Q (.bl (bs.any id)) H):=by
 intro pins s σ H xs us Q I r h;obtain⟨p,bs,rfl,hq,q⟩:=h;obtain⟨u,rfl,rx⟩:=vals1 r;cases rx;obtain⟨its,rv,pl,hz⟩:=I.list hq;obtain rfl:=F4 rv;refine call_any_walk (wpAny_pyIter_list pl.isList ?_);obtain⟨o,n,e,_⟩:=id pl;have hlt:p < s.heap.objs.size:=sr e;refine⟨s.heap.objs.size,_,_,_,_,_,λi=>bs.getD i false,rfl,Walks.list (A:=X.A.in1) (show X.A.in1.handled=none from I.ok.hd hc) s.heap.objs.size p (ale hlt) (bs.map Value.bool).toArray,⟨⟨_,alf _ rfl,rfl,rfl⟩,pl.isList.at λo e=>kf _ e⟩,?_,λh' tk kk=>?_⟩
 ·intro i v s' Q' E' hv q';have hv':v=Value.bool (bs.getD i false):=by
   have h2:(bs.map Value.bool)[i]?=some v:=by simpa using hv
   rw[aln]at h2;cases hb:bs[i]? with
   |none=>rw[hb]at h2;cases h2
   |some b =>
    rw[hb]at h2;rw[alj,hb];exact(ak9 h2).symm
  rw[hv'];exact wpAny_truthy_bool q'
 ·have I1:Inv X pins σ H { s with heap:=h',toks:=tk }:=I.kept λb o e=>kk b o (by simp;exact ale (sr e)) (kf _ e)
  refine⟨.bl _,H,I1,rfl,?_⟩;have e1:(bs.map Value.bool).toArray.size=bs.length:=by simp
  rw[e1,RC];exact q
end
def aas (X:Cx)(pins:List (Addr×Obj))(H:Hp)(h:Heap)(e:Addr)(vs:Array Value):Option Value->Prop
 |none=>vs[1]?=some .none
 |some m=>∃(T:Addr) (oT:Obj) (ts:Array Value),vs[1]?=some (.ref T)/\T≠e/\kT X pins H T/\h.get? T=some oT/\oT.data=.fields ts/\ts[3]?=some m
structure XAt (X:Cx)(pins:List (Addr×Obj))(H:Hp)(h:Heap)(e:Addr)(cls:Value)(xd:Option Addr)(m:Option Value):Prop where
 ok:kT X pins H e
 ex:∃(sl:Array (Option Value)) (vs:Array Value),h.get? e=some ⟨cls,xd,.fields vs,sl⟩/\1 < vs.size/\aas X pins H h e vs m
def MOk (_:Cx)(m:Option Value):Prop:=m=none\/m=some .none\/∃v,m=some v
def XP (X:Cx)(pins:List (Addr×Obj))(σ:St)(E:XK)(e:Value)(s':Shared):Prop :=
 ∃(ea:Addr) (cls:Value) (xd:Option Addr) (m:Option Value) (H':Hp),e=.ref ea/\Inv X pins σ H' s'/\XAt X pins H' s'.heap ea cls xd m/\MOk X m/\E cls xd H'
abbrev SXK:=St->XK
def XPS (X:Cx)(pins:List (Addr×Obj))(E:SXK)(e:Value)(s':Shared):Prop:=∃σ',XP X pins σ' (E σ') e s'
structure Fr1 (X:Cx):Prop where
 stk:X.stack=X.env::X.outer
 fr:X.env.frame=some X.env.locals
section
variable{X:Cx}{pins:List (Addr×Obj)}{σ:St}{H H':Hp}{s:Shared}{e:Addr}{cls:Value}{xd:Option Addr}{m:Option Value}
theorem kT.aiB {b:Addr}(I:Inv X pins σ H s)(f:kT X pins H' b):b∉frs X.stack:=λz=>by
 rcases List.mem_cons.mp (I.Ek b z) with q | q
 ·exact f.2.1 q
 ·exact f.2.2.1 q
theorem kT.drop {pl:List (Addr×Obj)}{b:Addr}(f:kT X (pins++pl) H b):kT X pins H b :=
 ⟨f.1,f.2.1,f.2.2.1,f.2.2.2.1,f.2.2.2.2.1,λp hp=>f.2.2.2.2.2 p ((List.mem_append.mp hp).elim (λz=>alI _ z) λz=>kx _ (alI _ z))⟩
theorem kT.clear {b:Addr}(f:kT X pins H b):kT X [] H b :=
 ⟨f.1,f.2.1,f.2.2.1,f.2.2.2.1,f.2.2.2.2.1,λp hp=>f.2.2.2.2.2 p ((List.mem_append.mp hp).elim (λz=>alI _ z) λz=>nomatch z)⟩
theorem XAt.drop {pl:List (Addr×Obj)}{h:Heap}(x:XAt X (pins++pl) H h e cls xd m):XAt X pins H h e cls xd m:=by
 obtain⟨ok,sl,vs,he,hz,hm⟩:=x;refine⟨ok.drop,sl,vs,he,hz,?_⟩;cases m with
 |none=>exact hm
 |some m=>obtain⟨T,oT,ts,a,b,c,d⟩:=hm;exact⟨T,oT,ts,a,b,c.drop,d⟩
theorem XAt.clear {h:Heap}(x:XAt X pins H h e cls xd m):XAt X [] H h e cls xd m:=by
 obtain⟨ok,sl,vs,he,hz,hm⟩:=x;refine⟨ok.clear,sl,vs,he,hz,?_⟩;cases m with
 |none=>exact hm
 |some m=>obtain⟨T,oT,ts,a,b,c,d⟩:=hm;exact⟨T,oT,ts,a,b,c.clear,d⟩
theorem XP.drop {pl:List (Addr×Obj)}{E:XK}{v:Value}(x:XP X (pins++pl) σ E v s):XP X pins σ E v s:=by
 obtain⟨ea,cls,xd,m,H',rfl,I,hx,hm,q⟩:=x;exact⟨ea,cls,xd,m,H',rfl,I.iu,hx.drop,hm,q⟩
theorem VP {h':Heap}(I:Inv X pins σ H s)(he:kT X pins H e)(k1:∀b o,b∉frs X.stack->b≠e->s.heap.get? b=some o->h'.get? b=some o)
  (k2:∀b o,b≠e->s.heap.get? b=some o->∃sl,h'.get? b=some { o with slots:=sl }):Un (frs X.stack) [e] H H s.heap h'/\HOk X.prog X.w H h':=by
 refine⟨⟨λb o q _ hb hx=>k1 b o hb (by simpa using hx) q,λb o q _ _ hx=>k2 b o (by simpa using hx) q,λb o _ n _=>n,λb o q hx=>?_,λ_ _ q=>q,λ_ _ _ q=>q,λ_ ps q=>⟨#[],by rw[q];simp⟩⟩,λa o q=>?_⟩
 ·obtain⟨sl,z⟩:=k2 b o (by simpa using hx) q
  exact⟨_,z⟩
 ·refine(I.hok a o q).CI (λb u hb r=>k1 b u (λz=>?_) (λz=>?_) r) (λ_ z=>z) (λ_ _ z=>z)
  ·have n:=I.El b z;rcases hb with rfl | hb
   ·rw[q]at n;cases n
   ·rw[hb]at n;cases n
  ·have n:=he.1;rw[<-z]at n;rcases hb with rfl | hb
   ·rw[q]at n;cases n
   ·rw[hb]at n;cases n
theorem RD {h':Heap}(I:Inv X pins σ H s)(he:kT X pins H e)(k1:∀b o,b∉frs X.stack->b≠e->s.heap.get? b=some o->h'.get? b=some o)
  (k2:∀b o,b≠e->s.heap.get? b=some o->∃sl,h'.get? b=some { o with slots:=sl }):Inv X pins σ H { s with heap:=h' }:=by
 obtain⟨u,ok⟩:=VP I he k1 k2;refine I.call (g':=s.gens) (t':=s.toks) (d':=s.drawn) u ok I.bare λb hb=>?_
 obtain rfl:b=e:=by simpa using hb
 exact⟨he.2.2.2.1,he.2.1,he.2.2.2.2.1,he.2.2.2.2.2⟩
theorem LO {M:Model}{A:Around}{E:Value->Shared->Prop}{head:Value}{RE:Bool}{sl:Array (Option Value)}{vs:Array Value}{Q:Unit->Shared->Prop}(F:Fr1 X)(hA:A.frames=some X.stack)(I:Inv X pins σ H s)(ok:kT X pins H e)
  (he:s.heap.get? e=some ⟨cls,xd,.fields vs,sl⟩) (hz:1 < vs.size) (h:∀s',Inv X pins σ H s'->XAt X pins H s'.heap e cls xd (some (rawInt X.env.locals))->Q () s') :
  wpAny M A (do let a <-frameOf X.env;let pl <-entryPlaceOf X.env.locals RE;let b <-EntryCells.newEntry head a .none (rawInt X.env.locals) .none pl;setField (.ref e) 1 b) Q E s:=by
 have nE:e∉frs X.stack:=ok.aiB I;have fs:=I.stack;rw[F.stk]at hA fs nE;refine gn (wpAny_frameOf_fun hA fs F.fr λh₁ so=>?_)
 refine gn (wpAny_entryPlaceOf λpl hpl=>?_)
 unfold EntryCells.newEntry newFields;refine gn (wpAny_newObj_type ?_ (hpl.sizeOk5 _ _ _ _ _));generalize ht:([head,.ref X.env.locals,.none,rawInt X.env.locals,.none]++(if pl.isEmpty then List.replicate 6 amx else pl)).toArray=ts
 have t3:ts[3]?=some (rawInt X.env.locals):=by rw[<-ht];simp
 have e1:h₁.get? e=some ⟨cls,xd,.fields vs,sl⟩:=(so.2.1 e nE).trans he;have e2:=kf (h:=h₁) { cls:=.type "traceback",dict:=none,data:=.fields ts } e1;refine wpAny_setField e2 rfl hz ?_;have sz:h₁.objs.size=s.heap.objs.size:=so.1;have nT:h₁.objs.size≠e:=Nat.ne_of_gt (sr e1);have k0:∀b o,b≠e->h₁.get? b=some o->((h₁.push { cls:=.type "traceback",dict:=none,data:=.fields ts }).update e (al7 (·.setIfInBounds 1 (alc h₁.objs.size)))).get? b=some o:=λb o hb q =>
  (alS _ _ (alr hb)).trans (kf _ q)
 have I':=RD (h':=(h₁.push { cls:=.type "traceback",dict:=none,data:=.fields ts }).update e (al7 (·.setIfInBounds 1 (alc h₁.objs.size)))) I ok
  (λb o hb hbe q=>k0 b o hbe ((so.2.1 b (by rw[<-F.stk];exact hb)).trans q)) (λb o hbe q=>by obtain⟨sl,z⟩:=so.2.2 b o q;exact⟨sl,k0 b _ hbe z⟩)
 have fT:kT X pins H h₁.objs.size:=I.AJ (by rw[sz];exact kq _) (by rw[sz];exact I.fresh)
 have gE:((h₁.push { cls:=.type "traceback",dict:=none,data:=.fields ts }).update e (al7 (·.setIfInBounds 1 (alc h₁.objs.size)))).get? e=some ⟨cls,xd,.fields (vs.setIfInBounds 1 (alc h₁.objs.size)),sl⟩ :=
  amb (al7 (·.setIfInBounds 1 (alc h₁.objs.size))) e2 rfl
 have gT:((h₁.push { cls:=.type "traceback",dict:=none,data:=.fields ts }).update e (al7 (·.setIfInBounds 1 (alc h₁.objs.size)))).get? h₁.objs.size=some { cls:=.type "traceback",dict:=none,data:=.fields ts } :=
  (alS _ _ (alr nT)).trans (alf h₁ rfl)
 exact h _ I' ⟨ok,sl,_,gE,by simpa using hz,h₁.objs.size,_,ts,by simp[hz],nT,fT,gT,rfl,t3⟩
theorem rO {M:Model}{A:Around}{E:Value->Shared->Prop}{f:Option Addr}{mv:Value}{Q:Unit->Shared->Prop}(I:Inv X pins σ H s)(x:XAt X pins H s.heap e cls xd (some mv))
  (h:∀s',Inv X pins σ H s'->XAt X pins H s'.heap e cls xd (some (f.elim .none λb=>rawInt b))->Q () s'):wpAny M A (setFlight (.ref e) f) Q E s:=by
 obtain⟨ok,sl,vs,he,hz,T,oT,ts,h1,nT,fT,hT,hd,h3⟩:=x;unfold setFlight;refine gn (wpAny_field he rfl h1 ?_);rw[if_pos (show (alc T != amx)=true by simp)]
 have z3:3 < ts.size:=(Array.getElem?_eq_some_iff.mp h3).1;refine wpAny_setField hT hd z3 ?_;have other:∀b,b≠T->(s.heap.update T (al7 (·.setIfInBounds 3 (f.elim amx λb=>rawInt b)))).get? b=s.heap.get? b:=λb hb=>alS _ _ (alr hb)
 have I':=I.turned (t':=s.toks) (h':=s.heap.update T (al7 (·.setIfInBounds 3 (f.elim amx λb=>rawInt b)))) (λb o hb q=>(other b hb).trans q) fT.1 fT.2.1 fT.2.2.2.1 fT.2.2.2.2.1 fT.2.2.2.2.2
 exact h _ I' ⟨ok,sl,vs,(other e (alr nT)).trans he,hz,T,_,_,h1,nT,fT,amb _ hT (Obj.isFreed_of_fields (Obj.data_mapFields hd _)),Obj.data_mapFields hd _,by simp[z3]⟩
theorem Oz {M:Model}{A:Around}{E:Value->Shared->Prop}{Q:Unit->Shared->Prop}(F:Fr1 X)(hA:A.frames=some X.stack)(I:Inv X pins σ H s)(x:XAt X pins H s.heap e cls xd m)(hm:MOk X m)
  (h:∀s',Inv X pins σ H s'->XAt X pins H s'.heap e cls xd (some (rawInt X.env.locals))->Q () s'):wpAny M A (noteFrame (.ref e) X.env) Q E s:=by
 obtain⟨ok,sl,vs,he,hz,hv⟩:=x;unfold noteFrame;simp only[F.fr];cases m with
 |none =>
  refine gn (wpAny_field he rfl hv ?_);rw[if_neg (by decide)]
  exact LO F hA I ok he hz h
 |some mv =>
  obtain⟨T,oT,ts,h1,nT,fT,hT,hd,h3⟩:=hv;refine gn (wpAny_field he rfl h1 ?_);rw[if_pos (show (alc T != amx)=true by simp)]
  refine gn (wpAny_field hT hd h3 ?_)
  by_cases hmv:mv=rawInt X.env.locals
  ·subst hmv;rw[if_pos (show (rawInt X.env.locals == rawInt X.env.locals)=true by simp)]
   exact wa (h s I ⟨ok,sl,vs,he,hz,T,oT,ts,h1,nT,fT,hT,hd,h3⟩)
  ·rw[if_neg (show ¬(mv == rawInt X.env.locals)=true from λz=>hmv (beq_iff_eq.mp z))]
   have z3:3 < ts.size:=(Array.getElem?_eq_some_iff.mp h3).1;refine gn (wpAny_setField hT hd z3 ?_);have other:∀b,b≠T->(s.heap.update T (al7 (·.setIfInBounds 3 amx))).get? b=s.heap.get? b:=λb hb=>alS _ _ (alr hb)
   have I':=I.turned (t':=s.toks) (h':=s.heap.update T (al7 (·.setIfInBounds 3 amx))) (λb o hb q=>(other b hb).trans q) fT.1 fT.2.1 fT.2.2.2.1 fT.2.2.2.2.1 fT.2.2.2.2.2
   exact LO F hA I' ok ((other e (alr nT)).trans he) hz h
end
abbrev CXX (P:rf)(w:World):CXT:=λouter H s E e s'=>∃(ea T:Addr) (cls:Value) (xd:Option Addr) (H':Hp),e=.ref ea/\s'.os=s.os/\AllBare s'.gens/\Un (frs outer) [] H H' s.heap s'.heap/\HOk P w H' s'.heap /\
 (H' ea=none/\s.heap.objs.size<=ea)/\(H' T=none/\s.heap.objs.size<=T)/\T≠ea /\
 (∃(sl:Array (Option Value)) (vs:Array Value) (oT:Obj) (ts:Array Value),s'.heap.get? ea=some ⟨cls,xd,.fields vs,sl⟩/\1 < vs.size/\vs[1]?=some (.ref T)/\s'.heap.get? T=some oT/\oT.data=.fields ts/\ts[3]?=some .none)/\E cls xd H'
section
variable{X:Cx}{pins:List (Addr×Obj)}{σ:St}{H:Hp}{s s':Shared}
theorem VQ {E:XK}{e:Value}(I:Inv X pins σ H s)(h:CXX X.prog X.w X.stack H s E e s'):XP X pins σ E e s':=by
 obtain⟨ea,T,cls,xd,H',rfl,os,bare,un,hok,⟨e1,e2⟩,⟨t1,t2⟩,ne,⟨sl,vs,oT,ts,g1,g2,g3,g4,g5,g6⟩,q⟩:=h;have I':Inv X pins σ H' s':=I.LC (ch:=[]) os un hok bare λb z=>absurd z (by simp)
 exact⟨ea,cls,xd,some .none,H',rfl,I',⟨I.AJ e2 e1,sl,vs,g1,g2,T,oT,ts,g3,ne,I.AJ t2 t1,g4,g5,g6⟩,.inr (.inl rfl),q⟩
theorem Ez:Passes (CXX X.prog X.w) X E0:=λ_ _ _ _ _ _ _ ⟨_,_,_,_,_,_,_,_,_,_,_,_,_,_,z⟩=>z.elim
end
section
variable{P:rf}{w:World}{K:ba}{mg:Str->Option Value}{base:Heap}{k:Nat}{f:Addr}{fd:kj}{ps:List Str}{sp:Sp}
theorem a8.calm (F:a8 P w K mg base (CXX P w) k f fd ps sp)(h:∀vs H Q E,sp vs H Q E->sp vs H Q E0):a8 P w K mg base CX0 k f fd ps sp:=by
 refine⟨F.len,λA outer s H args us vs Q E hr he hb hv hs=>codeAny_mono (F.run A outer s H args us vs Q E0 hr he hb hv (h _ _ _ _ hs)) λr s' q=>?_⟩
 cases r with
 |error e=>obtain⟨_,_,_,_,_,_,_,_,_,_,_,_,_,_,z⟩:=q;exact z.elim
 |ok fl=>cases fl <;> exact q
theorem RF {N:List Str}{qual:Str}{scope:Scope}{cd:Value}{A:Around}{outer:List Env}{s s':Shared}{H:Hp}{E:XK}{e:Value}{pins:List (Addr×Obj)}
  (h:XPS (bF (CXX P w) P w K mg base N qual scope f cd A outer s H E) pins (λ_=>E) e s'):(bF (CXX P w) P w K mg base N qual scope f cd A outer s H E).xe e s':=by
 obtain⟨σ',ea,cls,xd,m,H',rfl,I,hx,hm,q⟩:=h;have fr:(bF (CXX P w) P w K mg base N qual scope f cd A outer s H E).A.frames=some (bF (CXX P w) P w K mg base N qual scope f cd A outer s H E).stack:=I.ok.frames;have F1:Fr1 (bF (CXX P w) P w K mg base N qual scope f cd A outer s H E):=⟨rfl,rfl⟩;show wpAny _ _ (leaving (bF (CXX P w) P w K mg base N qual scope f cd A outer s H E).env (.ref ea)) _ _ s';unfold leaving;refine gn (Oz F1 fr I hx hm λs1 I1 x1=>rO I1 x1 λs2 I2 x2=>?_)
 obtain⟨ok,sl,vs,he,hz,T,oT,ts,h1,nT,fT,hT,hd,h3⟩:=x2;have old:∀ {b:Addr},kT (bF (CXX P w) P w K mg base N qual scope f cd A outer s H E) pins H' b->s.heap.objs.size<=b:=λ{b} z=>by
  rcases z.2.2.2.1 with y | y
  ·exact absurd (show b∈([]:List Addr) from y) (by simp)
  ·exact y
 exact⟨ea,T,cls,xd,H',rfl,I2.os,I2.bare,I2.base,I2.hok,⟨ok.1,old ok⟩,⟨fT.1,old fT⟩,nT,⟨sl,vs,oT,ts,he,hz,h1,hT,hd,h3⟩,q⟩
end
abbrev TEX:=St->Hp->VK->XK->Prop
abbrev TAX:=St->Hp->(List V->Hp->Prop)->XK->Prop
abbrev TSX:=Ends->SXK->St->Hp->Prop
def PEX (X:Cx)(e:Expr)(t:TEX):Prop :=
 ∀(pins:List (Addr×Obj)) (s:Shared) (σ:St) (H:Hp) (Q:VK) (E:XK),Inv X pins σ H s->t σ H Q E->wpAny (model X.prog X.w) X.A (eval e X.env) (EP X pins σ Q) (XP X pins σ E) s
def PAX (X:Cx)(es:List Expr)(t:TAX):Prop :=
 ∀(pos:Pos) (pins:List (Addr×Obj)) (s:Shared) (σ:St) (H:Hp) (Q:List V->Hp->Prop) (E:XK),Inv X pins σ H s->t σ H Q E->wpAny (model X.prog X.w) X.A (spliced (backTo pos (ak8 es X.env))) (AP X pins σ Q) (XP X pins σ E) s
def PSX (X:Cx)(st:Stmt)(t:TSX):Prop :=
 ∀(pins:List (Addr×Obj)) (s:Shared) (σ:St) (H:Hp) (D:Ends) (E:SXK),Inv X pins σ H s->t D E σ H->wpAny (model X.prog X.w) X.A (exec st X.env) (SP X pins D) (XPS X pins E) s
def F5 (X:Cx)(st:List Stmt)(t:TSX):Prop :=
 ∀(pins:List (Addr×Obj)) (s:Shared) (σ:St) (H:Hp) (D:Ends) (E:SXK),Inv X pins σ H s->t D E σ H->wpAny (model X.prog X.w) X.A (execs st X.env) (SP X pins D) (XPS X pins E) s
def VR (te:TE):TEX:=λσ H Q _=>te σ H Q
def VS (ta:TA):TAX:=λσ H Q _=>ta σ H Q
def OA (ts:TS):TSX:=λD _ σ H=>ts D σ H
def OB (t1:TEX)(t2:TAX):TAX:=λσ H Q E=>t1 σ H (λx H1=>t2 σ H1 (λxs H2=>Q (x::xs) H2) E) E
def TQ (t1 t2:TSX):TSX:=λD E σ H=>t1 { D with nx:=t2 D E } E σ H
def aat (tc:TT)(t1 t2:TSX):TSX:=λD E σ H=>tc σ H λd H1=>if d=true then t1 D E σ H1 else t2 D E σ H1
def OC (t:TEX):TSX:=λD E σ H=>t σ H (λ_ H1=>D.nx σ H1) (E σ)
def TR (t:TEX):TSX:=λD E σ H=>t σ H D.rt (E σ)
def OD (t:TAX)(sp:Sp):TEX:=λσ H Q E=>t σ H (λvs H1=>sp vs H1 Q E) E
def OE (C:Addr)(m:Str)(ta:TEX)(t:TAX)(sp:Sp):TEX:=λσ H Q E=>ta σ H (λx H1=>∃a dx fs,x=.ref a/\H1 a=some (.ins C dx fs)/\fs.lookup m=none/\t σ H1 (λvs H2=>sp (x::vs) H2 Q E) E) E
def LP (C:Addr)(m:Str)(ta:TEX)(sp:Sp):TEX:=λσ H Q E=>ta σ H (λx H1=>∃a dx fs,x=.ref a/\H1 a=some (.ins C dx fs)/\fs.lookup m=none/\sp [x] H1 Q E) E
section
variable{X:Cx}{e:Expr}{es:List Expr}{st:Stmt}{sts:List Stmt}{te:TE}{ta:TA}{ts:TS}{pos:Pos}
theorem EP.eO {pins:List (Addr×Obj)}{σ:St}{Q:VK}{u:Value}{s':Shared}{W:Value->Shared->Prop}(h:EP (X.pd W) pins σ Q u s'):EP X pins σ Q u s':=by
 obtain⟨v,H',I,r,q⟩:=h;exact⟨v,H',I.eO,r,q⟩
theorem px (h:PE X.nox e te):PEX X e (VR te):=λpins s σ H Q _ I hw =>
 alg (h pins s σ H Q (I.pd _) hw) (λ_ _ q=>q.eO) λ_ _ z=>als z
theorem pax (h:PA X.nox es ta):PAX X es (VS ta):=λpos pins s σ H Q _ I hw =>
 alg (h pos pins s σ H Q (I.pd _) hw) (λ_ _ ⟨vs,H',I',r,q⟩=>⟨vs,H',I'.eO,r,q⟩) λ_ _ z=>als z
theorem psx (h:PS X.nox st ts):PSX X st (OA ts):=λpins s σ H D _ I hw =>
 alg (h pins s σ H D (I.pd _) hw) (λ_ _ q=>q.eO) λ_ _ z=>als z
theorem vO (h:PSs X.nox sts ts):F5 X sts (OA ts):=λpins s σ H D _ I hw =>
 alg (h pins s σ H D (I.pd _) hw) (λ_ _ q=>q.eO) λ_ _ z=>als z
theorem Ar:PAX X [] (λ_ H Q _=>Q [] H):=λ_ _ _ _ H Q _ I h=>Calls.spliced_nil ⟨[],H,I,.nil,h⟩
theorem kU {t1:TEX}{t2:TAX}(ha:PEX X e t1)(hr:PAX X es t2)(hs:ak8 (e::es) X.env=(false,eval e X.env)::ak8 es X.env:=by rfl) :
  PAX X (e::es) (OB t1 t2):=by
 intro pos pins s σ H Q E I h;unfold OB at h;rw[hs];refine Calls.spliced_cons (alg (ha pins s σ H _ E I h) (λu s1 ⟨x,H1,I1,r1,q1⟩=>?_) λ_ _ z=>z)
 exact alg (hr pos pins s1 σ H1 _ E I1 q1) (λus s2 ⟨xs,H2,I2,r2,q2⟩=>⟨x::xs,H2,I2,.cons r1 r2,q2⟩) λ_ _ z=>z
theorem bc {t1 t2:TSX}(h1:PSX X st t1)(h2:F5 X sts t2):F5 X (st::sts) (TQ t1 t2):=by
 intro pins s σ H D E I h;unfold TQ at h;refine wpAny_execs_cons (thn (h1 pins s σ H { D with nx:=t2 D E } E I h) λf s1 q=>?_)
 cases f with
 |next =>
  obtain⟨σ',H',I',q⟩:=q;exact h2 pins s1 σ' H' D E I' q
 |ret v=>exact q
 |brk=>exact q
 |cont=>exact q
theorem bD {t1:TSX}(h1:PSX X st t1):F5 X [st] t1:=by
 intro pins s σ H D E I h;refine wpAny_execs_cons (thn (h1 pins s σ H D E I h) λf s1 q=>?_)
 cases f with
 |next=>exact wpAny_execs_nil q
 |ret v=>exact q
 |brk=>exact q
 |cont=>exact q
theorem ic {c:Expr}{a b:List Stmt}{tc:TT}{t1 t2:TSX}(hc:PT X.nox c tc)(ha:F5 X a t1)(hb:F5 X b t2):PSX X (.If c a b pos) (aat tc t1 t2):=by
 intro pins s σ H D E I h;unfold aat at h;refine wpAny_If (alg (hc pins s σ H _ (I.pd _) h) (λd s1 ⟨H1,I1,q1⟩=>?_) λ_ _ z=>als z)
 cases d with
 |true=>exact ha pins s1 σ H1 D E I1.eO q1
 |false=>exact hb pins s1 σ H1 D E I1.eO q1
theorem kW {t:TEX}(he:PEX X e t)(hs:swapsWith e none pos.line X.env=pure false:=by rfl):PSX X (.Expr e pos) (OC t):=by
 intro pins s σ H D E I h;unfold OC at h;exact wpAny_Expr_any (alg (he pins s σ H _ _ I h) (λv s1 ⟨x,H1,I1,r1,q1⟩=>⟨σ,H1,I1,q1⟩) λ_ _ z=>⟨σ,z⟩) I.quiet hs
theorem As {t:TEX}(he:PEX X e t):PSX X (.Return (some e) pos) (TR t):=by
 intro pins s σ H D E I h;unfold TR at h;exact wpAny_Return_some (alg (he pins s σ H _ _ I h) (λv s1 ⟨x,H1,I1,r1,q1⟩=>⟨x,σ,H1,I1,r1,q1⟩) λ_ _ z=>⟨σ,z⟩)
end
section
variable{X:Cx}{k:Nat}{f C:Addr}{fd:kj}{ps:List Str}{sp:Sp}{x m:Str}{p pos apos:Pos}{e o:Expr}{es:List Expr}{t:TAX}
theorem EA {pins:List (Addr×Obj)}{σ:St}{H:Hp}{s:Shared}{Q:VK}{E:XK}{us:List Value}{vs:List V}(F:a8 X.prog X.w X.K X.mg X.base (CXX X.prog X.w) k f fd ps sp)(hr:Room k X.A)(hb:Binds X.K fd ps [])
  (I:Inv X pins σ H s) (r:Vals vs us) (h:sp vs H Q E):wpAny (model X.prog X.w) X.A (call (.ref f) us) (EP X pins σ Q) (XP X pins σ E) s:=by
 have hl:(us++[]).length=ps.length:=by rw[ama,<-r.length];exact F.len _ _ _ _ h
 have b:=hb s us I.kIn hl;rw[ama]at b;refine wpAny_call (codeAny_mono (F.run X.A X.stack s H ⟨us,[]⟩ us vs Q E hr I.Rq b r h) λr s' hq=>?_)
 cases r with
 |error e=>exact VQ I hq
 |ok fl =>
  cases fl with
  |ret u=>exact I.after hq
  |next=>exact als hq
  |brk=>exact als hq
  |cont=>exact als hq
theorem vP (F:a8 X.prog X.w X.K X.mg X.base (CXX X.prog X.w) k f fd ps sp)(hr:Room k X.A)(hg:Gl X x)(hm:X.mg x=some (.ref f))(hk:da X.K (.ref f)=true)(hb:Binds X.K fd ps [])(ha:PAX X (e::es) t)
  (hdb:(x == ("__debug__":Str))=false:=by decide) (he:ak8 (e::es) X.env=(false,eval e X.env)::ak8 es X.env:=by rfl) (hpl:(backTo pos (ak8 es X.env)).any (·.1)=false:=by rfl) :
  PEX X (.Call (.Name x p) (e::es) [] pos) (OD t sp):=by
 intro pins s σ H Q E I h;unfold OD at h;refine wpAny_Call_Name_kw (jb I hg hm ?_ hdb);exact amD (h₀:=X.base) I.ok.mod.kin hk (thn (ha pos pins s σ H _ E I h) λus s1 ⟨vs,H1,I1,r,q⟩=>⟨I1.kIn,EA F hr hb I1 r q⟩) he hpl
theorem rP {pl:Sem Bool}{ta:TEX}(he:PEX X o ta)(c:Cls X.K C)(hm:Meth X.K C m f)(F:a8 X.prog X.w X.K X.mg X.base (CXX X.prog X.w) k f fd ps sp)(hr:Room k X.A)(hb:Binds X.K fd ps [])(ha:PAX X (e::es) t)
  (hst:ak8 (e::es) X.env=(false,eval e X.env)::ak8 es X.env:=by rfl) (hpl:(backTo pos (ak8 es X.env)).any (·.1)=false:=by rfl)
  (ht:eval (.Call (.Attribute o m apos) (e::es) [] pos) X.env=(do
   let ov <-eval o X.env
   standAt apos.atName
   let (f,first) <-holding [ov] (getMethod ov m pl)
   callWith pos f first (backTo pos (ak8 (e::es) X.env)) (backToKw pos (keywordEach [] X.env))):=by rfl) :
  PEX X (.Call (.Attribute o m apos) (e::es) [] pos) (OE C m ta t sp):=by
 intro pins s σ H Q E I h;unfold OE at h;refine al2 (pl:=pl) (thn (he pins s σ H _ E I h) λu s1 ⟨x,H1,I1,rx,a,dx,fs,ex,ea,l,q⟩=>?_) ht
 subst ex;obtain rfl:u=alc a:=rx;refine jJ I1 ea c hm l ?_;exact amD (first:=[.ref a]) (h₀:=X.base) I.ok.mod.kin hm.kp (thn (ha pos pins s1 σ H1 _ E I1 q) λus s2 ⟨vs,H2,I2,r,q2⟩=>⟨I2.kIn,EA (us:=.ref a::us) (vs:=.ref a::vs) F hr hb I2 (.cons rfl r) q2⟩) hst hpl
theorem xw {pl:Sem Bool}{ta:TEX}(he:PEX X o ta)(c:Cls X.K C)(hm:Meth X.K C m f)(F:a8 X.prog X.w X.K X.mg X.base (CXX X.prog X.w) k f fd ps sp)(hr:Room k X.A)(hb:Binds X.K fd ps [])
  (ht:eval (.Call (.Attribute o m apos) [] [] pos) X.env=(do
   let ov <-eval o X.env
   standAt apos.atName
   let (f,first) <-holding [ov] (getMethod ov m pl)
   callWith pos f first (backTo pos (ak8 [] X.env)) (backToKw pos (keywordEach [] X.env))):=by rfl) :
  PEX X (.Call (.Attribute o m apos) [] [] pos) (LP C m ta sp):=by
 intro pins s σ H Q E I h;unfold LP at h;refine al2 (pl:=pl) (thn (he pins s σ H _ E I h) λu s1 ⟨x,H1,I1,rx,a,dx,fs,ex,ea,l,q⟩=>?_) ht
 subst ex;obtain rfl:u=alc a:=rx;refine jJ I1 ea c hm l ?_;exact amA (first:=[.ref a]) I1.kIn hm.kp (EA (us:=[.ref a]) (vs:=[.ref a]) F hr hb I1 (.cons rfl .nil) q)
end
section
variable{P:rf}{w:World}{K:ba}{mg:Str->Option Value}{base:Heap}
theorem Fun.okX {x qual:Str}{st:Stmt}{f:Addr}{fd:kj}{N ps:List Str}{k:Nat}{sp:Sp}(F:Fun K x qual st f fd)(S:aQ N ps (ah st))(len:∀vs H Q E,sp vs H Q E->vs.length=ps.length)
  (FQ:∀(cdv:Value) (A:Around) (outer:List Env) (s:Shared) (H:Hp) (vs:List V) (Q:VK) (E:XK),Room k (A.deeper (envOfC qual (ah st) s.heap.objs.size f cdv))->sp vs H Q E ->
   ∃t,F5 (bF (CXX P w) P w K mg base N qual (ah st) f cdv A outer s H E) (aO st) t/\t { nx:=λ_ H'=>Q .non H',rt:=Q } (λ_=>E) (start N vs) H):a8 P w K mg base (CXX P w) (k+1) f fd ps sp:=by
 obtain⟨oc,od,kV,doc,pm,an,cdv,ct,osl,rfl,lk,hcd⟩:=F.ex;refine TM lk hcd S len λA outer s H vs Q E hr hsp=>?_
 obtain⟨t,h,q⟩:=FQ cdv A outer s H vs Q E hr hsp;exact⟨λD σ H=>t D (λ_=>E) σ H,λpins s1 σ H1 D I hw=>alg (h pins s1 σ H1 D _ I hw) (λ_ _ z=>z) λ_ _ z=>RF z,q⟩
end
def xo (a:Addr)(cls:Value)(xd:Option Addr):HO:=.ext λh=>∃(sl:Array (Option Value)) (vs:Array Value),h.get? a=some ⟨cls,xd,.fields vs,sl⟩
abbrev hcx (X:Cx)(e:Addr):Cx:={ X with A:=X.A.mark (some (.ref e)),calm:=false,xe:=λ_ _=>False }
section
variable{X:Cx}{pins:List (Addr×Obj)}{σ:St}{H:Hp}{s:Shared}{e:Addr}{cls:Value}{xd:Option Addr}{m:Option Value}
theorem JF (I:Inv X pins σ H s)(e:Addr):Inv (hcx X e) pins σ H s :=
 ⟨⟨I.ok.mod,I.ok.kind,I.ok.glob,I.ok.blt,I.ok.above,I.ok.inj,I.ok.has,I.ok.cab,λz=>absurd (show false=true from z) kr,I.ok.frames,I.ok.stk,I.ok.exf,I.ok.bs,I.ok.bsz,I.ok.Jj,I.ok.FN,I.ok.uD,I.ok.frf⟩,I.os,I.bare,I.base,I.loc,I.cell,I.free,I.o9,I.pin,I.hok,I.len⟩
theorem nM (ok:X.Ok)(I:Inv (hcx X e) pins σ H s):Inv X pins σ H s:=⟨ok,I.os,I.bare,I.base,I.loc,I.cell,I.free,I.o9,I.pin,I.hok,I.len⟩
theorem RG (I:Inv X pins σ H s)(x:XAt X pins H s.heap e cls xd m):Inv X pins σ (upd H e (xo e cls xd)) s:=by
 obtain⟨ok,sl,vs,he,hz,_⟩:=x;have nb:∀b u,H b=some u->b≠e:=λb u q z=>by rw[z,ok.1]at q;cases q
 have hk:HOk X.prog X.w (upd H e (xo e cls xd)) s.heap:=λb u q=>by
  by_cases hb:b=e
  ·subst hb;rw[ae]at q;cases q;exact⟨⟨sl,vs,he⟩,⟨_,he⟩,λh1 h2 ⟨sl',vs',z⟩ k=>⟨sl',vs',k _ z⟩⟩
  ·rw[av hb]at q;exact(I.hok b u q).CI (λc v _ r=>r) (λc r=>by rw[av (nb c _ r)];exact r) λc xs r=>by rw[av (nb c _ r)];exact r
 exact I.step (g':=s.gens) (t':=s.toks) (d':=s.drawn) (h':=s.heap) (ch:=[e]) (λb hb=>by
   obtain rfl:b=e:=by simpa using hb
   exact⟨ok.2.2.2.1,ok.2.1,ok.2.2.2.2.1,ok.2.2.2.2.2⟩)
  (λ_ _ _ _ _ q _=>q) (λb o _ _ _ q _=>⟨o.slots,q⟩) (λb o hb _ n=>by rw[av (by simpa using hb)];exact n) (λb o _ q=>⟨o,q⟩)
  (λb xs q=>by rw[av (nb b _ q)];exact q) (λb o u q=>by rw[av (nb b _ q)];exact q) (λb ps q=>⟨#[],by rw[av (nb b _ q),q];simp⟩) (λ_ q=>q) hk I.bare
theorem EB {M:Model}{A:Around}{E:Value->Shared->Prop}{n:Str}{i:Nat}{pos:Pos}{Q:Unit->Shared->Prop}(I:Inv X pins σ H s)(hN:X.N.Nodup)(hi:X.N[i]?=some n)(hl:X.env.kindOf n=some .local)
  (h:∀s',Inv X pins (σ.set i none) H s'->Q () s'):wpAny M A (do bindName X.env n .none;unbindBehindTheSuite X.env n pos) Q E s:=by
 obtain⟨mm,hn,aiC⟩:=I.loc;refine wpAny_nameGoes_keeps hl hn (by rw[I.ok.kind];rfl) λh' v hn' sb=>h _ ?_
 have ol:∃o,s.heap.get? X.env.locals=some o/\H X.env.locals=none:=by obtain⟨o,_,_,ho,_⟩:=hn;exact⟨o,ho,I.free⟩
 have keep:∀b o,b≠X.env.locals->s.heap.get? b=some o->h'.get? b=some o:=λb o hb q=>(sb.2 b hb).trans q
 have below:∀ {b:Addr} {o:Obj},X.s₀.heap.get? b=some o->b≠X.env.locals:=λ{b o} q=>ale (ali (sr q) I.ok.above)
 refine⟨I.ok,I.os,I.bare,⟨λb o q nn hb hx=>keep b o (below q) (I.base.keep b o q nn hb hx),λb o q nn hb hx=>?_,I.base.free,λb o q hx=>?_,I.base.vF,I.base.uC,I.base.vG⟩,⟨_,hn',λj y w e1 e2 e3=>?_⟩,λy c ec=>?_,I.free,I.o9,λp hp=>?_,λb u q=>?_,by rw[alZ];exact I.len⟩
 ·obtain⟨sl,z⟩:=I.base.slot b o q nn hb hx;exact⟨sl,keep b _ (below q) z⟩
 ·obtain⟨o',z⟩:=I.base.there b o q hx;exact⟨o',keep b _ (below q) z⟩
 ·have hj:j≠i:=λz=>by
   subst z
   by_cases hlt:j < σ.length
   ·rw[amm hlt]at e2;cases e2
   ·rw[List.getElem?_eq_none_iff.mpr (by rw[alZ];omega)]at e2;cases e2
  rw[amv (alr hj)]at e2;obtain⟨u,r,q⟩:=aiC j y w e1 e2 e3;refine⟨u,r,?_⟩;rcases q with ⟨k,z⟩ | ⟨k,c,z,hc⟩
  ·have:y≠n:=λz=>hj (AG hN e1 (z▸hi))
   exact .inl ⟨k,by simp only[this,if_false];exact z⟩
  ·obtain⟨o,ho,hd⟩:=hc;exact .inr ⟨k,c,z,o,keep c o (I.cne y c z) ho,hd⟩
 ·obtain⟨v',o,ho,hd⟩:=I.cell y c ec;exact⟨v',o,keep c o (I.cne y c ec) ho,hd⟩
 ·obtain⟨a1,a2,a3,a4,a5⟩:=I.pin p hp;exact⟨keep p.1 p.2 a3 a1,a2,a3,a4,a5⟩
 ·refine(I.hok b u q).CI (λc v hc r=>keep c v (λz=>?_) r) (λ_ z=>z) λ_ _ z=>z
  have fr:=I.free;rw[<-z]at fr;rcases hc with rfl | hc
  ·rw[q]at fr;cases fr
  ·rw[hc]at fr;cases fr
end
abbrev THX:=Ends->SXK->St->XK
def OF (D:Ends)(i:Nat):Ends:={ nx:=λσ H=>D.nx (σ.set i none) H,rt:=D.rt,bk:=λσ H=>D.bk (σ.set i none) H,ct:=λσ H=>D.ct (σ.set i none) H }
def TU (K:ba)(C:Addr)(ts:TS)(tr:THX):THX:=λD E σ cls xd H=>∃b,eg K cls (.ref C)=some b/\if b=true then ts D σ H else tr D E σ cls xd H
def hAs (K:ba)(C:Addr)(i:Nat)(ts:TS)(tr:THX):THX:=λD E σ cls xd H=>∃b,eg K cls (.ref C)=some b/\if b=true then ∀ea,H ea=none->ts (OF D i) (σ.set i (some (.ref ea))) (upd H ea (xo ea cls xd)) else tr D E σ cls xd H
def TX (tb:TSX)(th:THX):TSX:=λD E σ H=>tb D (λσ' cls xd H'=>th D E σ' cls xd H') σ H
def PHX (X:Cx)(hs:List ExceptHandler)(t:THX):Prop :=
 ∀(pins:List (Addr×Obj)) (s:Shared) (σ:St) (H:Hp) (D:Ends) (E:SXK) (ea:Addr) (cls:Value) (xd:Option Addr),Inv X pins σ H s->XAt X pins H s.heap ea cls xd (some .none)->t D E σ cls xd H ->
  wpAny (model X.prog X.w) X.A (handleBy (.ref ea) X.env hs) (SP X pins D) (XPS X pins E) s
section
variable{X:Cx}{x n:Str}{C:Addr}{np pos:Pos}{b₀:Stmt}{LQ:List Stmt}{rest:List ExceptHandler}{ts:TS}{tr:THX}
theorem LR (F:Fr1 X):PHX X [] (λ_ E σ cls xd H=>E σ cls xd H):=by
 intro pins s σ H D E ea cls xd I hx h;refine wpAny_handleBy_nil ?_;unfold PySem.passOn;obtain⟨ok,sl,vs,he,hz,T,oT,ts,h1,r⟩:=id hx;refine gn (wpAny_field he rfl h1 ?_);rw[if_neg (show ¬((alc T == amx)=true) by simp)]
 have step:wpAny (model X.prog X.w) X.A (do setFlight (.ref ea) X.env.frame;throw (.ref ea):Sem Flow) (SP X pins D) (XPS X pins E) s :=
  gn (rO I hx λs2 I2 x2=>wpAny_throw ⟨σ,ea,cls,xd,_,H,rfl,I2,x2,by rw[F.fr];exact .inr (.inr ⟨_,rfl⟩),h⟩)
 first
  |exact step
  |exact gn (wa step)
theorem TY {pins:List (Addr×Obj)}{s:Shared}{σ:St}{H:Hp}{ea:Addr}{cls:Value}{xd:Option Addr}{b:Bool}{E:Value->Shared->Prop}{R:Bool->Shared->Prop}(I:Inv X pins σ H s)(hx:XAt X pins H s.heap ea cls xd (some .none))
  (hg:Gl X x) (hm:X.mg x=some (.ref C)) (eb:eg X.K cls (.ref C)=some b) (h:R b s) (hd:(x == ("__debug__":Str))=false:=by decide) :
  wpAny (model X.prog X.w) (X.A.mark (some (.ref ea))) (eval (.Name x np) X.env) (λc s₁=>wpAny (model X.prog X.w) (X.A.mark (some (.ref ea))) (excMatches (.ref ea) c) R E s₁) E s:=by
 obtain⟨_,sl,vs,he,_⟩:=hx;refine jb (JF I ea) hg hm ?_ hd;have lt:PySem.W.Looks (model X.prog X.w) s.heap (typeOf (.ref ea)) cls:=(PySem.W.Looks.ld he).andThen .now;exact PySem.W.exm_one I.kIn lt eb _ _ _ s (λ_ _ q=>q) h
theorem A0 (hg:Gl X x)(hm:X.mg x=some (.ref C))(hs:∀e,PSs (hcx X e) (b₀::LQ) ts)(hr:PHX X rest tr)(hd:(x == ("__debug__":Str))=false:=by decide) :
  PHX X (.ExceptHandler (some (.Name x np)) none (b₀::LQ) pos::rest) (TU X.K C ts tr):=by
 intro pins s σ H D E ea cls xd I hx h;unfold TU at h;obtain⟨b,eb,h⟩:=h;refine wpAny_handleBy_cons (codeAny_handlers_test (TY I hx hg hm eb ?_ hd)) (by intro q;cases q)
 cases b with
 |true =>
  refine codeAny_handlers_suite (rO I hx λs1 I1 x1=>?_)
  refine alg (hs ea pins s1 σ H D (JF I1 ea) h) (λf s2 q=>?_) λ_ _ z=>als z
  cases f with
  |next=>obtain⟨σ',H',I',q⟩:=q;exact⟨σ',H',nM I.ok I',q⟩
  |brk=>obtain⟨σ',H',I',q⟩:=q;exact⟨σ',H',nM I.ok I',q⟩
  |cont=>obtain⟨σ',H',I',q⟩:=q;exact⟨σ',H',nM I.ok I',q⟩
  |ret u=>obtain⟨v,σ',H',I',r,q⟩:=q;exact⟨v,σ',H',nM I.ok I',r,q⟩
 |false=>exact hr pins s σ H D E ea cls xd I hx h
theorem VT {i:Nat}(hN:X.N.Nodup)(hi:X.N[i]?=some n)(hl:X.env.scope.names.lookup n=some .local)(hg:Gl X x)(hm:X.mg x=some (.ref C))(hs:∀e,PSs (hcx X e) (b₀::LQ) ts)(hr:PHX X rest tr)(hd:(x == ("__debug__":Str))=false:=by decide) :
  PHX X (.ExceptHandler (some (.Name x np)) (some n) (b₀::LQ) pos::rest) (hAs X.K C i ts tr):=by
 intro pins s σ H D E ea cls xd I hx h;unfold hAs at h;obtain⟨b,eb,h⟩:=h;refine wpAny_handleBy_cons (codeAny_handlers_test (TY I hx hg hm eb ?_ hd)) (by intro q;cases q)
 cases b with
 |true =>
  refine codeAny_handlers_suite_as (rO I hx λs1 I1 x1=>?_)
  refine pb (X:=hcx X ea) (v:=.ref ea) (JF (RG I1 x1) ea) hN hi (.inl hl) rfl (λs2 I2=>?_) (.inr hl)
  refine alg (hs ea pins s2 _ _ (OF D i) I2 (h ea hx.ok.1)) (λf s3 q=>?_) λ_ _ z=>als z
  show wpAny _ _ _ _ _ _;cases f with
  |next=>obtain⟨σ',H',I',q⟩:=q;exact EB (nM I.ok I') hN hi hl λs4 I4=>⟨_,H',I4,q⟩
  |brk=>obtain⟨σ',H',I',q⟩:=q;exact EB (nM I.ok I') hN hi hl λs4 I4=>⟨_,H',I4,q⟩
  |cont=>obtain⟨σ',H',I',q⟩:=q;exact EB (nM I.ok I') hN hi hl λs4 I4=>⟨_,H',I4,q⟩
  |ret u=>obtain⟨v,σ',H',I',r,q⟩:=q;exact EB (nM I.ok I') hN hi hl λs4 I4=>⟨v,_,H',I4,r,q⟩
 |false=>exact hr pins s σ H D E ea cls xd I hx h
theorem LS {body:List Stmt}{h₀:ExceptHandler}{hs:List ExceptHandler}{tb:TSX}{th:THX}(F:Fr1 X)(hb:F5 X body tb)(hh:PHX X (h₀::hs) th) :
  PSX X (.Try body (h₀::hs) [] [] pos) (TX tb th):=by
 intro pins s σ H D E I h;unfold TX at h;refine wpAny_Try_except (alg (hb pins s σ H D _ I h) (λf s1 q=>?_) (λv s1 q=>?_))
 ·cases f with
  |next=>exact wpAny_execs_nil q
  |ret v=>exact q
  |brk=>exact q
  |cont=>exact q
 ·obtain⟨σ',ea,cls,xd,m,H',rfl,I1,hx,hm,q⟩:=q;exact Oz F I1.ok.frames I1 hx hm λs2 I2 x2=>rO I2 x2 λs3 I3 x3=>hh pins s3 σ' H' D E ea cls xd I3 x3 q
end
structure GaX (K:ba)(C:Addr):Prop where
 ga:cb K (.ref C) "__getattribute__"=some (some (.builtin "BaseException.__getattribute__"))
 hk:cb K (.ref C) "__getattr__"=some none
 mb:alV K C (.type "BaseException")=some true
theorem F6:Slot "ValueError" "__getattribute__" "BaseException.__getattribute__":=F.attr_ValueError.ga
section
variable{prog:rf}{w:World}{A:Around}{E:Value->Shared->Prop}{s:Shared}{K:ba}{x C:Addr}{ox:Obj}{od:Option Obj}{name:Str}
theorem OG {M:Model}{TZ:Value}{Q:Unit->Shared->Prop}(X:K.In s.heap)(I:PySem.W.InstAt s.heap x ox C od)(t:GaX K C)(hq:Q () s) :
  wpAny M A (checkBuiltinCall "BaseException.__getattribute__" ⟨[.ref x,TZ],[]⟩) Q E s:=by
 have hk:builtinKind "BaseException.__getattribute__"=some .slot:=by trivial
 have VU:splitId "BaseException.__getattribute__"=some ("BaseException","__getattribute__"):=by trivial
 have L0:=I.type (M:=M);have L1:=PySem.W.looks_mroIn (M:=M) X t.mb;have ha:=F.args_bexc_ga (.ref x) TZ;obtain⟨hh,g,d,tt,os⟩:=s;simp only[checkBuiltinCall,hk,VU];refine gn ?_;unfold isInstance;refine gn (L0.at (L1.at ?_))
 repeat (any_goals (first | assumption | wp_step))
def akI (v:Value)(Q:Value->Shared->Prop):Fin->Shared->Prop:=λfin s'=>match fin with | .done (.ret u)=>u=v/\Q u s' | _=>False
theorem OH {tk:Tok}{v:Value}{Q:Fin->Shared->Prop}(X:K.In s.heap)(I:PySem.W.InstAt s.heap x ox C od)(hf:PySem.W.findObj K C od name=some (.value v))(hq:Q (.done (.ret v)) s) :
  wpAny (model prog w) A (Builtin.«object.__getattribute__» ⟨[.ref x,.str name tk],[]⟩) Q E s:=by
 obtain⟨hh,g,d,tt,os⟩:=s;have L0:=I.type (M:=model prog w);have L1:=PySem.W.looks_find (M:=model prog w) X I hf;unfold Builtin.«object.__getattribute__»;refine gn (wa (gn (wa (gn (L0.at (gn (L1.at ?_)))))));exact wa hq
theorem aau {tk:Tok}{fill ex:Bool}{Q:Value->Shared->Prop}(X:K.In s.heap)(I:PySem.W.InstAt s.heap x ox C od)(t:GaX K C)
  (h:wpAny (model prog w) A.in1 (Builtin.«object.__getattribute__» ⟨[.ref x,.str name tk],[]⟩) (λfin s'=>match fin with | .done (.ret v)=>PySem.W.handedIn v=true/\Q v s' | _=>False) (λ_ _=>False) s) :
  wpAny (model prog w) A (getAttrBy (.ref x) (.str name tk) fill ex) Q E s:=by
 obtain⟨hh,g,d,tt,os⟩:=s;have L0:=I.type (M:=model prog w);have L1:=amw (M:=model prog w) X t.ga;have L2:=amw (M:=model prog w) X t.hk;unfold getAttrBy;refine alY (gn (L0.at (gn (L1.at ?_))));show wpAny _ _ (if (onTheHeap (alc C) && Value.builtin "BaseException.__getattribute__" == Value.builtin "object.__getattribute__")=true then _ else getAttrByItsOwn _ _ _ _ _ _) _ _ _
 rw[if_neg (by rw[show (Value.builtin "BaseException.__getattribute__" == Value.builtin "object.__getattribute__")=false from by trivial];exactλz=>Bool.noConfusion z)]
 unfold getAttrByItsOwn hookBefore callGetattribute boundAndCalled;refine gn ?_;show wpAny _ _ (typeLookup (.ref C) "__getattr__") _ _ _;refine L2.at ?_;refine gn (wpAny_attempt (alY ?_));rw[if_neg (by cases ex <;> decide)]
 refine gn (wpAny_of_eq (F6.bind _) ?_);show wpAny _ _ (call (.builtin "BaseException.__getattribute__") [.ref x,.str name tk]) _ _ _;refine wpAny_call (codeAny_call_builtin F6.plain F.entry_bexc_ga (OG X I t (alg h (λfin s' z=>?_) λ_ _ z=>z.elim)))
 rcases fin with (_ | _ | _ | _) | _ <;> first | exact PySem.W.handed_on z.1 z.2 | exact z.elim
end
structure akJ (K:ba)(C:Addr):Prop where
 ga:GaX K C
 cd:(PySem.W.clsIn K C).isSome=true
 ha:cb K (.ref C) "__class__"=some (some (.builtin "object.__class__"))
 hn:PySem.W.specialIn K (.builtin "object.__class__") "__get__"=some (some (.builtin "getset_descriptor.__get__"))
 htk:PySem.W.takesIn K (.builtin "object.__class__")=some true
 hm:alV K C (.type "object")=some true
section
variable{prog:rf}{w:World}{A:Around}{E:Value->Shared->Prop}{h:Heap}{g:Array GenState}{d:Drawn}{t:Nat}{os:OsState}
variable{nm q:Str}{C N:Addr}{bs bm bmB:List Value}{hdct:Bool}{sn:List Str}{sub:List Value}{ab:Bool}{col:Option Bool}{dd:Option Addr}{k0 k1 k2 k3 k5:Option Value}{B nid iid:String}
abbrev nO (h:Heap)(C:Addr)(us:List Value):Heap:=(h.push { cls:=.type "tuple",data:=.seq us.toArray }).push ⟨.ref C,none,.fields #[.ref h.objs.size,.none,.none,.none,.bool false,.none],#[]⟩
theorem fV {us:List Value}{b:Addr}{o:Obj}(e:h.get? b=some o):(nO h C us).get? b=some o:=kf _ (kf _ e)
theorem A1 {us:List Value}:(nO h C us).get? (h.objs.size+1)=some ⟨.ref C,none,.fields #[.ref h.objs.size,.none,.none,.none,.bool false,.none],#[]⟩:=by
 have:=alf (h.push { cls:=.type "tuple",data:=.seq us.toArray }) (o:=⟨.ref C,none,.fields #[.ref h.objs.size,.none,.none,.none,.bool false,.none],#[]⟩) rfl
 rwa [amB]at this
theorem JG (F:ExcBaseFacts B nid iid bmB)(T:OwnTail h bmB bm){mN:Str->Option Value}{us:List Value}{Q:Fin->Shared->Prop}
  (kC:h.get? C=some (alJ nm q C N bs bm hdct sn sub ab col dd k0 k1 k2 k3 k5 nid)) (kN:h.Ns N mN) (kI:mN "__init__"=none) (hz:us.length<=kg)
  (hq:∀h',(∀b o,h.get? b=some o->h'.get? b=some o)->(∃tp,h'.get? (h.objs.size+1)=some ⟨.ref C,none,.fields #[.ref tp,.none,.none,.none,.bool false,.none],#[]⟩)->Q (.done (.ret (.ref (h.objs.size+1)))) ⟨h',g,d,t,os⟩) :
  wpAny (model prog w) A (Builtin.«type.__call__» ⟨.ref C::us,[]⟩) Q E ⟨h,g,d,t,os⟩:=by
 repeat (first | with_reducible refine wpAny_loadPart_at kC ?_ | with_reducible refine wpAny_madeBy_exc kC ?_ | wp_step)
 refine codeAny_call_builtin_code (Code.quiet_builtin _ F.quiet) (wpAny_check_new_subT F T kC (codeAny_exc_new_subT F T kC ?_ hz));show wpAny _ _ _ _ _ _;have kC1:(nO h C us).get? C=_:=fV kC;have kN1:(nO h C us).Ns N mN:=kN.keeps λb o e=>fV e
 have T1:OwnTail (nO h C us) bmB bm:=T.keeps λb o e=>fV e
 have kE:=A1 (h:=h) (C:=C) (us:=us);have self:(alc C::bm).contains (.ref C)=true:=by simp
 unfold isInstance
 repeat (first | with_reducible refine wpAny_loadPart_at kE ?_ | (with_reducible refine wpAny_isSubtype_exc kC1 ?_;rw[self]) | wp_step)
 show wpAny _ _ (typeLookup (.ref C) _) _ _ _;refine wpAny_typeLookup_tail kC1 kN1 T1 F.mroIs F.init.lookup ?_;rw[kI];refine alY (gn (wpAny_of_eq (F.init.bind _) ?_));refine gn (wpAny_call (codeAny_call_builtin F.init.plain F.initEntry (wpAny_check_init_subT F T1 kC1 kE rfl ?_)))
 wp_walk
 refine hq _ (λb o e=>?_) ⟨h.objs.size+2,?_⟩
 ·rw[alS _ _ (Nat.ne_of_gt (Nat.lt_succ_of_lt (sr e)))];exact kf _ (fV e)
 ·refine(amb _ (kf _ kE) rfl).trans ?_;simp only[amB];rfl
theorem MN (F:ExcBaseFacts B nid iid bmB)(T:OwnTail h bmB bm){mN:Str->Option Value}{us:List Value}{Q:Value->Shared->Prop}
  (kC:h.get? C=some (alJ nm q C N bs bm hdct sn sub ab col dd k0 k1 k2 k3 k5 nid)) (kN:h.Ns N mN) (kI:mN "__init__"=none) (hz:us.length<=kg)
  (hq:∀h',(∀b o,h.get? b=some o->h'.get? b=some o)->(∃tp,h'.get? (h.objs.size+1)=some ⟨.ref C,none,.fields #[.ref tp,.none,.none,.none,.bool false,.none],#[]⟩)->Q (.ref (h.objs.size+1)) ⟨h',g,d,t,os⟩) :
  wpAny (model prog w) A (call (.ref C) us) Q E ⟨h,g,d,t,os⟩:=by
 have l1:=tc_lookup;have l2:=tc_bind (.ref C);have ty:(⟨h,g,d,t,os⟩:Shared).TypeIs (.ref C) "type":=⟨_,kC,rfl⟩;refine wpAny_call (codeAny_of_tree ?_);show wpAny _ _ (callAny (.ref C) _) _ _ _
 repeat (any_goals (first | assumption | with_reducible refine wpAny_loadPart_at kC ?_ | wp_step))
 refine⟨rfl,codeAny_call_builtin_at (Code.quiet_builtin _ (by trivial)) entry_typeCall (wpAny_check_type_call_sub kC (JG F T kC kN kI hz λh' k e=>?_))⟩
 exact hq h' k e
theorem tP {M:Model}{env:Env}{s:Shared}{x:Sem Value}{Q:Flow->Shared->Prop}(FU:bm.contains (.type "BaseException")=true)(hh:A.handled=none)
  (hx:wpAny M A x (λv s₁=>∃(e:Addr) (xd:Option Addr) (a0:Value) (sl:Array (Option Value)),v=.ref e/\s₁.heap.get? C=some (alJ nm q C N bs bm hdct sn sub ab col dd k0 k1 k2 k3 k5 nid) /\
   s₁.heap.get? e=some ⟨.ref C,xd,.fields #[a0,.none,.none,.none,.bool false,.none],sl⟩/\E (.ref e) s₁) E s):wpAny M A (raiseStmt env (some x) none) Q E s:=by
 have top:(alc C::bm).contains (.type "BaseException")=true:=by rw[List.contains_cons,FU,Bool.or_true]
 unfold raiseStmt;refine gn (alg hx (λv s₁ h₁=>?_) λ_ _ z=>z)
 obtain⟨e,xd,a0,sl,rfl,kC,kE,fin⟩:=h₁;obtain⟨hp,g',d',tk,os'⟩:=s₁
 repeat (first | with_reducible refine wpAny_loadPart_at kE ?_ | with_reducible refine wpAny_loadPart_at kC ?_ | (with_reducible refine wpAny_isSubtype_exc kC ?_;rw[top]) | wp_step)
 exact wpAny_raiseNew_none hh fin
end
abbrev qP:List Value:=[.type "ValueError",.type "Exception",.type "BaseException",.type "object"]
def strKeys (es:Array al3):Bool:=es.toList.all λe=>match e.key with | .str _ _=>true | _=>false
structure EC (K:ba)(N:Addr):Prop where
 ex:∃(c:Value) (dd:Option Addr) (es:Array al3) (n:Nat) (sl:Array (Option Value)),K.lookup N=some ⟨c,dd,.dict es n,sl⟩/\strKeys es=true
 no:fe K N "__init__"=some none
theorem EC.ns {K:ba}{N:Addr}(x:EC K N){h:Heap}(X:K.In h):∃mN,h.Ns N mN/\mN "__init__"=none:=by
 obtain⟨⟨c,dd,es,n,sl,l,sk⟩,no⟩:=x;have ns:h.Ns N (nsFind es):=⟨_,es,n,X _ _ l,rfl,λe he=>by
  have z:=List.all_eq_true.mp sk e (Array.mem_toList_iff.mpr he);cases hk:e.key with
  |str y t=>exact⟨y,t,rfl⟩
  |_=>rw[hk]at z;exact absurd z kr,λ_=>rfl⟩
 refine⟨_,ns,?_⟩;unfold fe at no;rw[l]at no;dsimp only at no;unfold nsFind findBy;rw[<-Array.find?_toList];cases hf:es.toList.find? (λe=>e.key.isStr "__init__") with
 |none=>rfl
 |some e=>rw[hf]at no;cases no
inductive jc (K:ba):List Value->Prop
 |base:jc K qP
 |own {D:Addr} {c0:Value} {dd:Option Addr} {cd:ClassData} {sl:Array (Option Value)} {tl:List Value}:K.lookup D=some ⟨c0,dd,.cls cd,sl⟩->EC K cd.ns->jc K tl->jc K (.ref D::tl)
theorem jc.tail {K:ba}{bm:List Value}(x:jc K bm){h:Heap}(X:K.In h):OwnTail h qP bm:=by
 induction x with
 |base=>exact .base
 |own l n _ ih =>
  obtain⟨mA,a,b⟩:=n.ns X;exact .own (X _ _ l) a b ih
structure F7 (K:ba)(C:Addr):Prop where
 ex:∃(nm q:Str) (N:Addr) (bs bm:List Value) (hdct:Bool) (sn:List Str) (sub:List Value) (ab:Bool) (col:Option Bool) (dd:Option Addr) (k0 k1 k2 k3 k5:Option Value),
  K.lookup C=some (alJ nm q C N bs bm hdct sn sub ab col dd k0 k1 k2 k3 k5 "ValueError.__new__")/\EC K N/\jc K bm
section
variable{X:Cx}{x:Str}{C:Addr}{np gI pos:Pos}{e₀:Expr}{rest:List Expr}{ta:TA}
theorem jM (ek:F7 X.K C)(hc:X.calm=true)(hg:Gl X x)(hm:X.mg x=some (.ref C))(ha:PA X.nox (e₀::rest) ta)(hdb:(x == ("__debug__":Str))=false:=by decide)
  (he:ak8 (e₀::rest) X.env=(false,eval e₀ X.env)::ak8 rest X.env:=by rfl) (hpl:(backTo gI (ak8 rest X.env)).any (·.1)=false:=by rfl) :
  PSX X (.Raise (some (.Call (.Name x np) (e₀::rest) [] gI)) none pos) (λ_ E σ H=>ta σ H λvs H1=>vs.length<=kg/\E σ (.ref C) none H1):=by
 intro pins s σ H D E I h;obtain⟨nm,q,N,bs,bm,hdct,sn,sub,ab,col,dd,k0,k1,k2,k3,k5,l,n,T⟩:=ek.ex;have go:wpAny (model X.prog X.w) X.A (eval (.Call (.Name x np) (e₀::rest) [] gI) X.env) (λv s₁=>∃(e:Addr) (xd:Option Addr) (a0:Value) (sl:Array (Option Value)),v=.ref e/\s₁.heap.get? C=some (alJ nm q C N bs bm hdct sn sub ab col dd k0 k1 k2 k3 k5 "ValueError.__new__") /\
   s₁.heap.get? e=some ⟨.ref C,xd,.fields #[a0,.none,.none,.none,.bool false,.none],sl⟩/\XPS X pins E (.ref e) s₁) (XPS X pins E) s:=by
  refine wpAny_Call_Name_kw (jb I hg hm ?_ hdb);unfold callWith;rw[he];refine gn (alY (Calls.evalArgs_plain ?_));have ha':=ha gI pins s σ H _ (I.pd _) h;rw[show X.nox.env=X.env from rfl,he]at ha'
  refine alg ha' (λus s₁ ⟨vs,H1,I1,r,hz,q1⟩=>gn (al4 ?_)) λ_ _ z=>als z
  have I1':=I1.eO;have kC:=I1'.kIn _ _ l;obtain⟨mN,kN,kI⟩:=n.ns I1'.kIn;have T1:=T.tail I1'.kIn;have pl:(backTo gI ((false,eval e₀ X.env)::ak8 rest X.env)).any (·.1)=false:=by
   show (false || (backTo gI (ak8 rest X.env)).any (·.1))=false
   rw[hpl];rfl
  obtain⟨hp,g',d',tk,os'⟩:=s₁;simp only[pl];refine gn (wpAny_keeperOf_exc kC ?_);refine gn (MN (F:=PySem.F.excBase_ValueError) T1 kC kN kI (by rw[List.nil_append,<-r.length];exact hz) λh' k ⟨tp,ke⟩=>gn (alY (wpAny_point (wa ?_))))
  have I2:Inv X pins σ H1 ⟨h',g',d',tk,os'⟩:=I1'.kept (t':=tk) k;refine⟨_,none,_,#[],rfl,k _ _ kC,ke,σ,_,_,none,none,H1,rfl,I2,⟨I1'.AJ (al1 _) (I1'.hok.fresh (al1 _)),_,_,ke,(by show 1 < 6;decide),rfl⟩,.inl rfl,q1⟩
 rw[arm_exec_Raise];have hb:bm.contains (.type "BaseException")=true:=(T.tail I.kIn).hasType (b:=true) (by trivial)
 first
  |exact gn (al4 (tP (C:=C) (nm:=nm) (q:=q) (N:=N) (bs:=bs) (bm:=bm) (hdct:=hdct) (sn:=sn) (sub:=sub) (ab:=ab) (col:=col) (dd:=dd) (k0:=k0) (k1:=k1) (k2:=k2) (k3:=k3) (k5:=k5) hb (I.ok.hd hc) (gn (alg go (λv s₃ h₃=>gn (al4 (wa h₃))) λ_ _ z=>z))))
  | (simp only[evalOpt,Option.map];exact gn (al4 (tP (C:=C) (nm:=nm) (q:=q) (N:=N) (bs:=bs) (bm:=bm) (hdct:=hdct) (sn:=sn) (sub:=sub) (ab:=ab) (col:=col) (dd:=dd) (k0:=k0) (k1:=k1) (k2:=k2) (k3:=k3) (k5:=k5) hb (I.ok.hd hc) (gn (alg go (λv s₃ h₃=>gn (al4 (wa h₃))) λ_ _ z=>z)))))
end
theorem Dr {α β:Type}(f:α->β):∀(xs:List α) (n:Nat),(xs.eraseIdx n).map f=(xs.map f).eraseIdx n
 |[],_=>rfl
 |_::_,0=>rfl
 |x::xs,n+1=>by
  show f x::(xs.eraseIdx n).map f=f x::(xs.map f).eraseIdx n;rw[Dr f xs n]
section
variable{X:Cx}{pos:Pos}
theorem Vals.insert {xs:List V}{us:List Value}(r:Vals xs us){y:V}{u:Value}(ry:RelV y u)(k:Nat):Vals (xs.take k++y::xs.drop k) (us.take k++u::us.drop k):=(r.take k).append (.cons ry (r.drop k))
def RH:V->List V->Hp->VK->Prop:=λx vs H Q=>∃(l:Addr) (xs:List V) (i:Int) (k:Nat) (y:V),x=.ref l/\vs=[.int i,y]/\i=(k:Int)/\H l=some (.lst xs)/\k<=xs.length/\xs.length < kg/\Q .non (upd H l (.lst (xs.take k++y::xs.drop k)))
theorem MO:MtM X "list.insert" RH:=by
 intro pins s σ H x vs v us Q I rx rv h;obtain⟨l,xs,i,k,y,rfl,rfl,hi,hH,hk,hz,q⟩:=h;cases rx;obtain⟨u1,u2,rfl,r1,r2⟩:=rv.two;obtain⟨t,rfl⟩:=r1;obtain⟨z,its,n,r,hl,e⟩:=I.FV hH;have lim:kg=16777216:=by decide
 have a2:its.toArray.size<=kg:=by rw[ky];omega
 have b:Builtin.List.listFitsIndex i=true:=fitsIndex_both (by omega) (by omega)
 have nb:¬(!Builtin.List.listFitsIndex i)=true:=by rw[b];decide
 refine call_meets F.slot_list_insert ⟨_,e,rfl⟩ F.entry_list_insert (F.args_list_insert_3 _ _ _) (AutoSeq1.list_insert_list_int_val_1 l its.toArray n i t u2 nb a2) ⟨e,?_⟩;refine⟨.non,_,I.Og (its':=its.take k++u2::its.drop k) hH e ?_ (r.insert r2 k) ?_,rfl,q⟩
 ·show (its.toArray.extract 0 (if i < 0 then (i+(its.toArray.size:Int)).toNat else min i.toNat its.toArray.size)).push u2++its.toArray.extract (if i < 0 then (i+(its.toArray.size:Int)).toNat else min i.toNat its.toArray.size)=_
  have e1:(if i < 0 then (i+(its.toArray.size:Int)).toNat else min i.toNat its.toArray.size)=k:=by
   rw[ky,if_neg (by omega)]
   omega
  rw[e1];apply Array.toList_inj.mp;simp;exact List.take_of_length_le (by rw[amo];omega)
 ·rw[ma,alb,alD,amo];omega
end
section
variable{X:Cx}{e:Expr}{te:TE}{y:Str}{j:Nat}{p1 p2 pos:Pos}
def tFR (K:ba)(te:TE)(y:Str):TE:=λσ H Q=>te σ H λx H1=>∃(a:Addr) (d:PyData),x=.ref a/\DV K H1 d x/\d.showable=true/\d.hasDict=false/\d.depth<=60/\d.shown.length+y.length<=kg/\∀z:Str,Q (.str z) H1
theorem len_app (a b:Str):(a++b).length=a.length+b.length:=by
 show (a.cps++b.cps).size=_;simp[Str.length]
theorem aav (hg:X.A.guards=some [])(hu:X.A.units+64 < cLine)(he:PE X e te):PE X (.JoinedStr [.FormattedValue e 114 none p1,.Constant (.str y) j p2] pos) (tFR X.K te y):=by
 intro pins s σ H Q I h;refine wpAny_JoinedStr ?_;show Joins _ _ _ [eval (.FormattedValue e 114 none p1) X.env,eval (.Constant (.str y) j p2) X.env] _ _ _;refine wpAny_FormattedValue_repr (thn (he pins s σ H _ I h) λv s1 ⟨x,H1,I1,r1,a,d,e1,hd,sh,nd,dp,sz,q⟩=>?_)
 subst e1;obtain rfl:v=alc a:=r1;obtain⟨as,rd⟩:=DV.reads I1 d hd rfl;refine pyReprObj_of_reads (h₀:=s1.heap) rd sh (λz=>absurd z (by rw[nd];decide)) hg (by omega) (λ_ _ z=>z) (λh' u tk hk=>?_) (by omega)
 have I2:Inv X pins σ H1 { s1 with heap:=h',toks:=tk }:=I1.kept hk
 have emp:(alE++d.shown:Str)=d.shown:=by
  apply Ex;rw[fH];rfl
 have go:∀(t:Tok) (s2:Shared),Inv X pins σ H1 s2->∃z t',Value.str d.shown t=.str z t'/\(alE++z).length<=kg/\Joins (model X.prog X.w) X.A X.xe [eval (.Constant (.str y) j p2) X.env] (alE++z) (λout s₁=>out.length<=kg/\EP X pins σ Q (.str out s₁.toks) { s₁ with toks:=s₁.toks+1 }) s2:=λt s2 I3=>by
  refine⟨_,_,rfl,by rw[emp];omega,Calls.Constant_str ⟨y,_,rfl,?_,?_⟩⟩
  ·rw[emp,len_app];omega
  ·refine⟨by rw[emp,len_app];omega,.str _,H1,(I3.tok _).tok _,⟨_,rfl⟩,q _⟩
 exact wpAny_formatField_str (go _ _ I2) (go _ _ (I2.tok _)) (by omega)
end
theorem OI {K:ba}{a D:Addr}{xs:List V}{te:TE}{Q:VK}{σ:St}{H1:Hp}(Pv:Nat->List V->Hp->Prop)(h0:Pv 0 [] (upd H1 D (.lst [])))(hz:xs.length<=kg)
  (hl:∀i ys H2,i<=xs.length->Pv i ys H2->SqT K H2 a xs/\H2 D=some (.lst ys)/\ys.length=i)
  (hs:∀i x ys H2,xs[i]?=some x->Pv i ys H2->te (some x::σ) H2 (eD D xs.length Pv i ys)) (hd:∀ys H2,Pv xs.length ys H2->Q (.ref D) H2) :
  rN (Itt K a) te σ D H1 Q:=by
 refine⟨λi m ys H=>m=xs.length - i/\i<=xs.length/\Pv i ys H,⟨xs.length,by simp,alX _,h0⟩,?_⟩
 rintro i m ys H2 ⟨rfl,hi,p⟩;obtain⟨q,q2,q3⟩:=hl i ys H2 hi p;refine⟨q2,?_⟩
 by_cases hlt:i < xs.length
 ·refine .inr ⟨⟨xs,xs[i],q,by simp[hlt]⟩,by omega,λx H3 y=>?_⟩
  obtain⟨e,y⟩:=y;subst e;exact hs i x ys _ (y xs q) p
 ·have e:i=xs.length:=by omega
  subst e;exact .inl ⟨⟨xs,q,kq _⟩,hd ys H2 p⟩
theorem bP {K:ba}{H H':Hp}{t:Addr}{xs:List V}(s:bw H H')(h:SqT K H t xs):SqT K H' t xs:=by
 rcases h with (h | ⟨o,h⟩) | h
 ·exact .inl (.inl (s _ _ h))
 ·exact .inl (.inr ⟨o,s _ _ h⟩)
 ·exact .inr h
end L2
namespace L2
open PySem PySem.Spec PySem.Calls PyProof.Rows
def VW (n:Nat)(Cf:Nat->Addr)(m:Str)(spf:Nat->Sp)(E:XK)(ta:TE):TE:=λσ H Q=>ta σ H λx H1=>∃k,k < n/\∃a dx fs,x=.ref a/\H1 a=some (.ins (Cf k) dx fs)/\fs.lookup m=none/\spf k [x] H1 Q E
section
variable{X:Cx}{o:Expr}{ta:TE}{m:Str}{apos pos:Pos}{n:Nat}{Cf ff:Nat->Addr}{fdf:Nat->kj}{spf:Nat->Sp}{kk:Nat}{ps:List Str}{CX:CXT}{E:XK}
theorem l8 {pl:Sem Bool}(he:PE X o ta)(c:∀k,k < n->Cls X.K (Cf k))(hm:∀k,k < n->Meth X.K (Cf k) m (ff k))(F:∀k,k < n->a8 X.prog X.w X.K X.mg X.base CX kk (ff k) (fdf k) ps (spf k))(hr:Room kk X.A)(hb:∀k,k < n->Binds X.K (fdf k) ps [])
  (hx:Passes CX X E)
  (ht:eval (.Call (.Attribute o m apos) [] [] pos) X.env=(do
   let ov <-eval o X.env
   standAt apos.atName
   let (f,first) <-holding [ov] (getMethod ov m pl)
   callWith pos f first (backTo pos (ak8 [] X.env)) (backToKw pos (keywordEach [] X.env))):=by rfl) :
  PE X (.Call (.Attribute o m apos) [] [] pos) (VW n Cf m spf E ta):=by
 intro pins s σ H Q I h;refine al2 (pl:=pl) (thn (he pins s σ H _ I h) λu s1 ⟨x,H1,I1,rx,k,hk,a,dx,fs,ex,ea,l,q⟩=>?_) ht
 subst ex;obtain rfl:u=alc a:=rx;refine jJ I1 ea (c k hk) (hm k hk) l ?_;exact amA (first:=[.ref a]) I1.kIn (hm k hk).kp (AS (us:=[.ref a]) (vs:=[.ref a]) (dvs:=[]) (F k hk) hr (hb k hk) .nil hx I1 (.cons rfl .nil) q)
theorem aaw {P:rf}{w:World}{K:ba}{mg:Str->Option Value}{base:Heap}{CX:CXT}{k:Nat}{f:Addr}{fd:kj}{ps:List Str}{sp sp':Sp}(F:a8 P w K mg base CX k f fd ps sp)(G:a8 P w K mg base CX k f fd ps sp') :
  a8 P w K mg base CX k f fd ps (λvs H Q E=>sp vs H Q E\/sp' vs H Q E) :=
 ⟨λvs H Q E z=>z.elim (F.len vs H Q E) (G.len vs H Q E),λa b c H d e vs Q E p q r s z=>z.elim (F.run a b c H d e vs Q E p q r s) (G.run a b c H d e vs Q E p q r s)⟩
end
section
variable{X:Cx}
def VX (K:ba):V->List V->Hp->VK->Prop:=λx vs H Q=>∃(l:Addr) (ws:List Str) (z:Str) (j:Nat),x=.ref l/\vs=[.str z]/\SqL K H l (ws.map V.str)/\ws[j]?=some z/\(∀m,m < j->ws[m]?≠some z)/\Q (.int j) H
theorem OJ:MtR X "list.index" (VX X.K):=by
 intro pins s σ H x vs v us Q I rx rv h;obtain⟨l,ws,z,j,rfl,rfl,hq,hj,hno,q⟩:=h;cases rx;obtain⟨u,rfl,t,rfl⟩:=vals1 rv;obtain⟨its,r,pl,hz⟩:=I.list hq;have hlen:=r.length;rw[bo]at hlen;obtain⟨⟨cls,dd,data,sl⟩,ho,hc,n,hd⟩:=pl.isList;simp only at hc hd;subst hc hd;have flat:(ws.map V.str).all uu=true:=by
  rw[List.all_eq_true];intro y hy;obtain⟨w,_,rfl⟩:=List.mem_map.mp hy;rfl
 have at_:∀(i:Nat) (h:i < its.toArray.size),∃w,ws[i]?=some w/\eqU (.str z) its.toArray[i]=(w == z):=λi h=>by
  have h':i < ws.length:=by rw[ky]at h;omega
  refine⟨ws[i],adm h',?_⟩;obtain⟨u,hu,ru⟩:=Vals.get r (show (ws.map V.str)[i]?=some (V.str ws[i]) by rw[aln,adm h'];rfl)
  have e:its.toArray[i]=u:=by
   rw[adm (by rw[ky]at h;exact h)]at hu
   simpa using ak9 hu
  rw[e,JA ru rfl];rfl
 have jl:j < ws.length:=(List.getElem?_eq_some_iff.mp hj).1;have hn:=uF;have hsz:ws.length<=kg:=by rw[bo]at hz;exact hz
 refine call_meets PySem.F.slot_list_index ⟨_,ho,rfl⟩ PySem.F.entry_list_index (PySem.F.args_list_index_2 _ _) (SeqAt.list_indexAt l its.toArray n dd sl (.str z t) (eqU (.str z)) j (by rw[ky];omega) (by rw[sizeLine_eq]at hsz;omega) ?_ ?_) ⟨ho,λy hy=>ph (x:=.str z) (v:=.str z t) ⟨t,rfl⟩ rfl r flat y (by simpa using hy),?_⟩
 ·obtain⟨w,h1,h2⟩:=at_ j (by rw[ky];omega)
  rw[h2];obtain rfl:=ak9 (h1.symm.trans hj);exact beq_self_eq_true _
 ·intro m hm hmj;obtain⟨w,h1,h2⟩:=at_ m hm;rw[h2];exact beq_eq_false_iff_ne.mpr λe=>hno m hmj (by rw[h1,e])
 ·exact⟨.int j,H,I.tok _,⟨_,rfl⟩,q⟩
end
end L2
namespace L2
open PySem PySem.Spec PyProof.Rows
def Ds (J:It)(tc:TT)(te:TE)(σ:St)(D:Addr)(H1:Hp)(Q:VK):Prop:=∃W:Nat->Nat->List V->Hp->Prop,(∃m,W 0 m [] (upd H1 D (.lst [])))/\∀i m ys H2,W i m ys H2 ->
 H2 D=some (.lst ys)/\((J.stop i H2/\Q (.ref D) H2)\/(J.go i H2/\ys.length < kg/\∀x H3,J.yld i H2 x H3->tc (some x::σ) H3 λb H4=>if b=true then te (some x::σ) H4 λy H5=>H5 D=some (.lst ys)/\∃m',m' < m/\W (i+1) m' (ys++[y]) (upd H5 D (.lst (ys++[y]))) else ∃m',m' < m/\W (i+1) m' ys H4))
def OK (wi:TI)(tc:TT)(te:TE):TE:=λσ H Q=>wi σ H λJ H1=>∀D,H1 D=none->Ds J tc te σ D H1 Q
section
variable{X:Cx}{pins:List (Addr×Obj)}{σ:St}{H:Hp}{s:Shared}{elt iter cnd:Expr}{x:Str}{px pos:Pos}{scope:Scope}{wi:TI}{tc:TT}{te:TE}{Q:VK}{M:List Str}
theorem JH {cl:List (Str×Addr)}{RR:Value->Addr->Result->Shared->Prop}(S:cG scope X.env.scope x X.N M)(hc:X.calm=true)(hi:PI X (.Name x px) iter wi)
  (ht:∀cl C s H fp,PT (dJ X x M scope cl C s H fp) cnd tc) (he:∀cl C s H fp,PE (dJ X x M scope cl C s H fp) elt te) (I:Inv X pins σ H s) (h:OK wi tc te σ H Q)
  (p1:∀n c,cl.lookup n=some c->X.env.cells.lookup n=some c) (p3:∀y∈scope.names,y.2=.free->(cl.lookup y.1).isSome=true)
  (hRR:∀D C H' s' o m,Inv X (pins++[(C,o)]) σ H' s'->s'.heap.get? C=some o->s'.heap.Ns C m->X.s₀.heap.objs.size<=C->(∀y c,X.env.cells.lookup y=some c->c≠C)->(∀p∈X.pn++pins,p.1≠C)->Q (.ref D) H'->RR (.ref D) C (.ok .next) s') :
  wpAny (model X.prog X.w) X.A (eval iter X.env) (λxv s₁=>wpAny (model X.prog X.w) X.A (pyIter xv) (λit s₂=>wpAny (model X.prog X.w) X.A (newList []) (λacc s₃ =>
   wpAny (model X.prog X.w) X.A (newFunctionEnv scope X.env.globals cl [] X.env.qual none .none (some X.env)) (λOv s₄ =>
    codeAny (model X.prog X.w) X.A (.compStart (.ListComp elt [⟨.Name x px,iter,[cnd],0⟩] scope pos) 0 it acc { Ov with scope:=relabel scope X.env }) (RR acc Ov.locals) s₄) X.xe s₃) X.xe s₂) X.xe s₁) X.xe s:=by
 refine thn (hi pins s σ H _ I h) λv s1 h1=>thn h1 λitv s2 h2=>?_
 obtain⟨it,fp,tn,J,H2,rfl,I2,T,st2,f2,q⟩:=h2;refine wpAny_newObj_type (wpAny_newFunctionEnv S.AZ (by intro y hy;simp at hy) (λh₁ hns₁ hsb₁=>?_) S.kind)
 dsimp only at hns₁ hsb₁ ⊢;generalize hHH:s2.heap.push { cls:=.type "list",dict:=none,data:=.seq ([]:List Value).toArray }=HH at hns₁ hsb₁ ⊢;have hCs:HH.objs.size=s2.heap.objs.size+1:=by rw[<-hHH,amB]
 have hDC:s2.heap.objs.size≠HH.objs.size:=by rw[hCs];exact ale (Nat.lt_succ_self _)
 have Ow:s2.heap.objs.size<=HH.objs.size:=by rw[hCs];exact al1 _
 have below:∀b,b < s2.heap.objs.size->b≠HH.objs.size:=λb hb=>by rw[hCs];exact ale (Nat.lt_succ_of_lt hb)
 have old:∀b o,s2.heap.get? b=some o->h₁.get? b=some o:=λb o e=>hsb₁.extBut b o (below b (sr e)) (kf _ (hHH▸kf _ e))
 have MM:h₁.get? s2.heap.objs.size=some { cls:=.type "list",data:=.seq ([]:List Value).toArray }:=hsb₁.extBut _ _ hDC (kf _ (hHH▸alf _ rfl));have fo:∀b∈fp,b < s2.heap.objs.size:=λb hb=>by
  obtain⟨o,e,_⟩:=T.obj _ _ st2 b hb;exact sr e
 have IY:=F2 (tk:=s2.toks+([]:List (Str×Value)).length) S I2 Ow (kq _) hDC p1 p3 f2 fo old hns₁ MM;have st1:tn 0 h₁:=T.keep _ _ _ st2 λb _ o e=>old b o e
 obtain⟨W,⟨m0,w0⟩,turn⟩:=q _ (I2.hok.fresh (kq _));generalize hC:HH.objs.size=C at *;generalize hDD:s2.heap.objs.size=D at *;have ndY:(dJ X x M scope cl C s2 H2 fp).N.Nodup:=by
  refine List.nodup_cons.mpr ⟨λhm=>S.nl x hm (lookup_relabel_local S.hx),S.ndM⟩
 have stat:∀ {H':Hp},(∀b∈fp,H' b=none)->∀b∈fp,kT (dJ X x M scope cl C s2 H2 fp) [] H' b:=λhn b hb =>
  ⟨hn b hb,below b (fo b hb),IY.ok.FN b hb,.inl hb,λy c e=>(f2 b hb).2.2.2.2.1 y c (p1 y c e),λp hp=>absurd (show p∈([]:List (Addr×Obj)) from hp) (by simp)⟩
 have loop:codeAny (model X.prog X.w) X.A (.compLoop (.ListComp elt [⟨.Name x px,iter,[cnd],0⟩] scope pos) 0 (.ref it) (.ref D) (compEnvC scope cl C X.env)) (RR (.ref D) C) { s2 with heap:=h₁,toks:=s2.toks+([]:List (Str×Value)).length }:=by
  refine codeAny_compLoop_tests (λn s'=>∃i v0 ys H',Inv (dJ X x M scope cl C s2 H2 fp) [] (v0::σ) H' s'/\tn i s'.heap/\(∀b∈fp,H' b=none)/\W i n ys H') ?_ m0 ⟨0,none,[],_,IY,st1,λb hb=>?_,w0⟩
  ·rintro n s3 ⟨i,v0,ys,H3,I3,st3,fr3,w3⟩;obtain⟨hDl,hw⟩:=turn i n ys H3 w3;rcases hw with ⟨stop,qn⟩ | ⟨go,hsz,step⟩
   ·refine thn (T.done (dJ X x M scope cl C s2 H2 fp) rfl rfl rfl hc i [] s3 _ H3 _ I3 (stat fr3) st3 stop) λr s4 ⟨hr,I4⟩=>?_
    subst hr;obtain⟨m4,hn4,_⟩:=I4.loc;obtain⟨oC,es4,ep4,e4,r4⟩:=id hn4;have Ox:s2.heap.objs.size<=C:=by rw[hDD];exact Ow
    have IX:Inv X pins σ H3 s4:=I2.LC (ch:=fp) I4.os I4.base I4.hok I4.bare λb hb=>⟨(f2 b hb).2.2.2.1,(f2 b hb).2.1,(f2 b hb).2.2.2.2.1,(f2 b hb).2.2.2.2.2⟩
    have fC:=I2.AJ (H':=H3) Ox I4.free;have IX2:Inv X (pins++[(C,oC)]) σ H3 s4:=IX.Am λp hp=>(List.mem_append.mp hp).elim (λz=>IX.pin p (kx _ z)) λz=>by
     have e:p=(C,oC):=by simpa using z
     subst e;exact⟨e4,fC.1,fC.2.1,fC.2.2.1,λv z=>by rw[r4.1]at z;cases z⟩
    exact hRR D C H3 s4 oC m4 IX2 e4 hn4 (ak3 I2.sz Ox) fC.2.2.2.2.1 fC.2.2.2.2.2 qn
   ·refine thn (T.item (dJ X x M scope cl C s2 H2 fp) rfl rfl rfl hc i [] s3 _ H3 _ I3 (stat fr3) st3 go) λr s4 ⟨u,hr,h4⟩=>?_
    subst hr;have e0:∀k:Sem Unit,(letOwnedTupleGo (.Name x px) (.ref it) u >>= λ_=>k)=k:=λk=>by
     rw[show letOwnedTupleGo (.Name x px) (.ref it) u=pure () from rfl,pure_bind]
    show wpAny _ _ (assign (.Name x px) (compEnvC scope cl C X.env) u) _ _ s4;rw[<-e0 (assign (.Name x px) (compEnvC scope cl C X.env) u)];refine gn (thn h4 λ_ s5 ⟨xv,H5,I5,r5,y5,st5,fr5⟩=>?_)
    have I5':=I5.pinned (stat fr5) (T.obj _ _ st5);have hxl:(dJ X x M scope cl C s2 H2 fp).env.scope.names.lookup x=some .local:=lookup_relabel_local S.hx;refine wpAny_assign_Name (pb (X:=dJ X x M scope cl C s2 H2 fp) (i:=0) I5' ndY rfl (tm hxl) r5 (λs6 I6=>?_) (.inr hxl))
    refine wpAny_tests_one (alg (ht cl C s2 H2 fp _ s6 _ H5 _ I6 (step xv H5 y5)) (λb s6' ⟨H6,I6',hb⟩=>?_) (λ_ _ f=>f.elim))
    cases b with
    |true =>
     rw[if_pos rfl];have hb':=(if_pos rfl).mp hb;refine alg (he cl C s2 H2 fp _ s6' _ H6 _ I6' hb') (λy s7 ⟨yv,H7,I7,r7,hD7,m',hm',w7⟩=>?_) (λ_ _ f=>f.elim)
     refine alg (dj (X:=dJ X x M scope cl C s2 H2 fp) _ s7 _ H7 (.ref D) [yv] (.ref D) [y] (λ_ H8=>H8=upd H7 D (.lst (ys++[yv]))) I7 rfl (.cons r7 .nil) ⟨D,ys,yv,rfl,rfl,hD7,hsz,rfl⟩)
      (λ_ s8 ⟨_,H8,I8,_,e8⟩=>?_) (λ_ _ f=>f.elim)
     subst e8;refine⟨m',hm',i+1,some xv,ys++[yv],_,I8.iu,T.keep _ _ _ st5 λb hb o e=>(I8.pin (b,o) (kx _ (kx _ (gG hb e)))).1,λb hb=>?_,w7⟩
     obtain⟨o,e,d⟩:=T.obj _ _ st5 b hb;exact(I8.pin (b,o) (kx _ (kx _ (gG hb e)))).2.1
    |false =>
     rw[if_neg kr];rw[if_neg kr]at hb;obtain⟨m',hm',w7⟩:=hb;refine⟨m',hm',i+1,some xv,ys,_,I6'.iu,T.keep _ _ _ st5 λb hb o e=>(I6'.pin (b,o) (kx _ (kx _ (gG hb e)))).1,λb hb=>?_,w7⟩
     obtain⟨o,e,d⟩:=T.obj _ _ st5 b hb;exact(I6'.pin (b,o) (kx _ (kx _ (gG hb e)))).2.1
  ·show (upd H2 D (.lst [])) b=none;rw[av (ale (fo b hb))];exact(f2 b hb).1
 exact codeAny_compStart_list loop (T.self _ 0 _ _ _ st1 loop)
theorem OL (S:cG scope X.env.scope x X.N M)(hc:X.calm=true)(hi:PI X (.Name x px) iter wi)(ht:∀cl C s H fp,PT (dJ X x M scope cl C s H fp) cnd tc)(he:∀cl C s H fp,PE (dJ X x M scope cl C s H fp) elt te)
  (hs:∀x,foldedSetIterable iter X.env x=pure x:=by intro _;rfl):PE X (.ListComp elt [⟨.Name x px,iter,[cnd],0⟩] scope pos) (OK wi tc te):=by
 intro pins s σ H Q I h;obtain⟨cl,F3,p1,p3⟩:=xu (scope:=scope) (env:=X.env) (λy hy hf=>I.ok.has y.1 (.inl (S.free y hy hf)))
 rw[eval_ListComp];refine wpAny_comprehension_free (use:=none) rfl hs F3 S.kind S.names (JH (RR:=λacc C=>compPost (model X.prog X.w) X.A X.xe none (EP X pins σ Q) acc C) S hc hi ht he I h p1 p3 ?_)
 intro D C H' s' o m I' e hn h0 h1 h2 q;refine⟨m,hn,λh' hs'=>?_⟩
 have pC:=I'.pin (C,o) (kx _ (kx _ (by simp)))
 have IX:Inv X pins σ H' s':=I'.iu;exact⟨.ref D,H',IX.turned (t':=s'.toks) (λb ob hb e=>(hs'.2 b hb).trans e) pC.2.1 pC.2.2.1 (.inr h0) h1 h2,rfl,q⟩
end
end L2
namespace L2
open PySem PySem.Spec PySem.Calls PyProof.Rows
def KeysAre:List al3->List Str->Prop
 |[],ns=>ns=[]
 |e::r,ns=>∃x xs t,ns=x::xs/\e.key=.str x t/\KeysAre r xs
theorem A2:∀ {es:List al3} {xs:List (Str×Tok)},es.map DictEntry.key=xs.map (λp=>.str p.1 p.2)->KeysAre es (xs.map (·.1))
 |[],[],_=>rfl
 |[],_::_,h=>by simp at h
 |_::_,[],h=>by simp at h
 |e::es,(x,t)::xs,h=>by
  rw[km,km]at h;injection h with h1 h2
  exact⟨x,xs.map (·.1),t,rfl,h1,A2 h2⟩
structure Au (P:Params)(K:ba)(a:Addr)(ns:List Str):Prop where
 ex:∃es n,K.lookup a=some ⟨.type "dict",none,.dict es n,#[]⟩/\PySem.W.KeysLit P es.toList/\KeysAre es.toList ns
 nd:ns.Nodup
 lo:(a == amj)=false
def Itk (ns:List Str):It:=⟨λi _=>i < ns.length,λi H x H'=>H'=H/\∃z,ns[i]?=some z/\x=.str z,λi _=>ns.length<=i⟩
theorem JI {prog:rf}{w:World}:∀(es:List al3) (ns:List Str),PySem.W.KeysLit w.params es->KeysAre es ns->∃kvs:List (Str×Value),Pairs (strKind prog w) es kvs/\kvs.map (·.1)=ns:=by
 intro es
 induction es with
 |nil =>
  intro ns _ h;have h':ns=[]:=h;subst h';exact⟨[],by first | exact .nil | exact trivial | exact rfl | constructor,rfl⟩
 |cons e r ih =>
  rintro ns ⟨⟨x,t,e1,e2⟩,hk⟩ ⟨y,ys,t',rfl,e3,hr⟩;obtain⟨kvs,h1,h2⟩:=ih ys hk hr;rw[e1]at e3;injection e3 with e4 _
  subst e4;exact⟨(x,e.val)::kvs,.cons (by rw[e1];exact strKind_is prog w x t) rfl h1,by rw[km,h2]⟩
theorem Au.at {prog:rf}{w:World}{K:ba}{a:Addr}{ns:List Str}(T:Au w.params K a ns):∃(kvs:List (Str×Value)) (n:Nat),kvs.map (·.1)=ns/\∀h:Heap,K.In h->h.DictAt (strKind prog w) a kvs n:=by
 obtain⟨es,n,hl,hk,ha⟩:=T.ex;obtain⟨kvs,h1,h2⟩:=JI (prog:=prog) es.toList ns hk ha;refine⟨kvs,n,h2,λh X=>⟨_,es,X _ _ hl,⟨rfl,rfl,rfl⟩,rfl,λe he=>?_,h1,by rw[h2];exact T.nd⟩⟩
 obtain⟨x,t,e1,e2⟩:=hk.all e (Array.mem_toList_iff.mpr he);exact⟨x,by rw[e1];exact strKind_is prog w x t,e2⟩
theorem F8 {prog:rf}{w:World}{k:Str}{v:Value}(h:(strKind prog w).is k v=true):∃t,v=.str k t:=by
 have h':Value.isStrOf k v=true:=h;cases v with
 |str x t =>
  have:k=x\/x=k:=by first | exact .inl (by simpa [Value.isStrOf] using h') | exact .inr (by simpa [Value.isStrOf] using h')
  rcases this with rfl | rfl <;> exact⟨t,rfl⟩
 |_=>exact absurd h' (by simp[Value.isStrOf])
theorem MQ {P:rf}{w:World}{K:ba}{tg:Expr}(it d:Addr)(ns:List Str)(kvs:List (Str×Value))(n:Nat)(hn:kvs.map (·.1)=ns)(hd:∀h:Heap,K.In h->h.DictAt (strKind P w) d kvs n)(hne:d≠it) :
  Turn P w K tg (Itk ns) [it] it (λi h=>h.IsKeyIter it d i kvs.length n) where
 mem:=by simp
 obj:=λi h st b hb=>by
  have e:b=it:=by simpa using hb
  subst e;obtain⟨o,e,c,dd⟩:=st;exact⟨o,e,λv z=>by rw[dd]at z;cases z⟩
 keep:=λi h h' st k=>st.at λo e=>k it (by simp) o e
 item:=by
  intro X hP hw hK hc i pins s σ H E I hf st hg;subst hP hw hK;obtain⟨f0,f1,f2,f3,f4,f5⟩:=hf it (by simp)
  have W:=Walks.dictKeys (knd:=strKind X.prog X.w) (A:=X.A) (I.ok.hd hc) it d hne kvs n;have hlen:kvs.length=ns.length:=by rw[<-hn,bo]
  refine W.item i s _ _ (by rw[hlen];exact hg) ⟨st,hd _ I.kIn⟩ λv h' tk hv st' kk=>?_
  obtain⟨k,x,hx,hk⟩:=hv;obtain⟨t,rfl⟩:=F8 hk;have I1:Inv X pins σ H { s with heap:=h',toks:=tk }:=I.turned (λb o hb e=>kk b o (by simpa using hb) e) f0 f1 f3 f4 f5
  obtain⟨oi,ei,ci,di⟩:=id st'.1;exact⟨_,rfl,LF (s:={ s with heap:=h',toks:=tk }) (n:="dict_keyiterator") ei ci di (by decide) ⟨.str k,H,I1,⟨t,rfl⟩,⟨rfl,k,by rw[<-hn,aln,hx];rfl,rfl⟩,st'.1,λb hb=>(hf b hb).1⟩⟩
 done:=by
  intro X hP hw hK hc i pins s σ H E I hf st hg;subst hP hw hK;obtain⟨f0,f1,f2,f3,f4,f5⟩:=hf it (by simp)
  have hlen:kvs.length=ns.length:=by rw[<-hn,bo]
  have hg':ns.length<=i:=hg;exact wpAny_pyNext_dict_end (I.ok.hd hc) st (hd _ I.kIn) (by first | omega | (rw[List.getElem?_eq_none_iff];omega)) λh' eb=>⟨rfl,I.turned (t':=s.toks) (λb o hb e=>eb b o hb e) f0 f1 f3 f4 f5⟩
 self:=λ_ _ _ _ _ st h=>wpAny_pyIter_keyiter st h
section
variable{X:Cx}{tg:Expr}
def aiD (ns:List Str):TI:=λ_ H R=>R (Itk ns) H
theorem VY {x:Str}{d:Addr}{ns:List Str}{p:Pos}(T:Au X.w.params X.K d ns)(hg:Gl X x)(hm:X.mg x=some (.ref d))(hdb:(x == ("__debug__":Str))=false:=by decide):PI X tg (.Name x p) (aiD ns):=by
 intro pins s σ H R I h;refine jb I hg hm ?_ hdb;obtain⟨kvs,n,hn,hd⟩:=T.at (prog:=X.prog);have hda:=hd _ I.kIn;refine wpAny_pyIter_dict T.lo hda ?_;refine⟨s.heap.objs.size,[s.heap.objs.size],_,_,H,rfl,I.kept (t':=s.toks) λb o e=>kf _ e,MQ _ d ns kvs n hn hd (ale hda.lt_size),⟨_,alf _ rfl,rfl,rfl⟩,λb hb=>?_,h⟩
 have e:b=s.heap.objs.size:=by simpa using hb
 subst e;exact I.AJ (kq _) (I.hok.fresh (kq _))
end
def rQ (n:Nat)(Pv:Nat->List V->Hp->Prop)(i:Nat)(ys:List V)(H4:Hp):Prop:=∃m',m' < n - i/\m'=n - (i+1)/\i+1<=n/\Pv (i+1) ys H4
theorem rQ.mk {n:Nat}{Pv:Nat->List V->Hp->Prop}{i:Nat}{ys:List V}{H4:Hp}(hi:i < n)(h:Pv (i+1) ys H4):rQ n Pv i ys H4:=⟨n - (i+1),by omega,rfl,hi,h⟩
theorem MR {ns:List Str}{D:Addr}{tc:TT}{te:TE}{Q:VK}{σ:St}{H1:Hp}(Pv:Nat->List V->Hp->Prop)(h0:Pv 0 [] (upd H1 D (.lst [])))(hz:ns.length<=kg)
  (hl:∀i ys H2,i<=ns.length->Pv i ys H2->H2 D=some (.lst ys)/\ys.length<=i)
  (hs:∀i z ys H2,ns[i]?=some z->Pv i ys H2->tc (some (.str z)::σ) H2 λb H4=>if b=true then te (some (.str z)::σ) H4 (eD D ns.length Pv i ys) else rQ ns.length Pv i ys H4) (hd:∀ys H2,Pv ns.length ys H2->Q (.ref D) H2) :
  Ds (Itk ns) tc te σ D H1 Q:=by
 refine⟨λi m ys H=>m=ns.length - i/\i<=ns.length/\Pv i ys H,⟨ns.length,by simp,alX _,h0⟩,?_⟩
 rintro i m ys H2 ⟨rfl,hi,p⟩;obtain⟨q2,q3⟩:=hl i ys H2 hi p;refine⟨q2,?_⟩
 by_cases hlt:i < ns.length
 ·refine .inr ⟨hlt,by omega,λx H3 y=>?_⟩
  obtain⟨e,z,hz',ex⟩:=y;subst e ex;exact hs i z ys _ hz' p
 ·have e:i=ns.length:=by omega
  subst e;exact .inl ⟨kq _,hd ys H2 p⟩
section
variable{X:Cx}
theorem RI {K:ba}{pr:Params}(ek:X.K=K)(ep:X.w.params=pr):IxR X (λx y H Q=>∃a z v u,x=.ref a/\y=.str z/\VO pr K a/\fe K a z=some (some u)/\RelV v u/\Q v H):=by
 subst ek ep;exact JE
end
end L2
namespace L2
open PySem PySem.Spec PyProof.Rows
inductive VZ:List Expr->List Str->Prop
 |nil:VZ [] []
 |cons {x:Str} {j:_} {p:Pos} {es:List Expr} {ss:List Str}:VZ es ss->VZ (.Constant (.str x) j p::es) (x::ss)
structure A3 (scope outer:Scope)(xs N M:List Str):Prop where
 kind:scope.kind=.function
 Ot:outer.kind=.function
 AZ:∀y∈scope.names,y.2≠.cell
 names:∀y∈scope.names,y.2=.local->scope.names.lookup y.1=some .local
 hx:∀x∈xs,scope.names.lookup x=some .local
 free:∀y∈scope.names,y.2=.free->outer.names.lookup y.1=some .cell
 nl:∀n∈M,(fP scope outer).names.lookup n≠some .local
 nd2:(xs++M).Nodup
 nd:N.Nodup
 len:M.length=N.length
 rel:∀i:Nat,i < N.length->M[i]?=N[i]?\/M[i]?=some alE
 em:(fP scope outer).names.lookup alE=none
theorem A3.mem {scope outer:Scope}{xs:List Str}{N M:List Str}(S:A3 scope outer xs N M){n:Str}{k:NameKind}(h:(fP scope outer).names.lookup n=some k)(hk:k=.cell\/k=.free) :
  k=.cell/\(n,ame)∈scope.names/\outer.names.lookup n=some .cell:=by
 obtain⟨⟨n',k'⟩,hm,e⟩:=List.mem_map.mp (al9 h);dsimp only at e
 by_cases hc:(k' == ame && outer.kind == .function && outer.names.lookup n' == some .cell)=true
 ·rw[if_pos hc]at e;injection e with e1 e2
  subst e1 e2;rw[alW,alW]at hc;have hk':k'=.free:=beq_iff_eq.mp hc.1.1;subst hk';exact⟨rfl,hm,beq_iff_eq.mp hc.2⟩
 ·rw[if_neg hc]at e;injection e with e1 e2
  subst e1 e2;rcases hk with z | z
  ·exact absurd z (S.AZ _ hm)
  ·subst z
   exfalso
   refine hc ?_;rw[S.free _ hm rfl,S.Ot];rfl
def aax (t:TAX):TEX:=λσ H Q E=>t σ H (λxs H1=>xs.length<=kg/\∀p,H1 p=none->Q (.ref p) (upd H1 p (.tup xs))) E
theorem Av {X:Cx}{es:List Expr}{t:TAX}{x1:_}{pos:Pos}(h:PAX X es t):PEX X (.Tuple es x1 pos) (aax t):=by
 intro pins s σ H Q E I hq;refine wpAny_Tuple_spliced (thn (h pos pins s σ H _ E I hq) λus s1 ⟨xs,H1,I1,r,z,q⟩=>⟨by rw[<-r.length];exact z,?_⟩)
 have hf:H1 s1.heap.objs.size=none:=I1.hok.fresh (kq _);refine⟨.ref s1.heap.objs.size,upd H1 s1.heap.objs.size (.tup xs),I1.laid (t':=s1.toks) (λb u e=>kf _ e) (kq _) ?_,rfl,q _ hf⟩
 exact⟨z,us,r,⟨_,alf _ rfl,rfl,_,rfl⟩⟩
abbrev TJ:=St->Hp->Str->(Str->Hp->Prop)->Prop
def PJ (X:Cx)(es:List Expr)(t:TJ):Prop :=
 ∀(pins:List (Addr×Obj)) (s:Shared) (σ:St) (H:Hp) (acc:Str) (Q:Str->Hp->Prop),Inv X pins σ H s->t σ H acc Q ->
  Joins (model X.prog X.w) X.A X.xe (evalEach es X.env) acc (λout s1=>∃H1,Inv X pins σ H1 s1/\out.length<=kg/\Q out H1) s
theorem Joins.mono {M:Model}{A:Around}{E:Value->Shared->Prop}{Q Q':Str->Shared->Prop}(hQ:∀o s,Q o s->Q' o s):∀ {ps:List (Sem Value)} {acc:Str} {s:Shared},Joins M A E ps acc Q s->Joins M A E ps acc Q' s
 |[],_,_,h=>hQ _ _ h
 |_::_,_,_,h=>alg h (λ_ _ ⟨y,t,e,l,r⟩=>⟨y,t,e,l,Joins.mono hQ r⟩) λ_ _ z=>z
inductive ED:V->Str->Prop
 |int {i:Int}:i.natAbs.log2 < 1920->ED (.int i) (toString i)
 |str {x:Str}:ED (.str x) x
section
variable{X:Cx}{e:Expr}{es:List Expr}{te:TE}{t:TJ}{y:Str}{j:Nat}{p1 p2 pos:Pos}
theorem xx:PJ X [] (λ_ H acc Q=>acc.length<=kg/\Q acc H):=λ_ _ _ H _ _ I h=>⟨H,I,h.1,h.2⟩
theorem mE (h:PJ X es t):PJ X (.Constant (.str y) j p1::es) (λσ H acc Q=>(acc++y).length<=kg/\t σ H (acc++y) Q):=by
 intro pins s σ H acc Q I hw;show wpAny _ _ (eval (.Constant (.str y) j p1) X.env) _ _ s;exact Calls.Constant_str ⟨y,_,rfl,hw.1,h pins _ σ H _ Q (I.tok _) hw.2⟩
theorem xy (he:PE X e te)(h:PJ X es t):PJ X (.FormattedValue e (-1) none p1::es) (λσ H acc Q=>te σ H λx H1=>∃z,ED x z/\z.length<=kg/\(acc++z).length<=kg/\t σ H1 (acc++z) Q):=by
 intro pins s σ H acc Q I hw;show wpAny _ _ (eval (.FormattedValue e (-1) none p1) X.env) _ _ s;refine wpAny_FormattedValue_plain (thn (he pins s σ H _ I hw) λv s1 ⟨x,H1,I1,r1,z,fz,l1,l2,q⟩=>?_)
 cases fz with
 |int hl =>
  obtain⟨tk,rfl⟩:=r1;exact wpAny_formatField_int hl ⟨_,_,rfl,l2,h pins _ σ H1 _ Q ((I1.tok _).tok _) q⟩
 |str =>
  obtain⟨tk,rfl⟩:=r1;exact wpAny_formatField_str ⟨_,_,rfl,l2,h pins _ σ H1 _ Q I1 q⟩ ⟨_,_,rfl,l2,h pins _ σ H1 _ Q (I1.tok _) q⟩ l1
theorem Dt {e₂:Expr}(h:PJ X (e::e₂::es) t):PE X (.JoinedStr (e::e₂::es) pos) (λσ H Q=>t σ H alE λz H1=>Q (.str z) H1):=by
 intro pins s σ H Q I hw;refine wpAny_JoinedStr ?_;have:=h pins s σ H alE _ I hw;refine Joins.mono ?_ this;rintro out s1 ⟨H1,I1,l,q⟩;exact⟨l,.str out,H1,I1.tok _,⟨_,rfl⟩,q⟩
end
def xi (a C:Addr)(xd:Option Addr):HO:=.ext λh=>∃a0:Addr,h.get? a=some ⟨.ref C,xd,.fields #[.ref a0,.none,.none,.none,.bool false,.none],#[]⟩
section
variable{P:rf}{w:World}{H:Hp}{h:Heap}{a C:Addr}{xd:Option Addr}
theorem OM {a0:Addr}(e:h.get? a=some ⟨.ref C,xd,.fields #[.ref a0,.none,.none,.none,.bool false,.none],#[]⟩):fE P w H h a (xi a C xd) :=
 ⟨⟨a0,e⟩,⟨_,e⟩,λ_ _ ⟨b,z⟩ k=>⟨b,k _ z⟩⟩
theorem ON (x:fE P w H h a (xi a C xd)):∃a0:Addr,h.get? a=some ⟨.ref C,xd,.fields #[.ref a0,.none,.none,.none,.bool false,.none],#[]⟩:=x.1
end
structure T2 (K:ba)(D:Addr):Prop where
 rd:PySem.W.readsIn K D (.type "type")=true
 sp:PySem.W.specialIn K (.ref D) "__getattribute__"=some (some (.builtin "type.__getattribute__"))
 fc:PySem.W.findCls K (.ref D) (.type "type") "__init__"=some (.val (.builtin "ValueError.__init__"))
structure EE (K:ba)(N f:Addr):Prop where
 ex:∃(c:Value) (dd:Option Addr) (es:Array al3) (n:Nat) (sl:Array (Option Value)),K.lookup N=some ⟨c,dd,.dict es n,sl⟩/\strKeys es=true
 at_:fe K N "__init__"=some (some (.ref f))
theorem EE.ns {K:ba}{N f:Addr}(x:EE K N f){h:Heap}(X:K.In h):∃mN,h.Ns N mN/\mN "__init__"=some (.ref f):=by
 obtain⟨⟨c,dd,es,n,sl,l,sk⟩,no⟩:=x;have ns:h.Ns N (nsFind es):=⟨_,es,n,X _ _ l,rfl,λe he=>by
  have z:=List.all_eq_true.mp sk e (Array.mem_toList_iff.mpr he);cases hk:e.key with
  |str y t=>exact⟨y,t,rfl⟩
  |_=>rw[hk]at z;exact absurd z kr,λ_=>rfl⟩
 refine⟨_,ns,?_⟩;unfold fe at no;rw[l]at no;dsimp only at no;unfold nsFind findBy;rw[<-Array.find?_toList];cases hf:es.toList.find? (λe=>e.key.isStr "__init__") with
 |none =>
  rw[hf]at no;dsimp only at no
  by_cases q:es.toList.any (·.refKey)=true
  ·rw[if_pos q]at no;cases no
  ·rw[if_neg q]at no;cases no
 |some e=>rw[hf]at no;exact ak9 no
structure EF (K:ba)(C f:Addr)(name:Str):Prop where
 ex:∃(nm q:Str) (N:Addr) (bs bm:List Value) (hdct:Bool) (sn:List Str) (sub:List Value) (ab:Bool) (col:Option Bool) (dd:Option Addr) (k0 k1 k2 k3 k5:Option Value),
  K.lookup C=some (alJ nm q C N bs bm hdct sn sub ab col dd k0 k1 k2 k3 k5 "ValueError.__new__")/\jc K bm/\hdct=true/\EE K N f
 fn:om K (.ref f)=true
 sa:cb K (.ref C) "__setattr__"=some (some (.builtin "object.__setattr__"))
 na:cb K (.ref C) name=some none
section
variable{X:Cx}{pins:List (Addr×Obj)}{σ:St}{H:Hp}{s:Shared}{C f:Addr}{name:Str}
theorem jc.pass {K:ba}{bm:List Value}(x:jc K bm)(self:Value):refuseLoop self "__setattr__" bm=pure ():=by
 induction x with
 |base=>exact PySem.F.store_ValueError.passes self
 |own _ _ _ ih=>rw[refuseLoop_ref];exact ih
theorem JJ {xk:EF X.K C f name}:mD X (.builtin "ValueError.__init__") (λxs H Q=>∃ea v,xs=[.ref ea,v]/\H ea=some (xi ea C none)/\Q .non H):=by
 intro pins s σ H xs us Q I r h;obtain⟨ea,v,rfl,hx,q⟩:=h;obtain⟨nm,qn,N,bs,bm,hdct,sn,sub,ab,col,dd,k0,k1,k2,k3,k5,l,T,hd,hi⟩:=xk.ex;obtain⟨u,u2,rfl,rx,rv⟩:=vals2 r;cases rx;obtain⟨a0,e⟩:=ON (P:=X.prog) (w:=X.w) (I.hok _ _ hx);have kC:=I.kIn _ _ l;have T1:=T.tail I.kIn;have F:=PySem.F.excBase_ValueError;have ha:X.A.handled=X.A.handled:=rfl;obtain⟨hp,g,d,tk,os⟩:=s;dsimp only at e kC T1;refine wpAny_call (codeAny_call_builtin F.init.plain F.initEntry (wpAny_check_init_subT F T1 kC e rfl ?_))
 wp_walk
 have hE:ea≠hp.objs.size:=ale (sr e);have e1:(hp.push { cls:=.type "tuple",data:=.seq #[u2] }).get? ea=_:=kf _ e;have k:∀b o,b≠ea->hp.get? b=some o->((hp.push { cls:=.type "tuple",data:=.seq #[u2] }).update ea (al7 λx=>x.setIfInBounds 0 (.ref hp.objs.size))).get? b=some o:=λb o hb q =>
  (alS _ _ (alr hb)).trans (kf _ q)
 have e2:((hp.push { cls:=.type "tuple",data:=.seq #[u2] }).update ea (al7 λx=>x.setIfInBounds 0 (.ref hp.objs.size))).get? ea=some ⟨.ref C,none,.fields #[.ref hp.objs.size,.none,.none,.none,.bool false,.none],#[]⟩:=amb _ e1 rfl
 have un:upd H ea (xi ea C none)=H:=by
  funext b
  by_cases z:b=ea
  ·rw[z,ae,hx]
  ·rw[av z]
 have I2:=I.write (x:=ea) (e:=ea) (o:=xi ea C none) (t':=tk) (by rw[hx];exact amq) (.inl rfl) k ⟨_,e2⟩ (OM e2)
 rw[un]at I2;exact⟨.non,H,I2,rfl,q⟩
end
end L2
namespace L2
open PySem PySem.Spec PyProof.Rows PySem.Builtin PySem.Builtin.ObjectAttr
section
variable{prog:rf}{w:World}{A:Around}{E:Value->Shared->Prop}{K:ba}{x C f:Addr}{name:Str}{v:Value}
theorem OO {s:Shared}{vs:Array Value}{sl:Array (Option Value)}{Q:Unit->Shared->Prop}(X:K.In s.heap)(xk:EF K C f name)(hx:s.heap.get? x=some ⟨.ref C,none,.fields vs,sl⟩)
  (h:∀h' tk,h'.get? x=some ⟨.ref C,some s.heap.objs.size,.fields vs,sl⟩->h'.Ns1 s.heap.objs.size (λy=>if y=name then some v else none)->(∀b o,b≠x->s.heap.get? b=some o->h'.get? b=some o) ->
   Q () { s with heap:=h',toks:=tk }):wpAny (model prog w) A (setAttr (.ref x) name v) Q E s:=by
 obtain⟨nm,qn,N,bs,bm,hdct,sn,sub,ab,col,dd,k0,k1,k2,k3,k5,l,T,hd,hi⟩:=xk.ex;subst hd;obtain⟨hp,g,d,tk,os⟩:=s;dsimp only at hx h X;have J:PySem.W.InstAt hp x ⟨.ref C,none,.fields vs,sl⟩ C none:=⟨hx,rfl,rfl,trivial⟩;have SF:=PySem.F.store_object;have kC:=X _ _ l;have hT:=T.tail X;have hob:(alc C::bm).contains (.type "object")=true:=by rw[List.contains_cons,hT.hasType (b:=true) (by trivial),Bool.or_true]
 have pass:refuseLoop (.ref x) "__setattr__" (.ref C::bm)=pure ():=by rw[refuseLoop_ref];exact T.pass _
 refine PySem.W.set_plain X J xk.sa ?_;have sb:PySem.W.Looks (model prog w) hp (isInstance (.ref x) (.type "object")) true:=J.type.andThen (PySem.W.looks_mroIn X (by unfold alV PySem.W.clsIn;rw[l];simpa using hob))
 refine codeAny_call_builtin SF.slot.plain SF.entry (@PySem.W.check_slot (model prog w) _ _ ⟨hp,g,d,tk+1,os⟩ "object.__setattr__" "object" "__setattr__" (.ref x) [.str name tk,v] [] _ SF.kind SF.split sb (SF.args (.ref x) (.str name tk) v) ?_);have hm:PySem.W.Looks (model prog w) hp (mroOf (.ref C)) (.ref C::bm):=(PySem.W.looks_clsIn X (by unfold PySem.W.clsIn;rw[l])).andThen .now
 rw[PySem.W.osa_eq,refuse_eq];refine gn (gn ((J.type (M:=model prog w)).at (gn (hm.at ?_))));rw[pass];refine wa (gn ((J.type (M:=model prog w)).at (gn ((amw X xk.na).at (gn ((show PySem.W.Looks (model prog w) hp (storeTaker? none) none from .now).at ?_))))))
 have hxs:x≠hp.objs.size:=ale (sr hx);obtain⟨cd,hcl,hdd⟩:∃cd,PySem.W.clsIn K C=some cd/\cd.hasDict=true:=⟨_,by unfold PySem.W.clsIn;rw[l],rfl⟩
 refine gn (wa (gn (gn (wpAny_loadPart hx (gn ((PySem.W.looks_clsIn X hcl).at ?_))))));rw[hdd];have hx₁:(hp.push { cls:=.type "dict",data:=.dict #[] }).get? x=some _:=kf _ hx;refine gn (wpAny_alloc' ?_);refine gn (wpAny_update' hx₁ ?_);refine wa ?_;have hgd:((hp.push { cls:=.type "dict",data:=.dict #[] }).update x λo=>{ cls:=o.cls,dict:=some hp.objs.size,data:=o.data,slots:=o.slots }).get? hp.objs.size
   = some { cls:=.type "dict",data:=.dict #[] } :=
  (Heap.get?_update_ne _ _ _ _ hxs.symm).trans (Heap.get?_push_at rfl rfl)
 have hnd:((hp.push { cls:=.type "dict",data:=.dict #[] }).update x λo=>{ cls:=o.cls,dict:=some hp.objs.size,data:=o.data,slots:=o.slots }).Ns hp.objs.size (λ_=>none) :=
  ⟨_,#[],_,hgd,rfl,λe he=>absurd he (by simp),λ_=>rfl⟩
 show wpAny _ _ (storeInDict hp.objs.size (.str name tk) name v) _ _ _;unfold storeInDict newKeyGuard;refine gn (wa (gn (wpAny_nsSet1 (Heap.Ns1.of_empty hnd) λh' hn' hs=>?_)))
 obtain⟨oD,esD,epD,hoD,hdD,hcD⟩:=hn'.count (Within.cons name v Within.nil);refine gn (wpAny_lookBehind hoD (by rw[hdD];exact pastItsLine_dict (ak3 hcD (by rw[alb,amE,sizeLine_eq];omega))) ?_)
 refine wa (h h' _ ?_ hn' λb ob hbx hb=>(hs.2 b (ale (sr hb))).trans ((Heap.get?_update_ne _ _ _ _ hbx).trans (kf _ hb)))
 exact(hs.2 x hxs).trans (amb _ hx₁ rfl)
end
end L2
namespace L2
open PySem PySem.Spec PyProof.Rows
section
variable{prog:rf}{w:World}{A:Around}{E:Value->Shared->Prop}{h:Heap}{g:Array GenState}{d:Drawn}{t:Nat}{os:OsState}
variable{nm q:Str}{C N fI:Addr}{bs bm bmB:List Value}{hdct:Bool}{sn:List Str}{sub:List Value}{ab:Bool}{col:Option Bool}{dd:Option Addr}{k0 k1 k2 k3 k5:Option Value}{B nid iid:String}{K:ba}
theorem MS (X:K.In h)(F:ExcBaseFacts B nid iid bmB)(T:OwnTail h bmB bm){mN:Str->Option Value}{us:List Value}{Q:Fin->Shared->Prop}
  (kC:h.get? C=some (alJ nm q C N bs bm hdct sn sub ab col dd k0 k1 k2 k3 k5 nid)) (kN:h.Ns N mN) (kI:mN "__init__"=some (.ref fI)) (hf:PySem.W.typeIn K (.ref fI)=some (.type "function")) (hz:us.length<=kg)
  (hq:wpAny (model prog w) A (call (.ref fI) (.ref (h.objs.size+1)::us)) (λr s'=>r=.none/\Q (.done (.ret (.ref (h.objs.size+1)))) s') E ⟨nO h C us,g,d,t,os⟩) :
  wpAny (model prog w) A (Builtin.«type.__call__» ⟨.ref C::us,[]⟩) Q E ⟨h,g,d,t,os⟩:=by
 repeat (first | with_reducible refine wpAny_loadPart_at kC ?_ | with_reducible refine wpAny_madeBy_exc kC ?_ | wp_step)
 refine codeAny_call_builtin_code (Code.quiet_builtin _ F.quiet) (wpAny_check_new_subT F T kC (codeAny_exc_new_subT F T kC ?_ hz));show wpAny _ _ _ _ _ _;have kC1:(nO h C us).get? C=_:=fV kC;have kN1:(nO h C us).Ns N mN:=kN.keeps λb o e=>fV e
 have X1:K.In (nO h C us):=X.keeps λb o e=>fV e
 have T1:OwnTail (nO h C us) bmB bm:=T.keeps λb o e=>fV e
 have kE:=A1 (h:=h) (C:=C) (us:=us);have self:(alc C::bm).contains (.ref C)=true:=by simp
 unfold isInstance
 repeat (first | with_reducible refine wpAny_loadPart_at kE ?_ | (with_reducible refine wpAny_isSubtype_exc kC1 ?_;rw[self]) | wp_step)
 show wpAny _ _ (typeLookup (.ref C) _) _ _ _;refine wpAny_typeLookup_tail kC1 kN1 T1 F.mroIs F.init.lookup ?_;rw[kI];refine alY (gn ((PySem.W.bind_fn X1 (.ref (h.objs.size+1)) hf).at ?_));refine gn (alg hq (λr s' hr=>?_) λ_ _ z=>z)
 obtain⟨rfl,hQ⟩:=hr
 wp_walk
 exact hQ
theorem OP (X:K.In h)(F:ExcBaseFacts B nid iid bmB)(T:OwnTail h bmB bm){mN:Str->Option Value}{us:List Value}{Q:Value->Shared->Prop}
  (kC:h.get? C=some (alJ nm q C N bs bm hdct sn sub ab col dd k0 k1 k2 k3 k5 nid)) (kN:h.Ns N mN) (kI:mN "__init__"=some (.ref fI)) (hf:PySem.W.typeIn K (.ref fI)=some (.type "function")) (hz:us.length<=kg)
  (hq:wpAny (model prog w) (A.under (.builtin "type.__call__" ⟨.ref C::us,[]⟩)) (call (.ref fI) (.ref (h.objs.size+1)::us)) (λr s'=>r=.none/\Q (.ref (h.objs.size+1)) s') E ⟨nO h C us,g,d,t,os⟩) :
  wpAny (model prog w) A (call (.ref C) us) Q E ⟨h,g,d,t,os⟩:=by
 have l1:=tc_lookup;have l2:=tc_bind (.ref C);have ty:(⟨h,g,d,t,os⟩:Shared).TypeIs (.ref C) "type":=⟨_,kC,rfl⟩;refine wpAny_call (codeAny_of_tree ?_);show wpAny _ _ (callAny (.ref C) _) _ _ _
 repeat (any_goals (first | assumption | with_reducible refine wpAny_loadPart_at kC ?_ | wp_step))
 exact⟨rfl,codeAny_call_builtin_at (Code.quiet_builtin _ (by trivial)) entry_typeCall (wpAny_check_type_call_sub kC (MS X F T kC kN kI hf hz hq))⟩
end
def MT (C:Addr)(name:Str):Sp:=λvs H Q _=>∃(e:Addr) (v:V),vs=[.ref e,v]/\H e=some (xi e C none)/\(∃z,ED v z/\z.length<=10000)/\∀d,H d=none->Q .non (upd (upd H d (.xd [(name,v)])) e (xi e C (some d)))
section
variable{X:Cx}{pins:List (Addr×Obj)}{σ:St}{H:Hp}{s:Shared}{C f:Addr}{name x:Str}{fd:kj}{ps:List Str}{k:Nat}{np gI pos:Pos}{e₀:Expr}{ta:TA}
theorem MU {E:Value->Shared->Prop}{v:V}{u:Value}{Q:Value->Shared->Prop}(xk:EF X.K C f name)(F:a8 X.prog X.w X.K X.mg X.base CX0 k f fd ps (MT C name))(hr:Room (k+1) X.A)(hb:Binds X.K fd ps [])(I:Inv X pins σ H s)(r:RelV v u)
  (hv:∃z,ED v z/\z.length<=10000)
  (h:∀(e d:Addr) (a0:Value) (s':Shared),H d=none->Inv X pins σ (upd H d (.xd [(name,v)])) s'->kT X pins (upd H d (.xd [(name,v)])) e->s'.heap.get? e=some ⟨.ref C,some d,.fields #[a0,.none,.none,.none,.bool false,.none],#[]⟩->Q (.ref e) s') :
  wpAny (model X.prog X.w) X.A (call (.ref C) [u]) Q E s:=by
 obtain⟨nm,qn,N,bs,bm,hdct,sn,sub,ab,col,dd,k0,k1,k2,k3,k5,l,T,hd,hi⟩:=xk.ex;obtain⟨mN,kN,kI⟩:=hi.ns I.kIn;have fre:=I.hok.fresh (kq _);obtain⟨hp,g,dr,tk,os⟩:=s;have ne:H (hp.objs.size+1)=none:=I.hok.fresh (al1 _);have I2:Inv X pins σ (upd H (hp.objs.size+1) (xi (hp.objs.size+1) C none)) ⟨nO hp C [u],g,dr,tk,os⟩ :=
  I.laid (h':=nO hp C [u]) (t':=tk) (λb o q=>fV q) (al1 _) (OM A1)
 have r2:Vals [V.ref (hp.objs.size+1),v] [alc (hp.objs.size+1),u]:=.cons rfl (.cons r .nil);have hsp:MT C name [V.ref (hp.objs.size+1),v] (upd H (hp.objs.size+1) (xi (hp.objs.size+1) C none))
   (λv' H'=>v'=.non/\∃d,H d=none/\d≠hp.objs.size+1/\H'=upd (upd (upd H (hp.objs.size+1) (xi (hp.objs.size+1) C none)) d (.xd [(name,v)])) (hp.objs.size+1) (xi (hp.objs.size+1) C (some d))) E0:=by
  refine⟨_,v,rfl,ae,hv,λd hd=>⟨rfl,d,?_,?_,rfl⟩⟩
  ·by_cases z:d=hp.objs.size+1
   ·rw[z,ae]at hd;cases hd
   ·rwa [av z]at hd
  ·intro z;rw[z,ae]at hd;cases hd
 have hl:[alc (hp.objs.size+1),u].length=ps.length:=by rw[<-r2.length];exact F.len _ _ _ _ hsp
 refine OP I.kIn (F:=PySem.F.excBase_ValueError) (T.tail I.kIn) (I.kIn _ _ l) kN kI (beq_iff_eq.mp xk.fn) (show 1<=kg by decide) (wpAny_call (codeAny_mono (F.run _ X.stack _ _ ⟨[alc (hp.objs.size+1),u],[]⟩ _ _ _ E0 (hr.make C [u] [])
  (I2.Rq.make C [u] []) (hb _ [alc (hp.objs.size+1),u] I2.kIn (by rw[ama];exact hl)) (by rw[ama];exact r2) hsp) λrr s' hq=>?_))
 cases rr with
 |error e=>exact hq.elim
 |ok fl =>
  cases fl with
  |ret u' =>
   obtain⟨v',H',os',bare,un,hok,rv,rfl,d,hd1,hd2,rfl⟩:=hq;cases rv;refine⟨rfl,?_⟩;have HeE:∀ {o:HO},upd (upd (upd H (hp.objs.size+1) (xi (hp.objs.size+1) C none)) d (.xd [(name,v)])) (hp.objs.size+1) o (hp.objs.size+1)=some o:=ae;have Hne:∀b,b≠hp.objs.size+1->upd (upd (upd H (hp.objs.size+1) (xi (hp.objs.size+1) C none)) d (.xd [(name,v)])) (hp.objs.size+1) (xi (hp.objs.size+1) C (some d)) b=upd H d (.xd [(name,v)]) b:=λb hb=>by
    rw[av hb]
    by_cases z:b=d
    ·rw[z,ae,ae]
    ·rw[av z,av z,av hb]
   have He2:upd H d (.xd [(name,v)]) (hp.objs.size+1)=none:=by rw[av (alr hd2)];exact ne
   have U1:Un (frs X.stack) [] H (upd H (hp.objs.size+1) (xi (hp.objs.size+1) C none)) hp (nO hp C [u]):=Un.laid (λb o q=>fV q) (al1 _) ne
   have U2:=U1.trans un;have lt:∀b o,hp.get? b=some o->b≠hp.objs.size+1:=λb o q=>ale (Nat.lt_succ_of_lt (sr q))
   have U3:Un (frs X.stack) [] H (upd H d (.xd [(name,v)])) hp s'.heap:=by
    refine⟨U2.keep,U2.slot,λb o q n hx=>?_,U2.there,λb xs q=>?_,λb o u q=>?_,λb p q=>?_⟩
    ·have z:=U2.free b o q n hx
     rwa [Hne b (lt b o q)]at z
    ·have z:=U2.vF b xs q
     rwa [Hne b (λe=>by rw[e,ne]at q;cases q)]at z
    ·have z:=U2.uC b o u q
     rwa [Hne b (λe=>by rw[e,ne]at q;cases q)]at z
    ·obtain⟨m,z⟩:=U2.vG b p q;rw[Hne b (λe=>by rw[e,ne]at q;cases q)]at z
     exact⟨m,z⟩
   have K3:HOk X.prog X.w (upd H d (.xd [(name,v)])) s'.heap:=λa o q=>by
    have ha:a≠hp.objs.size+1:=λe=>by rw[e,He2]at q;cases q
    refine(hok a o (by rw[Hne a ha];exact q)).CI (λb u _ z=>z) (λb z=>?_) (λb xs z=>?_)
    ·rwa [Hne b (λe=>by rw[e,HeE]at z;cases z)]at z
    ·rwa [Hne b (λe=>by rw[e,HeE]at z;cases z)]at z
   obtain⟨a0,ea⟩:=ON (P:=X.prog) (w:=X.w) (hok _ _ HeE);have I3:Inv X pins σ (upd H d (.xd [(name,v)])) s':=I.LC (ch:=[]) os' U3 K3 bare λb z=>absurd z (by simp)
   exact h _ d (.ref a0) s' hd1 I3 (I.AJ (al1 _) He2) ea
  |next=>exact als hq
  |brk=>exact als hq
  |cont=>exact als hq
theorem qw (xk:EF X.K C f name)(F:a8 X.prog X.w X.K X.mg X.base CX0 k f fd ps (MT C name))(hr:Room (k+1) X.A)(hb:Binds X.K fd ps [])(hc:X.calm=true)(hg:Gl X x)(hm:X.mg x=some (.ref C))(ha:PA X.nox [e₀] ta)
  (hdb:(x == ("__debug__":Str))=false:=by decide) (he:ak8 [e₀] X.env=[(false,eval e₀ X.env)]:=by rfl) :
  PSX X (.Raise (some (.Call (.Name x np) [e₀] [] gI)) none pos) (λ_ E σ H=>ta σ H λvs H1=>∃v,vs=[v]/\(∃z,ED v z/\z.length<=10000)/\∀d,H1 d=none->E σ (.ref C) (some d) (upd H1 d (.xd [(name,v)]))):=by
 intro pins s σ H D E I h;obtain⟨nm,q,N,bs,bm,hdct,sn,sub,ab,col,dd,k0,k1,k2,k3,k5,l,T,hd,hi⟩:=xk.ex;have go:wpAny (model X.prog X.w) X.A (eval (.Call (.Name x np) [e₀] [] gI) X.env) (λv s₁=>∃(e:Addr) (xd:Option Addr) (a0:Value) (sl:Array (Option Value)),v=.ref e/\s₁.heap.get? C=some (alJ nm q C N bs bm hdct sn sub ab col dd k0 k1 k2 k3 k5 "ValueError.__new__") /\
   s₁.heap.get? e=some ⟨.ref C,xd,.fields #[a0,.none,.none,.none,.bool false,.none],sl⟩/\XPS X pins E (.ref e) s₁) (XPS X pins E) s:=by
  refine wpAny_Call_Name_kw (jb I hg hm ?_ hdb);unfold callWith;rw[he];refine gn (alY (Calls.evalArgs_plain ?_));have ha':=ha gI pins s σ H _ (I.pd _) h;rw[show X.nox.env=X.env from rfl,he]at ha'
  refine alg ha' (λus s₁ ⟨vs,H1,I1,r,v,hvs,hv,q1⟩=>gn (al4 ?_)) λ_ _ z=>als z
  subst hvs;obtain⟨u,rfl,rv⟩:=Vals.one r;have I1':=I1.eO;have kC:=I1'.kIn _ _ l;have pl:(backTo gI [(false,eval e₀ X.env)]).any (·.1)=false:=rfl
  have fin:wpAny (model X.prog X.w) X.A (call (.ref C) ([]++[u])) (λr s'=>∃(e:Addr) (xd:Option Addr) (a0:Value) (sl:Array (Option Value)),r=.ref e/\s'.heap.get? C=some (alJ nm q C N bs bm hdct sn sub ab col dd k0 k1 k2 k3 k5 "ValueError.__new__") /\
   s'.heap.get? e=some ⟨.ref C,xd,.fields #[a0,.none,.none,.none,.bool false,.none],sl⟩/\XPS X pins E (.ref e) s') (XPS X pins E) s₁:=by
   refine MU xk F hr hb I1' rv hv λe d a0 s' hd1 I2 fp ke=>?_
   exact⟨e,some d,a0,#[],rfl,I2.kIn _ _ l,ke,σ,e,.ref C,some d,none,_,rfl,I2,⟨fp,_,_,ke,(by show 1 < 6;decide),rfl⟩,.inl rfl,q1 d hd1⟩
  obtain⟨hp,g',d',tk,os'⟩:=s₁;simp only[pl];refine gn (wpAny_keeperOf_exc kC ?_);exact gn (alg fin (λv s2 z=>gn (alY (wpAny_point (wa z)))) λ_ _ z=>z)
 rw[arm_exec_Raise];have hbx:bm.contains (.type "BaseException")=true:=(T.tail I.kIn).hasType (b:=true) (by trivial)
 first
  |exact gn (al4 (tP (C:=C) (nm:=nm) (q:=q) (N:=N) (bs:=bs) (bm:=bm) (hdct:=hdct) (sn:=sn) (sub:=sub) (ab:=ab) (col:=col) (dd:=dd) (k0:=k0) (k1:=k1) (k2:=k2) (k3:=k3) (k5:=k5) hbx (I.ok.hd hc) (gn (alg go (λv s₃ h₃=>gn (al4 (wa h₃))) λ_ _ z=>z))))
  | (simp only[evalOpt,Option.map];exact gn (al4 (tP (C:=C) (nm:=nm) (q:=q) (N:=N) (bs:=bs) (bm:=bm) (hdct:=hdct) (sn:=sn) (sub:=sub) (ab:=ab) (col:=col) (dd:=dd) (k0:=k0) (k1:=k1) (k2:=k2) (k3:=k3) (k5:=k5) hbx (I.ok.hd hc) (gn (alg go (λv s₃ h₃=>gn (al4 (wa h₃))) λ_ _ z=>z)))))
end
section
variable{X:Cx}{pins:List (Addr×Obj)}{σ:St}{H:Hp}{s:Shared}{C D f:Addr}{name x:Str}{np apos gI pos pos':Pos}{o e value:Expr}{ta tv:TE}{t:TA}
theorem A4 {pl:Sem Bool}(ik:T2 X.K D)(xk:EF X.K C f name)(hg:Gl X x)(hm:X.mg x=some (.ref D))(ha:PA X [o,e] t)(hdb:(x == ("__debug__":Str))=false:=by decide)
  (hst:ak8 [o,e] X.env=(false,eval o X.env)::ak8 [e] X.env:=by rfl) (hpl:(backTo pos (ak8 [e] X.env)).any (·.1)=false:=by rfl)
  (ht:eval (.Call (.Attribute (.Name x np) "__init__" apos) [o,e] [] pos) X.env=(do
   let ov <-eval (.Name x np) X.env
   standAt apos.atName
   let (f,first) <-holding [ov] (getMethod ov "__init__" pl)
   callWith pos f first (backTo pos (ak8 [o,e] X.env)) (backToKw pos (keywordEach [] X.env))):=by rfl) :
  PE X (.Call (.Attribute (.Name x np) "__init__" apos) [o,e] [] pos) (λσ H Q=>t σ H λvs H1=>∃ea v,vs=[.ref ea,v]/\H1 ea=some (xi ea C none)/\Q .non H1):=by
 intro pins s σ H Q I h;refine al2 (pl:=pl) (jb I hg hm ?_ hdb) ht;refine PySem.W.method_cls I.kIn ik.sp (PySem.W.cls_value I.kIn ik.rd ik.fc (by trivial) ?_)
 show wpAny _ _ (callWith pos (.builtin "ValueError.__init__") [] (backTo pos (ak8 [o,e] X.env)) []) _ _ _;exact PyProof.Rows.callWith_builtin1 (thn (ha pos pins _ σ H _ (I.tok _) h) λus s1 ⟨vs,H1,I1,r1,ea,v,hv,hx,q⟩=>JJ (xk:=xk) pins s1 σ H1 vs us Q I1 r1 ⟨ea,v,hv,hx,q⟩) hst hpl
theorem EG (xk:EF X.K C f name)(ha:PE X o ta)(hv:PE X value tv)(hs:swapsWith value (some (.Attribute o name pos')) pos.line X.env=pure false:=by rfl):PS X (.Assign [.Attribute o name pos'] value pos)
  (λD σ H=>tv σ H λy H1=>ta σ H1 λx H2=>∃ea,x=.ref ea/\H2 ea=some (xi ea C none)/\∀d,H2 d=none->D.nx σ (upd (upd H2 d (.xd [(name,y)])) ea (xi ea C (some d)))):=by
 intro pins s σ H D I h;refine plainObj_wpAny_Assign_Attribute (thn (hv pins s σ H _ I h) λu s1 ⟨y,H1,I1,ry,q⟩=>thn (ha pins s1 σ H1 _ I1 q) λov s2 ⟨x,H2,I2,rx,ea,ex,hx,q2⟩=>?_) hs
 subst ex;obtain rfl:ov=alc ea:=rx;obtain⟨a0,e0⟩:=ON (P:=X.prog) (w:=X.w) (I2.hok _ _ hx);have fr:H2 s2.heap.objs.size=none:=I2.hok.fresh (kq _);refine OO I2.kIn xk e0 λh' tk hx' ns kk=>⟨σ,_,?_,q2 _ fr⟩
 have hde:ea≠s2.heap.objs.size:=aI hx fr;have old:∀b,b≠ea->b≠s2.heap.objs.size->upd (upd H2 s2.heap.objs.size (.xd [(name,y)])) ea (xi ea C (some s2.heap.objs.size)) b=H2 b:=λb h1 h2=>by rw[av h1,av h2]
 have lt:∀b ob,s2.heap.get? b=some ob->b≠s2.heap.objs.size:=λb ob q=>ale (sr q)
 have nx:∀b,H2 b=none->b≠ea:=λb n z=>by rw[z,hx]at n;cases n
 have ns':∀b {o:HO},H2 b=some o->b≠s2.heap.objs.size:=λb _ n z=>by rw[z,fr]at n;cases n
 refine I2.un (t':=tk) ⟨λb ob q n _ _=>kk b ob (nx b n) q,λb ob q n _ _=>⟨ob.slots,kk b ob (nx b n) q⟩,λb ob q n _=>by rw[old b (nx b n) (lt b ob q)];exact n,λb ob q _=>?_,λb xs q=>?_,λb ob u q=>?_,λb ps q=>?_⟩ λa ob q=>?_
 ·by_cases z:b=ea
  ·exact⟨_,by rw[z];exact hx'⟩
  ·exact⟨ob,kk b ob z q⟩
 ·rw[old b (λz=>by rw[z,hx]at q;cases q) (ns' b q)];exact q
 ·rw[old b (λz=>by rw[z,hx]at q;cases q) (ns' b q)];exact q
 ·exact⟨#[],by rw[old b (λz=>by rw[z,hx]at q;cases q) (ns' b q),q];simp⟩
 ·by_cases z:a=ea
  ·subst z;rw[ae]at q;cases q;exact OM hx'
  ·rw[av z]at q
   by_cases z2:a=s2.heap.objs.size
   ·rw[z2,ae]at q;cases q;refine⟨_,by rw[z2];exact ns,λg=>?_⟩
    rw[amC]
    by_cases hg:g=name
    ·rw[if_pos hg,show (g == name)=true from beq_iff_eq.mpr hg];exact ry
    ·rw[if_neg hg,show (g == name)=false from beq_eq_false_iff_ne.mpr hg];exact amq
   ·rw[av z2]at q;refine(I2.hok a ob q).CI (λb u hb r=>kk b u ?_ r) (λb r=>?_) (λb xs r=>?_)
    ·rintro rfl;rcases hb with hb | hb
     ·exact z hb.symm
     ·rw[hx]at hb;cases hb
    ·rw[old b (λz=>by rw[z,hx]at r;cases r) (ns' b r)];exact r
    ·rw[old b (λz=>by rw[z,hx]at r;cases r) (ns' b r)];exact r
theorem OQ {ea C d:Addr}{fs:List (Str×V)}(I:Inv X pins σ H s)(h:H ea=some (xo ea (.ref C) (some d)))(hd:H d=some (.xd fs)) :
  ∃ox od,PySem.W.InstAt s.heap ea ox C (some od)/\∃mA:Str->Option Value,(∀n,PySem.W.lookIn n od=some (mA n))/\∀n,o8 (fs.lookup n) (mA n):=by
 obtain⟨⟨sl,vs,e⟩,_⟩:=(show fE X.prog X.w H s.heap ea (xo ea (.ref C) (some d)) from I.hok _ _ h)
 obtain⟨mA,ns,r⟩:=(show fE X.prog X.w H s.heap d (.xd fs) from I.hok _ _ hd)
 obtain⟨od,ho,lk⟩:=Dh ns;exact⟨_,od,⟨e,rfl,rfl,ho⟩,mA,lk,r⟩
structure OR (K:ba)(C:Addr)(name:Str):Prop where
 ga:GaX K C
 na:cb K (.ref C) name=some none
 hd:alu K C=true
theorem RJ (he:PE X e ta)(hb:attributeBase e name X.env (eval e X.env)=eval e X.env):PE X (.Attribute e name pos)
  (λσ H Q=>ta σ H λx H1=>∃ea C d fs v,x=.ref ea/\H1 ea=some (xo ea (.ref C) (some d))/\H1 d=some (.xd fs)/\OR X.K C name/\fs.lookup name=some v/\(∃z,ED v z)/\Q v H1):=by
 intro pins s σ H Q I h;refine LJ hb (thn (he pins s σ H _ I h) λu s1 ⟨x,H1,I1,rx,ea,C,d,fs,v,ex,hx,hd,xf,lk,⟨z,fz⟩,q⟩=>?_)
 subst ex;obtain rfl:u=alc ea:=rx;obtain⟨ox,od,J,mA,li,rel⟩:=OQ I1 hx hd;have rl:=rel name;rw[lk]at rl;cases hm:mA name with
 |none=>rw[hm]at rl;exact rl.elim
 |some u2 =>
  rw[hm]at rl;have rl':RelV v u2:=rl;have hh:PySem.W.handedIn u2=true:=by
   cases fz with
   |int _=>obtain⟨t,rfl⟩:=rl';rfl
   |str=>obtain⟨t,rfl⟩:=rl';rfl
  obtain⟨cd,hc,hdct⟩:=PySem.W.any_some xf.hd;have fo:PySem.W.findObj X.K C (some od) name=some (.value u2):=by
   unfold PySem.W.findObj;rw[hc,Option.bind_some,xf.na,Option.bind_some];simp only[Option.bind_some,PySem.W.ownOf,hdct,if_true,li,hm]
  unfold getAttr;refine gn (wpAny_mkText (aau (s:={ s1 with toks:=s1.toks+1 }) I1.kIn J xf.ga (OH (s:={ s1 with toks:=s1.toks+1 }) I1.kIn J fo ?_)))
  exact⟨hh,v,H1,I1.tok _,rl',q⟩
end
section
variable{κ:Type}[DecidableEq κ]
def g9 (kvs:List (κ×V))(k:κ):Option V:=(kvs.find? λkv=>decide (kv.1=k)).map (·.2)
def putK (kvs:List (κ×V))(k:κ)(v:V):List (κ×V) :=
 if (kvs.any λkv=>decide (kv.1=k))=true then kvs.map (λkv=>if kv.1=k then (kv.1,v) else kv) else kvs++[(k,v)]
def iR (kvs:List (κ×V))(k:κ):List (κ×V):=kvs.filter λkv=>decide (kv.1≠k)
theorem eR {p:κ×V}{r:List (κ×V)}{k:κ}(e:p.1=k):g9 (p::r) k=some p.2:=by simp[g9,alO,e]
theorem bX {p:κ×V}{r:List (κ×V)}{k:κ}(e:¬p.1=k):g9 (p::r) k=g9 r k:=by simp[g9,alO,e]
theorem rR (k:κ):∀kvs:List (κ×V),(kvs.any λkv=>decide (kv.1=k))=(g9 kvs k).isSome
 |[]=>rfl
 |p::r=>by
  rw[amF]
  by_cases e:p.1=k
  ·simp only[eR e,decide_eq_true e,Bool.true_or,Option.isSome_some]
  ·rw[bX e,decide_eq_false e,Bool.false_or];exact rR k r
theorem rS (kvs:List (κ×V))(k:κ)(v:V):(putK kvs k v).length<=kvs.length+1:=by
 unfold putK;split
 ·rw[bo];omega
 ·rw[ma,alb,amE];omega
theorem OS {kvs:List (κ×V)}{k:κ}(v:V)(h:g9 kvs k=none):putK kvs k v=kvs++[(k,v)]:=by
 unfold putK;rw[rR,h];exact if_neg (by decide)
theorem o8.tQ {o:Option V}{u:Option Value}(r:o8 o u):o.isSome=u.isSome:=by
 cases o with
 |none=>cases u with
  |none=>rfl
  |some _=>exact(show False from r).elim
 |some _=>cases u with
  |none=>exact(show False from r).elim
  |some _=>rfl
theorem o8.getD {o:Option V}{u:Option Value}{d:V}{d':Value}(r:o8 o u)(rd:RelV d d'):RelV (o.getD d) (u.getD d'):=by
 cases o with
 |none=>cases u with
  |none=>exact rd
  |some _=>exact(show False from r).elim
 |some _=>cases u with
  |none=>exact(show False from r).elim
  |some _=>exact r
theorem KV.val {kvs:List (κ×V)}{vs:List (κ×Value)}(r:KV kvs vs)(k:κ):o8 (g9 kvs k) (valueAt vs k):=by
 unfold KV at r
 induction r with
 |nil=>exact amq
 | @cons p q ps qs h t ih =>
  obtain⟨h1,h2⟩:=h
  by_cases e:p.1=k
  ·have e':q.1=k:=h1.symm.trans e;have b:valueAt (q::qs) k=some q.2:=by simp[valueAt,alO,e']
   rw[eR e,b];exact h2
  ·have e':¬q.1=k:=λz=>e (h1.trans z)
   have b:valueAt (q::qs) k=valueAt qs k:=by simp[valueAt,alO,e']
   rw[bX e,b];exact ih
theorem KV.any {kvs:List (κ×V)}{vs:List (κ×Value)}(r:KV kvs vs)(k:κ):(kvs.any λkv=>decide (kv.1=k))=vs.any λkv=>decide (kv.1=k):=by
 unfold KV at r
 induction r with
 |nil=>rfl
 |cons h t ih=>rw[amF,amF,ih,h.1]
theorem KV.V0 {kvs:List (κ×V)}{vs:List (κ×Value)}(r:KV kvs vs)(k:κ){y:V}{u:Value}(ry:RelV y u) :
  KV (kvs.map λkv=>if kv.1=k then (kv.1,y) else kv) (vs.map λkv=>if kv.1=k then (kv.1,u) else kv):=by
 unfold KV at r ⊢
 induction r with
 |nil=>exact .nil
 | @cons p q ps qs h t ih =>
  rw[km,km];refine .cons ?_ ih;obtain⟨h1,h2⟩:=h
  by_cases e:p.1=k
  ·rw[if_pos e,if_pos (h1.symm.trans e)];exact⟨h1,ry⟩
  ·rw[if_neg e,if_neg (λz=>e (h1.trans z))];exact⟨h1,h2⟩
theorem KV.put {kvs:List (κ×V)}{vs:List (κ×Value)}(r:KV kvs vs)(k:κ){y:V}{u:Value}(ry:RelV y u):KV (putK kvs k y) (stored vs k u):=by
 unfold putK stored;rw[r.any k]
 by_cases e:(vs.any λkv=>decide (kv.1=k))=true
 ·rw[if_pos e,if_pos e];exact r.V0 k ry
 ·rw[if_neg e,if_neg e];exact Paired.snoc r ⟨rfl,ry⟩
theorem KV.drop {kvs:List (κ×V)}{vs:List (κ×Value)}(r:KV kvs vs)(k:κ):KV (iR kvs k) (without vs k):=by
 unfold KV at r ⊢;unfold iR without
 induction r with
 |nil=>exact .nil
 | @cons p q ps qs h t ih =>
  obtain⟨h1,h2⟩:=h;rw[List.filter_cons,List.filter_cons]
  by_cases e:p.1=k
  ·have a:¬decide (p.1≠k)=true:=by simp[e]
   have b:¬decide (q.1≠k)=true:=by simp[h1.symm.trans e]
   rw[if_neg a,if_neg b];exact ih
  ·have e':¬q.1=k:=λz=>e (h1.trans z)
   have a:decide (p.1≠k)=true:=by simp[e]
   have b:decide (q.1≠k)=true:=by simp[e']
   rw[if_pos a,if_pos b];exact .cons ⟨h1,h2⟩ ih
theorem KV.keys {kvs:List (κ×V)}{vs:List (κ×Value)}(r:KV kvs vs):kvs.map (·.1)=vs.map (·.1):=by
 unfold KV at r
 induction r with
 |nil=>rfl
 |cons h t ih=>rw[km,km,ih,h.1]
theorem KV.length {kvs:List (κ×V)}{vs:List (κ×Value)}(r:KV kvs vs):kvs.length=vs.length:=Paired.length r
theorem F9 (kvs:List (κ×V))(k:κ):(iR kvs k).length<=kvs.length:=amt _ _
end
theorem A5 {P:rf}{w:World}{k:Key}{u:Value}(r:RelV (kV k) u):(dF P w).is k u=true:=by
 cases k with
 |inl i=>obtain⟨t,e⟩:=(show ∃t,u=Value.int i t from r);subst e;exact FK P w i t
 |inr x=>obtain⟨t,e⟩:=(show ∃t,u=Value.str x t from r);subst e;exact FL P w x t
theorem Du {P:rf}{w:World}:∀ {ks:List Key} {us:List Value},Vals (ks.map kV) us->ItemsAre (dF P w) ks us
 |[],_,r=>by rw[alM]at r;cases r;exact .nil
 |k::ks,_,r=>by
  rw[km]at r;cases r with
  |cons h t=>exact .cons (A5 h) (Du t)
abbrev KT (H:Hp):List (List Key×V)->List (List Key×Addr×Value)->Prop:=Paired λp q=>p.1=q.1/\H q.2.1=some (.tup (p.1.map kV))/\RelV p.2 q.2.2
theorem KT.val {H:Hp}{kvs:List (List Key×V)}{xs:List (List Key×Addr×Value)}(r:KT H kvs xs)(k:List Key):o8 (g9 kvs k) ((atKey xs k).map (·.2)):=by
 induction r with
 |nil=>exact amq
 | @cons p q ps qs h t ih =>
  obtain⟨h1,_,h2⟩:=h
  by_cases e:p.1=k
  ·have e':q.1=k:=h1.symm.trans e;have b:atKey (q::qs) k=some q.2:=by simp[atKey,alO,e']
   rw[eR e,b];exact h2
  ·have e':¬q.1=k:=λz=>e (h1.trans z)
   have b:atKey (q::qs) k=atKey qs k:=by simp[atKey,alO,e']
   rw[bX e,b];exact ih
theorem KT.V0 {H:Hp}{kvs:List (List Key×V)}{xs:List (List Key×Addr×Value)}(r:KT H kvs xs)(k:List Key){y:V}{u:Value}(ry:RelV y u) :
  KT H (kvs.map λkv=>if kv.1=k then (kv.1,y) else kv) (xs.map (putAt k u)):=by
 induction r with
 |nil=>exact .nil
 | @cons p q ps qs h t ih =>
  rw[km,km];refine .cons ?_ ih;obtain⟨h1,h2,h3⟩:=h;unfold putAt
  by_cases e:p.1=k
  ·rw[if_pos e,if_pos (h1.symm.trans e)];exact⟨h1,h2,ry⟩
  ·rw[if_neg e,if_neg (λz=>e (h1.trans z))];exact⟨h1,h2,h3⟩
theorem KT.put {H:Hp}{kvs:List (List Key×V)}{xs:List (List Key×Addr×Value)}(r:KT H kvs xs)(k:List Key){b:Addr}{y:V}{u:Value}(hb:H b=some (.tup (k.map kV)))(ry:RelV y u) :
  KT H (putK kvs k y) (storedH xs k b u):=by
 have e:(kvs.any λkv=>decide (kv.1=k))=(atKey xs k).isSome:=by
  rw[rR,(r.val k).tQ,Option.isSome_map]
 unfold putK storedH;rw[e]
 by_cases q:(atKey xs k).isSome=true
 ·rw[if_pos q,if_pos q];exact r.V0 k ry
 ·rw[if_neg q,if_neg q];exact Paired.snoc r ⟨rfl,hb,ry⟩
theorem KT.keeps {H H':Hp}{kvs:List (List Key×V)}{xs:List (List Key×Addr×Value)}(r:KT H kvs xs)(ht:∀b ys,H b=some (.tup ys)->H' b=some (.tup ys)):KT H' kvs xs :=
 Paired.Vn r λ_ _ z=>⟨z.1,ht _ _ z.2.1,z.2.2⟩
section
variable{P:rf}{w:World}{H:Hp}{h:Heap}{a:Addr}
theorem T3 {u:HO}(ok:HOk P w H h)(e:Rd H a u):fE P w H h a u:=e.ok ok
theorem Dv {kvs:List (Key×V)}(ok:HOk P w H h)(e:Rd H a (.dK kvs)):kvs.length<=kg/\(a == amj)=false/\∃vs,KV kvs vs/\h.DictOf (dF P w) a vs :=
 show fE P w H h a (.dK kvs) from T3 ok e
theorem A6 {kvs:List (Key×V)}(ok:HOk P w H h)(e:H a=some (.dK kvs)):kvs.length<=kg/\(a == amj)=false/\∃vs,KV kvs vs/\h.DictOf (dF P w) a vs:=Dv ok (.inl e)
theorem EH {ks:List Key}(ok:HOk P w H h)(e:H a=some (.tup (ks.map kV))):(tupleKind (dF P w)).is h ks a:=by
 obtain⟨_,its,r,o,h1,h2,n,h3⟩:=(show fE P w H h a (.tup (ks.map kV)) from ok a _ e)
 exact⟨o,its.toArray,n,h1,h2,h3,by simpa using Du r⟩
theorem Ga {kvs:List (List Key×V)}(ok:HOk P w H h)(e:Rd H a (.dT kvs)):kvs.length<=kg/\(a == amj)=false /\
  ∃xs,KT H kvs xs/\h.DictOfH (tupleKind (dF P w)) a xs:=by
 obtain⟨z,y,xs,r,o,es,ep,h1,h2,h3,h4,h5⟩:=(show fE P w H h a (.dT kvs) from T3 ok e)
 refine⟨z,y,xs,r,o,es,ep,h1,h2,h3,h4,λx hx=>?_,h5⟩
 have all:∀ {l:List (List Key×V)} {m:List (List Key×Addr×Value)},KT H l m->∀x∈m,(tupleKind (dF P w)).is h x.1 x.2.1:=by
  intro l m q
  induction q with
  |nil=>intro x hx;exact nomatch hx
  | @cons p q ps qs hq t ih =>
   intro x hx;rcases List.mem_cons.mp hx with e | hx
   ·subst e;exact EH ok (by rw[<-hq.1];exact hq.2.1)
   ·exact ih x hx
 exact all r x hx
theorem aay {kvs:List (List Key×V)}(ok:HOk P w H h)(e:H a=some (.dT kvs)):kvs.length<=kg/\(a == amj)=false /\
  ∃xs,KT H kvs xs/\h.DictOfH (tupleKind (dF P w)) a xs:=Ga ok (.inl e)
end
def uI (H:Hp)(a:Addr)(y:V)(r:Option V):Prop :=
 (∃kvs k,Rd H a (.dK kvs)/\y=kV k/\r=g9 kvs k)\/∃kvs k b,Rd H a (.dT kvs)/\y=.ref b/\H b=some (.tup (k.map kV))/\r=g9 kvs k
def pw (H:Hp)(a:Addr)(y v:V)(H':Hp):Prop :=
 (∃kvs k,H a=some (.dK kvs)/\y=kV k/\kvs.length < kg/\H'=upd H a (.dK (putK kvs k v))) \/
 ∃kvs k b,H a=some (.dT kvs)/\y=.ref b/\H b=some (.tup (k.map kV))/\kvs.length < kg/\H'=upd H a (.dT (putK kvs k v))
theorem uI.k {H:Hp}{a:Addr}{kvs:List (Key×V)}{k:Key}(e:H a=some (.dK kvs)):uI H a (kV k) (g9 kvs k):=.inl ⟨kvs,k,.inl e,rfl,rfl⟩
theorem uI.t {H:Hp}{a b:Addr}{kvs:List (List Key×V)}{k:List Key}(e:H a=some (.dT kvs))(eb:H b=some (.tup (k.map kV))):uI H a (.ref b) (g9 kvs k):=.inr ⟨kvs,k,b,.inl e,rfl,eb,rfl⟩
theorem pw.k {H:Hp}{a:Addr}{kvs:List (Key×V)}{k:Key}{v:V}(e:H a=some (.dK kvs))(hl:kvs.length < kg):pw H a (kV k) v (upd H a (.dK (putK kvs k v))):=.inl ⟨kvs,k,e,rfl,hl,rfl⟩
theorem pw.t {H:Hp}{a b:Addr}{kvs:List (List Key×V)}{k:List Key}{v:V}(e:H a=some (.dT kvs))(eb:H b=some (.tup (k.map kV)))(hl:kvs.length < kg) :
  pw H a (.ref b) v (upd H a (.dT (putK kvs k v))):=.inr ⟨kvs,k,b,e,rfl,eb,hl,rfl⟩
section
variable{X:Cx}{pins:List (Addr×Obj)}{σ:St}{H:Hp}{s:Shared}{a:Addr}{y v:V}{u r:Value}{o:Option V}{A:Around}{E:Value->Shared->Prop}
theorem Inv.big (I:Inv X pins σ H s):amj < s.heap.objs.size:=by
 have h:ka < s.heap.objs.size:=(I.mod.glob.keeps I.bk).lt;exact Nat.lt_trans (by decide) h
theorem MV {Q:Value->Shared->Prop}(hu:A.units+1 < cLine)(I:Inv X pins σ H s)(g:uI H a y (some v))(ry:RelV y u)(h:∀w' s',Inv X pins σ H s'->RelV v w'->Q w' s') :
  wpAny (model X.prog X.w) A (getItem (.ref a) u) Q E s:=by
 rcases g with ⟨kvs,k,e,ey,l⟩ | ⟨kvs,k,b,e,ey,eb,l⟩
 ·subst ey;obtain⟨z,hd,vs,rel,dd⟩:=Dv I.hok e;obtain⟨w',hw,rw'⟩:=o8.some_of (v:=v) (o:=valueAt vs k) (by rw[l];exact rel.val k)
  exact wpAny_getItem_of (A5 ry) dd.mapOf hw (h w' _ (I.tok _) rw')
 ·subst ey;cases (show u=alc b from ry)
  obtain⟨z,hd,xs,rel,dd⟩:=Ga I.hok e;obtain⟨w',hw,rw'⟩:=o8.some_of (v:=v) (o:=(atKey xs k).map (·.2)) (by rw[l];exact rel.val k)
  obtain⟨p,hp,hp2⟩:=Option.map_eq_some_iff.mp hw;refine wpAny_getItem_heap (tupleKind_room_in1 hu) (EH I.hok eb) dd hp ?_;rw[hp2];exact h w' _ (I.tok _) rw'
theorem RK {Q:Value->Shared->Prop}(hu:A.units+1 < cLine)(I:Inv X pins σ H s)(g:uI H a y o)(ry:RelV y u)(h:∀s',Inv X pins σ H s'->Q (.bool (!o.isSome)) s') :
  wpAny (model X.prog X.w) A (al6 .NotIn u (.ref a)) Q E s:=by
 rcases g with ⟨kvs,k,e,ey,l⟩ | ⟨kvs,k,b,e,ey,eb,l⟩
 ·subst ey;obtain⟨z,hd,vs,rel,dd⟩:=Dv I.hok e;refine wpAny_notIn_of (A5 ry) hd dd.mapOf ?_;rw[<-(rel.val k).tQ,<-l];exact h _ (I.tok _)
 ·subst ey;cases (show u=alc b from ry)
  obtain⟨z,hd,xs,rel,dd⟩:=Ga I.hok e;refine wpAny_notIn_heap (tupleKind_room_in1 hu) (EH I.hok eb) hd dd ?_;have q:=(rel.val k).tQ;rw[Option.isSome_map]at q;rw[<-q,<-l];exact h _ (I.tok _)
theorem vQ {h':Heap}{t':Nat}{ob:HO}(I:Inv X pins σ H s)(mu:Mut (H a))(hs:Heap.SameBut a s.heap h')(he:∃q,h'.get? a=some q)(new:fE X.prog X.w (upd H a ob) h' a ob) :
  Inv X pins σ (upd H a ob) { s with heap:=h',toks:=t' } :=
 I.write (x:=a) (e:=a) mu (.inl rfl) (λb q hb z=>(hs.2 b hb).trans z) he new
theorem EI {P:rf}{w:World}{H':Hp}{h':Heap}{kvs:List (Key×V)}{vs:List (Key×Value)}(z:kvs.length<=kg)(hd:(a == amj)=false)(rel:KV kvs vs)(dd:h'.DictOf (dF P w) a vs) :
  fE P w H' h' a (.dK kvs):=⟨z,hd,vs,rel,dd⟩
theorem MW {H':Hp}{Q:Unit->Shared->Prop}(hu:A.units+1 < cLine)(I:Inv X pins σ H s)(g:pw H a y v H')(ry:RelV y u)(rv:RelV v r)(h:∀s',Inv X pins σ H' s'->Q () s') :
  wpAny (model X.prog X.w) A (setItem (.ref a) u r) Q E s:=by
 rcases g with ⟨kvs,k,e,ey,l,eH⟩ | ⟨kvs,k,b,e,ey,eb,l,eH⟩
 ·subst ey eH;obtain⟨z,hd,vs,rel,dd⟩:=A6 I.hok e;have hz:vs.length<=kg:=by rw[<-rel.length];exact z
  have hl:(putK kvs k v).length<=kg:=by have:=rS kvs k v;omega
  refine wpAny_setItem_pairs (hsz:=hz) (A5 ry) dd λh' dd' hs=>h _ ?_
  have he:∃q,h'.get? a=some q:=let ⟨q,_,_,hq,_⟩:=dd';⟨q,hq⟩
  exact vQ I (by rw[e];exact amq) hs he (EI hl hd (rel.put k rv) dd')
 ·subst ey eH;cases (show u=alc b from ry)
  obtain⟨z,hd,xs,rel,dd⟩:=aay I.hok e;have hz:xs.length<=kg:=by rw[<-Paired.length rel];exact z
  have hl:(putK kvs k v).length<=kg:=by have:=rS kvs k v;omega
  refine wpAny_setItem_heap (hsz:=hz) (tupleKind_room_in1 hu) (EH I.hok eb) dd λh' dd' hs=>h _ ?_
  obtain⟨q,es,ep,hq,h2,h3,h4,_,h5⟩:=dd';refine vQ I (by rw[e];exact amq) hs ⟨q,hq⟩ ⟨hl,hd,_,(rel.put k eb rv).keeps λc ys ec=>?_,q,es,ep,hq,h2,h3,h4,h5⟩
  rw[av (ZY ec e (λz=>nomatch z))]
  exact ec
end
section
variable{X:Cx}{pins:List (Addr×Obj)}{σ:St}{H:Hp}{s:Shared}{a:Addr}{kvs:List (Key×V)}{k:Key}{u:Value}{A:Around}{E:Value->Shared->Prop}
theorem ZX {Q:Unit->Shared->Prop}(I:Inv X pins σ H s)(e:H a=some (.dK kvs))(ry:RelV (kV k) u)(l:(g9 kvs k).isSome=true)(h:∀s',Inv X pins σ (upd H a (.dK (iR kvs k))) s'->Q () s') :
  wpAny (model X.prog X.w) A (delItem (.ref a) u) Q E s:=by
 obtain⟨z,hd,vs,rel,dd⟩:=A6 I.hok e;refine wpAny_delItem_slot dd.typeIs (by decide) PySem.F.slot_dict_delitem
  (call_meetsIn PySem.F.slot_dict_delitem dd.typeIs PySem.F.entry_dict_delitem (PySem.F.args_dict_delitem_2 _ _) (meets_dict_delitem_pairs (dF X.prog X.w) a (A5 ry)) ⟨vs,dd,by rw[<-rel.length];exact z,by rw[<-(rel.val k).tQ];exact l,λh' dd' hs=>h _ ?_⟩)
 have he:∃q,h'.get? a=some q:=let ⟨q,_,_,hq,_⟩:=dd';⟨q,hq⟩
 exact vQ I (by rw[e];exact amq) hs he (EI (ak3 (F9 kvs k) z) hd (rel.drop k) dd')
theorem aaz {v:V}{more:List Value}{Q:Value->Shared->Prop}(I:Inv X pins σ H s)(e:H a=some (.dK kvs))(ry:RelV (kV k) u)(l:g9 kvs k=some v)(hm:more=[]\/∃x,more=[x])
  (h:∀w' s',Inv X pins σ (upd H a (.dK (iR kvs k))) s'->RelV v w'->Q w' s'):wpAny (model X.prog X.w) A (call (.builtin "dict.pop") (.ref a::u::more)) Q E s:=by
 obtain⟨z,hd,vs,rel,dd⟩:=A6 I.hok e;obtain⟨w',hw,rw'⟩:=o8.some_of (v:=v) (o:=valueAt vs k) (by rw[<-l];exact rel.val k)
 have hp:(keyPart u).isSome=true:=by
  cases k with
  |inl i=>obtain⟨t,q⟩:=(show ∃t,u=Value.int i t from ry);subst q;rfl
  |inr x=>obtain⟨t,q⟩:=(show ∃t,u=Value.str x t from ry);subst q;rfl
 have ha:argsOk "dict.pop" ⟨.ref a::u::more,[]⟩:=by
  rcases hm with q | ⟨x,q⟩
  ·subst q;exact PySem.F.args_dict_pop_2 _ _
  ·subst q;exact PySem.F.args_dict_pop_3 _ _ _
 refine call_meetsIn PySem.F.slot_dict_pop dd.typeIs PySem.F.entry_dict_pop ha (meets_dict_pop_there (dF X.prog X.w) a (A5 ry) more hm hp)
  ⟨vs,w',dd,by rw[<-rel.length];exact z,hw,λh' dd' hs=>h w' _ ?_ rw'⟩
 have he:∃q,h'.get? a=some q:=let ⟨q,_,_,hq,_⟩:=dd';⟨q,hq⟩
 exact vQ I (by rw[e];exact amq) hs he (EI (ak3 (F9 kvs k) z) hd (rel.drop k) dd')
theorem aaA {Q:Value->Shared->Prop}(I:Inv X pins σ H s)(e:Rd H a (.dK kvs))(h:∀t s',Inv X pins σ H s'->Q (.int kvs.length t) s'):wpAny (model X.prog X.w) A (call (.builtin "len") [.ref a]) Q E s:=by
 obtain⟨z,hd,vs,rel,dd⟩:=Dv I.hok e;refine call_len_dict hd dd (by rw[<-rel.length];rw[sizeLine_eq]at z;omega) ?_
 rw[<-rel.length];exact h _ _ (I.tok _)
end
def aaB (i:Expr):Prop:=∀ov iv,subscripted i false ov iv=operate [ov,iv] (getItem ov iv)
theorem RL {prog:rf}{w:World}{A:Around}{E:Value->Shared->Prop}{s:Shared}{env:Env}{value slice:Expr}{pos:Pos}{T id:String}{Q:Value->Shared->Prop}
  (hl:typeLookup (.type T) "__getitem__"=pure (some (.builtin id))) (hs:aaB slice)
  (h:wpAny (model prog w) A (eval value env) (λo s₁=>wpAny (model prog w) A (eval slice env) (λi s₂=>s₂.TypeIs o T/\wpAny (model prog w) A (getItem o i) Q E s₂) E s₁) E s) :
  wpAny (model prog w) A (eval (.Subscript value slice pos) env) Q E s:=by
 refine Subscript_ (alg h (λo s₁ h₁=>alg h₁ (λi s₂ h₂=>?_) λ_ _ x=>x) λ_ _ x=>x)
 obtain⟨hT,h₂⟩:=h₂;unfold subscriptTail;refine gn ?_;rw[getitemInPython_of_ne hT.not_modules];refine gn (wpAny_specialOf hT hl ?_);have fin:wpAny (model prog w) A (subscripted slice false o i) (λr s₃=>wpAny (model prog w) A (letTemporaryGo value o r >>= λ_=>pure r) Q E s₃) E s₂:=by
  rw[hs o i];exact wpAny_operating (alg h₂ (λr s₃ h₃=>gn (wpAny_letTemporaryGo (wa h₃))) λ_ _ x=>x)
 first
  |exact wa (gn fin)
  |exact gn (wa (gn fin))
  |exact gn fin
theorem Gb {X:Cx}{pins:List (Addr×Obj)}{σ:St}{H:Hp}{s:Shared}{a:Addr}{y:V}{o:Option V}(I:Inv X pins σ H s)(g:uI H a y o):s.TypeIs (.ref a) "dict":=by
 rcases g with ⟨kvs,k,e,_,_⟩ | ⟨kvs,k,b,e,_,_,_⟩
 ·obtain⟨_,_,vs,_,dd⟩:=Dv I.hok e;exact dd.typeIs
 ·obtain⟨_,_,xs,_,dd⟩:=Ga I.hok e;exact dd.typeIs
def aaC (td ty:TE):TE:=λσ H Q=>td σ H λx H1=>ty σ H1 λy H2=>∃a v,x=.ref a/\uI H2 a y (some v)/\Q v H2
def RM (ty td:TE):TE:=λσ H Q=>ty σ H λy H1=>td σ H1 λx H2=>∃a o,x=.ref a/\uI H2 a y o/\Q (.bl (!o.isSome)) H2
def aaD (td ty tv:TE):TS:=λD σ H=>tv σ H λv H1=>td σ H1 λx H2=>ty σ H2 λy H3=>∃a H4,x=.ref a/\pw H3 a y v H4/\D.nx σ H4
section
variable{X:Cx}{o i e value:Expr}{pos pos' aim:Pos}{td ty tv:TE}
theorem bh (hu:X.A.units+1 < cLine)(ho:PE X o td)(hi:PE X i ty)(hs:aaB i):PE X (.Subscript o i pos) (aaC td ty):=by
 intro pins s σ H Q I h;refine RL PySem.F.slot_dict_getitem.lookup hs (thn (ho pins s σ H _ I h) λu s1 ⟨x,H1,I1,rx,q1⟩=>thn (hi pins s1 σ H1 _ I1 q1) λiv s2 ⟨y,H2,I2,ry,a,v,ex,g,q2⟩=>?_)
 subst ex;obtain rfl:u=alc a:=rx;exact⟨Gb I2 g,MV hu I2 g ry λw' s3 I3 rw'=>⟨v,H2,I3,rw',q2⟩⟩
theorem xB (hu:X.A.units+1 < cLine)(hi:PE X i ty)(ho:PE X o td):PC X .NotIn i o (RM ty td):=by
 intro pins s σ H Q I h;refine thn (hi pins s σ H _ I h) λiv s1 ⟨y,H1,I1,ry,q1⟩=>thn (ho pins s1 σ H1 _ I1 q1) λu s2 ⟨x,H2,I2,rx,a,ov,ex,g,q2⟩=>?_
 subst ex;obtain rfl:u=alc a:=rx;exact RK hu I2 g ry λs3 I3=>⟨.bl (!ov.isSome),H2,I3,rfl,q2⟩
theorem iF (hu:X.A.units+1 < cLine)(ho:PE X o td)(hi:PE X i ty)(hv:PE X value tv)(hs:swapsWith value (some (.Subscript o i pos')) pos.line X.env=pure false) :
  PS X (.Assign [.Subscript o i pos'] value pos) (aaD td ty tv):=by
 intro pins s σ H D I h;refine wpAny_Assign_Subscript (thn (hv pins s σ H _ I h) λr s1 ⟨v,H1,I1,rv,q1⟩=>thn (ho pins s1 σ H1 _ I1 q1) λu s2 ⟨x,H2,I2,rx,q2⟩=>thn (hi pins s2 σ H2 _ I2 q2) λiv s3 ⟨y,H3,I3,ry,a,H4,ex,g,q3⟩=>?_) hs
 subst ex;obtain rfl:u=alc a:=rx;exact MW hu I3 g ry rv λs4 I4=>⟨σ,H4,I4,q3⟩
end
theorem Gd {P:rf}{w:World}{H:Hp}(h:Heap)(hb:amj < h.objs.size):fE P w H (h.push { cls:=.type "dict",data:=.dict #[] }) h.objs.size (.dK []) :=
 ⟨alX _,beq_eq_false_iff_ne.mpr (alr (ale hb)),[],.nil,Heap.DictOf.new h⟩
def V1:TE:=λ_ H Q=>∀p,H p=none->Q (.ref p) (upd H p (.dK []))
section
variable{X:Cx}{pos:Pos}
theorem pz:PE X (.Dict [] [] pos) V1:=λpins s σ H Q I h =>
 wpAny_Dict_empty ⟨.ref s.heap.objs.size,_,I.laid (a:=s.heap.objs.size) (o:=.dK []) (t':=s.toks) (λ_ _ q=>kf _ q) (kq _) (Gd s.heap I.big),rfl,h _ (I.hok.fresh (kq _))⟩
end
def JK:List (TE×TE)->St->Hp->(List (V×V)->Hp->Prop)->Prop
 |[],_,H,Q=>Q [] H
 | (tk,tv)::r,σ,H,Q=>tk σ H λx H1=>tv σ H1 λy H2=>JK r σ H2 λps H3=>Q ((x,y)::ps) H3
abbrev VV:List (V×V)->List (Value×Value)->Prop:=Paired λp q=>RelV p.1 q.1/\RelV p.2 q.2
def PPs (X:Cx)(pos:Pos)(keys:List (Option Expr))(values:List Expr)(trs:List (TE×TE)):Prop :=
 ∀(pins:List (Addr×Obj)) (s:Shared) (σ:St) (H:Hp) (Q:List (V×V)->Hp->Prop),Inv X pins σ H s->JK trs σ H Q ->
  wpAny (model X.prog X.w) X.A (evalPairs (pairTrees keys values X.env pos)) (λvs s'=>∃ps H',Inv X pins σ H' s'/\VV ps vs/\Q ps H') X.xe s
theorem RN {X:Cx}{pos:Pos}:PPs X pos [] [] []:=λpins s σ H Q I h=>pairTrees_nil_walk ⟨[],H,I,.nil,h⟩
theorem pA {X:Cx}{pos:Pos}{k v:Expr}{ks:List (Option Expr)}{vs:List Expr}{tk tv:TE}{trs:List (TE×TE)}(hk:PE X k tk)(hv:PE X v tv)(hr:PPs X pos ks vs trs) :
  PPs X pos (some k::ks) (v::vs) ((tk,tv)::trs):=λpins s σ H Q I h =>
 pairTrees_cons_walk (thn (hk pins s σ H _ I h) λu s1 ⟨x,H1,I1,rx,q1⟩=>thn (hv pins s1 σ H1 _ I1 q1) λw2 s2 ⟨y,H2,I2,ry,q2⟩ =>
  thn (hr pins s2 σ H2 _ I2 q2) λws s3 ⟨ps,H3,I3,rel,q3⟩=>⟨(x,y)::ps,H3,I3,.cons ⟨rx,ry⟩ rel,q3⟩)
def xC (kvs more:List (Key×V)):List (Key×V):=more.foldl (λacc kv=>putK acc kv.1 kv.2) kvs
theorem KV.merge:∀ {more:List (Key×V)} {rs:List (Key×Value)} {kvs:List (Key×V)} {vs:List (Key×Value)},KV more rs->KV kvs vs->KV (xC kvs more) (merged vs rs):=by
 intro more rs kvs vs r;unfold KV at r
 induction r generalizing kvs vs with
 |nil=>intro q;exact q
 | @cons p q ps qs h t ih =>
  intro r0;have e:KV (putK kvs p.1 p.2) (stored vs q.1 q.2):=by
   have:=r0.put p.1 h.2;rw[<-h.1];exact this
  exact ih e
theorem uv:∀(more kvs:List (Key×V)),(xC kvs more).length<=kvs.length+more.length
 |[],kvs=>by show kvs.length<=kvs.length+0;omega
 |p::r,kvs=>by
  have h1:=uv r (putK kvs p.1 p.2);have h2:=rS kvs p.1 p.2;show (xC (putK kvs p.1 p.2) r).length<=_;rw[alb];omega
theorem A7 {P:rf}{w:World}:∀ {kvs:List (Key×V)} {ws:List (Value×Value)},VV (kvs.map λkv=>(kV kv.1,kv.2)) ws->∃rs,Carries (dF P w) ws rs/\KV kvs rs
 |[],_,r=>by rw[alM]at r;cases r;exact⟨[],amq,.nil⟩
 |p::kvs,_,r=>by
  rw[km]at r;cases r with
  | @cons a b as bs h t =>
   obtain⟨rs,c,q⟩:=A7 (P:=P) (w:=w) t;obtain⟨b1,b2⟩:=b;exact⟨(p.1,b2)::rs,⟨A5 h.1,rfl,c⟩,.cons ⟨rfl,h.2⟩ q⟩
def aaE (trs:List (TE×TE)):TE:=λσ H Q=>∀p,H p=none->JK trs σ (upd H p (.dK [])) λps H2=>H2 p=some (.dK [])/\∃kvs:List (Key×V),ps=kvs.map (λkv=>(kV kv.1,kv.2))/\kvs.length<=15/\Q (.ref p) (upd H2 p (.dK (xC [] kvs)))
theorem RO {X:Cx}{pos:Pos}{keys:List (Option Expr)}{values:List Expr}{trs:List (TE×TE)}(h:PPs X pos keys values trs)(VH:keys.all (·.isSome)=true)(hl:keys.length=values.length)(h0:keys≠[])
  (h15:keys.length<=15):PE X (.Dict keys values pos) (aaE trs):=by
 intro pins s σ H Q I q;have hn:=I.hok.fresh (kq s.heap.objs.size);have I1:=I.laid (a:=s.heap.objs.size) (o:=.dK []) (h':=s.heap.push { cls:=.type "dict",data:=.dict #[] }) (t':=s.toks) (λ_ _ q=>kf _ q) (kq _) (Gd s.heap I.big)
 refine wpAny_Dict_walk (knd:=dF X.prog X.w) VH hl h0 h15 (thn (h pins _ σ _ _ I1 (q _ hn)) λws s2 ⟨ps,H2,I2,rel,e,kvs,ep,lk,q2⟩=>?_)
 subst ep;obtain⟨rs,c,rk⟩:=A7 (P:=X.prog) (w:=X.w) rel;obtain⟨z,hd,vs0,r0,dd⟩:=A6 I2.hok e;cases r0;refine⟨rs,c,dd,λh' dd' hs=>⟨.ref s.heap.objs.size,_,?_,rfl,q2⟩⟩
 have hz:(xC [] kvs).length<=kg:=by
  have h1:=uv kvs [];rw[amE]at h1;rw[sizeLine_eq];omega
 have he:∃q,h'.get? s.heap.objs.size=some q:=let ⟨q,_,_,hq,_⟩:=dd';⟨q,hq⟩
 exact vQ I2 (by rw[e];exact amq) hs he (EI hz hd (rk.merge .nil) dd')
structure M1 (X:Cx)(o:Expr)(m:Str)(apos:Pos)(e:Expr)(gI:Pos):Prop where
 base:attributeBase o m X.env (eval o X.env)=eval o X.env
 few:((backTo gI (ak8 [e] X.env)).all (λx=>!x.1) && (backToKw gI (keywordEach [] X.env)).all (λx=>x.1.isSome)
  && decide (([e]:List Expr).length+([]:List Keyword).length+(if ([]:List Keyword).isEmpty then 0 else 1) < 30))=true
 line:(apos.endLine == gI.line)=true
 trees:backTo gI (ak8 [e] X.env)=[(false,eval e X.env)]
structure M2 (X:Cx)(o:Expr)(m:Str)(apos:Pos)(e f:Expr)(gI:Pos):Prop where
 base:attributeBase o m X.env (eval o X.env)=eval o X.env
 few:((backTo gI (ak8 [e,f] X.env)).all (λx=>!x.1) && (backToKw gI (keywordEach [] X.env)).all (λx=>x.1.isSome)
  && decide (([e,f]:List Expr).length+([]:List Keyword).length+(if ([]:List Keyword).isEmpty then 0 else 1) < 30))=true
 line:(apos.endLine == gI.line)=true
 trees:backTo gI (ak8 [e,f] X.env)=[(false,eval e X.env),(false,eval f X.env)]
def IsD (H:Hp)(a:Addr):Prop:=(∃kvs,Rd H a (.dK kvs))\/∃kvs,Rd H a (.dT kvs)
theorem V2 {X:Cx}{pins:List (Addr×Obj)}{σ:St}{H:Hp}{s:Shared}{a:Addr}(I:Inv X pins σ H s)(d:IsD H a) :
  s.TypeIs (.ref a) "dict"/\(∀b,alc a=.ref b->∃ob,s.heap.get? b=some ob/\ob.dict=none)/\(a == amj)=false:=by
 rcases d with ⟨kvs,e⟩ | ⟨kvs,e⟩
 ·obtain⟨_,hd,vs,_,dd⟩:=Dv I.hok e;refine⟨dd.typeIs,λb q=>?_,hd⟩
  cases q;obtain⟨ob,_,_,h1,h2,_⟩:=dd;exact⟨ob,h1,h2.2.1⟩
 ·obtain⟨_,hd,xs,_,dd⟩:=Ga I.hok e;refine⟨dd.typeIs,λb q=>?_,hd⟩
  cases q;obtain⟨ob,_,_,h1,h2,_⟩:=dd;exact⟨ob,h1,h2.2.1⟩
def V3 (td ty:TE):TE:=λσ H Q=>td σ H λx H1=>∃a,x=.ref a/\IsD H1 a/\ty σ H1 λy H2=>∃kvs k v,H2 a=some (.dK kvs)/\y=kV k/\g9 kvs k=some v/\Q v (upd H2 a (.dK (iR kvs k)))
section
variable{X:Cx}{o e f:Expr}{apos gI:Pos}{td ty tx:TE}
theorem Ge (ho:PE X o td)(he:PE X e ty)(m:M1 X o "pop" apos e gI):PE X (.Call (.Attribute o "pop" apos) [e] [] gI) (V3 td ty):=by
 intro pins s σ H Q I h;refine wpAny_Call_method m.base m.few m.line PySem.F.plainAttrs_dict PySem.F.slot_dict_pop PySem.F.type_dict_pop (thn (ho pins s σ H _ I h) λu s1 ⟨x,H1,I1,rx,a,ex,d,q1⟩=>?_)
 subst ex;obtain rfl:u=alc a:=rx;obtain⟨t1,t2,_⟩:=V2 I1 d;refine⟨t1,t2,?_⟩;rw[m.trees];refine Calls.callWith_builtin rfl (Calls.evalArgs_plain (Calls.spliced_cons (thn (he pins s1 σ H1 _ I1 q1) λiv s2 ⟨y,H2,I2,ry,kvs,k,v,ea,ey,l,q2⟩=>Calls.spliced_nil ?_)))
 subst ey;exact aaz I2 ea ry l (.inl rfl) λw' s3 I3 rw'=>⟨v,_,I3,rw',q2⟩
end
section
variable{X:Cx}
theorem Dw:mD X (.builtin "len") (λxs H Q=>∃a kvs,xs=[V.ref a]/\H a=some (.dK kvs)/\Q (.int kvs.length) H):=by
 intro pins s σ H xs us Q I r h;obtain⟨a,kvs,rfl,ha,q⟩:=h;obtain⟨u,rfl,ru⟩:=vals1 r;cases ru;exact aaA I (.inl ha) λt s' I'=>⟨.int kvs.length,H,I',⟨t,rfl⟩,q⟩
end
theorem Room.u1 {k:Nat}{A:Around}(r:Room k A):A.units+1 < cLine:=by have:=r.un;omega
theorem RP {X:Cx}{K:ba}{e:Expr}{f:Str}{pos:Pos}{ta:TE}(ek:X.K=K)(he:PE X e ta)(hb:attributeBase e f X.env (eval e X.env)=eval e X.env):PE X (.Attribute e f pos) (aae K ta f):=by
 subst ek;exact br he hb
theorem ints_of:∀(l:List Value) (ns:List Int),l.length=ns.length->(∀(j:Nat) (v:Value),l[j]?=some v->∃n t,ns[j]?=some n/\v=Value.int n t)->IntsAre l ns
 |[],[],_,_=>.nil
 |[],_::_,h,_=>nomatch h
 |_::_,[],h,_=>nomatch h
 |v::l,n::ns,h,g=>by
  obtain⟨n',t,e1,e2⟩:=g 0 v rfl;have e3:n=n':=by simpa using e1
  subst e3;subst e2;exact .cons n t (ints_of l ns (by simpa using h) λj v hv=>g (j+1) v (by simpa using hv))
theorem Gf:∀ {vs:List Value} {ns:List Int},IntsAre vs ns->Vals (ns.map V.int) vs
 |_,_,.nil=>.nil
 |_,_,.cons n t h=>.cons ⟨t,rfl⟩ (Gf h)
theorem T4 {κ:Type}:∀ {kvs:List (κ×V)} {vs:List (κ×Value)},KV kvs vs->∀(j:Nat) (q:κ×Value),vs[j]?=some q->(kvs.map (·.1))[j]?=some q.1
 |_,_,.nil,j,q,h=>by simp at h
 |_,_,.cons a r,0,q,h=>by
  rw[alq]at h;cases h;rw[km,alq,a.1]
 |_,_,.cons a r,j+1,q,h=>by
  have:=T4 r j q (by simpa using h)
  simpa using this
theorem RQ {P:rf}{w:World}{n:Int}{v:Value}(h:(dF P w).is (ku n) v=true):∃t,v=Value.int n t:=by
 rcases dZ (k:=ku n) (v:=v) (show AF (ku n) v=true from h) with ⟨i,t,e,rfl⟩ | ⟨x,t,e,rfl⟩
 ·cases e;exact⟨t,rfl⟩
 ·cases e
theorem vR {X:Cx}(hh:X.A.handled=none):mD X (.builtin "sorted") (λxs H Q=>∃a kvs ns,xs=[V.ref a]/\H a=some (.dK kvs)/\kvs.map (·.1)=ns.map ku/\ns.length < 64 /\
  ∀l ns',List.Perm ns' ns->ns'.Pairwise (·<=·)->H l=none->Q (.ref l) (upd H l (.lst (ns'.map V.int)))):=by
 intro pins s σ H xs us Q I r h;obtain⟨a,kvs,ns,rfl,ha,hk,h64,q⟩:=h;obtain⟨u,rfl,ru⟩:=vals1 r;cases ru;obtain⟨z,hd,vs,rel,dd⟩:=A6 I.hok ha;obtain⟨ep,hat⟩:=dd.dictAt;have hlen:vs.length=ns.length:=by
  have e1:=congrArg List.length hk;simp only[bo]at e1;rw[<-rel.length];exact e1
 refine Calls.call_function_entry kind_sorted plain_sorted entry_sorted (args_sorted1 _) ?_;unfold Builtin.«sorted»;refine gn (m:=checkCount "sorted" 1 1 _) (wa ?_);refine gn (PySem.W.kdu_collect (A:=X.A.in1) (PySem.W.kdl_dict (knd:=dF X.prog X.w) (kvs:=vs) (ep:=ep) hd) hh hat (by rw[<-rel.length];exact z) λh' tk acc kp MM=>?_)
 have hsz:acc.toList.length=ns.length:=by rw[amz];exact MM.1.trans hlen
 have hI:IntsAre acc.toList ns:=ints_of _ _ hsz λj v hv=>by
  obtain⟨k,x,hx,hkv⟩:=MM.2 j v (by rw[<-Array.getElem?_toList];exact hv)
  have e:=T4 rel j _ hx;rw[hk,aln]at e;cases en:ns[j]? with
  |none=>rw[en]at e;cases e
  |some n =>
   rw[en]at e;have e':ku n=k:=by simpa using e
   subst e';obtain⟨t,rfl⟩:=RQ hkv;exact⟨n,t,rfl,rfl⟩
 refine gn (wpAny_newList ?_ (by rw[hsz];rw[sizeLine_eq];omega))
 have hoL:(h'.push (seqObj "list" acc.toList.toArray 0)).get? h'.objs.size=some (seqObj "list" acc.toList.toArray 0):=alf _ rfl;refine gn (alY (wpAny_call_entry slot_list_sort ⟨_,hoL,rfl⟩ entry_list_sort (list_sort_tree hoL hI (by omega) λout ns' a1 a2 a3=>⟨_,rfl,?_⟩) (args_list_sort _)))
 refine wa ⟨_,rfl,?_⟩;obtain⟨e,he⟩:=sortedHeap_at (out:=out) hoL;have I1:Inv X pins σ H { s with heap:=h',toks:=tk }:=I.un (Un.kept kp) (I.hok.kept kp)
 refine⟨.ref h'.objs.size,_,I1.laid (t':=tk) (λb o hb=>?_) (kq _) (show fE X.prog X.w _ _ _ (.lst (ns'.map V.int)) from ⟨?_,_,e,Gf a1,?_⟩),rfl,q _ ns' a2 a3 (I1.hok.fresh (kq _))⟩
 ·have hb':h'.get? b=some o:=hb;have hlt:=sr hb';rw[sortedHeap_old (ale hlt) (by rw[size_push'];exact Nat.lt_succ_of_lt hlt)]
  exact kf _ hb'
 ·rw[bo,a2.length_eq,sizeLine_eq];omega
 ·rw[Array.toArray_toList];exact he
theorem Dx:al8 "sorted"=some (.builtin "sorted"):=by trivial
theorem RS {X:Cx}(hu:X.A.units+1 < cLine):OpR X (al6 .NotEq) (λx y H Q=>∃a b kvs,x=.ref a/\y=.ref b/\H a=some (.dK kvs)/\H b=some (.dK [])/\Q (.bl (!kvs.isEmpty)) H):=by
 intro pins s σ H x y v u Q I rx ry h;obtain⟨a,b,kvs,rfl,rfl,ha,hb,q⟩:=h;cases rx;cases ry;obtain⟨_,h1,vs,r1,d1⟩:=A6 I.hok ha;obtain⟨_,h2,ws,r2,d2⟩:=A6 I.hok hb;cases r2;refine PySem.W.keq_ne (knd:=dF X.prog X.w) (r:=true) h1 h2 d1 d2 (by omega) (λe=>?_) ⟨.bl _,H,I,?_,q⟩
 ·have:vs=[]:=List.length_eq_zero_iff.mp e;subst this;exact .nil
 ·have hl:=r1.length;cases kvs with
  |nil =>
   have:vs=[]:=List.length_eq_zero_iff.mp (by rw[<-hl];rfl)
   subst this;rfl
  |cons p r =>
   cases vs with
   |nil=>simp at hl
   |cons _ _=>rfl
theorem aN {P:Prop}(h:∀G:Prop,(P->G)->G):P:=h P id
theorem ixv {s:Option (Option V)}{p:Addr}{n:Int}{S:Addr->List V->Prop}{xs:List V}{z:V}{R:V->Prop}(h0:s=some (some (.ref p)))(h1:S p xs)(h2:atI xs n=some z)(h:R z):∃v,s=some (some v)/\∃q ys i w,v=.ref q/\V.int n=.int i/\S q ys/\atI ys i=some w/\R w :=
 ⟨_,h0,p,xs,n,z,rfl,rfl,h1,h2,h⟩
theorem eS {K:ba}{s:Option (Option V)}{H:Hp}{a C dx:Addr}{fs:List (Str×V)}{f:Str}{w:V}{R:V->Prop}(h0:s=some (some (.ref a)))(h1:H a=some (.ins C dx fs))(h2:Cls K C)(h3:d4 K C f)(h4:fs.lookup f=some w)(h:R w) :
  ∃v,s=some (some v)/\∃a C dx fs w,v=.ref a/\H a=some (.ins C dx fs)/\Cls K C/\d4 K C f/\fs.lookup f=some w/\R w:=⟨_,h0,a,C,dx,fs,w,rfl,h1,h2,h3,h4,h⟩
theorem dgv {s:Option (Option V)}{a:Addr}{v:V}{D:Addr->V->Prop}{R:V->Prop}(h0:s=some (some (.ref a)))(h1:D a v)(h:R v):∃x,s=some (some x)/\∃a v,x=.ref a/\D a v/\R v:=⟨_,h0,a,v,rfl,h1,h⟩
theorem mtv {s:Option (Option V)}{H:Hp}{a C dx:Addr}{fs:List (Str×V)}{m:Str}{R:V->Prop}(h0:s=some (some (.ref a)))(h1:H a=some (.ins C dx fs))(h2:fs.lookup m=none)(h:R (.ref a)) :
  ∃v,s=some (some v)/\∃a dx fs,v=.ref a/\H a=some (.ins C dx fs)/\fs.lookup m=none/\R v:=⟨_,h0,a,dx,fs,rfl,h1,h2,h⟩
theorem tsf {b:Bool}{P Q:Prop}(h:b=false)(q:Q):∃k,V.bl b=.bl k/\if k=true then P else Q:=⟨b,rfl,by rw[h];exact q⟩
theorem tst {b:Bool}{P Q:Prop}(h:b=true)(q:P):∃k,V.bl b=.bl k/\if k=true then P else Q:=⟨b,rfl,by rw[h];exact q⟩
def scB (N P:List Str)(sc:Scope):Bool:=(match sc.kind with | .function=>true | _=>false) && !sc.isCoroutine && !sc.isGenerator && decide N.Nodup && decide (N.take P.length=P) && decide (∀x∈P,sc.names.lookup x=some .local\/sc.names.lookup x=some .cell) && decide (∀y∈sc.names,y.2≠.free)
theorem fsc {N P:List Str}{sc:Scope}(h:scB N P sc=true):aQ N P sc:=by
 unfold scB at h;simp only[alW,Bool.not_eq_true',decide_eq_true_eq]at h;obtain⟨⟨⟨⟨⟨⟨h1,h2⟩,h3⟩,h4⟩,h5⟩,h6⟩,h7⟩:=h;refine⟨?_,h2,h3,h4,h5,h6,h7⟩;split at h1
 ·assumption
 ·cases h1
end L2
namespace My
open PySem L2
seal PySem.wpAny
def top (i:Nat):Stmt:=PySem.Challenge.pw_moot_k18_whole_just_those_in_order.main.body.getD i (.Pass ⟨0,0,0,0⟩)
abbrev fW:Stmt:=inClass (top 22) 1
theorem A8:aQ ["self"] ["self"] (ah fW):=fsc (by trivial)
abbrev fX:Stmt:=inClass (top 23) 1
theorem A9:aQ ["self"] ["self"] (ah fX):=fsc (by trivial)
abbrev iS:Stmt:=inClass (top 24) 1
theorem EJ:aQ ["self"] ["self"] (ah iS):=fsc (by trivial)
abbrev fY:Stmt:=inClass (top 25) 1
theorem Ba:aQ ["self"] ["self"] (ah fY):=fsc (by trivial)
abbrev hG:Stmt:=inClass (top 26) 0
theorem CM:aQ ["self"] ["self"] (ah hG):=fsc (by trivial)
abbrev jN:Stmt:=inClass (top 27) 0
theorem Gg:aQ ["self"] ["self"] (ah jN):=fsc (by trivial)
abbrev iT:Stmt:=inClass (top 28) 0
theorem EK:aQ ["self"] ["self"] (ah iT):=fsc (by trivial)
abbrev hJ:Stmt:=inClass (top 29) 1
theorem CN:aQ ["self"] ["self"] (ah hJ):=fsc (by trivial)
abbrev fZ:Stmt:=inClass (top 21) 1
theorem Bb:aQ ["self"] ["self"] (ah fZ):=fsc (by trivial)
abbrev f6:Stmt:=inClass (top 21) 2
theorem Bc:aQ ["self"] ["self"] (ah f6):=fsc (by trivial)
abbrev hU:Stmt:=inClass (top 26) 1
theorem CO:aQ ["self"] ["self"] (ah hU):=fsc (by trivial)
abbrev f7:Stmt:=inClass (top 21) 3
theorem Bd:aQ ["self"] ["self"] (ah f7):=fsc (by trivial)
abbrev f9:Stmt:=inClass (top 22) 2
theorem Be:aQ ["self"] ["self"] (ah f9):=fsc (by trivial)
abbrev gb:Stmt:=inClass (top 23) 2
theorem Bf:aQ ["self"] ["self"] (ah gb):=fsc (by trivial)
abbrev iU:Stmt:=inClass (top 24) 2
theorem EL:aQ ["self"] ["self"] (ah iU):=fsc (by trivial)
abbrev gf:Stmt:=inClass (top 25) 2
theorem Bg:aQ ["self"] ["self"] (ah gf):=fsc (by trivial)
abbrev hV:Stmt:=inClass (top 29) 2
theorem CP:aQ ["self"] ["self"] (ah hV):=fsc (by trivial)
abbrev gg:Stmt:=inClass (top 22) 0
theorem Bh:aQ ["self","text"] ["self","text"] (ah gg):=fsc (by trivial)
abbrev gh:Stmt:=inClass (top 23) 0
theorem Bi:aQ ["self","edit"] ["self","edit"] (ah gh):=fsc (by trivial)
abbrev iV:Stmt:=inClass (top 24) 0
theorem EM:aQ ["self","edit"] ["self","edit"] (ah iV):=fsc (by trivial)
abbrev gi:Stmt:=inClass (top 25) 0
theorem Bj:aQ ["self","sitting"] ["self","sitting"] (ah gi):=fsc (by trivial)
abbrev hX:Stmt:=inClass (top 29) 0
theorem CQ:aQ ["self","clause"] ["self","clause"] (ah hX):=fsc (by trivial)
abbrev gj:Stmt:=inClass (top 4) 0
theorem Bk:aQ ["self","bar"] ["self","bar"] (ah gj):=fsc (by trivial)
abbrev ez:Stmt:=inClass (top 7) 0
theorem xD:aQ ["self","sitting"] ["self","sitting"] (ah ez):=fsc (by trivial)
abbrev gk:Stmt:=inClass (top 11) 0
theorem Bl:aQ ["self","sitting"] ["self","sitting"] (ah gk):=fsc (by trivial)
abbrev eT:Stmt:=inClass (top 47) 0
theorem zk:aQ ["self","seats"] ["self","seats"] (ah eT):=fsc (by trivial)
abbrev eU:Stmt:=inClass (top 47) 1
theorem qQ:aQ ["self","told","number"] ["self","told"] (ah eU):=fsc (by trivial)
abbrev eV:Stmt:=inClass (top 47) 2
theorem lB:aQ ["self","ayes","noes","motion","word"] ["self","ayes","noes"] (ah eV):=fsc (by trivial)
abbrev eW:Stmt:=inClass (top 47) 3
theorem zm:aQ ["self"] ["self"] (ah eW):=fsc (by trivial)
abbrev eX:Stmt:=inClass (top 47) 4
theorem qR:aQ ["self","number","until"] ["self","number"] (ah eX):=fsc (by trivial)
abbrev dn:Stmt:=inClass (top 47) 5
theorem ub:aQ ["self"] ["self"] (ah dn):=fsc (by trivial)
abbrev dQ:Stmt:=inClass (top 47) 6
theorem xE:aQ ["self","aside"] ["self"] (ah dQ):=fsc (by trivial)
abbrev lP:Scope:={ kind:=.function,names:=[(ar ".0",.local),(ar "number",.local),(ar "self",.free)],isGenerator:=false,isCoroutine:=false,more:=[] }
theorem uJ:cG lP (ah dQ) "number" ["self","aside"] ["self","aside"]:=⟨rfl,rfl,by trivial,by trivial,rfl,by trivial,by trivial,by trivial,by trivial,rfl,by trivial,by trivial⟩
abbrev d0:Stmt:=inClass (top 47) 7
theorem vS:aQ ["self","number"] ["self","number"] (ah d0):=fsc (by trivial)
abbrev cQ:Stmt:=inClass (top 47) 12
theorem uK:aQ ["self"] ["self"] (ah cQ):=fsc (by trivial)
abbrev jF:Scope:={ kind:=.function,names:=[(ar ".0",.local),(ar "number",.local),(ar "self",.free)],isGenerator:=false,isCoroutine:=false,more:=[] }
theorem rT:cG jF (ah cQ) "number" ["self"] ["self"]:=⟨rfl,rfl,by trivial,by trivial,rfl,by trivial,by trivial,by trivial,by trivial,rfl,by trivial,by trivial⟩
abbrev cH:Stmt:=inClass (top 47) 13
theorem jG:aQ ["self","number","waiting"] ["self","number"] (ah cH):=fsc (by trivial)
abbrev bE:Stmt:=inClass (top 47) 14
theorem dq:aQ ["self","told","kind","pile"] ["self","told"] (ah bE):=fsc (by trivial)
abbrev bV:Stmt:=inClass (top 47) 15
theorem mF:aQ ["self"] ["self"] (ah bV):=fsc (by trivial)
abbrev d3:Stmt:=inClass (top 47) 17
theorem vT:aQ ["self","word"] ["self","word"] (ah d3):=fsc (by trivial)
abbrev cn:Stmt:=inClass (top 47) 18
theorem pB:aQ ["self","deed"] ["self","deed"] (ah cn):=fsc (by trivial)
abbrev dc:Stmt:=inClass (top 47) 19
theorem kX:aQ ["self","motion","kind"] ["self","motion"] (ah dc):=fsc (by trivial)
abbrev cc:Stmt:=inClass (top 47) 20
theorem iw:aQ ["self","edit","number"] ["self","edit"] (ah cc):=fsc (by trivial)
abbrev cf:Stmt:=inClass (top 47) 21
theorem dG:aQ ["self","edit","number","change","words"] ["self","edit"] (ah cf):=fsc (by trivial)
abbrev df:Stmt:=inClass (top 47) 22
theorem rV:aQ ["self","until"] ["self","until"] (ah df):=fsc (by trivial)
abbrev xF:Stmt:=top 14
theorem EN:aQ ["things","edit","places"] ["things","edit"] (ah xF):=fsc (by trivial)
abbrev gu:Stmt:=top 15
theorem Bm:aQ ["things","edit"] ["things","edit"] (ah gu):=fsc (by trivial)
abbrev xG:Stmt:=top 16
theorem Aw:aQ ["things","edit","kind","place","behind"] ["things","edit"] (ah xG):=fsc (by trivial)
abbrev jO:Stmt:=top 17
theorem Gh:aQ ["clause"] ["clause"] (ah jO):=fsc (by trivial)
abbrev iW:Stmt:=top 18
theorem EO:aQ ["words"] ["words"] (ah iW):=fsc (by trivial)
abbrev iX:Stmt:=top 30
theorem lU:aQ ["told","kind"] ["told"] (ah iX):=fsc (by trivial)
abbrev pD:Stmt:=top 33
theorem Dy:aQ ["pile","closed","bar"] ["pile","closed"] (ah pD):=fsc (by trivial)
abbrev fJ:Stmt:=top 34
theorem CS:aQ ["pile"] ["pile"] (ah fJ):=fsc (by trivial)
abbrev pE:Scope:={ kind:=.function,names:=[(ar ".0",.local),(ar "motion",.local)],isGenerator:=false,isCoroutine:=false,more:=[] }
theorem zo:cG pE (ah fJ) "motion" ["pile"] ["pile"]:=⟨rfl,rfl,by trivial,by trivial,rfl,by trivial,by trivial,by trivial,by trivial,rfl,by trivial,by trivial⟩
abbrev eA:Stmt:=top 35
theorem pF:aQ ["pile","told"] ["pile"] (ah eA):=fsc (by trivial)
abbrev dg:Stmt:=top 36
theorem rW:aQ ["kind","pile"] ["kind","pile"] (ah dg):=fsc (by trivial)
abbrev du:Stmt:=top 37
theorem nP:aQ ["pile","closed","bar"] ["pile","closed"] (ah du):=fsc (by trivial)
abbrev kY:Scope:={ kind:=.function,names:=[(ar ".0",.local),(ar "kind",.local),(ar "RANKS",.globalImplicit),(ar "has_what_it_needs",.globalImplicit),(ar "bar",.free),(ar "pile",.free)],isGenerator:=false,isCoroutine:=false,more:=[] }
theorem uc:cG kY (ah du) "kind" ["pile","closed","bar"] ["pile","closed","bar"]:=⟨rfl,rfl,by trivial,by trivial,rfl,by trivial,by trivial,by trivial,by trivial,rfl,by trivial,by trivial⟩
abbrev dA:Stmt:=top 38
theorem lQ:aQ ["kind","pile","closed","bar"] ["kind","pile","closed"] (ah dA):=fsc (by trivial)
abbrev eB:Stmt:=top 40
theorem jP:aQ ["text","words","clause"] ["text"] (ah eB):=fsc (by trivial)
abbrev eC:Stmt:=top 41
theorem pG:aQ ["edit","words"] ["edit"] (ah eC):=fsc (by trivial)
abbrev d6:Stmt:=top 42
theorem qS:aQ ["deed","kind"] ["deed"] (ah d6):=fsc (by trivial)
abbrev mG:Scope:={ kind:=.function,names:=[(ar ".0",.local),(ar "number",.local),(ar "str",.globalImplicit)],isGenerator:=false,isCoroutine:=false,more:=[] }
theorem vU:cG mG (ah d6) "number" ["deed","kind"] ["deed","kind"]:=⟨rfl,rfl,by trivial,by trivial,rfl,by trivial,by trivial,by trivial,by trivial,rfl,by trivial,by trivial⟩
abbrev iY:Stmt:=top 43
theorem ER:aQ ["deed"] ["deed"] (ah iY):=fsc (by trivial)
abbrev l9:Stmt:=top 45
theorem JL:aQ ["need","ayes","noes"] ["need","ayes","noes"] (ah l9):=fsc (by trivial)
abbrev iZ:Stmt:=top 49
theorem ES:aQ ["_law_script","_law_k"] ["_law_script","_law_k"] (ah iZ):=fsc (by trivial)
abbrev pH:Stmt:=top 50
theorem pI:aQ ["_law_cell","_law_signs","_law_word_here","_law_k"] ["_law_cell"] (ah pH):=fsc (by trivial)
abbrev jQ:Stmt:=top 51
theorem kZ:aQ ["_law_cell","_law_words_here","_law_number","_law_k"] ["_law_cell"] (ah jQ):=fsc (by trivial)
abbrev pJ:Stmt:=top 52
theorem Dz:aQ ["_law_cell","_law_size","_law_thing","_law_place"] ["_law_cell","_law_size","_law_thing"] (ah pJ):=fsc (by trivial)
abbrev pK:Stmt:=top 53
theorem MX:aQ ["_law_things","_law_edit_here"] ["_law_things","_law_edit_here"] (ah pK):=fsc (by trivial)
abbrev pL:Stmt:=top 54
theorem DA:aQ ["_law_things","_law_edit_here","_law_at"] ["_law_things","_law_edit_here"] (ah pL):=fsc (by trivial)
abbrev md:Stmt:=top 55
theorem JM:aQ ["_law_clause_here"] ["_law_clause_here"] (ah md):=fsc (by trivial)
abbrev pM:Stmt:=top 56
theorem MY:aQ ["_law_kind"] ["_law_kind"] (ah pM):=fsc (by trivial)
abbrev tR:Stmt:=top 57
theorem OT:aQ [] [] (ah tR):=fsc (by trivial)
abbrev tS:Stmt:=top 58
theorem OU:aQ ["_law_m","_law_number"] ["_law_m","_law_number"] (ah tS):=fsc (by trivial)
abbrev tT:Stmt:=top 59
theorem Bn:aQ ["_law_m","_law_bar_here"] ["_law_m"] (ah tT):=fsc (by trivial)
abbrev mf:Stmt:=top 60
theorem uL:aQ ["_law_m","_law_motion_here","_law_kind","_law_top"] ["_law_m","_law_motion_here"] (ah mf):=fsc (by trivial)
abbrev pN:Stmt:=top 61
theorem jR:aQ ["_law_m","_law_motion_here","_law_matter","_law_change","_law_word_here","_law_at","_law_clause_here","_law_until"] ["_law_m","_law_motion_here"] (ah pN):=fsc (by trivial)
abbrev mh:Stmt:=top 62
theorem Bo:aQ ["_law_m","_law_word_here","_law_number"] ["_law_m","_law_word_here"] (ah mh):=fsc (by trivial)
abbrev mi:Stmt:=top 63
theorem uM:aQ ["_law_m","_law_ayes","_law_noes","_law_seats_here","_law_kept"] ["_law_m","_law_ayes","_law_noes","_law_seats_here"] (ah mi):=fsc (by trivial)
abbrev mj:Stmt:=top 64
theorem uN:aQ ["_law_m","_law_number","_law_until","_law_pile"] ["_law_m","_law_number"] (ah mj):=fsc (by trivial)
abbrev tU:Stmt:=top 65
theorem Gi:aQ ["_law_m","_law_deed_here","_law_seats_here","_law_lack"] ["_law_m","_law_deed_here","_law_seats_here"] (ah tU):=fsc (by trivial)
abbrev pO:Stmt:=top 67
theorem pP:aQ ["_law_cell","_law_seats_here","_law_ayes","_law_noes"] ["_law_cell","_law_seats_here"] (ah pO):=fsc (by trivial)
abbrev jS:Stmt:=top 68
theorem yQ:aQ ["_law_m","_law_way","_law_top"] ["_law_m","_law_way"] (ah jS):=fsc (by trivial)
abbrev mH:Stmt:=top 69
theorem eY:aQ ["_law_m","_law_cell","_law_seats_here","_law_way","_law_more","_law_size","_law_clause_here","_law_bottom","_law_top"] ["_law_m","_law_cell","_law_seats_here"] (ah mH):=fsc (by trivial)
abbrev vV:Scope:={ kind:=.function,names:=[(ar ".0",.local),(ar "_law_k",.local),(ar "_law_clause",.globalImplicit),(ar "_law_more",.free)],isGenerator:=false,isCoroutine:=false,more:=[] }
theorem Gj:cG vV (ah mH) "_law_k" ["_law_m","_law_cell","_law_seats_here","_law_way","_law_more","_law_size","_law_clause_here","_law_bottom","_law_top"] ["_law_m","_law_cell","_law_seats_here","_law_way","_law_more","_law_size","_law_clause_here","_law_bottom","_law_top"]:=⟨rfl,rfl,by trivial,by trivial,rfl,by trivial,by trivial,by trivial,by trivial,rfl,by trivial,by trivial⟩
abbrev pQ:Stmt:=top 70
theorem xH:aQ ["_law_chamber","_law_deed_here","_law_found"] ["_law_chamber","_law_deed_here"] (ah pQ):=fsc (by trivial)
abbrev mq:Stmt:=top 71
theorem JN:aQ ["_law_cell"] ["_law_cell"] (ah mq):=fsc (by trivial)
abbrev iH:Stmt:=top 72
theorem i3:aQ ["_law_chamber","_law_kind","_law_cell","_law_state_here","_law_told","_law_size","_law_words_here"] ["_law_chamber","_law_kind","_law_cell"] (ah iH):=fsc (by trivial)
abbrev rX:Scope:={ kind:=.function,names:=[(ar ".0",.local),(ar "_law_number",.local),(ar "_law_chamber",.free)],isGenerator:=false,isCoroutine:=false,more:=[] }
theorem CT:cG rX (ah iH) "_law_number" ["_law_chamber","_law_kind","_law_cell","_law_state_here","_law_told","_law_size","_law_words_here"] ["_law_chamber","_law_kind","_law_cell","_law_state_here","_law_told","_law_size","_law_words_here"]:=⟨rfl,rfl,by trivial,by trivial,rfl,by trivial,by trivial,by trivial,by trivial,rfl,by trivial,by trivial⟩
abbrev mr:Stmt:=top 73
theorem jT:aQ ["_law_chamber","_law_motion_here","_law_found","e"] ["_law_chamber","_law_motion_here"] (ah mr):=fsc (by trivial)
abbrev mI:Stmt:=top 74
theorem jU:aQ ["_law_chamber","_law_motion_here","_law_kinds","_law_state_here","_law_told","_law_bar_here","_law_found"] ["_law_chamber","_law_motion_here"] (ah mI):=fsc (by trivial)
abbrev vW:Scope:={ kind:=.function,names:=[(ar ".0",.local),(ar "_law_number",.local),(ar "_law_chamber",.free)],isGenerator:=false,isCoroutine:=false,more:=[] }
theorem Gk:cG vW (ah mI) "_law_number" ["_law_chamber","_law_motion_here","_law_kinds","_law_state_here","_law_told","_law_bar_here","_law_found"] ["_law_chamber","_law_motion_here","_law_kinds","_law_state_here","_law_told","_law_bar_here","_law_found"]:=⟨rfl,rfl,by trivial,by trivial,rfl,by trivial,by trivial,by trivial,by trivial,rfl,by trivial,by trivial⟩
abbrev mw:Stmt:=top 75
theorem uO:aQ ["_law_seats_here","_law_deeds","_law_chamber","_law_deed_here"] ["_law_seats_here","_law_deeds"] (ah mw):=fsc (by trivial)
abbrev vX:Stmt:=top 76
theorem mJ:aQ ["_law_script","_law_seats_here","_law_chamber","_law_m","_law_deeds","_law_cell","_law_deed_here","_law_kinds","_law_other","_law_mixed","_law_kind"] ["_law_script"] (ah vX):=fsc (by trivial)
structure Adr where
 fits:Addr
 ET:kj
 rY:Addr
 mK:kj
 laid:Addr
 EU:kj
 words_of:Addr
 i4:kj
 pR:Addr
 jd:kj
 pS:Addr
 je:kj
 JO:Addr
 xI:kj
 uP:Addr
 oj:kj
 oo:Addr
 jV:kj
 jf:Addr
 gK:kj
 mL:Addr
 jg:kj
 jW:Addr
 ie:kj
 oq:Addr
 jX:kj
 ot:Addr
 jY:kj
 qy:Addr
 lC:kj
 my:Addr
 hZ:kj
 EV:Addr
 uQ:kj
 xJ:Addr
 qz:kj
 JP:Addr
 xK:kj
 rZ:Addr
 k9:kj
 JQ:Addr
 xM:kj
 JR:Addr
 xN:kj
 JS:Addr
 xO:kj
 EW:Addr
 uR:kj
 EX:Addr
 tV:kj
 OV:Addr
 Bp:kj
 LU:Addr
 vY:kj
 OW:Addr
 Bq:kj
 EY:Addr
 uS:kj
 JT:Addr
 xP:kj
 EZ:Addr
 uT:kj
 E1:Addr
 uU:kj
 E2:Addr
 uV:kj
 OX:Addr
 Br:kj
 JU:Addr
 xQ:kj
 Bs:Addr
 r6:kj
 JV:Addr
 xR:kj
 E3:Addr
 tW:kj
 E4:Addr
 uW:kj
 vZ:Addr
 nQ:kj
 Ax:Addr
 qA:kj
 JW:Addr
 xS:kj
 E5:Addr
 uX:kj
 kM:Tok
 c0:Addr
 c1:Addr
 c2:Addr
 c3:Addr
 c4:Addr
 c5:Addr
 c6:Addr
 c7:Addr
 Cm:Addr
 tab:Addr
 V4:Addr
 OY:kj
 V5:Addr
 OZ:kj
 V6:Addr
 O0:kj
 V7:Addr
 O1:kj
 V8:Addr
 O2:kj
 V9:Addr
 O3:kj
 Wa:Addr
 O4:kj
 Wb:Addr
 O5:kj
 f_r:Addr
 RT:kj
 f_n:Addr
 E6:kj
 Wc:Addr
 O6:kj
 f_t:Addr
 O7:kj
 We:Addr
 O8:kj
 Wf:Addr
 O9:kj
 Wg:Addr
 Pa:kj
 Wh:Addr
 Pb:kj
 Wi:Addr
 Pc:kj
 Wj:Addr
 Pd:kj
 Wk:Addr
 Pe:kj
 Wl:Addr
 Pf:kj
 Wm:Addr
 Pg:kj
 Wn:Addr
 Ph:kj
 ax:Addr
 cS:Addr
 lD:kj
 cT:Addr
 lE:kj
 cU:Addr
 lF:kj
 cV:Addr
 lG:kj
 cW:Addr
 lH:kj
 bW:Addr
 ig:kj
 cC:Addr
 jZ:kj
 cq:Addr
 jh:kj
 bY:Addr
 iI:kj
 bH:Addr
 gw:kj
 bj:Addr
 dB:kj
 bu:Addr
 d7:kj
 cv:Addr
 ji:kj
 bB:Addr
 eZ:kj
 bN:Addr
 gL:kj
 bz:Addr
 eJ:kj
 bA:Addr
 eK:kj
 bO:Addr
 gM:kj
 bQ:Addr
 lV:Addr
 cI:Addr
 cg:Addr
 cj:Addr
 fK:Addr
 i5:Addr
 j2:Addr
 j3:Addr
 jj:Addr
 iJ:Addr
 Bt:Addr
 xT:kj
 uY:Addr
 r8:kj
 Bu:Addr
 xU:kj
def Adr.C (A:Adr):Nat->Addr
 | 0=>A.c0
 | 1=>A.c1
 | 2=>A.c2
 | 3=>A.c3
 | 4=>A.c4
 | 5=>A.c5
 | 6=>A.c6
 |_=>A.c7
def Adr.fk (A:Adr):Nat->Addr
 | 0=>A.V4
 | 1=>A.V5
 | 2=>A.V6
 | 3=>A.V7
 | 4=>A.V8
 | 5=>A.V9
 | 6=>A.Wa
 |_=>A.Wb
def Adr.fkd (A:Adr):Nat->kj
 | 0=>A.OY
 | 1=>A.OZ
 | 2=>A.O0
 | 3=>A.O1
 | 4=>A.O2
 | 5=>A.O3
 | 6=>A.O4
 |_=>A.O5
def Adr.fn (A:Adr):Nat->Addr
 | 0=>A.f_n
 | 1=>A.f_n
 | 2=>A.f_n
 | 3=>A.f_n
 | 4=>A.Wc
 | 5=>A.f_n
 | 6=>A.f_n
 |_=>A.f_n
def Adr.fnd (A:Adr):Nat->kj
 | 0=>A.E6
 | 1=>A.E6
 | 2=>A.E6
 | 3=>A.E6
 | 4=>A.O6
 | 5=>A.E6
 | 6=>A.E6
 |_=>A.E6
def Adr.ft (A:Adr):Nat->Addr
 | 0=>A.We
 | 1=>A.Wf
 | 2=>A.Wg
 | 3=>A.Wh
 | 4=>A.f_t
 | 5=>A.f_t
 | 6=>A.f_t
 |_=>A.Wi
def Adr.ftd (A:Adr):Nat->kj
 | 0=>A.O8
 | 1=>A.O9
 | 2=>A.Pa
 | 3=>A.Pb
 | 4=>A.O7
 | 5=>A.O7
 | 6=>A.O7
 |_=>A.Pc
def nm:Nat->Str
 | 0=>ar "matter"
 | 1=>ar "change"
 | 2=>ar "mend"
 | 3=>ar "put off"
 | 4=>ar "close"
 | 5=>ar "lay"
 | 6=>ar "rest"
 |_=>ar "point"
structure Txt (P:Params)(K:ba)(mg:Str->Option Value)(A:Adr):Prop where
 JX:Fun K "fits" "fits" xF A.fits A.ET
 Pj:Binds K A.ET ["things","edit"] []
 Pk:mg "fits"=some (.ref A.fits)
 ix:Fun K "require_fit" "require_fit" gu A.rY A.mK
 kO:Binds K A.mK ["things","edit"] []
 kP:mg "require_fit"=some (.ref A.rY)
 E7:Fun K "laid" "laid" xG A.laid A.EU
 JY:Binds K A.EU ["things","edit"] []
 JZ:mg "laid"=some (.ref A.laid)
 iK:Fun K "words_of" "words_of" jO A.words_of A.i4
 j4:Binds K A.i4 ["clause"] []
 j5:mg "words_of"=some (.ref A.words_of)
 nR:Fun K "clause_of" "clause_of" iW A.pR A.jd
 r9:Binds K A.jd ["words"] []
 sf:mg "clause_of"=some (.ref A.pR)
 nS:Fun K "motion_of" "motion_of" iX A.pS A.je
 yR:Binds K A.je ["told"] []
 yS:mg "motion_of"=some (.ref A.pS)
 sg:Fun K "bar_of" "bar_of" pD A.JO A.xI
 wb:Binds K A.xI ["pile","closed"] []
 wc:mg "bar_of"=some (.ref A.JO)
 lW:Fun K "has_matter" "has_matter" fJ A.uP A.oj
 qB:Binds K A.oj ["pile"] []
 qC:mg "has_matter"=some (.ref A.uP)
 lI:Fun K "can_be_mended" "can_be_mended" eA A.oo A.jV
 qT:Binds K A.jV ["pile"] []
 qU:mg "can_be_mended"=some (.ref A.oo)
 eL:Fun K "has_what_it_needs" "has_what_it_needs" dg A.jf A.gK
 ij:Binds K A.gK ["kind","pile"] []
 il:mg "has_what_it_needs"=some (.ref A.jf)
 j6:Fun K "kinds_in_order" "kinds_in_order" du A.mL A.jg
 pT:Binds K A.jg ["pile","closed"] []
 pU:mg "kinds_in_order"=some (.ref A.mL)
 iL:Fun K "require_in_order" "require_in_order" dA A.jW A.ie
 mM:Binds K A.ie ["kind","pile","closed"] []
 mO:mg "require_in_order"=some (.ref A.jW)
 lJ:Fun K "words_of_text" "words_of_text" eB A.oq A.jX
 qV:Binds K A.jX ["text"] []
 qW:mg "words_of_text"=some (.ref A.oq)
 lK:Fun K "words_of_edit" "words_of_edit" eC A.ot A.jY
 qX:Binds K A.jY ["edit"] []
 qY:mg "words_of_edit"=some (.ref A.ot)
 mP:Fun K "words_behind" "words_behind" d6 A.qy A.lC
 sj:Binds K A.lC ["deed"] []
 sv:mg "words_behind"=some (.ref A.qy)
 lb:Fun K "show_deed" "show_deed" iY A.my A.hZ
 nU:Binds K A.hZ ["deed"] []
 nX:mg "show_deed"=some (.ref A.my)
 xV:Fun K "is_kept" "is_kept" l9 A.EV A.uQ
 DB:Binds K A.uQ ["need","ayes","noes"] []
 DC:mg "is_kept"=some (.ref A.EV)
 sx:Fun K "_law_cell_at" "_law_cell_at" iZ A.xJ A.qz
 yT:Binds K A.qz ["_law_script","_law_k"] []
 yU:mg "_law_cell_at"=some (.ref A.xJ)
 sy:Fun K "_law_word" "_law_word" pH A.JP A.xK
 we:Binds K A.xK ["_law_cell"] []
 wg:mg "_law_word"=some (.ref A.JP)
 gN:Fun K "_law_clause" "_law_clause" jQ A.rZ A.k9
 iM:Binds K A.k9 ["_law_cell"] []
 iN:mg "_law_clause"=some (.ref A.rZ)
 wj:Fun K "_law_edit" "_law_edit" pJ A.JQ A.xM
 Bv:Binds K A.xM ["_law_cell","_law_size","_law_thing"] []
 Bw:mg "_law_edit"=some (.ref A.JQ)
 wk:Fun K "_law_fits" "_law_fits" pK A.JR A.xN
 Bx:Binds K A.xN ["_law_things","_law_edit_here"] []
 By:mg "_law_fits"=some (.ref A.JR)
 wm:Fun K "_law_laid" "_law_laid" pL A.JS A.xO
 Bz:Binds K A.xO ["_law_things","_law_edit_here"] []
 BA:mg "_law_laid"=some (.ref A.JS)
 mz:Fun K "_law_words" "_law_words" md A.EW A.uR
 pV:Binds K A.uR ["_law_clause_here"] []
 pW:mg "_law_words"=some (.ref A.EW)
 mQ:Fun K "_law_rank" "_law_rank" pM A.EX A.tV
 pX:Binds K A.tV ["_law_kind"] []
 pY:mg "_law_rank"=some (.ref A.EX)
 E8:Fun K "_law_new" "_law_new" tR A.OV A.Bp
 LV:Binds K A.Bp [] []
 LW:mg "_law_new"=some (.ref A.OV)
 jk:Fun K "_law_now" "_law_now" tS A.LU A.vY
 kQ:Binds K A.vY ["_law_m","_law_number"] []
 kR:mg "_law_now"=some (.ref A.LU)
 wo:Fun K "_law_bar" "_law_bar" tT A.OW A.Bq
 Ay:Binds K A.Bq ["_law_m"] []
 Az:mg "_law_bar"=some (.ref A.OW)
 xW:Fun K "_law_lacks" "_law_lacks" mf A.EY A.uS
 DD:Binds K A.uS ["_law_m","_law_motion_here"] []
 DE:mg "_law_lacks"=some (.ref A.EY)
 BB:Fun K "_law_keep" "_law_keep" pN A.JT A.xP
 Gm:Binds K A.xP ["_law_m","_law_motion_here"] []
 Gn:mg "_law_keep"=some (.ref A.JT)
 tX:Fun K "_law_ended" "_law_ended" mh A.EZ A.uT
 xX:Binds K A.uT ["_law_m","_law_word_here"] []
 xY:mg "_law_ended"=some (.ref A.EZ)
 xZ:Fun K "_law_voted" "_law_voted" mi A.E1 A.uU
 DF:Binds K A.uU ["_law_m","_law_ayes","_law_noes","_law_seats_here"] []
 DG:mg "_law_voted"=some (.ref A.E1)
 ya:Fun K "_law_taken" "_law_taken" mj A.E2 A.uV
 DH:Binds K A.uV ["_law_m","_law_number"] []
 DI:mg "_law_taken"=some (.ref A.E2)
 E9:Fun K "_law_due" "_law_due" tU A.OX A.Br
 LX:Binds K A.Br ["_law_m","_law_deed_here","_law_seats_here"] []
 LY:mg "_law_due"=some (.ref A.OX)
 BC:Fun K "_law_vote" "_law_vote" pO A.JU A.xQ
 Gp:Binds K A.xQ ["_law_cell","_law_seats_here"] []
 Gr:mg "_law_vote"=some (.ref A.JU)
 uZ:Fun K "_law_guided" "_law_guided" jS A.Bs A.r6
 BD:Binds K A.r6 ["_law_m","_law_way"] []
 BE:mg "_law_guided"=some (.ref A.Bs)
 BF:Fun K "_law_deed" "_law_deed" mH A.JV A.xR
 Gs:Binds K A.xR ["_law_m","_law_cell","_law_seats_here"] []
 Gu:mg "_law_deed"=some (.ref A.JV)
 wq:Fun K "_law_done" "_law_done" pQ A.E3 A.tW
 BG:Binds K A.tW ["_law_chamber","_law_deed_here"] []
 BH:mg "_law_done"=some (.ref A.E3)
 yb:Fun K "_law_seats" "_law_seats" mq A.E4 A.uW
 DJ:Binds K A.uW ["_law_cell"] []
 DK:mg "_law_seats"=some (.ref A.E4)
 u3:Fun K "_law_motion" "_law_motion" iH A.vZ A.nQ
 BI:Binds K A.nQ ["_law_chamber","_law_kind","_law_cell"] []
 BJ:mg "_law_motion"=some (.ref A.vZ)
 yc:Fun K "_law_asked" "_law_asked" mr A.Ax A.qA
 DL:Binds K A.qA ["_law_chamber","_law_motion_here"] []
 DM:mg "_law_asked"=some (.ref A.Ax)
 BK:Fun K "_law_good" "_law_good" mI A.JW A.xS
 Gv:Binds K A.xS ["_law_chamber","_law_motion_here"] []
 Gw:mg "_law_good"=some (.ref A.JW)
 yd:Fun K "_law_again" "_law_again" mw A.E5 A.uX
 DN:Binds K A.uX ["_law_seats_here","_law_deeds"] []
 DO:mg "_law_again"=some (.ref A.E5)
 AA:mg "range"=none
 sC:mg "list"=none
 Fb:mg "isinstance"=none
 nY:mg "len"=none
 DQ:mg "max"=none
 T5:mg "any"=none
 Pl:mg "str"=none
 BL:mg "sorted"=none
 Pm:mg "int"=none
 Fc:mg "ValueError"=none
 wu:mg "CLOSED_BAR"=some (.int 4 A.kM)
 cl:∀k,k < 8->Cls K (A.C k)
 wy:mg "Matter"=some (.ref (A.C 0))
 wz:mg "Change"=some (.ref (A.C 1))
 J0:mg "Mend"=some (.ref (A.C 2))
 BM:mg "PutOff"=some (.ref (A.C 3))
 Fd:mg "Close"=some (.ref (A.C 4))
 Pn:mg "Lay"=some (.ref (A.C 5))
 J1:mg "Rest"=some (.ref (A.C 6))
 Fe:mg "Point"=some (.ref (A.C 7))
 wA:mg "RANKS"=some (.ref A.tab)
 tb:VO P K A.tab
 rk:∀k,k < 8->∃t,fe K A.tab (nm k)=some (some (.int k t))
 tk:Au P K A.tab [ar "matter",ar "change",ar "mend",ar "put off",ar "close",ar "lay",ar "rest",ar "point"]
 ou:∀k,k < 8->Meth K (A.C k) "kind" (A.fk k)
 oy:∀k,k < 8->Binds K (A.fkd k) ["self"] []
 Po:∀k,k < 8->Meth K (A.C k) "need" (A.fn k)
 Pp:∀k,k < 8->Binds K (A.fnd k) ["self"] []
 J2:∀k,k < 8->Meth K (A.C k) "told" (A.ft k)
 J3:∀k,k < 8->Binds K (A.ftd k) ["self"] []
 Pq:∀k,k < 8->Meth K (A.C k) "rank" A.f_r
 Pr:∀k,k < 8->Binds K A.RT ["self"] []
 aaF:Fun K "kind" "Matter.kind" fW A.V4 A.OY
 aaG:Fun K "kind" "Change.kind" fX A.V5 A.OZ
 aaH:Fun K "kind" "Mend.kind" iS A.V6 A.O0
 aaI:Fun K "kind" "PutOff.kind" fY A.V7 A.O1
 aaJ:Fun K "kind" "Close.kind" hG A.V8 A.O2
 aaK:Fun K "kind" "Lay.kind" jN A.V9 A.O3
 aaL:Fun K "kind" "Rest.kind" iT A.Wa A.O4
 aaM:Fun K "kind" "Point.kind" hJ A.Wb A.O5
 F_r:Fun K "rank" "Motion.rank" fZ A.f_r A.RT
 F_n:Fun K "need" "Motion.need" f6 A.f_n A.E6
 aaN:Fun K "need" "Close.need" hU A.Wc A.O6
 F_t:Fun K "told" "Motion.told" f7 A.f_t A.O7
 aaO:Fun K "told" "Matter.told" f9 A.We A.O8
 aaP:Fun K "told" "Change.told" gb A.Wf A.O9
 aaQ:Fun K "told" "Mend.told" iU A.Wg A.Pa
 aaR:Fun K "told" "PutOff.told" gf A.Wh A.Pb
 aaS:Fun K "told" "Point.told" hV A.Wi A.Pc
 aaT:Fun K "__init__" "Matter.__init__" gg A.Wj A.Pd
 aaU:Fun K "__init__" "Change.__init__" gh A.Wk A.Pe
 aaV:Fun K "__init__" "Mend.__init__" iV A.Wl A.Pf
 aaW:Fun K "__init__" "PutOff.__init__" gi A.Wm A.Pg
 aaX:Fun K "__init__" "Point.__init__" hX A.Wn A.Ph
 wB:Mk K (A.C 0) A.Wj
 RU:Binds K A.Pd ["self","text"] []
 na0:d4 K (A.C 0) "text"
 wC:Mk K (A.C 1) A.Wk
 RV:Binds K A.Pe ["self","edit"] []
 na1:d4 K (A.C 1) "edit"
 J4:Mk K (A.C 2) A.Wl
 Wo:Binds K A.Pf ["self","edit"] []
 na2:d4 K (A.C 2) "edit"
 BN:Mk K (A.C 3) A.Wm
 Wq:Binds K A.Pg ["self","sitting"] []
 na3:d4 K (A.C 3) "sitting"
 Ff:Mk K (A.C 7) A.Wn
 Ws:Binds K A.Ph ["self","clause"] []
 na7:d4 K (A.C 7) "clause"
 mkn:∀k,k=4\/k=5\/k=6->MkN K (A.C k)
 ye:mg "Chamber"=some (.ref A.ax)
 aq:Cls K A.ax
 gO:Fun K "__init__" "Chamber.__init__" eT A.cS A.lD
 gP:Binds K A.lD ["self","seats"] []
 yf:Mk K A.ax A.cS
 gQ:Fun K "move" "Chamber.move" eU A.cT A.lE
 gR:Binds K A.lE ["self","told"] []
 mR:Meth K A.ax "move" A.cT
 gS:Fun K "vote" "Chamber.vote" eV A.cU A.lF
 jm:Binds K A.lF ["self","ayes","noes"] []
 sD:Meth K A.ax "vote" A.cU
 gU:Fun K "drop" "Chamber.drop" eW A.cV A.lG
 jn:Binds K A.lG ["self"] []
 sE:Meth K A.ax "drop" A.cV
 gW:Fun K "take" "Chamber.take" eX A.cW A.lH
 jo:Binds K A.lH ["self","number"] []
 sF:Meth K A.ax "take" A.cW
 d8:Fun K "in_order" "Chamber.in_order" dn A.bW A.ig
 dC:Binds K A.ig ["self"] []
 fL:Meth K A.ax "in_order" A.bW
 fQ:Fun K "state" "Chamber.state" dQ A.cC A.jZ
 fR:Binds K A.jZ ["self"] []
 lL:Meth K A.ax "state" A.cC
 e9:Fun K "motion" "Chamber.motion" d0 A.cq A.jh
 fb:Binds K A.jh ["self","number"] []
 j7:Meth K A.ax "motion" A.cq
 eE:Fun K "pending" "Chamber.pending" cQ A.bY A.iI
 dN:Binds K A.iI ["self"] []
 gC:Meth K A.ax "pending" A.bY
 dM:Fun K "told_aside" "Chamber.told_aside" cH A.bH A.gw
 eF:Binds K A.gw ["self","number"] []
 lh:Meth K A.ax "told_aside" A.bH
 bT:Fun K "require_can_be_made" "Chamber.require_can_be_made" bE A.bj A.dB
 cz:Binds K A.dB ["self","told"] []
 fF:Meth K A.ax "require_can_be_made" A.bj
 cw:Fun K "require_pending" "Chamber.require_pending" bV A.bu A.d7
 cx:Binds K A.d7 ["self"] []
 eu:Meth K A.ax "require_pending" A.bu
 fg:Fun K "decide" "Chamber.decide" d3 A.cv A.ji
 fh:Binds K A.ji ["self","word"] []
 j8:Meth K A.ax "decide" A.cv
 cX:Fun K "end_decision" "Chamber.end_decision" cn A.bB A.eZ
 cY:Binds K A.eZ ["self","deed"] []
 fM:Meth K A.ax "end_decision" A.bB
 dS:Fun K "carry_out" "Chamber.carry_out" dc A.bN A.gL
 eM:Binds K A.gL ["self","motion"] []
 lR:Meth K A.ax "carry_out" A.bN
 cJ:Fun K "lay_on_matter" "Chamber.lay_on_matter" cc A.bz A.eJ
 dO:Binds K A.eJ ["self","edit"] []
 i6:Meth K A.ax "lay_on_matter" A.bz
 cK:Fun K "lay_on_change" "Chamber.lay_on_change" cf A.bA A.eK
 dP:Binds K A.eK ["self","edit"] []
 i7:Meth K A.ax "lay_on_change" A.bA
 dU:Fun K "put_aside" "Chamber.put_aside" df A.bO A.gM
 dW:Binds K A.gM ["self","until"] []
 ip:Meth K A.ax "put_aside" A.bO
 jqt:d4 K A.ax "seats"
 jq1:d4 K A.ax "sitting"
 jq3:d4 K A.ax "closed"
 jq2:d4 K A.ax "made"
 jq0:d4 K A.ax "pile"
 jq4:d4 K A.ax "aside"
 jqj:d4 K A.ax "decided"
 jqb:d4 K A.ax "first_texts"
 jq5:d4 K A.ax "edits_kept"
 jqk:d4 K A.ax "rows"
 gX:mg "ChamberError"=some (.ref A.bQ)
 LZ:mg "NoFit"=some (.ref A.lV)
 wD:mg "Barred"=some (.ref A.cI)
 u9:mg "NoMatter"=some (.ref A.cg)
 va:mg "NoChange"=some (.ref A.cj)
 BO:mg "NotLater"=some (.ref A.fK)
 DR:mg "Nothing"=some (.ref A.i5)
 DS:mg "TooMany"=some (.ref A.j2)
 DT:mg "NoAside"=some (.ref A.j3)
 Gx:mg "NotYet"=some (.ref A.jj)
 BP:mg "NoNumber"=some (.ref A.iJ)
 iG:T2 K A.bQ
 Gy:F7 K A.lV
 jqo:eg K (.ref A.lV) (.ref A.bQ)=some true
 jq1m:eg K (.ref A.lV) (.ref A.cI)=some false
 jq10:eg K (.ref A.lV) (.ref A.cg)=some false
 jq11:eg K (.ref A.lV) (.ref A.cj)=some false
 yV:F7 K A.cg
 jqc:eg K (.ref A.cg) (.ref A.bQ)=some true
 jqu:eg K (.ref A.cg) (.ref A.cI)=some false
 jqp:eg K (.ref A.cg) (.ref A.cg)=some true
 jqB:eg K (.ref A.cg) (.ref A.cj)=some false
 yW:F7 K A.cj
 jqd:eg K (.ref A.cj) (.ref A.bQ)=some true
 jqv:eg K (.ref A.cj) (.ref A.cI)=some false
 jqq:eg K (.ref A.cj) (.ref A.cg)=some false
 jqr:eg K (.ref A.cj) (.ref A.cj)=some true
 BQ:F7 K A.i5
 jqg:eg K (.ref A.i5) (.ref A.bQ)=some true
 jq12:eg K (.ref A.i5) (.ref A.cI)=some false
 jqI:eg K (.ref A.i5) (.ref A.cg)=some false
 jqJ:eg K (.ref A.i5) (.ref A.cj)=some false
 BR:F7 K A.j2
 jqh:eg K (.ref A.j2) (.ref A.bQ)=some true
 jq13:eg K (.ref A.j2) (.ref A.cI)=some false
 jqK:eg K (.ref A.j2) (.ref A.cg)=some false
 jqL:eg K (.ref A.j2) (.ref A.cj)=some false
 BS:F7 K A.j3
 jqi:eg K (.ref A.j3) (.ref A.bQ)=some true
 jq14:eg K (.ref A.j3) (.ref A.cI)=some false
 jqM:eg K (.ref A.j3) (.ref A.cg)=some false
 jqN:eg K (.ref A.j3) (.ref A.cj)=some false
 yX:F7 K A.iJ
 jqe:eg K (.ref A.iJ) (.ref A.bQ)=some true
 jqP:eg K (.ref A.iJ) (.ref A.cI)=some false
 jqC:eg K (.ref A.iJ) (.ref A.cg)=some false
 jqD:eg K (.ref A.iJ) (.ref A.cj)=some false
 mS:Fun K "__init__" "Barred.__init__" gj A.Bt A.xT
 mT:Binds K A.xT ["self","bar"] []
 pZ:EF K A.cI A.Bt "bar"
 DU:OR K A.cI "bar"
 jql:eg K (.ref A.cI) (.ref A.bQ)=some true
 jqO:eg K (.ref A.cI) (.ref A.cI)=some true
 jqQ:eg K (.ref A.cI) (.ref A.cg)=some false
 jqR:eg K (.ref A.cI) (.ref A.cj)=some false
 jq:Fun K "__init__" "NotLater.__init__" ez A.uY A.r8
 lX:Binds K A.r8 ["self","sitting"] []
 nZ:EF K A.fK A.uY "sitting"
 Gz:OR K A.fK "sitting"
 jqf:eg K (.ref A.fK) (.ref A.bQ)=some true
 jqS:eg K (.ref A.fK) (.ref A.cI)=some false
 jqE:eg K (.ref A.fK) (.ref A.cg)=some false
 jqF:eg K (.ref A.fK) (.ref A.cj)=some false
 mU:Fun K "__init__" "NotYet.__init__" gk A.Bu A.xU
 qD:Binds K A.xU ["self","sitting"] []
 tY:EF K A.jj A.Bu "sitting"
 MZ:OR K A.jj "sitting"
 jqm:eg K (.ref A.jj) (.ref A.bQ)=some true
 jq1e:eg K (.ref A.jj) (.ref A.cI)=some false
 jqT:eg K (.ref A.jj) (.ref A.cg)=some false
 jqU:eg K (.ref A.jj) (.ref A.cj)=some false
theorem sl (n:Nat)(h:n<=64:=by decide):n<=kg:=ak3 h (by decide)
abbrev bl1:Str:=ar " "
def Asc (x:Str):Prop:=∀c∈x.cps.toList,c < 128
theorem Asc.ok {x:Str}(h:Asc x):alB x=true:=by
 unfold alB;rw[Array.all_eq_true];intro i hi;have:=h x.cps[i] (by simp)
 exact decide_eq_true (by omega)
theorem p0 {sep:Str}(hs:Asc sep):∀ws:List Str,(∀w∈ws,Asc w)->Asc (tu sep ws)
 |[],_=>λc hc=>by
  have:c∈([]:List Nat):=hc;cases this
 |[x],h=>h x gr
 |x::y::r,h=>λc hc=>by
  have hc':c∈((x++sep)++tu sep (y::r)).cps.toList:=hc;rw[fH,fH,List.mem_append,List.mem_append]at hc';rcases hc' with (h1 | h1) | h1
  ·exact h x gr c h1
  ·exact hs c h1
  ·exact p0 hs (y::r) (λw hw=>h w (me _ hw)) c h1
structure Sh (n:Nat)(x:Str):Prop where
 asc:Asc x
 len:x.length<=n
structure Ed where
 k:Nat
 at_:Int
 th:Str
def kn:Nat->Str
 | 0=>ar "put"
 | 1=>ar "cut"
 |_=>ar "turn"
def eG (e:Ed):List V:=match e.k with
 | 0=>[.str (kn 0),.int e.at_,.str e.th]
 | 1=>[.str (kn 1),.int e.at_]
 |_=>[.str (kn 2),.int e.at_,.str e.th]
def edD (e:Ed):PyData:=match e.k with
 | 0=>.tuple [.str (kn 0),.int e.at_,.str e.th]
 | 1=>.tuple [.str (kn 1),.int e.at_]
 |_=>.tuple [.str (kn 2),.int e.at_,.str e.th]
structure rp (e:Ed):Prop where
 k3:e.k=0\/e.k=1\/e.k=2
 lo:-1000<=e.at_
 hi:e.at_<=1000
 th:Sh 100000 e.th
def fS (n:Nat)(e:Ed):Bool:=decide (0<=e.at_) && decide (e.at_ < (n:Int)+(if e.k=0 then 1 else 0))
def bR (xs:List Str)(e:Ed):List Str:=match e.k with
 | 0=>xs.take e.at_.toNat++e.th::xs.drop e.at_.toNat
 | 1=>xs.eraseIdx e.at_.toNat
 |_=>xs.set e.at_.toNat e.th
theorem oz (e:Ed):atI (eG e) 0=some (.str (kn e.k)):=by
 unfold eG;split
 ·rename_i h;rw[h];rfl
 ·rename_i h;rw[h];rfl
 ·rename_i h1 h2;have:kn e.k=kn 2:=by
   unfold kn;split
   ·rename_i h;exact absurd h h1
   ·rename_i h;exact absurd h h2
   ·rfl
  rw[this];rfl
theorem vc (e:Ed):atI (eG e) 1=some (.int e.at_):=by
 unfold eG;split <;> rfl
theorem vd {e:Ed}(h:e.k≠1):atI (eG e) 2=some (.str e.th):=by
 unfold eG;split
 ·rfl
 ·rename_i z;exact absurd z h
 ·rfl
theorem J5 (e:Ed){K:ba}{H:Hp}{t:Addr}(h:SqT K H t (eG e)):DV K H (edD e) (.ref t):=by
 unfold eG at h;unfold edD;split
 ·rename_i z;rw[z]at h;unfold DV;exact⟨t,_,rfl,h,by unfold DVs;exact⟨_,_,rfl,by unfold DV;rfl,by unfold DVs;exact⟨_,_,rfl,by unfold DV;rfl,by unfold DVs;exact⟨_,_,rfl,by unfold DV;rfl,by unfold DVs;rfl⟩⟩⟩⟩
 ·rename_i z;rw[z]at h;unfold DV;exact⟨t,_,rfl,h,by unfold DVs;exact⟨_,_,rfl,by unfold DV;rfl,by unfold DVs;exact⟨_,_,rfl,by unfold DV;rfl,by unfold DVs;rfl⟩⟩⟩
 ·rename_i z1 z2;split at h
  ·rename_i z;exact absurd z z1
  ·rename_i z;exact absurd z z2
  ·unfold DV;exact⟨t,_,rfl,h,by unfold DVs;exact⟨_,_,rfl,by unfold DV;rfl,by unfold DVs;exact⟨_,_,rfl,by unfold DV;rfl,by unfold DVs;exact⟨_,_,rfl,by unfold DV;rfl,by unfold DVs;rfl⟩⟩⟩⟩
theorem DW {i:Int}(h0:-1000<=i)(h1:i<=1000):i.natAbs.log2 < 1920:=by
 have h:i.natAbs < 2 ^ 10:=by omega
 by_cases hz:i.natAbs=0
 ·rw[hz];decide
 ·exact Nat.lt_trans ((Nat.log2_lt hz).mpr h) (by decide)
theorem Pt {e:Ed}(o:rp e):(edD e).showable=true/\(edD e).hasDict=false/\(edD e).depth<=60:=by
 have lg:=DW o.lo o.hi;unfold edD;split <;> simp[PyData.showable,PyData.showableAll,PyData.hasDict,PyData.hasDictAll,alN,alA,lg]
theorem RW {i:Int}(h0:-1000<=i)(h1:i<=1000):(ar (toString i)).length<=1921:=by
 have h:=int_text_length_le (a:=i) (k:=1920) (by decide) (DW h0 h1)
 have e:(ar (toString i)).length=(toString i).length:=by first | exact PySem.ofString_length _ | exact ofString_length _
 omega
theorem Sh.rep {n:Nat}{x:Str}(s:Sh n x):(reprText x).length<=10 * n+2:=by
 have h:=StrLaws.reprText_len x λc hc=>Nat.lt_trans (s.asc c hc) (by decide)
 have:=s.len;omega
theorem Pu (k:Nat):Sh 4 (kn k):=by
 unfold kn;split <;> exact⟨by unfold Asc;trivial,by trivial⟩
theorem RX {e:Ed}(o:rp e):(edD e).shown.length<=1100000:=by
 have a:=(Pu 0).rep;have b:=(Pu 1).rep;have c:=(Pu 2).rep;have d:=o.th.rep;have i:=RW o.lo o.hi;unfold edD;split
 ·have h:=tupleText_len_le [reprText (kn 0),ar (toString e.at_),reprText e.th];simp only[km,alM,List.sum_cons,List.sum_nil,alb,amE]at h;show (tupleText [reprText (kn 0),ar (toString e.at_),reprText e.th]).length<=_;omega
 ·have h:=tupleText_len_le [reprText (kn 1),ar (toString e.at_)];simp only[km,alM,List.sum_cons,List.sum_nil,alb,amE]at h;show (tupleText [reprText (kn 1),ar (toString e.at_)]).length<=_;omega
 ·have h:=tupleText_len_le [reprText (kn 2),ar (toString e.at_),reprText e.th];simp only[km,alM,List.sum_cons,List.sum_nil,alb,amE]at h;show (tupleText [reprText (kn 2),ar (toString e.at_),reprText e.th]).length<=_;omega
theorem yg {e:Ed}(o:rp e):(V.str (kn e.k)=V.str (ar "put"))↔e.k=0:=by
 rcases o.k3 with h | h | h <;> rw[h] <;> trivial
theorem ve {e:Ed}(o:rp e):(V.str (kn e.k)=V.str (ar "cut"))↔e.k=1:=by
 rcases o.k3 with h | h | h <;> rw[h] <;> trivial
theorem L3 {e:Ed}(o:rp e):(V.str (kn e.k)=V.str (ar "turn"))↔e.k=2:=by
 rcases o.k3 with h | h | h <;> rw[h] <;> trivial
def Pw (K:ba):Sp:=λvs H Q _=>∃(a t:Addr) (xs:List V) (e:Ed),vs=[.ref a,.ref t]/\SqL K H a xs/\SqT K H t (eG e)/\rp e/\Q (.bl (fS xs.length e)) H
def aaY (A:Adr)(K:ba):Sp:=λvs H Q E=>∃(a t:Addr) (xs:List V) (e:Ed),vs=[.ref a,.ref t]/\SqL K H a xs/\SqT K H t (eG e)/\rp e/\(fS xs.length e=true->Q .non H)/\(fS xs.length e=false->E (.ref A.lV) none H)
def Wt (A:Adr)(K:ba):Sp:=λvs H Q E=>∃(a t:Addr) (xs:List Str) (e:Ed),vs=[.ref a,.ref t]/\SqL K H a (xs.map V.str)/\xs.length<=1000/\SqT K H t (eG e)/\rp e /\
 (fS xs.length e=true->∀p,H p=none->Q (.ref p) (upd H p (.lst ((bR xs e).map V.str))))/\(fS xs.length e=false->E (.ref A.lV) none H)
theorem BU {n:Nat}{e:Ed}:fS n e=true↔0<=e.at_/\e.at_ < (n:Int)+(if e.k=0 then 1 else 0):=by
 unfold fS;rw[alW,decide_eq_true_iff,decide_eq_true_iff]
section
variable{P:rf}{w:World}{K:ba}{mg:Str->Option Value}{base:Heap}{A:Adr}
theorem Px {H H':Hp}{t:Addr}{xs:List V}(s:bw H H')(h:SqT K H t xs):SqT K H' t xs:=by
 rcases h with (h | ⟨o,h⟩) | h
 ·exact .inl (.inl (s _ _ h))
 ·exact .inl (.inr ⟨o,s _ _ h⟩)
 ·exact .inr h
theorem RY (T:Txt w.params K mg A):a8 P w K mg base CX0 1 A.fits A.ET ["things","edit"] (Pw K):=by
 refine T.JX.ok EN (λvs H Q E h=>?_) (λcdv A' outer s H vs Q E hr h=>?_)
 ·obtain⟨a,t,xs,e,rfl,_⟩:=h;rfl
 ·obtain⟨a,t,xs,e,rfl,ha,ht,o,q⟩:=h;refine⟨_,(ai (aY (i:=2) EN.nd rfl (tm rfl) (cA cP (by rfl) T.nY jK (aa (pv 0) ag)))
 (ai (a9 (ay bt (aK aT (pv 1) af (λ_ _=>rfl)) ao (aJ _))
 (aj (aY (i:=2) EN.nd rfl (tm rfl) (a6 dI (pv 2) af)))
 aC)
 (aj (aB (AO uq rK af (aK aT (pv 1) af (λ_ _=>rfl)) (pv 2)))))),?_⟩
  try dsimp only[bF]
  refine⟨_,rfl,a,xs,rfl,.inl ha,?_⟩;refine ixv rfl ht (oz e) ⟨rfl,_,rfl,fD (λz=>?_) (λz=>?_)⟩
  ·have hk:e.k=0:=(yg o).mp (of_decide_eq_true z);refine⟨_,rfl,_,_,rfl,rfl,?_⟩;unfold fS at q;rw[if_pos hk]at q;refine ixv rfl ht (vc e) ⟨_,_,rfl,rfl,_,rfl,fD (λz1=>?_) (λz1=>?_)⟩
   ·have h1:0<=e.at_:=of_decide_eq_true z1;rw[decide_eq_true h1,Bool.true_and]at q;exact⟨_,rfl,_,_,rfl,rfl,q⟩
   ·have h1:¬0<=e.at_:=λy=>z1 (decide_eq_true y)
    rw[decide_eq_false h1,Bool.false_and]at q;exact q
  ·have hk:¬e.k=0:=λy=>z (decide_eq_true ((yg o).mpr y))
   unfold fS at q;rw[if_neg hk,Int.add_zero]at q;refine ixv rfl ht (vc e) ⟨_,_,rfl,rfl,_,rfl,fD (λz1=>?_) (λz1=>?_)⟩
   ·have h1:0<=e.at_:=of_decide_eq_true z1;rw[decide_eq_true h1,Bool.true_and]at q;exact⟨_,rfl,_,_,rfl,rfl,q⟩
   ·have h1:¬0<=e.at_:=λy=>z1 (decide_eq_true y)
    rw[decide_eq_false h1,Bool.false_and]at q;exact q
theorem mV (T:Txt w.params K mg A):a8 P w K mg base (CXX P w) 2 A.rY A.mK ["things","edit"] (aaY A K):=by
 refine T.ix.okX Bm (λvs H Q E h=>?_) (λcdv A' outer s H vs Q E hr h=>?_)
 ·obtain⟨a,t,xs,e,rfl,_⟩:=h;rfl
 ·obtain⟨a,t,xs,e,rfl,ha,ht,o,q1,q2⟩:=h;have hgd:=hr.gd;have jr:=hr.units;refine⟨_,(bD (ic (rH (mC (aV (RY T) hr rfl T.Pk T.JX.kp T.Pj .nil aW (aa (pv 0) (aa (pv 1) ag)))))
 (bD (jM T.Gy rfl rfl T.LZ (aa (aav hgd jr (pv 1)) ag)))
 (vO aC))),?_⟩
  try dsimp only[bF]
  refine⟨_,rfl,_,rfl,a,t,xs,e,rfl,ha,ht,o,_,rfl,?_⟩;cases hf:fS xs.length e with
  |true=>exact bM (q1 hf)
  |false =>
   refine aN λGq gq=>?_
   obtain⟨s1,s2,s3⟩:=Pt o;have s4:=RX o;refine gq ?_;refine cN ⟨_,rfl,t,edD e,rfl,J5 e ht,s1,s2,s3,ak3 (Nat.add_le_add_right s4 _) (by trivial),λz=>?_⟩
   exact⟨(sl 1),q2 hf⟩
theorem L4 (T:Txt w.params K mg A):a8 P w K mg base (CXX P w) 3 A.laid A.EU ["things","edit"] (Wt A K):=by
 refine T.E7.okX Aw (λvs H Q E h=>?_) (λcdv A' outer s H vs Q E hr h=>?_)
 ·obtain⟨a,t,xs,e,rfl,_⟩:=h;rfl
 ·obtain⟨a,t,xs,e,rfl,ha,hz,ht,o,q1,q2⟩:=h;refine⟨_,(bc (kW (vP (mV T) hr rfl T.kP T.ix.kp T.kO (pax (aa (pv 0) (aa (pv 1) ag)))))
 (bc (psx (aY (i:=2) Aw.nd rfl (tm rfl) (aK aT (pv 1) af (λ_ _=>rfl))))
 (bc (psx (aY (i:=3) Aw.nd rfl (tm rfl) (aK aT (pv 1) af (λ_ _=>rfl))))
 (bc (psx (aY (i:=4) Aw.nd rfl (tm rfl) (eQ fG (by rfl) T.sC qu (aa (pv 0) ag))))
 (bc (psx (a9 (ay bt (pv 2) ao (aJ _))
 (aj (bK (gJ si PySem.F.slot_list_insert PySem.F.type_list_insert MO (pv 4) (aa (pv 3) (aa (aK aT (pv 1) af (λ_ _=>rfl)) ag)))))
 (aj (a9 (ay bt (pv 2) ao (aJ _))
 (aj (bK (gJ si PySem.F.slot_list_pop PySem.F.type_list_pop Oj (pv 4) (aa (pv 3) ag))))
 (aj (AI (aK aT (pv 1) af (λ_ _=>rfl)) (Jm (pv 4) (pv 3) set_list)))))))
 (bD (psx (aB (pv 4))))))))),?_⟩
  try dsimp only[bF]
  refine⟨_,rfl,_,rfl,a,t,_,e,rfl,ha,ht,o,λhf=>?_,λhf=>q2 (by rw[bo]at hf;exact hf)⟩
  refine aN λGq gq=>?_
  rw[bo]at hf;obtain⟨f0,f1⟩:=BU.mp hf;have q:=q1 hf;have lim:(1001:Nat) < kg:=by decide
  obtain⟨n,hn⟩:∃n:Nat,e.at_=(n:Int):=⟨e.at_.toNat,by omega⟩
  refine gq ?_;refine ixv rfl ht (oz e) ?_;refine ixv rfl ht (vc e) ?_;refine⟨_,rfl,a,_,rfl,.inl ha,λp hp=>?_⟩
  have sp:bw H (upd H p (.lst (xs.map V.str))):=aG hp;have ht':=Px sp ht;have q:=q p hp;rw[hn];rw[hn]at f1;refine⟨_,rfl,rfl,_,rfl,fD (λz=>?_) (λz=>?_)⟩
  ·have hk:e.k=0:=(yg o).mp (of_decide_eq_true z);rw[if_pos hk]at f1;refine⟨_,rfl,.inl ⟨rfl,_,SqL.of ae⟩,_,rfl,ixv rfl ht' (vd (by omega)) ⟨p,_,_,n,_,rfl,rfl,rfl,ae,(by rw[bo];omega),(by rw[bo];omega),?_⟩⟩
   rw[nJ];refine⟨_,rfl,?_⟩;have e1:(bR xs e).map V.str=(xs.map V.str).take n++V.str e.th::(xs.map V.str).drop n:=by
    unfold bR;rw[hk,hn];simp
   rw[e1]at q;exact q
  ·have hk0:¬e.k=0:=λy=>z (decide_eq_true ((yg o).mpr y))
   rw[if_neg hk0,Int.add_zero]at f1;have hlt:n < xs.length:=by omega
   refine⟨_,rfl,rfl,_,rfl,fD (λz2=>?_) (λz2=>?_)⟩
   ·have hk:e.k=1:=(ve o).mp (of_decide_eq_true z2);refine⟨_,rfl,.inl ⟨rfl,_,SqL.of ae⟩,_,rfl,p,_,(n:Int),n,_,rfl,rfl,ae,by omega,by omega,?_,(by rw[adm (by rw[bo];exact hlt)]),?_⟩
    ·rw[bo];exact(Er (by unfold ixN;rw[if_pos (by omega),if_pos (by omega)];rfl)).1
    ·rw[nJ];refine⟨_,rfl,?_⟩;have e1:(bR xs e).map V.str=(xs.map V.str).eraseIdx n:=by
      unfold bR;rw[hk,hn];exact Dr V.str xs _
     rw[e1]at q;exact q
   ·have hk1:¬e.k=1:=λy=>z2 (decide_eq_true ((ve o).mpr y))
    have hk:e.k=2:=by have:=o.k3;omega
    refine ixv rfl ht' (vd (by omega)) ⟨_,rfl,_,rfl,p,_,(n:Int),n,rfl,rfl,ae,?_,?_⟩
    ·rw[bo];unfold ixN;rw[if_pos (by omega),if_pos (by omega)];rfl
    ·rw[nJ];refine⟨_,rfl,?_⟩;have e1:(bR xs e).map V.str=(xs.map V.str).set n (V.str e.th):=by
      unfold bR;rw[hk,hn];simp[List.map_set]
     rw[e1]at q;exact q
end
mutual
theorem eqv_refl:∀d:PyData,d.canLay0=true->alP d d=true
 | .none,_=>by simp[alP]
 | .bool _,_=>by simp[alP]
 | .int _,_=>by simp[alP]
 | .str _,_=>by simp[alP]
 | .list xs,h=>by simp only[alP];exact eqvAll_refl xs (by simpa [ak6] using h)
 | .tuple xs,h=>by simp only[alP];exact eqvAll_refl xs (by simpa [ak6] using h)
 | .dict _,h=>by simp[ak6]at h
theorem eqvAll_refl:∀xs:List PyData,ald xs=true->amG xs xs=true
 |[],_=>by simp[amG]
 |x::xs,h=>by
  have h':x.canLay0=true/\ald xs=true:=by simpa [ald] using h
  simp only[amG,eqv_refl x h'.1,eqvAll_refl xs h'.2,al0]
end
theorem uw:∀k,k < 8->alB (nm k)=true
 | 0,_=>by trivial
 | 1,_=>by trivial
 | 2,_=>by trivial
 | 3,_=>by trivial
 | 4,_=>by trivial
 | 5,_=>by trivial
 | 6,_=>by trivial
 | 7,_=>by trivial
 |n+8,h=>absurd h (by omega)
def nd (k:Nat):Str:=if k=4 then ar "two thirds" else ar "more"
def rowOf (k:Nat)(v:V):List V:=match k with
 | 4=>[.str (nm 4)]
 | 5=>[.str (nm 5)]
 | 6=>[.str (nm 6)]
 |k=>[.str (nm k),v]
def p6 (k:Nat)(v:V):List (Str×V):=match k with
 | 0=>[(ar "text",v)]
 | 1=>[(ar "edit",v)]
 | 2=>[(ar "edit",v)]
 | 3=>[(ar "sitting",v)]
 | 4=>[]
 | 5=>[]
 | 6=>[]
 |_=>[(ar "clause",v)]
theorem L5 {m:Str}(h:m≠ar "text"/\m≠ar "edit"/\m≠ar "sitting"/\m≠ar "clause")(k:Nat)(v:V):(p6 k v).lookup m=none:=by
 obtain⟨h1,h2,h3,h4⟩:=h;have b1:(m == ar "text")=false:=beq_eq_false_iff_ne.mpr h1;have b2:(m == ar "edit")=false:=beq_eq_false_iff_ne.mpr h2;have b3:(m == ar "sitting")=false:=beq_eq_false_iff_ne.mpr h3;have b4:(m == ar "clause")=false:=beq_eq_false_iff_ne.mpr h4;unfold p6;split <;> simp[amC,b1,b2,b3,b4]
theorem lY (k:Nat)(v:V):(p6 k v).lookup (ar "kind")=none:=L5 (by trivial) k v
theorem RZ (k:Nat)(v:V):(p6 k v).lookup (ar "rank")=none:=L5 (by trivial) k v
theorem R0 (k:Nat)(v:V):(p6 k v).lookup (ar "need")=none:=L5 (by trivial) k v
theorem L6 (k:Nat)(v:V):(p6 k v).lookup (ar "told")=none:=L5 (by trivial) k v
def gx (k:Nat):Sp:=λvs H Q _=>∃m:Addr,vs=[.ref m]/\Q (.str (nm k)) H
def Py (A:Adr):Sp:=λvs H Q _=>∃(m:Addr) (k:Nat) (dx:Addr) (fs:List (Str×V)),k < 8/\vs=[.ref m]/\H m=some (.ins (A.C k) dx fs)/\fs.lookup (ar "kind")=none/\Q (.int k) H
def Fg (k:Nat):Sp:=λvs H Q _=>∃m:Addr,vs=[.ref m]/\Q (.str (nd k)) H
def L7 (A:Adr):Sp:=λvs H Q _=>∃(m:Addr) (k:Nat) (dx:Addr) (fs:List (Str×V)),k < 8/\vs=[.ref m]/\H m=some (.ins (A.C k) dx fs)/\fs.lookup (ar "kind")=none/\∀p,H p=none->Q (.ref p) (upd H p (.tup [.str (nm k)]))
def AB (A:Adr)(k:Nat)(a:Str):Sp:=λvs H Q _=>∃(m dx:Addr) (fs:List (Str×V)) (v:V),vs=[.ref m]/\H m=some (.ins (A.C k) dx fs)/\fs.lookup (ar "kind")=none/\fs.lookup a=some v/\∀p,H p=none->Q (.ref p) (upd H p (.tup [.str (nm k),v]))
def J6 (A:Adr)(k:Nat):Sp:=λvs H Q _=>1<=k/\∃(m dx:Addr) (v:V),vs=[.ref m]/\H m=some (.ins (A.C k) dx (p6 k v))/\∀p,H p=none->Q (.ref p) (upd H p (.tup (rowOf k v)))
def Fh (A:Adr)(k:Nat):Sp:=λvs H Q _=>∃(m dx:Addr) (v:V),vs=[.ref m,v]/\H m=some (.ins (A.C k) dx [])/\Q .non (upd H m (.ins (A.C k) dx (p6 k v)))
def L8 (A:Adr)(K:ba):Sp:=λvs H Q _=>∃(m dx L:Addr) (xs:List V),vs=[.ref m]/\H m=some (.ins (A.C 0) dx (p6 0 (.ref L)))/\SqL K H L xs/\∀p q,H p=none->H q=none->p≠q->Q (.ref q) (upd (upd H p (.lst xs)) q (.tup [.str (nm 0),.ref p]))
def R3 (A:Adr)(K:ba):Sp:=λvs H Q _=>∃(m dx L:Addr) (xs:List V),vs=[.ref m,.ref L]/\H m=some (.ins (A.C 0) dx [])/\SqL K H L xs/\∀p,H p=none->Q .non (upd (upd H p (.lst xs)) m (.ins (A.C 0) dx (p6 0 (.ref p))))
def L9 (A:Adr):Sp:=λvs H Q _=>∃(t:Addr) (k:Nat) (v:V),1<=k/\k < 8/\vs=[.ref t]/\H t=some (.tup (rowOf k v))/\∀m H',bw H H'->H m=none->(∃dx,H' m=some (.ins (A.C k) dx (p6 k v)))->Q (.ref m) H'
def GA (A:Adr)(K:ba):Sp:=λvs H Q _=>∃(t L:Addr) (xs:List V),vs=[.ref t]/\H t=some (.tup [.str (nm 0),.ref L])/\SqL K H L xs /\
 ∀m p H',bw H H'->H m=none->H p=none->H' p=some (.lst xs)->(∃dx,H' m=some (.ins (A.C 0) dx (p6 0 (.ref p))))->Q (.ref m) H'
section
variable{P:rf}{w:World}{K:ba}{mg:Str->Option Value}{base:Heap}{A:Adr}
theorem BV (T:Txt w.params K mg A):a8 P w K mg base CX0 1 A.V4 A.OY ["self"] (gx 0):=by
 refine T.aaF.ok A8 (λvs H Q E h=>?_) (λcdv A' outer s H vs Q E hr h=>?_)
 ·obtain⟨m,rfl,_⟩:=h;rfl
 ·obtain⟨m,rfl,q⟩:=h;exact⟨_,(aj (aB ao)),q⟩
theorem BW (T:Txt w.params K mg A):a8 P w K mg base CX0 1 A.V5 A.OZ ["self"] (gx 1):=by
 refine T.aaG.ok A9 (λvs H Q E h=>?_) (λcdv A' outer s H vs Q E hr h=>?_)
 ·obtain⟨m,rfl,_⟩:=h;rfl
 ·obtain⟨m,rfl,q⟩:=h;exact⟨_,(aj (aB ao)),q⟩
theorem Fi (T:Txt w.params K mg A):a8 P w K mg base CX0 1 A.V6 A.O0 ["self"] (gx 2):=by
 refine T.aaH.ok EJ (λvs H Q E h=>?_) (λcdv A' outer s H vs Q E hr h=>?_)
 ·obtain⟨m,rfl,_⟩:=h;rfl
 ·obtain⟨m,rfl,q⟩:=h;exact⟨_,(aj (aB ao)),q⟩
theorem BX (T:Txt w.params K mg A):a8 P w K mg base CX0 1 A.V7 A.O1 ["self"] (gx 3):=by
 refine T.aaI.ok Ba (λvs H Q E h=>?_) (λcdv A' outer s H vs Q E hr h=>?_)
 ·obtain⟨m,rfl,_⟩:=h;rfl
 ·obtain⟨m,rfl,q⟩:=h;exact⟨_,(aj (aB ao)),q⟩
theorem CU (T:Txt w.params K mg A):a8 P w K mg base CX0 1 A.V8 A.O2 ["self"] (gx 4):=by
 refine T.aaJ.ok CM (λvs H Q E h=>?_) (λcdv A' outer s H vs Q E hr h=>?_)
 ·obtain⟨m,rfl,_⟩:=h;rfl
 ·obtain⟨m,rfl,q⟩:=h;exact⟨_,(aj (aB ao)),q⟩
theorem GB (T:Txt w.params K mg A):a8 P w K mg base CX0 1 A.V9 A.O3 ["self"] (gx 5):=by
 refine T.aaK.ok Gg (λvs H Q E h=>?_) (λcdv A' outer s H vs Q E hr h=>?_)
 ·obtain⟨m,rfl,_⟩:=h;rfl
 ·obtain⟨m,rfl,q⟩:=h;exact⟨_,(aj (aB ao)),q⟩
theorem Fj (T:Txt w.params K mg A):a8 P w K mg base CX0 1 A.Wa A.O4 ["self"] (gx 6):=by
 refine T.aaL.ok EK (λvs H Q E h=>?_) (λcdv A' outer s H vs Q E hr h=>?_)
 ·obtain⟨m,rfl,_⟩:=h;rfl
 ·obtain⟨m,rfl,q⟩:=h;exact⟨_,(aj (aB ao)),q⟩
theorem CV (T:Txt w.params K mg A):a8 P w K mg base CX0 1 A.Wb A.O5 ["self"] (gx 7):=by
 refine T.aaM.ok CN (λvs H Q E h=>?_) (λcdv A' outer s H vs Q E hr h=>?_)
 ·obtain⟨m,rfl,_⟩:=h;rfl
 ·obtain⟨m,rfl,q⟩:=h;exact⟨_,(aj (aB ao)),q⟩
theorem lZ (T:Txt w.params K mg A):∀k,k < 8->a8 P w K mg base CX0 1 (A.fk k) (A.fkd k) ["self"] (gx k)
 | 0,_=>BV T
 | 1,_=>BW T
 | 2,_=>Fi T
 | 3,_=>BX T
 | 4,_=>CU T
 | 5,_=>GB T
 | 6,_=>Fj T
 | 7,_=>CV T
 |n+8,h=>absurd h (by omega)
theorem R4 (T:Txt w.params K mg A):a8 P w K mg base CX0 2 A.f_r A.RT ["self"] (Py A):=by
 have gY:∀k,k < 8->a8 P w K mg base CX0 1 (A.fk k) (A.fkd k) ["self"] (gx k):=lZ T;refine T.F_r.ok Bb (λvs H Q E h=>?_) (λcdv A' outer s H vs Q E hr h=>?_)
 ·obtain⟨m,k,dx,fs,_,rfl,_⟩:=h;rfl
 ·obtain⟨m,k,dx,fs,hk,rfl,hm,hl,q⟩:=h;obtain⟨t,ht⟩:=T.rk k hk;refine⟨_,(aj (aB (aK JE (An (v:=V.ref A.tab) rfl T.wA rfl) (d5 (pv 0) (T.cl k hk) (T.ou k hk) (gY k hk) hr (T.oy k hk) .nil aW) (λ_ _=>rfl)))),?_⟩
  try dsimp only[bF]
  exact⟨_,rfl,m,dx,fs,rfl,hm,hl,m,rfl,A.tab,nm k,.int k,_,rfl,rfl,T.tb,ht,⟨_,rfl⟩,q⟩
theorem yh (T:Txt w.params K mg A):a8 P w K mg base CX0 2 A.f_t A.O7 ["self"] (L7 A):=by
 have gY:∀k,k < 8->a8 P w K mg base CX0 1 (A.fk k) (A.fkd k) ["self"] (gx k):=lZ T;refine T.F_t.ok Bd (λvs H Q E h=>?_) (λcdv A' outer s H vs Q E hr h=>?_)
 ·obtain⟨m,k,dx,fs,_,rfl,_⟩:=h;rfl
 ·obtain⟨m,k,dx,fs,hk,rfl,hm,hl,q⟩:=h;refine⟨_,(aj (aB (bg (aa (d5 (pv 0) (T.cl k hk) (T.ou k hk) (gY k hk) hr (T.oy k hk) .nil aW) ag)))),?_⟩
  try dsimp only[bF]
  exact⟨_,rfl,m,dx,fs,rfl,hm,hl,m,rfl,(sl 1),λp hp=>q p hp⟩
theorem BY (T:Txt w.params K mg A):a8 P w K mg base CX0 2 A.Wf A.O9 ["self"] (AB A 1 "edit"):=by
 have gY:∀k,k < 8->a8 P w K mg base CX0 1 (A.fk k) (A.fkd k) ["self"] (gx k):=lZ T;refine T.aaP.ok Bf (λvs H Q E h=>?_) (λcdv A' outer s H vs Q E hr h=>?_)
 ·obtain⟨m,dx,fs,v,rfl,_⟩:=h;rfl
 ·obtain⟨m,dx,fs,v,rfl,hm,hl,hv,q⟩:=h;obtain⟨k,hk,ek⟩:∃k,k < 8/\k=1:=⟨1,by decide,rfl⟩
  have hm':H m=some (.ins (A.C k) dx fs):=by rw[ek];exact hm
  refine⟨_,(aj (aB (bg (aa (d5 (pv 0) (T.cl k hk) (T.ou k hk) (gY k hk) hr (T.oy k hk) .nil aW) (aa (br (pv 0) rfl) ag))))),?_⟩
  try dsimp only[bF]
  subst ek;exact⟨_,rfl,m,dx,fs,rfl,hm,hl,m,rfl,_,rfl,m,A.C 1,dx,fs,v,rfl,hm,T.cl 1 hk,T.na1,hv,(sl 2),λp hp=>q p hp⟩
theorem mW (T:Txt w.params K mg A):a8 P w K mg base CX0 1 A.Wk A.Pe ["self","edit"] (Fh A 1):=by
 refine T.aaU.ok Bi (λvs H Q E h=>?_) (λcdv A' outer s H vs Q E hr h=>?_)
 ·obtain⟨m,dx,v,rfl,_⟩:=h;rfl
 ·obtain⟨m,dx,v,rfl,hm,q⟩:=h;refine⟨_,(aj (eP (pv 0) (pv 1) rfl)),?_⟩
  try dsimp only[bF]
  exact⟨_,rfl,_,rfl,m,A.C 1,dx,[],rfl,hm,T.cl 1 (by decide),T.na1,by decide,q⟩
theorem Fl (T:Txt w.params K mg A):a8 P w K mg base CX0 2 A.Wg A.Pa ["self"] (AB A 2 "edit"):=by
 have gY:∀k,k < 8->a8 P w K mg base CX0 1 (A.fk k) (A.fkd k) ["self"] (gx k):=lZ T;refine T.aaQ.ok EL (λvs H Q E h=>?_) (λcdv A' outer s H vs Q E hr h=>?_)
 ·obtain⟨m,dx,fs,v,rfl,_⟩:=h;rfl
 ·obtain⟨m,dx,fs,v,rfl,hm,hl,hv,q⟩:=h;obtain⟨k,hk,ek⟩:∃k,k < 8/\k=2:=⟨2,by decide,rfl⟩
  have hm':H m=some (.ins (A.C k) dx fs):=by rw[ek];exact hm
  refine⟨_,(aj (aB (bg (aa (d5 (pv 0) (T.cl k hk) (T.ou k hk) (gY k hk) hr (T.oy k hk) .nil aW) (aa (br (pv 0) rfl) ag))))),?_⟩
  try dsimp only[bF]
  subst ek;exact⟨_,rfl,m,dx,fs,rfl,hm,hl,m,rfl,_,rfl,m,A.C 2,dx,fs,v,rfl,hm,T.cl 2 hk,T.na2,hv,(sl 2),λp hp=>q p hp⟩
theorem wF (T:Txt w.params K mg A):a8 P w K mg base CX0 1 A.Wl A.Pf ["self","edit"] (Fh A 2):=by
 refine T.aaV.ok EM (λvs H Q E h=>?_) (λcdv A' outer s H vs Q E hr h=>?_)
 ·obtain⟨m,dx,v,rfl,_⟩:=h;rfl
 ·obtain⟨m,dx,v,rfl,hm,q⟩:=h;refine⟨_,(aj (eP (pv 0) (pv 1) rfl)),?_⟩
  try dsimp only[bF]
  exact⟨_,rfl,_,rfl,m,A.C 2,dx,[],rfl,hm,T.cl 2 (by decide),T.na2,by decide,q⟩
theorem BZ (T:Txt w.params K mg A):a8 P w K mg base CX0 2 A.Wh A.Pb ["self"] (AB A 3 "sitting"):=by
 have gY:∀k,k < 8->a8 P w K mg base CX0 1 (A.fk k) (A.fkd k) ["self"] (gx k):=lZ T;refine T.aaR.ok Bg (λvs H Q E h=>?_) (λcdv A' outer s H vs Q E hr h=>?_)
 ·obtain⟨m,dx,fs,v,rfl,_⟩:=h;rfl
 ·obtain⟨m,dx,fs,v,rfl,hm,hl,hv,q⟩:=h;obtain⟨k,hk,ek⟩:∃k,k < 8/\k=3:=⟨3,by decide,rfl⟩
  have hm':H m=some (.ins (A.C k) dx fs):=by rw[ek];exact hm
  refine⟨_,(aj (aB (bg (aa (d5 (pv 0) (T.cl k hk) (T.ou k hk) (gY k hk) hr (T.oy k hk) .nil aW) (aa (br (pv 0) rfl) ag))))),?_⟩
  try dsimp only[bF]
  subst ek;exact⟨_,rfl,m,dx,fs,rfl,hm,hl,m,rfl,_,rfl,m,A.C 3,dx,fs,v,rfl,hm,T.cl 3 hk,T.na3,hv,(sl 2),λp hp=>q p hp⟩
theorem sG (T:Txt w.params K mg A):a8 P w K mg base CX0 1 A.Wm A.Pg ["self","sitting"] (Fh A 3):=by
 refine T.aaW.ok Bj (λvs H Q E h=>?_) (λcdv A' outer s H vs Q E hr h=>?_)
 ·obtain⟨m,dx,v,rfl,_⟩:=h;rfl
 ·obtain⟨m,dx,v,rfl,hm,q⟩:=h;refine⟨_,(aj (eP (pv 0) (pv 1) rfl)),?_⟩
  try dsimp only[bF]
  exact⟨_,rfl,_,rfl,m,A.C 3,dx,[],rfl,hm,T.cl 3 (by decide),T.na3,by decide,q⟩
theorem CW (T:Txt w.params K mg A):a8 P w K mg base CX0 2 A.Wi A.Pc ["self"] (AB A 7 "clause"):=by
 have gY:∀k,k < 8->a8 P w K mg base CX0 1 (A.fk k) (A.fkd k) ["self"] (gx k):=lZ T;refine T.aaS.ok CP (λvs H Q E h=>?_) (λcdv A' outer s H vs Q E hr h=>?_)
 ·obtain⟨m,dx,fs,v,rfl,_⟩:=h;rfl
 ·obtain⟨m,dx,fs,v,rfl,hm,hl,hv,q⟩:=h;obtain⟨k,hk,ek⟩:∃k,k < 8/\k=7:=⟨7,by decide,rfl⟩
  have hm':H m=some (.ins (A.C k) dx fs):=by rw[ek];exact hm
  refine⟨_,(aj (aB (bg (aa (d5 (pv 0) (T.cl k hk) (T.ou k hk) (gY k hk) hr (T.oy k hk) .nil aW) (aa (br (pv 0) rfl) ag))))),?_⟩
  try dsimp only[bF]
  subst ek;exact⟨_,rfl,m,dx,fs,rfl,hm,hl,m,rfl,_,rfl,m,A.C 7,dx,fs,v,rfl,hm,T.cl 7 hk,T.na7,hv,(sl 2),λp hp=>q p hp⟩
theorem ux (T:Txt w.params K mg A):a8 P w K mg base CX0 1 A.Wn A.Ph ["self","clause"] (Fh A 7):=by
 refine T.aaX.ok CQ (λvs H Q E h=>?_) (λcdv A' outer s H vs Q E hr h=>?_)
 ·obtain⟨m,dx,v,rfl,_⟩:=h;rfl
 ·obtain⟨m,dx,v,rfl,hm,q⟩:=h;refine⟨_,(aj (eP (pv 0) (pv 1) rfl)),?_⟩
  try dsimp only[bF]
  exact⟨_,rfl,_,rfl,m,A.C 7,dx,[],rfl,hm,T.cl 7 (by decide),T.na7,by decide,q⟩
theorem Pz {k:Nat}{f:Addr}{fd:kj}{ps:List Str}{sp:Sp}(h:∀vs H Q E,¬sp vs H Q E):a8 P w K mg base CX0 k f fd ps sp :=
 ⟨λvs H Q E z=>(h vs H Q E z).elim,λ_ _ _ H _ _ vs Q E _ _ _ _ z=>(h vs H Q E z).elim⟩
theorem vf {k:Nat}(hk:k=4\/k=5\/k=6):∀vs H Q E,J6 A k vs H Q E->L7 A vs H Q E:=λvs H Q E ⟨_,m,dx,v,e,hm,q⟩ =>
 ⟨m,k,dx,p6 k v,by omega,e,hm,lY k v,λp hp=>by
  have:=q p hp;rcases hk with rfl | rfl | rfl <;> exact this⟩
theorem qE (T:Txt w.params K mg A):∀k,k < 8->a8 P w K mg base CX0 2 (A.ft k) (A.ftd k) ["self"] (J6 A k)
 | 0,_=>Pz λvs H Q E h=>absurd h.1 (by decide)
 | 1,_=>(BY T).imp λvs H Q E ⟨_,m,dx,v,e,hm,q⟩=>⟨m,dx,_,v,e,hm,lY 1 v,rfl,q⟩
 | 2,_=>(Fl T).imp λvs H Q E ⟨_,m,dx,v,e,hm,q⟩=>⟨m,dx,_,v,e,hm,lY 2 v,rfl,q⟩
 | 3,_=>(BZ T).imp λvs H Q E ⟨_,m,dx,v,e,hm,q⟩=>⟨m,dx,_,v,e,hm,lY 3 v,rfl,q⟩
 | 4,_=>(yh T).imp (vf (.inl rfl))
 | 5,_=>(yh T).imp (vf (.inr (.inl rfl)))
 | 6,_=>(yh T).imp (vf (.inr (.inr rfl)))
 | 7,_=>(CW T).imp λvs H Q E ⟨_,m,dx,v,e,hm,q⟩=>⟨m,dx,_,v,e,hm,lY 7 v,rfl,q⟩
 |n+8,h=>absurd h (by omega)
theorem B0 (T:Txt w.params K mg A):a8 P w K mg base CX0 1 A.Wj A.Pd ["self","text"] (R3 A K):=by
 refine T.aaT.ok Bh (λvs H Q E h=>?_) (λcdv A' outer s H vs Q E hr h=>?_)
 ·obtain⟨m,dx,L,xs,rfl,_⟩:=h;rfl
 ·obtain⟨m,dx,L,xs,rfl,hm,hL,q⟩:=h;refine⟨_,(aj (eP (pv 0) (eQ fG (by rfl) T.sC qu (aa (pv 1) ag)) rfl)),?_⟩
  try dsimp only[bF]
  refine⟨_,rfl,L,xs,rfl,.inl hL,λp hp=>?_⟩
  have nmp:m≠p:=aI hm hp;exact⟨_,rfl,m,A.C 0,dx,[],rfl,(av nmp).trans hm,T.cl 0 (by decide),T.na0,by decide,q p hp⟩
theorem PB (T:Txt w.params K mg A):a8 P w K mg base CX0 2 A.We A.O8 ["self"] (L8 A K):=by
 have gY:∀k,k < 8->a8 P w K mg base CX0 1 (A.fk k) (A.fkd k) ["self"] (gx k):=lZ T;refine T.aaO.ok Be (λvs H Q E h=>?_) (λcdv A' outer s H vs Q E hr h=>?_)
 ·obtain⟨m,dx,L,xs,rfl,_⟩:=h;rfl
 ·obtain⟨m,dx,L,xs,rfl,hm,hL,q⟩:=h;obtain⟨k,hk,ek⟩:∃k,k < 8/\k=0:=⟨0,by decide,rfl⟩
  refine⟨_,(aj (aB (bg (aa (d5 (pv 0) (T.cl k hk) (T.ou k hk) (gY k hk) hr (T.oy k hk) .nil aW) (aa (eQ fG (by rfl) T.sC qu (aa (br (pv 0) rfl) ag)) ag))))),?_⟩
  try dsimp only[bF]
  subst ek;refine⟨_,rfl,m,dx,_,rfl,hm,lY 0 _,m,rfl,_,rfl,m,A.C 0,dx,_,_,rfl,hm,T.cl 0 hk,T.na0,rfl,L,xs,rfl,.inl hL,λp hp=>⟨(sl 2),λq' hq'=>?_⟩⟩
  have npq:p≠q':=aI ae hq';have hq:H q'=none:=by rw[av (alr npq)]at hq';exact hq'
  exact q p q' hp hq npq
theorem Fm (T:Txt w.params K mg A):a8 P w K mg base CX0 3 A.pS A.je ["told"] (L9 A):=by
 refine T.nS.ok lU (λvs H Q E h=>?_) (λcdv A' outer s H vs Q E hr h=>?_)
 ·obtain⟨t,k,v,_,_,rfl,_⟩:=h;rfl
 ·obtain⟨t,k,v,h1,h8,rfl,ht,q⟩:=h;have js:=hr;refine⟨_,(ai (aY (i:=1) lU.nd rfl (tm rfl) (aK aT (pv 0) af (λ_ _=>rfl)))
 (ai (a9 (ay bt (pv 1) ao (aJ _))
 (aj (aB (gB T.wB (B0 T) js rfl T.wy T.RU .nil aW (aa (aK aT (pv 0) af (λ_ _=>rfl)) ag))))
 aC)
 (ai (a9 (ay bt (pv 1) ao (aJ _))
 (aj (aB (gB T.wC (mW T) js rfl T.wz T.RV .nil aW (aa (aK aT (pv 0) af (λ_ _=>rfl)) ag))))
 aC)
 (ai (a9 (ay bt (pv 1) ao (aJ _))
 (aj (aB (gB T.J4 (wF T) js rfl T.J0 T.Wo .nil aW (aa (aK aT (pv 0) af (λ_ _=>rfl)) ag))))
 aC)
 (ai (a9 (ay bt (pv 1) ao (aJ _))
 (aj (aB (gB T.BN (sG T) js rfl T.BM T.Wq .nil aW (aa (aK aT (pv 0) af (λ_ _=>rfl)) ag))))
 aC)
 (ai (a9 (ay bt (pv 1) ao (aJ _))
 (aj (aB (pq (T.mkn 4 (by decide)) rfl T.Fd)))
 aC)
 (ai (a9 (ay bt (pv 1) ao (aJ _))
 (aj (aB (pq (T.mkn 5 (by decide)) rfl T.Pn)))
 aC)
 (ai (a9 (ay bt (pv 1) ao (aJ _))
 (aj (aB (pq (T.mkn 6 (by decide)) rfl T.J1)))
 aC)
 (aj (aB (gB T.Ff (ux T) js rfl T.Fe T.Ws .nil aW (aa (aK aT (pv 0) af (λ_ _=>rfl)) ag)))))))))))),?_⟩
  try dsimp only[bF]
  have h0:atI (rowOf k v) 0=some (.str (nm k)):=by
   have hk:k=1\/k=2\/k=3\/k=4\/k=5\/k=6\/k=7:=by omega
   rcases hk with rfl | rfl | rfl | rfl | rfl | rfl | rfl <;> rfl
  refine ixv rfl (SqT.of ht) h0 ?_;have hk:k=1\/k=2\/k=3\/k=4\/k=5\/k=6\/k=7:=by omega
  rcases hk with rfl | rfl | rfl | rfl | rfl | rfl | rfl
  ·refine⟨_,rfl,rfl,tsf (by trivial) ⟨_,rfl,rfl,tst (by trivial) ?_⟩⟩
   exact⟨_,rfl,t,_,_,v,rfl,rfl,SqT.of ht,rfl,λm dx nm ndx ne=>⟨m,dx,v,rfl,ae,rfl,q m _ ((((bw.refl H).own ndx).own nm).own nm) nm ⟨dx,ae⟩⟩⟩
  ·refine⟨_,rfl,rfl,tsf (by trivial) ⟨_,rfl,rfl,tsf (by trivial) ⟨_,rfl,rfl,tst (by trivial) ?_⟩⟩⟩
   exact⟨_,rfl,t,_,_,v,rfl,rfl,SqT.of ht,rfl,λm dx nm ndx ne=>⟨m,dx,v,rfl,ae,rfl,q m _ ((((bw.refl H).own ndx).own nm).own nm) nm ⟨dx,ae⟩⟩⟩
  ·refine⟨_,rfl,rfl,tsf (by trivial) ⟨_,rfl,rfl,tsf (by trivial) ⟨_,rfl,rfl,tsf (by trivial) ⟨_,rfl,rfl,tst (by trivial) ?_⟩⟩⟩⟩
   exact⟨_,rfl,t,_,_,v,rfl,rfl,SqT.of ht,rfl,λm dx nm ndx ne=>⟨m,dx,v,rfl,ae,rfl,q m _ ((((bw.refl H).own ndx).own nm).own nm) nm ⟨dx,ae⟩⟩⟩
  ·refine⟨_,rfl,rfl,tsf (by trivial) ⟨_,rfl,rfl,tsf (by trivial) ⟨_,rfl,rfl,tsf (by trivial) ⟨_,rfl,rfl,tsf (by trivial) ⟨_,rfl,rfl,tst (by trivial) ?_⟩⟩⟩⟩⟩
   exactλm dx nm ndx ne=>q m _ (((bw.refl H).own ndx).own nm) nm ⟨dx,ae⟩
  ·refine⟨_,rfl,rfl,tsf (by trivial) ⟨_,rfl,rfl,tsf (by trivial) ⟨_,rfl,rfl,tsf (by trivial) ⟨_,rfl,rfl,tsf (by trivial) ⟨_,rfl,rfl,tsf (by trivial) ⟨_,rfl,rfl,tst (by trivial) ?_⟩⟩⟩⟩⟩⟩
   exactλm dx nm ndx ne=>q m _ (((bw.refl H).own ndx).own nm) nm ⟨dx,ae⟩
  ·refine⟨_,rfl,rfl,tsf (by trivial) ⟨_,rfl,rfl,tsf (by trivial) ⟨_,rfl,rfl,tsf (by trivial) ⟨_,rfl,rfl,tsf (by trivial) ⟨_,rfl,rfl,tsf (by trivial) ⟨_,rfl,rfl,tsf (by trivial) ⟨_,rfl,rfl,tst (by trivial) ?_⟩⟩⟩⟩⟩⟩⟩
   exactλm dx nm ndx ne=>q m _ (((bw.refl H).own ndx).own nm) nm ⟨dx,ae⟩
  ·refine⟨_,rfl,rfl,tsf (by trivial) ⟨_,rfl,rfl,tsf (by trivial) ⟨_,rfl,rfl,tsf (by trivial) ⟨_,rfl,rfl,tsf (by trivial) ⟨_,rfl,rfl,tsf (by trivial) ⟨_,rfl,rfl,tsf (by trivial) ⟨_,rfl,rfl,tsf (by trivial) ?_⟩⟩⟩⟩⟩⟩⟩
   exact⟨_,rfl,t,_,_,v,rfl,rfl,SqT.of ht,rfl,λm dx nm ndx ne=>⟨m,dx,v,rfl,ae,rfl,q m _ ((((bw.refl H).own ndx).own nm).own nm) nm ⟨dx,ae⟩⟩⟩
theorem CY (T:Txt w.params K mg A):a8 P w K mg base CX0 3 A.pS A.je ["told"] (GA A K):=by
 refine T.nS.ok lU (λvs H Q E h=>?_) (λcdv A' outer s H vs Q E hr h=>?_)
 ·obtain⟨t,L,xs,rfl,_⟩:=h;rfl
 ·obtain⟨t,L,xs,rfl,ht,hL,q⟩:=h;have js:=hr;refine⟨_,(ai (aY (i:=1) lU.nd rfl (tm rfl) (aK aT (pv 0) af (λ_ _=>rfl)))
 (ai (a9 (ay bt (pv 1) ao (aJ _))
 (aj (aB (gB T.wB (B0 T) js rfl T.wy T.RU .nil aW (aa (aK aT (pv 0) af (λ_ _=>rfl)) ag))))
 aC)
 (ai (a9 (ay bt (pv 1) ao (aJ _))
 (aj (aB (gB T.wC (mW T) js rfl T.wz T.RV .nil aW (aa (aK aT (pv 0) af (λ_ _=>rfl)) ag))))
 aC)
 (ai (a9 (ay bt (pv 1) ao (aJ _))
 (aj (aB (gB T.J4 (wF T) js rfl T.J0 T.Wo .nil aW (aa (aK aT (pv 0) af (λ_ _=>rfl)) ag))))
 aC)
 (ai (a9 (ay bt (pv 1) ao (aJ _))
 (aj (aB (gB T.BN (sG T) js rfl T.BM T.Wq .nil aW (aa (aK aT (pv 0) af (λ_ _=>rfl)) ag))))
 aC)
 (ai (a9 (ay bt (pv 1) ao (aJ _))
 (aj (aB (pq (T.mkn 4 (by decide)) rfl T.Fd)))
 aC)
 (ai (a9 (ay bt (pv 1) ao (aJ _))
 (aj (aB (pq (T.mkn 5 (by decide)) rfl T.Pn)))
 aC)
 (ai (a9 (ay bt (pv 1) ao (aJ _))
 (aj (aB (pq (T.mkn 6 (by decide)) rfl T.J1)))
 aC)
 (aj (aB (gB T.Ff (ux T) js rfl T.Fe T.Ws .nil aW (aa (aK aT (pv 0) af (λ_ _=>rfl)) ag)))))))))))),?_⟩
  try dsimp only[bF]
  refine ixv rfl (SqT.of ht) rfl ?_;refine⟨_,rfl,rfl,tst (by trivial) ?_⟩
  refine⟨_,rfl,t,_,_,.ref L,rfl,rfl,SqT.of ht,rfl,λm dx nm ndx ne=>⟨m,dx,L,xs,rfl,ae,(((bw.refl H).own ndx).own nm).seq hL,λp hp=>⟨rfl,?_⟩⟩⟩
  have s1:bw H (upd (upd H dx (.own m)) m (.ins (A.C 0) dx [])):=((bw.refl H).own ndx).own nm;have npm:p≠m:=λz=>by rw[z,ae]at hp;cases hp
  exact q m p _ ((s1.new hp).own nm) nm (s1.free hp) ((av npm).trans ae) ⟨dx,ae⟩
end
abbrev GC:Str:=ar "more"
def n5 (n:Str)(a b:Int):Bool:=if a<=b then false else (decide (n=GC) || decide (2 * b<=a))
def Wu:Sp:=λvs H Q _=>∃(n:Str) (a b:Int),vs=[.str n,.int a,.int b]/\Q (.bl (n5 n a b)) H
section
variable{P:rf}{w:World}{K:ba}{mg:Str->Option Value}{base:Heap}{A:Adr}
theorem J7 (T:Txt w.params K mg A):a8 P w K mg base CX0 1 A.EV A.uQ ["need","ayes","noes"] Wu:=by
 refine T.xV.ok JL (λvs H Q E h=>?_) (λcdv A' outer s H vs Q E hr h=>?_)
 ·obtain⟨n,a,b,rfl,_⟩:=h;rfl
 ·obtain⟨n,a,b,rfl,q⟩:=h;refine⟨_,(ai (a9 (ay uq (pv 1) (pv 2) (aJ _))
 (aj (aB lO))
 aC)
 (aj (aB (Z2 (gA bt (pv 0) ao (aJ _)) (AH (gA TF (pv 1) (a6 uE af (pv 2)) (aJ _))))))),?_⟩
  try dsimp only[bF]
  refine⟨_,rfl,_,rfl,_,_,rfl,rfl,_,rfl,fD (λe=>?_) (λe=>?_)⟩
  ·have e':a<=b:=of_decide_eq_true e;rw[n5,if_pos e']at q;exact q
  ·have e':¬a<=b:=λz=>e (decide_eq_true z)
   rw[n5,if_neg e']at q;refine⟨_,rfl,rfl,_,rfl,fD (λe2=>?_) (λe2=>?_)⟩
   ·have h2:n=GC:=by injection of_decide_eq_true e2
    rw[decide_eq_true h2,Bool.true_or]at q;exact q
   ·have h2:¬n=GC:=λz=>e2 (decide_eq_true (by rw[z]))
    rw[decide_eq_false h2,Bool.false_or]at q;exact⟨_,rfl,_,rfl,_,_,rfl,rfl,.inl ⟨by decide,by decide⟩,_,_,rfl,rfl,q⟩
end
namespace R
abbrev bl1:Str:=ar " "
abbrev em:Str:=ar ""
theorem oB:bl1=⟨#[32]⟩:=by trivial
theorem T6:em=⟨#[]⟩:=by trivial
def Sign (c:Nat):Prop:=33<=c/\c<=126/\c≠37
instance:DecidablePred Sign:=λc=>by unfold Sign;exact inferInstance
structure oE (x:Str):Prop where
 l1:1<=x.length
 l2:x.length<=20
 sgn:∀c∈x.cps.toList,Sign c
 ns:x≠ar "/"
def Asc (x:Str):Prop:=∀c∈x.cps.toList,c < 128
theorem Asc.ok {x:Str}(h:Asc x):alB x=true:=by
 unfold alB;rw[Array.all_eq_true];intro i hi;have:=h x.cps[i] (by simp)
 exact decide_eq_true (by omega)
theorem oE.asc {x:Str}(w:oE x):Asc x:=λc hc=>by have:=w.sgn c hc;unfold Sign at this;omega
theorem p0 {sep:Str}(hs:Asc sep):∀ws:List Str,(∀w∈ws,Asc w)->Asc (tu sep ws)
 |[],_=>λc hc=>by
  have:c∈([]:List Nat):=hc;cases this
 |[x],h=>h x gr
 |x::y::r,h=>λc hc=>by
  have hc':c∈((x++sep)++tu sep (y::r)).cps.toList:=hc;rw[fH,fH,List.mem_append,List.mem_append]at hc';rcases hc' with (h1 | h1) | h1
  ·exact h x gr c h1
  ·exact hs c h1
  ·exact p0 hs (y::r) (λw hw=>h w (me _ hw)) c h1
abbrev aaZ:List Str:=[ar "-",ar "put",ar "/a",ar "0",ar "off",ar "//",ar "matter",ar "a"]
theorem PD {x:Str}(h:decide (1<=x.length/\x.length<=20/\(∀c∈x.cps.toList,Sign c)/\x≠ar "/")=true):oE x:=by
 obtain⟨a,b,c,d⟩:=of_decide_eq_true h;exact⟨a,b,c,d⟩
theorem Wv:∀x∈aaZ,oE x:=by
 intro x hx;simp only[List.mem_cons,List.not_mem_nil,or_false]at hx;rcases hx with rfl | rfl | rfl | rfl | rfl | rfl | rfl | rfl <;> exact PD (by trivial)
structure Clause (n:Nat)(x:Str)(ws:List Str):Prop where
 eq:x=tu bl1 ws
 len:ws.length<=n
 wd:∀w∈ws,oE w
theorem Clause.asc {n:Nat}{x:Str}{ws:List Str}(c:Clause n x ws):Asc x:=by
 rw[c.eq];exact p0 (by rw[oB];intro d hd;have:d=32:=(by simpa using hd);omega) ws λw hw=>(c.wd w hw).asc
theorem DX {ws:List Str}(h:∀w∈ws,oE w):(ws.map (·.length)).sum<=ws.length * 20:=StrLaws.sumLen_le ws λw hw=>(h w hw).l2
theorem Clause.size {n:Nat}{x:Str}{ws:List Str}(c:Clause n x ws):x.length<=n * 21:=by
 rw[c.eq,oB];have h1:=tO 32 ws;have h2:=DX c.wd;have h3:=c.len;omega
abbrev sl1:Str:=ar "/"
def num (i:Int):Str:=ar (toString i)
theorem Ma {i:Int}(h0:0<=i)(h1:i < 10 ^ 10):(num i).length<=10:=PyProof.Rows.toString_length_le h0 (by decide) h1
theorem Mb {i:Int}(h0:0<=i)(h1:i < 10 ^ 10):i.natAbs.log2 < 1920:=by
 have h:i.natAbs < 2 ^ 34:=by
  have:(10:Int) ^ 10<=2 ^ 34:=by decide
  omega
 by_cases hz:i.natAbs=0
 ·rw[hz];decide
 ·exact Nat.lt_trans ((Nat.log2_lt hz).mpr h) (by decide)
def bq (z:Str):List Str:=if z=em then [] else PySem.Txt.split z bl1
theorem oE.free {x:Str}(w:oE x):32∉x.cps.toList:=λz=>by have:=w.sgn _ z;unfold Sign at this;omega
theorem l4 {ws:List Str}(h:∀w∈ws,oE w):bq (tu bl1 ws)=ws:=by
 cases ws with
 |nil=>exact if_pos (by rw[T6];rfl)
 |cons x r =>
  have l:=CL (c:=32) (alv x r) λw hw=>(h w hw).l1
  have ne:¬tu bl1 (x::r)=em:=λe=>by
   rw[oB]at e;rw[e,T6]at l;exact absurd l (by decide)
  unfold bq;rw[if_neg ne,oB];exact JC (alv x r) λw hw=>(h w hw).free
inductive dY where
 |mat (cs:List (List Str))
 |ed (m:Bool) (k:Nat) (i:Int) (ws:List Str)
 |pt (ws:List Str)
 |nums (kd:Str) (ns:List Int)
def kEd (m:Bool):Str:=if m then ar "mend" else ar "change"
def kn:Nat->Str
 | 0=>ar "put"
 | 1=>ar "cut"
 |_=>ar "turn"
def edR (k:Nat)(i:Int)(x:Str):List V:=if k=1 then [.str (kn 1),.int i] else [.str (kn k),.int i,.str x]
def jt:List (Str×Nat):=[(ar "put off",1),(ar "vote",2),(ar "take",1),(ar "close",0),(ar "lay",0),(ar "rest",0),(ar "drop",0)]
structure B1 (n:Nat)(ws:List Str):Prop where
 len:ws.length<=n
 wd:∀w∈ws,oE w
def DOk:dY->Prop
 | .mat cs=>cs.length<=12/\∀ws∈cs,B1 12 ws
 | .ed m k i ws=>(k=0\/k=1\/k=2)/\(0<=i/\i < 10 ^ 10)/\B1 12 ws/\(m=true->ws.length=1)
 | .pt ws=>B1 12 ws
 | .nums kd ns=>(kd,ns.length)∈jt/\∀i∈ns,0<=i/\i < 10 ^ 10
def sH (K:ba)(H:Hp):dY->Addr->Prop
 | .mat cs,t=>∃L,SqT K H t [.str (ar "matter"),.ref L]/\SqL K H L ((cs.map (tu bl1)).map V.str)
 | .ed m k i ws,t=>∃e,SqT K H t [.str (kEd m),.ref e]/\SqT K H e (edR k i (tu bl1 ws))
 | .pt ws,t=>SqT K H t [.str (ar "point"),.str (tu bl1 ws)]
 | .nums kd ns,t=>SqT K H t (.str kd::ns.map V.int)
theorem sH.same {K:ba}{H H':Hp}(s:bw H H'):∀ {d:dY} {t:Addr},sH K H d t->sH K H' d t
 | .mat _,_,⟨L,a,b⟩=>⟨L,bP s a,s.seq b⟩
 | .ed _ _ _ _,_,⟨e,a,b⟩=>⟨e,bP s a,bP s b⟩
 | .pt _,_,a=>bP s a
 | .nums _ _,_,a=>bP s a
def B2:dY->Str
 | .mat _=>ar "matter"
 | .ed m _ _ _=>kEd m
 | .pt _=>ar "point"
 | .nums kd _=>kd
def jv:dY->List Str
 | .mat cs=>cs.flatMap λws=>sl1::ws
 | .ed _ k i ws=>kn k::num i::(if k=1 then [] else ws)
 | .pt ws=>ws
 | .nums _ ns=>ns.map num
def sI (d:dY):Str:=tu bl1 (B2 d::jv d)
theorem Ww (k:Nat):(kn k).length<=4:=by
 unfold kn;split <;> trivial
theorem R5 (m:Bool):(kEd m).length<=6:=by cases m <;> trivial
theorem kd_len {kd:Str}{n:Nat}(h:(kd,n)∈jt):kd.length<=7/\n<=2:=by
 simp only[jt,List.mem_cons,List.not_mem_nil,or_false,Prod.mk.injEq]at h;rcases h with ⟨rfl,rfl⟩ | ⟨rfl,rfl⟩ | ⟨rfl,rfl⟩ | ⟨rfl,rfl⟩ | ⟨rfl,rfl⟩ | ⟨rfl,rfl⟩ | ⟨rfl,rfl⟩ <;> trivial
theorem DY {d:dY}(o:DOk d):(jv d).length<=200/\(∀w∈jv d,w.length<=20)/\(B2 d).length<=20:=by
 cases d with
 |mat cs =>
  obtain⟨o1,o2⟩:=o;refine⟨?_,λw hw=>?_,by show (ar "matter").length<=20;trivial⟩
  ·show (cs.flatMap λws=>sl1::ws).length<=200
   have:∀l:List (List Str),(∀ws∈l,B1 12 ws)->(l.flatMap λws=>sl1::ws).length<=l.length * 13:=λl=>by
    induction l with
    |nil=>intro _;exact kq _
    |cons x l ih =>
     intro h;have h1:=(h x gr).len;have h2:=ih λw hw=>h w (me _ hw)
     rw[List.flatMap_cons,ma,alb,alb];omega
   have:=this cs o2;omega
  ·obtain⟨ws,h1,h2⟩:=List.mem_flatMap.mp hw;rcases List.mem_cons.mp h2 with rfl | h2
   ·trivial
   ·exact((o2 ws h1).wd w h2).l2
 |ed m k i ws =>
  obtain⟨o1,⟨i0,i1⟩,o3,_⟩:=o;have l:=o3.len;refine⟨?_,λw hw=>?_,?_⟩
  ·show (kn k::num i::(if k=1 then [] else ws)).length<=200
   split <;> simp <;> omega
  ·have hw':w∈kn k::num i::(if k=1 then [] else ws):=hw
   rcases List.mem_cons.mp hw' with rfl | hw'
   ·have:=Ww k;omega
   ·rcases List.mem_cons.mp hw' with rfl | hw'
    ·have:=Ma i0 i1;omega
    ·split at hw'
     ·cases hw'
     ·exact(o3.wd w hw').l2
  ·have:=R5 m;show (kEd m).length<=20;omega
 |pt ws=>exact⟨by have:=o.len;show ws.length<=200;omega,λw hw=>(o.wd w hw).l2,by show (ar "point").length<=20;trivial⟩
 |nums kd ns =>
  obtain⟨o1,o2⟩:=o;have:=kd_len o1;refine⟨by show (ns.map num).length<=200;rw[bo];omega,λw hw=>?_,by show kd.length<=20;omega⟩
  obtain⟨i,hi,rfl⟩:=List.mem_map.mp hw;have:=Ma (o2 i hi).1 (o2 i hi).2;omega
def p7:Sp:=λvs H Q _=>∃z,vs=[.str z]/\z.length+2<=kg/\∀p,H p=none->Q (.ref p) (upd H p (.lst ((bq z).map V.str)))
def vg (K:ba):Sp:=λvs H Q _=>∃a ws,vs=[.ref a]/\SqL K H a (ws.map V.str)/\(ws.map (·.length)).sum+ws.length<=16777216/\Q (.str (tu bl1 ws)) H
def Wx (K:ba):Sp:=λvs H Q _=>∃(L:Addr) (cs:List (List Str)),vs=[.ref L]/\SqL K H L ((cs.map (tu bl1)).map V.str)/\DOk (.mat cs)/\∀p H',bw H H'->H p=none->H' p=some (.lst ((jv (.mat cs)).map V.str))->Q (.ref p) H'
def R6 (K:ba):Sp:=λvs H Q _=>∃(t:Addr) (m:Bool) (k:Nat) (i:Int) (ws:List Str),vs=[.ref t]/\SqT K H t (edR k i (tu bl1 ws))/\DOk (.ed m k i ws)/\∀p H',bw H H'->H p=none->H' p=some (.lst ((jv (.ed m k i ws)).map V.str))->Q (.ref p) H'
def PF (K:ba):Sp:=λvs H Q _=>∃(t:Addr) (d:dY),vs=[.ref t]/\sH K H d t/\DOk d/\∀p H',bw H H'->H p=none->H' p=some (.lst ((jv d).map V.str))->Q (.ref p) H'
def Fn (K:ba):Sp:=λvs H Q _=>∃(t:Addr) (d:dY),vs=[.ref t]/\sH K H d t/\DOk d/\∀H',bw H H'->Q (.str (sI d)) H'
theorem ve {k:Nat}(h:k=0\/k=1\/k=2):(V.str (kn k)=V.str (ar "cut"))↔k=1:=by
 rcases h with rfl | rfl | rfl <;> trivial
theorem Mc (k:Nat)(i:Int)(x:Str):atI (edR k i x) 0=some (.str (kn k)):=by
 unfold edR;split
 ·rename_i h;rw[h];rfl
 ·rfl
theorem R7 (k:Nat)(i:Int)(x:Str):atI (edR k i x) 1=some (.int i):=by
 unfold edR;split <;> rfl
theorem R8 {k:Nat}(h:k≠1)(i:Int)(x:Str):atI (edR k i x) 2=some (.str x):=by
 unfold edR;rw[if_neg h];rfl
theorem vh {ws:List Str}(o:B1 12 ws):(tu bl1 ws).length<=300:=by
 have h1:=tO 32 ws;have h2:=DX o.wd;have h3:=o.len;rw[oB];omega
theorem aa0 {kd:Str}{n:Nat}(h:(kd,n)∈jt):V.str kd≠V.str (ar "matter")/\V.str kd≠V.str (ar "change")/\V.str kd≠V.str (ar "mend")/\V.str kd≠V.str (ar "point"):=by
 simp only[jt,List.mem_cons,List.not_mem_nil,or_false,Prod.mk.injEq]at h;rcases h with ⟨rfl,rfl⟩ | ⟨rfl,rfl⟩ | ⟨rfl,rfl⟩ | ⟨rfl,rfl⟩ | ⟨rfl,rfl⟩ | ⟨rfl,rfl⟩ | ⟨rfl,rfl⟩ <;> trivial
section
variable{K:ba}
theorem sH.at0 {H:Hp}{d:dY}{t:Addr}(h:sH K H d t):∃xs,SqT K H t xs/\atI xs 0=some (.str (B2 d)):=by
 cases d with
 |mat cs=>obtain⟨L,a,b⟩:=h;exact⟨_,a,rfl⟩
 |ed m k i ws=>obtain⟨e,a,b⟩:=h;exact⟨_,a,rfl⟩
 |pt ws=>exact⟨_,h,rfl⟩
 |nums kd ns=>exact⟨_,h,cB (j:=0) rfl⟩
end
section
variable{P:rf}{w:World}{K:ba}{mg:Str->Option Value}{base:Heap}{A:Adr}
theorem wG (T:Txt w.params K mg A):a8 P w K mg base CX0 1 A.pR A.jd ["words"] (vg K):=by
 refine T.nR.ok EO (λvs H Q E h=>?_) (λcdv A' outer s H vs Q E hr h=>?_)
 ·obtain⟨a,ws,rfl,_⟩:=h;rfl
 ·obtain⟨a,ws,rfl,hq,hz,k⟩:=h;refine⟨_,(aj (aB (gJ amn PySem.F.slot_str_join PySem.F.type_str_join Ew ao (aa (pv 0) ag)))),?_⟩
  try dsimp only[bF]
  exact⟨rfl,_,rfl,bl1,a,ws,rfl,rfl,hq,by rw[oB];show _+ws.length * 1<=_;omega,k⟩
theorem lj (T:Txt w.params K mg A):a8 P w K mg base CX0 1 A.words_of A.i4 ["clause"] p7:=by
 refine T.iK.ok Gh (λvs H Q E h=>?_) (λcdv A' outer s H vs Q E hr h=>?_)
 ·obtain⟨z,rfl,_⟩:=h;rfl
 ·obtain⟨z,rfl,hz,k⟩:=h;refine⟨_,(ai (a9 (ay bt (pv 0) ao (aJ _))
 (aj (aB (bS ag)))
 aC)
 (aj (aB (gJ amn PySem.F.slot_str_split PySem.F.type_str_split FY (pv 0) (aa ao ag))))),?_⟩
  try dsimp only[bF]
  refine⟨_,rfl,rfl,_,rfl,fD (λe=>?_) (λe=>?_)⟩
  ·have e':z=em:=by injection of_decide_eq_true e
   refine⟨alX _,λp hp=>?_⟩
   have:=k p hp;rw[bq,if_pos e']at this;exact this
  ·have e':¬z=em:=λq=>e (decide_eq_true (by rw[q]))
   refine⟨_,rfl,rfl,z,bl1,rfl,rfl,by rw[oB];rfl,hz,λp hp=>?_⟩
   have:=k p hp;rw[bq,if_neg e']at this;exact this
theorem yi (T:Txt w.params K mg A):a8 P w K mg base CX0 2 A.oq A.jX ["text"] (Wx K):=by
 refine T.lJ.ok jP (λvs H Q E h=>?_) (λcdv A' outer s H vs Q E hr h=>?_)
 ·obtain⟨L,cs,rfl,_⟩:=h;rfl
 ·obtain⟨L,cs,rfl,hL,o,k⟩:=h;refine⟨_,(ai (aY (i:=1) jP.nd rfl (tm rfl) (bS ag))
 (ai (AK PassesOwn.never rfl (nK (pv 0)) (kL (i:=2) jP.nd rfl (tm rfl))
 (ai (bK (gJ si alk alm dj (pv 1) (aa ao ag)))
 (aj (bK (gJ si PySem.F.slot_list_extend PySem.F.type_list_extend Dn (pv 1) (aa (aV (lj T) hr rfl T.j5 T.iK.kp T.j4 .nil aW (aa (pv 2) ag)) ag))))))
 (aj (aB (pv 1))))),?_⟩
  try dsimp only[bF]
  have lim:kg=16777216:=by decide
  refine⟨alX _,λW hW=>?_⟩
  refine⟨_,rfl,L,rfl,⟨_,(aG hW).seq hL⟩,?_⟩;refine AL (K:=K) (a:=L) (xs:=(cs.map (tu bl1)).map V.str) (λi σ H2=>∃v2:Option V,σ=[some (.ref L),some (.ref W),v2]/\bw H H2/\H2 W=some (.lst ((jv (.mat (cs.take i))).map V.str)))
   ⟨_,rfl,aG hW,ae⟩ (λi σ H2 _ ⟨_,_,s2,_⟩=>s2.seq hL) ?_ ?_
  ·rintro i y σ H2 hi ⟨v2,rfl,s2,h2⟩;rw[aln,aln]at hi;cases hc:cs[i]? with
   |none=>rw[hc]at hi;cases hi
   |some ws =>
    rw[hc]at hi;obtain rfl:V.str (tu bl1 ws)=y:=ak9 hi;have ow:=o.2 ws (alw hc);have hcl:=vh ow;have hil:i < cs.length:=(List.getElem?_eq_some_iff.mp hc).1;have hb:(jv (.mat (cs.take i))).length<=200:=(DY (d:=.mat (cs.take i)) ⟨by rw[alD];have:=o.1;omega,λws hw=>o.2 ws (List.mem_of_mem_take hw)⟩).1
    refine⟨_,rfl,.inl ⟨rfl,_,SqL.of h2⟩,W,_,_,rfl,rfl,h2,(by rw[bo];omega),?_⟩
    refine⟨_,rfl,.inl ⟨rfl,_,SqL.of ae⟩,_,rfl,_,rfl,by omega,λp hp=>?_⟩
    rw[l4 ow.wd];have nWp:W≠p:=aI ae hp;have wl:=ow.len;refine⟨W,p,_,_,rfl,rfl,(av nWp).trans ae,ae,(by rw[ma,bo,bo];show _+1+_<=_;omega),?_⟩
    refine⟨_,rfl,((s2.own hW).new hp).own hW,?_⟩;rw[ae,ams,hc];show some (HO.lst _)=some (HO.lst (((cs.take i++[ws]).flatMap λws=>sl1::ws).map V.str))
    rw[List.flatMap_append];simp[jv]
  ·rintro σ H2 ⟨v2,rfl,s2,h2⟩;rw[bo,bo,amc]at h2;exact⟨_,rfl,k W H2 s2 hW h2⟩
theorem yj (T:Txt w.params K mg A):a8 P w K mg base CX0 2 A.ot A.jY ["edit"] (R6 K):=by
 refine T.lK.ok pG (λvs H Q E h=>?_) (λcdv A' outer s H vs Q E hr h=>?_)
 ·obtain⟨t,m,k,i,ws,rfl,_⟩:=h;rfl
 ·obtain⟨t,m,k,i,ws,rfl,ht,⟨o1,⟨i0,i1⟩,o3,_⟩,q⟩:=h;refine⟨_,(ai (aY (i:=1) pG.nd rfl (tm rfl) (bS (aa (aK aT (pv 0) af (λ_ _=>rfl)) (aa (eQ vI (by rfl) T.Pl Oo (aa (aK aT (pv 0) af (λ_ _=>rfl)) ag)) ag))))
 (ai (a9 (ay AM (aK aT (pv 0) af (λ_ _=>rfl)) ao (aJ _))
 (aj (bK (gJ si PySem.F.slot_list_extend PySem.F.type_list_extend Dn (pv 1) (aa (aV (lj T) hr rfl T.j5 T.iK.kp T.j4 .nil aW (aa (aK aT (pv 0) af (λ_ _=>rfl)) ag)) ag))))
 aC)
 (aj (aB (pv 1))))),?_⟩
  try dsimp only[bF]
  have lim:kg=16777216:=by decide
  refine ixv rfl ht (Mc k i _) (ixv rfl ht (R7 k i _) ⟨_,rfl,Mb i0 i1,(sl 2),λW hW=>?_⟩)
  have s1:bw H (upd H W (.lst [V.str (kn k),V.str (num i)])):=aG hW;have hcl:=vh o3;refine ixv rfl (bP s1 ht) (Mc k i _) ⟨rfl,_,rfl,?_⟩
  by_cases hk:k=1
  ·rw[decide_eq_true ((ve o1).mpr hk)];refine bM ⟨_,rfl,q W _ s1 hW ?_⟩;show (upd H W (.lst [V.str (kn k),V.str (num i)])) W=some (.lst ((kn k::num i::(if k=1 then [] else ws)).map V.str))
   rw[ae,if_pos hk];rfl
  ·rw[decide_eq_false λz=>hk ((ve o1).mp z)]
   refine cN ⟨_,rfl,.inl ⟨rfl,_,SqL.of ae⟩,ixv rfl (bP s1 ht) (R8 hk i _) ⟨_,rfl,by omega,λp hp=>?_⟩⟩
   rw[l4 o3.wd];have nWp:W≠p:=aI ae hp;have wl:=o3.len;refine⟨W,p,_,_,rfl,rfl,(av nWp).trans ae,ae,(by rw[bo];show 2+_<=_;omega),_,rfl,q W _ ((s1.new hp).own hW) hW ?_⟩
   show (upd (upd (upd H W (.lst [V.str (kn k),V.str (num i)])) p (.lst (ws.map V.str))) W (.lst ([V.str (kn k),V.str (num i)]++ws.map V.str))) W=some (.lst ((kn k::num i::(if k=1 then [] else ws)).map V.str))
   rw[ae,if_neg hk];rfl
theorem zp (T:Txt w.params K mg A):a8 P w K mg base CX0 3 A.qy A.lC ["deed"] (PF K):=by
 have mX:a8 P w K mg base CX0 2 A.words_of A.i4 ["clause"] p7:=(lj T).mono (by decide)
 refine T.mP.ok qS (λvs H Q E h=>?_) (λcdv A' outer s H vs Q E hr h=>?_)
 ·obtain⟨t,d,rfl,_⟩:=h;rfl
 ·obtain⟨t,d,rfl,hd,o,q⟩:=h;refine⟨_,(ai (aY (i:=1) qS.nd rfl (tm rfl) (aK aT (pv 0) af (λ_ _=>rfl)))
 (ai (a9 (ay bt (pv 1) ao (aJ _))
 (aj (aB (aV (yi T) hr rfl T.qW T.lJ.kp T.qV .nil aW (aa (aK aT (pv 0) af (λ_ _=>rfl)) ag))))
 aC)
 (ai (a9 (PW.pt (pw_or (ay bt (pv 1) ao (aJ _)) (pw_or1 (ay bt (pv 1) ao (aJ _)))))
 (aj (aB (aV (yj T) hr rfl T.qY T.lK.kp T.qX .nil aW (aa (aK aT (pv 0) af (λ_ _=>rfl)) ag))))
 aC)
 (ai (a9 (ay bt (pv 1) ao (aJ _))
 (aj (aB (aV mX hr rfl T.j5 T.iK.kp T.j4 .nil aW (aa (aK aT (pv 0) af (λ_ _=>rfl)) ag))))
 aC)
 (aj (aB (Aq (scope:=mG) vU rfl (Vr (pf Vz (pv 0) (qt af) vL)) (λ_ _ _ _ _=>(eQ vI (by rfl) T.Pl Oo (aa (pv 0) ag)))))))))),?_⟩
  try dsimp only[bF]
  have lim:kg=16777216:=by decide
  cases d with
  |mat cs =>
   refine aN λGq gq=>?_
   obtain⟨L,ht,hL⟩:=hd;refine gq ?_;refine ixv rfl ht rfl ?_;refine⟨_,rfl,rfl,tst (decide_eq_true rfl) ?_⟩;exact ixv rfl ht rfl ⟨L,cs,rfl,hL,o,q⟩
  |ed m k i ws =>
   refine aN λGq gq=>?_
   obtain⟨e,ht,he⟩:=hd;refine gq ?_;refine ixv rfl ht rfl ?_;refine⟨_,rfl,rfl,tsf (decide_eq_false (by cases m <;> trivial)) ?_⟩
   cases m with
   |false =>
    refine⟨_,rfl,rfl,tst (decide_eq_true rfl) ?_⟩;exact ixv rfl ht rfl ⟨e,false,k,i,ws,rfl,he,o,q⟩
   |true =>
    refine⟨_,rfl,rfl,tsf (decide_eq_false (by trivial)) ?_⟩
    refine⟨_,rfl,rfl,tst (decide_eq_true rfl) ?_⟩;exact ixv rfl ht rfl ⟨e,true,k,i,ws,rfl,he,o,q⟩
  |pt ws =>
   have ht:=hd;refine ixv rfl ht rfl ?_;refine⟨_,rfl,rfl,tsf (decide_eq_false (by trivial)) ?_⟩
   refine⟨_,rfl,rfl,tsf (decide_eq_false (by trivial)) ?_⟩
   refine⟨_,rfl,rfl,tsf (decide_eq_false (by trivial)) ?_⟩
   refine⟨_,rfl,rfl,tst (decide_eq_true rfl) ?_⟩;have hcl:=vh o;refine ixv rfl ht rfl ⟨_,rfl,by omega,λp hp=>q p _ (aG hp) hp ?_⟩
   rw[ae,l4 o.wd];rfl
  |nums kd ns =>
   refine aN λGq gq=>?_
   have ht:=hd;obtain⟨o1,o2⟩:=o;obtain⟨n1,n2,n3,n4⟩:=aa0 o1;have kl:=(kd_len o1).2;refine gq ?_;refine ixv rfl ht (cB (j:=0) rfl) ?_;refine⟨_,rfl,rfl,tsf (decide_eq_false n1) ?_⟩;refine⟨_,rfl,rfl,tsf (decide_eq_false n2) ?_⟩;refine⟨_,rfl,rfl,tsf (decide_eq_false n3) ?_⟩;refine⟨_,rfl,rfl,tsf (decide_eq_false n4) ?_⟩;refine⟨_,rfl,_,rfl,t,_,rfl,ht,λz=>?_,λp hp=>?_⟩
   ·have z1:=z.1;rw[show (1:Int)=((1:Nat):Int) from rfl,HT.vJ,alb]at z1
    omega
   ·rw[show (1:Int)=((1:Nat):Int) from rfl,AY]
    show _;have hs1:bw H (upd H p (.tup (ns.map V.int))):=aG hp;have hpp:(upd H p (.tup (ns.map V.int))) p=some (.tup (ns.map V.int)):=ae;refine⟨p,rfl,⟨_,SqT.of hpp⟩,λD hD=>?_⟩
    have npD:p≠D:=aI hpp hD;refine OI (K:=K) (a:=p) (xs:=ns.map V.int) (λi ys H3=>ys=(ns.take i).map (λn=>V.str (num n))/\H3=upd (upd H p (.tup (ns.map V.int))) D (.lst ys)) ⟨rfl,rfl⟩ (by rw[bo];omega) ?_ ?_ ?_
    ·rintro i ys H3 hi ⟨rfl,rfl⟩;rw[bo]at hi;exact⟨SqT.of ((av npD).trans hpp),ae,by rw[bo,alD];omega⟩
    ·rintro i y ys H3 hi ⟨rfl,rfl⟩;rw[aln]at hi;cases hc:ns[i]? with
     |none=>rw[hc]at hi;cases hi
     |some n =>
      refine aN λGq gq=>?_
      rw[hc]at hi;obtain rfl:V.int n=y:=ak9 hi;obtain⟨b0,b1⟩:=o2 n (alw hc);refine gq ?_;refine⟨_,rfl,_,rfl,Mb b0 b1,?_⟩;refine eD.mk (by rw[bo];exact(List.getElem?_eq_some_iff.mp hc).1) ae ⟨?_,by rw[nJ]⟩
      rw[ams,hc,ko];rfl
    ·rintro ys H3 ⟨rfl,rfl⟩;rw[bo,amc];refine q D _ (hs1.new hD) (hs1.free hD) ?_;rw[ae];show some (HO.lst _)=some (HO.lst ((ns.map num).map V.str));rw[List.map_map];rfl
theorem qG (T:Txt w.params K mg A):a8 P w K mg base CX0 4 A.my A.hZ ["deed"] (Fn K):=by
 have sJ:a8 P w K mg base CX0 3 A.pR A.jd ["words"] (vg K):=(wG T).mono (by decide)
 refine T.lb.ok ER (λvs H Q E h=>?_) (λcdv A' outer s H vs Q E hr h=>?_)
 ·obtain⟨t,d,rfl,_⟩:=h;rfl
 ·obtain⟨t,d,rfl,hd,o,q⟩:=h;refine⟨_,(aj (aB (aV sJ hr rfl T.sf T.nR.kp T.r9 .nil aW (aa (a6 Ao (bS (aa (aK aT (pv 0) af (λ_ _=>rfl)) ag)) (aV (zp T) hr rfl T.sv T.mP.kp T.sj .nil aW (aa (pv 0) ag))) ag)))),?_⟩
  try dsimp only[bF]
  refine aN λGq gq=>?_
  have lim:kg=16777216:=by decide
  obtain⟨b1,b2,b3⟩:=DY o;obtain⟨xs,hx,hx0⟩:=hd.at0;refine gq ?_;refine ixv rfl hx hx0 ⟨(sl 1),λp hp=>?_⟩
  refine⟨_,rfl,t,d,rfl,hd.same (aG hp),o,λp2 H2 s2 hn2 h2=>?_⟩
  have hp2:H2 p=some (.lst [V.str (B2 d)]):=s2 _ _ ae;refine⟨p,p2,_,_,rfl,rfl,hp2,h2,(by rw[bo];show 1+_<=_;omega),λp3 hp3=>?_⟩
  refine⟨p3,B2 d::jv d,rfl,SqL.of (by rw[ae];rfl),?_,q _ (((aG hp).trans s2).new hp3)⟩
  have:=StrLaws.sumLen_le (B:=20) (B2 d::jv d) (λw hw=>by
   rcases List.mem_cons.mp hw with rfl | hw
   ·exact b3
   ·exact b2 w hw)
  rw[alb]at this ⊢;omega
end
end R
inductive Rl where
 |ob | made | au | aH | decided | firsts | kept | rows
 |fj (n:Nat) | gZ (n:Nat) | dD (n:Nat)
abbrev Col:=Addr->Option (Nat×Rl)
def cM (i:Nat)(x:Option (Nat×Rl)):Prop:=∃r,x=some (i,r)
theorem d9 {i j:Nat}(n:i≠j)(r:Rl):¬cM j (some (i,r)):=λ⟨_,e⟩=>by cases e;exact n rfl
theorem aL {i:Nat}:¬cM i none:=λ⟨_,e⟩=>by cases e
structure Step (W:Option (Nat×Rl)->Prop)(c c':Col)(H H':Hp):Prop where
 nn:¬W none
 keep:∀a v,H a=some v->¬W (c a)->H' a=some v
 there:∀a v,H a=some v->∃v',H' a=some v'
 col:∀a v,H a=some v->¬W (c a)->c' a=c a
section
variable{W W':Option (Nat×Rl)->Prop}{c c1 c2:Col}{H H' H1 H2:Hp}{a:Addr}{o:HO}
theorem Step.refl (n:¬W none):Step W c c H H:=⟨n,λ_ _ h _=>h,λ_ v h=>⟨v,h⟩,λ_ _ _ _=>rfl⟩
theorem Step.same (n:¬W none)(s:bw H H'):Step W c c H H':=⟨n,λa v h _=>s a v h,λa v h=>⟨v,s a v h⟩,λ_ _ _ _=>rfl⟩
theorem Step.mono (f:∀x,W x->W' x)(n:¬W' none)(s:Step W c c1 H H1):Step W' c c1 H H1 where
 nn:=n
 keep:=λa v h m=>s.keep a v h λz=>m (f _ z)
 there:=s.there
 col:=λa v h m=>s.col a v h λz=>m (f _ z)
theorem Step.trans (x:Step W c c1 H H1)(y:Step W c1 c2 H1 H2):Step W c c2 H H2 where
 nn:=x.nn
 keep:=λa v h n=>y.keep a v (x.keep a v h n) (by rw[x.col a v h n];exact n)
 there:=λa v h=>let ⟨v1,h1⟩:=x.there a v h;y.there a v1 h1
 col:=λa v h n=>(y.col a v (x.keep a v h n) (by rw[x.col a v h n];exact n)).trans (x.col a v h n)
theorem Step.upd (n:¬W none)(m:W (c a)):Step W c c H (L2.upd H a o) where
 nn:=n
 keep:=λb v h n=>by rw[av (λz=>n (by rw[z];exact m))];exact h
 there:=λb v h=>by
  by_cases z:b=a
  ·rw[z];exact⟨o,ae⟩
  ·exact⟨v,by rw[av z];exact h⟩
 col:=λ_ _ _ _=>rfl
def az (c:Col)(a:Addr)(x:Option (Nat×Rl)):Col:=λb=>if b=a then x else c b
theorem aX {x:Option (Nat×Rl)}:az c a x a=x:=if_pos rfl
theorem aw {b:Addr}{x:Option (Nat×Rl)}(h:b≠a):az c a x b=c b:=if_neg h
theorem Step.new {x:Option (Nat×Rl)}(n:¬W none)(h:H a=none):Step W c (az c a x) H (L2.upd H a o) where
 nn:=n
 keep:=λb v e _=>aG h b v e
 there:=λb v e=>⟨v,aG h b v e⟩
 col:=λb v e _=>aw (λz=>by rw[z,h]at e;cases e)
theorem Step.role {x:Option (Nat×Rl)}(n:¬W none)(m:W (c a)):Step W c (az c a x) H H where
 nn:=n
 keep:=λ_ _ h _=>h
 there:=λ_ v h=>⟨v,h⟩
 col:=λb _ _ n=>aw (λz=>n (by rw[z];exact m))
def bU (c:Col)(H:Hp):Col:=λa=>if (H a).isSome then c a else none
theorem bC (h:H a=none):bU c H a=none:=by unfold bU;rw[h];rfl
theorem PH {v:HO}(h:H a=some v):bU c H a=c a:=by unfold bU;rw[h];rfl
theorem Step.cl (n:¬W none)(s:bw H H'):Step W c (bU c H) H H':=⟨n,λa v h _=>s a v h,λa v h=>⟨v,s a v h⟩,λ_ _ h _=>PH h⟩
end
def Wr (i:Nat)(p:Rl->Bool)(x:Option (Nat×Rl)):Prop:=∃r,x=some (i,r)/\p r=true
section
variable{i:Nat}{p:Rl->Bool}{r:Rl}{c c':Col}{H H':Hp}{a:Addr}
theorem Wr.nn:¬Wr i p none:=λ⟨_,e,_⟩=>nomatch e
theorem Wr.no (h:p r=false):¬Wr i p (some (i,r)):=λ⟨_,e,z⟩=>by cases e;rw[h]at z;cases z
theorem Wr.yes (e:c a=some (i,r))(h:p r=true):Wr i p (c a):=⟨r,e,h⟩
theorem Step.iy (s:Step (Wr i p) c c' H H'):Step (cM i) c c' H H':=s.mono (λ_ ⟨r,e,_⟩=>⟨r,e⟩) aL
theorem mY {o:Addr}{v:HO}(h:p .ob=false)(s:Step (Wr i p) c c' H H')(h1:c o=some (i,.ob))(h2:H o=some v):c' o=some (i,.ob)/\H' o=some v:=by
 have hn:¬Wr i p (c o):=by rw[h1];exact Wr.no h
 exact⟨by rw[s.col o _ h2 hn];exact h1,s.keep _ _ h2 hn⟩
end
inductive Mn where
 |mat (tx:List Str) | chg (e:Ed) | mnd (e:Ed) | off (n:Int) | cls | lay | rst | pnt (z:Str)
def Mn.k:Mn->Nat
 | .mat _=>0 | .chg _=>1 | .mnd _=>2 | .off _=>3 | .cls=>4 | .lay=>5 | .rst=>6 | .pnt _=>7
theorem Mn.k8 (m:Mn):m.k < 8:=by cases m <;> simp only[Mn.k] <;> omega
def TupAt (c:Col)(H:Hp)(t:Addr)(xs:List V):Prop:=c t=none/\Rd H t (.tup xs)
theorem TupAt.sq {K:ba}{c:Col}{H:Hp}{t:Addr}{xs:List V}(h:TupAt c H t xs):SqT K H t xs:=.inl h.2
theorem TupAt.step {W:Option (Nat×Rl)->Prop}{c c':Col}{H H':Hp}{t:Addr}{xs:List V}(s:Step W c c' H H')(h:TupAt c H t xs):TupAt c' H' t xs:=by
 obtain⟨n,h⟩:=h;have hn:¬W (c t):=by rw[n];exact s.nn
 rcases h with h | ⟨o,h⟩
 ·exact⟨by rw[s.col t _ h hn];exact n,.inl (s.keep _ _ h hn)⟩
 ·exact⟨by rw[s.col t _ h hn];exact n,.inr ⟨o,s.keep _ _ h hn⟩⟩
def Md (c:Col)(H:Hp)(p:Addr)(tx:List Str):Prop:=c p=none/\H p=some (.lst (tx.map V.str))
theorem Md.step {W:Option (Nat×Rl)->Prop}{c c':Col}{H H':Hp}{p:Addr}{tx:List Str}(s:Step W c c' H H')(h:Md c H p tx):Md c' H' p tx :=
 have hn:¬W (c p):=by rw[h.1];exact s.nn
 ⟨by rw[s.col p _ h.2 hn];exact h.1,s.keep _ _ h.2 hn⟩
def Mn.Val (c:Col)(H:Hp):Mn->V->Prop
 | .mat tx,v=>∃p,v=.ref p/\Md c H p tx
 | .chg e,v=>∃t,v=.ref t/\TupAt c H t (eG e)
 | .mnd e,v=>∃t,v=.ref t/\TupAt c H t (eG e)
 | .off n,v=>v=.int n
 | .pnt z,v=>v=.str z
 |_,_=>True
theorem Mn.Val.step {W:Option (Nat×Rl)->Prop}{c c':Col}{H H':Hp}(s:Step W c c' H H'):∀ {m:Mn} {v:V},m.Val c H v->m.Val c' H' v
 | .mat _,_,⟨p,e,h⟩=>⟨p,e,h.step s⟩
 | .chg _,_,⟨t,e,h⟩=>⟨t,e,h.step s⟩
 | .mnd _,_,⟨t,e,h⟩=>⟨t,e,h.step s⟩
 | .off _,_,h=>h
 | .pnt _,_,h=>h
 | .cls,_,_=>trivial
 | .lay,_,_=>trivial
 | .rst,_,_=>trivial
def mZ (A:Adr)(c:Col)(H:Hp)(m:Mn)(o:Addr):Prop:=c o=none/\∃dx v,H o=some (.ins (A.C m.k) dx (p6 m.k v))/\m.Val c H v
theorem mZ.step {A:Adr}{W:Option (Nat×Rl)->Prop}{c c':Col}{H H':Hp}{m:Mn}{o:Addr}(s:Step W c c' H H')(h:mZ A c H m o):mZ A c' H' m o:=by
 obtain⟨n,dx,v,h,hv⟩:=h;have hn:¬W (c o):=by rw[n];exact s.nn
 exact⟨by rw[s.col o _ h hn];exact n,dx,v,s.keep _ _ h hn,hv.step s⟩
structure Ch where
 cZ:Int
 aU:Int
 closed:Bool
 made:List Mn
 au:List Nat
 aH:List (Nat×Int×List Nat)
 decided:List (Nat×Str)
 firsts:List (Nat×List Str)
 kept:List (Nat×List Ed)
 rows:List Str
def nV (n:Nat):V:=.int (n:Int)
def bf (xs:List (Nat×V)):List (Key×V):=xs.map λp=>(ku (p.1:Int),p.2)
inductive bG {α β:Type}(R:α->β->Prop):List α->List β->Prop
 |nil:bG R [] []
 |cons {a b as bs}:R a b->bG R as bs->bG R (a::as) (b::bs)
theorem bG.imp {α β:Type}{R R':α->β->Prop}(f:∀a b,R a b->R' a b):∀ {as:List α} {bs:List β},bG R as bs->bG R' as bs
 |_,_,.nil=>.nil
 |_,_,.cons h t=>.cons (f _ _ h) (t.imp f)
def LstAt (i:Nat)(c:Col)(H:Hp)(r:Rl)(a:Addr)(xs:List V):Prop:=c a=some (i,r)/\H a=some (.lst xs)
def jH (i:Nat)(c:Col)(H:Hp)(r:Rl)(a:Addr)(xs:List (Nat×V)):Prop:=c a=some (i,r)/\H a=some (.dK (bf xs))
def chF (v0 v1 v2 v3 v4 v5 v6 v7 v8 v9:V):List (Str×V):=[(ar "seats",v0),(ar "sitting",v1),(ar "closed",v2),(ar "made",v3),(ar "pile",v4),(ar "aside",v5),(ar "decided",v6),(ar "first_texts",v7),(ar "edits_kept",v8),(ar "rows",v9)]
abbrev Me (i:Nat)(c:Col)(H:Hp)(x:Nat×Int×List Nat)(v:V):Prop:=∃t p,v=.ref t/\TupAt c H t [.int x.2.1,.ref p]/\LstAt i c H (.fj x.1) p (x.2.2.map nV)
abbrev Fo (i:Nat)(c:Col)(H:Hp)(x:Nat×List Str)(v:V):Prop:=∃p,v=.ref p/\LstAt i c H (.dD x.1) p (x.2.map V.str)
abbrev Mf (i:Nat)(c:Col)(H:Hp)(x:Nat×List Ed)(v:V):Prop:=∃p ts,v=.ref p/\LstAt i c H (.gZ x.1) p (ts.map V.ref)/\bG (λe t=>TupAt c H t (eG e)) x.2 ts
structure ChX (A:Adr)(i:Nat)(c:Col)(H:Hp)(o:Addr)(st:Ch)(dx aM aP aA aD aF aE aR:Addr)(ms ds:List Addr)(ws fs es:List V):Prop where
 co:c o=some (i,.ob)
 ob:H o=some (.ins A.ax dx (chF (.int st.cZ) (.int st.aU) (.bl st.closed) (.ref aM) (.ref aP) (.ref aA) (.ref aD) (.ref aF) (.ref aE) (.ref aR)))
 made:jH i c H .made aM ((alC 1 st.made.length).zip (ms.map V.ref))
 mot:bG (λm p=>mZ A c H m p) st.made ms
 au:LstAt i c H .au aP (st.au.map nV)
 aH:jH i c H .aH aA ((st.aH.map (·.1)).zip ws)
 wait:bG (Me i c H) st.aH ws
 dec:LstAt i c H .decided aD (ds.map V.ref)
 m5:bG (λ(x:Nat×Str) t=>TupAt c H t [nV x.1,.str x.2]) st.decided ds
 firsts:jH i c H .firsts aF ((st.firsts.map (·.1)).zip fs)
 first:bG (Fo i c H) st.firsts fs
 ll:jH i c H .kept aE ((st.kept.map (·.1)).zip es)
 kept:bG (Mf i c H) st.kept es
 rows:LstAt i c H .rows aR (st.rows.map V.str)
structure dR (A:Adr)(i:Nat)(c:Col)(H:Hp)(o:Addr)(st:Ch):Prop where
 ex:∃(dx aM aP aA aD aF aE aR:Addr) (ms ds:List Addr) (ws fs es:List V),ChX A i c H o st dx aM aP aA aD aF aE aR ms ds ws fs es
theorem LstAt.keep {i:Nat}{W:Option (Nat×Rl)->Prop}{c c':Col}{H H':Hp}{r:Rl}{a:Addr}{xs:List V}(n:¬W (some (i,r)))(s:Step W c c' H H')(h:LstAt i c H r a xs):LstAt i c' H' r a xs:=by
 have hn:¬W (c a):=by rw[h.1];exact n
 exact⟨by rw[s.col a _ h.2 hn];exact h.1,s.keep _ _ h.2 hn⟩
theorem jH.keep {i:Nat}{W:Option (Nat×Rl)->Prop}{c c':Col}{H H':Hp}{r:Rl}{a:Addr}{xs:List (Nat×V)}(n:¬W (some (i,r)))(s:Step W c c' H H')(h:jH i c H r a xs):jH i c' H' r a xs:=by
 have hn:¬W (c a):=by rw[h.1];exact n
 exact⟨by rw[s.col a _ h.2 hn];exact h.1,s.keep _ _ h.2 hn⟩
section
variable{A:Adr}{i:Nat}{p:Rl->Bool}{r:Rl}{c c':Col}{H H':Hp}{a o:Addr}
theorem LstAt.kp {xs:List V}(h:p r=false)(s:Step (Wr i p) c c' H H')(z:LstAt i c H r a xs):LstAt i c' H' r a xs:=z.keep (Wr.no h) s
theorem jH.kp {xs:List (Nat×V)}(h:p r=false)(s:Step (Wr i p) c c' H H')(z:jH i c H r a xs):jH i c' H' r a xs:=z.keep (Wr.no h) s
theorem bG.imp_mem {α β:Type}{R R':α->β->Prop}:∀ {as:List α} {bs:List β},(∀a∈as,∀b,R a b->R' a b)->bG R as bs->bG R' as bs
 |_,_,_,.nil=>.nil
 |_,_,f,.cons h t=>.cons (f _ gr _ h) (t.imp_mem λa m b=>f a (me _ m) b)
theorem sL {as:List Mn}{ms:List Addr}{W:Option (Nat×Rl)->Prop}(s:Step W c c' H H')(z:bG (λm p=>mZ A c H m p) as ms):bG (λm p=>mZ A c' H' m p) as ms:=z.imp λ_ _ y=>y.step s
theorem jw {as:List (Nat×Str)}{ds:List Addr}{W:Option (Nat×Rl)->Prop}(s:Step W c c' H H')(z:bG (λ(x:Nat×Str) t=>TupAt c H t [nV x.1,.str x.2]) as ds):bG (λ(x:Nat×Str) t=>TupAt c' H' t [nV x.1,.str x.2]) as ds:=z.imp λ_ _ y=>y.step s
theorem lq {as:List (Nat×Int×List Nat)}{ws:List V}(h:∀x∈as,p (.fj x.1)=false)(s:Step (Wr i p) c c' H H')(z:bG (Me i c H) as ws):bG (Me i c' H') as ws :=
 z.imp_mem λx m v ⟨t,q,e,z1,z2⟩=>⟨t,q,e,z1.step s,z2.kp (h x m) s⟩
theorem uy {as:List (Nat×List Str)}{ws:List V}(h:∀x∈as,p (.dD x.1)=false)(s:Step (Wr i p) c c' H H')(z:bG (Fo i c H) as ws):bG (Fo i c' H') as ws :=
 z.imp_mem λx m v ⟨q,e,z2⟩=>⟨q,e,z2.kp (h x m) s⟩
theorem wH {as:List (Nat×List Ed)}{ws:List V}(h:∀x∈as,p (.gZ x.1)=false)(s:Step (Wr i p) c c' H H')(z:bG (Mf i c H) as ws):bG (Mf i c' H') as ws :=
 z.imp_mem λx m v ⟨q,ts,e,z2,z3⟩=>⟨q,ts,e,z2.kp (h x m) s,z3.imp λ_ _ y=>y.step s⟩
end
theorem dR.other {A:Adr}{i j:Nat}(n:i≠j){c c':Col}{H H':Hp}{o:Addr}{st:Ch}(s:Step (cM j) c c' H H')(h:dR A i c H o st):dR A i c' H' o st:=by
 obtain⟨dx,aM,aP,aA,aD,aF,aE,aR,ms,ds,ws,fs,es,h1,h2,h3,h4,h5,h6,h7,h8,h9,h10,h11,h12,h13,h14⟩:=h.ex;have no:=λr=>d9 n r
 have hn:¬cM j (c o):=by rw[h1];exact no _
 refine⟨dx,aM,aP,aA,aD,aF,aE,aR,ms,ds,ws,fs,es,by rw[s.col o _ h2 hn];exact h1,s.keep _ _ h2 hn,h3.keep (no _) s,h4.imp λ_ _ z=>z.step s,h5.keep (no _) s,h6.keep (no _) s,h7.imp ?_,h8.keep (no _) s,h9.imp λ_ _ z=>z.step s,
  h10.keep (no _) s,h11.imp ?_,h12.keep (no _) s,h13.imp ?_,h14.keep (no _) s⟩
 ·rintro x v ⟨t,p,e,z1,z2⟩;exact⟨t,p,e,z1.step s,z2.keep (no _) s⟩
 ·rintro x v ⟨p,e,z⟩;exact⟨p,e,z.keep (no _) s⟩
 ·rintro x v ⟨p,ts,e,z1,z2⟩;exact⟨p,ts,e,z1.keep (no _) s,z2.imp λ_ _ y=>y.step s⟩
section
variable{v0 v1 v2 v3 v4 v5 v6 v7 v8 v9 y:V}
theorem M0:(chF v0 v1 v2 v3 v4 v5 v6 v7 v8 v9).lookup (ar "seats")=some v0:=by simp only[chF,alR,show (ar "seats" == ar "seats")=true from by trivial]
theorem i9:(chF v0 v1 v2 v3 v4 v5 v6 v7 v8 v9).lookup (ar "sitting")=some v1:=by simp only[chF,alR,show (ar "sitting" == ar "seats")=false from by trivial,show (ar "sitting" == ar "sitting")=true from by trivial]
theorem m7:(chF v0 v1 v2 v3 v4 v5 v6 v7 v8 v9).lookup (ar "closed")=some v2:=by simp only[chF,alR,show (ar "closed" == ar "seats")=false from by trivial,show (ar "closed" == ar "sitting")=false from by trivial,show (ar "closed" == ar "closed")=true from by trivial]
theorem iz:(chF v0 v1 v2 v3 v4 v5 v6 v7 v8 v9).lookup (ar "made")=some v3:=by simp only[chF,alR,show (ar "made" == ar "seats")=false from by trivial,show (ar "made" == ar "sitting")=false from by trivial,show (ar "made" == ar "closed")=false from by trivial,show (ar "made" == ar "made")=true from by trivial]
theorem fm:(chF v0 v1 v2 v3 v4 v5 v6 v7 v8 v9).lookup (ar "pile")=some v4:=by simp only[chF,alR,show (ar "pile" == ar "seats")=false from by trivial,show (ar "pile" == ar "sitting")=false from by trivial,show (ar "pile" == ar "closed")=false from by trivial,show (ar "pile" == ar "made")=false from by trivial,show (ar "pile" == ar "pile")=true from by trivial]
theorem j9:(chF v0 v1 v2 v3 v4 v5 v6 v7 v8 v9).lookup (ar "aside")=some v5:=by simp only[chF,alR,show (ar "aside" == ar "seats")=false from by trivial,show (ar "aside" == ar "sitting")=false from by trivial,show (ar "aside" == ar "closed")=false from by trivial,show (ar "aside" == ar "made")=false from by trivial,show (ar "aside" == ar "pile")=false from by trivial,show (ar "aside" == ar "aside")=true from by trivial]
theorem yY:(chF v0 v1 v2 v3 v4 v5 v6 v7 v8 v9).lookup (ar "decided")=some v6:=by simp only[chF,alR,show (ar "decided" == ar "seats")=false from by trivial,show (ar "decided" == ar "sitting")=false from by trivial,show (ar "decided" == ar "closed")=false from by trivial,show (ar "decided" == ar "made")=false from by trivial,show (ar "decided" == ar "pile")=false from by trivial,show (ar "decided" == ar "aside")=false from by trivial,show (ar "decided" == ar "decided")=true from by trivial]
theorem zq:(chF v0 v1 v2 v3 v4 v5 v6 v7 v8 v9).lookup (ar "first_texts")=some v7:=by simp only[chF,alR,show (ar "first_texts" == ar "seats")=false from by trivial,show (ar "first_texts" == ar "sitting")=false from by trivial,show (ar "first_texts" == ar "closed")=false from by trivial,show (ar "first_texts" == ar "made")=false from by trivial,show (ar "first_texts" == ar "pile")=false from by trivial,show (ar "first_texts" == ar "aside")=false from by trivial,show (ar "first_texts" == ar "decided")=false from by trivial,show (ar "first_texts" == ar "first_texts")=true from by trivial]
theorem sM:(chF v0 v1 v2 v3 v4 v5 v6 v7 v8 v9).lookup (ar "edits_kept")=some v8:=by simp only[chF,alR,show (ar "edits_kept" == ar "seats")=false from by trivial,show (ar "edits_kept" == ar "sitting")=false from by trivial,show (ar "edits_kept" == ar "closed")=false from by trivial,show (ar "edits_kept" == ar "made")=false from by trivial,show (ar "edits_kept" == ar "pile")=false from by trivial,show (ar "edits_kept" == ar "aside")=false from by trivial,show (ar "edits_kept" == ar "decided")=false from by trivial,show (ar "edits_kept" == ar "first_texts")=false from by trivial,show (ar "edits_kept" == ar "edits_kept")=true from by trivial]
theorem wI:(chF v0 v1 v2 v3 v4 v5 v6 v7 v8 v9).lookup (ar "rows")=some v9:=by simp only[chF,alR,show (ar "rows" == ar "seats")=false from by trivial,show (ar "rows" == ar "sitting")=false from by trivial,show (ar "rows" == ar "closed")=false from by trivial,show (ar "rows" == ar "made")=false from by trivial,show (ar "rows" == ar "pile")=false from by trivial,show (ar "rows" == ar "aside")=false from by trivial,show (ar "rows" == ar "decided")=false from by trivial,show (ar "rows" == ar "first_texts")=false from by trivial,show (ar "rows" == ar "edits_kept")=false from by trivial,show (ar "rows" == ar "rows")=true from by trivial]
theorem GD:gD (ar "sitting") y (chF v0 v1 v2 v3 v4 v5 v6 v7 v8 v9)=chF v0 y v2 v3 v4 v5 v6 v7 v8 v9:=by
 unfold chF;simp only[gD];rw[if_neg (by trivial),if_pos trivial]
theorem B3:gD (ar "closed") y (chF v0 v1 v2 v3 v4 v5 v6 v7 v8 v9)=chF v0 v1 y v3 v4 v5 v6 v7 v8 v9:=by
 unfold chF;simp only[gD];rw[if_neg (by trivial),if_neg (by trivial),if_pos trivial]
theorem GF:gD (ar "pile") y (chF v0 v1 v2 v3 v4 v5 v6 v7 v8 v9)=chF v0 v1 v2 v3 y v5 v6 v7 v8 v9:=by
 unfold chF;simp only[gD];rw[if_neg (by trivial),if_neg (by trivial),if_neg (by trivial),if_neg (by trivial),if_pos trivial]
end
def M3 (A:Adr)(i:Nat):Sp:=λvs H Q E=>∃(o:Addr) (c:Col) (st:Ch),vs=[.ref o]/\dR A i c H o st/\(st.au≠[]->Q .non H)/\(st.au=[]->E (.ref A.i5) none H)
section
variable{P:rf}{w:World}{K:ba}{mg:Str->Option Value}{base:Heap}{A:Adr}
theorem m8 (T:Txt w.params K mg A){i:Nat}:a8 P w K mg base (CXX P w) 1 A.bu A.d7 ["self"] (M3 A i):=by
 refine T.cw.okX mF (λvs H Q E h=>?_) (λcdv A' outer s H vs Q E hr h=>?_)
 ·obtain⟨o,c,st,rfl,_⟩:=h;rfl
 ·obtain⟨o,c,st,rfl,hc,q1,q2⟩:=h;obtain⟨dx,aM,aP,aA,aD,aF,aE,aR,ms,ds,ws,fs,es,h1,h2,h3,h4,h5,h6,h7,h8,h9,h10,h11,h12,h13,h14⟩:=hc.ex;refine⟨_,(bD (ic (rH (rL (br (pv 0) rfl) (λ_=>rfl)))
 (bD (jM T.BQ rfl rfl T.DR (aa ao ag)))
 (vO aC))),?_⟩
  try dsimp only[bF]
  refine eS rfl h2 T.aq T.jq0 fm ?_;refine⟨_,.inl ⟨_,.inl (.inl h5.2),rfl⟩,?_⟩;cases e:st.au with
  |nil=>exact cN ⟨by decide,q2 e⟩
  |cons x r=>exact bM (q1 (by rw[e];exact alv _ _))
end
theorem bG.len {α β:Type}{R:α->β->Prop}:∀ {as:List α} {bs:List β},bG R as bs->as.length=bs.length
 |_,_,.nil=>rfl
 |_,_,.cons _ t=>by rw[alb,alb,t.len]
theorem bG.get {α β:Type}{R:α->β->Prop}:∀ {as:List α} {bs:List β} {i:Nat} {a:α},bG R as bs->as[i]?=some a->∃b,bs[i]?=some b/\R a b
 |_,_,_,_,.nil,h=>by simp at h
 |_,_,0,_,.cons h t,e=>by
  rw[alq]at e;cases e;exact⟨_,alq,h⟩
 |_,_,i+1,_,.cons h t,e=>by
  rw[alx]at e;obtain⟨b,e1,e2⟩:=t.get e;exact⟨b,by rw[alx];exact e1,e2⟩
theorem B4:∀(ms:List Addr) (s k:Nat) {o:Addr},ms[k]?=some o->g9 (bf ((alC s ms.length).zip (ms.map V.ref))) (ku ((s+k:Nat):Int))=some (.ref o)
 |[],_,_,_,h=>by simp at h
 |m::ms,s,0,o,h=>by
  rw[alq]at h;cases h;exact eR (p:=(ku ((s:Nat):Int),V.ref m)) rfl
 |m::ms,s,k+1,o,h=>by
  rw[alx]at h;have ih:=B4 ms (s+1) k h;have e:s+(k+1)=s+1+k:=by omega
  rw[e];refine(bX (p:=(ku ((s:Nat):Int),V.ref m)) ?_).trans ih;intro z;have z':((s:Nat):Int)=((s+1+k:Nat):Int):=Sum.inl.inj z;omega
def Ch.mo (st:Ch)(n:Nat):Mn:=st.made.getD (n - 1) .cls
def dX (st:Ch)(n:Nat):Prop:=1<=n/\n<=st.made.length
def M4 (A:Adr)(i:Nat):Sp:=λvs H Q _=>∃(o:Addr) (c:Col) (st:Ch),vs=[.ref o]/\dR A i c H o st/\(∀n∈st.au,dX st n)/\st.au.length<=1000 /\
 ∀R os,H R=none->bG (λn m=>mZ A c H (st.mo n) m) st.au os->Q (.ref R) (upd H R (.lst (os.map V.ref)))
theorem Mg {A:Adr}{c:Col}{H:Hp}{st:Ch}{ms:List Addr}(h:bG (λm p=>mZ A c H m p) st.made ms):∀(ns:List Nat),(∀n∈ns,dX st n)->bG (λn m=>mZ A c H (st.mo n) m) ns (ns.map λn=>ms.getD (n - 1) 0)
 |[],_=>.nil
 |n::ns,g=>by
  have hn:=g n gr;have hlt:n - 1 < st.made.length:=by have:=hn.1;have:=hn.2;omega
  obtain⟨b,e1,e2⟩:=h.get (adm hlt);refine .cons ?_ (Mg h ns λn hn=>g n (me _ hn))
  have e3:st.mo n=st.made[n - 1]:=by unfold Ch.mo;rw[alj,adm hlt];rfl
  have e4:ms.getD (n - 1) 0=b:=by rw[alj,e1];rfl
  show mZ A c H (st.mo n) (ms.getD (n - 1) 0);rw[e3,e4];exact e2
section
variable{P:rf}{w:World}{K:ba}{mg:Str->Option Value}{base:Heap}{A:Adr}
theorem vi (T:Txt w.params K mg A){i:Nat}:a8 P w K mg base CX0 1 A.bY A.iI ["self"] (M4 A i):=by
 refine T.eE.ok uK (λvs H Q E h=>?_) (λcdv A' outer s H vs Q E hr h=>?_)
 ·obtain⟨o,c,st,rfl,_⟩:=h;rfl
 ·obtain⟨o,c,st,rfl,hc,hp,hpl,q⟩:=h;obtain⟨dx,aM,aP,aA,aD,aF,aE,aR,ms,ds,ws,fs,es,h1,h2,h3,h4,h5,h6,h7,h8,h9,h10,h11,h12,h13,h14⟩:=hc.ex;have hu1:=hr.u1;refine⟨_,(aj (aB (Aq (scope:=jF) rT rfl (nK (br (pv 0) rfl)) (λ_ _ _ _ _=>(bh hu1 (RP (K:=K) rfl (pv 1) rfl) (pv 0) (λ_ _=>rfl)))))),?_⟩
  try dsimp only[bF]
  have ml:=h4.len;refine eS rfl h2 T.aq T.jq0 fm ?_;have hB:SqL K H aP (st.au.map nV):=SqL.of h5.2;refine⟨aP,rfl,⟨_,hB⟩,λR hR=>?_⟩
  have sR:∀ {o:HO},bw H (upd H R o):=aG hR;refine pj (K:=K) (a:=aP) (xs:=st.au.map nV) (λi ys H2=>ys=((st.au.take i).map λn=>V.ref (ms.getD (n - 1) 0))/\H2=upd H R (.lst ys)) ⟨rfl,rfl⟩ (by rw[bo,sizeLine_eq];omega) ?_ ?_ ?_
  ·rintro i ys H2 hi ⟨rfl,rfl⟩;rw[bo]at hi;exact⟨sR.seq hB,ae,by rw[bo,alD];omega⟩
  ·rintro i y ys H2 hy ⟨rfl,rfl⟩;refine aN λGq gq=>?_
   obtain⟨n,hn1,rfl⟩:∃n,st.au[i]?=some n/\nV n=y:=by
    rw[aln]at hy;cases ht:st.au[i]? with
    |none=>rw[ht]at hy;cases hy
    |some t=>rw[ht]at hy;exact⟨t,rfl,ak9 hy⟩
   have hn:=hp n (alw hn1);have hlt:n - 1 < ms.length:=by have:=hn.1;have:=hn.2;omega
   have hm:ms[n - 1]?=some (ms.getD (n - 1) 0):=by rw[alj,adm hlt];rfl
   have hv:=B4 ms 1 (n - 1) hm;rw[<-ml,show 1+(n - 1)=n by have:=hn.1;omega]at hv
   refine gq ?_;refine eS rfl (sR _ _ h2) T.aq T.jq2 iz ?_;refine⟨_,rfl,aM,_,rfl,.inl ⟨_,ku (n:Int),.inl (sR _ _ h3.2),rfl,hv.symm⟩,?_⟩;refine eD.mk (List.getElem?_eq_some_iff.mp hy).1 ae ⟨?_,by rw[nJ]⟩
   rw[ams,hn1,ko];rfl
  ·rintro ys H2 ⟨rfl,rfl⟩;rw[bo,amc];have:=q R _ hR (Mg h4 st.au hp);rw[List.map_map]at this;exact this
end
theorem bG.snoc {α β:Type}{R:α->β->Prop}:∀ {as:List α} {bs:List β} {a:α} {b:β},bG R as bs->R a b->bG R (as++[a]) (bs++[b])
 |_,_,_,_,.nil,h=>.cons h .nil
 |_,_,_,_,.cons g t,h=>.cons g (t.snoc h)
def PK (A:Adr)(i:Nat):Sp:=λvs H Q _=>∃(o:Addr) (wd:Str) (c:Col) (st:Ch) (pre:List Nat) (n:Nat),vs=[.ref o,.str wd]/\dR A i c H o st/\st.au=pre++[n]/\st.au.length<=1000/\st.decided.length<=1000 /\
 ∀c' H',Step (cM i) c c' H H'->dR A i c' H' o { st with au:=pre,decided:=st.decided++[(n,wd)] }->Q .non H'
section
variable{P:rf}{w:World}{K:ba}{mg:Str->Option Value}{base:Heap}{A:Adr}
theorem DZ (T:Txt w.params K mg A){i:Nat}:a8 P w K mg base CX0 1 A.cv A.ji ["self","word"] (PK A i):=by
 refine T.fg.ok vT (λvs H Q E h=>?_) (λcdv A' outer s H vs Q E hr h=>?_)
 ·obtain⟨o,wd,c,st,pre,n,rfl,_⟩:=h;rfl
 ·obtain⟨o,wd,c,st,pre,n,rfl,hc,hp,hpl,hdl,q⟩:=h;obtain⟨dx,aM,aP,aA,aD,aF,aE,aR,ms,ds,ws,fs,es,h1,h2,h3,h4,h5,h6,h7,h8,h9,h10,h11,h12,h13,h14⟩:=hc.ex;refine⟨_,(aj (bK (gJ si alk alm dj (br (pv 0) rfl) (aa (bg (aa (Oe si PySem.F.slot_list_pop PySem.F.type_list_pop Oi (br (pv 0) rfl)) (aa (pv 1) ag))) ag)))),?_⟩
  try dsimp only[bF]
  refine eS rfl h2 T.aq T.jqj yY ?_;have hy:(st.au.map nV)[(st.au.map nV).length - 1]?=some (nV n):=by rw[hp];simp
  have hdr:(st.au.map nV).dropLast=pre.map nV:=by rw[hp,ko];simp
  have nPD:aD≠aP:=λz=>by have:=h8.1;rw[z,h5.1]at this;cases this
  refine⟨.inl ⟨rfl,_,SqL.of h8.2⟩,eS rfl h2 T.aq T.jq0 fm ?_⟩;refine⟨.inl ⟨rfl,_,SqL.of h5.2⟩,aP,_,_,rfl,rfl,h5.2,hy,_,rfl,(sl 2),λp hp0=>?_⟩
  have np:∀ {a:Addr} {v:HO},H a=some v->a≠p:=by
   intro a v e z;subst z
   by_cases y:a=aP
   ·subst y;rw[ae]at hp0;cases hp0
   ·rw[av y,e]at hp0;cases hp0
  have nn:¬(λx=>x=some (i,Rl.au)\/x=some (i,Rl.decided)) (none:Option (Nat×Rl)):=by rintro (z | z) <;> cases z
  refine⟨aD,_,_,rfl,rfl,(av (np h8.2)).trans ((av nPD).trans h8.2),?_,?_⟩
  ·rw[bo,<-h9.len,sizeLine_eq];omega
  have sp:Step (λx=>x=some (i,Rl.au)\/x=some (i,Rl.decided)) c (az c p none) H (upd (upd (upd H aP (.lst (st.au.map nV).dropLast)) p (.tup [nV n,.str wd])) aD (.lst (ds.map V.ref++[.ref p]))) :=
   ((Step.upd nn (.inl h5.1)).trans (Step.new nn hp0)).trans (Step.upd nn (.inr (by rw[aw (np h8.2)];exact h8.1)))
  have ht:TupAt (az c p none) (upd (upd (upd H aP (.lst (st.au.map nV).dropLast)) p (.tup [nV n,.str wd])) aD (.lst (ds.map V.ref++[.ref p]))) p [nV n,.str wd] :=
   ⟨aX,.inl ((av (np h8.2).symm).trans ae)⟩
  have kp:LstAt i (az c p none) (upd (upd (upd H aP (.lst (st.au.map nV).dropLast)) p (.tup [nV n,.str wd])) aD (.lst (ds.map V.ref++[.ref p]))) .au aP (pre.map nV) :=
   ⟨by rw[aw (np h5.2)];exact h5.1,by rw[av nPD.symm,av (np h5.2),ae,hdr]⟩
  have kd:LstAt i (az c p none) (upd (upd (upd H aP (.lst (st.au.map nV).dropLast)) p (.tup [nV n,.str wd])) aD (.lst (ds.map V.ref++[.ref p]))) .decided aD ((ds++[p]).map V.ref) :=
   ⟨by rw[aw (np h8.2)];exact h8.1,by rw[ae,ko];rfl⟩
  generalize upd (upd (upd H aP (.lst (st.au.map nV).dropLast)) p (.tup [nV n,.str wd])) aD (.lst (ds.map V.ref++[.ref p]))=H' at sp ht kp kd ⊢;generalize az c p none=c' at sp ht kp kd;have no:∀r,r≠Rl.au->r≠Rl.decided->¬(λx=>x=some (i,Rl.au)\/x=some (i,Rl.decided)) (some (i,r)):=λr y1 y2=>by
   rintro (z | z)
   ·cases z;exact y1 rfl
   ·cases z;exact y2 rfl
  have hno:=no .ob (λz=>nomatch z) (λz=>nomatch z)
  refine q c' H' (sp.mono (by rintro x (z | z) <;> exact⟨_,z⟩) aL) ⟨dx,aM,aP,aA,aD,aF,aE,aR,ms,ds++[p],ws,fs,es,by rw[sp.col o _ h2 (by rw[h1];exact hno)];exact h1,sp.keep _ _ h2 (by rw[h1];exact hno),
   h3.keep (no .made (λz=>nomatch z) (λz=>nomatch z)) sp,h4.imp λ_ _ z=>z.step sp,kp,h6.keep (no .aH (λz=>nomatch z) (λz=>nomatch z)) sp,h7.imp ?_,kd,(h9.imp λ_ _ z=>z.step sp).snoc ht,
   h10.keep (no .firsts (λz=>nomatch z) (λz=>nomatch z)) sp,h11.imp ?_,h12.keep (no .kept (λz=>nomatch z) (λz=>nomatch z)) sp,h13.imp ?_,h14.keep (no .rows (λz=>nomatch z) (λz=>nomatch z)) sp⟩
  ·rintro x v ⟨t,a,e,z1,z2⟩;exact⟨t,a,e,z1.step sp,z2.keep (no (.fj x.1) (λz=>nomatch z) (λz=>nomatch z)) sp⟩
  ·rintro x v ⟨a,e,z⟩;exact⟨a,e,z.keep (no (.dD x.1) (λz=>nomatch z) (λz=>nomatch z)) sp⟩
  ·rintro x v ⟨a,ts,e,z1,z2⟩;exact⟨a,ts,e,z1.keep (no (.gZ x.1) (λz=>nomatch z) (λz=>nomatch z)) sp,z2.imp λ_ _ y=>y.step sp⟩
end
inductive Xc where
 |oF (b:Int) | iA | noChange | noFit | p8 (n:Int) | nothing | tooMany | tZ | Fp (n:Int) | B5
def Xc.At (A:Adr)(H:Hp):Xc->Value->Option Addr->Prop
 | .oF b,C,d=>C=.ref A.cI/\∃a,d=some a/\H a=some (.xd [(ar "bar",.int b)])
 | .iA,C,d=>C=.ref A.cg/\d=none
 | .noChange,C,d=>C=.ref A.cj/\d=none
 | .noFit,C,d=>C=.ref A.lV/\d=none
 | .p8 n,C,d=>C=.ref A.fK/\∃a,d=some a/\H a=some (.xd [(ar "sitting",.int n)])
 | .nothing,C,d=>C=.ref A.i5/\d=none
 | .tooMany,C,d=>C=.ref A.j2/\d=none
 | .tZ,C,d=>C=.ref A.j3/\d=none
 | .Fp n,C,d=>C=.ref A.jj/\∃a,d=some a/\H a=some (.xd [(ar "sitting",.int n)])
 | .B5,C,d=>C=.ref A.iJ/\d=none
def Xc.New (A:Adr)(H H':Hp)(x:Xc)(C:Value)(d:Option Addr):Prop:=x.At A H' C d/\∀a,d=some a->H a=none
theorem same_none {H H':Hp}(s:bw H H'){a:Addr}(h:H' a=none):H a=none:=by
 cases z:H a with
 |none=>rfl
 |some v=>rw[s _ _ z]at h;cases h
theorem yk {i:Int}(h0:-10000000000 < i)(h1:i < 10000000000):i.natAbs.log2 < 1920:=by
 have h:i.natAbs < 2 ^ 34:=by
  have:(10000000000:Int)<=2 ^ 34:=by decide
  omega
 by_cases hz:i.natAbs=0
 ·rw[hz];decide
 ·exact Nat.lt_trans ((Nat.log2_lt hz).mpr h) (by decide)
theorem D0 {i:Int}(h0:0<=i)(h1:i < 10000000000):(ar (toString i)).length<=20 :=
 ak3 (PyProof.Rows.toString_length_le h0 (by decide:(1:Nat)<=11) (by show i < (10:Int) ^ 11;omega)) (by decide)
theorem p9 {i:Int}(h0:0<=i)(h1:i < 10000000000):∃z,ED (.int i) z/\z.length<=10000 :=
 ⟨_,.int (yk (by omega) h1),ak3 (D0 h0 h1) (by decide)⟩
def qH (ms:List Mn):Int:=match ms.getLast? with
 |none=>-1
 |some m=>(m.k:Int)
def fN (cl:Bool)(ms:List Mn):Int:=if cl=true then (if (4:Int) > qH ms then 4 else qH ms) else qH ms
def qa (ms:List Mn):Bool:=ms.any λm=>decide (m.k=0)
def fO (ms:List Mn):Bool:=match ms.getLast? with
 |some (.chg e)=>!decide (e.k=1)
 |_=>false
def lS (ms:List Mn)(k:Nat):Bool:=if k=2 then fO ms else if k=1\/k=3\/k=4\/k=5 then qa ms else true
def fU (cl:Bool)(ms:List Mn)(k:Nat):Option Xc :=
 if (k:Int)<=fN cl ms then some (.oF (fN cl ms)) else if lS ms k=true then none else if qa ms=true then some .noChange else some .iA
theorem J8 (ms:List Mn):-1<=qH ms/\qH ms < 8:=by
 unfold qH;split
 ·omega
 ·rename_i m _;have:=m.k8;omega
theorem J9 (cl:Bool)(ms:List Mn):-1<=fN cl ms/\fN cl ms < 8:=by
 have:=J8 ms;unfold fN;split
 ·split <;> omega
 ·omega
def uz (A:Adr)(K:ba)(c:Col)(H:Hp)(B:Addr)(ms:List Mn)(os:List Addr):Prop:=SqL K H B (os.map V.ref)/\bG (λm p=>mZ A c H m p) ms os
theorem mZ.same {A:Adr}{c:Col}{H H':Hp}{m:Mn}{o:Addr}(s:bw H H')(h:mZ A c H m o):mZ A c H' m o:=h.step (Step.same (W:=λ_=>False) id s)
theorem uz.same {A:Adr}{K:ba}{c:Col}{H H':Hp}{B:Addr}{ms:List Mn}{os:List Addr}(s:bw H H')(h:uz A K c H B ms os):uz A K c H' B ms os:=⟨s.seq h.1,h.2.imp λ_ _ y=>y.same s⟩
def aa1 (A:Adr)(K:ba):Sp:=λvs H Q _=>∃(B:Addr) (cl:Bool) (c:Col) (ms:List Mn) (os:List Addr),vs=[.ref B,.bl cl]/\uz A K c H B ms os/\Q (.int (fN cl ms)) H
def aa2 (A:Adr)(K:ba):Sp:=λvs H Q _=>∃(B:Addr) (c:Col) (ms:List Mn) (os:List Addr),vs=[.ref B]/\uz A K c H B ms os/\ms.length<=1000/\∀H',bw H H'->Q (.bl (qa ms)) H'
def Wy (A:Adr)(K:ba):Sp:=λvs H Q _=>∃(B:Addr) (c:Col) (ms:List Mn) (os:List Addr),vs=[.ref B]/\uz A K c H B ms os/\∀H',bw H H'->Q (.bl (fO ms)) H'
def Sa (A:Adr)(K:ba):Sp:=λvs H Q _=>∃(k:Nat) (B:Addr) (c:Col) (ms:List Mn) (os:List Addr),vs=[.str (nm k),.ref B]/\k < 8/\uz A K c H B ms os/\ms.length<=1000/\∀H',bw H H'->Q (.bl (lS ms k)) H'
def aa3 (A:Adr)(K:ba):Sp:=λvs H Q E=>∃(k:Nat) (B:Addr) (cl:Bool) (c:Col) (ms:List Mn) (os:List Addr),vs=[.str (nm k),.ref B,.bl cl]/\k < 8/\uz A K c H B ms os/\ms.length<=1000 /\
 (fU cl ms k=none->∀H',bw H H'->Q .non H')/\∀x,fU cl ms k=some x->∀C d H',bw H H'->x.New A H H' C d->E C d H'
def Fq (A:Adr)(K:ba)(k:Nat):Sp:=λvs H Q E=>(k=0/\L8 A K vs H Q E)\/J6 A k vs H Q E
theorem B6 (pre:List Addr)(q:Addr):atI ((pre++[q]).map V.ref) (-1)=some (.ref q):=by
 rw[ko];exact gH _ _
theorem vj:∀k,k < 8->decide (V.str (nm k)=V.str (ar "matter"))=decide (k=0):=by trivial
theorem b7:∀k,k < 8->decide (V.str (nm k)=V.str (ar "change"))=decide (k=1):=by trivial
theorem ck:∀k,k < 8->decide (V.str (nm k)=V.str (ar "mend"))=decide (k=2):=by trivial
theorem gy:∀k,k < 8->decide (V.str (nm k)=V.str (ar "put off"))=decide (k=3):=by trivial
theorem jx:∀k,k < 8->decide (V.str (nm k)=V.str (ar "close"))=decide (k=4):=by trivial
theorem Fs:∀k,k < 8->decide (V.str (nm k)=V.str (ar "lay"))=decide (k=5):=by trivial
theorem m9:∀k,k < 8->decide (V.str (nm k)=V.str (ar "rest"))=decide (k=6):=by trivial
theorem dH:∀ {k:Nat} {v:V},atI (rowOf k v) 0=some (.str (nm k))
 | 0,_=>rfl
 | 1,_=>rfl
 | 2,_=>rfl
 | 3,_=>rfl
 | 4,_=>rfl
 | 5,_=>rfl
 | 6,_=>rfl
 | 7,_=>rfl
 |_+8,_=>rfl
theorem AD:∀k,decide (V.str (kn k)=V.str (ar "cut"))=decide (k=1)
 | 0=>by trivial
 | 1=>by trivial
 |n+2=>by rw[decide_eq_false (show ¬n+2=1 by omega)];show decide (V.str (ar "turn")=_)=_;trivial
theorem bG.last {α β:Type}{R:α->β->Prop}{as:List α}{pre:List β}{b:β}(h:bG R as (pre++[b])):∃as' a,as=as'++[a]/\bG R as' pre/\R a b:=by
 induction pre generalizing as with
 |nil =>
  cases h with
  |cons h t=>cases t;exact⟨[],_,rfl,.nil,h⟩
 |cons x r ih =>
  cases h with
  |cons h t =>
   obtain⟨as',a,rfl,h1,h2⟩:=ih t;exact⟨_::as',a,rfl,.cons h h1,h2⟩
theorem mB (ms:List Mn)(m:Mn):qH (ms++[m])=(m.k:Int):=by unfold qH;rw[alK]
section
variable{P:rf}{w:World}{K:ba}{mg:Str->Option Value}{base:Heap}{A:Adr}
theorem yZ (T:Txt w.params K mg A):a8 P w K mg base CX0 1 A.Bt A.xT ["self","bar"] (MT A.cI "bar"):=by
 refine T.mS.ok Bk (λvs H Q E h=>?_) (λcdv A' outer s H vs Q E hr h=>?_)
 ·obtain⟨e,v,rfl,_⟩:=h;rfl
 ·obtain⟨e,v,rfl,hx,⟨z,fz,zl⟩,q⟩:=h;refine⟨_,(ai (bK (A4 T.iG T.pZ rfl T.gX (aa (pv 0) (aa (Dt (mE (xy (pv 1) xx))) ag))))
 (aj (EG T.pZ (pv 0) (pv 1)))),?_⟩
  try dsimp only[bF]
  have sz:kg=16777216:=by decide
  have c5:(ar "barred by the bar ").length=18:=by trivial
  have e5:(alE++ar "barred by the bar ":Str).length=18:=by trivial
  refine⟨_,rfl,by rw[e5];omega,_,rfl,z,fz,by omega,by rw[len_app,e5];omega,by rw[len_app,e5];omega,e,_,rfl,hx,?_⟩
  exact⟨_,rfl,_,rfl,e,rfl,hx,λd hd=>q d hd⟩
theorem CZ (T:Txt w.params K mg A):a8 P w K mg base CX0 1 A.uY A.r8 ["self","sitting"] (MT A.fK "sitting"):=by
 refine T.jq.ok xD (λvs H Q E h=>?_) (λcdv A' outer s H vs Q E hr h=>?_)
 ·obtain⟨e,v,rfl,_⟩:=h;rfl
 ·obtain⟨e,v,rfl,hx,⟨z,fz,zl⟩,q⟩:=h;refine⟨_,(ai (bK (A4 T.iG T.nZ rfl T.gX (aa (pv 0) (aa (Dt (mE (xy (pv 1) xx))) ag))))
 (aj (EG T.nZ (pv 0) (pv 1)))),?_⟩
  try dsimp only[bF]
  have sz:kg=16777216:=by decide
  have c5:(ar "not later than the sitting ").length=27:=by trivial
  have e5:(alE++ar "not later than the sitting ":Str).length=27:=by trivial
  refine⟨_,rfl,by rw[e5];omega,_,rfl,z,fz,by omega,by rw[len_app,e5];omega,by rw[len_app,e5];omega,e,_,rfl,hx,?_⟩
  exact⟨_,rfl,_,rfl,e,rfl,hx,λd hd=>q d hd⟩
theorem GG (T:Txt w.params K mg A):a8 P w K mg base CX0 1 A.Bu A.xU ["self","sitting"] (MT A.jj "sitting"):=by
 refine T.mU.ok Bl (λvs H Q E h=>?_) (λcdv A' outer s H vs Q E hr h=>?_)
 ·obtain⟨e,v,rfl,_⟩:=h;rfl
 ·obtain⟨e,v,rfl,hx,⟨z,fz,zl⟩,q⟩:=h;refine⟨_,(ai (bK (A4 T.iG T.tY rfl T.gX (aa (pv 0) (aa (Dt (mE (xy (pv 1) xx))) ag))))
 (aj (EG T.tY (pv 0) (pv 1)))),?_⟩
  try dsimp only[bF]
  have sz:kg=16777216:=by decide
  have c5:(ar "aside until the sitting ").length=24:=by trivial
  have e5:(alE++ar "aside until the sitting ":Str).length=24:=by trivial
  refine⟨_,rfl,by rw[e5];omega,_,rfl,z,fz,by omega,by rw[len_app,e5];omega,by rw[len_app,e5];omega,e,_,rfl,hx,?_⟩
  exact⟨_,rfl,_,rfl,e,rfl,hx,λd hd=>q d hd⟩
theorem GH (T:Txt w.params K mg A):∀k,k < 8->a8 P w K mg base CX0 2 (A.ft k) (A.ftd k) ["self"] (Fq A K k)
 | 0,_=>(PB T).imp λvs H Q E h=>h.elim (λz=>z.2) (λz=>absurd z.1 (by decide))
 | 1,h=>(qE T 1 h).imp λvs H Q E h=>h.elim (λz=>absurd z.1 (by decide)) id
 | 2,h=>(qE T 2 h).imp λvs H Q E h=>h.elim (λz=>absurd z.1 (by decide)) id
 | 3,h=>(qE T 3 h).imp λvs H Q E h=>h.elim (λz=>absurd z.1 (by decide)) id
 | 4,h=>(qE T 4 h).imp λvs H Q E h=>h.elim (λz=>absurd z.1 (by decide)) id
 | 5,h=>(qE T 5 h).imp λvs H Q E h=>h.elim (λz=>absurd z.1 (by decide)) id
 | 6,h=>(qE T 6 h).imp λvs H Q E h=>h.elim (λz=>absurd z.1 (by decide)) id
 | 7,h=>(qE T 7 h).imp λvs H Q E h=>h.elim (λz=>absurd z.1 (by decide)) id
 |n+8,h=>absurd h (by omega)
theorem yl (T:Txt w.params K mg A):a8 P w K mg base CX0 3 A.JO A.xI ["pile","closed"] (aa1 A K):=by
 have Wz:∀k,k < 8->a8 P w K mg base CX0 2 A.f_r A.RT ["self"] (Py A):=λ_ _=>R4 T
 refine T.sg.ok Dy (λvs H Q E h=>?_) (λcdv A' outer s H vs Q E hr h=>?_)
 ·obtain⟨B,cl,c,ms,os,rfl,_⟩:=h;rfl
 ·obtain⟨B,cl,c,ms,os,rfl,⟨hB,ho⟩,q⟩:=h;refine⟨_,(ai (aY (i:=2) Dy.nd rfl (tm rfl) (FO (rL (pv 0) (λ_=>rfl)) (l8 (n:=8) (Cf:=A.C) (aK bx (pv 0) (jE gv af) (λ_ _=>rfl)) T.cl T.Pq Wz hr T.Pr aW) (jE gv af)))
 (ai (a9 (mC (pv 1))
 (aj (aB (cA (pe rfl) (by rfl) T.DQ AV (aa (pv 2) (aa (An (v:=V.int 4) rfl T.wu ⟨_,rfl⟩) ag)))))
 aC)
 (aj (aB (pv 2))))),?_⟩
  try dsimp only[bF]
  unfold fN at q;rcases ak4 os with h | ⟨pre,o,h⟩
  ·subst h;cases ho;refine⟨_,rfl,_,.inl ⟨_,hB,rfl⟩,bM ⟨_,rfl,?_⟩⟩;refine⟨_,rfl,_,rfl,?_⟩;cases cl with
   |true=>exact cN ⟨_,rfl,_,_,rfl,q⟩
   |false=>exact bM ⟨_,rfl,q⟩
  ·rw[ak5]at h;refine aN λGq gq=>?_
   subst h;obtain⟨ms',m,rfl,_,_,dx,v,hm,_⟩:=ho.last;rw[mB]at q;refine gq ?_;refine⟨_,rfl,_,.inl ⟨_,hB,rfl⟩,yO (by simp) ⟨_,rfl,_,rfl,B,_,_,_,rfl,rfl,hB,B6 pre o,m.k,m.k8,o,dx,_,rfl,hm,RZ m.k v,o,m.k,dx,_,m.k8,rfl,hm,lY m.k v,?_⟩⟩
   refine⟨_,rfl,_,rfl,?_⟩;cases cl with
   |true=>exact cN ⟨_,rfl,_,_,rfl,q⟩
   |false=>exact bM ⟨_,rfl,q⟩
theorem uA (T:Txt w.params K mg A):a8 P w K mg base CX0 2 A.uP A.oj ["pile"] (aa2 A K):=by
 have gY:∀k,k < 8->a8 P w K mg base CX0 1 (A.fk k) (A.fkd k) ["self"] (gx k):=lZ T;refine T.lW.ok CS (λvs H Q E h=>?_) (λcdv A' outer s H vs Q E hr h=>?_)
 ·obtain⟨B,c,ms,os,rfl,_⟩:=h;rfl
 ·obtain⟨B,c,ms,os,rfl,⟨hB,ho⟩,hl,q⟩:=h;refine⟨_,(aj (aB (cA (Oy rfl) (by rfl) T.T5 VL (aa (Aq (scope:=pE) zo rfl (nK (pv 0)) (λ_ _ _ _ _=>(gA bt (l8 (n:=8) (Cf:=A.C) (pv 0) T.cl T.ou gY hr T.oy aW) ao (aJ _)))) ag)))),?_⟩
  try dsimp only[bF]
  have lim:kg=16777216:=by decide
  have ol:=ho.len;refine⟨_,rfl,B,rfl,⟨_,hB⟩,λR hR=>?_⟩
  have sR:∀ {o:HO},bw H (upd H R o):=aG hR;refine pj (K:=K) (a:=B) (xs:=os.map V.ref) (λi ys H2=>ys=(ms.take i).map (λm=>V.bl (decide (m.k=0)))/\H2=upd H R (.lst ys)) ⟨rfl,rfl⟩ (by rw[bo];omega) ?_ ?_ ?_
  ·rintro i ys H2 hi ⟨rfl,rfl⟩;rw[bo]at hi;exact⟨sR.seq hB,ae,by rw[bo,alD];omega⟩
  ·rintro i y ys H2 hy ⟨rfl,rfl⟩;refine aN λGq gq=>?_
   have hi:i < ms.length:=by have:=(List.getElem?_eq_some_iff.mp hy).1;rw[bo]at this;omega
   obtain⟨o,ho1,_,dx,v,ho2,_⟩:=ho.get (adm hi);rw[aln,ho1]at hy;cases hy;refine gq ?_;refine⟨_,rfl,ms[i].k,ms[i].k8,o,dx,_,rfl,sR _ _ ho2,lY _ v,o,rfl,rfl,?_⟩;rw[vj _ ms[i].k8];refine eD.mk (by rw[bo];omega) ae ⟨?_,by rw[nJ]⟩
   rw[ams,adm hi,ko];rfl
  ·rintro ys H2 ⟨rfl,rfl⟩;rw[bo,<-ol,amc];refine⟨R,ms.map (λm=>decide (m.k=0)),rfl,SqL.of (by rw[ae,List.map_map];rfl),?_⟩
   rw[List.any_map];exact q _ sR
theorem ym (T:Txt w.params K mg A):a8 P w K mg base CX0 3 A.oo A.jV ["pile"] (Wy A K):=by
 have Ka:∀k,k < 8->a8 P w K mg base CX0 2 (A.ft k) (A.ftd k) ["self"] (Fq A K k):=GH T;refine T.lI.ok pF (λvs H Q E h=>?_) (λcdv A' outer s H vs Q E hr h=>?_)
 ·obtain⟨B,c,ms,os,rfl,_⟩:=h;rfl
 ·obtain⟨B,c,ms,os,rfl,⟨hB,ho⟩,q⟩:=h;refine⟨_,(ai (a9 (rH (rL (pv 0) (λ_=>rfl)))
 (aj (aB lO))
 aC)
 (ai (aY (i:=1) pF.nd rfl (tm rfl) (l8 (n:=8) (Cf:=A.C) (aK bx (pv 0) (jE gv af) (λ_ _=>rfl)) T.cl T.J2 Ka hr T.J3 aW))
 (aj (aB (Em (gA bt (aK aT (pv 1) af (λ_ _=>rfl)) ao (aJ _)) (AH (gA AM (aK aT (aK aT (pv 1) af (λ_ _=>rfl)) af (λ_ _=>rfl)) ao (aJ _)))))))),?_⟩
  try dsimp only[bF]
  rcases ak4 os with h | ⟨pre,o,h⟩
  ·subst h;cases ho;refine⟨_,rfl,_,.inl ⟨_,hB,rfl⟩,cN ?_⟩;exact q H (bw.refl _)
  ·rw[ak5]at h;subst h;refine⟨_,rfl,_,.inl ⟨_,hB,rfl⟩,yP (by simp) ?_⟩
   refine aN λGq gq=>?_
   obtain⟨ms',m,rfl,_,_,dx,v,hm,hv⟩:=ho.last;have gl:(ms'++[m]).getLast?=some m:=alK;unfold fO at q;rw[gl]at q;refine gq ?_;refine⟨_,rfl,_,rfl,B,_,_,_,rfl,rfl,hB,B6 pre o,m.k,m.k8,o,dx,_,rfl,hm,L6 m.k v,?_⟩
   by_cases h0:m.k=0
   ·obtain⟨tx,rfl⟩:∃tx,m=.mat tx:=by cases m <;> first | exact⟨_,rfl⟩ | exact absurd h0 (by simp[Mn.k])
    refine aN λGq gq=>?_
    obtain⟨p,rfl,_,hp⟩:=hv;refine gq ?_;refine .inl ⟨rfl,o,dx,p,tx.map V.str,rfl,hm,SqL.of hp,λp2 u hp2 hu npu=>?_⟩
    have nu:(upd H p2 (.lst (tx.map V.str))) u=none:=(av (alr npu)).trans hu;refine ixv rfl (SqT.of ae) rfl ⟨rfl,_,rfl,?_⟩;rw[b7 0 (by decide)]
    exact bM (q _ ((aG hp2).new nu))
   ·refine .inr ⟨by omega,o,dx,v,rfl,hm,λu hu=>?_⟩
    have su:=aG (o:=.tup (rowOf m.k v)) hu;refine ixv rfl (SqT.of ae) dH ⟨rfl,_,rfl,?_⟩;rw[b7 m.k m.k8]
    by_cases h1:m.k=1
    ·obtain⟨e,rfl⟩:∃e,m=.chg e:=by cases m <;> first | exact⟨_,rfl⟩ | exact absurd h1 (by simp[Mn.k])
     refine aN λGq gq=>?_
     obtain⟨t,rfl,ht⟩:=hv;refine gq ?_;refine yO (decide_eq_true rfl) (ixv rfl (SqT.of ae) rfl ⟨t,_,_,_,rfl,rfl,bP su ht.sq,oz e,rfl,?_⟩);rw[AD];exact q _ su
    ·rw[decide_eq_false h1];have q':∀H',bw H H'->Q (.bl false) H':=by
      cases m with
      |chg e=>exact absurd rfl h1
      |_=>exact q
     exact bM (q' _ su)
theorem lu (T:Txt w.params K mg A):a8 P w K mg base CX0 4 A.jf A.gK ["kind","pile"] (Sa A K):=by
 refine T.eL.ok rW (λvs H Q E h=>?_) (λcdv A' outer s H vs Q E hr h=>?_)
 ·obtain⟨k,B,c,ms,os,rfl,_⟩:=h;rfl
 ·obtain⟨k,B,c,ms,os,rfl,k8,hp,hl,q⟩:=h;refine⟨_,(ai (a9 (ay bt (pv 0) ao (aJ _))
 (aj (aB (aV (ym T) hr rfl T.qU T.lI.kp T.qT .nil aW (aa (pv 1) ag))))
 aC)
 (ai (a9 (ay tN (pv 0) (bg (aa ao (aa ao (aa ao (aa ao ag))))) rfl)
 (aj (aB (aV (uA T) (hr.mono (by decide)) rfl T.qC T.lW.kp T.qB .nil aW (aa (pv 1) ag))))
 aC)
 (aj (aB lO)))),?_⟩
  try dsimp only[bF]
  refine⟨_,rfl,rfl,_,rfl,?_⟩;rw[ck k k8];unfold lS at q
  by_cases h2:k=2
  ·rw[if_pos h2]at q;exact yO (decide_eq_true h2) ⟨_,rfl,B,c,ms,os,rfl,hp,q⟩
  ·rw[if_neg h2]at q;refine yP (decide_eq_false h2) ?_;refine⟨_,rfl,(sl 4),λt ht=>?_⟩
   have st:=aG (o:=.tup [V.str (ar "change"),V.str (ar "put off"),V.str (ar "close"),V.str (ar "lay")]) ht;refine⟨t,_,rfl,.inr (SqT.of ae),rfl,rfl,_,rfl,?_⟩;have ein:(if false=true then !inV (V.str (nm k)) [V.str (ar "change"),V.str (ar "put off"),V.str (ar "close"),V.str (ar "lay")] else inV (V.str (nm k)) [V.str (ar "change"),V.str (ar "put off"),V.str (ar "close"),V.str (ar "lay")])=decide (k=1\/k=3\/k=4\/k=5):=by
    have:∀k,k < 8->inV (V.str (nm k)) [V.str (ar "change"),V.str (ar "put off"),V.str (ar "close"),V.str (ar "lay")]=decide (k=1\/k=3\/k=4\/k=5):=by trivial
    exact this k k8
   rw[ein]
   by_cases h3:k=1\/k=3\/k=4\/k=5
   ·rw[if_pos h3]at q;exact yO (decide_eq_true h3) ⟨_,rfl,B,c,ms,os,rfl,hp.same st,hl,λH' s'=>q H' (st.trans s')⟩
   ·rw[if_neg h3]at q;exact yP (decide_eq_false h3) (q _ st)
theorem ud (T:Txt w.params K mg A):a8 P w K mg base (CXX P w) 5 A.jW A.ie ["kind","pile","closed"] (aa3 A K):=by
 refine T.iL.okX lQ (λvs H Q E h=>?_) (λcdv A' outer s H vs Q E hr h=>?_)
 ·obtain⟨k,B,cl,c,ms,os,rfl,_⟩:=h;rfl
 ·obtain⟨k,B,cl,c,ms,os,rfl,k8,hp,hl,q,qx⟩:=h;refine⟨_,(bc (psx (aY (i:=3) lQ.nd rfl (tm rfl) (aV (yl T) (hr.mono (by decide)) rfl T.wc T.sg.kp T.wb .nil aW (aa (pv 1) (aa (pv 2) ag)))))
 (bc (ic (ay uq (aK JE (An (v:=V.ref A.tab) rfl T.wA rfl) (pv 0) (λ_ _=>rfl)) (pv 3) (aJ _))
 (bD (qw T.pZ (yZ T) (hr.mono (by decide)) T.mT rfl rfl T.wD (aa (pv 3) ag)))
 (vO aC))
 (bD (ic (rH (mC (aV (lu T) hr rfl T.il T.eL.kp T.ij .nil aW (aa (pv 0) (aa (pv 1) ag)))))
 (bc (ic (mC (aV (uA T) (hr.mono (by decide)) rfl T.qC T.lW.kp T.qB .nil aW (aa (pv 1) ag)))
 (bD (jM T.yW rfl rfl T.va (aa ao ag)))
 (vO aC))
 (bD (jM T.yV rfl rfl T.u9 (aa (Dt (xy (pv 0) (mE xx))) ag))))
 (vO aC))))),?_⟩
  try dsimp only[bF]
  refine⟨_,rfl,_,rfl,B,cl,c,ms,os,rfl,hp,?_⟩;obtain⟨tk,htk⟩:=T.rk k k8;refine⟨_,rfl,A.tab,nm k,.int k,_,rfl,rfl,T.tb,htk,⟨_,rfl⟩,_,rfl,_,_,rfl,rfl,_,rfl,fD (λe=>?_) (λe=>?_)⟩
  ·have e':(k:Int)<=fN cl ms:=of_decide_eq_true e;have hb:=J9 cl ms;refine⟨_,rfl,_,rfl,p9 (by omega) (by omega),λd hd=>qx (.oF (fN cl ms)) (by unfold fU;rw[if_pos e']) _ _ _ (aG hd) ⟨⟨rfl,d,rfl,ae⟩,λ_ z=>by cases z;exact hd⟩⟩
  ·have e':¬(k:Int)<=fN cl ms:=λz=>e (decide_eq_true z)
   unfold fU at q qx;rw[if_neg e']at q qx;refine⟨_,rfl,_,rfl,k,B,c,ms,os,rfl,k8,hp,hl,λH' s'=>⟨_,rfl,?_⟩⟩
   cases hn:lS ms k with
   |true =>
    rw[hn,if_pos rfl]at q;exact bM (q rfl _ s')
   |false =>
    rw[hn,if_neg kr]at qx;refine cN ⟨_,rfl,B,c,ms,os,rfl,hp.same s',hl,λH2 s2=>⟨_,rfl,?_⟩⟩
    cases hm:qa ms with
    |true =>
     rw[hm,if_pos rfl]at qx;exact cN ⟨by decide,qx _ rfl _ _ _ (s'.trans s2) ⟨⟨rfl,rfl⟩,λ_ z=>nomatch z⟩⟩
    |false =>
     rw[hm,if_neg kr]at qx;refine bM ⟨_,rfl,nm k,.str,?_,?_,?_⟩
     ·have:∀k,k < 8->(nm k).length<=10:=by trivial
      exact ak3 (this k k8) (by decide)
     ·have:∀k,k < 8->(alE++nm k:Str).length<=10:=by trivial
      exact ak3 (this k k8) (by decide)
     ·have:∀k,k < 8->((alE++nm k)++ar " needs a matter on the pile":Str).length<=100:=by trivial
      have l:=ak3 (this k k8) (show 100<=kg by decide)
      exact⟨l,l,(sl 1),qx _ rfl _ _ _ (s'.trans s2) ⟨⟨rfl,rfl⟩,λ_ z=>nomatch z⟩⟩
theorem kh (T:Txt w.params K mg A):a8 P w K mg base CX0 1 A.f_n A.E6 ["self"] (Fg 0):=by
 refine T.F_n.ok Bc (λvs H Q E h=>?_) (λcdv A' outer s H vs Q E hr h=>?_)
 ·obtain⟨m,rfl,_⟩:=h;rfl
 ·obtain⟨m,rfl,q⟩:=h;exact⟨_,(aj (aB ao)),q⟩
theorem M5 (T:Txt w.params K mg A):a8 P w K mg base CX0 1 A.Wc A.O6 ["self"] (Fg 4):=by
 refine T.aaN.ok CO (λvs H Q E h=>?_) (λcdv A' outer s H vs Q E hr h=>?_)
 ·obtain⟨m,rfl,_⟩:=h;rfl
 ·obtain⟨m,rfl,q⟩:=h;exact⟨_,(aj (aB ao)),q⟩
theorem Sb (T:Txt w.params K mg A):∀k,k < 8->a8 P w K mg base CX0 1 (A.fn k) (A.fnd k) ["self"] (Fg k)
 | 0,_=>kh T
 | 1,_=>kh T
 | 2,_=>kh T
 | 3,_=>kh T
 | 4,_=>M5 T
 | 5,_=>kh T
 | 6,_=>kh T
 | 7,_=>kh T
 |n+8,h=>absurd h (by omega)
end
theorem l5 {a b:Nat}:((ku (a:Int):Key)=ku (b:Int))↔a=b:=⟨λh=>by have:=Sum.inl.inj h;omega,λh=>by rw[h]⟩
theorem dE {k:Nat}{v:V}{ks:List Nat}{vs:List V}:bf ((k::ks).zip (v::vs))=(ku (k:Int),v)::bf (ks.zip vs):=rfl
theorem qI {n:Nat}:∀ {ks:List Nat} {vs:List V},n∉ks->g9 (bf (ks.zip vs)) (ku (n:Int))=none
 |[],_,_=>rfl
 |_::_,[],_=>rfl
 |k::ks,v::vs,h=>by
  rw[dE,bX (λz=>h (by rw[l5.mp z];exact gr))]
  exact qI λz=>h (me _ z)
theorem D1 {n:Nat}{v:V}:∀ {ks:List Nat} {vs:List V} {j:Nat},ks.Nodup->ks[j]?=some n->vs[j]?=some v->g9 (bf (ks.zip vs)) (ku (n:Int))=some v
 |[],_,_,_,h,_=>by simp at h
 |_::_,[],_,_,_,h=>by simp at h
 |k::ks,u::vs,0,_,h,g=>by
  rw[alq]at h g;cases h;cases g;exact eR rfl
 |k::ks,u::vs,j+1,nd,h,g=>by
  rw[alx]at h g;obtain⟨n1,n2⟩:=List.nodup_cons.mp nd;rw[dE,bX (λz=>n1 (by rw[l5.mp z];exact alw h))]
  exact D1 n2 h g
theorem wJ {n:Nat}{v:V}:∀ {ks:List Nat} {vs:List V},n∉ks->(bf (ks.zip vs)).map (λkv=>if kv.1=(ku (n:Int):Key) then (kv.1,v) else kv)=bf (ks.zip vs)
 |[],_,_=>rfl
 |_::_,[],_=>rfl
 |k::ks,u::vs,h=>by
  rw[dE,km,wJ λz=>h (me _ z),if_neg (λz=>h (by rw[l5.mp z];exact gr))]
theorem D2 {n:Nat}{v:V}:∀ {ks:List Nat} {vs:List V} {j:Nat},ks.Nodup->ks[j]?=some n->(bf (ks.zip vs)).map (λkv=>if kv.1=(ku (n:Int):Key) then (kv.1,v) else kv)=bf (ks.zip (vs.set j v))
 |[],_,_,_,h=>by simp at h
 |k::ks,[],_,_,_=>by simp[bf]
 |k::ks,u::vs,0,nd,h=>by
  rw[alq]at h;cases h;rw[dE,km,wJ (List.nodup_cons.mp nd).1,if_pos rfl];rfl
 |k::ks,u::vs,j+1,nd,h=>by
  rw[alx]at h;obtain⟨n1,n2⟩:=List.nodup_cons.mp nd;rw[dE,km,D2 n2 h,if_neg (λz=>n1 (by rw[l5.mp z];exact alw h))]
  rfl
theorem M6 {n:Nat}{v:V}{ks:List Nat}{vs:List V}{j:Nat}(nd:ks.Nodup)(h:ks[j]?=some n)(l:ks.length=vs.length):putK (bf (ks.zip vs)) (ku (n:Int)) v=bf (ks.zip (vs.set j v)):=by
 have hj:j < vs.length:=by rw[<-l];exact(List.getElem?_eq_some_iff.mp h).1
 unfold putK;rw[rR,D1 nd h (adm hj)];exact(if_pos rfl).trans (D2 nd h)
theorem qb {n:Nat}{v:V}{ks:List Nat}{vs:List V}(h:n∉ks)(l:ks.length=vs.length):putK (bf (ks.zip vs)) (ku (n:Int)) v=bf ((ks++[n]).zip (vs++[v])):=by
 rw[OS v (qI h),List.zip_append l];unfold bf;rw[ko];rfl
section
variable{β:Type}{R:Nat×β->V->Prop}
def at1 (n:Nat)(xs:List (Nat×β)):Option (Nat×β):=xs.find? λx=>decide (x.1=n)
theorem jy {n:Nat}{xs:List (Nat×β)}{x:Nat×β}(h:at1 n xs=some x):x.1=n/\x∈xs:=by
 unfold at1 at h;have:=List.find?_some h;exact⟨of_decide_eq_true this,List.mem_of_find?_eq_some h⟩
theorem wK {n:Nat}{xs:List (Nat×β)}(h:at1 n xs=none):n∉xs.map (·.1):=λz=>by
 obtain⟨x,hx,e⟩:=List.mem_map.mp z;have:=List.find?_eq_none.mp h x hx;exact this (decide_eq_true e)
theorem bG.val {n:Nat}:∀ {xs:List (Nat×β)} {ws:List V} {x:Nat×β},bG R xs ws->at1 n xs=some x->∃v,g9 (bf ((xs.map (·.1)).zip ws)) (ku (n:Int))=some v/\R x v
 |_,_,_,.nil,h=>nomatch h
 |y::xs,w::ws,x,.cons g t,h=>by
  unfold at1 at h;rw[alO]at h
  by_cases e:y.1=n
  ·rw[decide_eq_true e]at h;cases h;exact⟨w,by rw[km,dE];exact eR (l5.mpr e),g⟩
  ·rw[decide_eq_false e]at h;obtain⟨v,h1,h2⟩:=bG.val t h;exact⟨v,by rw[km,dE,bX (λz=>e (l5.mp z))];exact h1,h2⟩
theorem bG.drop {n:Nat}:∀ {xs:List (Nat×β)} {ws:List V},bG R xs ws->∃ws',iR (bf ((xs.map (·.1)).zip ws)) (ku (n:Int))=bf (((xs.filter λx=>decide (x.1≠n)).map (·.1)).zip ws')/\bG R (xs.filter λx=>decide (x.1≠n)) ws'
 |_,_,.nil=>⟨[],rfl,.nil⟩
 |y::xs,w::ws,.cons g t=>by
  obtain⟨ws',h1,h2⟩:=bG.drop (n:=n) t
  by_cases e:y.1=n
  ·refine⟨ws',?_,?_⟩
   ·rw[List.filter_cons_of_neg (by simp[e]),<-h1,km,dE]
    unfold iR;rw[List.filter_cons_of_neg (by simp[e])]
   ·rw[List.filter_cons_of_neg (by simp[e])];exact h2
  ·refine⟨w::ws',?_,?_⟩
   ·rw[List.filter_cons_of_pos (by simp[e]),km,km,dE,dE,<-h1]
    unfold iR;have hne:(ku (y.1:Int):Key)≠ku (n:Int):=λz=>e (l5.mp z)
    rw[List.filter_cons_of_pos (by exact decide_eq_true hne)]
   ·rw[List.filter_cons_of_pos (by simp[e])];exact .cons g h2
theorem bG.aa4 {R':Nat×β->V->Prop}{n:Nat}{f:Nat×β->Nat×β}{v:V}(h1:∀x,x.1=n->R x v->R' (f x) v)(h2:∀x u,x.1≠n->R x u->R' x u):∀ {xs:List (Nat×β)} {ws:List V},bG R xs ws->(xs.map (·.1)).Nodup->g9 (bf ((xs.map (·.1)).zip ws)) (ku (n:Int))=some v ->
  bG R' (xs.map λx=>if x.1=n then f x else x) ws
 |_,_,.nil,_,h=>nomatch h
 |y::xs,w::ws,.cons g t,nd,h=>by
  rw[km]at nd;obtain⟨n1,n2⟩:=List.nodup_cons.mp nd;rw[km,dE]at h;rw[km]
  by_cases e:y.1=n
  ·rw[eR (l5.mpr e)]at h;cases h;rw[if_pos e];refine .cons (h1 y e g) ?_;have hne:∀x∈xs,x.1≠n:=λx hx z=>n1 (by rw[e,<-z];exact List.mem_map_of_mem hx)
   have em:xs.map (λx=>if x.1=n then f x else x)=xs:=by
    have:xs.map (λx=>if x.1=n then f x else x)=xs.map id:=aml λx hx=>if_neg (hne x hx)
    rw[this,List.map_id]
   rw[em];exact t.imp_mem λx hx u=>h2 x u (hne x hx)
  ·rw[bX (λz=>e (l5.mp z))]at h
   rw[if_neg e];exact .cons (h2 y w e g) (bG.aa4 h1 h2 t n2 h)
end
theorem bG.set {α β:Type}{R:α->β->Prop}:∀ {as:List α} {bs:List β} {a:α} {b:β} (j:Nat),bG R as bs->R a b->bG R (as.set j a) (bs.set j b)
 |_,_,_,_,_,.nil,_=>.nil
 |_,_,_,_,0,.cons _ t,h=>.cons h t
 |_,_,_,_,j+1,.cons g t,h=>.cons g (t.set j h)
def pOb:Rl->Bool | .ob=>true | _=>false
def T7:Rl->Bool | .rows=>true | _=>false
def Mh:Rl->Bool | .made=>true | _=>false
def T8:Rl->Bool | .au=>true | _=>false
def Sd:Rl->Bool | .ob=>true | .au=>true | .aH=>true | _=>false
def Mi (n:Nat):Rl->Bool | .gZ m=>decide (m=n) | _=>false
def aa5:Rl->Bool | .firsts=>true | _=>false
def aa6:Rl->Bool | .kept=>true | _=>false
def Mj (n:Nat):Rl->Bool | .ob=>true | .aH=>true | .fj m=>decide (m=n) | _=>false
theorem eh {i:Nat}{c:Col}{a b:Addr}{r r':Rl}(h:c a=some (i,r))(h':c b=some (i,r'))(n:r≠r'):a≠b:=λz=>by
 rw[z,h']at h;cases h;exact n rfl
section
variable{A:Adr}{i:Nat}{c c':Col}{H H':Hp}{o dx aM aP aA aD aF aE aR:Addr}{st:Ch}{ms ds:List Addr}{ws fs es:List V}
theorem ChX.free {W:Option (Nat×Rl)->Prop}(h:∀r,¬W (some (i,r)))(s:Step W c c' H H')(X:ChX A i c H o st dx aM aP aA aD aF aE aR ms ds ws fs es):ChX A i c' H' o st dx aM aP aA aD aF aE aR ms ds ws fs es:=by
 have hn:¬W (c o):=by rw[X.co];exact h _
 refine⟨by rw[s.col o _ X.ob hn];exact X.co,s.keep _ _ X.ob hn,X.made.keep (h _) s,sL s X.mot,X.au.keep (h _) s,X.aH.keep (h _) s,X.wait.imp ?_,X.dec.keep (h _) s,jw s X.m5,X.firsts.keep (h _) s,X.first.imp ?_,X.ll.keep (h _) s,X.kept.imp ?_,X.rows.keep (h _) s⟩
 ·rintro x v ⟨t,p,e,z1,z2⟩;exact⟨t,p,e,z1.step s,z2.keep (h _) s⟩
 ·rintro x v ⟨p,e,z⟩;exact⟨p,e,z.keep (h _) s⟩
 ·rintro x v ⟨p,ts,e,z1,z2⟩;exact⟨p,ts,e,z1.keep (h _) s,z2.imp λ_ _ y=>y.step s⟩
theorem ChX.same (s:bw H H')(X:ChX A i c H o st dx aM aP aA aD aF aE aR ms ds ws fs es):ChX A i c H' o st dx aM aP aA aD aF aE aR ms ds ws fs es:=X.free (W:=λ_=>False) (λ_=>id) (Step.same id s)
theorem ChX.cl (s:bw H H')(X:ChX A i c H o st dx aM aP aA aD aF aE aR ms ds ws fs es):ChX A i (bU c H) H' o st dx aM aP aA aD aF aE aR ms ds ws fs es:=X.free (W:=λ_=>False) (λ_=>id) (Step.cl id s)
theorem ChX.at (X:ChX A i c H o st dx aM aP aA aD aF aE aR ms ds ws fs es):dR A i c H o st:=⟨_,_,_,_,_,_,_,_,_,_,_,_,_,X⟩
theorem ChX.attr (X:ChX A i c H o st dx aM aP aA aD aF aE aR ms ds ws fs es)(n:Int)(b:Bool) :
  Step (Wr i pOb) c c H (upd H o (.ins A.ax dx (chF (.int st.cZ) (.int n) (.bl b) (.ref aM) (.ref aP) (.ref aA) (.ref aD) (.ref aF) (.ref aE) (.ref aR)))) /\
  ChX A i c (upd H o (.ins A.ax dx (chF (.int st.cZ) (.int n) (.bl b) (.ref aM) (.ref aP) (.ref aA) (.ref aD) (.ref aF) (.ref aE) (.ref aR)))) o { st with aU:=n,closed:=b } dx aM aP aA aD aF aE aR ms ds ws fs es:=by
 have s:Step (Wr i pOb) c c H (upd H o (.ins A.ax dx (chF (.int st.cZ) (.int n) (.bl b) (.ref aM) (.ref aP) (.ref aA) (.ref aD) (.ref aF) (.ref aE) (.ref aR)))):=Step.upd Wr.nn (Wr.yes X.co rfl);exact⟨s,X.co,ae,X.made.kp rfl s,sL s X.mot,X.au.kp rfl s,X.aH.kp rfl s,lq (λ_ _=>rfl) s X.wait,X.dec.kp rfl s,jw s X.m5,X.firsts.kp rfl s,uy (λ_ _=>rfl) s X.first,X.ll.kp rfl s,wH (λ_ _=>rfl) s X.kept,X.rows.kp rfl s⟩
theorem ChX.row (X:ChX A i c H o st dx aM aP aA aD aF aE aR ms ds ws fs es)(z:Str) :
  Step (Wr i T7) c c H (upd H aR (.lst (st.rows.map V.str++[.str z])))/\ChX A i c (upd H aR (.lst (st.rows.map V.str++[.str z]))) o { st with rows:=st.rows++[z] } dx aM aP aA aD aF aE aR ms ds ws fs es:=by
 have s:Step (Wr i T7) c c H (upd H aR (.lst (st.rows.map V.str++[.str z]))):=Step.upd Wr.nn (Wr.yes X.rows.1 rfl);have k:=mY rfl s X.co X.ob;exact⟨s,k.1,k.2,X.made.kp rfl s,sL s X.mot,X.au.kp rfl s,X.aH.kp rfl s,lq (λ_ _=>rfl) s X.wait,X.dec.kp rfl s,jw s X.m5,X.firsts.kp rfl s,uy (λ_ _=>rfl) s X.first,X.ll.kp rfl s,wH (λ_ _=>rfl) s X.kept,X.rows.1,by rw[ae,ko];rfl⟩
theorem ChX.push (X:ChX A i c H o st dx aM aP aA aD aF aE aR ms ds ws fs es)(n:Nat) :
  Step (Wr i T8) c c H (upd H aP (.lst (st.au.map nV++[nV n])))/\ChX A i c (upd H aP (.lst (st.au.map nV++[nV n]))) o { st with au:=st.au++[n] } dx aM aP aA aD aF aE aR ms ds ws fs es:=by
 have s:Step (Wr i T8) c c H (upd H aP (.lst (st.au.map nV++[nV n]))):=Step.upd Wr.nn (Wr.yes X.au.1 rfl);have k:=mY rfl s X.co X.ob;exact⟨s,k.1,k.2,X.made.kp rfl s,sL s X.mot,⟨X.au.1,by rw[ae,ko];rfl⟩,X.aH.kp rfl s,lq (λ_ _=>rfl) s X.wait,X.dec.kp rfl s,jw s X.m5,X.firsts.kp rfl s,uy (λ_ _=>rfl) s X.first,X.ll.kp rfl s,wH (λ_ _=>rfl) s X.kept,X.rows.kp rfl s⟩
theorem GI {n k:Nat}(h1:1<=n)(h2:n<=k):(alC 1 k)[n - 1]?=some n:=by
 rw[List.getElem?_range' (by omega)]
 congr 1
 omega
theorem ChX.Ml (X:ChX A i c H o st dx aM aP aA aD aF aE aR ms ds ws fs es){n:Nat}{m:Mn}{x:Addr}(hn:dX st n)(hm:mZ A c H m x) :
  Step (Wr i Mh) c c H (upd H aM (.dK (putK (bf ((alC 1 st.made.length).zip (ms.map V.ref))) (ku (n:Int)) (.ref x)))) /\
  ChX A i c (upd H aM (.dK (putK (bf ((alC 1 st.made.length).zip (ms.map V.ref))) (ku (n:Int)) (.ref x)))) o { st with made:=st.made.set (n - 1) m } dx aM aP aA aD aF aE aR (ms.set (n - 1) x) ds ws fs es:=by
 have s:Step (Wr i Mh) c c H (upd H aM (.dK (putK (bf ((alC 1 st.made.length).zip (ms.map V.ref))) (ku (n:Int)) (.ref x)))):=Step.upd Wr.nn (Wr.yes X.made.1 rfl);have k:=mY rfl s X.co X.ob;have ml:=X.mot.len;have e:=M6 (v:=.ref x) (List.nodup_range' (s:=1) (n:=st.made.length)) (GI hn.1 hn.2) (vs:=ms.map V.ref) (by rw[al5,bo];exact ml)
 have hd:jH i c (upd H aM (.dK (putK (bf ((alC 1 st.made.length).zip (ms.map V.ref))) (ku (n:Int)) (.ref x)))) .made aM ((alC 1 (st.made.set (n - 1) m).length).zip ((ms.set (n - 1) x).map V.ref)) :=
  ⟨X.made.1,by rw[ae,e,alZ,List.map_set]⟩
 exact⟨s,k.1,k.2,hd,(sL s X.mot).set _ (hm.step s),X.au.kp rfl s,X.aH.kp rfl s,lq (λ_ _=>rfl) s X.wait,X.dec.kp rfl s,jw s X.m5,X.firsts.kp rfl s,uy (λ_ _=>rfl) s X.first,X.ll.kp rfl s,wH (λ_ _=>rfl) s X.kept,X.rows.kp rfl s⟩
theorem ChX.Se (X:ChX A i c H o st dx aM aP aA aD aF aE aR ms ds ws fs es){m:Mn}{x:Addr}(hm:mZ A c H m x) :
  Step (Wr i Mh) c c H (upd H aM (.dK (putK (bf ((alC 1 st.made.length).zip (ms.map V.ref))) (ku ((st.made.length+1:Nat):Int)) (.ref x)))) /\
  ChX A i c (upd H aM (.dK (putK (bf ((alC 1 st.made.length).zip (ms.map V.ref))) (ku ((st.made.length+1:Nat):Int)) (.ref x)))) o { st with made:=st.made++[m] } dx aM aP aA aD aF aE aR (ms++[x]) ds ws fs es:=by
 have s:Step (Wr i Mh) c c H (upd H aM (.dK (putK (bf ((alC 1 st.made.length).zip (ms.map V.ref))) (ku ((st.made.length+1:Nat):Int)) (.ref x)))):=Step.upd Wr.nn (Wr.yes X.made.1 rfl);have k:=mY rfl s X.co X.ob;have ml:=X.mot.len;have e:=qb (v:=.ref x) (n:=st.made.length+1) (ks:=alC 1 st.made.length) (vs:=ms.map V.ref) (by rw[amh];omega) (by rw[al5,bo];exact ml)
 have hd:jH i c (upd H aM (.dK (putK (bf ((alC 1 st.made.length).zip (ms.map V.ref))) (ku ((st.made.length+1:Nat):Int)) (.ref x)))) .made aM ((alC 1 (st.made++[m]).length).zip ((ms++[x]).map V.ref)) :=
  ⟨X.made.1,by rw[ae,e,ma,ala,List.range'_concat,ko,Nat.one_mul,Nat.add_comm 1];rfl⟩
 exact⟨s,k.1,k.2,hd,(sL s X.mot).snoc (hm.step s),X.au.kp rfl s,X.aH.kp rfl s,lq (λ_ _=>rfl) s X.wait,X.dec.kp rfl s,jw s X.m5,X.firsts.kp rfl s,uy (λ_ _=>rfl) s X.first,X.ll.kp rfl s,wH (λ_ _=>rfl) s X.kept,X.rows.kp rfl s⟩
def rq (n:Nat)(e:Ed)(xs:List (Nat×List Ed)):List (Nat×List Ed):=xs.map λx=>if x.1=n then (x.1,x.2++[e]) else x
theorem ChX.gz (X:ChX A i c H o st dx aM aP aA aD aF aE aR ms ds ws fs es){n:Nat}{x:Nat×List Ed}(hx:at1 n st.kept=some x):∃(p:Addr) (ts:List Addr),g9 (bf ((st.kept.map (·.1)).zip es)) (ku (n:Int))=some (.ref p)/\LstAt i c H (.gZ n) p (ts.map V.ref)/\ts.length=x.2.length:=by
 obtain⟨v,h1,p,ts,rfl,h2,h3⟩:=X.kept.val hx;rw[(jy hx).1]at h2;exact⟨p,ts,h1,h2,h3.len.symm⟩
theorem ChX.Ft (X:ChX A i c H o st dx aM aP aA aD aF aE aR ms ds ws fs es){n:Nat}{e:Ed}{t p:Addr}{ts:List Addr}(hv:g9 (bf ((st.kept.map (·.1)).zip es)) (ku (n:Int))=some (.ref p))(hl:LstAt i c H (.gZ n) p (ts.map V.ref))(nd:(st.kept.map (·.1)).Nodup)(ht:TupAt c H t (eG e)) :
  Step (Wr i (Mi n)) c c H (upd H p (.lst (ts.map V.ref++[.ref t])))/\ChX A i c (upd H p (.lst (ts.map V.ref++[.ref t]))) o { st with kept:=rq n e st.kept } dx aM aP aA aD aF aE aR ms ds ws fs es:=by
 have s:Step (Wr i (Mi n)) c c H (upd H p (.lst (ts.map V.ref++[.ref t]))):=Step.upd Wr.nn (Wr.yes hl.1 (decide_eq_true rfl));have k:=mY rfl s X.co X.ob;have ek:(rq n e st.kept).map (·.1)=st.kept.map (·.1):=by
  unfold rq;rw[List.map_map];refine aml λx _=>?_
  show (if x.1=n then (x.1,x.2++[e]) else x).1=x.1
  split <;> rfl
 refine⟨s,k.1,k.2,X.made.kp rfl s,sL s X.mot,X.au.kp rfl s,X.aH.kp rfl s,lq (λ_ _=>rfl) s X.wait,X.dec.kp rfl s,jw s X.m5,X.firsts.kp rfl s,uy (λ_ _=>rfl) s X.first,by show jH i c _ .kept aE (((rq n e st.kept).map (·.1)).zip es);rw[ek];exact X.ll.kp rfl s,?_,X.rows.kp rfl s⟩
 refine bG.aa4 (f:=λx=>(x.1,x.2++[e])) (v:=.ref p) ?_ ?_ X.kept nd hv
 ·rintro x e1 ⟨q,us,e2,z1,z2⟩;cases e2;have e3:us.map V.ref=ts.map V.ref:=by
   have:=z1.2;rw[hl.2]at this;injection this with this
   injection this with this
   exact this.symm
  refine⟨p,us++[t],rfl,⟨z1.1,?_⟩,(z2.imp λ_ _ y=>y.step s).snoc (ht.step s)⟩
  rw[ae,<-e3,ko];rfl
 ·rintro x u e1 ⟨q,us,rfl,z1,z2⟩;exact⟨q,us,rfl,z1.kp (decide_eq_false e1) s,z2.imp λ_ _ y=>y.step s⟩
theorem ChX.PL (X:ChX A i c H o st dx aM aP aA aD aF aE aR ms ds ws fs es){n:Nat}{tx:List Str}{p:Addr}(hp:H p=none)(hn:n∉st.firsts.map (·.1)) :
  Step (Wr i aa5) c (az c p (some (i,.dD n))) H (upd (upd H p (.lst (tx.map V.str))) aF (.dK (putK (bf ((st.firsts.map (·.1)).zip fs)) (ku (n:Int)) (.ref p)))) /\
  ChX A i (az c p (some (i,.dD n))) (upd (upd H p (.lst (tx.map V.str))) aF (.dK (putK (bf ((st.firsts.map (·.1)).zip fs)) (ku (n:Int)) (.ref p)))) o { st with firsts:=st.firsts++[(n,tx)] } dx aM aP aA aD aF aE aR ms ds ws (fs++[.ref p]) es:=by
 have np:∀ {a:Addr} {v:HO},H a=some v->a≠p:=λe=>aI e hp
 have s:Step (Wr i aa5) c (az c p (some (i,.dD n))) H (upd (upd H p (.lst (tx.map V.str))) aF (.dK (putK (bf ((st.firsts.map (·.1)).zip fs)) (ku (n:Int)) (.ref p)))) :=
  (Step.new Wr.nn hp).trans (Step.upd Wr.nn ⟨.firsts,by rw[aw (np X.firsts.2)];exact X.firsts.1,rfl⟩)
 have k:=mY rfl s X.co X.ob;have e:=qb (v:=.ref p) hn (vs:=fs) (by rw[bo];exact X.first.len)
 have hd:jH i (az c p (some (i,.dD n))) (upd (upd H p (.lst (tx.map V.str))) aF (.dK (putK (bf ((st.firsts.map (·.1)).zip fs)) (ku (n:Int)) (.ref p)))) .firsts aF (((st.firsts++[(n,tx)]).map (·.1)).zip (fs++[.ref p])) :=
  ⟨by rw[aw (np X.firsts.2)];exact X.firsts.1,by rw[ae,e,ko];rfl⟩
 have hl:Fo i (az c p (some (i,.dD n))) (upd (upd H p (.lst (tx.map V.str))) aF (.dK (putK (bf ((st.firsts.map (·.1)).zip fs)) (ku (n:Int)) (.ref p)))) (n,tx) (.ref p) :=
  ⟨p,rfl,aX,(av (np X.firsts.2).symm).trans ae⟩
 exact⟨s,k.1,k.2,X.made.kp rfl s,sL s X.mot,X.au.kp rfl s,X.aH.kp rfl s,lq (λ_ _=>rfl) s X.wait,X.dec.kp rfl s,jw s X.m5,hd,(uy (λ_ _=>rfl) s X.first).snoc hl,X.ll.kp rfl s,wH (λ_ _=>rfl) s X.kept,X.rows.kp rfl s⟩
theorem ChX.Sf (X:ChX A i c H o st dx aM aP aA aD aF aE aR ms ds ws fs es){n:Nat}{p:Addr}(hp:H p=none)(hn:n∉st.kept.map (·.1)) :
  Step (Wr i aa6) c (az c p (some (i,.gZ n))) H (upd (upd H p (.lst [])) aE (.dK (putK (bf ((st.kept.map (·.1)).zip es)) (ku (n:Int)) (.ref p)))) /\
  ChX A i (az c p (some (i,.gZ n))) (upd (upd H p (.lst [])) aE (.dK (putK (bf ((st.kept.map (·.1)).zip es)) (ku (n:Int)) (.ref p)))) o { st with kept:=st.kept++[(n,([]:List Ed))] } dx aM aP aA aD aF aE aR ms ds ws fs (es++[.ref p]):=by
 have np:∀ {a:Addr} {v:HO},H a=some v->a≠p:=λe=>aI e hp
 have s:Step (Wr i aa6) c (az c p (some (i,.gZ n))) H (upd (upd H p (.lst [])) aE (.dK (putK (bf ((st.kept.map (·.1)).zip es)) (ku (n:Int)) (.ref p)))) :=
  (Step.new Wr.nn hp).trans (Step.upd Wr.nn ⟨.kept,by rw[aw (np X.ll.2)];exact X.ll.1,rfl⟩)
 have k:=mY rfl s X.co X.ob;have e:=qb (v:=.ref p) hn (vs:=es) (by rw[bo];exact X.kept.len)
 have hd:jH i (az c p (some (i,.gZ n))) (upd (upd H p (.lst [])) aE (.dK (putK (bf ((st.kept.map (·.1)).zip es)) (ku (n:Int)) (.ref p)))) .kept aE (((st.kept++[(n,([]:List Ed))]).map (·.1)).zip (es++[.ref p])) :=
  ⟨by rw[aw (np X.ll.2)];exact X.ll.1,by rw[ae,e,ko];rfl⟩
 have hl:Mf i (az c p (some (i,.gZ n))) (upd (upd H p (.lst [])) aE (.dK (putK (bf ((st.kept.map (·.1)).zip es)) (ku (n:Int)) (.ref p)))) (n,[]) (.ref p) :=
  ⟨p,[],rfl,⟨aX,(av (np X.ll.2).symm).trans ae⟩,.nil⟩
 exact⟨s,k.1,k.2,X.made.kp rfl s,sL s X.mot,X.au.kp rfl s,X.aH.kp rfl s,lq (λ_ _=>rfl) s X.wait,X.dec.kp rfl s,jw s X.m5,X.firsts.kp rfl s,uy (λ_ _=>rfl) s X.first,hd,(wH (λ_ _=>rfl) s X.kept).snoc hl,X.rows.kp rfl s⟩
def Ch.nI (st:Ch)(n:Nat)(u:Int):Ch:={ st with au:=[],aH:=st.aH++[(n,u,st.au)] }
theorem ChX.nI (X:ChX A i c H o st dx aM aP aA aD aF aE aR ms ds ws fs es){n:Nat}{u:Int}{t p:Addr}(ht:H t=none)(hp:H p=none)(ntp:p≠t)(hn:n∉st.aH.map (·.1)) :
  ∃c',Step (Wr i Sd) c c' H (upd (upd (upd (upd H t (.tup [.int u,.ref aP])) aA (.dK (putK (bf ((st.aH.map (·.1)).zip ws)) (ku (n:Int)) (.ref t)))) p (.lst [])) o (.ins A.ax dx (chF (.int st.cZ) (.int st.aU) (.bl st.closed) (.ref aM) (.ref p) (.ref aA) (.ref aD) (.ref aF) (.ref aE) (.ref aR)))) /\
  ChX A i c' (upd (upd (upd (upd H t (.tup [.int u,.ref aP])) aA (.dK (putK (bf ((st.aH.map (·.1)).zip ws)) (ku (n:Int)) (.ref t)))) p (.lst [])) o (.ins A.ax dx (chF (.int st.cZ) (.int st.aU) (.bl st.closed) (.ref aM) (.ref p) (.ref aA) (.ref aD) (.ref aF) (.ref aE) (.ref aR)))) o (st.nI n u) dx aM p aA aD aF aE aR ms ds (ws++[.ref t]) fs es:=by
 have nt:∀ {a:Addr} {v:HO},H a=some v->a≠t:=λe=>aI e ht
 have np:∀ {a:Addr} {v:HO},H a=some v->a≠p:=λe=>aI e hp
 have oA:o≠aA:=eh X.co X.aH.1 (λz=>nomatch z)
 have oP:o≠aP:=eh X.co X.au.1 (λz=>nomatch z)
 have AP:aA≠aP:=eh X.aH.1 X.au.1 (λz=>nomatch z)
 have e:=qb (v:=.ref t) hn (vs:=ws) (by rw[bo];exact X.wait.len)
 have hp2:(upd (upd H t (.tup [.int u,.ref aP])) aA (.dK (putK (bf ((st.aH.map (·.1)).zip ws)) (ku (n:Int)) (.ref t)))) p=none:=by
  rw[av (np X.aH.2).symm,av ntp];exact hp
 refine⟨az (az (az c t none) p (some (i,.au))) aP (some (i,.fj n)),?_⟩;have s:Step (Wr i Sd) c (az (az (az c t none) p (some (i,.au))) aP (some (i,.fj n))) H (upd (upd (upd (upd H t (.tup [.int u,.ref aP])) aA (.dK (putK (bf ((st.aH.map (·.1)).zip ws)) (ku (n:Int)) (.ref t)))) p (.lst [])) o (.ins A.ax dx (chF (.int st.cZ) (.int st.aU) (.bl st.closed) (.ref aM) (.ref p) (.ref aA) (.ref aD) (.ref aF) (.ref aE) (.ref aR)))):=by
  refine((((Step.new Wr.nn ht).trans (Step.upd Wr.nn ⟨.aH,?_,rfl⟩)).trans (Step.new Wr.nn hp2)).trans (Step.upd Wr.nn ⟨.ob,?_,rfl⟩)).trans (Step.role Wr.nn ⟨.au,?_,rfl⟩)
  ·rw[aw (nt X.aH.2)];exact X.aH.1
  ·rw[aw (np X.ob),aw (nt X.ob)];exact X.co
  ·rw[aw (np X.au.2),aw (nt X.au.2)];exact X.au.1
 have k1:az (az (az c t none) p (some (i,.au))) aP (some (i,.fj n)) o=some (i,.ob):=by
  rw[aw oP,aw (np X.ob),aw (nt X.ob)];exact X.co
 have hd:jH i (az (az (az c t none) p (some (i,.au))) aP (some (i,.fj n))) (upd (upd (upd (upd H t (.tup [.int u,.ref aP])) aA (.dK (putK (bf ((st.aH.map (·.1)).zip ws)) (ku (n:Int)) (.ref t)))) p (.lst [])) o (.ins A.ax dx (chF (.int st.cZ) (.int st.aU) (.bl st.closed) (.ref aM) (.ref p) (.ref aA) (.ref aD) (.ref aF) (.ref aE) (.ref aR)))) .aH aA (((st.aH++[(n,u,st.au)]).map (·.1)).zip (ws++[.ref t])) :=
  ⟨by rw[aw AP,aw (np X.aH.2),aw (nt X.aH.2)];exact X.aH.1,by rw[av oA.symm,av (np X.aH.2),ae,e,ko];rfl⟩
 have hl:LstAt i (az (az (az c t none) p (some (i,.au))) aP (some (i,.fj n))) (upd (upd (upd (upd H t (.tup [.int u,.ref aP])) aA (.dK (putK (bf ((st.aH.map (·.1)).zip ws)) (ku (n:Int)) (.ref t)))) p (.lst [])) o (.ins A.ax dx (chF (.int st.cZ) (.int st.aU) (.bl st.closed) (.ref aM) (.ref p) (.ref aA) (.ref aD) (.ref aF) (.ref aE) (.ref aR)))) (.fj n) aP (st.au.map nV) :=
  ⟨aX,by rw[av oP.symm,av (np X.au.2),av AP.symm,av (nt X.au.2)];exact X.au.2⟩
 have hn':LstAt i (az (az (az c t none) p (some (i,.au))) aP (some (i,.fj n))) (upd (upd (upd (upd H t (.tup [.int u,.ref aP])) aA (.dK (putK (bf ((st.aH.map (·.1)).zip ws)) (ku (n:Int)) (.ref t)))) p (.lst [])) o (.ins A.ax dx (chF (.int st.cZ) (.int st.aU) (.bl st.closed) (.ref aM) (.ref p) (.ref aA) (.ref aD) (.ref aF) (.ref aE) (.ref aR)))) .au p [] :=
  ⟨by rw[aw (np X.au.2).symm,aX],by rw[av (np X.ob).symm,ae]⟩
 have htt:TupAt (az (az (az c t none) p (some (i,.au))) aP (some (i,.fj n))) (upd (upd (upd (upd H t (.tup [.int u,.ref aP])) aA (.dK (putK (bf ((st.aH.map (·.1)).zip ws)) (ku (n:Int)) (.ref t)))) p (.lst [])) o (.ins A.ax dx (chF (.int st.cZ) (.int st.aU) (.bl st.closed) (.ref aM) (.ref p) (.ref aA) (.ref aD) (.ref aF) (.ref aE) (.ref aR)))) t [.int u,.ref aP] :=
  ⟨by rw[aw (nt X.au.2).symm,aw ntp.symm,aX],.inl (by rw[av (nt X.ob).symm,av ntp.symm,av (nt X.aH.2).symm,ae])⟩
 exact⟨s,k1,ae,X.made.kp rfl s,sL s X.mot,hn',hd,(lq (λ_ _=>rfl) s X.wait).snoc ⟨t,aP,rfl,htt,hl⟩,X.dec.kp rfl s,jw s X.m5,X.firsts.kp rfl s,uy (λ_ _=>rfl) s X.first,X.ll.kp rfl s,wH (λ_ _=>rfl) s X.kept,X.rows.kp rfl s⟩
def Ch.qZ (st:Ch)(n:Nat)(pl:List Nat):Ch:={ st with au:=pl,aH:=st.aH.filter λx=>decide (x.1≠n) }
theorem ChX.waitOf (X:ChX A i c H o st dx aM aP aA aD aF aE aR ms ds ws fs es){n:Nat}{x:Nat×Int×List Nat}(hx:at1 n st.aH=some x):∃t p,g9 (bf ((st.aH.map (·.1)).zip ws)) (ku (n:Int))=some (.ref t)/\TupAt c H t [.int x.2.1,.ref p]/\LstAt i c H (.fj n) p (x.2.2.map nV):=by
 obtain⟨v,h1,t,p,rfl,h2,h3⟩:=X.wait.val hx;rw[(jy hx).1]at h3;exact⟨t,p,h1,h2,h3⟩
theorem ChX.qZ (X:ChX A i c H o st dx aM aP aA aD aF aE aR ms ds ws fs es){n:Nat}{p:Addr}{pl:List Nat}(hl:LstAt i c H (.fj n) p (pl.map nV)) :
  ∃c' ws',Step (Wr i (Mj n)) c c' H (upd (upd H aA (.dK (iR (bf ((st.aH.map (·.1)).zip ws)) (ku (n:Int))))) o (.ins A.ax dx (chF (.int st.cZ) (.int st.aU) (.bl st.closed) (.ref aM) (.ref p) (.ref aA) (.ref aD) (.ref aF) (.ref aE) (.ref aR)))) /\
  ChX A i c' (upd (upd H aA (.dK (iR (bf ((st.aH.map (·.1)).zip ws)) (ku (n:Int))))) o (.ins A.ax dx (chF (.int st.cZ) (.int st.aU) (.bl st.closed) (.ref aM) (.ref p) (.ref aA) (.ref aD) (.ref aF) (.ref aE) (.ref aR)))) o (st.qZ n pl) dx aM p aA aD aF aE aR ms ds ws' fs es:=by
 have oA:o≠aA:=eh X.co X.aH.1 (λz=>nomatch z)
 have op:o≠p:=eh X.co hl.1 (λz=>nomatch z)
 have Ap:aA≠p:=eh X.aH.1 hl.1 (λz=>nomatch z)
 obtain⟨ws',e1,e2⟩:=X.wait.drop (n:=n);refine⟨az c p (some (i,.au)),ws',?_⟩;have s:Step (Wr i (Mj n)) c (az c p (some (i,.au))) H (upd (upd H aA (.dK (iR (bf ((st.aH.map (·.1)).zip ws)) (ku (n:Int))))) o (.ins A.ax dx (chF (.int st.cZ) (.int st.aU) (.bl st.closed) (.ref aM) (.ref p) (.ref aA) (.ref aD) (.ref aF) (.ref aE) (.ref aR)))) :=
  ((Step.upd Wr.nn ⟨.aH,X.aH.1,rfl⟩).trans (Step.upd Wr.nn ⟨.ob,X.co,rfl⟩)).trans (Step.role Wr.nn ⟨.fj n,hl.1,decide_eq_true rfl⟩)
 have k1:az c p (some (i,.au)) o=some (i,.ob):=by rw[aw op];exact X.co
 have hd:jH i (az c p (some (i,.au))) (upd (upd H aA (.dK (iR (bf ((st.aH.map (·.1)).zip ws)) (ku (n:Int))))) o (.ins A.ax dx (chF (.int st.cZ) (.int st.aU) (.bl st.closed) (.ref aM) (.ref p) (.ref aA) (.ref aD) (.ref aF) (.ref aE) (.ref aR)))) .aH aA (((st.aH.filter λx=>decide (x.1≠n)).map (·.1)).zip ws') :=
  ⟨by rw[aw Ap];exact X.aH.1,by rw[av oA.symm,ae,e1]⟩
 have hpl:LstAt i (az c p (some (i,.au))) (upd (upd H aA (.dK (iR (bf ((st.aH.map (·.1)).zip ws)) (ku (n:Int))))) o (.ins A.ax dx (chF (.int st.cZ) (.int st.aU) (.bl st.closed) (.ref aM) (.ref p) (.ref aA) (.ref aD) (.ref aF) (.ref aE) (.ref aR)))) .au p (pl.map nV) :=
  ⟨aX,by rw[av op.symm,av Ap.symm];exact hl.2⟩
 exact⟨s,k1,ae,X.made.kp rfl s,sL s X.mot,hpl,hd,lq (λx hx=>decide_eq_false (of_decide_eq_true (List.mem_filter.mp hx).2)) s e2,X.dec.kp rfl s,jw s X.m5,X.firsts.kp rfl s,uy (λ_ _=>rfl) s X.first,X.ll.kp rfl s,wH (λ_ _=>rfl) s X.kept,X.rows.kp rfl s⟩
end
def yn (i:Nat)(c:Col)(H:Hp)(t:Addr)(xs:List V):Prop:=¬cM i (c t)/\H t=some (.tup xs)
def M7 (i:Nat)(c:Col)(H:Hp)(t:Addr)(xs:List V):Prop:=¬cM i (c t)/\H t=some (.lst xs)
def qc (i:Nat)(c:Col)(H:Hp):R.dY->Addr->Prop
 | .mat cs,t=>∃L,yn i c H t [.str (ar "matter"),.ref L]/\M7 i c H L ((cs.map (tu R.bl1)).map V.str)
 | .ed m k j ws,t=>∃e,yn i c H t [.str (R.kEd m),.ref e]/\TupAt c H e (R.edR k j (tu R.bl1 ws))
 | .pt ws,t=>yn i c H t [.str (ar "point"),.str (tu R.bl1 ws)]
 | .nums kd ns,t=>yn i c H t (.str kd::ns.map V.int)
section
variable{i:Nat}{c c':Col}{H H':Hp}{t:Addr}{xs:List V}
theorem yn.step (s:Step (cM i) c c' H H')(h:yn i c H t xs):yn i c' H' t xs:=⟨by rw[s.col t _ h.2 h.1];exact h.1,s.keep _ _ h.2 h.1⟩
theorem M7.step (s:Step (cM i) c c' H H')(h:M7 i c H t xs):M7 i c' H' t xs:=⟨by rw[s.col t _ h.2 h.1];exact h.1,s.keep _ _ h.2 h.1⟩
theorem qc.step (s:Step (cM i) c c' H H'):∀ {d:R.dY},qc i c H d t->qc i c' H' d t
 | .mat _,⟨L,a,b⟩=>⟨L,a.step s,b.step s⟩
 | .ed _ _ _ _,⟨e,a,b⟩=>⟨e,a.step s,b.step s⟩
 | .pt _,h=>yn.step s h
 | .nums _ _,h=>yn.step s h
theorem qc.at {K:ba}:∀ {d:R.dY},qc i c H d t->R.sH K H d t
 | .mat _,⟨L,a,b⟩=>⟨L,SqT.of a.2,SqL.of b.2⟩
 | .ed _ _ _ _,⟨e,a,b⟩=>⟨e,SqT.of a.2,b.sq⟩
 | .pt _,h=>SqT.of h.2
 | .nums _ _,h=>SqT.of h.2
end
theorem Fu {k:Nat}{j:Int}{x:Str}(h:k=0\/k=1\/k=2):R.edR k j x=eG ⟨k,j,x⟩:=by
 rcases h with rfl | rfl | rfl <;> rfl
theorem eN {t1 t2:TS}{D:Ends}{σ:St}{H:Hp}(J:St->Hp->Prop)(h2:∀σ' H',J σ' H'->t2 D σ' H')(h1:∀N:St->Hp->Prop,(∀σ' H',J σ' H'->N σ' H')->t1 { D with nx:=N } σ H):Vp t1 t2 D σ H:=h1 (t2 D) h2
def Ch.opened (st:Ch):Ch:={ st with closed:=if st.au=[] then false else st.closed }
def Ch.vk (st:Ch)(row:Str):Ch:={ st.opened with rows:=st.rows++[row] }
def aa7 (A:Adr)(i:Nat):Sp:=λvs H Q _=>∃(o t:Addr) (c:Col) (st:Ch) (d:R.dY),vs=[.ref o,.ref t]/\dR A i c H o st/\qc i c H d t/\R.DOk d/\st.rows.length<=1000 /\
 ∀c' H',Step (cM i) c c' H H'->dR A i c' H' o (st.vk (R.sI d))->Q .non H'
def WA (A:Adr)(i:Nat):Sp:=λvs H Q _=>∃(o:Addr) (u:Int) (c:Col) (st:Ch) (n:Nat) (r:List Nat),vs=[.ref o,.int u]/\dR A i c H o st/\st.au=n::r/\n∉st.aH.map (·.1)/\st.aH.length<=1000 /\
 ∀c' H',Step (cM i) c c' H H'->dR A i c' H' o (st.nI n u)->Q .non H'
def Ch.PM (st:Ch)(n:Nat)(tx:List Str)(e:Ed):Ch:={ st with made:=st.made.set (n - 1) (.mat (bR tx e)),kept:=rq n e st.kept }
def WB (A:Adr)(i:Nat):Sp:=λvs H Q _=>∃(o t:Addr) (c:Col) (st:Ch) (n:Nat) (r:List Nat) (tx:List Str) (e:Ed) (x:Nat×List Ed),vs=[.ref o,.ref t]/\dR A i c H o st/\st.au=n::r/\dX st n/\st.mo n=.mat tx/\tx.length<=1000/\st.made.length<=1000 /\
 TupAt c H t (eG e)/\rp e/\fS tx.length e=true/\at1 n st.kept=some x/\x.2.length<=1000/\(st.kept.map (·.1)).Nodup /\
 ∀c' H',Step (cM i) c c' H H'->dR A i c' H' o (st.PM n tx e)->Q .non H'
def Ch.PN (st:Ch)(n:Nat)(e:Ed)(ws:List Str):Ch:={ st with made:=st.made.set (n - 1) (.chg ⟨e.k,e.at_,tu R.bl1 ws⟩) }
def WC (A:Adr)(i:Nat):Sp:=λvs H Q _=>∃(o t:Addr) (c:Col) (st:Ch) (n:Nat) (r:List Nat) (e f:Ed),vs=[.ref o,.ref t]/\dR A i c H o st/\st.au=r++[n]/\dX st n/\st.mo n=.chg e/\e.k≠1/\rp e/\(R.bq e.th).length<=1000/\st.made.length<=1000 /\
 TupAt c H t (eG f)/\rp f/\fS (R.bq e.th).length f=true/\((bR (R.bq e.th) f).map (·.length)).sum+(bR (R.bq e.th) f).length<=16777216 /\
 ∀c' H',Step (cM i) c c' H H'->dR A i c' H' o (st.PN n e (bR (R.bq e.th) f))->Q .non H'
theorem ChX.Sg {A:Adr}{i:Nat}{c:Col}{H:Hp}{o dx aM aP aA aD aF aE aR:Addr}{st:Ch}{ms ds:List Addr}{ws fs es:List V}(X:ChX A i c H o st dx aM aP aA aD aF aE aR ms ds ws fs es){n:Nat}(hn:dX st n) :
  ∃x,g9 (bf ((alC 1 st.made.length).zip (ms.map V.ref))) (ku (n:Int))=some (.ref x)/\mZ A c H (st.mo n) x:=by
 have ml:=X.mot.len;have hlt:n - 1 < st.made.length:=by have:=hn.1;have:=hn.2;omega
 obtain⟨x,e1,e2⟩:=X.mot.get (adm hlt);have hv:=B4 ms 1 (n - 1) e1;rw[<-ml,show 1+(n - 1)=n by have:=hn.1;omega]at hv
 have e3:st.mo n=st.made[n - 1]:=by unfold Ch.mo;rw[alj,adm hlt];rfl
 exact⟨x,hv,by rw[e3];exact e2⟩
section
variable{P:rf}{w:World}{K:ba}{mg:Str->Option Value}{base:Heap}{A:Adr}
theorem q0 (T:Txt w.params K mg A){i:Nat}:a8 P w K mg base CX0 5 A.bB A.eZ ["self","deed"] (aa7 A i):=by
 have lx:a8 P w K mg base CX0 4 A.my A.hZ ["deed"] (R.Fn K):=R.qG T;refine T.cX.ok pB (λvs H Q E h=>?_) (λcdv A' outer s H vs Q E hr h=>?_)
 ·obtain⟨o,t,c,st,d,rfl,_⟩:=h;rfl
 ·obtain⟨o,t,c,st,d,rfl,hc,hd,hk,hl,q⟩:=h;refine⟨_,(ai (a9 (rH (rL (br (pv 0) rfl) (λ_=>rfl)))
 (aj (eP (pv 0) lO rfl))
 aC)
 (aj (bK (gJ si alk alm dj (br (pv 0) rfl) (aa (aV lx hr rfl T.nX T.lb.kp T.nU .nil aW (aa (pv 1) ag)) ag))))),?_⟩
  try dsimp only[bF]
  have lim:kg=16777216:=by decide
  refine eN (λσ' H'=>σ'=[some (.ref o),some (.ref t)]/\Step (cM i) c c H H'/\dR A i c H' o st.opened) ?r (λN nN=>?f)
  case f =>
   refine aN λGq gq=>?_
   obtain⟨dx,aM,aP,aA,aD,aF,aE,aR,ms,ds,ws,fs,es,X⟩:=hc.ex;refine gq ?_;refine eS rfl X.ob T.aq T.jq0 fm ?_;refine⟨_,.inl ⟨_,.inl (.inl X.au.2),rfl⟩,?_⟩;cases e:st.au with
   |nil =>
    refine cN ⟨_,rfl,o,A.ax,dx,_,rfl,X.ob,T.aq,T.jq3,(by show 10 < 1000;decide),?_⟩
    rw[B3];obtain⟨s1,X1⟩:=X.attr st.aU false;refine nN _ _ ⟨rfl,s1.iy,?_⟩;have e1:st.opened={ st with aU:=st.aU,closed:=false }:=by unfold Ch.opened;rw[e,if_pos rfl]
    rw[e1];exact X1.at
   |cons x r =>
    refine bM (nN _ _ ⟨rfl,Step.refl aL,?_⟩);have e1:st.opened=st:=by unfold Ch.opened;rw[e,if_neg (alv _ _)];cases st;cases e;rfl
    rw[e1];exact hc
  case r =>
   rintro σ' H1 ⟨rfl,s1,hc1⟩;refine aN λGq gq=>?_
   obtain⟨dx,aM,aP,aA,aD,aF,aE,aR,ms,ds,ws,fs,es,X⟩:=hc1.ex;refine gq ?_;refine eS rfl X.ob T.aq T.jqk wI ?_;refine⟨.inl ⟨rfl,_,SqL.of X.rows.2⟩,_,rfl,t,d,rfl,(hd.step s1).at,hk,λH2 s2=>?_⟩
   have X2:=X.same s2;obtain⟨s3,X3⟩:=X2.row (R.sI d);refine⟨aR,_,_,rfl,rfl,X2.rows.2,by rw[bo];show st.rows.length < _;omega,?_⟩
   exact q c _ ((s1.trans (Step.same aL s2)).trans s3.iy) X3.at
theorem wL (T:Txt w.params K mg A){i:Nat}:a8 P w K mg base CX0 1 A.bO A.gM ["self","until"] (WA A i):=by
 refine T.dU.ok rV (λvs H Q E h=>?_) (λcdv A' outer s H vs Q E hr h=>?_)
 ·obtain⟨o,u,c,st,n,r,rfl,_⟩:=h;rfl
 ·obtain⟨o,u,c,st,n,r,rfl,hc,hp,hn,hl,q⟩:=h;obtain⟨dx,aM,aP,aA,aD,aF,aE,aR,ms,ds,ws,fs,es,X⟩:=hc.ex;have hu1:=hr.u1;have lim:kg=16777216:=by decide
  refine⟨_,(ai (iF hu1 (br (pv 0) rfl) (aK bx (br (pv 0) rfl) af (λ_ _=>rfl)) (bg (aa (pv 1) (aa (br (pv 0) rfl) ag))) rfl)
 (aj (eP (pv 0) (bS ag) rfl))),?_⟩
  try dsimp only[bF]
  refine⟨_,rfl,eS rfl X.ob T.aq T.jq0 fm ⟨(sl 2),λt ht=>?_⟩⟩
  have s1:=aG (o:=.tup [V.int u,.ref aP]) ht;refine eS rfl (s1 _ _ X.ob) T.aq T.jq4 j9 ?_;have h0:atI (st.au.map nV) 0=some (nV n):=by rw[hp];exact cB (j:=0) rfl
  refine eS rfl (s1 _ _ X.ob) T.aq T.jq0 fm ⟨aP,_,_,_,rfl,rfl,SqL.of (s1 _ _ X.au.2),h0,?_⟩;refine⟨aA,_,rfl,pw.k (k:=ku (n:Int)) (s1 _ _ X.aH.2) ?_,?_⟩
  ·unfold bf;rw[bo,amk,bo];omega
  have oA:o≠aA:=eh X.co X.aH.1 (λz=>nomatch z)
  refine⟨(sl 0),λp hp0=>?_⟩
  have npA:p≠aA:=λz=>by rw[z,ae]at hp0;cases hp0
  have npt:p≠t:=λz=>by rw[av npA,z,ae]at hp0;cases hp0
  have hp1:H p=none:=by rw[av npA,av npt]at hp0;exact hp0
  have hob:(upd (upd (upd H t (.tup [V.int u,.ref aP])) aA (.dK (putK (bf ((st.aH.map (·.1)).zip ws)) (ku (n:Int)) (.ref t)))) p (.lst [])) o=some (.ins A.ax dx (chF (.int st.cZ) (.int st.aU) (.bl st.closed) (.ref aM) (.ref aP) (.ref aA) (.ref aD) (.ref aF) (.ref aE) (.ref aR))):=by
   rw[av (aI X.ob hp1),av oA];exact s1 _ _ X.ob
  refine⟨_,rfl,o,A.ax,dx,_,rfl,hob,T.aq,T.jq0,(by show 10 < 1000;decide),?_⟩
  rw[GF];refine aN λGq gq=>?_
  obtain⟨c',s2,X2⟩:=X.nI (u:=u) ht hp1 npt hn;refine gq ?_;exact q c' _ s2.iy X2.at
theorem yo (T:Txt w.params K mg A){i:Nat}:a8 P w K mg base CX0 4 A.bz A.eJ ["self","edit"] (WB A i):=by
 refine T.cJ.ok iw (λvs H Q E h=>?_) (λcdv A' outer s H vs Q E hr h=>?_)
 ·obtain⟨o,t,c,st,n,r,tx,e,x,rfl,_⟩:=h;rfl
 ·obtain⟨o,t,c,st,n,r,tx,e,x,rfl,hc,hp,hn,hm,htx,hml,ht,he,hf,hx,hxl,hnd,q⟩:=h;obtain⟨dx,aM,aP,aA,aD,aF,aE,aR,ms,ds,ws,fs,es,X⟩:=hc.ex;have hu1:=hr.u1;have lim:kg=16777216:=by decide
  refine⟨_,(ai (aY (i:=2) iw.nd rfl (tm rfl) (aK bx (br (pv 0) rfl) af (λ_ _=>rfl)))
 (ai (iF hu1 (br (pv 0) rfl) (pv 2) (gB T.wB (B0 T) (hr.mono (by decide)) rfl T.wy T.RU .nil aW (aa (aV (L4 T) hr rfl T.JZ T.E7.kp T.JY .nil Ez (aa (br (bh hu1 (br (pv 0) rfl) (pv 2) (λ_ _=>rfl)) rfl) (aa (pv 1) ag))) ag)) rfl)
 (aj (bK (gJ si alk alm dj (bh hu1 (br (pv 0) rfl) (pv 2) (λ_ _=>rfl)) (aa (pv 1) ag)))))),?_⟩
  try dsimp only[bF]
  refine aN λGq gq=>?_
  have h0:atI (st.au.map nV) 0=some (nV n):=by rw[hp];exact cB (j:=0) rfl
  obtain⟨m,hv,hmo⟩:=X.Sg hn;rw[hm]at hmo;obtain⟨_,dm,v,WD,L,rfl,hL⟩:=hmo;refine gq ?_;refine eS rfl X.ob T.aq T.jq0 fm ⟨aP,_,_,_,rfl,rfl,SqL.of X.au.2,h0,?_⟩;refine⟨_,rfl,o,A.ax,dx,_,.ref aM,rfl,X.ob,T.aq,T.jq2,iz,_,rfl,aM,_,rfl,.inl ⟨_,ku (n:Int),.inl X.made.2,rfl,hv.symm⟩,?_⟩;refine⟨m,A.C 0,dm,_,.ref L,rfl,WD,T.cl 0 (by decide),T.na0,rfl,_,rfl,?_⟩
  refine⟨L,t,tx,e,rfl,SqL.of hL.2,htx,ht.sq,he,λ_ p hp0=>?_,λz=>by rw[hf]at z;cases z⟩
  refineλy dy hy hdy ndy=>?_
  refine⟨y,dy,p,(bR tx e).map V.str,rfl,ae,?_,λp2 hp2=>⟨rfl,?_⟩⟩
  ·exact(((aG hdy).new ((av (alr ndy)).trans hy)).seq (SqL.of ae))
  have hy0:H y=none:=by
   by_cases z:y=p
   ·rw[z,ae]at hy;cases hy
   ·rw[av z]at hy;exact hy
  have aiE:H dy=none:=by
   by_cases z:dy=p
   ·rw[z,ae]at hdy;cases hdy
   ·rw[av z]at hdy;exact hdy
  have sm0:bw H (upd (upd (upd H p (.lst ((bR tx e).map V.str))) dy (.own y)) y (.ins (A.C 0) dy [])):=((aG hp0).own aiE).own hy0;have aa8:H p2=none:=by
   cases z:H p2 with
   |none=>rfl
   |some v=>rw[sm0 _ _ z]at hp2;cases hp2
  have sm:bw H (upd (upd (upd (upd (upd H p (.lst ((bR tx e).map V.str))) dy (.own y)) y (.ins (A.C 0) dy [])) p2 (.lst ((bR tx e).map V.str))) y (.ins (A.C 0) dy (p6 0 (.ref p2)))):=(sm0.own aa8).own hy0;have nyp:y≠p2:=λz=>by rw[<-z,ae]at hp2;cases hp2
  have X1:=X.cl sm;have hmn:mZ A (bU c H) (upd (upd (upd (upd (upd H p (.lst ((bR tx e).map V.str))) dy (.own y)) y (.ins (A.C 0) dy [])) p2 (.lst ((bR tx e).map V.str))) y (.ins (A.C 0) dy (p6 0 (.ref p2)))) (.mat (bR tx e)) y :=
   ⟨bC hy0,dy,.ref p2,ae,p2,rfl,bC aa8,(av (alr nyp)).trans ae⟩
  have st1:Step (cM i) c (bU c H) H _:=Step.cl aL sm;have ht1:=ht.step st1;generalize upd (upd (upd (upd (upd H p (.lst ((bR tx e).map V.str))) dy (.own y)) y (.ins (A.C 0) dy [])) p2 (.lst ((bR tx e).map V.str))) y (.ins (A.C 0) dy (p6 0 (.ref p2)))=H1 at X1 hmn st1 ht1 ⊢;generalize bU c H=c1 at X1 hmn st1 ht1;refine eS rfl X1.ob T.aq T.jq2 iz ⟨_,rfl,aM,_,rfl,pw.k (k:=ku (n:Int)) X1.made.2 ?_,?_⟩
  ·unfold bf;rw[bo,amk,al5];omega
  obtain⟨s2,X2⟩:=X1.Ml hn hmn;have ht2:=ht1.step s2.iy;generalize upd H1 aM (.dK (putK (bf ((alC 1 st.made.length).zip (ms.map V.ref))) (ku (n:Int)) (.ref y)))=H2 at s2 X2 ht2 ⊢;refine aN λGq gq=>?_
  obtain⟨pk,ts,hv2,hl2,tl⟩:=X2.gz hx;refine gq ?_;refine⟨_,rfl,o,A.ax,dx,_,.ref aE,rfl,X2.ob,T.aq,T.jq5,sM,_,rfl,aE,_,rfl,.inl ⟨_,ku (n:Int),.inl X2.ll.2,rfl,hv2.symm⟩,?_⟩;refine⟨.inl ⟨rfl,_,SqL.of hl2.2⟩,_,rfl,pk,_,_,rfl,rfl,hl2.2,by rw[bo];omega,?_⟩
  obtain⟨s3,X3⟩:=X2.Ft hv2 hl2 hnd ht2;exact q c1 _ ((st1.trans s2.iy).trans s3.iy) X3.at
theorem yp (T:Txt w.params K mg A){i:Nat}:a8 P w K mg base CX0 4 A.bA A.eK ["self","edit"] (WC A i):=by
 have mX:a8 P w K mg base CX0 1 A.words_of A.i4 ["clause"] R.p7:=R.lj T;have sJ:a8 P w K mg base CX0 1 A.pR A.jd ["words"] (R.vg K):=R.wG T;refine T.cK.ok dG (λvs H Q E h=>?_) (λcdv A' outer s H vs Q E hr h=>?_)
 ·obtain⟨o,t,c,st,n,r,e,f,rfl,_⟩:=h;rfl
 ·obtain⟨o,t,c,st,n,r,e,f,rfl,hc,hp,hn,hm,hk1,heo,hwl,hml,ht,hfo,hf,hsz,q⟩:=h;obtain⟨dx,aM,aP,aA,aD,aF,aE,aR,ms,ds,ws,fs,es,X⟩:=hc.ex;have hu1:=hr.u1;have lim:kg=16777216:=by decide
  refine⟨_,(ai (aY (i:=2) dG.nd rfl (tm rfl) (aK bx (br (pv 0) rfl) (jE gv af) (λ_ _=>rfl)))
 (ai (aY (i:=3) dG.nd rfl (tm rfl) (br (bh hu1 (br (pv 0) rfl) (pv 2) (λ_ _=>rfl)) rfl))
 (ai (aY (i:=4) dG.nd rfl (tm rfl) (aV (L4 T) hr rfl T.JZ T.E7.kp T.JY .nil Ez (aa (aV mX (hr.mono (by decide)) rfl T.j5 T.iK.kp T.j4 .nil aW (aa (aK aT (pv 3) af (λ_ _=>rfl)) ag)) (aa (pv 1) ag))))
 (aj (iF hu1 (br (pv 0) rfl) (pv 2) (gB T.wC (mW T) (hr.mono (by decide)) rfl T.wz T.RV .nil aW (aa (bg (aa (aK aT (pv 3) af (λ_ _=>rfl)) (aa (aK aT (pv 3) af (λ_ _=>rfl)) (aa (aV sJ (hr.mono (by decide)) rfl T.sf T.nR.kp T.r9 .nil aW (aa (pv 4) ag)) ag)))) ag)) rfl))))),?_⟩
  try dsimp only[bF]
  refine aN λGq gq=>?_
  have h0:atI (st.au.map nV) (-1)=some (nV n):=by rw[hp,ko];exact gH _ _
  obtain⟨m,hv,hmo⟩:=X.Sg hn;rw[hm]at hmo;obtain⟨_,dm,v,WD,te,rfl,hte⟩:=hmo;refine gq ?_;refine⟨_,rfl,o,A.ax,dx,_,.ref aP,rfl,X.ob,T.aq,T.jq0,fm,_,rfl,aP,_,_,_,rfl,rfl,SqL.of X.au.2,h0,?_⟩;refine⟨_,rfl,o,A.ax,dx,_,.ref aM,rfl,X.ob,T.aq,T.jq2,iz,_,rfl,aM,_,rfl,.inl ⟨_,ku (n:Int),.inl X.made.2,rfl,hv.symm⟩,?_⟩;refine⟨m,A.C 1,dm,_,.ref te,rfl,WD,T.cl 1 (by decide),T.na1,rfl,?_⟩
  have h2:=vd (e:=e) hk1;refine ixv rfl hte.sq h2 ⟨e.th,rfl,?_,λp1 hp1=>?_⟩
  ·have:=heo.th.len;omega
  have s1:=aG (o:=.lst ((R.bq e.th).map V.str)) hp1;refine⟨_,rfl,p1,t,R.bq e.th,f,rfl,SqL.of ae,hwl,bP s1 ht.sq,hfo,λ_ p2 hp2=>?_,λz=>by rw[hf]at z;cases z⟩
  have s2:=s1.new (o:=.lst ((bR (R.bq e.th) f).map V.str)) hp2;refine ixv rfl (bP s2 hte.sq) (oz e) (ixv rfl (bP s2 hte.sq) (vc e) ⟨_,rfl,p2,_,rfl,SqL.of ae,hsz,(sl 3),λtn htn=>?_⟩)
  have s3:=s2.new (o:=.tup [V.str (kn e.k),.int e.at_,.str (tu R.bl1 (bR (R.bq e.th) f))]) htn;refineλy dy hy hdy ndy=>?_
  refine⟨y,dy,.ref tn,rfl,ae,rfl,?_⟩;have hno:∀ {a:Addr},(upd (upd (upd H p1 (.lst ((R.bq e.th).map V.str))) p2 (.lst ((bR (R.bq e.th) f).map V.str))) tn (.tup [V.str (kn e.k),.int e.at_,.str (tu R.bl1 (bR (R.bq e.th) f))])) a=none->H a=none:=by
   intro a ha;cases z:H a with
   |none=>rfl
   |some v=>rw[s3 _ _ z]at ha;cases ha
  have nyt:y≠tn:=λz=>by rw[z,ae]at hy;cases hy
  have ndt:dy≠tn:=λz=>by rw[z,ae]at hdy;cases hdy
  have aiF:H tn=none:=by
   cases z:H tn with
   |none=>rfl
   |some v=>rw[s2 _ _ z]at htn;cases htn
  have sm:=((s3.own (o:=.own y) (hno hdy)).own (o:=.ins (A.C 1) dy []) (hno hy)).own (o:=.ins (A.C 1) dy (p6 1 (.ref tn))) (hno hy);have X1:=X.cl sm;have er:eG ⟨e.k,e.at_,tu R.bl1 (bR (R.bq e.th) f)⟩=[V.str (kn e.k),.int e.at_,.str (tu R.bl1 (bR (R.bq e.th) f))]:=by
   obtain⟨k,a,th⟩:=e;have h3:=heo.k3;dsimp only at h3 hk1 ⊢;rcases h3 with rfl | rfl | rfl
   ·rfl
   ·exact absurd rfl hk1
   ·rfl
  have hmn:=(⟨bC (hno hy),dy,.ref tn,ae,tn,rfl,bC aiF,.inl (by rw[av (alr nyt),av (alr nyt),av (alr ndt),ae,er])⟩:mZ A (bU c H) (upd (upd (upd (upd (upd (upd H p1 (.lst ((R.bq e.th).map V.str))) p2 (.lst ((bR (R.bq e.th) f).map V.str))) tn (.tup [V.str (kn e.k),.int e.at_,.str (tu R.bl1 (bR (R.bq e.th) f))])) dy (.own y)) y (.ins (A.C 1) dy [])) y (.ins (A.C 1) dy (p6 1 (.ref tn)))) (.chg ⟨e.k,e.at_,tu R.bl1 (bR (R.bq e.th) f)⟩) y)
  have st1:Step (cM i) c (bU c H) H _:=Step.cl aL sm;generalize upd (upd (upd (upd (upd (upd H p1 (.lst ((R.bq e.th).map V.str))) p2 (.lst ((bR (R.bq e.th) f).map V.str))) tn (.tup [V.str (kn e.k),.int e.at_,.str (tu R.bl1 (bR (R.bq e.th) f))])) dy (.own y)) y (.ins (A.C 1) dy [])) y (.ins (A.C 1) dy (p6 1 (.ref tn)))=H1 at X1 hmn st1 ⊢;generalize bU c H=c1 at X1 hmn st1;refine eS rfl X1.ob T.aq T.jq2 iz ⟨_,rfl,aM,_,rfl,pw.k (k:=ku (n:Int)) X1.made.2 ?_,?_⟩
  ·unfold bf;rw[bo,amk,al5];omega
  obtain⟨s4,X2⟩:=X1.Ml hn hmn;exact q c1 _ (st1.trans s4.iy) X2.at
end
def y6 (below:List Mn):Mn->Prop
 | .mat _=>below=[]
 | .chg e=>∃tx,below=[.mat tx]/\fS tx.length e=true
 | .mnd f=>∃tx e,below=[.mat tx,.chg e]/\e.k≠1/\fS (R.bq e.th).length f=true
 | .off _=>(∃tx r,below=.mat tx::r)/\∀b∈below,b.k < 3
 | .cls=>(∃tx r,below=.mat tx::r)/\∀b∈below,b.k < 4
 | .lay=>(∃tx r,below=.mat tx::r)/\∀b∈below,b.k < 5
 | .rst=>∀b∈below,b.k < 6
 | .pnt _=>∀b∈below,b.k < 7
inductive PMs:List Mn->Prop
 |nil:PMs []
 |snoc {ms:List Mn} {m:Mn}:PMs ms->y6 ms m->PMs (ms++[m])
theorem PMs.pop {ms:List Mn}{m:Mn}(h:PMs (ms++[m])):PMs ms/\y6 ms m:=by
 generalize e:ms++[m]=l at h;cases h with
 |nil=>simp at e
 |snoc h1 h2 =>
  obtain⟨e1,e2⟩:=List.append_inj' e rfl;cases e2;subst e1;exact⟨h1,h2⟩
theorem y6.lt {below:List Mn}:∀ {m:Mn},y6 below m->∀b∈below,b.k < m.k
 | .mat _,h,b,hb=>by rw[h]at hb;cases hb
 | .chg _,⟨tx,h,_⟩,b,hb=>by
  rw[h,alo]at hb;rw[hb];show 0 < 1;decide
 | .mnd _,⟨tx,e,h,_,_⟩,b,hb=>by
  rw[h]at hb;rcases List.mem_cons.mp hb with rfl | hb
  ·show 0 < 2;decide
  ·rw[alo]at hb;rw[hb];show 1 < 2;decide
 | .off _,h,b,hb=>h.2 b hb
 | .cls,h,b,hb=>h.2 b hb
 | .lay,h,b,hb=>h.2 b hb
 | .rst,h,b,hb=>h b hb
 | .pnt _,h,b,hb=>h b hb
theorem PMs.le_top {ms:List Mn}(h:PMs ms):∀b∈ms,(b.k:Int)<=qH ms:=by
 cases h with
 |nil=>intro b hb;cases hb
 |snoc h1 h2 =>
  intro b hb;rw[mB];rcases List.mem_append.mp hb with hb | hb
  ·have:=h2.lt b hb;omega
  ·rw[alo]at hb;rw[hb];exact Int.le_refl _
theorem PMs.Kb {ms:List Mn}(h:PMs ms):qa ms=true->∃tx r,ms=.mat tx::r:=by
 induction h with
 |nil=>intro h;cases h
 | @snoc ms m h1 h2 ih =>
  intro h;unfold qa at h ih;rw[List.any_append,Bool.or_eq_true]at h;rcases h with h | h
  ·obtain⟨tx,r,e⟩:=ih h;exact⟨tx,r++[m],by rw[e];rfl⟩
  ·cases m with
   |mat tx =>
    have:ms=[]:=h2;rw[this];exact⟨tx,[],rfl⟩
   |_=>simp[Mn.k]at h
theorem PMs.len {ms:List Mn}(h:PMs ms):(ms.length:Int)<=qH ms+1:=by
 induction h with
 |nil=>decide
 | @snoc ms m h1 h2 ih =>
  rw[mB,ma,ala];have:qH ms < (m.k:Int):=by
   unfold qH;split
   ·omega
   ·rename_i b hb;have:=h2.lt b (List.mem_of_getLast? hb);omega
  omega
theorem PMs.C0 {ms:List Mn}(h:PMs ms):ms.length<=8:=by
 have:=h.len;have:=J8 ms;omega
theorem sN (cl:Bool)(ms:List Mn):qH ms<=fN cl ms:=by
 unfold fN;split
 ·split <;> omega
 ·exact Int.le_refl _
theorem wM {cl:Bool}{ms:List Mn}{k:Nat}(h:fU cl ms k=none):qH ms < (k:Int)/\lS ms k=true:=by
 have hb:=sN cl ms;unfold fU at h;split at h
 ·cases h
 ·split at h
  ·exact⟨by omega,by assumption⟩
  ·split at h <;> cases h
theorem B7 {ms:List Mn}(h:qH ms < 0):ms=[]:=by
 rcases ak4 ms with e | ⟨r,b,e⟩
 ·exact e
 ·rw[e,ak5,mB]at h;omega
def aa9 (ms:List Mn):Mn->Prop
 | .chg e=>∀tx r,ms=.mat tx::r->fS tx.length e=true
 | .mnd f=>∀r e,ms=r++[.chg e]->fS (R.bq e.th).length f=true
 |_=>True
theorem qd {α:Type}{xs:List α}{x:α}(h:xs.getLast?=some x):∃r,xs=r++[x]:=by
 rcases ak4 xs with e | ⟨r,b,e⟩
 ·rw[e]at h;cases h
 ·rw[ak5]at e;rw[e,alK]at h;cases h;exact⟨r,e⟩
theorem PMs.push {cl:Bool}{ms:List Mn}(h:PMs ms){m:Mn}(ho:fU cl ms m.k=none)(hf:aa9 ms m):PMs (ms++[m]):=by
 obtain⟨h1,h2⟩:=wM ho;have lt:∀b∈ms,b.k < m.k:=λb hb=>by have:=h.le_top b hb;omega
 refine .snoc h ?_;cases m with
 |mat tx=>exact B7 h1
 |chg e =>
  obtain⟨tx,r,e1⟩:=h.Kb h2;refine⟨tx,?_,hf tx r e1⟩;rcases ak4 r with e2 | ⟨r',b,e2⟩
  ·rw[e1,e2]
  ·rw[ak5]at e2;have hb:b.k < 1:=lt b (by rw[e1,e2];simp)
   rw[e1,e2,<-List.cons_append]at h;have ht:=h.pop.2;cases b with
   |mat ty=>exact absurd ht (alv _ _)
   |_=>simp[Mn.k]at hb
 |mnd f =>
  have h3:fO ms=true:=h2;unfold fO at h3;split at h3
  ·rename_i e he;obtain⟨r,e1⟩:=qd he;rw[e1]at h;obtain⟨tx,e2,_⟩:=h.pop.2;refine⟨tx,e,by rw[e1,e2];rfl,?_,hf r e e1⟩
   intro z;rw[z]at h3;cases h3
  ·cases h3
 |off n=>exact⟨h.Kb h2,lt⟩
 |cls=>exact⟨h.Kb h2,lt⟩
 |lay=>exact⟨h.Kb h2,lt⟩
 |rst=>exact lt
 |pnt z=>exact lt
theorem Fv {st:Ch}{n:Nat}{m:Mn}(hn:dX st n){st':Ch}(h:st'.made=st.made.set (n - 1) m):st'.mo n=m:=by
 unfold Ch.mo;have:=hn.1;have:=hn.2;rw[h,alj,amm (by omega)]
 rfl
theorem t5 {st:Ch}{n k:Nat}{m:Mn}(hn:dX st n)(h1:1<=k)(ne:k≠n){st':Ch}(h:st'.made=st.made.set (n - 1) m):st'.mo k=st.mo k:=by
 unfold Ch.mo;have:=hn.1;rw[h,alj,amv (by omega),<-alj]
theorem Kc {st:Ch}{m:Mn}{st':Ch}(h:st'.made=st.made++[m]){k:Nat}(hk:dX st k):st'.mo k=st.mo k:=by
 unfold Ch.mo;have:=hk.1;have:=hk.2;rw[h,alj,List.getElem?_append_left (by omega),<-alj]
theorem Kd {st:Ch}{m:Mn}{st':Ch}(h:st'.made=st.made++[m]):st'.mo (st.made.length+1)=m:=by
 unfold Ch.mo;rw[h,alj,Nat.add_sub_cancel,amr (kq _),Nat.sub_self];rfl
def EdB (N:Nat)(e:Ed):Prop:=(e.k=0\/e.k=1\/e.k=2)/\-1000<=e.at_/\e.at_<=1000/\∃ws,e.th=tu R.bl1 ws/\(∀w∈ws,R.oE w)/\ws.length<=N
def MOk (N:Nat):Mn->Prop
 | .mat tx=>tx.length<=12+N/\∀x∈tx,alB x=true
 | .chg e=>EdB (12+N) e
 | .mnd f=>EdB 1 f/\∃w,f.th=w/\R.oE w
 | .off u=>-10000000000 < u/\u < 10000000000
 | .pnt z=>alB z=true
 |_=>True
theorem EdB.mono {N M:Nat}(h:N<=M){e:Ed}(z:EdB N e):EdB M e:=by
 obtain⟨a,b,c,ws,d,f,g⟩:=z;exact⟨a,b,c,ws,d,f,ak3 g h⟩
theorem MOk.mono {N M:Nat}(h:N<=M):∀ {m:Mn},MOk N m->MOk M m
 | .mat tx,z=>⟨ak3 z.1 (by omega),z.2⟩
 | .chg e,z=>EdB.mono (by omega) z
 | .mnd f,z=>z
 | .off u,z=>z
 | .cls,_=>trivial
 | .lay,_=>trivial
 | .rst,_=>trivial
 | .pnt _,z=>z
def Ch.all (st:Ch):List Nat:=st.au++(st.aH.flatMap (·.2.2)++st.decided.map (·.1))
def Ch.wN (st:Ch):List Nat:=(alC 1 st.made.length).filter λn=>decide ((st.mo n).k=0)
structure Inv (N:Nat)(st:Ch):Prop where
 lm:3 * st.made.length<=N
 lr:st.rows.length<=N
 ld:st.decided.length<=N
 la:st.aH.length<=N
 lk:∀x∈st.kept,x.2.length<=N
 sit:1<=st.aU/\st.aU<=N+1
 mok:∀m∈st.made,MOk N m
 num:∀n∈st.all,dX st n
 nd:st.all.Nodup
 pil:PMs (st.au.map st.mo)
 asd:∀x∈st.aH,PMs (x.2.2.map st.mo)/\(∃r,x.2.2=x.1::r)/\-10000000000 < x.2.1/\x.2.1 < 10000000000
 kk:st.kept.map (·.1)=st.wN
 ff:st.firsts.map (·.1)=st.wN
 dw:∀x∈st.decided,alB x.2=true
theorem Inv.mono {N M:Nat}(h:N<=M){st:Ch}(I:Inv N st):Inv M st where
 lm:=ak3 I.lm h
 lr:=ak3 I.lr h
 ld:=ak3 I.ld h
 la:=ak3 I.la h
 lk:=λx hx=>ak3 (I.lk x hx) h
 sit:=⟨I.sit.1,by have:=I.sit.2;omega⟩
 mok:=λm hm=>(I.mok m hm).mono h
 num:=I.num
 nd:=I.nd
 pil:=I.pil
 asd:=I.asd
 kk:=I.kk
 ff:=I.ff
 dw:=I.dw
theorem Inv.ue {N:Nat}{st:Ch}(I:Inv N st){n:Nat}(hn:dX st n):MOk N (st.mo n):=by
 have:=hn.1;have:=hn.2;have hlt:n - 1 < st.made.length:=by omega
 have e:st.mo n=st.made[n - 1]:=by unfold Ch.mo;rw[alj,adm hlt];rfl
 rw[e];exact I.mok _ (List.getElem_mem hlt)
theorem Inv.bL {N:Nat}{st:Ch}(I:Inv N st):∀n∈st.au,dX st n:=λn hn=>I.num n (alI _ hn)
theorem Inv.sO {N:Nat}{st:Ch}(I:Inv N st){x:Nat×Int×List Nat}(hx:x∈st.aH):∀n∈x.2.2,dX st n:=λn hn =>
 I.num n (kx _ (alI _ (List.mem_flatMap.mpr ⟨x,hx,hn⟩)))
theorem Inv.Mm {N:Nat}{st:Ch}(I:Inv N st){n:Nat}(hn:n∈st.au){x:Nat×Int×List Nat}(hx:x∈st.aH):n∉x.2.2:=λz =>
 (List.nodup_append.mp I.nd).2.2 n hn n (alI _ (List.mem_flatMap.mpr ⟨x,hx,z⟩)) rfl
theorem Inv.Fw {N:Nat}{st:Ch}(I:Inv N st){n:Nat}(hn:n∈st.au):n∉st.aH.map (·.1):=λz=>by
 obtain⟨x,hx,e⟩:=List.mem_map.mp z;obtain⟨r,er⟩:=(I.asd x hx).2.1;exact I.Mm hn hx (by rw[er,e];exact gr)
theorem Si {st st':Ch}(hl:st'.made.length=st.made.length)(hk:∀n,dX st n->(st'.mo n).k=(st.mo n).k):st'.wN=st.wN:=by
 unfold Ch.wN;rw[hl];refine List.filter_congr λn hn=>?_
 rw[amh]at hn;rw[hk n ⟨hn.1,by omega⟩]
theorem Ke (st:Ch):st.wN.Nodup:=List.filter_sublist.nodup List.nodup_range'
theorem Inv.keptAt {N:Nat}{st:Ch}(I:Inv N st){n:Nat}(hn:dX st n)(hk:(st.mo n).k=0):∃x,at1 n st.kept=some x/\x.2.length<=N:=by
 cases e:at1 n st.kept with
 |some x=>exact⟨x,rfl,I.lk x (jy e).2⟩
 |none =>
  have h:=wK e;rw[I.kk]at h;have hr:n∈alC 1 st.made.length:=by
   rw[amh];have:=hn.1;have:=hn.2;omega
  exact absurd (show n∈st.wN from List.mem_filter.mpr ⟨hr,by exact decide_eq_true hk⟩) h
def Ch.popped (st:Ch)(pre:List Nat)(n:Nat)(wd:Str):Ch:={ st with au:=pre,decided:=st.decided++[(n,wd)] }
theorem Inv.pop {N:Nat}{st:Ch}(I:Inv N st){pre:List Nat}{n:Nat}(e:st.au=pre++[n])(wd:Str)(hw:alB wd=true):Inv (N+1) (st.popped pre n wd)/\y6 (pre.map st.mo) (st.mo n):=by
 have hp:=I.pil;rw[e,ko]at hp;obtain⟨p1,p2⟩:=PMs.pop hp;have perm:List.Perm (st.popped pre n wd).all st.all:=by
  unfold Ch.all Ch.popped;rw[e,ko];have:List.Perm (st.aH.flatMap (·.2.2)++(st.decided.map (·.1)++[(n,wd)].map (·.1))) ([n]++(st.aH.flatMap (·.2.2)++st.decided.map (·.1))):=by
   rw[<-ami];exact List.perm_append_comm
  exact(List.Perm.append_left pre this).trans (by rw[ami])
 refine⟨⟨alp I.lm,alp I.lr,?_,alp I.la,λx hx=>alp (I.lk x hx),⟨I.sit.1,by have:=I.sit.2;show st.aU<=_;omega⟩,λm hm=>(I.mok m hm).mono (by omega),λk hk=>I.num k (perm.mem_iff.mp hk),perm.nodup_iff.mpr I.nd,p1,I.asd,I.kk,I.ff,?_⟩,p2⟩
 ·show (st.decided++[(n,wd)]).length<=_;rw[ma,ala];have:=I.ld;omega
 ·intro x hx;rcases List.mem_append.mp hx with h | h
  ·exact I.dw x h
  ·rw[alo]at h;rw[h];exact hw
theorem Inv.vk {N:Nat}{st:Ch}(I:Inv N st)(z:Str):Inv (N+1) (st.vk z):=by
 refine⟨alp I.lm,?_,alp I.ld,alp I.la,λx hx=>alp (I.lk x hx),⟨I.sit.1,by have:=I.sit.2;show st.aU<=_;omega⟩,λm hm=>(I.mok m hm).mono (by omega),I.num,I.nd,I.pil,I.asd,I.kk,I.ff,I.dw⟩
 show (st.rows++[z]).length<=_;rw[ma,ala];have:=I.lr;omega
theorem Inv.T9 {N:Nat}{st:Ch}(I:Inv N st){n:Nat}{m:Mn}(hn:n∈st.au)(hk:m.k=(st.mo n).k)(hm:MOk (N+1) m){kp:List (Nat×List Ed)}(ek:kp.map (·.1)=st.kept.map (·.1))(lk:∀x∈kp,x.2.length<=N+1)
  (hp:PMs (st.au.map (Ch.mo { st with made:=st.made.set (n - 1) m,kept:=kp }))):Inv (N+1) { st with made:=st.made.set (n - 1) m,kept:=kp }:=by
 have hno:=I.bL n hn;have kinds:∀k,dX st k->(Ch.mo { st with made:=st.made.set (n - 1) m,kept:=kp } k).k=(st.mo k).k:=λk h=>by
  by_cases z:k=n
  ·subst z;rw[Fv hno rfl,hk]
  ·rw[t5 hno h.1 z rfl]
 have em:Ch.wN { st with made:=st.made.set (n - 1) m,kept:=kp }=st.wN:=Si (by show (st.made.set (n - 1) m).length=_;rw[alZ]) kinds
 refine⟨?_,alp I.lr,alp I.ld,alp I.la,lk,⟨I.sit.1,by have:=I.sit.2;show st.aU<=_;omega⟩,?_,?_,I.nd,hp,?_,by rw[em,<-I.kk];exact ek,by rw[em];exact I.ff,I.dw⟩
 ·show 3 * (st.made.set (n - 1) m).length<=_;rw[alZ];have:=I.lm;omega
 ·intro x hx;rcases List.mem_or_eq_of_mem_set hx with h | h
  ·exact(I.mok x h).mono (by omega)
  ·rw[h];exact hm
 ·intro k hk;have:=I.num k hk;exact⟨this.1,by show k<=(st.made.set (n - 1) m).length;rw[alZ];exact this.2⟩
 ·intro x hx;obtain⟨h1,h2⟩:=I.asd x hx;refine⟨?_,h2⟩;have:x.2.2.map (Ch.mo { st with made:=st.made.set (n - 1) m,kept:=kp })=x.2.2.map st.mo:=aml λk hk =>
   t5 hno (I.sO hx k hk).1 (λz=>I.Mm hn hx (by rw[<-z];exact hk)) rfl
  rw[this];exact h1
theorem Inv.nI {N:Nat}{st:Ch}(I:Inv N st){n:Nat}{r:List Nat}(e:st.au=n::r){u:Int}(h0:-10000000000 < u)(h1:u < 10000000000):Inv (N+1) (st.nI n u):=by
 have perm:List.Perm (st.nI n u).all st.all:=by
  unfold Ch.all Ch.nI;rw[List.flatMap_append,List.nil_append];show List.Perm ((st.aH.flatMap (·.2.2)++[(n,u,st.au)].flatMap (·.2.2))++st.decided.map (·.1)) _
  rw[show [(n,u,st.au)].flatMap (·.2.2)=st.au by simp,<-ami]
  exact List.Perm.append_right _ List.perm_append_comm
 refine⟨alp I.lm,alp I.lr,alp I.ld,?_,λx hx=>alp (I.lk x hx),⟨I.sit.1,by have:=I.sit.2;show st.aU<=_;omega⟩,λm hm=>(I.mok m hm).mono (by omega),λk hk=>I.num k (perm.mem_iff.mp hk),perm.nodup_iff.mpr I.nd,.nil,?_,I.kk,I.ff,I.dw⟩
 ·show (st.aH++[(n,u,st.au)]).length<=_;rw[ma,ala];have:=I.la;omega
 ·intro x hx;rcases List.mem_append.mp hx with hx | hx
  ·exact I.asd x hx
  ·rw[alo]at hx;subst hx;exact⟨I.pil,⟨r,e⟩,h0,h1⟩
def Ch.carry (st:Ch):Mn->Ch
 | .chg e=>match st.au with
  |n::_=>(match st.mo n with
   | .mat tx=>st.PM n tx e
   |_=>st)
  |[]=>st
 | .mnd f=>match st.au.getLast? with
  |some n=>(match st.mo n with
   | .chg e=>st.PN n e (bR (R.bq e.th) f)
   |_=>st)
  |none=>st
 | .off u=>match st.au with
  |n::_=>st.nI n u
  |[]=>st
 | .cls=>{ st with closed:=true }
 | .lay=>match st.au with
  |n::_=>st.nI n st.aU
  |[]=>st
 | .rst=>{ st with aU:=st.aU+1 }
 |_=>st
theorem t6 (xs:List Str)(e:Ed):(bR xs e).length<=xs.length+1:=by
 unfold bR;split
 ·rw[ma,alb,alD,amo];omega
 ·exact alp (List.length_eraseIdx_le _ _)
 ·rw[alZ];omega
theorem D3 {xs:List Str}{e:Ed}{x:Str}(h:x∈bR xs e):x∈xs\/x=e.th:=by
 unfold bR at h;split at h
 ·rcases List.mem_append.mp h with h | h
  ·exact .inl (List.mem_of_mem_take h)
  ·rcases List.mem_cons.mp h with h | h
   ·exact .inr h
   ·exact .inl (List.mem_of_mem_drop h)
 ·exact .inl (List.mem_of_mem_eraseIdx h)
 ·exact List.mem_or_eq_of_mem_set h
theorem Sj {α β:Type}{f:α->β}{xs:List α}{y:β}(h:xs.map f=[y]):∃a,xs=[a]/\f a=y:=by
 cases xs with
 |nil=>cases h
 |cons a r =>
  cases r with
  |nil=>exact⟨a,rfl,by simpa using h⟩
  |cons b r=>simp at h
theorem WE {α β:Type}{f:α->β}{xs:List α}{y z:β}(h:xs.map f=[y,z]):∃a b,xs=[a,b]/\f a=y/\f b=z:=by
 cases xs with
 |nil=>cases h
 |cons a r =>
  rw[km]at h;obtain⟨b,rfl,e⟩:=Sj (List.cons.inj h).2;exact⟨a,b,rfl,(List.cons.inj h).1,e⟩
theorem M8 {α β:Type}{f:α->β}{xs:List α}{y:β}{r:List β}(h:xs.map f=y::r):∃a s,xs=a::s/\f a=y:=by
 cases xs with
 |nil=>cases h
 |cons a s=>exact⟨a,s,rfl,(List.cons.inj h).1⟩
theorem EdB.ok {N:Nat}{e:Ed}(h:EdB N e)(hN:N<=4000):rp e:=by
 obtain⟨a,b,c,ws,d,f,g⟩:=h;refine⟨a,b,c,?_,?_⟩
 ·rw[d];exact p0 (λx hx=>by
   rw[show (R.bl1:Str).cps.toList=[32] by trivial,alo]at hx
   omega) ws λw hw=>λx hx=>by have:=(f w hw).sgn x hx;unfold R.Sign at this;omega
 ·rw[d,R.oB];have h1:=tO 32 ws;have h2:=R.DX f;omega
theorem EdB.str {N:Nat}{e:Ed}(h:EdB N e):alB e.th=true:=by
 obtain⟨a,b,c,ws,d,f,g⟩:=h;rw[d];exact(p0 (λx hx=>by
  rw[show (R.bl1:Str).cps.toList=[32] by trivial,alo]at hx
  omega) ws λw hw=>λx hx=>by have:=(f w hw).sgn x hx;unfold R.Sign at this;omega).ok
theorem EdB.words {N:Nat}{e:Ed}(h:EdB N e):(∀w∈R.bq e.th,R.oE w)/\(R.bq e.th).length<=N:=by
 obtain⟨a,b,c,ws,d,f,g⟩:=h;rw[d,R.l4 f];exact⟨f,g⟩
theorem vm {ws:List Str}{f:Ed}(h:∀w∈ws,R.oE w)(hf:R.oE f.th):∀w∈bR ws f,R.oE w:=λw hw=>by
 rcases D3 hw with h1 | h1
 ·exact h w h1
 ·rw[h1];exact hf
theorem M9 (n:Nat)(e:Ed)(xs:List (Nat×List Ed)):(rq n e xs).map (·.1)=xs.map (·.1):=by
 unfold rq;rw[List.map_map];refine aml λx _=>?_
 show (if x.1=n then (x.1,x.2++[e]) else x).1=x.1
 split <;> rfl
theorem PQ {n N:Nat}{e:Ed}{xs:List (Nat×List Ed)}(h:∀x∈xs,x.2.length<=N):∀x∈rq n e xs,x.2.length<=N+1:=by
 intro x hx;obtain⟨y,hy,rfl⟩:=List.mem_map.mp hx;have:=h y hy;split
 ·show (y.2++[e]).length<=_;rw[ma,ala];omega
 ·omega
theorem Inv.carry {N:Nat}{st:Ch}(I:Inv N st)(hN:N<=900){m:Mn}(ht:y6 (st.au.map st.mo) m)(hm:MOk N m):Inv (N+1) (st.carry m):=by
 have J:=I.mono (al1 N);cases m with
 |mat tx=>exact J
 |pnt z=>exact J
 |chg e =>
  obtain⟨tx,h1,hf⟩:=ht;obtain⟨k,e1,e2⟩:=Sj h1;have hn:k∈st.au:=by rw[e1];exact gr
  have htx:=I.ue (I.bL k hn);rw[e2]at htx;have e3:st.carry (.chg e)=st.PM k tx e:=by unfold Ch.carry;rw[e1];dsimp only;rw[e2]
  rw[e3];refine I.T9 hn (by rw[e2];rfl) ?_ (M9 k e st.kept) (PQ I.lk) ?_
  ·have:=t6 tx e;have h3:tx.length<=12+N:=htx.1;refine⟨by omega,λx hx=>?_⟩
   rcases D3 hx with h | h
   ·exact htx.2 x h
   ·rw[h];exact EdB.str hm
  ·rw[e1,km,alM,Fv (I.bL k hn) rfl];exact PMs.snoc (ms:=[]) .nil rfl
 |mnd f =>
  obtain⟨tx,e,h1,hk,hf⟩:=ht;obtain⟨a,b,e1,e2,e3⟩:=WE h1;have ha:a∈st.au:=by rw[e1];exact gr
  have hb:b∈st.au:=by rw[e1];exact me _ gr
  have he:=I.ue (I.bL b hb);rw[e3]at he;have he':EdB (12+N) e:=he;obtain⟨w1,w2⟩:=he'.words;have e4:st.carry (.mnd f)=st.PN b e (bR (R.bq e.th) f):=by unfold Ch.carry;rw[e1];show (match st.mo b with | .chg e=>_ | _=>st)=_;rw[e3];rfl
  rw[e4];obtain⟨_,w,hw,hw2⟩:=hm;refine I.T9 (kp:=st.kept) hb (by rw[e3];rfl) ?_ rfl (λx hx=>alp (I.lk x hx)) ?_
  ·refine⟨he'.1,he'.2.1,he'.2.2.1,_,rfl,vm w1 (by rw[hw];exact hw2),?_⟩
   have:=t6 (R.bq e.th) f;omega
  ·have ne:a≠b:=λz=>by rw[z,e3]at e2;cases e2
   have hp:=I.pil;rw[h1]at hp;obtain⟨tx',e5,e6⟩:=(PMs.pop (ms:=[.mat tx]) hp).2;cases e5;rw[e1,km,km,alM,Fv (I.bL b hb) rfl,t5 (I.bL b hb) (I.bL a ha).1 ne rfl,e2];exact PMs.snoc (ms:=[.mat tx]) (PMs.snoc (ms:=[]) .nil rfl) ⟨tx,rfl,e6⟩
 |off u =>
  obtain⟨⟨tx,r,h1⟩,_⟩:=ht;obtain⟨k,s,e1,_⟩:=M8 h1;have e3:st.carry (.off u)=st.nI k u:=by unfold Ch.carry;rw[e1]
  rw[e3];exact I.nI e1 hm.1 hm.2
 |lay =>
  obtain⟨⟨tx,r,h1⟩,_⟩:=ht;obtain⟨k,s,e1,_⟩:=M8 h1;have e3:st.carry .lay=st.nI k st.aU:=by unfold Ch.carry;rw[e1]
  rw[e3];have:=I.sit;exact I.nI e1 (by omega) (by omega)
 |cls=>exact⟨J.lm,J.lr,J.ld,J.la,J.lk,J.sit,J.mok,J.num,J.nd,J.pil,J.asd,J.kk,J.ff,J.dw⟩
 |rst=>exact⟨J.lm,J.lr,J.ld,J.la,J.lk,⟨by have:=I.sit.1;show 1<=st.aU+1;omega,by have:=I.sit.2;show st.aU+1<=_;omega⟩,J.mok,J.num,J.nd,J.pil,J.asd,J.kk,J.ff,J.dw⟩
inductive Rs where
 |num (n:Nat) | txt (z:Str) | exc (x:Xc)
abbrev B8:Str:=ar "kept"
abbrev Ua:Str:=ar "lost"
abbrev nc:Str:=ar "dropped"
def sP (b:Bool):Str:=if b=true then B8 else Ua
theorem Fx (b:Bool):alB (sP b)=true:=by
 unfold sP;split <;> trivial
def qe (st:Ch)(a b:Int):Rs×Ch:=match st.au.getLast? with
 |none=>(.exc .nothing,st)
 |some n=>if a+b > st.cZ then (.exc .tooMany,st) else
  (.txt (sP (n5 (nd (st.mo n).k) a b)),(if n5 (nd (st.mo n).k) a b=true then (st.popped st.au.dropLast n (sP (n5 (nd (st.mo n).k) a b))).carry (st.mo n) else st.popped st.au.dropLast n (sP (n5 (nd (st.mo n).k) a b))).vk (R.sI (.nums (ar "vote") [a,b])))
def q5 (st:Ch):Rs×Ch:=match st.au.getLast? with
 |none=>(.exc .nothing,st)
 |some n=>(.txt nc,(st.popped st.au.dropLast n nc).vk (R.sI (.nums (ar "drop") [])))
def stepT (st:Ch)(n:Nat):Rs×Ch:=if st.au=[] then (match at1 n st.aH with
 |none=>(.exc .tZ,st)
 |some x=>if st.aU < x.2.1 then (.exc (.Fp x.2.1),st) else (.num n,{ st.qZ n x.2.2 with rows:=st.rows++[R.sI (.nums (ar "take") [(n:Int)])] })) else (.exc (.oF (fN st.closed (st.au.map st.mo))),st)
def iq (st:Ch):Mn->Option Xc
 | .chg e=>match st.au.map st.mo with
  | .mat tx::_=>if fS tx.length e=true then none else some .noFit
  |_=>none
 | .mnd f=>match (st.au.map st.mo).getLast? with
  |some (.chg e)=>if fS (R.bq e.th).length f=true then none else some .noFit
  |_=>none
 | .off u=>if u<=st.aU then some (.p8 st.aU) else none
 |_=>none
def ir (st:Ch)(m:Mn):Option Xc:=match fU st.closed (st.au.map st.mo) m.k with
 |some x=>some x
 |none=>iq st m
def Ch.moved (st:Ch)(m:Mn)(row:Str):Ch:={ st with made:=st.made++[m],au:=st.au++[st.made.length+1],firsts:=(match m with | .mat tx=>st.firsts++[(st.made.length+1,tx)] | _=>st.firsts),kept:=(match m with | .mat _=>st.kept++[(st.made.length+1,([]:List Ed))] | _=>st.kept),rows:=st.rows++[row] }
def qf (st:Ch)(m:Mn)(row:Str):Rs×Ch:=match ir st m with
 |some x=>(.exc x,st)
 |none=>(.num (st.made.length+1),st.moved m row)
theorem Inv.moved {N:Nat}{st:Ch}(I:Inv N st){m:Mn}(hm:MOk N m)(hc:ir st m=none)(row:Str):Inv (N+3) (st.moved m row):=by
 have J:=I.mono (show N<=N+3 by omega)
 have ho:fU st.closed (st.au.map st.mo) m.k=none/\iq st m=none:=by
  unfold ir at hc;split at hc
  ·cases hc
  ·exact⟨by assumption,hc⟩
 have hf:aa9 (st.au.map st.mo) m:=by
  have h:=ho.2;cases m with
  |chg e =>
   intro tx r e1;unfold iq at h;dsimp only at h;rw[e1]at h;dsimp only at h;split at h
   ·assumption
   ·cases h
  |mnd f =>
   intro r e e1;unfold iq at h;dsimp only at h;rw[e1,alK]at h;dsimp only at h;split at h
   ·assumption
   ·cases h
  |_=>trivial
 have em:(st.moved m row).made=st.made++[m]:=rfl;have old:∀ks:List Nat,(∀k∈ks,dX st k)->ks.map (st.moved m row).mo=ks.map st.mo:=λks h=>aml λk hk=>Kc em (h k hk)
 have nok:∀k,dX st k->dX (st.moved m row) k:=λk h=>⟨h.1,by show k<=(st.made++[m]).length;rw[ma];have:=h.2;omega⟩
 have perm:List.Perm (st.moved m row).all ((st.made.length+1)::st.all):=by
  unfold Ch.all Ch.moved;rw[ami];exact List.perm_middle
 have mt:(st.moved m row).wN=st.wN++(if m.k=0 then [st.made.length+1] else []):=by
  unfold Ch.wN;rw[em,ma,ala,List.range'_concat,List.filter_append,Nat.one_mul,Nat.add_comm 1]
  congr 1
  ·refine List.filter_congr λk hk=>?_
   rw[amh]at hk;rw[Kc em ⟨hk.1,by omega⟩]
  ·rw[List.filter_cons,Kd em]
   by_cases z:m.k=0
   ·rw[if_pos (decide_eq_true z),if_pos z];rfl
   ·rw[if_neg (by rw[decide_eq_false z];decide),if_neg z];rfl
 refine⟨?_,?_,J.ld,J.la,?_,J.sit,?_,?_,?_,?_,?_,?_,?_,J.dw⟩
 ·show 3 * (st.made++[m]).length<=_;rw[ma,ala];have:=I.lm;omega
 ·show (st.rows++[row]).length<=_;rw[ma,ala];have:=I.lr;omega
 ·intro x hx;have hx':x∈(match m with | .mat _=>st.kept++[(st.made.length+1,([]:List Ed))] | _=>st.kept):=hx
  cases m with
  |mat tx =>
   rcases List.mem_append.mp hx' with h | h
   ·exact J.lk x h
   ·rw[alo]at h;rw[h];exact alX _
  |_=>exact J.lk x hx'
 ·intro x hx;rcases List.mem_append.mp (show x∈st.made++[m] from hx) with h | h
  ·exact J.mok x h
  ·rw[alo]at h;rw[h];exact hm.mono (by omega)
 ·intro k hk;rcases List.mem_cons.mp (perm.mem_iff.mp hk) with h | h
  ·rw[h];exact⟨by omega,by show _<=(st.made++[m]).length;rw[ma,ala];omega⟩
  ·exact nok k (I.num k h)
 ·rw[perm.nodup_iff,List.nodup_cons];exact⟨λz=>by have:=(I.num _ z).2;omega,I.nd⟩
 ·show PMs ((st.au++[st.made.length+1]).map (st.moved m row).mo);rw[ko,old st.au I.bL,km,alM,Kd em];exact I.pil.push ho.1 hf
 ·intro x hx;obtain⟨h1,h2⟩:=I.asd x hx;exact⟨by rw[old _ (I.sO hx)];exact h1,h2⟩
 ·rw[mt,<-I.kk];cases m with
  |mat tx=>show (st.kept++[(st.made.length+1,([]:List Ed))]).map (·.1)=_;rw[ko,if_pos (show (Mn.mat tx).k=0 from rfl)];rfl
  |_=>exact(ama _).symm
 ·rw[mt,<-I.ff];cases m with
  |mat tx=>show (st.firsts++[(st.made.length+1,tx)]).map (·.1)=_;rw[ko,if_pos (show (Mn.mat tx).k=0 from rfl)];rfl
  |_=>exact(ama _).symm
theorem D4 {n:Nat}{x:Nat×Int×List Nat}:∀ {as:List (Nat×Int×List Nat)},(as.flatMap (·.2.2)).Nodup->(∀y∈as,∃r,y.2.2=y.1::r)->at1 n as=some x->List.Perm (x.2.2++(as.filter λy=>decide (y.1≠n)).flatMap (·.2.2)) (as.flatMap (·.2.2))
 |[],_,_,h=>nomatch h
 |y::as,nd,hd,h=>by
  rw[List.flatMap_cons]at nd ⊢;obtain⟨n1,n2,n3⟩:=List.nodup_append.mp nd;unfold at1 at h;rw[alO]at h
  by_cases e:y.1=n
  ·rw[decide_eq_true e]at h;cases h;have:as.filter (λz=>decide (z.1≠n))=as:=by
    rw[List.filter_eq_self];intro z hz;refine decide_eq_true λq=>?_
    obtain⟨r,hr⟩:=hd z (me _ hz);obtain⟨r',hr'⟩:=hd x gr;exact n3 n (by rw[hr',e];exact gr) n (List.mem_flatMap.mpr ⟨z,hz,by rw[hr,q];exact gr⟩) rfl
   rw[List.filter_cons_of_neg (by simp[e]),this]
  ·rw[decide_eq_false e]at h;have ih:=D4 n2 (λz hz=>hd z (me _ hz)) h
   rw[List.filter_cons_of_pos (by simp[e]),List.flatMap_cons,<-ami]
   exact(List.Perm.append_right _ List.perm_append_comm).trans (by rw[ami];exact List.Perm.append_left _ ih)
theorem Inv.qZ {N:Nat}{st:Ch}(I:Inv N st){n:Nat}{x:Nat×Int×List Nat}(hp:st.au=[])(hx:at1 n st.aH=some x)(row:Str):Inv (N+1) { st.qZ n x.2.2 with rows:=st.rows++[row] }:=by
 have J:=I.mono (al1 N);have hm:=(jy hx).2;have nd:=I.nd;unfold Ch.all at nd;rw[hp,List.nil_append]at nd;have pm:=D4 (List.nodup_append.mp nd).1 (λy hy=>(I.asd y hy).2.1) hx
 have perm:List.Perm (Ch.all { st.qZ n x.2.2 with rows:=st.rows++[row] }) st.all:=by
  unfold Ch.all Ch.qZ;rw[hp,List.nil_append,<-ami];exact List.Perm.append_right _ pm
 refine⟨J.lm,?_,J.ld,?_,J.lk,J.sit,J.mok,λk hk=>I.num k (perm.mem_iff.mp hk),perm.nodup_iff.mpr I.nd,(I.asd x hm).1,λy hy=>I.asd y (List.mem_filter.mp hy).1,I.kk,I.ff,I.dw⟩
 ·show (st.rows++[row]).length<=_;rw[ma,ala];have:=I.lr;omega
 ·exact ak3 (amt _ _) J.la
theorem Inv.qe {N:Nat}{st:Ch}(I:Inv N st)(hN:N<=800)(a b:Int):Inv (N+3) (qe st a b).2:=by
 unfold My.qe;split
 ·exact I.mono (by omega)
 ·rename_i n h;obtain⟨pre,e⟩:=qd h;split
  ·exact I.mono (by omega)
  ·have ed:st.au.dropLast=pre:=by rw[e];exact amf
   obtain⟨I1,ht⟩:=I.pop e (sP (n5 (My.nd (st.mo n).k) a b)) (Fx _);rw[ed];have hn:n∈st.au:=by rw[e];simp
   split
   ·exact(I1.carry (by omega) ht ((I.ue (I.bL n hn)).mono (by omega))).vk _
   ·exact(I1.vk _).mono (by omega)
theorem Inv.q5 {N:Nat}{st:Ch}(I:Inv N st):Inv (N+3) (q5 st).2:=by
 unfold My.q5;split
 ·exact I.mono (by omega)
 ·rename_i n h;obtain⟨pre,e⟩:=qd h;have ed:st.au.dropLast=pre:=by rw[e];exact amf
  rw[ed];exact((I.pop e nc (by trivial)).1.vk _).mono (by omega)
theorem Inv.stepT {N:Nat}{st:Ch}(I:Inv N st)(n:Nat):Inv (N+3) (stepT st n).2:=by
 unfold My.stepT;split
 ·split
  ·exact I.mono (by omega)
  ·split
   ·exact I.mono (by omega)
   ·exact(I.qZ (by assumption) (by assumption) _).mono (by omega)
 ·exact I.mono (by omega)
theorem Inv.qf {N:Nat}{st:Ch}(I:Inv N st){m:Mn}(hm:MOk N m)(row:Str):Inv (N+3) (qf st m row).2:=by
 unfold My.qf;split
 ·exact I.mono (by omega)
 ·exact I.moved hm (by assumption) row
theorem B9:∀(L:Nat) (l:List Nat),l.Nodup->(∀n∈l,1<=n/\n<=L)->l.length<=L
 | 0,l,_,h=>by
  cases l with
  |nil=>exact kq 0
  |cons x r=>have:=h x gr;omega
 |L+1,l,nd,h=>by
  by_cases m:L+1∈l
  ·have ih:=B9 L (l.erase (L+1)) (nd.erase _) (λn hn=>by
    obtain⟨h1,h2⟩:=nd.mem_erase_iff.mp hn;have:=h n h2;omega)
   rw[List.length_erase_of_mem m]at ih;omega
  ·have ih:=B9 L l nd (λn hn=>by
    have:=h n hn;have:n≠L+1:=λz=>m (by rw[<-z];exact hn)
    omega)
   omega
theorem GJ:∀ {as:List (Nat×Int×List Nat)},(∀y∈as,∃r,y.2.2=y.1::r)->List.Sublist (as.map (·.1)) (as.flatMap (·.2.2))
 |[],_=>.slnil
 |y::as,h=>by
  obtain⟨r,hr⟩:=h y gr;rw[km,List.flatMap_cons,hr,List.cons_append];exact .cons₂ _ ((GJ λz hz=>h z (me _ hz)).trans (List.sublist_append_right _ _))
theorem Inv.WG {N:Nat}{st:Ch}(I:Inv N st):(st.aH.map (·.1)).Nodup:=by
 have nd:=I.nd;unfold Ch.all at nd;exact(GJ λy hy=>(I.asd y hy).2.1).nodup (List.nodup_append.mp (List.nodup_append.mp nd).2.1).1
theorem Inv.Ca {N:Nat}{st:Ch}(I:Inv N st):st.aH.length<=st.made.length:=by
 have h:=B9 st.made.length (st.aH.map (·.1)) I.WG (λn hn=>by
  obtain⟨x,hx,e⟩:=List.mem_map.mp hn;obtain⟨r,hr⟩:=(I.asd x hx).2.1;exact I.sO hx n (by rw[hr,e];exact gr))
 rw[bo]at h;exact h
def Mo (A:Adr)(i:Nat)(c:Col)(H:Hp)(o:Addr):Rs×Ch->VK->XK->Prop
 | (.num n,st),Q,_=>∀c' H',Step (cM i) c c' H H'->dR A i c' H' o st->Q (nV n) H'
 | (.txt z,st),Q,_=>∀c' H',Step (cM i) c c' H H'->dR A i c' H' o st->Q (.str z) H'
 | (.exc x,st),_,E=>∀c' H' C d,Step (cM i) c c' H H'->dR A i c' H' o st->x.At A H' C d->(∀a,d=some a->c' a=none)->E C d H'
def Mp:List Str:=[ar "seats",ar "sitting",ar "closed",ar "made",ar "pile",ar "aside",ar "decided",ar "first_texts",ar "edits_kept",ar "rows"]
theorem cF {m:Str}{v0 v1 v2 v3 v4 v5 v6 v7 v8 v9:V}(h:m∉Mp):(chF v0 v1 v2 v3 v4 v5 v6 v7 v8 v9).lookup m=none:=by
 unfold Mp at h;simp only[List.mem_cons,List.not_mem_nil,or_false,not_or]at h;obtain⟨h0,h1,h2,h3,h4,h5,h6,h7,h8,h9⟩:=h;unfold chF;simp only[alR,beq_eq_false_iff_ne.mpr h0,beq_eq_false_iff_ne.mpr h1,beq_eq_false_iff_ne.mpr h2,beq_eq_false_iff_ne.mpr h3,beq_eq_false_iff_ne.mpr h4,beq_eq_false_iff_ne.mpr h5,beq_eq_false_iff_ne.mpr h6,beq_eq_false_iff_ne.mpr h7,beq_eq_false_iff_ne.mpr h8,beq_eq_false_iff_ne.mpr h9]
def Sk (A:Adr)(i:Nat):Sp:=λvs H Q _=>∃(o mo:Addr) (c:Col) (st:Ch) (m:Mn) (N:Nat),vs=[.ref o,.ref mo]/\dR A i c H o st/\mZ A c H m mo/\Inv N st/\N<=900/\y6 (st.au.map st.mo) m/\MOk N m /\
 ∀c' H',Step (cM i) c c' H H'->dR A i c' H' o (st.carry m)->Q .non H'
def WH (A:Adr)(i:Nat):Sp:=λvs H Q E=>∃(o:Addr) (a b:Int) (c:Col) (st:Ch) (N:Nat),vs=[.ref o,.int a,.int b]/\dR A i c H o st/\Inv N st/\N<=800/\(0<=a/\a < 10 ^ 10)/\(0<=b/\b < 10 ^ 10)/\Mo A i c H o (qe st a b) Q E
def WI (A:Adr)(i:Nat):Sp:=λvs H Q E=>∃(o:Addr) (c:Col) (st:Ch) (N:Nat),vs=[.ref o]/\dR A i c H o st/\Inv N st/\N<=800/\Mo A i c H o (q5 st) Q E
def WJ (A:Adr)(i:Nat):Sp:=λvs H Q E=>∃(o:Addr) (z:Int) (c:Col) (st:Ch) (N:Nat),vs=[.ref o,.int z]/\dR A i c H o st/\Inv N st/\N<=800/\-1<=z/\z < 10 ^ 10/\Mo A i c H o (stepT st z.toNat) Q E
theorem yq:∀ {ks:List Nat} {vs:List V},g9 (bf (ks.zip vs)) (ku (-1))=none
 |[],_=>rfl
 |_::_,[]=>rfl
 |k::ks,v::vs=>by
  rw[dE,bX (λz=>by have:=Sum.inl.inj z;omega)]
  exact yq
theorem Inv.no0 {N:Nat}{st:Ch}(I:Inv N st):at1 0 st.aH=none:=by
 cases e:at1 0 st.aH with
 |none=>rfl
 |some x =>
  obtain⟨h1,h2⟩:=jy e;obtain⟨r,hr⟩:=(I.asd x h2).2.1;have:=(I.sO h2 x.1 (by rw[hr];exact gr)).1
  omega
theorem Fy {i:Nat}{c:Col}{H:Hp}{t:Addr}{xs:List V}:yn i (az c t none) (upd H t (.tup xs)) t xs:=⟨by rw[aX];exact aL,ae⟩
theorem sQ {A:Adr}{c:Col}{H H':Hp}{f:Nat->Mn}(s:bw H H'):∀ {ns:List Nat} {os:List Addr},bG (λn m=>mZ A c H (f n) m) ns os->bG (λm p=>mZ A c H' m p) (ns.map f) os
 |_,_,.nil=>.nil
 |_,_,.cons h t=>.cons (h.same s) (sQ s t)
theorem Cb {kd:Str}{ns:List Int}(h:(kd,ns.length)∈R.jt)(hn:∀i∈ns,0<=i/\i < 10 ^ 10):R.DOk (.nums kd ns):=⟨h,hn⟩
section
variable{P:rf}{w:World}{K:ba}{mg:Str->Option Value}{base:Heap}{A:Adr}
theorem Fz (T:Txt w.params K mg A){i:Nat}:a8 P w K mg base CX0 5 A.bN A.gL ["self","motion"] (Sk A i):=by
 have gY:∀k,k < 8->a8 P w K mg base CX0 1 (A.fk k) (A.fkd k) ["self"] (gx k):=lZ T;refine T.dS.ok kX (λvs H Q E h=>?_) (λcdv A' outer s H vs Q E hr h=>?_)
 ·obtain⟨o,mo,c,st,m,N,rfl,_⟩:=h;rfl
 ·obtain⟨o,mo,c,st,m,N,rfl,hc,hmo,I,hN,wO,C1,q⟩:=h;obtain⟨dx,aM,aP,aA,aD,aF,aE,aR,ms,ds,ws,fs,es,X⟩:=hc.ex;refine⟨_,(ai (aY (i:=2) kX.nd rfl (tm rfl) (l8 (n:=8) (Cf:=A.C) (pv 1) T.cl T.ou gY (hr.mono (by decide)) T.oy aW))
 (aj (a9 (ay bt (pv 2) ao (aJ _))
 (aj (bK (iE (pv 0) T.aq T.i6 (yo (i:=i) T) hr T.dO .nil aW (aa (br (pv 1) rfl) ag))))
 (aj (a9 (ay bt (pv 2) ao (aJ _))
 (aj (bK (iE (pv 0) T.aq T.i7 (yp (i:=i) T) hr T.dP .nil aW (aa (br (pv 1) rfl) ag))))
 (aj (a9 (ay bt (pv 2) ao (aJ _))
 (aj (bK (iE (pv 0) T.aq T.ip (wL (i:=i) T) (hr.mono (by decide)) T.dW .nil aW (aa (br (pv 1) rfl) ag))))
 (aj (a9 (ay bt (pv 2) ao (aJ _))
 (aj (eP (pv 0) lO rfl))
 (aj (a9 (ay bt (pv 2) ao (aJ _))
 (aj (bK (iE (pv 0) T.aq T.ip (wL (i:=i) T) (hr.mono (by decide)) T.dW .nil aW (aa (br (pv 0) rfl) ag))))
 (aj (a9 (ay bt (pv 2) ao (aJ _))
 (aj (eP (pv 0) (a6 dI (br (pv 0) rfl) af) rfl))
 aC))))))))))))),?_⟩
  try dsimp only[bF]
  refine aN λGq gq=>?_
  obtain⟨hcn,dm,v,hm,hv⟩:=hmo;refine gq ?_;refine⟨_,rfl,m.k,m.k8,mo,dm,_,rfl,hm,lY m.k v,mo,rfl,?_⟩;have lM:=I.lm;cases m with
  |mat tx=>exact⟨_,rfl,rfl,tsf (b7 0 (by decide)) ⟨_,rfl,rfl,tsf (ck 0 (by decide)) ⟨_,rfl,rfl,tsf (gy 0 (by decide)) ⟨_,rfl,rfl,tsf (jx 0 (by decide)) ⟨_,rfl,rfl,tsf (Fs 0 (by decide)) ⟨_,rfl,rfl,tsf (m9 0 (by decide)) (q c H (Step.refl aL) hc)⟩⟩⟩⟩⟩⟩
  |pnt z=>exact⟨_,rfl,rfl,tsf (b7 7 (by decide)) ⟨_,rfl,rfl,tsf (ck 7 (by decide)) ⟨_,rfl,rfl,tsf (gy 7 (by decide)) ⟨_,rfl,rfl,tsf (jx 7 (by decide)) ⟨_,rfl,rfl,tsf (Fs 7 (by decide)) ⟨_,rfl,rfl,tsf (m9 7 (by decide)) (q c H (Step.refl aL) hc)⟩⟩⟩⟩⟩⟩
  |chg e =>
   refine⟨_,rfl,rfl,tst (b7 1 (by decide)) ?_⟩
   refine aN λGq gq=>?_
   obtain⟨tx,h1,hf⟩:=wO;obtain⟨k,e1,e2⟩:=Sj h1;have hn:k∈st.au:=by rw[e1];exact gr
   have hno:=I.bL k hn;have htx:=I.ue hno;rw[e2]at htx;have aiG:tx.length<=12+N:=htx.1;obtain⟨x,hx,hxl⟩:=I.keptAt hno (by rw[e2];rfl)
   have e3:st.carry (.chg e)=st.PM k tx e:=by unfold Ch.carry;rw[e1];dsimp only;rw[e2]
   rw[e3]at q;have PR:EdB (12+N) e:=C1;obtain⟨t,rfl,ht⟩:=hv;refine gq ?_;refine mtv rfl X.ob (cF (by trivial)) ⟨_,rfl,mo,A.C 1,dm,_,.ref t,rfl,hm,T.cl 1 (by decide),T.na1,rfl,?_⟩
   exact⟨o,t,c,st,k,[],tx,e,x,rfl,hc,e1,hno,e2,by omega,by omega,ht,PR.ok (by omega),hf,hx,by omega,by rw[I.kk];exact Ke st,q⟩
  |mnd f =>
   refine⟨_,rfl,rfl,tsf (b7 2 (by decide)) ⟨_,rfl,rfl,tst (ck 2 (by decide)) ?_⟩⟩
   refine aN λGq gq=>?_
   obtain⟨tx,e,h1,hk,hf⟩:=wO;obtain⟨a,b,e1,e2,e3⟩:=WE h1;have hb:b∈st.au:=by rw[e1];exact me _ gr
   have hno:=I.bL b hb;have he:=I.ue hno;rw[e3]at he;have he':EdB (12+N) e:=he;obtain⟨w1,w2⟩:=he'.words;have e4:st.carry (.mnd f)=st.PN b e (bR (R.bq e.th) f):=by unfold Ch.carry;rw[e1];show (match st.mo b with | .chg e=>_ | _=>st)=_;rw[e3];rfl
   rw[e4]at q;obtain⟨hf1,w0,hw0,hw1⟩:=C1;have l1:=t6 (R.bq e.th) f;have l2:=R.DX (vm w1 (by rw[hw0];exact hw1):∀w∈bR (R.bq e.th) f,R.oE w)
   obtain⟨t,rfl,ht⟩:=hv;refine gq ?_;refine mtv rfl X.ob (cF (by trivial)) ⟨_,rfl,mo,A.C 2,dm,_,.ref t,rfl,hm,T.cl 2 (by decide),T.na2,rfl,?_⟩
   exact⟨o,t,c,st,b,[a],e,f,rfl,hc,e1,hno,e3,hk,he'.ok (by omega),by omega,by omega,ht,hf1.ok (by omega),hf,by omega,q⟩
  |off u =>
   refine⟨_,rfl,rfl,tsf (b7 3 (by decide)) ⟨_,rfl,rfl,tsf (ck 3 (by decide)) ⟨_,rfl,rfl,tst (gy 3 (by decide)) ?_⟩⟩⟩
   refine aN λGq gq=>?_
   obtain⟨⟨tx,r,h1⟩,_⟩:=wO;obtain⟨k,r',e1,_⟩:=M8 h1;have e3:st.carry (.off u)=st.nI k u:=by unfold Ch.carry;rw[e1]
   rw[e3]at q;have hv':v=.int u:=hv;subst hv';have:=I.la;refine gq ?_;refine mtv rfl X.ob (cF (by trivial)) ⟨_,rfl,mo,A.C 3,dm,_,.int u,rfl,hm,T.cl 3 (by decide),T.na3,rfl,?_⟩
   exact⟨o,u,c,st,k,r',rfl,hc,e1,I.Fw (by rw[e1];exact gr),by omega,q⟩
  |cls =>
   refine⟨_,rfl,rfl,tsf (b7 4 (by decide)) ⟨_,rfl,rfl,tsf (ck 4 (by decide)) ⟨_,rfl,rfl,tsf (gy 4 (by decide)) ⟨_,rfl,rfl,tst (jx 4 (by decide)) ?_⟩⟩⟩⟩
   refine⟨_,rfl,o,A.ax,dx,_,rfl,X.ob,T.aq,T.jq3,(by show 10 < 1000;decide),?_⟩
   rw[B3];obtain⟨s1,X1⟩:=X.attr st.aU true;exact q c _ s1.iy X1.at
  |lay =>
   refine⟨_,rfl,rfl,tsf (b7 5 (by decide)) ⟨_,rfl,rfl,tsf (ck 5 (by decide)) ⟨_,rfl,rfl,tsf (gy 5 (by decide)) ⟨_,rfl,rfl,tsf (jx 5 (by decide)) ⟨_,rfl,rfl,tst (Fs 5 (by decide)) ?_⟩⟩⟩⟩⟩
   refine aN λGq gq=>?_
   obtain⟨⟨tx,r,h1⟩,_⟩:=wO;obtain⟨k,r',e1,_⟩:=M8 h1;have e3:st.carry .lay=st.nI k st.aU:=by unfold Ch.carry;rw[e1]
   rw[e3]at q;have:=I.la;refine gq ?_;refine mtv rfl X.ob (cF (by trivial)) (eS rfl X.ob T.aq T.jq1 i9 ?_)
   exact⟨o,st.aU,c,st,k,r',rfl,hc,e1,I.Fw (by rw[e1];exact gr),by omega,q⟩
  |rst =>
   refine⟨_,rfl,rfl,tsf (b7 6 (by decide)) ⟨_,rfl,rfl,tsf (ck 6 (by decide)) ⟨_,rfl,rfl,tsf (gy 6 (by decide)) ⟨_,rfl,rfl,tsf (jx 6 (by decide)) ⟨_,rfl,rfl,tsf (Fs 6 (by decide)) ⟨_,rfl,rfl,tst (m9 6 (by decide)) ?_⟩⟩⟩⟩⟩⟩
   refine eS rfl X.ob T.aq T.jq1 i9 ⟨_,_,rfl,rfl,_,rfl,o,A.ax,dx,_,rfl,X.ob,T.aq,T.jq1,(by show 10 < 1000;decide),?_⟩
   rw[GD];obtain⟨s1,X1⟩:=X.attr (st.aU+1) st.closed;exact q c _ s1.iy X1.at
theorem Sl (T:Txt w.params K mg A){i:Nat}:a8 P w K mg base (CXX P w) 6 A.cU A.lF ["self","ayes","noes"] (WH A i):=by
 have WK:∀k,k < 8->a8 P w K mg base CX0 1 (A.fn k) (A.fnd k) ["self"] (Fg k):=Sb T;refine T.gS.okX lB (λvs H Q E h=>?_) (λcdv A' outer s H vs Q E hr h=>?_)
 ·obtain⟨o,a,b,c,st,N,rfl,_⟩:=h;rfl
 ·obtain⟨o,a,b,c,st,N,rfl,hc,I,hN,ha,hb,q⟩:=h;obtain⟨dx,aM,aP,aA,aD,aF,aE,aR,ms,ds,ws,fs,es,X⟩:=hc.ex;have hu1:=hr.u1;refine⟨_,(bc (kW (xw (px (pv 0)) T.aq T.eu (m8 (i:=i) T) (hr.mono (by decide)) T.cx))
 (bc (ic (ay AN (a6 dI (pv 1) (pv 2)) (br (pv 0) rfl) (aJ _))
 (bD (jM T.BR rfl rfl T.DS (aa ao ag)))
 (vO aC))
 (bc (psx (aY (i:=3) lB.nd rfl (tm rfl) (bh hu1 (br (pv 0) rfl) (aK bx (br (pv 0) rfl) (jE gv af) (λ_ _=>rfl)) (λ_ _=>rfl))))
 (bc (psx (aY (i:=4) lB.nd rfl (tm rfl) (FO (mC (aV (J7 T) (hr.mono (by decide)) rfl T.DC T.xV.kp T.DB .nil aW (aa (l8 (n:=8) (Cf:=A.C) (pv 3) T.cl T.Po WK (hr.mono (by decide)) T.Pp aW) (aa (pv 1) (aa (pv 2) ag))))) ao ao)))
 (bc (psx (bK (iE (pv 0) T.aq T.j8 (DZ (i:=i) T) (hr.mono (by decide)) T.fh .nil aW (aa (pv 4) ag))))
 (bc (psx (a9 (ay bt (pv 4) ao (aJ _))
 (aj (bK (iE (pv 0) T.aq T.lR (Fz (i:=i) T) hr T.eM .nil aW (aa (pv 3) ag))))
 aC))
 (bc (psx (bK (iE (pv 0) T.aq T.fM (q0 (i:=i) T) hr T.cY .nil aW (aa (bg (aa ao (aa (pv 1) (aa (pv 2) ag)))) ag))))
 (bD (psx (aB (pv 4))))))))))),?_⟩
  try dsimp only[bF]
  refine mtv rfl X.ob (cF (by trivial)) ⟨o,c,st,rfl,hc,λhne=>?_,λhe=>?_⟩
  case refine_2 =>
   unfold qe at q;rw[he]at q;exact q c H _ _ (Step.refl aL) hc ⟨rfl,rfl⟩ (λ_ z=>nomatch z)
  refine aN λGq gq=>?_
  obtain⟨pre,n,e⟩:∃pre n,st.au=pre++[n]:=by
   rcases ak4 st.au with e | ⟨pre,n,e⟩
   ·exact absurd e hne
   ·exact⟨pre,n,by rw[e,ak5]⟩
  have gl:st.au.getLast?=some n:=by rw[e];exact alK
  have ed:st.au.dropLast=pre:=by rw[e];exact amf
  unfold qe at q;rw[gl]at q;dsimp only at q;rw[ed]at q;refine gq ?_;refine⟨_,rfl,_,rfl,_,_,rfl,rfl,eS rfl X.ob T.aq T.jqt M0 ⟨_,_,rfl,rfl,_,rfl,fD (λz=>?_) (λz=>?_)⟩⟩
  ·have z':a+b > st.cZ:=of_decide_eq_true z;rw[if_pos z']at q;exact⟨by decide,q c H _ _ (Step.refl aL) hc ⟨rfl,rfl⟩ (λ_ z=>nomatch z)⟩
  refine aN λGq gq=>?_
  have z':¬a+b > st.cZ:=λy=>z (decide_eq_true y)
  rw[if_neg z']at q;have hn:n∈st.au:=by rw[e];simp
  have hno:=I.bL n hn;obtain⟨mo,hv,hmo⟩:=X.Sg hno;have hcp:=hmo;obtain⟨_,dm,v,hm,_⟩:=hmo;have h0:atI (st.au.map nV) (-1)=some (nV n):=by rw[e,ko];exact gH _ _
  refine gq ?_;refine⟨_,rfl,o,A.ax,dx,_,.ref aM,rfl,X.ob,T.aq,T.jq2,iz,_,rfl,o,A.ax,dx,_,.ref aP,rfl,X.ob,T.aq,T.jq0,fm,_,rfl,aP,_,_,_,rfl,rfl,SqL.of X.au.2,h0,aM,_,rfl,.inl ⟨_,ku (n:Int),.inl X.made.2,rfl,hv.symm⟩,?_⟩;refine⟨_,rfl,(st.mo n).k,(st.mo n).k8,mo,dm,_,rfl,hm,R0 _ v,mo,rfl,_,rfl,_,rfl,nd (st.mo n).k,a,b,rfl,_,rfl,?_⟩;obtain⟨I1,wO⟩:=I.pop e (sP (n5 (nd (st.mo n).k) a b)) (Fx _);have C1:=(I.ue hno).mono (al1 N);have lp:=I.pil.C0;rw[bo]at lp;have ld:=I.ld;have lr:=I.lr;have dk:R.DOk (.nums (ar "vote") [a,b]):=Cb (by show (ar "vote",2)∈R.jt;trivial) (by
   intro i hi;rcases List.mem_cons.mp hi with h | hi
   ·rw[h];exact ha
   ·rw[alo]at hi;rw[hi];exact hb)
  cases hk:n5 (nd (st.mo n).k) a b with
  |true =>
   rw[hk]at q I1;rw[if_pos rfl]at q;refine cN (mtv rfl X.ob (cF (by trivial)) ⟨_,rfl,o,B8,c,st,pre,n,rfl,hc,e,by omega,by omega,λc1 H1 s1 hc1=>?_⟩)
   refine aN λGq gq=>?_
   obtain⟨dx1,aM1,aP1,aA1,aD1,aF1,aE1,aR1,ms1,ds1,ws1,fs1,es1,X1⟩:=hc1.ex;refine gq ?_;refine⟨_,rfl,rfl,tst (by trivial) (mtv rfl X1.ob (cF (by trivial)) ⟨_,rfl,o,mo,c1,_,st.mo n,N+1,rfl,hc1,hcp.step s1,I1,by omega,wO,C1,λc2 H2 s2 hc2=>?_⟩)⟩
   refine aN λGq gq=>?_
   obtain⟨dx2,aM2,aP2,aA2,aD2,aF2,aE2,aR2,ms2,ds2,ws2,fs2,es2,X2⟩:=hc2.ex;have I2:=I1.carry (by omega) wO C1
   refine gq ?_;refine mtv rfl X2.ob (cF (by trivial)) ⟨_,rfl,_,rfl,(sl 3),λt ht=>?_⟩
   have s3:Step (cM i) c2 (az c2 t none) H2 (upd H2 t (.tup [V.str (ar "vote"),.int a,.int b])):=Step.new aL ht;have X3:=X2.free (W:=λ_=>False) (λ_=>id) (Step.new (x:=none) (o:=.tup [V.str (ar "vote"),.int a,.int b]) id ht)
   have lr2:=I2.lr;refine⟨o,t,_,_,.nums (ar "vote") [a,b],rfl,X3.at,Fy,dk,ak3 lr2 (by omega),λc4 H4 s4 hc4=>⟨_,rfl,?_⟩⟩
   exact q c4 H4 (((s1.trans s2).trans s3).trans s4) hc4
  |false =>
   rw[hk]at q I1;rw[if_neg kr]at q;refine bM (mtv rfl X.ob (cF (by trivial)) ⟨_,rfl,o,Ua,c,st,pre,n,rfl,hc,e,by omega,by omega,λc1 H1 s1 hc1=>?_⟩)
   refine aN λGq gq=>?_
   obtain⟨dx2,aM2,aP2,aA2,aD2,aF2,aE2,aR2,ms2,ds2,ws2,fs2,es2,X2⟩:=hc1.ex;refine gq ?_;refine⟨_,rfl,rfl,tsf (by trivial) ?_⟩
   refine mtv rfl X2.ob (cF (by trivial)) ⟨_,rfl,_,rfl,(sl 3),λt ht=>?_⟩
   have s3:Step (cM i) c1 (az c1 t none) H1 (upd H1 t (.tup [V.str (ar "vote"),.int a,.int b])):=Step.new aL ht;have X3:=X2.free (W:=λ_=>False) (λ_=>id) (Step.new (x:=none) (o:=.tup [V.str (ar "vote"),.int a,.int b]) id ht)
   refine⟨o,t,_,_,.nums (ar "vote") [a,b],rfl,X3.at,Fy,dk,by show st.rows.length<=1000;omega,λc4 H4 s4 hc4=>⟨_,rfl,?_⟩⟩
   exact q c4 H4 ((s1.trans s3).trans s4) hc4
theorem Sm (T:Txt w.params K mg A){i:Nat}:a8 P w K mg base (CXX P w) 6 A.cV A.lG ["self"] (WI A i):=by
 refine T.gU.okX zm (λvs H Q E h=>?_) (λcdv A' outer s H vs Q E hr h=>?_)
 ·obtain⟨o,c,st,N,rfl,_⟩:=h;rfl
 ·obtain⟨o,c,st,N,rfl,hc,I,hN,q⟩:=h;obtain⟨dx,aM,aP,aA,aD,aF,aE,aR,ms,ds,ws,fs,es,X⟩:=hc.ex;refine⟨_,(bc (kW (xw (px (pv 0)) T.aq T.eu (m8 (i:=i) T) (hr.mono (by decide)) T.cx))
 (bc (psx (bK (iE (pv 0) T.aq T.j8 (DZ (i:=i) T) (hr.mono (by decide)) T.fh .nil aW (aa ao ag))))
 (bc (psx (bK (iE (pv 0) T.aq T.fM (q0 (i:=i) T) hr T.cY .nil aW (aa (bg (aa ao ag)) ag))))
 (bD (psx (aB ao)))))),?_⟩
  try dsimp only[bF]
  refine mtv rfl X.ob (cF (by trivial)) ⟨o,c,st,rfl,hc,λhne=>?_,λhe=>?_⟩
  case refine_2 =>
   unfold q5 at q;rw[he]at q;exact q c H _ _ (Step.refl aL) hc ⟨rfl,rfl⟩ (λ_ z=>nomatch z)
  refine aN λGq gq=>?_
  obtain⟨pre,n,e⟩:∃pre n,st.au=pre++[n]:=by
   rcases ak4 st.au with e | ⟨pre,n,e⟩
   ·exact absurd e hne
   ·exact⟨pre,n,by rw[e,ak5]⟩
  have gl:st.au.getLast?=some n:=by rw[e];exact alK
  have ed:st.au.dropLast=pre:=by rw[e];exact amf
  unfold q5 at q;rw[gl]at q;dsimp only at q;rw[ed]at q;have lp:=I.pil.C0;rw[bo]at lp;have ld:=I.ld;have lr:=I.lr;refine gq ?_;refine mtv rfl X.ob (cF (by trivial)) ⟨o,nc,c,st,pre,n,rfl,hc,e,by omega,by omega,λc1 H1 s1 hc1=>?_⟩
  refine aN λGq gq=>?_
  obtain⟨dx2,aM2,aP2,aA2,aD2,aF2,aE2,aR2,ms2,ds2,ws2,fs2,es2,X2⟩:=hc1.ex;refine gq ?_;refine mtv rfl X2.ob (cF (by trivial)) ⟨(sl 1),λt ht=>?_⟩
  have s3:Step (cM i) c1 (az c1 t none) H1 (upd H1 t (.tup [V.str (ar "drop")])):=Step.new aL ht;have X3:=X2.free (W:=λ_=>False) (λ_=>id) (Step.new (x:=none) (o:=.tup [V.str (ar "drop")]) id ht)
  refine⟨o,t,_,_,.nums (ar "drop") [],rfl,X3.at,Fy,Cb (by trivial) (λ_ h=>nomatch h),by show st.rows.length<=1000;omega,λc4 H4 s4 hc4=>?_⟩
  exact q c4 H4 ((s1.trans s3).trans s4) hc4
theorem Sn (T:Txt w.params K mg A){i:Nat}:a8 P w K mg base (CXX P w) 6 A.cW A.lH ["self","number"] (WJ A i):=by
 have lx:a8 P w K mg base CX0 4 A.my A.hZ ["deed"] (R.Fn K):=R.qG T;refine T.gW.okX qR (λvs H Q E h=>?_) (λcdv A' outer s H vs Q E hr h=>?_)
 ·obtain⟨o,z,c,st,N,rfl,_⟩:=h;rfl
 ·obtain⟨o,z,c,st,N,rfl,hc,I,hN,hz0,hz1,q⟩:=h;obtain⟨dx,aM,aP,aA,aD,aF,aE,aR,ms,ds,ws,fs,es,X⟩:=hc.ex;have hu1:=hr.u1;have hgd:=hr.gd;have lim:kg=16777216:=by decide
  refine⟨_,(bc (ic (rL (br (pv 0) rfl) (λ_=>rfl))
 (bD (qw T.pZ (yZ T) (hr.mono (by decide)) T.mT rfl rfl T.wD (aa (aV (yl T) (hr.mono (by decide)) rfl T.wc T.sg.kp T.wb .nil aW (aa (d5 (pv 0) T.aq T.gC (vi (i:=i) T) (hr.mono (by decide)) T.dN .nil aW) (aa (br (pv 0) rfl) ag))) ag)))
 (vO aC))
 (bc (ic (Jl (xB hu1 (pv 1) (br (pv 0) rfl)))
 (bD (jM T.BS rfl rfl T.DT (aa (Dt (mE (xy (pv 1) (mE xx)))) ag)))
 (vO aC))
 (bc (psx (aY (i:=2) qR.nd rfl (tm rfl) (aK aT (bh hu1 (br (pv 0) rfl) (pv 1) (λ_ _=>rfl)) af (λ_ _=>rfl))))
 (bc (ic (ay rK (br (pv 0) rfl) (pv 2) (aJ _))
 (bD (qw T.tY (GG T) (hr.mono (by decide)) T.qD rfl rfl T.Gx (aa (pv 2) ag)))
 (vO aC))
 (bc (psx (eP (pv 0) (aK VB (Ge (br (pv 0) rfl) (pv 1) ⟨rfl,rfl,rfl,rfl⟩) af (λ_ _=>rfl)) rfl))
 (bc (psx (bK (gJ si alk alm dj (br (pv 0) rfl) (aa (aV lx (hr.mono (by decide)) rfl T.nX T.lb.kp T.nU .nil aW (aa (bg (aa ao (aa (pv 1) ag))) ag)) ag))))
 (bD (psx (aB (pv 1)))))))))),?_⟩
  try dsimp only[bF]
  by_cases hz:z=-1
  ·subst hz;refine eS rfl X.ob T.aq T.jq0 fm ⟨_,.inl ⟨_,.inl (.inl X.au.2),rfl⟩,?_⟩;rw[show ((-1:Int).toNat)=0 from rfl]at q
   unfold stepT at q;cases e:st.au with
   |cons k0 r0 =>
    rw[if_neg (by rw[e];exact alv _ _)]at q
    have lp:=I.pil.C0;rw[bo]at lp;have hb:=J9 st.closed (st.au.map st.mo);have hb0:0<=fN st.closed (st.au.map st.mo):=Int.le_trans (by
     by_cases z:qH (st.au.map st.mo) < 0
     ·have:=B7 z;rw[e]at this;cases this
     ·omega) (sN _ _)
    refine cN (mtv rfl X.ob (cF (by trivial)) ⟨o,c,st,rfl,hc,I.bL,by omega,λB os hB hos=>?_⟩)
    have sB:=aG (o:=.lst (os.map V.ref)) hB;refine eS rfl (sB _ _ X.ob) T.aq T.jq3 m7 ⟨B,st.closed,c,st.au.map st.mo,os,rfl,⟨SqL.of ae,sQ sB hos⟩,?_⟩;refine⟨_,rfl,p9 (by omega) (by omega),λd hd=>?_⟩
    exact q (bU c H) _ _ _ (Step.cl aL (sB.new hd)) (X.cl (sB.new hd)).at ⟨rfl,d,rfl,ae⟩ (λ_ z=>by cases z;exact bC (same_none sB hd))
   |nil =>
    rw[if_pos e,I.no0]at q;refine bM ?_;refine⟨_,rfl,eS rfl X.ob T.aq T.jq4 j9 ⟨aA,_,rfl,.inl ⟨_,ku (-1),.inl X.aH.2,rfl,rfl⟩,_,rfl,?_⟩⟩;rw[yq];have l1:(alE++ar "no matter of the number ":Str).length=24:=by trivial
    have l2:(ar " is aside").length=9:=by trivial
    have l3:(ar (toString (-1:Int))).length=2:=by trivial
    refine cN ⟨by rw[l1];omega,_,rfl,_,.int (by decide),by rw[l3];omega,by rw[len_app,l1,l3];omega,by rw[len_app,len_app,l1,l2,l3];omega,by rw[len_app,len_app,l1,l2,l3];omega,(sl 1),?_⟩
    exact q c H _ _ (Step.refl aL) hc ⟨rfl,rfl⟩ (λ_ z=>nomatch z)
  refine aN λGq gq=>?_
  obtain⟨n,rfl⟩:∃n:Nat,z=(n:Int):=⟨z.toNat,by omega⟩
  rw[Int.toNat_natCast]at q;have akO:n < 10 ^ 10:=by
   have:(10:Nat) ^ 10=10000000000:=by decide
   have:(10:Int) ^ 10=10000000000:=by decide
   omega
  clear hz hz0 hz1;refine gq ?_;refine eS rfl X.ob T.aq T.jq0 fm ⟨_,.inl ⟨_,.inl (.inl X.au.2),rfl⟩,?_⟩;unfold stepT at q;cases e:st.au with
  |cons k0 r0 =>
   rw[if_neg (by rw[e];exact alv _ _)]at q
   have lp:=I.pil.C0;rw[bo]at lp;have hb:=J9 st.closed (st.au.map st.mo);have hb0:0<=fN st.closed (st.au.map st.mo):=Int.le_trans (by
    by_cases z:qH (st.au.map st.mo) < 0
    ·have:=B7 z;rw[e]at this;cases this
    ·omega) (sN _ _)
   refine cN (mtv rfl X.ob (cF (by trivial)) ⟨o,c,st,rfl,hc,I.bL,by omega,λB os hB hos=>?_⟩)
   have sB:=aG (o:=.lst (os.map V.ref)) hB;refine eS rfl (sB _ _ X.ob) T.aq T.jq3 m7 ⟨B,st.closed,c,st.au.map st.mo,os,rfl,⟨SqL.of ae,sQ sB hos⟩,?_⟩;refine⟨_,rfl,p9 (by omega) (by omega),λd hd=>?_⟩
   exact q (bU c H) _ _ _ (Step.cl aL (sB.new hd)) (X.cl (sB.new hd)).at ⟨rfl,d,rfl,ae⟩ (λ_ z=>by cases z;exact bC (same_none sB hd))
  |nil =>
   rw[if_pos e]at q;refine bM ?_;refine⟨_,rfl,eS rfl X.ob T.aq T.jq4 j9 ⟨aA,_,rfl,.inl ⟨_,ku (n:Int),.inl X.aH.2,rfl,rfl⟩,_,rfl,?_⟩⟩;cases hx:at1 n st.aH with
   |none =>
    rw[hx]at q;rw[qI (wK hx)];have l1:(alE++ar "no matter of the number ":Str).length=24:=by trivial
    have l2:(ar " is aside").length=9:=by trivial
    have e10:(10:Nat) ^ 10=10000000000:=by decide
    have l3:(ar (toString (n:Int))).length<=20:=D0 (by omega) (by omega)
    refine cN ⟨by rw[l1];omega,_,rfl,_,.int (yk (by omega) (by omega)),by omega,by rw[len_app,l1];omega,by rw[len_app,len_app,l1,l2];omega,by rw[len_app,len_app,l1,l2];omega,(sl 1),?_⟩
    exact q c H _ _ (Step.refl aL) hc ⟨rfl,rfl⟩ (λ_ z=>nomatch z)
   |some x =>
    refine aN λGq gq=>?_
    rw[hx]at q;dsimp only at q;obtain⟨t,p,hv,ht,hl⟩:=X.waitOf hx;refine gq ?_;rw[hv];refine bM ?_;refine⟨_,rfl,o,A.ax,dx,_,.ref aA,rfl,X.ob,T.aq,T.jq4,j9,_,rfl,aA,_,rfl,.inl ⟨_,ku (n:Int),.inl X.aH.2,rfl,hv.symm⟩,t,_,_,_,rfl,rfl,ht.sq,rfl,?_⟩;refine⟨_,rfl,o,A.ax,dx,_,.int st.aU,rfl,X.ob,T.aq,T.jq1,i9,_,rfl,_,_,rfl,rfl,_,rfl,fD (λz=>?_) (λz=>?_)⟩
    ·have z':st.aU < x.2.1:=of_decide_eq_true z;refine aN λGq gq=>?_
     rw[if_pos z']at q;obtain⟨_,_,b1,b2⟩:=I.asd x (jy hx).2;refine gq ?_;refine⟨_,rfl,_,rfl,p9 (by have:=I.sit.1;omega) b2,λd hd=>?_⟩
     exact q (bU c H) _ _ _ (Step.cl aL (aG hd)) (X.cl (aG hd)).at ⟨rfl,d,rfl,ae⟩ (λ_ z=>by cases z;exact bC hd)
    ·have z':¬st.aU < x.2.1:=λy=>z (decide_eq_true y)
     rw[if_neg z']at q;have nAt:t≠aA:=λy=>by have:=ht.1;rw[y,X.aH.1]at this;cases this
     have ht':SqT K (upd H aA (.dK (iR (bf ((st.aH.map (·.1)).zip ws)) (ku (n:Int))))) t [.int x.2.1,.ref p]:=by
      rcases ht.2 with h | ⟨u,h⟩
      ·exact .inl (.inl ((av nAt).trans h))
      ·exact .inl (.inr ⟨u,(av nAt).trans h⟩)
     have oA:o≠aA:=eh X.co X.aH.1 (λz=>nomatch z)
     refine eS rfl X.ob T.aq T.jq4 j9 ⟨aA,rfl,.inl ⟨_,.inl X.aH.2⟩,_,rfl,_,ku (n:Int),_,X.aH.2,rfl,hv,.inr (.inl ⟨t,_,1,.ref p,rfl,rfl,ht',rfl,?_⟩)⟩;refine⟨_,rfl,o,A.ax,dx,_,rfl,(av oA).trans X.ob,T.aq,T.jq0,(by show 10 < 1000;decide),?_⟩
     rw[GF];refine aN λGq gq=>?_
     obtain⟨c1,ws1,s1,X1⟩:=X.qZ hl;refine gq ?_;generalize upd (upd H aA (.dK (iR (bf ((st.aH.map (·.1)).zip ws)) (ku (n:Int))))) o (.ins A.ax dx (chF (.int st.cZ) (.int st.aU) (.bl st.closed) (.ref aM) (.ref p) (.ref aA) (.ref aD) (.ref aF) (.ref aE) (.ref aR)))=H1 at s1 X1 ⊢
     have lr:=I.lr;have h10:(n:Int) < 10 ^ 10:=by
      have:(10:Nat) ^ 10=10000000000:=by decide
      have:(10:Int) ^ 10=10000000000:=by decide
      omega
     refine eS rfl X1.ob T.aq T.jqk wI ⟨.inl ⟨rfl,_,SqL.of X1.rows.2⟩,_,rfl,(sl 2),λu hu=>?_⟩
     have s2:=aG (o:=.tup [V.str (ar "take"),nV n]) hu;refine⟨u,.nums (ar "take") [(n:Int)],rfl,SqT.of ae,Cb (by show (ar "take",1)∈R.jt;trivial) (by intro i hi;rw[alo]at hi;rw[hi];exact⟨by omega,h10⟩),λH2 s3=>?_⟩
     have X2:=X1.same (s2.trans s3);obtain⟨s4,X3⟩:=X2.row (R.sI (.nums (ar "take") [(n:Int)]));refine⟨aR,_,_,rfl,rfl,X2.rows.2,by rw[bo];show st.rows.length < _;omega,_,rfl,?_⟩
     exact q c1 _ ((s1.iy.trans (Step.same aL (s2.trans s3))).trans s4.iy) X3.at
end
def cy:R.dY->Mn
 | .mat cs=>.mat (cs.map (tu R.bl1))
 | .ed m k j ws=>if m=true then .mnd ⟨k,j,tu R.bl1 ws⟩ else .chg ⟨k,j,tu R.bl1 ws⟩
 | .pt ws=>.pnt (tu R.bl1 ws)
 | .nums kd ns=>if kd=ar "put off" then .off (ns.getD 0 0) else if kd=ar "close" then .cls else if kd=ar "lay" then .lay else .rst
def kS:List (Str×Nat):=[(ar "put off",1),(ar "close",0),(ar "lay",0),(ar "rest",0)]
def wQ:R.dY->Prop
 | .mat cs=>cs.length<=12/\∀ws∈cs,R.B1 12 ws
 | .ed m k j ws=>(k=0\/k=1\/k=2)/\(-1000<=j/\j<=1000)/\R.B1 12 ws/\(m=true->ws.length=1)
 | .pt ws=>R.B1 12 ws
 | .nums kd ns=>(kd,ns.length)∈kS/\∀i∈ns,-10000000000 < i/\i < 10 ^ 10
theorem wR {kd:Str}{ns:List Int}(h:(kd,ns.length)∈kS):(∃u,kd=ar "put off"/\ns=[u])\/(kd=ar "close"/\ns=[])\/(kd=ar "lay"/\ns=[])\/(kd=ar "rest"/\ns=[]):=by
 unfold kS at h;simp only[List.mem_cons,List.not_mem_nil,or_false,Prod.mk.injEq]at h;rcases h with ⟨h1,h2⟩ | ⟨h1,h2⟩ | ⟨h1,h2⟩ | ⟨h1,h2⟩
 ·cases ns with
  |nil=>simp at h2
  |cons u r =>
   cases r with
   |nil=>exact .inl ⟨u,h1,rfl⟩
   |cons _ _=>simp at h2
 ·exact .inr (.inl ⟨h1,List.length_eq_zero_iff.mp h2⟩)
 ·exact .inr (.inr (.inl ⟨h1,List.length_eq_zero_iff.mp h2⟩))
 ·exact .inr (.inr (.inr ⟨h1,List.length_eq_zero_iff.mp h2⟩))
theorem GK {n:Nat}{ws:List Str}(h:R.B1 n ws):alB (tu R.bl1 ws)=true:=(R.Clause.asc (n:=n) ⟨rfl,h.len,h.wd⟩).ok
theorem Kf {N:Nat}:∀ {d:R.dY},wQ d->MOk N (cy d)
 | .mat cs,h=>by
  refine⟨?_,?_⟩
  ·rw[bo];have:=h.1;omega
  ·intro x hx;obtain⟨ws,hw,rfl⟩:=List.mem_map.mp hx;exact GK (h.2 ws hw)
 | .ed m k j ws,h=>by
  obtain⟨h1,⟨h2,h3⟩,h4,h5⟩:=h;cases m with
  |true =>
   show EdB 1 ⟨k,j,tu R.bl1 ws⟩/\_;have hl:=h5 rfl
   match ws,hl,h4 with
   |[x],_,h4=>exact⟨⟨h1,h2,h3,[x],rfl,h4.wd,kq 1⟩,x,rfl,h4.wd x gr⟩
  |false =>
   show EdB (12+N) ⟨k,j,tu R.bl1 ws⟩;exact⟨h1,h2,h3,ws,rfl,h4.wd,by have:=h4.len;omega⟩
 | .pt ws,h=>GK h
 | .nums kd ns,h=>by
  obtain⟨h1,h2⟩:=h;rcases wR h1 with ⟨u,rfl,rfl⟩ | ⟨rfl,rfl⟩ | ⟨rfl,rfl⟩ | ⟨rfl,rfl⟩
  ·rw[cy,if_pos rfl];obtain⟨a,b⟩:=h2 u gr;have:(10:Int) ^ 10=10000000000:=by decide
   exact⟨a,by show u < _;omega⟩
  ·rw[cy,if_neg (by trivial),if_pos rfl];trivial
  ·rw[cy,if_neg (by trivial),if_neg (by trivial),if_pos rfl];trivial
  ·rw[cy,if_neg (by trivial),if_neg (by trivial),if_neg (by trivial)];trivial
theorem Ub {M:Nat}{e:Ed}(h:fS M e=true):0<=e.at_:=(BU.mp h).1
theorem WL {N:Nat}{st:Ch}(I:Inv N st){d:R.dY}(h:wQ d)(hc:ir st (cy d)=none):R.DOk d:=by
 have ho:fU st.closed (st.au.map st.mo) (cy d).k=none/\iq st (cy d)=none:=by
  unfold ir at hc;split at hc
  ·cases hc
  ·exact⟨by assumption,hc⟩
 obtain⟨h0,hf⟩:=ho;cases d with
 |mat cs=>exact h
 |pt ws=>exact h
 |ed m k j ws =>
  obtain⟨h1,⟨h2,h3⟩,h4,h5⟩:=h;have e10:(10:Int) ^ 10=10000000000:=by decide
  refine⟨h1,⟨?_,by omega⟩,h4,h5⟩
  cases m with
  |true =>
   rw[cy,if_pos rfl]at h0 hf;have h3:fO (st.au.map st.mo)=true:=(wM h0).2;unfold fO at h3;split at h3
   ·rename_i e he;unfold iq at hf;dsimp only at hf;rw[he]at hf;dsimp only at hf;split at hf
    ·rename_i h6;exact Ub h6
    ·cases hf
   ·cases h3
  |false =>
   rw[cy,if_neg kr]at h0 hf;obtain⟨tx,r,e1⟩:=I.pil.Kb (wM h0).2;unfold iq at hf;dsimp only at hf;rw[e1]at hf;dsimp only at hf;split at hf
   ·rename_i h6;exact Ub h6
   ·cases hf
 |nums kd ns =>
  obtain⟨h1,h2⟩:=h;have s1:=I.sit.1;rcases wR h1 with ⟨u,rfl,rfl⟩ | ⟨rfl,rfl⟩ | ⟨rfl,rfl⟩ | ⟨rfl,rfl⟩
  ·rw[cy,if_pos rfl]at hf;refine⟨by show (ar "put off",1)∈R.jt;trivial,λi hi=>?_⟩
   rw[alo]at hi;subst hi;unfold iq at hf;dsimp only at hf;split at hf
   ·cases hf
   ·rename_i h6;have h7:¬i<=st.aU:=h6;exact⟨by omega,(h2 i gr).2⟩
  ·exact⟨by trivial,λ_ h=>nomatch h⟩
  ·exact⟨by trivial,λ_ h=>nomatch h⟩
  ·exact⟨by trivial,λ_ h=>nomatch h⟩
theorem sS {i:Nat}{c:Col}{H:Hp}{t:Addr}:∀ {d:R.dY},wQ d->qc i c H d t->∃v,yn i c H t (rowOf (cy d).k v)/\((cy d).k=0->∃L tx,v=.ref L/\cy d=.mat tx/\M7 i c H L (tx.map V.str))/\((cy d).k≠0->(cy d).Val c H v)
 | .mat cs,_,⟨L,a,b⟩=>⟨.ref L,a,λ_=>⟨L,_,rfl,rfl,b⟩,λz=>absurd rfl z⟩
 | .ed true k j ws,h,⟨e,a,b⟩=>⟨.ref e,a,λz=>(nomatch z),λ_=>⟨e,rfl,by rw[<-Fu h.1];exact b⟩⟩
 | .ed false k j ws,h,⟨e,a,b⟩=>⟨.ref e,a,λz=>(nomatch z),λ_=>⟨e,rfl,by rw[<-Fu h.1];exact b⟩⟩
 | .pt ws,_,a=>⟨.str (tu R.bl1 ws),a,λz=>(nomatch z),λ_=>rfl⟩
 | .nums kd ns,h,a=>by
  rcases wR h.1 with ⟨u,rfl,rfl⟩ | ⟨rfl,rfl⟩ | ⟨rfl,rfl⟩ | ⟨rfl,rfl⟩
  ·rw[cy,if_pos rfl];exact⟨.int u,a,λz=>(nomatch z),λ_=>rfl⟩
  ·rw[cy,if_neg (by trivial),if_pos rfl]
   exact⟨.non,a,λz=>(nomatch z),λ_=>trivial⟩
  ·rw[cy,if_neg (by trivial),if_neg (by trivial),if_pos rfl]
   exact⟨.non,a,λz=>(nomatch z),λ_=>trivial⟩
  ·rw[cy,if_neg (by trivial),if_neg (by trivial),if_neg (by trivial)]
   exact⟨.non,a,λz=>(nomatch z),λ_=>trivial⟩
def PU (A:Adr)(K:ba):Sp:=λvs H Q E=>L9 A vs H Q E\/GA A K vs H Q E
def aba (A:Adr)(i:Nat):Sp:=λvs H Q E=>∃(o t:Addr) (c:Col) (st:Ch) (N:Nat) (d:R.dY),vs=[.ref o,.ref t]/\dR A i c H o st/\Inv N st/\N<=800/\wQ d/\qc i c H d t /\
 (ir st (cy d)=none->∀H',bw H H'->Q .non H')/\∀x,ir st (cy d)=some x->∀C e H',bw H H'->x.New A H H' C e->E C e H'
def WM (A:Adr)(i:Nat):Sp:=λvs H Q E=>∃(o t:Addr) (c:Col) (st:Ch) (N:Nat) (d:R.dY),vs=[.ref o,.ref t]/\dR A i c H o st/\Inv N st/\N<=800/\wQ d/\qc i c H d t/\Mo A i c H o (qf st (cy d) (R.sI d)) Q E
theorem MOk.ed1 {N:Nat}{e:Ed}(h:MOk N (.chg e))(hN:N<=800):rp e:=EdB.ok h (by omega)
theorem MOk.ed2 {N:Nat}{e:Ed}(h:MOk N (.mnd e)):rp e:=EdB.ok h.1 (by decide)
section
variable{P:rf}{w:World}{K:ba}{mg:Str->Option Value}{base:Heap}{A:Adr}
theorem qJ (T:Txt w.params K mg A){i:Nat}:a8 P w K mg base (CXX P w) 6 A.bj A.dB ["self","told"] (aba A i):=by
 have mX:a8 P w K mg base CX0 1 A.words_of A.i4 ["clause"] R.p7:=R.lj T;refine T.bT.okX dq (λvs H Q E h=>?_) (λcdv A' outer s H vs Q E hr h=>?_)
 ·obtain⟨o,t,c,st,N,d,rfl,_⟩:=h;rfl
 ·obtain⟨o,t,c,st,N,d,rfl,hc,I,hN,hd,hdc,q,qx⟩:=h;obtain⟨dx,aM,aP,aA,aD,aF,aE,aR,ms,ds,ws,fs,es,X⟩:=hc.ex;have hu1:=hr.u1;refine⟨_,(bc (psx (aY (i:=2) dq.nd rfl (tm rfl) (aK aT (pv 1) af (λ_ _=>rfl))))
 (bc (psx (aY (i:=3) dq.nd rfl (tm rfl) (d5 (pv 0) T.aq T.gC (vi (i:=i) T) (hr.mono (by decide)) T.dN .nil aW)))
 (bc (kW (vP (ud T) hr rfl T.mO T.iL.kp T.mM (pax (aa (pv 2) (aa (pv 3) (aa (br (pv 0) rfl) ag))))))
 (bD (ic (ay bt (pv 2) ao (aJ _))
 (bD (kW (vP (mV T) (hr.mono (by decide)) rfl T.kP T.ix.kp T.kO (pax (aa (br (aK bx (pv 3) af (λ_ _=>rfl)) rfl) (aa (aK aT (pv 1) af (λ_ _=>rfl)) ag))))))
 (bD (ic (ay bt (pv 2) ao (aJ _))
 (bD (kW (vP (mV T) (hr.mono (by decide)) rfl T.kP T.ix.kp T.kO (pax (aa (aV mX (hr.mono (by decide)) rfl T.j5 T.iK.kp T.j4 .nil aW (aa (aK aT (br (aK bx (pv 3) (jE gv af) (λ_ _=>rfl)) rfl) af (λ_ _=>rfl)) ag)) (aa (aK aT (pv 1) af (λ_ _=>rfl)) ag))))))
 (bD (ic (PW.pt (pw_and (ay bt (pv 2) ao (aJ _)) (pw_and1 (ay uq (aK aT (pv 1) af (λ_ _=>rfl)) (br (pv 0) rfl) (aJ _)))))
 (bD (qw T.nZ (CZ T) (hr.mono (by decide)) T.lX rfl rfl T.BO (aa (br (pv 0) rfl) ag)))
 (vO aC)))))))))),?_⟩
  try dsimp only[bF]
  refine aN λGq gq=>?_
  obtain⟨v,ht,hv0,hv1⟩:=sS hd hdc;have hmk:=Kf (N:=N) hd;refine gq ?_;generalize cy d=m at ht hv0 hv1 hmk q qx;have lp:=I.pil.C0;rw[bo]at lp;refine ixv rfl (SqT.of ht.2) dH ?_;refine mtv rfl X.ob (cF (by trivial)) ⟨o,c,st,rfl,hc,I.bL,by omega,λB os hB hos=>?_⟩
  have sB:=aG (o:=.lst (os.map V.ref)) hB;have hp:uz A K c (upd H B (.lst (os.map V.ref))) B (st.au.map st.mo) os:=⟨SqL.of ae,sQ sB hos⟩;generalize upd H B (.lst (os.map V.ref))=H1 at sB hp;refine⟨_,rfl,_,rfl,eS rfl (sB _ _ X.ob) T.aq T.jq3 m7 ⟨m.k,B,st.closed,c,st.au.map st.mo,os,rfl,m.k8,hp,by rw[bo];omega,λho H2 s2=>?_,λx hx C e H2 s2 hat=>?_⟩⟩
  case refine_2=>exact qx x (by unfold ir;rw[hx]) C e H2 (sB.trans s2) ⟨hat.1,λa z=>same_none sB (hat.2 a z)⟩
  have ec:ir st m=iq st m:=by unfold ir;rw[ho]
  rw[ec]at q qx;have s12:=sB.trans s2;have hp2:=hp.same s2;obtain⟨h1,h2⟩:=wM ho;have X2:=X.same s12;have ht2:H2 t=some (.tup (rowOf m.k v)):=s12 _ _ ht.2;cases m with
  |mat tx=>exact⟨_,rfl,rfl,tsf (b7 0 (by decide)) ⟨_,rfl,rfl,tsf (ck 0 (by decide)) ⟨_,rfl,rfl,tsf (gy 0 (by decide)) (bM (q rfl H2 s12))⟩⟩⟩
  |pnt z=>exact⟨_,rfl,rfl,tsf (b7 7 (by decide)) ⟨_,rfl,rfl,tsf (ck 7 (by decide)) ⟨_,rfl,rfl,tsf (gy 7 (by decide)) (bM (q rfl H2 s12))⟩⟩⟩
  |cls=>exact⟨_,rfl,rfl,tsf (b7 4 (by decide)) ⟨_,rfl,rfl,tsf (ck 4 (by decide)) ⟨_,rfl,rfl,tsf (gy 4 (by decide)) (bM (q rfl H2 s12))⟩⟩⟩
  |lay=>exact⟨_,rfl,rfl,tsf (b7 5 (by decide)) ⟨_,rfl,rfl,tsf (ck 5 (by decide)) ⟨_,rfl,rfl,tsf (gy 5 (by decide)) (bM (q rfl H2 s12))⟩⟩⟩
  |rst=>exact⟨_,rfl,rfl,tsf (b7 6 (by decide)) ⟨_,rfl,rfl,tsf (ck 6 (by decide)) ⟨_,rfl,rfl,tsf (gy 6 (by decide)) (bM (q rfl H2 s12))⟩⟩⟩
  |chg e =>
   refine⟨_,rfl,rfl,tst (b7 1 (by decide)) ?_⟩
   refine aN λGq gq=>?_
   obtain⟨tx,r,e1⟩:=I.pil.Kb h2;obtain⟨te,rfl,hte⟩:=hv1 (by simp[Mn.k])
   rw[e1]at hp2;obtain⟨hB2,ho2⟩:=hp2;refine gq ?_;cases ho2 with
   | @cons _ ob _ bs hm akK =>
    refine aN λGq gq=>?_
    obtain⟨_,dm,v,hm2,L,rfl,hL⟩:=hm;refine gq ?_;refine ixv rfl hB2 (cB (j:=0) rfl) ⟨ob,A.C 0,dm,_,.ref L,rfl,hm2,T.cl 0 (by decide),T.na0,rfl,ixv rfl (SqT.of ht2) rfl ?_⟩
    refine⟨L,te,tx.map V.str,e,rfl,SqL.of hL.2,bP s12 hte.sq,hmk.ed1 hN,λhf=>?_,λhf=>?_⟩
    ·rw[bo]at hf;refine q ?_ H2 s12;unfold iq;dsimp only;rw[e1];dsimp only;rw[if_pos hf]
    ·rw[bo]at hf;refine qx .noFit ?_ _ _ H2 s12 ⟨⟨rfl,rfl⟩,λ_ z=>nomatch z⟩
     unfold iq;dsimp only;rw[e1];dsimp only;rw[if_neg (by rw[hf];decide)]
  |mnd f =>
   refine⟨_,rfl,rfl,tsf (b7 2 (by decide)) ⟨_,rfl,rfl,tst (ck 2 (by decide)) ?_⟩⟩
   refine aN λGq gq=>?_
   have h3:fO (st.au.map st.mo)=true:=h2;unfold fO at h3;obtain⟨e,he,hk1⟩:∃e,(st.au.map st.mo).getLast?=some (.chg e)/\e.k≠1:=by
    split at h3
    ·rename_i e he;exact⟨e,he,λz=>by rw[z]at h3;cases h3⟩
    ·cases h3
   obtain⟨r,e1⟩:=qd he;obtain⟨te,rfl,hte⟩:=hv1 (by simp[Mn.k])
   obtain⟨hB2,ho2⟩:=hp2;obtain⟨pre,ob,eo⟩:∃pre ob,os=pre++[ob]:=by
    have hl:=ho2.len;rw[e1,ma,ala]at hl;rcases ak4 os with e | ⟨pre,n,e⟩
    ·rw[e]at hl;simp at hl
    ·exact⟨pre,n,by rw[e,ak5]⟩
   subst eo;obtain⟨as',a,e3,_,hm⟩:=ho2.last;rw[e1]at e3;obtain⟨_,e4⟩:=List.append_inj' e3 rfl;cases e4;obtain⟨_,dm,v,hm2,tc,rfl,htc⟩:=hm;have hem:EdB (12+N) e:=by
    have PV:Mn.chg e∈st.au.map st.mo:=by rw[e1];simp
    obtain⟨k,hk,ek⟩:=List.mem_map.mp PV;have:=I.ue (I.bL k hk);rw[ek]at this;exact this
   have heo:rp e:=hem.ok (by omega)
   refine gq ?_;refine⟨_,rfl,_,rfl,B,_,_,_,rfl,rfl,hB2,B6 pre ob,ob,A.C 1,dm,_,.ref tc,rfl,hm2,T.cl 1 (by decide),T.na1,rfl,tc,_,_,_,rfl,rfl,htc.sq,vd hk1,e.th,rfl,?_,λp1 hp1=>?_⟩
   ·have:=heo.th.len;have lim:kg=16777216:=by decide
    omega
   have s3:=aG (o:=.lst ((R.bq e.th).map V.str)) hp1;have s13:=s12.trans s3;refine ixv rfl (SqT.of (s3 _ _ ht2)) rfl ?_;refine⟨p1,te,(R.bq e.th).map V.str,f,rfl,SqL.of ae,bP s13 hte.sq,hmk.ed2,λhf=>?_,λhf=>?_⟩
   ·rw[bo]at hf;refine q ?_ _ s13;unfold iq;dsimp only;rw[he];dsimp only;rw[if_pos hf]
   ·rw[bo]at hf;refine qx .noFit ?_ _ _ _ s13 ⟨⟨rfl,rfl⟩,λ_ z=>nomatch z⟩
    unfold iq;dsimp only;rw[he];dsimp only;rw[if_neg (by rw[hf];decide)]
  |off u =>
   have hv':v=.int u:=hv1 (by simp[Mn.k])
   subst hv';refine⟨_,rfl,rfl,tsf (b7 3 (by decide)) ⟨_,rfl,rfl,tsf (ck 3 (by decide)) ⟨_,rfl,rfl,tst (gy 3 (by decide)) ?_⟩⟩⟩
   refine ixv rfl (SqT.of ht2) rfl (eS rfl X2.ob T.aq T.jq1 i9 ⟨_,_,rfl,rfl,_,rfl,fD (λz=>?_) (λz=>?_)⟩)
   ·have z':u<=st.aU:=of_decide_eq_true z;have:=I.sit;refine eS rfl X2.ob T.aq T.jq1 i9 ⟨_,rfl,p9 (by omega) (by omega),λd hd=>?_⟩
    refine qx (.p8 st.aU) ?_ _ _ _ (s12.new hd) ⟨⟨rfl,d,rfl,ae⟩,λ_ z=>by cases z;exact same_none s12 hd⟩
    unfold iq;dsimp only;rw[if_pos z']
   ·have z':¬u<=st.aU:=λy=>z (decide_eq_true y)
    refine q ?_ _ s12;unfold iq;dsimp only;rw[if_neg z']
theorem So (T:Txt w.params K mg A):a8 P w K mg base CX0 3 A.pS A.je ["told"] (PU A K):=aaw (Fm T) (CY T)
theorem PX {i:Nat}{c:Col}{H:Hp}{t:Addr}{m:Mn}{v:V}{Q:VK}{E:XK}(ht:yn i c H t (rowOf m.k v))(hv0:m.k=0->∃L tx,v=.ref L/\m=.mat tx/\M7 i c H L (tx.map V.str))(hv1:m.k≠0->m.Val c H v)
  (q:∀mo H',bw H H'->mZ A (bU c H) H' m mo->Q (.ref mo) H'):PU A K [.ref t] H Q E:=by
 by_cases h0:m.k=0
 ·obtain⟨L,tx,rfl,rfl,hL⟩:=hv0 h0;refine .inr ⟨t,L,tx.map V.str,rfl,ht.2,SqL.of hL.2,λmo p H' s hm hp hp' hmo=>q mo H' s ?_⟩
  obtain⟨dx,hmo⟩:=hmo;exact⟨bC hm,dx,.ref p,hmo,p,rfl,bC hp,hp'⟩
 ·refine .inl ⟨t,m.k,v,by omega,m.k8,rfl,ht.2,λmo H' s hm hmo=>q mo H' s ?_⟩
  obtain⟨dx,hmo⟩:=hmo;exact⟨bC hm,dx,v,hmo,(hv1 h0).step (Step.cl (W:=λ_=>False) id s)⟩
theorem Mq (T:Txt w.params K mg A){i:Nat}:a8 P w K mg base (CXX P w) 7 A.cT A.lE ["self","told"] (WM A i):=by
 have lx:a8 P w K mg base CX0 4 A.my A.hZ ["deed"] (R.Fn K):=R.qG T;refine T.gQ.okX qQ (λvs H Q E h=>?_) (λcdv A' outer s H vs Q E hr h=>?_)
 ·obtain⟨o,t,c,st,N,d,rfl,_⟩:=h;rfl
 ·obtain⟨o,t,c,st,N,d,rfl,hc,I,hN,hd,hdc,q⟩:=h;obtain⟨dx,aM,aP,aA,aD,aF,aE,aR,ms,ds,ws,fs,es,X⟩:=hc.ex;have hu1:=hr.u1;have lim:kg=16777216:=by decide
  refine⟨_,(bc (kW (rP (px (pv 0)) T.aq T.fF (qJ (i:=i) T) hr T.cz (pax (aa (pv 1) ag))))
 (bc (psx (aY (i:=2) qQ.nd rfl (tm rfl) (a6 dI (cA Dw (by rfl) T.nY jK (aa (br (pv 0) rfl) ag)) af)))
 (bc (psx (iF hu1 (br (pv 0) rfl) (pv 2) (aV (So T) (hr.mono (by decide)) rfl T.yS T.nS.kp T.yR .nil aW (aa (pv 1) ag)) rfl))
 (bc (psx (bK (gJ si alk alm dj (br (pv 0) rfl) (aa (pv 2) ag))))
 (bc (psx (a9 (ay bt (aK aT (pv 1) af (λ_ _=>rfl)) ao (aJ _))
 (ai (iF hu1 (br (pv 0) rfl) (pv 2) (eQ fG (by rfl) T.sC qu (aa (aK aT (pv 1) af (λ_ _=>rfl)) ag)) rfl)
 (aj (iF hu1 (br (pv 0) rfl) (pv 2) (bS ag) rfl)))
 aC))
 (bc (psx (bK (gJ si alk alm dj (br (pv 0) rfl) (aa (aV lx (hr.mono (by decide)) rfl T.nX T.lb.kp T.nU .nil aW (aa (pv 1) ag)) ag))))
 (bD (psx (aB (pv 2)))))))))),?_⟩
  try dsimp only[bF]
  unfold qf at q;refine mtv rfl X.ob (cF (by trivial)) ⟨_,rfl,o,t,c,st,N,d,rfl,hc,I,hN,hd,hdc,λFA H1 s1=>?_,λx hx C e H1 s1 hat=>?_⟩
  case refine_2 =>
   rw[hx]at q;exact q (bU c H) H1 C e (Step.cl aL s1) (X.cl s1).at hat.1 (λa z=>bC (hat.2 a z))
  refine aN λGq gq=>?_
  rw[FA]at q;have abb:=WL I hd FA;have X1:=X.same s1;have st1:Step (cM i) c c H H1:=Step.same aL s1;have WN:=hdc.step st1;obtain⟨v,ht,hv0,hv1⟩:=sS hd WN;obtain⟨m,em⟩:∃m,m=cy d:=⟨_,rfl⟩;rw[<-em]at ht hv0 hv1 q;have lm:=I.lm;have lr:=I.lr;have ml:=X1.mot.len;have lp:=I.pil.C0;rw[bo]at lp;have el:(bf ((alC 1 st.made.length).zip (ms.map V.ref))).length=st.made.length:=by
   unfold bf;rw[bo,amk,al5,bo,<-ml,Nat.min_self]
  have en:(((bf ((alC 1 st.made.length).zip (ms.map V.ref))).length:Nat):Int)+1=((st.made.length+1:Nat):Int):=by rw[el];omega
  refine gq ?_;refine eS rfl X1.ob T.aq T.jq2 iz ⟨aM,_,rfl,X1.made.2,_,_,rfl,rfl,?_⟩;dsimp only[dh];rw[en];refine⟨_,rfl,PX ht hv0 hv1 λmo H2 s2 hmo=>?_⟩
  have X2:=X1.cl s2;have st2:Step (cM i) c (bU c H1) H1 H2:=Step.cl aL s2;refine eS rfl X2.ob T.aq T.jq2 iz ⟨_,rfl,aM,_,rfl,pw.k (k:=ku ((st.made.length+1:Nat):Int)) X2.made.2 (by omega),?_⟩
  obtain⟨st3,X3⟩:=X2.Se hmo;have WO:=st2.trans st3.iy;generalize upd H2 aM (.dK (putK (bf ((alC 1 st.made.length).zip (ms.map V.ref))) (ku ((st.made.length+1:Nat):Int)) (.ref mo)))=H3 at WO X3 ⊢;clear hmo st2 X2;generalize bU c H1=c3 at WO X3;refine eS rfl X3.ob T.aq T.jq0 fm ⟨.inl ⟨rfl,_,SqL.of X3.au.2⟩,_,rfl,aP,_,_,rfl,rfl,X3.au.2,by rw[bo];show st.au.length < _;omega,?_⟩
  obtain⟨st4,X4⟩:=X3.push (st.made.length+1);have abc:=WO.trans st4.iy;have X4':ChX A i c3 (upd H3 aP (.lst (st.au.map nV++[V.int ((st.made.length+1:Nat):Int)]))) o { st with made:=st.made++[m],au:=st.au++[st.made.length+1] } dx aM aP aA aD aF aE aR (ms++[mo]) ds ws fs es:=X4
  have D5:Step (cM i) c c3 H1 (upd H3 aP (.lst (st.au.map nV++[V.int ((st.made.length+1:Nat):Int)]))):=abc;clear X4 abc st4;generalize upd H3 aP (.lst (st.au.map nV++[V.int ((st.made.length+1:Nat):Int)]))=H4 at X4' D5 ⊢;have nf:st.made.length+1∉st.wN:=λz=>by
   have:=(List.mem_filter.mp z).1;rw[amh]at this;omega
  have ht4:=ht.step D5
  by_cases h0:m.k=0
  ·obtain⟨L,tx,rfl,rfl,hL⟩:=hv0 h0;have hL4:=hL.step D5;refine ixv rfl (SqT.of ht4.2) rfl ⟨rfl,tst (vj 0 (by decide)) ?_⟩
   refine ixv rfl (SqT.of ht4.2) rfl ⟨L,_,rfl,.inl (SqL.of hL4.2),λp hp=>?_⟩
   have lf:st.firsts.length=fs.length:=X4'.first.len;have lff:st.firsts.length<=st.made.length:=by
    have:=congrArg List.length I.ff;rw[bo]at this;rw[this];exact ak3 (amt _ _) (by rw[al5];exact kq _)
   have lkk:st.kept.length<=st.made.length:=by
    have:=congrArg List.length I.kk;rw[bo]at this;rw[this];exact ak3 (amt _ _) (by rw[al5];exact kq _)
   have sp:=aG (o:=.lst (tx.map V.str)) hp;refine eS rfl (sp _ _ X4'.ob) T.aq T.jqb zq ⟨_,rfl,aF,_,rfl,pw.k (k:=ku ((st.made.length+1:Nat):Int)) (sp _ _ X4'.firsts.2) ?_,?_⟩
   ·unfold bf;rw[bo,amk,bo];show min st.firsts.length _ < _;omega
   obtain⟨st5,X5⟩:=X4'.PL (tx:=tx) hp (n:=st.made.length+1) (by show _∉st.firsts.map (·.1);rw[I.ff];exact nf)
   have X5':ChX A i (az c3 p (some (i,.dD (st.made.length+1)))) (upd (upd H4 p (.lst (tx.map V.str))) aF (.dK (putK (bf ((st.firsts.map (·.1)).zip fs)) (ku ((st.made.length+1:Nat):Int)) (.ref p)))) o { st with made:=st.made++[.mat tx],au:=st.au++[st.made.length+1],firsts:=st.firsts++[(st.made.length+1,tx)] } dx aM aP aA aD aF aE aR (ms++[mo]) ds ws (fs++[.ref p]) es:=X5
   have WQ:Step (cM i) c (az c3 p (some (i,.dD (st.made.length+1)))) H1 (upd (upd H4 p (.lst (tx.map V.str))) aF (.dK (putK (bf ((st.firsts.map (·.1)).zip fs)) (ku ((st.made.length+1:Nat):Int)) (.ref p)))):=D5.trans st5.iy
   clear X5 st5;generalize az c3 p (some (i,.dD (st.made.length+1)))=c5 at X5' WQ;generalize upd (upd H4 p (.lst (tx.map V.str))) aF (.dK (putK (bf ((st.firsts.map (·.1)).zip fs)) (ku ((st.made.length+1:Nat):Int)) (.ref p)))=H5 at X5' WQ ⊢
   refine⟨(sl 0),λp2 hp2=>?_⟩
   have sp2:=aG (o:=.lst []) hp2;refine eS rfl (sp2 _ _ X5'.ob) T.aq T.jq5 sM ⟨_,rfl,aE,_,rfl,pw.k (k:=ku ((st.made.length+1:Nat):Int)) (sp2 _ _ X5'.ll.2) ?_,?_⟩
   ·unfold bf;rw[bo,amk,bo];show min st.kept.length _ < _;omega
   obtain⟨st6,X6⟩:=X5'.Sf hp2 (n:=st.made.length+1) (by show _∉st.kept.map (·.1);rw[I.kk];exact nf)
   have abd:=WQ.trans st6.iy;have WR:=WN.step abd;refine eS rfl X6.ob T.aq T.jqk wI ⟨.inl ⟨rfl,_,SqL.of X6.rows.2⟩,_,rfl,t,d,rfl,WR.at,abb,λH7 s7=>?_⟩
   have X7:=X6.same s7;obtain⟨st8,X8⟩:=X7.row (R.sI d);refine⟨aR,_,_,rfl,rfl,X7.rows.2,by rw[bo];show st.rows.length < _;omega,_,rfl,?_⟩
   exact q _ _ (((st1.trans abd).trans (Step.same aL s7)).trans st8.iy) X8.at
  ·refine ixv rfl (SqT.of ht4.2) dH ⟨rfl,tsf ((vj m.k m.k8).trans (decide_eq_false h0)) ?_⟩;have WR:=WN.step D5;refine eS rfl X4'.ob T.aq T.jqk wI ⟨.inl ⟨rfl,_,SqL.of X4'.rows.2⟩,_,rfl,t,d,rfl,WR.at,abb,λH7 s7=>?_⟩
   have X7:=X4'.same s7;obtain⟨st8,X8⟩:=X7.row (R.sI d);refine⟨aR,_,_,rfl,rfl,X7.rows.2,by rw[bo];show st.rows.length < _;omega,_,rfl,?_⟩
   have e8:st.moved m (R.sI d)={ st with made:=st.made++[m],au:=st.au++[st.made.length+1],rows:=st.rows++[R.sI d] }:=by
    unfold Ch.moved;cases m with
    |mat tx=>exact absurd rfl h0
    |_=>rfl
   rw[e8]at q;exact q _ _ (((st1.trans D5).trans (Step.same aL s7)).trans st8.iy) X8.at
end
def GL (n:Int):Ch:=⟨n,1,false,[],[],[],[],[],[],[]⟩
def abe (A:Adr):Sp:=λvs H Q _=>∃(o dx:Addr) (n:Int),vs=[.ref o,.int n]/\H o=some (.ins A.ax dx []) /\
 ∀H',(∀(i:Nat) (c:Col),∃c',(∀a v,H a=some v->a≠o->H' a=some v/\c' a=c a)/\dR A i c' H' o (GL n))->Q .non H'
theorem iB {f:Str}{v:V}:∀ {fs:List (Str×V)},f∉fs.map (·.1)->gD f v fs=fs++[(f,v)]
 |[],_=>rfl
 | (g,x)::r,h=>by
  rw[gD,if_neg (λz=>h (by rw[<-z];exact gr)),iB λz=>h (me _ z)]
  rfl
theorem nxt {H:Hp}{o a C dx:Addr}{fs fs':List (Str×V)}{v:HO}(ho:H o=some (.ins C dx fs))(ha:H a=none) :
  (upd (upd H a v) o (.ins C dx fs')) a=some v/\(upd (upd H a v) o (.ins C dx fs')) o=some (.ins C dx fs')/\a≠o/\∀b u,H b=some u->b≠o->(upd (upd H a v) o (.ins C dx fs')) b=some u/\b≠a:=by
 have na:a≠o:=(aI ho ha).symm;refine⟨(av na).trans ae,ae,na,λb u hb hbo=>?_⟩
 have nb:b≠a:=aI hb ha;exact⟨(av hbo).trans ((av nb).trans hb),nb⟩
section
variable{P:rf}{w:World}{K:ba}{mg:Str->Option Value}{base:Heap}{A:Adr}
theorem PY (T:Txt w.params K mg A):a8 P w K mg base CX0 2 A.cS A.lD ["self","seats"] (abe A):=by
 refine T.gO.ok zk (λvs H Q E h=>?_) (λcdv A' outer s H vs Q E hr h=>?_)
 ·obtain⟨o,dx,n,rfl,_⟩:=h;rfl
 ·obtain⟨o,dx,n,rfl,ho,q⟩:=h;refine⟨_,(ai (eP (pv 0) (pv 1) rfl)
 (ai (eP (pv 0) af rfl)
 (ai (eP (pv 0) lO rfl)
 (ai (eP (pv 0) pz rfl)
 (ai (eP (pv 0) (bS ag) rfl)
 (ai (eP (pv 0) pz rfl)
 (ai (eP (pv 0) (bS ag) rfl)
 (ai (eP (pv 0) pz rfl)
 (ai (eP (pv 0) pz rfl)
 (aj (eP (pv 0) (bS ag) rfl))))))))))),?_⟩
  try dsimp only[bF]
  refine⟨_,rfl,_,rfl,o,A.ax,dx,_,rfl,ho,T.aq,T.jqt,(by show 0 < 1000;decide),?_⟩
  refine⟨_,rfl,o,A.ax,dx,_,rfl,ae,T.aq,T.jq1,(by show 1 < 1000;decide),?_⟩
  rw[nJ];refine⟨_,rfl,o,A.ax,dx,_,rfl,ae,T.aq,T.jq3,(by show 2 < 1000;decide),?_⟩
  rw[nJ];have e0:gD (ar "closed") (V.bl false) (gD (ar "sitting") (V.int 1) (gD (ar "seats") (V.int n) []))=[(ar "seats",V.int n),(ar "sitting",V.int 1),(ar "closed",V.bl false)]:=by
   have f1:gD (ar "seats") (V.int n) []=[(ar "seats",V.int n)]:=rfl;have f2:gD (ar "sitting") (V.int 1) [(ar "seats",V.int n)]=[(ar "seats",V.int n),(ar "sitting",V.int 1)]:=iB (by show _∉[ar "seats"];trivial)
   rw[f1,f2];exact iB (by show _∉[ar "seats",ar "sitting"];trivial)
  rw[e0];have o0:(upd H o (.ins A.ax dx [(ar "seats",V.int n),(ar "sitting",V.int 1),(ar "closed",V.bl false)])) o=some (.ins A.ax dx [(ar "seats",V.int n),(ar "sitting",V.int 1),(ar "closed",V.bl false)]):=ae;have k0:∀b u,H b=some u->b≠o->(upd H o (.ins A.ax dx [(ar "seats",V.int n),(ar "sitting",V.int 1),(ar "closed",V.bl false)])) b=some u:=λb u hb hbo=>(av hbo).trans hb
  generalize upd H o (.ins A.ax dx [(ar "seats",V.int n),(ar "sitting",V.int 1),(ar "closed",V.bl false)])=H0 at o0 k0 ⊢;refineλaM zaM=>?_
  have naM:o≠aM:=aI o0 zaM;refine⟨_,rfl,o,A.ax,dx,_,rfl,(av naM).trans o0,T.aq,T.jq2,(by show 3 < 1000;decide),?_⟩
  have e1:gD (ar "made") (V.ref aM) [(ar "seats",V.int n),(ar "sitting",V.int 1),(ar "closed",V.bl false)]=[(ar "seats",V.int n),(ar "sitting",V.int 1),(ar "closed",V.bl false),(ar "made",V.ref aM)]:=iB (by show _∉[ar "seats",ar "sitting",ar "closed"];trivial)
  rw[e1];refine aN λGq gq=>?_
  obtain⟨yaM,o1,_,waM⟩:=nxt (v:=.dK []) (fs':=[(ar "seats",V.int n),(ar "sitting",V.int 1),(ar "closed",V.bl false),(ar "made",V.ref aM)]) o0 zaM;have k1:=λb u (hb:H b=some u) (hbo:b≠o)=>waM b u (k0 b u hb hbo) hbo
  refine gq ?_;generalize upd (upd H0 aM (.dK [])) o (.ins A.ax dx [(ar "seats",V.int n),(ar "sitting",V.int 1),(ar "closed",V.bl false),(ar "made",V.ref aM)])=H1 at o1 k1 waM yaM ⊢;clear waM;refine⟨(sl 0),λaP zaP=>?_⟩
  have naP:o≠aP:=aI o1 zaP;refine⟨_,rfl,o,A.ax,dx,_,rfl,(av naP).trans o1,T.aq,T.jq0,(by show 4 < 1000;decide),?_⟩
  have e2:gD (ar "pile") (V.ref aP) [(ar "seats",V.int n),(ar "sitting",V.int 1),(ar "closed",V.bl false),(ar "made",V.ref aM)]=[(ar "seats",V.int n),(ar "sitting",V.int 1),(ar "closed",V.bl false),(ar "made",V.ref aM),(ar "pile",V.ref aP)]:=iB (by show _∉[ar "seats",ar "sitting",ar "closed",ar "made"];trivial)
  rw[e2];refine aN λGq gq=>?_
  obtain⟨yaP,o2,_,waP⟩:=nxt (v:=.lst []) (fs':=[(ar "seats",V.int n),(ar "sitting",V.int 1),(ar "closed",V.bl false),(ar "made",V.ref aM),(ar "pile",V.ref aP)]) o1 zaP;obtain⟨yaM,abf⟩:=waP _ _ yaM (alr naM);have k2:=λb u (hb:H b=some u) (hbo:b≠o)=>waP b u ((k1 b u hb hbo).1) hbo
  refine gq ?_;generalize upd (upd H1 aP (.lst [])) o (.ins A.ax dx [(ar "seats",V.int n),(ar "sitting",V.int 1),(ar "closed",V.bl false),(ar "made",V.ref aM),(ar "pile",V.ref aP)])=H2 at o2 k2 waP yaM yaP ⊢;clear waP;refineλaA zaA=>?_
  have naA:o≠aA:=aI o2 zaA;refine⟨_,rfl,o,A.ax,dx,_,rfl,(av naA).trans o2,T.aq,T.jq4,(by show 5 < 1000;decide),?_⟩
  have e3:gD (ar "aside") (V.ref aA) [(ar "seats",V.int n),(ar "sitting",V.int 1),(ar "closed",V.bl false),(ar "made",V.ref aM),(ar "pile",V.ref aP)]=[(ar "seats",V.int n),(ar "sitting",V.int 1),(ar "closed",V.bl false),(ar "made",V.ref aM),(ar "pile",V.ref aP),(ar "aside",V.ref aA)]:=iB (by show _∉[ar "seats",ar "sitting",ar "closed",ar "made",ar "pile"];trivial)
  rw[e3];refine aN λGq gq=>?_
  obtain⟨yaA,o3,_,waA⟩:=nxt (v:=.dK []) (fs':=[(ar "seats",V.int n),(ar "sitting",V.int 1),(ar "closed",V.bl false),(ar "made",V.ref aM),(ar "pile",V.ref aP),(ar "aside",V.ref aA)]) o2 zaA;obtain⟨yaM,abg⟩:=waA _ _ yaM (alr naM);obtain⟨yaP,abh⟩:=waA _ _ yaP (alr naP);have k3:=λb u (hb:H b=some u) (hbo:b≠o)=>waA b u ((k2 b u hb hbo).1) hbo
  refine gq ?_;generalize upd (upd H2 aA (.dK [])) o (.ins A.ax dx [(ar "seats",V.int n),(ar "sitting",V.int 1),(ar "closed",V.bl false),(ar "made",V.ref aM),(ar "pile",V.ref aP),(ar "aside",V.ref aA)])=H3 at o3 k3 waA yaM yaP yaA ⊢;clear waA;refine⟨(sl 0),λaD zaD=>?_⟩
  have naD:o≠aD:=aI o3 zaD;refine⟨_,rfl,o,A.ax,dx,_,rfl,(av naD).trans o3,T.aq,T.jqj,(by show 6 < 1000;decide),?_⟩
  have e4:gD (ar "decided") (V.ref aD) [(ar "seats",V.int n),(ar "sitting",V.int 1),(ar "closed",V.bl false),(ar "made",V.ref aM),(ar "pile",V.ref aP),(ar "aside",V.ref aA)]=[(ar "seats",V.int n),(ar "sitting",V.int 1),(ar "closed",V.bl false),(ar "made",V.ref aM),(ar "pile",V.ref aP),(ar "aside",V.ref aA),(ar "decided",V.ref aD)]:=iB (by show _∉[ar "seats",ar "sitting",ar "closed",ar "made",ar "pile",ar "aside"];trivial)
  rw[e4];refine aN λGq gq=>?_
  obtain⟨yaD,o4,_,waD⟩:=nxt (v:=.lst []) (fs':=[(ar "seats",V.int n),(ar "sitting",V.int 1),(ar "closed",V.bl false),(ar "made",V.ref aM),(ar "pile",V.ref aP),(ar "aside",V.ref aA),(ar "decided",V.ref aD)]) o3 zaD;obtain⟨yaM,abi⟩:=waD _ _ yaM (alr naM);obtain⟨yaP,abj⟩:=waD _ _ yaP (alr naP);obtain⟨yaA,abk⟩:=waD _ _ yaA (alr naA);have k4:=λb u (hb:H b=some u) (hbo:b≠o)=>waD b u ((k3 b u hb hbo).1) hbo
  refine gq ?_;generalize upd (upd H3 aD (.lst [])) o (.ins A.ax dx [(ar "seats",V.int n),(ar "sitting",V.int 1),(ar "closed",V.bl false),(ar "made",V.ref aM),(ar "pile",V.ref aP),(ar "aside",V.ref aA),(ar "decided",V.ref aD)])=H4 at o4 k4 waD yaM yaP yaA yaD ⊢;clear waD;refineλaF zaF=>?_
  have naF:o≠aF:=aI o4 zaF;refine⟨_,rfl,o,A.ax,dx,_,rfl,(av naF).trans o4,T.aq,T.jqb,(by show 7 < 1000;decide),?_⟩
  have e5:gD (ar "first_texts") (V.ref aF) [(ar "seats",V.int n),(ar "sitting",V.int 1),(ar "closed",V.bl false),(ar "made",V.ref aM),(ar "pile",V.ref aP),(ar "aside",V.ref aA),(ar "decided",V.ref aD)]=[(ar "seats",V.int n),(ar "sitting",V.int 1),(ar "closed",V.bl false),(ar "made",V.ref aM),(ar "pile",V.ref aP),(ar "aside",V.ref aA),(ar "decided",V.ref aD),(ar "first_texts",V.ref aF)]:=iB (by show _∉[ar "seats",ar "sitting",ar "closed",ar "made",ar "pile",ar "aside",ar "decided"];trivial)
  rw[e5];refine aN λGq gq=>?_
  obtain⟨yaF,o5,_,waF⟩:=nxt (v:=.dK []) (fs':=[(ar "seats",V.int n),(ar "sitting",V.int 1),(ar "closed",V.bl false),(ar "made",V.ref aM),(ar "pile",V.ref aP),(ar "aside",V.ref aA),(ar "decided",V.ref aD),(ar "first_texts",V.ref aF)]) o4 zaF;obtain⟨yaM,abl⟩:=waF _ _ yaM (alr naM);obtain⟨yaP,abm⟩:=waF _ _ yaP (alr naP);obtain⟨yaA,abn⟩:=waF _ _ yaA (alr naA);obtain⟨yaD,abo⟩:=waF _ _ yaD (alr naD);have k5:=λb u (hb:H b=some u) (hbo:b≠o)=>waF b u ((k4 b u hb hbo).1) hbo
  refine gq ?_;generalize upd (upd H4 aF (.dK [])) o (.ins A.ax dx [(ar "seats",V.int n),(ar "sitting",V.int 1),(ar "closed",V.bl false),(ar "made",V.ref aM),(ar "pile",V.ref aP),(ar "aside",V.ref aA),(ar "decided",V.ref aD),(ar "first_texts",V.ref aF)])=H5 at o5 k5 waF yaM yaP yaA yaD yaF ⊢;clear waF;refineλaE zaE=>?_
  have naE:o≠aE:=aI o5 zaE;refine⟨_,rfl,o,A.ax,dx,_,rfl,(av naE).trans o5,T.aq,T.jq5,(by show 8 < 1000;decide),?_⟩
  have e6:gD (ar "edits_kept") (V.ref aE) [(ar "seats",V.int n),(ar "sitting",V.int 1),(ar "closed",V.bl false),(ar "made",V.ref aM),(ar "pile",V.ref aP),(ar "aside",V.ref aA),(ar "decided",V.ref aD),(ar "first_texts",V.ref aF)]=[(ar "seats",V.int n),(ar "sitting",V.int 1),(ar "closed",V.bl false),(ar "made",V.ref aM),(ar "pile",V.ref aP),(ar "aside",V.ref aA),(ar "decided",V.ref aD),(ar "first_texts",V.ref aF),(ar "edits_kept",V.ref aE)]:=iB (by show _∉[ar "seats",ar "sitting",ar "closed",ar "made",ar "pile",ar "aside",ar "decided",ar "first_texts"];trivial)
  rw[e6];refine aN λGq gq=>?_
  obtain⟨yaE,o6,_,waE⟩:=nxt (v:=.dK []) (fs':=[(ar "seats",V.int n),(ar "sitting",V.int 1),(ar "closed",V.bl false),(ar "made",V.ref aM),(ar "pile",V.ref aP),(ar "aside",V.ref aA),(ar "decided",V.ref aD),(ar "first_texts",V.ref aF),(ar "edits_kept",V.ref aE)]) o5 zaE;obtain⟨yaM,abp⟩:=waE _ _ yaM (alr naM);obtain⟨yaP,abq⟩:=waE _ _ yaP (alr naP);obtain⟨yaA,abr⟩:=waE _ _ yaA (alr naA);obtain⟨yaD,abt⟩:=waE _ _ yaD (alr naD);obtain⟨yaF,abu⟩:=waE _ _ yaF (alr naF);have k6:=λb u (hb:H b=some u) (hbo:b≠o)=>waE b u ((k5 b u hb hbo).1) hbo
  refine gq ?_;generalize upd (upd H5 aE (.dK [])) o (.ins A.ax dx [(ar "seats",V.int n),(ar "sitting",V.int 1),(ar "closed",V.bl false),(ar "made",V.ref aM),(ar "pile",V.ref aP),(ar "aside",V.ref aA),(ar "decided",V.ref aD),(ar "first_texts",V.ref aF),(ar "edits_kept",V.ref aE)])=H6 at o6 k6 waE yaM yaP yaA yaD yaF yaE ⊢;clear waE;refine⟨(sl 0),λaR zaR=>?_⟩
  have naR:o≠aR:=aI o6 zaR;refine⟨_,rfl,o,A.ax,dx,_,rfl,(av naR).trans o6,T.aq,T.jqk,(by show 9 < 1000;decide),?_⟩
  have e7:gD (ar "rows") (V.ref aR) [(ar "seats",V.int n),(ar "sitting",V.int 1),(ar "closed",V.bl false),(ar "made",V.ref aM),(ar "pile",V.ref aP),(ar "aside",V.ref aA),(ar "decided",V.ref aD),(ar "first_texts",V.ref aF),(ar "edits_kept",V.ref aE)]=[(ar "seats",V.int n),(ar "sitting",V.int 1),(ar "closed",V.bl false),(ar "made",V.ref aM),(ar "pile",V.ref aP),(ar "aside",V.ref aA),(ar "decided",V.ref aD),(ar "first_texts",V.ref aF),(ar "edits_kept",V.ref aE),(ar "rows",V.ref aR)]:=iB (by show _∉[ar "seats",ar "sitting",ar "closed",ar "made",ar "pile",ar "aside",ar "decided",ar "first_texts",ar "edits_kept"];trivial)
  rw[e7];refine aN λGq gq=>?_
  obtain⟨yaR,o7,_,waR⟩:=nxt (v:=.lst []) (fs':=[(ar "seats",V.int n),(ar "sitting",V.int 1),(ar "closed",V.bl false),(ar "made",V.ref aM),(ar "pile",V.ref aP),(ar "aside",V.ref aA),(ar "decided",V.ref aD),(ar "first_texts",V.ref aF),(ar "edits_kept",V.ref aE),(ar "rows",V.ref aR)]) o6 zaR;obtain⟨yaM,abv⟩:=waR _ _ yaM (alr naM);obtain⟨yaP,abw⟩:=waR _ _ yaP (alr naP);obtain⟨yaA,abx⟩:=waR _ _ yaA (alr naA);obtain⟨yaD,aby⟩:=waR _ _ yaD (alr naD);obtain⟨yaF,abz⟩:=waR _ _ yaF (alr naF);obtain⟨yaE,abA⟩:=waR _ _ yaE (alr naE);have k7:=λb u (hb:H b=some u) (hbo:b≠o)=>waR b u ((k6 b u hb hbo).1) hbo
  refine gq ?_;generalize upd (upd H6 aR (.lst [])) o (.ins A.ax dx [(ar "seats",V.int n),(ar "sitting",V.int 1),(ar "closed",V.bl false),(ar "made",V.ref aM),(ar "pile",V.ref aP),(ar "aside",V.ref aA),(ar "decided",V.ref aD),(ar "first_texts",V.ref aF),(ar "edits_kept",V.ref aE),(ar "rows",V.ref aR)])=H7 at o7 k7 waR yaM yaP yaA yaD yaF yaE yaR ⊢;clear waR;refine q H7 λi c=>⟨az (az (az (az (az (az (az (az c o (some (i,Rl.ob))) aM (some (i,Rl.made))) aP (some (i,Rl.au))) aA (some (i,Rl.aH))) aD (some (i,Rl.decided))) aF (some (i,Rl.firsts))) aE (some (i,Rl.kept))) aR (some (i,Rl.rows)),λb u hb hbo=>⟨(k7 b u hb hbo).1,?_⟩,⟨dx,aM,aP,aA,aD,aF,aE,aR,[],[],[],[],[],?_⟩⟩
  ·rw[aw (k7 b u hb hbo).2,aw (k6 b u hb hbo).2,aw (k5 b u hb hbo).2,aw (k4 b u hb hbo).2,aw (k3 b u hb hbo).2,aw (k2 b u hb hbo).2,aw (k1 b u hb hbo).2,aw hbo]
  ·exact⟨by rw[aw naR,aw naE,aw naF,aw naD,aw naA,aw naP,aw naM,aX],o7,⟨by rw[aw abv,aw abp,aw abl,aw abi,aw abg,aw abf,aX],yaM⟩,.nil,⟨by rw[aw abw,aw abq,aw abm,aw abj,aw abh,aX],yaP⟩,⟨by rw[aw abx,aw abr,aw abn,aw abk,aX],yaA⟩,.nil,⟨by rw[aw aby,aw abt,aw abo,aX],yaD⟩,.nil,⟨by rw[aw abz,aw abu,aX],yaF⟩,.nil,⟨by rw[aw abA,aX],yaE⟩,.nil,⟨by rw[aX],yaR⟩⟩
end
def aiH (A:Adr)(i:Nat):Sp:=λvs H Q _=>∃(o:Addr) (n:Nat) (c:Col) (st:Ch) (x:Nat×Int×List Nat),vs=[.ref o,nV n]/\dR A i c H o st/\at1 n st.aH=some x /\
 ∀l u H',H l=none->H u=none->bw H H'->H' l=some (.lst (x.2.2.map nV))->H' u=some (.tup [nV n,.int x.2.1,.ref l])->Q (.ref u) H'
def ia (ns:List Nat):PyData:=.list (ns.map λn:Nat=>.int (n:Int))
def asD (x:Nat×Int×List Nat):PyData:=.tuple [.int (x.1:Int),.int x.2.1,ia x.2.2]
def dcD (x:Nat×Str):PyData:=.tuple [.int (x.1:Int),.str x.2]
def Kg (st:Ch)(n:Int):Nat×Int×List Nat:=(at1 n.toNat st.aH).getD (0,0,[])
def stD (st:Ch)(ns:List Int):PyData:=.tuple [.int st.aU,.bool st.closed,ia st.au,.list (ns.map λn=>asD (Kg st n)),.list (st.decided.map dcD)]
def mnD:Mn->PyData
 | .mat tx=>.tuple [.str (nm 0),.list (tx.map alL)]
 | .chg e=>.tuple [.str (nm 1),edD e]
 | .mnd e=>.tuple [.str (nm 2),edD e]
 | .off u=>.tuple [.str (nm 3),.int u]
 | .cls=>.tuple [.str (nm 4)]
 | .lay=>.tuple [.str (nm 5)]
 | .rst=>.tuple [.str (nm 6)]
 | .pnt z=>.tuple [.str (nm 7),.str z]
theorem Mr {α:Type}{K:ba}{H:Hp}{f:α->PyData}{g:α->V}:∀ {xs:List α},(∀x∈xs,DV K H (f x) (g x))->DVs K H (xs.map f) (xs.map g)
 |[],_=>by unfold DVs;rfl
 |x::xs,h=>by
  rw[km,km];unfold DVs;exact⟨g x,xs.map g,rfl,h x gr,Mr λy hy=>h y (me _ hy)⟩
theorem jz {K:ba}{H:Hp}{a:Addr}{ns:List Nat}(h:SqL K H a (ns.map nV)):DV K H (ia ns) (.ref a):=by
 unfold ia DV;exact⟨a,_,rfl,h,Mr (f:=λn:Nat=>PyData.int (n:Int)) (g:=nV) λn _=>by unfold DV;rfl⟩
theorem bG.dvs {α:Type}{K:ba}{H:Hp}{f:α->PyData}{R:α->V->Prop}(g:∀x v,R x v->DV K H (f x) v):∀ {xs:List α} {vs:List V},bG R xs vs->DVs K H (xs.map f) vs
 |_,_,.nil=>by unfold DVs;rfl
 |_,_,.cons h t=>by
  rw[km];unfold DVs;exact⟨_,_,rfl,g _ _ h,t.dvs g⟩
theorem bG.mapR {α β γ:Type}{R:α->γ->Prop}{f:β->γ}:∀ {xs:List α} {ys:List β},bG (λa b=>R a (f b)) xs ys->bG R xs (ys.map f)
 |_,_,.nil=>.nil
 |_,_,.cons h t=>.cons h t.mapR
def GN (H:Hp)(R:Addr)(x:Nat×Int×List Nat)(v:V):Prop:=∃u l,v=.ref u/\u≠R/\l≠R/\H u=some (.tup [nV x.1,.int x.2.1,.ref l])/\H l=some (.lst (x.2.2.map nV))
theorem GN.same {H H':Hp}{R:Addr}{x:Nat×Int×List Nat}{v:V}(s:bw H H'):GN H R x v->GN H' R x v
 |⟨u,l,e,h1,h2,h3,h4⟩=>⟨u,l,e,h1,h2,s _ _ h3,s _ _ h4⟩
theorem GN.upd {H:Hp}{R:Addr}{o:HO}{x:Nat×Int×List Nat}{v:V}:GN H R x v->GN (L2.upd H R o) R x v
 |⟨u,l,e,h1,h2,h3,h4⟩=>⟨u,l,e,h1,h2,(av h1).trans h3,(av h2).trans h4⟩
theorem GN.dv {K:ba}{H:Hp}{R:Addr}{x:Nat×Int×List Nat}{v:V}:GN H R x v->DV K H (asD x) v
 |⟨u,l,e,h1,h2,h3,h4⟩=>by
  unfold asD DV;refine⟨u,_,e,SqT.of h3,?_⟩;unfold DVs;refine⟨_,_,rfl,by unfold DV;rfl,?_⟩
  unfold DVs;refine⟨_,_,rfl,by unfold DV;rfl,?_⟩
  unfold DVs;exact⟨_,_,rfl,jz (SqL.of h4),by unfold DVs;rfl⟩
section
variable{P:rf}{w:World}{K:ba}{mg:Str->Option Value}{base:Heap}{A:Adr}
theorem C2 (T:Txt w.params K mg A){i:Nat}:a8 P w K mg base CX0 1 A.bH A.gw ["self","number"] (aiH A i):=by
 refine T.dM.ok jG (λvs H Q E h=>?_) (λcdv A' outer s H vs Q E hr h=>?_)
 ·obtain⟨o,n,c,st,x,rfl,_⟩:=h;rfl
 ·obtain⟨o,n,c,st,x,rfl,hc,hx,q⟩:=h;obtain⟨dx,aM,aP,aA,aD,aF,aE,aR,ms,ds,ws,fs,es,X⟩:=hc.ex;have hu1:=hr.u1;refine⟨_,(ai (aY (i:=2) jG.nd rfl (tm rfl) (bh hu1 (br (pv 0) rfl) (pv 1) (λ_ _=>rfl)))
 (aj (aB (bg (aa (pv 1) (aa (aK aT (pv 2) af (λ_ _=>rfl)) (aa (eQ fG (by rfl) T.sC qu (aa (aK aT (pv 2) af (λ_ _=>rfl)) ag)) ag))))))),?_⟩
  try dsimp only[bF]
  refine aN λGq gq=>?_
  obtain⟨t,p,hv,ht,hl⟩:=X.waitOf hx;refine gq ?_;refine⟨_,rfl,o,A.ax,dx,_,.ref aA,rfl,X.ob,T.aq,T.jq4,j9,_,rfl,aA,_,rfl,.inl ⟨_,ku (n:Int),.inl X.aH.2,rfl,hv.symm⟩,?_⟩;refine⟨_,rfl,_,rfl,t,_,_,_,rfl,rfl,ht.sq,rfl,_,rfl,t,_,_,_,rfl,rfl,ht.sq,rfl,p,_,rfl,.inl (SqL.of hl.2),λl hl0=>⟨(sl 3),λu hu=>?_⟩⟩
  have nul:u≠l:=λz=>by rw[z,ae]at hu;cases hu
  have hu0:H u=none:=by rw[av nul]at hu;exact hu
  exact q l u _ hl0 hu0 ((aG hl0).new hu) ((av (alr nul)).trans ae) ae
theorem WS {c:Col}{H:Hp}{v:V}{t:Addr}:∀ {m:Mn},1<=m.k->m.Val c H v->SqT K H t (rowOf m.k v)->DV K H (mnD m) (.ref t)
 | .mat _,h,_,_=>absurd h (by simp[Mn.k])
 | .chg e,_,⟨te,ev,hte⟩,ht=>by
  subst ev;unfold mnD DV;refine⟨t,_,rfl,ht,?_⟩;unfold DVs;refine⟨_,_,rfl,by unfold DV;rfl,?_⟩
  unfold DVs;exact⟨_,_,rfl,J5 e hte.sq,by unfold DVs;rfl⟩
 | .mnd e,_,⟨te,ev,hte⟩,ht=>by
  subst ev;unfold mnD DV;refine⟨t,_,rfl,ht,?_⟩;unfold DVs;refine⟨_,_,rfl,by unfold DV;rfl,?_⟩
  unfold DVs;exact⟨_,_,rfl,J5 e hte.sq,by unfold DVs;rfl⟩
 | .off u,_,ev,ht=>by
  have ev':v=.int u:=ev;subst ev';unfold mnD DV;refine⟨t,_,rfl,ht,?_⟩;unfold DVs;refine⟨_,_,rfl,by unfold DV;rfl,?_⟩
  unfold DVs;exact⟨_,_,rfl,by unfold DV;rfl,by unfold DVs;rfl⟩
 | .pnt z,_,ev,ht=>by
  have ev':v=.str z:=ev;subst ev';unfold mnD DV;refine⟨t,_,rfl,ht,?_⟩;unfold DVs;refine⟨_,_,rfl,by unfold DV;rfl,?_⟩
  unfold DVs;exact⟨_,_,rfl,by unfold DV;rfl,by unfold DVs;rfl⟩
 | .cls,_,_,ht=>by
  unfold mnD DV;refine⟨t,_,rfl,ht,?_⟩;unfold DVs;exact⟨_,_,rfl,by unfold DV;rfl,by unfold DVs;rfl⟩
 | .lay,_,_,ht=>by
  unfold mnD DV;refine⟨t,_,rfl,ht,?_⟩;unfold DVs;exact⟨_,_,rfl,by unfold DV;rfl,by unfold DVs;rfl⟩
 | .rst,_,_,ht=>by
  unfold mnD DV;refine⟨t,_,rfl,ht,?_⟩;unfold DVs;exact⟨_,_,rfl,by unfold DV;rfl,by unfold DVs;rfl⟩
end
def jA (st:Ch):R.dY->Rs×Ch
 | .nums kd ns=>if kd=ar "vote" then qe st (ns.getD 0 0) (ns.getD 1 0) else if kd=ar "drop" then q5 st else if kd=ar "take" then stepT st (ns.getD 0 0).toNat else qf st (cy (.nums kd ns)) (R.sI (.nums kd ns))
 |d=>qf st (cy d) (R.sI d)
inductive sT:R.dY->Prop
 |Na {a b:Int}:(0<=a/\a < 10 ^ 10)->(0<=b/\b < 10 ^ 10)->sT (.nums (ar "vote") [a,b])
 |drop:sT (.nums (ar "drop") [])
 |take {z:Int}:-1<=z->z < 10 ^ 10->sT (.nums (ar "take") [z])
 |move {d:R.dY}:wQ d->sT d
theorem qK {st:Ch}{a b:Int}:jA st (.nums (ar "vote") [a,b])=qe st a b:=by rw[jA,if_pos rfl];rfl
theorem qL {st:Ch}:jA st (.nums (ar "drop") [])=q5 st:=by rw[jA,if_neg (by trivial),if_pos rfl]
theorem qM {st:Ch}{z:Int}:jA st (.nums (ar "take") [z])=stepT st z.toNat:=by
 rw[jA,if_neg (by trivial),if_neg (by trivial),if_pos rfl]
 rfl
theorem qN {st:Ch}{d:R.dY}(h:wQ d):jA st d=qf st (cy d) (R.sI d):=by
 cases d with
 |nums kd ns =>
  rcases wR h.1 with ⟨u,rfl,rfl⟩ | ⟨rfl,rfl⟩ | ⟨rfl,rfl⟩ | ⟨rfl,rfl⟩ <;> rw[jA,if_neg (by trivial),if_neg (by trivial),if_neg (by trivial)]
 |_=>rfl
theorem Inv.jA {N:Nat}{st:Ch}(I:Inv N st)(hN:N<=800){d:R.dY}(h:sT d):Inv (N+3) (jA st d).2:=by
 cases h with
 |Na=>rw[qK];exact I.qe hN _ _
 |drop=>rw[qL];exact I.q5
 |take=>rw[qM];exact I.stepT _
 |move h=>rw[qN h];exact I.qf (Kf h) _
theorem fq {W:Option (Nat×Rl)->Prop}{c c':Col}{H H':Hp}(s:Step W c c' H H'){a:Addr}{v:HO}(h:c a=none)(hv:H a=some v):c' a=none/\H' a=some v:=by
 have hn:¬W (c a):=by rw[h];exact s.nn
 exact⟨by rw[s.col a _ hv hn];exact h,s.keep _ _ hv hn⟩
def mdF (v0 v1 v2 v3 v4 v5:V):List (Key×V):=[(wt (ar "sitting"),v0),(wt (ar "closed"),v1),(wt (ar "pile"),v2),(wt (ar "aside"),v3),(wt (ar "decided"),v4),(wt (ar "motions"),v5)]
theorem key_ne {a b:Str}(h:a≠b){v:V}:¬((wt a,v):Key×V).1=(wt b:Key):=λz=>h (Sum.inr.inj z)
theorem Cc {kvs:List (Key×V)}{k:Key}{v y:V}(h:g9 kvs k=some v):putK kvs k y=kvs.map (λkv=>if kv.1=k then (kv.1,y) else kv):=by
 unfold putK;rw[rR,h];exact if_pos rfl
section
variable{v0 v1 v2 v3 v4 v5 y:V}
theorem n6:g9 (mdF v0 v1 v2 v3 v4 v5) (wt (ar "sitting"))=some v0:=eR rfl
theorem Cd:g9 (mdF v0 v1 v2 v3 v4 v5) (wt (ar "closed"))=some v1:=(bX (key_ne (by trivial))).trans (eR rfl)
theorem sU:g9 (mdF v0 v1 v2 v3 v4 v5) (wt (ar "pile"))=some v2:=(bX (key_ne (by trivial))).trans ((bX (key_ne (by trivial))).trans (eR rfl))
theorem yt:g9 (mdF v0 v1 v2 v3 v4 v5) (wt (ar "aside"))=some v3:=(bX (key_ne (by trivial))).trans ((bX (key_ne (by trivial))).trans ((bX (key_ne (by trivial))).trans (eR rfl)))
theorem y7:g9 (mdF v0 v1 v2 v3 v4 v5) (wt (ar "decided"))=some v4:=(bX (key_ne (by trivial))).trans ((bX (key_ne (by trivial))).trans ((bX (key_ne (by trivial))).trans ((bX (key_ne (by trivial))).trans (eR rfl))))
theorem y9:g9 (mdF v0 v1 v2 v3 v4 v5) (wt (ar "motions"))=some v5:=(bX (key_ne (by trivial))).trans ((bX (key_ne (by trivial))).trans ((bX (key_ne (by trivial))).trans ((bX (key_ne (by trivial))).trans ((bX (key_ne (by trivial))).trans (eR rfl)))))
theorem GO:putK (mdF v0 v1 v2 v3 v4 v5) (wt (ar "sitting")) y=mdF y v1 v2 v3 v4 v5:=by
 rw[Cc n6];unfold mdF;simp only[km,alM,if_neg (show ¬(wt (ar "closed"):Key)=wt (ar "sitting") by trivial),if_neg (show ¬(wt (ar "pile"):Key)=wt (ar "sitting") by trivial),if_neg (show ¬(wt (ar "aside"):Key)=wt (ar "sitting") by trivial),if_neg (show ¬(wt (ar "decided"):Key)=wt (ar "sitting") by trivial),if_neg (show ¬(wt (ar "motions"):Key)=wt (ar "sitting") by trivial),if_true]
theorem Ce:putK (mdF v0 v1 v2 v3 v4 v5) (wt (ar "closed")) y=mdF v0 y v2 v3 v4 v5:=by
 rw[Cc Cd];unfold mdF;simp only[km,alM,if_neg (show ¬(wt (ar "sitting"):Key)=wt (ar "closed") by trivial),if_neg (show ¬(wt (ar "pile"):Key)=wt (ar "closed") by trivial),if_neg (show ¬(wt (ar "aside"):Key)=wt (ar "closed") by trivial),if_neg (show ¬(wt (ar "decided"):Key)=wt (ar "closed") by trivial),if_neg (show ¬(wt (ar "motions"):Key)=wt (ar "closed") by trivial),if_true]
theorem Cg:putK (mdF v0 v1 v2 v3 v4 v5) (wt (ar "pile")) y=mdF v0 v1 y v3 v4 v5:=by
 rw[Cc sU];unfold mdF;simp only[km,alM,if_neg (show ¬(wt (ar "sitting"):Key)=wt (ar "pile") by trivial),if_neg (show ¬(wt (ar "closed"):Key)=wt (ar "pile") by trivial),if_neg (show ¬(wt (ar "aside"):Key)=wt (ar "pile") by trivial),if_neg (show ¬(wt (ar "decided"):Key)=wt (ar "pile") by trivial),if_neg (show ¬(wt (ar "motions"):Key)=wt (ar "pile") by trivial),if_true]
end
def MnT (c:Col)(H:Hp)(m:Mn)(t:Addr):Prop:=c t=none/\∃v,H t=some (.tup (rowOf m.k v))/\m.Val c H v
theorem MnT.step {W:Option (Nat×Rl)->Prop}{c c':Col}{H H':Hp}{m:Mn}{t:Addr}(s:Step W c c' H H')(h:MnT c H m t):MnT c' H' m t:=by
 obtain⟨n,v,h,hv⟩:=h;have hn:¬W (c t):=by rw[n];exact s.nn
 exact⟨by rw[s.col t _ h hn];exact n,v,s.keep _ _ h hn,hv.step s⟩
def gz (st:Ch)(n:Nat):List Ed:=((at1 n st.kept).map (·.2)).getD []
def Ci (st:Ch)(n:Nat):Option (List Str):=(at1 n st.firsts).map (·.2)
abbrev Ent:=Nat×Mn×List Ed×Option (List Str)
def ib (st:Ch)(n:Nat):Ent:=(n,st.mo n,gz st n,Ci st n)
def iO (st:Ch):List Ent:=(alC 1 st.made.length).map (ib st)
abbrev WT (i:Nat)(c:Col)(H:Hp)(x:Ent)(v:V):Prop:=∃(p t1 t2 k:Addr) (ts:List Addr),v=.ref p/\LstAt i c H (.dD x.1) p [.ref t1,.ref t2,.ref k]/\MnT c H x.2.1 t1/\(∀tx,x.2.2.2=some tx->MnT c H (.mat tx) t2)/\LstAt i c H (.gZ x.1) k (ts.map V.ref)/\bG (λe t=>TupAt c H t (eG e)) x.2.2.1 ts
structure MdX (i:Nat)(c:Col)(H:Hp)(m:Addr)(st:Ch)(aP aA aD aM:Addr)(ds:List Addr)(ws es:List V):Prop where
 co:c m=some (i,.ob)
 ob:H m=some (.dK (mdF (.int st.aU) (.bl st.closed) (.ref aP) (.ref aA) (.ref aD) (.ref aM)))
 au:LstAt i c H .au aP (st.au.map nV)
 aH:jH i c H .aH aA ((st.aH.map (·.1)).zip ws)
 wait:bG (Me i c H) st.aH ws
 dec:LstAt i c H .decided aD (ds.map V.ref)
 m5:bG (λ(x:Nat×Str) t=>TupAt c H t [nV x.1,.str x.2]) st.decided ds
 l6:LstAt i c H .made aM es
 ent:bG (WT i c H) (iO st) es
structure jD (i:Nat)(c:Col)(H:Hp)(m:Addr)(st:Ch):Prop where
 ex:∃(aP aA aD aM:Addr) (ds:List Addr) (ws es:List V),MdX i c H m st aP aA aD aM ds ws es
section
variable{i:Nat}{p:Rl->Bool}{c c':Col}{H H':Hp}{m aP aA aD aM:Addr}{st:Ch}{ds:List Addr}{ws es:List V}
theorem MdX.at (X:MdX i c H m st aP aA aD aM ds ws es):jD i c H m st:=⟨_,_,_,_,_,_,_,X⟩
theorem GP {xs:List Ent}{vs:List V}(h1:∀x∈xs,p (.dD x.1)=false)(h2:∀x∈xs,p (.gZ x.1)=false)(s:Step (Wr i p) c c' H H')(z:bG (WT i c H) xs vs):bG (WT i c' H') xs vs :=
 z.imp_mem λx m v ⟨q,t1,t2,k,ts,e,z1,z2,z3,z4,z5⟩=>⟨q,t1,t2,k,ts,e,z1.kp (h1 x m) s,z2.step s,λtx ht=>(z3 tx ht).step s,z4.kp (h2 x m) s,z5.imp λ_ _ y=>y.step s⟩
theorem MdX.free {W:Option (Nat×Rl)->Prop}(h:∀r,¬W (some (i,r)))(s:Step W c c' H H')(X:MdX i c H m st aP aA aD aM ds ws es):MdX i c' H' m st aP aA aD aM ds ws es:=by
 have hn:¬W (c m):=by rw[X.co];exact h _
 refine⟨by rw[s.col m _ X.ob hn];exact X.co,s.keep _ _ X.ob hn,X.au.keep (h _) s,X.aH.keep (h _) s,X.wait.imp ?_,X.dec.keep (h _) s,jw s X.m5,X.l6.keep (h _) s,X.ent.imp ?_⟩
 ·rintro x v ⟨t,p,e,z1,z2⟩;exact⟨t,p,e,z1.step s,z2.keep (h _) s⟩
 ·rintro x v ⟨q,t1,t2,k,ts,e,z1,z2,z3,z4,z5⟩;exact⟨q,t1,t2,k,ts,e,z1.keep (h _) s,z2.step s,λtx ht=>(z3 tx ht).step s,z4.keep (h _) s,z5.imp λ_ _ y=>y.step s⟩
theorem MdX.same (s:bw H H')(X:MdX i c H m st aP aA aD aM ds ws es):MdX i c H' m st aP aA aD aM ds ws es:=X.free (W:=λ_=>False) (λ_=>id) (Step.same id s)
theorem MdX.cl (s:bw H H')(X:MdX i c H m st aP aA aD aM ds ws es):MdX i (bU c H) H' m st aP aA aD aM ds ws es:=X.free (W:=λ_=>False) (λ_=>id) (Step.cl id s)
theorem jD.free {W:Option (Nat×Rl)->Prop}(h:∀r,¬W (some (i,r)))(s:Step W c c' H H')(X:jD i c H m st):jD i c' H' m st:=by
 obtain⟨aP,aA,aD,aM,ds,ws,es,X⟩:=X.ex;exact(X.free h s).at
theorem MdX.attr (X:MdX i c H m st aP aA aD aM ds ws es)(n:Int)(b:Bool) :
  Step (Wr i pOb) c c H (upd H m (.dK (mdF (.int n) (.bl b) (.ref aP) (.ref aA) (.ref aD) (.ref aM))))/\MdX i c (upd H m (.dK (mdF (.int n) (.bl b) (.ref aP) (.ref aA) (.ref aD) (.ref aM)))) m { st with aU:=n,closed:=b } aP aA aD aM ds ws es:=by
 have s:Step (Wr i pOb) c c H (upd H m (.dK (mdF (.int n) (.bl b) (.ref aP) (.ref aA) (.ref aD) (.ref aM)))):=Step.upd Wr.nn (Wr.yes X.co rfl);exact⟨s,X.co,ae,X.au.kp rfl s,X.aH.kp rfl s,lq (λ_ _=>rfl) s X.wait,X.dec.kp rfl s,jw s X.m5,X.l6.kp rfl s,GP (λ_ _=>rfl) (λ_ _=>rfl) s X.ent⟩
def abB:Rl->Bool | .au=>true | .decided=>true | _=>false
theorem MdX.pop (X:MdX i c H m st aP aA aD aM ds ws es){pre:List Nat}{n:Nat}{t:Addr}{wd:Str}(ht:(upd H aP (.lst (pre.map nV))) t=none) :
  Step (Wr i abB) c (az c t none) H (upd (upd (upd H aP (.lst (pre.map nV))) t (.tup [nV n,.str wd])) aD (.lst (ds.map V.ref++[.ref t]))) /\
  MdX i (az c t none) (upd (upd (upd H aP (.lst (pre.map nV))) t (.tup [nV n,.str wd])) aD (.lst (ds.map V.ref++[.ref t]))) m (st.popped pre n wd) aP aA aD aM (ds++[t]) ws es:=by
 have nt:∀ {a:Addr} {v:HO},H a=some v->a≠t:=by
  intro a v e z;subst z
  by_cases y:a=aP
  ·subst y;rw[ae]at ht;cases ht
  ·rw[av y,e]at ht;cases ht
 have nPD:aD≠aP:=eh X.dec.1 X.au.1 (λz=>nomatch z)
 have s:Step (Wr i abB) c (az c t none) H (upd (upd (upd H aP (.lst (pre.map nV))) t (.tup [nV n,.str wd])) aD (.lst (ds.map V.ref++[.ref t]))) :=
  ((Step.upd Wr.nn (Wr.yes X.au.1 rfl)).trans (Step.new Wr.nn ht)).trans (Step.upd Wr.nn ⟨.decided,by rw[aw (nt X.dec.2)];exact X.dec.1,rfl⟩)
 have htt:TupAt (az c t none) (upd (upd (upd H aP (.lst (pre.map nV))) t (.tup [nV n,.str wd])) aD (.lst (ds.map V.ref++[.ref t]))) t [nV n,.str wd]:=⟨aX,.inl ((av (nt X.dec.2).symm).trans ae)⟩;have kp:LstAt i (az c t none) (upd (upd (upd H aP (.lst (pre.map nV))) t (.tup [nV n,.str wd])) aD (.lst (ds.map V.ref++[.ref t]))) .au aP (pre.map nV) :=
  ⟨by rw[aw (nt X.au.2)];exact X.au.1,by rw[av nPD.symm,av (nt X.au.2),ae]⟩
 have kd:LstAt i (az c t none) (upd (upd (upd H aP (.lst (pre.map nV))) t (.tup [nV n,.str wd])) aD (.lst (ds.map V.ref++[.ref t]))) .decided aD ((ds++[t]).map V.ref) :=
  ⟨by rw[aw (nt X.dec.2)];exact X.dec.1,by rw[ae,ko];rfl⟩
 have k:=mY rfl s X.co X.ob;exact⟨s,k.1,k.2,kp,X.aH.kp rfl s,lq (λ_ _=>rfl) s X.wait,kd,(jw s X.m5).snoc htt,X.l6.kp rfl s,GP (λ_ _=>rfl) (λ_ _=>rfl) s X.ent⟩
theorem MdX.gs (X:MdX i c H m st aP aA aD aM ds ws es):uI H m (V.str (ar "sitting")) (some (.int st.aU)):=.inl ⟨_,wt (ar "sitting"),.inl X.ob,rfl,n6.symm⟩
theorem MdX.gc (X:MdX i c H m st aP aA aD aM ds ws es):uI H m (V.str (ar "closed")) (some (.bl st.closed)):=.inl ⟨_,wt (ar "closed"),.inl X.ob,rfl,Cd.symm⟩
theorem MdX.gp (X:MdX i c H m st aP aA aD aM ds ws es):uI H m (V.str (ar "pile")) (some (.ref aP)):=.inl ⟨_,wt (ar "pile"),.inl X.ob,rfl,sU.symm⟩
theorem MdX.ga (X:MdX i c H m st aP aA aD aM ds ws es):uI H m (V.str (ar "aside")) (some (.ref aA)):=.inl ⟨_,wt (ar "aside"),.inl X.ob,rfl,yt.symm⟩
theorem MdX.gd (X:MdX i c H m st aP aA aD aM ds ws es):uI H m (V.str (ar "decided")) (some (.ref aD)):=.inl ⟨_,wt (ar "decided"),.inl X.ob,rfl,y7.symm⟩
theorem MdX.gm (X:MdX i c H m st aP aA aD aM ds ws es):uI H m (V.str (ar "motions")) (some (.ref aM)):=.inl ⟨_,wt (ar "motions"),.inl X.ob,rfl,y9.symm⟩
end
theorem PZ (xs:List V)(k:Nat):gF xs none (some (k:Int))=xs.take k:=by
 unfold gF;rw[HT.vJ,HT.FR,List.drop_zero,Nat.sub_zero,<-List.take_eq_take_min]
theorem Sq {xs:List V}{lo hi:Option Int}{x:V}(h:x∈gF xs lo hi):x∈xs:=by
 unfold gF at h;exact List.mem_of_mem_drop (List.mem_of_mem_take h)
abbrev vn:Str:=ar "abcdefghijklmnopqrstuvwxyzAZ09-#./"
theorem P0:vn.length=34:=by trivial
theorem D6:vn.cps.toList.length=34:=by trivial
theorem D7:∀c∈vn.cps.toList,R.Sign c:=by trivial
theorem Sr:∀c∈vn.cps.toList.take 33,c≠47:=by trivial
theorem aiI {i:Int}(h0:0<=i)(h1:i < 34):∃c,atI vn.cps.toList i=some c/\R.Sign c:=by
 obtain⟨c,hc,hm⟩:=TN (xs:=vn.cps.toList) (i:=i) (n:=34) D6 h0 (by omega)
 exact⟨c,hc,D7 c hm⟩
theorem aiJ {i:Int}(h0:0<=i)(h1:i < 33):∃c,atI vn.cps.toList i=some c/\R.Sign c/\c≠47:=by
 obtain⟨n,rfl⟩:∃n:Nat,i=(n:Int):=⟨i.toNat,by omega⟩
 have hn:n < 33:=by omega
 have hl:=D6;have e:vn.cps.toList[n]?=some vn.cps.toList[n]:=adm (by omega)
 refine⟨_,cB e,D7 _ (List.getElem_mem _),Sr _ ?_⟩;have e2:(vn.cps.toList.take 33)[n]?=some vn.cps.toList[n]:=by rw[List.getElem?_take,if_pos hn];exact e
 exact alw e2
structure Wd (n:Nat)(x:Str):Prop where
 len:x.length<=n
 hd:∃d r,x.cps.toList=d::r/\d≠47
 sgn:∀c∈x.cps.toList,R.Sign c
theorem WU {c:Nat}(h:R.Sign c)(n:c≠47):Wd 1 ⟨#[c]⟩:=⟨kq 1,⟨c,[],rfl,n⟩,λd hd=>by
 have:d=c:=by simpa using hd
 rw[this];exact h⟩
theorem WV {x:Str}{n c:Nat}(w:Wd n x)(h:R.Sign c):Wd (n+1) (x++⟨#[c]⟩):=by
 obtain⟨d,r,e,hd⟩:=w.hd;refine⟨?_,⟨d,r++[c],?_,hd⟩,λy hy=>?_⟩
 ·have:=w.len;rw[len_app];show _+1<=_;omega
 ·rw[fH,e];rfl
 ·rw[fH,List.mem_append]at hy;rcases hy with hy | hy
  ·exact w.sgn y hy
  ·have:y=c:=by simpa using hy
   rw[this];exact h
theorem Wd.word {n:Nat}{x:Str}(w:Wd n x)(h:n<=20):R.oE x:=by
 obtain⟨d,r,e,hd⟩:=w.hd;have hl:x.cps.toList.length=x.length:=by rw[amz];rfl
 refine⟨?_,ak3 w.len h,w.sgn,λz=>?_⟩
 ·rw[<-hl,e];simp
 ·rw[z]at e;have:(ar "/").cps.toList=[47]:=by trivial
  rw[this]at e;cases e;exact hd rfl
def P1:Sp:=λvs H Q _=>∃c:Int,vs=[.int c]/\∀x,R.oE x->Q (.str x) H
def vo:Sp:=λvs H Q _=>∃c:Int,vs=[.int c]/\∀(ws:List Str) (H':Hp),R.B1 12 ws->bw H H'->Q (.str (tu R.bl1 ws)) H'
def WW (K:ba):Sp:=λvs H Q _=>∃(a:Addr) (ns:List Int) (k:Int),vs=[.ref a,.int k]/\SqL K H a (ns.map V.int)/\0<=k/\∀z:Int,Q (.int z) H
def P2:Sp:=λvs H Q _=>∃(c n:Int) (z:Str),vs=[.int c,.int n,.str z]/\0<=n/\n<=900/\∀(k:Nat) (j:Int) (t:Addr) (H':Hp),(k=0\/k=1\/k=2)->-1<=j->j<=1000->bw H H'->H t=none->H' t=some (.tup (R.edR k j z))->Q (.ref t) H'
def GQ:Sp:=λvs H Q _=>∃k:Nat,k < 8/\vs=[.str (nm k)]/\∀H',bw H H'->Q (.int (k:Int)) H'
def ng:List Str:=[ar "matter",ar "change",ar "mend",ar "put off",ar "close",ar "lay",ar "rest",ar "point"]
theorem Cj:∀k,k < 8->ng[k]?=some (nm k)/\∀m,m < k->ng[m]?≠some (nm k):=by trivial
section
variable{P:rf}{w:World}{K:ba}{mg:Str->Option Value}{base:Heap}{A:Adr}
theorem FC (T:Txt w.params K mg A):a8 P w K mg base CX0 1 A.xJ A.qz ["_law_script","_law_k"] (WW K):=by
 refine T.sx.ok ES (λvs H Q E h=>?_) (λcdv A' outer s H vs Q E hr h=>?_)
 ·obtain⟨a,ns,k,rfl,_⟩:=h;rfl
 ·obtain⟨a,ns,k,rfl,hS,h0,q⟩:=h;refine⟨_,(ai (a9 (ay rK (pv 1) (cA cP (by rfl) T.nY jK (aa (pv 0) ag)) (aJ _))
 (aj (aB (aK bx (pv 0) (pv 1) (λ_ _=>rfl))))
 aC)
 (aj (aB af))),?_⟩
  try dsimp only[bF]
  refine⟨_,rfl,_,rfl,a,_,rfl,.inl hS,_,_,rfl,rfl,_,rfl,fD (λe=>?_) (λ_=>q 0)⟩
  refine aN λGq gq=>?_
  have e':k < ((ns.map V.int).length:Int):=of_decide_eq_true e;rw[bo]at e';obtain⟨c,hc,hm⟩:=TN (xs:=ns.map V.int) (i:=k) (n:=ns.length) (bo _) h0 e';obtain⟨z,_,rfl⟩:=List.mem_map.mp hm;refine gq ?_;exact⟨_,rfl,_,rfl,a,_,_,_,rfl,rfl,hS,hc,q z⟩
theorem yu (T:Txt w.params K mg A):a8 P w K mg base CX0 1 A.JP A.xK ["_law_cell"] P1:=by
 refine T.sy.ok pI (λvs H Q E h=>?_) (λcdv A' outer s H vs Q E hr h=>?_)
 ·obtain⟨c,rfl,_⟩:=h;rfl
 ·obtain⟨c,rfl,k⟩:=h;refine⟨_,(ai (aY (i:=1) pI.nd rfl (tm rfl) ao)
 (ai (aY (i:=2) pI.nd rfl (tm rfl) (aK Jy (pv 1) (a6 b6 (pv 0) af) (λ_ _=>rfl)))
 (ai (AK PassesOwn.never rfl (xq rfl T.AA (aa (a6 b6 (a6 cO (pv 0) af) af) ag)) (kL (i:=3) pI.nd rfl (tm rfl))
 (aj (aY (i:=2) pI.nd rfl (tm rfl) (a6 Jq (pv 2) (aK Jy (pv 1) (a6 b6 (a6 cO (pv 0) (a6 uE af (a6 dI af (a6 uE af (pv 3))))) af) (λ_ _=>rfl))))))
 (aj (aB (pv 2)))))),?_⟩
  try dsimp only[bF]
  refine aN λGq gq=>?_
  have s34:vn.length<=kg:=by rw[P0];decide
  obtain⟨d,hd,hd',aiK⟩:=aiJ (i:=c % 33) (by omega) (by omega)
  refine gq ?_;refine⟨_,rfl,_,rfl,_,_,rfl,rfl,(by show (0:Int) < 33;decide),vn,_,d,rfl,rfl,s34,hd,?_⟩
  refine⟨_,rfl,_,_,rfl,rfl,⟨by decide,by decide⟩,_,_,rfl,rfl,(by show (0:Int) < 3;decide),_,rfl,by omega,by omega,?_⟩
  refine Df (lo:=0) (n:=(c / 33 % 3).toNat) (λi σ H'=>H'=H/\∃x kv,σ=[some (.int c),some (.str vn),some (.str x),kv]/\Wd (1+i) x) ⟨rfl,_,_,rfl,WU hd' aiK⟩ ?_ ?_
  ·rintro i σ H' hi ⟨rfl,x,kv,rfl,wx⟩;refine aN λGq gq=>?_
   obtain⟨d2,hd2,aiL⟩:=aiI (i:=c / (99 * (1+33 * (0+(i:Int)))) % 34) (by omega) (by omega)
   refine gq ?_;refine⟨_,rfl,_,rfl,_,rfl,_,rfl,_,_,rfl,rfl,.inl ⟨by decide,by decide⟩,_,_,rfl,rfl,_,_,rfl,rfl,.inl ⟨by decide,by decide⟩,_,_,rfl,rfl,⟨by omega,by omega⟩,_,_,rfl,rfl,(by show (0:Int) < 34;decide),vn,_,d2,rfl,rfl,s34,hd2,_,_,rfl,rfl,?_,rfl,_,_,rfl,?_⟩
   ·have:=wx.len;rw[show (⟨#[d2]⟩:Str).length=1 from rfl]
    have:i < 3:=by omega
    exact ak3 (by omega:x.length+1<=10) (by decide)
   ·exact WV wx aiL
  ·rintro σ H' ⟨rfl,x,kv,rfl,wx⟩;exact⟨_,rfl,k x (wx.word (by omega))⟩
theorem za (T:Txt w.params K mg A):a8 P w K mg base CX0 2 A.rZ A.k9 ["_law_cell"] vo:=by
 refine T.gN.ok kZ (λvs H Q E h=>?_) (λcdv A' outer s H vs Q E hr h=>?_)
 ·obtain⟨c,rfl,_⟩:=h;rfl
 ·obtain⟨c,rfl,k⟩:=h;refine⟨_,(ai (aY (i:=1) kZ.nd rfl (tm rfl) (bS ag))
 (ai (aY (i:=2) kZ.nd rfl (tm rfl) (a6 dI (a6 b6 (pv 0) af) af))
 (ai (AK PassesOwn.never rfl (xq rfl T.AA (aa (a6 b6 (pv 0) af) ag)) (kL (i:=3) kZ.nd rfl (tm rfl))
 (ai (aY (i:=2) kZ.nd rfl (tm rfl) (a6 b6 (a6 uE (pv 2) af) af))
 (aj (bK (gJ si alk alm dj (pv 1) (aa (aV (yu T) hr rfl T.wg T.sy.kp T.we .nil aW (aa (a6 cO (pv 2) af) ag)) ag))))))
 (aj (aB (gJ amn PySem.F.slot_str_join PySem.F.type_str_join Ew ao (aa (pv 1) ag))))))),?_⟩
  try dsimp only[bF]
  have sz:kg=16777216:=by decide
  refine⟨alX _,λW hW=>?_⟩
  refine⟨_,rfl,_,_,rfl,rfl,(by show (0:Int) < 4294967311;decide),_,_,rfl,rfl,?_⟩
  refine⟨_,rfl,_,_,rfl,rfl,(by show (0:Int) < 4;decide),_,rfl,by omega,by omega,?_⟩
  refine Df (lo:=0) (n:=(c % 4).toNat) (λi σ H2=>∃(ws:List Str) (m:Int) (kv:Option V),σ=[some (.int c),some (.ref W),some (.int m),kv]/\0<=m/\m<=4294967311/\H2 W=some (.lst (ws.map V.str))/\ws.length=i/\(∀w∈ws,R.oE w)/\bw H H2)
   ⟨[],_,_,rfl,by omega,by omega,ae,rfl,(λz hz=>nomatch hz),aG hW⟩ ?_ ?_
  ·rintro i σ H2 hi ⟨ws,m,kv,rfl,m0,m1,h2,hl,hg,s2⟩;refine⟨_,rfl,_,_,rfl,rfl,.inl ⟨by omega,by omega⟩,_,_,rfl,rfl,(by show (0:Int) < 4294967311;decide),?_⟩
   refine⟨_,rfl,.inl ⟨rfl,_,SqL.of h2⟩,_,rfl,_,_,rfl,rfl,⟨by decide,by decide⟩,_,rfl,λx hx=>?_⟩
   refine⟨W,_,_,rfl,rfl,h2,(by rw[bo];omega),?_⟩
   refine⟨ws++[x],_,_,rfl,by omega,by omega,?_,?_,λz h=>?_,s2.own hW⟩
   ·rw[ae,ko];rfl
   ·rw[ma,hl];rfl
   ·rcases List.mem_append.mp h with h | h
    ·exact hg z h
    ·rw[List.mem_singleton.mp h];exact hx
  ·rintro σ H2 ⟨ws,m,kv,rfl,m0,m1,h2,hl,hg,s2⟩;have hs:=R.DX hg;refine⟨rfl,_,rfl,R.bl1,W,ws,rfl,rfl,SqL.of h2,(by rw[R.oB];show _+_ * 1<=_;omega),?_⟩
   exact k ws _ ⟨by omega,hg⟩ s2
theorem D8 (T:Txt w.params K mg A):a8 P w K mg base CX0 1 A.JQ A.xM ["_law_cell","_law_size","_law_thing"] P2:=by
 refine T.wj.ok Dz (λvs H Q E h=>?_) (λcdv A' outer s H vs Q E hr h=>?_)
 ·obtain⟨c,n,z,rfl,_⟩:=h;rfl
 ·obtain⟨c,n,z,rfl,n0,n1,q⟩:=h;refine⟨_,(ai (aY (i:=3) Dz.nd rfl (tm rfl) (a6 oh (a6 b6 (a6 cO (pv 0) af) (a6 dI (pv 1) af)) af))
 (ai (a9 (ay bt (a6 b6 (pv 0) af) af (aJ _))
 (aj (aB (bg (aa ao (aa (pv 3) ag)))))
 aC)
 (aj (aB (bg (aa (aK bx (bS (aa ao (aa ao (aa ao ag)))) (a6 b6 (pv 0) af) (λ_ _=>rfl)) (aa (pv 3) (aa (pv 2) ag)))))))),?_⟩
  try dsimp only[bF]
  refine⟨_,rfl,_,_,rfl,rfl,⟨by decide,by decide⟩,_,rfl,_,_,rfl,rfl,_,_,rfl,rfl,(by show (0:Int) < n+3;omega),_,_,rfl,rfl,?_⟩
  have j0:0<=c / 3 % (n+3):=alH _ (by omega)
  have j1:c / 3 % (n+3) < n+3:=aly _ (by omega)
  dsimp only[dh];obtain⟨j,ej⟩:∃j,c / 3 % (n+3) - 1=j:=⟨_,rfl⟩;rw[ej];refine⟨_,rfl,_,_,rfl,rfl,(by show (0:Int) < 3;decide),rfl,_,rfl,fD (λh=>?_) (λh=>?_)⟩
  ·refine⟨_,rfl,(sl 2),λt ht=>?_⟩
   exact q 1 j t _ (.inr (.inl rfl)) (by omega) (by omega) (aG ht) ht ae
  ·have h':¬c % 3=1:=λe=>h (decide_eq_true (by show V.int (c % 3)=V.int 1;rw[e]))
   refine⟨(sl 3),λp hp=>?_⟩
   refine aN λGq gq=>?_
   have s1:=aG (o:=.lst [V.str (ar "put"),.str (ar ""),.str (ar "turn")]) hp;obtain⟨k,hk3,hk1,hk⟩:∃k:Nat,(k=0\/k=1\/k=2)/\k≠1/\atI [V.str (ar "put"),.str (ar ""),.str (ar "turn")] (c % 3)=some (.str (R.kn k)):=by
    have h3:c % 3=0\/c % 3=2:=by omega
    rcases h3 with e | e
    ·exact⟨0,.inl rfl,by decide,by rw[e];rfl⟩
    ·exact⟨2,.inr (.inr rfl),by decide,by rw[e];rfl⟩
   refine gq ?_;refine⟨_,rfl,_,_,rfl,rfl,(by show (0:Int) < 3;decide),p,_,_,_,rfl,rfl,SqL.of ae,hk,_,rfl,_,rfl,(sl 3),λt ht=>?_⟩
   refine q k j t _ hk3 (by omega) (by omega) (s1.new ht) (same_none s1 ht) ?_
   rw[ae,R.edR,if_neg hk1]
theorem qO (T:Txt w.params K mg A):a8 P w K mg base CX0 1 A.EW A.uR ["_law_clause_here"] R.p7:=by
 refine T.mz.ok JM (λvs H Q E h=>?_) (λcdv A' outer s H vs Q E hr h=>?_)
 ·obtain⟨z,rfl,_⟩:=h;rfl
 ·obtain⟨z,rfl,hz,k⟩:=h;refine⟨_,(ai (a9 (ay bt (pv 0) ao (aJ _))
 (aj (aB (bS ag)))
 aC)
 (aj (aB (gJ amn PySem.F.slot_str_split PySem.F.type_str_split FY (pv 0) (aa ao ag))))),?_⟩
  try dsimp only[bF]
  refine⟨_,rfl,rfl,_,rfl,fD (λe=>?_) (λe=>?_)⟩
  ·have e':z=R.em:=by injection of_decide_eq_true e
   refine⟨alX _,λp hp=>?_⟩
   have:=k p hp;rw[R.bq,if_pos e']at this;exact this
  ·have e':¬z=R.em:=λq=>e (decide_eq_true (by rw[q]))
   refine⟨_,rfl,rfl,z,R.bl1,rfl,rfl,by rw[R.oB];rfl,hz,λp hp=>?_⟩
   have:=k p hp;rw[R.bq,if_neg e']at this;exact this
theorem yw (T:Txt w.params K mg A):a8 P w K mg base CX0 1 A.EX A.tV ["_law_kind"] GQ:=by
 refine T.mQ.ok MY (λvs H Q E h=>?_) (λcdv A' outer s H vs Q E hr h=>?_)
 ·obtain⟨k,_,rfl,_⟩:=h;rfl
 ·obtain⟨k,k8,rfl,q⟩:=h;refine⟨_,(aj (aB (gJ si PySem.F.slot_list_index PySem.F.type_list_index OJ (bS (aa ao (aa ao (aa ao (aa ao (aa ao (aa ao (aa ao (aa ao ag))))))))) (aa (pv 0) ag)))),?_⟩
  try dsimp only[bF]
  obtain⟨h1,h2⟩:=Cj k k8;refine⟨(sl 8),λp hp=>?_⟩
  refine⟨.inl ⟨rfl,_,SqL.of ae⟩,_,rfl,p,ng,nm k,k,rfl,rfl,SqL.of ae,h1,h2,?_⟩;exact q _ (aG hp)
theorem D9 (T:Txt w.params K mg A):a8 P w K mg base CX0 1 A.JR A.xN ["_law_things","_law_edit_here"] (Pw K):=by
 refine T.wk.ok MX (λvs H Q E h=>?_) (λcdv A' outer s H vs Q E hr h=>?_)
 ·obtain⟨a,t,xs,e,rfl,_⟩:=h;rfl
 ·obtain⟨a,t,xs,e,rfl,ha,ht,o,q⟩:=h;refine⟨_,(ai (a9 (ay bt (aK aT (pv 1) af (λ_ _=>rfl)) ao (aJ _))
 (aj (aB (AO uq uq af (aK aT (pv 1) af (λ_ _=>rfl)) (cA cP (by rfl) T.nY jK (aa (pv 0) ag)))))
 aC)
 (aj (aB (AO uq rK af (aK aT (pv 1) af (λ_ _=>rfl)) (cA cP (by rfl) T.nY jK (aa (pv 0) ag)))))),?_⟩
  try dsimp only[bF]
  unfold fS at q;refine ixv rfl ht (oz e) ⟨rfl,_,rfl,fD (λz=>?_) (λz=>?_)⟩
  ·have hk:e.k=0:=(yg o).mp (of_decide_eq_true z);rw[if_pos hk]at q;refine ixv rfl ht (vc e) ⟨_,_,rfl,rfl,_,rfl,fD (λz1=>?_) (λz1=>?_)⟩
   ·have h1:0<=e.at_:=of_decide_eq_true z1;rw[decide_eq_true h1,Bool.true_and]at q;refine⟨_,rfl,a,_,rfl,.inl ha,_,_,rfl,rfl,?_⟩;dsimp only;rw[show decide (e.at_<=(xs.length:Int))=decide (e.at_ < (xs.length:Int)+1) by simp only[decide_eq_decide];omega]
    exact q
   ·have h1:¬0<=e.at_:=λy=>z1 (decide_eq_true y)
    rw[decide_eq_false h1,Bool.false_and]at q;exact q
  ·have hk:¬e.k=0:=λy=>z (decide_eq_true ((yg o).mpr y))
   rw[if_neg hk,Int.add_zero]at q;refine ixv rfl ht (vc e) ⟨_,_,rfl,rfl,_,rfl,fD (λz1=>?_) (λz1=>?_)⟩
   ·have h1:0<=e.at_:=of_decide_eq_true z1;rw[decide_eq_true h1,Bool.true_and]at q;exact⟨_,rfl,a,_,rfl,.inl ha,_,_,rfl,rfl,q⟩
   ·have h1:¬0<=e.at_:=λy=>z1 (decide_eq_true y)
    rw[decide_eq_false h1,Bool.false_and]at q;exact q
end
def P4 (K:ba):Sp:=λvs H Q _=>∃(a t:Addr) (xs:List Str) (e:Ed),vs=[.ref a,.ref t]/\SqL K H a (xs.map V.str)/\xs.length<=1000/\SqT K H t (eG e)/\rp e/\fS xs.length e=true /\
 ∀p H',bw H H'->H p=none->H' p=some (.lst ((bR xs e).map V.str))->Q (.ref p) H'
def Ss:Sp:=λvs H Q _=>vs=[]/\∀m H',(∀(i:Nat) (c:Col) (n:Int),∃c',Step (λ_=>False) c c' H H'/\jD i c' H' m (GL n))->Q (.ref m) H'
def Ms (i:Nat):Sp:=λvs H Q _=>∃(m:Addr) (n:Nat) (c:Col) (st:Ch),vs=[.ref m,nV n]/\jD i c H m st/\dX st n/\∀t,MnT c H (st.mo n) t->Q (.ref t) H
def Su (i:Nat):Sp:=λvs H Q _=>∃(m:Addr) (c:Col) (st:Ch),vs=[.ref m]/\jD i c H m st/\(∀n∈st.au,dX st n)/\∀H',bw H H'->Q (.int (fN st.closed (st.au.map st.mo))) H'
theorem n8 (ns:List Nat):alP (ia ns) (.list [])=ns.isEmpty:=by
 cases ns with
 |nil=>simp[ia,alP,amG]
 |cons n ns=>simp[ia,alP,amG]
theorem Ck:∀ns:List Nat,alA (ns.map λn:Nat=>PyData.int (n:Int))<=1
 |[]=>by simp only[alM,alA];omega
 |n::ns=>by
  have:=Ck ns;simp only[km,alA,alN];omega
theorem n9 (ns:List Nat):amd (ia ns)=true:=by
 have h1:(ia ns).canLay0=true:=by
  unfold ia;simp only[ak6]
  induction ns with
  |nil=>simp only[alM,ald]
  |cons n ns ih=>simp only[km,ald,ak6,ih,al0]
 have h2:(ia ns).depth<=64:=by
  have:=Ck ns;unfold ia;simp only[alN];omega
 show ((ia ns).canLay0 && decide ((ia ns).depth<=64))=true;rw[h1,decide_eq_true h2];rfl
theorem nh:amd (.list [])=true:=by rfl
theorem ni {K:ba}{H:Hp}{p:Addr}(h:SqL K H p []):DV K H (.list []) (.ref p):=by
 unfold DV;exact⟨p,[],rfl,h,by unfold DVs;rfl⟩
theorem oa {st:Ch}{n:Nat}(hn:dX st n):(iO st)[n - 1]?=some (ib st n):=by
 unfold iO;rw[aln,GI hn.1 hn.2];rfl
theorem MnT.kind {c:Col}{H:Hp}{m:Mn}{t:Addr}(h:MnT c H m t):∃v,H t=some (.tup (rowOf m.k v)):=⟨_,h.2.choose_spec.1⟩
theorem WX {v0 v1 v2 v3 v4 v5:V}:xC [] (mdF v0 v1 v2 v3 v4 v5)=mdF v0 v1 v2 v3 v4 v5:=by kernel_rfl
section
variable{P:rf}{w:World}{K:ba}{mg:Str->Option Value}{base:Heap}{A:Adr}
theorem Ea (T:Txt w.params K mg A):a8 P w K mg base CX0 1 A.JS A.xO ["_law_things","_law_edit_here"] (P4 K):=by
 refine T.wm.ok DA (λvs H Q E h=>?_) (λcdv A' outer s H vs Q E hr h=>?_)
 ·obtain⟨a,t,xs,e,rfl,_⟩:=h;rfl
 ·obtain⟨a,t,xs,e,rfl,ha,hl,ht,o,hf,q⟩:=h;refine⟨_,(ai (aY (i:=2) DA.nd rfl (tm rfl) (aK aT (pv 1) af (λ_ _=>rfl)))
 (ai (a9 (ay bt (aK aT (pv 1) af (λ_ _=>rfl)) ao (aJ _))
 (aj (aB (a6 Ao (pf vM (pv 0) vL (qt (pv 2))) (pf vM (pv 0) (qt (a6 dI (pv 2) af)) vL))))
 aC)
 (aj (aB (a6 Ao (a6 Ao (pf vM (pv 0) vL (qt (pv 2))) (bS (aa (aK aT (pv 1) af (λ_ _=>rfl)) ag))) (pf vM (pv 0) (qt (a6 dI (pv 2) (eQ Dg (by rfl) T.Pm Om (aa (gA bt (aK aT (pv 1) af (λ_ _=>rfl)) ao (aJ _)) ag)))) vL)))))),?_⟩
  try dsimp only[bF]
  refine aN λGq gq=>?_
  have sz:kg=16777216:=by decide
  obtain⟨f0,f1⟩:=BU.mp hf;obtain⟨n,hn⟩:∃n:Nat,e.at_=(n:Int):=⟨e.at_.toNat,by omega⟩
  refine gq ?_;refine ixv rfl ht (vc e) ?_;rw[hn];rw[hn]at f1;have en:e.at_.toNat=n:=by rw[hn];rfl
  refine ixv rfl ht (oz e) ⟨rfl,_,rfl,fD (λz=>?_) (λz=>?_)⟩
  ·have hk:e.k=1:=(ve o).mp (of_decide_eq_true z);refine⟨_,rfl,_,rfl,_,rfl,a,_,rfl,ha,λp1 hp1=>?_⟩
   have s1:=aG (o:=.lst (gF (xs.map V.str) none (some (n:Int)))) hp1;refine⟨_,rfl,_,rfl,_,_,rfl,rfl,_,rfl,a,_,rfl,s1.seq ha,λp2 hp2=>?_⟩
   have n12:p1≠p2:=aI ae hp2;have s2:=s1.new (o:=.lst (gF (xs.map V.str) (some ((n:Int)+1)) none)) hp2;have e1:gF (xs.map V.str) none (some (n:Int))=(xs.take n).map V.str:=by rw[PZ,List.map_take]
   have e2:gF (xs.map V.str) (some ((n:Int)+1)) none=(xs.drop (n+1)).map V.str:=by rw[show (n:Int)+1=((n+1:Nat):Int) by omega,AY,List.map_drop]
   refine⟨p1,p2,_,_,rfl,rfl,(av n12).trans ae,ae,?_,λp3 hp3=>?_⟩
   ·have h1:=iQ (xs.map V.str) none (some (n:Int));have h2:=iQ (xs.map V.str) (some ((n:Int)+1)) none;rw[bo]at h1 h2;show (gF (xs.map V.str) none (some (n:Int))).length+(gF (xs.map V.str) (some ((n:Int)+1)) none).length<=_;omega
   ·refine q p3 _ (s2.new hp3) (same_none s2 hp3) ?_;have el:(bR xs e).map V.str=gF (xs.map V.str) none (some (n:Int))++gF (xs.map V.str) (some ((n:Int)+1)) none:=by
     rw[e1,e2,<-ko];unfold bR;rw[hk,en];show (xs.eraseIdx n).map V.str=_;rw[List.eraseIdx_eq_take_drop_succ]
    rw[el];exact ae
  ·have hk:¬e.k=1:=λy=>z (decide_eq_true ((ve o).mpr y))
   refine⟨_,rfl,_,rfl,_,rfl,a,_,rfl,ha,λp1 hp1=>?_⟩
   have s1:=aG (o:=.lst (gF (xs.map V.str) none (some (n:Int)))) hp1;refine ixv rfl (bP s1 ht) (vd hk) ⟨(sl 1),λp2 hp2=>?_⟩
   have n12:p1≠p2:=aI ae hp2;have s2:=s1.new (o:=.lst [V.str e.th]) hp2;have h1:=iQ (xs.map V.str) none (some (n:Int));rw[bo]at h1;refine⟨p1,p2,_,_,rfl,rfl,(av n12).trans ae,ae,by show (gF (xs.map V.str) none (some (n:Int))).length+1<=_;omega,λp3 hp3=>?_⟩
   refine aN λGq gq=>?_
   have s3:=s2.new (o:=.lst (gF (xs.map V.str) none (some (n:Int))++[V.str e.th])) hp3;obtain⟨b,hb,hb2⟩:∃b:Nat,(if decide (V.str (kn e.k)=V.str (ar "turn"))=true then (1:Int) else 0)=(b:Int)/\b=if e.k=2 then 1 else 0:=by
    by_cases h2:e.k=2
    ·exact⟨1,by rw[decide_eq_true ((L3 o).mpr h2)];rfl,by rw[if_pos h2]⟩
    ·exact⟨0,by rw[decide_eq_false (λy=>h2 ((L3 o).mp y))];rfl,by rw[if_neg h2]⟩
   refine gq ?_;refine⟨_,rfl,_,rfl,ixv rfl (bP s3 ht) (oz e) ⟨rfl,.inr ⟨_,rfl,_,_,rfl,rfl,_,rfl,?_⟩⟩⟩;dsimp only;rw[hb,show (n:Int)+(b:Int)=((n+b:Nat):Int) by omega]
   refine⟨a,_,rfl,s3.seq ha,λp4 hp4=>?_⟩
   have n34:p3≠p4:=aI ae hp4;have s4:=s3.new (o:=.lst (gF (xs.map V.str) (some ((n+b:Nat):Int)) none)) hp4;have h2:=iQ (xs.map V.str) (some ((n+b:Nat):Int)) none;rw[bo]at h2;refine⟨p3,p4,_,_,rfl,rfl,(av n34).trans ae,ae,?_,λp5 hp5=>?_⟩
   ·show (gF (xs.map V.str) none (some (n:Int))++[V.str e.th]).length+(gF (xs.map V.str) (some ((n+b:Nat):Int)) none).length<=_;rw[ma,ala];omega
   ·refine q p5 _ (s4.new hp5) (same_none s4 hp5) ?_;have el:(bR xs e).map V.str=gF (xs.map V.str) none (some (n:Int))++[V.str e.th]++gF (xs.map V.str) (some ((n+b:Nat):Int)) none:=by
     rw[PZ,AY,<-List.map_take,<-List.map_drop];unfold bR;rcases o.k3 with h | h | h
     ·rw[h]at hb2 ⊢;rw[hb2,en];simp
     ·exact absurd h hk
     ·rw[h,if_neg (by decide)]at f1
      rw[h]at hb2 ⊢;rw[hb2,en];show (xs.set n e.th).map V.str=_;rw[List.set_eq_take_append_cons_drop,if_pos (by omega)]
      simp
    rw[el];exact ae
theorem nj (T:Txt w.params K mg A){i:Nat}:a8 P w K mg base CX0 1 A.LU A.vY ["_law_m","_law_number"] (Ms i):=by
 refine T.jk.ok OU (λvs H Q E h=>?_) (λcdv A' outer s H vs Q E hr h=>?_)
 ·obtain⟨m,n,c,st,rfl,_⟩:=h;rfl
 ·obtain⟨m,n,c,st,rfl,hm,hn,q⟩:=h;obtain⟨aP,aA,aD,aM,ds,ws,es,X⟩:=hm.ex;have hu1:=hr.u1;refine⟨_,(aj (aB (aK bx (aK bx (bh hu1 (pv 0) ao (λ_ _=>rfl)) (a6 oh (pv 1) af) (λ_ _=>rfl)) af (λ_ _=>rfl)))),?_⟩
  try dsimp only[bF]
  refine aN λGq gq=>?_
  obtain⟨v,ev,p,t1,t2,k,ts,rfl,z1,z2,z3,z4,z5⟩:=X.ent.get (oa hn);have h1:=hn.1;have ea:atI es ((n:Int) - 1)=some (.ref p):=by
   rw[show (n:Int) - 1=((n - 1:Nat):Int) by omega]
   exact cB ev
  refine gq ?_;refine dgv rfl X.gm ⟨_,rfl,_,_,rfl,rfl,aM,_,_,_,rfl,rfl,SqL.of X.l6.2,ea,p,_,_,_,rfl,rfl,SqL.of z1.2,rfl,?_⟩;exact q t1 z2
theorem Cn (T:Txt w.params K mg A){i:Nat}:a8 P w K mg base CX0 2 A.OW A.Bq ["_law_m"] (Su i):=by
 refine T.wo.ok Bn (λvs H Q E h=>?_) (λcdv A' outer s H vs Q E hr h=>?_)
 ·obtain⟨m,c,st,rfl,_⟩:=h;rfl
 ·obtain⟨m,c,st,rfl,hm,hp,q⟩:=h;obtain⟨aP,aA,aD,aM,ds,ws,es,X⟩:=hm.ex;have hu1:=hr.u1;have jr:=hr.units;refine⟨_,(ai (aY (i:=1) Bn.nd rfl (tm rfl) (jE gv af))
 (ai (a9 (ay (uG jr) (bh hu1 (pv 0) ao (λ_ _=>rfl)) (bS ag) (aJ _))
 (aj (aY (i:=1) Bn.nd rfl (tm rfl) (aV (yw T) hr rfl T.pY T.mQ.kp T.pX .nil aW (aa (aK aT (aV (nj (i:=i) T) hr rfl T.kR T.jk.kp T.kQ .nil aW (aa (pv 0) (aa (aK bx (bh hu1 (pv 0) ao (λ_ _=>rfl)) (jE gv af) (λ_ _=>rfl)) ag))) af (λ_ _=>rfl)) ag))))
 aC)
 (ai (a9 (mC (bh hu1 (pv 0) ao (λ_ _=>rfl)))
 (aj (aB (cA (pe rfl) (by rfl) T.DQ AV (aa (pv 1) (aa af ag)))))
 aC)
 (aj (aB (pv 1)))))),?_⟩
  try dsimp only[bF]
  refine⟨_,rfl,?_⟩;dsimp only[dh];refine eN (λσ' H'=>σ'=[some (.ref m),some (.int (qH (st.au.map st.mo)))]/\bw H H') ?r (λN nN=>?f)
  case f =>
   refine dgv rfl X.gp ⟨(sl 0),λp hp0=>?_⟩
   have s1:=aG (o:=.lst []) hp0;refine⟨ia st.au,.list [],jz (SqL.of (s1 _ _ X.au.2)),ni (SqL.of ae),n9 _,nh,_,rfl,?_⟩;rw[n8];rcases ak4 st.au with e | ⟨pre,n,e⟩
   ·rw[e];exact bM (nN _ _ ⟨by rw[e];rfl,s1⟩)
   ·rw[ak5]at e;have X1:=X.same s1;have hn:=hp n (by rw[e];simp)
    have h0:atI (st.au.map nV) (-1)=some (nV n):=by rw[e,ko];exact gH _ _
    refine yO (by rw[e];simp) ?_
    refine⟨_,rfl,_,rfl,m,_,rfl,X1.gp,_,rfl,aP,_,_,_,rfl,rfl,SqL.of X1.au.2,h0,m,n,c,st,rfl,X1.at,hn,λt ht=>?_⟩
    obtain⟨v,hv⟩:=ht.kind;refine⟨t,_,_,_,rfl,rfl,SqT.of hv,dH,(st.mo n).k,(st.mo n).k8,rfl,λH2 s2=>nN _ _ ⟨?_,s1.trans s2⟩⟩
    rw[e,ko,km,alM,mB];rfl
  case r =>
   rintro σ' H1 ⟨rfl,s1⟩;have X1:=X.same s1;refine dgv rfl X1.gc ⟨_,rfl,?_⟩;have q:=q H1 s1;unfold fN at q;cases hcl:st.closed with
   |true =>
    rw[hcl]at q;exact cN ⟨_,rfl,_,_,rfl,q⟩
   |false =>
    rw[hcl]at q;exact bM ⟨_,rfl,q⟩
end
def xcC:Xc->Str×Int
 | .oF b=>(ar "bar",b)
 | .iA=>(ar "no matter",0)
 | .noChange=>(ar "no change",0)
 | .noFit=>(ar "no fit",0)
 | .p8 n=>(ar "not later",n)
 | .nothing=>(ar "nothing",0)
 | .tooMany=>(ar "too many",0)
 | .tZ=>(ar "no aside",0)
 | .Fp n=>(ar "not yet",n)
 | .B5=>(ar "no number",0)
def Sv (i:Nat):Sp:=λvs H Q _=>∃(m t:Addr) (c:Col) (st:Ch) (N:Nat) (d:R.dY),vs=[.ref m,.ref t]/\jD i c H m st/\Inv N st/\N<=800/\wQ d/\qc i c H d t /\
 (ir st (cy d)=none->∀H',bw H H'->Q .non H')/\∀x,ir st (cy d)=some x->∀u H',bw H H'->H u=none->H' u=some (.tup [.str (xcC x).1,.int (xcC x).2])->Q (.ref u) H'
theorem Kh {m:Mn}{r:List Mn}(h:PMs (m::r)):qa (m::r)=decide (m.k=0):=by
 cases hm:qa (m::r) with
 |true =>
  obtain⟨tx,r',e⟩:=h.Kb hm;cases e;rfl
 |false =>
  unfold qa at hm;rw[amF,Bool.or_eq_false_iff]at hm;exact hm.1.symm
theorem P5 {ms:List Mn}(h:PMs ms)(hm:fO ms=true):qa ms=true:=by
 unfold fO at hm;split at hm
 ·rename_i e he;obtain⟨r,e1⟩:=qd he;subst e1;obtain⟨tx,e2,_⟩:=h.pop.2;subst e2;rfl
 ·cases hm
section
variable{P:rf}{w:World}{K:ba}{mg:Str->Option Value}{base:Heap}{A:Adr}
theorem Ki (T:Txt w.params K mg A){i:Nat}:a8 P w K mg base CX0 3 A.EY A.uS ["_law_m","_law_motion_here"] (Sv i):=by
 have FD:a8 P w K mg base CX0 1 A.LU A.vY ["_law_m","_law_number"] (Ms i):=nj T;refine T.xW.ok uL (λvs H Q E h=>?_) (λcdv A' outer s H vs Q E hr h=>?_)
 ·obtain⟨m,t,c,st,N,d,rfl,_⟩:=h;rfl
 ·obtain⟨m,t,c,st,N,d,rfl,hm,I,hN,hd,hdc,q,qx⟩:=h;obtain⟨aP,aA,aD,aM,ds,ws,es,X⟩:=hm.ex;have hu1:=hr.u1;have jr:=hr.units;have Co:Room 1 _:=hr.mono (by decide)
  refine⟨_,(ai (aY (i:=2) uL.nd rfl (tm rfl) (aK aT (pv 1) af (λ_ _=>rfl)))
 (ai (a9 (ay uq (aV (yw T) (hr.mono (by decide)) rfl T.pY T.mQ.kp T.pX .nil aW (aa (pv 2) ag)) (aV (Cn (i:=i) T) hr rfl T.Az T.wo.kp T.Ay .nil aW (aa (pv 0) ag)) (aJ _))
 (aj (aB (bg (aa ao (aa (aV (Cn (i:=i) T) hr rfl T.Az T.wo.kp T.Ay .nil aW (aa (pv 0) ag)) ag)))))
 aC)
 (ai (a9 (ay tN (pv 2) (bg (aa ao (aa ao (aa ao ag)))) rfl)
 (aj (aB xp))
 aC)
 (ai (a9 (PW.pt (pw_or (ay (qv jr) (bh hu1 (pv 0) ao (λ_ _=>rfl)) (bS ag) (aJ _)) (pw_or1 (ay AM (aK aT (aV FD Co rfl T.kR T.jk.kp T.kQ .nil aW (aa (pv 0) (aa (aK bx (bh hu1 (pv 0) ao (λ_ _=>rfl)) af (λ_ _=>rfl)) ag))) af (λ_ _=>rfl)) ao (aJ _)))))
 (aj (aB (bg (aa ao (aa af ag)))))
 aC)
 (ai (aY (i:=3) uL.nd rfl (tm rfl) (aV FD Co rfl T.kR T.jk.kp T.kQ .nil aW (aa (pv 0) (aa (aK bx (bh hu1 (pv 0) ao (λ_ _=>rfl)) (jE gv af) (λ_ _=>rfl)) ag))))
 (ai (a9 (PW.pt (pw_and (ay bt (pv 2) ao (aJ _)) (pw_and1 (PW.pt (pw_or (ay AM (aK aT (pv 3) af (λ_ _=>rfl)) ao (aJ _)) (pw_or1 (ay bt (aK aT (aK aT (pv 3) af (λ_ _=>rfl)) af (λ_ _=>rfl)) ao (aJ _))))))))
 (aj (aB (bg (aa ao (aa af ag)))))
 aC)
 (ai (a9 (PW.pt (pw_and (ay bt (pv 2) ao (aJ _)) (pw_and1 (rH (mC (aV (D9 T) (hr.mono (by decide)) rfl T.By T.wk.kp T.Bx .nil aW (aa (aV (qO T) (hr.mono (by decide)) rfl T.pW T.mz.kp T.pV .nil aW (aa (aK aT (aK aT (pv 3) af (λ_ _=>rfl)) af (λ_ _=>rfl)) ag)) (aa (aK aT (pv 1) af (λ_ _=>rfl)) ag))))))))
 (aj (aB (bg (aa ao (aa af ag)))))
 aC)
 (ai (a9 (PW.pt (pw_and (ay bt (pv 2) ao (aJ _)) (pw_and1 (rH (mC (aV (D9 T) (hr.mono (by decide)) rfl T.By T.wk.kp T.Bx .nil aW (aa (aK aT (aV FD Co rfl T.kR T.jk.kp T.kQ .nil aW (aa (pv 0) (aa (aK bx (bh hu1 (pv 0) ao (λ_ _=>rfl)) af (λ_ _=>rfl)) ag))) af (λ_ _=>rfl)) (aa (aK aT (pv 1) af (λ_ _=>rfl)) ag))))))))
 (aj (aB (bg (aa ao (aa af ag)))))
 aC)
 (ai (a9 (PW.pt (pw_and (ay bt (pv 2) ao (aJ _)) (pw_and1 (ay uq (aK aT (pv 1) af (λ_ _=>rfl)) (bh hu1 (pv 0) ao (λ_ _=>rfl)) (aJ _)))))
 (aj (aB (bg (aa ao (aa (bh hu1 (pv 0) ao (λ_ _=>rfl)) ag)))))
 aC)
 (aj (aB xp))))))))))),?_⟩
  try dsimp only[bF]
  refine aN λGq gq=>?_
  obtain⟨v,ht,hv0,hv1⟩:=sS hd hdc;have hmk:=Kf (N:=N) hd;refine gq ?_;generalize cy d=mn at ht hv0 hv1 hmk q qx;refine ixv rfl (SqT.of ht.2) dH ?_;refine⟨_,rfl,mn.k,mn.k8,rfl,λH1 s1=>?_⟩
  refine⟨_,rfl,m,c,st,rfl,(X.same s1).at,I.bL,λH2 s2=>?_⟩
  have s12:=s1.trans s2;refine⟨_,_,rfl,rfl,_,rfl,fD (λz=>?_) (λz=>?_)⟩
  ·have z':(mn.k:Int)<=fN st.closed (st.au.map st.mo):=of_decide_eq_true z;refine⟨_,rfl,m,c,st,rfl,(X.same s12).at,I.bL,λH3 s3=>⟨(sl 2),λu hu=>?_⟩⟩
   refine qx (.oF (fN st.closed (st.au.map st.mo))) (by unfold ir fU;rw[if_pos z']) u _ ((s12.trans s3).new hu) (same_none (s12.trans s3) hu) ae
  have z':¬(mn.k:Int)<=fN st.closed (st.au.map st.mo):=λy=>z (decide_eq_true y)
  refine⟨_,rfl,(sl 3),λt3 ht3=>?_⟩
  have s3:=s12.new (o:=.tup [V.str (ar "matter"),V.str (ar "rest"),V.str (ar "point")]) ht3;refine⟨t3,_,rfl,.inr (SqT.of ae),rfl,rfl,_,rfl,?_⟩;have ein:(if false=true then !inV (V.str (nm mn.k)) [V.str (ar "matter"),V.str (ar "rest"),V.str (ar "point")] else inV (V.str (nm mn.k)) [V.str (ar "matter"),V.str (ar "rest"),V.str (ar "point")])=decide (mn.k=0\/mn.k=6\/mn.k=7):=by
   have:∀k,k < 8->inV (V.str (nm k)) [V.str (ar "matter"),V.str (ar "rest"),V.str (ar "point")]=decide (k=0\/k=6\/k=7):=by trivial
   exact this _ mn.k8
  rw[ein];generalize upd H2 t3 (.tup [V.str (ar "matter"),V.str (ar "rest"),V.str (ar "point")])=H3 at s3 ⊢;clear ht3 ein s12 s2 s1 z
  by_cases Nb:mn.k=0\/mn.k=6\/mn.k=7
  ·refine yO (decide_eq_true Nb) (q ?_ H3 s3);have hn:lS (st.au.map st.mo) mn.k=true:=by
    unfold lS;rw[if_neg (by omega),if_neg (by omega)]
   unfold ir fU;rw[if_neg z',if_pos hn];cases mn <;> first | rfl | (simp[Mn.k]at Nb)
  refine yP (decide_eq_false Nb) ?_;have X3:=X.same s3;refine dgv rfl X3.gp ⟨(sl 0),λp4 hp4=>?_⟩
  have s4:=s3.new (o:=.lst []) hp4;have X4:=X.same s4;refine⟨ia st.au,.list [],jz (SqL.of X4.au.2),ni (SqL.of ae),n9 _,nh,_,rfl,?_⟩;rw[n8];generalize upd H3 p4 (.lst [])=H4 at s4 X4 ⊢;clear hp4 X3 s3;have ht4:SqT K H4 t (rowOf mn.k v):=SqT.of (s4 _ _ ht.2);have nomat:qa (st.au.map st.mo)=false->ir st mn=some .iA:=λhh=>by
   have hn:lS (st.au.map st.mo) mn.k=false:=by
    unfold lS
    by_cases h2:mn.k=2
    ·rw[if_pos h2];cases hmm:fO (st.au.map st.mo) with
     |false=>rfl
     |true=>rw[P5 I.pil hmm]at hh;cases hh
    ·have:=mn.k8;rw[if_neg h2,if_pos (by omega),hh]
   unfold ir fU;rw[if_neg z',if_neg (by rw[hn];decide),if_neg (by rw[hh];decide)]
  have say:∀(x:Xc) (z:Str),ir st mn=some x->(xcC x).1=z->(xcC x).2=0->∀(Hn:Hp),bw H Hn->∀u,Hn u=none->Q (.ref u) (upd Hn u (.tup [.str z,.int 0])):=λx z hx hz h0 Hn sn u hu=>by
   subst hz;have:=qx x hx u _ (sn.new hu) (same_none sn hu) (ae (o:=.tup [.str (xcC x).1,.int (xcC x).2]));rw[h0]at this;exact this
  cases Cp:st.au with
  |nil =>
   refine cN (cN ⟨(sl 2),λu hu=>?_⟩)
   exact say .iA _ (nomat (by rw[Cp];rfl)) rfl rfl H4 s4 u hu
  |cons b r =>
   refine bM ?_;have hb:dX st b:=I.bL b (by rw[Cp];exact gr)
   have h0:atI (st.au.map nV) 0=some (nV b):=by rw[Cp];exact cB (j:=0) rfl
   refine⟨_,rfl,dgv rfl X4.gp ⟨aP,_,_,_,rfl,rfl,SqL.of X4.au.2,h0,m,b,c,st,rfl,X4.at,hb,λtb htb=>?_⟩⟩
   obtain⟨vb,hvb⟩:=htb.kind;have hbm:qa (st.au.map st.mo)=decide ((st.mo b).k=0):=by
    have hp:=I.pil;rw[Cp,km]at hp ⊢;exact Kh hp
   refine⟨tb,_,_,_,rfl,rfl,SqT.of hvb,dH,rfl,_,rfl,?_⟩;rw[vj _ (st.mo b).k8]
   by_cases hk0:(st.mo b).k=0
   case neg =>
    rw[decide_eq_false hk0]at hbm ⊢;refine cN ⟨(sl 2),λu hu=>?_⟩
    exact say .iA _ (nomat hbm) rfl rfl H4 s4 u hu
   rw[decide_eq_true hk0]at hbm ⊢;refine bM ?_;refine aN λGq gq=>?_
   obtain⟨tx,etx⟩:∃tx,st.mo b=.mat tx:=by
    cases hmo:st.mo b with
    |mat tx=>exact⟨tx,rfl⟩
    |_=>rw[hmo]at hk0;simp[Mn.k]at hk0
   obtain⟨pre,n,P6⟩:∃pre n,st.au=pre++[n]:=by
    rcases ak4 st.au with e | ⟨pre,n,e⟩
    ·rw[e]at Cp;cases Cp
    ·exact⟨pre,n,by rw[e,ak5]⟩
   have hn:dX st n:=I.bL n (by rw[P6];simp)
   have GR:atI (st.au.map nV) (-1)=some (nV n):=by rw[P6,ko];exact gH _ _
   have etop:(st.au.map st.mo).getLast?=some (st.mo n):=by rw[P6,ko];exact alK
   have aiM:∃r',st.au.map st.mo=.mat tx::r':=⟨r.map st.mo,by rw[Cp,km,etx]⟩
   refine gq ?_;refine⟨_,rfl,_,rfl,m,_,rfl,X4.gp,_,rfl,aP,_,_,_,rfl,rfl,SqL.of X4.au.2,GR,m,n,c,st,rfl,X4.at,hn,λtt htt=>?_⟩
   refine aN λGq gq=>?_
   obtain⟨_,vt,hvt,hvv⟩:=htt;have okn:lS (st.au.map st.mo) mn.k=true->ir st mn=iq st mn:=λhh=>by
    unfold ir fU;rw[if_neg z',if_pos hh]
   refine gq ?_;cases mn with
   |mat _=>exact absurd (.inl rfl) Nb
   |rst=>exact absurd (.inr (.inl rfl)) Nb
   |pnt _=>exact absurd (.inr (.inr rfl)) Nb
   |cls =>
    have hx:ir st .cls=none:=okn (by show qa _=true;exact hbm)
    exact⟨_,rfl,rfl,tsf (ck 4 (by decide)) (bM ⟨_,rfl,rfl,tsf (ck 4 (by decide)) (bM ⟨_,rfl,rfl,tsf (b7 4 (by decide)) (bM ⟨_,rfl,rfl,tsf (gy 4 (by decide)) (bM (q hx H4 s4))⟩)⟩)⟩)⟩
   |lay =>
    have hx:ir st .lay=none:=okn (by show qa _=true;exact hbm)
    exact⟨_,rfl,rfl,tsf (ck 5 (by decide)) (bM ⟨_,rfl,rfl,tsf (ck 5 (by decide)) (bM ⟨_,rfl,rfl,tsf (b7 5 (by decide)) (bM ⟨_,rfl,rfl,tsf (gy 5 (by decide)) (bM (q hx H4 s4))⟩)⟩)⟩)⟩
   |off u =>
    have hx:ir st (.off u)=iq st (.off u):=okn (by show qa _=true;exact hbm)
    have hv':v=.int u:=hv1 (by simp[Mn.k])
    subst hv';refine⟨_,rfl,rfl,tsf (ck 3 (by decide)) (bM ⟨_,rfl,rfl,tsf (ck 3 (by decide)) (bM ⟨_,rfl,rfl,tsf (b7 3 (by decide)) (bM ⟨_,rfl,rfl,tst (gy 3 (by decide)) ?_⟩)⟩)⟩)⟩
    refine ixv rfl ht4 rfl (dgv rfl X4.gs ⟨_,_,rfl,rfl,_,rfl,fD (λy=>?_) (λy=>?_)⟩)
    ·have y':u<=st.aU:=of_decide_eq_true y;refine dgv rfl X4.gs ⟨(sl 2),λu2 hu=>?_⟩
     exact qx (.p8 st.aU) (by rw[hx];unfold iq;dsimp only;rw[if_pos y']) u2 _ (s4.new hu) (same_none s4 hu) ae
    ·have y':¬u<=st.aU:=λz=>y (decide_eq_true z)
     exact q (by rw[hx];unfold iq;dsimp only;rw[if_neg y']) H4 s4
   |chg e =>
    refine aN λGq gq=>?_
    have hx:ir st (.chg e)=iq st (.chg e):=okn (by show qa _=true;exact hbm)
    obtain⟨te,rfl,hte⟩:=hv1 (by simp[Mn.k])
    obtain⟨r',er'⟩:=aiM;refine gq ?_;refine⟨_,rfl,rfl,tsf (ck 1 (by decide)) (bM ⟨_,rfl,rfl,tsf (ck 1 (by decide)) (bM ⟨_,rfl,rfl,tst (b7 1 (by decide)) ?_⟩)⟩)⟩
    refine⟨_,rfl,dgv rfl X4.gp ⟨aP,_,_,_,rfl,rfl,SqL.of X4.au.2,h0,m,b,c,st,rfl,X4.at,hb,λtb2 abC=>?_⟩⟩
    refine aN λGq gq=>?_
    rw[etx]at abC;obtain⟨_,v2,hv2,L,rfl,hL⟩:=abC;refine gq ?_;refine⟨tb2,_,_,_,rfl,rfl,SqT.of hv2,rfl,ixv rfl ht4 rfl ⟨L,te,_,e,rfl,SqL.of hL.2,bP s4 hte.sq,hmk.ed1 hN,_,rfl,?_⟩⟩;rw[bo];cases hf:fS tx.length e with
    |true=>exact bM ⟨_,rfl,rfl,tsf (gy 1 (by decide)) (bM (q (by rw[hx];unfold iq;dsimp only;rw[er'];dsimp only;rw[if_pos hf]) H4 s4))⟩
    |false =>
     refine cN ⟨(sl 2),λu hu=>?_⟩
     exact say .noFit _ (by rw[hx];unfold iq;dsimp only;rw[er'];dsimp only;rw[if_neg (by rw[hf];decide)]) rfl rfl H4 s4 u hu
   |mnd f =>
    refine aN λGq gq=>?_
    obtain⟨te,rfl,hte⟩:=hv1 (by simp[Mn.k])
    refine gq ?_;refine⟨_,rfl,rfl,tst (ck 2 (by decide)) (ixv rfl (SqT.of hvt) dH ⟨rfl,_,rfl,?_⟩)⟩
    rw[b7 _ (st.mo n).k8];have GS:fO (st.au.map st.mo)=false->ir st (.mnd f)=some .noChange:=λhh=>by
     have hn:lS (st.au.map st.mo) (Mn.mnd f).k=false:=(show fO (st.au.map st.mo)=false from hh)
     unfold ir fU;rw[if_neg z',if_neg (by rw[hn];decide),if_pos (by rw[hbm])]
    by_cases h1:(st.mo n).k=1
    case neg =>
     rw[decide_eq_false h1];refine cN (cN ⟨(sl 2),λu hu=>?_⟩)
     refine say .noChange _ (GS ?_) rfl rfl H4 s4 u hu;unfold fO;rw[etop];cases hmo:st.mo n with
     |chg e=>rw[hmo]at h1;exact absurd rfl h1
     |_=>rfl
    rw[decide_eq_true h1];refine aN λGq gq=>?_
    obtain⟨e,emo⟩:∃e,st.mo n=.chg e:=by
     cases hmo:st.mo n with
     |chg e=>exact⟨e,rfl⟩
     |_=>rw[hmo]at h1;simp[Mn.k]at h1
    rw[emo]at hvt hvv etop;obtain⟨tc,rfl,htc⟩:=hvv;refine gq ?_;refine bM (ixv rfl (SqT.of hvt) rfl ⟨tc,_,_,_,rfl,rfl,htc.sq,oz e,rfl,_,rfl,?_⟩);rw[AD]
    by_cases hk1:e.k=1
    ·rw[decide_eq_true hk1];refine cN ⟨(sl 2),λu hu=>?_⟩
     refine say .noChange _ (GS ?_) rfl rfl H4 s4 u hu;unfold fO;rw[etop];dsimp only;rw[decide_eq_true hk1];rfl
    ·rw[decide_eq_false hk1];have hmo:fO (st.au.map st.mo)=true:=by
      unfold fO;rw[etop];dsimp only;rw[decide_eq_false hk1];rfl
     have hx:ir st (.mnd f)=iq st (.mnd f):=okn (show fO (st.au.map st.mo)=true from hmo)
     have hem:EdB (12+N) e:=by
      have:=I.ue hn;rw[emo]at this;exact this
     have heo:rp e:=hem.ok (by omega)
     refine bM ⟨_,rfl,rfl,tst (ck 2 (by decide)) (ixv rfl (SqT.of hvt) rfl ⟨tc,_,_,_,rfl,rfl,htc.sq,vd hk1,e.th,rfl,?_,λp1 hp1=>?_⟩)⟩
     ·have:=heo.th.len;have lim:kg=16777216:=by decide
      omega
     have s5:=s4.new (o:=.lst ((R.bq e.th).map V.str)) hp1;have s45:=aG (o:=.lst ((R.bq e.th).map V.str)) hp1;refine ixv rfl (bP s45 ht4) rfl ⟨p1,te,_,f,rfl,SqL.of ae,bP s5 hte.sq,hmk.ed2,_,rfl,?_⟩;rw[bo];cases hf:fS (R.bq e.th).length f with
     |true=>exact bM ⟨_,rfl,rfl,tsf (b7 2 (by decide)) (bM ⟨_,rfl,rfl,tsf (gy 2 (by decide)) (bM (q (by rw[hx];unfold iq;dsimp only;rw[etop];dsimp only;rw[if_pos hf]) _ s5))⟩)⟩
     |false =>
      refine cN ⟨(sl 2),λu hu=>?_⟩
      exact say .noFit _ (by rw[hx];unfold iq;dsimp only;rw[etop];dsimp only;rw[if_neg (by rw[hf];decide)]) rfl rfl _ s5 u hu
end
theorem bG.P7 {α β:Type}{R R':α->β->Prop}:∀ {as:List α} {bs:List β} {j:Nat} {a':α} {b:β},bG R as bs->bs[j]?=some b->(∀k a b',k≠j->as[k]?=some a->R a b'->R' a b')->R' a' b->bG R' (as.set j a') bs
 |_,_,_,_,_,.nil,h,_,_=>by simp at h
 |a::as,b0::bs,0,a',b,.cons h t,hb,hk,hn=>by
  rw[alq]at hb;cases hb;refine .cons hn ?_;have:∀ {as:List α} {bs:List β} (s:Nat),(∀(k:Nat) a b',as[k]?=some a->R a b'->R' a b')->bG R as bs->bG R' as bs:=by
   intro as bs s f z
   induction z with
   |nil=>exact .nil
   |cons h1 t1 ih=>exact .cons (f 0 _ _ alq h1) (ih λk a b' e=>f (k+1) a b' (by rw[alx];exact e))
  exact this 0 (λk x y e=>hk (k+1) x y (by omega) (by rw[alx];exact e)) t
 |a::as,b0::bs,j+1,a',b,.cons h t,hb,hk,hn=>by
  rw[alx]at hb;exact .cons (hk 0 _ _ (by omega) alq h) (t.P7 hb (λk x y ne e=>hk (k+1) x y (by omega) (by rw[alx];exact e)) hn)
theorem qg (st:Ch):(iO st).length=st.made.length:=by unfold iO;rw[bo,al5]
theorem GU {st:Ch}{j:Nat}{x:Ent}(h:(iO st)[j]?=some x):x=ib st (j+1)/\j < st.made.length:=by
 have hj:j < st.made.length:=by rw[<-qg];exact(List.getElem?_eq_some_iff.mp h).1
 have e:=oa (st:=st) (n:=j+1) ⟨by omega,by omega⟩
 rw[Nat.add_sub_cancel]at e;rw[e]at h;exact⟨(ak9 h).symm,hj⟩
theorem GV {st st':Ch}{n:Nat}(hl:st'.made.length=st.made.length)(hn:dX st n)(h:∀k,dX st k->k≠n->ib st' k=ib st k):iO st'=(iO st).set (n - 1) (ib st' n):=by
 refine List.ext_getElem? λj=>?_
 have h1:=hn.1;have h2:=hn.2
 by_cases hj:j < st.made.length
 ·have e:=oa (st:=st') (n:=j+1) ⟨by omega,by omega⟩
  rw[Nat.add_sub_cancel]at e;rw[e]
  by_cases z:j=n - 1
  ·subst z;rw[amm (by rw[qg];omega),show n - 1+1=n by omega]
  ·rw[amv (λy=>z y.symm)]
   have e2:=oa (st:=st) (n:=j+1) ⟨by omega,by omega⟩
   rw[Nat.add_sub_cancel]at e2;rw[e2,h (j+1) ⟨by omega,by omega⟩ (by omega)]
 ·rw[List.getElem?_eq_none (by rw[qg];omega),List.getElem?_eq_none (by rw[alZ,qg];omega)]
theorem P8 {st st':Ch}(hl:st'.made.length=st.made.length+1)(h:∀k,dX st k->ib st' k=ib st k):iO st'=iO st++[ib st' (st.made.length+1)]:=by
 unfold iO;rw[hl,List.range'_concat,ko,Nat.one_mul,Nat.add_comm 1]
 congr 1
 refine aml λk hk=>?_
 rw[amh]at hk;exact h k ⟨hk.1,by omega⟩
theorem Cq {n k:Nat}{e:Ed}:∀ {xs:List (Nat×List Ed)},at1 k (rq n e xs)=(at1 k xs).map λx=>if x.1=n then (x.1,x.2++[e]) else x
 |[]=>rfl
 |y::xs=>by
  have ih:=Cq (n:=n) (k:=k) (e:=e) (xs:=xs);unfold at1 rq at ih ⊢;rw[km,alO,alO];have ek:(if y.1=n then (y.1,y.2++[e]) else y).1=y.1:=by split <;> rfl
  rw[ek]
  by_cases z:y.1=k
  ·rw[decide_eq_true z];rfl
  ·rw[decide_eq_false z];exact ih
theorem P9 {st:Ch}{n:Nat}{e:Ed}{x:Nat×List Ed}(h:at1 n st.kept=some x):gz { st with kept:=rq n e st.kept } n=gz st n++[e]:=by
 unfold gz;show ((at1 n (rq n e st.kept)).map (·.2)).getD []=_
 rw[Cq,h];have:=(jy h).1;show (if x.1=n then (x.1,x.2++[e]) else x).2=x.2++[e]
 rw[if_pos this]
theorem GW {st:Ch}{n k:Nat}{e:Ed}(ne:k≠n):gz { st with kept:=rq n e st.kept } k=gz st k:=by
 unfold gz;show ((at1 k (rq n e st.kept)).map (·.2)).getD []=_
 rw[Cq];cases h:at1 k st.kept with
 |none=>rfl
 |some x =>
  have:=(jy h).1;show (if x.1=n then (x.1,x.2++[e]) else x).2=x.2
  rw[if_neg (by rw[this];exact ne)]
def WY (n:Nat):Rl->Bool | .dD m=>decide (m=n) | _=>false
section
variable{i:Nat}{c c':Col}{H H':Hp}{m aP aA aD aM:Addr}{st:Ch}{ds:List Addr}{ws es:List V}
theorem MdX.Qa (X:MdX i c H m st aP aA aD aM ds ws es){n:Nat}(hn:dX st n){mn:Mn}{p t1 t2 k t':Addr}(he:es[n - 1]?=some (.ref p))(hp:LstAt i c H (.dD n) p [.ref t1,.ref t2,.ref k])(ht:MnT c H mn t') :
  Step (Wr i (WY n)) c c H (upd H p (.lst [.ref t',.ref t2,.ref k]))/\MdX i c (upd H p (.lst [.ref t',.ref t2,.ref k])) m { st with made:=st.made.set (n - 1) mn } aP aA aD aM ds ws es:=by
 have s:Step (Wr i (WY n)) c c H (upd H p (.lst [.ref t',.ref t2,.ref k])):=Step.upd Wr.nn (Wr.yes hp.1 (decide_eq_true rfl));have kk:=mY rfl s X.co X.ob;have ee:iO { st with made:=st.made.set (n - 1) mn }=(iO st).set (n - 1) (ib { st with made:=st.made.set (n - 1) mn } n) :=
  GV (by show (st.made.set (n - 1) mn).length=_;rw[alZ]) hn λk hk ne=>by
   unfold ib;rw[t5 hn hk.1 ne rfl];rfl
 refine⟨s,kk.1,kk.2,X.au.kp rfl s,X.aH.kp rfl s,lq (λ_ _=>rfl) s X.wait,X.dec.kp rfl s,jw s X.m5,X.l6.kp rfl s,?_⟩
 rw[ee];refine X.ent.P7 he (λj x b ne ex z=>?_) ?_
 ·obtain⟨e1,hj⟩:=GU ex;have hx:x.1≠n:=by rw[e1];show j+1≠n;omega
  obtain⟨q,t1,t2,k,ts,e,z1,z2,z3,z4,z5⟩:=z;exact⟨q,t1,t2,k,ts,e,z1.kp (decide_eq_false hx) s,z2.step s,λtx ht=>(z3 tx ht).step s,z4.kp rfl s,z5.imp λ_ _ y=>y.step s⟩
 ·obtain⟨v,ev,q,t1',t2',k',ts,e,z1,z2,z3,z4,z5⟩:=X.ent.get (oa hn);rw[he]at ev;cases ev;cases e;have hh:=z1.2;rw[hp.2]at hh;injection hh with hh
  injection hh with hh
  injection hh with h1 hh
  injection hh with h2 hh
  injection hh with h3 hh
  injection h2 with h2
  injection h3 with h3
  subst h2;subst h3;refine⟨p,t',t2,k,ts,rfl,⟨hp.1,ae⟩,?_,λtx ht=>(z3 tx ht).step s,z4.kp rfl s,z5.imp λ_ _ y=>y.step s⟩
  have:(ib { st with made:=st.made.set (n - 1) mn } n).2.1=mn:=Fv hn rfl
  rw[this];exact ht.step s
theorem MdX.Ft (X:MdX i c H m st aP aA aD aM ds ws es){n:Nat}(hn:dX st n){e:Ed}{x:Nat×List Ed}(hx:at1 n st.kept=some x){p t1 t2 k t:Addr}{ts:List Addr}(he:es[n - 1]?=some (.ref p))(hp:LstAt i c H (.dD n) p [.ref t1,.ref t2,.ref k])(hk:LstAt i c H (.gZ n) k (ts.map V.ref))(ht:TupAt c H t (eG e)) :
  Step (Wr i (Mi n)) c c H (upd H k (.lst (ts.map V.ref++[.ref t])))/\MdX i c (upd H k (.lst (ts.map V.ref++[.ref t]))) m { st with kept:=rq n e st.kept } aP aA aD aM ds ws es:=by
 have s:Step (Wr i (Mi n)) c c H (upd H k (.lst (ts.map V.ref++[.ref t]))):=Step.upd Wr.nn (Wr.yes hk.1 (decide_eq_true rfl));have kk:=mY rfl s X.co X.ob;have ee:iO { st with kept:=rq n e st.kept }=(iO st).set (n - 1) (ib { st with kept:=rq n e st.kept } n) :=
  GV rfl hn λj hj ne=>by
   unfold ib;rw[GW ne];rfl
 refine⟨s,kk.1,kk.2,X.au.kp rfl s,X.aH.kp rfl s,lq (λ_ _=>rfl) s X.wait,X.dec.kp rfl s,jw s X.m5,X.l6.kp rfl s,?_⟩
 rw[ee];refine X.ent.P7 he (λj x b ne ex z=>?_) ?_
 ·obtain⟨e1,hj⟩:=GU ex;have hx:x.1≠n:=by rw[e1];show j+1≠n;omega
  obtain⟨q,t1,t2,k,ts,e,z1,z2,z3,z4,z5⟩:=z;exact⟨q,t1,t2,k,ts,e,z1.kp rfl s,z2.step s,λtx ht=>(z3 tx ht).step s,z4.kp (decide_eq_false hx) s,z5.imp λ_ _ y=>y.step s⟩
 ·obtain⟨v,ev,q,t1',t2',k',ts',e,z1,z2,z3,z4,z5⟩:=X.ent.get (oa hn);rw[he]at ev;cases ev;cases e;have hh:=z1.2;rw[hp.2]at hh;injection hh with hh
  injection hh with hh
  injection hh with h1 hh
  injection hh with h2 hh
  injection hh with h3 hh
  injection h1 with h1
  injection h2 with h2
  injection h3 with h3
  subst h1;subst h2;subst h3;have e3:ts'.map V.ref=ts.map V.ref:=by
   have:=z4.2;rw[hk.2]at this;injection this with this
   injection this with this
   exact this.symm
  refine⟨p,t1,t2,k,ts'++[t],rfl,z1.kp rfl s,z2.step s,λtx ht=>(z3 tx ht).step s,⟨z4.1,by rw[ae,<-e3,ko];rfl⟩,?_⟩
  show bG _ (gz { st with kept:=rq n e st.kept } n) (ts'++[t])
  rw[P9 hx];exact(z5.imp λ_ _ y=>y.step s).snoc (ht.step s)
theorem MdX.nI (X:MdX i c H m st aP aA aD aM ds ws es){n:Nat}{u:Int}{t p:Addr}(ht:H t=none)(hp:H p=none)(ntp:p≠t)(hn:n∉st.aH.map (·.1)) :
  ∃c',Step (Wr i Sd) c c' H (upd (upd (upd (upd H t (.tup [.int u,.ref aP])) aA (.dK (putK (bf ((st.aH.map (·.1)).zip ws)) (ku (n:Int)) (.ref t)))) p (.lst [])) m (.dK (mdF (.int st.aU) (.bl st.closed) (.ref p) (.ref aA) (.ref aD) (.ref aM)))) /\
  MdX i c' (upd (upd (upd (upd H t (.tup [.int u,.ref aP])) aA (.dK (putK (bf ((st.aH.map (·.1)).zip ws)) (ku (n:Int)) (.ref t)))) p (.lst [])) m (.dK (mdF (.int st.aU) (.bl st.closed) (.ref p) (.ref aA) (.ref aD) (.ref aM)))) m (st.nI n u) p aA aD aM ds (ws++[.ref t]) es:=by
 have nt:∀ {a:Addr} {v:HO},H a=some v->a≠t:=λe=>aI e ht
 have np:∀ {a:Addr} {v:HO},H a=some v->a≠p:=λe=>aI e hp
 have oA:m≠aA:=eh X.co X.aH.1 (λz=>nomatch z)
 have oP:m≠aP:=eh X.co X.au.1 (λz=>nomatch z)
 have AP:aA≠aP:=eh X.aH.1 X.au.1 (λz=>nomatch z)
 have e:=qb (v:=.ref t) hn (vs:=ws) (by rw[bo];exact X.wait.len)
 have hp2:(upd (upd H t (.tup [.int u,.ref aP])) aA (.dK (putK (bf ((st.aH.map (·.1)).zip ws)) (ku (n:Int)) (.ref t)))) p=none:=by
  rw[av (np X.aH.2).symm,av ntp];exact hp
 have x1:az (az c t none) p (some (i,.au)) m=some (i,.ob):=by rw[aw (np X.ob),aw (nt X.ob)];exact X.co
 have x2:az (az c t none) p (some (i,.au)) aP=some (i,.au):=by rw[aw (np X.au.2),aw (nt X.au.2)];exact X.au.1
 have x3:az c t none aA=some (i,.aH):=by rw[aw (nt X.aH.2)];exact X.aH.1
 refine⟨az (az (az c t none) p (some (i,.au))) aP (some (i,.fj n)),?_⟩;have s:Step (Wr i Sd) c (az (az (az c t none) p (some (i,.au))) aP (some (i,.fj n))) H (upd (upd (upd (upd H t (.tup [.int u,.ref aP])) aA (.dK (putK (bf ((st.aH.map (·.1)).zip ws)) (ku (n:Int)) (.ref t)))) p (.lst [])) m (.dK (mdF (.int st.aU) (.bl st.closed) (.ref p) (.ref aA) (.ref aD) (.ref aM)))) :=
  ((((Step.new Wr.nn ht).trans (Step.upd Wr.nn ⟨.aH,x3,rfl⟩)).trans (Step.new Wr.nn hp2)).trans (Step.upd Wr.nn ⟨.ob,x1,rfl⟩)).trans (Step.role Wr.nn ⟨.au,x2,rfl⟩)
 have k1:az (az (az c t none) p (some (i,.au))) aP (some (i,.fj n)) m=some (i,.ob):=by rw[aw oP];exact x1
 have y1:az (az (az c t none) p (some (i,.au))) aP (some (i,.fj n)) aA=some (i,.aH):=by rw[aw AP,aw (np X.aH.2)];exact x3
 have y2:az (az (az c t none) p (some (i,.au))) aP (some (i,.fj n)) aP=some (i,.fj n):=aX;have y3:az (az (az c t none) p (some (i,.au))) aP (some (i,.fj n)) p=some (i,.au):=by rw[aw (np X.au.2).symm,aX]
 have y4:az (az (az c t none) p (some (i,.au))) aP (some (i,.fj n)) t=none:=by rw[aw (nt X.au.2).symm,aw ntp.symm,aX]
 generalize az (az (az c t none) p (some (i,.au))) aP (some (i,.fj n))=c3 at s k1 y1 y2 y3 y4 ⊢;have z1:(upd (upd (upd (upd H t (.tup [.int u,.ref aP])) aA (.dK (putK (bf ((st.aH.map (·.1)).zip ws)) (ku (n:Int)) (.ref t)))) p (.lst [])) m (.dK (mdF (.int st.aU) (.bl st.closed) (.ref p) (.ref aA) (.ref aD) (.ref aM)))) aA=some (.dK (bf (((st.aH++[(n,u,st.au)]).map (·.1)).zip (ws++[.ref t])))):=by rw[av oA.symm,av (np X.aH.2),ae,e,ko];rfl
 have z2:(upd (upd (upd (upd H t (.tup [.int u,.ref aP])) aA (.dK (putK (bf ((st.aH.map (·.1)).zip ws)) (ku (n:Int)) (.ref t)))) p (.lst [])) m (.dK (mdF (.int st.aU) (.bl st.closed) (.ref p) (.ref aA) (.ref aD) (.ref aM)))) aP=some (.lst (st.au.map nV)):=by rw[av oP.symm,av (np X.au.2),av AP.symm,av (nt X.au.2)];exact X.au.2
 have z3:(upd (upd (upd (upd H t (.tup [.int u,.ref aP])) aA (.dK (putK (bf ((st.aH.map (·.1)).zip ws)) (ku (n:Int)) (.ref t)))) p (.lst [])) m (.dK (mdF (.int st.aU) (.bl st.closed) (.ref p) (.ref aA) (.ref aD) (.ref aM)))) p=some (.lst []):=by rw[av (np X.ob).symm,ae]
 have z4:(upd (upd (upd (upd H t (.tup [.int u,.ref aP])) aA (.dK (putK (bf ((st.aH.map (·.1)).zip ws)) (ku (n:Int)) (.ref t)))) p (.lst [])) m (.dK (mdF (.int st.aU) (.bl st.closed) (.ref p) (.ref aA) (.ref aD) (.ref aM)))) t=some (.tup [.int u,.ref aP]):=by rw[av (nt X.ob).symm,av ntp.symm,av (nt X.aH.2).symm,ae]
 have z5:(upd (upd (upd (upd H t (.tup [.int u,.ref aP])) aA (.dK (putK (bf ((st.aH.map (·.1)).zip ws)) (ku (n:Int)) (.ref t)))) p (.lst [])) m (.dK (mdF (.int st.aU) (.bl st.closed) (.ref p) (.ref aA) (.ref aD) (.ref aM)))) m=some (.dK (mdF (.int st.aU) (.bl st.closed) (.ref p) (.ref aA) (.ref aD) (.ref aM))):=ae
 generalize upd (upd (upd (upd H t (.tup [.int u,.ref aP])) aA (.dK (putK (bf ((st.aH.map (·.1)).zip ws)) (ku (n:Int)) (.ref t)))) p (.lst [])) m (.dK (mdF (.int st.aU) (.bl st.closed) (.ref p) (.ref aA) (.ref aD) (.ref aM)))=H5 at s z1 z2 z3 z4 z5 ⊢
 exact⟨s,k1,z5,⟨y3,z3⟩,⟨y1,z1⟩,(lq (λ_ _=>rfl) s X.wait).snoc ⟨t,aP,rfl,⟨y4,.inl z4⟩,y2,z2⟩,X.dec.kp rfl s,jw s X.m5,X.l6.kp rfl s,GP (λ_ _=>rfl) (λ_ _=>rfl) s X.ent⟩
end
theorem FE {β:Type}{k:Nat}{y:Nat×β}:∀ {xs:List (Nat×β)},at1 k (xs++[y])=(match at1 k xs with | some x=>some x | none=>if y.1=k then some y else none)
 |[]=>by
  unfold at1;rw[List.nil_append,alO,List.find?_nil]
  by_cases z:y.1=k
  ·rw[decide_eq_true z,if_pos z]
  ·rw[decide_eq_false z,if_neg z]
 |x::xs=>by
  have ih:=FE (k:=k) (y:=y) (xs:=xs);unfold at1 at ih ⊢;rw[List.cons_append,alO,alO]
  by_cases z:x.1=k
  ·rw[decide_eq_true z]
  ·rw[decide_eq_false z];exact ih
theorem Kj {β:Type}{k:Nat}{xs:List (Nat×β)}(h:k∉xs.map (·.1)):at1 k xs=none:=by
 cases e:at1 k xs with
 |none=>rfl
 |some x =>
  obtain⟨h1,h2⟩:=jy e;exact absurd (List.mem_map.mpr ⟨x,h2,h1⟩) h
theorem Cr {β:Type}{k:Nat}{y:Nat×β}{xs:List (Nat×β)}(h:y.1≠k):at1 k (xs++[y])=at1 k xs:=by
 rw[FE];cases at1 k xs with
 |some x=>rfl
 |none=>exact if_neg h
theorem zb {β:Type}{k:Nat}{z:β}{xs:List (Nat×β)}(h:k∉xs.map (·.1)):at1 k (xs++[(k,z)])=some (k,z):=by
 rw[FE,Kj h];exact if_pos rfl
def abD:Rl->Bool | .made=>true | .au=>true | _=>false
section
variable{i:Nat}{c c':Col}{H H':Hp}{m aP aA aD aM:Addr}{st:Ch}{ds:List Addr}{ws es:List V}
theorem Sw {mn:Mn}{row:Str}{k:Nat}(hk:dX st k):ib (st.moved mn row) k=ib st k:=by
 have h2:=hk.2;have e1:(st.moved mn row).mo k=st.mo k:=Kc rfl hk;have e2:gz (st.moved mn row) k=gz st k:=by
  unfold gz;cases mn with
  |mat tx =>
   show ((at1 k (st.kept++[(st.made.length+1,([]:List Ed))])).map (·.2)).getD []=_
   rw[Cr (by show st.made.length+1≠k;omega)]
  |_=>rfl
 have e3:Ci (st.moved mn row) k=Ci st k:=by
  unfold Ci;cases mn with
  |mat tx =>
   show (at1 k (st.firsts++[(st.made.length+1,tx)])).map (·.2)=_
   rw[Cr (by show st.made.length+1≠k;omega)]
  |_=>rfl
 unfold ib;rw[e1,e2,e3]
theorem Sx {mn:Mn}{row:Str}(hk:st.made.length+1∉st.kept.map (·.1))(hf:st.made.length+1∉st.firsts.map (·.1)):ib (st.moved mn row) (st.made.length+1)=(st.made.length+1,mn,[],(match mn with | .mat tx=>some tx | _=>none)):=by
 have e1:(st.moved mn row).mo (st.made.length+1)=mn:=Kd rfl;unfold ib;rw[e1];cases mn with
 |mat tx =>
  have e2:gz (st.moved (.mat tx) row) (st.made.length+1)=[]:=by
   unfold gz;show ((at1 (st.made.length+1) (st.kept++[(st.made.length+1,([]:List Ed))])).map (·.2)).getD []=_
   rw[zb hk];rfl
  have e3:Ci (st.moved (.mat tx) row) (st.made.length+1)=some tx:=by
   unfold Ci;show (at1 (st.made.length+1) (st.firsts++[(st.made.length+1,tx)])).map (·.2)=_
   rw[zb hf];rfl
  rw[e2,e3]
 |_ =>
  unfold gz Ci;show (_,_,((at1 (st.made.length+1) st.kept).map (·.2)).getD [],(at1 (st.made.length+1) st.firsts).map (·.2))=_
  rw[Kj hk,Kj hf];rfl
theorem MdX.moved (X:MdX i c H m st aP aA aD aM ds ws es){mn:Mn}{row:Str}{t k p:Addr}(hk:st.made.length+1∉st.kept.map (·.1))(hf:st.made.length+1∉st.firsts.map (·.1))(ht:MnT c H mn t)(nk:H k=none)(np:H p=none)(nkp:p≠k) :
  ∃c',Step (Wr i abD) c c' H (upd (upd (upd (upd H k (.lst [])) p (.lst [.ref t,.ref t,.ref k])) aM (.lst (es++[.ref p]))) aP (.lst (st.au.map nV++[nV (st.made.length+1)]))) /\
  MdX i c' (upd (upd (upd (upd H k (.lst [])) p (.lst [.ref t,.ref t,.ref k])) aM (.lst (es++[.ref p]))) aP (.lst (st.au.map nV++[nV (st.made.length+1)]))) m (st.moved mn row) aP aA aD aM ds ws (es++[.ref p]):=by
 have ak:∀ {a:Addr} {v:HO},H a=some v->a≠k:=λe=>aI e nk
 have ap:∀ {a:Addr} {v:HO},H a=some v->a≠p:=λe=>aI e np
 have MP:aM≠aP:=eh X.l6.1 X.au.1 (λz=>nomatch z)
 have hp2:(upd H k (.lst [])) p=none:=(av nkp).trans np;have x1:az (az c k (some (i,.gZ (st.made.length+1)))) p (some (i,.dD (st.made.length+1))) aM=some (i,.made):=by rw[aw (ap X.l6.2),aw (ak X.l6.2)];exact X.l6.1
 have x2:az (az c k (some (i,.gZ (st.made.length+1)))) p (some (i,.dD (st.made.length+1))) aP=some (i,.au):=by rw[aw (ap X.au.2),aw (ak X.au.2)];exact X.au.1
 have x3:az (az c k (some (i,.gZ (st.made.length+1)))) p (some (i,.dD (st.made.length+1))) p=some (i,.dD (st.made.length+1)):=aX;have x4:az (az c k (some (i,.gZ (st.made.length+1)))) p (some (i,.dD (st.made.length+1))) k=some (i,.gZ (st.made.length+1)):=by rw[aw nkp.symm,aX]
 refine⟨az (az c k (some (i,.gZ (st.made.length+1)))) p (some (i,.dD (st.made.length+1))),?_⟩;have s:Step (Wr i abD) c (az (az c k (some (i,.gZ (st.made.length+1)))) p (some (i,.dD (st.made.length+1)))) H (upd (upd (upd (upd H k (.lst [])) p (.lst [.ref t,.ref t,.ref k])) aM (.lst (es++[.ref p]))) aP (.lst (st.au.map nV++[nV (st.made.length+1)]))) :=
  (((Step.new Wr.nn nk).trans (Step.new Wr.nn hp2)).trans (Step.upd Wr.nn ⟨.made,x1,rfl⟩)).trans (Step.upd Wr.nn ⟨.au,x2,rfl⟩)
 generalize az (az c k (some (i,.gZ (st.made.length+1)))) p (some (i,.dD (st.made.length+1)))=c3 at s x1 x2 x3 x4 ⊢;have z1:(upd (upd (upd (upd H k (.lst [])) p (.lst [.ref t,.ref t,.ref k])) aM (.lst (es++[.ref p]))) aP (.lst (st.au.map nV++[nV (st.made.length+1)]))) aM=some (.lst (es++[.ref p])):=by rw[av MP,ae]
 have z2:(upd (upd (upd (upd H k (.lst [])) p (.lst [.ref t,.ref t,.ref k])) aM (.lst (es++[.ref p]))) aP (.lst (st.au.map nV++[nV (st.made.length+1)]))) aP=some (.lst ((st.au++[st.made.length+1]).map nV)):=by rw[ae,ko];rfl
 have z3:(upd (upd (upd (upd H k (.lst [])) p (.lst [.ref t,.ref t,.ref k])) aM (.lst (es++[.ref p]))) aP (.lst (st.au.map nV++[nV (st.made.length+1)]))) p=some (.lst [.ref t,.ref t,.ref k]):=by rw[av (ap X.au.2).symm,av (ap X.l6.2).symm,ae]
 have z4:(upd (upd (upd (upd H k (.lst [])) p (.lst [.ref t,.ref t,.ref k])) aM (.lst (es++[.ref p]))) aP (.lst (st.au.map nV++[nV (st.made.length+1)]))) k=some (.lst []):=by rw[av (ak X.au.2).symm,av (ak X.l6.2).symm,av nkp.symm,ae]
 generalize upd (upd (upd (upd H k (.lst [])) p (.lst [.ref t,.ref t,.ref k])) aM (.lst (es++[.ref p]))) aP (.lst (st.au.map nV++[nV (st.made.length+1)]))=H5 at s z1 z2 z3 z4 ⊢;have kk:=mY rfl s X.co X.ob;refine⟨s,kk.1,kk.2,⟨x2,z2⟩,X.aH.kp rfl s,lq (λ_ _=>rfl) s X.wait,X.dec.kp rfl s,jw s X.m5,⟨x1,z1⟩,?_⟩
 rw[P8 (st:=st) (st':=st.moved mn row) (by show (st.made++[mn]).length=_;rw[ma];rfl) λj hj=>Sw hj,Sx hk hf]
 refine(GP (λ_ _=>rfl) (λ_ _=>rfl) s X.ent).snoc ⟨p,t,t,k,[],rfl,⟨x3,z3⟩,ht.step s,λtx e=>?_,⟨x4,z4⟩,.nil⟩
 cases mn with
 |mat ty =>
  have e':some ty=some tx:=e;cases e';exact ht.step s
 |_=>cases e
theorem MdX.waitOf (X:MdX i c H m st aP aA aD aM ds ws es){n:Nat}{x:Nat×Int×List Nat}(hx:at1 n st.aH=some x):∃t p,g9 (bf ((st.aH.map (·.1)).zip ws)) (ku (n:Int))=some (.ref t)/\TupAt c H t [.int x.2.1,.ref p]/\LstAt i c H (.fj n) p (x.2.2.map nV):=by
 obtain⟨v,h1,t,p,rfl,h2,h3⟩:=X.wait.val hx;rw[(jy hx).1]at h3;exact⟨t,p,h1,h2,h3⟩
theorem MdX.qZ (X:MdX i c H m st aP aA aD aM ds ws es){n:Nat}{p:Addr}{pl:List Nat}(hl:LstAt i c H (.fj n) p (pl.map nV)) :
  ∃c' ws',Step (Wr i (Mj n)) c c' H (upd (upd H aA (.dK (iR (bf ((st.aH.map (·.1)).zip ws)) (ku (n:Int))))) m (.dK (mdF (.int st.aU) (.bl st.closed) (.ref p) (.ref aA) (.ref aD) (.ref aM)))) /\
  MdX i c' (upd (upd H aA (.dK (iR (bf ((st.aH.map (·.1)).zip ws)) (ku (n:Int))))) m (.dK (mdF (.int st.aU) (.bl st.closed) (.ref p) (.ref aA) (.ref aD) (.ref aM)))) m (st.qZ n pl) p aA aD aM ds ws' es:=by
 have oA:m≠aA:=eh X.co X.aH.1 (λz=>nomatch z)
 have op:m≠p:=eh X.co hl.1 (λz=>nomatch z)
 have Ap:aA≠p:=eh X.aH.1 hl.1 (λz=>nomatch z)
 obtain⟨ws',e1,e2⟩:=X.wait.drop (n:=n);refine⟨az c p (some (i,.au)),ws',?_⟩;have s:Step (Wr i (Mj n)) c (az c p (some (i,.au))) H (upd (upd H aA (.dK (iR (bf ((st.aH.map (·.1)).zip ws)) (ku (n:Int))))) m (.dK (mdF (.int st.aU) (.bl st.closed) (.ref p) (.ref aA) (.ref aD) (.ref aM)))) :=
  ((Step.upd Wr.nn ⟨.aH,X.aH.1,rfl⟩).trans (Step.upd Wr.nn ⟨.ob,X.co,rfl⟩)).trans (Step.role Wr.nn ⟨.fj n,hl.1,decide_eq_true rfl⟩)
 refine⟨s,by rw[aw op];exact X.co,ae,⟨aX,by rw[av op.symm,av Ap.symm];exact hl.2⟩,⟨by rw[aw Ap];exact X.aH.1,by rw[av oA.symm,ae,e1];rfl⟩,lq (λx hx=>decide_eq_false (of_decide_eq_true (List.mem_filter.mp hx).2)) s e2,X.dec.kp rfl s,jw s X.m5,X.l6.kp rfl s,GP (λ_ _=>rfl) (λ_ _=>rfl) s X.ent⟩
end
def WZ (i:Nat):Sp:=λvs H Q _=>∃(m t:Addr) (c:Col) (st:Ch) (mn:Mn) (N:Nat),vs=[.ref m,.ref t]/\jD i c H m st/\MnT c H mn t/\Inv N st/\N<=900/\y6 (st.au.map st.mo) mn/\MOk N mn /\
 ∀c' H',Step (cM i) c c' H H'->jD i c' H' m (st.carry mn)->Q .non H'
theorem in2:∀k,k < 8->(if false=true then !inV (V.str (nm k)) [V.str (ar "put off"),V.str (ar "lay")] else inV (V.str (nm k)) [V.str (ar "put off"),V.str (ar "lay")])=decide (k=3\/k=5):=by trivial
section
variable{P:rf}{w:World}{K:ba}{mg:Str->Option Value}{base:Heap}{A:Adr}
set_option maxHeartbeats 4000000 in
theorem Nc (T:Txt w.params K mg A){i:Nat}:a8 P w K mg base CX0 2 A.JT A.xP ["_law_m","_law_motion_here"] (WZ i):=by
 refine T.BB.ok jR (λvs H Q E h=>?_) (λcdv A' outer s H vs Q E hr h=>?_)
 ·obtain⟨m,t,c,st,mn,N,rfl,_⟩:=h;rfl
 ·obtain⟨m,t,c,st,mn,N,rfl,hm,hmt,I,hN,wO,C1,q⟩:=h;obtain⟨aP,aA,aD,aM,ds,ws,es,X⟩:=hm.ex;have hu1:=hr.u1;have jr:=hr.units;have sz:kg=16777216:=by decide
  refine⟨_,(ai (a9 (ay bt (aK aT (pv 1) af (λ_ _=>rfl)) ao (aJ _))
 (ai (aY (i:=2) jR.nd rfl (tm rfl) (aK bx (bh hu1 (pv 0) ao (λ_ _=>rfl)) (a6 oh (aK bx (bh hu1 (pv 0) ao (λ_ _=>rfl)) af (λ_ _=>rfl)) af) (λ_ _=>rfl)))
 (ai (AI (bg (aa ao (aa (aV (Ea T) hr rfl T.BA T.wm.kp T.Bz .nil aW (aa (aK aT (aK bx (pv 2) af (λ_ _=>rfl)) af (λ_ _=>rfl)) (aa (aK aT (pv 1) af (λ_ _=>rfl)) ag))) ag))) (Jm (pv 2) af set_list))
 (aj (bK (gJ si alk alm dj (aK bx (pv 2) af (λ_ _=>rfl)) (aa (aK aT (pv 1) af (λ_ _=>rfl)) ag))))))
 aC)
 (ai (a9 (ay bt (aK aT (pv 1) af (λ_ _=>rfl)) ao (aJ _))
 (ai (aY (i:=3) jR.nd rfl (tm rfl) (aK bx (bh hu1 (pv 0) ao (λ_ _=>rfl)) (a6 oh (aK bx (bh hu1 (pv 0) ao (λ_ _=>rfl)) (jE gv af) (λ_ _=>rfl)) af) (λ_ _=>rfl)))
 (ai (AI (aK aT (aK bx (pv 3) af (λ_ _=>rfl)) af (λ_ _=>rfl)) (N4 rfl (rJ (kL (i:=4) jR.nd rfl (tm rfl)) (rJ (kL (i:=5) jR.nd rfl (tm rfl)) (rJ (kL (i:=6) jR.nd rfl (tm rfl)) LD)))))
 (aj (AI (bg (aa ao (aa (bg (aa (pv 4) (aa (pv 5) (aa (gJ amn PySem.F.slot_str_join PySem.F.type_str_join Ew ao (aa (aV (Ea T) hr rfl T.BA T.wm.kp T.Bz .nil aW (aa (aV (qO T) hr rfl T.pW T.mz.kp T.pV .nil aW (aa (pv 6) ag)) (aa (aK aT (pv 1) af (λ_ _=>rfl)) ag))) ag)) ag)))) ag))) (Jm (pv 3) af set_list)))))
 aC)
 (ai (a9 (ay bt (aK aT (pv 1) af (λ_ _=>rfl)) ao (aJ _))
 (aj (iF hu1 (pv 0) ao lO rfl))
 aC)
 (ai (a9 (ay bt (aK aT (pv 1) af (λ_ _=>rfl)) ao (aJ _))
 (aj (iF hu1 (pv 0) ao (a6 dI (bh hu1 (pv 0) ao (λ_ _=>rfl)) af) rfl))
 aC)
 (aj (a9 (ay tN (aK aT (pv 1) af (λ_ _=>rfl)) (bg (aa ao (aa ao ag))) rfl)
 (ai (aY (i:=7) jR.nd rfl (tm rfl) (aK aT (a6 Rv (pv 1) (bg (aa (bh hu1 (pv 0) ao (λ_ _=>rfl)) ag))) af (λ_ _=>rfl)))
 (ai (iF hu1 (bh hu1 (pv 0) ao (λ_ _=>rfl)) (aK bx (bh hu1 (pv 0) ao (λ_ _=>rfl)) af (λ_ _=>rfl)) (bg (aa (pv 7) (aa (bh hu1 (pv 0) ao (λ_ _=>rfl)) ag))) rfl)
 (aj (iF hu1 (pv 0) ao (bS ag) rfl))))
 aC)))))),?_⟩
  try dsimp only[bF]
  refine aN λGq gq=>?_
  have W0:=hmt;obtain⟨ct,v,hvt,hvv⟩:=hmt;have ht:SqT K H t (rowOf mn.k v):=SqT.of hvt;have lM:=I.lm;have kc:∀ {v0 v1 v2 v3 v4 v5:V},(mdF v0 v1 v2 v3 v4 v5).length < kg:=by intros;show 6 < kg;decide
  refine gq ?_;cases mn with
  |mat tx =>
   refine ixv rfl ht rfl ⟨rfl,tsf (b7 0 (by decide)) (ixv rfl ht rfl ⟨rfl,tsf (ck 0 (by decide)) (ixv rfl ht rfl ⟨rfl,tsf (jx 0 (by decide)) (ixv rfl ht rfl ⟨rfl,tsf (m9 0 (by decide)) (ixv rfl ht rfl ⟨(sl 2),λu hu=>⟨u,_,rfl,.inr (SqT.of ae),rfl,rfl,tsf (in2 0 (by decide)) ?_⟩⟩)⟩)⟩)⟩)⟩
   exact q c _ (Step.same aL (aG hu)) (X.same (aG hu)).at
  |pnt z =>
   refine ixv rfl ht rfl ⟨rfl,tsf (b7 7 (by decide)) (ixv rfl ht rfl ⟨rfl,tsf (ck 7 (by decide)) (ixv rfl ht rfl ⟨rfl,tsf (jx 7 (by decide)) (ixv rfl ht rfl ⟨rfl,tsf (m9 7 (by decide)) (ixv rfl ht rfl ⟨(sl 2),λu hu=>⟨u,_,rfl,.inr (SqT.of ae),rfl,rfl,tsf (in2 7 (by decide)) ?_⟩⟩)⟩)⟩)⟩)⟩
   exact q c _ (Step.same aL (aG hu)) (X.same (aG hu)).at
  |cls =>
   refine ixv rfl ht rfl ⟨rfl,tsf (b7 4 (by decide)) (ixv rfl ht rfl ⟨rfl,tsf (ck 4 (by decide)) (ixv rfl ht rfl ⟨rfl,tst (jx 4 (by decide)) ⟨_,rfl,m,_,rfl,pw.k (k:=wt (ar "closed")) X.ob kc,?_⟩⟩)⟩)⟩
   rw[Ce];refine aN λGq gq=>?_
   obtain⟨s1,X1⟩:=X.attr st.aU true;have ht1:=SqT.of (K:=K) (W0.step s1.iy).2.choose_spec.1;have aiN:=W0.step s1.iy;obtain⟨_,v1,hv1,_⟩:=aiN;have ht1:SqT K (upd H m (.dK (mdF (.int st.aU) (.bl true) (.ref aP) (.ref aA) (.ref aD) (.ref aM)))) t (rowOf 4 v1):=SqT.of hv1;refine gq ?_;generalize upd H m (.dK (mdF (.int st.aU) (.bl true) (.ref aP) (.ref aA) (.ref aD) (.ref aM)))=H1 at s1 X1 ht1 ⊢;refine ixv rfl ht1 rfl ⟨rfl,tsf (m9 4 (by decide)) (ixv rfl ht1 rfl ⟨(sl 2),λu hu=>⟨u,_,rfl,.inr (SqT.of ae),rfl,rfl,tsf (in2 4 (by decide)) ?_⟩⟩)⟩
   exact q c _ (s1.iy.trans (Step.same aL (aG hu))) (X1.same (aG hu)).at
  |rst =>
   refine ixv rfl ht rfl ⟨rfl,tsf (b7 6 (by decide)) (ixv rfl ht rfl ⟨rfl,tsf (ck 6 (by decide)) (ixv rfl ht rfl ⟨rfl,tsf (jx 6 (by decide)) (ixv rfl ht rfl ⟨rfl,tst (m9 6 (by decide)) (dgv rfl X.gs ⟨_,_,rfl,rfl,_,rfl,m,_,rfl,pw.k (k:=wt (ar "sitting")) X.ob kc,?_⟩)⟩)⟩)⟩)⟩
   rw[GO];refine aN λGq gq=>?_
   obtain⟨s1,X1⟩:=X.attr (st.aU+1) st.closed;obtain⟨_,v1,hv1,_⟩:=W0.step s1.iy;have ht1:SqT K (upd H m (.dK (mdF (.int (st.aU+1)) (.bl st.closed) (.ref aP) (.ref aA) (.ref aD) (.ref aM)))) t (rowOf 6 v1):=SqT.of hv1;refine gq ?_;dsimp only;generalize upd H m (.dK (mdF (.int (st.aU+1)) (.bl st.closed) (.ref aP) (.ref aA) (.ref aD) (.ref aM)))=H1 at s1 X1 ht1 ⊢;refine ixv rfl ht1 rfl ⟨(sl 2),λu hu=>⟨u,_,rfl,.inr (SqT.of ae),rfl,rfl,tsf (in2 6 (by decide)) ?_⟩⟩
   exact q c _ (s1.iy.trans (Step.same aL (aG hu))) (X1.same (aG hu)).at
  |chg e =>
   refine aN λGq gq=>?_
   obtain⟨tx,h1,hf⟩:=wO;obtain⟨k,e1,e2⟩:=Sj h1;have hn:k∈st.au:=by rw[e1];exact gr
   have hno:=I.bL k hn;have htx:=I.ue hno;rw[e2]at htx;have aiG:tx.length<=12+N:=htx.1;obtain⟨x,hx,hxl⟩:=I.keptAt hno (by rw[e2];rfl)
   have e3:st.carry (.chg e)=st.PM k tx e:=by unfold Ch.carry;rw[e1];dsimp only;rw[e2]
   rw[e3]at q;have PR:EdB (12+N) e:=C1;obtain⟨te,rfl,hte⟩:=hvv;have h0:atI (st.au.map nV) 0=some (nV k):=by rw[e1];rfl
   have h11:=hno.1;obtain⟨w,ev,p,t1,t2,kk,ts,rfl,z1,z2,z3,z4,z5⟩:=X.ent.get (oa hno);have ea:atI es ((k:Int) - 1)=some (.ref p):=by
    rw[show (k:Int) - 1=((k - 1:Nat):Int) by omega]
    exact cB ev
   have z1':LstAt i c H (.dD k) p [.ref t1,.ref t2,.ref kk]:=z1;have z4':LstAt i c H (.gZ k) kk (ts.map V.ref):=z4;have z2':MnT c H (.mat tx) t1:=by
    have:(ib st k).2.1=.mat tx:=e2;rw[this]at z2;exact z2
   obtain⟨_,v1,hv1,L,rfl,hL⟩:=z2';refine gq ?_;refine ixv rfl ht rfl ⟨rfl,tst (b7 1 (by decide)) ?_⟩
   refine dgv rfl X.gm (dgv rfl X.gp ⟨aP,_,_,_,rfl,rfl,SqL.of X.au.2,h0,_,_,rfl,rfl,aM,_,_,_,rfl,rfl,SqL.of X.l6.2,ea,?_⟩);refine ixv rfl (SqL.of z1'.2) rfl ⟨t1,_,_,_,rfl,rfl,SqT.of hv1,rfl,ixv rfl ht rfl ⟨L,te,tx,e,rfl,SqL.of hL.2,by omega,hte.sq,PR.ok (by omega),hf,λpl H1 s1 npl hpl=>⟨(sl 2),λtn htn=>?_⟩⟩⟩
   have s2:=s1.new (o:=.tup [V.str (ar "matter"),.ref pl]) htn;have ntn:H tn=none:=same_none s1 htn;have ntp:pl≠tn:=aI hpl htn;have X2:=X.cl s2;have st2:Step (cM i) c (bU c H) H (upd H1 tn (.tup [V.str (ar "matter"),.ref pl])):=Step.cl aL s2;have hmn:MnT (bU c H) (upd H1 tn (.tup [V.str (ar "matter"),.ref pl])) (.mat (bR tx e)) tn:=⟨bC ntn,.ref pl,ae,pl,rfl,bC npl,(av ntp).trans hpl⟩;have w1:=z1'.keep (W:=λ_=>False) id (Step.cl id s2)
   have w4:=z4'.keep (W:=λ_=>False) id (Step.cl id s2)
   have W2:=hte.step st2;have hv2:=fq st2 ct hvt;generalize bU c H=c2 at X2 st2 hmn w1 w4 W2 hv2;generalize upd H1 tn (.tup [V.str (ar "matter"),.ref pl])=H2 at X2 st2 hmn w1 w4 W2 hv2 ⊢;refine⟨_,rfl,p,_,0,0,rfl,rfl,w1.2,rfl,?_⟩;rw[show [V.ref t1,V.ref t2,V.ref kk].set 0 (V.ref tn)=[V.ref tn,V.ref t2,V.ref kk] from rfl]
   obtain⟨s3,X3⟩:=X2.Qa hno ev w1 hmn;have w1b:LstAt i c2 (upd H2 p (.lst [.ref tn,.ref t2,.ref kk])) (.dD k) p [.ref tn,.ref t2,.ref kk]:=⟨w1.1,ae⟩;have w4b:=w4.kp (p:=WY k) rfl s3;have abE:=W2.step s3.iy;have hv3:=fq s3 hv2.1 hv2.2;have hkl:ts.length<=1000:=by
    have h1:=z5.len;have h2:(ib st k).2.2.1=x.2:=by show gz st k=x.2;unfold gz;rw[hx];rfl
    rw[h2]at h1;omega
   have ev3:es[k - 1]?=some (.ref p):=ev;generalize upd H2 p (.lst [.ref tn,.ref t2,.ref kk])=H3 at s3 X3 w1b w4b abE hv3 ⊢;refine ixv rfl (SqL.of w1b.2) rfl ⟨.inl ⟨rfl,_,SqL.of w4b.2⟩,ixv rfl (SqT.of hv3.2) rfl ⟨kk,_,_,rfl,rfl,w4b.2,by rw[bo];omega,?_⟩⟩
   obtain⟨s4,X4⟩:=X3.Ft (n:=k) (e:=e) (x:=x) ⟨hno.1,by show k<=(st.made.set _ _).length;rw[alZ];exact hno.2⟩ hx ev3 w1b w4b abE
   have hv4:=fq s4 hv3.1 hv3.2;have fin:=((st2.trans s3.iy).trans s4.iy);generalize upd H3 kk (.lst (ts.map V.ref++[.ref te]))=H4 at s4 X4 hv4 fin ⊢;have ht4:SqT K H4 t (rowOf 1 (.ref te)):=SqT.of hv4.2;refine ixv rfl ht4 rfl ⟨rfl,tsf (ck 1 (by decide)) (ixv rfl ht4 rfl ⟨rfl,tsf (jx 1 (by decide)) (ixv rfl ht4 rfl ⟨rfl,tsf (m9 1 (by decide)) (ixv rfl ht4 rfl ⟨(sl 2),λu hu=>⟨u,_,rfl,.inr (SqT.of ae),rfl,rfl,tsf (in2 1 (by decide)) ?_⟩⟩)⟩)⟩)⟩
   exact q c2 _ (fin.trans (Step.same aL (aG hu))) (X4.same (aG hu)).at
  |mnd f =>
   refine aN λGq gq=>?_
   obtain⟨tx,e,h1,hk,hf⟩:=wO;obtain⟨a,b,e1,e2,e3⟩:=WE h1;have hb:b∈st.au:=by rw[e1];exact me _ gr
   have hno:=I.bL b hb;have he:=I.ue hno;rw[e3]at he;have he':EdB (12+N) e:=he;obtain⟨w1,w2⟩:=he'.words;have e4:st.carry (.mnd f)=st.PN b e (bR (R.bq e.th) f):=by unfold Ch.carry;rw[e1];show (match st.mo b with | .chg e=>_ | _=>st)=_;rw[e3];rfl
   rw[e4]at q;obtain⟨hf1,w0,hw0,hw1⟩:=C1;have l1:=t6 (R.bq e.th) f;have l2:=R.DX (vm w1 (by rw[hw0];exact hw1):∀w∈bR (R.bq e.th) f,R.oE w)
   have heo:rp e:=he'.ok (by omega)
   obtain⟨te,rfl,hte⟩:=hvv;have h0:atI (st.au.map nV) (-1)=some (nV b):=by rw[e1];exact gH [nV a] (nV b)
   have h11:=hno.1;obtain⟨w,ev,p,t1,t2,kk,ts,rfl,z1,z2,z3,z4,z5⟩:=X.ent.get (oa hno);have ea:atI es ((b:Int) - 1)=some (.ref p):=by
    rw[show (b:Int) - 1=((b - 1:Nat):Int) by omega]
    exact cB ev
   have z1':LstAt i c H (.dD b) p [.ref t1,.ref t2,.ref kk]:=z1;have z2':MnT c H (.chg e) t1:=by
    have:(ib st b).2.1=.chg e:=e3;rw[this]at z2;exact z2
   obtain⟨_,v1,hv1,tc,rfl,htc⟩:=z2';have er:eG e=[V.str (kn e.k),.int e.at_,.str e.th]:=by
    obtain⟨k,a,th⟩:=e;have h3:=heo.k3;dsimp only at h3 hk ⊢;rcases h3 with rfl | rfl | rfl
    ·rfl
    ·exact absurd rfl hk
    ·rfl
   have aiO:SqT K H tc [V.str (kn e.k),.int e.at_,.str e.th]:=by rw[<-er];exact htc.sq
   refine gq ?_;refine ixv rfl ht rfl ⟨rfl,tsf (b7 2 (by decide)) (ixv rfl ht rfl ⟨rfl,tst (ck 2 (by decide)) ?_⟩)⟩
   refine⟨_,rfl,m,_,rfl,X.gm,_,rfl,m,_,rfl,X.gp,_,rfl,aP,_,_,_,rfl,rfl,SqL.of X.au.2,h0,_,_,rfl,rfl,aM,_,_,_,rfl,rfl,SqL.of X.l6.2,ea,?_⟩;refine⟨_,rfl,p,_,_,_,rfl,rfl,SqL.of z1'.2,rfl,t1,_,_,_,rfl,rfl,SqT.of hv1,rfl,tc,[V.str (kn e.k),.int e.at_,.str e.th],rfl,aiO,rfl,?_⟩;refine⟨_,_,rfl,_,_,rfl,_,_,rfl,rfl,?_⟩;refine⟨_,rfl,_,rfl,rfl,_,rfl,e.th,rfl,?_,λp1 hp1=>?_⟩
   ·have:=heo.th.len;omega
   have s1:=aG (o:=.lst ((R.bq e.th).map V.str)) hp1;have hb1:(R.bl1:Str).length=1:=by trivial
   refine ixv rfl (bP s1 ht) rfl ⟨p1,te,R.bq e.th,f,rfl,SqL.of ae,by omega,bP s1 hte.sq,hf1.ok (by omega),hf,λpl H1 s2 npl hpl=>?_⟩
   have s12:=s1.trans s2;refine⟨R.bl1,pl,bR (R.bq e.th) f,rfl,rfl,SqL.of hpl,by rw[hb1];omega,(sl 3),λt3 ht3=>⟨(sl 2),λtn htn=>?_⟩⟩
   have s3:=s12.new (o:=.tup [V.str (kn e.k),.int e.at_,.str (tu R.bl1 (bR (R.bq e.th) f))]) ht3;have s4:=s3.new (o:=.tup [V.str (ar "change"),.ref t3]) htn;have nt3:H t3=none:=same_none s12 ht3;have ntn:H tn=none:=same_none s3 htn;have n3n:t3≠tn:=aI ae htn;have er2:eG ⟨e.k,e.at_,tu R.bl1 (bR (R.bq e.th) f)⟩=[V.str (kn e.k),.int e.at_,.str (tu R.bl1 (bR (R.bq e.th) f))]:=by
    obtain⟨k,a,th⟩:=e;have h3:=heo.k3;dsimp only at h3 hk ⊢;rcases h3 with rfl | rfl | rfl
    ·rfl
    ·exact absurd rfl hk
    ·rfl
   have X2:=X.cl s4;have st2:Step (cM i) c (bU c H) H _:=Step.cl aL s4;have hmn:MnT (bU c H) (upd (upd H1 t3 (.tup [V.str (kn e.k),.int e.at_,.str (tu R.bl1 (bR (R.bq e.th) f))])) tn (.tup [V.str (ar "change"),.ref t3])) (.chg ⟨e.k,e.at_,tu R.bl1 (bR (R.bq e.th) f)⟩) tn :=
    ⟨bC ntn,.ref t3,ae,t3,rfl,bC nt3,.inl (by rw[av n3n,ae,er2])⟩
   have w1:=z1'.keep (W:=λ_=>False) id (Step.cl id s4)
   have hv2:=fq st2 ct hvt;generalize bU c H=c2 at X2 st2 hmn w1 hv2;generalize upd (upd H1 t3 (.tup [V.str (kn e.k),.int e.at_,.str (tu R.bl1 (bR (R.bq e.th) f))])) tn (.tup [V.str (ar "change"),.ref t3])=H2 at X2 st2 hmn w1 hv2 ⊢;refine⟨_,rfl,p,_,0,0,rfl,rfl,w1.2,rfl,?_⟩;rw[show [V.ref t1,V.ref t2,V.ref kk].set 0 (V.ref tn)=[V.ref tn,V.ref t2,V.ref kk] from rfl]
   obtain⟨s5,X3⟩:=X2.Qa hno ev w1 hmn;have hv3:=fq s5 hv2.1 hv2.2;have fin:=st2.trans s5.iy;generalize upd H2 p (.lst [.ref tn,.ref t2,.ref kk])=H3 at s5 X3 hv3 fin ⊢;have ht3:SqT K H3 t (rowOf 2 (.ref te)):=SqT.of hv3.2;refine ixv rfl ht3 rfl ⟨rfl,tsf (jx 2 (by decide)) (ixv rfl ht3 rfl ⟨rfl,tsf (m9 2 (by decide)) (ixv rfl ht3 rfl ⟨(sl 2),λu hu=>⟨u,_,rfl,.inr (SqT.of ae),rfl,rfl,tsf (in2 2 (by decide)) ?_⟩⟩)⟩)⟩
   exact q c2 _ (fin.trans (Step.same aL (aG hu))) (X3.same (aG hu)).at
  |off u =>
   refine aN λGq gq=>?_
   obtain⟨⟨tx,r,h1⟩,_⟩:=wO;obtain⟨k,r',e1,_⟩:=M8 h1;have e3:st.carry (.off u)=st.nI k u:=by unfold Ch.carry;rw[e1]
   rw[e3]at q;have hv':v=.int u:=hvv;subst hv';have hla:=I.la;have hkn:=I.Fw (n:=k) (by rw[e1];exact gr)
   have h0:atI (st.au.map nV) 0=some (nV k):=by rw[e1];exact cB (j:=0) rfl
   refine gq ?_;refine ixv rfl ht rfl ⟨rfl,tsf (b7 3 (by decide)) (ixv rfl ht rfl ⟨rfl,tsf (ck 3 (by decide)) (ixv rfl ht rfl ⟨rfl,tsf (jx 3 (by decide)) (ixv rfl ht rfl ⟨rfl,tsf (m9 3 (by decide)) (ixv rfl ht rfl ⟨(sl 2),λu1 hu1=>⟨u1,_,rfl,.inr (SqT.of ae),rfl,rfl,tst (in2 3 (by decide)) ?_⟩⟩)⟩)⟩)⟩)⟩
   have s1:=aG (o:=.tup [V.str (ar "put off"),V.str (ar "lay")]) hu1;refine⟨_,rfl,dgv rfl (.inl ⟨_,wt (ar "sitting"),.inl (s1 _ _ X.ob),rfl,n6.symm⟩) ⟨(sl 1),λt2 ht2=>?_⟩⟩
   have s2:=s1.new (o:=.tup [V.int st.aU]) ht2;refine⟨t,t2,_,_,rfl,rfl,bP s2 ht,SqT.of ae,alv _ _,(sl 3),λz=>absurd z (alv _ _),λ_ t3 ht3=>?_⟩
   have s3:=s2.new (o:=.tup (rowOf 3 (.int u)++[V.int st.aU])) ht3;refine⟨t3,_,_,_,rfl,rfl,SqT.of ae,rfl,?_⟩;have X3:=X.same s3;refine⟨_,rfl,dgv rfl X3.gp ⟨(sl 2),λt4 ht4=>?_⟩⟩
   have oA:m≠aA:=eh X.co X.aH.1 (λz=>nomatch z)
   have s4:=aG (o:=.tup [V.int u,.ref aP]) ht4;refine dgv rfl (.inl ⟨_,wt (ar "aside"),.inl (s4 _ _ X3.ob),rfl,yt.symm⟩) (dgv rfl (.inl ⟨_,wt (ar "pile"),.inl (s4 _ _ X3.ob),rfl,sU.symm⟩) ⟨aP,_,_,_,rfl,rfl,SqL.of (s4 _ _ X3.au.2),h0,aA,_,rfl,pw.k (k:=ku (k:Int)) (s4 _ _ X3.aH.2) ?_,?_⟩)
   ·unfold bf;rw[bo,amk,bo];omega
   refine⟨(sl 0),λp5 hp5=>?_⟩
   refine aN λGq gq=>?_
   have npA:p5≠aA:=λz=>by rw[z,ae]at hp5;cases hp5
   have npt:p5≠t4:=λz=>by rw[av npA,z,ae]at hp5;cases hp5
   have hp1:=hp5;rw[av npA,av npt]at hp1;obtain⟨c',s6,X6⟩:=X3.nI (u:=u) ht4 hp1 npt hkn;refine gq ?_;refine⟨_,rfl,m,_,rfl,pw.k (k:=wt (ar "pile")) ((av (aI X3.ob hp1)).trans ((av oA).trans (s4 _ _ X3.ob))) kc,?_⟩;rw[Cg];exact q c' _ ((Step.same aL s3).trans s6.iy) X6.at
  |lay =>
   refine aN λGq gq=>?_
   obtain⟨⟨tx,r,h1⟩,_⟩:=wO;obtain⟨k,r',e1,_⟩:=M8 h1;have e3:st.carry .lay=st.nI k st.aU:=by unfold Ch.carry;rw[e1]
   rw[e3]at q;have hla:=I.la;have hkn:=I.Fw (n:=k) (by rw[e1];exact gr)
   have h0:atI (st.au.map nV) 0=some (nV k):=by rw[e1];exact cB (j:=0) rfl
   refine gq ?_;refine ixv rfl ht rfl ⟨rfl,tsf (b7 5 (by decide)) (ixv rfl ht rfl ⟨rfl,tsf (ck 5 (by decide)) (ixv rfl ht rfl ⟨rfl,tsf (jx 5 (by decide)) (ixv rfl ht rfl ⟨rfl,tsf (m9 5 (by decide)) (ixv rfl ht rfl ⟨(sl 2),λu1 hu1=>⟨u1,_,rfl,.inr (SqT.of ae),rfl,rfl,tst (in2 5 (by decide)) ?_⟩⟩)⟩)⟩)⟩)⟩
   have s1:=aG (o:=.tup [V.str (ar "put off"),V.str (ar "lay")]) hu1;refine⟨_,rfl,dgv rfl (.inl ⟨_,wt (ar "sitting"),.inl (s1 _ _ X.ob),rfl,n6.symm⟩) ⟨(sl 1),λt2 ht2=>?_⟩⟩
   have s2:=s1.new (o:=.tup [V.int st.aU]) ht2;refine⟨t,t2,_,_,rfl,rfl,bP s2 ht,SqT.of ae,alv _ _,(sl 2),λz=>absurd z (alv _ _),λ_ t3 ht3=>?_⟩
   have s3:=s2.new (o:=.tup (rowOf 5 v++[V.int st.aU])) ht3;refine⟨t3,_,_,_,rfl,rfl,SqT.of ae,rfl,?_⟩;have X3:=X.same s3;refine⟨_,rfl,dgv rfl X3.gp ⟨(sl 2),λt4 ht4=>?_⟩⟩
   have oA:m≠aA:=eh X.co X.aH.1 (λz=>nomatch z)
   have s4:=aG (o:=.tup [V.int st.aU,.ref aP]) ht4;refine dgv rfl (.inl ⟨_,wt (ar "aside"),.inl (s4 _ _ X3.ob),rfl,yt.symm⟩) (dgv rfl (.inl ⟨_,wt (ar "pile"),.inl (s4 _ _ X3.ob),rfl,sU.symm⟩) ⟨aP,_,_,_,rfl,rfl,SqL.of (s4 _ _ X3.au.2),h0,aA,_,rfl,pw.k (k:=ku (k:Int)) (s4 _ _ X3.aH.2) ?_,?_⟩)
   ·unfold bf;rw[bo,amk,bo];omega
   refine⟨(sl 0),λp5 hp5=>?_⟩
   refine aN λGq gq=>?_
   have npA:p5≠aA:=λz=>by rw[z,ae]at hp5;cases hp5
   have npt:p5≠t4:=λz=>by rw[av npA,z,ae]at hp5;cases hp5
   have hp1:=hp5;rw[av npA,av npt]at hp1;obtain⟨c',s6,X6⟩:=X3.nI (u:=st.aU) ht4 hp1 npt hkn;refine gq ?_;refine⟨_,rfl,m,_,rfl,pw.k (k:=wt (ar "pile")) ((av (aI X3.ob hp1)).trans ((av oA).trans (s4 _ _ X3.ob))) kc,?_⟩;rw[Cg];exact q c' _ ((Step.same aL s3).trans s6.iy) X6.at
end
def yx (c:Col)(H:Hp)(t:Addr)(xs:List V):Prop:=c t=none/\H t=some (.tup xs)
def ly (c:Col)(H:Hp):R.dY->Addr->Prop
 | .mat cs,t=>∃L,yx c H t [.str (ar "matter"),.ref L]/\c L=none/\H L=some (.lst ((cs.map (tu R.bl1)).map V.str))
 | .ed m k j ws,t=>∃e,yx c H t [.str (R.kEd m),.ref e]/\TupAt c H e (R.edR k j (tu R.bl1 ws))
 | .pt ws,t=>yx c H t [.str (ar "point"),.str (tu R.bl1 ws)]
 | .nums kd ns,t=>yx c H t (.str kd::ns.map V.int)
theorem yx.c {i:Nat}{c:Col}{H:Hp}{t:Addr}{xs:List V}(h:yx c H t xs):yn i c H t xs:=⟨by rw[h.1];exact aL,h.2⟩
theorem yx.step {W:Option (Nat×Rl)->Prop}{c c':Col}{H H':Hp}{t:Addr}{xs:List V}(s:Step W c c' H H')(h:yx c H t xs):yx c' H' t xs:=fq s h.1 h.2
theorem ly.step {W:Option (Nat×Rl)->Prop}{c c':Col}{H H':Hp}{t:Addr}(s:Step W c c' H H'):∀ {d:R.dY},ly c H d t->ly c' H' d t
 | .mat _,⟨L,a,b1,b2⟩=>⟨L,a.step s,fq s b1 b2⟩
 | .ed _ _ _ _,⟨e,a,b⟩=>⟨e,a.step s,b.step s⟩
 | .pt _,h=>yx.step s h
 | .nums _ _,h=>yx.step s h
theorem ly.c {i:Nat}{c:Col}{H:Hp}{t:Addr}:∀ {d:R.dY},ly c H d t->qc i c H d t
 | .mat _,⟨L,a,b1,b2⟩=>⟨L,a.c,by rw[b1];exact aL,b2⟩
 | .ed _ _ _ _,⟨e,a,b⟩=>⟨e,a.c,b⟩
 | .pt _,h=>yx.c h
 | .nums _ _,h=>yx.c h
theorem ly.kind {c:Col}{H:Hp}{t:Addr}:∀ {d:R.dY},ly c H d t->∃xs,H t=some (.tup (.str (R.B2 d)::xs))
 | .mat _,⟨_,a,_⟩=>⟨_,a.2⟩
 | .ed _ _ _ _,⟨_,a,_⟩=>⟨_,a.2⟩
 | .pt _,h=>⟨_,h.2⟩
 | .nums _ _,h=>⟨_,h.2⟩
def Ch.ended (st:Ch)(pre:List Nat)(n:Nat)(wd:Str):Ch:=(if wd=B8 then (st.popped pre n wd).carry (st.mo n) else st.popped pre n wd).opened
def Sy (i:Nat):Sp:=λvs H Q _=>∃(m:Addr) (wd:Str) (c:Col) (st:Ch) (N:Nat) (pre:List Nat) (n:Nat),vs=[.ref m,.str wd]/\jD i c H m st/\Inv N st/\N<=800/\st.au=pre++[n]/\alB wd=true /\
 ∀c' H' u,Step (cM i) c c' H H'->jD i c' H' m (st.ended pre n wd)->c' u=none->H' u=some (.tup [.str (ar "told"),.str wd])->Q (.ref u) H'
theorem jD.rows {i:Nat}{c:Col}{H:Hp}{m:Addr}{st:Ch}{r:List Str}(h:jD i c H m st):jD i c H m { st with rows:=r }:=by
 obtain⟨aP,aA,aD,aM,ds,ws,es,X⟩:=h.ex;exact⟨aP,aA,aD,aM,ds,ws,es,⟨X.co,X.ob,X.au,X.aH,X.wait,X.dec,X.m5,X.l6,X.ent⟩⟩
def rsT:Rs->List V
 | .num n=>[.str (ar "told"),nV n]
 | .txt z=>[.str (ar "told"),.str z]
 | .exc x=>[.str (xcC x).1,.int (xcC x).2]
def GX (i:Nat)(c:Col)(H:Hp)(m:Addr)(r:Rs×Ch)(Q:VK):Prop:=∀c' H' u,Step (cM i) c c' H H'->jD i c' H' m r.2->c' u=none->H' u=some (.tup (rsT r.1))->Q (.ref u) H'
def Sz (i:Nat):Sp:=λvs H Q _=>∃(m:Addr) (a b:Int) (c:Col) (st:Ch) (N:Nat),vs=[.ref m,.int a,.int b,.int st.cZ]/\jD i c H m st/\Inv N st/\N<=800/\(0<=a/\a < 10 ^ 10)/\(0<=b/\b < 10 ^ 10)/\GX i c H m (qe st a b) Q
def SA (i:Nat):Sp:=λvs H Q _=>∃(m:Addr) (z:Int) (c:Col) (st:Ch) (N:Nat),vs=[.ref m,.int z]/\jD i c H m st/\Inv N st/\N<=800/\-1<=z/\z < 10 ^ 10/\GX i c H m (stepT st z.toNat) Q
def abF (i:Nat):Sp:=λvs H Q _=>∃(m t:Addr) (c:Col) (st:Ch) (N:Nat) (d:R.dY),vs=[.ref m,.ref t,.int st.cZ]/\jD i c H m st/\Inv N st/\N<=800/\sT d/\ly c H d t/\GX i c H m (jA st d) Q
theorem Eb {c:Col}{H:Hp}{u:Addr}{o:HO}{W:Option (Nat×Rl)->Prop}(n:¬W none)(hu:H u=none):Step W c (az c u none) H (upd H u o)/\az c u none u=none/\(upd H u o) u=some o:=⟨Step.new n hu,aX,ae⟩
section
variable{P:rf}{w:World}{K:ba}{mg:Str->Option Value}{base:Heap}{A:Adr}
theorem Cs (T:Txt w.params K mg A){i:Nat}:a8 P w K mg base CX0 3 A.EZ A.uT ["_law_m","_law_word_here"] (Sy i):=by
 refine T.tX.ok Bo (λvs H Q E h=>?_) (λcdv A' outer s H vs Q E hr h=>?_)
 ·obtain⟨m,wd,c,st,N,pre,n,rfl,_⟩:=h;rfl
 ·obtain⟨m,wd,c,st,N,pre,n,rfl,hm,I,hN,e,hwd,q⟩:=h;obtain⟨aP,aA,aD,aM,ds,ws,es,X⟩:=hm.ex;have hu1:=hr.u1;have jr:=hr.units;have sz:kg=16777216:=by decide
  have kc:∀ {v0 v1 v2 v3 v4 v5:V},(mdF v0 v1 v2 v3 v4 v5).length < kg:=by intros;show 6 < kg;decide
  refine⟨_,(ai (aY (i:=2) Bo.nd rfl (tm rfl) (Oe si PySem.F.slot_list_pop PySem.F.type_list_pop Oi (bh hu1 (pv 0) ao (λ_ _=>rfl))))
 (ai (bK (gJ si alk alm dj (bh hu1 (pv 0) ao (λ_ _=>rfl)) (aa (bg (aa (pv 2) (aa (pv 1) ag))) ag)))
 (ai (a9 (ay bt (pv 1) ao (aJ _))
 (aj (bK (aV (Nc (i:=i) T) hr rfl T.Gn T.BB.kp T.Gm .nil aW (aa (pv 0) (aa (aV (nj (i:=i) T) (hr.mono (by decide)) rfl T.kR T.jk.kp T.kQ .nil aW (aa (pv 0) (aa (pv 2) ag))) ag)))))
 aC)
 (ai (a9 (ay (qv jr) (bh hu1 (pv 0) ao (λ_ _=>rfl)) (bS ag) (aJ _))
 (aj (iF hu1 (pv 0) ao lO rfl))
 aC)
 (aj (aB (bg (aa ao (aa (pv 1) ag))))))))),?_⟩
  try dsimp only[bF]
  have hy:(st.au.map nV)[(st.au.map nV).length - 1]?=some (nV n):=by rw[e];simp
  have hdr:(st.au.map nV).dropLast=pre.map nV:=by rw[e,ko];simp
  have oP:m≠aP:=eh X.co X.au.1 (λz=>nomatch z)
  have DP:aD≠aP:=eh X.dec.1 X.au.1 (λz=>nomatch z)
  have ld:=I.ld;refine dgv rfl X.gp ⟨.inl ⟨rfl,_,SqL.of X.au.2⟩,aP,_,_,rfl,rfl,X.au.2,hy,?_⟩;rw[hdr];refine dgv rfl (.inl ⟨_,wt (ar "decided"),.inl ((av oP).trans X.ob),rfl,y7.symm⟩) ⟨.inl ⟨rfl,_,SqL.of ((av DP).trans X.dec.2)⟩,_,rfl,_,rfl,(sl 2),λt ht=>?_⟩
  obtain⟨s1,X1⟩:=X.pop (n:=n) (wd:=wd) ht;have ntD:aD≠t:=λz=>by rw[<-z,av DP,X.dec.2]at ht;cases ht
  refine⟨aD,_,_,rfl,rfl,(av ntD).trans ((av DP).trans X.dec.2),by rw[bo,<-X.m5.len];omega,?_⟩
  have st1:=s1.iy;generalize az c t none=c1 at X1 st1;dsimp only[dh];generalize upd (upd (upd H aP (.lst (pre.map nV))) t (.tup [nV n,.str wd])) aD (.lst (ds.map V.ref++[.ref t]))=H1 at X1 st1 ⊢;clear s1 ht hy hdr;obtain⟨I1,wO⟩:=I.pop e wd hwd;have hn:n∈st.au:=by rw[e];simp
  have hno:=I.bL n hn;have C1:=(I.ue hno).mono (al1 N);refine eN (λσ' H'=>σ'=[some (.ref m),some (.str wd),some (nV n)]/\∃c',Step (cM i) c c' H H'/\jD i c' H' m (if wd=B8 then (st.popped pre n wd).carry (st.mo n) else st.popped pre n wd)) ?r (λN' nN=>?f)
  case f =>
   refine⟨_,rfl,rfl,_,rfl,?_⟩
   by_cases hk:wd=B8
   ·refine yO (decide_eq_true (by rw[hk])) ⟨_,rfl,_,rfl,_,rfl,m,n,c1,_,rfl,X1.at,hno,λtt htt=>?_⟩
    refine⟨m,tt,c1,st.popped pre n wd,st.mo n,N+1,rfl,X1.at,htt,I1,by omega,wO,C1,λc2 H2 s2 h2=>?_⟩
    refine nN _ _ ⟨rfl,c2,st1.trans s2,?_⟩;rw[if_pos hk];exact h2
   ·refine yP (decide_eq_false (λz=>hk (by injection z))) (nN _ _ ⟨rfl,c1,st1,?_⟩)
    rw[if_neg hk];exact X1.at
  case r =>
   rintro σ2 H2 ⟨rfl,c2,s2,h2⟩;unfold Ch.ended at q;generalize (if wd=B8 then (st.popped pre n wd).carry (st.mo n) else st.popped pre n wd)=st2 at h2 q
   refine aN λGq gq=>?_
   obtain⟨aP2,aA2,aD2,aM2,ds2,ws2,es2,X2⟩:=h2.ex;refine gq ?_;refine eN (λσ' H'=>σ'=[some (.ref m),some (.str wd),some (nV n)]/\∃c',Step (cM i) c c' H H'/\jD i c' H' m st2.opened) ?r2 (λN' nN=>?f2)
   case f2 =>
    refine dgv rfl X2.gp ⟨(sl 0),λp hp=>?_⟩
    have s3:=aG (o:=.lst []) hp;have X3:=X2.same s3;refine⟨ia st2.au,.list [],jz (SqL.of X3.au.2),ni (SqL.of ae),n9 _,nh,_,rfl,?_⟩;rw[n8];cases ep:st2.au with
    |nil =>
     refine cN ⟨_,rfl,m,_,rfl,pw.k (k:=wt (ar "closed")) X3.ob kc,?_⟩;rw[Ce];obtain⟨s4,X4⟩:=X3.attr st2.aU false;refine nN _ _ ⟨rfl,c2,(s2.trans (Step.same aL s3)).trans s4.iy,?_⟩;have e1:st2.opened={ st2 with aU:=st2.aU,closed:=false }:=by unfold Ch.opened;rw[ep,if_pos rfl]
     rw[e1];exact X4.at
    |cons x r =>
     refine bM (nN _ _ ⟨rfl,c2,s2.trans (Step.same aL s3),?_⟩);have e1:st2.opened=st2:=by unfold Ch.opened;rw[ep,if_neg (alv _ _)];cases st2;cases ep;rfl
     rw[e1];exact X3.at
   case r2 =>
    rintro σ3 H3 ⟨rfl,c3,s3,h3⟩;refine⟨_,rfl,(sl 2),λu hu=>?_⟩
    refine aN λGq gq=>?_
    obtain⟨a1,a2,a3⟩:=Eb (c:=c3) (o:=.tup [V.str (ar "told"),.str wd]) aL hu;refine gq ?_;exact q _ _ u (s3.trans a1) (h3.free (W:=λ_=>False) (λ_=>id) (Eb id hu).1) a2 a3
end
theorem SD (k:Nat)(a b:Int):n5 (nd k) a b=(decide (a > b) && (!decide (k=4) || decide (a≥2 * b))):=by
 unfold n5 nd
 by_cases h:a<=b
 ·rw[if_pos h,decide_eq_false (show ¬a > b by omega),Bool.false_and]
 ·rw[if_neg h,decide_eq_true (show a > b by omega),Bool.true_and]
  by_cases h4:k=4
  ·rw[if_pos h4,decide_eq_true h4,show decide (ar "two thirds"=GC)=false by trivial]
   rfl
  ·rw[if_neg h4,decide_eq_false h4,show decide (ar "more"=GC)=true by trivial]
   rfl
theorem Mt (b:Bool):(sP b=B8)↔b=true:=by
 cases b with
 |true=>exact⟨λ_=>rfl,λ_=>rfl⟩
 |false=>exact⟨λz=>absurd z (by trivial),λz=>nomatch z⟩
theorem Qb {st:Ch}{pre:List Nat}{n:Nat}{b:Bool}{z:Str}:(if b=true then (st.popped pre n (sP b)).carry (st.mo n) else st.popped pre n (sP b)).vk z={ st.ended pre n (sP b) with rows:=(if b=true then (st.popped pre n (sP b)).carry (st.mo n) else st.popped pre n (sP b)).rows++[z] }:=by
 unfold Ch.vk Ch.ended;cases b with
 |true=>rw[if_pos rfl,if_pos ((Mt true).mpr rfl)]
 |false=>rw[if_neg kr,if_neg (λy=>absurd ((Mt false).mp y) kr)]
section
variable{P:rf}{w:World}{K:ba}{mg:Str->Option Value}{base:Heap}{A:Adr}
theorem Kk (T:Txt w.params K mg A){i:Nat}:a8 P w K mg base CX0 4 A.E1 A.uU ["_law_m","_law_ayes","_law_noes","_law_seats_here"] (Sz i):=by
 refine T.xZ.ok uM (λvs H Q E h=>?_) (λcdv A' outer s H vs Q E hr h=>?_)
 ·obtain⟨m,a,b,c,st,N,rfl,_⟩:=h;rfl
 ·obtain⟨m,a,b,c,st,N,rfl,hm,I,hN,ha,hb,q⟩:=h;obtain⟨aP,aA,aD,aM,ds,ws,es,X⟩:=hm.ex;have hu1:=hr.u1;have jr:=hr.units;refine⟨_,(ai (a9 (ay (qv jr) (bh hu1 (pv 0) ao (λ_ _=>rfl)) (bS ag) (aJ _))
 (aj (aB (bg (aa ao (aa af ag)))))
 aC)
 (ai (a9 (ay AN (a6 dI (pv 1) (pv 2)) (pv 3) (aJ _))
 (aj (aB (bg (aa ao (aa af ag)))))
 aC)
 (ai (aY (i:=4) uM.nd rfl (tm rfl) (gA AN (pv 1) (pv 2) (aJ _)))
 (ai (a9 (ay bt (aK aT (aV (nj (i:=i) T) (hr.mono (by decide)) rfl T.kR T.jk.kp T.kQ .nil aW (aa (pv 0) (aa (aK bx (bh hu1 (pv 0) ao (λ_ _=>rfl)) (jE gv af) (λ_ _=>rfl)) ag))) af (λ_ _=>rfl)) ao (aJ _))
 (aj (aY (i:=4) uM.nd rfl (tm rfl) (Em (pv 4) (AH (gA TF (pv 1) (a6 uE af (pv 2)) (aJ _))))))
 aC)
 (aj (aB (aV (Cs (i:=i) T) hr rfl T.xY T.tX.kp T.xX .nil aW (aa (pv 0) (aa (aK bx (bS (aa ao (aa ao ag))) (eQ Dg (by rfl) T.Pm Om (aa (pv 4) ag)) (λ_ _=>rfl)) ag))))))))),?_⟩
  try dsimp only[bF]
  unfold qe at q;refine dgv rfl X.gp ⟨(sl 0),λp hp=>?_⟩
  have s1:=aG (o:=.lst []) hp;have X1:=X.same s1;refine⟨ia st.au,.list [],jz (SqL.of X1.au.2),ni (SqL.of ae),n9 _,nh,_,rfl,?_⟩;rw[n8];generalize upd H p (.lst [])=H1 at s1 X1 ⊢;have say:∀(x:Xc) (st':Ch),st'=st->GX i c H m (.exc x,st') Q->(xcC x).2=0->∀u,H1 u=none->Q (.ref u) (upd H1 u (.tup [.str (xcC x).1,.int 0])):=λx st' est qq h0 u hu=>by
   subst est;have a1:Step (cM i) c (az c u none) H (upd H1 u (.tup [.str (xcC x).1,.int 0])):=(Step.same aL s1).trans (Step.new aL hu);refine qq (az c u none) _ u a1 (X1.free (W:=λ_=>False) (λ_=>id) (Step.new id hu)).at aX ?_
   show (upd H1 u (.tup [.str (xcC x).1,.int 0])) u=some (.tup [.str (xcC x).1,.int (xcC x).2]);rw[h0];exact ae
  rcases ak4 st.au with e | ⟨pre,n,e⟩
  ·rw[e]at q ⊢;exact cN ⟨(sl 2),λu hu=>say .nothing st rfl q rfl u hu⟩
  ·rw[ak5]at e;have gl:st.au.getLast?=some n:=by rw[e];exact alK
   have ed:st.au.dropLast=pre:=by rw[e];exact amf
   rw[gl]at q;dsimp only at q;rw[ed]at q;refine yP (by rw[e];simp) ?_
   refine⟨_,rfl,_,rfl,_,_,rfl,rfl,_,rfl,_,_,rfl,rfl,_,rfl,fD (λz=>?_) (λz=>?_)⟩
   ·have z':a+b > st.cZ:=of_decide_eq_true z;rw[if_pos z']at q;exact⟨(sl 2),λu hu=>say .tooMany st rfl q rfl u hu⟩
   ·have z':¬a+b > st.cZ:=λy=>z (decide_eq_true y)
    rw[if_neg z']at q;have hn:=I.bL n (by rw[e];simp)
    have h0:atI (st.au.map nV) (-1)=some (nV n):=by rw[e,ko];exact gH _ _
    refine⟨_,rfl,_,rfl,_,_,rfl,rfl,?_⟩;dsimp only[dh];refine eN (λσ' H'=>σ'=[some (.ref m),some (.int a),some (.int b),some (.int st.cZ),some (.bl (n5 (nd (st.mo n).k) a b))]/\H'=H1) ?r (λN' nN=>?f)
    case f =>
     refine⟨_,rfl,_,rfl,m,_,rfl,X1.gp,_,rfl,aP,_,_,_,rfl,rfl,SqL.of X1.au.2,h0,m,n,c,st,rfl,X1.at,hn,λt ht=>?_⟩
     obtain⟨v,hv⟩:=ht.kind;refine⟨t,_,_,_,rfl,rfl,SqT.of hv,dH,rfl,_,rfl,?_⟩;rw[jx _ (st.mo n).k8];have ke:=SD (st.mo n).k a b
     by_cases h4:(st.mo n).k=4
     ·rw[decide_eq_true h4]at ke ⊢;refine cN ⟨_,rfl,_,rfl,?_⟩
      by_cases hab:a > b
      ·rw[decide_eq_true hab]at ke ⊢;refine cN ⟨_,rfl,_,rfl,_,_,rfl,rfl,.inl ⟨by decide,by decide⟩,_,_,rfl,rfl,nN _ _ ⟨?_,rfl⟩⟩
       rw[ke];rfl
      ·rw[decide_eq_false hab]at ke ⊢;refine bM (nN _ _ ⟨?_,rfl⟩);rw[ke];rfl
     ·rw[decide_eq_false h4]at ke ⊢;refine bM (nN _ _ ⟨?_,rfl⟩);rw[ke,Bool.not_false,Bool.true_or,Bool.and_true];rfl
    case r =>
     rintro σ2 H2 ⟨rfl,rfl⟩;generalize n5 (nd (st.mo n).k) a b=kb at q;refine⟨_,rfl,(sl 2),λl hl=>?_⟩
     have s2:=aG (o:=.lst [V.str (ar "lost"),.str (ar "kept")]) hl;have hw:atI [V.str (ar "lost"),.str (ar "kept")] (if kb=true then 1 else 0)=some (.str (sP kb)):=by cases kb <;> rfl
     refine⟨_,rfl,.inr ⟨kb,rfl,l,_,_,_,rfl,rfl,SqL.of ae,hw,m,sP kb,c,st,N,pre,n,rfl,(X1.same s2).at,I,hN,e,Fx kb,λc' H' u s3 h3 cu hu=>?_⟩⟩
     refine q c' H' u ((Step.same aL (s1.trans s2)).trans s3) ?_ cu hu;show jD i c' H' m ((if kb=true then (st.popped pre n (sP kb)).carry (st.mo n) else st.popped pre n (sP kb)).vk _)
     rw[Qb];exact h3.rows
theorem Kl (T:Txt w.params K mg A){i:Nat}:a8 P w K mg base CX0 3 A.E2 A.uV ["_law_m","_law_number"] (SA i):=by
 refine T.ya.ok uN (λvs H Q E h=>?_) (λcdv A' outer s H vs Q E hr h=>?_)
 ·obtain⟨m,z,c,st,N,rfl,_⟩:=h;rfl
 ·obtain⟨m,z,c,st,N,rfl,hm,I,hN,hz0,hz1,q⟩:=h;obtain⟨aP,aA,aD,aM,ds,ws,es,X⟩:=hm.ex;have hu1:=hr.u1;have jr:=hr.units;have kc:∀ {v0 v1 v2 v3 v4 v5:V},(mdF v0 v1 v2 v3 v4 v5).length < kg:=by intros;show 6 < kg;decide
  refine⟨_,(ai (a9 (ay (uG jr) (bh hu1 (pv 0) ao (λ_ _=>rfl)) (bS ag) (aJ _))
 (aj (aB (bg (aa ao (aa (aV (Cn (i:=i) T) hr rfl T.Az T.wo.kp T.Ay .nil aW (aa (pv 0) ag)) ag)))))
 aC)
 (ai (a9 (Jl (xB hu1 (pv 1) (bh hu1 (pv 0) ao (λ_ _=>rfl))))
 (aj (aB (bg (aa ao (aa af ag)))))
 aC)
 (ai (AI (bh hu1 (bh hu1 (pv 0) ao (λ_ _=>rfl)) (pv 1) (λ_ _=>rfl)) (N4 rfl (rJ (kL (i:=2) uN.nd rfl (tm rfl)) (rJ (kL (i:=3) uN.nd rfl (tm rfl)) LD))))
 (ai (a9 (ay rK (bh hu1 (pv 0) ao (λ_ _=>rfl)) (pv 2) (aJ _))
 (aj (aB (bg (aa ao (aa (pv 2) ag)))))
 aC)
 (ai (bK (Ge (bh hu1 (pv 0) ao (λ_ _=>rfl)) (pv 1) ⟨rfl,rfl,rfl,rfl⟩))
 (ai (iF hu1 (pv 0) ao (pv 3) rfl)
 (aj (aB (bg (aa ao (aa (pv 1) ag))))))))))),?_⟩
  try dsimp only[bF]
  unfold stepT at q;refine dgv rfl X.gp ⟨(sl 0),λp hp=>?_⟩
  have s1:=aG (o:=.lst []) hp;have X1:=X.same s1;refine⟨ia st.au,.list [],jz (SqL.of X1.au.2),ni (SqL.of ae),n9 _,nh,_,rfl,?_⟩;rw[n8];generalize upd H p (.lst [])=H1 at s1 X1 ⊢;cases e:st.au with
  |cons k0 r0 =>
   rw[if_neg (by rw[e];exact alv _ _)]at q
   refine cN ⟨_,rfl,m,c,st,rfl,X1.at,I.bL,λH2 s2=>⟨(sl 2),λu hu=>?_⟩⟩
   have a1:Step (cM i) c (az c u none) H _:=(Step.same aL (s1.trans s2)).trans (Step.new (o:=.tup [V.str (ar "bar"),.int (fN st.closed (st.au.map st.mo))]) aL hu);exact q (az c u none) _ u a1 ((X1.same s2).free (W:=λ_=>False) (λ_=>id) (Step.new id hu)).at aX ae
  |nil =>
   rw[if_pos e]at q;refine bM ?_;have say:∀(x:Xc),GX i c H m (.exc x,st) Q->(xcC x).2=0->∀u,H1 u=none->Q (.ref u) (upd H1 u (.tup [.str (xcC x).1,.int 0])):=λx qq h0 u hu=>by
    have a1:Step (cM i) c (az c u none) H (upd H1 u (.tup [.str (xcC x).1,.int 0])):=(Step.same aL s1).trans (Step.new aL hu);refine qq (az c u none) _ u a1 (X1.free (W:=λ_=>False) (λ_=>id) (Step.new id hu)).at aX ?_
    show (upd H1 u (.tup [.str (xcC x).1,.int 0])) u=some (.tup [.str (xcC x).1,.int (xcC x).2]);rw[h0];exact ae
   by_cases hz:z=-1
   ·subst hz;rw[show ((-1:Int).toNat)=0 from rfl,I.no0]at q
    refine⟨_,rfl,dgv rfl X1.ga ⟨aA,_,rfl,.inl ⟨_,ku (-1),.inl X1.aH.2,rfl,rfl⟩,_,rfl,?_⟩⟩;rw[yq];exact cN ⟨(sl 2),λu hu=>say .tZ q rfl u hu⟩
   refine aN λGq gq=>?_
   obtain⟨n,rfl⟩:∃n:Nat,z=(n:Int):=⟨z.toNat,by omega⟩
   rw[Int.toNat_natCast]at q;refine gq ?_;refine⟨_,rfl,dgv rfl X1.ga ⟨aA,_,rfl,.inl ⟨_,ku (n:Int),.inl X1.aH.2,rfl,rfl⟩,_,rfl,?_⟩⟩;cases hx:at1 n st.aH with
   |none =>
    rw[hx]at q;rw[qI (wK hx)];exact cN ⟨(sl 2),λu hu=>say .tZ q rfl u hu⟩
   |some x =>
    refine aN λGq gq=>?_
    rw[hx]at q;dsimp only at q;obtain⟨t,pl,hv,ht,hl⟩:=X1.waitOf hx;refine gq ?_;rw[hv];refine bM ?_;refine⟨_,rfl,m,_,rfl,X1.ga,_,rfl,aA,_,rfl,.inl ⟨_,ku (n:Int),.inl X1.aH.2,rfl,hv.symm⟩,t,[V.int x.2.1,.ref pl],rfl,ht.sq,rfl,_,_,rfl,_,_,rfl,rfl,?_⟩;refine⟨_,rfl,m,_,rfl,X1.gs,_,rfl,_,_,rfl,rfl,_,rfl,fD (λy=>?_) (λy=>?_)⟩
    ·have y':st.aU < x.2.1:=of_decide_eq_true y;rw[if_pos y']at q;refine⟨_,rfl,(sl 2),λu hu=>?_⟩
     have a1:Step (cM i) c (az c u none) H _:=(Step.same aL s1).trans (Step.new (o:=.tup [V.str (ar "not yet"),.int x.2.1]) aL hu);exact q (az c u none) _ u a1 (X1.free (W:=λ_=>False) (λ_=>id) (Step.new id hu)).at aX ae
    ·have y':¬st.aU < x.2.1:=λz=>y (decide_eq_true z)
     rw[if_neg y']at q;have oA:m≠aA:=eh X.co X.aH.1 (λz=>nomatch z)
     refine dgv rfl X1.ga ⟨aA,rfl,.inl ⟨_,.inl X1.aH.2⟩,_,rfl,_,ku (n:Int),_,X1.aH.2,rfl,hv,?_⟩;refine⟨_,rfl,_,rfl,m,_,rfl,pw.k (k:=wt (ar "pile")) ((av oA).trans X1.ob) kc,?_⟩;rw[Cg];refine aN λGq gq=>?_
     obtain⟨c2,ws2,s2,X2⟩:=X1.qZ hl;refine gq ?_;generalize upd (upd H1 aA (.dK (iR (bf ((st.aH.map (·.1)).zip ws)) (ku (n:Int))))) m (.dK (mdF (.int st.aU) (.bl st.closed) (.ref pl) (.ref aA) (.ref aD) (.ref aM)))=H2 at s2 X2 ⊢
     refine⟨_,rfl,(sl 2),λu hu=>?_⟩
     have a1:Step (cM i) c (az c2 u none) H _:=((Step.same aL s1).trans s2.iy).trans (Step.new (o:=.tup [V.str (ar "told"),nV n]) aL hu);exact q (az c2 u none) _ u a1 (X2.free (W:=λ_=>False) (λ_=>id) (Step.new id hu)).at.rows aX ae
end
theorem ly.mnt {c:Col}{H:Hp}{t:Addr}:∀ {d:R.dY},wQ d->ly c H d t->MnT c H (cy d) t
 | .mat cs,_,⟨L,a,b1,b2⟩=>⟨a.1,.ref L,a.2,L,rfl,b1,b2⟩
 | .ed true k j ws,h,⟨e,a,b⟩=>⟨a.1,.ref e,a.2,e,rfl,by rw[<-Fu h.1];exact b⟩
 | .ed false k j ws,h,⟨e,a,b⟩=>⟨a.1,.ref e,a.2,e,rfl,by rw[<-Fu h.1];exact b⟩
 | .pt ws,_,a=>⟨a.1,.str (tu R.bl1 ws),a.2,rfl⟩
 | .nums kd ns,h,a=>by
  rcases wR h.1 with ⟨u,rfl,rfl⟩ | ⟨rfl,rfl⟩ | ⟨rfl,rfl⟩ | ⟨rfl,rfl⟩
  ·rw[cy,if_pos rfl];exact⟨a.1,.int u,a.2,rfl⟩
  ·rw[cy,if_neg (by trivial),if_pos rfl]
   exact⟨a.1,.non,a.2,trivial⟩
  ·rw[cy,if_neg (by trivial),if_neg (by trivial),if_pos rfl]
   exact⟨a.1,.non,a.2,trivial⟩
  ·rw[cy,if_neg (by trivial),if_neg (by trivial),if_neg (by trivial)]
   exact⟨a.1,.non,a.2,trivial⟩
theorem Qc:∀k,k < 8->decide (V.str (nm k)=V.str (ar "vote"))=false:=by trivial
theorem Qd:∀k,k < 8->decide (V.str (nm k)=V.str (ar "drop"))=false:=by trivial
theorem Qe:∀k,k < 8->decide (V.str (nm k)=V.str (ar "take"))=false:=by trivial
theorem Km {st:Ch}{pre:List Nat}{n:Nat}:st.ended pre n nc=(st.popped pre n nc).opened:=by
 unfold Ch.ended;rw[if_neg (by trivial)]
section
variable{P:rf}{w:World}{K:ba}{mg:Str->Option Value}{base:Heap}{A:Adr}
theorem Qf (T:Txt w.params K mg A){i:Nat}:a8 P w K mg base CX0 5 A.OX A.Br ["_law_m","_law_deed_here","_law_seats_here"] (abF i):=by
 refine T.E9.ok Gi (λvs H Q E h=>?_) (λcdv A' outer s H vs Q E hr h=>?_)
 ·obtain⟨m,t,c,st,N,d,rfl,_⟩:=h;rfl
 ·obtain⟨m,t,c,st,N,d,rfl,hm,I,hN,hd,hz,q⟩:=h;obtain⟨aP,aA,aD,aM,ds,ws,es,X⟩:=hm.ex;have hu1:=hr.u1;have jr:=hr.units;have lim:kg=16777216:=by decide
  refine⟨_,(ai (a9 (ay bt (aK aT (pv 1) af (λ_ _=>rfl)) ao (aJ _))
 (aj (aB (aV (Kk (i:=i) T) hr rfl T.DG T.xZ.kp T.DF .nil aW (aa (pv 0) (aa (aK aT (pv 1) af (λ_ _=>rfl)) (aa (aK aT (pv 1) af (λ_ _=>rfl)) (aa (pv 2) ag)))))))
 aC)
 (ai (a9 (ay bt (aK aT (pv 1) af (λ_ _=>rfl)) ao (aJ _))
 (aj (aB (aV (Kl (i:=i) T) (hr.mono (by decide)) rfl T.DI T.ya.kp T.DH .nil aW (aa (pv 0) (aa (aK aT (pv 1) af (λ_ _=>rfl)) ag)))))
 aC)
 (ai (a9 (ay bt (aK aT (pv 1) af (λ_ _=>rfl)) ao (aJ _))
 (ai (a9 (ay (qv jr) (bh hu1 (pv 0) ao (λ_ _=>rfl)) (bS ag) (aJ _))
 (aj (aB (bg (aa ao (aa af ag)))))
 aC)
 (aj (aB (aV (Cs (i:=i) T) (hr.mono (by decide)) rfl T.xY T.tX.kp T.xX .nil aW (aa (pv 0) (aa ao ag))))))
 aC)
 (ai (aY (i:=3) Gi.nd rfl (tm rfl) (aV (Ki (i:=i) T) (hr.mono (by decide)) rfl T.DE T.xW.kp T.DD .nil aW (aa (pv 0) (aa (pv 1) ag))))
 (ai (a9 (ay Ro (pv 3) xp (aJ _))
 (aj (aB (pv 3)))
 aC)
 (ai (bK (gJ si alk alm dj (bh hu1 (pv 0) ao (λ_ _=>rfl)) (aa (bS (aa (pv 1) (aa (pv 1) (aa (bS ag) ag)))) ag)))
 (ai (bK (gJ si alk alm dj (bh hu1 (pv 0) ao (λ_ _=>rfl)) (aa (cA cP (by rfl) T.nY jK (aa (bh hu1 (pv 0) ao (λ_ _=>rfl)) ag)) ag)))
 (aj (aB (bg (aa ao (aa (cA cP (by rfl) T.nY jK (aa (bh hu1 (pv 0) ao (λ_ _=>rfl)) ag)) ag)))))))))))),?_⟩
  try dsimp only[bF]
  cases hd with
  | @Na a b ha hb =>
   rw[qK]at q;have ht:H t=some (.tup [.str (ar "vote"),.int a,.int b]):=hz.2;refine ixv rfl (SqT.of ht) rfl ⟨rfl,tst (decide_eq_true rfl) ?_⟩;exact⟨_,rfl,ixv rfl (SqT.of ht) rfl (ixv rfl (SqT.of ht) rfl ⟨_,rfl,m,a,b,c,st,N,rfl,hm,I,hN,ha,hb,q⟩)⟩
  |drop =>
   rw[qL]at q;have ht:H t=some (.tup [.str (ar "drop")]):=hz.2;refine ixv rfl (SqT.of ht) rfl ⟨rfl,tsf (by trivial) ?_⟩
   refine ixv rfl (SqT.of ht) rfl ⟨rfl,tsf (by trivial) ?_⟩
   refine ixv rfl (SqT.of ht) rfl ⟨rfl,tst (decide_eq_true rfl) ?_⟩;unfold q5 at q;refine dgv rfl X.gp ⟨(sl 0),λp hp=>?_⟩
   have s1:=aG (o:=.lst []) hp;have X1:=X.same s1;refine⟨ia st.au,.list [],jz (SqL.of X1.au.2),ni (SqL.of ae),n9 _,nh,_,rfl,?_⟩;rw[n8];generalize upd H p (.lst [])=H1 at s1 X1 ⊢;rcases ak4 st.au with e | ⟨pre,n,e⟩
   ·rw[e]at q ⊢;refine cN ⟨(sl 2),λu hu=>?_⟩
    have a1:Step (cM i) c (az c u none) H (upd H1 u (.tup [.str (ar "nothing"),.int 0])):=(Step.same aL s1).trans (Step.new aL hu);exact q (az c u none) _ u a1 (X1.free (W:=λ_=>False) (λ_=>id) (Step.new id hu)).at aX ae
   ·rw[ak5]at e;have gl:st.au.getLast?=some n:=by rw[e];exact alK
    have ed:st.au.dropLast=pre:=by rw[e];exact amf
    rw[gl]at q;dsimp only at q;rw[ed]at q;refine yP (by rw[e];simp) ?_
    refine⟨_,rfl,m,nc,c,st,N,pre,n,rfl,X1.at,I,hN,e,(by trivial),λc' H' u s3 h3 cu hu=>?_⟩
    refine q c' H' u ((Step.same aL s1).trans s3) ?_ cu hu;rw[Km]at h3;exact h3.rows
  | @take z h0 h1 =>
   rw[qM]at q;have ht:H t=some (.tup [.str (ar "take"),.int z]):=hz.2;refine ixv rfl (SqT.of ht) rfl ⟨rfl,tsf (by trivial) ?_⟩
   refine ixv rfl (SqT.of ht) rfl ⟨rfl,tst (decide_eq_true rfl) ?_⟩;exact⟨_,rfl,ixv rfl (SqT.of ht) rfl ⟨m,z,c,st,N,rfl,hm,I,hN,h0,h1,q⟩⟩
  |move hd =>
   rw[qN hd]at q;have hmn:=hz.mnt hd;obtain⟨v,ht⟩:=hmn.kind;unfold qf at q;refine ixv rfl (SqT.of ht) dH ⟨rfl,tsf (Qc _ (cy d).k8) ?_⟩;refine ixv rfl (SqT.of ht) dH ⟨rfl,tsf (Qe _ (cy d).k8) ?_⟩;refine ixv rfl (SqT.of ht) dH ⟨rfl,tsf (Qd _ (cy d).k8) ?_⟩;refine⟨_,rfl,_,rfl,m,t,c,st,N,d,rfl,hm,I,hN,hd,hz.c,λFA H1 s1=>?_,λx hx u H1 s1 nu hu=>?_⟩
   case refine_2 =>
    rw[hx]at q;exact⟨_,rfl,rfl,tst rfl ⟨_,rfl,q (bU c H) H1 u (Step.cl aL s1) (X.cl s1).at (bC nu) hu⟩⟩
   rw[FA]at q;dsimp only at q;refine⟨_,rfl,rfl,tsf rfl ?_⟩;have X1:=X.same s1;have aiP:MnT c H1 (cy d) t:=hmn.step (W:=λ_=>False) (Step.same id s1)
   have lm:=I.lm;have el:es.length=st.made.length:=by rw[<-X1.ent.len,qg]
   have lp:=I.pil.C0;rw[bo]at lp;have nf:st.made.length+1∉st.wN:=λz=>by
    have:=(List.mem_filter.mp z).1;rw[amh]at this;omega
   have MP:aM≠aP:=eh X.l6.1 X.au.1 (λz=>nomatch z)
   have oM:m≠aM:=eh X.co X.l6.1 (λz=>nomatch z)
   refine dgv rfl X1.gm ⟨.inl ⟨rfl,_,SqL.of X1.l6.2⟩,_,rfl,_,rfl,(sl 0),λk hk=>⟨(sl 3),λp hp=>?_⟩⟩
   have npk:p≠k:=λz=>by rw[z,ae]at hp;cases hp
   have hp1:H1 p=none:=by rw[av npk]at hp;exact hp
   have s2:=(aG (o:=.lst []) hk).new (o:=.lst [.ref t,.ref t,.ref k]) hp;have X2:=X1.same s2;refine⟨aM,es,.ref p,rfl,rfl,X2.l6.2,by omega,?_⟩
   refine aN λGq gq=>?_
   obtain⟨c',s3,X3⟩:=X1.moved (row:=R.sI d) (by rw[I.kk];exact nf) (by rw[I.ff];exact nf) aiP hk hp1 npk
   refine gq ?_;generalize upd (upd H1 k (.lst [])) p (.lst [.ref t,.ref t,.ref k])=H2 at s2 X2 s3 X3 ⊢;have eln:(((es++[V.ref p]).length:Nat):Int)=((st.made.length+1:Nat):Int):=by rw[ma,el];rfl
   refine dgv rfl (.inl ⟨_,wt (ar "pile"),.inl ((av oM).trans X2.ob),rfl,sU.symm⟩) ⟨.inl ⟨rfl,_,SqL.of ((av MP.symm).trans X2.au.2)⟩,dgv rfl (.inl ⟨_,wt (ar "motions"),.inl ((av oM).trans X2.ob),rfl,y9.symm⟩) ⟨aM,_,rfl,.inl (SqL.of ae),?_⟩⟩;refine⟨aP,st.au.map nV,nV (st.made.length+1),rfl,by rw[eln];rfl,(av MP.symm).trans X2.au.2,by rw[bo];omega,?_⟩
   generalize upd (upd H2 aM (.lst (es++[.ref p]))) aP (.lst (st.au.map nV++[nV (st.made.length+1)]))=H3 at s3 X3 ⊢;refine dgv rfl X3.gm ⟨aM,_,rfl,.inl (SqL.of X3.l6.2),(sl 2),λu hu=>?_⟩
   rw[eln];have a1:Step (cM i) c (az c' u none) H (upd H3 u (.tup [V.str (ar "told"),nV (st.made.length+1)])):=((Step.same aL s1).trans s3.iy).trans (Step.new aL hu);exact q (az c' u none) _ u a1 (X3.free (W:=λ_=>False) (λ_=>id) (Step.new id hu)).at aX ae
theorem Qg (T:Txt w.params K mg A):a8 P w K mg base CX0 1 A.OV A.Bp [] Ss:=by
 refine T.E8.ok OT (λvs H Q E h=>?_) (λcdv A' outer s H vs Q E hr h=>?_)
 ·obtain⟨rfl,_⟩:=h;rfl
 ·obtain⟨rfl,q⟩:=h;refine⟨_,(aj (aB (RO (pA ao af (pA ao lO (pA ao (bS ag) (pA ao pz (pA ao (bS ag) (pA ao (bS ag) RN)))))) rfl rfl (by decide) (by decide)))),?_⟩
  try dsimp only[bF]
  refineλm h0=>⟨(sl 0),λaP h1=>λaA h2=>⟨(sl 0),λaD h3=>⟨(sl 0),λaM h4=>?_⟩⟩⟩
  have s1:=aG (o:=.dK []) h0;have s2:=aG (o:=.lst []) h1;have s3:=aG (o:=.dK []) h2;have s4:=aG (o:=.lst []) h3;have s5:=aG (o:=.lst []) h4;have n1:=same_none s1 h1;have n2:=same_none (s1.trans s2) h2;have n3:=same_none ((s1.trans s2).trans s3) h3;have n4:=same_none (((s1.trans s2).trans s3).trans s4) h4;have m1:m≠aP:=aI ae h1;have m2:m≠aA:=aI (s2 _ _ ae) h2;have m3:m≠aD:=aI ((s2.trans s3) _ _ ae) h3;have m4:m≠aM:=aI (((s2.trans s3).trans s4) _ _ ae) h4;have p2:aP≠aA:=aI ae h2;have p3:aP≠aD:=aI (s3 _ _ ae) h3;have p4:aP≠aM:=aI ((s3.trans s4) _ _ ae) h4;have q3:aA≠aD:=aI ae h3;have q4:aA≠aM:=aI (s4 _ _ ae) h4;have r4:aD≠aM:=aI ae h4;refine⟨(((s2.trans s3).trans s4).trans s5) _ _ ae,mdF (.int 1) (.bl false) (.ref aP) (.ref aA) (.ref aD) (.ref aM),rfl,(by show 6<=15;decide),?_⟩
  rw[WX];refine q m _ λi c n=>⟨az (az (az (az (az c m (some (i,.ob))) aP (some (i,.au))) aA (some (i,.aH))) aD (some (i,.decided))) aM (some (i,.made)),⟨id,?_,?_,?_⟩,aP,aA,aD,aM,[],[],[],?_⟩
  ·exactλa v e _=>(((((s1.trans s2).trans s3).trans s4).trans s5).own h0) a v e
  ·exactλa v e=>⟨v,(((((s1.trans s2).trans s3).trans s4).trans s5).own h0) a v e⟩
  ·intro a v e _;rw[aw (aI e n4),aw (aI e n3),aw (aI e n2),aw (aI e n1),aw (aI e h0)]
  ·refine⟨?_,ae,⟨?_,?_⟩,⟨?_,?_⟩,.nil,⟨?_,?_⟩,.nil,⟨?_,?_⟩,.nil⟩
   ·rw[aw m4,aw m3,aw m2,aw m1,aX]
   ·rw[aw p4,aw p3,aw p2,aX]
   ·rw[av m1.symm,av p4,av p3,av p2,ae];rfl
   ·rw[aw q4,aw q3,aX]
   ·rw[av m2.symm,av q4,av q3,ae];rfl
   ·rw[aw r4,aX]
   ·rw[av m3.symm,av r4,ae];rfl
   ·rw[aX]
   ·rw[av m4.symm,ae]
end
def Qh:Sp:=λvs H Q _=>∃(c n:Int),vs=[.int c,.int n]/\1<=n/\n<=1000000000/\∀(a b:Int) (t:Addr) (H':Hp),(0<=a/\a < 10 ^ 10)->(0<=b/\b < 10 ^ 10)->bw H H'->H t=none->H' t=some (.tup [.str (ar "vote"),.int a,.int b])->Q (.ref t) H'
def Qi (i:Nat):Sp:=λvs H Q _=>∃(m:Addr) (z:Int) (c:Col) (st:Ch) (N:Nat),vs=[.ref m,.int z]/\jD i c H m st/\Inv N st/\∀(j:Int) (H':Hp),0<=j->j < 20->bw H H'->Q (.int j) H'
def Qj (i:Nat):Sp:=λvs H Q _=>∃(m:Addr) (z n:Int) (c:Col) (st:Ch) (N:Nat),vs=[.ref m,.int z,.int n]/\jD i c H m st/\Inv N st/\N<=191/\1<=n/\n<=1000000000 /\
 ∀(d:R.dY) (t:Addr) (H':Hp),sT d->ly (bU c H) H' d t->bw H H'->Q (.ref t) H'
theorem SE {xs:List Int}{j:Int}(h0:0<=j)(h1:j < xs.length)(hx:∀x∈xs,0<=x/\x < 20):∃x:Int,atI (xs.map V.int) j=some (.int x)/\0<=x/\x < 20:=by
 obtain⟨k,rfl⟩:∃k:Nat,j=(k:Int):=⟨j.toNat,by omega⟩
 have hk:k < xs.length:=by omega
 refine⟨xs[k],?_,hx _ (List.getElem_mem hk)⟩;refine cB ?_;rw[aln,adm hk];rfl
section
variable{P:rf}{w:World}{K:ba}{mg:Str->Option Value}{base:Heap}{A:Adr}
theorem Nd (T:Txt w.params K mg A):a8 P w K mg base CX0 1 A.JU A.xQ ["_law_cell","_law_seats_here"] Qh:=by
 refine T.BC.ok pP (λvs H Q E h=>?_) (λcdv A' outer s H vs Q E hr h=>?_)
 ·obtain⟨c,n,rfl,_⟩:=h;rfl
 ·obtain⟨c,n,rfl,n1,n2,q⟩:=h;refine⟨_,(ai (aY (i:=2) pP.nd rfl (tm rfl) (a6 b6 (pv 0) (a6 dI (pv 1) af)))
 (ai (aY (i:=3) pP.nd rfl (tm rfl) (a6 b6 (a6 cO (pv 0) af) (a6 oh (a6 dI (pv 1) af) (pv 2))))
 (ai (a9 (ay bt (a6 b6 (a6 cO (pv 0) af) af) af (aJ _))
 (aj (aY (i:=3) pP.nd rfl (tm rfl) (a6 oh (a6 dI (a6 cO (pv 2) af) (a6 b6 (a6 cO (pv 0) af) af)) af)))
 aC)
 (ai (a9 (ay bt (a6 b6 (a6 cO (pv 0) af) af) af (aJ _))
 (aj (aY (i:=3) pP.nd rfl (tm rfl) (a6 dI (a6 oh (pv 1) (pv 2)) (a6 b6 (a6 cO (pv 0) af) af))))
 aC)
 (aj (aB (bg (aa ao (aa (pv 2) (aa (cA (pe rfl) (by rfl) T.DQ AV (aa af (aa (pv 3) ag))) ag)))))))))),?_⟩
  try dsimp only[bF]
  have a0:0<=c % (n+1):=alH _ (by omega)
  have a1:c % (n+1) < n+1:=aly _ (by omega)
  refine⟨_,rfl,_,rfl,_,_,rfl,rfl,_,_,rfl,rfl,(by show (0:Int) < n+1;omega),?_⟩
  dsimp only[dh];generalize c % (n+1)=a at a0 a1 ⊢;refine⟨_,rfl,_,_,rfl,rfl,⟨by decide,by decide⟩,_,rfl,_,_,rfl,rfl,_,rfl,_,_,rfl,rfl,_,_,rfl,rfl,(by show (0:Int) < n+1 - a;omega),?_⟩
  dsimp only[dh];have b0:0<=c / 7 % (n+1 - a):=alH _ (by omega)
  have b1:c / 7 % (n+1 - a) < n+1 - a:=aly _ (by omega)
  generalize c / 7 % (n+1 - a)=b at b0 b1 ⊢;refine eN (λσ' H'=>H'=H/\∃b:Int,σ'=[some (.int c),some (.int n),some (.int a),some (.int b)]/\-1<=b/\b < 10000000000) ?r (λN' nN=>?f)
  case f =>
   refine⟨_,rfl,_,_,rfl,rfl,⟨by decide,by decide⟩,_,_,rfl,rfl,(by show (0:Int) < 4;decide),rfl,_,rfl,fD (λ_=>?_) (λ_=>?_)⟩
   ·refine⟨_,rfl,_,_,rfl,rfl,⟨by decide,by decide⟩,_,rfl,_,_,rfl,rfl,⟨by decide,by decide⟩,_,_,rfl,rfl,(by show (0:Int) < 3;decide),_,_,rfl,rfl,_,_,rfl,rfl,nN _ _ ⟨rfl,_,rfl,?_,?_⟩⟩
    ·omega
    ·omega
   ·exact nN _ _ ⟨rfl,b,rfl,by omega,by omega⟩
  case r =>
   rintro σ2 H2 ⟨rfl,b,rfl,c0,c1⟩;refine eN (λσ' H'=>H'=H2/\∃b:Int,σ'=[some (.int c),some (.int n),some (.int a),some (.int b)]/\-1<=b/\b < 10000000000) ?r (λN' nN=>?f)
   case f =>
    refine⟨_,rfl,_,_,rfl,rfl,⟨by decide,by decide⟩,_,_,rfl,rfl,(by show (0:Int) < 16;decide),rfl,_,rfl,fD (λ_=>?_) (λ_=>?_)⟩
    ·refine⟨_,rfl,_,rfl,_,_,rfl,rfl,_,rfl,_,_,rfl,rfl,⟨by decide,by decide⟩,_,_,rfl,rfl,(by show (0:Int) < 2;decide),_,_,rfl,rfl,nN _ _ ⟨rfl,_,rfl,?_,?_⟩⟩
     ·omega
     ·omega
    ·exact nN _ _ ⟨rfl,b,rfl,by omega,by omega⟩
   case r =>
    rintro σ3 H3 ⟨rfl,b,rfl,c0,c1⟩;refine⟨_,rfl,_,rfl,_,_,rfl,(sl 3),λu hu=>?_⟩
    refine q a (if b > 0 then b else 0) u _ ⟨a0,by omega⟩ ⟨?_,?_⟩ (aG hu) hu ae
    ·split <;> omega
    ·split <;> omega
theorem GY (T:Txt w.params K mg A){i:Nat}:a8 P w K mg base CX0 2 A.Bs A.r6 ["_law_m","_law_way"] (Qi i):=by
 refine T.uZ.ok yQ (λvs H Q E h=>?_) (λcdv A' outer s H vs Q E hr h=>?_)
 ·obtain⟨m,z,c,st,N,rfl,_⟩:=h;rfl
 ·obtain⟨m,z,c,st,N,rfl,hm,I,q⟩:=h;obtain⟨aP,aA,aD,aM,ds,ws,es,X⟩:=hm.ex;have hu1:=hr.u1;have jr:=hr.units;refine⟨_,(ai (a9 (ay (qv jr) (bh hu1 (pv 0) ao (λ_ _=>rfl)) (bS ag) (aJ _))
 (aj (aB (aK bx (bS (aa af (aa af (aa af (aa af (aa af ag)))))) (a6 b6 (pv 1) af) (λ_ _=>rfl))))
 aC)
 (ai (aY (i:=2) yQ.nd rfl (tm rfl) (aV (nj (i:=i) T) hr rfl T.kR T.jk.kp T.kQ .nil aW (aa (pv 0) (aa (aK bx (bh hu1 (pv 0) ao (λ_ _=>rfl)) (jE gv af) (λ_ _=>rfl)) ag))))
 (ai (a9 (ay bt (aK aT (pv 2) af (λ_ _=>rfl)) ao (aJ _))
 (aj (aB (aK bx (bS (aa af (aa af (aa af (aa af (aa af (aa af (aa af ag)))))))) (a6 b6 (pv 1) af) (λ_ _=>rfl))))
 aC)
 (ai (a9 (PW.pt (pw_and (ay bt (aK aT (pv 2) af (λ_ _=>rfl)) ao (aJ _)) (pw_and1 (ay AM (aK aT (aK aT (pv 2) af (λ_ _=>rfl)) af (λ_ _=>rfl)) ao (aJ _)))))
 (aj (aB (aK bx (bS (aa af (aa af (aa af (aa af (aa af ag)))))) (a6 b6 (pv 1) af) (λ_ _=>rfl))))
 aC)
 (aj (aB (aK bx (bS (aa af (aa af (aa af (aa af (aa af ag)))))) (a6 b6 (pv 1) af) (λ_ _=>rfl)))))))),?_⟩
  try dsimp only[bF]
  have say:∀(xs:List Int) (k:Int) (H1:Hp) (p:Addr),bw H H1->H1 p=none->k=(xs.length:Int)->0 < k->(∀x∈xs,0<=x/\x < 20)->∀R:V->Hp->Prop,(∀x:Int,Q (.int x) (upd H1 p (.lst (xs.map V.int)))->R (.int x) (upd H1 p (.lst (xs.map V.int))))->∃x,atI (xs.map V.int) (z % k)=some x/\R x (upd H1 p (.lst (xs.map V.int))):=by
   intro xs k H1 p s1 hp ek hk hx R hR;obtain⟨x,h1,h2,h3⟩:=SE (j:=z % k) (alH _ (by omega)) (by rw[<-ek];exact aly _ hk) hx
   exact⟨_,h1,hR x (q x _ h2 h3 (s1.new hp))⟩
  refine dgv rfl X.gp ⟨(sl 0),λp hp=>?_⟩
  have s1:=aG (o:=.lst []) hp;have X1:=X.same s1;refine⟨ia st.au,.list [],jz (SqL.of X1.au.2),ni (SqL.of ae),n9 _,nh,_,rfl,?_⟩;rw[n8];generalize upd H p (.lst [])=H1 at s1 X1 ⊢;rcases ak4 st.au with e | ⟨pre,n,e⟩
  ·rw[e];refine cN ⟨(sl 5),λp2 hp2=>?_⟩
   refine aN λGq gq=>?_
   obtain⟨x,h1,h2⟩:=say [0,1,18,10,0] 5 H1 p2 s1 hp2 rfl (by decide) (by decide) (λv H=>Q v H) (λ_ h=>h)
   refine gq ?_;exact⟨_,rfl,_,_,rfl,rfl,(by show (0:Int) < 5;decide),p2,_,_,_,rfl,rfl,SqL.of ae,h1,h2⟩
  rw[ak5]at e;have hn:=I.bL n (by rw[e];simp)
  have h0:atI (st.au.map nV) (-1)=some (nV n):=by rw[e,ko];exact gH _ _
  refine yP (by rw[e];simp) ?_
  refine⟨_,rfl,_,rfl,m,_,rfl,X1.gp,_,rfl,aP,_,_,_,rfl,rfl,SqL.of X1.au.2,h0,m,n,c,st,rfl,X1.at,hn,λt ht=>?_⟩
  refine aN λGq gq=>?_
  obtain⟨_,v,hv,hvv⟩:=ht;refine gq ?_;refine ixv rfl (SqT.of hv) dH ⟨rfl,_,rfl,fD (λ_=>?_) (λ_=>?_)⟩
  ·refine⟨(sl 7),λp2 hp2=>?_⟩
   refine aN λGq gq=>?_
   obtain⟨x,h1,h2⟩:=say [2,3,4,12,7,9,8] 7 H1 p2 s1 hp2 rfl (by decide) (by decide) (λv H=>Q v H) (λ_ h=>h)
   refine gq ?_;exact⟨_,rfl,_,_,rfl,rfl,(by show (0:Int) < 7;decide),p2,_,_,_,rfl,rfl,SqL.of ae,h1,h2⟩
  refine ixv rfl (SqT.of hv) dH ⟨rfl,_,rfl,?_⟩;rw[b7 _ (st.mo n).k8]
  by_cases h1:(st.mo n).k=1
  case neg =>
   rw[decide_eq_false h1];refine bM (bM ⟨(sl 5),λp2 hp2=>?_⟩)
   refine aN λGq gq=>?_
   obtain⟨x,h1,h2⟩:=say [12,13,12,14,15] 5 H1 p2 s1 hp2 rfl (by decide) (by decide) (λv H=>Q v H) (λ_ h=>h)
   refine gq ?_;exact⟨_,rfl,_,_,rfl,rfl,(by show (0:Int) < 5;decide),p2,_,_,_,rfl,rfl,SqL.of ae,h1,h2⟩
  rw[decide_eq_true h1];refine aN λGq gq=>?_
  obtain⟨e,emo⟩:∃e,st.mo n=.chg e:=by
   cases hmo:st.mo n with
   |chg e=>exact⟨e,rfl⟩
   |_=>rw[hmo]at h1;simp[Mn.k]at h1
  rw[emo]at hv hvv;obtain⟨tc,rfl,htc⟩:=hvv;refine gq ?_;refine cN (ixv rfl (SqT.of hv) rfl ⟨tc,_,_,_,rfl,rfl,htc.sq,oz e,rfl,_,rfl,fD (λ_=>?_) (λ_=>?_)⟩)
  ·refine⟨(sl 5),λp2 hp2=>?_⟩
   refine aN λGq gq=>?_
   obtain⟨x,h1,h2⟩:=say [5,6,5,12,14] 5 H1 p2 s1 hp2 rfl (by decide) (by decide) (λv H=>Q v H) (λ_ h=>h)
   refine gq ?_;exact⟨_,rfl,_,_,rfl,rfl,(by show (0:Int) < 5;decide),p2,_,_,_,rfl,rfl,SqL.of ae,h1,h2⟩
  ·refine⟨(sl 5),λp2 hp2=>?_⟩
   refine aN λGq gq=>?_
   obtain⟨x,h1,h2⟩:=say [12,13,12,14,15] 5 H1 p2 s1 hp2 rfl (by decide) (by decide) (λv H=>Q v H) (λ_ h=>h)
   refine gq ?_;exact⟨_,rfl,_,_,rfl,rfl,(by show (0:Int) < 5;decide),p2,_,_,_,rfl,rfl,SqL.of ae,h1,h2⟩
end
theorem abG {N:Nat}{e:Ed}(h:EdB (12+N) e)(hN:N<=800):e.th.length+2<=kg/\(R.bq e.th).length<=900:=by
 have lim:kg=16777216:=by decide
 have h1:=(h.ok (by omega)).th.len
 have h2:=h.words.2;exact⟨by omega,by omega⟩
theorem GZ:∀(as:List (Nat×Int×List Nat)) (ws:List V),as.length=ws.length->(bf ((as.map (·.1)).zip ws)).map (·.1)=(as.map λx=>(x.1:Int)).map ku:=by
 intro as
 induction as with
 |nil=>intro ws _;cases ws <;> rfl
 |cons a as ih =>
  intro ws h;cases ws with
  |nil=>cases h
  |cons w ws =>
   rw[km,dE,km,ih ws (by simpa using h)]
   rfl
section
variable{P:rf}{w:World}{K:ba}{mg:Str->Option Value}{base:Heap}{A:Adr}
theorem Nf (T:Txt w.params K mg A){i:Nat}:a8 P w K mg base CX0 3 A.JV A.xR ["_law_m","_law_cell","_law_seats_here"] (Qj i):=by
 have iP:a8 P w K mg base CX0 2 A.rZ A.k9 ["_law_cell"] vo:=za T;refine T.BF.ok eY (λvs H Q E h=>?_) (λcdv A' outer s H vs Q E hr h=>?_)
 ·obtain⟨m,z,n,c,st,N,rfl,_⟩:=h;rfl
 ·obtain⟨m,z,n,c,st,N,rfl,hm,I,hN,n1,n2,q⟩:=h;obtain⟨aP,aA,aD,aM,ds,ws,es,X⟩:=hm.ex;have hu1:=hr.u1;have jr:=hr.units;have g0:Room 2 _:=hr;refine⟨_,(ai (aY (i:=3) eY.nd rfl (tm rfl) (a6 b6 (pv 1) af))
 (ai (aY (i:=4) eY.nd rfl (Or.inr rfl) (a6 cO (pv 1) af))
 (ai (a9 (ay AN (a6 b6 (pv 4) af) af (aJ _))
 (aj (aY (i:=3) eY.nd rfl (tm rfl) (aV (GY (i:=i) T) hr rfl T.BE T.uZ.kp T.BD .nil aW (aa (pv 0) (aa (pv 3) ag)))))
 aC)
 (ai (aY (i:=4) eY.nd rfl (Or.inr rfl) (a6 cO (pv 4) af))
 (ai (aY (i:=5) eY.nd rfl (tm rfl) af)
 (ai (aY (i:=6) eY.nd rfl (tm rfl) ao)
 (ai (a9 (ay (uG jr) (bh hu1 (pv 0) ao (λ_ _=>rfl)) (bS ag) (aJ _))
 (ai (aY (i:=7) eY.nd rfl (tm rfl) (aV (nj (i:=i) T) (hr.mono (by decide)) rfl T.kR T.jk.kp T.kQ .nil aW (aa (pv 0) (aa (aK bx (bh hu1 (pv 0) ao (λ_ _=>rfl)) af (λ_ _=>rfl)) ag))))
 (ai (aY (i:=8) eY.nd rfl (tm rfl) (aV (nj (i:=i) T) (hr.mono (by decide)) rfl T.kR T.jk.kp T.kQ .nil aW (aa (pv 0) (aa (aK bx (bh hu1 (pv 0) ao (λ_ _=>rfl)) (jE gv af) (λ_ _=>rfl)) ag))))
 (ai (a9 (ay bt (aK aT (pv 7) af (λ_ _=>rfl)) ao (aJ _))
 (aj (aY (i:=5) eY.nd rfl (tm rfl) (cA cP (by rfl) T.nY jK (aa (aK aT (pv 7) af (λ_ _=>rfl)) ag))))
 aC)
 (aj (a9 (PW.pt (pw_and (ay bt (aK aT (pv 8) af (λ_ _=>rfl)) ao (aJ _)) (pw_and1 (ay AM (aK aT (aK aT (pv 8) af (λ_ _=>rfl)) af (λ_ _=>rfl)) ao (aJ _)))))
 (aj (aY (i:=6) eY.nd rfl (tm rfl) (aK aT (aK aT (pv 8) af (λ_ _=>rfl)) af (λ_ _=>rfl))))
 aC)))))
 aC)
 (ai (a9 (ay rK (pv 3) af (aJ _))
 (aj (aB (bg (aa ao (aa (Aq (scope:=vV) Gj rfl (xq rfl T.AA (aa (a6 b6 (pv 4) af) ag)) (λ_ _ _ _ _=>(aV iP g0 rfl T.iN T.gN.kp T.iM .nil aW (aa (a6 dI (a6 cO (pv 5) af) (a6 uE af (pv 0))) ag)))) ag)))))
 aC)
 (ai (a9 (ay rK (pv 3) af (aJ _))
 (aj (aB (bg (aa ao (aa (aV (D8 T) (hr.mono (by decide)) rfl T.Bw T.wj.kp T.Bv .nil aW (aa (pv 4) (aa (pv 5) (aa (aV iP g0 rfl T.iN T.gN.kp T.iM .nil aW (aa (a6 cO (pv 4) af) ag)) ag)))) ag)))))
 aC)
 (ai (a9 (ay rK (pv 3) af (aJ _))
 (aj (aB (bg (aa ao (aa (aV (D8 T) (hr.mono (by decide)) rfl T.Bw T.wj.kp T.Bv .nil aW (aa (pv 4) (aa (cA cP (by rfl) T.nY jK (aa (aV (qO T) (hr.mono (by decide)) rfl T.pW T.mz.kp T.pV .nil aW (aa (pv 6) ag)) ag)) (aa (aV (yu T) (hr.mono (by decide)) rfl T.wg T.sy.kp T.we .nil aW (aa (a6 cO (pv 4) af) ag)) ag)))) ag)))))
 aC)
 (ai (a9 (ay bt (pv 3) af (aJ _))
 (aj (aB (bg (aa ao (aa (cA (pe rfl) (by rfl) T.DQ AV (aa af (aa (a6 oh (a6 dI (bh hu1 (pv 0) ao (λ_ _=>rfl)) (a6 b6 (pv 4) af)) af) ag))) ag)))))
 aC)
 (ai (a9 (ay rK (pv 3) af (aJ _))
 (aj (aB (aK bx (bS (aa (bg (aa ao ag)) (aa (bg (aa ao ag)) (aa (bg (aa ao ag)) ag)))) (a6 oh (pv 3) af) (λ_ _=>rfl))))
 aC)
 (ai (a9 (ay bt (pv 3) af (aJ _))
 (aj (aB (bg (aa ao (aa (aV iP g0 rfl T.iN T.gN.kp T.iM .nil aW (aa (pv 4) ag)) ag)))))
 aC)
 (ai (a9 (ay rK (pv 3) af (aJ _))
 (aj (aB (bg (aa ao (aa (a6 dI af (a6 b6 (pv 4) (pv 2))) (aa af ag))))))
 aC)
 (ai (a9 (ay rK (pv 3) af (aJ _))
 (aj (aB (aV (Nd T) (hr.mono (by decide)) rfl T.Gr T.BC.kp T.Gp .nil aW (aa (pv 4) (aa (pv 2) ag)))))
 aC)
 (ai (a9 (ay bt (pv 3) af (aJ _))
 (aj (aB (bg (aa ao ag))))
 aC)
 (ai (a9 (PW.pt (pw_and (ay (RS hu1) (bh hu1 (pv 0) ao (λ_ _=>rfl)) pz (aJ _)) (pw_and1 (ay AN (a6 b6 (pv 4) af) af (aJ _)))))
 (aj (aB (bg (aa ao (aa (aK bx (cA (vR hr.hd) (by rfl) T.BL Dx (aa (bh hu1 (pv 0) ao (λ_ _=>rfl)) ag)) (a6 b6 (a6 cO (pv 4) af) (cA Dw (by rfl) T.nY jK (aa (bh hu1 (pv 0) ao (λ_ _=>rfl)) ag))) (λ_ _=>rfl)) ag)))))
 aC)
 (aj (aB (bg (aa ao (aa (a6 oh (a6 b6 (a6 cO (pv 4) af) (a6 dI (cA cP (by rfl) T.nY jK (aa (bh hu1 (pv 0) ao (λ_ _=>rfl)) ag)) af)) af) ag)))))))))))))))))))))),?_⟩
  try dsimp only[bF]
  have lim:kg=16777216:=by decide
  have e10:(10:Int) ^ 10=10000000000:=by decide
  refine⟨_,rfl,_,_,rfl,rfl,(by show (0:Int) < 20;decide),_,rfl,_,_,rfl,rfl,⟨by decide,by decide⟩,?_⟩
  dsimp only[dh];have y0:0<=z % 20:=alH _ (by decide)
  have y1:z % 20 < 20:=aly _ (by decide)
  generalize z % 20=y at y0 y1 ⊢;generalize z / 20=x;refine eN (λσ' H'=>∃y:Int,σ'=[some (.ref m),some (.int z),some (.int n),some (.int y),some (.int x),none,none,none,none]/\0<=y/\y < 20/\bw H H') ?r1 (λN' nN=>?f1)
  case f1 =>
   refine⟨_,rfl,_,_,rfl,rfl,(by show (0:Int) < 3;decide),_,_,rfl,rfl,_,rfl,fD (λ_=>?_) (λ_=>?_)⟩
   ·exact⟨_,rfl,_,rfl,m,y,c,st,N,rfl,hm,I,λj H1 j0 j1 s1=>nN _ _ ⟨j,rfl,j0,j1,s1⟩⟩
   ·exact nN _ _ ⟨y,rfl,y0,y1,λ_ _ h=>h⟩
  case r1 =>
  clear y0 y1;rintro σ1 H1 ⟨y,rfl,y0,y1,s1⟩;refine⟨_,rfl,_,_,rfl,rfl,⟨by decide,by decide⟩,?_⟩
  dsimp only[dh];generalize x / 3=x;refine eN (λσ' H'=>σ'=[some (.ref m),some (.int z),some (.int n),some (.int y),some (.int x),some (.int 1),none,none,none]/\H'=H1) ?ra (λN' nN=>nN _ _ ⟨rfl,rfl⟩)
  case ra =>
  rintro σa Ha ⟨rfl,rfl⟩;refine eN (λσ' H'=>σ'=[some (.ref m),some (.int z),some (.int n),some (.int y),some (.int x),some (.int 1),some (.str (ar "")),none,none]/\H'=Ha) ?rb (λN' nN=>nN _ _ ⟨rfl,rfl⟩)
  case rb =>
  rintro σb H1 ⟨rfl,rfl⟩;refine eN (λσ' H'=>∃(k:Int) (cl:Str) (v7 v8:Option V),σ'=[some (.ref m),some (.int z),some (.int n),some (.int y),some (.int x),some (.int k),some (.str cl),v7,v8]/\0<=k/\k<=900/\cl.length+2<=kg/\(R.bq cl).length<=900/\bw H H') ?r2 (λN' nN=>?f2)
  case f2 =>
   have X1:=X.same s1;refine dgv rfl X1.gp ⟨(sl 0),λp hp=>?_⟩
   have s2:=s1.new (o:=.lst []) hp;have X2:=X.same s2;refine⟨ia st.au,.list [],jz (SqL.of X2.au.2),ni (SqL.of ae),n9 _,nh,_,rfl,?_⟩;rw[n8];generalize upd H1 p (.lst [])=H2 at s2 X2 ⊢;rcases ak4 st.au with e | ⟨pre,t,e⟩
   ·rw[e];exact bM (nN _ _ ⟨1,_,_,_,rfl,by decide,by decide,by trivial,by trivial,s2⟩)
   refine aN λGq gq=>?_
   rw[ak5]at e;obtain⟨b,r,eb⟩:∃b r,st.au=b::r:=by
    cases hp:st.au with
    |nil=>rw[hp]at e;simp at e
    |cons b r=>exact⟨b,r,rfl⟩
   have hb:=I.bL b (by rw[eb];simp)
   have ht:=I.bL t (by rw[e];simp)
   have hA0:atI (st.au.map nV) 0=some (nV b):=by rw[eb];exact cB (j:=0) rfl
   have hA1:atI (st.au.map nV) (-1)=some (nV t):=by rw[e,ko];exact gH _ _
   refine gq ?_;refine yO (by rw[eb];rfl) ?_
   refine⟨_,rfl,dgv rfl X2.gp ⟨aP,_,_,_,rfl,rfl,SqL.of X2.au.2,hA0,m,b,c,st,rfl,X2.at,hb,λtb htb=>?_⟩⟩
   refine⟨_,rfl,_,rfl,m,_,rfl,X2.gp,_,rfl,aP,_,_,_,rfl,rfl,SqL.of X2.au.2,hA1,m,t,c,st,rfl,X2.at,ht,λtt htt=>?_⟩
   refine aN λGq gq=>?_
   obtain⟨_,vb,hvb,abH⟩:=htb;obtain⟨_,vt,hvt,abI⟩:=htt;refine gq ?_;dsimp only[dh];refine eN (λσ' H'=>∃(k:Int),σ'=[some (.ref m),some (.int z),some (.int n),some (.int y),some (.int x),some (.int k),some (.str (ar "")),some (.ref tb),some (.ref tt)]/\0<=k/\k<=900/\H'=H2) ?r3 (λN2 nN2=>?f3)
   case f3 =>
    refine ixv rfl (SqT.of hvb) dH ⟨rfl,_,rfl,?_⟩;rw[vj _ (st.mo b).k8]
    by_cases h0:(st.mo b).k=0
    case neg =>
     rw[decide_eq_false h0];exact bM (nN2 _ _ ⟨1,rfl,by decide,by decide,rfl⟩)
    rw[decide_eq_true h0];refine aN λGq gq=>?_
    have hmo:=I.ue hb;obtain⟨tx,etx⟩:∃tx,st.mo b=.mat tx:=by
     cases hmo:st.mo b with
     |mat tx=>exact⟨tx,rfl⟩
     |_=>rw[hmo]at h0;simp[Mn.k]at h0
    rw[etx]at hvb abH hmo;obtain⟨L,rfl,hL⟩:=abH;have hl:tx.length<=12+N:=hmo.1;refine gq ?_;refine cN (ixv rfl (SqT.of hvb) rfl ⟨L,_,rfl,.inl (SqL.of hL.2),nN2 _ _ ⟨_,rfl,?_,?_,rfl⟩⟩)
    ·omega
    ·rw[bo];omega
   case r3 =>
   rintro σ3 H3 ⟨k,rfl,k0,k1,rfl⟩;refine ixv rfl (SqT.of hvt) dH ⟨rfl,_,rfl,?_⟩;rw[b7 _ (st.mo t).k8]
   by_cases h1:(st.mo t).k=1
   case neg =>
    rw[decide_eq_false h1];exact bM (bM (nN _ _ ⟨k,_,_,_,rfl,k0,k1,by trivial,by trivial,s2⟩))
   rw[decide_eq_true h1];refine aN λGq gq=>?_
   have hmo:=I.ue ht;obtain⟨e,emo⟩:∃e,st.mo t=.chg e:=by
    cases hmo:st.mo t with
    |chg e=>exact⟨e,rfl⟩
    |_=>rw[hmo]at h1;simp[Mn.k]at h1
   rw[emo]at hvt abI hmo;have aiQ:EdB (12+N) e:=hmo;obtain⟨tc,rfl,htc⟩:=abI;refine gq ?_;refine cN (ixv rfl (SqT.of hvt) rfl ⟨tc,_,_,_,rfl,rfl,htc.sq,oz e,rfl,_,rfl,?_⟩);rw[AD]
   by_cases hk1:e.k=1
   ·rw[decide_eq_true hk1];exact bM (nN _ _ ⟨k,_,_,_,rfl,k0,k1,by trivial,by trivial,s2⟩)
   ·rw[decide_eq_false hk1];obtain⟨z1,z2⟩:=abG aiQ (by omega)
    exact cN (ixv rfl (SqT.of hvt) rfl ⟨tc,_,_,_,rfl,rfl,htc.sq,vd hk1,nN _ _ ⟨k,_,_,_,rfl,k0,k1,z1,z2,s2⟩⟩)
  case r2 =>
  clear s1;rintro σ2 H2 ⟨k,cl,v7,v8,rfl,k0,k1,c1,c2,s2⟩;have X2:=X.same s2;have tup:∀(d:R.dY) (H3:Hp) (t:Addr) (xs:List V),sT d->bw H H3->H3 t=none->(ly (bU c H) (upd H3 t (.tup xs)) d t)->Q (.ref t) (upd H3 t (.tup xs)):=λd H3 t xs o s3 ht dz=>q d t _ o dz (s3.new ht)
  have num:∀(kd:Str) (ns:List Int) (H3:Hp) (t:Addr),sT (.nums kd ns)->bw H H3->H3 t=none->Q (.ref t) (upd H3 t (.tup (.str kd::ns.map V.int))):=λkd ns H3 t o s3 ht=>tup _ H3 t _ o s3 ht ⟨bC (same_none s3 ht),ae⟩
  refine⟨_,rfl,_,_,rfl,rfl,_,rfl,fD (λ_=>?_) (λg1=>?_)⟩
  ·refine⟨_,rfl,_,_,rfl,rfl,(by show (0:Int) < 5;decide),_,rfl,by omega,by omega,λW hW=>?_⟩
   dsimp only;generalize hm:(x % 5).toNat=mm;have m6:mm<=5:=by omega
   refine JD (lo:=0) (n:=mm) (λi ys H3=>∃cs:List (List Str),ys=(cs.map (tu R.bl1)).map V.str/\cs.length=i/\(∀x∈cs,R.B1 12 x)/\bw H2 H3/\H3 W=some (.lst ys))
    ⟨[],rfl,rfl,(λx hx=>nomatch hx),aG hW,ae⟩ (by omega) ?_ ?_ ?_
   ·rintro i ys H3 hi ⟨cs,rfl,hl,hg,s3,h3⟩;exact⟨h3,by rw[bo,bo];exact hl⟩
   ·rintro i ys H3 hi ⟨cs,rfl,hl,hg,s3,h3⟩;refine⟨_,rfl,_,_,rfl,rfl,⟨by decide,by decide⟩,_,rfl,_,_,rfl,rfl,.inl ⟨by decide,by decide⟩,_,_,rfl,rfl,_,rfl,λus H4 hus s4=>?_⟩
    refine eD.mk hi (s4 _ _ h3) ⟨cs++[us],by simp,by simp[hl],λe he=>?_,(s3.trans s4).own hW,ae⟩
    rcases List.mem_append.mp he with he | he
    ·exact hg e he
    ·rw[List.mem_singleton.mp he];exact hus
   ·rintro ys H3 ⟨cs,rfl,hl,hg,s3,h3⟩;refine⟨(sl 2),λt ht=>?_⟩
    have nW:W≠t:=aI h3 ht;refine tup (.mat cs) H3 t _ (.move ⟨by omega,hg⟩) (s2.trans s3) ht ⟨W,⟨bC (same_none (s2.trans s3) ht),ae⟩,bC (same_none s2 hW),(av nW).trans h3⟩
  refine⟨_,rfl,_,_,rfl,rfl,_,rfl,fD (λ_=>?_) (λg2=>?_)⟩
  ·refine⟨_,rfl,_,rfl,_,rfl,_,_,rfl,rfl,⟨by decide,by decide⟩,_,rfl,λus H3 hus s3=>?_⟩
   refine⟨_,k,_,rfl,k0,k1,λkk j e H4 hk j0 j1 s4 ne he=>⟨(sl 2),λt ht=>?_⟩⟩
   have s24:=s2.trans (s3.trans s4);have net:e≠t:=aI he ht;exact tup (.ed false kk j us) H4 t _ (.move ⟨hk,⟨by omega,by omega⟩,hus,λz=>nomatch z⟩) s24 ht ⟨e,⟨bC (same_none s24 ht),ae⟩,bC (same_none (s2.trans s3) ne),.inl ((av net).trans he)⟩
  refine⟨_,rfl,_,_,rfl,rfl,_,rfl,fD (λ_=>?_) (λg3=>?_)⟩
  ·refine⟨_,rfl,_,rfl,cl,rfl,c1,λp hp=>⟨p,_,rfl,.inl (SqL.of ae),_,rfl,_,_,rfl,rfl,⟨by decide,by decide⟩,_,rfl,λu hu=>?_⟩⟩
   have s3:=s2.new (o:=.lst ((R.bq cl).map V.str)) hp;refine⟨_,_,_,rfl,by omega,by rw[bo];omega,λkk j e H4 hk j0 j1 s4 ne he=>⟨(sl 2),λt ht=>?_⟩⟩
   have s24:=s3.trans s4;have net:e≠t:=aI he ht;have ju:tu R.bl1 [u]=u:=by rfl
   refine tup (.ed true kk j [u]) H4 t _ (.move ⟨hk,⟨by omega,by omega⟩,⟨(by show 1<=12;decide),λz hz=>by rw[List.mem_singleton.mp hz];exact hu⟩,λ_=>rfl⟩) s24 ht ⟨e,⟨bC (same_none s24 ht),ae⟩,bC (same_none s3 ne),.inl ((av net).trans ?_)⟩
   rw[ju];exact he
  refine⟨_,rfl,rfl,_,rfl,fD (λ_=>?_) (λg4=>?_)⟩
  ·refine dgv rfl X2.gs ⟨_,rfl,_,_,rfl,rfl,(by show (0:Int) < 4;decide),_,_,rfl,rfl,_,_,rfl,rfl,_,_,rfl,(sl 2),λt ht=>?_⟩
   have hs:=I.sit;have x0:0<=x % 4:=alH _ (by decide)
   have x1:x % 4 < 4:=aly _ (by decide)
   refine num (ar "put off") [if st.aU+x % 4 - 1 > 1 then st.aU+x % 4 - 1 else 1] H2 t (.move ⟨by unfold kS;simp,λi hi=>?_⟩) s2 ht
   rw[List.mem_singleton.mp hi,e10];split <;> omega
  refine⟨_,rfl,_,_,rfl,rfl,_,rfl,fD (λg5=>?_) (λg5=>?_)⟩
  ·have y8:8<=y:=by
    have a1:¬y < 7:=λz=>g3 (decide_eq_true z)
    have a2:¬y=7:=λz=>g4 (decide_eq_true (by rw[z]))
    omega
   have y11:y < 11:=of_decide_eq_true g5;refine⟨(sl 1),λt1 h1=>⟨(sl 1),λt2 h2=>⟨(sl 1),λt3 h3=>⟨(sl 3),λp hp=>?_⟩⟩⟩⟩
   have s3:=s2.new (o:=.tup [V.str (ar "close")]) h1;have s4:=s3.new (o:=.tup [V.str (ar "lay")]) h2;have s5:=s4.new (o:=.tup [V.str (ar "rest")]) h3;have s6:=s5.new (o:=.lst [V.ref t1,.ref t2,.ref t3]) hp;have w2:=aG (o:=.tup [V.str (ar "lay")]) h2;have w3:=aG (o:=.tup [V.str (ar "rest")]) h3;have w4:=aG (o:=.lst [V.ref t1,.ref t2,.ref t3]) hp;have pick:y - 8=0\/y - 8=1\/y - 8=2:=by omega
   refine⟨_,rfl,_,_,rfl,rfl,?_⟩;dsimp only;have mk:∀kd,(kd,0)∈kS->sT (.nums kd []):=λkd h=>.move ⟨h,λi hi=>nomatch hi⟩
   rcases pick with e | e | e <;> rw[e]
   ·refine⟨p,_,_,_,rfl,rfl,SqL.of ae,rfl,q (.nums (ar "close") []) t1 _ (mk _ (by unfold kS;simp)) ⟨bC (same_none s2 h1),?_⟩ s6⟩
    exact((w2.trans w3).trans w4) _ _ ae
   ·refine⟨p,_,_,_,rfl,rfl,SqL.of ae,rfl,q (.nums (ar "lay") []) t2 _ (mk _ (by unfold kS;simp)) ⟨bC (same_none s3 h2),?_⟩ s6⟩
    exact(w3.trans w4) _ _ ae
   ·refine⟨p,_,_,_,rfl,rfl,SqL.of ae,rfl,q (.nums (ar "rest") []) t3 _ (mk _ (by unfold kS;simp)) ⟨bC (same_none s4 h3),?_⟩ s6⟩
    exact w4 _ _ ae
  refine⟨_,rfl,rfl,_,rfl,fD (λ_=>?_) (λ_=>?_)⟩
  ·refine⟨_,rfl,_,rfl,λus H3 hus s3=>⟨(sl 2),λt ht=>?_⟩⟩
   exact tup (.pt us) H3 t _ (.move hus) (s2.trans s3) ht ⟨bC (same_none (s2.trans s3) ht),ae⟩
  refine⟨_,rfl,_,_,rfl,rfl,_,rfl,fD (λ_=>?_) (λ_=>?_)⟩
  ·refine⟨_,rfl,_,rfl,_,_,rfl,rfl,(by show (0:Int) < n;omega),_,_,rfl,rfl,(sl 3),λt ht=>?_⟩
   have x0:0<=x % n:=alH _ (by omega)
   have x1:x % n < n:=aly _ (by omega)
   exact num (ar "vote") [1+x % n,0] H2 t (.Na ⟨by omega,by omega⟩ ⟨by decide,by decide⟩) s2 ht
  refine⟨_,rfl,_,_,rfl,rfl,_,rfl,fD (λ_=>?_) (λ_=>?_)⟩
  ·refine⟨_,rfl,_,rfl,_,_,rfl,n1,n2,λa b t H3 ha hb s3 nt ht=>?_⟩
   exact q (.nums (ar "vote") [a,b]) t H3 (.Na ha hb) ⟨bC (same_none s2 nt),ht⟩ (s2.trans s3)
  refine⟨_,rfl,rfl,_,rfl,fD (λ_=>?_) (λ_=>?_)⟩
  ·exact⟨(sl 1),λt ht=>num (ar "drop") [] H2 t .drop s2 ht⟩
  have lm:=I.lm;have al:=I.Ca;have el:es.length=st.made.length:=by rw[<-X2.ent.len,qg]
  refine dgv rfl X2.ga (λp hp=>?_)
  have s3:=s2.new (o:=.dK []) hp;have X3:=X.same s3;refine⟨aA,p,_,rfl,rfl,X3.aH.2,ae,_,rfl,?_⟩;generalize upd H2 p (.dK [])=H3 at s3 X3 ⊢;have lst:∀(t:Addr),H3 t=none->Q (.ref t) (upd H3 t (.tup [V.str (ar "take"),.int (x / 4 % ((es.length:Int)+3) - 1)])):=λt ht=>by
   have x0:0<=x / 4 % ((es.length:Int)+3):=alH _ (by omega)
   have x1:x / 4 % ((es.length:Int)+3) < (es.length:Int)+3:=aly _ (by omega)
   exact num (ar "take") [x / 4 % ((es.length:Int)+3) - 1] H3 t (.take (by omega) (by omega)) s3 ht
  have wl:=X3.wait.len;have Uc:=GZ st.aH ws wl;have hlen:(bf ((st.aH.map (·.1)).zip ws)).length=st.aH.length:=by
   have:=congrArg List.length Uc;rw[bo,bo,bo]at this;exact this
  cases ea:(bf ((st.aH.map (·.1)).zip ws)).isEmpty with
  |true =>
   refine bM (bM ?_);exact⟨_,rfl,_,_,rfl,rfl,⟨by decide,by decide⟩,dgv rfl X3.gm ⟨aM,_,rfl,.inl (SqL.of X3.l6.2),_,_,rfl,rfl,_,_,rfl,rfl,(by show (0:Int) < (es.length:Int)+3;omega),_,_,rfl,rfl,(sl 2),lst⟩⟩
  |false =>
   refine cN ?_;refine⟨_,rfl,_,_,rfl,rfl,(by show (0:Int) < 4;decide),_,_,rfl,rfl,_,rfl,fD (λ_=>?_) (λ_=>?_)⟩
   ·have a1:0 < st.aH.length:=by
     rw[<-hlen];cases h:bf ((st.aH.map (·.1)).zip ws) with
     |nil=>rw[h]at ea;cases ea
     |cons _ _=>exact Nat.succ_pos _
    refine dgv rfl X3.ga ⟨aA,_,_,rfl,X3.aH.2,Uc,by rw[bo];omega,λl ns pm so hl=>?_⟩
    have nl:ns.length=st.aH.length:=by rw[pm.length_eq,bo]
    have s4:=s3.new (o:=.lst (ns.map V.int)) hl;have X4:=X.same s4;have hB:SqL K (upd H3 l (.lst (ns.map V.int))) l (ns.map V.int):=SqL.of ae;generalize upd H3 l (.lst (ns.map V.int))=H4 at s4 X4 hB ⊢;refine aN λGq gq=>?_
    have x0:0<=x / 4 % (st.aH.length:Int):=alH _ (by omega)
    have x1:x / 4 % (st.aH.length:Int) < (st.aH.length:Int):=aly _ (by omega)
    obtain⟨j,ej⟩:∃j:Nat,x / 4 % (st.aH.length:Int)=(j:Int):=⟨(x / 4 % (st.aH.length:Int)).toNat,by omega⟩
    have hj:j < ns.length:=by omega
    have PV:ns[j]∈st.aH.map λx=>(x.1:Int):=pm.mem_iff.mp (List.getElem_mem hj)
    obtain⟨y0,hy0,e0⟩:=List.mem_map.mp PV;obtain⟨yr,er⟩:=(I.asd y0 hy0).2.1;have hno:=I.sO hy0 y0.1 (by rw[er];exact gr)
    have e0':((y0.1:Nat):Int)=ns[j]:=e0;have at1:atI (ns.map V.int) (x / 4 % (st.aH.length:Int))=some (.int ns[j]):=by
     rw[ej];exact cB (by rw[aln,adm hj];rfl)
    refine gq ?_;refine⟨_,rfl,_,_,rfl,rfl,⟨by decide,by decide⟩,dgv rfl X4.ga ⟨aA,_,rfl,X4.aH.2,_,_,rfl,rfl,(by rw[hlen];show (0:Int) < _;omega),?_⟩⟩
    rw[hlen];refine⟨l,_,_,_,rfl,rfl,hB,at1,(sl 2),λt ht=>?_⟩
    have h1:=hno.1;have h2:=hno.2;exact num (ar "take") [ns[j]] H4 t (.take (by omega) (by omega)) s4 ht
   ·exact⟨_,rfl,_,_,rfl,rfl,⟨by decide,by decide⟩,dgv rfl X3.gm ⟨aM,_,rfl,.inl (SqL.of X3.l6.2),_,_,rfl,rfl,_,_,rfl,rfl,(by show (0:Int) < (es.length:Int)+3;omega),_,_,rfl,rfl,(sl 2),lst⟩⟩
end
theorem dR.free {A:Adr}{i:Nat}{W:Option (Nat×Rl)->Prop}{c c':Col}{H H':Hp}{o:Addr}{st:Ch}(h:∀r,¬W (some (i,r)))(s:Step W c c' H H')(hc:dR A i c H o st):dR A i c' H' o st:=by
 obtain⟨dx,aM,aP,aA,aD,aF,aE,aR,ms,ds,ws,fs,es,X⟩:=hc.ex;exact(X.free h s).at
def dnT:Rs->List V
 | .num n=>[.bl true,nV n]
 | .txt z=>[.bl true,.str z]
 | .exc _=>[.bl false,.non]
def Qk (A:Adr)(i:Nat):Sp:=λvs H Q _=>∃(o t:Addr) (c:Col) (st:Ch) (N:Nat) (d:R.dY),vs=[.ref o,.ref t]/\dR A i c H o st/\Inv N st/\N<=800/\sT d/\qc i c H d t /\
 ∀c' H' u,Step (cM i) c c' H H'->dR A i c' H' o (jA st d).2->c' u=none->H' u=some (.tup (dnT (jA st d).1))->Q (.ref u) H'
def Ng:Sp:=λvs H Q _=>∃c:Int,vs=[.int c]/\∀n:Int,1<=n->n<=1000000000->Q (.int n) H
section
variable{P:rf}{w:World}{K:ba}{mg:Str->Option Value}{base:Heap}{A:Adr}
theorem Kn (T:Txt w.params K mg A):a8 P w K mg base CX0 1 A.E4 A.uW ["_law_cell"] Ng:=by
 refine T.yb.ok JN (λvs H Q E h=>?_) (λcdv A' outer s H vs Q E hr h=>?_)
 ·obtain⟨c,rfl,_⟩:=h;rfl
 ·obtain⟨c,rfl,q⟩:=h;refine⟨_,(ai (a9 (ay bt (a6 b6 (pv 0) af) af (aJ _))
 (aj (aB (a6 dI af (a6 b6 (a6 cO (pv 0) af) af))))
 aC)
 (aj (aB (a6 dI af (a6 b6 (a6 cO (pv 0) af) (a6 N6 af af)))))),?_⟩
  try dsimp only[bF]
  refine⟨_,rfl,_,_,rfl,rfl,(by show (0:Int) < 2;decide),rfl,_,rfl,fD (λ_=>?_) (λ_=>?_)⟩
  ·refine⟨_,rfl,_,_,rfl,rfl,⟨by decide,by decide⟩,_,_,rfl,rfl,(by show (0:Int) < 9;decide),_,_,rfl,rfl,q _ ?_ ?_⟩ <;> omega
  ·have e:(10:Int) ^ (9:Int).toNat=1000000000:=by decide
   refine⟨_,rfl,_,_,rfl,rfl,⟨by decide,by decide⟩,_,_,rfl,rfl,⟨by decide,by decide,by decide⟩,_,_,rfl,rfl,(by rw[e];show (0:Int) < 1000000000;decide),_,_,rfl,rfl,q _ ?_ ?_⟩ <;> rw[e] <;> omega
theorem Xc.mat (T:Txt w.params K mg A){H:Hp}{C:Value}{d:Option Addr}:∀ {x:Xc},x.At A H C d->eg K C (.ref A.bQ)=some true
 | .oF _,⟨e,_⟩=>by rw[e];exact T.jql
 | .p8 _,⟨e,_⟩=>by rw[e];exact T.jqf
 | .Fp _,⟨e,_⟩=>by rw[e];exact T.jqm
 | .iA,⟨e,_⟩=>by rw[e];exact T.jqc
 | .noChange,⟨e,_⟩=>by rw[e];exact T.jqd
 | .noFit,⟨e,_⟩=>by rw[e];exact T.jqo
 | .nothing,⟨e,_⟩=>by rw[e];exact T.jqg
 | .tooMany,⟨e,_⟩=>by rw[e];exact T.jqh
 | .tZ,⟨e,_⟩=>by rw[e];exact T.jqi
 | .B5,⟨e,_⟩=>by rw[e];exact T.jqe
theorem Ko (T:Txt w.params K mg A){i:Nat}:a8 P w K mg base (CXX P w) 8 A.E3 A.tW ["_law_chamber","_law_deed_here"] (Qk A i):=by
 refine T.wq.okX xH (λvs H Q E h=>?_) (λcdv A' outer s H vs Q E hr h=>?_)
 ·obtain⟨o,t,c,st,N,d,rfl,_⟩:=h;rfl
 ·obtain⟨o,t,c,st,N,d,rfl,hc,I,hN,hd,hdc,q⟩:=h;obtain⟨dx,aM,aP,aA,aD,aF,aE,aR,ms,ds,ws,fs,es,X⟩:=hc.ex;refine⟨_,(bc (psx (aY (i:=2) xH.nd rfl (tm rfl) xp))
 (bc (LS ⟨rfl,rfl⟩ (bc (ic (ay bt (aK aT (pv 1) af (λ_ _=>rfl)) ao (aJ _))
 (bD (As (Av (kU (px lO) (kU (rP (px (pv 0)) T.aq T.sD (Sl (i:=i) T) (hr.mono (by decide)) T.jm (pax (aa (aK aT (pv 1) af (λ_ _=>rfl)) (aa (aK aT (pv 1) af (λ_ _=>rfl)) ag)))) Ar)))))
 (vO aC))
 (bc (ic (ay bt (aK aT (pv 1) af (λ_ _=>rfl)) ao (aJ _))
 (bD (As (Av (kU (px lO) (kU (xw (px (pv 0)) T.aq T.sE (Sm (i:=i) T) (hr.mono (by decide)) T.jn) Ar)))))
 (vO aC))
 (bc (ic (ay bt (aK aT (pv 1) af (λ_ _=>rfl)) ao (aJ _))
 (bD (As (Av (kU (px lO) (kU (rP (px (pv 0)) T.aq T.sF (Sn (i:=i) T) (hr.mono (by decide)) T.jo (pax (aa (aK aT (pv 1) af (λ_ _=>rfl)) ag))) Ar)))))
 (vO aC))
 (bD (As (Av (kU (px lO) (kU (rP (px (pv 0)) T.aq T.mR (Mq (i:=i) T) hr T.gR (pax (aa (pv 1) ag))) Ar))))))))
 (A0 rfl T.gX (λ_=>(aj (aY (i:=2) xH.nd rfl (tm rfl) (bg (aa lO (aa xp ag)))))) (LR ⟨rfl,rfl⟩)))
 (bD (psx (aB (pv 2)))))),?_⟩
  try dsimp only[bF]
  have fin:∀(c1:Col) (H1:Hp) (p:Addr),Step (cM i) c c1 H H1->dR A i c1 H1 o (jA st d).2->H1 p=none->Q (.ref p) (upd H1 p (.tup (dnT (jA st d).1))):=λc1 H1 p s1 hc1 hp =>
   q (az c1 p none) _ p (s1.trans (Step.new aL hp)) (hc1.free (W:=λ_=>False) (λ_=>id) (Step.new id hp)) aX ae
  clear q;cases hd with
  | @Na a b ha hb =>
   rw[qK]at fin;have ht:SqT K H t [.str (ar "vote"),.int a,.int b]:=SqT.of hdc.2;refine ixv rfl ht rfl ⟨rfl,tst (by trivial) ?_⟩
   refine mtv rfl X.ob (cF (by trivial)) (ixv rfl ht rfl (ixv rfl ht rfl ⟨o,a,b,c,st,N,rfl,hc,I,hN,ha,hb,?_⟩))
   generalize qe st a b=rs at fin ⊢;obtain⟨r,st'⟩:=rs;cases r with
   |num n=>exactλc1 H1 s1 hc1=>⟨(sl 2),λp hp=>fin c1 H1 p s1 hc1 hp⟩
   |txt z=>exactλc1 H1 s1 hc1=>⟨(sl 2),λp hp=>fin c1 H1 p s1 hc1 hp⟩
   |exc x=>exactλc1 H1 C e s1 hc1 hat he=>⟨true,Xc.mat T hat,cN ⟨(sl 2),λp hp=>⟨_,rfl,fin c1 H1 p s1 hc1 hp⟩⟩⟩
  |drop =>
   rw[qL]at fin;have ht:SqT K H t [.str (ar "drop")]:=SqT.of hdc.2;refine ixv rfl ht rfl ⟨rfl,tsf (by trivial) (ixv rfl ht rfl ⟨rfl,tst (by trivial) ?_⟩)⟩
   refine mtv rfl X.ob (cF (by trivial)) ⟨o,c,st,N,rfl,hc,I,hN,?_⟩
   generalize q5 st=rs at fin ⊢;obtain⟨r,st'⟩:=rs;cases r with
   |num n=>exactλc1 H1 s1 hc1=>⟨(sl 2),λp hp=>fin c1 H1 p s1 hc1 hp⟩
   |txt z=>exactλc1 H1 s1 hc1=>⟨(sl 2),λp hp=>fin c1 H1 p s1 hc1 hp⟩
   |exc x=>exactλc1 H1 C e s1 hc1 hat he=>⟨true,Xc.mat T hat,cN ⟨(sl 2),λp hp=>⟨_,rfl,fin c1 H1 p s1 hc1 hp⟩⟩⟩
  | @take z h0 h1 =>
   rw[qM]at fin;have ht:SqT K H t [.str (ar "take"),.int z]:=SqT.of hdc.2;refine ixv rfl ht rfl ⟨rfl,tsf (by trivial) (ixv rfl ht rfl ⟨rfl,tsf (by trivial) (ixv rfl ht rfl ⟨rfl,tst (by trivial) ?_⟩)⟩)⟩
   refine mtv rfl X.ob (cF (by trivial)) (ixv rfl ht rfl ⟨o,z,c,st,N,rfl,hc,I,hN,h0,h1,?_⟩)
   generalize stepT st z.toNat=rs at fin ⊢;obtain⟨r,st'⟩:=rs;cases r with
   |num n=>exactλc1 H1 s1 hc1=>⟨(sl 2),λp hp=>fin c1 H1 p s1 hc1 hp⟩
   |txt z=>exactλc1 H1 s1 hc1=>⟨(sl 2),λp hp=>fin c1 H1 p s1 hc1 hp⟩
   |exc x=>exactλc1 H1 C e s1 hc1 hat he=>⟨true,Xc.mat T hat,cN ⟨(sl 2),λp hp=>⟨_,rfl,fin c1 H1 p s1 hc1 hp⟩⟩⟩
  |move hm =>
   refine aN λGq gq=>?_
   rw[qN hm]at fin;obtain⟨v,ht,_,_⟩:=sS hm hdc;have k8:=(cy d).k8;refine gq ?_;refine ixv rfl (SqT.of ht.2) dH ⟨rfl,tsf (Qc _ k8) (ixv rfl (SqT.of ht.2) dH ⟨rfl,tsf (Qd _ k8) (ixv rfl (SqT.of ht.2) dH ⟨rfl,tsf (Qe _ k8) ?_⟩)⟩)⟩;refine mtv rfl X.ob (cF (by trivial)) ⟨_,rfl,o,t,c,st,N,d,rfl,hc,I,hN,hm,hdc,?_⟩
   generalize qf st (cy d) (R.sI d)=rs at fin ⊢;obtain⟨r,st'⟩:=rs;cases r with
   |num n=>exactλc1 H1 s1 hc1=>⟨(sl 2),λp hp=>fin c1 H1 p s1 hc1 hp⟩
   |txt z=>exactλc1 H1 s1 hc1=>⟨(sl 2),λp hp=>fin c1 H1 p s1 hc1 hp⟩
   |exc x=>exactλc1 H1 C e s1 hc1 hat he=>⟨true,Xc.mat T hat,cN ⟨(sl 2),λp hp=>⟨_,rfl,fin c1 H1 p s1 hc1 hp⟩⟩⟩
theorem Ec (T:Txt w.params K mg A){i:Nat}:a8 P w K mg base CX0 8 A.E3 A.tW ["_law_chamber","_law_deed_here"] (Qk A i) :=
 (Ko T).calm λ_ _ _ _ h=>h
end
mutual
theorem DV.same {K:ba}{H H':Hp}(s:bw H H'):∀(d:PyData) {x:V},DV K H d x->DV K H' d x
 | .none,_,h=>by unfold DV at h ⊢;exact h
 | .bool _,_,h=>by unfold DV at h ⊢;exact h
 | .int _,_,h=>by unfold DV at h ⊢;exact h
 | .str _,_,h=>by unfold DV at h ⊢;exact h
 | .list ds,_,h=>by
  unfold DV at h ⊢;obtain⟨a,xs,e,h1,h2⟩:=h;exact⟨a,xs,e,s.seq h1,DVs.same s ds h2⟩
 | .tuple ds,_,h=>by
  unfold DV at h ⊢;obtain⟨a,xs,e,h1,h2⟩:=h;exact⟨a,xs,e,bP s h1,DVs.same s ds h2⟩
 | .dict _,_,h=>by unfold DV at h;exact h.elim
theorem DVs.same {K:ba}{H H':Hp}(s:bw H H'):∀(ds:List PyData) {xs:List V},DVs K H ds xs->DVs K H' ds xs
 |[],_,h=>by unfold DVs at h ⊢;exact h
 |d::ds,_,h=>by
  unfold DVs at h ⊢;obtain⟨x,r,e,h1,h2⟩:=h;exact⟨x,r,e,DV.same s d h1,DVs.same s ds h2⟩
end
theorem t7 {d:PyData}(h1:d.canLay0=true)(h2:d.depth<=64):amd d=true:=by
 show (d.canLay0 && decide (d.depth<=64))=true;rw[h1,decide_eq_true h2];rfl
theorem t8 {α:Type}{f:α->PyData}{k:Nat}(h:∀x,alN (f x)<=k):∀xs:List α,alA (xs.map f)<=k
 |[]=>by simp only[alM,alA];omega
 |x::xs=>by
  have h1:=h x;have h2:=t8 h xs;simp only[km,alA];omega
theorem AE {α:Type}{f:α->PyData}:∀ {xs:List α},(∀x∈xs,(f x).canLay0=true)->ald (xs.map f)=true
 |[],_=>by simp only[alM,ald]
 |x::xs,h=>by
  simp only[km,ald,h x gr,AE λy hy=>h y (me _ hy),al0]
theorem Ql:∀k,alB (kn k)=true
 | 0=>by trivial
 | 1=>by trivial
 |_+2=>by show alB (ar "turn")=true;trivial
theorem Qm {e:Ed}(h:alB e.th=true):(edD e).canLay0=true:=by
 have h0:=Ql 0;have h1:=Ql 1;have h2:=Ql 2;unfold edD;split <;> simp only[ak6,ald,h,h0,h1,h2,al0]
theorem Qn (e:Ed):(edD e).depth<=10:=by
 unfold edD;split <;> simp only[alN,alA] <;> omega
theorem Qo {tx:List Str}(h:∀x∈tx,alB x=true):(PyData.list (tx.map alL)).canLay0=true:=by
 simp only[ak6];exact yN tx h
theorem Qp (tx:List Str):(PyData.list (tx.map alL)).depth<=10:=by
 have:=AW tx;simp only[alN];omega
theorem W3 {N:Nat}:∀ {m:Mn},MOk N m->(mnD m).canLay0=true
 | .mat tx,h=>by
  have h0:=uw 0 (by decide)
  have h1:=Qo h.2;unfold mnD;simp only[ak6,ald]at h1 ⊢;simp only[h0,h1,al0]
 | .chg e,h=>by
  have h0:=uw 1 (by decide)
  have h1:=Qm (EdB.str h);unfold mnD;simp only[ak6,ald,h0,h1,al0]
 | .mnd e,h=>by
  have h0:=uw 2 (by decide)
  have h1:=Qm (EdB.str h.1);unfold mnD;simp only[ak6,ald,h0,h1,al0]
 | .off u,_=>by
  have h0:=uw 3 (by decide)
  unfold mnD;simp only[ak6,ald,h0,al0]
 | .cls,_=>by
  have h0:=uw 4 (by decide)
  unfold mnD;simp only[ak6,ald,h0,al0]
 | .lay,_=>by
  have h0:=uw 5 (by decide)
  unfold mnD;simp only[ak6,ald,h0,al0]
 | .rst,_=>by
  have h0:=uw 6 (by decide)
  unfold mnD;simp only[ak6,ald,h0,al0]
 | .pnt z,h=>by
  have h0:=uw 7 (by decide)
  have h1:alB z=true:=h;unfold mnD;simp only[ak6,ald,h0,h1,al0]
def AsC (c:Col)(H:Hp)(x:Nat×Int×List Nat)(v:V):Prop:=∃u l,v=.ref u/\(c u=none/\H u=some (.tup [nV x.1,.int x.2.1,.ref l]))/\c l=none/\H l=some (.lst (x.2.2.map nV))
def DcC (c:Col)(H:Hp)(x:Nat×Str)(v:V):Prop:=∃t,v=.ref t/\TupAt c H t [nV x.1,.str x.2]
structure StX (c:Col)(H:Hp)(st:Ch)(ns:List Int)(u l1 R l2:Addr)(ys ds:List V):Prop where
 cu:c u=none
 hu:H u=some (.tup [.int st.aU,.bl st.closed,.ref l1,.ref R,.ref l2])
 c1:c l1=none
 h1:H l1=some (.lst (st.au.map nV))
 cR:c R=none
 hR:H R=some (.lst ys)
 asd:bG (AsC c H) (ns.map (Kg st)) ys
 c2:c l2=none
 h2:H l2=some (.lst ds)
 dec:bG (DcC c H) st.decided ds
def SG (c:Col)(H:Hp)(st:Ch)(ns:List Int)(u:Addr):Prop:=∃l1 R l2 ys ds,StX c H st ns u l1 R l2 ys ds
theorem AsC.step {W:Option (Nat×Rl)->Prop}{c c':Col}{H H':Hp}{x:Nat×Int×List Nat}{v:V}(s:Step W c c' H H'):AsC c H x v->AsC c' H' x v
 |⟨u,l,e,⟨h1,h2⟩,h3,h4⟩=>⟨u,l,e,fq s h1 h2,fq s h3 h4⟩
theorem DcC.step {W:Option (Nat×Rl)->Prop}{c c':Col}{H H':Hp}{x:Nat×Str}{v:V}(s:Step W c c' H H'):DcC c H x v->DcC c' H' x v
 |⟨t,e,h⟩=>⟨t,e,h.step s⟩
theorem StX.step {W:Option (Nat×Rl)->Prop}{c c':Col}{H H':Hp}{st:Ch}{ns:List Int}{u l1 R l2:Addr}{ys ds:List V}(s:Step W c c' H H')(h:StX c H st ns u l1 R l2 ys ds):StX c' H' st ns u l1 R l2 ys ds :=
 ⟨(fq s h.cu h.hu).1,(fq s h.cu h.hu).2,(fq s h.c1 h.h1).1,(fq s h.c1 h.h1).2,(fq s h.cR h.hR).1,(fq s h.cR h.hR).2,h.asd.imp λ_ _ z=>z.step s,(fq s h.c2 h.h2).1,(fq s h.c2 h.h2).2,h.dec.imp λ_ _ z=>z.step s⟩
theorem SG.step {W:Option (Nat×Rl)->Prop}{c c':Col}{H H':Hp}{st:Ch}{ns:List Int}{u:Addr}(s:Step W c c' H H'):SG c H st ns u->SG c' H' st ns u
 |⟨l1,R,l2,ys,ds,h⟩=>⟨l1,R,l2,ys,ds,h.step s⟩
theorem AsC.dv {K:ba}{c:Col}{H:Hp}{x:Nat×Int×List Nat}{v:V}:AsC c H x v->DV K H (asD x) v
 |⟨u,l,e,⟨_,h3⟩,_,h4⟩=>by
  unfold asD DV;refine⟨u,_,e,SqT.of h3,?_⟩;unfold DVs;refine⟨_,_,rfl,by unfold DV;rfl,?_⟩
  unfold DVs;refine⟨_,_,rfl,by unfold DV;rfl,?_⟩
  unfold DVs;exact⟨_,_,rfl,jz (SqL.of h4),by unfold DVs;rfl⟩
theorem DcC.dv {K:ba}{c:Col}{H:Hp}{x:Nat×Str}{v:V}:DcC c H x v->DV K H (dcD x) v
 |⟨t,e,h⟩=>by
  subst e;unfold dcD DV;refine⟨t,_,rfl,h.sq,?_⟩;unfold DVs;refine⟨_,_,rfl,by unfold DV;rfl,?_⟩
  unfold DVs;exact⟨_,_,rfl,by unfold DV;rfl,by unfold DVs;rfl⟩
theorem StX.dv {K:ba}{c:Col}{H:Hp}{st:Ch}{ns:List Int}{u l1 R l2:Addr}{ys ds:List V}(h:StX c H st ns u l1 R l2 ys ds):DV K H (stD st ns) (.ref u):=by
 unfold stD DV;refine⟨u,_,rfl,SqT.of h.hu,?_⟩;unfold DVs;refine⟨_,_,rfl,by unfold DV;rfl,?_⟩
 unfold DVs;refine⟨_,_,rfl,by unfold DV;rfl,?_⟩
 unfold DVs;refine⟨_,_,rfl,jz (SqL.of h.h1),?_⟩;unfold DVs;refine⟨_,_,rfl,?_,?_⟩
 ·unfold DV;refine⟨R,ys,rfl,SqL.of h.hR,?_⟩;rw[show (ns.map λn=>asD (Kg st n))=(ns.map (Kg st)).map asD by rw[List.map_map];rfl]
  exact bG.dvs (λx v h=>h.dv) h.asd
 ·unfold DVs;refine⟨_,_,rfl,?_,by unfold DVs;rfl⟩
  unfold DV;exact⟨l2,_,rfl,SqL.of h.h2,bG.dvs (λx v h=>h.dv) h.dec⟩
def Qq (A:Adr)(i:Nat):Sp:=λvs H Q _=>∃(o:Addr) (c:Col) (st:Ch),vs=[.ref o]/\dR A i c H o st/\st.aH.length < 64 /\
 ∀(ns:List Int) (u:Addr) (H':Hp),List.Perm ns (st.aH.map λx=>(x.1:Int))->ns.Pairwise (·<=·)->bw H H'->SG (bU c H) H' st ns u->Q (.ref u) H'
def AsN (H0 H:Hp)(R:Addr)(x:Nat×Int×List Nat)(v:V):Prop:=∃u l,v=.ref u/\(u≠R/\l≠R)/\(H0 u=none/\H0 l=none)/\H u=some (.tup [nV x.1,.int x.2.1,.ref l])/\H l=some (.lst (x.2.2.map nV))
theorem AsN.same {H0 H H':Hp}{R:Addr}{x:Nat×Int×List Nat}{v:V}(s:bw H H'):AsN H0 H R x v->AsN H0 H' R x v
 |⟨u,l,e,h1,h2,h3,h4⟩=>⟨u,l,e,h1,h2,s _ _ h3,s _ _ h4⟩
theorem AsN.upd {H0 H:Hp}{R:Addr}{o:HO}{x:Nat×Int×List Nat}{v:V}:AsN H0 H R x v->AsN H0 (L2.upd H R o) R x v
 |⟨u,l,e,h1,h2,h3,h4⟩=>⟨u,l,e,h1,h2,(av h1.1).trans h3,(av h1.2).trans h4⟩
section
variable{P:rf}{w:World}{K:ba}{mg:Str->Option Value}{base:Heap}{A:Adr}
theorem Ee (T:Txt w.params K mg A){i:Nat}:a8 P w K mg base CX0 2 A.cC A.jZ ["self"] (Qq A i):=by
 refine T.fQ.ok xE (λvs H Q E h=>?_) (λcdv A' outer s H vs Q E hr h=>?_)
 ·obtain⟨o,c,st,rfl,_⟩:=h;rfl
 ·obtain⟨o,c,st,rfl,hc,hal,q⟩:=h;obtain⟨dx,aM,aP,aA,aD,aF,aE,aR,ms,ds,ws,fs,es,X⟩:=hc.ex;have lim:kg=16777216:=by decide
  refine⟨_,(ai (uH (i:=1) (scope:=lP) uJ rfl rfl (tm rfl) (nK (cA (vR hr.hd) (by rfl) T.BL Dx (aa (br (pv 0) rfl) ag))) (λ_ _ _ _ _=>(iE (pv 1) T.aq T.lh (C2 (i:=i) T) hr T.eF .nil aW (aa (pv 0) ag))))
 (aj (aB (bg (aa (br (pv 0) rfl) (aa (br (pv 0) rfl) (aa (eQ fG (by rfl) T.sC qu (aa (br (pv 0) rfl) ag)) (aa (pv 1) (aa (eQ fG (by rfl) T.sC qu (aa (br (pv 0) rfl) ag)) ag))))))))),?_⟩
  try dsimp only[bF]
  refine eS rfl X.ob T.aq T.jq4 j9 ⟨aA,_,_,rfl,X.aH.2,GZ st.aH ws X.wait.len,by rw[bo];exact hal,λl0 ns pm so hl0=>?_⟩
  have nl:ns.length=st.aH.length:=by rw[pm.length_eq,bo]
  have s0:=aG (o:=.lst (ns.map V.int)) hl0;have hB:SqL K (upd H l0 (.lst (ns.map V.int))) l0 (ns.map V.int):=SqL.of ae;generalize upd H l0 (.lst (ns.map V.int))=H1 at s0 hB ⊢;refine⟨l0,rfl,⟨_,hB⟩,λR hR=>?_⟩
  have hR0:=same_none s0 hR;refine pj (K:=K) (a:=l0) (xs:=ns.map V.int) (λj ys H2=>bw H1 H2/\H2 R=some (.lst ys)/\bG (AsN H H2 R) ((ns.take j).map (Kg st)) ys) ⟨aG hR,ae,.nil⟩ (by rw[bo];omega) ?_ ?_ ?_
  ·rintro j ys H2 hj ⟨s2,hR2,ha⟩;refine⟨s2.seq hB,hR2,?_⟩;rw[<-ha.len,bo,alD];rw[bo]at hj;omega
  ·rintro j y ys H2 hy ⟨s2,hR2,ha⟩;refine aN λGq gq=>?_
   obtain⟨n,hn1,rfl⟩:∃n,ns[j]?=some n/\V.int n=y:=by
    rw[aln]at hy;cases ht:ns[j]? with
    |none=>rw[ht]at hy;cases hy
    |some t=>rw[ht]at hy;exact⟨t,rfl,ak9 hy⟩
   have PV:n∈st.aH.map λx=>(x.1:Int):=pm.mem_iff.mp (alw hn1)
   obtain⟨x0,hx0,e0⟩:=List.mem_map.mp PV;obtain⟨x,hx⟩:∃x,at1 x0.1 st.aH=some x:=by
    cases z:at1 x0.1 st.aH with
    |some x=>exact⟨x,rfl⟩
    |none=>exact absurd (List.mem_map_of_mem hx0) (wK z)
   have e0':((x0.1:Nat):Int)=n:=e0;subst e0';have s02:=s0.trans s2;have X2:=X.same s02;have ea:Kg st ((x0.1:Nat):Int)=x:=by unfold Kg;rw[Int.toNat_natCast,hx];rfl
   refine gq ?_;refine mtv rfl X2.ob (cF (by trivial)) ⟨_,rfl,o,x0.1,c,st,x,rfl,X2.at,hx,λl u H3 hl hu s3 h1 h2=>?_⟩
   have hR3:=s3 _ _ hR2;refine eD.mk (List.getElem?_eq_some_iff.mp hy).1 hR3 ⟨(s2.trans s3).own hR,ae,?_⟩;rw[ams,hn1,ko];refine bG.snoc (ha.imp λ_ _ z=>(z.same s3).upd) ?_
   rw[ea];refine AsN.upd ⟨u,l,rfl,⟨(λz=>by rw[z,hR2]at hu;cases hu),(λz=>by rw[z,hR2]at hl;cases hl)⟩,⟨same_none s02 hu,same_none s02 hl⟩,?_,h1⟩
   rw[(jy hx).1];exact h2
  ·rintro ys H2 ⟨s2,hR2,ha⟩;rw[bo,amc]at ha;have s02:=s0.trans s2;have X2:=X.same s02;refine eS rfl X2.ob T.aq T.jq1 i9 (eS rfl X2.ob T.aq T.jq3 m7 (eS rfl X2.ob T.aq T.jq0 fm ⟨aP,_,rfl,.inl (SqL.of X2.au.2),λl1 hl1=>?_⟩))
   have s3:=aG (o:=.lst (st.au.map nV)) hl1;have X3:=X2.same s3;have s03:=s02.trans s3;refine⟨_,rfl,eS rfl X3.ob T.aq T.jqj yY ⟨aD,_,rfl,.inl (SqL.of X3.dec.2),λl2 hl2=>⟨(sl 5),λu hu=>?_⟩⟩⟩
   have s4:=aG (o:=.lst (ds.map V.ref)) hl2;have s5:=aG (o:=.tup [V.int st.aU,.bl st.closed,.ref l1,.ref R,.ref l2]) hu;have s45:=s4.trans s5;have s05:=s03.trans s45;have X5:=X3.same s45;refine q ns u _ pm so s05 ⟨l1,R,l2,ys,ds.map V.ref,bC (same_none (s03.trans s4) hu),ae,bC (same_none s02 hl1),s45 _ _ ae,bC hR0,(s3.trans s45) _ _ hR2,?_,bC (same_none s03 hl2),s5 _ _ ae,?_⟩
   ·refine ha.imp λx v z=>?_
    refine aN λGq gq=>?_
    obtain⟨u',l',e,_,⟨z1,z2⟩,z3,z4⟩:=z.same (s3.trans s45);refine gq ?_;exact⟨u',l',e,⟨bC z1,z3⟩,bC z2,z4⟩
   ·refine bG.mapR (X5.m5.imp λx t h=>⟨t,rfl,?_,h.2⟩)
    unfold bU;split
    ·exact h.1
    ·rfl
end
def inF (cl:Bool)(ms:List Mn)(k:Nat):Bool:=decide ((k:Int) > fN cl ms) && lS ms k
theorem SH {cl:Bool}{ms:List Mn}{k:Nat}:inF cl ms k=(fU cl ms k).isNone:=by
 unfold inF fU
 by_cases h:(k:Int)<=fN cl ms
 ·rw[if_pos h,decide_eq_false (by omega)]
  rfl
 ·rw[if_neg h,decide_eq_true (by omega),Bool.true_and]
  cases lS ms k with
  |true=>rfl
  |false =>
   rw[if_neg kr];split <;> rfl
def g7 (cl:Bool)(ms:List Mn)(n:Nat):List Str:=((List.range n).filter (inF cl ms)).map nm
theorem sV (cl:Bool)(ms:List Mn)(n:Nat):g7 cl ms (n+1)=g7 cl ms n++(if inF cl ms n=true then [nm n] else []):=by
 unfold g7;rw[List.range_succ,List.filter_append,ko]
 congr 1
 by_cases h:inF cl ms n=true
 ·rw[if_pos h];simp[List.filter,h]
 ·rw[if_neg h];simp[List.filter,h]
theorem Kp (cl:Bool)(ms:List Mn)(n:Nat):(g7 cl ms n).length<=n:=by
 unfold g7;rw[bo];exact ak3 (amt _ _) (by rw[List.length_range];exact kq _)
theorem Nh {i:Nat}{z:Str}(h:ng[i]?=some z):i < 8/\z=nm i:=by
 have hi:i < 8:=(List.getElem?_eq_some_iff.mp h).1;exact⟨hi,ak9 (h.symm.trans (Cj i hi).1)⟩
def SI (A:Adr)(K:ba):Sp:=λvs H Q _=>∃(B:Addr) (cl:Bool) (c:Col) (ms:List Mn) (os:List Addr),vs=[.ref B,.bl cl]/\uz A K c H B ms os/\ms.length<=1000 /\
 ∀R H',H R=none->bw H H'->H' R=some (.lst ((g7 cl ms 8).map V.str))->Q (.ref R) H'
def Ni (A:Adr):Sp:=λvs H Q _=>∃(i:Nat) (o:Addr) (c:Col) (st:Ch) (N:Nat),vs=[.ref o]/\dR A i c H o st/\Inv N st /\
 ∀R H',H R=none->bw H H'->H' R=some (.lst ((g7 st.closed (st.au.map st.mo) 8).map V.str))->Q (.ref R) H'
section
variable{P:rf}{w:World}{K:ba}{mg:Str->Option Value}{base:Heap}{A:Adr}
theorem wU (T:Txt w.params K mg A):a8 P w K mg base CX0 5 A.mL A.jg ["pile","closed"] (SI A K):=by
 refine T.j6.ok nP (λvs H Q E h=>?_) (λcdv A' outer s H vs Q E hr h=>?_)
 ·obtain⟨B,cl,c,ms,os,rfl,_⟩:=h;rfl
 ·obtain⟨B,cl,c,ms,os,rfl,hB,hl,q⟩:=h;refine⟨_,(ai (aY (i:=2) nP.nd rfl (Or.inr rfl) (aV (yl T) (hr.mono (by decide)) rfl T.wc T.sg.kp T.wb .nil aW (aa (pv 0) (aa (pv 1) ag))))
 (aj (aB (OL (scope:=kY) uc rfl (VY T.tk rfl T.wA) (λ_ _ _ _ _=>(PW.pt (pw_and (ay AN (aK (RI (K:=K) (pr:=w.params) rfl rfl) (An (v:=V.ref A.tab) rfl T.wA rfl) (pv 0) (λ_ _=>rfl)) (pv 3) (aJ _)) (pw_and1 (mC (aV (lu T) hr rfl T.il T.eL.kp T.ij .nil aW (aa (pv 0) (aa (pv 1) ag)))))))) (λ_ _ _ _ _=>(pv 0)))))),?_⟩
  try dsimp only[bF]
  refine⟨_,rfl,_,rfl,B,cl,c,ms,os,rfl,hB,?_⟩
  try dsimp only[dh]
  refine(λR hR=>?_:∀R,H R=none->_)
  have e8:[ar "matter",ar "change",ar "mend",ar "put off",ar "close",ar "lay",ar "rest",ar "point"]=ng:=rfl;rw[e8];refine MR (ns:=ng) (λi ys H2=>ys=(g7 cl ms i).map V.str/\bw H H2/\H2 R=some (.lst ys)) ⟨rfl,aG hR,ae⟩ (by decide) ?_ ?_ ?_
  ·rintro i ys H2 hi ⟨rfl,s2,h2⟩;exact⟨h2,by rw[bo];exact Kp _ _ _⟩
  ·rintro i z ys H2 hz ⟨rfl,s2,h2⟩;refine aN λGq gq=>?_
   obtain⟨i8,rfl⟩:=Nh hz;obtain⟨tk,htk⟩:=T.rk i i8;have lt8:i < ng.length:=i8;refine gq ?_;refine⟨_,rfl,A.tab,nm i,.int i,_,rfl,rfl,T.tb,htk,⟨_,rfl⟩,_,rfl,_,_,rfl,rfl,_,rfl,fD (λe=>?_) (λe=>?_)⟩
   ·have e':(i:Int) > fN cl ms:=of_decide_eq_true e;refine⟨_,rfl,_,rfl,i,B,c,ms,os,rfl,i8,hB.same s2,hl,λH3 s3=>⟨_,rfl,?_⟩⟩
    have ef:inF cl ms i=lS ms i:=by unfold inF;rw[decide_eq_true e'];rfl
    cases hn:lS ms i with
    |true =>
     refine cN ⟨_,rfl,eD.mk lt8 (s3 _ _ h2) ⟨?_,(s2.trans s3).own hR,ae⟩⟩;rw[sV,ef,hn,if_pos rfl,ko];rfl
    |false =>
     refine bM (rQ.mk lt8 ⟨?_,s2.trans s3,s3 _ _ h2⟩);rw[sV,ef,hn,if_neg kr,ama]
   ·have e':¬(i:Int) > fN cl ms:=λz=>e (decide_eq_true z)
    refine bM (rQ.mk lt8 ⟨?_,s2,h2⟩);have ef:inF cl ms i=false:=by unfold inF;rw[decide_eq_false e'];rfl
    rw[sV,ef,if_neg kr,ama]
  ·rintro ys H2 ⟨rfl,s2,h2⟩;exact q R H2 hR s2 h2
theorem sW (T:Txt w.params K mg A):a8 P w K mg base CX0 6 A.bW A.ig ["self"] (Ni A):=by
 refine T.d8.ok ub (λvs H Q E h=>?_) (λcdv A' outer s H vs Q E hr h=>?_)
 ·obtain⟨i,o,c,st,N,rfl,_⟩:=h;rfl
 ·obtain⟨i,o,c,st,N,rfl,hc,I,q⟩:=h;obtain⟨dx,aM,aP,aA,aD,aF,aE,aR,ms,ds,ws,fs,es,X⟩:=hc.ex;refine⟨_,(aj (aB (aV (wU T) hr rfl T.pU T.j6.kp T.pT .nil aW (aa (d5 (pv 0) T.aq T.gC (vi (i:=i) T) (hr.mono (by decide)) T.dN .nil aW) (aa (br (pv 0) rfl) ag))))),?_⟩
  try dsimp only[bF]
  have pl:=I.pil.C0;rw[bo]at pl;refine mtv rfl X.ob (cF (by trivial)) ⟨o,c,st,rfl,hc,I.bL,by omega,λR os hR ha=>?_⟩
  have s1:=aG (o:=.lst (os.map V.ref)) hR;have X1:=X.same s1;refine eS rfl X1.ob T.aq T.jq3 m7 ⟨R,st.closed,c,st.au.map st.mo,os,rfl,?_,by rw[bo];omega,λR2 H2 hR2 s2 h2=>?_⟩
  ·exact⟨SqL.of ae,sQ s1 ha⟩
  ·exact q R2 H2 (same_none s1 hR2) (s1.trans s2) h2
end
theorem bG.abJ {α β:Type}{R:α->β->Prop}:∀ {as:List α} {bs:List β} {i:Nat} {b:β},bG R as bs->bs[i]?=some b->∃a,as[i]?=some a/\R a b
 |_,_,_,_,.nil,h=>by simp at h
 |_,_,0,_,.cons h t,e=>by
  rw[alq]at e;cases e;exact⟨_,alq,h⟩
 |_,_,i+1,_,.cons h t,e=>by
  rw[alx]at e;obtain⟨a,e1,e2⟩:=t.abJ e;exact⟨a,by rw[alx];exact e1,e2⟩
theorem Qr {X:Cx}{K:ba}{e:Expr}{name:Str}{pos:Pos}{ta:TE}(ek:X.K=K)(he:PE X e ta)(hb:attributeBase e name X.env (eval e X.env)=eval e X.env):PE X (.Attribute e name pos)
  (λσ H Q=>ta σ H λx H1=>∃ea C d fs v,x=.ref ea/\H1 ea=some (xo ea (.ref C) (some d))/\H1 d=some (.xd fs)/\OR K C name/\fs.lookup name=some v/\(∃z,ED v z)/\Q v H1):=by
 subst ek;exact RJ he hb
theorem xe {K:ba}{C C' D:Value}{b:Bool}(e:C=C')(h:eg K C' D=some b):eg K C D=some b:=by rw[e];exact h
theorem xoe {H:Hp}{ea:Addr}{C C':Value}{e e':Option Addr}(h:C=C')(h':e=e'):upd H ea (xo ea C e) ea=some (xo ea C' e'):=by rw[h,h'];exact ae
theorem SJ (n:Int):Inv 0 (GL n) :=
 ⟨kq 0,kq 0,kq 0,kq 0,(λ_ h=>nomatch h),⟨by show (1:Int)<=1;decide,by show (1:Int)<=_;decide⟩,(λ_ h=>nomatch h),(λ_ h=>nomatch h),List.nodup_nil,.nil,(λ_ h=>nomatch h),rfl,rfl,(λ_ h=>nomatch h)⟩
theorem Ef {W:Option (Nat×Rl)->Prop}(n:¬W none){c c':Col}{H1 H2:Hp}{x dx:Addr}{o:HO}(hx:H1 x=none)(hdx:H1 dx=none)(hk:∀a v,(upd (upd H1 dx (.own x)) x o) a=some v->a≠x->H2 a=some v/\c' a=c a):Step W c c' H1 H2:=by
 have old:∀a v,H1 a=some v->H2 a=some v/\c' a=c a:=λa v h =>
  hk a v ((av (aI h hx)).trans ((av (aI h hdx)).trans h)) (aI h hx)
 exact⟨n,λa v h _=>(old a v h).1,λa v h=>⟨v,(old a v h).1⟩,λa v h _=>(old a v h).2⟩
def Mu (K:ba):Sp:=λvs H Q _=>∃(a:Addr) (ns:List Int),vs=[.ref a]/\SqL K H a (ns.map V.int)/\ns.length<=63/\∀H',Q (.bl true) H'
def akT:Option Xc->List V
 |none=>[.str (ar "made"),.int 0]
 |some (.oF b)=>[.str (ar "bar"),.int b]
 |some .iA=>[.str (ar "no matter"),.int 0]
 |_=>[.str (ar "no change"),.int 0]
def Eg (A:Adr)(i:Nat):Sp:=λvs H Q _=>∃(o t:Addr) (c:Col) (st:Ch) (N:Nat) (d:R.dY),vs=[.ref o,.ref t]/\dR A i c H o st/\Inv N st/\N<=800/\wQ d/\qc i c H d t/\ir st (cy d)=fU st.closed (st.au.map st.mo) (cy d).k /\
 ∀c' H' u,Step (cM i) c c' H H'->c' u=none->H' u=some (.tup (akT (fU st.closed (st.au.map st.mo) (cy d).k)))->Q (.ref u) H'
theorem Mv (cl:Bool)(ms:List Mn)(k:Nat):fU cl ms k=none\/(∃b,fU cl ms k=some (.oF b)/\b=fN cl ms)\/fU cl ms k=some .iA\/fU cl ms k=some .noChange:=by
 unfold fU;split
 ·exact .inr (.inl ⟨_,rfl,rfl⟩)
 ·split
  ·exact .inl rfl
  ·split
   ·exact .inr (.inr (.inr rfl))
   ·exact .inr (.inr (.inl rfl))
def l7 (n:Int)(ds:List R.dY):Ch:=ds.foldl (λst d=>(jA st d).2) (GL n)
theorem t9 (n:Int)(ds:List R.dY)(d:R.dY):l7 n (ds++[d])=(jA (l7 n ds) d).2:=by
 unfold l7;rw[List.foldl_append];rfl
theorem wV {n:Int}:∀(k:Nat) (ds:List R.dY),ds.length=k->k<=200->(∀d∈ds,sT d)->Inv (3 * k) (l7 n ds)
 | 0,ds,h,_,_=>by rw[List.length_eq_zero_iff.mp h];exact SJ n
 |k+1,ds,h,hk,hd=>by
  rcases ak4 ds with e | ⟨pre,d,e⟩
  ·rw[e]at h;cases h
  ·rw[ak5]at e;rw[e,ma,ala]at h;rw[e,t9];exact(wV k pre (by omega) (by omega) λx hx=>hd x (by rw[e];exact alI _ hx)).jA (by omega) (hd d (by rw[e];simp))
def SK (A:Adr):Sp:=λvs H Q _=>∃(n:Int) (L:Addr) (ts:List Addr) (ds:List R.dY) (c:Col),vs=[.int n,.ref L]/\¬cM 3 (c L)/\H L=some (.lst (ts.map V.ref))/\bG (ly c H) ds ts/\(∀d∈ds,sT d)/\ds.length<=62 /\
 ∀c' H' o,Step (cM 3) c c' H H'->dR A 3 c' H' o (l7 n ds)->Q (.ref o) H'
section
variable{P:rf}{w:World}{K:ba}{mg:Str->Option Value}{base:Heap}{A:Adr}
theorem C3 (T:Txt w.params K mg A){i:Nat}:a8 P w K mg base (CXX P w) 8 A.Ax A.qA ["_law_chamber","_law_motion_here"] (Eg A i):=by
 refine T.yc.okX jT (λvs H Q E h=>?_) (λcdv A' outer s H vs Q E hr h=>?_)
 ·obtain⟨o,t,c,st,N,d,rfl,_⟩:=h;rfl
 ·obtain⟨o,t,c,st,N,d,rfl,hc,I,hN,hd,hdc,FA,q⟩:=h;obtain⟨dx,aM,aP,aA,aD,aF,aE,aR,ms,ds,ws,fs,es,X⟩:=hc.ex;refine⟨_,(bc (psx (aY (i:=2) jT.nd rfl (tm rfl) xp))
 (bc (LS ⟨rfl,rfl⟩ (bc (kW (rP (px (pv 0)) T.aq T.mR (Mq (i:=i) T) hr T.gR (pax (aa (pv 1) ag))))
 (bD (psx (aB (bg (aa ao (aa af ag)))))))
 (VT (i:=3) jT.nd rfl rfl rfl T.wD (λ_=>(aj (aY (i:=2) jT.nd rfl (tm rfl) (bg (aa ao (aa (Qr (K:=K) rfl (pv 3) rfl) ag)))))) (A0 rfl T.u9 (λ_=>(aj (aY (i:=2) jT.nd rfl (tm rfl) (bg (aa ao (aa af ag)))))) (A0 rfl T.va (λ_=>(aj (aY (i:=2) jT.nd rfl (tm rfl) (bg (aa ao (aa af ag)))))) (LR ⟨rfl,rfl⟩)))))
 (bD (psx (aB (pv 2)))))),?_⟩
  try dsimp only[bF]
  have bb:∀b,fN st.closed (st.au.map st.mo)=b->(-10000000000 < b/\b < 10000000000):=λb hb=>by
   rw[<-hb];have h1:=J8 (st.au.map st.mo);unfold fN;split
   ·split <;> omega
   ·omega
  have fin:∀(c1:Col) (H1:Hp) (p:Addr),Step (cM i) c c1 H H1->H1 p=none->Q (.ref p) (upd H1 p (.tup (akT (fU st.closed (st.au.map st.mo) (cy d).k)))):=λc1 H1 p s1 hp =>
   q (az c1 p none) _ p (s1.trans (Step.new aL hp)) aX ae
  clear q;refine mtv rfl X.ob (cF (by trivial)) ⟨_,rfl,o,t,c,st,N,d,rfl,hc,I,hN,hd,hdc,?_⟩
  unfold qf;rw[FA];rcases Mv st.closed (st.au.map st.mo) (cy d).k with e | ⟨b,e,eb⟩ | e | e
  ·rw[e]at fin ⊢;exactλc1 H1 s1 hc1=>⟨(sl 2),λp hp=>fin c1 H1 p s1 hp⟩
  ·rw[e]at fin ⊢;refineλc1 H1 C e s1 hc1 hat he=>?_
   refine aN λGq gq=>?_
   obtain⟨a,ee,ha⟩:=hat.2;refine gq ?_;exact⟨true,xe hat.1 T.jqO,cN (λea hea=>⟨_,rfl,ea,A.cI,a,_,.int b,rfl,xoe hat.1 ee,(av (aI ha hea)).trans ha,T.DU,(by rw[amC];rfl),⟨_,.int (yk (bb b eb.symm).1 (bb b eb.symm).2)⟩,(sl 2),λp hp=>⟨_,rfl,fin (az c1 ea none) _ p (s1.trans (Step.new aL hea)) hp⟩⟩)⟩
  ·rw[e]at fin ⊢;refineλc1 H1 C e s1 hc1 hat he=>?_
   exact⟨false,xe hat.1 T.jqu,bM ⟨true,xe hat.1 T.jqp,cN (⟨(sl 2),λp hp=>⟨_,rfl,fin c1 H1 p s1 hp⟩⟩)⟩⟩
  ·rw[e]at fin ⊢;refineλc1 H1 C e s1 hc1 hat he=>?_
   exact⟨false,xe hat.1 T.jqv,bM ⟨false,xe hat.1 T.jqq,bM ⟨true,xe hat.1 T.jqr,cN (⟨(sl 2),λp hp=>⟨_,rfl,fin c1 H1 p s1 hp⟩⟩)⟩⟩⟩
theorem FF (T:Txt w.params K mg A){i:Nat}:a8 P w K mg base CX0 8 A.Ax A.qA ["_law_chamber","_law_motion_here"] (Eg A i) :=
 (C3 T).calm λ_ _ _ _ h=>h
theorem Kq (T:Txt w.params K mg A):a8 P w K mg base CX0 9 A.E5 A.uX ["_law_seats_here","_law_deeds"] (SK A):=by
 refine T.yd.ok uO (λvs H Q E h=>?_) (λcdv A' outer s H vs Q E hr h=>?_)
 ·obtain⟨n,L,ts,ds,c,rfl,_⟩:=h;rfl
 ·obtain⟨n,L,ts,ds,c,rfl,cL,hL,hz,hd,hl,q⟩:=h;refine⟨_,(ai (aY (i:=2) uO.nd rfl (tm rfl) (gB T.yf (PY T) (hr.mono (by decide)) rfl T.ye T.gP .nil aW (aa (pv 0) ag)))
 (ai (AK PassesOwn.never rfl (nK (pv 1)) (kL (i:=3) uO.nd rfl (tm rfl))
 (aj (bK (aV (Ec (i:=3) T) hr rfl T.BH T.wq.kp T.BG .nil aW (aa (pv 2) (aa (pv 3) ag))))))
 (aj (aB (pv 2))))),?_⟩
  try dsimp only[bF]
  refine⟨_,rfl,λo d1 ho1 hd1 ne1=>⟨o,d1,n,rfl,ae,λH2 h2=>⟨rfl,?_⟩⟩⟩
  refine aN λGq gq=>?_
  obtain⟨c1,k1,ch1⟩:=h2 3 c;have st1:Step (cM 3) c c1 H H2:=Ef aL ho1 hd1 k1;clear k1 ho1 hd1 ne1 h2;refine gq ?_
  try dsimp only[dh]
  refine⟨_,rfl,L,rfl,⟨_,SqL.of (st1.keep _ _ hL cL)⟩,?_⟩;refine AL (K:=K) (a:=L) (xs:=ts.map V.ref) (λj σ Hj=>∃(v3:Option V) (c':Col),σ=[some (.int n),some (.ref L),some (.ref o),v3]/\Step (cM 3) c c' H Hj/\dR A 3 c' Hj o (l7 n (ds.take j)))
   ⟨_,c1,rfl,st1,ch1⟩ (λj σ Hj _ ⟨_,_,_,x,_⟩=>SqL.of (x.keep _ _ hL cL)) ?_ ?_
  ·rintro j y σ Hj hy ⟨v3,c',rfl,x,ch⟩;refine aN λGq gq=>?_
   obtain⟨t,ht,rfl⟩:∃t,ts[j]?=some t/\V.ref t=y:=by
    rw[aln]at hy;cases hq:ts[j]? with
    |none=>rw[hq]at hy;cases hy
    |some t=>rw[hq]at hy;exact⟨t,rfl,ak9 hy⟩
   obtain⟨d,hdj,hzd⟩:=hz.abJ ht;have jl:j < ds.length:=(List.getElem?_eq_some_iff.mp hdj).1;have hlen:(ds.take j).length=j:=by rw[alD];omega
   have I:=wV (n:=n) j (ds.take j) hlen (by omega) λx hx=>hd x (List.mem_of_mem_take hx)
   have hdd:=hd d (alw hdj);refine gq ?_
   try dsimp only[dh]
   refine⟨_,rfl,_,rfl,o,t,c',l7 n (ds.take j),3 * j,d,rfl,ch,I,by omega,hdd,(hzd.step x).c,λc6 H6 u6 s6 ch6 _ _=>⟨_,c6,rfl,x.trans s6,?_⟩⟩
   rw[ams,hdj];show dR A 3 c6 H6 o (l7 n (ds.take j++[d]));rw[t9];exact ch6
  ·rintro σ Hj ⟨v3,c',rfl,x,ch⟩;have e:(ts.map V.ref).length=ds.length:=by rw[bo,hz.len]
   rw[e,amc]at ch;exact⟨_,rfl,q c' Hj o x ch⟩
end
theorem MnT.dv {K:ba}{c:Col}{H:Hp}{m:Mn}{t:Addr}(h:MnT c H m t):DV K H (mnD m) (.ref t):=by
 obtain⟨_,v,ht,hv⟩:=h
 by_cases h0:m.k=0
 ·obtain⟨tx,rfl⟩:∃tx,m=.mat tx:=by cases m <;> first | exact⟨_,rfl⟩ | exact absurd h0 (by simp[Mn.k])
  obtain⟨p,rfl,hp⟩:=hv;unfold mnD DV;refine⟨t,_,rfl,SqT.of ht,?_⟩;unfold DVs;refine⟨_,_,rfl,by unfold DV;rfl,?_⟩
  unfold DVs;exact⟨_,_,rfl,LN (SqL.of hp.2),by unfold DVs;rfl⟩
 ·exact WS (by omega) hv (SqT.of ht)
theorem FG {W:Option (Nat×Rl)->Prop}{c c':Col}{H H':Hp}(x:Step W c c' H H'){a:Addr}{v:HO}{y:Option (Nat×Rl)}(h:c a=y)(n:¬W y)(hv:H a=some v):c' a=y/\H' a=some v :=
 ⟨(x.col a v hv (by rw[h];exact n)).trans h,x.keep a v hv (by rw[h];exact n)⟩
def yy (c:Col)(H:Hp)(D:Addr)(ms:List Mn):Prop:=c D=some (0,.ob)/\∃us:List Addr,H D=some (.lst (us.map V.ref))/\bG (MnT c H) ms us
theorem yy.step {W:Option (Nat×Rl)->Prop}{c c':Col}{H H':Hp}{D:Addr}{ms:List Mn}(n:¬W (some (0,.ob)))(x:Step W c c' H H'):yy c H D ms->yy c' H' D ms
 |⟨h,us,h1,h2⟩=>⟨(FG x h n h1).1,us,(FG x h n h1).2,h2.imp λ_ _ z=>z.step x⟩
theorem yy.dv {K:ba}{c:Col}{H:Hp}{D:Addr}{ms:List Mn}:yy c H D ms->DV K H (.list (ms.map mnD)) (.ref D)
 |⟨_,us,h1,h2⟩=>by
  unfold DV;refine⟨D,_,rfl,SqL.of h1,?_⟩;exact bG.dvs (R:=λm v=>∃u,v=.ref u/\MnT c H m u) (λm v ⟨u,e,h⟩=>by rw[e];exact h.dv) (bG.mapR (h2.imp λm u h=>⟨u,rfl,h⟩))
theorem abK {A:Adr}{i:Nat}(hi:0≠i){K:ba}{o p D:Addr}{c:Col}{H:Hp}{st:Ch}{ks:List Nat}{te:TE}{σ:St}{Q:VK}
  (hte:∀(k:Nat) (c:Col) (H:Hp) (Q:VK),dR A i c H o st->dX st k->(∀u H',bw H H'->MnT (bU c H) H' (st.mo k) u->Q (.ref u) H')->te (some (nV k)::σ) H Q)
  (ch:dR A i c H o st) (hp:H p=some (.lst (ks.map nV))) (hk:∀k∈ks,dX st k) (hl:ks.length<=8) (hD:H D=none)
  (q:∀c' H',bw H H'->Step (cM 0) c c' H H'->dR A i c' H' o st->yy c' H' D (ks.map st.mo)->Q (.ref D) H'):rN (Itl K p) te σ D H Q:=by
 have lim:kg=16777216:=by decide
 have stD:Step (cM 0) c (az c D (some (0,.ob))) H (upd H D (.lst [])):=Step.new aL hD;refine pj (K:=K) (a:=p) (xs:=ks.map nV) (λj zs H4=>bw H H4/\H4 D=some (.lst zs)/\∃(c4:Col) (us:List Addr),Step (cM 0) c c4 H H4/\c4 D=some (0,.ob)/\dR A i c4 H4 o st/\zs=us.map V.ref/\bG (MnT c4 H4) ((ks.take j).map st.mo) us)
  ⟨aG hD,ae,az c D (some (0,.ob)),[],stD,aX,ch.free (λr=>d9 hi.symm r) stD,rfl,.nil⟩ (by rw[bo];omega) ?_ ?_ ?_
 ·rintro j zs H4 hj ⟨s4,hD4,c4,us,_,_,_,rfl,ha⟩;refine⟨SqL.of (s4 _ _ hp),hD4,?_⟩;rw[bo]at hj ⊢;rw[<-ha.len,bo,alD];omega
 ·rintro j y zs H4 hj ⟨s4,hD4,c4,us,x4,cD,ch4,rfl,ha⟩;obtain⟨k,hk1,rfl⟩:∃k,ks[j]?=some k/\nV k=y:=by
   rw[aln]at hj;cases ht:ks[j]? with
   |none=>rw[ht]at hj;cases hj
   |some t=>rw[ht]at hj;exact⟨t,rfl,ak9 hj⟩
  refine hte k c4 H4 _ ch4 (hk k (alw hk1)) λu5 H5 s5 mn5=>?_
  have hD5:=s5 _ _ hD4;have e5:Step (cM 0) c4 (bU c4 H4) H4 H5:=Step.cl aL s5;have cD5:bU c4 H4 D=some (0,.ob):=(PH hD4).trans cD;have e6:Step (cM 0) (bU c4 H4) (bU c4 H4) H5 (upd H5 D (.lst (us.map V.ref++[.ref u5]))):=Step.upd aL ⟨.ob,cD5⟩;refine eD.mk (List.getElem?_eq_some_iff.mp hj).1 hD5 ⟨(s4.trans s5).own hD,ae,bU c4 H4,us++[u5],x4.trans (e5.trans e6),cD5,ch4.free (λr=>d9 hi.symm r) (e5.trans e6),by rw[ko];rfl,?_⟩
  rw[ams,hk1,ko];exact bG.snoc (ha.imp λ_ _ z=>z.step (e5.trans e6)) (mn5.step e6)
 ·rintro zs H4 ⟨s4,hD4,c4,us,x4,cD,ch4,rfl,ha⟩;rw[bo,amc]at ha;exact q c4 H4 s4 x4 ch4 ⟨cD,us,hD4,ha⟩
theorem Qs (m:Mn):(mnD m).depth<=20:=by
 cases m with
 |mat tx =>
  have:=Qp tx;unfold mnD;simp only[alN,alA]at this ⊢;omega
 |chg e =>
  have:=Qn e;unfold mnD;simp only[alN,alA];omega
 |mnd e =>
  have:=Qn e;unfold mnD;simp only[alN,alA];omega
 |_=>unfold mnD;simp only[alN,alA];omega
theorem Qt {N:Nat}{ms:List Mn}(h:∀m∈ms,MOk N m):ak6 (.list (ms.map mnD))=true/\amd (.list (ms.map mnD))=true:=by
 have h1:ak6 (.list (ms.map mnD))=true:=by
  simp only[ak6];exact AE λm hm=>W3 (h m hm)
 refine⟨h1,t7 h1 ?_⟩;have:=t8 (f:=mnD) (k:=20) Qs ms;simp only[alN];omega
def TV (K:ba)(H:Hp):Mn->V->Prop
 | .mat tx,v=>∃p xs,v=.ref p/\SqL K H p xs/\xs.length=tx.length
 | .chg e,v=>∃t,v=.ref t/\SqT K H t (eG e)
 | .mnd e,v=>∃t,v=.ref t/\SqT K H t (eG e)
 |_,_=>True
theorem TV.same {K:ba}{H H':Hp}(s:bw H H'):∀ {m:Mn} {v:V},TV K H m v->TV K H' m v
 | .mat _,_,⟨p,xs,e,h,l⟩=>⟨p,xs,e,s.seq h,l⟩
 | .chg _,_,⟨t,e,h⟩=>⟨t,e,bP s h⟩
 | .mnd _,_,⟨t,e,h⟩=>⟨t,e,bP s h⟩
 | .off _,_,_=>trivial
 | .cls,_,_=>trivial
 | .lay,_,_=>trivial
 | .rst,_,_=>trivial
 | .pnt _,_,_=>trivial
def Told (K:ba)(H:Hp)(m:Mn)(u:Addr):Prop:=∃v,SqT K H u (rowOf m.k v)/\TV K H m v
theorem Told.same {K:ba}{H H':Hp}(s:bw H H'){m:Mn}{u:Addr}:Told K H m u->Told K H' m u
 |⟨v,h1,h2⟩=>⟨v,bP s h1,h2.same s⟩
def Nj (A:Adr)(i:Nat):Sp:=λvs H Q _=>∃(o:Addr) (n:Nat) (c:Col) (st:Ch),vs=[.ref o,nV n]/\dR A i c H o st/\dX st n/\∀u H',bw H H'->MnT (bU c H) H' (st.mo n) u->Q (.ref u) H'
section
variable{P:rf}{w:World}{K:ba}{mg:Str->Option Value}{base:Heap}{A:Adr}
theorem Ct (T:Txt w.params K mg A){i:Nat}:a8 P w K mg base (CXX P w) 3 A.cq A.jh ["self","number"] (Nj A i):=by
 have Ka:∀k,k < 8->a8 P w K mg base CX0 2 (A.ft k) (A.ftd k) ["self"] (Fq A K k):=GH T;refine T.e9.okX vS (λvs H Q E h=>?_) (λcdv A' outer s H vs Q E hr h=>?_)
 ·obtain⟨o,n,c,st,rfl,_⟩:=h;rfl
 ·obtain⟨o,n,c,st,rfl,hc,hn,q⟩:=h;obtain⟨dx,aM,aP,aA,aD,aF,aE,aR,ms,ds,ws,fs,es,X⟩:=hc.ex;have hu1:=hr.u1;have hgd:=hr.gd;refine⟨_,(bc (ic (Jl (xB hu1 (pv 1) (br (pv 0) rfl)))
 (bD (jM T.yX rfl rfl T.BP (aa (Dt (mE (xy (pv 1) xx))) ag)))
 (vO aC))
 (bD (psx (aB (l8 (n:=8) (Cf:=A.C) (bh hu1 (br (pv 0) rfl) (pv 1) (λ_ _=>rfl)) T.cl T.J2 Ka hr T.J3 aW))))),?_⟩
  try dsimp only[bF]
  refine⟨_,rfl,eS rfl X.ob T.aq T.jq2 iz ⟨aM,_,rfl,.inl ⟨_,ku (n:Int),.inl X.made.2,rfl,rfl⟩,_,rfl,?_⟩⟩;refine aN λGq gq=>?_
  obtain⟨mo,hv,hmo⟩:=X.Sg hn;refine gq ?_;rw[hv];refine bM ?_;refine aN λGq gq=>?_
  obtain⟨_,dm,v,hm,hvv⟩:=hmo;refine gq ?_;refine⟨_,rfl,o,A.ax,dx,_,.ref aM,rfl,X.ob,T.aq,T.jq2,iz,_,rfl,aM,_,rfl,.inl ⟨_,ku (n:Int),.inl X.made.2,rfl,hv.symm⟩,(st.mo n).k,(st.mo n).k8,mo,dm,_,rfl,hm,L6 _ v,?_⟩;generalize st.mo n=m at hm hvv q
  by_cases h0:m.k=0
  ·obtain⟨tx,rfl⟩:∃tx,m=.mat tx:=by cases m <;> first | exact⟨_,rfl⟩ | exact absurd h0 (by simp[Mn.k])
   refine aN λGq gq=>?_
   obtain⟨p,rfl,hp⟩:=hvv;refine gq ?_;refine .inl ⟨rfl,mo,dm,p,tx.map V.str,rfl,hm,SqL.of hp.2,λp2 u hp2 hu npu=>?_⟩
   have nu:(upd H p2 (.lst (tx.map V.str))) u=none:=(av (alr npu)).trans hu;exact q u _ ((aG hp2).new nu) ⟨bC hu,.ref p2,ae,p2,rfl,bC hp2,(av npu).trans ae⟩
  ·refine .inr ⟨by omega,mo,dm,v,rfl,hm,λu hu=>?_⟩
   have su:=aG (o:=.tup (rowOf m.k v)) hu;exact q u _ su ⟨bC hu,v,ae,hvv.step (Step.cl (W:=λ_=>False) id su)⟩
end
def Cu:List Mn->Nat
 | .mat tx::_=>tx.length
 |_=>0
def sX (ms:List Mn):Nat:=match ms.getLast? with
 |some (.chg e)=>if e.k=1 then 0 else (R.bq e.th).length
 |_=>0
theorem Mw {n:Nat}{j:Int}(h0:0<=j)(h1:j<=(n:Int))(th:Str):fS n ⟨0,j,th⟩=true:=by
 unfold fS;show (decide (0<=j) && decide (j < (n:Int)+1))=true;rw[decide_eq_true h0,decide_eq_true (by omega)]
 rfl
theorem kz {st:Ch}{m:Mn}(h:iq st m=none):ir st m=fU st.closed (st.au.map st.mo) m.k:=by
 unfold ir;split
 ·rename_i x e;rw[e]
 ·rename_i e;rw[e];exact h
theorem SM {st:Ch}{j:Int}(h0:0<=j)(h1:j<=(Cu (st.au.map st.mo):Int))(th:Str):iq st (.chg ⟨0,j,th⟩)=none:=by
 unfold iq;dsimp only;split
 ·rename_i tx r e;rw[e]at h1;have h2:j<=(tx.length:Int):=h1;rw[if_pos (Mw h0 h2 th)]
 ·rfl
theorem SN {st:Ch}{j:Int}(h0:0<=j)(h1:j<=(sX (st.au.map st.mo):Int))(th:Str):iq st (.mnd ⟨0,j,th⟩)=none:=by
 unfold iq;dsimp only;split
 ·rename_i e he;have h2:j<=((R.bq e.th).length:Int):=by
   unfold sX at h1;rw[he]at h1;dsimp only at h1;split at h1
   ·omega
   ·exact h1
  rw[if_pos (Mw h0 h2 th)]
 ·rfl
theorem SO {st:Ch}{u:Int}(h:st.aU < u):iq st (.off u)=none:=by
 unfold iq;dsimp only;rw[if_neg (by omega)]
theorem abL {N:Nat}{st:Ch}(I:Inv N st):Cu (st.au.map st.mo)<=12+N:=by
 cases h:st.au with
 |nil=>exact alX _
 |cons k r =>
  rw[km];have hm:=I.ue (I.bL k (by rw[h];exact gr))
  cases e:st.mo k with
  |mat tx =>
   rw[e]at hm;exact hm.1
  |_=>exact alX _
theorem abM {N:Nat}{st:Ch}(I:Inv N st):sX (st.au.map st.mo)<=12+N:=by
 unfold sX;split
 ·rename_i e he;split
  ·omega
  ·obtain⟨k,hk,ek⟩:=List.mem_map.mp (List.mem_of_getLast? he);have hm:=I.ue (I.bL k hk);rw[ek]at hm;exact(EdB.words (show EdB (12+N) e from hm)).2
 ·omega
theorem W4:∀k,k < 8->decide (V.str (nm k)=V.str (ar "point"))=decide (k=7):=by trivial
theorem Qu:∀k,k=4\/k=5\/k=6->(nm k,0)∈kS/\(cy (.nums (nm k) [])).k=k:=by
 rintro k (rfl | rfl | rfl)
 ·exact⟨by trivial,by rw[cy,if_neg (by trivial),if_pos (by trivial)];rfl⟩
 ·exact⟨by trivial,by rw[cy,if_neg (by trivial),if_neg (by trivial),if_pos (by trivial)];rfl⟩
 ·exact⟨by trivial,by rw[cy,if_neg (by trivial),if_neg (by trivial),if_neg (by trivial)];rfl⟩
theorem FH (st:Ch):∀ {m:Mn},(m.k=4\/m.k=5\/m.k=6\/m.k=0\/m.k=7)->iq st m=none
 | .mat _,_=>rfl
 | .chg _,h=>absurd h (by simp[Mn.k])
 | .mnd _,h=>absurd h (by simp[Mn.k])
 | .off _,h=>absurd h (by simp[Mn.k])
 | .cls,_=>rfl
 | .lay,_=>rfl
 | .rst,_=>rfl
 | .pnt _,_=>rfl
def Mx (A:Adr)(i:Nat):Sp:=λvs H Q _=>∃(o:Addr) (k:Nat) (cell:Int) (c:Col) (st:Ch) (N:Nat),vs=[.ref o,.str (nm k),.int cell]/\k < 8/\dR A i c H o st/\Inv N st/\N<=150 /\
 ∀H' d t,bw H H'->wQ d->(cy d).k=k->ir st (cy d)=fU st.closed (st.au.map st.mo) (cy d).k->ly (bU c H) H' d t->Q (.ref t) H'
theorem Qv {u:Int}(h0:-10000000000 < u)(h1:u < 10 ^ 10):wQ (.nums (ar "put off") [u]):=⟨by show (ar "put off",1)∈kS;trivial,λi hi=>by rw[alo]at hi;rw[hi];exact⟨h0,h1⟩⟩
theorem Mz {v:V}{i:Nat}{t2:TS}{D:Ends}{σ:St}{H:Hp}(h:t2 D (σ.set i (some v)) H):Vp (Rm (tC v) (dh i)) t2 D σ H:=h
theorem G0 (u:Int):cy (.nums (ar "put off") [u])=.off u:=by
 rw[cy,if_pos rfl];rfl
theorem Kr:alP (.list []) (.list [])=true:=by simp[alP,amG]
theorem Cv (d:PyData)(ds:List PyData):alP (.list (d::ds)) (.list [])=false:=by simp[alP,amG]
theorem Nk {e:Ed}(h:e.k=0\/e.k=1\/e.k=2):atI (eG e) 0=some (.str (kn e.k)):=by
 obtain⟨k,a,th⟩:=e;dsimp only at h;rcases h with rfl | rfl | rfl <;> rfl
theorem SQ {e:Ed}(h:e.k=0\/e.k=1\/e.k=2)(hk:e.k≠1):eG e=[V.str (kn e.k),.int e.at_,.str e.th]:=by
 obtain⟨k,a,th⟩:=e;dsimp only at h hk;rcases h with rfl | rfl | rfl
 ·rfl
 ·exact absurd rfl hk
 ·rfl
section
variable{P:rf}{w:World}{K:ba}{mg:Str->Option Value}{base:Heap}{A:Adr}
set_option maxHeartbeats 4000000 in
theorem G1 (T:Txt w.params K mg A){i:Nat}(hi:0≠i):a8 P w K mg base CX0 8 A.vZ A.nQ ["_law_chamber","_law_kind","_law_cell"] (Mx A i):=by
 have iP:a8 P w K mg base CX0 2 A.rZ A.k9 ["_law_cell"] vo:=za T;refine T.u3.ok i3 (λvs H Q E h=>?_) (λcdv A' outer s H vs Q E hr h=>?_)
 ·obtain⟨o,k,cell,c,st,N,rfl,_⟩:=h;rfl
 ·obtain⟨o,k,cell,c,st,N,rfl,k8,hc,I,hN,q⟩:=h;have g0:Room 2 _:=hr.mono (by decide)
  have jr:=hr.units;have sz:kg=16777216:=by decide
  refine⟨_,(ai (aY (i:=3) i3.nd rfl (tm rfl) (d5 (pv 0) T.aq T.lL (Ee (i:=i) T) (hr.mono (by decide)) T.fR .nil aW))
 (ai (uH (i:=4) (scope:=rX) CT rfl rfl (tm rfl) (nK (aK aT (pv 3) af (λ_ _=>rfl))) (λ_ _ _ _ _=>(iE (pv 1) T.aq T.j7 (Ct (i:=i) T) (hr.mono (by decide)) T.fb .nil Ez (aa (pv 0) ag))))
 (ai (aY (i:=5) i3.nd rfl (tm rfl) af)
 (ai (aY (i:=6) i3.nd rfl (tm rfl) af)
 (ai (a9 (PW.pt (pw_and (ay (uG jr) (pv 4) (bS ag) (aJ _)) (pw_and1 (ay bt (aK aT (aK bx (pv 4) af (λ_ _=>rfl)) af (λ_ _=>rfl)) ao (aJ _)))))
 (aj (aY (i:=5) i3.nd rfl (tm rfl) (cA cP (by rfl) T.nY jK (aa (aK aT (aK bx (pv 4) af (λ_ _=>rfl)) af (λ_ _=>rfl)) ag))))
 aC)
 (ai (a9 (PW.pt (pw_and (ay (uG jr) (pv 4) (bS ag) (aJ _)) (pw_and (ay bt (aK aT (aK bx (pv 4) (jE gv af) (λ_ _=>rfl)) af (λ_ _=>rfl)) ao (aJ _)) (pw_and1 (ay AM (aK aT (aK aT (aK bx (pv 4) (jE gv af) (λ_ _=>rfl)) af (λ_ _=>rfl)) af (λ_ _=>rfl)) ao (aJ _))))))
 (aj (aY (i:=6) i3.nd rfl (tm rfl) (cA cP (by rfl) T.nY jK (aa (aV (qO T) (hr.mono (by decide)) rfl T.pW T.mz.kp T.pV .nil aW (aa (aK aT (aK aT (aK bx (pv 4) (jE gv af) (λ_ _=>rfl)) af (λ_ _=>rfl)) af (λ_ _=>rfl)) ag)) ag))))
 aC)
 (ai (a9 (ay bt (pv 1) ao (aJ _))
 (aj (aB (bg (aa ao (aa (bS (aa (aV iP g0 rfl T.iN T.gN.kp T.iM .nil aW (aa (pv 2) ag)) ag)) ag)))))
 aC)
 (ai (a9 (ay bt (pv 1) ao (aJ _))
 (aj (aB (bg (aa ao (aa (bg (aa ao (aa (a6 b6 (pv 2) (a6 dI (pv 5) af)) (aa (aV iP g0 rfl T.iN T.gN.kp T.iM .nil aW (aa (a6 cO (pv 2) af) ag)) ag)))) ag)))))
 aC)
 (ai (a9 (ay bt (pv 1) ao (aJ _))
 (aj (aB (bg (aa ao (aa (bg (aa ao (aa (a6 b6 (pv 2) (a6 dI (pv 6) af)) (aa (aV (yu T) (hr.mono (by decide)) rfl T.wg T.sy.kp T.we .nil aW (aa (a6 cO (pv 2) af) ag)) ag)))) ag)))))
 aC)
 (ai (a9 (ay bt (pv 1) ao (aJ _))
 (aj (aB (bg (aa ao (aa (a6 dI (a6 dI (aK aT (pv 3) af (λ_ _=>rfl)) af) (a6 b6 (pv 2) (a6 N6 af af))) ag)))))
 aC)
 (ai (a9 (ay bt (pv 1) ao (aJ _))
 (aj (aB (bg (aa ao (aa (aV iP g0 rfl T.iN T.gN.kp T.iM .nil aW (aa (pv 2) ag)) ag)))))
 aC)
 (aj (aB (bg (aa (pv 1) ag))))))))))))))),?_⟩
  try dsimp only[bF]
  refine aN λGq gq=>?_
  obtain⟨dx,aM,aP,aA,aD,aF,aE,aR,ms0,ds,ws,fs,es,X⟩:=hc.ex;have al:=I.Ca;have lm:=I.lm;have kl:st.au.length<=8:=by have h:=I.pil.C0;rw[bo]at h;exact h
  have mok:∀m∈st.au.map st.mo,MOk N m:=λm hm=>by
   obtain⟨j,hj,rfl⟩:=List.mem_map.mp hm;exact I.ue (I.bL j hj)
  have szl:=abL I;have wnl:=abM I;refine gq ?_;refine mtv rfl X.ob (cF (by trivial)) ⟨o,c,st,rfl,hc,by omega,λns1 u1 H1 pm1 so1 s1 aiR=>?_⟩
  refine aN λGq gq=>?_
  obtain⟨l1,Rr,l2,ys,ds1,S⟩:=aiR;have ch1:dR A i (bU c H) H1 o st:=hc.free (W:=λ_=>False) (λ_=>id) (Step.cl id s1)
  refine gq ?_;generalize hc1:bU c H=c1 at S ch1
  try dsimp only[dh]
  refine ixv rfl (SqT.of S.hu) rfl ⟨l1,rfl,⟨_,SqL.of S.h1⟩,λD hD=>abK hi (o:=o) (st:=st) (ks:=st.au) ?m1 ch1 S.h1 I.bL kl hD λc2 H2 s2 x2 ch2 mo2=>?q2⟩
  case m1 =>
   intro k' c' H' Q' ch' hn' q';refine aN λGq gq=>?_
   obtain⟨dx,aM,aP,aA,aD,aF,aE,aR,ms,ds,ws,fs,es,X⟩:=ch'.ex;refine gq ?_;exact mtv rfl X.ob (cF (by trivial)) ⟨_,rfl,o,k',c',st,rfl,ch',hn',q'⟩
  case q2 =>
  have s12:=s1.trans s2;have hu2:=s2 _ _ S.hu;generalize hms:st.au.map st.mo=ms at mo2 mok szl wnl;refine aN λGq gq=>?_
  obtain⟨_,us,hD2,hA⟩:=id mo2;refine gq ?_
  try dsimp only[dh]
  refine Mz (Mz ?_);refine eN (λσ' H'=>bw H2 H'/\σ'=[some (.ref o),some (.str (nm k)),some (.int cell),some (.ref u1),some (.ref D),some (.int (Cu ms:Int)),some (.int 0)]) ?r1 (λN1 n1=>?f1)
  case f1 =>
   refine⟨_,rfl,(sl 0),λp hp=>?_⟩
   have s3:=aG (o:=.lst []) hp;refine⟨.list (ms.map mnD),.list [],DV.same s3 _ mo2.dv,ni (SqL.of ae),(Qt mok).2,nh,_,rfl,?_⟩;clear mo2 q;cases ms with
   |nil =>
    rw[show alP (.list ([].map mnD)) (.list [])=true from Kr]
    exact bM (bM (n1 _ _ ⟨s3,rfl⟩))
   |cons m r =>
    rw[km,Cv];cases hA with
    | @cons _ u0 _ ur h0 ht =>
    refine aN λGq gq=>?_
    obtain⟨_,v0,hv0,W5⟩:=h0;have hD3:=s3 _ _ hD2;have hv3:=s3 _ _ hv0;refine gq ?_;refine cN (ixv rfl (SqL.of hD3) (cB (j:=0) rfl) ⟨u0,_,_,_,rfl,rfl,SqT.of hv3,dH,rfl,_,rfl,?_⟩);rw[vj _ m.k8]
    by_cases hk:m.k=0
    ·rw[decide_eq_true hk];refine aN λGq gq=>?_
     obtain⟨tx,rfl⟩:∃tx,m=.mat tx:=by cases m <;> first | exact⟨_,rfl⟩ | exact absurd hk (by simp[Mn.k])
     obtain⟨pt,rfl,hpt⟩:=W5;refine gq ?_;refine cN (ixv rfl (SqL.of hD3) (cB (j:=0) rfl) ⟨u0,_,_,_,rfl,rfl,SqT.of hv3,rfl,pt,_,rfl,.inl (SqL.of (s3 _ _ hpt.2)),n1 _ _ ⟨s3,?_⟩⟩);rw[bo];rfl
    ·rw[decide_eq_false hk];refine bM (n1 _ _ ⟨s3,?_⟩);have e0:Cu (m::r)=0:=by cases m <;> first | rfl | exact absurd rfl hk
     rw[e0];rfl
  case r1 =>
  rintro σ3 H3 ⟨s3,rfl⟩;refine eN (λσ' H'=>bw H2 H'/\σ'=[some (.ref o),some (.str (nm k)),some (.int cell),some (.ref u1),some (.ref D),some (.int (Cu ms:Int)),some (.int (sX ms:Int))]) ?r2 (λN1 n1=>?f2)
  case f2 =>
   refine⟨_,rfl,(sl 0),λp hp=>?_⟩
   have s5:=s3.new (o:=.lst []) hp;refine⟨.list (ms.map mnD),.list [],DV.same s5 _ mo2.dv,ni (SqL.of ae),(Qt mok).2,nh,_,rfl,?_⟩;generalize upd H3 p (.lst [])=H5 at s5 ⊢;clear mo2 q;rcases ak4 ms with e | ⟨pre,m,e⟩
   ·subst e;rw[show alP (.list ([].map mnD)) (.list [])=true from Kr]
    exact bM (bM (n1 _ _ ⟨s5,rfl⟩))
   ·rw[ak5]at e;have hne:alP (.list (ms.map mnD)) (.list [])=false:=by
     rw[e];cases pre with
     |nil=>exact Cv ..
     |cons _ _=>exact Cv ..
    rw[hne];refine aN λGq gq=>?_
    obtain⟨ul,hul,_,v0,hv0,W5⟩:=hA.get (i:=pre.length) (a:=m) (by rw[e,amr (kq _),Nat.sub_self];rfl)
    have GR:atI (us.map V.ref) (-1)=some (.ref ul):=by
     have hl:us.length=pre.length+1:=by rw[<-hA.len,e,ma];rfl
     obtain⟨d1,d2,ed⟩:∃d1 d2,us=d1++[d2]:=by
      rcases ak4 us with z | ⟨d1,d2,z⟩
      ·rw[z]at hl;cases hl
      ·exact⟨d1,d2,by rw[z,ak5]⟩
     rw[ed,ko];rw[ed,ma,ala]at hl;rw[ed,amr (by omega),show pre.length - d1.length=0 by omega]at hul
     have hu':d2=ul:=by simpa using hul
     rw[hu'];exact gH _ _
    have hD5:=s5 _ _ hD2;have hv5:=s5 _ _ hv0;have hlm:ms.getLast?=some m:=by rw[e,alK]
    refine gq ?_;refine cN ⟨_,rfl,_,rfl,D,_,_,_,rfl,rfl,SqL.of hD5,GR,ul,_,_,_,rfl,rfl,SqT.of hv5,dH,rfl,_,rfl,?_⟩;rw[b7 _ m.k8]
    by_cases hk:m.k=1
    ·rw[decide_eq_true hk];refine aN λGq gq=>?_
     obtain⟨ed,rfl⟩:∃ed,m=.chg ed:=by cases m <;> first | exact⟨_,rfl⟩ | exact absurd hk (by simp[Mn.k])
     obtain⟨te,rfl,hte⟩:=W5;have heb:EdB (12+N) ed:=mok (.chg ed) (by rw[e];simp)
     have W6:SqT K H5 te (eG ed):=bP s5 hte.sq;refine gq ?_;refine cN ⟨_,rfl,_,rfl,D,_,_,_,rfl,rfl,SqL.of hD5,GR,ul,_,_,_,rfl,rfl,SqT.of hv5,rfl,te,_,_,_,rfl,rfl,W6,Nk heb.1,rfl,_,rfl,?_⟩;rw[AD]
     by_cases hc:ed.k=1
     ·rw[decide_eq_true hc];refine bM (n1 _ _ ⟨s5,?_⟩);have e0:sX ms=0:=by unfold sX;rw[hlm];exact if_pos hc
      rw[e0];rfl
     ·rw[decide_eq_false hc];have er:=SQ heb.1 hc;rw[er]at W6;have hel:=(heb.ok (by omega)).th.len
      refine cN ⟨_,rfl,_,rfl,D,_,_,_,rfl,rfl,SqL.of hD5,GR,ul,_,_,_,rfl,rfl,SqT.of hv5,rfl,te,_,_,_,rfl,rfl,W6,rfl,ed.th,rfl,by omega,λp1 hp1=>⟨p1,_,rfl,.inl (SqL.of ae),n1 _ _ ⟨s5.new hp1,?_⟩⟩⟩
      have e0:sX ms=(R.bq ed.th).length:=by unfold sX;rw[hlm];exact if_neg hc
      rw[e0,bo];rfl
    ·rw[decide_eq_false hk];refine bM (bM (n1 _ _ ⟨s5,?_⟩));have e0:sX ms=0:=by
      unfold sX;rw[hlm];cases m <;> first | rfl | exact absurd rfl hk
     rw[e0];rfl
  case r2 =>
  rintro σ4 H4 ⟨s4,rfl⟩;have s14:=s12.trans s4;have hu4:=s4 _ _ hu2;rw[hms]at q;have hcm:∀d,ir st (cy d)=fU st.closed (st.au.map st.mo) (cy d).k->ir st (cy d)=fU st.closed ms (cy d).k:=λd h=>by rw[<-hms];exact h
  try dsimp only[dh]
  refine⟨_,rfl,rfl,_,rfl,?_⟩;rw[vj _ k8]
  by_cases k0:k=0
  ·rw[decide_eq_true k0];refine cN ⟨_,rfl,_,rfl,λws5 H5 hws s5=>⟨(sl 1),λL hL=>⟨(sl 2),λt ht=>?_⟩⟩⟩
   have s15:=s14.trans s5;have s6:=s15.new (o:=.lst [.str (tu R.bl1 ws5)]) hL;have nL:L≠t:=aI ae ht;exact q _ (.mat [ws5]) t (s6.new ht) ⟨by show 1<=12;decide,λz hz=>by rw[alo]at hz;rw[hz];exact hws⟩ k0.symm (hcm _ (kz (FH st (.inr (.inr (.inr (.inl rfl))))))) ⟨L,⟨bC (same_none s6 ht),ae⟩,bC (same_none s15 hL),(av nL).trans ae⟩
  rw[decide_eq_false k0];refine bM ⟨_,rfl,rfl,_,rfl,?_⟩;rw[b7 _ k8]
  by_cases k1:k=1
  ·rw[decide_eq_true k1];have j0:0<=cell % ((Cu ms:Int)+1):=alH _ (by omega)
   have j1:cell % ((Cu ms:Int)+1) < (Cu ms:Int)+1:=aly _ (by omega)
   refine cN ⟨_,rfl,_,rfl,_,_,rfl,rfl,_,_,rfl,rfl,(by show 0 < (Cu ms:Int)+1;omega),_,rfl,_,_,rfl,rfl,⟨by decide,by decide⟩,_,rfl,λws5 H5 hws s5=>⟨(sl 3),λe he=>⟨(sl 2),λt ht=>?_⟩⟩⟩
   have s15:=s14.trans s5;have s6:=s15.new (o:=.tup [.str (ar "put"),.int (cell % ((Cu ms:Int)+1)),.str (tu R.bl1 ws5)]) he;have nL:e≠t:=aI ae ht;exact q _ (.ed false 0 (cell % ((Cu ms:Int)+1)) ws5) t (s6.new ht) ⟨.inl rfl,⟨by omega,by omega⟩,hws,λz=>nomatch z⟩ k1.symm (hcm _ (kz (SM j0 (by rw[hms];omega) _))) ⟨e,⟨bC (same_none s6 ht),ae⟩,bC (same_none s15 he),.inl ((av nL).trans ae)⟩
  rw[decide_eq_false k1];refine bM ⟨_,rfl,rfl,_,rfl,?_⟩;rw[ck _ k8]
  by_cases k2:k=2
  ·rw[decide_eq_true k2];have j0:0<=cell % ((sX ms:Int)+1):=alH _ (by omega)
   have j1:cell % ((sX ms:Int)+1) < (sX ms:Int)+1:=aly _ (by omega)
   refine cN ⟨_,rfl,_,rfl,_,_,rfl,rfl,_,_,rfl,rfl,(by show 0 < (sX ms:Int)+1;omega),_,rfl,_,_,rfl,rfl,⟨by decide,by decide⟩,_,rfl,λx hx=>⟨(sl 3),λe he=>⟨(sl 2),λt ht=>?_⟩⟩⟩
   have s6:=s14.new (o:=.tup [.str (ar "put"),.int (cell % ((sX ms:Int)+1)),.str x]) he;have nL:e≠t:=aI ae ht;exact q _ (.ed true 0 (cell % ((sX ms:Int)+1)) [x]) t (s6.new ht) ⟨.inl rfl,⟨by omega,by omega⟩,⟨by show 1<=12;decide,λz hz=>by rw[alo]at hz;rw[hz];exact hx⟩,λ_=>rfl⟩ k2.symm (hcm _ (kz (SN j0 (by rw[hms];omega) _))) ⟨e,⟨bC (same_none s6 ht),ae⟩,bC (same_none s14 he),.inl ((av nL).trans ae)⟩
  rw[decide_eq_false k2];refine bM ⟨_,rfl,rfl,_,rfl,?_⟩;rw[gy _ k8]
  by_cases k3:k=3
  ·rw[decide_eq_true k3];have e6:(10:Int) ^ (6:Int).toNat=1000000:=by decide
   have j0:0<=cell % (10:Int) ^ (6:Int).toNat:=alH _ (by rw[e6];decide)
   have j1:cell % (10:Int) ^ (6:Int).toNat < 1000000:=by rw[e6];exact aly _ (by decide)
   have sit:=I.sit;refine cN (ixv rfl (SqT.of hu4) rfl ⟨_,_,rfl,rfl,_,rfl,_,_,rfl,rfl,⟨by decide,by decide,by decide⟩,_,_,rfl,rfl,(by rw[e6];show (0:Int) < 1000000;decide),_,_,rfl,rfl,(sl 2),λt ht=>?_⟩)
   exact q _ (.nums (ar "put off") [st.aU+1+cell % (10:Int) ^ (6:Int).toNat]) t (s14.new ht) (Qv (by omega) (by omega)) (by rw[G0,k3];rfl) (hcm _ (by rw[G0];exact kz (SO (by omega)))) ⟨bC (same_none s14 ht),ae⟩
  rw[decide_eq_false k3];refine bM ⟨_,rfl,rfl,_,rfl,?_⟩;rw[W4 _ k8]
  by_cases k7:k=7
  ·rw[decide_eq_true k7];refine cN ⟨_,rfl,_,rfl,λws5 H5 hws s5=>⟨(sl 2),λt ht=>?_⟩⟩
   have s15:=s14.trans s5;exact q _ (.pt ws5) t (s15.new ht) hws k7.symm (hcm _ (kz (FH st (.inr (.inr (.inr (.inr rfl))))))) ⟨bC (same_none s15 ht),ae⟩
  rw[decide_eq_false k7];refine bM ⟨_,rfl,(sl 1),λt ht=>?_⟩
  have aiS:k=4\/k=5\/k=6:=by omega
  obtain⟨h1,h2⟩:=Qu k aiS;exact q _ (.nums (nm k) []) t (s14.new ht) ⟨h1,λ_ h=>nomatch h⟩ h2 (hcm _ (kz (FH st (by rw[h2];omega)))) ⟨bC (same_none s14 ht),ae⟩
end
theorem FI (z:Str):∀zs:List Str,inV (.str z) (zs.map V.str)=decide (z∈zs)
 |[]=>rfl
 |x::zs=>by
  have ih:=FI z zs;unfold inV at ih ⊢;rw[km,amF,ih]
  by_cases h:x=z
  ·rw[h];simp[eqV]
  ·have h':z≠x:=λy=>h y.symm
   simp[eqV,h,h']
theorem SR:∀j,j < 8->∀k,k < 8->nm j=nm k->j=k:=by trivial
theorem Qw (j k:Nat)(hj:j < 8)(hk:k < 8):nm j=nm k->j=k:=SR j hj k hk
theorem SS {X:Cx}{K:ba}(ek:X.K=K):IxR X (VA K):=by subst ek;exact aT
theorem Qx (k:Nat)(v:V):∃r,rowOf k v=.str (nm k)::r:=by
 unfold rowOf;split <;> exact⟨_,rfl⟩
theorem Qy (cl:Bool)(ms:List Mn){k:Nat}(h:k < 8):inV (.str (nm k)) ((g7 cl ms 8).map V.str)=inF cl ms k:=by
 rw[FI];have e:(nm k∈g7 cl ms 8)↔inF cl ms k=true:=by
  unfold g7;rw[List.mem_map];constructor
  ·rintro⟨j,hj,ej⟩;obtain⟨h1,h2⟩:=List.mem_filter.mp hj;rw[<-Qw j k (List.mem_range.mp h1) h ej];exact h2
  ·exactλz=>⟨k,List.mem_filter.mpr ⟨List.mem_range.mpr h,z⟩,rfl⟩
 cases hb:inF cl ms k with
 |true=>exact decide_eq_true (e.mpr hb)
 |false=>exact decide_eq_false λz=>by rw[e.mp z]at hb;cases hb
theorem MA (ms:List Mn):inV (.str (ar "matter")) ((ms.map λm=>nm m.k).map V.str)=qa ms:=by
 rw[FI];unfold qa;have e:(ar "matter"∈ms.map λm=>nm m.k)↔ms.any (λm=>decide (m.k=0))=true:=by
  rw[List.mem_map,List.any_eq_true];constructor
  ·rintro⟨m,hm,em⟩;exact⟨m,hm,decide_eq_true (Qw m.k 0 m.k8 (by decide) (em.trans (show ar "matter"=nm 0 from rfl)))⟩
  ·rintro⟨m,hm,em⟩;refine⟨m,hm,?_⟩;rw[of_decide_eq_true em];rfl
 cases hb:ms.any (λm=>decide (m.k=0)) with
 |true=>exact decide_eq_true (e.mpr hb)
 |false=>exact decide_eq_false λz=>by rw[e.mp z]at hb;cases hb
theorem W7 (ms:List Mn):amd (.list ((ms.map λm=>nm m.k).map alL))=true:=by
 have h:ak6 (.list ((ms.map λm=>nm m.k).map alL))=true:=by
  rw[List.map_map];simp only[ak6];exact AE λm _=>by
   show ak6 (.str (nm m.k))=true;simp only[ak6];exact uw m.k m.k8
 refine t7 h ?_;have:=t8 (f:=alL) (k:=0) (λz=>by simp only[alN];omega) (ms.map λm=>nm m.k)
 simp only[alN];omega
theorem ua:∀zs:List Str,(zs.map V.str).all uu=true
 |[]=>rfl
 |z::zs=>by rw[km,List.all_cons,ua zs];rfl
theorem W8 {cl:Bool}{ms:List Mn}{k:Nat}(h:fU cl ms k=none):fN cl ms < (k:Int):=by
 unfold fU at h;split at h
 ·cases h
 ·omega
theorem SU {cl:Bool}{ms:List Mn}{k:Nat}{b:Int}(h:fU cl ms k=some (.oF b)):(k:Int)<=fN cl ms:=by
 unfold fU at h;split at h
 ·assumption
 ·split at h
  ·cases h
  ·split at h <;> cases h
theorem W9 {cl:Bool}{ms:List Mn}{k:Nat}(h:fU cl ms k=some .iA):¬(k:Int)<=fN cl ms/\qa ms=false:=by
 unfold fU at h;split at h
 ·cases h
 ·rename_i h1;split at h
  ·cases h
  ·split at h
   ·cases h
   ·rename_i h2;exact⟨h1,by simpa using h2⟩
theorem Xa {cl:Bool}{ms:List Mn}{k:Nat}(h:fU cl ms k=some .noChange):¬(k:Int)<=fN cl ms/\qa ms=true/\k=2:=by
 unfold fU at h;split at h
 ·cases h
 ·rename_i h1;split at h
  ·cases h
  ·rename_i h3;split at h
   ·rename_i h2;refine⟨h1,h2,?_⟩;unfold lS at h3;split at h3
    ·assumption
    ·split at h3
     ·exact absurd h2 h3
     ·exact absurd rfl h3
   ·cases h
theorem zc {K:ba}{H:Hp}{p:Addr}{z:Str}{n:Int}(h:SqT K H p [.str z,.int n]):DV K H (.tuple [.str z,.int n]) (.ref p):=by
 unfold DV;refine⟨p,_,rfl,h,?_⟩;unfold DVs;refine⟨_,_,rfl,by unfold DV;rfl,?_⟩
 unfold DVs;exact⟨_,_,rfl,by unfold DV;rfl,by unfold DVs;rfl⟩
theorem lN {z:Str}(h:alB z=true)(n:Int):ak6 (.tuple [.str z,.int n])=true/\amd (.tuple [.str z,.int n])=true:=by
 have h1:ak6 (.tuple [.str z,.int n])=true:=by simp only[ak6,ald,h,al0]
 exact⟨h1,t7 h1 (by simp only[alN,alA];omega)⟩
def Qz (A:Adr)(i:Nat):Sp:=λvs H Q _=>∃(o t:Addr) (c:Col) (st:Ch) (N:Nat) (d:R.dY),vs=[.ref o,.ref t]/\dR A i c H o st/\Inv N st/\N<=150/\wQ d/\ly c H d t/\ir st (cy d)=fU st.closed (st.au.map st.mo) (cy d).k /\
 ∀c' H',Step (cM i) c c' H H'->Q (.bl true) H'
theorem Cw {K:ba}{H:Hp}{a:Addr}{zs:List Str}(h:SqL K H a (zs.map V.str)):DV K H (.list (zs.map alL)) (.ref a):=LN h
theorem QA {i:Nat}{c:Col}{H:Hp}{d:R.dY}{t:Addr}(hd:wQ d)(hz:ly c H d t):∃r,H t=some (.tup (.str (nm (cy d).k)::r)):=by
 obtain⟨v,ht,_,_⟩:=sS (i:=0) hd hz.c;obtain⟨r,e⟩:=Qx (cy d).k v;exact⟨r,by rw[<-e];exact ht.2⟩
section
variable{P:rf}{w:World}{K:ba}{mg:Str->Option Value}{base:Heap}{A:Adr}
set_option maxHeartbeats 4000000 in
theorem Nl (T:Txt w.params K mg A){i:Nat}:a8 P w K mg base CX0 9 A.JW A.xS ["_law_chamber","_law_motion_here"] (Qz A i):=by
 have Cy:a8 P w K mg base CX0 1 A.EX A.tV ["_law_kind"] GQ:=yw T;refine T.BK.ok jU (λvs H Q E h=>?_) (λcdv A' outer s H vs Q E hr h=>?_)
 ·obtain⟨o,t,c,st,N,d,rfl,_⟩:=h;rfl
 ·obtain⟨o,t,c,st,N,d,rfl,hc,I,hN,hd,hz,FA,q⟩:=h;have yz:Room 1 _:=hr.mono (by decide)
  have jr:=hr.units;have sz:kg=16777216:=by decide
  refine⟨_,(ai (aY (i:=2) jU.nd rfl (tm rfl) (d5 (pv 0) T.aq T.fL (sW T) (hr.mono (by decide)) T.dC .nil aW))
 (ai (aY (i:=3) jU.nd rfl (tm rfl) (d5 (pv 0) T.aq T.lL (Ee (i:=i) T) (hr.mono (by decide)) T.fR .nil aW))
 (ai (uH (i:=4) (scope:=vW) Gk rfl rfl (tm rfl) (nK (aK aT (pv 3) af (λ_ _=>rfl))) (λ_ _ _ _ _=>(aK (SS (K:=K) rfl) (iE (pv 1) T.aq T.j7 (Ct (i:=i) T) (hr.mono (by decide)) T.fb .nil Ez (aa (pv 0) ag)) af (λ_ _=>rfl))))
 (ai (aY (i:=5) jU.nd rfl (tm rfl) (jE gv af))
 (ai (a9 (ay (uG jr) (pv 4) (bS ag) (aJ _))
 (aj (aY (i:=5) jU.nd rfl (tm rfl) (aV Cy yz rfl T.pY T.mQ.kp T.pX .nil aW (aa (aK bx (pv 4) (jE gv af) (λ_ _=>rfl)) ag))))
 aC)
 (ai (a9 (mC (aK aT (pv 3) af (λ_ _=>rfl)))
 (aj (aY (i:=5) jU.nd rfl (tm rfl) (cA (pe rfl) (by rfl) T.DQ AV (aa (pv 5) (aa af ag)))))
 aC)
 (ai (aY (i:=6) jU.nd rfl (tm rfl) (aV (FF (i:=i) T) hr rfl T.DM T.yc.kp T.DL .nil aW (aa (pv 0) (aa (pv 1) ag))))
 (ai (a9 (ay tN (aK aT (pv 1) af (λ_ _=>rfl)) (pv 2) rfl)
 (aj (aB (Em (gA (qv jr) (pv 6) (bg (aa ao (aa af ag))) (aJ _)) (AH (gA AN (aV Cy yz rfl T.pY T.mQ.kp T.pX .nil aW (aa (aK aT (pv 1) af (λ_ _=>rfl)) ag)) (pv 5) (aJ _))))))
 aC)
 (ai (a9 (ay uq (aV Cy yz rfl T.pY T.mQ.kp T.pX .nil aW (aa (aK aT (pv 1) af (λ_ _=>rfl)) ag)) (pv 5) (aJ _))
 (aj (aB (gA (qv jr) (pv 6) (bg (aa ao (aa (pv 5) ag))) (aJ _))))
 aC)
 (ai (a9 (ay Eu ao (pv 4) rfl)
 (aj (aB (gA (qv jr) (pv 6) (bg (aa ao (aa af ag))) (aJ _))))
 aC)
 (aj (aB (Em (gA (qv jr) (pv 6) (bg (aa ao (aa af ag))) (aJ _)) (AH (gA bt (aK aT (pv 1) af (λ_ _=>rfl)) ao (aJ _)))))))))))))))),?_⟩
  try dsimp only[bF]
  refine aN λGq gq=>?_
  have al:=I.Ca;have lm:=I.lm;have kl:st.au.length<=8:=by have h:=I.pil.C0;rw[bo]at h;exact h
  have k8:=(cy d).k8;obtain⟨dx,aM,aP,aA,aD,aF,aE,aR,ms0,ds,ws,fs,es,X⟩:=hc.ex;refine gq ?_;refine mtv rfl X.ob (cF (by trivial)) ⟨i,o,c,st,N,rfl,hc,I,λR1 H1 hR1 s1 h1=>?_⟩
  have X1:=X.same s1
  try dsimp only[dh]
  refine mtv rfl X1.ob (cF (by trivial)) ⟨o,c,st,rfl,X1.at,by omega,λns2 u2 H2 pm2 so2 s2 at2=>?_⟩
  refine aN λGq gq=>?_
  obtain⟨l1,Rr,l2,ys,ds1,S⟩:=at2;have X2:=X1.same s2;have hl1:=S.h1;have hu2:=S.hu;clear S pm2 so2;refine gq ?_
  try dsimp only[dh]
  refine ixv rfl (SqT.of hu2) rfl ⟨l1,rfl,⟨_,SqL.of hl1⟩,λD hD=>?_⟩
  refine pj (K:=K) (a:=l1) (xs:=st.au.map nV) (λj zs H3=>bw H2 H3/\H3 D=some (.lst zs)/\zs=(((st.au.take j).map st.mo).map λm=>nm m.k).map V.str) ⟨aG hD,ae,rfl⟩ (by rw[bo];omega) ?_ ?_ ?_
  ·rintro j zs H3 hj ⟨s3,hD3,rfl⟩;refine⟨SqL.of (s3 _ _ hl1),hD3,?_⟩;rw[bo]at hj;rw[bo,bo,bo,alD];omega
  ·rintro j y zs H3 hj ⟨s3,hD3,rfl⟩;refine aN λGq gq=>?_
   obtain⟨k,hk1,rfl⟩:∃k,st.au[j]?=some k/\nV k=y:=by
    rw[aln]at hj;cases ht:st.au[j]? with
    |none=>rw[ht]at hj;cases hj
    |some t=>rw[ht]at hj;exact⟨t,rfl,ak9 hj⟩
   have hno:=I.bL k (alw hk1);have X3:=X2.same s3;refine gq ?_;refine mtv rfl X3.ob (cF (by trivial)) ⟨_,rfl,o,k,c,st,rfl,X3.at,hno,λu4 H4 s4 mn4=>?_⟩
   refine aN λGq gq=>?_
   obtain⟨_,v4,hv4,_⟩:=mn4;refine gq ?_;refine⟨u4,_,_,_,rfl,rfl,SqT.of hv4,dH,eD.mk (List.getElem?_eq_some_iff.mp hj).1 (s4 _ _ hD3) ⟨(s3.trans s4).own hD,ae,?_⟩⟩;rw[ams,hk1,ko,ko,ko];rfl
  ·rintro zs H3 ⟨s3,hD3,rfl⟩;rw[bo,amc]at hD3;generalize hms:st.au.map st.mo=ms at hD3 h1 FA;have s23:=(s1.trans s2).trans s3;have hu3:=s3 _ _ hu2;have h13:=(s2.trans s3) _ _ h1;have cD:H D=none:=same_none (s1.trans s2) hD;have cR1:H R1=none:=hR1;have cu2:True:=trivial
   try dsimp only[dh]
   refine⟨_,rfl,?_⟩
   try dsimp only[dh]
   refine eN (λσ' H'=>bw H3 H'/\σ'=[some (.ref o),some (.ref t),some (.ref R1),some (.ref u2),some (.ref D),some (.int (qH ms)),none]) ?r1 (λN1 n1=>?f1)
   case f1 =>
    refine⟨_,rfl,(sl 0),λp hp=>?_⟩
    have s4:=aG (o:=.lst []) hp;refine⟨.list ((ms.map λm=>nm m.k).map alL),.list [],Cw (SqL.of (s4 _ _ hD3)),ni (SqL.of ae),W7 ms,nh,_,rfl,?_⟩
    have hD4:=s4 _ _ hD3;generalize upd H3 p (.lst [])=H4 at s4 hD4 ⊢;rcases ak4 ms with e | ⟨pre,m,e⟩
    ·rw[e,show alP (.list ((([]:List Mn).map λm=>nm m.k).map alL)) (.list [])=true from Kr]
     exact bM (n1 _ _ ⟨s4,by rw[e];rfl⟩)
    ·rw[ak5]at e;have hne:alP (.list ((ms.map λm=>nm m.k).map alL)) (.list [])=false:=by
      rw[e];cases pre with
      |nil=>exact Cv ..
      |cons _ _=>exact Cv ..
     rw[hne];have h0:atI ((ms.map λm=>nm m.k).map V.str) (-1)=some (.str (nm m.k)):=by rw[e,ko,ko];exact gH _ _
     refine cN ⟨_,rfl,_,rfl,D,_,_,_,rfl,rfl,SqL.of hD4,h0,m.k,m.k8,rfl,λH5 s5=>n1 _ _ ⟨s4.trans s5,?_⟩⟩
     rw[e,mB];rfl
   case r1 =>
   rintro σ4 H4 ⟨s4,rfl⟩
   try dsimp only[dh]
   refine eN (λσ' H'=>H'=H4/\σ'=[some (.ref o),some (.ref t),some (.ref R1),some (.ref u2),some (.ref D),some (.int (fN st.closed ms)),none]) ?r2 (λN1 n1=>?f2)
   case f2 =>
    refine ixv rfl (SqT.of (s4 _ _ hu3)) rfl ⟨st.closed,rfl,?_⟩;cases hcl:st.closed with
    |true=>exact cN ⟨_,rfl,_,_,rfl,n1 _ _ ⟨rfl,by unfold fN;rw[hcl];rfl⟩⟩
    |false=>exact bM (n1 _ _ ⟨rfl,by unfold fN;rw[hcl];rfl⟩)
   case r2 =>
   rintro σ5 H5 ⟨rfl,rfl⟩;have sA:=s23.trans s4;have xA:Step (cM i) c (bU c H) H H5:=Step.cl aL sA;have chA:dR A i (bU c H) H5 o st:=hc.free (W:=λ_=>False) (λ_=>id) (Step.cl id sA)
   have hzA:=hz.step xA;obtain⟨rt,hrt⟩:=QA (i:=0) hd hzA
   try dsimp only[dh]
   refine⟨_,rfl,_,rfl,o,t,bU c H,st,N,d,rfl,chA,I,by omega,hd,hzA.c,by rw[hms];exact FA,λc6 H6 u6 x6 cu6 hu6=>?_⟩
   rw[hms]at hu6;have qF:∀H',bw H6 H'->Q (.bl true) H':=λH' s'=>q c6 H' ((xA.trans x6).trans (Step.same aL s'))
   have hR6:=(fq x6 (bC cR1) (s4 _ _ h13)).2;have hD6:=(fq x6 (bC cD) (s4 _ _ hD3)).2;obtain⟨rt6,ht6⟩:=QA (i:=0) hd (hzA.step x6);clear hrt;have a0:∀H',bw H6 H'->SqT K H' t (.str (nm (cy d).k)::rt6):=λH' s'=>SqT.of (s' _ _ ht6)
   have r0:=bw.refl H6;generalize (cy d).k=k at k8 hu6 ht6 a0 ⊢
   try dsimp only[dh]
   refine ixv rfl (a0 _ r0) (cB (j:=0) rfl) ⟨_,rfl,R1,_,rfl,.inl (SqL.of hR6),rfl,ua _,_,rfl,?_⟩;show ite (inV _ _=true) _ _;rw[Qy _ _ k8,SH];rcases Mv st.closed ms k with e | ⟨b,e,eb⟩ | e | e
   ·rw[e]at hu6 ⊢;have hgt:=W8 e;refine cN ⟨_,rfl,(sl 2),λp hp=>?_⟩
    have s7:=aG (o:=.tup [.str (ar "made"),.int 0]) hp;refine⟨.tuple [.str (ar "made"),.int 0],.tuple [.str (ar "made"),.int 0],zc (SqT.of (s7 _ _ hu6)),zc (SqT.of ae),(lN (by trivial) 0).2,(lN (by trivial) 0).2,tst (eqv_refl _ (lN (by trivial) 0).1) ?_⟩
    refine ixv rfl (a0 _ s7) (cB (j:=0) rfl) ⟨k,k8,rfl,λH8 s8=>⟨_,rfl,_,_,rfl,rfl,?_⟩⟩
    show Q (.bl (decide (fN st.closed ms < (k:Int)))) H8;rw[decide_eq_true hgt];exact qF _ (s7.trans s8)
   ·rw[e]at hu6 ⊢;have hle:=SU e;refine bM (ixv rfl (a0 _ r0) (cB (j:=0) rfl) ⟨k,k8,rfl,λH7 s7=>⟨_,rfl,_,_,rfl,rfl,tst (decide_eq_true hle) ?_⟩⟩)
    refine⟨_,rfl,_,rfl,(sl 2),λp hp=>?_⟩
    have s8:=s7.new (o:=.tup [.str (ar "bar"),.int (fN st.closed ms)]) hp;have hu8:=s8 _ _ hu6;rw[eb]at hu8;refine⟨.tuple [.str (ar "bar"),.int (fN st.closed ms)],.tuple [.str (ar "bar"),.int (fN st.closed ms)],zc (SqT.of hu8),zc (SqT.of ae),(lN (by trivial) _).2,(lN (by trivial) _).2,?_⟩
    rw[eqv_refl _ (lN (by trivial) _).1]
    exact qF _ s8
   ·rw[e]at hu6 ⊢;obtain⟨hle,hh⟩:=W9 e;refine bM (ixv rfl (a0 _ r0) (cB (j:=0) rfl) ⟨k,k8,rfl,λH7 s7=>⟨_,rfl,_,_,rfl,rfl,tsf (decide_eq_false hle) ?_⟩⟩)
    refine⟨_,rfl,D,_,rfl,.inl (SqL.of (s7 _ _ hD6)),rfl,ua _,_,rfl,?_⟩;show ite ((!inV _ _)=true) _ _;rw[MA,hh];refine cN ⟨_,rfl,(sl 2),λp hp=>?_⟩
    have s8:=s7.new (o:=.tup [.str (ar "no matter"),.int 0]) hp;refine⟨.tuple [.str (ar "no matter"),.int 0],.tuple [.str (ar "no matter"),.int 0],zc (SqT.of (s8 _ _ hu6)),zc (SqT.of ae),(lN (by trivial) 0).2,(lN (by trivial) 0).2,?_⟩
    rw[eqv_refl _ (lN (by trivial) 0).1]
    exact qF _ s8
   ·rw[e]at hu6 ⊢;refine aN λGq gq=>?_
    obtain⟨hle,hh,hk2⟩:=Xa e;refine gq ?_;refine bM (ixv rfl (a0 _ r0) (cB (j:=0) rfl) ⟨k,k8,rfl,λH7 s7=>⟨_,rfl,_,_,rfl,rfl,tsf (decide_eq_false hle) ?_⟩⟩)
    refine⟨_,rfl,D,_,rfl,.inl (SqL.of (s7 _ _ hD6)),rfl,ua _,_,rfl,?_⟩;show ite ((!inV _ _)=true) _ _;rw[MA,hh];refine bM ⟨_,rfl,(sl 2),λp hp=>?_⟩
    have s8:=s7.new (o:=.tup [.str (ar "no change"),.int 0]) hp;refine⟨.tuple [.str (ar "no change"),.int 0],.tuple [.str (ar "no change"),.int 0],zc (SqT.of (s8 _ _ hu6)),zc (SqT.of ae),(lN (by trivial) 0).2,(lN (by trivial) 0).2,tst (eqv_refl _ (lN (by trivial) 0).1) ?_⟩
    refine ixv rfl (a0 _ s8) (cB (j:=0) rfl) ⟨rfl,?_⟩;show Q (.bl (decide (V.str (nm k)=V.str (ar "mend")))) _;rw[ck _ k8,decide_eq_true hk2];exact qF _ s8
end
theorem jD.other {i j:Nat}(n:i≠j){c c':Col}{H H':Hp}{m:Addr}{st:Ch}(s:Step (cM j) c c' H H')(h:jD i c H m st):jD i c' H' m st:=h.free (λr=>d9 n r) s
theorem G2 (st:Ch)(m:Mn):(st.carry m).cZ=st.cZ:=by
 unfold Ch.carry;split
 ·split
  ·split <;> rfl
  ·rfl
 ·split
  ·split <;> rfl
  ·rfl
 ·split <;> rfl
 ·rfl
 ·split <;> rfl
 ·rfl
 ·rfl
theorem wW (st:Ch):st.opened.cZ=st.cZ:=by unfold Ch.opened;rfl
theorem G3 {st:Ch}{d:R.dY}(h:sT d):(jA st d).2.cZ=st.cZ:=by
 cases h with
 |Na =>
  rw[qK];unfold qe;split
  ·rfl
  ·split
   ·rfl
   ·show ((if _ then _ else _:Ch).vk _).cZ=_
    unfold Ch.vk;rw[show ∀(x:Ch) (r:List Str),({ x.opened with rows:=r }:Ch).cZ=x.opened.cZ from λ_ _=>rfl,wW]
    split
    ·rw[G2];rfl
    ·rfl
 |drop =>
  rw[qL];unfold q5;split
  ·rfl
  ·show ((_:Ch).vk _).cZ=_;unfold Ch.vk;rw[show ∀(x:Ch) (r:List Str),({ x.opened with rows:=r }:Ch).cZ=x.opened.cZ from λ_ _=>rfl,wW]
   rfl
 |take =>
  rw[qM];unfold stepT;split
  ·split
   ·rfl
   ·split <;> rfl
  ·rfl
 |move h =>
  rw[qN h];unfold qf;split <;> rfl
structure Base (A:Adr)(l o m:Addr)(cs:List V)(c:Col)(H:Hp)(st:Ch):Prop where
 cl:c l=none
 hl:H l=some (.lst cs)
 one:dR A 1 c H o st
 two:jD 2 c H m st
theorem Base.free {A:Adr}{l o m:Addr}{cs:List V}{c c':Col}{H H':Hp}{st:Ch}{W:Option (Nat×Rl)->Prop}(h1:∀r,¬W (some (1,r)))(h2:∀r,¬W (some (2,r)))(s:Step W c c' H H')(b:Base A l o m cs c H st):Base A l o m cs c' H' st :=
 ⟨(fq s b.cl b.hl).1,(fq s b.cl b.hl).2,b.one.free h1 s,b.two.free h2 s⟩
theorem Nm (xs:List V):(gF xs (some 1) (some 25)).length<=24:=by
 unfold gF;rw[show (1:Int)=((1:Nat):Int) from rfl,show (25:Int)=((25:Nat):Int) from rfl,HT.vJ,HT.vJ,alD,amo]
 omega
theorem Cz {n:Int}:∀(k:Nat) (ds:List R.dY),ds.length=k->(∀d∈ds,sT d)->(l7 n ds).cZ=n
 | 0,ds,h,_=>by rw[List.length_eq_zero_iff.mp h];rfl
 |k+1,ds,h,hd=>by
  rcases ak4 ds with e | ⟨pre,d,e⟩
  ·rw[e]at h;cases h
  ·rw[ak5]at e;rw[e,ma,ala]at h;rw[e,t9,G3 (hd d (by rw[e];simp))]
   exact Cz k pre (by omega) λx hx=>hd x (by rw[e];exact alI _ hx)
theorem QB {z:Int}(h0:0<=z)(h1:z < 8):∃k,k < 8/\atI (ng.map V.str) z=some (.str (nm k)):=by
 obtain⟨k,ek⟩:∃k:Nat,z=(k:Int):=⟨z.toNat,by omega⟩
 have hk:k < 8:=by omega
 refine⟨k,hk,?_⟩;rw[ek];exact cB (by rw[aln,(Cj k hk).1];rfl)
theorem Ks (cl:Bool)(ms:List Mn):ak6 (.list ((g7 cl ms 8).map alL))=true/\amd (.list ((g7 cl ms 8).map alL))=true:=by
 have h:ak6 (.list ((g7 cl ms 8).map alL))=true:=by
  simp only[ak6];refine AE λz hz=>?_
  obtain⟨j,hj,rfl⟩:=List.mem_map.mp (show z∈((List.range 8).filter (inF cl ms)).map nm from hz)
  simp only[ak6];exact uw j (List.mem_range.mp (List.mem_filter.mp hj).1)
 refine⟨h,t7 h ?_⟩;have:=t8 (f:=alL) (k:=0) (λz=>by simp only[alN];omega) (g7 cl ms 8)
 simp only[alN];omega
structure DdL (c:Col)(H:Hp)(Ld:Addr)(ds:List R.dY)(ts:List Addr):Prop where
 col:c Ld=some (0,.ob)
 at_:H Ld=some (.lst (ts.map V.ref))
 dz:bG (ly c H) ds ts
theorem DdL.step {W:Option (Nat×Rl)->Prop}{c c':Col}{H H':Hp}{Ld:Addr}{ds:List R.dY}{ts:List Addr}(n:¬W (some (0,.ob)))(x:Step W c c' H H')(h:DdL c H Ld ds ts):DdL c' H' Ld ds ts :=
 ⟨(FG x h.col n h.at_).1,(FG x h.col n h.at_).2,h.dz.imp λ_ _ z=>z.step x⟩
theorem nm0 {i:Nat}(h:0≠i):¬cM i (some (0,Rl.ob)):=d9 h _
section
variable{P:rf}{w:World}{K:ba}{mg:Str->Option Value}{base:Heap}{A:Adr}
set_option maxHeartbeats 20000000 in
theorem Xb {f:Addr}{fd:kj}(F:Fun K "law" "law" vX f fd)(T:Txt w.params K mg A):a8 P w K mg base CX0 20 f fd ["_law_script"] (Mu K):=by
 have Kt:a8 P w K mg base CX0 8 A.vZ A.nQ ["_law_chamber","_law_kind","_law_cell"] (Mx A 3):=G1 T (by decide)
 refine F.ok mJ (λvs H Q E h=>?_) (λcdv A' outer s H vs Q E hr h=>?_)
 ·obtain⟨a,ns,rfl,_⟩:=h;rfl
 ·obtain⟨a,ns,rfl,hS,hlen,q⟩:=h;have hu1:=hr.u1;have jr:=hr.units;refine⟨_,(ai (aY (i:=1) mJ.nd rfl (tm rfl) (aV (Kn T) (hr.mono (by decide)) rfl T.DK T.yb.kp T.DJ .nil aW (aa (aV (FC T) (hr.mono (by decide)) rfl T.yU T.sx.kp T.yT .nil aW (aa (pv 0) (aa af ag))) ag)))
 (ai (aY (i:=2) mJ.nd rfl (tm rfl) (gB T.yf (PY T) (hr.mono (by decide)) rfl T.ye T.gP .nil aW (aa (pv 1) ag)))
 (ai (aY (i:=3) mJ.nd rfl (tm rfl) (Oa (Qg T) (hr.mono (by decide)) rfl T.LW T.E8.kp T.LV .nil aW))
 (ai (aY (i:=4) mJ.nd rfl (tm rfl) (bS ag))
 (ai (AK PassesOwn.never rfl (nK (pf vM (pv 0) (qt af) (qt af))) (kL (i:=5) mJ.nd rfl (tm rfl))
 (ai (aY (i:=6) mJ.nd rfl (tm rfl) (aV (Nf (i:=2) T) (hr.mono (by decide)) rfl T.Gu T.BF.kp T.Gs .nil aW (aa (pv 3) (aa (pv 5) (aa (pv 1) ag)))))
 (ai (bK (aV (Ec (i:=1) T) (hr.mono (by decide)) rfl T.BH T.wq.kp T.BG .nil aW (aa (pv 2) (aa (pv 6) ag))))
 (ai (bK (aV (Qf (i:=2) T) (hr.mono (by decide)) rfl T.LY T.E9.kp T.LX .nil aW (aa (pv 3) (aa (pv 6) (aa (pv 1) ag)))))
 (ai (bK (gJ si alk alm dj (pv 4) (aa (pv 6) ag)))
 (ai (aY (i:=7) mJ.nd rfl (tm rfl) (d5 (pv 2) T.aq T.fL (sW T) (hr.mono (by decide)) T.dC .nil aW))
 (ai (aY (i:=8) mJ.nd rfl (tm rfl) (aV (Kq T) (hr.mono (by decide)) rfl T.DO T.yd.kp T.DN .nil aW (aa (pv 1) (aa (pv 4) ag))))
 (ai (aY (i:=9) mJ.nd rfl (tm rfl) (a6 b6 (a6 uE (a6 dI (a6 b6 (pv 5) af) af) af) af))
 (ai (aY (i:=10) mJ.nd rfl (tm rfl) (aK bx (bS (aa ao (aa ao (aa ao (aa ao (aa ao (aa ao (aa ao (aa ao ag))))))))) (a6 b6 (a6 cO (pv 9) af) af) (λ_ _=>rfl)))
 (aj (a9 (PW.pt (pw_or (ay (uG jr) (d5 (pv 8) T.aq T.fL (sW T) (hr.mono (by decide)) T.dC .nil aW) (pv 7) (aJ _)) (pw_or1 (rH (mC (aV (Nl (i:=3) T) (hr.mono (by decide)) rfl T.Gw T.BK.kp T.Gv .nil aW (aa (pv 8) (aa (aV Kt (hr.mono (by decide)) rfl T.BJ T.u3.kp T.BI .nil aW (aa (pv 8) (aa (pv 10) (aa (a6 cO (pv 9) af) ag)))) ag))))))))
 (aj (aB lO))
 aC)))))))))))
 (aj (aB lO))))))),?_⟩
  try dsimp only[bF]
  have sz:kg=16777216:=by decide
  refine⟨_,rfl,a,ns,0,rfl,hS,Int.le_refl _,λfi=>⟨fi,rfl,λn n1 n2=>?_⟩⟩
  dsimp only[dh];refine⟨_,rfl,λo d1 ho1 hd1 ne1=>⟨o,d1,n,rfl,ae,λH2 h2=>⟨rfl,?_⟩⟩⟩
  refine aN λGq gq=>?_
  obtain⟨c1,k1,ch1⟩:=h2 1 (λ_=>none)
  have st1:Step (λ_=>False) (λ_=>none) c1 H H2:=Ef id ho1 hd1 k1
  have sm1:bw H H2:=λa v h=>st1.keep a v h id
  have hS2:=sm1.seq hS;clear k1 ho1 hd1 ne1 h2;refine gq ?_;refine⟨rfl,λm H3 h3=>?_⟩
  refine aN λGq gq=>?_
  obtain⟨c2,st2,md2⟩:=h3 2 c1 n;have sm2:bw H2 H3:=λa v h=>st2.keep a v h id
  have hS3:=sm2.seq hS2;have ch2:=ch1.free (λ_=>id) st2
  clear h3 hS2 st1 st2 sm1 sm2 ch1;refine gq ?_
  try dsimp only[dh]
  refine⟨(sl 0),λLd hLd=>?_⟩
  have x3:Step (λ_=>False) c2 (az c2 Ld (some (0,.ob))) H3 (upd H3 Ld (.lst [])):=Step.new id hLd
  have hS4:=(aG (o:=.lst []) hLd).seq hS3;have ch3:=ch2.free (λ_=>id) x3
  have md3:=md2.free (λ_=>id) x3
  have dl3:DdL (az c2 Ld (some (0,.ob))) (upd H3 Ld (.lst [])) Ld [] []:=⟨aX,ae,.nil⟩;generalize upd H3 Ld (.lst [])=H4 at hS4 ch3 md3 dl3 ⊢;generalize az c2 Ld (some (0,.ob))=c3 at ch3 md3 dl3;clear x3 hLd hS3 ch2 md2
  try dsimp only[dh]
  refine⟨_,rfl,_,rfl,_,rfl,a,_,rfl,hS4,λl hl=>⟨l,rfl,⟨_,SqL.of ae⟩,?_⟩⟩
  have hcl:=Nm (ns.map V.int);have isI:∀x∈gF (ns.map V.int) (some 1) (some 25),∃z,x=V.int z:=λx hx=>by
   obtain⟨z,_,e⟩:=List.mem_map.mp (Sq hx);exact⟨z,e.symm⟩
  have x4:Step (λ_=>False) c3 (az c3 l none) H4 (upd H4 l (.lst (gF (ns.map V.int) (some 1) (some 25)))):=Step.new id hl
  have b0:Base A l o m (gF (ns.map V.int) (some 1) (some 25)) (az c3 l none) (upd H4 l (.lst (gF (ns.map V.int) (some 1) (some 25)))) (GL n) :=
   ⟨aX,ae,ch3.free (λ_=>id) x4,md3.free (λ_=>id) x4⟩
  have dl4:=dl3.step id x4;generalize upd H4 l (.lst (gF (ns.map V.int) (some 1) (some 25)))=H5 at b0 dl4 ⊢;generalize az c3 l none=c4 at b0 dl4;clear x4 ch3 md3 hS4 hl dl3;generalize gF (ns.map V.int) (some 1) (some 25)=cs at b0 hcl isI ⊢;refine AL (K:=K) (a:=l) (xs:=cs) (λj σ Hj=>∃(v5 v6 v7 v8 v9 v10:Option V),σ=[some (.ref a),some (.int n),some (.ref o),some (.ref m),some (.ref Ld),v5,v6,v7,v8,v9,v10]/\∃(c:Col) (ds:List R.dY) (ts:List Addr),Base A l o m cs c Hj (l7 n ds)/\ds.length=j/\(∀d∈ds,sT d)/\DdL c Hj Ld ds ts)
   ⟨_,_,_,_,_,_,rfl,c4,[],[],b0,rfl,(λd hd=>nomatch hd),dl4⟩ (λj σ Hj _ ⟨_,_,_,_,_,_,_,_,_,_,b,_⟩=>SqL.of b.hl) ?_ ?_
  ·rintro j y σ Hj hy ⟨v5,v6,v7,v8,v9,v10,rfl,c,ds,ts,b,hdl,hds,dl⟩;refine aN λGq gq=>?_
   obtain⟨z,rfl⟩:=isI _ (alw hy);have jl:j < cs.length:=(List.getElem?_eq_some_iff.mp hy).1;have hN:3 * j<=800:=by omega
   have I:=wV (n:=n) j ds hdl (by omega) hds
   have es:=Cz (n:=n) j ds hdl hds;have tl:ts.length=j:=by rw[<-dl.dz.len];exact hdl
   refine gq ?_;refine⟨_,rfl,_,rfl,_,rfl,m,z,n,c,l7 n ds,3 * j,rfl,b.two,I,by omega,n1,n2,λd t H5 hd hz s5=>?_⟩
   have x5:Step (λ_=>False) c (bU c Hj) Hj H5:=Step.cl id s5
   have b5:=b.free (λ_=>id) (λ_=>id) x5
   have dl5:=dl.step id x5;generalize bU c Hj=c5 at hz b5 dl5;clear x5 s5 b dl;dsimp only[dh];refine⟨_,rfl,_,rfl,o,t,c5,l7 n ds,3 * j,d,rfl,b5.one,I,hN,hd,hz.c,λc6 H6 u6 s6 ch6 cu6 hu6=>?_⟩
   have md6:=b5.two.other (by decide) s6
   have kl6:=fq s6 b5.cl b5.hl;have hz6:=hz.step s6;have dl6:=dl5.step (nm0 (by decide)) s6
   clear s6 b5 hz dl5 cu6 hu6;refine⟨_,rfl,_,rfl,_,rfl,m,t,c6,l7 n ds,3 * j,d,(by rw[es];rfl),md6,I,hN,hd,hz6,λc7 H7 u7 s7 md7 cu7 hu7=>?_⟩
   have ch7:=ch6.other (by decide) s7
   have kl7:=fq s7 kl6.1 kl6.2;have hz7:=hz6.step s7;have dl7:=dl6.step (nm0 (by decide)) s7
   clear s7 ch6 md6 kl6 hz6 dl6 cu7 hu7
   try dsimp only[dh]
   refine⟨_,rfl,.inl ⟨rfl,_,SqL.of dl7.at_⟩,_,rfl,Ld,_,_,rfl,rfl,dl7.at_,by rw[bo];omega,?_⟩
   have x8:Step (cM 0) c7 c7 H7 (upd H7 Ld (.lst (ts.map V.ref++[.ref t]))):=Step.upd aL ⟨.ob,dl7.col⟩;have b8:Base A l o m cs c7 (upd H7 Ld (.lst (ts.map V.ref++[.ref t]))) (l7 n (ds++[d])):=by
    rw[t9];exact⟨(fq x8 kl7.1 kl7.2).1,(fq x8 kl7.1 kl7.2).2,ch7.free (λr=>d9 (by decide) r) x8,md7.free (λr=>d9 (by decide) r) x8⟩
   have dl8:DdL c7 (upd H7 Ld (.lst (ts.map V.ref++[.ref t]))) Ld (ds++[d]) (ts++[t]):=⟨dl7.col,by rw[ae,ko];rfl,bG.snoc (dl7.dz.imp λ_ _ y=>y.step x8) (hz7.step x8)⟩
   have SV:∀x∈ds++[d],sT x:=λx hx=>by
    rcases List.mem_append.mp hx with h | h
    ·exact hds x h
    ·rw[alo]at h;rw[h];exact hd
   have hl8:(ds++[d]).length=j+1:=by rw[ma,hdl];rfl
   generalize upd H7 Ld (.lst (ts.map V.ref++[.ref t]))=H8 at b8 dl8 ⊢;generalize ds++[d]=ds8 at b8 dl8 SV hl8;generalize ts++[t]=ts8 at dl8;refine aN λGq gq=>?_
   clear x8 ch7 md7 kl7 hz7 dl7 I es hd hds hdl tl;have I8:=wV (n:=n) (j+1) ds8 hl8 (by omega) SV
   obtain⟨dx8,aM8,aP8,aA8,aD8,aF8,aE8,aR8,ms8,dd8,ws8,fs8,es8,X8⟩:=b8.one.ex;refine gq ?_
   try dsimp only[dh]
   refine mtv rfl X8.ob (cF (by trivial)) ⟨1,o,c7,l7 n ds8,3 * (j+1),rfl,b8.one,I8,λR9 H9 hR9 s9 h9=>?_⟩
   have x9:Step (λ_=>False) c7 (bU c7 H8) H8 H9:=Step.cl id s9
   have b9:=b8.free (λ_=>id) (λ_=>id) x9
   have dl9:=dl8.step id x9;have cR9:bU c7 H8 R9=none:=bC hR9;generalize bU c7 H8=c9 at b9 dl9 cR9;clear x9 s9 b8 dl8 X8 hR9
   try dsimp only[dh]
   refine⟨_,rfl,_,rfl,n,Ld,ts8,ds8,c9,rfl,by rw[dl9.col];exact nm0 (by decide),dl9.at_,dl9.dz,SV,by omega,λc10 H10 o2 x10 abN=>?_⟩
   have b10:=b9.free (λr=>d9 (by decide) r) (λr=>d9 (by decide) r) x10
   have abO:=dl9.step (nm0 (by decide)) x10
   have Xd:=fq x10 cR9 h9;clear x10 b9 dl9 cR9 h9;have y0:0<=z % 1000000007:=alH _ (by decide)
   have y1:z % 1000000007 < 1000000007:=aly _ (by decide)
   try dsimp only[dh]
   refine⟨_,rfl,_,_,rfl,rfl,(by show (0:Int) < 1000000007;decide),_,_,rfl,rfl,_,_,rfl,rfl,.inl ⟨by omega,by omega⟩,_,_,rfl,rfl,(by show (0:Int) < 2147483647;decide),?_⟩
   try dsimp only[dh]
   generalize (z % 1000000007+1) * 48271 % 2147483647=mx;refine aN λGq gq=>?_
   obtain⟨k,k8,hk⟩:=QB (z:=mx / 3 % 8) (alH _ (by decide)) (aly _ (by decide))
   refine gq ?_;refine⟨(sl 8),λLk hLk=>⟨_,rfl,_,_,rfl,rfl,⟨by decide,by decide⟩,_,_,rfl,rfl,(by show (0:Int) < 8;decide),Lk,ng.map V.str,_,_,rfl,rfl,SqL.of ae,hk,?_⟩⟩
   have x11:Step (λ_=>False) c10 (az c10 Lk none) H10 (upd H10 Lk (.lst (ng.map V.str))):=Step.new id hLk
   have b11:=b10.free (λ_=>id) (λ_=>id) x11
   have QC:=abO.step id x11;have QD:=fq x11 Xd.1 Xd.2;have Ku:=abN.free (λ_=>id) x11
   have e8:upd H10 Lk (.lst (ng.map V.str))=upd H10 Lk (.lst [V.str (ar "matter"),V.str (ar "change"),V.str (ar "mend"),V.str (ar "put off"),V.str (ar "close"),V.str (ar "lay"),V.str (ar "rest"),V.str (ar "point")]):=rfl;rw[e8]at b11 QC QD Ku;generalize upd H10 Lk (.lst [V.str (ar "matter"),V.str (ar "change"),V.str (ar "mend"),V.str (ar "put off"),V.str (ar "close"),V.str (ar "lay"),V.str (ar "rest"),V.str (ar "point")])=H11 at b11 QC QD Ku ⊢;generalize az c10 Lk none=c11 at b11 QC QD Ku;refine aN λGq gq=>?_
   clear x11 hLk hk b10 abO Xd abN e8;obtain⟨akP,akQ,akR,akS,akU,akV,akW,akX,akY,akZ,ak0,ak1,ak2,X11⟩:=Ku.ex;refine gq ?_
   try dsimp only[dh]
   refine mtv rfl X11.ob (cF (by trivial)) ⟨3,o2,c11,l7 n ds8,3 * (j+1),rfl,Ku,I8,λR12 H12 aiT s12 h12=>?_⟩
   refine⟨_,rfl,.list ((g7 (l7 n ds8).closed ((l7 n ds8).au.map (l7 n ds8).mo) 8).map alL),.list ((g7 (l7 n ds8).closed ((l7 n ds8).au.map (l7 n ds8).mo) 8).map alL),Cw (SqL.of h12),Cw (SqL.of (s12 _ _ QD.2)),(Ks _ _).2,(Ks _ _).2,_,rfl,?_⟩;rw[eqv_refl _ (Ks _ _).1];refine bM ?_;have x12:Step (λ_=>False) c11 (bU c11 H11) H11 H12:=Step.cl id s12
   have b12:=b11.free (λ_=>id) (λ_=>id) x12
   have abP:=QC.step id x12;have Xe:=Ku.free (λ_=>id) x12
   generalize bU c11 H11=c12 at b12 abP Xe;clear x12 s12 h12 aiT b11 QC QD Ku X11;refine⟨_,rfl,_,rfl,_,rfl,_,rfl,_,_,rfl,rfl,⟨by decide,by decide⟩,o2,k,_,c12,l7 n ds8,3 * (j+1),rfl,k8,Xe,I8,by omega,λH13 d13 t13 s13 aiU _ abQ aiV=>?_⟩
   have x13:Step (λ_=>False) c12 (bU c12 H12) H12 H13:=Step.cl id s13
   have b13:=b12.free (λ_=>id) (λ_=>id) x13
   have aiW:=abP.step id x13;have aiX:=Xe.free (λ_=>id) x13
   refine⟨o2,t13,bU c12 H12,l7 n ds8,3 * (j+1),d13,rfl,aiX,I8,by omega,aiU,aiV,abQ,λc14 H14 x14=>⟨true,rfl,bM ?_⟩⟩
   exact⟨_,_,_,_,_,_,rfl,c14,ds8,ts8,b13.free (λr=>d9 (by decide) r) (λr=>d9 (by decide) r) x14,hl8,SV,aiW.step (nm0 (by decide)) x14⟩
  ·rintro σ Hj _;exact q Hj
end
set_option maxHeartbeats 0 in
theorem all_mk {l:PySem.W.OpenLaw}{w:World}{K:ba}{h:Heap}{mg:Str->Option Value}{P:Params}{fa f_1 f_2 f_3 f_4 f_5 f_6 f_7 f_8 f_9 SW SX SY S0 S1 S2 S3 S4 S5 S6 S7 S8 S9 Ta Tb Tc Td Te Tf Tg Th Ti Tj Tn To Tp Tq Tr Ts Tt Tu Tv Tw Tx Xf c0 c1 c2 c3 c4 c5 c6 c7 cm tb G4 G5 G6 G7 G8 G9 Hb Hc zr CA Hd Kv He Hf Hg Hh Hi Hk Hl Hm Ho Hq bp cS cT cU cV cW bW cC cq bY bH bj bu cv bB bN bz bA bO a7 jB bZ bI bJ c8 fv fw fA eI et nq jC nr:Addr}(X:K.In h)(G:h.Ns ka mg)(hfa:mg "law"=some (.ref fa))(hP:w.params=P)
  {aiY aiZ ai0 ai1 ai2 ai3 ai4 ai5 ai6 ai7 ai8 ai9 aja ajb ajc ajd aje ajf abR abS abT abU abV abW abX abY abZ ab0 ab1 ab2 ab3 ab4 ab5 ab6 ab7 ab8 ab9 aca acb acd ace acf acg ach aci acj ack acn aco acp acq acr acs acu acv acw acx acy acz acA acB acC acD acE acF acG acH acI acJ acK acL acM acN acO acP acQ acR acS acT acU acV acW acX acY acZ ac8 ac9 Ud Xg Xh Xi Xj Xk Xl Xm Xn Xo Xp Xq Xr Xs Xt Xu Xv ada adb ade adf Xw Xx adg adh Xy Xz XA XB XC XD XE XF XG XH XI XJ XM XN XO XQ XR XS XT XU zt zu zv zw zx zy zz zA zB zC uf ug yA yB wX wY vp vq rz rA kA kB nv ny wZ w5 qh qi sY sZ oG oH oI oJ tf tj Hr Hs C4 C5 Ht Hu:Option Addr} {ajg ajh aji ajj ajk ajl ajm ajn ajo adi adj adk adl adn ado adp adq ads adt adu adv adw adx ady adz adA adB adC adD adE adF adG adH adI adJ adK adL adM adN adO adP adQ adR adS XW XX XY XZ X0 X9 Ya Yb adT adU Yc adV Yd Ye Yf Yg Yh Yi Yj Yk Yl Ym zD zE zF zG zH uh yC w6 vv rB kD nz w8 qj tq oK oN tw Hv C6 Hw:Array (Option Value)} {ajp ajq ajr ajs adW ajt aju ajv ajw ajx adX ajy ajz ajA ajB ajC adY ajD ajE ajF ajG ajH adZ ajI ajJ ajK ajL ajM ad0 ajN ajO ajP ajQ ajR ad1 ajS ajT ajU ajV ajW ad2 ajX ajY ajZ aj0 aj1 ad3 aj2 aj3 aj4 aj5 aj6 ad4 aj7 ad5 ad6 ad7 ad8 Ue ad9 aea aeb aec aed Ug aee aef aeg aeh aei Uh aej aek ael aem aen Ui aeo aep aeq aer aes Uj aet aeu aev aew aex Uk aey aez aeA aeB aeC Ul aeD aeE aeF aeG aeH Um aeI aeJ aeK aeL aeM Uo aeN aeO aeP aeQ aeR Up aeS aeT aeU aeV aeW Uq aeX aeY aeZ ae0 ae1 Ur ae2 ae3 ae4 ae5 ae6 Us ae7 ae8 ae9 afa afb Ut afc afd afe aff afg Uu afh afi afj afk afl Uv afm afn afo afp afq Uw afr afs aft afu afv Ux afw afx afy afz afA Uy afB afC afD afE afF Uz afG afH afI afJ afK UA afL afM afN afO afP UB afQ afR afS afT afU UC afV afW afX afY afZ UD af0 af1 af2 af3 af4 UE af5 af6 af7 af8 af9 UG aga agb agc agd age UH agf agg agh agi agj UI agk agl agm agn ago UJ agp agq agr ags agt UK agu agv agw agx agy UL agz agA agB agC agD UM agE agF agG agH agI UN agJ agK agL agM agN UO agO agP UP UQ UR QE US Yn Yo Yp Yq QF Yr Ys Yt Yu Yv QG Yw Yx Yy Yz YA QH YB YC YD YE YF QI YG YH YI YJ YK QJ YL YM YN YO YQ QK YR YS YT YU YV QL YW YX YY YZ Y0 QM Y1 agQ agR agS agT UT agU agV agW agX agY UU agZ Y2 Y3 Y4 Y5 QN Y6 ag0 ag1 ag2 ag3 UW ag4 Y7 Y8 Y9 Za QO Zb Zc Zd Ze Zf QP Zg Zh Zi Zj Zk QQ Zl Zm Zn Zo Zp QR Zq Zr Zs Zt Zu QS Zv Zw Zx Zy Zz QT ZA ZC ZD ZE ZF QU ZG ZH ZI ZJ ZK QV ZL ZM ZN ZO ZP QW ZQ ZR ZS ZT ZU QX ZV zI zJ zK zL q8 zM zN zO zP zQ q9 zR zS zT zU zV rg zW zX zY zZ z0 rh Aa Ab Ac Ad Ae rj Af ui uj uk um lT uo yD yE yF yG qk yH w9 xa xb xc oe xg vw vx vy vz nA vA rC rD rE rF jI rG kF kG kH kJ fB kK nB nC nD nF g8 nG xh xj xl xm og xn ql qm qo qp ja qr tD tE tF tG lz tH oO oQ oR oS iC oU oV oW oX oY iD oZ tI tJ tK tL lA tM Hx Hy Hz HA zd HB C7 C8 C9 Dc uB De HC HD HE HF ze HG:Value} {kM tq0 tq1 tq2 tq3 tq4 tq5 tq6 tq7 tr0 tr1 tr2 tr3 tr4 tr5 tr6 tr7:Tok} {est:Array al3} {nt:Nat} {FJ:Addr} {QY:Value} {QZ:Option Addr} {HI:Array al3} {Q0:Nat} {Q1:Array (Option Value)} {nH:Addr} {Ag:Value} {Ah:Option Addr} {rm:Array al3} {Ai:Nat} {Aj:Array (Option Value)} {vB:Addr} {HJ:Value} {HK:Option Addr} {zf:Array al3} {HL:Nat} {HM:Array (Option Value)} {vC:Addr} {HN:Value} {HP:Option Addr} {zg:Array al3} {HQ:Nat} {HR:Array (Option Value)} {yI:Addr} {Kw:Value} {Kx:Option Addr} {CB:Array al3} {Ky:Nat} {Kz:Array (Option Value)} {yJ:Addr} {KA:Value} {KC:Option Addr} {CC:Array al3} {KD:Nat} {KG:Array (Option Value)} {yK:Addr} {KH:Value} {KI:Option Addr} {CD:Array al3} {KJ:Nat} {KL:Array (Option Value)} {vD:Addr} {HS:Value} {HU:Option Addr} {zh:Array al3} {HV:Nat} {HW:Array (Option Value)} {CF:Addr} {Nn:Value} {Np:Option Addr} {Eh:Array al3} {Nq:Nat} {Nr:Array (Option Value)} {vE:Addr} {HX:Value} {HY:Option Addr} {zi:Array al3} {HZ:Nat} {Ia:Array (Option Value)} {CG:Addr} {Nt:Value} {Nu:Option Addr} {Ei:Array al3} {Nv:Nat} {Nw:Array (Option Value)} {Q2 Tz:Str} {Q3:List Value} {Q4:List Str} {Q5:List Value} {Q6:Bool} {Q7:Option Bool} {Q8:Option Addr} {Q9 Ra Rb Rc Rf:Option Value} {Rg:Bool} {Ib KN:Str} {Ic:List Value} {Ie:List Str} {Ig:List Value} {Ih:Bool} {Ii:Option Bool} {Ij:Option Addr} {Ik Il Im Io Ip:Option Value} {Iq:Bool} {Ir KO:Str} {Iu:List Value} {Iv:List Str} {Iw:List Value} {Iy:Bool} {Iz:Option Bool} {IA:Option Addr} {IB IC ID IE IF:Option Value} {IG:Bool} {KP Nx:Str} {KQ:List Value} {KR:List Str} {KS:List Value} {KU:Bool} {KW:Option Bool} {KY:Option Addr} {KZ K0 K1 K2 K4:Option Value} {K5:Bool} {K6 Ny:Str} {K7:List Value} {K8:List Str} {K9:List Value} {La:Bool} {Lb:Option Bool} {Lc:Option Addr} {Le Lf Lg Lh Li:Option Value} {Lj:Bool} {Ll Nz:Str} {Lm:List Value} {Ln:List Str} {Lo:List Value} {Lp:Bool} {Lq:Option Bool} {Lr:Option Addr} {Ls Lu Lv Lw Lx:Option Value} {Ly:Bool} {IH Lz:Str} {II:List Value} {IJ:List Str} {IK:List Value} {IL:Bool} {IM:Option Bool} {IP:Option Addr} {IQ IS IT IU IV:Option Value} {IW:Bool} {NA Rh:Str} {NB:List Value} {NC:List Str} {ND:List Value} {NF:Bool} {NG:Option Bool} {NH:Option Addr} {NI NJ NK NL NM:Option Value}  {IZ LA:Str} {I0:List Value} {I9:List Str} {Ja:List Value} {Jb:Bool} {Jc:Option Bool} {Jd:Option Addr} {Je Jf Jg Jh Ji:Option Value}  {NN Ri:Str} {NO:List Value} {NP:List Str} {NQ:List Value} {NR:Bool} {NS:Option Bool} {NT:Option Addr} {NU NV NW NX NY:Option Value}  {CH:Value} {Ak:Option Addr} {rn:ClassData} {Al:Array (Option Value)}
  (a_1:fe K ka "fits"=some (some (.ref f_1)))
  (l_1:K.lookup f_1=some ⟨ajp,aiY,.func (fu "fits" "fits" (aS xF) (aO xF) (ah xF) .none ajq ajr ajs aiZ adW ajt),ajg⟩)
  (cc_1:de K adW "fits"=true)
  (kp_1:da K (.ref f_1)=true)
  (a_2:fe K ka "require_fit"=some (some (.ref f_2)))
  (l_2:K.lookup f_2=some ⟨aju,ai0,.func (fu "require_fit" "require_fit" (aS gu) (aO gu) (ah gu) .none ajv ajw ajx ai1 adX ajy),ajh⟩)
  (cc_2:de K adX "require_fit"=true)
  (kp_2:da K (.ref f_2)=true)
  (a_3:fe K ka "laid"=some (some (.ref f_3)))
  (l_3:K.lookup f_3=some ⟨ajz,ai2,.func (fu "laid" "laid" (aS xG) (aO xG) (ah xG) .none ajA ajB ajC ai3 adY ajD),aji⟩)
  (cc_3:de K adY "laid"=true)
  (kp_3:da K (.ref f_3)=true)
  (a_4:fe K ka "words_of"=some (some (.ref f_4)))
  (l_4:K.lookup f_4=some ⟨ajE,ai4,.func (fu "words_of" "words_of" (aS jO) (aO jO) (ah jO) .none ajF ajG ajH ai5 adZ ajI),ajj⟩)
  (cc_4:de K adZ "words_of"=true)
  (kp_4:da K (.ref f_4)=true)
  (a_5:fe K ka "clause_of"=some (some (.ref f_5)))
  (l_5:K.lookup f_5=some ⟨ajJ,ai6,.func (fu "clause_of" "clause_of" (aS iW) (aO iW) (ah iW) .none ajK ajL ajM ai7 ad0 ajN),ajk⟩)
  (cc_5:de K ad0 "clause_of"=true)
  (kp_5:da K (.ref f_5)=true)
  (a_6:fe K ka "motion_of"=some (some (.ref f_6)))
  (l_6:K.lookup f_6=some ⟨ajO,ai8,.func (fu "motion_of" "motion_of" (aS iX) (aO iX) (ah iX) .none ajP ajQ ajR ai9 ad1 ajS),ajl⟩)
  (cc_6:de K ad1 "motion_of"=true)
  (kp_6:da K (.ref f_6)=true)
  (a_7:fe K ka "bar_of"=some (some (.ref f_7)))
  (l_7:K.lookup f_7=some ⟨ajT,aja,.func (fu "bar_of" "bar_of" (aS pD) (aO pD) (ah pD) .none ajU ajV ajW ajb ad2 ajX),ajm⟩)
  (cc_7:de K ad2 "bar_of"=true)
  (kp_7:da K (.ref f_7)=true)
  (a_8:fe K ka "has_matter"=some (some (.ref f_8)))
  (l_8:K.lookup f_8=some ⟨ajY,ajc,.func (fu "has_matter" "has_matter" (aS fJ) (aO fJ) (ah fJ) .none ajZ aj0 aj1 ajd ad3 aj2),ajn⟩)
  (cc_8:de K ad3 "has_matter"=true)
  (kp_8:da K (.ref f_8)=true)
  (a_9:fe K ka "can_be_mended"=some (some (.ref f_9)))
  (l_9:K.lookup f_9=some ⟨aj3,aje,.func (fu "can_be_mended" "can_be_mended" (aS eA) (aO eA) (ah eA) .none aj4 aj5 aj6 ajf ad4 aj7),ajo⟩)
  (cc_9:de K ad4 "can_be_mended"=true)
  (kp_9:da K (.ref f_9)=true)
  (a_10:fe K ka "has_what_it_needs"=some (some (.ref SW)))
  (l_10:K.lookup SW=some ⟨ad5,abR,.func (fu "has_what_it_needs" "has_what_it_needs" (aS dg) (aO dg) (ah dg) .none ad6 ad7 ad8 abS Ue ad9),adi⟩)
  (jq5M:de K Ue "has_what_it_needs"=true)
  (jq5N:da K (.ref SW)=true)
  (a_11:fe K ka "kinds_in_order"=some (some (.ref SX)))
  (l_11:K.lookup SX=some ⟨aea,abT,.func (fu "kinds_in_order" "kinds_in_order" (aS du) (aO du) (ah du) .none aeb aec aed abU Ug aee),adj⟩)
  (jq5O:de K Ug "kinds_in_order"=true)
  (jq5P:da K (.ref SX)=true)
  (a_12:fe K ka "require_in_order"=some (some (.ref SY)))
  (l_12:K.lookup SY=some ⟨aef,abV,.func (fu "require_in_order" "require_in_order" (aS dA) (aO dA) (ah dA) .none aeg aeh aei abW Uh aej),adk⟩)
  (jq5Q:de K Uh "require_in_order"=true)
  (jq5R:da K (.ref SY)=true)
  (a_13:fe K ka "words_of_text"=some (some (.ref S0)))
  (l_13:K.lookup S0=some ⟨aek,abX,.func (fu "words_of_text" "words_of_text" (aS eB) (aO eB) (ah eB) .none ael aem aen abY Ui aeo),adl⟩)
  (jq5S:de K Ui "words_of_text"=true)
  (jq5T:da K (.ref S0)=true)
  (a_14:fe K ka "words_of_edit"=some (some (.ref S1)))
  (l_14:K.lookup S1=some ⟨aep,abZ,.func (fu "words_of_edit" "words_of_edit" (aS eC) (aO eC) (ah eC) .none aeq aer aes ab0 Uj aet),adn⟩)
  (jq5U:de K Uj "words_of_edit"=true)
  (jq5V:da K (.ref S1)=true)
  (a_15:fe K ka "words_behind"=some (some (.ref S2)))
  (l_15:K.lookup S2=some ⟨aeu,ab1,.func (fu "words_behind" "words_behind" (aS d6) (aO d6) (ah d6) .none aev aew aex ab2 Uk aey),ado⟩)
  (jq5W:de K Uk "words_behind"=true)
  (jq5X:da K (.ref S2)=true)
  (a_16:fe K ka "show_deed"=some (some (.ref S3)))
  (l_16:K.lookup S3=some ⟨aez,ab3,.func (fu "show_deed" "show_deed" (aS iY) (aO iY) (ah iY) .none aeA aeB aeC ab4 Ul aeD),adp⟩)
  (jq5Y:de K Ul "show_deed"=true)
  (jq5Z:da K (.ref S3)=true)
  (a_17:fe K ka "is_kept"=some (some (.ref S4)))
  (l_17:K.lookup S4=some ⟨aeE,ab5,.func (fu "is_kept" "is_kept" (aS l9) (aO l9) (ah l9) .none aeF aeG aeH ab6 Um aeI),adq⟩)
  (jq60:de K Um "is_kept"=true)
  (jq61:da K (.ref S4)=true)
  (a_18:fe K ka "_law_cell_at"=some (some (.ref S5)))
  (l_18:K.lookup S5=some ⟨aeJ,ab7,.func (fu "_law_cell_at" "_law_cell_at" (aS iZ) (aO iZ) (ah iZ) .none aeK aeL aeM ab8 Uo aeN),ads⟩)
  (jq62:de K Uo "_law_cell_at"=true)
  (jq63:da K (.ref S5)=true)
  (a_19:fe K ka "_law_word"=some (some (.ref S6)))
  (l_19:K.lookup S6=some ⟨aeO,ab9,.func (fu "_law_word" "_law_word" (aS pH) (aO pH) (ah pH) .none aeP aeQ aeR aca Up aeS),adt⟩)
  (jq64:de K Up "_law_word"=true)
  (jq65:da K (.ref S6)=true)
  (a_20:fe K ka "_law_clause"=some (some (.ref S7)))
  (l_20:K.lookup S7=some ⟨aeT,acb,.func (fu "_law_clause" "_law_clause" (aS jQ) (aO jQ) (ah jQ) .none aeU aeV aeW acd Uq aeX),adu⟩)
  (jq66:de K Uq "_law_clause"=true)
  (jq67:da K (.ref S7)=true)
  (a_21:fe K ka "_law_edit"=some (some (.ref S8)))
  (l_21:K.lookup S8=some ⟨aeY,ace,.func (fu "_law_edit" "_law_edit" (aS pJ) (aO pJ) (ah pJ) .none aeZ ae0 ae1 acf Ur ae2),adv⟩)
  (jq68:de K Ur "_law_edit"=true)
  (jq69:da K (.ref S8)=true)
  (a_22:fe K ka "_law_fits"=some (some (.ref S9)))
  (l_22:K.lookup S9=some ⟨ae3,acg,.func (fu "_law_fits" "_law_fits" (aS pK) (aO pK) (ah pK) .none ae4 ae5 ae6 ach Us ae7),adw⟩)
  (jq6a:de K Us "_law_fits"=true)
  (jq6b:da K (.ref S9)=true)
  (a_23:fe K ka "_law_laid"=some (some (.ref Ta)))
  (l_23:K.lookup Ta=some ⟨ae8,aci,.func (fu "_law_laid" "_law_laid" (aS pL) (aO pL) (ah pL) .none ae9 afa afb acj Ut afc),adx⟩)
  (jq6c:de K Ut "_law_laid"=true)
  (jq6d:da K (.ref Ta)=true)
  (a_24:fe K ka "_law_words"=some (some (.ref Tb)))
  (l_24:K.lookup Tb=some ⟨afd,ack,.func (fu "_law_words" "_law_words" (aS md) (aO md) (ah md) .none afe aff afg acn Uu afh),ady⟩)
  (jq6e:de K Uu "_law_words"=true)
  (jq6f:da K (.ref Tb)=true)
  (a_25:fe K ka "_law_rank"=some (some (.ref Tc)))
  (l_25:K.lookup Tc=some ⟨afi,aco,.func (fu "_law_rank" "_law_rank" (aS pM) (aO pM) (ah pM) .none afj afk afl acp Uv afm),adz⟩)
  (jq6g:de K Uv "_law_rank"=true)
  (jq6h:da K (.ref Tc)=true)
  (a_26:fe K ka "_law_new"=some (some (.ref Td)))
  (l_26:K.lookup Td=some ⟨afn,acq,.func (fu "_law_new" "_law_new" (aS tR) (aO tR) (ah tR) .none afo afp afq acr Uw afr),adA⟩)
  (jq6i:de K Uw "_law_new"=true)
  (jq6j:da K (.ref Td)=true)
  (a_27:fe K ka "_law_now"=some (some (.ref Te)))
  (l_27:K.lookup Te=some ⟨afs,acs,.func (fu "_law_now" "_law_now" (aS tS) (aO tS) (ah tS) .none aft afu afv acu Ux afw),adB⟩)
  (jq6k:de K Ux "_law_now"=true)
  (jq6l:da K (.ref Te)=true)
  (a_28:fe K ka "_law_bar"=some (some (.ref Tf)))
  (l_28:K.lookup Tf=some ⟨afx,acv,.func (fu "_law_bar" "_law_bar" (aS tT) (aO tT) (ah tT) .none afy afz afA acw Uy afB),adC⟩)
  (jq6m:de K Uy "_law_bar"=true)
  (jq6n:da K (.ref Tf)=true)
  (a_29:fe K ka "_law_lacks"=some (some (.ref Tg)))
  (l_29:K.lookup Tg=some ⟨afC,acx,.func (fu "_law_lacks" "_law_lacks" (aS mf) (aO mf) (ah mf) .none afD afE afF acy Uz afG),adD⟩)
  (jq6o:de K Uz "_law_lacks"=true)
  (jq6p:da K (.ref Tg)=true)
  (a_30:fe K ka "_law_keep"=some (some (.ref Th)))
  (l_30:K.lookup Th=some ⟨afH,acz,.func (fu "_law_keep" "_law_keep" (aS pN) (aO pN) (ah pN) .none afI afJ afK acA UA afL),adE⟩)
  (jq6q:de K UA "_law_keep"=true)
  (jq6r:da K (.ref Th)=true)
  (a_31:fe K ka "_law_ended"=some (some (.ref Ti)))
  (l_31:K.lookup Ti=some ⟨afM,acB,.func (fu "_law_ended" "_law_ended" (aS mh) (aO mh) (ah mh) .none afN afO afP acC UB afQ),adF⟩)
  (jq6s:de K UB "_law_ended"=true)
  (jq6t:da K (.ref Ti)=true)
  (a_32:fe K ka "_law_voted"=some (some (.ref Tj)))
  (l_32:K.lookup Tj=some ⟨afR,acD,.func (fu "_law_voted" "_law_voted" (aS mi) (aO mi) (ah mi) .none afS afT afU acE UC afV),adG⟩)
  (jq6u:de K UC "_law_voted"=true)
  (jq6v:da K (.ref Tj)=true)
  (a_33:fe K ka "_law_taken"=some (some (.ref Tn)))
  (l_33:K.lookup Tn=some ⟨afW,acF,.func (fu "_law_taken" "_law_taken" (aS mj) (aO mj) (ah mj) .none afX afY afZ acG UD af0),adH⟩)
  (jq6w:de K UD "_law_taken"=true)
  (jq6x:da K (.ref Tn)=true)
  (a_34:fe K ka "_law_due"=some (some (.ref To)))
  (l_34:K.lookup To=some ⟨af1,acH,.func (fu "_law_due" "_law_due" (aS tU) (aO tU) (ah tU) .none af2 af3 af4 acI UE af5),adI⟩)
  (jq6y:de K UE "_law_due"=true)
  (jq6z:da K (.ref To)=true)
  (a_35:fe K ka "_law_vote"=some (some (.ref Tp)))
  (l_35:K.lookup Tp=some ⟨af6,acJ,.func (fu "_law_vote" "_law_vote" (aS pO) (aO pO) (ah pO) .none af7 af8 af9 acK UG aga),adJ⟩)
  (jq6A:de K UG "_law_vote"=true)
  (jq6B:da K (.ref Tp)=true)
  (a_36:fe K ka "_law_guided"=some (some (.ref Tq)))
  (l_36:K.lookup Tq=some ⟨agb,acL,.func (fu "_law_guided" "_law_guided" (aS jS) (aO jS) (ah jS) .none agc agd age acM UH agf),adK⟩)
  (jq6C:de K UH "_law_guided"=true)
  (jq6D:da K (.ref Tq)=true)
  (a_37:fe K ka "_law_deed"=some (some (.ref Tr)))
  (l_37:K.lookup Tr=some ⟨agg,acN,.func (fu "_law_deed" "_law_deed" (aS mH) (aO mH) (ah mH) .none agh agi agj acO UI agk),adL⟩)
  (jq6E:de K UI "_law_deed"=true)
  (jq6F:da K (.ref Tr)=true)
  (a_38:fe K ka "_law_done"=some (some (.ref Ts)))
  (l_38:K.lookup Ts=some ⟨agl,acP,.func (fu "_law_done" "_law_done" (aS pQ) (aO pQ) (ah pQ) .none agm agn ago acQ UJ agp),adM⟩)
  (jq6G:de K UJ "_law_done"=true)
  (jq6H:da K (.ref Ts)=true)
  (a_39:fe K ka "_law_seats"=some (some (.ref Tt)))
  (l_39:K.lookup Tt=some ⟨agq,acR,.func (fu "_law_seats" "_law_seats" (aS mq) (aO mq) (ah mq) .none agr ags agt acS UK agu),adN⟩)
  (jq6I:de K UK "_law_seats"=true)
  (jq6J:da K (.ref Tt)=true)
  (a_40:fe K ka "_law_motion"=some (some (.ref Tu)))
  (l_40:K.lookup Tu=some ⟨agv,acT,.func (fu "_law_motion" "_law_motion" (aS iH) (aO iH) (ah iH) .none agw agx agy acU UL agz),adO⟩)
  (jq6K:de K UL "_law_motion"=true)
  (jq6L:da K (.ref Tu)=true)
  (a_41:fe K ka "_law_asked"=some (some (.ref Tv)))
  (l_41:K.lookup Tv=some ⟨agA,acV,.func (fu "_law_asked" "_law_asked" (aS mr) (aO mr) (ah mr) .none agB agC agD acW UM agE),adP⟩)
  (jq6M:de K UM "_law_asked"=true)
  (jq6N:da K (.ref Tv)=true)
  (a_42:fe K ka "_law_good"=some (some (.ref Tw)))
  (l_42:K.lookup Tw=some ⟨agF,acX,.func (fu "_law_good" "_law_good" (aS mI) (aO mI) (ah mI) .none agG agH agI acY UN agJ),adQ⟩)
  (jq6O:de K UN "_law_good"=true)
  (jq6P:da K (.ref Tw)=true)
  (a_43:fe K ka "_law_again"=some (some (.ref Tx)))
  (l_43:K.lookup Tx=some ⟨agK,acZ,.func (fu "_law_again" "_law_again" (aS mw) (aO mw) (ah mw) .none agL agM agN ac8 UO agO),adR⟩)
  (jq6Q:de K UO "_law_again"=true)
  (jq6R:da K (.ref Tx)=true)
  (a_44:fe K ka "law"=some (some (.ref Xf)))
  (l_44:K.lookup Xf=some ⟨agP,ac9,.func (fu "law" "law" (aS vX) (aO vX) (ah vX) .none UP UQ UR Ud QE US),adS⟩)
  (jq6S:de K QE "law"=true)
  (jq6T:da K (.ref Xf)=true)
  (z1:fe K ka "range"=some none)
  (z2:fe K ka "list"=some none)
  (z3:fe K ka "isinstance"=some none)
  (z4:fe K ka "len"=some none)
  (z5:fe K ka "max"=some none)
  (z6:fe K ka "any"=some none)
  (z7:fe K ka "str"=some none)
  (z8:fe K ka "sorted"=some none)
  (z9:fe K ka "int"=some none)
  (z10:fe K ka "ValueError"=some none)
  (jq2q:fe K ka "CLOSED_BAR"=some (some (.int 4 kM)))
  (ac0:fe K ka "Matter"=some (some (.ref c0)))
  (ac1:fe K ka "Change"=some (some (.ref c1)))
  (ac2:fe K ka "Mend"=some (some (.ref c2)))
  (ac3:fe K ka "PutOff"=some (some (.ref c3)))
  (ac4:fe K ka "Close"=some (some (.ref c4)))
  (ac5:fe K ka "Lay"=some (some (.ref c5)))
  (ac6:fe K ka "Rest"=some (some (.ref c6)))
  (ac7:fe K ka "Point"=some (some (.ref c7)))
  (acm:fe K ka "Motion"=some (some (.ref cm)))
  (atb:fe K ka "RANKS"=some (some (.ref tb)))
  (ltb:K.lookup tb=some ⟨.type "dict",none,.dict est nt,#[]⟩)
  (ktb:PySem.W.KeysLit P est.toList)
  (kas:est.toList.map DictEntry.key=[.str (ar "matter") tq0,.str (ar "change") tq1,.str (ar "mend") tq2,.str (ar "put off") tq3,.str (ar "close") tq4,.str (ar "lay") tq5,.str (ar "rest") tq6,.str (ar "point") tq7])
  (tlo:(tb == amj)=false)
  (rk0:fe K tb (ar "matter")=some (some (.int 0 tr0)))
  (rk1:fe K tb (ar "change")=some (some (.int 1 tr1)))
  (rk2:fe K tb (ar "mend")=some (some (.int 2 tr2)))
  (rk3:fe K tb (ar "put off")=some (some (.int 3 tr3)))
  (rk4:fe K tb (ar "close")=some (some (.int 4 tr4)))
  (rk5:fe K tb (ar "lay")=some (some (.int 5 tr5)))
  (rk6:fe K tb (ar "rest")=some (some (.int 6 tr6)))
  (rk7:fe K tb (ar "point")=some (some (.int 7 tr7)))
  (pg0:alG K c0 alE=true)
  (hd0:alu K c0=true)
  (po0:alQ K c0=true)
  (sa0:cb K (.ref c0) "__setattr__"=some (some (.builtin "object.__setattr__")))
  (mk0:alU K c0=true)
  (kc0:da K (.ref c0)=true)
  (pg1:alG K c1 alE=true)
  (hd1:alu K c1=true)
  (po1:alQ K c1=true)
  (sa1:cb K (.ref c1) "__setattr__"=some (some (.builtin "object.__setattr__")))
  (mk1:alU K c1=true)
  (kc1:da K (.ref c1)=true)
  (pg2:alG K c2 alE=true)
  (hd2:alu K c2=true)
  (po2:alQ K c2=true)
  (sa2:cb K (.ref c2) "__setattr__"=some (some (.builtin "object.__setattr__")))
  (mk2:alU K c2=true)
  (kc2:da K (.ref c2)=true)
  (pg3:alG K c3 alE=true)
  (hd3:alu K c3=true)
  (po3:alQ K c3=true)
  (sa3:cb K (.ref c3) "__setattr__"=some (some (.builtin "object.__setattr__")))
  (mk3:alU K c3=true)
  (kc3:da K (.ref c3)=true)
  (pg4:alG K c4 alE=true)
  (hd4:alu K c4=true)
  (po4:alQ K c4=true)
  (sa4:cb K (.ref c4) "__setattr__"=some (some (.builtin "object.__setattr__")))
  (mk4:alU K c4=true)
  (kc4:da K (.ref c4)=true)
  (pg5:alG K c5 alE=true)
  (hd5:alu K c5=true)
  (po5:alQ K c5=true)
  (sa5:cb K (.ref c5) "__setattr__"=some (some (.builtin "object.__setattr__")))
  (mk5:alU K c5=true)
  (kc5:da K (.ref c5)=true)
  (pg6:alG K c6 alE=true)
  (hd6:alu K c6=true)
  (po6:alQ K c6=true)
  (sa6:cb K (.ref c6) "__setattr__"=some (some (.builtin "object.__setattr__")))
  (mk6:alU K c6=true)
  (kc6:da K (.ref c6)=true)
  (pg7:alG K c7 alE=true)
  (hd7:alu K c7=true)
  (po7:alQ K c7=true)
  (sa7:cb K (.ref c7) "__setattr__"=some (some (.builtin "object.__setattr__")))
  (mk7:alU K c7=true)
  (kc7:da K (.ref c7)=true)
  (jq4d:cb K (.ref c0) "kind"=some (some (.ref G4)))
  (jq6U:K.lookup G4=some ⟨Yn,Xg,.func (fu "kind" "Matter.kind" (aS fW) (aO fW) (ah fW) .none Yo Yp Yq Xh QF Yr),XW⟩)
  (jq4N:de K QF "Matter.kind"=true)
  (jq4e:da K (.ref G4)=true)
  (jq4O:om K (.ref G4)=true)
  (jq4f:cb K (.ref c1) "kind"=some (some (.ref G5)))
  (jq6V:K.lookup G5=some ⟨Ys,Xi,.func (fu "kind" "Change.kind" (aS fX) (aO fX) (ah fX) .none Yt Yu Yv Xj QG Yw),XX⟩)
  (jq4P:de K QG "Change.kind"=true)
  (jq4g:da K (.ref G5)=true)
  (jq4Q:om K (.ref G5)=true)
  (jq4h:cb K (.ref c2) "kind"=some (some (.ref G6)))
  (jq6W:K.lookup G6=some ⟨Yx,Xk,.func (fu "kind" "Mend.kind" (aS iS) (aO iS) (ah iS) .none Yy Yz YA Xl QH YB),XY⟩)
  (jq4R:de K QH "Mend.kind"=true)
  (jq4i:da K (.ref G6)=true)
  (jq4S:om K (.ref G6)=true)
  (jq4j:cb K (.ref c3) "kind"=some (some (.ref G7)))
  (jq6X:K.lookup G7=some ⟨YC,Xm,.func (fu "kind" "PutOff.kind" (aS fY) (aO fY) (ah fY) .none YD YE YF Xn QI YG),XZ⟩)
  (jq4T:de K QI "PutOff.kind"=true)
  (jq4k:da K (.ref G7)=true)
  (jq4U:om K (.ref G7)=true)
  (jq4l:cb K (.ref c4) "kind"=some (some (.ref G8)))
  (jq6Y:K.lookup G8=some ⟨YH,Xo,.func (fu "kind" "Close.kind" (aS hG) (aO hG) (ah hG) .none YI YJ YK Xp QJ YL),X0⟩)
  (jq4V:de K QJ "Close.kind"=true)
  (jq4m:da K (.ref G8)=true)
  (jq4W:om K (.ref G8)=true)
  (jq4n:cb K (.ref c5) "kind"=some (some (.ref G9)))
  (jq6Z:K.lookup G9=some ⟨YM,Xq,.func (fu "kind" "Lay.kind" (aS jN) (aO jN) (ah jN) .none YN YO YQ Xr QK YR),X9⟩)
  (jq4X:de K QK "Lay.kind"=true)
  (jq4o:da K (.ref G9)=true)
  (jq4Y:om K (.ref G9)=true)
  (jq4p:cb K (.ref c6) "kind"=some (some (.ref Hb)))
  (jq70:K.lookup Hb=some ⟨YS,Xs,.func (fu "kind" "Rest.kind" (aS iT) (aO iT) (ah iT) .none YT YU YV Xt QL YW),Ya⟩)
  (jq4Z:de K QL "Rest.kind"=true)
  (jq4q:da K (.ref Hb)=true)
  (jq50:om K (.ref Hb)=true)
  (jq4r:cb K (.ref c7) "kind"=some (some (.ref Hc)))
  (jq71:K.lookup Hc=some ⟨YX,Xu,.func (fu "kind" "Point.kind" (aS hJ) (aO hJ) (ah hJ) .none YY YZ Y0 Xv QM Y1),Yb⟩)
  (jq51:de K QM "Point.kind"=true)
  (jq4s:da K (.ref Hc)=true)
  (jq52:om K (.ref Hc)=true)
  (jq53:cb K (.ref c0) "rank"=some (some (.ref zr)))
  (jq54:cb K (.ref c1) "rank"=some (some (.ref zr)))
  (jq55:cb K (.ref c2) "rank"=some (some (.ref zr)))
  (jq56:cb K (.ref c3) "rank"=some (some (.ref zr)))
  (jq57:cb K (.ref c4) "rank"=some (some (.ref zr)))
  (jq58:cb K (.ref c5) "rank"=some (some (.ref zr)))
  (jq59:cb K (.ref c6) "rank"=some (some (.ref zr)))
  (jq5a:cb K (.ref c7) "rank"=some (some (.ref zr)))
  (l_mr:K.lookup zr=some ⟨agQ,ada,.func (fu "rank" "Motion.rank" (aS fZ) (aO fZ) (ah fZ) .none agR agS agT adb UT agU),adT⟩)
  (jq72:de K UT "Motion.rank"=true)
  (jq2v:da K (.ref zr)=true)
  (jq31:om K (.ref zr)=true)
  (jq5b:cb K (.ref c0) "need"=some (some (.ref CA)))
  (jq5c:cb K (.ref c1) "need"=some (some (.ref CA)))
  (jq5d:cb K (.ref c2) "need"=some (some (.ref CA)))
  (jq5e:cb K (.ref c3) "need"=some (some (.ref CA)))
  (jq5f:cb K (.ref c5) "need"=some (some (.ref CA)))
  (jq5g:cb K (.ref c6) "need"=some (some (.ref CA)))
  (jq5h:cb K (.ref c7) "need"=some (some (.ref CA)))
  (l_mn:K.lookup CA=some ⟨agV,ade,.func (fu "need" "Motion.need" (aS f6) (aO f6) (ah f6) .none agW agX agY adf UU agZ),adU⟩)
  (jq73:de K UU "Motion.need"=true)
  (jq32:da K (.ref CA)=true)
  (jq3t:om K (.ref CA)=true)
  (jq4t:cb K (.ref c4) "need"=some (some (.ref Hd)))
  (jq74:K.lookup Hd=some ⟨Y2,Xw,.func (fu "need" "Close.need" (aS hU) (aO hU) (ah hU) .none Y3 Y4 Y5 Xx QN Y6),Yc⟩)
  (jq5i:de K QN "Close.need"=true)
  (jq4u:da K (.ref Hd)=true)
  (jq5j:om K (.ref Hd)=true)
  (jq5k:cb K (.ref c4) "told"=some (some (.ref Kv)))
  (jq5l:cb K (.ref c5) "told"=some (some (.ref Kv)))
  (jq5m:cb K (.ref c6) "told"=some (some (.ref Kv)))
  (l_mt:K.lookup Kv=some ⟨ag0,adg,.func (fu "told" "Motion.told" (aS f7) (aO f7) (ah f7) .none ag1 ag2 ag3 adh UW ag4),adV⟩)
  (jq75:de K UW "Motion.told"=true)
  (jq4b:da K (.ref Kv)=true)
  (jq4K:om K (.ref Kv)=true)
  (jq4v:cb K (.ref c0) "told"=some (some (.ref He)))
  (jq76:K.lookup He=some ⟨Y7,Xy,.func (fu "told" "Matter.told" (aS f9) (aO f9) (ah f9) .none Y8 Y9 Za Xz QO Zb),Yd⟩)
  (jq5n:de K QO "Matter.told"=true)
  (jq4w:da K (.ref He)=true)
  (jq5o:om K (.ref He)=true)
  (jq4x:cb K (.ref c1) "told"=some (some (.ref Hf)))
  (jq77:K.lookup Hf=some ⟨Zc,XA,.func (fu "told" "Change.told" (aS gb) (aO gb) (ah gb) .none Zd Ze Zf XB QP Zg),Ye⟩)
  (jq5p:de K QP "Change.told"=true)
  (jq4y:da K (.ref Hf)=true)
  (jq5q:om K (.ref Hf)=true)
  (jq4z:cb K (.ref c2) "told"=some (some (.ref Hg)))
  (jq78:K.lookup Hg=some ⟨Zh,XC,.func (fu "told" "Mend.told" (aS iU) (aO iU) (ah iU) .none Zi Zj Zk XD QQ Zl),Yf⟩)
  (jq5r:de K QQ "Mend.told"=true)
  (jq4A:da K (.ref Hg)=true)
  (jq5s:om K (.ref Hg)=true)
  (jq4B:cb K (.ref c3) "told"=some (some (.ref Hh)))
  (jq79:K.lookup Hh=some ⟨Zm,XE,.func (fu "told" "PutOff.told" (aS gf) (aO gf) (ah gf) .none Zn Zo Zp XF QR Zq),Yg⟩)
  (jq5t:de K QR "PutOff.told"=true)
  (jq4C:da K (.ref Hh)=true)
  (jq5u:om K (.ref Hh)=true)
  (jq4D:cb K (.ref c7) "told"=some (some (.ref Hi)))
  (jq7a:K.lookup Hi=some ⟨Zr,XG,.func (fu "told" "Point.told" (aS hV) (aO hV) (ah hV) .none Zs Zt Zu XH QS Zv),Yh⟩)
  (jq5v:de K QS "Point.told"=true)
  (jq4E:da K (.ref Hi)=true)
  (jq5w:om K (.ref Hi)=true)
  (jq4F:cb K (.ref c0) "__init__"=some (some (.ref Hk)))
  (jq7b:K.lookup Hk=some ⟨Zw,XI,.func (fu "__init__" "Matter.__init__" (aS gg) (aO gg) (ah gg) .none Zx Zy Zz XJ QT ZA),Yi⟩)
  (jq5x:de K QT "Matter.__init__"=true)
  (jq5y:da K (.ref Hk)=true)
  (jq5z:om K (.ref Hk)=true)
  (jq4G:cb K (.ref c1) "__init__"=some (some (.ref Hl)))
  (jq7c:K.lookup Hl=some ⟨ZC,XM,.func (fu "__init__" "Change.__init__" (aS gh) (aO gh) (ah gh) .none ZD ZE ZF XN QU ZG),Yj⟩)
  (jq5A:de K QU "Change.__init__"=true)
  (jq5B:da K (.ref Hl)=true)
  (jq5C:om K (.ref Hl)=true)
  (jq4H:cb K (.ref c2) "__init__"=some (some (.ref Hm)))
  (jq7d:K.lookup Hm=some ⟨ZH,XO,.func (fu "__init__" "Mend.__init__" (aS iV) (aO iV) (ah iV) .none ZI ZJ ZK XQ QV ZL),Yk⟩)
  (jq5D:de K QV "Mend.__init__"=true)
  (jq5E:da K (.ref Hm)=true)
  (jq5F:om K (.ref Hm)=true)
  (jq4I:cb K (.ref c3) "__init__"=some (some (.ref Ho)))
  (jq7e:K.lookup Ho=some ⟨ZM,XR,.func (fu "__init__" "PutOff.__init__" (aS gi) (aO gi) (ah gi) .none ZN ZO ZP XS QW ZQ),Yl⟩)
  (jq5G:de K QW "PutOff.__init__"=true)
  (jq5H:da K (.ref Ho)=true)
  (jq5I:om K (.ref Ho)=true)
  (jq4J:cb K (.ref c7) "__init__"=some (some (.ref Hq)))
  (jq7f:K.lookup Hq=some ⟨ZR,XT,.func (fu "__init__" "Point.__init__" (aS hX) (aO hX) (ah hX) .none ZS ZT ZU XU QX ZV),Ym⟩)
  (jq5J:de K QX "Point.__init__"=true)
  (jq5K:da K (.ref Hq)=true)
  (jq5L:om K (.ref Hq)=true)
  (na0:cb K (.ref c0) "text"=some none)
  (na1:cb K (.ref c1) "edit"=some none)
  (na2:cb K (.ref c2) "edit"=some none)
  (na3:cb K (.ref c3) "sitting"=some none)
  (na7:cb K (.ref c7) "clause"=some none)
  (ni4:cb K (.ref c4) "__init__"=some (some (.builtin "object.__init__")))
  (ni5:cb K (.ref c5) "__init__"=some (some (.builtin "object.__init__")))
  (ni6:cb K (.ref c6) "__init__"=some (some (.builtin "object.__init__")))
  (jq33:fe K ka "Chamber"=some (some (.ref bp)))
  (jq34:alG K bp alE=true)
  (jq35:alu K bp=true)
  (jq36:alQ K bp=true)
  (jq37:cb K (.ref bp) "__setattr__"=some (some (.builtin "object.__setattr__")))
  (jq38:alU K bp=true)
  (jq39:da K (.ref bp)=true)
  (jq22:cb K (.ref bp) "__init__"=some (some (.ref cS)))
  (jq2k:K.lookup cS=some ⟨zI,zt,.func (fu "__init__" "Chamber.__init__" (aS eT) (aO eT) (ah eT) .none zJ zK zL zu q8 zM),zD⟩)
  (jq23:de K q8 "Chamber.__init__"=true)
  (jq24:da K (.ref cS)=true)
  (jq25:om K (.ref cS)=true)
  (jq26:cb K (.ref bp) "move"=some (some (.ref cT)))
  (jq2l:K.lookup cT=some ⟨zN,zv,.func (fu "move" "Chamber.move" (aS eU) (aO eU) (ah eU) .none zO zP zQ zw q9 zR),zE⟩)
  (jq27:de K q9 "Chamber.move"=true)
  (jq1F:da K (.ref cT)=true)
  (jq28:om K (.ref cT)=true)
  (jq29:cb K (.ref bp) "vote"=some (some (.ref cU)))
  (jq2m:K.lookup cU=some ⟨zS,zx,.func (fu "vote" "Chamber.vote" (aS eV) (aO eV) (ah eV) .none zT zU zV zy rg zW),zF⟩)
  (jq2a:de K rg "Chamber.vote"=true)
  (jq1G:da K (.ref cU)=true)
  (jq2b:om K (.ref cU)=true)
  (jq2c:cb K (.ref bp) "drop"=some (some (.ref cV)))
  (jq2n:K.lookup cV=some ⟨zX,zz,.func (fu "drop" "Chamber.drop" (aS eW) (aO eW) (ah eW) .none zY zZ z0 zA rh Aa),zG⟩)
  (jq2d:de K rh "Chamber.drop"=true)
  (jq1H:da K (.ref cV)=true)
  (jq2e:om K (.ref cV)=true)
  (jq2f:cb K (.ref bp) "take"=some (some (.ref cW)))
  (jq2o:K.lookup cW=some ⟨Ab,zB,.func (fu "take" "Chamber.take" (aS eX) (aO eX) (ah eX) .none Ac Ad Ae zC rj Af),zH⟩)
  (jq2g:de K rj "Chamber.take"=true)
  (jq1I:da K (.ref cW)=true)
  (jq2h:om K (.ref cW)=true)
  (jq1A:cb K (.ref bp) "in_order"=some (some (.ref bW)))
  (jq1J:K.lookup bW=some ⟨ui,uf,.func (fu "in_order" "Chamber.in_order" (aS dn) (aO dn) (ah dn) .none uj uk um ug lT uo),uh⟩)
  (jq1B:de K lT "Chamber.in_order"=true)
  (jq1d:da K (.ref bW)=true)
  (jq1C:om K (.ref bW)=true)
  (jq1U:cb K (.ref bp) "state"=some (some (.ref cC)))
  (jq2i:K.lookup cC=some ⟨yD,yA,.func (fu "state" "Chamber.state" (aS dQ) (aO dQ) (ah dQ) .none yE yF yG yB qk yH),yC⟩)
  (jq1V:de K qk "Chamber.state"=true)
  (jq1z:da K (.ref cC)=true)
  (jq1W:om K (.ref cC)=true)
  (jq1N:cb K (.ref bp) "motion"=some (some (.ref cq)))
  (jq1X:K.lookup cq=some ⟨w9,wX,.func (fu "motion" "Chamber.motion" (aS d0) (aO d0) (ah d0) .none xa xb xc wY oe xg),w6⟩)
  (jq1O:de K oe "Chamber.motion"=true)
  (jq1q:da K (.ref cq)=true)
  (jq1P:om K (.ref cq)=true)
  (jq1K:cb K (.ref bp) "pending"=some (some (.ref bY)))
  (jq1Q:K.lookup bY=some ⟨vw,vp,.func (fu "pending" "Chamber.pending" (aS cQ) (aO cQ) (ah cQ) .none vx vy vz vq nA vA),vv⟩)
  (jq1L:de K nA "Chamber.pending"=true)
  (jq1k:da K (.ref bY)=true)
  (jq1M:om K (.ref bY)=true)
  (jq1n:cb K (.ref bp) "told_aside"=some (some (.ref bH)))
  (jq1s:K.lookup bH=some ⟨rC,rz,.func (fu "told_aside" "Chamber.told_aside" (aS cH) (aO cH) (ah cH) .none rD rE rF rA jI rG),rB⟩)
  (jq1o:de K jI "Chamber.told_aside"=true)
  (jqY:da K (.ref bH)=true)
  (jq1p:om K (.ref bH)=true)
  (jqw:cb K (.ref bp) "require_can_be_made"=some (some (.ref bj)))
  (jqG:K.lookup bj=some ⟨kF,kA,.func (fu "require_can_be_made" "Chamber.require_can_be_made" (aS bE) (aO bE) (ah bE) .none kG kH kJ kB fB kK),kD⟩)
  (jqx:de K fB "Chamber.require_can_be_made"=true)
  (jqn:da K (.ref bj)=true)
  (jqy:om K (.ref bj)=true)
  (jqV:cb K (.ref bp) "require_pending"=some (some (.ref bu)))
  (jqZ:K.lookup bu=some ⟨nB,nv,.func (fu "require_pending" "Chamber.require_pending" (aS bV) (aO bV) (ah bV) .none nC nD nF ny g8 nG),nz⟩)
  (jqW:de K g8 "Chamber.require_pending"=true)
  (jqs:da K (.ref bu)=true)
  (jqX:om K (.ref bu)=true)
  (jq1R:cb K (.ref bp) "decide"=some (some (.ref cv)))
  (jq1Y:K.lookup cv=some ⟨xh,wZ,.func (fu "decide" "Chamber.decide" (aS d3) (aO d3) (ah d3) .none xj xl xm w5 og xn),w8⟩)
  (jq1S:de K og "Chamber.decide"=true)
  (jq1r:da K (.ref cv)=true)
  (jq1T:om K (.ref cv)=true)
  (jq1f:cb K (.ref bp) "end_decision"=some (some (.ref bB)))
  (jq1l:K.lookup bB=some ⟨ql,qh,.func (fu "end_decision" "Chamber.end_decision" (aS cn) (aO cn) (ah cn) .none qm qo qp qi ja qr),qj⟩)
  (jq1g:de K ja "Chamber.end_decision"=true)
  (jqH:da K (.ref bB)=true)
  (jq1h:om K (.ref bB)=true)
  (jq1t:cb K (.ref bp) "carry_out"=some (some (.ref bN)))
  (jq1D:K.lookup bN=some ⟨tD,sY,.func (fu "carry_out" "Chamber.carry_out" (aS dc) (aO dc) (ah dc) .none tE tF tG sZ lz tH),tq⟩)
  (jq1u:de K lz "Chamber.carry_out"=true)
  (jq15:da K (.ref bN)=true)
  (jq1v:om K (.ref bN)=true)
  (jq17:cb K (.ref bp) "lay_on_matter"=some (some (.ref bz)))
  (jq1i:K.lookup bz=some ⟨oO,oG,.func (fu "lay_on_matter" "Chamber.lay_on_matter" (aS cc) (aO cc) (ah cc) .none oQ oR oS oH iC oU),oK⟩)
  (jq18:de K iC "Chamber.lay_on_matter"=true)
  (jqz:da K (.ref bz)=true)
  (jq19:om K (.ref bz)=true)
  (jq1a:cb K (.ref bp) "lay_on_change"=some (some (.ref bA)))
  (jq1j:K.lookup bA=some ⟨oV,oI,.func (fu "lay_on_change" "Chamber.lay_on_change" (aS cf) (aO cf) (ah cf) .none oW oX oY oJ iD oZ),oN⟩)
  (jq1b:de K iD "Chamber.lay_on_change"=true)
  (jqA:da K (.ref bA)=true)
  (jq1c:om K (.ref bA)=true)
  (jq1w:cb K (.ref bp) "put_aside"=some (some (.ref bO)))
  (jq1E:K.lookup bO=some ⟨tI,tf,.func (fu "put_aside" "Chamber.put_aside" (aS df) (aO df) (ah df) .none tJ tK tL tj lA tM),tw⟩)
  (jq1x:de K lA "Chamber.put_aside"=true)
  (jq16:da K (.ref bO)=true)
  (jq1y:om K (.ref bO)=true)
  (jqt:cb K (.ref bp) "seats"=some none)
  (jq1:cb K (.ref bp) "sitting"=some none)
  (jq3:cb K (.ref bp) "closed"=some none)
  (jq2:cb K (.ref bp) "made"=some none)
  (jq0:cb K (.ref bp) "pile"=some none)
  (jq4:cb K (.ref bp) "aside"=some none)
  (jqj:cb K (.ref bp) "decided"=some none)
  (jqb:cb K (.ref bp) "first_texts"=some none)
  (jq5:cb K (.ref bp) "edits_kept"=some none)
  (jqk:cb K (.ref bp) "rows"=some none)
  (jq2j:fe K ka "ChamberError"=some (some (.ref a7)))
  (jq40:fe K ka "NoFit"=some (some (.ref jB)))
  (jq3x:fe K ka "Barred"=some (some (.ref bZ)))
  (jq2w:fe K ka "NoMatter"=some (some (.ref bI)))
  (jq2x:fe K ka "NoChange"=some (some (.ref bJ)))
  (jq2y:fe K ka "NotLater"=some (some (.ref c8)))
  (jq3a:fe K ka "Nothing"=some (some (.ref fv)))
  (jq3b:fe K ka "TooMany"=some (some (.ref fw)))
  (jq3c:fe K ka "NoAside"=some (some (.ref fA)))
  (jq3y:fe K ka "NotYet"=some (some (.ref eI)))
  (jq2z:fe K ka "NoNumber"=some (some (.ref et)))
  (jq41:K.lookup jB=some (alJ Q2 Tz jB FJ Q3 (.ref a7::qP) Rg Q4 Q5 Q6 Q7 Q8 Q9 Ra Rb Rc Rf "ValueError.__new__"))
  (jq2A:K.lookup bI=some (alJ Ib KN bI vB Ic (.ref a7::qP) Iq Ie Ig Ih Ii Ij Ik Il Im Io Ip "ValueError.__new__"))
  (jq2B:K.lookup bJ=some (alJ Ir KO bJ vC Iu (.ref a7::qP) IG Iv Iw Iy Iz IA IB IC ID IE IF "ValueError.__new__"))
  (jq3d:K.lookup fv=some (alJ KP Nx fv yI KQ (.ref a7::qP) K5 KR KS KU KW KY KZ K0 K1 K2 K4 "ValueError.__new__"))
  (jq3e:K.lookup fw=some (alJ K6 Ny fw yJ K7 (.ref a7::qP) Lj K8 K9 La Lb Lc Le Lf Lg Lh Li "ValueError.__new__"))
  (jq3f:K.lookup fA=some (alJ Ll Nz fA yK Lm (.ref a7::qP) Ly Ln Lo Lp Lq Lr Ls Lu Lv Lw Lx "ValueError.__new__"))
  (jq2C:K.lookup et=some (alJ IH Lz et vD II (.ref a7::qP) IW IJ IK IL IM IP IQ IS IT IU IV "ValueError.__new__"))
  (jq3z:K.lookup bZ=some (alJ NA Rh bZ CF NB (.ref a7::qP) true NC ND NF NG NH NI NJ NK NL NM "ValueError.__new__"))
  (jq2D:K.lookup c8=some (alJ IZ LA c8 vE I0 (.ref a7::qP) true I9 Ja Jb Jc Jd Je Jf Jg Jh Ji "ValueError.__new__"))
  (jq3A:K.lookup eI=some (alJ NN Ri eI CG NO (.ref a7::qP) true NP NQ NR NS NT NU NV NW NX NY "ValueError.__new__"))
  (jq6:K.lookup a7=some ⟨CH,Ak,.cls rn,Al⟩)
  (jq7:rn.ns=nH)
  (jq42:K.lookup FJ=some ⟨QY,QZ,.dict HI Q0,Q1⟩)
  (jq43:strKeys HI=true)
  (jq44:fe K FJ "__init__"=some none)
  (jq8:K.lookup nH=some ⟨Ag,Ah,.dict rm Ai,Aj⟩)
  (jq9:strKeys rm=true)
  (jqa:fe K nH "__init__"=some none)
  (jq2E:K.lookup vB=some ⟨HJ,HK,.dict zf HL,HM⟩)
  (jq2F:strKeys zf=true)
  (jq2G:fe K vB "__init__"=some none)
  (jq2H:K.lookup vC=some ⟨HN,HP,.dict zg HQ,HR⟩)
  (jq2I:strKeys zg=true)
  (jq2J:fe K vC "__init__"=some none)
  (jq3g:K.lookup yI=some ⟨Kw,Kx,.dict CB Ky,Kz⟩)
  (jq3h:strKeys CB=true)
  (jq3i:fe K yI "__init__"=some none)
  (jq3j:K.lookup yJ=some ⟨KA,KC,.dict CC KD,KG⟩)
  (jq3k:strKeys CC=true)
  (jq3l:fe K yJ "__init__"=some none)
  (jq3m:K.lookup yK=some ⟨KH,KI,.dict CD KJ,KL⟩)
  (jq3n:strKeys CD=true)
  (jq3o:fe K yK "__init__"=some none)
  (jq2K:K.lookup vD=some ⟨HS,HU,.dict zh HV,HW⟩)
  (jq2L:strKeys zh=true)
  (jq2M:fe K vD "__init__"=some none)
  (jq3B:K.lookup CF=some ⟨Nn,Np,.dict Eh Nq,Nr⟩)
  (jq3C:strKeys Eh=true)
  (jq3D:fe K CF "__init__"=some (some (.ref nq)))
  (jq2N:K.lookup vE=some ⟨HX,HY,.dict zi HZ,Ia⟩)
  (jq2O:strKeys zi=true)
  (jq2P:fe K vE "__init__"=some (some (.ref jC)))
  (jq3E:K.lookup CG=some ⟨Nt,Nu,.dict Ei Nv,Nw⟩)
  (jq3F:strKeys Ei=true)
  (jq3G:fe K CG "__init__"=some (some (.ref nr)))
  (jq1Z:PySem.W.readsIn K a7 (.type "type")=true)
  (jq20:PySem.W.specialIn K (.ref a7) "__getattribute__"=some (some (.builtin "type.__getattribute__")))
  (jq21:PySem.W.findCls K (.ref a7) (.type "type") "__init__"=some (.val (.builtin "ValueError.__init__")))
  (jq4L:cb K (.ref jB) "__getattribute__"=some (some (.builtin "BaseException.__getattribute__")))
  (jq4c:cb K (.ref jB) "__getattr__"=some none)
  (jq4M:alV K jB (.type "BaseException")=some true)
  (jqo:eg K (.ref jB) (.ref a7)=some true)
  (jq1m:eg K (.ref jB) (.ref bZ)=some false)
  (jq10:eg K (.ref jB) (.ref bI)=some false)
  (jq11:eg K (.ref jB) (.ref bJ)=some false)
  (jq3R:cb K (.ref bI) "__getattribute__"=some (some (.builtin "BaseException.__getattribute__")))
  (jq3u:cb K (.ref bI) "__getattr__"=some none)
  (jq3S:alV K bI (.type "BaseException")=some true)
  (jqc:eg K (.ref bI) (.ref a7)=some true)
  (jqu:eg K (.ref bI) (.ref bZ)=some false)
  (jqp:eg K (.ref bI) (.ref bI)=some true)
  (jqB:eg K (.ref bI) (.ref bJ)=some false)
  (jq3T:cb K (.ref bJ) "__getattribute__"=some (some (.builtin "BaseException.__getattribute__")))
  (jq3v:cb K (.ref bJ) "__getattr__"=some none)
  (jq3U:alV K bJ (.type "BaseException")=some true)
  (jqd:eg K (.ref bJ) (.ref a7)=some true)
  (jqv:eg K (.ref bJ) (.ref bZ)=some false)
  (jqq:eg K (.ref bJ) (.ref bI)=some false)
  (jqr:eg K (.ref bJ) (.ref bJ)=some true)
  (jq45:cb K (.ref fv) "__getattribute__"=some (some (.builtin "BaseException.__getattribute__")))
  (jq3V:cb K (.ref fv) "__getattr__"=some none)
  (jq46:alV K fv (.type "BaseException")=some true)
  (jqg:eg K (.ref fv) (.ref a7)=some true)
  (jq12:eg K (.ref fv) (.ref bZ)=some false)
  (jqI:eg K (.ref fv) (.ref bI)=some false)
  (jqJ:eg K (.ref fv) (.ref bJ)=some false)
  (jq47:cb K (.ref fw) "__getattribute__"=some (some (.builtin "BaseException.__getattribute__")))
  (jq3W:cb K (.ref fw) "__getattr__"=some none)
  (jq48:alV K fw (.type "BaseException")=some true)
  (jqh:eg K (.ref fw) (.ref a7)=some true)
  (jq13:eg K (.ref fw) (.ref bZ)=some false)
  (jqK:eg K (.ref fw) (.ref bI)=some false)
  (jqL:eg K (.ref fw) (.ref bJ)=some false)
  (jq49:cb K (.ref fA) "__getattribute__"=some (some (.builtin "BaseException.__getattribute__")))
  (jq3X:cb K (.ref fA) "__getattr__"=some none)
  (jq4a:alV K fA (.type "BaseException")=some true)
  (jqi:eg K (.ref fA) (.ref a7)=some true)
  (jq14:eg K (.ref fA) (.ref bZ)=some false)
  (jqM:eg K (.ref fA) (.ref bI)=some false)
  (jqN:eg K (.ref fA) (.ref bJ)=some false)
  (jq3Y:cb K (.ref et) "__getattribute__"=some (some (.builtin "BaseException.__getattribute__")))
  (jq3w:cb K (.ref et) "__getattr__"=some none)
  (jq3Z:alV K et (.type "BaseException")=some true)
  (jqe:eg K (.ref et) (.ref a7)=some true)
  (jqP:eg K (.ref et) (.ref bZ)=some false)
  (jqC:eg K (.ref et) (.ref bI)=some false)
  (jqD:eg K (.ref et) (.ref bJ)=some false)
  (jq3H:cb K (.ref bZ) "__getattribute__"=some (some (.builtin "BaseException.__getattribute__")))
  (jq3p:cb K (.ref bZ) "__getattr__"=some none)
  (jq3I:alV K bZ (.type "BaseException")=some true)
  (jq3q:K.lookup nq=some ⟨Hx,Hr,.func (fu "__init__" "Barred.__init__" (aS gj) (aO gj) (ah gj) .none Hy Hz HA Hs zd HB),Hv⟩)
  (jq2Q:de K zd "Barred.__init__"=true)
  (jq2R:da K (.ref nq)=true)
  (jq3J:om K (.ref nq)=true)
  (jq3K:cb K (.ref bZ) "__setattr__"=some (some (.builtin "object.__setattr__")))
  (jq2Z:cb K (.ref bZ) "bar"=some none)
  (jq3L:alu K bZ=true)
  (jql:eg K (.ref bZ) (.ref a7)=some true)
  (jqO:eg K (.ref bZ) (.ref bZ)=some true)
  (jqQ:eg K (.ref bZ) (.ref bI)=some false)
  (jqR:eg K (.ref bZ) (.ref bJ)=some false)
  (jq2S:cb K (.ref c8) "__getattribute__"=some (some (.builtin "BaseException.__getattribute__")))
  (jq2t:cb K (.ref c8) "__getattr__"=some none)
  (jq2T:alV K c8 (.type "BaseException")=some true)
  (jq2u:K.lookup jC=some ⟨C7,C4,.func (fu "__init__" "NotLater.__init__" (aS ez) (aO ez) (ah ez) .none C8 C9 Dc C5 uB De),C6⟩)
  (jq2r:de K uB "NotLater.__init__"=true)
  (jq2s:da K (.ref jC)=true)
  (jq2U:om K (.ref jC)=true)
  (jq2V:cb K (.ref c8) "__setattr__"=some (some (.builtin "object.__setattr__")))
  (jq2p:cb K (.ref c8) "sitting"=some none)
  (jq2W:alu K c8=true)
  (jqf:eg K (.ref c8) (.ref a7)=some true)
  (jqS:eg K (.ref c8) (.ref bZ)=some false)
  (jqE:eg K (.ref c8) (.ref bI)=some false)
  (jqF:eg K (.ref c8) (.ref bJ)=some false)
  (jq3M:cb K (.ref eI) "__getattribute__"=some (some (.builtin "BaseException.__getattribute__")))
  (jq3r:cb K (.ref eI) "__getattr__"=some none)
  (jq3N:alV K eI (.type "BaseException")=some true)
  (jq3s:K.lookup nr=some ⟨HC,Ht,.func (fu "__init__" "NotYet.__init__" (aS gk) (aO gk) (ah gk) .none HD HE HF Hu ze HG),Hw⟩)
  (jq2X:de K ze "NotYet.__init__"=true)
  (jq2Y:da K (.ref nr)=true)
  (jq3O:om K (.ref nr)=true)
  (jq3P:cb K (.ref eI) "__setattr__"=some (some (.builtin "object.__setattr__")))
  (jq30:cb K (.ref eI) "sitting"=some none)
  (jq3Q:alu K eI=true)
  (jqm:eg K (.ref eI) (.ref a7)=some true)
  (jq1e:eg K (.ref eI) (.ref bZ)=some false)
  (jqT:eg K (.ref eI) (.ref bI)=some false)
  (jqU:eg K (.ref eI) (.ref bJ)=some false) :
  ∃fd:kj,(∀(s:Shared) (v:Value),BindsTo s fd ⟨[v],[]⟩ [("_law_script",v)])/\∀base:Heap,K.In base->base.Ns ka mg->a8 l.prog w K mg base CX0 20 fa fd ["_law_script"] (Mu K):=by
 have e:=hfa.symm.trans (ki X G a_44);cases e;have F_1:=aZ (st:=xF) l_1 cc_1 kp_1;have b_1:=F_1.binds (ps:=["things","edit"]) λ_ _ _ _ _ _ us hl=>match us,hl with | [_,_],_=>rfl
 have F_2:=aZ (st:=gu) l_2 cc_2 kp_2;have b_2:=F_2.binds (ps:=["things","edit"]) λ_ _ _ _ _ _ us hl=>match us,hl with | [_,_],_=>rfl
 have F_3:=aZ (st:=xG) l_3 cc_3 kp_3;have b_3:=F_3.binds (ps:=["things","edit"]) λ_ _ _ _ _ _ us hl=>match us,hl with | [_,_],_=>rfl
 have F_4:=aZ (st:=jO) l_4 cc_4 kp_4;have b_4:=F_4.binds (ps:=["clause"]) λ_ _ _ _ _ _ us hl=>match us,hl with | [_],_=>rfl
 have F_5:=aZ (st:=iW) l_5 cc_5 kp_5;have b_5:=F_5.binds (ps:=["words"]) λ_ _ _ _ _ _ us hl=>match us,hl with | [_],_=>rfl
 have F_6:=aZ (st:=iX) l_6 cc_6 kp_6;have b_6:=F_6.binds (ps:=["told"]) λ_ _ _ _ _ _ us hl=>match us,hl with | [_],_=>rfl
 have F_7:=aZ (st:=pD) l_7 cc_7 kp_7;have b_7:=F_7.binds (ps:=["pile","closed"]) λ_ _ _ _ _ _ us hl=>match us,hl with | [_,_],_=>rfl
 have F_8:=aZ (st:=fJ) l_8 cc_8 kp_8;have b_8:=F_8.binds (ps:=["pile"]) λ_ _ _ _ _ _ us hl=>match us,hl with | [_],_=>rfl
 have F_9:=aZ (st:=eA) l_9 cc_9 kp_9;have b_9:=F_9.binds (ps:=["pile"]) λ_ _ _ _ _ _ us hl=>match us,hl with | [_],_=>rfl
 have ag5:=aZ (st:=dg) l_10 jq5M jq5N;have aj8:=ag5.binds (ps:=["kind","pile"]) λ_ _ _ _ _ _ us hl=>match us,hl with | [_,_],_=>rfl
 have ag6:=aZ (st:=du) l_11 jq5O jq5P;have aj9:=ag6.binds (ps:=["pile","closed"]) λ_ _ _ _ _ _ us hl=>match us,hl with | [_,_],_=>rfl
 have ag7:=aZ (st:=dA) l_12 jq5Q jq5R;have aka:=ag7.binds (ps:=["kind","pile","closed"]) λ_ _ _ _ _ _ us hl=>match us,hl with | [_,_,_],_=>rfl
 have ag8:=aZ (st:=eB) l_13 jq5S jq5T;have akb:=ag8.binds (ps:=["text"]) λ_ _ _ _ _ _ us hl=>match us,hl with | [_],_=>rfl
 have ag9:=aZ (st:=eC) l_14 jq5U jq5V;have akc:=ag9.binds (ps:=["edit"]) λ_ _ _ _ _ _ us hl=>match us,hl with | [_],_=>rfl
 have aha:=aZ (st:=d6) l_15 jq5W jq5X;have akd:=aha.binds (ps:=["deed"]) λ_ _ _ _ _ _ us hl=>match us,hl with | [_],_=>rfl
 have ahb:=aZ (st:=iY) l_16 jq5Y jq5Z;have ake:=ahb.binds (ps:=["deed"]) λ_ _ _ _ _ _ us hl=>match us,hl with | [_],_=>rfl
 have ahc:=aZ (st:=l9) l_17 jq60 jq61;have akf:=ahc.binds (ps:=["need","ayes","noes"]) λ_ _ _ _ _ _ us hl=>match us,hl with | [_,_,_],_=>rfl
 have ahd:=aZ (st:=iZ) l_18 jq62 jq63;have akg:=ahd.binds (ps:=["_law_script","_law_k"]) λ_ _ _ _ _ _ us hl=>match us,hl with | [_,_],_=>rfl
 have ahe:=aZ (st:=pH) l_19 jq64 jq65;have akh:=ahe.binds (ps:=["_law_cell"]) λ_ _ _ _ _ _ us hl=>match us,hl with | [_],_=>rfl
 have ahf:=aZ (st:=jQ) l_20 jq66 jq67;have aki:=ahf.binds (ps:=["_law_cell"]) λ_ _ _ _ _ _ us hl=>match us,hl with | [_],_=>rfl
 have ahg:=aZ (st:=pJ) l_21 jq68 jq69;have akj:=ahg.binds (ps:=["_law_cell","_law_size","_law_thing"]) λ_ _ _ _ _ _ us hl=>match us,hl with | [_,_,_],_=>rfl
 have ahh:=aZ (st:=pK) l_22 jq6a jq6b;have akk:=ahh.binds (ps:=["_law_things","_law_edit_here"]) λ_ _ _ _ _ _ us hl=>match us,hl with | [_,_],_=>rfl
 have ahi:=aZ (st:=pL) l_23 jq6c jq6d;have akl:=ahi.binds (ps:=["_law_things","_law_edit_here"]) λ_ _ _ _ _ _ us hl=>match us,hl with | [_,_],_=>rfl
 have ahj:=aZ (st:=md) l_24 jq6e jq6f;have akm:=ahj.binds (ps:=["_law_clause_here"]) λ_ _ _ _ _ _ us hl=>match us,hl with | [_],_=>rfl
 have ahk:=aZ (st:=pM) l_25 jq6g jq6h;have akn:=ahk.binds (ps:=["_law_kind"]) λ_ _ _ _ _ _ us hl=>match us,hl with | [_],_=>rfl
 have ahl:=aZ (st:=tR) l_26 jq6i jq6j;have ako:=ahl.binds (ps:=[]) λ_ _ _ _ _ _ us hl=>match us,hl with | [],_=>rfl
 have ahm:=aZ (st:=tS) l_27 jq6k jq6l;have akp:=ahm.binds (ps:=["_law_m","_law_number"]) λ_ _ _ _ _ _ us hl=>match us,hl with | [_,_],_=>rfl
 have ahn:=aZ (st:=tT) l_28 jq6m jq6n;have akq:=ahn.binds (ps:=["_law_m"]) λ_ _ _ _ _ _ us hl=>match us,hl with | [_],_=>rfl
 have aho:=aZ (st:=mf) l_29 jq6o jq6p;have akr:=aho.binds (ps:=["_law_m","_law_motion_here"]) λ_ _ _ _ _ _ us hl=>match us,hl with | [_,_],_=>rfl
 have ahp:=aZ (st:=pN) l_30 jq6q jq6r;have aks:=ahp.binds (ps:=["_law_m","_law_motion_here"]) λ_ _ _ _ _ _ us hl=>match us,hl with | [_,_],_=>rfl
 have ahq:=aZ (st:=mh) l_31 jq6s jq6t;have akt:=ahq.binds (ps:=["_law_m","_law_word_here"]) λ_ _ _ _ _ _ us hl=>match us,hl with | [_,_],_=>rfl
 have ahr:=aZ (st:=mi) l_32 jq6u jq6v;have aku:=ahr.binds (ps:=["_law_m","_law_ayes","_law_noes","_law_seats_here"]) λ_ _ _ _ _ _ us hl=>match us,hl with | [_,_,_,_],_=>rfl
 have ahs:=aZ (st:=mj) l_33 jq6w jq6x;have akv:=ahs.binds (ps:=["_law_m","_law_number"]) λ_ _ _ _ _ _ us hl=>match us,hl with | [_,_],_=>rfl
 have aht:=aZ (st:=tU) l_34 jq6y jq6z;have akw:=aht.binds (ps:=["_law_m","_law_deed_here","_law_seats_here"]) λ_ _ _ _ _ _ us hl=>match us,hl with | [_,_,_],_=>rfl
 have ahu:=aZ (st:=pO) l_35 jq6A jq6B;have akx:=ahu.binds (ps:=["_law_cell","_law_seats_here"]) λ_ _ _ _ _ _ us hl=>match us,hl with | [_,_],_=>rfl
 have ahv:=aZ (st:=jS) l_36 jq6C jq6D;have aky:=ahv.binds (ps:=["_law_m","_law_way"]) λ_ _ _ _ _ _ us hl=>match us,hl with | [_,_],_=>rfl
 have ahw:=aZ (st:=mH) l_37 jq6E jq6F;have akz:=ahw.binds (ps:=["_law_m","_law_cell","_law_seats_here"]) λ_ _ _ _ _ _ us hl=>match us,hl with | [_,_,_],_=>rfl
 have ahx:=aZ (st:=pQ) l_38 jq6G jq6H;have akA:=ahx.binds (ps:=["_law_chamber","_law_deed_here"]) λ_ _ _ _ _ _ us hl=>match us,hl with | [_,_],_=>rfl
 have ahy:=aZ (st:=mq) l_39 jq6I jq6J;have akB:=ahy.binds (ps:=["_law_cell"]) λ_ _ _ _ _ _ us hl=>match us,hl with | [_],_=>rfl
 have ahz:=aZ (st:=iH) l_40 jq6K jq6L;have akC:=ahz.binds (ps:=["_law_chamber","_law_kind","_law_cell"]) λ_ _ _ _ _ _ us hl=>match us,hl with | [_,_,_],_=>rfl
 have ahA:=aZ (st:=mr) l_41 jq6M jq6N;have akD:=ahA.binds (ps:=["_law_chamber","_law_motion_here"]) λ_ _ _ _ _ _ us hl=>match us,hl with | [_,_],_=>rfl
 have ahB:=aZ (st:=mI) l_42 jq6O jq6P;have akE:=ahB.binds (ps:=["_law_chamber","_law_motion_here"]) λ_ _ _ _ _ _ us hl=>match us,hl with | [_,_],_=>rfl
 have ahC:=aZ (st:=mw) l_43 jq6Q jq6R;have akF:=ahC.binds (ps:=["_law_seats_here","_law_deeds"]) λ_ _ _ _ _ _ us hl=>match us,hl with | [_,_],_=>rfl
 have akG:=aZ (st:=vX) l_44 jq6S jq6T;have UX:=aZ (st:=fW) jq6U jq4N jq4e;have ahD:=UX.binds (ps:=["self"]) λ_ _ _ _ _ _ us hl=>match us,hl with | [_],_=>rfl
 have UY:=aZ (st:=fX) jq6V jq4P jq4g;have ahE:=UY.binds (ps:=["self"]) λ_ _ _ _ _ _ us hl=>match us,hl with | [_],_=>rfl
 have UZ:=aZ (st:=iS) jq6W jq4R jq4i;have ahF:=UZ.binds (ps:=["self"]) λ_ _ _ _ _ _ us hl=>match us,hl with | [_],_=>rfl
 have U0:=aZ (st:=fY) jq6X jq4T jq4k;have ahG:=U0.binds (ps:=["self"]) λ_ _ _ _ _ _ us hl=>match us,hl with | [_],_=>rfl
 have U4:=aZ (st:=hG) jq6Y jq4V jq4m;have ahH:=U4.binds (ps:=["self"]) λ_ _ _ _ _ _ us hl=>match us,hl with | [_],_=>rfl
 have U5:=aZ (st:=jN) jq6Z jq4X jq4o;have ahI:=U5.binds (ps:=["self"]) λ_ _ _ _ _ _ us hl=>match us,hl with | [_],_=>rfl
 have U6:=aZ (st:=iT) jq70 jq4Z jq4q;have ahJ:=U6.binds (ps:=["self"]) λ_ _ _ _ _ _ us hl=>match us,hl with | [_],_=>rfl
 have U7:=aZ (st:=hJ) jq71 jq51 jq4s;have ahK:=U7.binds (ps:=["self"]) λ_ _ _ _ _ _ us hl=>match us,hl with | [_],_=>rfl
 have ahL:=aZ (st:=fZ) l_mr jq72 jq2v;have akH:=ahL.binds (ps:=["self"]) λ_ _ _ _ _ _ us hl=>match us,hl with | [_],_=>rfl
 have ahM:=aZ (st:=f6) l_mn jq73 jq32;have LB:=ahM.binds (ps:=["self"]) λ_ _ _ _ _ _ us hl=>match us,hl with | [_],_=>rfl
 have U8:=aZ (st:=hU) jq74 jq5i jq4u;have ahN:=U8.binds (ps:=["self"]) λ_ _ _ _ _ _ us hl=>match us,hl with | [_],_=>rfl
 have ahO:=aZ (st:=f7) l_mt jq75 jq4b;have ZW:=ahO.binds (ps:=["self"]) λ_ _ _ _ _ _ us hl=>match us,hl with | [_],_=>rfl
 have U9:=aZ (st:=f9) jq76 jq5n jq4w;have ahP:=U9.binds (ps:=["self"]) λ_ _ _ _ _ _ us hl=>match us,hl with | [_],_=>rfl
 have Va:=aZ (st:=gb) jq77 jq5p jq4y;have ahQ:=Va.binds (ps:=["self"]) λ_ _ _ _ _ _ us hl=>match us,hl with | [_],_=>rfl
 have Vb:=aZ (st:=iU) jq78 jq5r jq4A;have ahR:=Vb.binds (ps:=["self"]) λ_ _ _ _ _ _ us hl=>match us,hl with | [_],_=>rfl
 have Vc:=aZ (st:=gf) jq79 jq5t jq4C;have ahS:=Vc.binds (ps:=["self"]) λ_ _ _ _ _ _ us hl=>match us,hl with | [_],_=>rfl
 have Vd:=aZ (st:=hV) jq7a jq5v jq4E;have ahT:=Vd.binds (ps:=["self"]) λ_ _ _ _ _ _ us hl=>match us,hl with | [_],_=>rfl
 have Ve:=aZ (st:=gg) jq7b jq5x jq5y;have ahU:=Ve.binds (ps:=["self","text"]) λ_ _ _ _ _ _ us hl=>match us,hl with | [_,_],_=>rfl
 have Vf:=aZ (st:=gh) jq7c jq5A jq5B;have ahV:=Vf.binds (ps:=["self","edit"]) λ_ _ _ _ _ _ us hl=>match us,hl with | [_,_],_=>rfl
 have Vg:=aZ (st:=iV) jq7d jq5D jq5E;have ahW:=Vg.binds (ps:=["self","edit"]) λ_ _ _ _ _ _ us hl=>match us,hl with | [_,_],_=>rfl
 have Vh:=aZ (st:=gi) jq7e jq5G jq5H;have ahX:=Vh.binds (ps:=["self","sitting"]) λ_ _ _ _ _ _ us hl=>match us,hl with | [_,_],_=>rfl
 have Vi:=aZ (st:=hX) jq7f jq5J jq5K;have ahY:=Vi.binds (ps:=["self","clause"]) λ_ _ _ _ _ _ us hl=>match us,hl with | [_,_],_=>rfl
 have gO:=aZ (st:=eT) jq2k jq23 jq24;have gP:=gO.binds (ps:=["self","seats"]) λ_ _ _ _ _ _ us hl=>match us,hl with | [_,_],_=>rfl
 have gQ:=aZ (st:=eU) jq2l jq27 jq1F;have gR:=gQ.binds (ps:=["self","told"]) λ_ _ _ _ _ _ us hl=>match us,hl with | [_,_],_=>rfl
 have gS:=aZ (st:=eV) jq2m jq2a jq1G;have jm:=gS.binds (ps:=["self","ayes","noes"]) λ_ _ _ _ _ _ us hl=>match us,hl with | [_,_,_],_=>rfl
 have gU:=aZ (st:=eW) jq2n jq2d jq1H;have jn:=gU.binds (ps:=["self"]) λ_ _ _ _ _ _ us hl=>match us,hl with | [_],_=>rfl
 have gW:=aZ (st:=eX) jq2o jq2g jq1I;have jo:=gW.binds (ps:=["self","number"]) λ_ _ _ _ _ _ us hl=>match us,hl with | [_,_],_=>rfl
 have d8:=aZ (st:=dn) jq1J jq1B jq1d;have dC:=d8.binds (ps:=["self"]) λ_ _ _ _ _ _ us hl=>match us,hl with | [_],_=>rfl
 have fQ:=aZ (st:=dQ) jq2i jq1V jq1z;have fR:=fQ.binds (ps:=["self"]) λ_ _ _ _ _ _ us hl=>match us,hl with | [_],_=>rfl
 have e9:=aZ (st:=d0) jq1X jq1O jq1q;have fb:=e9.binds (ps:=["self","number"]) λ_ _ _ _ _ _ us hl=>match us,hl with | [_,_],_=>rfl
 have eE:=aZ (st:=cQ) jq1Q jq1L jq1k;have dN:=eE.binds (ps:=["self"]) λ_ _ _ _ _ _ us hl=>match us,hl with | [_],_=>rfl
 have dM:=aZ (st:=cH) jq1s jq1o jqY;have eF:=dM.binds (ps:=["self","number"]) λ_ _ _ _ _ _ us hl=>match us,hl with | [_,_],_=>rfl
 have bT:=aZ (st:=bE) jqG jqx jqn;have cz:=bT.binds (ps:=["self","told"]) λ_ _ _ _ _ _ us hl=>match us,hl with | [_,_],_=>rfl
 have cw:=aZ (st:=bV) jqZ jqW jqs;have cx:=cw.binds (ps:=["self"]) λ_ _ _ _ _ _ us hl=>match us,hl with | [_],_=>rfl
 have fg:=aZ (st:=d3) jq1Y jq1S jq1r;have fh:=fg.binds (ps:=["self","word"]) λ_ _ _ _ _ _ us hl=>match us,hl with | [_,_],_=>rfl
 have cX:=aZ (st:=cn) jq1l jq1g jqH;have cY:=cX.binds (ps:=["self","deed"]) λ_ _ _ _ _ _ us hl=>match us,hl with | [_,_],_=>rfl
 have dS:=aZ (st:=dc) jq1D jq1u jq15;have eM:=dS.binds (ps:=["self","motion"]) λ_ _ _ _ _ _ us hl=>match us,hl with | [_,_],_=>rfl
 have cJ:=aZ (st:=cc) jq1i jq18 jqz;have dO:=cJ.binds (ps:=["self","edit"]) λ_ _ _ _ _ _ us hl=>match us,hl with | [_,_],_=>rfl
 have cK:=aZ (st:=cf) jq1j jq1b jqA;have dP:=cK.binds (ps:=["self","edit"]) λ_ _ _ _ _ _ us hl=>match us,hl with | [_,_],_=>rfl
 have dU:=aZ (st:=df) jq1E jq1x jq16;have dW:=dU.binds (ps:=["self","until"]) λ_ _ _ _ _ _ us hl=>match us,hl with | [_,_],_=>rfl
 have mS:=aZ (st:=gj) jq3q jq2Q jq2R;have mT:=mS.binds (ps:=["self","bar"]) λ_ _ _ _ _ _ us hl=>match us,hl with | [_,_],_=>rfl
 have jq:=aZ (st:=ez) jq2u jq2r jq2s;have lX:=jq.binds (ps:=["self","sitting"]) λ_ _ _ _ _ _ us hl=>match us,hl with | [_,_],_=>rfl
 have mU:=aZ (st:=gk) jq3s jq2X jq2Y;have qD:=mU.binds (ps:=["self","sitting"]) λ_ _ _ _ _ _ us hl=>match us,hl with | [_,_],_=>rfl
 have T:Txt P K mg ⟨f_1,_,f_2,_,f_3,_,f_4,_,f_5,_,f_6,_,f_7,_,f_8,_,f_9,_,SW,_,SX,_,SY,_,S0,_,S1,_,S2,_,S3,_,S4,_,S5,_,S6,_,S7,_,S8,_,S9,_,Ta,_,Tb,_,Tc,_,Td,_,Te,_,Tf,_,Tg,_,Th,_,Ti,_,Tj,_,Tn,_,To,_,Tp,_,Tq,_,Tr,_,Ts,_,Tt,_,Tu,_,Tv,_,Tw,_,Tx,_,kM,c0,c1,c2,c3,c4,c5,c6,c7,cm,tb,G4,_,G5,_,G6,_,G7,_,G8,_,G9,_,Hb,_,Hc,_,zr,_,CA,_,Hd,_,Kv,_,He,_,Hf,_,Hg,_,Hh,_,Hi,_,Hk,_,Hl,_,Hm,_,Ho,_,Hq,_,bp,cS,_,cT,_,cU,_,cV,_,cW,_,bW,_,cC,_,cq,_,bY,_,bH,_,bj,_,bu,_,cv,_,bB,_,bN,_,bz,_,bA,_,bO,_,a7,jB,bZ,bI,bJ,c8,fv,fw,fA,eI,et,nq,_,jC,_,nr,_⟩:={
  JX:=F_1,
  Pj:=b_1,
  Pk:=ki X G a_1,
  ix:=F_2,
  kO:=b_2,
  kP:=ki X G a_2,
  E7:=F_3,
  JY:=b_3,
  JZ:=ki X G a_3,
  iK:=F_4,
  j4:=b_4,
  j5:=ki X G a_4,
  nR:=F_5,
  r9:=b_5,
  sf:=ki X G a_5,
  nS:=F_6,
  yR:=b_6,
  yS:=ki X G a_6,
  sg:=F_7,
  wb:=b_7,
  wc:=ki X G a_7,
  lW:=F_8,
  qB:=b_8,
  qC:=ki X G a_8,
  lI:=F_9,
  qT:=b_9,
  qU:=ki X G a_9,
  eL:=ag5,
  ij:=aj8,
  il:=ki X G a_10,
  j6:=ag6,
  pT:=aj9,
  pU:=ki X G a_11,
  iL:=ag7,
  mM:=aka,
  mO:=ki X G a_12,
  lJ:=ag8,
  qV:=akb,
  qW:=ki X G a_13,
  lK:=ag9,
  qX:=akc,
  qY:=ki X G a_14,
  mP:=aha,
  sj:=akd,
  sv:=ki X G a_15,
  lb:=ahb,
  nU:=ake,
  nX:=ki X G a_16,
  xV:=ahc,
  DB:=akf,
  DC:=ki X G a_17,
  sx:=ahd,
  yT:=akg,
  yU:=ki X G a_18,
  sy:=ahe,
  we:=akh,
  wg:=ki X G a_19,
  gN:=ahf,
  iM:=aki,
  iN:=ki X G a_20,
  wj:=ahg,
  Bv:=akj,
  Bw:=ki X G a_21,
  wk:=ahh,
  Bx:=akk,
  By:=ki X G a_22,
  wm:=ahi,
  Bz:=akl,
  BA:=ki X G a_23,
  mz:=ahj,
  pV:=akm,
  pW:=ki X G a_24,
  mQ:=ahk,
  pX:=akn,
  pY:=ki X G a_25,
  E8:=ahl,
  LV:=ako,
  LW:=ki X G a_26,
  jk:=ahm,
  kQ:=akp,
  kR:=ki X G a_27,
  wo:=ahn,
  Ay:=akq,
  Az:=ki X G a_28,
  xW:=aho,
  DD:=akr,
  DE:=ki X G a_29,
  BB:=ahp,
  Gm:=aks,
  Gn:=ki X G a_30,
  tX:=ahq,
  xX:=akt,
  xY:=ki X G a_31,
  xZ:=ahr,
  DF:=aku,
  DG:=ki X G a_32,
  ya:=ahs,
  DH:=akv,
  DI:=ki X G a_33,
  E9:=aht,
  LX:=akw,
  LY:=ki X G a_34,
  BC:=ahu,
  Gp:=akx,
  Gr:=ki X G a_35,
  uZ:=ahv,
  BD:=aky,
  BE:=ki X G a_36,
  BF:=ahw,
  Gs:=akz,
  Gu:=ki X G a_37,
  wq:=ahx,
  BG:=akA,
  BH:=ki X G a_38,
  yb:=ahy,
  DJ:=akB,
  DK:=ki X G a_39,
  u3:=ahz,
  BI:=akC,
  BJ:=ki X G a_40,
  yc:=ahA,
  DL:=akD,
  DM:=ki X G a_41,
  BK:=ahB,
  Gv:=akE,
  Gw:=ki X G a_42,
  yd:=ahC,
  DN:=akF,
  DO:=ki X G a_43,
  AA:=alT X G z1,
  sC:=alT X G z2,
  Fb:=alT X G z3,
  nY:=alT X G z4,
  DQ:=alT X G z5,
  T5:=alT X G z6,
  Pl:=alT X G z7,
  BL:=alT X G z8,
  Pm:=alT X G z9,
  Fc:=alT X G z10,
  wu:=ki X G jq2q,
  cl:=λk hk=>match k,hk with | 0,_=>⟨pg0,hd0,po0,sa0⟩ | 1,_=>⟨pg1,hd1,po1,sa1⟩ | 2,_=>⟨pg2,hd2,po2,sa2⟩ | 3,_=>⟨pg3,hd3,po3,sa3⟩ | 4,_=>⟨pg4,hd4,po4,sa4⟩ | 5,_=>⟨pg5,hd5,po5,sa5⟩ | 6,_=>⟨pg6,hd6,po6,sa6⟩ | 7,_=>⟨pg7,hd7,po7,sa7⟩ | n+8,h=>absurd h (by omega),
  wy:=ki X G ac0,
  wz:=ki X G ac1,
  J0:=ki X G ac2,
  BM:=ki X G ac3,
  Fd:=ki X G ac4,
  Pn:=ki X G ac5,
  J1:=ki X G ac6,
  Fe:=ki X G ac7,
  wA:=ki X G atb,
  tb:=⟨est,nt,ltb,ktb⟩,
  rk:=λk hk=>match k,hk with | 0,_=>⟨_,rk0⟩ | 1,_=>⟨_,rk1⟩ | 2,_=>⟨_,rk2⟩ | 3,_=>⟨_,rk3⟩ | 4,_=>⟨_,rk4⟩ | 5,_=>⟨_,rk5⟩ | 6,_=>⟨_,rk6⟩ | 7,_=>⟨_,rk7⟩ | n+8,h=>absurd h (by omega),
  tk:=⟨⟨est,nt,ltb,ktb,A2 (xs:=[(ar "matter",tq0),(ar "change",tq1),(ar "mend",tq2),(ar "put off",tq3),(ar "close",tq4),(ar "lay",tq5),(ar "rest",tq6),(ar "point",tq7)]) kas⟩,by trivial,tlo⟩,
  ou:=λk hk=>match k,hk with | 0,_=>⟨jq4d,jq4O,jq4e⟩ | 1,_=>⟨jq4f,jq4Q,jq4g⟩ | 2,_=>⟨jq4h,jq4S,jq4i⟩ | 3,_=>⟨jq4j,jq4U,jq4k⟩ | 4,_=>⟨jq4l,jq4W,jq4m⟩ | 5,_=>⟨jq4n,jq4Y,jq4o⟩ | 6,_=>⟨jq4p,jq50,jq4q⟩ | 7,_=>⟨jq4r,jq52,jq4s⟩ | n+8,h=>absurd h (by omega),
  oy:=λk hk=>match k,hk with | 0,_=>ahD | 1,_=>ahE | 2,_=>ahF | 3,_=>ahG | 4,_=>ahH | 5,_=>ahI | 6,_=>ahJ | 7,_=>ahK | n+8,h=>absurd h (by omega),
  Po:=λk hk=>match k,hk with | 0,_=>⟨jq5b,jq3t,jq32⟩ | 1,_=>⟨jq5c,jq3t,jq32⟩ | 2,_=>⟨jq5d,jq3t,jq32⟩ | 3,_=>⟨jq5e,jq3t,jq32⟩ | 4,_=>⟨jq4t,jq5j,jq4u⟩ | 5,_=>⟨jq5f,jq3t,jq32⟩ | 6,_=>⟨jq5g,jq3t,jq32⟩ | 7,_=>⟨jq5h,jq3t,jq32⟩ | n+8,h=>absurd h (by omega),
  Pp:=λk hk=>match k,hk with | 0,_=>LB | 1,_=>LB | 2,_=>LB | 3,_=>LB | 4,_=>ahN | 5,_=>LB | 6,_=>LB | 7,_=>LB | n+8,h=>absurd h (by omega),
  J2:=λk hk=>match k,hk with | 0,_=>⟨jq4v,jq5o,jq4w⟩ | 1,_=>⟨jq4x,jq5q,jq4y⟩ | 2,_=>⟨jq4z,jq5s,jq4A⟩ | 3,_=>⟨jq4B,jq5u,jq4C⟩ | 4,_=>⟨jq5k,jq4K,jq4b⟩ | 5,_=>⟨jq5l,jq4K,jq4b⟩ | 6,_=>⟨jq5m,jq4K,jq4b⟩ | 7,_=>⟨jq4D,jq5w,jq4E⟩ | n+8,h=>absurd h (by omega),
  J3:=λk hk=>match k,hk with | 0,_=>ahP | 1,_=>ahQ | 2,_=>ahR | 3,_=>ahS | 4,_=>ZW | 5,_=>ZW | 6,_=>ZW | 7,_=>ahT | n+8,h=>absurd h (by omega),
  Pq:=λk hk=>match k,hk with | 0,_=>⟨jq53,jq31,jq2v⟩ | 1,_=>⟨jq54,jq31,jq2v⟩ | 2,_=>⟨jq55,jq31,jq2v⟩ | 3,_=>⟨jq56,jq31,jq2v⟩ | 4,_=>⟨jq57,jq31,jq2v⟩ | 5,_=>⟨jq58,jq31,jq2v⟩ | 6,_=>⟨jq59,jq31,jq2v⟩ | 7,_=>⟨jq5a,jq31,jq2v⟩ | n+8,h=>absurd h (by omega),
  Pr:=λ_ _=>akH,
  aaF:=UX,
  aaG:=UY,
  aaH:=UZ,
  aaI:=U0,
  aaJ:=U4,
  aaK:=U5,
  aaL:=U6,
  aaM:=U7,
  F_r:=ahL,
  F_n:=ahM,
  aaN:=U8,
  F_t:=ahO,
  aaO:=U9,
  aaP:=Va,
  aaQ:=Vb,
  aaR:=Vc,
  aaS:=Vd,
  aaT:=Ve,
  aaU:=Vf,
  aaV:=Vg,
  aaW:=Vh,
  aaX:=Vi,
  wB:=⟨mk0,jq4F,jq5z,kc0⟩,
  RU:=ahU,
  na0:=na0,
  wC:=⟨mk1,jq4G,jq5C,kc1⟩,
  RV:=ahV,
  na1:=na1,
  J4:=⟨mk2,jq4H,jq5F,kc2⟩,
  Wo:=ahW,
  na2:=na2,
  BN:=⟨mk3,jq4I,jq5I,kc3⟩,
  Wq:=ahX,
  na3:=na3,
  Ff:=⟨mk7,jq4J,jq5L,kc7⟩,
  Ws:=ahY,
  na7:=na7,
  mkn:=λk hk=>by
   rcases hk with rfl | rfl | rfl
   ·exact⟨mk4,ni4,kc4⟩
   ·exact⟨mk5,ni5,kc5⟩
   ·exact⟨mk6,ni6,kc6⟩,
  ye:=ki X G jq33,
  aq:=⟨jq34,jq35,jq36,jq37⟩,
  gO:=gO,
  gP:=gP,
  yf:=⟨jq38,jq22,jq25,jq39⟩,
  gQ:=gQ,
  gR:=gR,
  mR:=⟨jq26,jq28,jq1F⟩,
  gS:=gS,
  jm:=jm,
  sD:=⟨jq29,jq2b,jq1G⟩,
  gU:=gU,
  jn:=jn,
  sE:=⟨jq2c,jq2e,jq1H⟩,
  gW:=gW,
  jo:=jo,
  sF:=⟨jq2f,jq2h,jq1I⟩,
  d8:=d8,
  dC:=dC,
  fL:=⟨jq1A,jq1C,jq1d⟩,
  fQ:=fQ,
  fR:=fR,
  lL:=⟨jq1U,jq1W,jq1z⟩,
  e9:=e9,
  fb:=fb,
  j7:=⟨jq1N,jq1P,jq1q⟩,
  eE:=eE,
  dN:=dN,
  gC:=⟨jq1K,jq1M,jq1k⟩,
  dM:=dM,
  eF:=eF,
  lh:=⟨jq1n,jq1p,jqY⟩,
  bT:=bT,
  cz:=cz,
  fF:=⟨jqw,jqy,jqn⟩,
  cw:=cw,
  cx:=cx,
  eu:=⟨jqV,jqX,jqs⟩,
  fg:=fg,
  fh:=fh,
  j8:=⟨jq1R,jq1T,jq1r⟩,
  cX:=cX,
  cY:=cY,
  fM:=⟨jq1f,jq1h,jqH⟩,
  dS:=dS,
  eM:=eM,
  lR:=⟨jq1t,jq1v,jq15⟩,
  cJ:=cJ,
  dO:=dO,
  i6:=⟨jq17,jq19,jqz⟩,
  cK:=cK,
  dP:=dP,
  i7:=⟨jq1a,jq1c,jqA⟩,
  dU:=dU,
  dW:=dW,
  ip:=⟨jq1w,jq1y,jq16⟩,
  jqt:=jqt,
  jq1:=jq1,
  jq3:=jq3,
  jq2:=jq2,
  jq0:=jq0,
  jq4:=jq4,
  jqj:=jqj,
  jqb:=jqb,
  jq5:=jq5,
  jqk:=jqk,
  gX:=ki X G jq2j,
  LZ:=ki X G jq40,
  wD:=ki X G jq3x,
  u9:=ki X G jq2w,
  va:=ki X G jq2x,
  BO:=ki X G jq2y,
  DR:=ki X G jq3a,
  DS:=ki X G jq3b,
  DT:=ki X G jq3c,
  Gx:=ki X G jq3y,
  BP:=ki X G jq2z,
  iG:=⟨jq1Z,jq20,jq21⟩,
  Gy:=⟨⟨_,_,_,_,_,_,_,_,_,_,_,_,_,_,_,_,jq41,⟨⟨_,_,_,_,_,jq42,jq43⟩,jq44⟩,(jc.own jq6 (by rw[jq7];exact⟨⟨_,_,_,_,_,jq8,jq9⟩,jqa⟩) jc.base)⟩⟩,
  jqo:=jqo,
  jq1m:=jq1m,
  jq10:=jq10,
  jq11:=jq11,
  yV:=⟨⟨_,_,_,_,_,_,_,_,_,_,_,_,_,_,_,_,jq2A,⟨⟨_,_,_,_,_,jq2E,jq2F⟩,jq2G⟩,(jc.own jq6 (by rw[jq7];exact⟨⟨_,_,_,_,_,jq8,jq9⟩,jqa⟩) jc.base)⟩⟩,
  jqc:=jqc,
  jqu:=jqu,
  jqp:=jqp,
  jqB:=jqB,
  yW:=⟨⟨_,_,_,_,_,_,_,_,_,_,_,_,_,_,_,_,jq2B,⟨⟨_,_,_,_,_,jq2H,jq2I⟩,jq2J⟩,(jc.own jq6 (by rw[jq7];exact⟨⟨_,_,_,_,_,jq8,jq9⟩,jqa⟩) jc.base)⟩⟩,
  jqd:=jqd,
  jqv:=jqv,
  jqq:=jqq,
  jqr:=jqr,
  BQ:=⟨⟨_,_,_,_,_,_,_,_,_,_,_,_,_,_,_,_,jq3d,⟨⟨_,_,_,_,_,jq3g,jq3h⟩,jq3i⟩,(jc.own jq6 (by rw[jq7];exact⟨⟨_,_,_,_,_,jq8,jq9⟩,jqa⟩) jc.base)⟩⟩,
  jqg:=jqg,
  jq12:=jq12,
  jqI:=jqI,
  jqJ:=jqJ,
  BR:=⟨⟨_,_,_,_,_,_,_,_,_,_,_,_,_,_,_,_,jq3e,⟨⟨_,_,_,_,_,jq3j,jq3k⟩,jq3l⟩,(jc.own jq6 (by rw[jq7];exact⟨⟨_,_,_,_,_,jq8,jq9⟩,jqa⟩) jc.base)⟩⟩,
  jqh:=jqh,
  jq13:=jq13,
  jqK:=jqK,
  jqL:=jqL,
  BS:=⟨⟨_,_,_,_,_,_,_,_,_,_,_,_,_,_,_,_,jq3f,⟨⟨_,_,_,_,_,jq3m,jq3n⟩,jq3o⟩,(jc.own jq6 (by rw[jq7];exact⟨⟨_,_,_,_,_,jq8,jq9⟩,jqa⟩) jc.base)⟩⟩,
  jqi:=jqi,
  jq14:=jq14,
  jqM:=jqM,
  jqN:=jqN,
  yX:=⟨⟨_,_,_,_,_,_,_,_,_,_,_,_,_,_,_,_,jq2C,⟨⟨_,_,_,_,_,jq2K,jq2L⟩,jq2M⟩,(jc.own jq6 (by rw[jq7];exact⟨⟨_,_,_,_,_,jq8,jq9⟩,jqa⟩) jc.base)⟩⟩,
  jqe:=jqe,
  jqP:=jqP,
  jqC:=jqC,
  jqD:=jqD,
  mS:=mS,
  mT:=mT,
  pZ:=⟨⟨_,_,_,_,_,_,_,_,_,_,_,_,_,_,_,_,jq3z,(jc.own jq6 (by rw[jq7];exact⟨⟨_,_,_,_,_,jq8,jq9⟩,jqa⟩) jc.base),rfl,⟨⟨_,_,_,_,_,jq3B,jq3C⟩,jq3D⟩⟩,jq3J,jq3K,jq2Z⟩,
  DU:=⟨⟨jq3H,jq3p,jq3I⟩,jq2Z,jq3L⟩,
  jql:=jql,
  jqO:=jqO,
  jqQ:=jqQ,
  jqR:=jqR,
  jq:=jq,
  lX:=lX,
  nZ:=⟨⟨_,_,_,_,_,_,_,_,_,_,_,_,_,_,_,_,jq2D,(jc.own jq6 (by rw[jq7];exact⟨⟨_,_,_,_,_,jq8,jq9⟩,jqa⟩) jc.base),rfl,⟨⟨_,_,_,_,_,jq2N,jq2O⟩,jq2P⟩⟩,jq2U,jq2V,jq2p⟩,
  Gz:=⟨⟨jq2S,jq2t,jq2T⟩,jq2p,jq2W⟩,
  jqf:=jqf,
  jqS:=jqS,
  jqE:=jqE,
  jqF:=jqF,
  mU:=mU,
  qD:=qD,
  tY:=⟨⟨_,_,_,_,_,_,_,_,_,_,_,_,_,_,_,_,jq3A,(jc.own jq6 (by rw[jq7];exact⟨⟨_,_,_,_,_,jq8,jq9⟩,jqa⟩) jc.base),rfl,⟨⟨_,_,_,_,_,jq3E,jq3F⟩,jq3G⟩⟩,jq3O,jq3P,jq30⟩,
  MZ:=⟨⟨jq3M,jq3r,jq3N⟩,jq30,jq3Q⟩,
  jqm:=jqm,
  jq1e:=jq1e,
  jqT:=jqT,
  jqU:=jqU }
 subst hP;exact⟨fu "law" "law" (aS vX) (aO vX) (ah vX) .none UP UQ UR Ud QE US,λs v=>.of_eq rfl,λbase _ _=>Xb akG T⟩
theorem walk {l:PySem.W.OpenLaw}{q:rf}{loose:List Str}{XP:(Str->Option Value)->Heap->Prop}{YP:World->Heap->Prop}{d:DefRec}{K:Params->ba}(hn:l.most=some 63)(hdf:d.params.defaults=[])
  (hY:∀(w:World) (h:Heap),YP w h->(K w.params).In h)
  (F:∀(w:World) (mg:Str->Option Value) (fa:Addr) (h:Heap),(K w.params).In h->h.Ns ka mg->mg d.name=some (.ref fa) ->
   ∃fd:kj,(∀(s:Shared) (u:Value),BindsTo s fd ⟨[u],[]⟩ [("_law_script",u)])/\∀base:Heap,(K w.params).In base->base.Ns ka mg->a8 l.prog w (K w.params) mg base CX0 20 fa fd ["_law_script"] (Mu (K w.params))) :
  PySem.W.WalkO q loose XP YP l.row.toRowW d [] (λf vs=>PySem.call f vs) :=
 L2.RA (n:=63) (k:=20) (x:="_law_script") (CX:=λ_=>CX0) (sp:=λw=>Mu (K w.params)) hn (by decide) hdf ⟨rfl,by decide,by decide,rfl⟩ hY F (λ_ _ a ns hl _ hS=>⟨a,ns,rfl,hS,hl,λ_=>rfl⟩) λ_ _ _ _ _ z=>z
end My
structure PySem.W.Fast:Prop where(tw11235335959191920847 tw13011904368780183880 tw4607355157194742019 tw13405657573788864651 tw13220593371060168566 tw10786349819665714829 tw3093399187249456248 tw16381771672411881862 tw7865722906026927456 tw16324281900943957339 tw9386978243236316183 tw338797639351579096 tw16936406815522684882 tw13043484234117398193 tw6335305279350409149 tw5320909590455106876 tw655601981451998223 tw5738562667615951014 tw6813644248194839895 tw3166259427594556223 tw7876456127716508651 tw11117998960288462185 tw5916041792935114733 tw17481587955865897849 tw17553458983663958835 tw7246043469716666607 tw7440948110086676994 tw12920827200224798091 tw13386404113385165797 tw9856285317788675257 tw3130586658527245830 tw14612929827041339176 tw9703168540504675145 tw12958320109364781680 tw18222136971060523487 tw1800114301807889870 tw9873015096824793372 tw8021536925071914338 tw10202208267947570070 tw16109153598890295338 tw14126868800194038280 tw12875909698116675024 tw1143731811525573476 tw13938164493012161793 tw4827978526981290707 tw10994725759724597738 tw9683673984223287053 tw10095387476878933443 tw15483591147997273380 tw10643869452198781409 tw5076420610699464496 tw8358602137642248333 tw4283886879401944355 tw2528827010370203296 tw407659136373901044 tw14589662364430761382 tw16273553140964795876 tw2813563611353636669 tw2101563381416753127 tw226197536466960393 tw18297279255098057030 tw16414359851538400769 tw13909403542104722598 tw11537365995903290697 tw10555158291243092740 tw9658202932202981586 tw14863645839459945242 tw112939651062733483 tw8891221739906659963 tw16920593567776259307 tw18090345912637434852 tw833997483629154447 tw219428679118868857 tw7588610935122189539 tw9710137869489511249 tw5232438167140744966 tw13672145945718726413 tw15777268975444455534 tw10926317821329408093 tw11663651125897102165 tw12545488723264739990 tw7118783540939210189 tw13763170033272751077 tw1708391693082487988 tw5204363903772392761 tw16026303782158006823 tw12478330168128515734 tw4384524091047863516 tw4335259667601939978 tw14648181812357343623 tw2379855261953121533 tw4338455330684203782 tw9131686252545719035 tw3598728502336178392 tw9368576860771873890 tw13064784893171583919 tw16682545899652674002 tw14359293976781063896 tw7779561714359960814 tw5273736751772501473 tw16632980352353125131 tw9281713487377636064 tw7557331349086059360 tw6786998443824588595 tw18053106873561998478 tw13005956028503538562 tw7728524512467572637 tw18411066770223514281 tw10865376663910419191 tw4744385967360715287 tw10710677519758928180 tw9862343820435139896 tw11604142926593731962 tw2330891966526790708 tw580925424575386741 tw11616166030544774638 tw11303111508415783520 tw5116002792758284549 tw14554420936852118927 tw11593969750345589419 tw3084460639141640433 tw16864864614177950301 tw9855356808142942836 tw10421805803658330072 tw3792770196520156100 tw14347690690811864279 tw4001814808173120910 tw16482916698582679445 tw11902404384025258605 tw2131502451922418430 tw16509815666769875781 tw10710885180193803905 tw6877108704667085377 tw1161232197467397752 tw18001595644792610906 tw8235054379344257250 tw14411611991410382891 tw5683039829742439394 tw2251281194981310763 tw724681305089694527 tw3063261243272759010 tw7110794541709686582 tw15698427836590222434 tw4511289267054750513 tw4868283063391794357 tw10676922576034531307 tw8190065128014567989 tw14500377717372779019 tw8140334117952001108 tw12186134667226229146 tw4810795477245528325 tw8542008684864971895 tw14332246887892804278 tw15861469357629130150 tw7864202631484365400 tw13827704475295673170 tw1672082225287728278 tw10864277024018430322 tw14569573301545757844 tw10336209366712430931 tw14572767316690276558 tw2158073825783711587 tw6736385923200974924 tw992729997375538257 tw16571018547916801218 tw16959674777239644322 tw17531477420810501599 tw7545821644438235862 tw16820764199108071777 tw4652091390032658955 tw16112207927295182334 tw6558607205447095574 tw4804334303949099170 tw6855619100854958904 tw16185334340759031211 tw1828243655675526451 tw13621201945854446364 tw13337382105910292452 tw6468529154674110874 tw2265843818301075109 tw16893780901511435784 tw13070674479620046564 tw3279237181602273320 tw2122869904838881700 tw7489775614738849482 tw6948123057166566887 tw9228433463181226204 tw11359510159877484277 tw14717951821604808296 tw685204435819255602 tw18445255514544971926 tw8067895245844175154 tw11338362386338375642 tw14597589571954107043 tw6399819830710564788 tw17518215013109133125 tw3691620553465354509 tw1503676252482079672 tw6906258899930317886 tw2568120431460188760 tw997678519460081687 tw9226730689414338098 tw17315786026959041994 tw18282529710358251413 tw6615272207534954303 tw16391052407616458781 tw16650395481531191651 tw13982002806869466596 tw17947328504518071425 tw1579304274189429839 tw10257401846292059091 tw5595421218761348166 tw1355746703151673492 tw11636760892574014253 tw17122753614879128461 tw1725762447447458383 tw15315839812259014758 tw7102656661196520807 tw12970040567719763946 tw9766675519285686980 tw648654946470111973 tw2773744562513393809 tw15168645890505400522 tw15565147637524424798 tw18393040521919375196 tw3447839745276746708 tw2653435100451521401 tw13793337810687571863 tw1439599942049495931 tw7856872062432611104 tw6666682985711389598 tw4886663485306034432 tw15264534056346359546 tw9908916941307400053 tw17198070575679860727 tw6736860292830273499 tw4322464277035611094 tw858285905119775425 tw16280077779781441969 tw790474042371610935 tw961993913209472348 tw18247710614989163194 tw3316117728217299065 tw10456422491929920971 tw11286518250819666413 tw14301410862871658587 tw7404512205574860875 tw14273960898039413449 tw11023701998597754825 tw10062597165866912426 tw8599480492210911133 tw12107150700288489289 tw12580473674464447821 tw13221495875087171313 tw17251354903455969702 tw16957162253165520963 tw6170851725231597114 tw15382769075715442113 tw11501664088398754329 tw4303142344213876100 tw1319144764550838162 tw2745453115276998920 tw16016476753214656534 tw3907621511235278646 tw4205389435257061413 tw1959358281974309888 tw746651039943509494 tw16805905539131335451 tw4372025587737462869 tw12986864675099245028 tw1159888371554397111 tw11985487564606577016 tw16164820489293774569 tw927558451503117451 tw15023190918120392817 tw15104253467577314533 tw13664640899480501473 tw276519380489735500 tw2403652140852784244 tw3109896081368090555 tw12033033310920134605 tw11483824887632291972 tw17205862818142713524 tw17895127399627068316 tw12484678705235826466 tw14018564172458294541 tw12879600753013724595 tw17087465900749698036 tw2121749130671904433 tw784743109751466236 tw5465350387890950706 tw339489527051547998 tw12638039758048525334 tw13843687189438622034 tw3927136516031149218 tw9155498130771792999 tw11892133189551202089 tw1052929613550266442 tw9489331448063373995 tw5838897272013589890 tw2195203775683495691 tw12145500678529181299 tw7066412869363963022 tw2973493505392796597 tw7628084470564858214 tw6206745797085115360 tw9871208511557287960 tw16303912518918826780 tw538763761670030264 tw16156034317374803270 tw15046173728486924969 tw16696728390199768365 tw9157410084795934915 tw12186597579520210827 tw1453964733852447715 tw4130686123611281411 tw693420813035005715 tw2040272084731007277 tw13623295726116223244 tw2444405289346960909 tw482483084768580510 tw15879187211562009450 tw4300410165085548908 tw13084560579070234815 tw2595120255790675708 tw1493869980194637131 tw9461498802562607570 tw4075547141912958017 tw15361168738013854313 tw7839202671219849700 tw14683023523584583810 tw8801540557919995403 tw8058262267737185594 tw11044625042647729606 tw10994433525163738232 tw10464385365545464043 tw8486180401741715514 tw13604243783235689231 tw13941247542085401367 tw1425620046614233680 tw10855699947554727671 tw6183318929964696509 tw17525494053669516674 tw10442400143893235208 tw5272761077824263097 tw5410129019978605656 tw9067522357070387474 tw16105928628400892629 tw4204722968630882467 tw7226823933995068133 tw14204749900151804614 tw10634324020105713828 tw13249372897086629150 tw4824786283623062335 tw16204523161915555563 tw5317142514271606614 tw5462765152691508528 tw5627778878094780633 tw1097317549561217747 tw17606290399276894525 tw7908003889545412804 tw4488248766738949883 tw14178154445821049521 tw9463630431319543721 tw6579412540710326332 tw12457809331789351179 tw4600134671697731592 tw12123355152990972728 tw14885676881801813013 tw5327697790313325478 tw3574475852249751520 tw7719990174205640221 tw9543059357901009658 tw9788494823177586101 tw9892499052193271983 tw13501187204449314497 tw14307648814504412648 tw4918522986820284195 tw1342455291742723945 tw10828354443465038995 tw15556973876868751720 tw15927522004365600297 tw12958186929657757840 tw5936096533344557143 tw5645031509627605771 tw7762065619595575331 tw372581909341211801 tw13123673281779767327 tw17161556433434385782 tw1067208902091896589 tw5690662068073192123 tw16776522565093741454 tw1954974188168204172 tw3166602765518430717 tw13793453187484770071 tw6721311488399500420 tw14677388098608861229 tw4872762945665038812 tw10425412742357358011 tw7579026277720965695 tw13387170753979987191 tw9280110478385121655 tw15911846206332319589 tw1029008333968689457 tw13229139790063333119 tw18399628701412414166 tw8231224479477219827 tw15443092762514498571 tw6968446242799659398 tw10827385688969252151 tw4022111781398745657 tw13229157413872182625 tw16718513283046210046 tw1930009325566173480 tw5874744510267316378 tw14355552548695256160 tw1213247789285327813 tw13926914364395290342 tw7126669913584136983 tw14823366624149608686 tw12971494356805090019 tw8578705973163270068 tw9752505565261128272 tw7723311101688732150 tw14908006456186282860 tw5072345837507065951 tw214895447387163486 tw18101353988777805373 tw10570354129308086044 tw8485832705119786388 tw8379442230168997128 tw5221392526588006157 tw17025259848304611050 tw5312492471313634243 tw5934258952662472937 tw2696524466225207725 tw5387344404537516052 tw9025797604154343171 tw15255872703720699889 tw13609202017331736444 tw11491322654046214371 tw7892666284086966398 tw6870432083066128384 tw11651665909384570734 tw17273705310368448873 tw15580218700542937081 tw15473294699860940716 tw8330225738355572790 tw9961016893591700538 tw4689846512810822797 tw10621861360624433818 tw5362766826137638721 tw9451946031126106157 tw12936738135457282260 tw6738738943989097241 tw12134092193498809980 tw15066392829992024233 tw832559323050303054 tw2440541968574583888 tw18412819424255678316 tw13616863727257412590 tw13941615413800216776 tw3982014419154524556 tw10812354975875166478 tw4359695465517815425 tw1740249462225931284 tw3426805875724449344 tw8539903749920310950 tw3564735775030847489 tw11781073666720442752 tw7120375703024073580 tw9056193992432454470 tw7040000093961369788 tw14365270028797576867 tw2321737728850057923 tw5910151441708431540 tw3617474871500260820 tw8507937711331244534 tw15409376663795844651 tw2547122124780146713 tw12383688912246461705 tw6661980129221056582 tw3577853316773927793 tw15454182128918744469 tw10159425670845023561 tw6661924286451089673 tw1197219920187873646 tw4362993934817669981 tw6333075555619677681 tw805399689019393160 tw12384828901128532541 tw5357429326666485530 tw4637572139393360273 tw11082625238266929343 tw11772234773802256499 tw12746690224094551769 tw17753000762187516978 tw16934303685277170183 tw1604807379601559523 tw7311658628453393282 tw5716847523686847115 tw6957974545098716802 tw3683309467668540877 tw12963199471568463138 tw5689865874022301065 tw4051911702804165675 tw4590989014364307464 tw12344287868350451440 tw11309230643047949693 tw13449501985092221058 tw10240605148162438469 tw5888623648735505268 tw8086929263158502757 tw368093600827607085 tw4633757507445006113 tw3077410594668890445 tw8744509267143336941 tw4429040891326400500 tw7962756643087163638 tw5462488692521670491 tw5582706751371479414 tw3380104584290803863 tw1988059393423192386 tw10673800981522438996 tw4647155579463683342 tw11438602792459246051 tw1636580962464939158 tw17775250983928985154 tw16368577586599645098 tw2957091831401435964 tw10712610372735460720 tw6631891709952929870 tw1312908000743823008 tw10684250011466812096 tw12145024270728380347 tw17537477488046624040 tw10891491396000366225 tw7699686096939442129 tw1545734563993326809 tw17470650662060917951 tw17231325829173153507 tw13072734861441203450 tw13632806263936722379 tw4154881203388021906 tw2546503398677675198 tw13079216994135667525 tw6667586941095859121 tw12002073543115410217 tw14781560170713463071 tw13653082215447917474 tw17339163365060210085 tw8240982706893515752 tw12085474761206373913 tw16142837637662196171 tw1264333074078407934 tw15725981427963436841 tw6588304733869226666 tw7596580687046678251 tw15839378158373324948 tw13501707863538973925 tw14295789702181147722 tw12796214331460222368 tw17826328931981678852 tw8319453582678162333 tw7663230556718810998 tw12857577620530522064 tw1615518774409021601 tw13918646031481558397 tw4186063648126383637 tw525865682405513675 tw12934872775054211471 tw8395824012204334403 tw8656678263171126050 tw2806072124552765773 tw13612731826652281858 tw9546119665565724219 tw5860939595681094751 tw993654164303756119 tw18074649302511527315 tw6632849639347106947 tw16479606801773707957 tw12188166838313731542 tw13686950276548746515 tw11459099605670315671 tw1997014006565482996 tw10138444307264995832 tw1638998918192641899 tw10963279956473248982 tw7540531767474596418 tw6101515998982061421 tw13234290681632458551 tw9311584088410010918 tw10445216516328537518 tw6034432758341182266 tw8273541902641581629 tw15071525997746514685 tw15273490453789421744 tw16630841726372845726 tw4196062786133790712 tw10213659258397589609 tw9266343511569383596 tw14208553623473397110 tw9954099042019130028 tw4323117090598650456 tw8915320945849004646 tw9606139045180695435 tw8268771184369626212 tw12434558220805285315 tw15164277296390919544 tw4544347763939892312 tw14014887916631168652 tw1124163991077063325 tw4767364954374447854 tw12357926918316392018 tw6112529666437099743 tw14377698503237002699 tw9443732497057118988 tw1389164810196835486 tw3844106647623200320 tw17127555225497289325 tw5949920125303232223 tw18257590357946222849 tw9276623118971198997 tw11807560868075217416 tw2769247398375862810 tw11079404393870504707 tw12567416813887398664 tw4843427384550714663 tw8683816737480732402 tw14249035875026112815 tw18173808894527146218 tw8068955213980830717 tw3545833201566837372 tw2277026384381406013 tw3151157954146127109 tw3435851095889083283 tw5013081080988232725 tw14621470150388869020 tw7083089891365600254 tw17231398452966701915 tw17747352925826427797 tw3869658832173036397 tw9509547357619709602 tw4946266800038621936 tw14291304357964630622 tw4825893129539836579 tw18019194639511981655 tw16493433472263184743 tw5633178934032227453 tw240280990112781076 tw3269207289122271568 tw17071804624426344320 tw12043444663143508469 tw5952737774908402770 tw7767599959989444114 tw3797216926915099352 tw9321620970005636820 tw6770997667547984293 tw17581228619109268832 tw15050866656913408975 tw10309272651570983190 tw3602873190116383182 tw10069150253002169594 tw3954123406027457545 tw9911266438712892762 tw12747643652919099171:True)
open PySem PySem.W PyProof.Rows
set_option maxRecDepth 100000 in
set_option maxHeartbeats 0 in
theorem PySem.Challenge.cw_moot_k18_whole_just_those_in_order_holds : PySem.Challenge.rw_moot_k18_whole_just_those_in_order.Holds := by
 w_on;o_law;k_head;(case hw=>w_witness2)
 k_fill;refine My.walk (l:=PySem.Challenge.rw_moot_k18_whole_just_those_in_order) rfl rfl (λw h Y=>PySem.W.kIn_of Y) ?F
 case F =>
  intro w mg fa h KX G hmg;refine' My.all_mk KX G hmg rfl ?a_1 ?l_1 ?cc_1 ?kp_1 ?a_2 ?l_2 ?cc_2 ?kp_2 ?a_3 ?l_3 ?cc_3 ?kp_3 ?a_4 ?l_4 ?cc_4 ?kp_4 ?a_5 ?l_5 ?cc_5 ?kp_5 ?a_6 ?l_6 ?cc_6 ?kp_6 ?a_7 ?l_7 ?cc_7 ?kp_7 ?a_8 ?l_8 ?cc_8 ?kp_8 ?a_9 ?l_9 ?cc_9 ?kp_9 ?a_10 ?l_10 ?jq5M ?jq5N ?a_11 ?l_11 ?jq5O ?jq5P ?a_12 ?l_12 ?jq5Q ?jq5R ?a_13 ?l_13 ?jq5S ?jq5T ?a_14 ?l_14 ?jq5U ?jq5V ?a_15 ?l_15 ?jq5W ?jq5X ?a_16 ?l_16 ?jq5Y ?jq5Z ?a_17 ?l_17 ?jq60 ?jq61 ?a_18 ?l_18 ?jq62 ?jq63 ?a_19 ?l_19 ?jq64 ?jq65 ?a_20 ?l_20 ?jq66 ?jq67 ?a_21 ?l_21 ?jq68 ?jq69 ?a_22 ?l_22 ?jq6a ?jq6b ?a_23 ?l_23 ?jq6c ?jq6d ?a_24 ?l_24 ?jq6e ?jq6f ?a_25 ?l_25 ?jq6g ?jq6h ?a_26 ?l_26 ?jq6i ?jq6j ?a_27 ?l_27 ?jq6k ?jq6l ?a_28 ?l_28 ?jq6m ?jq6n ?a_29 ?l_29 ?jq6o ?jq6p ?a_30 ?l_30 ?jq6q ?jq6r ?a_31 ?l_31 ?jq6s ?jq6t ?a_32 ?l_32 ?jq6u ?jq6v ?a_33 ?l_33 ?jq6w ?jq6x ?a_34 ?l_34 ?jq6y ?jq6z ?a_35 ?l_35 ?jq6A ?jq6B ?a_36 ?l_36 ?jq6C ?jq6D ?a_37 ?l_37 ?jq6E ?jq6F ?a_38 ?l_38 ?jq6G ?jq6H ?a_39 ?l_39 ?jq6I ?jq6J ?a_40 ?l_40 ?jq6K ?jq6L ?a_41 ?l_41 ?jq6M ?jq6N ?a_42 ?l_42 ?jq6O ?jq6P ?a_43 ?l_43 ?jq6Q ?jq6R ?a_44 ?l_44 ?jq6S ?jq6T ?z1 ?z2 ?z3 ?z4 ?z5 ?z6 ?z7 ?z8 ?z9 ?z10 ?jq2q ?ac0 ?ac1 ?ac2 ?ac3 ?ac4 ?ac5 ?ac6 ?ac7 ?acm ?atb ?ltb ?ktb ?kas ?tlo ?rk0 ?rk1 ?rk2 ?rk3 ?rk4 ?rk5 ?rk6 ?rk7 ?pg0 ?hd0 ?po0 ?sa0 ?mk0 ?kc0 ?pg1 ?hd1 ?po1 ?sa1 ?mk1 ?kc1 ?pg2 ?hd2 ?po2 ?sa2 ?mk2 ?kc2 ?pg3 ?hd3 ?po3 ?sa3 ?mk3 ?kc3 ?pg4 ?hd4 ?po4 ?sa4 ?mk4 ?kc4 ?pg5 ?hd5 ?po5 ?sa5 ?mk5 ?kc5 ?pg6 ?hd6 ?po6 ?sa6 ?mk6 ?kc6 ?pg7 ?hd7 ?po7 ?sa7 ?mk7 ?kc7 ?jq4d ?jq6U ?jq4N ?jq4e ?jq4O ?jq4f ?jq6V ?jq4P ?jq4g ?jq4Q ?jq4h ?jq6W ?jq4R ?jq4i ?jq4S ?jq4j ?jq6X ?jq4T ?jq4k ?jq4U ?jq4l ?jq6Y ?jq4V ?jq4m ?jq4W ?jq4n ?jq6Z ?jq4X ?jq4o ?jq4Y ?jq4p ?jq70 ?jq4Z ?jq4q ?jq50 ?jq4r ?jq71 ?jq51 ?jq4s ?jq52 ?jq53 ?jq54 ?jq55 ?jq56 ?jq57 ?jq58 ?jq59 ?jq5a ?l_mr ?jq72 ?jq2v ?jq31 ?jq5b ?jq5c ?jq5d ?jq5e ?jq5f ?jq5g ?jq5h ?l_mn ?jq73 ?jq32 ?jq3t ?jq4t ?jq74 ?jq5i ?jq4u ?jq5j ?jq5k ?jq5l ?jq5m ?l_mt ?jq75 ?jq4b ?jq4K ?jq4v ?jq76 ?jq5n ?jq4w ?jq5o ?jq4x ?jq77 ?jq5p ?jq4y ?jq5q ?jq4z ?jq78 ?jq5r ?jq4A ?jq5s ?jq4B ?jq79 ?jq5t ?jq4C ?jq5u ?jq4D ?jq7a ?jq5v ?jq4E ?jq5w ?jq4F ?jq7b ?jq5x ?jq5y ?jq5z ?jq4G ?jq7c ?jq5A ?jq5B ?jq5C ?jq4H ?jq7d ?jq5D ?jq5E ?jq5F ?jq4I ?jq7e ?jq5G ?jq5H ?jq5I ?jq4J ?jq7f ?jq5J ?jq5K ?jq5L ?na0 ?na1 ?na2 ?na3 ?na7 ?ni4 ?ni5 ?ni6 ?jq33 ?jq34 ?jq35 ?jq36 ?jq37 ?jq38 ?jq39 ?jq22 ?jq2k ?jq23 ?jq24 ?jq25 ?jq26 ?jq2l ?jq27 ?jq1F ?jq28 ?jq29 ?jq2m ?jq2a ?jq1G ?jq2b ?jq2c ?jq2n ?jq2d ?jq1H ?jq2e ?jq2f ?jq2o ?jq2g ?jq1I ?jq2h ?jq1A ?jq1J ?jq1B ?jq1d ?jq1C ?jq1U ?jq2i ?jq1V ?jq1z ?jq1W ?jq1N ?jq1X ?jq1O ?jq1q ?jq1P ?jq1K ?jq1Q ?jq1L ?jq1k ?jq1M ?jq1n ?jq1s ?jq1o ?jqY ?jq1p ?jqw ?jqG ?jqx ?jqn ?jqy ?jqV ?jqZ ?jqW ?jqs ?jqX ?jq1R ?jq1Y ?jq1S ?jq1r ?jq1T ?jq1f ?jq1l ?jq1g ?jqH ?jq1h ?jq1t ?jq1D ?jq1u ?jq15 ?jq1v ?jq17 ?jq1i ?jq18 ?jqz ?jq19 ?jq1a ?jq1j ?jq1b ?jqA ?jq1c ?jq1w ?jq1E ?jq1x ?jq16 ?jq1y ?jqt ?jq1 ?jq3 ?jq2 ?jq0 ?jq4 ?jqj ?jqb ?jq5 ?jqk ?jq2j ?jq40 ?jq3x ?jq2w ?jq2x ?jq2y ?jq3a ?jq3b ?jq3c ?jq3y ?jq2z ?jq41 ?jq2A ?jq2B ?jq3d ?jq3e ?jq3f ?jq2C ?jq3z ?jq2D ?jq3A ?jq6 ?jq7 ?jq42 ?jq43 ?jq44 ?jq8 ?jq9 ?jqa ?jq2E ?jq2F ?jq2G ?jq2H ?jq2I ?jq2J ?jq3g ?jq3h ?jq3i ?jq3j ?jq3k ?jq3l ?jq3m ?jq3n ?jq3o ?jq2K ?jq2L ?jq2M ?jq3B ?jq3C ?jq3D ?jq2N ?jq2O ?jq2P ?jq3E ?jq3F ?jq3G ?jq1Z ?jq20 ?jq21 ?jq4L ?jq4c ?jq4M ?jqo ?jq1m ?jq10 ?jq11 ?jq3R ?jq3u ?jq3S ?jqc ?jqu ?jqp ?jqB ?jq3T ?jq3v ?jq3U ?jqd ?jqv ?jqq ?jqr ?jq45 ?jq3V ?jq46 ?jqg ?jq12 ?jqI ?jqJ ?jq47 ?jq3W ?jq48 ?jqh ?jq13 ?jqK ?jqL ?jq49 ?jq3X ?jq4a ?jqi ?jq14 ?jqM ?jqN ?jq3Y ?jq3w ?jq3Z ?jqe ?jqP ?jqC ?jqD ?jq3H ?jq3p ?jq3I ?jq3q ?jq2Q ?jq2R ?jq3J ?jq3K ?jq2Z ?jq3L ?jql ?jqO ?jqQ ?jqR ?jq2S ?jq2t ?jq2T ?jq2u ?jq2r ?jq2s ?jq2U ?jq2V ?jq2p ?jq2W ?jqf ?jqS ?jqE ?jqF ?jq3M ?jq3r ?jq3N ?jq3s ?jq2X ?jq2Y ?jq3O ?jq3P ?jq30 ?jq3Q ?jqm ?jq1e ?jqT ?jqU
  (case a_1 | l_1 | cc_1 | kp_1 | a_2 | l_2 | cc_2 | kp_2 | a_3 | l_3 | cc_3 | kp_3 | a_4 | l_4 | cc_4 | kp_4 | a_5 | l_5 | cc_5 | kp_5 | a_6 | l_6 | cc_6 | kp_6 | a_7 | l_7 | cc_7 | kp_7 | a_8 | l_8 | cc_8 | kp_8 | a_9 | l_9 | cc_9 | kp_9 | a_10 | l_10 | jq5M | jq5N | a_11 | l_11 | jq5O | jq5P | a_12 | l_12 | jq5Q | jq5R | a_13 | l_13 | jq5S | jq5T | a_14 | l_14 | jq5U | jq5V | a_15 | l_15 | jq5W | jq5X | a_16 | l_16 | jq5Y | jq5Z | a_17 | l_17 | jq60 | jq61 | a_18 | l_18 | jq62 | jq63 | a_19 | l_19 | jq64 | jq65 | a_20 | l_20 | jq66 | jq67 | a_21 | l_21 | jq68 | jq69 | a_22 | l_22 | jq6a | jq6b | a_23 | l_23 | jq6c | jq6d | a_24 | l_24 | jq6e | jq6f | a_25 | l_25 | jq6g | jq6h | a_26 | l_26 | jq6i | jq6j | a_27 | l_27 | jq6k | jq6l | a_28 | l_28 | jq6m | jq6n | a_29 | l_29 | jq6o | jq6p | a_30 | l_30 | jq6q | jq6r | a_31 | l_31 | jq6s | jq6t | a_32 | l_32 | jq6u | jq6v | a_33 | l_33 | jq6w | jq6x | a_34 | l_34 | jq6y | jq6z | a_35 | l_35 | jq6A | jq6B | a_36 | l_36 | jq6C | jq6D | a_37 | l_37 | jq6E | jq6F | a_38 | l_38 | jq6G | jq6H | a_39 | l_39 | jq6I | jq6J | a_40 | l_40 | jq6K | jq6L | a_41 | l_41 | jq6M | jq6N | a_42 | l_42 | jq6O | jq6P | a_43 | l_43 | jq6Q | jq6R | a_44 | l_44 | jq6S | jq6T | z1 | z2 | z3 | z4 | z5 | z6 | z7 | z8 | z9 | z10 | jq2q | ac0 | ac1 | ac2 | ac3 | ac4 | ac5 | ac6 | ac7 | acm | atb | ltb=>k_is)
  (case ktb=>k_keys)
  (case kas | tlo=>rfl)
  (case rk0 | rk1 | rk2 | rk3 | rk4 | rk5 | rk6 | rk7 | pg0 | hd0 | po0 | sa0 | mk0 | kc0 | pg1 | hd1 | po1 | sa1 | mk1 | kc1 | pg2 | hd2 | po2 | sa2 | mk2 | kc2 | pg3 | hd3 | po3 | sa3 | mk3 | kc3 | pg4 | hd4 | po4 | sa4 | mk4 | kc4 | pg5 | hd5 | po5 | sa5 | mk5 | kc5 | pg6 | hd6 | po6 | sa6 | mk6 | kc6 | pg7 | hd7 | po7 | sa7 | mk7 | kc7 | jq4d | jq6U | jq4N | jq4e | jq4O | jq4f | jq6V | jq4P | jq4g | jq4Q | jq4h | jq6W | jq4R | jq4i | jq4S | jq4j | jq6X | jq4T | jq4k | jq4U | jq4l | jq6Y | jq4V | jq4m | jq4W | jq4n | jq6Z | jq4X | jq4o | jq4Y | jq4p | jq70 | jq4Z | jq4q | jq50 | jq4r | jq71 | jq51 | jq4s | jq52 | jq53 | jq54 | jq55 | jq56 | jq57 | jq58 | jq59 | jq5a | l_mr | jq72 | jq2v | jq31 | jq5b | jq5c | jq5d | jq5e | jq5f | jq5g | jq5h | l_mn | jq73 | jq32 | jq3t | jq4t | jq74 | jq5i | jq4u | jq5j | jq5k | jq5l | jq5m | l_mt | jq75 | jq4b | jq4K | jq4v | jq76 | jq5n | jq4w | jq5o | jq4x | jq77 | jq5p | jq4y | jq5q | jq4z | jq78 | jq5r | jq4A | jq5s | jq4B | jq79 | jq5t | jq4C | jq5u | jq4D | jq7a | jq5v | jq4E | jq5w | jq4F | jq7b | jq5x | jq5y | jq5z | jq4G | jq7c | jq5A | jq5B | jq5C | jq4H | jq7d | jq5D | jq5E | jq5F | jq4I | jq7e | jq5G | jq5H | jq5I | jq4J | jq7f | jq5J | jq5K | jq5L | na0 | na1 | na2 | na3 | na7 | ni4 | ni5 | ni6 | jq33 | jq34 | jq35 | jq36 | jq37 | jq38 | jq39 | jq22 | jq2k | jq23 | jq24 | jq25 | jq26 | jq2l | jq27 | jq1F | jq28 | jq29 | jq2m | jq2a | jq1G | jq2b | jq2c | jq2n | jq2d | jq1H | jq2e | jq2f | jq2o | jq2g | jq1I | jq2h | jq1A | jq1J | jq1B | jq1d | jq1C | jq1U | jq2i | jq1V | jq1z | jq1W | jq1N | jq1X | jq1O | jq1q | jq1P | jq1K | jq1Q | jq1L | jq1k | jq1M | jq1n | jq1s | jq1o | jqY | jq1p | jqw | jqG | jqx | jqn | jqy | jqV | jqZ | jqW | jqs | jqX | jq1R | jq1Y | jq1S | jq1r | jq1T | jq1f | jq1l | jq1g | jqH | jq1h | jq1t | jq1D | jq1u | jq15 | jq1v | jq17 | jq1i | jq18 | jqz | jq19 | jq1a | jq1j | jq1b | jqA | jq1c | jq1w | jq1E | jq1x | jq16 | jq1y | jqt | jq1 | jq3 | jq2 | jq0 | jq4 | jqj | jqb | jq5 | jqk | jq2j | jq40 | jq3x | jq2w | jq2x | jq2y | jq3a | jq3b | jq3c | jq3y | jq2z | jq41 | jq2A | jq2B | jq3d | jq3e | jq3f | jq2C | jq3z | jq2D | jq3A | jq6=>k_is)
  (case jq7=>rfl)
  (case jq42=>k_is)
  (case jq43=>with_unfolding_all rfl)
  (case jq44 | jq8=>k_is)
  (case jq9=>with_unfolding_all rfl)
  (case jqa | jq2E=>k_is)
  (case jq2F=>with_unfolding_all rfl)
  (case jq2G | jq2H=>k_is)
  (case jq2I=>with_unfolding_all rfl)
  (case jq2J | jq3g=>k_is)
  (case jq3h=>with_unfolding_all rfl)
  (case jq3i | jq3j=>k_is)
  (case jq3k=>with_unfolding_all rfl)
  (case jq3l | jq3m=>k_is)
  (case jq3n=>with_unfolding_all rfl)
  (case jq3o | jq2K=>k_is)
  (case jq2L=>with_unfolding_all rfl)
  (case jq2M | jq3B=>k_is)
  (case jq3C=>with_unfolding_all rfl)
  (case jq3D | jq2N=>k_is)
  (case jq2O=>with_unfolding_all rfl)
  (case jq2P | jq3E=>k_is)
  (case jq3F=>with_unfolding_all rfl)
  (case jq3G | jq1Z | jq20 | jq21 | jq4L | jq4c | jq4M=>k_is)
  (case jqo | jq1m | jq10 | jq11=>kts_exm)
  (case jq3R | jq3u | jq3S=>k_is)
  (case jqc | jqu | jqp | jqB=>kts_exm)
  (case jq3T | jq3v | jq3U=>k_is)
  (case jqd | jqv | jqq | jqr=>kts_exm)
  (case jq45 | jq3V | jq46=>k_is)
  (case jqg | jq12 | jqI | jqJ=>kts_exm)
  (case jq47 | jq3W | jq48=>k_is)
  (case jqh | jq13 | jqK | jqL=>kts_exm)
  (case jq49 | jq3X | jq4a=>k_is)
  (case jqi | jq14 | jqM | jqN=>kts_exm)
  (case jq3Y | jq3w | jq3Z=>k_is)
  (case jqe | jqP | jqC | jqD=>kts_exm)
  (case jq3H | jq3p | jq3I | jq3q | jq2Q | jq2R | jq3J | jq3K | jq2Z | jq3L=>k_is)
  (case jql | jqO | jqQ | jqR=>kts_exm)
  (case jq2S | jq2t | jq2T | jq2u | jq2r | jq2s | jq2U | jq2V | jq2p | jq2W=>k_is)
  (case jqf | jqS | jqE | jqF=>kts_exm)
  (case jq3M | jq3r | jq3N | jq3s | jq2X | jq2Y | jq3O | jq3P | jq30 | jq3Q=>k_is)
  (case jqm | jq1e | jqT | jqU=>kts_exm)
