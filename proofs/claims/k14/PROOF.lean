import PyProof.Rows.All
import Wide.All
import OpenK.AllK
import Wide.FinOn
import Lean
import PyProof.EqAt
import PyProof.EqKinds
import PyProof.TupleCall
import PySem.Challenge.RW_moot_k14_refusals_apart
set_option Elab.async false
set_option linter.all false
set_option maxRecDepth 100000
set_option maxHeartbeats 4000000
local macro_rules|`(tactic|trivial)=>`(tactic|decide +kernel)
open PySem.Str renaming ofString → ar, join → ka, empty → adE
open PySem.W renaming kitOne → ba, findIn → bo, Frag → cb, keepIn → de, codeIn → eg, nsIn → fe, fnOf → fu, mg_of → kj, isFn → ko, exmOne → ads, mroIn → adu, hasDictIn → adA, emptyDict → adD, clsIn → adH, instObj → adI, plainGet → adJ, plainOver → adQ, mg_none_of → adT, makesIn → adU, methodCall_KW → ad6, InstAt → ael, looks_findIn → aey, specialIn → aez, callWith_K → aeK, findObj → aeL
open List renaming length_map → da, mem_cons_self → fi, mem_append_right → gp, mem_cons_of_mem → kf, map_cons → kg, length_append → kq, size_toArray → ku, length_cons → om, mem_singleton → ra, map_append → wa, getD_eq_getElem?_getD → adp, getElem?_eq_getElem → adv, length_singleton → ady, mem_of_getElem? → adF, range' → adG, getElem?_map → adK, getElem?_cons_zero → adP, lookup → adR, length_take → adW, cons_ne_nil → adX, eq_nil_or_concat → adY, concat_eq_append → adZ, getElem?_cons_succ → ad1, mem_append_left → ad2, map_nil → aec, length_filter_le → aeh, length_range' → aej, getLast?_concat → aem, append_assoc → aeo, length_set → aep, find?_cons → aeq, lookup_cons → aes, range → aev, append_nil → aex, mem_range'_1 → aeA, map_congr_left → aeD, length_drop → aeF, not_mem_nil → aeH, take_length → aeI, length_zip → aeM
open PySem renaming wpAny_bind → di, sizeLine → gn, mainGlobals → gr, FuncData → kb, wpAny_pure → kx, Program → ma, wpAny_mono → rf, starEach → si, Spec → adm, wpAny → adB, excClassObj → adL, wpAny_holding → adV, bootBuiltins → ad0, wpAny_standAt → ad7, DictEntry → aea, mem_of_lookup → aef, compareOp → aei, sysModules → aeu, ClassData → aeG
open PySem.Heap renaming get?_push_of_some → gc, lt_size → ky, get?_push_size → tm, get?_update_other → adS, get?_update_self → aeg, size_push → aeE
open Nat renaming le_of_ble_eq_true → kc, le_refl → km, le_trans → me, ne_of_lt → tu, lt_of_lt_of_le → ado, le_succ_of_le → adx, zero_le → ad8, le_succ → ad9
open Bool renaming false_ne_true → ki, and_eq_true → adO
open Sum renaming inl → kr
open PySem.Value renaming ref → sr, none → aet
open Or renaming inl → wt
open PySem.PyData renaming strOk → Lk, canLayAll0 → adC, str → ad3, canLay0 → ad4, depthAll → ad5, depth → aed, eqvAll → aer, eqv → aeC
open Option.some renaming inj → adq
open PySem.F renaming plainAttrs_list → adt, slot_list_append → adM, type_list_append → adN
open False renaming elim → adw
open Ne renaming symm → adz
open PySem.Obj renaming mapFields → aeb
open Array renaming length_toList → aee
open PySem.NameKind renaming free → aek
open PySem.Builtin.Str renaming occurrences → aen
open PySem.Builtin.Slice renaming slicePlaces → aew
open PySem.Builtin.Tuple renaming tupleExact → aeB
open True renaming intro → aeJ
namespace L2
open PySem PySem.Spec PyProof.Rows
abbrev Key:=Sum Int Str
def yy:Key->Value->Bool
 | .inl k,v=>Value.isInt k v
 | .inr x,v=>Value.isStrOf x v
def aaI (w:World):Key->Int
 | .inl k=>hashInt k
 | .inr x=>hashStr w x
theorem eh:∀ {k:Key} {v:Value},yy k v=true->(∃i t,k=kr i/\v=Value.int i t)\/(∃x t,k=Sum.inr x/\v=Value.str x t)
 | .inl i,v,h=>by
  obtain⟨t,e⟩:=Value.isInt_shape (k:=i) (v:=v) h;exact .inl ⟨i,t,rfl,e⟩
 | .inr x,v,h=>by
  obtain⟨t,e⟩:=Value.isStrOf_shape (x:=x) (v:=v) h;exact .inr ⟨x,t,rfl,e⟩
theorem IU (i:Int)(t:Tok):yy (.inl i) (.int i t)=true:=by simp[yy,Value.isInt]
theorem IV (x:Str)(t:Tok):yy (.inr x) (.str x t)=true:=by simp[yy,Value.isStrOf]
theorem Qs (a b:Int):decide ((kr a:Key)=kr b)=(a == b):=by
 by_cases e:a=b
 ·subst e;simp
 ·have h:¬(kr a:Key)=kr b:=λq=>e (Sum.inl.inj q)
  rw[decide_eq_false h];exact(beq_eq_false_iff_ne.mpr e).symm
theorem Qt (a b:Str):decide ((Sum.inr a:Key)=Sum.inr b)=decide (a=b):=by
 by_cases e:a=b
 ·subst e;simp
 ·have h:¬(Sum.inr a:Key)=Sum.inr b:=λq=>e (Sum.inr.inj q)
  rw[decide_eq_false h,decide_eq_false e]
theorem Qu (a:Int)(b:Str):decide ((kr a:Key)=Sum.inr b)=false:=decide_eq_false (λq=>nomatch q)
theorem Qv (a:Str)(b:Int):decide ((Sum.inr a:Key)=kr b)=false:=decide_eq_false (λq=>nomatch q)
def eI (prog:ma)(w:World):PySem.KeyKind prog w Key where
 is:=yy
 hash:=aaI w
 inj:=λv a b ha hb=>by
  rcases eh ha with ⟨i,t,rfl,rfl⟩ | ⟨x,t,rfl,rfl⟩
  ·rcases eh hb with ⟨j,u,rfl,e⟩ | ⟨y,u,rfl,e⟩
   ·injection e with e1 _;rw[e1]
   ·exact nomatch e
  ·rcases eh hb with ⟨j,u,rfl,e⟩ | ⟨y,u,rfl,e⟩
   ·exact nomatch e
   ·injection e with e1 _;rw[e1]
 byValue:=λk v h=>by
  rcases eh h with ⟨i,t,rfl,rfl⟩ | ⟨x,t,rfl,rfl⟩ <;> rfl
 pyHash:=λhv h=>by
  rcases eh hv with ⟨i,t,rfl,rfl⟩ | ⟨x,t,rfl,rfl⟩
  ·exact wpAny_pyHash_int h
  ·exact wpAny_pyHash_str h
 eqBool:=λhu hv h=>by
  rcases eh hu with ⟨i,t,rfl,rfl⟩ | ⟨x,t,rfl,rfl⟩
  ·rcases eh hv with ⟨j,u,rfl,rfl⟩ | ⟨y,u,rfl,rfl⟩
   ·rw[Qs]at h;exact wpAny_eqBool_int h
   ·rw[Qu]at h;exact SeqAt.EqAt.int_str i t y u _ _ _ _ h
  ·rcases eh hv with ⟨j,u,rfl,rfl⟩ | ⟨y,u,rfl,rfl⟩
   ·rw[Qv]at h;exact SeqAt.EqAt.str_int x t j u _ _ _ _ h
   ·rw[Qt]at h;exact wpAny_eqBool_str h
 «strs»:=λk x t v h=>by
  rcases eh h with ⟨i,u,rfl,e⟩ | ⟨y,u,rfl,e⟩
  ·exact nomatch e
  ·injection e with e1 _
   subst e1;cases v <;> rfl
theorem CG (prog:ma)(w:World)(i:Int)(t:Tok):(eI prog w).is (.inl i) (.int i t)=true:=IU i t
theorem CH (prog:ma)(w:World)(x:Str)(t:Tok):(eI prog w).is (.inr x) (.str x t)=true:=IV x t
inductive V where
 |non | bl (b:Bool) | int (i:Int) | str (x:Str) | byt (b:Array UInt8) | flt (b:UInt64) | ref (a:Addr) | ty (n:String)
 deriving DecidableEq
def RelV:V->Value->Prop
 | .non,u=>u=aet
 | .bl b,u=>u=Value.bool b
 | .int i,u=>∃t,u=Value.int i t
 | .str x,u=>∃t,u=Value.str x t
 | .byt b,u=>∃t,u=Value.bytes b t
 | .flt b,u=>∃t,u=Value.float b t
 | .ref a,u=>u=sr a
 | .ty n,u=>u=Value.type n
abbrev Vals:List V->List Value->Prop:=Paired RelV
theorem Vals.length {xs:List V}{us:List Value}(r:Vals xs us):xs.length=us.length:=Paired.length r
theorem Vals.get:∀ {xs:List V} {us:List Value} {i:Nat} {x:V},Vals xs us->xs[i]?=some x->∃u,us[i]?=some u/\RelV x u
 |_,_,_,_,.nil,e=>by simp at e
 |_,_,0,_,.cons r _,e=>by simp at e;subst e;exact⟨_,rfl,r⟩
 |_,_,i+1,x,.cons _ t,e=>by
  obtain⟨u,h1,h2⟩:=Vals.get (i:=i) (x:=x) t (by simpa using e)
  exact⟨u,by simpa using h1,h2⟩
theorem Vals.set {x:V}{u:Value}(r:RelV x u):∀ {xs:List V} {us:List Value} (i:Nat),Vals xs us->Vals (xs.set i x) (us.set i u)
 |_,_,_,.nil=>.nil
 |_,_,0,.cons _ t=>.cons r t
 |_,_,i+1,.cons q t=>.cons q (Vals.set r i t)
theorem Vals.append:∀ {xs ys:List V} {us ws:List Value},Vals xs us->Vals ys ws->Vals (xs++ys) (us++ws)
 |_,_,_,_,.nil,s=>s
 |_,_,_,_,.cons r t,s=>.cons r (Vals.append t s)
theorem Vals.take:∀ {xs:List V} {us:List Value} (n:Nat),Vals xs us->Vals (xs.take n) (us.take n)
 |_,_,0,_=>.nil
 |_,_,_+1,.nil=>.nil
 |_,_,n+1,.cons r t=>.cons r (Vals.take n t)
theorem Vals.drop:∀ {xs:List V} {us:List Value} (n:Nat),Vals xs us->Vals (xs.drop n) (us.drop n)
 |_,_,0,r=>r
 |_,_,_+1,.nil=>.nil
 |_,_,n+1,.cons _ t=>Vals.drop n t
theorem Vals.none_of:∀ {xs:List V} {us:List Value} {i:Nat},Vals xs us->xs[i]?=none->us[i]?=none:=λ{xs us i} r e=>by
 have h1:=r.length;have h2:xs.length<=i:=List.getElem?_eq_none_iff.mp e;exact List.getElem?_eq_none_iff.mpr (by omega)
def oz:Option V->Option Value->Prop
 |some v,some u=>RelV v u
 |none,none=>True
 |_,_=>False
def KV {κ:Type}:List (κ×V)->List (κ×Value)->Prop:=Paired λ(p:κ×V) (q:κ×Value)=>p.1=q.1/\RelV p.2 q.2
def kV:Key->V
 | .inl i=>.int i
 | .inr x=>.str x
inductive HO where
 |lst (xs:List V)
 |tup (xs:List V)
 |dK (kvs:List (Key×V)) | dT (kvs:List (List Key×V))
 |set (S:Int->Bool) (n:Nat)
 |ins (C dx:Addr) (fs:List (Str×V))
 |own (x:Addr)
 |xd (fs:List (Str×V))
 |met (f x:Addr)
 |rng (lo hi:Int)
 |frz (o:Obj) (u:HO)
 |tbl (ps:Array Value)
 |ext (φ:Heap->Prop)
abbrev Hp:=Addr->Option HO
def upd (H:Hp)(a:Addr)(o:HO):Hp:=λb=>if b=a then some o else H b
theorem ah {H:Hp}{a:Addr}{o:HO}:upd H a o a=some o:=by unfold upd;rw[if_pos rfl]
theorem aw {H:Hp}{a b:Addr}{o:HO}(h:b≠a):upd H a o b=H b:=by unfold upd;rw[if_neg h]
theorem ny {H:Hp}{a:Addr}{o u:HO}:upd (upd H a o) a u=upd H a u:=by
 funext b;unfold upd;split <;> rfl
theorem VC {H:Hp}{a b:Addr}{o u:HO}(h:H a=some o)(h':H b=some u)(d:o≠u):a≠b:=by
 intro e;subst e;rw[h]at h';exact d (adq h')
theorem a6 {H:Hp}{a b:Addr}{o:HO}(h:H a=some o)(h':H b=none):a≠b:=by
 intro e;subst e;rw[h]at h';cases h'
section
variable(P:ma)(w:World)
def fq (H:Hp)(h:Heap)(a:Addr):HO->Prop
 | .lst xs=>xs.length<=gn/\∃(its:List Value) (n:Nat),Vals xs its/\h.get? a=some { cls:=.type "list",data:=.seq its.toArray n }
 | .tup xs=>xs.length<=gn/\∃its:List Value,Vals xs its/\IsTup h a its.toArray
 | .dK kvs=>kvs.length<=gn/\(a == aeu)=false/\∃vs,KV kvs vs/\h.DictOf (eI P w) a vs
 | .dT kvs=>kvs.length<=gn/\(a == aeu)=false/\∃xs:List (List Key×Addr×Value),
   Paired (λ(p:List Key×V) (q:List Key×Addr×Value)=>p.1=q.1/\H q.2.1=some (.tup (p.1.map kV))/\RelV p.2 q.2.2) kvs xs /\
   ∃o es ep,h.get? a=some o/\o.ExactDict/\o.data=.dict es ep/\es.toList=xs.map (entryOfKey (tupleKind (eI P w)))/\(xs.map (·.1)).Nodup
 | .set S n=>h.SetOf (intKind P w) a S n
 | .ins C dx fs=>H dx=some (.own a)/\fs.length<=1000/\dx≠a/\h.get? a=some (adI C dx) /\
   ∃mA,h.Ns1 dx mA/\(∀f,oz (fs.lookup f) (mA f))/\PySem.Within mA (fs.map (·.1))
 | .own _=>∃o,h.get? a=some o
 | .xd fs=>∃mA,h.Ns1 a mA/\∀f,oz (fs.lookup f) (mA f)
 | .rng lo hi=>∃t u v,h.get? a=some { cls:=.type "range",data:=.fields #[.int lo t,.int hi u,.int 1 v] }
 | .frz o u=>h.get? a=some o/\fq H h a u
 | .tbl ps=>h.get? a=some { cls:=.none,data:=.fields ps }
 | .met f x=>h.get? a=some (PySem.W.methodObj (.ref f) (.ref x))
 | .ext φ=>φ h/\(∃o,h.get? a=some o)/\∀h1 h2:Heap,φ h1->(∀o,h1.get? a=some o->h2.get? a=some o)->φ h2
def HOk (H:Hp)(h:Heap):Prop:=∀a o,H a=some o->fq P w H h a o
end
section
variable{P:ma}{w:World}{H H':Hp}{h h':Heap}{a:Addr}{o:HO}
theorem fq.lt (x:fq P w H h a o):a < h.objs.size:=by
 cases o with
 |lst xs=>obtain⟨_,_,_,_,e⟩:=x;exact ky e
 |tup xs=>obtain⟨_,_,_,p⟩:=x;exact p.lt
 |dK kvs=>obtain⟨_,_,_,_,o,_,_,e,_⟩:=x;exact ky e
 |dT kvs=>obtain⟨_,_,_,_,o,_,_,e,_⟩:=x;exact ky e
 |set S n=>obtain⟨o,_,_,_,e,_⟩:=x;exact ky e
 |ins C dx fs=>obtain⟨_,_,_,e,_⟩:=x;exact ky e
 |own y=>obtain⟨_,e⟩:=x;exact ky e
 |xd fs=>obtain⟨_,⟨_,_,_,e,_⟩,_⟩:=x;exact ky e
 |rng lo hi=>obtain⟨_,_,_,e⟩:=x;exact ky e
 |frz ob u=>obtain⟨e,_⟩:=x;exact ky e
 |tbl ps=>exact ky (show h.get? a=some _ from x)
 |met f y=>exact ky (show h.get? a=some _ from x)
 |ext φ=>obtain⟨_,⟨_,e⟩,_⟩:=x;exact ky e
theorem Paired.Qw {α β:Type}{F G:α->β->Prop}:∀ {l₁:List α} {l₂:List β},Paired F l₁ l₂->(∀a b,F a b->G a b)->Paired G l₁ l₂
 |_,_,.nil,_=>.nil
 |_,_,.cons r t,f=>.cons (f _ _ r) (Paired.Qw t f)
theorem fq.Ab (x:fq P w H h a o)(k:∀b u,(b=a\/H b=some (.own a))->h.get? b=some u->h'.get? b=some u)
  (ho:∀b,H b=some (.own a)->H' b=some (.own a)) (ht:∀b xs,H b=some (.tup xs)->H' b=some (.tup xs)):fq P w H' h' a o:=by
 induction o with
 |lst xs=>obtain⟨z,its,n,r,e⟩:=x;exact⟨z,its,n,r,k _ _ (.inl rfl) e⟩
 |tup xs=>obtain⟨z,its,r,ob,e,c⟩:=x;exact⟨z,its,r,ob,k _ _ (.inl rfl) e,c⟩
 |dK kvs=>obtain⟨z,y,vs,r,ob,es,ep,e,c⟩:=x;exact⟨z,y,vs,r,ob,es,ep,k _ _ (.inl rfl) e,c⟩
 |dT kvs =>
  obtain⟨z,y,xs,r,ob,es,ep,e,c⟩:=x;exact⟨z,y,xs,Paired.Qw r λp q z=>⟨z.1,ht _ _ z.2.1,z.2.2⟩,ob,es,ep,k _ _ (.inl rfl) e,c⟩
 |set S n=>obtain⟨ob,es,ep,t,e,c⟩:=x;exact⟨ob,es,ep,t,k _ _ (.inl rfl) e,c⟩
 |ins C dx fs =>
  obtain⟨d,z,ne,e,mA,⟨od,es,ep,e2,c⟩,r⟩:=x;exact⟨ho _ d,z,ne,k _ _ (.inl rfl) e,mA,⟨od,es,ep,k _ _ (.inr d) e2,c⟩,r⟩
 |own y=>obtain⟨ob,e⟩:=x;exact⟨ob,k _ _ (.inl rfl) e⟩
 |xd fs=>obtain⟨mA,⟨od,es,ep,e,c⟩,r⟩:=x;exact⟨mA,⟨od,es,ep,k _ _ (.inl rfl) e,c⟩,r⟩
 |rng lo hi=>obtain⟨t,u,v,e⟩:=x;exact⟨t,u,v,k _ _ (.inl rfl) e⟩
 |frz ob u ih=>obtain⟨e,q⟩:=x;exact⟨k _ _ (.inl rfl) e,ih q⟩
 |tbl ps =>
  have e:h.get? a=some { cls:=.none,data:=.fields ps }:=x;show h'.get? a=some { cls:=.none,data:=.fields ps };exact k a _ (.inl rfl) e
 |met f y =>
  have e:h.get? a=some (PySem.W.methodObj (.ref f) (.ref y)):=x;show h'.get? a=some (PySem.W.methodObj (.ref f) (.ref y));exact k a _ (.inl rfl) e
 |ext φ=>obtain⟨p,⟨o,e⟩,st⟩:=x;exact⟨st _ _ p λo q=>k _ _ (.inl rfl) q,⟨o,k _ _ (.inl rfl) e⟩,st⟩
theorem HOk.lt (x:HOk P w H h)(e:H a=some o):a < h.objs.size:=(x a o e).lt
theorem HOk.fresh (x:HOk P w H h)(e:h.objs.size<=a):H a=none:=by
 cases q:H a with
 |none=>rfl
 |some u=>exact absurd (ado (x.lt q) e) (Nat.lt_irrefl _)
theorem HOk.kept (x:HOk P w H h)(k:∀b u,h.get? b=some u->h'.get? b=some u):HOk P w H h':=λa o e =>
 (x a o e).Ab (λb u _ q=>k b u q) (λ_ q=>q) λ_ _ q=>q
theorem HOk.laid (x:HOk P w H h)(k:∀b u,h.get? b=some u->h'.get? b=some u)(hp:h.objs.size<=a)(new:fq P w (upd H a o) h' a o):HOk P w (upd H a o) h':=λb u e=>by
 have hn:=x.fresh hp
 by_cases hb:b=a
 ·subst hb;rw[ah]at e;cases e;exact new
 ·rw[aw hb]at e;exact(x b u e).Ab (λc v _ q=>k c v q) (λc q=>by rw[aw (a6 q hn)];exact q) λc xs q=>by rw[aw (a6 q hn)];exact q
end
def Rd (H:Hp)(a:Addr)(u:HO):Prop:=H a=some u\/∃o,H a=some (.frz o u)
theorem Rd.of {H:Hp}{a:Addr}{u:HO}(h:H a=some u):Rd H a u:=.inl h
theorem Rd.ok {P:ma}{w:World}{H:Hp}{h:Heap}{a:Addr}{u:HO}(r:Rd H a u)(x:HOk P w H h):fq P w H h a u:=by
 rcases r with r | ⟨o,r⟩
 ·exact x a u r
 ·obtain⟨_,q⟩:=x a _ r;exact q
def Mut:Option HO->Prop
 |some (.lst _)=>True
 |some (.dK _)=>True
 |some (.dT _)=>True
 |some (.set _ _)=>True
 |some (.ins _ _ _)=>True
 |some (.ext _)=>True
 |_=>False
section
variable{P:ma}{w:World}{H:Hp}{h h':Heap}{x e:Addr}{o':HO}
theorem HOk.write (ok:HOk P w H h)(mu:Mut (H x))(he:e=x\/H e=some (.own x))(k:∀b u,b≠e->h.get? b=some u->h'.get? b=some u)(heo:∃u,h'.get? e=some u)
  (new:fq P w (upd H x o') h' x o'):HOk P w (upd H x o') h':=λb u q=>by
 have VD:∀c y,H c=some (.own y)->c≠x:=λc y r z=>by subst z;rw[r]at mu;exact mu
 have aaJ:∀c xs,H c=some (.tup xs)->c≠x:=λc xs r z=>by subst z;rw[r]at mu;exact mu
 by_cases hb:b=x
 ·subst hb;rw[ah]at q;cases q;exact new
 ·rw[aw hb]at q
  by_cases hbe:b=e
  ·have q':H b=some (.own x):=by
    rcases he with z | z
    ·exact absurd (hbe.trans z) hb
    ·rw[hbe];exact z
   rw[q]at q';cases q';obtain⟨v,hv⟩:=heo;exact⟨v,by rw[hbe];exact hv⟩
  ·refine(ok b u q).Ab (λc v hc r=>k c v ?_ r) (λc r=>by rw[aw (VD c b r)];exact r) λc xs r=>by rw[aw (aaJ c xs r)];exact r
   rcases hc with rfl | hc
   ·exact hbe
   ·rintro rfl;rcases he with z | z
    ·exact VD c b hc z
    ·rw[hc]at z;cases z;exact hb rfl
end
structure Un (fs ex:List Addr)(H H':Hp)(h h':Heap):Prop where
 keep:∀b o,h.get? b=some o->H b=none->b∉fs->b∉ex->h'.get? b=some o
 slot:∀b o,h.get? b=some o->H b=none->b∈fs->b∉ex->∃sl,h'.get? b=some { o with slots:=sl }
 free:∀b o,h.get? b=some o->H b=none->b∉ex->H' b=none
 there:∀b o,h.get? b=some o->b∉ex->∃o',h'.get? b=some o'
 uk:∀b xs,H b=some (.tup xs)->H' b=some (.tup xs)
 tw:∀b o u,H b=some (.frz o u)->H' b=some (.frz o u)
 um:∀b ps,H b=some (.tbl ps)->∃more,H' b=some (.tbl (ps++more))
section
variable{fs fs' ex ex':List Addr}{H H1 H2:Hp}{h h1 h2 h':Heap}{a x e:Addr}{o:HO}
theorem Un.any (u:Un fs ex H H1 h h1){b:Addr}{ob:Obj}(q:h.get? b=some ob)(n:H b=none)(hx:b∉ex):∃sl,h1.get? b=some { ob with slots:=sl }:=by
 by_cases hb:b∈fs
 ·exact u.slot b ob q n hb hx
 ·exact⟨ob.slots,u.keep b ob q n hb hx⟩
theorem Un.trans (a:Un fs ex H H1 h h1)(b:Un fs ex H1 H2 h1 h2):Un fs ex H H2 h h2 where
 keep:=λc ob q n hc hx=>b.keep c ob (a.keep c ob q n hc hx) (a.free c ob q n hx) hc hx
 slot:=λc ob q n hc hx=>by
  obtain⟨sl,e1⟩:=a.slot c ob q n hc hx;obtain⟨sl',e2⟩:=b.slot c _ e1 (a.free c ob q n hx) hc hx;exact⟨sl',e2⟩
 free:=λc ob q n hx=>by
  obtain⟨o',e1⟩:=a.there c ob q hx;exact b.free c o' e1 (a.free c ob q n hx) hx
 there:=λc ob q hx=>by
  obtain⟨o',e1⟩:=a.there c ob q hx;exact b.there c o' e1 hx
 uk:=λc xs q=>b.uk c xs (a.uk c xs q)
 tw:=λc ob xs q=>b.tw c ob xs (a.tw c ob xs q)
 um:=λc ps q=>by
  obtain⟨m1,e1⟩:=a.um c ps q;obtain⟨m2,e2⟩:=b.um c _ e1;exact⟨m1++m2,by rw[e2,Array.append_assoc]⟩
theorem Un.kept (k:∀b u,h.get? b=some u->h'.get? b=some u):Un fs ex H H h h' :=
 ⟨λb ob q _ _ _=>k b ob q,λb ob q _ _ _=>⟨ob.slots,k b ob q⟩,λ_ _ _ n _=>n,λb ob q _=>⟨ob,k b ob q⟩,λ_ _ q=>q,λ_ _ _ q=>q,λ_ ps q=>⟨#[],by rw[q];simp⟩⟩
theorem Un.refl:Un fs ex H H h h:=Un.kept λ_ _ q=>q
theorem Un.laid (k:∀b u,h.get? b=some u->h'.get? b=some u)(hp:h.objs.size<=a)(hn:H a=none):Un fs ex H (upd H a o) h h' where
 keep:=λb u q _ _ _=>k b u q
 slot:=λb u q _ _ _=>⟨u.slots,k b u q⟩
 free:=λb u q n _=>by rw[aw (tu (ado (ky q) hp))];exact n
 there:=λb u q _=>⟨u,k b u q⟩
 uk:=λb xs q=>by rw[aw (a6 q hn)];exact q
 tw:=λb u xs q=>by rw[aw (a6 q hn)];exact q
 um:=λb ps q=>⟨#[],by rw[aw (a6 q hn),q];simp⟩
theorem Un.write (mu:Mut (H x))(he:e=x\/H e=some (.own x))(k:∀b u,b≠e->h.get? b=some u->h'.get? b=some u)(heo:∃u,h'.get? e=some u):Un fs ex H (upd H x o) h h':=by
 have hx:∀b,H b=none->b≠x:=λb n z=>by subst z;rw[n]at mu;exact mu
 have hb:∀b,H b=none->b≠e:=λb n z=>by
  subst z;rcases he with r | r
  ·exact hx b n r
  ·rw[n]at r;cases r
 have hm:∀b u,H b=some u->¬Mut (some u)->b≠x:=λb u q nm z=>by subst z;rw[q]at mu;exact nm mu
 refine⟨λb u q n _ _=>k b u (hb b n) q,λb u q n _ _=>⟨u.slots,k b u (hb b n) q⟩,λb u q n _=>by rw[aw (hx b n)];exact n,λb u q _=>?_,
  λb xs q=>by rw[aw (hm b _ q λz=>z)];exact q,λb u xs q=>by rw[aw (hm b _ q λz=>z)];exact q,λb ps q=>⟨#[],by rw[aw (hm b _ q λz=>z),q];simp⟩⟩
 by_cases hbe:b=e
 ·subst hbe;exact heo
 ·exact⟨u,k b u hbe q⟩
theorem Un.mono (u:Un fs ex H H1 h h1)(hs:∀b∈fs,b∈fs')(hx:∀b∈ex,b∈ex'):Un fs' ex' H H1 h h1 :=
 ⟨λb ob q n hb he=>u.keep b ob q n (λz=>hb (hs b z)) λz=>he (hx b z),λ_ _ q n _ he=>u.any q n λz=>he (hx _ z),λb ob q n he=>u.free b ob q n λz=>he (hx b z),λb ob q he=>u.there b ob q λz=>he (hx b z),u.uk,u.tw,u.um⟩
end
def trk (h:Heap)(H:Hp):List Addr:=(aev h.objs.size).filter λa=>(H a).isSome
def Bq (h:Heap)(H:Hp):Heap:=PySem.W.hideAll h (trk h H)
theorem IW (h:Heap)(H:Hp):(Bq h H).objs.size=h.objs.size:=PySem.W.hideAll_size _ _
theorem Kr {h:Heap}{H:Hp}{b:Addr}{o:Obj}(e:h.get? b=some o)(n:H b=none):(Bq h H).get? b=some o :=
 PySem.W.hideAll_get _ e λhm=>by
  have q:(H b).isSome=true:=(List.mem_filter.mp hm).2;rw[n]at q;simp at q
theorem Nw {h:Heap}{H:Hp}{b:Addr}{o:Obj}(e:(Bq h H).get? b=some o):h.get? b=some o/\H b=none:=by
 have e':h.get? b=some o:=PySem.W.of_hideAll (trk h H) e;refine⟨e',?_⟩;cases q:H b with
 |none=>rfl
 |some x =>
  have hm:b∈trk h H:=List.mem_filter.mpr ⟨List.mem_range.mpr (ky e'),by simp[q]⟩
  have z:(Bq h H).get? b=none:=PySem.W.hideAll_none (trk h H) hm;rw[z]at e;cases e
def Nx (g h:Heap)(L:Addr):List (Addr×Obj):=(aev h.objs.size).filterMap λa=>if a=L\/(g.get? a).isSome=true then none else (h.get? a).map λo=>(a,o)
def rest (g h:Heap)(L d:Addr):List (Addr×Obj):=(Nx g h L).filter λp=>decide (p.1≠d)
structure Mod (K:cb)(mg:Str->Option Value)(base:Heap):Prop where
 kin:K.In base
 glob:base.Ns gr mg
 blt:∃mb,base.Ns builtinsNs mb/\∀x:Str,x≠"__name__"->mb x=ad0 x
 nolimit:base.NoLimit
structure Cx where
 prog:ma
 w:World
 K:cb
 mg:Str->Option Value
 base:Heap
 A:Around
 N:List Str
 s₀:Shared
 H₀:Hp
 env:Env
 outer:List Env
 stack:List Env
 ex:List Addr
 fn:Str->Bool
 calm:Bool
 pn:List (Addr×Obj)
 xe:Value->Shared->Prop
def frs (l:List Env):List Addr:=l.filterMap (·.frame)
abbrev Cx.fs (X:Cx):List Addr:=frs X.outer
def Vis (sc:Scope)(x:Str):Prop:=sc.names.lookup x=some .local\/sc.names.lookup x=some .cell\/sc.names.lookup x=some .free
def Loc (sc:Scope)(x:Str):Prop:=sc.names.lookup x=some .local\/sc.names.lookup x=some .cell
def Look (env:Env)(h:Heap)(m:Str->Option Value)(x:Str)(u:Value):Prop :=
 (env.kindOf x=some .local/\m x=some u)\/((env.kindOf x=some .cell\/env.kindOf x=some .free)/\∃c,env.cells.lookup x=some c/\h.IsCell c (some u))
structure Cx.Ok (X:Cx):Prop where
 mod:Mod X.K X.mg X.base
 kind:X.env.scope.kind=.function
 glob:X.env.globals=gr
 blt:X.env.builtins=builtinsNs
 above:X.s₀.heap.objs.size<=X.env.locals
 inj:∀x y c,X.env.cells.lookup x=some c->X.env.cells.lookup y=some c->x=y
 has:∀x,(X.env.kindOf x=some .cell\/X.env.kindOf x=some .free)->∃c,X.env.cells.lookup x=some c
 cab:∀x c,X.fn x=true->X.env.cells.lookup x=some c->X.s₀.heap.objs.size<=c
 hd:X.calm=true->X.A.handled=none
 frames:X.A.frames=some X.stack
 stk:X.stack=X.outer\/(X.stack=X.env::X.outer/\X.env.frame=some X.env.locals)
 exf:∀b∈X.ex,b≠X.env.locals/\∀x c,X.env.cells.lookup x=some c->c≠b
 bs:∀b o,X.base.get? b=some o->X.s₀.heap.get? b=some o/\X.H₀ b=none
 bsz:X.base.objs.size<=X.s₀.heap.objs.size
 FH:∀b o,X.base.get? b=some o->b∉X.ex
 CI:∀b∈X.ex,b∉X.fs
 tD:X.s₀.heap.FunFrames X.base X.outer
 frf:∀b∈X.fs,X.H₀ b=none
structure Inv (X:Cx)(pins:List (Addr×Obj))(σ:List (Option V))(H:Hp)(s:Shared):Prop where
 ok:X.Ok
 os:s.os=X.s₀.os
 bare:AllBare s.gens
 base:Un X.fs X.ex X.H₀ H X.s₀.heap s.heap
 loc:∃m,s.heap.Ns X.env.locals m/\∀(i:Nat) (x:Str) (v:V),X.N[i]?=some x->σ[i]?=some (some v)->Vis X.env.scope x->∃u,RelV v u/\Look X.env s.heap m x u
 cell:∀x c,X.env.cells.lookup x=some c->∃v,s.heap.IsCell c v
 free:H X.env.locals=none
 oB:∀x c,X.env.cells.lookup x=some c->H c=none
 pin:∀p∈X.pn++pins,s.heap.get? p.1=some p.2/\H p.1=none/\p.1≠X.env.locals/\p.1∉X.fs/\∀v,p.2.data≠.cell v
 hok:HOk X.prog X.w H s.heap
 len:σ.length=X.N.length
section
variable{X:Cx}{pins:List (Addr×Obj)}{σ:List (Option V)}{H H':Hp}{s:Shared}{h':Heap}
theorem Cx.Ok.aaK (ok:X.Ok){b:Addr}{o:Obj}(e:X.base.get? b=some o):b∉X.fs:=λhb=>by
 have:=(ok.tD.mem hb).1;rw[e]at this;cases this
theorem Inv.bs (I:Inv X pins σ H s):∀b o,X.base.get? b=some o->s.heap.get? b=some o/\H b=none:=λb o e =>
 ⟨I.base.keep b o (I.ok.bs b o e).1 (I.ok.bs b o e).2 (I.ok.aaK e) (I.ok.FH b o e),I.base.free b o (I.ok.bs b o e).1 (I.ok.bs b o e).2 (I.ok.FH b o e)⟩
theorem Inv.bk (I:Inv X pins σ H s):∀b o,X.base.get? b=some o->s.heap.get? b=some o:=λb o e=>(I.bs b o e).1
theorem Inv.mod (I:Inv X pins σ H s):Mod X.K X.mg X.base:=I.ok.mod
theorem Inv.kIn (I:Inv X pins σ H s):X.K.In s.heap:=I.ok.mod.kin.keeps I.bk
theorem Inv.nolimit (I:Inv X pins σ H s):s.heap.NoLimit:=I.ok.mod.nolimit.keeps I.bk
theorem Inv.fr (I:Inv X pins σ H s):∃m,Fr X.base X.env.locals s.heap m :=
 let ⟨m,hn,_⟩:=I.loc
 ⟨m,hn,I.bk,me I.ok.bsz I.ok.above⟩
theorem Inv.lt (I:Inv X pins σ H s):X.env.locals < s.heap.objs.size:=let ⟨_,hn,_⟩:=I.loc;hn.lt
theorem Inv.sz (I:Inv X pins σ H s):X.s₀.heap.objs.size<=s.heap.objs.size:=me I.ok.above (Nat.le_of_lt I.lt)
theorem Inv.aaL (I:Inv X pins σ H s){a:Addr}(h:s.heap.objs.size<=a):a∉X.fs:=λhb=>by
 obtain⟨_,o,ho,_⟩:=I.ok.tD.mem hb;exact absurd (ado (ky ho) (me I.sz h)) (Nat.lt_irrefl _)
theorem Inv.cne (I:Inv X pins σ H s):∀x c,X.env.cells.lookup x=some c->c≠X.env.locals:=λx c e z=>by
 obtain⟨v,o,ho,hd⟩:=I.cell x c e;obtain⟨m,⟨o',es,ep,ho',hd',_⟩,_⟩:=I.loc;rw[z,ho']at ho;cases ho;rw[hd']at hd;cases hd
theorem Inv.tD (I:Inv X pins σ H s):s.heap.FunFrames X.base X.outer:=by
 have all:∀(l:List Env),(∀b∈frs l,b∈X.fs)->X.s₀.heap.FunFrames X.base l->s.heap.FunFrames X.base l:=by
  intro l
  induction l with
  |nil=>intro _ _;trivial
  |cons env r ih =>
   intro hs hl;obtain⟨hk,⟨L,o,hf,hn,ho,hd⟩,hr⟩:=hl;have hL:L∈X.fs:=hs L (by unfold frs;rw[List.filterMap_cons,hf];exact fi)
   obtain⟨sl,e⟩:=I.base.slot L o ho (I.ok.frf L hL) hL λz=>I.ok.CI L z hL
   exact⟨hk,⟨L,_,hf,hn,e,hd⟩,ih (λb hb=>hs b (by unfold frs;rw[List.filterMap_cons,hf];exact kf _ hb)) hr⟩
 exact all X.outer (λ_ hb=>hb) I.ok.tD
theorem Inv.stack (I:Inv X pins σ H s):s.heap.FunFrames X.base X.stack:=by
 rcases I.ok.stk with e | ⟨e,hf⟩
 ·rw[e];exact I.tD
 ·rw[e];obtain⟨m,hn,_⟩:=I.loc;refine .cons (by rw[I.ok.kind];decide) hf hn ?_ I.tD
  exact Heap.get?_none_of_le (me I.ok.bsz I.ok.above)
theorem Inv.Br (I:Inv X pins σ H s):∀b∈frs X.stack,b∈X.env.locals::X.fs:=λb hb=>by
 rcases I.ok.stk with e | ⟨e,hf⟩
 ·rw[e]at hb;exact kf _ hb
 ·rw[e]at hb;unfold frs at hb;rw[List.filterMap_cons,hf]at hb;exact hb
theorem Inv.Bs (I:Inv X pins σ H s):∀b∈frs X.stack,H b=none:=λb hb=>by
 rcases List.mem_cons.mp (I.Br b hb) with e | hb
 ·rw[e];exact I.free
 ·obtain⟨_,o,ho,_⟩:=I.ok.tD.mem hb;exact I.base.free b o ho (I.ok.frf b hb) λz=>I.ok.CI b z hb
theorem Inv.step {g':Array GenState}{t':Nat}{d':Drawn}{ch:List Addr}(I:Inv X pins σ H s)
  (hch:∀b∈ch,(b∈X.ex\/X.s₀.heap.objs.size<=b)/\b≠X.env.locals/\(∀x c,X.env.cells.lookup x=some c->c≠b)/\∀p∈X.pn++pins,p.1≠b)
  (keep:∀b o,b≠X.env.locals->b∉X.fs->b∉ch->s.heap.get? b=some o->H b=none->h'.get? b=some o)
  (slot:∀b o,b≠X.env.locals->b∈X.fs->b∉ch->s.heap.get? b=some o->H b=none->∃sl,h'.get? b=some { o with slots:=sl }) (free:∀b o,b∉ch->s.heap.get? b=some o->H b=none->H' b=none)
  (there:∀b o,b∉ch->s.heap.get? b=some o->∃o',h'.get? b=some o')
  (uk:∀b xs,H b=some (.tup xs)->H' b=some (.tup xs)) (tw:∀b o u,H b=some (.frz o u)->H' b=some (.frz o u)) (um:∀b ps,H b=some (.tbl ps)->∃more,H' b=some (.tbl (ps++more)))
  (ns:∀m,s.heap.Ns X.env.locals m->h'.Ns X.env.locals m) (hok:HOk X.prog X.w H' h') (hg:AllBare g') :
  Inv X pins σ H' { s with heap:=h',gens:=g',drawn:=d',toks:=t' }:=by
 have neL:∀b o,X.s₀.heap.get? b=some o->b≠X.env.locals:=λb o e=>tu (ado (ky e) I.ok.above)
 have neC:∀b o,X.s₀.heap.get? b=some o->b∉X.ex->b∉ch:=λb o e hx hb=>by
  rcases (hch b hb).1 with z | z
  ·exact hx z
  ·exact absurd (ado (ky e) z) (Nat.lt_irrefl _)
 have cellK:∀x c,X.env.cells.lookup x=some c->∀v,s.heap.IsCell c v->h'.IsCell c v:=λx c e v ⟨o,ho,hd⟩=>by
  have nch:c∉ch:=λz=>(hch c z).2.2.1 x c e rfl
  by_cases hc:c∈X.fs
  ·obtain⟨sl,q⟩:=slot c o (I.cne x c e) hc nch ho (I.oB x c e);exact⟨_,q,hd⟩
  ·exact⟨o,keep c o (I.cne x c e) hc nch ho (I.oB x c e),hd⟩
 refine⟨I.ok,I.os,hg,⟨λb o e n hb hx=>?_,λb o e n hb hx=>?_,λb o e n hx=>?_,λb o e hx=>?_,λb xs e=>uk b xs (I.base.uk b xs e),λb o xs e=>tw b o xs (I.base.tw b o xs e),λb ps e=>?_⟩,?_,λx c e=>?_,?_,λx c e=>?_,λp hp=>?_,hok,I.len⟩
 ·exact keep b o (neL b o e) hb (neC b o e hx) (I.base.keep b o e n hb hx) (I.base.free b o e n hx)
 ·obtain⟨sl,e1⟩:=I.base.slot b o e n hb hx;obtain⟨sl',e2⟩:=slot b _ (neL b o e) hb (neC b o e hx) e1 (I.base.free b o e n hx);exact⟨sl',e2⟩
 ·obtain⟨o',e1⟩:=I.base.there b o e hx;exact free b o' (neC b o e hx) e1 (I.base.free b o e n hx)
 ·obtain⟨o',e1⟩:=I.base.there b o e hx;exact there b o' (neC b o e hx) e1
 ·obtain⟨m1,e1⟩:=I.base.um b ps e;obtain⟨m2,e2⟩:=um b _ e1;exact⟨m1++m2,by rw[e2,Array.append_assoc]⟩
 ·obtain⟨m,hn,hl⟩:=I.loc;refine⟨m,ns m hn,λi x v e1 e2 e3=>?_⟩
  obtain⟨u,r,l⟩:=hl i x v e1 e2 e3;refine⟨u,r,?_⟩;rcases l with l | ⟨k,c,e,z⟩
  ·exact .inl l
  ·exact .inr ⟨k,c,e,cellK x c e _ z⟩
 ·obtain⟨v,z⟩:=I.cell x c e;exact⟨v,cellK x c e v z⟩
 ·obtain⟨m,⟨o,_,_,ho,_⟩,_⟩:=I.loc;exact free _ o (λz=>(hch _ z).2.1 rfl) ho I.free
 ·obtain⟨v,o,ho,hd⟩:=I.cell x c e;exact free c o (λz=>(hch c z).2.2.1 x c e rfl) ho (I.oB x c e)
 ·obtain⟨e,n,ne,nf,d⟩:=I.pin p hp;have nch:p.1∉ch:=λz=>(hch p.1 z).2.2.2 p hp rfl
  exact⟨keep p.1 p.2 ne nf nch e n,free p.1 p.2 nch e n,ne,nf,d⟩
theorem Inv.un {t':Nat}(I:Inv X pins σ H s)(u:Un X.fs [] H H' s.heap h')(hok:HOk X.prog X.w H' h'):Inv X pins σ H' { s with heap:=h',toks:=t' }:=by
 obtain⟨m,⟨o,es,ep,ho,r⟩,_⟩:=id I.loc;obtain⟨sl,hL⟩:=u.any ho I.free (by simp)
 exact I.step (g':=s.gens) (d':=s.drawn) (ch:=[]) (λ_ z=>nomatch z) (λb o _ hb _ e n=>u.keep b o e n hb (by simp)) (λb o _ hb _ e n=>u.slot b o e n hb (by simp)) (λb o _ e n=>u.free b o e n (by simp)) (λb o _ e=>u.there b o e (by simp)) u.uk u.tw u.um (λm' hm=>by
  obtain⟨o',es',ep',ho',r'⟩:=hm;rw[ho]at ho';cases ho';exact⟨_,es',ep',hL,r'⟩) hok I.bare
theorem Inv.call {g':Array GenState}{t':Nat}{d':Drawn}{ch:List Addr}(I:Inv X pins σ H s)(u:Un (frs X.stack) ch H H' s.heap h')(hok:HOk X.prog X.w H' h')(hg:AllBare g')
  (hch:∀b∈ch,(b∈X.ex\/X.s₀.heap.objs.size<=b)/\b≠X.env.locals/\(∀x c,X.env.cells.lookup x=some c->c≠b)/\∀p∈X.pn++pins,p.1≠b) :
  Inv X pins σ H' { s with heap:=h',gens:=g',drawn:=d',toks:=t' }:=by
 obtain⟨m,⟨o,es,ep,ho,r⟩,_⟩:=id I.loc;obtain⟨sl,hL⟩:=u.any ho I.free λz=>(hch _ z).2.1 rfl
 exact I.step (ch:=ch) hch (λb o hL hb hc e n=>u.keep b o e n (λz=>(List.mem_cons.mp (I.Br b z)).elim hL hb) hc) (λb o _ _ hc e n=>u.any e n hc) (λb o hc e n=>u.free b o e n hc) (λb o hc e=>u.there b o e hc) u.uk u.tw u.um (λm' hm=>by
  obtain⟨o',es',ep',ho',r'⟩:=hm;rw[ho]at ho';cases ho';exact⟨_,es',ep',hL,r'⟩) hok hg
theorem Inv.turned {t':Nat}{it:Addr}(I:Inv X pins σ H s)(k:∀b o,b≠it->s.heap.get? b=some o->h'.get? b=some o)(hn:H it=none)(hL:it≠X.env.locals)
  (h1:it∈X.ex\/X.s₀.heap.objs.size<=it) (h2:∀x c,X.env.cells.lookup x=some c->c≠it) (h3:∀p∈X.pn++pins,p.1≠it):Inv X pins σ H { s with heap:=h',toks:=t' }:=by
 have nit:∀b u,H b=some u->b≠it:=λb u e z=>by rw[z,hn]at e;cases e
 refine I.step (g':=s.gens) (d':=s.drawn) (ch:=[it]) (λb hb=>?_) (λb o _ _ hc e _=>k b o (λz=>hc (by simp[z])) e) (λb o _ _ hc e _=>⟨o.slots,k b o (λz=>hc (by simp[z])) e⟩) (λ_ _ _ _ n=>n)
  (λb o hc e=>⟨o,k b o (λz=>hc (by simp[z])) e⟩) (λ_ _ e=>e) (λ_ _ _ e=>e) (λb ps e=>⟨#[],by rw[e];simp⟩) (λm hm=>?_) (λb u e=>?_) I.bare
 ·have e:b=it:=by simpa using hb
  subst e;exact⟨h1,hL,h2,h3⟩
 ·obtain⟨o,es,ep,ho,r⟩:=hm;exact⟨o,es,ep,k _ o (adz hL) ho,r⟩
 ·refine(I.hok b u e).Ab (λc v hc q=>k c v ?_ q) (λ_ q=>q) λ_ _ q=>q
  rcases hc with z | z
  ·rw[z];exact nit b u e
  ·exact nit c _ z
theorem Inv.tok (I:Inv X pins σ H s)(t:Nat):Inv X pins σ H { s with toks:=t }:=I.un (h':=s.heap) (t':=t) Un.refl I.hok
theorem Inv.kept {t':Nat}(I:Inv X pins σ H s)(k:∀b u,s.heap.get? b=some u->h'.get? b=some u):Inv X pins σ H { s with heap:=h',toks:=t' }:=I.un (Un.kept k) (I.hok.kept k)
theorem Inv.laid {a:Addr}{o:HO}{t':Nat}(I:Inv X pins σ H s)(k:∀b u,s.heap.get? b=some u->h'.get? b=some u)(hp:s.heap.objs.size<=a)(new:fq X.prog X.w (upd H a o) h' a o) :
  Inv X pins σ (upd H a o) { s with heap:=h',toks:=t' }:=I.un (Un.laid k hp (I.hok.fresh hp)) (I.hok.laid k hp new)
theorem Inv.write {x e:Addr}{o:HO}{t':Nat}(I:Inv X pins σ H s)(mu:Mut (H x))(he:e=x\/H e=some (.own x))(k:∀b u,b≠e->s.heap.get? b=some u->h'.get? b=some u)(heo:∃u,h'.get? e=some u)
  (new:fq X.prog X.w (upd H x o) h' x o):Inv X pins σ (upd H x o) { s with heap:=h',toks:=t' }:=I.un (Un.write mu he k heo) (I.hok.write mu he k heo new)
theorem Inv.yo {O8:List (Addr×Obj)}(I:Inv X pins σ H s)(h:∀p∈O8,s.heap.get? p.1=some p.2/\H p.1=none/\p.1≠X.env.locals/\p.1∉X.fs/\∀v,p.2.data≠.cell v):Inv X O8 σ H s :=
 ⟨I.ok,I.os,I.bare,I.base,I.loc,I.cell,I.free,I.oB,λp hp=>(List.mem_append.mp hp).elim (λz=>I.pin p (ad2 _ z)) (h p),I.hok,I.len⟩
theorem yz {N:List Str}(hN:N.Nodup){i j:Nat}{x:Str}(a:N[i]?=some x)(b:N[j]?=some x):i=j:=by
 obtain⟨h1,e1⟩:=List.getElem?_eq_some_iff.mp a;obtain⟨h2,e2⟩:=List.getElem?_eq_some_iff.mp b;exact(List.getElem_inj hN).mp (e1.trans e2.symm)
theorem IZ {M:Model}{A:Around}{E:Value->Shared->Prop}{i:Nat}{x:Str}{v:V}{u:Value}{Q:Unit->Shared->Prop}(I:Inv X pins σ H s)(hN:X.N.Nodup)(hi:X.N[i]?=some x)(hx:Loc X.env.scope x)(r:RelV v u)
  (h:∀s',Inv X pins (σ.set i (some v)) H s'->(∃a,Heap.SameBut a s.heap s'.heap/\(a=X.env.locals\/X.env.cells.lookup x=some a))->Q () s') (hf:X.fn x=true\/X.env.scope.names.lookup x=some .local:=by first | exact .inl rfl | exact .inr rfl | assumption):wpAny M A (storeName X.env x u) Q E s:=by
 obtain⟨m,hn,hl⟩:=id I.loc;have aaM:(X.env.scope.kind == .class || (X.env.scope.kind == .module && X.env.locals != X.env.globals))=false:=by rw[I.ok.kind];rfl
 have hiσ:i < σ.length:=by rw[I.len];exact(List.getElem?_eq_some_iff.mp hi).1
 have cne:=I.cne;have tracked:∀ {a:Addr} {h':Heap},(∃o,s.heap.get? a=some o/\H a=none)->Heap.SameBut a s.heap h'->HOk X.prog X.w H h':=λ{a h'} ha hs b ob e=>by
  obtain⟨_,_,O9⟩:=ha;refine(I.hok b ob e).Ab (λc w' hc q=>(hs.2 c ?_).trans q) (λ_ q=>q) λ_ _ q=>q
  rintro rfl;rcases hc with rfl | hc
  ·rw[O9]at e;cases e
  ·rw[O9]at hc;cases hc
 rcases hx with hk | hk
 ·refine wpAny_storeName_local hk hn (λh' hn' hs=>?_) aaM
  obtain⟨oL,_,_,hoL,_⟩:=id hn;refine h _ ⟨I.ok,I.os,I.bare,⟨λb o e n hb hx=>?_,λb o e n hb hx=>?_,I.base.free,λb o e hx=>?_,I.base.uk,I.base.tw,I.base.um⟩,⟨_,hn',λj y v' e1 e2 e3=>?_⟩,λy c e=>?_,I.free,I.oB,λp hp=>?_,tracked ⟨oL,hoL,I.free⟩ hs,by simpa using I.len⟩ ⟨_,hs,.inl rfl⟩
  ·exact(hs.2 b (tu (ado (ky e) I.ok.above))).trans (I.base.keep b o e n hb hx)
  ·obtain⟨sl,e1⟩:=I.base.slot b o e n hb hx;exact⟨sl,(hs.2 b (tu (ado (ky e) I.ok.above))).trans e1⟩
  ·obtain⟨o',e1⟩:=I.base.there b o e hx;exact⟨o',(hs.2 b (tu (ado (ky e) I.ok.above))).trans e1⟩
  ·by_cases hj:j=i
   ·subst hj;rw[hi]at e1;cases e1;rw[List.getElem?_set_self hiσ]at e2;cases e2;exact⟨u,r,.inl ⟨hk,by simp⟩⟩
   ·rw[List.getElem?_set_ne (adz hj)]at e2;obtain⟨u',r',q⟩:=hl j y v' e1 e2 e3;refine⟨u',r',?_⟩;rcases q with ⟨k,e⟩ | ⟨k,c,e,z⟩
    ·refine .inl ⟨k,?_⟩;have:y≠x:=λe=>hj (yz hN e1 (e▸hi))
     simp[this,e]
    ·exact .inr ⟨k,c,e,z.sameBut hs (cne y c e)⟩
  ·obtain⟨w',z⟩:=I.cell y c e;exact⟨w',z.sameBut hs (cne y c e)⟩
  ·obtain⟨e,n,ne,nf,d⟩:=I.pin p hp;exact⟨(hs.2 p.1 ne).trans e,n,ne,nf,d⟩
 ·have hfn:X.fn x=true:=by
   rcases hf with z | z
   ·exact z
   ·rw[z]at hk;cases hk
  obtain⟨c,hc⟩:=I.ok.has x (.inl hk);obtain⟨w',z⟩:=I.cell x c hc;refine wpAny_storeName_cell I.ok.kind hk hc z (λh' hc' hs=>?_)
  obtain⟨oc,hoc,aaN⟩:=id z;refine h { s with heap:=h' } ⟨I.ok,I.os,I.bare,⟨λb o e n hb hx=>?_,λb o e n hb hx=>?_,I.base.free,λb o e hx=>?_,I.base.uk,I.base.tw,I.base.um⟩,⟨m,hn.sameBut hs (adz (cne x c hc)),λj y v' e1 e2 e3=>?_⟩,λy c' e=>?_,I.free,I.oB,λp hp=>?_,tracked ⟨oc,hoc,I.oB x c hc⟩ hs,by simpa using I.len⟩ ⟨c,hs,.inr hc⟩
  ·exact(hs.2 b (tu (ado (ky e) (I.ok.cab x c hfn hc)))).trans (I.base.keep b o e n hb hx)
  ·obtain⟨sl,e1⟩:=I.base.slot b o e n hb hx;exact⟨sl,(hs.2 b (tu (ado (ky e) (I.ok.cab x c hfn hc)))).trans e1⟩
  ·obtain⟨o',e1⟩:=I.base.there b o e hx;exact⟨o',(hs.2 b (tu (ado (ky e) (I.ok.cab x c hfn hc)))).trans e1⟩
  ·by_cases hj:j=i
   ·subst hj;rw[hi]at e1;cases e1;rw[List.getElem?_set_self hiσ]at e2;cases e2;exact⟨u,r,.inr ⟨.inl hk,c,hc,hc'⟩⟩
   ·rw[List.getElem?_set_ne (adz hj)]at e2;obtain⟨u',r',q⟩:=hl j y v' e1 e2 e3;refine⟨u',r',?_⟩;rcases q with q | ⟨k,c',e,z'⟩
    ·exact .inl q
    ·refine .inr ⟨k,c',e,z'.sameBut hs ?_⟩;rintro rfl;exact hj (yz hN e1 (I.ok.inj _ _ _ e hc▸hi))
  ·by_cases hcc:c'=c
   ·subst hcc;exact⟨_,hc'⟩
   ·obtain⟨w2,z2⟩:=I.cell y c' e;exact⟨w2,z2.sameBut hs hcc⟩
  ·obtain⟨e,n,ne,nf,d⟩:=I.pin p hp;refine⟨(hs.2 p.1 ?_).trans e,n,ne,nf,d⟩;intro q;rw[q,hoc]at e;have q':oc=p.2:=adq e;exact d w' (by rw[<-q'];exact aaN)
theorem oE {M:Model}{A:Around}{E:Value->Shared->Prop}{i:Nat}{x:Str}{v:V}{u:Value}{Q:Unit->Shared->Prop}(I:Inv X pins σ H s)(hN:X.N.Nodup)(hi:X.N[i]?=some x)(hx:Loc X.env.scope x)(r:RelV v u)
  (h:∀s',Inv X pins (σ.set i (some v)) H s'->Q () s') (hf:X.fn x=true\/X.env.scope.names.lookup x=some .local:=by first | exact .inl rfl | exact .inr rfl | assumption):wpAny M A (storeName X.env x u) Q E s :=
 IZ I hN hi hx r (λs' I' _=>h s' I') hf
theorem Inv.HU {s':Shared}{ch:List Addr}(I:Inv X pins σ H s)(ho:s'.os=s.os)(u:Un (frs X.stack) ch H H' s.heap s'.heap)(hok:HOk X.prog X.w H' s'.heap)(hg:AllBare s'.gens)
  (hch:∀b∈ch,(b∈X.ex\/X.s₀.heap.objs.size<=b)/\b≠X.env.locals/\(∀x c,X.env.cells.lookup x=some c->c≠b)/\∀p∈X.pn++pins,p.1≠b):Inv X pins σ H' s':=by
 obtain⟨h',g',d',t',o'⟩:=s';have e:o'=s.os:=ho;subst e;exact I.call (g':=g') (t':=t') (d':=d') u hok hg hch
end
abbrev XK:=Value->Option Addr->Hp->Prop
abbrev St:=List (Option V)
abbrev VK:=V->Hp->Prop
abbrev TE:=St->Hp->VK->Prop
abbrev TT:=St->Hp->(Bool->Hp->Prop)->Prop
abbrev TA:=St->Hp->(List V->Hp->Prop)->Prop
structure Ends where
 nx:St->Hp->Prop
 rt:VK
 bk:St->Hp->Prop:=λ_ _=>False
 ct:St->Hp->Prop:=λ_ _=>False
abbrev TS:=Ends->St->Hp->Prop
def EP (X:Cx)(pins:List (Addr×Obj))(σ:St)(Q:VK)(u:Value)(s':Shared):Prop:=∃v H',Inv X pins σ H' s'/\RelV v u/\Q v H'
def TP (X:Cx)(pins:List (Addr×Obj))(σ:St)(Q:Bool->Hp->Prop)(b:Bool)(s':Shared):Prop:=∃H',Inv X pins σ H' s'/\Q b H'
def AP (X:Cx)(pins:List (Addr×Obj))(σ:St)(Q:List V->Hp->Prop)(us:List Value)(s':Shared):Prop:=∃vs H',Inv X pins σ H' s'/\Vals vs us/\Q vs H'
def SP (X:Cx)(pins:List (Addr×Obj))(D:Ends)(f:Flow)(s':Shared):Prop :=
 match f with
 | .next=>∃σ' H',Inv X pins σ' H' s'/\D.nx σ' H'
 | .brk=>∃σ' H',Inv X pins σ' H' s'/\D.bk σ' H'
 | .cont=>∃σ' H',Inv X pins σ' H' s'/\D.ct σ' H'
 | .ret u=>∃v σ' H',Inv X pins σ' H' s'/\RelV v u/\D.rt v H'
def PE (X:Cx)(e:Expr)(t:TE):Prop :=
 ∀(pins:List (Addr×Obj)) (s:Shared) (σ:St) (H:Hp) (Q:VK),Inv X pins σ H s->t σ H Q->wpAny (model X.prog X.w) X.A (eval e X.env) (EP X pins σ Q) X.xe s
def PT (X:Cx)(e:Expr)(t:TT):Prop :=
 ∀(pins:List (Addr×Obj)) (s:Shared) (σ:St) (H:Hp) (Q:Bool->Hp->Prop),Inv X pins σ H s->t σ H Q->wpAny (model X.prog X.w) X.A (isTrue e X.env (eval e X.env)) (TP X pins σ Q) X.xe s
def PW (X:Cx)(e:Expr)(t:TT):Prop :=
 ∀(whole:Sem Value) (pins:List (Addr×Obj)) (s:Shared) (σ:St) (H:Hp) (Q:Bool->Hp->Prop),Inv X pins σ H s->t σ H Q->wpAny (model X.prog X.w) X.A (isTrue e X.env whole) (TP X pins σ Q) X.xe s
theorem PW.pt {X:Cx}{e:Expr}{t:TT}(h:PW X e t):PT X e t:=h _
def PA (X:Cx)(es:List Expr)(t:TA):Prop :=
 ∀(pos:Pos) (pins:List (Addr×Obj)) (s:Shared) (σ:St) (H:Hp) (Q:List V->Hp->Prop),Inv X pins σ H s->t σ H Q->wpAny (model X.prog X.w) X.A (spliced (backTo pos (si es X.env))) (AP X pins σ Q) X.xe s
def PS (X:Cx)(st:Stmt)(t:TS):Prop :=
 ∀(pins:List (Addr×Obj)) (s:Shared) (σ:St) (H:Hp) (D:Ends),Inv X pins σ H s->t D σ H->wpAny (model X.prog X.w) X.A (exec st X.env) (SP X pins D) X.xe s
def PSs (X:Cx)(st:List Stmt)(t:TS):Prop :=
 ∀(pins:List (Addr×Obj)) (s:Shared) (σ:St) (H:Hp) (D:Ends),Inv X pins σ H s->t D σ H->wpAny (model X.prog X.w) X.A (execs st X.env) (SP X pins D) X.xe s
theorem thn {α:Type}{t:Sem α}{Q Q':α->Shared->Prop}{M:Model}{A:Around}{E:Value->Shared->Prop}{s:Shared}(h:wpAny M A t Q E s)(hQ:∀a s,Q a s->Q' a s):wpAny M A t Q' E s:=rf h hQ λ_ _ x=>x
section
variable{X:Cx}
theorem bin {a b:Expr}{ta tb:TE}(ha:PE X a ta)(hb:PE X b tb){pins:List (Addr×Obj)}{s:Shared}{σ:St}{H:Hp}{R:V->V->Hp->Prop}(I:Inv X pins σ H s)(h:ta σ H λx H1=>tb σ H1 λy H2=>R x y H2)
  {α:Type} {Q:α->Shared->Prop} {f:Value->Value->Sem α}
  (hf:∀v u s2 x y H2,Inv X pins σ H2 s2->RelV x v->RelV y u->R x y H2->wpAny (model X.prog X.w) X.A (f v u) Q X.xe s2) :
  wpAny (model X.prog X.w) X.A (eval a X.env) (λv s₁=>wpAny (model X.prog X.w) X.A (eval b X.env) (λu s₂=>wpAny (model X.prog X.w) X.A (f v u) Q X.xe s₂) X.xe s₁) X.xe s:=by
 refine thn (ha pins s σ H _ I h) λv s1 ⟨x,H1,I1,r1,q1⟩=>?_
 refine thn (hb pins s1 σ H1 _ I1 q1) λu s2 ⟨y,H2,I2,r2,q2⟩=>?_
 exact hf v u s2 x y H2 I2 r1 r2 q2
def Qx (i:Nat):TE:=λσ H Q=>∃v,σ[i]?=some (some v)/\Q v H
def tC (v:V):TE:=λ_ H Q=>Q v H
theorem Qy {i:Nat}{x:Str}{pos:Pos}(hN:X.N[i]?=some x)(hv:Vis X.env.scope x)(hd:(x == ("__debug__":Str))=false:=by decide)(hcd:(x == ("__classdict__":Str))=false:=by decide):PE X (.Name x pos) (Qx i):=by
 intro pins s σ H Q I h;obtain⟨v,e,h⟩:=h;obtain⟨m,hn,hl⟩:=I.loc;obtain⟨u,r,l⟩:=hl i x v hN e hv;have fin:EP X pins σ Q u s:=⟨v,H,I,r,h⟩;rcases l with ⟨hk,hm⟩ | ⟨hk,c,hc,uo⟩
 ·exact wpAny_Name (wpAny_loadName_local I.ok.kind hk hn hm fin) hd
 ·rcases hk with hk | hk
  ·exact wpAny_Name (wpAny_loadName_cell I.ok.kind hk hc uo fin) hd
  ·exact wpAny_Name (wpAny_loadName_free I.ok.kind hk hc uo fin hcd) hd
theorem aj {i j pos}:PE X (.Constant (.int i) j pos) (tC (.int i)):=λ_ _ _ H _ I h=>wpAny_Constant_int ⟨.int i,H,I.tok _,⟨_,rfl⟩,h⟩
theorem yA {b j pos}:PE X (.Constant (.bool b) j pos) (tC (.bl b)):=λ_ _ _ H _ I h=>Constant_bool ⟨.bl b,H,I,rfl,h⟩
theorem Ks {j pos}:PE X (.Constant .none j pos) (tC .non):=λ_ _ _ H _ I h=>Constant_none ⟨.non,H,I,rfl,h⟩
theorem au {x j pos}:PE X (.Constant (.str x) j pos) (tC (.str x)):=λ_ _ _ H _ I h=>Calls.Constant_str ⟨.str x,H,I.tok _,⟨_,rfl⟩,h⟩
def Gl (X:Cx)(x:Str):Prop:=X.env.kindOf x=some .globalImplicit
theorem lU {E:Value->Shared->Prop}{pins:List (Addr×Obj)}{s:Shared}{σ:St}{H:Hp}{x:Str}{u:Value}{pos:Pos}{Q:Value->Shared->Prop}(I:Inv X pins σ H s)(hg:Gl X x)(hm:X.mg x=some u)(h:Q u s)
  (hd:(x == ("__debug__":Str))=false:=by decide):wpAny (model X.prog X.w) X.A (eval (.Name x pos) X.env) Q E s :=
 Calls.Name_function_global I.ok.kind hg (Calls.loadGlobal_global (by rw[I.ok.glob];exact I.mod.glob.keeps I.bk) hm h) hd
theorem Bt {E:Value->Shared->Prop}{pins:List (Addr×Obj)}{s:Shared}{σ:St}{H:Hp}{x:Str}{u:Value}{pos:Pos}{Q:Value->Shared->Prop}(I:Inv X pins σ H s)(hg:Gl X x)(hm:X.mg x=none)(hv:ad0 x=some u)(h:Q u s)
  (hn:x≠"__name__":=by decide) (hd:(x == ("__debug__":Str))=false:=by decide):wpAny (model X.prog X.w) X.A (eval (.Name x pos) X.env) Q E s:=by
 obtain⟨mb,h1,h2⟩:=I.mod.blt;exact Calls.Name_function_global I.ok.kind hg (Calls.loadGlobal_builtin (by rw[I.ok.glob];exact I.mod.glob.keeps I.bk) hm (by rw[I.ok.blt];exact h1.keeps I.bk) ((h2 x hn).trans hv) h) hd
theorem cW {x:Str}{v:V}{u:Value}{pos:Pos}(hg:Gl X x)(hm:X.mg x=some u)(r:RelV v u)(hd:(x == ("__debug__":Str))=false:=by decide):PE X (.Name x pos) (tC v) :=
 λ_ _ _ H _ I h=>lU I hg hm ⟨v,H,I,r,h⟩ hd
theorem Ny {x:Str}{v:V}{u:Value}{pos:Pos}(hg:Gl X x)(hm:X.mg x=none)(hv:ad0 x=some u)(r:RelV v u)(hn:x≠"__name__":=by decide)(hd:(x == ("__debug__":Str))=false:=by decide):PE X (.Name x pos) (tC v) :=
 λ_ _ _ H _ I h=>Bt I hg hm hv ⟨v,H,I,r,h⟩ hn hd
variable{a b:Expr}{ta tb:TE}{pos:Pos}
def PC (X:Cx)(op:CmpOp)(a b:Expr)(t:TE):Prop :=
 ∀(pins:List (Addr×Obj)) (s:Shared) (σ:St) (H:Hp) (Q:VK),Inv X pins σ H s->t σ H Q ->
  wpAny (model X.prog X.w) X.A (eval a X.env) (λv s₁=>wpAny (model X.prog X.w) X.A (eval b X.env) (λu s₂=>wpAny (model X.prog X.w) X.A (aei op v u) (EP X pins σ Q) X.xe s₂) X.xe s₁) X.xe s
theorem Kt (b:Expr){op:CmpOp}(h:op≠.In)(h2:op≠.NotIn):behindInMarks op b=false:=by
 have e1:(op == CmpOp.In)=false:=by cases op <;> first | rfl | exact absurd rfl h
 have e2:(op == CmpOp.NotIn)=false:=by cases op <;> first | rfl | exact absurd rfl h2
 cases b <;> simp[behindInMarks,e1,e2]
def tB (t:TE):TT:=λσ H Q=>t σ H λx H1=>∃c,x=.bl c/\Q c H1
theorem FI {op:CmpOp}{t:TE}(h:PC X op a b t)(h1:behindInMarks op b=false:=by first | exact Kt _ (by decide) (by decide) | rfl):PT X (.Compare a [op] [b] pos) (tB t):=by
 intro pins s σ H Q I hw;refine wpAny_isTrue_Compare1 (thn (h pins s σ H _ I hw) λv s1 h1=>thn h1 λu s2 h2=>thn h2 λc s3 ⟨x,H1,I1,r1,q1⟩=>?_) h1
 obtain⟨d,rfl,q⟩:=q1;cases r1;exact wpAny_truthy_bool ⟨H1,I1,q⟩
theorem iq {e:Expr}{t:TE}(h:PE X e t)(he:∀whole,isTrue e X.env whole=(do let v <-whole;standAt e.pos;holding [v] (truthy v)):=by intro _;rfl):PT X e (tB t):=by
 intro pins s σ H Q I hw;refine isTrue_plain (thn (h pins s σ H _ I hw) λv s1 ⟨x,H1,I1,r1,q1⟩=>?_) (he _)
 obtain⟨d,rfl,q⟩:=q1;cases r1;exact wpAny_truthy_bool ⟨H1,I1,q⟩
variable{tA tB':TT}{rest:List Expr}
def aaO (t u:TT):TT:=λσ H Q=>t σ H λc H1=>if c=true then u σ H1 Q else Q false H1
def tOr (t u:TT):TT:=λσ H Q=>t σ H λc H1=>if c=true then Q true H1 else u σ H1 Q
def aaP (t:TT):TT:=λσ H Q=>t σ H λc H1=>Q (!c) H1
theorem pw_and1 (ha:PT X a tA):PW X (.BoolOp .And [a] pos) tA:=by
 intro wh pins s σ H Q I h;refine isTrue_and (thn (ha pins s σ H Q I h) λc s1 e=>?_)
 cases c with
 |true=>exact isTrue_and_nil e
 |false=>exact e
theorem pw_or1 (ha:PT X a tA):PW X (.BoolOp .Or [a] pos) tA:=by
 intro wh pins s σ H Q I h;refine isTrue_or (thn (ha pins s σ H Q I h) λc s1 e=>?_)
 cases c with
 |false=>exact isTrue_or_nil e
 |true=>exact e
theorem pw_and (ha:PT X a tA)(hb:PW X (.BoolOp .And (b::rest) pos) tB'):PW X (.BoolOp .And (a::b::rest) pos) (aaO tA tB'):=by
 intro wh pins s σ H Q I h;refine isTrue_and (thn (ha pins s σ H _ I h) λc s1 ⟨H1,I1,q1⟩=>?_)
 cases c with
 |true=>exact hb wh pins s1 σ H1 Q I1 q1
 |false=>exact⟨H1,I1,q1⟩
theorem pw_or (ha:PT X a tA)(hb:PW X (.BoolOp .Or (b::rest) pos) tB'):PW X (.BoolOp .Or (a::b::rest) pos) (tOr tA tB'):=by
 intro wh pins s σ H Q I h;refine isTrue_or (thn (ha pins s σ H _ I h) λc s1 ⟨H1,I1,q1⟩=>?_)
 cases c with
 |true=>exact⟨H1,I1,q1⟩
 |false=>exact hb wh pins s1 σ H1 Q I1 q1
theorem vm (ha:PT X a tA):PT X (.UnaryOp .Not a pos) (aaP tA):=by
 intro pins s σ H Q I h;exact isTrue_not (ha pins s σ H (λc H1=>Q (!c) H1) I h)
def VE (ta tb:TE):TE:=λσ H Q=>ta σ H λx H1=>∃c,x=.bl c/\if c=true then tb σ H1 Q else Q (.bl false) H1
def aaQ (ta tb:TE):TE:=λσ H Q=>ta σ H λx H1=>∃c,x=.bl c/\if c=true then Q (.bl true) H1 else tb σ H1 Q
def VF (ta:TE):TE:=λσ H Q=>ta σ H λx H1=>∃c,x=.bl c/\Q (.bl (!c)) H1
theorem FJ {op}{t:TE}(h:PE X a t):PE X (.BoolOp op [a] pos) t:=λpins s σ H Q I hw=>BoolOp_one (h pins s σ H Q I hw)
theorem Ku (ha:PE X a ta)(hb:PE X (.BoolOp .And (b::rest) pos) tb):PE X (.BoolOp .And (a::b::rest) pos) (VE ta tb):=by
 intro pins s σ H Q I h;refine BoolOp_and (thn (ha pins s σ H _ I h) λv s1 ⟨x,H1,I1,r1,q1⟩=>?_)
 obtain⟨c,rfl,q1⟩:=q1;cases r1;refine wpAny_truthy_bool ?_;cases c with
 |true=>exact hb pins s1 σ H1 Q I1 q1
 |false=>exact⟨.bl false,H1,I1,rfl,q1⟩
theorem VG (ha:PE X a ta)(hb:PE X (.BoolOp .Or (b::rest) pos) tb):PE X (.BoolOp .Or (a::b::rest) pos) (aaQ ta tb):=by
 intro pins s σ H Q I h;refine BoolOp_or (thn (ha pins s σ H _ I h) λv s1 ⟨x,H1,I1,r1,q1⟩=>?_)
 obtain⟨c,rfl,q1⟩:=q1;cases r1;refine wpAny_truthy_bool ?_;cases c with
 |false=>exact hb pins s1 σ H1 Q I1 q1
 |true=>exact⟨.bl true,H1,I1,rfl,q1⟩
theorem Qz (ha:PE X a ta):PE X (.UnaryOp .Not a pos) (VF ta):=by
 intro pins s σ H Q I h;refine UnaryOp_ (thn (ha pins s σ H _ I h) λv s1 ⟨x,H1,I1,r1,q1⟩=>?_)
 obtain⟨c,rfl,q1⟩:=q1;cases r1;exact not_of (wpAny_truthy_bool ⟨.bl (!c),H1,I1,rfl,q1⟩)
def tIf (t:TT)(ta tb:TE):TE:=λσ H Q=>t σ H λc H1=>if c=true then ta σ H1 Q else tb σ H1 Q
theorem CJ {c:Expr}(hc:PT X c tA)(ha:PE X a ta)(hb:PE X b tb):PE X (.IfExp c a b pos) (tIf tA ta tb):=by
 intro pins s σ H Q I h;refine wpAny_IfExp (thn (hc pins s σ H _ I h) λd s1 ⟨H1,I1,q1⟩=>?_)
 cases d with
 |true=>exact ha pins s1 σ H1 Q I1 q1
 |false=>exact hb pins s1 σ H1 Q I1 q1
end
def SqL (K:cb)(H:Hp)(a:Addr)(xs:List V):Prop :=
 Rd H a (.lst xs) \/
  ∃(o:Obj) (its:Array Value) (n:Nat),K.lookup a=some o/\o.cls=.type "list"/\o.dict=none/\o.data=.seq its n/\its.size<=gn/\Vals xs its.toList
def SqT (K:cb)(H:Hp)(a:Addr)(xs:List V):Prop :=
 Rd H a (.tup xs) \/
  ∃(o:Obj) (its:Array Value) (n:Nat),K.lookup a=some o/\o.cls=.type "tuple"/\o.data=.seq its n/\its.size<=gn/\Vals xs its.toList
def aaR:Value->Option V
 | .none=>some .non
 | .bool b=>some (.bl b)
 | .int i _=>some (.int i)
 | .str x _=>some (.str x)
 | .bytes b _=>some (.byt b)
 | .float b _=>some (.flt b)
 | .ref a=>some (.ref a)
 | .type n=>some (.ty n)
 |_=>none
theorem RelV.abs {x:V}{u:Value}(r:RelV x u):aaR u=some x:=by
 cases x with
 |non=>cases r;rfl
 |bl _=>cases r;rfl
 |int _=>obtain⟨t,rfl⟩:=r;rfl
 |str _=>obtain⟨t,rfl⟩:=r;rfl
 |byt _=>obtain⟨t,rfl⟩:=r;rfl
 |flt _=>obtain⟨t,rfl⟩:=r;rfl
 |ref _=>cases r;rfl
 |ty _=>cases r;rfl
theorem RelV.inj {x y:V}{u:Value}(r:RelV x u)(q:RelV y u):x=y:=adq (r.abs.symm.trans q.abs)
theorem Vals.inj:∀ {xs ys:List V} {us:List Value},Vals xs us->Vals ys us->xs=ys
 |_,_,_,.nil,.nil=>rfl
 |_,_,_,.cons r t,.cons r' t'=>by rw[r.inj r',Vals.inj t t']
section
variable{X:Cx}{pins:List (Addr×Obj)}{σ:St}{H:Hp}{s:Shared}{a:Addr}{xs ys:List V}
theorem SqL.of {K:cb}(h:H a=some (.lst xs)):SqL K H a xs:=.inl (.inl h)
theorem SqT.of {K:cb}(h:H a=some (.tup xs)):SqT K H a xs:=.inl (.inl h)
theorem Inv.list (I:Inv X pins σ H s)(h:SqL X.K H a xs):∃its:List Value,Vals xs its/\PlainL s.heap a its.toArray/\xs.length<=gn:=by
 rcases h with h | ⟨o,its,n,hk,hc,hd,hs,hz,r⟩
 ·obtain⟨z,its,n,r,e⟩:=h.ok I.hok;exact⟨its,r,⟨_,n,e,rfl,rfl,rfl⟩,z⟩
 ·refine⟨its.toList,r,⟨o,n,I.kIn a o hk,hc,hd,by simpa using hs⟩,?_⟩
  have e:=r.length;simp only[aee]at e;omega
theorem Inv.tuple (I:Inv X pins σ H s)(h:SqT X.K H a xs):∃its:List Value,Vals xs its/\IsTup s.heap a its.toArray/\xs.length<=gn:=by
 rcases h with h | ⟨o,its,n,hk,hc,hs,hz,r⟩
 ·obtain⟨z,its,r,p⟩:=h.ok I.hok;exact⟨its,r,p,z⟩
 ·refine⟨its.toList,r,⟨o,I.kIn a o hk,hc,n,by simpa using hs⟩,?_⟩
  have e:=r.length;simp only[aee]at e;omega
theorem Inv.Kv (I:Inv X pins σ H s)(h:SqL X.K H a xs)(h':SqL X.K H a ys):xs=ys:=by
 obtain⟨its,r,⟨o,n,e,_,_,d⟩,_⟩:=I.list h;obtain⟨its',r',⟨o',n',e',_,_,d'⟩,_⟩:=I.list h';rw[e]at e';cases e';rw[d]at d';injection d' with d1 _
 have:its=its':=by simpa using congrArg Array.toList d1
 subst this;exact r.inj r'
theorem Inv.I0 (I:Inv X pins σ H s)(h:SqT X.K H a xs)(h':SqT X.K H a ys):xs=ys:=by
 obtain⟨its,r,⟨o,e,_,n,d⟩,_⟩:=I.tuple h;obtain⟨its',r',⟨o',e',_,n',d'⟩,_⟩:=I.tuple h';rw[e]at e';cases e';rw[d]at d';injection d' with d1 _
 have:its=its':=by simpa using congrArg Array.toList d1
 subst this;exact r.inj r'
end
abbrev Cx.m9 (X:Cx)(E:Value->Shared->Prop):Cx:={ X with xe:=E }
abbrev Cx.nox (X:Cx):Cx:=X.m9 λ_ _=>False
theorem Cx.Ok.m9 {X:Cx}(ok:X.Ok)(E:Value->Shared->Prop):(X.m9 E).Ok :=
 ⟨ok.mod,ok.kind,ok.glob,ok.blt,ok.above,ok.inj,ok.has,ok.cab,ok.hd,ok.frames,ok.stk,ok.exf,ok.bs,ok.bsz,ok.FH,ok.CI,ok.tD,ok.frf⟩
theorem Cx.Ok.eJ {X:Cx}{E:Value->Shared->Prop}(ok:(X.m9 E).Ok):X.Ok :=
 ⟨ok.mod,ok.kind,ok.glob,ok.blt,ok.above,ok.inj,ok.has,ok.cab,ok.hd,ok.frames,ok.stk,ok.exf,ok.bs,ok.bsz,ok.FH,ok.CI,ok.tD,ok.frf⟩
section
variable{X:Cx}{pins:List (Addr×Obj)}{σ:St}{H:Hp}{s:Shared}{E:Value->Shared->Prop}
theorem Inv.m9 (I:Inv X pins σ H s)(E:Value->Shared->Prop):Inv (X.m9 E) pins σ H s:=⟨I.ok.m9 E,I.os,I.bare,I.base,I.loc,I.cell,I.free,I.oB,I.pin,I.hok,I.len⟩
theorem Inv.eJ (I:Inv (X.m9 E) pins σ H s):Inv X pins σ H s:=⟨I.ok.eJ,I.os,I.bare,I.base,I.loc,I.cell,I.free,I.oB,I.pin,I.hok,I.len⟩
theorem SP.eJ {D:Ends}{f:Flow}{s':Shared}(h:SP (X.m9 E) pins D f s'):SP X pins D f s':=by
 cases f with
 |next=>obtain⟨σ',H',I,q⟩:=h;exact⟨σ',H',I.eJ,q⟩
 |brk=>obtain⟨σ',H',I,q⟩:=h;exact⟨σ',H',I.eJ,q⟩
 |cont=>obtain⟨σ',H',I,q⟩:=h;exact⟨σ',H',I.eJ,q⟩
 |ret u=>obtain⟨v,σ',H',I,r,q⟩:=h;exact⟨v,σ',H',I.eJ,r,q⟩
theorem PE.nox {e:Expr}{t:TE}(h:PE X.nox e t):PE X e t:=λpins s σ H Q I hw =>
 rf (h pins s σ H Q (I.m9 _) hw) (λ_ _ ⟨v,H',I',r,q⟩=>⟨v,H',I'.eJ,r,q⟩) λ_ _ z=>adw z
theorem PT.nox {e:Expr}{t:TT}(h:PT X.nox e t):PT X e t:=λpins s σ H Q I hw =>
 rf (h pins s σ H Q (I.m9 _) hw) (λ_ _ ⟨H',I',q⟩=>⟨H',I'.eJ,q⟩) λ_ _ z=>adw z
theorem PSs.nox {st:List Stmt}{t:TS}(h:PSs X.nox st t):PSs X st t:=λpins s σ H D I hw =>
 rf (h pins s σ H D (I.m9 _) hw) (λ_ _ q=>q.eJ) λ_ _ z=>adw z
end
section
variable{X:Cx}{st:Stmt}{rest:List Stmt}{t u:TS}{e:Expr}{te:TE}{pos:Pos}
def VH:TS:=λD σ H=>D.nx σ H
def QA (t u:TS):TS:=λD σ H=>t { D with nx:=u D } σ H
theorem aT:PSs X [] VH:=λ_ _ σ H _ I h=>wpAny_execs_nil ⟨σ,H,I,h⟩
theorem ao (h1:PS X st t)(h2:PSs X rest u):PSs X (st::rest) (QA t u):=by
 intro pins s σ H D I h;refine wpAny_execs_cons (thn (h1 pins s σ H { D with nx:=u D } I h) λf s1 q=>?_)
 cases f with
 |next =>
  obtain⟨σ',H',I',q⟩:=q;exact h2 pins s1 σ' H' D I' q
 |ret v=>exact q
 |brk=>exact q
 |cont=>exact q
theorem aq (h1:PS X st t):PSs X [st] t:=by
 intro pins s σ H D I h;refine wpAny_execs_cons (thn (h1 pins s σ H D I h) λf s1 q=>?_)
 cases f with
 |next=>exact wpAny_execs_nil q
 |ret v=>exact q
 |brk=>exact q
 |cont=>exact q
theorem Inv.quiet {pins:List (Addr×Obj)}{σ:St}{H:Hp}{s:Shared}(I:Inv X pins σ H s):interactive X.env=false:=by simp[interactive,I.ok.kind]
def VI (te:TE):TS:=λD σ H=>te σ H λ_ H1=>D.nx σ H1
theorem dh (he:PE X e te)(hs:swapsWith e none pos.line X.env=pure false:=by rfl):PS X (.Expr e pos) (VI te):=by
 intro pins s σ H D I h;exact wpAny_Expr_any (thn (he pins s σ H _ I h) λv s1 ⟨x,H1,I1,r1,q1⟩=>⟨σ,H1,I1,q1⟩) I.quiet hs
def aaS (te:TE):TS:=λD σ H=>te σ H D.rt
theorem aI (he:PE X e te):PS X (.Return (some e) pos) (aaS te):=by
 intro pins s σ H D I h;exact wpAny_Return_some (thn (he pins s σ H _ I h) λv s1 ⟨x,H1,I1,r1,q1⟩=>⟨x,σ,H1,I1,r1,q1⟩)
def aaT (c:TT)(t u:TS):TS:=λD σ H=>c σ H λb H1=>if b=true then t D σ H1 else u D σ H1
theorem cI {c:Expr}{a b:List Stmt}{tc:TT}(hc:PT X c tc)(ha:PSs X a t)(hb:PSs X b u):PS X (.If c a b pos) (aaT tc t u):=by
 intro pins s σ H D I h;refine wpAny_If (thn (hc pins s σ H _ I h) λd s1 ⟨H1,I1,q1⟩=>?_)
 cases d with
 |true=>exact ha pins s1 σ H1 D I1 q1
 |false=>exact hb pins s1 σ H1 D I1 q1
end
abbrev TG:=V->St->Hp->(St->Hp->Prop)->Prop
abbrev TGs:=List V->St->Hp->(St->Hp->Prop)->Prop
def PG (X:Cx)(target:Expr)(t:TG):Prop :=
 ∀(pins:List (Addr×Obj)) (s:Shared) (σ:St) (H:Hp) (v:V) (u:Value) (Q:St->Hp->Prop),Inv X pins σ H s->RelV v u->t v σ H Q ->
  wpAny (model X.prog X.w) X.A (assign target X.env u) (λ_ s'=>∃σ' H',Inv X pins σ' H' s'/\Q σ' H') X.xe s
def PGs (X:Cx)(ts:List Expr)(t:TGs):Prop :=
 ∀(pins:List (Addr×Obj)) (s:Shared) (σ:St) (H:Hp) (vs:List V) (us:List Value) (Q:St->Hp->Prop),Inv X pins σ H s->Vals vs us->t vs σ H Q ->
  wpAny (model X.prog X.w) X.A (assignInOrder ((assignEach ts X.env).map (·.2)) us) (λ_ s'=>∃σ' H',Inv X pins σ' H' s'/\Q σ' H') X.xe s
abbrev QB:=V->V->V->Hp->(Hp->Prop)->Prop
def VJ (X:Cx)(t:QB):Prop :=
 ∀(pins:List (Addr×Obj)) (s:Shared) (σ:St) (H:Hp) (o i v:V) (ov iv u:Value) (Q:Hp->Prop),Inv X pins σ H s->RelV o ov->RelV i iv->RelV v u->t o i v H Q ->
  wpAny (model X.prog X.w) X.A (setItem ov iv u) (λ_ s'=>∃H',Inv X pins σ H' s'/\Q H') X.xe s
section
variable{X:Cx}{pos:Pos}
def iy (i:Nat):TG:=λv σ H Q=>Q (σ.set i (some v)) H
theorem pK {i:Nat}{x:Str}(hN:X.N.Nodup)(hi:X.N[i]?=some x)(hx:Loc X.env.scope x)(hf:X.fn x=true\/X.env.scope.names.lookup x=some .local:=by first | exact .inl rfl | exact .inr rfl | assumption):PG X (.Name x pos) (iy i):=by
 intro pins s σ H v u Q I r h;exact wpAny_assign_Name (oE I hN hi hx r (λs' I'=>⟨_,H,I',h⟩) hf)
def aaU:TGs:=λvs σ H Q=>vs=[]/\Q σ H
def VL (t:TG)(u:TGs):TGs:=λvs σ H Q=>∃v r,vs=v::r/\t v σ H λσ' H'=>u r σ' H' Q
theorem Nz:PGs X [] aaU:=by
 intro pins s σ H vs us Q I r h;obtain⟨e,h⟩:=h;subst e;cases r;exact assignInOrder_nil ⟨σ,H,I,h⟩
theorem yB {e:Expr}{es:List Expr}{t:TG}{u:TGs}(h1:PG X e t)(h2:PGs X es u)
  (hs:(assignEach (e::es) X.env).map (·.2)=assign e X.env::(assignEach es X.env).map (·.2):=by rfl):PGs X (e::es) (VL t u):=by
 intro pins s σ H vs us Q I r h;obtain⟨v,vr,e1,h⟩:=h;subst e1;cases r with
 |cons r rr =>
  rw[hs];refine assignInOrder_cons (thn (h1 pins s σ H _ _ _ I r h) λ_ s1 ⟨σ1,H1,I1,q1⟩=>?_)
  exact h2 pins s1 σ1 H1 _ _ Q I1 rr q1
def aaV (K:cb)(n:Nat)(t:TGs):TG:=λv σ H Q=>∃a xs,v=.ref a/\SqT K H a xs/\xs.length=n/\t xs σ H Q
theorem QC {es:List Expr}{k:Nat}{t:TGs}{n:Nat}(hc:X.calm=true)(h:PGs X es t)
  (hn:(assignEach es X.env).length=n:=by rfl) (hst:(assignEach es X.env).findIdx? (·.1)=none:=by rfl):PG X (.Tuple es k pos) (aaV X.K n t):=by
 intro pins s σ H v u Q I r hw;obtain⟨a,xs,e1,hq,hl,hw⟩:=hw;subst e1;cases r;obtain⟨its,rv,ht,hz⟩:=I.tuple hq;refine assign_Tuple_tuple (I.ok.hd hc) ht (by simp[hn,<-hl,rv.length]) hst λh' hx=>?_
 have I1:Inv X pins σ H { s with heap:=h' }:=I.kept (t':=s.toks) λb o e=>hx b o (tu (ky e)) e
 exact h pins _ σ H xs _ Q I1 (by simpa using rv) hw
def aaW (to ti:TE)(t:QB):TG:=λv σ H Q=>to σ H λo H1=>ti σ H1 λi H2=>t o i v H2 λH3=>Q σ H3
theorem QD {o i:Expr}{to ti:TE}{t:QB}(ho:PE X o to)(hi:PE X i ti)(hs:VJ X t)
  (ha:∀v,assign (.Subscript o i pos) X.env v=(do
   let ov <-holding [v] (eval o X.env)
   let iv <-holding [v,ov] (eval i X.env)
   standAt pos
   holding [v,ov,iv] (setItem ov iv v)
   release [v,ov,iv] []):=by intro _;rfl):PG X (.Subscript o i pos) (aaW to ti t):=by
 intro pins s σ H v u Q I r h;rw[ha];refine di (adV (thn (ho pins s σ H _ I h) λov s1 ⟨x,H1,I1,r1,q1⟩=>?_))
 refine di (adV (thn (hi pins s1 σ H1 _ I1 q1) λiv s2 ⟨y,H2,I2,r2,q2⟩=>?_))
 refine di (ad7 (di (adV (thn (hs pins s2 σ H2 x y v ov iv u _ I2 r1 r2 r q2) λ_ s3 ⟨H3,I3,q3⟩=>?_))))
 exact wpAny_release ⟨σ,H3,I3,q3⟩
def Kw (te:TE)(g:TG):TS:=λD σ H=>te σ H λx H1=>g x σ H1 D.nx
theorem Kx {tg e:Expr}{te:TE}{g:TG}(he:PE X e te)(hg:PG X tg g)(hs:swapsWithSole [tg] e pos.line X.env=pure false:=by rfl)(hw:swappedStores [tg] e X.env=pure none:=by rfl)
  (h1:(assignEach [tg] X.env).map (·.2)=[assign tg X.env]:=by rfl):PS X (.Assign [tg] e pos) (Kw te g):=by
 intro pins s σ H D I h;refine wpAny_Assign_stores (thn (he pins s σ H _ I h) λv s1 ⟨x,H1,I1,r1,q1⟩=>?_) hs hw
 rw[h1];exact thn (hg pins s1 σ H1 x v _ I1 r1 q1) λ_ s2 q=>q
theorem br {i:Nat}{x:Str}{e:Expr}{te:TE}{pos':Pos}(hN:X.N.Nodup)(hi:X.N[i]?=some x)(hx:Loc X.env.scope x)(he:PE X e te)(hs:swapsWith e (some (.Name x pos')) pos.line X.env=pure false:=by rfl)(hf:X.fn x=true\/X.env.scope.names.lookup x=some .local:=by first | exact .inl rfl | exact .inr rfl | assumption) :
  PS X (.Assign [.Name x pos'] e pos) (Kw te (iy i)):=by
 intro pins s σ H D I h;refine wpAny_Assign_Name (thn (he pins s σ H _ I h) λv s1 ⟨y,H1,I1,r1,q1⟩=>?_) hs
 exact oE I1 hN hi hx r1 (λs2 I2=>⟨_,H1,I2,q1⟩) hf
end
structure It where
 go:Nat->Hp->Prop
 yld:Nat->Hp->V->Hp->Prop
 stop:Nat->Hp->Prop
def jG (X:Cx)(pins:List (Addr×Obj))(H:Hp)(b:Addr):Prop :=
 H b=none/\b≠X.env.locals/\b∉X.fs/\(b∈X.ex\/X.s₀.heap.objs.size<=b)/\(∀x c,X.env.cells.lookup x=some c->c≠b)/\∀p∈X.pn++pins,p.1≠b
theorem Inv.yC {X:Cx}{pins:List (Addr×Obj)}{σ:St}{H H':Hp}{s:Shared}{b:Addr}(I:Inv X pins σ H s)(hb:s.heap.objs.size<=b)(hn:H' b=none):jG X pins H' b:=by
 refine⟨hn,Nat.ne_of_gt (ado I.lt hb),I.aaL hb,.inr (me I.sz hb),λx c e z=>?_,λp hp z=>?_⟩
 ·obtain⟨v,q⟩:=I.cell x c e;exact absurd (ado q.lt (by rw[z];exact hb)) (Nat.lt_irrefl _)
 ·exact absurd (ado (ky (I.pin p hp).1) (by rw[z];exact hb)) (Nat.lt_irrefl _)
structure Turn (P:ma)(w:World)(K:cb)(tg:Expr)(J:It)(fp:List Addr)(it:Addr)(tn:Nat->Heap->Prop):Prop where
 mem:it∈fp
 obj:∀i h,tn i h->∀b∈fp,∃o,h.get? b=some o/\∀v,o.data≠.cell v
 keep:∀i h h',tn i h->(∀b∈fp,∀o,h.get? b=some o->h'.get? b=some o)->tn i h'
 item:∀(X:Cx),X.prog=P->X.w=w->X.K=K->X.calm=true->∀(i:Nat) (pins:List (Addr×Obj)) (s:Shared) (σ:St) (H:Hp) (E:Value->Shared->Prop),Inv X pins σ H s->(∀b∈fp,jG X pins H b)->tn i s.heap->J.go i H ->
  wpAny (model P w) X.A (pyNext (.ref it)) (λr s1=>∃u,r=some u /\
   wpAny (model P w) X.A (letOwnedTupleGo tg (.ref it) u) (λ_ s2=>∃x H',Inv X pins σ H' s2/\RelV x u/\J.yld i H x H'/\tn (i+1) s2.heap/\∀b∈fp,H' b=none) E s1) E s
 done:∀(X:Cx),X.prog=P->X.w=w->X.K=K->X.calm=true->∀(i:Nat) (pins:List (Addr×Obj)) (s:Shared) (σ:St) (H:Hp) (E:Value->Shared->Prop),Inv X pins σ H s->(∀b∈fp,jG X pins H b)->tn i s.heap->J.stop i H ->
  wpAny (model P w) X.A (pyNext (.ref it)) (λr s1=>r=none/\Inv X pins σ H s1) E s
 self:∀(A:Around) (i:Nat) (s:Shared) (Q:Value->Shared->Prop) (E:Value->Shared->Prop),tn i s.heap->Q (.ref it) s->wpAny (model P w) A (pyIter (.ref it)) Q E s
abbrev TI:=St->Hp->(It->Hp->Prop)->Prop
def PIE (X:Cx)(pins:List (Addr×Obj))(σ:St)(tg:Expr)(R:It->Hp->Prop)(itv:Value)(s2:Shared):Prop :=
 ∃(it:Addr) (fp:List Addr) (tn:Nat->Heap->Prop) (J:It) (H':Hp),itv=.ref it/\Inv X pins σ H' s2/\Turn X.prog X.w X.K tg J fp it tn/\tn 0 s2.heap/\(∀b∈fp,jG X pins H' b)/\R J H'
def PI (X:Cx)(tg iter:Expr)(wi:TI):Prop :=
 ∀(pins:List (Addr×Obj)) (s:Shared) (σ:St) (H:Hp) (R:It->Hp->Prop),Inv X pins σ H s->wi σ H R ->
  wpAny (model X.prog X.w) X.A (eval iter X.env) (λv s1=>wpAny (model X.prog X.w) X.A (pyIter v) (PIE X pins σ tg R) X.xe s1) X.xe s
theorem CK {M:Model}{A:Around}{E:Value->Shared->Prop}{s:Shared}{tg:Expr}{it:Addr}{u:Value}{o:Obj}{n:String}{vs:Array Value}{Q:Unit->Shared->Prop}(ho:s.heap.get? it=some o)(hc:o.cls=.type n)(hd:o.data=.fields vs)
    (hn:["enumerate","zip","dict_itemiterator","dict_reverseitemiterator","odict_iterator","itertools.zip_longest","itertools.pairwise"].contains n=false) (hQ:Q () s):wpAny M A (letOwnedTupleGo tg (.ref it) u) Q E s:=by
  unfold letOwnedTupleGo
  cases tg <;> first
    |exact kx hQ
    | (cases u <;> first
        |exact kx hQ
        | (refine di (wpAny_load ho ?_)
           rw[hc,hd]
           show wpAny M A (if (["enumerate","zip","dict_itemiterator","dict_reverseitemiterator","odict_iterator","itertools.zip_longest","itertools.pairwise"].contains n && vs[0]? == some (rawInt _))=true then _ else _) Q E s
           rw[if_neg (by intro h;rw[hn,Bool.false_and]at h;cases h)]
           exact kx hQ))
def Itl (K:cb)(a:Addr):It :=
 ⟨λi H=>∃xs x,SqL K H a xs/\xs[i]?=some x,λi H x H'=>H'=H/\∀xs,SqL K H a xs->xs[i]?=some x,λi H=>∃xs,SqL K H a xs/\xs.length<=i⟩
def Itt (K:cb)(a:Addr):It :=
 ⟨λi H=>∃xs x,SqT K H a xs/\xs[i]?=some x,λi H x H'=>H'=H/\∀xs,SqT K H a xs->xs[i]?=some x,λi H=>∃xs,SqT K H a xs/\xs.length<=i⟩
def Itr (lo:Int)(n:Nat):It:=⟨λi _=>i < n,λi H x H'=>H'=H/\x=.int (lo+i),λi _=>n<=i⟩
theorem I9 {P:ma}{w:World}{K:cb}{tg:Expr}(a it:Addr):Turn P w K tg (Itl K a) [it] it (λi h=>h.IsListIter it a i) where
 mem:=by simp
 obj:=λi h st b hb=>by
  have e:b=it:=by simpa using hb
  subst e;obtain⟨o,e,c,d⟩:=st;exact⟨o,e,λv z=>by rw[d]at z;cases z⟩
 keep:=λi h h' st k=>st.at λo e=>k it (by simp) o e
 item:=by
  intro X hP hw hK hc i pins s σ H E I hf st hg;subst hP hw hK;obtain⟨xs,x,hq,hx⟩:=hg;obtain⟨its,rv,p,hz⟩:=I.list hq;obtain⟨u,hu,ru⟩:=rv.get hx;obtain⟨f0,f1,f2,f3,f4,f5⟩:=hf it (by simp)
  refine wpAny_pyNext_list_item st p.isList (x:=u) (by simpa using hu) λh' st' sb=>?_
  have I1:Inv X pins σ H { s with heap:=h' }:=I.turned (t':=s.toks) (λb o hb e=>(sb.2 b hb).trans e) f0 f1 f3 f4 f5
  obtain⟨o,e,c,d⟩:=id st';exact⟨u,rfl,CK (s:={ s with heap:=h' }) e c d (by decide) ⟨x,H,I1,ru,⟨rfl,λys hy=>by rw[I.Kv hy hq];exact hx⟩,st',λb hb=>(hf b hb).1⟩⟩
 done:=by
  intro X hP hw hK hc i pins s σ H E I hf st hg;subst hP hw hK;obtain⟨xs,hq,hx⟩:=hg;obtain⟨its,rv,p,hz⟩:=I.list hq;obtain⟨f0,f1,f2,f3,f4,f5⟩:=hf it (by simp)
  have hl:=rv.length;exact wpAny_pyNext_list_end (I.ok.hd hc) st p.isList (by simp;omega) λh' eb=>⟨rfl,I.turned (t':=s.toks) (λb o hb e=>eb b o hb e) f0 f1 f3 f4 f5⟩
 self:=λ_ _ _ _ _ st h=>wpAny_pyIter_listiter st h
theorem FK {P:ma}{w:World}{K:cb}{tg:Expr}(a it:Addr):Turn P w K tg (Itt K a) [it] it (λi h=>h.IsTupleIter it a i) where
 mem:=by simp
 obj:=λi h st b hb=>by
  have e:b=it:=by simpa using hb
  subst e;obtain⟨o,e,c,d⟩:=st;exact⟨o,e,λv z=>by rw[d]at z;cases z⟩
 keep:=λi h h' st k=>st.at λo e=>k it (by simp) o e
 item:=by
  intro X hP hw hK hc i pins s σ H E I hf st hg;subst hP hw hK;obtain⟨xs,x,hq,hx⟩:=hg;obtain⟨its,rv,p,hz⟩:=I.tuple hq;obtain⟨u,hu,ru⟩:=rv.get hx;obtain⟨f0,f1,f2,f3,f4,f5⟩:=hf it (by simp)
  refine wpAny_pyNext_tuple_item st (show s.heap.IsTuple a its.toArray from p) (x:=u) (by simpa using hu) λh' st' sb=>?_
  have I1:Inv X pins σ H { s with heap:=h' }:=I.turned (t':=s.toks) (λb o hb e=>(sb.2 b hb).trans e) f0 f1 f3 f4 f5
  obtain⟨o,e,c,d⟩:=id st';exact⟨u,rfl,CK (s:={ s with heap:=h' }) e c d (by decide) ⟨x,H,I1,ru,⟨rfl,λys hy=>by rw[I.I0 hy hq];exact hx⟩,st',λb hb=>(hf b hb).1⟩⟩
 done:=by
  intro X hP hw hK hc i pins s σ H E I hf st hg;subst hP hw hK;obtain⟨xs,hq,hx⟩:=hg;obtain⟨its,rv,p,hz⟩:=I.tuple hq;obtain⟨f0,f1,f2,f3,f4,f5⟩:=hf it (by simp)
  have hl:=rv.length;exact wpAny_pyNext_tuple_end (I.ok.hd hc) st (show s.heap.IsTuple a its.toArray from p) (by simp;omega) λh' eb=>⟨rfl,I.turned (t':=s.toks) (λb o hb e=>eb b o hb e) f0 f1 f3 f4 f5⟩
 self:=λ_ _ _ _ _ st h=>wpAny_pyIter_tupleiter st h
theorem FL {P:ma}{w:World}{K:cb}{tg:Expr}(it:Addr)(lo:Int)(n:Nat):Turn P w K tg (Itr lo n) [it] it (λi h=>IsRangeIter h it (lo+(i:Nat) * 1) ((n:Int) - (i:Nat)) 1) where
 mem:=by simp
 obj:=λi h st b hb=>by
  have e:b=it:=by simpa using hb
  subst e;exact⟨_,st,λv z=>by
   have z':Data.fields _=Data.cell v:=z;cases z'⟩
 keep:=λi h h' st k=>k it (by simp) _ st
 item:=by
  intro X hP hw hK hc i pins s σ H E I hf st hg;subst hP hw hK;obtain⟨f0,f1,f2,f3,f4,f5⟩:=hf it (by simp)
  have W:=Walks.range (prog:=X.prog) (w:=X.w) (I.ok.hd hc) it lo 1 n;refine W.item i s _ _ hg st λv h' tk hv st' kk=>?_
  obtain⟨t,rfl⟩:=hv;have I1:Inv X pins σ H { s with heap:=h',toks:=tk }:=I.turned (λb o hb e=>kk b o (by simpa using hb) e) f0 f1 f3 f4 f5
  refine⟨_,rfl,CK (s:={ s with heap:=h',toks:=tk }) (n:="range_iterator") st' rfl rfl (by decide) ⟨.int (lo+i),H,I1,⟨t,?_⟩,⟨rfl,rfl⟩,st',λb hb=>(hf b hb).1⟩⟩
  rw[Int.mul_one]
 done:=by
  intro X hP hw hK hc i pins s σ H E I hf st hg;subst hP hw hK;obtain⟨f0,f1,f2,f3,f4,f5⟩:=hf it (by simp)
  exact wpAny_pyNext_range_end (I.ok.hd hc) st (by have:n<=i:=hg;omega) λh' eb=>⟨rfl,I.turned (t':=s.toks) (λb o hb e=>eb b o hb e) f0 f1 f3 f4 f5⟩
 self:=λ_ _ _ _ _ st h=>wpAny_pyIter_rangeiter st h
section
variable{X:Cx}{tg:Expr}
def VM (K:cb)(tl:TE):TI:=λσ H R=>tl σ H λx H1=>∃a,x=.ref a/\(∃xs,SqL K H1 a xs)/\R (Itl K a) H1
def aaX (K:cb)(tl:TE):TI:=λσ H R=>tl σ H λx H1=>∃a,x=.ref a/\(∃xs,SqT K H1 a xs)/\R (Itt K a) H1
theorem sf {l:Expr}{tl:TE}(hl:PE X l tl):PI X tg l (VM X.K tl):=by
 intro pins s σ H R I h;refine thn (hl pins s σ H _ I h) λv s1 ⟨x,H1,I1,r1,q1⟩=>?_
 obtain⟨a,e,⟨xs,hq⟩,q⟩:=q1;subst e;cases r1;obtain⟨its,rv,p,hz⟩:=I1.list hq;refine wpAny_pyIter_list p.isList ?_;refine⟨s1.heap.objs.size,[s1.heap.objs.size],_,_,H1,rfl,I1.kept (t':=s1.toks) λb o e=>gc _ e,I9 a _,⟨_,tm _ rfl,rfl,rfl⟩,λb hb=>?_,q⟩
 have e:b=s1.heap.objs.size:=by simpa using hb
 subst e;exact I1.yC (km _) (I1.hok.fresh (km _))
theorem QE {l:Expr}{tl:TE}(hl:PE X l tl):PI X tg l (aaX X.K tl):=by
 intro pins s σ H R I h;refine thn (hl pins s σ H _ I h) λv s1 ⟨x,H1,I1,r1,q1⟩=>?_
 obtain⟨a,e,⟨xs,hq⟩,q⟩:=q1;subst e;cases r1;obtain⟨its,rv,p,hz⟩:=I1.tuple hq;refine wpAny_pyIter_tuple (show s1.heap.IsTuple a its.toArray from p) ?_
 refine⟨s1.heap.objs.size,[s1.heap.objs.size],_,_,H1,rfl,I1.kept (t':=s1.toks) λb o e=>gc _ e,FK a _,⟨_,tm _ rfl,rfl,rfl⟩,λb hb=>?_,q⟩
 have e:b=s1.heap.objs.size:=by simpa using hb
 subst e;exact I1.yC (km _) (I1.hok.fresh (km _))
theorem Ky {pins:List (Addr×Obj)}{σ:St}{H:Hp}{s:Shared}{R:It->Hp->Prop}{E:Value->Shared->Prop}{lo hi:Int}{t u v:Tok}{tk:Nat}(I:Inv X pins σ H s)(h1:-(2 ^ 62)<=lo)(h2:lo < 2 ^ 62)(h3:-(2 ^ 62)<=hi)(h4:hi < 2 ^ 62)
  (q:R (Itr lo (hi - lo).toNat) H):wpAny (model X.prog X.w) X.A (pyIter (.ref s.heap.objs.size)) (PIE X pins σ tg R) E { s with heap:=s.heap.push { cls:=.type "range",data:=.fields #[.int lo t,.int hi u,.int 1 v] },toks:=tk }:=by
 refine wpAny_pyIter_range (IsRange.new ..) (small_one h1 h2 h3 h4) ?_;have I1:Inv X pins σ H { s with heap:=s.heap.push { cls:=.type "range",data:=.fields #[.int lo t,.int hi u,.int 1 v] },toks:=tk }:=I.kept λb o e=>gc _ e
 refine⟨(s.heap.push { cls:=.type "range",data:=.fields #[.int lo t,.int hi u,.int 1 v] }).objs.size,[(s.heap.push { cls:=.type "range",data:=.fields #[.int lo t,.int hi u,.int 1 v] }).objs.size],_,_,H,rfl,
  I1.kept (t':=tk) λb o e=>gc _ e,FL _ lo (hi - lo).toNat,?_,λb hb=>?_,q⟩
 ·have e1:lo+((0:Nat):Int) * 1=lo:=by simp
  have e2:(((hi - lo).toNat:Nat):Int) - ((0:Nat):Int)=Builtin.Range.rangeSize lo hi 1:=by rw[rangeSize_one];split <;> omega
  show IsRangeIter _ _ (lo+((0:Nat):Int) * 1) ((((hi - lo).toNat:Nat):Int) - ((0:Nat):Int)) 1;rw[e1,e2];exact tm _ rfl
 ·have e:b=(s.heap.push { cls:=.type "range",data:=.fields #[.int lo t,.int hi u,.int 1 v] }).objs.size:=by simpa using hb
  subst e;exact I1.yC (km _) (I1.hok.fresh (km _))
def VN (ta:TA):TI:=λσ H R=>ta σ H λvs H1=>∃j:Int,vs=[.int j]/\-(2 ^ 62)<=j/\j < 2 ^ 62/\R (Itr 0 j.toNat) H1
theorem AE {a:Expr}{ta:TA}{p pos:Pos}(hg:Gl X "range")(hm:X.mg "range"=none)(ha:PA X [a] ta)(hs:si [a] X.env=[(false,eval a X.env)]:=by rfl):PI X tg (.Call (.Name "range" p) [a] [] pos) (VN ta):=by
 intro pins s σ H R I h;refine Call_ (Bt I hg hm boot_range (PyProof.Rows.callWith_type1 (thn (ha pos pins s σ H _ I h) λus s1 ⟨vs,H1,I1,r1,q1⟩=>?_) hs rfl))
 obtain⟨j,e,q1,q2,q⟩:=q1;subst e;cases r1 with
 |cons r rr =>
  cases rr;obtain⟨t,rfl⟩:=r;exact call_range_1 (Ky I1 (by omega) (by omega) q1 q2 (by simpa using q))
def VO (wi:TI)(g:TG)(tb:TS):TS:=λD σ H=>wi σ H λJ H1=>∃W:Nat->Nat->St->Hp->Prop,(∃m,W 0 m σ H1)/\∀i m σ H,W i m σ H ->
 (J.stop i H/\D.nx σ H)\/(J.go i H/\∃N:St->Hp->Prop,(∀σ' H',N σ' H'->∃m',m' < m/\W (i+1) m' σ' H')/\∀x H',J.yld i H x H'->g x σ H' λσ2 H2=>tb { D with nx:=N,ct:=N,bk:=D.nx } σ2 H2)
def yD (fp:List Addr)(h:Heap):List (Addr×Obj):=fp.filterMap λb=>(h.get? b).map λo=>(b,o)
theorem eY {fp:List Addr}{h:Heap}{b:Addr}{o:Obj}(hb:b∈fp)(e:h.get? b=some o):(b,o)∈yD fp h:=List.mem_filterMap.mpr ⟨b,hb,by rw[e];rfl⟩
theorem Ja {fp:List Addr}{h:Heap}{p:Addr×Obj}(hp:p∈yD fp h):p.1∈fp/\h.get? p.1=some p.2:=by
 obtain⟨b,hb,e⟩:=List.mem_filterMap.mp hp;cases q:h.get? b with
 |none=>rw[q]at e;cases e
 |some o =>
  rw[q]at e;have e':(b,o)=p:=adq e;subst e';exact⟨hb,q⟩
theorem Inv.pinned {pins:List (Addr×Obj)}{σ:St}{H:Hp}{s:Shared}{fp:List Addr}(I:Inv X pins σ H s)(hf:∀b∈fp,jG X pins H b)(ho:∀b∈fp,∃o,s.heap.get? b=some o/\∀v,o.data≠.cell v):Inv X (pins++yD fp s.heap) σ H s :=
 I.yo λp hp=>(List.mem_append.mp hp).elim (λz=>I.pin p (gp _ z)) λz=>by
  obtain⟨hb,e⟩:=Ja z;obtain⟨f0,f1,f2,_⟩:=hf p.1 hb;obtain⟨o,e',d⟩:=ho p.1 hb;rw[e]at e';cases e';exact⟨e,f0,f1,f2,d⟩
theorem Inv.fv {pins pl:List (Addr×Obj)}{σ:St}{H:Hp}{s:Shared}(I:Inv X (pins++pl) σ H s):Inv X pins σ H s:=I.yo λp hp=>I.pin p (gp _ (ad2 _ hp))
theorem FN {iter:Expr}{body:List Stmt}{wi:TI}{g:TG}{tb:TS}{pos:Pos}(hp:PassesOwn (model X.prog X.w) X.A X.env X.xe)(hc:X.calm=true)(hi:PI X tg iter wi)(hg:PG X tg g)(hb:PSs X body tb)
  (hs:∀x,foldedSetIterable iter X.env x=pure x:=by intro _;rfl):PS X (.For tg iter body [] pos) (VO wi g tb):=by
 intro pins s σ H D I h;refine wpAny_For (thn (hi pins s σ H _ I h) λv s1 h1=>thn h1 λitv s2 h2=>?_) hs
 obtain⟨it,fp,tn,J,H2,e,I2,T,st2,f2,W,⟨m0,w0⟩,turn⟩:=h2;subst e;have stat:∀ {H':Hp},(∀b∈fp,H' b=none)->∀b∈fp,jG X pins H' b:=λhn b hb=>⟨hn b hb,(f2 b hb).2⟩
 refine codeAny_forLoop_any (λn s'=>∃i σ' H',Inv X pins σ' H' s'/\tn i s'.heap/\(∀b∈fp,H' b=none)/\W i n σ' H') ?_ m0 ⟨0,σ,H2,I2,st2,λb hb=>(f2 b hb).1,w0⟩
 rintro n s3 ⟨i,σ3,H3,I3,st3,fr3,w3⟩;rcases turn i n σ3 H3 w3 with ⟨stop,qn⟩ | ⟨go,N,hN,step⟩
 ·refine wpAny_passesOwn hp (thn (T.done X rfl rfl rfl hc i pins s3 σ3 H3 X.xe I3 (stat fr3) st3 stop) λr s4 ⟨hr,I4⟩=>?_)
  subst hr;exact wpAny_execs_nil ⟨σ3,H3,I4,qn⟩
 ·refine wpAny_passesOwn hp (thn (T.item X rfl rfl rfl hc i pins s3 σ3 H3 X.xe I3 (stat fr3) st3 go) λr s4 ⟨u,hr,h4⟩=>?_)
  subst hr;refine wpAny_passesOwn hp (thn h4 λ_ s5 ⟨x,H5,I5,r5,y5,st5,fr5⟩=>?_)
  have I5':=I5.pinned (stat fr5) (T.obj _ _ st5);refine wpAny_passesOwn hp (thn (hg _ s5 σ3 H5 x u _ I5' r5 (step x H5 y5)) λ_ s6 ⟨σ6,H6,I6,q6⟩=>?_)
  refine wpAny_passesOwn hp (thn (hb _ s6 σ6 H6 _ I6 q6) λf s7 q7=>?_)
  have again:∀ {σ7:St} {H7:Hp},Inv X (pins++yD fp s5.heap) σ7 H7 s7->N σ7 H7->∃m,m < n/\∃i σ' H',Inv X pins σ' H' s7/\tn i s7.heap/\(∀b∈fp,H' b=none)/\W i m σ' H':=λ{σ7 H7} I7 n7=>by
   obtain⟨m',hm,w7⟩:=hN σ7 H7 n7;refine⟨m',hm,i+1,σ7,H7,I7.fv,T.keep _ _ _ st5 λb hb o e=>(I7.pin (b,o) (gp _ (gp _ (eY hb e)))).1,λb hb=>?_,w7⟩
   obtain⟨o,e,d⟩:=T.obj _ _ st5 b hb;exact(I7.pin (b,o) (gp _ (gp _ (eY hb e)))).2.1
  cases f with
  |next=>obtain⟨σ7,H7,I7,n7⟩:=q7;exact again I7 n7
  |cont=>obtain⟨σ7,H7,I7,n7⟩:=q7;exact again I7 n7
  |brk=>obtain⟨σ7,H7,I7,q7⟩:=q7;exact⟨σ7,H7,I7.fv,q7⟩
  |ret v=>obtain⟨x7,σ7,H7,I7,r7,q7⟩:=q7;exact⟨x7,σ7,H7,I7.fv,r7,q7⟩
end
theorem CL {K:cb}{a:Addr}{xs:List V}{g:TG}{tb:TS}{D:Ends}{σ:St}{H:Hp}(Pv:Nat->St->Hp->Prop)(h0:Pv 0 σ H)(hl:∀i σ H,i<=xs.length->Pv i σ H->SqL K H a xs)
  (hs:∀i x σ H,xs[i]?=some x->Pv i σ H->g x σ H λσ2 H2=>tb { D with nx:=Pv (i+1),ct:=Pv (i+1),bk:=D.nx } σ2 H2) (hd:∀σ H,Pv xs.length σ H->D.nx σ H) :
  ∃W:Nat->Nat->St->Hp->Prop,(∃m,W 0 m σ H)/\∀i m σ H,W i m σ H ->
   ((Itl K a).stop i H/\D.nx σ H)\/((Itl K a).go i H/\∃N:St->Hp->Prop,(∀σ' H',N σ' H'->∃m',m' < m/\W (i+1) m' σ' H')/\∀x H',(Itl K a).yld i H x H'->g x σ H' λσ2 H2=>tb { D with nx:=N,ct:=N,bk:=D.nx } σ2 H2):=by
 refine⟨λi m σ H=>m=xs.length - i/\i<=xs.length/\Pv i σ H,⟨xs.length,by simp,ad8 _,h0⟩,?_⟩
 rintro i m σ H ⟨rfl,hi,p⟩;have q:=hl i σ H hi p
 by_cases hlt:i < xs.length
 ·refine .inr ⟨⟨xs,xs[i],q,by simp[hlt]⟩,Pv (i+1),λσ' H' p'=>⟨xs.length - (i+1),by omega,rfl,hlt,p'⟩,λx H' y=>?_⟩
  obtain⟨e,y⟩:=y;subst e;exact hs i x σ _ (y xs q) p
 ·have e:i=xs.length:=by omega
  subst e;exact .inl ⟨⟨xs,q,km _⟩,hd σ H p⟩
theorem AF {lo:Int}{n:Nat}{g:TG}{tb:TS}{D:Ends}{σ:St}{H:Hp}(Pv:Nat->St->Hp->Prop)(h0:Pv 0 σ H)
  (hs:∀i σ H,i < n->Pv i σ H->g (.int (lo+i)) σ H λσ2 H2=>tb { D with nx:=Pv (i+1),ct:=Pv (i+1),bk:=D.nx } σ2 H2) (hd:∀σ H,Pv n σ H->D.nx σ H) :
  ∃W:Nat->Nat->St->Hp->Prop,(∃m,W 0 m σ H)/\∀i m σ H,W i m σ H ->
   ((Itr lo n).stop i H/\D.nx σ H)\/((Itr lo n).go i H/\∃N:St->Hp->Prop,(∀σ' H',N σ' H'->∃m',m' < m/\W (i+1) m' σ' H')/\∀x H',(Itr lo n).yld i H x H'->g x σ H' λσ2 H2=>tb { D with nx:=N,ct:=N,bk:=D.nx } σ2 H2):=by
 refine⟨λi m σ H=>m=n - i/\i<=n/\Pv i σ H,⟨n,by simp,ad8 _,h0⟩,?_⟩
 rintro i m σ H ⟨rfl,hi,p⟩
 by_cases hlt:i < n
 ·refine .inr ⟨hlt,Pv (i+1),λσ' H' p'=>⟨n - (i+1),by omega,rfl,hlt,p'⟩,λx H' y=>?_⟩
  obtain⟨e,y⟩:=y;subst e y;exact hs i σ _ hlt p
 ·have e:i=n:=by omega
  subst e;exact .inl ⟨km _,hd σ H p⟩
abbrev R2:=V->V->Hp->VK->Prop
def OpR (X:Cx)(f:Value->Value->Sem Value)(r:R2):Prop :=
 ∀(pins:List (Addr×Obj)) (s:Shared) (σ:St) (H:Hp) (x y:V) (v u:Value) (Q:VK),Inv X pins σ H s->RelV x v->RelV y u->r x y H Q ->
  wpAny (model X.prog X.w) X.A (f v u) (EP X pins σ Q) X.xe s
def UnR (X:Cx)(f:Value->Sem Value)(r:V->Hp->VK->Prop):Prop :=
 ∀(pins:List (Addr×Obj)) (s:Shared) (σ:St) (H:Hp) (x:V) (v:Value) (Q:VK),Inv X pins σ H s->RelV x v->r x H Q ->
  wpAny (model X.prog X.w) X.A (f v) (EP X pins σ Q) X.xe s
def iz (X:Cx)(f:Value)(r:List V->Hp->VK->Prop):Prop :=
 ∀(pins:List (Addr×Obj)) (s:Shared) (σ:St) (H:Hp) (xs:List V) (us:List Value) (Q:VK),Inv X pins σ H s->Vals xs us->r xs H Q ->
  wpAny (model X.prog X.w) X.A (call f us) (EP X pins σ Q) X.xe s
def aaY (X:Cx)(r:V->Hp->(Bool->Hp->Prop)->Prop):Prop :=
 ∀(pins:List (Addr×Obj)) (s:Shared) (σ:St) (H:Hp) (x:V) (v:Value) (Q:Bool->Hp->Prop),Inv X pins σ H s->RelV x v->r x H Q ->
  wpAny (model X.prog X.w) X.A (truthy v) (TP X pins σ Q) X.xe s
def tOp (r:R2)(ta tb:TE):TE:=λσ H Q=>ta σ H λx H1=>tb σ H1 λy H2=>r x y H2 Q
def tUn (r:V->Hp->VK->Prop)(ta:TE):TE:=λσ H Q=>ta σ H λx H1=>r x H1 Q
def rI (C:Int->Int->Prop)(g:Int->Int->V):R2:=λx y H Q=>∃i j,x=.int i/\y=.int j/\C i j/\Q (g i j) H
def rI0 (g:Int->Int->V):R2:=λx y H Q=>∃i j,x=.int i/\y=.int j/\Q (g i j) H
def rU (g:Int->V):V->Hp->VK->Prop:=λx H Q=>∃i,x=.int i/\Q (g i) H
section
variable{X:Cx}{a b c:Expr}{ta tb tc:TE}{pos:Pos}
theorem QF (ha:PE X a ta)(hb:PE X b tb){pins:List (Addr×Obj)}{s:Shared}{σ:St}{H:Hp}{R:V->V->Hp->Prop}(I:Inv X pins σ H s)
  (h:ta σ H λx H1=>tb σ H1 λy H2=>R x y H2) {Q:Value->Shared->Prop} {f:Value->Value->Sem Value}
  (hf:∀v u s2 x y H2,Inv X pins σ H2 s2->RelV x v->RelV y u->R x y H2->wpAny (model X.prog X.w) X.A (f v u) Q X.xe s2) :
  wpAny (model X.prog X.w) X.A (eval a X.env) (λv s₁=>wpAny (model X.prog X.w) X.A (eval b X.env) (λu s₂=>wpAny (model X.prog X.w) X.A (f v u) Q X.xe s₂) X.xe s₁) X.xe s:=by
 refine thn (ha pins s σ H _ I h) λv s1 ⟨x,H1,I1,r1,q1⟩=>?_
 refine thn (hb pins s1 σ H1 _ I1 q1) λu s2 ⟨y,H2,I2,r2,q2⟩=>?_
 exact hf v u s2 x y H2 I2 r1 r2 q2
theorem dj {op:Operator}{r:R2}(ho:OpR X (binaryOp op) r)(ha:PE X a ta)(hb:PE X b tb):PE X (.BinOp a op b pos) (tOp r ta tb):=by
 intro pins s σ H Q I h;exact wpAny_BinOp (QF ha hb I h λv u s2 x y H2 I2 rx ry q=>ho pins s2 σ H2 x y v u Q I2 rx ry q)
theorem yE {op:UnaryOp}{r:V->Hp->VK->Prop}(ho:UnR X (unaryOp op) r)(ha:PE X a ta):PE X (.UnaryOp op a pos) (tUn r ta):=by
 intro pins s σ H Q I h;exact UnaryOp_ (thn (ha pins s σ H _ I h) λv s1 ⟨x,H1,I1,r1,q1⟩=>ho pins s1 σ H1 x v Q I1 r1 q1)
theorem opI {f:Value->Value->Sem Value}{C:Int->Int->Prop}{g:Int->Int->Int}
  (rule:∀(i j:Int) (t u:Tok) (s:Shared) (Q:Value->Shared->Prop) (E:Value->Shared->Prop),C i j->Q (.int (g i j) s.toks) { s with toks:=s.toks+1 }->wpAny (model X.prog X.w) X.A (f (.int i t) (.int j u)) Q E s) :
  OpR X f (rI C λi j=>.int (g i j)):=by
 intro pins s σ H x y v u Q I rx ry h;obtain⟨i,j,rfl,rfl,hc,q⟩:=h;obtain⟨t,rfl⟩:=rx;obtain⟨t',rfl⟩:=ry;exact rule i j t t' s _ _ hc ⟨.int (g i j),H,I.tok _,⟨_,rfl⟩,q⟩
theorem aaZ {f:Value->Value->Sem Value}{g:Int->Int->Int}
  (rule:∀(i j:Int) (t u:Tok) (s:Shared) (Q:Value->Shared->Prop) (E:Value->Shared->Prop),Q (.int (g i j) s.toks) { s with toks:=s.toks+1 }->wpAny (model X.prog X.w) X.A (f (.int i t) (.int j u)) Q E s) :
  OpR X f (rI0 λi j=>.int (g i j)):=by
 intro pins s σ H x y v u Q I rx ry h;obtain⟨i,j,rfl,rfl,q⟩:=h;obtain⟨t,rfl⟩:=rx;obtain⟨t',rfl⟩:=ry;exact rule i j t t' s _ _ ⟨.int (g i j),H,I.tok _,⟨_,rfl⟩,q⟩
theorem NA {f:Value->Value->Sem Value}{g:Int->Int->Bool}
  (rule:∀(i j:Int) (t u:Tok) (s:Shared) (Q:Value->Shared->Prop) (E:Value->Shared->Prop),Q (.bool (g i j)) s->wpAny (model X.prog X.w) X.A (f (.int i t) (.int j u)) Q E s) :
  OpR X f (rI0 λi j=>.bl (g i j)):=by
 intro pins s σ H x y v u Q I rx ry h;obtain⟨i,j,rfl,rfl,q⟩:=h;obtain⟨t,rfl⟩:=rx;obtain⟨t',rfl⟩:=ry;exact rule i j t t' s _ _ ⟨.bl (g i j),H,I,rfl,q⟩
def aa0 (i j:Int):Prop:=0 < j/\j < 1073741824
def aa1 (i j:Int):Prop:=0<=j/\j<=1000000/\i.natAbs < 2 ^ 64
def QG (i j:Int):Prop:=(-(2 ^ 64) < i/\i < 2 ^ 64)\/(-(2 ^ 64) < j/\j < 2 ^ 64)
theorem QG.ok {i j:Int}(h:QG i j):IntMulOk i j:=by
 rcases h with ⟨h1,h2⟩ | ⟨h1,h2⟩
 ·exact .of_left (intBits_le_64 h1 h2)
 ·exact .of_right (intBits_le_64 h1 h2)
theorem pL:OpR X (binaryOp .Add) (rI0 λi j=>.int (i+j)):=aaZ λ_ _ _ _ _ _ _ q=>add_int q
theorem Bu:OpR X (binaryOp .Mult) (rI QG λi j=>.int (i * j)):=opI λ_ _ _ _ _ _ _ hc q=>mul_int q hc.ok
theorem Bv:OpR X (binaryOp .FloorDiv) (rI aa0 λi j=>.int (i / j)):=opI λi j _ _ _ _ _ hc q=>by
 have h1:(0:Int) < j:=hc.1;have h2:j < 1073741824:=hc.2;exact floordiv_int (by omega) (by rw[Int.fdiv_eq_ediv_of_nonneg i (by omega)];exact q) (.inl (PyProof.noPylong_small (by omega)))
theorem qM:OpR X (binaryOp .Mod) (rI (λ_ j=>0 < j) λi j=>.int (i % j)):=opI λi j _ _ _ _ _ hc q=>by
 have h1:(0:Int) < j:=hc;exact mod_int' (by omega) (by rw[Int.fmod_eq_emod_of_nonneg i (by omega)];exact q)
theorem QH:OpR X (binaryOp .Pow) (rI aa1 λi j=>.int (i ^ j.toNat)):=opI λ_ _ _ _ _ _ _ hc q=>pow_int_small hc.1 hc.2.1 hc.2.2 q
theorem unI {f:Value->Sem Value}{g:Int->Int}
  (rule:∀(i:Int) (t:Tok) (s:Shared) (Q:Value->Shared->Prop) (E:Value->Shared->Prop),Q (.int (g i) s.toks) { s with toks:=s.toks+1 }->wpAny (model X.prog X.w) X.A (f (.int i t)) Q E s) :
  UnR X f (rU λi=>.int (g i)):=by
 intro pins s σ H x v Q I rx h;obtain⟨i,rfl,q⟩:=h;obtain⟨t,rfl⟩:=rx;exact rule i t s _ _ ⟨.int (g i),H,I.tok _,⟨_,rfl⟩,q⟩
theorem tE:UnR X (unaryOp .USub) (rU λi=>.int (-i)):=unI λ_ _ _ _ _ q=>neg_int q
end
def VP:V->V->Bool
 | .non,.non=>true | .non,.int _=>true | .int _,.non=>true | .non,.bl _=>true | .bl _,.non=>true | .non,.str _=>true | .str _,.non=>true
 | .int _,.int _=>true | .bl _,.bl _=>true | .str _,.str _=>true | .byt _,.byt _=>true
 | .int _,.str _=>true | .str _,.int _=>true | .bl _,.str _=>true | .str _,.bl _=>true
 |_,_=>false
def rEq:R2:=λx y H Q=>VP x y=true/\Q (.bl (decide (x=y))) H
def rNe:R2:=λx y H Q=>VP x y=true/\Q (.bl (!decide (x=y))) H
theorem HV {i j:Int}:decide (V.int i=V.int j)=(i == j):=by
 rw[Bool.eq_iff_iff];simp
theorem Kz {i j:Bool}:decide (V.bl i=V.bl j)=(i == j):=by
 rw[Bool.eq_iff_iff];simp
theorem HW {i j:Str}:decide (V.str i=V.str j)=(i == j):=by
 rw[Bool.eq_iff_iff];simp
theorem HX {i j:Array UInt8}:decide (V.byt i=V.byt j)=(i.toList == j.toList):=by
 rw[Bool.eq_iff_iff];cases i;cases j;simp
section
variable{X:Cx}{a b c:Expr}{ta tb tc:TE}{pos:Pos}
theorem cY {pins:List (Addr×Obj)}{σ:St}{H:Hp}{s:Shared}{Q:VK}{k k':Bool}(I:Inv X pins σ H s)(q:Q (.bl k) H)(e:k=k'):EP X pins σ Q (.bool k') s:=by
 subst e;exact⟨.bl k,H,I,rfl,q⟩
theorem cS:OpR X (aei .Eq) rEq:=by
 intro pins s σ H x y v u Q I rx ry h;obtain⟨hs,q⟩:=h;cases x with
 |non =>
  cases rx;cases y with
  |non=>cases ry;exact PySem.EqNone.eq_none_none (cY I q (by simp))
  |bl j=>cases ry;exact PySem.EqNone.eq_none_bool (cY I q (by simp))
  |int j=>obtain⟨t',rfl⟩:=ry;exact PySem.EqNone.eq_none_int (cY I q (by simp))
  |str j=>obtain⟨t',rfl⟩:=ry;exact PySem.EqNone.eq_none_str (cY I q (by simp))
  |_=>exact absurd (show false=true from hs) ki
 |bl i =>
  cases rx;cases y with
  |non=>cases ry;exact PySem.EqNone.eq_bool_none (cY I q (by simp))
  |bl j=>cases ry;exact eq_bool (cY I q Kz)
  |str j=>obtain⟨t',rfl⟩:=ry;exact PySem.EqMixed.eq_bool_str (cY I q (by simp))
  |_=>exact absurd (show false=true from hs) ki
 |int i =>
  obtain⟨t,rfl⟩:=rx;cases y with
  |non=>cases ry;exact PySem.EqNone.eq_int_none (cY I q (by simp))
  |int j=>obtain⟨t',rfl⟩:=ry;exact eq_int (cY I q HV)
  |str j=>obtain⟨t',rfl⟩:=ry;exact PySem.EqMixed.eq_int_str (cY I q (by simp))
  |_=>exact absurd (show false=true from hs) ki
 |str i =>
  obtain⟨t,rfl⟩:=rx;cases y with
  |non=>cases ry;exact PySem.EqNone.eq_str_none (cY I q (by simp))
  |bl j=>cases ry;exact PySem.EqMixed.eq_str_bool (cY I q (by simp))
  |int j=>obtain⟨t',rfl⟩:=ry;exact PySem.EqMixed.eq_str_int (cY I q (by simp))
  |str j=>obtain⟨t',rfl⟩:=ry;exact eq_str (cY I q HW)
  |_=>exact absurd (show false=true from hs) ki
 |byt i =>
  obtain⟨t,rfl⟩:=rx;cases y with
  |byt j=>obtain⟨t',rfl⟩:=ry;exact PySem.W.eq_bytes (cY I q HX)
  |_=>exact absurd (show false=true from hs) ki
 |_=>cases y <;> exact absurd (show false=true from hs) ki
theorem HY:OpR X (aei .NotEq) rNe:=by
 intro pins s σ H x y v u Q I rx ry h;obtain⟨hs,q⟩:=h;cases x with
 |non =>
  cases rx;cases y with
  |non=>cases ry;exact PySem.EqNone.ne_none_none (cY I q (by simp))
  |bl j=>cases ry;exact PySem.EqNone.ne_none_bool (cY I q (by simp))
  |int j=>obtain⟨t',rfl⟩:=ry;exact PySem.EqNone.ne_none_int (cY I q (by simp))
  |str j=>obtain⟨t',rfl⟩:=ry;exact PySem.EqNone.ne_none_str (cY I q (by simp))
  |_=>exact absurd (show false=true from hs) ki
 |bl i =>
  cases rx;cases y with
  |non=>cases ry;exact PySem.EqNone.ne_bool_none (cY I q (by simp))
  |bl j=>cases ry;exact ne_bool (cY I q (congrArg not Kz))
  |str j=>obtain⟨t',rfl⟩:=ry;exact PySem.EqMixed.ne_bool_str (cY I q (by simp))
  |_=>exact absurd (show false=true from hs) ki
 |int i =>
  obtain⟨t,rfl⟩:=rx;cases y with
  |non=>cases ry;exact PySem.EqNone.ne_int_none (cY I q (by simp))
  |int j=>obtain⟨t',rfl⟩:=ry;exact ne_int (cY I q (congrArg not HV))
  |str j=>obtain⟨t',rfl⟩:=ry;exact PySem.EqMixed.ne_int_str (cY I q (by simp))
  |_=>exact absurd (show false=true from hs) ki
 |str i =>
  obtain⟨t,rfl⟩:=rx;cases y with
  |non=>cases ry;exact PySem.EqNone.ne_str_none (cY I q (by simp))
  |bl j=>cases ry;exact PySem.EqMixed.ne_str_bool (cY I q (by simp))
  |int j=>obtain⟨t',rfl⟩:=ry;exact PySem.EqMixed.ne_str_int (cY I q (by simp))
  |str j=>obtain⟨t',rfl⟩:=ry;exact ne_str (cY I q (congrArg not HW))
  |_=>exact absurd (show false=true from hs) ki
 |byt i =>
  obtain⟨t,rfl⟩:=rx;cases y with
  |byt j=>obtain⟨t',rfl⟩:=ry;exact PySem.W.ne_bytes (cY I q (congrArg not HX))
  |_=>exact absurd (show false=true from hs) ki
 |_=>cases y <;> exact absurd (show false=true from hs) ki
theorem KA:OpR X (aei .Lt) (rI0 λi j=>.bl (decide (i < j))):=NA λ_ _ _ _ _ _ _ q=>lt_int q
theorem HZ:OpR X (aei .LtE) (rI0 λi j=>.bl (decide (i<=j))):=NA λ_ _ _ _ _ _ _ q=>le_int q
theorem VQ:OpR X (aei .Gt) (rI0 λi j=>.bl (decide (j < i))):=NA λ_ _ _ _ _ _ _ q=>gt_int q
theorem VR:OpR X (aei .GtE) (rI0 λi j=>.bl (decide (j<=i))):=NA λ_ _ _ _ _ _ _ q=>ge_int q
theorem QI:OpR X (aei .Is) (λx y H Q=>y=.non/\Q (.bl (decide (x=.non))) H):=by
 intro pins s σ H x y v u Q I rx ry h;obtain⟨rfl,q⟩:=h;cases ry;refine is_none_gen (cY I q ?_);cases x <;> first
  | (cases rx;rfl)
  | (obtain⟨t,rfl⟩:=rx;rfl)
theorem OpR.or {f:Value->Value->Sem Value}{r r':R2}(h:OpR X f r)(h':OpR X f r'):OpR X f (λx y H Q=>r x y H Q\/r' x y H Q):=by
 intro pins s σ H x y v u Q I rx ry q;rcases q with q | q
 ·exact h pins s σ H x y v u Q I rx ry q
 ·exact h' pins s σ H x y v u Q I rx ry q
theorem bz (b:Expr){op:CmpOp}(h:op≠.In:=by decide)(h2:op≠.NotIn:=by decide):behindInMarks op b=false:=by
 have e1:(op == CmpOp.In)=false:=by cases op <;> first | rfl | exact absurd rfl h
 have e2:(op == CmpOp.NotIn)=false:=by cases op <;> first | rfl | exact absurd rfl h2
 cases b <;> simp[behindInMarks,e1,e2]
theorem nz {op:CmpOp}{r:R2}(ho:OpR X (aei op) r)(ha:PE X a ta)(hb:PE X b tb)(hm:behindInMarks op b=false):PE X (.Compare a [op] [b] pos) (tOp r ta tb):=by
 intro pins s σ H Q I h;exact wpAny_Compare1 (QF ha hb I h λv u s2 x y H2 I2 rx ry q=>ho pins s2 σ H2 x y v u Q I2 rx ry q) hm
def VS (t:TE):TT:=λσ H Q=>t σ H λx H'=>∃k,x=.bl k/\Q k H'
theorem a9 {op:CmpOp}{r:R2}(ho:OpR X (aei op) r)(ha:PE X a ta)(hb:PE X b tb)(hm:behindInMarks op b=false):PT X (.Compare a [op] [b] pos) (VS (tOp r ta tb)):=by
 intro pins s σ H Q I h;refine wpAny_isTrue_Compare1 (thn (ha pins s σ H _ I h) λv s1 ⟨x,H1,I1,r1,q1⟩=>thn (hb pins s1 σ H1 _ I1 q1) λu s2 ⟨y,H2,I2,r2,q2⟩ =>
  thn (ho pins s2 σ H2 x y v u _ I2 r1 r2 q2) λc s3 ⟨z,H3,I3,r3,k,e,q3⟩=>?_) hm
 subst e;cases r3;exact wpAny_truthy_bool ⟨H3,I3,q3⟩
def QJ (r r':R2)(ta tb tc:TE):TE:=λσ H Q=>ta σ H λx H1=>tb σ H1 λy H2=>r x y H2 λz H3=>∃k,z=.bl k /\
 (if k=true then tc σ H3 λw' H4=>r' y w' H4 Q else Q (.bl false) H3)
theorem KC {op op':CmpOp}{r r':R2}(ho:OpR X (aei op) r)(ho':OpR X (aei op') r')(ha:PE X a ta)(hb:PE X b tb)(hc:PE X c tc)
  (hm:lastMarks [op,op'] [b,c]=false:=by with_unfolding_all rfl):PE X (.Compare a [op,op'] [b,c] pos) (QJ r r' ta tb tc):=by
 intro pins s σ H Q I h;refine Compare_chain (thn (ha pins s σ H _ I h) λv s1 ⟨x,H1,I1,r1,q1⟩=>chain_link (thn (hb pins s1 σ H1 _ I1 q1) λu s2 ⟨y,H2,I2,r2,q2⟩ =>
  thn (ho pins s2 σ H2 x y v u _ I2 r1 r2 q2) λd s3 ⟨z,H3,I3,r3,k,e,q3⟩=>?_)) hm
 subst e;cases r3;refine wpAny_truthy_bool ?_;cases k with
 |false=>exact ite_ff ⟨.bl false,H3,I3,rfl,q3⟩
 |true=>exact ite_tt (chain_last (thn (hc pins s3 σ H3 _ I3 q3) λw' s4 ⟨z',H4,I4,r4,q4⟩=>ho' pins s4 σ H4 y z' u w' Q I4 r2 r4 q4))
def VT (K:cb)(x:V)(H:Hp)(k:Bool):Prop :=
 match x with
 | .non=>k=false
 | .bl b=>k=b
 | .int i=>k=(i != 0)
 | .str y=>y.length<=gn/\k=((y.length:Int) != 0)
 | .byt y=>y.size<=gn/\k=((y.size:Int) != 0)
 | .ref p=>(∃xs,SqL K H p xs/\k=!xs.isEmpty)\/(∃xs,SqT K H p xs/\k=!xs.isEmpty)\/∃kvs,H p=some (.dK kvs)/\k=!kvs.isEmpty
 |_=>False
theorem FO {κ:Type}{kvs:List (κ×V)}{vs:List (κ×Value)}(r:KV kvs vs):(!vs.isEmpty)=!kvs.isEmpty:=by
 cases r <;> rfl
theorem yF {xs:List V}{its:List Value}(r:Vals xs its):(!its.toArray.isEmpty)=!xs.isEmpty:=by
 cases r <;> simp
theorem vn:(gn:Nat) < 2 ^ 63:=by rw[sizeLine_eq];decide
theorem QK:aaY X (λx H Q=>∃k,VT X.K x H k/\Q k H):=by
 intro pins s σ H x v Q I rx h;obtain⟨k,e,q⟩:=h;have hl:=vn;have hs:gn=16777216:=sizeLine_eq;cases x with
 |non =>
  cases rx;have e':k=false:=e;subst e';exact truthy_none ⟨H,I,q⟩
 |bl b =>
  cases rx;have e':k=b:=e;subst e';exact wpAny_truthy_bool ⟨H,I,q⟩
 |int i =>
  obtain⟨t,rfl⟩:=rx;have e':k=(i != 0):=e;subst e';exact PySem.P.truthy_int ⟨H,I,q⟩
 |str y =>
  obtain⟨t,rfl⟩:=rx;obtain⟨hy,e'⟩:y.length<=gn/\k=((y.length:Int) != 0):=e;subst e';exact PySem.P.truthy_str (by omega) ⟨H,I.tok _,q⟩
 |byt y =>
  obtain⟨t,rfl⟩:=rx;obtain⟨hy,e'⟩:y.size<=gn/\k=((y.size:Int) != 0):=e;subst e';exact PySem.W.truthy_bytes (by omega) ⟨H,I.tok _,q⟩
 |ref p =>
  cases rx;have e':(∃xs,SqL X.K H p xs/\k=!xs.isEmpty)\/(∃xs,SqT X.K H p xs/\k=!xs.isEmpty)\/∃kvs,H p=some (.dK kvs)/\k=!kvs.isEmpty:=e;rcases e' with ⟨xs,hx,e'⟩ | ⟨xs,hx,e'⟩ | ⟨kvs,hx,e'⟩
  ·subst e';obtain⟨its,r,pl,hz⟩:=I.list hx;have hlen:=r.length;exact wpAny_truthy_list pl.isList (by simp only[ku];omega) ⟨H,I.tok _,by rw[yF r];exact q⟩
  ·subst e';obtain⟨its,r,pl,hz⟩:=I.tuple hx;have hlen:=r.length;exact truthy_tuple pl (by simp only[ku];omega) ⟨H,I.tok _,by rw[yF r];exact q⟩
  ·subst e';obtain⟨hz,hS,vs,r,m⟩:kvs.length<=gn/\(p == aeu)=false/\∃vs,KV kvs vs/\s.heap.DictOf (eI X.prog X.w) p vs:=I.hok p _ hx;have hlen:kvs.length=vs.length:=Paired.length r;exact wpAny_truthy_dict hS m (by omega) ⟨H,I.tok _,by rw[FO r];exact q⟩
 |_=>exact(show False from e).elim
theorem qN (ha:PE X a ta)(he:∀whole,isTrue a X.env whole=(do let v <-whole;standAt a.pos;holding [v] (truthy v))) :
  PT X a (λσ H Q=>ta σ H λx H'=>∃k,VT X.K x H' k/\Q k H'):=by
 intro pins s σ H Q I h;exact isTrue_plain (thn (ha pins s σ H _ I h) λv s1 ⟨x,H1,I1,r1,q1⟩=>QK pins s1 σ H1 x v Q I1 r1 q1) (he _)
theorem FP:OpR X (binaryOp .Add) (λx y H Q=>∃i j,x=.str i/\y=.str j/\i.length+j.length<=gn/\Q (.str (i++j)) H):=by
 intro pins s σ H x y v u Q I rx ry h;obtain⟨i,j,rfl,rfl,hz,q⟩:=h;obtain⟨t,rfl⟩:=rx;obtain⟨t',rfl⟩:=ry;exact add_str (λt' tk=>⟨.str (i++j),H,I.tok _,⟨_,rfl⟩,q⟩) hz
theorem vals1 {x:V}{us:List Value}(r:Vals [x] us):∃u,us=[u]/\RelV x u:=by
 cases r with
 |cons r1 r2=>cases r2;exact⟨_,rfl,r1⟩
theorem vals2 {x y:V}{us:List Value}(r:Vals [x,y] us):∃u w',us=[u,w']/\RelV x u/\RelV y w':=by
 cases r with
 |cons r1 r2 =>
  cases r2 with
  |cons r3 r4=>cases r4;exact⟨_,_,rfl,r1,r3⟩
theorem Jb (hc:X.calm=true):iz X (.builtin "max") (λxs H Q=>∃i j,xs=[.int i,.int j]/\Q (.int (if j > i then j else i)) H):=by
 intro pins s σ H xs us Q I r h;obtain⟨i,j,rfl,q⟩:=h;obtain⟨u,w',rfl,⟨t,rfl⟩,⟨t',rfl⟩⟩:=vals2 r;refine max_two_ints (I.ok.hd hc) λh' tk k=>⟨_,H,I.kept k,?_,q⟩
 by_cases hj:j > i
 ·rw[if_pos hj,if_pos hj];exact⟨_,rfl⟩
 ·rw[if_neg hj,if_neg hj];exact⟨_,rfl⟩
theorem AG:iz X (.type "int") (λxs H Q=>(∃i,xs=[.int i]/\Q (.int i) H)\/∃k,xs=[.bl k]/\Q (.int (if k then 1 else 0)) H):=by
 intro pins s σ H xs us Q I r h;rcases h with ⟨i,rfl,q⟩ | ⟨k,rfl,q⟩
 ·obtain⟨u,rfl,t,rfl⟩:=vals1 r;exact call_int_int ⟨.int i,H,I,⟨_,rfl⟩,q⟩
 ·obtain⟨u,rfl,r1⟩:=vals1 r;cases r1;exact call_int_bool ⟨.int (if k then 1 else 0),H,I.tok _,⟨_,rfl⟩,q⟩
theorem uq:iz X (.type "str") (λxs H Q=>∃i,xs=[.int i]/\i.natAbs.log2 < 1920/\Q (.str (toString i)) H):=by
 intro pins s σ H xs us Q I r h;obtain⟨i,rfl,hz,q⟩:=h;obtain⟨u,rfl,t,rfl⟩:=vals1 r;exact PySem.P.str_of_int hz ⟨.str _,H,I.tok _,⟨_,rfl⟩,q⟩
end
structure FQ (h:Heap)(x dx C:Addr)(mA:Str->Option Value):Prop where
 obj:h.get? x=some (adI C dx)
 ns:h.Ns1 dx mA
 ne:dx≠x
theorem AH {h:Heap}{dx:Addr}{mA:Str->Option Value}(n:h.Ns1 dx mA):∃od,h.get? dx=some od/\∀name,PySem.W.lookIn name od=some (mA name):=by
 obtain⟨o,es,ep,ho,hd,hk,_,hm⟩:=n;refine⟨o,ho,λname=>?_⟩
 have e:=hm name;unfold nsFind findBy at e;rw[<-Array.find?_toList]at e;unfold PySem.W.lookIn;rw[hd];dsimp only;split
 ·rename_i y q;rw[q]at e;exact congrArg some e
 ·rename_i q;rw[q]at e;have a:es.toList.any (·.refKey)=false:=by
   rw[List.any_eq_false];intro y hy;obtain⟨z,t,aa2⟩:=hk y (Array.mem_toList_iff.mp hy);simp[DictEntry.refKey,aa2]
  have a':¬es.toList.any (·.refKey)=true:=by rw[a];exact ki
  rw[if_neg a'];exact congrArg some e
theorem FQ.look {h:Heap}{x dx C:Addr}{mA:Str->Option Value}(I:FQ h x dx C mA):∃od,ael h x (adI C dx) C (some od)/\∀name,PySem.W.lookIn name od=some (mA name) :=
 let ⟨od,ho,hl⟩:=AH I.ns
 ⟨od,⟨I.obj,rfl,rfl,ho⟩,hl⟩
section
variable{prog:ma}{w:World}{A:Around}{E:Value->Shared->Prop}{s:Shared}{K:cb}{x dx C f:Addr}{mA:Str->Option Value}{name:Str}{v:Value}
theorem get_map {expr:Bool}{Q:Value->Shared->Prop}(X:K.In s.heap)(I:FQ s.heap x dx C mA)(hg:adJ K C name=true)(hh:adA K C=true)
  (ha:bo K (.ref C) name=some none) (hv:mA name=some v) (hv':PySem.W.handedIn v=true) (h:Q v { s with toks:=s.toks+1 }) :
  wpAny (model prog w) A (getAttr (.ref x) name expr) Q E s:=by
 obtain⟨od,J,hl⟩:=I.look;exact PySem.W.get_value X J (PySem.W.plainGet_of hg).1 (PySem.W.findObj_own hh ha rfl (by rw[hl,hv])) hv' h
theorem KD {pl:Sem Bool}{Q:Value×List Value->Shared->Prop}(X:K.In s.heap)(I:FQ s.heap x dx C mA)(hg:adJ K C name=true)
  (hf:bo K (.ref C) name=some (some (.ref f))) (ht:ko K (.ref f)=true) (hv:mA name=none) (h:Q (.ref f,[.ref x]) s) :
  wpAny (model prog w) A (getMethod (.ref x) name pl) Q E s:=by
 obtain⟨od,J,hl⟩:=I.look;exact PySem.W.method_fn X J (PySem.W.plainGet_of hg).1 (PySem.W.plainGet_of hg).2 hf (beq_iff_eq.mp ht) (by show (PySem.W.lookIn name od).map (·.isSome)=some false;rw[hl,hv];rfl) h
theorem NB {ns:List Str}{Q:Unit->Shared->Prop}(X:K.In s.heap)(I:FQ s.heap x dx C mA)
  (hs:bo K (.ref C) "__setattr__"=some (some (.builtin "object.__setattr__"))) (hp:adQ K C=true) (ht:PySem.W.takerIn K C name=some none) (hh:adA K C=true)
  (hw:PySem.Within mA ns) (hsz:ns.length<=gn)
  (h:∀h',FQ h' x dx C (λy=>if y=name then some v else mA y)->Heap.SameBut dx s.heap h'->Q () { s with heap:=h',toks:=s.toks+2 }) :
  wpAny (model prog w) A (setAttr (.ref x) name v) Q E s:=by
 obtain⟨od,J,hl⟩:=I.look;refine PySem.W.set_plain X J hs (PySem.W.osa_open (s:={ s with toks:=s.toks+1 }) (r:=none) X J hp ht λb=>?_)
 obtain⟨cd,hc,hd'⟩:=PySem.W.any_some hh;have hx:s.heap.get? x=some ⟨.ref C,some dx,.plain,#[]⟩:=I.obj;refine di (kx (di (di (wpAny_loadPart hx (di (PySem.W.Looks.here (s:={ s with toks:=s.toks+1 }) (PySem.W.looks_clsIn X hc) ?_))))))
 rw[hd'];refine kx (a:=some dx) (di (kx (di ?_)));refine wpAny_nsSet1 (s:={ s with toks:=s.toks+1 }) I.ns λh' hn2 hs2=>?_
 obtain⟨oD,esD,epD,hoD,hdD,hcD⟩:=hn2.count (PySem.Within.cons name v hw);refine di (wpAny_lookBehind hoD (by rw[hdD];exact pastItsLine_dict (me hcD (by rw[om];omega))) ?_)
 exact kx (h _ ⟨(hs2.2 _ (adz I.ne)).trans I.obj,hn2,I.ne⟩ hs2)
theorem KG {R:Result->Shared->Prop}{vs:List Value}{kw:List (Str×Value)}(X:K.In s.heap)(hm:adU K C=true)
  (hi:bo K (.ref C) "__init__"=some (some (.ref f))) (hf:PySem.W.typeIn K (.ref f)=some (.type "function"))
  (h:codeAny (model prog w) (A.under (.builtin "type.__call__" ⟨.ref C::vs,kw⟩)) (.call (.ref f) ⟨.ref (s.heap.objs.size+1)::vs,kw⟩) (PySem.W.InitBack (s.heap.objs.size+1) R)
   { s with heap:=(s.heap.push adD).push (adI C s.heap.objs.size) }) :
  codeAny (model prog w) A (.call (.ref C) ⟨vs,kw⟩) R s:=by
 obtain⟨hh,g,d,t,os⟩:=s;exact PySem.W.make_core (PySem.W.makes_of X hm) (aey X hi) (λself=>PySem.W.bind_fn X self hf) (.inl rfl) h
end
def gN (f:Str)(v:V):List (Str×V)->List (Str×V)
 |[]=>[(f,v)]
 | (g,x)::r=>if g=f then (g,v)::r else (g,x)::gN f v r
theorem wu (f g:Str)(v:V):∀fs:List (Str×V),(gN f v fs).lookup g=if g=f then some v else fs.lookup g
 |[]=>by
  show adR g [(f,v)]=_
  by_cases h:g=f
  ·have hb:(g == f)=true:=beq_iff_eq.mpr h;simp only[adR,hb,if_pos h]
  ·have hb:(g == f)=false:=beq_eq_false_iff_ne.mpr h;simp only[adR,hb,if_neg h]
 | (k,x)::r=>by
  have ih:=wu f g v r;rw[show gN f v ((k,x)::r)=(if k=f then (k,v)::r else (k,x)::gN f v r) from rfl]
  by_cases hk:k=f
  ·rw[if_pos hk]
   by_cases h:g=k
   ·have hb:(g == k)=true:=beq_iff_eq.mpr h;simp only[adR,hb,if_pos (h.trans hk)]
   ·have hb:(g == k)=false:=beq_eq_false_iff_ne.mpr h;simp only[adR,hb,if_neg (λe:g=f=>h (e.trans hk.symm))]
  ·rw[if_neg hk]
   by_cases h:g=k
   ·have hb:(g == k)=true:=beq_iff_eq.mpr h;simp only[adR,hb,if_neg (λe:g=f=>hk (h.symm.trans e))]
   ·have hb:(g == k)=false:=beq_eq_false_iff_ne.mpr h;simp only[adR,hb];exact ih
theorem vo (f:Str)(v:V):∀fs:List (Str×V),f∈(gN f v fs).map (·.1)/\∀g,g∈fs.map (·.1)->g∈(gN f v fs).map (·.1)
 |[]=>⟨by simp[gN],λg h=>by simp at h⟩
 | (k,x)::r=>by
  obtain⟨i1,i2⟩:=vo f v r;rw[show gN f v ((k,x)::r)=(if k=f then (k,v)::r else (k,x)::gN f v r) from rfl]
  by_cases hk:k=f
  ·rw[if_pos hk];subst hk;exact⟨by simp,λg h=>by simpa using h⟩
  ·rw[if_neg hk];refine⟨?_,λg h=>?_⟩
   ·rw[kg];exact kf _ i1
   ·rw[kg]at h ⊢;rcases List.mem_cons.mp h with e | e
    ·exact List.mem_cons.mpr (.inl e)
    ·exact kf _ (i2 g e)
theorem wy (f:Str)(v:V):∀fs:List (Str×V),(gN f v fs).length<=fs.length+1
 |[]=>by simp[gN]
 | (k,x)::r=>by
  have ih:=wy f v r;rw[show gN f v ((k,x)::r)=(if k=f then (k,v)::r else (k,x)::gN f v r) from rfl]
  by_cases hk:k=f
  ·rw[if_pos hk,om,om];omega
  ·rw[if_neg hk,om,om];omega
theorem oz.some_of {v:V}{o:Option Value}(r:oz (some v) o):∃u,o=some u/\RelV v u:=by
 cases o with
 |none=>exact(show False from r).elim
 |some u=>exact⟨u,rfl,r⟩
theorem oz.none_of {o:Option Value}(r:oz none o):o=none:=by
 cases o with
 |none=>rfl
 |some u=>exact(show False from r).elim
theorem Jc {v:V}{u:Value}(r:RelV v u):PySem.W.handedIn u=true:=by
 cases v with
 |non=>cases (show u=aet from r);rfl
 |bl b=>cases (show u=Value.bool b from r);rfl
 |int i=>obtain⟨t,e⟩:=(show ∃t,u=Value.int i t from r);cases e;rfl
 |str x=>obtain⟨t,e⟩:=(show ∃t,u=Value.str x t from r);cases e;rfl
 |byt b=>obtain⟨t,e⟩:=(show ∃t,u=Value.bytes b t from r);cases e;rfl
 |flt b=>obtain⟨t,e⟩:=(show ∃t,u=Value.float b t from r);cases e;rfl
 |ref a=>cases (show u=sr a from r);rfl
 |ty n=>cases (show u=Value.type n from r);rfl
section
variable{P:ma}{w:World}{H H':Hp}{h h':Heap}{a C dx:Addr}{fs fs':List (Str×V)}
theorem Bw (hok:HOk P w H h)(e:H a=some (.ins C dx fs)):∃mA,FQ h a dx C mA/\(∀f,oz (fs.lookup f) (mA f))/\PySem.Within mA (fs.map (·.1))/\fs.length<=1000/\H dx=some (.own a):=by
 obtain⟨d,z,ne,ob,mA,n,r,q⟩:=(show fq P w H h a (.ins C dx fs) from hok a _ e)
 exact⟨mA,⟨ob,n,ne⟩,r,q,z,d⟩
end
structure Cls (K:cb)(C:Addr):Prop where
 pg:adJ K C adE=true
 hd:adA K C=true
 po:adQ K C=true
 sa:bo K (.ref C) "__setattr__"=some (some (.builtin "object.__setattr__"))
theorem Cls.get {K:cb}{C:Addr}(c:Cls K C)(f:Str):adJ K C f=true:=c.pg
def eA (K:cb)(C:Addr)(f:Str):Prop:=bo K (.ref C) f=some none
theorem eA.VU {K:cb}{C:Addr}{f:Str}(n:eA K C f):PySem.W.takerIn K C f=some none:=by
 unfold PySem.W.takerIn;rw[show bo K (.ref C) f=some none from n]
 rfl
structure Con (K:cb)(C:Addr)(f:Str)(v:V)(u:Value):Prop where
 at_:bo K (.ref C) f=some (some u)
 rel:RelV v u
 get:aez K u "__get__"=some none
 cp:PySem.W.copiedNames.contains f=false
structure Meth (K:cb)(C:Addr)(m:Str)(f:Addr):Prop where
 at_:bo K (.ref C) m=some (some (.ref f))
 fn:ko K (.ref f)=true
 kp:de K (.ref f)=true
section
variable{X:Cx}{pins:List (Addr×Obj)}{σ:St}{H:Hp}{s:Shared}{a C dx:Addr}{fs:List (Str×V)}{f:Str}{v:V}{A:Around}{E:Value->Shared->Prop}
theorem FR {b:Bool}{Q:Value->Shared->Prop}(I:Inv X pins σ H s)(e:H a=some (.ins C dx fs))(c:Cls X.K C)(n:eA X.K C f)(l:fs.lookup f=some v)
  (h:∀u s',Inv X pins σ H s'->RelV v u->Q u s'):wpAny (model X.prog X.w) A (getAttr (.ref a) f b) Q E s:=by
 obtain⟨mA,O,r,_,_,_⟩:=Bw I.hok e;obtain⟨u,hu,ru⟩:=oz.some_of (v:=v) (o:=mA f) (by rw[<-l];exact r f)
 exact get_map I.kIn O (c.get f) c.hd n hu (Jc ru) (h u _ (I.tok _) ru)
theorem jL {m:Str}{g:Addr}{pl:Sem Bool}{Q:Value×List Value->Shared->Prop}(I:Inv X pins σ H s)(e:H a=some (.ins C dx fs))(c:Cls X.K C)(k:Meth X.K C m g)(l:fs.lookup m=none)
  (h:Q (.ref g,[.ref a]) s):wpAny (model X.prog X.w) A (getMethod (.ref a) m pl) Q E s:=by
 obtain⟨mA,O,r,_,_,_⟩:=Bw I.hok e;have hn:mA m=none:=oz.none_of (by rw[<-l];exact r m)
 exact KD I.kIn O (c.get m) k.at_ k.fn hn h
theorem FT {y:V}{u:Value}{Q:Unit->Shared->Prop}(I:Inv X pins σ H s)(e:H a=some (.ins C dx fs))(c:Cls X.K C)(n:eA X.K C f)(hl:fs.length < 1000)(ry:RelV y u)
  (h:∀s',Inv X pins σ (upd H a (.ins C dx (gN f y fs))) s'->Q () s'):wpAny (model X.prog X.w) A (setAttr (.ref a) f u) Q E s:=by
 obtain⟨mA,O,r,wi,_,ho⟩:=Bw I.hok e;have hz:(fs.map (·.1)).length<=gn:=by rw[da,sizeLine_eq];omega
 refine NB I.kIn O c.sa c.po n.VU c.hd wi hz λh' O' sb=>h _ ?_
 have hd:∃o,h'.get? dx=some o:=let ⟨o,_,_,e',_⟩:=O'.ns;⟨o,e'⟩
 refine I.write (x:=a) (e:=dx) (by rw[e];exact aeJ) (.inr ho) (λb q hb z=>(sb.2 b hb).trans z) hd ?_
 refine⟨by rw[aw O.ne];exact ho,?_,O.ne,O'.obj,_,O'.ns,λg=>?_,λg hg=>?_⟩
 ·have:=wy f y fs;omega
 ·show oz ((gN f y fs).lookup g) (if g=f then some u else mA g)
  rw[wu]
  by_cases q:g=f
  ·rw[if_pos q,if_pos q];exact ry
  ·rw[if_neg q,if_neg q];exact r g
 ·by_cases q:g=f
  ·rw[q];exact(vo f y fs).1
  ·refine(vo f y fs).2 g (wi g λz=>hg ?_)
   show (if g=f then some u else mA g)=none
   rw[if_neg q];exact z
theorem Inv.made (I:Inv X pins σ H s):Inv X pins σ (upd (upd H s.heap.objs.size (.own (s.heap.objs.size+1))) (s.heap.objs.size+1) (.ins C s.heap.objs.size []))
  { s with heap:=(s.heap.push adD).push (adI C s.heap.objs.size) }:=by
 have e1:(s.heap.push adD).get? s.heap.objs.size=some adD:=tm s.heap rfl;have e2:((s.heap.push adD).push (adI C s.heap.objs.size)).get? (s.heap.objs.size+1)=some (adI C s.heap.objs.size):=by
  have:=tm (s.heap.push adD) (o:=adI C s.heap.objs.size) rfl
  rwa [aeE]at this
 have e3:(s.heap.push adD).Ns s.heap.objs.size (λ_=>none):=⟨adD,#[],_,e1,rfl,(λe he=>absurd he (by simp)),λ_=>rfl⟩
 have I1:=I.laid (a:=s.heap.objs.size) (o:=.own (s.heap.objs.size+1)) (h':=s.heap.push adD) (t':=s.toks) (λb u q=>gc _ q) (km _) ⟨_,e1⟩
 refine I1.laid (a:=s.heap.objs.size+1) (o:=.ins C s.heap.objs.size []) (t':=s.toks) (λb u q=>gc _ q) (Nat.le_of_eq (aeE _ _)) ?_
 have ne:s.heap.objs.size≠s.heap.objs.size+1:=tu (Nat.lt_succ_self _);refine⟨by rw[aw ne,ah],ad8 _,ne,e2,λ_=>none,(Heap.Ns1.of_empty e3).at λo q=>gc _ q,λ_=>aeJ,λy hy=>absurd rfl hy⟩
theorem Ia {prog:ma}{w:World}{env:Env}{e:Expr}{f:Str}{pos:Pos}{s:Shared}{Q:Value->Shared->Prop}(hb:attributeBase e f env (eval e env)=eval e env)
  (h:wpAny (model prog w) A (eval e env) (λo s₁=>wpAny (model prog w) A (getAttr o f true) Q E s₁) E s):wpAny (model prog w) A (eval (.Attribute e f pos) env) Q E s :=
 Attribute_any_ h (by rw[arm_eval_Attribute,hb])
end
def VV (K:cb)(ta:TE)(f:Str):TE:=λσ H Q=>ta σ H λx H1=>∃a C dx fs v,x=.ref a/\H1 a=some (.ins C dx fs)/\Cls K C/\eA K C f/\fs.lookup f=some v/\Q v H1
def aa3 (K:cb)(ta tv:TE)(f:Str):TS:=λD σ H=>tv σ H λy H1=>ta σ H1 λx H2=>∃a C dx fs,x=.ref a/\H2 a=some (.ins C dx fs)/\Cls K C/\eA K C f/\fs.length < 1000 /\
 D.nx σ (upd H2 a (.ins C dx (gN f y fs)))
section
variable{X:Cx}{o e value:Expr}{f:Str}{pos pos' aa4:Pos}{ta tv:TE}
theorem bp (he:PE X e ta)(hb:attributeBase e f X.env (eval e X.env)=eval e X.env):PE X (.Attribute e f pos) (VV X.K ta f):=by
 intro pins s σ H Q I h;refine Ia hb (thn (he pins s σ H _ I h) λu s1 ⟨x,H1,I1,rx,a,C,dx,fs,v,ex,ea,c,n,l,q⟩=>?_)
 subst ex;obtain rfl:u=sr a:=rx;exact FR I1 ea c n l λu' s2 I2 ru=>⟨v,H1,I2,ru,q⟩
theorem fw (ha:PE X o ta)(hv:PE X value tv)(hs:swapsWith value (some (.Attribute o f pos')) pos.line X.env=pure false):PS X (.Assign [.Attribute o f pos'] value pos) (aa3 X.K ta tv f):=by
 intro pins s σ H D I h;refine plainObj_wpAny_Assign_Attribute (thn (hv pins s σ H _ I h) λu s1 ⟨y,H1,I1,ry,q⟩=>thn (ha pins s1 σ H1 _ I1 q) λov s2 ⟨x,H2,I2,rx,a,C,dx,fs,ex,ea,c,n,l,q2⟩=>?_) hs
 subst ex;obtain rfl:ov=sr a:=rx;exact FT I2 ea c n l ry λs3 I3=>⟨σ,_,I3,q2⟩
theorem Pa {pl:Sem Bool}{m:Str}{apos:Pos}{args:List Expr}{pins:List (Addr×Obj)}{s:Shared}{σ:St}{H:Hp}{Q:Value->Shared->Prop}{te:TE}(he:PE X e te)(I:Inv X pins σ H s)
  (h:te σ H λx H1=>∃a C dx fs g,x=.ref a/\H1 a=some (.ins C dx fs)/\Cls X.K C/\Meth X.K C m g/\fs.lookup m=none /\
   ∀s1,Inv X pins σ H1 s1->wpAny (model X.prog X.w) X.A (callWith pos (.ref g) [.ref a] (backTo pos (si args X.env)) (backToKw pos (keywordEach [] X.env))) Q X.xe s1)
  (ht:eval (.Call (.Attribute e m apos) args [] pos) X.env=(do
   let ov <-eval e X.env
   standAt apos.atName
   let (f,first) <-holding [ov] (getMethod ov m pl)
   callWith pos f first (backTo pos (si args X.env)) (backToKw pos (keywordEach [] X.env)))) :
  wpAny (model X.prog X.w) X.A (eval (.Call (.Attribute e m apos) args [] pos) X.env) Q X.xe s:=by
 refine ad6 (pl:=pl) (thn (he pins s σ H _ I h) λu s1 ⟨x,H1,I1,rx,a,C,dx,fs,g,ex,ea,c,k,l,q⟩=>?_) ht
 subst ex;obtain rfl:u=sr a:=rx;exact jL I1 ea c k l (q s1 I1)
end
section
variable{X:Cx}{pins:List (Addr×Obj)}{σ:St}{H:Hp}{s:Shared}{A:Around}{E:Value->Shared->Prop}{Q:Value->Shared->Prop}{c:Value}{b:Bool}
inductive yG (K:cb)(H:Hp):V->Value->Prop where
 |non:yG K H .non (.type "NoneType")
 |bl (x:Bool):yG K H (.bl x) (.type "bool")
 |int (i:Int):yG K H (.int i) (.type "int")
 |str (x:Str):yG K H (.str x) (.type "str")
 |flt (x:UInt64):yG K H (.flt x) (.type "float")
 |lst {a:Addr} {xs:List V} (e:H a=some (.lst xs)):yG K H (.ref a) (.type "list")
 |frz {a:Addr} {o:Obj} {xs:List V} (e:H a=some (.frz o (.lst xs))):yG K H (.ref a) (.type "list")
 |tup {a:Addr} {xs:List V} (e:H a=some (.tup xs)):yG K H (.ref a) (.type "tuple")
 |dK {a:Addr} {kvs:List (Key×V)} (e:H a=some (.dK kvs)):yG K H (.ref a) (.type "dict")
 |dT {a:Addr} {kvs:List (List Key×V)} (e:H a=some (.dT kvs)):yG K H (.ref a) (.type "dict")
 |ins {a C dx:Addr} {fs:List (Str×V)} (e:H a=some (.ins C dx fs)) (cl:Cls K C) (ha:bo K (.ref C) "__class__"=some (some (.builtin "object.__class__")))
   (hn:aez K (.builtin "object.__class__") "__get__"=some (some (.builtin "getset_descriptor.__get__"))) (htk:PySem.W.takesIn K (.builtin "object.__class__")=some true)
   (hm:adu K C (.type "object")=some true):yG K H (.ref a) (.ref C)
end
structure Room (k:Nat)(A:Around):Prop where
 hd:A.handled=none
 dp:A.depth+3 * k+5 < recursionLimit
 un:A.units+16 * k+200 < cLine
 gd:A.guards=some []
theorem Room.mono {j k:Nat}{A:Around}(r:Room k A)(h:j<=k):Room j A:=⟨r.hd,by have:=r.dp;omega,by have:=r.un;omega,r.gd⟩
theorem Room.deeper {k:Nat}{A:Around}(r:Room (k+1) A)(env:Env):Room k (A.deeper env) :=
 ⟨r.hd,by have:=r.dp;show A.depth+1+3 * k+5 < _;omega,by have:=r.un;show A.units+3+16 * k+200 < _;omega,r.gd⟩
theorem Room.in1 {k:Nat}{A:Around}(r:Room (k+1) A):Room k A.in1 :=
 ⟨r.hd,by have:=r.dp;show A.depth+3 * k+5 < _;omega,by have:=r.un;show A.units+1+16 * k+200 < _;omega,r.gd⟩
theorem FU {A:Around}{C:Addr}{us:List Value}{kw:List (Str×Value)}:(A.under (.builtin "type.__call__" ⟨.ref C::us,kw⟩)).depth=A.depth+1:=by
 first | rfl | simp[Around.under,Code.weight,Code.isCreation,Code.isGuard,Code.isCaller,Code.frames,Code.isFrame,guardIds]
theorem FV {A:Around}{C:Addr}{us:List Value}{kw:List (Str×Value)}:(A.under (.builtin "type.__call__" ⟨.ref C::us,kw⟩)).units=A.units+1:=by
 first | rfl | simp[Around.under,Code.cUnits,Code.frames,Code.isFrame]
theorem Room.make {k:Nat}{A:Around}(r:Room (k+1) A)(C:Addr)(us:List Value)(kw:List (Str×Value)):Room k (A.under (.builtin "type.__call__" ⟨.ref C::us,kw⟩)) :=
 ⟨r.hd,by have:=r.dp;rw[FU];omega,by have:=r.un;rw[FV];omega,by
  have g:=r.gd
  first | exact g | simp[Around.under,Code.guards,Code.isGuard,guardIds,pushGuards,g]⟩
theorem Room.depth {k:Nat}{A:Around}(r:Room k A):A.depth < recursionLimit:=by have:=r.dp;omega
theorem Room.units {k:Nat}{A:Around}(r:Room k A):A.units+64 < cLine:=by have:=r.un;omega
def QL:TA:=λ_ H Q=>Q [] H
def Pb (ta:TE)(tr:TA):TA:=λσ H Q=>ta σ H λx H1=>tr σ H1 λxs H2=>Q (x::xs) H2
section
variable{X:Cx}{e:Expr}{es:List Expr}{te:TE}{t:TA}{pos:Pos}
theorem af:PA X [] QL:=λ_ _ _ _ H Q I h=>Calls.spliced_nil ⟨[],H,I,.nil,h⟩
theorem aa (ha:PE X e te)(hr:PA X es t)(hs:si (e::es) X.env=(false,eval e X.env)::si es X.env:=by rfl):PA X (e::es) (Pb te t):=by
 intro pos pins s σ H Q I h;rw[hs];show wpAny _ _ (spliced ((false,eval e X.env)::backTo pos (si es X.env))) _ _ s;refine Calls.spliced_cons (thn (ha pins s σ H _ I h) λu s1 ⟨x,H1,I1,r1,q1⟩=>?_)
 exact thn (hr pos pins s1 σ H1 _ I1 q1) λus s2 ⟨xs,H2,I2,r2,q2⟩=>⟨x::xs,H2,I2,.cons r1 r2,q2⟩
def VW (t:TA):TE:=λσ H Q=>t σ H λxs H1=>xs.length<=gn/\∀p,H1 p=none->Q (.ref p) (upd H1 p (.tup xs))
def VX (t:TA):TE:=λσ H Q=>t σ H λxs H1=>xs.length<=gn/\∀p,H1 p=none->Q (.ref p) (upd H1 p (.lst xs))
theorem aG {x1}(h:PA X es t):PE X (.Tuple es x1 pos) (VW t):=by
 intro pins s σ H Q I hq;refine wpAny_Tuple_spliced (thn (h pos pins s σ H _ I hq) λus s1 ⟨xs,H1,I1,r,z,q⟩=>⟨by rw[<-r.length];exact z,?_⟩)
 have hf:H1 s1.heap.objs.size=none:=I1.hok.fresh (km _);refine⟨.ref s1.heap.objs.size,upd H1 s1.heap.objs.size (.tup xs),I1.laid (t':=s1.toks) (λb u e=>gc _ e) (km _) ?_,rfl,q _ hf⟩
 exact⟨z,us,r,⟨_,tm _ rfl,rfl,_,rfl⟩⟩
theorem bO (h:PA X es t):PE X (.List es pos) (VX t):=by
 intro pins s σ H Q I hq;refine wpAny_List_spliced (thn (h pos pins s σ H _ I hq) λus s1 ⟨xs,H1,I1,r,z,q⟩=>⟨by rw[<-r.length];exact z,?_⟩)
 have hf:H1 s1.heap.objs.size=none:=I1.hok.fresh (km _);refine⟨.ref s1.heap.objs.size,upd H1 s1.heap.objs.size (.lst xs),I1.laid (t':=s1.toks) (λb u e=>gc _ e) (km _) ?_,rfl,q _ hf⟩
 exact⟨z,us,0,r,tm _ rfl⟩
end
abbrev Sp:=List V->Hp->VK->XK->Prop
abbrev CXT:=List Env->Hp->Shared->XK->Value->Shared->Prop
structure Ac (P:ma)(w:World)(K:cb)(mg:Str->Option Value)(base:Heap)(A:Around)(outer:List Env)(s:Shared)(H:Hp):Prop where
 frames:A.frames=some outer
 mod:Mod K mg base
 bs:∀b o,base.get? b=some o->s.heap.get? b=some o/\H b=none
 bsz:base.objs.size<=s.heap.objs.size
 tD:s.heap.FunFrames base outer
 frf:∀b∈frs outer,H b=none
 hok:HOk P w H s.heap
 bare:AllBare s.gens
def CE (outer:List Env)(P:ma)(w:World)(H:Hp)(s:Shared)(Q:VK)(u:Value)(s':Shared):Prop :=
 ∃v H',s'.os=s.os/\AllBare s'.gens/\Un (frs outer) [] H H' s.heap s'.heap/\HOk P w H' s'.heap/\RelV v u/\Q v H'
def CR (CX:CXT)(outer:List Env)(P:ma)(w:World)(H:Hp)(s:Shared)(Q:VK)(E:XK)(r:Result)(s':Shared):Prop :=
 match r with
 | .ok (.ret u)=>CE outer P w H s Q u s'
 | .ok _=>False
 | .error e=>CX outer H s E e s'
structure a8 (P:ma)(w:World)(K:cb)(mg:Str->Option Value)(base:Heap)(CX:CXT)(k:Nat)(f:Addr)(fd:kb)(ps:List Str)(sp:Sp):Prop where
 len:∀vs H Q E,sp vs H Q E->vs.length=ps.length
 run:∀(A:Around) (outer:List Env) (s:Shared) (H:Hp) (args:Args) (us:List Value) (vs:List V) (Q:VK) (E:XK),Room k A->Ac P w K mg base A outer s H->BindsTo s fd args (ps.zip us)->Vals vs us->sp vs H Q E ->
  codeAny (model P w) A (.call (.ref f) args) (CR CX outer P w H s Q E) s
theorem a8.mono {P:ma}{w:World}{K:cb}{mg:Str->Option Value}{base:Heap}{CX:CXT}{j k:Nat}{f:Addr}{fd:kb}{ps:List Str}{sp:Sp}(F:a8 P w K mg base CX j f fd ps sp)(h:j<=k) :
  a8 P w K mg base CX k f fd ps sp:=⟨F.len,λA outer s H args us vs Q E hr=>F.run A outer s H args us vs Q E (hr.mono h)⟩
theorem a8.imp {P:ma}{w:World}{K:cb}{mg:Str->Option Value}{base:Heap}{CX:CXT}{k:Nat}{f:Addr}{fd:kb}{ps:List Str}{sp sp':Sp}(F:a8 P w K mg base CX k f fd ps sp)
  (h:∀vs H Q E,sp' vs H Q E->sp vs H Q E):a8 P w K mg base CX k f fd ps sp' :=
 ⟨λvs H Q E q=>F.len vs H Q E (h _ _ _ _ q),λA outer s H args us vs Q E hr he hb hv hs=>F.run A outer s H args us vs Q E hr he hb hv (h _ _ _ _ hs)⟩
theorem Ac.make {P:ma}{w:World}{K:cb}{mg:Str->Option Value}{base:Heap}{A:Around}{outer:List Env}{s:Shared}{H:Hp}(e:Ac P w K mg base A outer s H)(C:Addr)(us:List Value)(kw:List (Str×Value)) :
  Ac P w K mg base (A.under (.builtin "type.__call__" ⟨.ref C::us,kw⟩)) outer s H:=⟨by first | exact e.frames | (simpa [Around.under,Code.envs,Code.isFrame,pushEnvs] using e.frames),e.mod,e.bs,e.bsz,e.tD,e.frf,e.hok,e.bare⟩
theorem Ac.in1 {P:ma}{w:World}{K:cb}{mg:Str->Option Value}{base:Heap}{A:Around}{outer:List Env}{s:Shared}{H:Hp}(e:Ac P w K mg base A outer s H) :
  Ac P w K mg base A.in1 outer s H:=⟨e.frames,e.mod,e.bs,e.bsz,e.tD,e.frf,e.hok,e.bare⟩
section
variable{X:Cx}{pins:List (Addr×Obj)}{σ:St}{H:Hp}{s s':Shared}
theorem Inv.NC (I:Inv X pins σ H s):Ac X.prog X.w X.K X.mg X.base X.A X.stack s H :=
 ⟨I.ok.frames,I.ok.mod,I.bs,me I.ok.bsz I.sz,I.stack,I.Bs,I.hok,I.bare⟩
theorem Inv.after {Q:VK}{u:Value}(I:Inv X pins σ H s)(h:CE X.stack X.prog X.w H s Q u s'):EP X pins σ Q u s':=by
 obtain⟨v,H',os,bare,un,hok,r,q⟩:=h;obtain⟨hh,g,d,t,os'⟩:=s';obtain rfl:os'=s.os:=os;exact⟨v,H',I.call (h':=hh) (g':=g) (d':=d) (t':=t) (ch:=[]) un hok bare (λb z=>absurd z (by simp)),r,q⟩
end
def VY (sp:Sp)(dvs:List V)(E:XK)(t:TA):TE:=λσ H Q=>t σ H λvs H1=>sp (vs++dvs) H1 Q E
def Pc (C:Addr)(m:Str)(sp:Sp)(dvs:List V)(E:XK)(ta:TE)(t:TA):TE:=λσ H Q=>ta σ H λx H1=>∃a dx fs,x=.ref a/\H1 a=some (.ins C dx fs)/\fs.lookup m=none /\
 t σ H1 λvs H2=>sp (x::(vs++dvs)) H2 Q E
def VZ (C:Addr)(sp:Sp)(dvs:List V)(E:XK)(t:TA):TE:=λσ H Q=>t σ H λvs H1=>∀x dx,H1 x=none->H1 dx=none->dx≠x ->
 sp (.ref x::(vs++dvs)) (upd (upd H1 dx (.own x)) x (.ins C dx [])) (λv H2=>v=.non/\Q (.ref x) H2) E
def Binds (K:cb)(fd:kb)(ps:List Str)(ds:List Value):Prop :=
 ∀(s:Shared) (us:List Value),K.In s.heap->(us++ds).length=ps.length->BindsTo s fd ⟨us,[]⟩ (ps.zip (us++ds))
theorem Binds.all {K:cb}{fd:kb}{ps:List Str}(h:∀us:List Value,us.length=ps.length->bindArgs fd ⟨us,[]⟩=pure (ps.zip us)):Binds K fd ps []:=λs us _ hl=>by
 rw[aex]at hl ⊢;exact .of_eq (h us hl)
def Passes (CX:CXT)(X:Cx)(E:XK):Prop:=∀(pins:List (Addr×Obj)) (σ:St) (H:Hp) (s:Shared) (e:Value) (s':Shared),Inv X pins σ H s->CX X.stack H s E e s'->X.xe e s'
section
variable{X:Cx}{CX:CXT}{k:Nat}{f C:Addr}{fd:kb}{ps:List Str}{sp:Sp}{dvs:List V}{ds:List Value}{E:XK}{x m:Str}{p pos apos:Pos}{e o:Expr}{es:List Expr}{ta:TE}{t:TA}
theorem Bx {pins:List (Addr×Obj)}{σ:St}{H:Hp}{s:Shared}{Q:VK}{us:List Value}{vs:List V}(F:a8 X.prog X.w X.K X.mg X.base CX k f fd ps sp)(hr:Room k X.A)(hb:Binds X.K fd ps ds)(hd:Vals dvs ds)(hx:Passes CX X E)
  (I:Inv X pins σ H s) (r:Vals vs us) (h:sp (vs++dvs) H Q E):wpAny (model X.prog X.w) X.A (call (.ref f) us) (EP X pins σ Q) X.xe s:=by
 have r2:Vals (vs++dvs) (us++ds):=r.append hd;have hl:(us++ds).length=ps.length:=by rw[<-r2.length];exact F.len _ _ _ _ h
 refine wpAny_call (codeAny_mono (F.run X.A X.stack s H ⟨us,[]⟩ (us++ds) (vs++dvs) Q E hr I.NC (hb s us I.kIn hl) r2 h) λr s' hq=>?_)
 cases r with
 |error e=>exact hx pins σ H s e s' I hq
 |ok fl =>
  cases fl with
  |ret u=>exact I.after hq
  |next=>exact adw hq
  |brk=>exact adw hq
  |cont=>exact adw hq
theorem bY (F:a8 X.prog X.w X.K X.mg X.base CX k f fd ps sp)(hr:Room k X.A)(hg:Gl X x)(hm:X.mg x=some (.ref f))(hk:de X.K (.ref f)=true)(hb:Binds X.K fd ps ds)(hd:Vals dvs ds)(hx:Passes CX X E)
  (ha:PA X (e::es) t) (hdb:(x == ("__debug__":Str))=false:=by decide) (he:si (e::es) X.env=(false,eval e X.env)::si es X.env:=by rfl) (hpl:(backTo pos (si es X.env)).any (·.1)=false:=by rfl) :
  PE X (.Call (.Name x p) (e::es) [] pos) (VY sp dvs E t):=by
 intro pins s σ H Q I h;refine wpAny_Call_Name_kw (lU I hg hm ?_ hdb);refine aeK (h₀:=X.base) I.ok.mod.kin hk (thn (ha pos pins s σ H _ I h) λus s1 ⟨vs,H1,I1,r,q⟩=>⟨I1.kIn,?_⟩) he hpl
 exact Bx F hr hb hd hx I1 r q
theorem kB {pl:Sem Bool}(he:PE X o ta)(c:Cls X.K C)(hm:Meth X.K C m f)(F:a8 X.prog X.w X.K X.mg X.base CX k f fd ps sp)(hr:Room k X.A)(hb:Binds X.K fd ps ds)(hd:Vals dvs ds)(hx:Passes CX X E)(ha:PA X (e::es) t)
  (hst:si (e::es) X.env=(false,eval e X.env)::si es X.env:=by rfl) (hpl:(backTo pos (si es X.env)).any (·.1)=false:=by rfl)
  (ht:eval (.Call (.Attribute o m apos) (e::es) [] pos) X.env=(do
   let ov <-eval o X.env
   standAt apos.atName
   let (f,first) <-holding [ov] (getMethod ov m pl)
   callWith pos f first (backTo pos (si (e::es) X.env)) (backToKw pos (keywordEach [] X.env))):=by rfl) :
  PE X (.Call (.Attribute o m apos) (e::es) [] pos) (Pc C m sp dvs E ta t):=by
 intro pins s σ H Q I h;refine ad6 (pl:=pl) (thn (he pins s σ H _ I h) λu s1 ⟨x,H1,I1,rx,a,dx,fs,ex,ea,l,q⟩=>?_) ht
 subst ex;obtain rfl:u=sr a:=rx;refine jL I1 ea c hm l ?_;refine aeK (first:=[.ref a]) (h₀:=X.base) I.ok.mod.kin hm.kp (thn (ha pos pins s1 σ H1 _ I1 q) λus s2 ⟨vs,H2,I2,r,q2⟩=>⟨I2.kIn,?_⟩) hst hpl
 exact Bx (us:=.ref a::us) (vs:=.ref a::vs) F hr hb hd hx I2 (.cons rfl r) q2
theorem fA {pl:Sem Bool}(he:PE X o ta)(c:Cls X.K C)(hm:Meth X.K C m f)(F:a8 X.prog X.w X.K X.mg X.base CX k f fd ps sp)(hr:Room k X.A)(hb:Binds X.K fd ps ds)(hd:Vals dvs ds)(hx:Passes CX X E)
  (ht:eval (.Call (.Attribute o m apos) [] [] pos) X.env=(do
   let ov <-eval o X.env
   standAt apos.atName
   let (f,first) <-holding [ov] (getMethod ov m pl)
   callWith pos f first (backTo pos (si [] X.env)) (backToKw pos (keywordEach [] X.env))):=by rfl) :
  PE X (.Call (.Attribute o m apos) [] [] pos) (Pc C m sp dvs E ta QL):=by
 intro pins s σ H Q I h;refine ad6 (pl:=pl) (thn (he pins s σ H _ I h) λu s1 ⟨x,H1,I1,rx,a,dx,fs,ex,ea,l,q⟩=>?_) ht
 subst ex;obtain rfl:u=sr a:=rx;refine jL I1 ea c hm l ?_;exact PySem.W.callWith_K0 (first:=[.ref a]) I1.kIn hm.kp (Bx (us:=[.ref a]) (vs:=[.ref a]) F hr hb hd hx I1 (.cons rfl .nil) q)
structure Mk (K:cb)(C f:Addr):Prop where
 makes:adU K C=true
 init:bo K (.ref C) "__init__"=some (some (.ref f))
 fn:ko K (.ref f)=true
 kp:de K (.ref C)=true
theorem KH {pins:List (Addr×Obj)}{σ:St}{H:Hp}{s:Shared}{Q:VK}{us:List Value}{vs:List V}(M:Mk X.K C f)(F:a8 X.prog X.w X.K X.mg X.base CX k f fd ps sp)(hr:Room (k+1) X.A)(hb:Binds X.K fd ps ds)(hd:Vals dvs ds)
  (hx:Passes CX X E) (I:Inv X pins σ H s) (r:Vals vs us)
  (h:∀x dx,H x=none->H dx=none->dx≠x->sp (.ref x::(vs++dvs)) (upd (upd H dx (.own x)) x (.ins C dx [])) (λv H2=>v=.non/\Q (.ref x) H2) E) :
  wpAny (model X.prog X.w) X.A (call (.ref C) us) (EP X pins σ Q) X.xe s:=by
 have hq:=h (s.heap.objs.size+1) s.heap.objs.size (I.hok.fresh (ad9 _)) (I.hok.fresh (km _)) (tu (Nat.lt_succ_self _));have I2:=Inv.made (C:=C) I;have r2:Vals (V.ref (s.heap.objs.size+1)::(vs++dvs)) (sr (s.heap.objs.size+1)::(us++ds)):=.cons rfl (r.append hd);have hl:(sr (s.heap.objs.size+1)::us++ds).length=ps.length:=by
  have e:=r2.length;rw[F.len _ _ _ _ hq]at e;exact e.symm
 refine wpAny_call (KG (f:=f) I.kIn M.makes M.init (beq_iff_eq.mp M.fn) (codeAny_mono (F.run _ X.stack _ _ ⟨sr (s.heap.objs.size+1)::us,[]⟩ (sr (s.heap.objs.size+1)::(us++ds)) _ _ E (hr.make C us [])
  (I2.NC.make C us []) (hb _ (sr (s.heap.objs.size+1)::us) I2.kIn hl) r2 hq) λr s' hq'=>?_))
 cases r with
 |error e=>exact hx pins σ _ _ e s' I2 hq'
 |ok fl =>
  cases fl with
  |ret u =>
   obtain⟨v,H',I3,rv,ev,q3⟩:=I2.after hq';subst ev;exact⟨rv,⟨V.ref (s.heap.objs.size+1),H',I3,rfl,q3⟩⟩
  |next=>exact adw hq'
  |brk=>exact adw hq'
  |cont=>exact adw hq'
theorem hU (M:Mk X.K C f)(F:a8 X.prog X.w X.K X.mg X.base CX k f fd ps sp)(hr:Room (k+1) X.A)(hg:Gl X x)(hm:X.mg x=some (.ref C))(hb:Binds X.K fd ps ds)(hd:Vals dvs ds)(hx:Passes CX X E)
  (ha:PA X (e::es) t) (hdb:(x == ("__debug__":Str))=false:=by decide) (he:si (e::es) X.env=(false,eval e X.env)::si es X.env:=by rfl) (hpl:(backTo pos (si es X.env)).any (·.1)=false:=by rfl) :
  PE X (.Call (.Name x p) (e::es) [] pos) (VZ C sp dvs E t):=by
 intro pins s σ H Q I h;refine wpAny_Call_Name_kw (lU I hg hm ?_ hdb);refine aeK (h₀:=X.base) I.ok.mod.kin M.kp (thn (ha pos pins s σ H _ I h) λus s1 ⟨vs,H1,I1,r,q⟩=>⟨I1.kIn,?_⟩) he hpl
 exact KH M F hr hb hd hx I1 r q
end
section
variable{X:Cx}{CX:CXT}{k:Nat}{f C:Addr}{fd:kb}{ps ks:List Str}{sp:Sp}{E:XK}{x m:Str}{p pos apos adi:Pos}{e o:Expr}{es:List Expr}{kws:List Keyword}{te ta:TE}{t tk:TA}{nm:Option Str}
structure aa5 (K:cb)(fd:kb)(ps ks:List Str)(g:List Value->List Value->List Value)(gV:List V->List V->List V):Prop where
 to:∀(s:Shared) (us ws:List Value),K.In s.heap->(g us ws).length=ps.length->BindsTo s fd ⟨us,ks.zip ws⟩ (ps.zip (g us ws))
 rel:∀ {vs:List V} {us:List Value} {zs:List V} {ws:List Value},Vals vs us->Vals zs ws->Vals (gV vs zs) (g us ws)
variable{g:List Value->List Value->List Value}{gV:List V->List V->List V}
end
structure az (N P:List Str)(sc:Scope):Prop where
 kind:sc.kind=.function
 co:sc.isCoroutine=false
 gen:sc.isGenerator=false
 nd:N.Nodup
 pre:N.take P.length=P
 par:∀x∈P,sc.names.lookup x=some .local\/sc.names.lookup x=some .cell
 QM:∀y∈sc.names,y.2≠.free
theorem AI {kindOf:Str->Option NameKind}{x:Str}:∀ {binds:List (Str×Value)} {m:Str->Option Value},(∀v,(x,v)∉binds)->bindL kindOf binds m x=m x
 |[],_,_=>rfl
 | (n,v)::r,m,h=>by
  unfold bindL;rw[AI λw hw=>h w (kf _ hw)]
  split
  ·have:x≠n:=by rintro rfl;exact h v fi
   simp[this]
  ·rfl
theorem AJ {kindOf:Str->Option NameKind}{x:Str}:∀ {binds:List (Str×Value)} {m:Str->Option Value},(∀v,(x,v)∉binds)->bindC kindOf binds m x=m x
 |[],_,_=>rfl
 | (n,v)::r,m,h=>by
  unfold bindC;rw[AJ λw hw=>h w (kf _ hw)]
  split
  ·rfl
  ·have:x≠n:=by rintro rfl;exact h v fi
   simp[this]
theorem AK {kindOf:Str->Option NameKind}{x:Str}{v:Value}:∀ {P:List Str} {vs:List Value} {i:Nat} {m:Str->Option Value},P.Nodup->P[i]?=some x->vs[i]?=some v->kindOf x=some .local ->
  bindL kindOf (P.zip vs) m x=some v
 |[],_,_,_,_,h,_,_=>by simp at h
 |_::_,[],_,_,_,_,h,_=>by simp at h
 |p::P,w::vs,0,m,nd,h1,h2,hk=>by
  simp at h1 h2;subst h1;subst h2;show bindL kindOf ((p,w)::P.zip vs) m p=_;unfold bindL;rw[AI λv hv=>(List.nodup_cons.mp nd).1 (List.of_mem_zip hv).1,if_pos hk]
  simp
 |p::P,w::vs,i+1,m,nd,h1,h2,hk=>by
  show bindL kindOf ((p,w)::P.zip vs) m x=_;unfold bindL;exact AK (i:=i) (List.nodup_cons.mp nd).2 (by simpa using h1) (by simpa using h2) hk
theorem AL {kindOf:Str->Option NameKind}{x:Str}{v:Value}:∀ {P:List Str} {vs:List Value} {i:Nat} {m:Str->Option Value},P.Nodup->P[i]?=some x->vs[i]?=some v->kindOf x≠some .local ->
  bindC kindOf (P.zip vs) m x=some v
 |[],_,_,_,_,h,_,_=>by simp at h
 |_::_,[],_,_,_,_,h,_=>by simp at h
 |p::P,w::vs,0,m,nd,h1,h2,hk=>by
  simp at h1 h2;subst h1;subst h2;show bindC kindOf ((p,w)::P.zip vs) m p=_;unfold bindC;rw[AJ λv hv=>(List.nodup_cons.mp nd).1 (List.of_mem_zip hv).1,if_neg hk]
  simp
 |p::P,w::vs,i+1,m,nd,h1,h2,hk=>by
  show bindC kindOf ((p,w)::P.zip vs) m x=_;unfold bindC;exact AL (i:=i) (List.nodup_cons.mp nd).2 (by simpa using h1) (by simpa using h2) hk
def start (N:List Str)(vs:List V):St:=vs.map some++List.replicate (N.length - vs.length) none
def cD (CX:CXT)(P:ma)(w:World)(K:cb)(mg:Str->Option Value)(base:Heap)(N:List Str)(qual:Str)(scope:Scope)(f:Addr)(cd:Value)(A:Around)(outer:List Env)(s:Shared)(H:Hp)(E:XK):Cx where
 prog:=P
 w:=w
 K:=K
 mg:=mg
 base:=base
 A:=A.deeper (envOfC qual scope s.heap.objs.size f cd)
 N:=N
 s₀:=s
 H₀:=H
 env:=envOfC qual scope s.heap.objs.size f cd
 outer:=outer
 stack:=envOfC qual scope s.heap.objs.size f cd::outer
 ex:=[]
 calm:=true
 fn:=λ_=>true
 pn:=[]
 xe:=λe s'=>wpAny (model P w) (A.deeper (envOfC qual scope s.heap.objs.size f cd)) (leaving (envOfC qual scope s.heap.objs.size f cd) e) (λ_ s''=>CX outer H s E e s'') (λe' s''=>CX outer H s E e' s'') s'
theorem CM {sc:Scope}{n:Nat}{x:Str}(h:sc.names.lookup x=some .cell):∃c,(cellsFrom n sc.names []).lookup x=some c:=by
 have q:=PySem.W.cellsFrom_some sc.names n [] (.inl h);exact Option.isSome_iff_exists.mp q
theorem Jd {CX:CXT}{P:ma}{w:World}{K:cb}{mg:Str->Option Value}{base:Heap}{N ps:List Str}{qual:Str}{scope:Scope}{f:Addr}{cd:Value}{A:Around}{outer:List Env}{s s1:Shared}{H:Hp}{E:XK}{us:List Value}{vs:List V}
  (S:az N ps scope) (hd:A.handled=none) (e0:Ac P w K mg base A outer s H) (hl:vs.length=ps.length) (r:Vals vs us)
  (x:InCallC s s.heap.objs.size (bindL (envOfC qual scope s.heap.objs.size f cd).kindOf (ps.zip us) λ_=>none) (cellsFrom (s.heap.objs.size+1) scope.names []) (bindC (envOfC qual scope s.heap.objs.size f cd).kindOf (ps.zip us) λ_=>none) s1) :
  Inv (cD CX P w K mg base N qual scope f cd A outer s H E) [] (start N vs) H s1:=by
 have hpl:ps.length<=N.length:=by have:=congrArg List.length S.pre;rw[adW]at this;omega
 obtain⟨h1,tk,rfl,hk⟩:=x.done;have noA:∀b:Addr,b∉(cD CX P w K mg base N qual scope f cd A outer s H E).ex:=λb z=>absurd (show b∈([]:List Addr) from z) (by simp)
 refine⟨⟨e0.mod,S.kind,rfl,rfl,km _,λy z c h1 h2=>?_,λy hy=>?_,λy c _ h=>?_,λ_=>hd,Around.frames_deeper e0.frames,.inr ⟨rfl,rfl⟩,λb z=>absurd z (noA b),e0.bs,e0.bsz,λb _ _=>noA b,λb z=>absurd z (noA b),e0.tD,e0.frf⟩,
  rfl,e0.bare,Un.kept hk,⟨_,x.toInCall.ns,λi y v h1 h2 h3=>?_⟩,λy c h=>⟨_,x.cell y c h⟩,e0.hok.fresh (km _),λy c h=>?_,λp hp=>absurd (show p∈([]:List (Addr×Obj)) from hp) (by simp),e0.hok.kept hk,?_⟩
 ·exact name_of_addr x.apart (aef h1) (aef h2)
 ·have hy:scope.names.lookup y=some .cell\/scope.names.lookup y=some .free:=hy;rcases hy with hy | hy
  ·exact CM hy
  ·exact absurd rfl (S.QM _ (aef hy))
 ·exact Nat.le_of_lt (x.above y c (aef h))
 ·have hi:i < vs.length:=by
   unfold start at h2
   by_cases hi:i < vs.length
   ·exact hi
   ·rw[List.getElem?_append_right (by simpa using hi)]at h2
    rw[List.getElem?_replicate]at h2;split at h2 <;> cases h2
  have ha:vs[i]?=some v:=by
   unfold start at h2;rw[List.getElem?_append_left (by simpa using hi),adK]at h2
   cases e:vs[i]? with
   |none=>rw[e]at h2;cases h2
   |some a=>rw[e]at h2;cases h2;rfl
  obtain⟨u,hu,rv⟩:=r.get ha;have hp:ps[i]?=some y:=by
   rw[<-S.pre,List.getElem?_take_of_lt (by omega)];exact h1
  have ndP:ps.Nodup:=by rw[<-S.pre];exact S.nd.sublist (List.take_sublist _ _)
  refine⟨u,rv,?_⟩;rcases S.par y (adF hp) with k | k
  ·exact .inl ⟨k,AK ndP hp hu k⟩
  ·obtain⟨c,e⟩:=CM (n:=s.heap.objs.size+1) k;refine .inr ⟨.inl k,c,e,?_⟩;have q:=x.cell y c e;rw[AL ndP hp hu (by show scope.names.lookup y≠_;rw[k];decide)]at q
   exact q
 ·exact e0.hok.fresh (Nat.le_of_lt (x.above y c (aef h)))
 ·unfold start;show _=N.length;rw[kq,da,List.length_replicate];omega
theorem Pd {CX:CXT}{P:ma}{w:World}{K:cb}{mg:Str->Option Value}{base:Heap}{k:Nat}{f:Addr}{name qual:Str}{params:Arguments}{body:List Stmt}{scope:Scope}{dV kV doc pm cdv ct oc:Value}{an od:Option Addr}
  {osl:Array (Option Value)} {N ps:List Str} {sp:Sp} (lk:K.lookup f=some ⟨oc,od,.func (fu name qual params body scope dV kV doc pm an cdv ct),osl⟩) (hcd:eg K cdv qual=true) (S:az N ps scope)
  (len:∀vs H Q E,sp vs H Q E->vs.length=ps.length)
  (CN:∀(A:Around) (outer:List Env) (s:Shared) (H:Hp) (vs:List V) (Q:VK) (E:XK),Room k (A.deeper (envOfC qual scope s.heap.objs.size f cdv))->sp vs H Q E ->
   ∃t,PSs (cD CX P w K mg base N qual scope f cdv A outer s H E) body t/\t { nx:=λ_ H'=>Q .non H',rt:=Q } (start N vs) H) :
  a8 P w K mg base CX (k+1) f (fu name qual params body scope dV kV doc pm an cdv ct) ps sp:=by
 refine⟨len,λA outer s H args us vs Q E hr e0 hb r hsp=>?_⟩
 have hl:=len _ _ _ _ hsp;have KX:K.In s.heap:=e0.mod.kin.keeps λb o e=>(e0.bs b o e).1
 have lim:s.heap.NoLimit:=e0.mod.nolimit.keeps λb o e=>(e0.bs b o e).1
 have V0:∀y∈ps.zip us,scope.names.lookup y.1=some .local\/(scope.names.lookup y.1=some .cell/\((cellsFrom (s.heap.objs.size+1) scope.names []).lookup y.1).isSome=true):=λ⟨n,v⟩ hy=>by
  rcases S.par n (List.of_mem_zip hy).1 with q | q
  ·exact .inl q
  ·exact .inr ⟨q,PySem.W.cellsFrom_some _ _ _ (.inl q)⟩
 refine codeAny_call_function hr.depth (KX _ _ lk) rfl S.co S.gen rfl (PySem.W.codeRec_of KX hcd) (hb _ _ _ _ ?_);refine wpAny_newFunctionEnv_cells S.kind V0 λenv he s1 x=>?_
 subst he;refine⟨lim.keeps x.toInCall.keep,codeAny_func ?_⟩;obtain⟨t,ht,hq⟩:=CN A outer s H vs Q E (hr.deeper _) hsp;have I:Inv (cD CX P w K mg base N qual scope f cdv A outer s H E) [] (start N vs) H s1:=Jd S hr.hd e0 hl r x;refine rf (ht [] s1 (start N vs) H _ I hq) (λfl s' hs=>?_) λe s' hs=>hs
 have fin:∀ {σ':St} {H':Hp} {v:V} {u:Value},Inv (cD CX P w K mg base N qual scope f cdv A outer s H E) [] σ' H' s'->RelV v u->Q v H'->CE outer P w H s Q u s' :=
  λ{σ' H' v u} J rv q=>⟨v,H',J.os,J.bare,J.base,J.hok,rv,q⟩
 cases fl with
 |ret u =>
  obtain⟨v,σ',H',J,rv,q⟩:=hs;exact fin J rv q
 |next =>
  obtain⟨σ',H',J,q⟩:=hs;exact fin (v:=V.non) (u:=aet) J rfl q
 |brk =>
  obtain⟨_,_,_,q⟩:=hs;exact adw q
 |cont =>
  obtain⟨_,_,_,q⟩:=hs;exact adw q
section
variable{X:Cx}{x:Str}{p pos:Pos}{e:Expr}{es:List Expr}{t:TA}{id T:String}{r:List V->Hp->VK->Prop}
def tCB (r:List V->Hp->VK->Prop)(t:TA):TE:=λσ H Q=>t σ H λvs H1=>r vs H1 Q
theorem bW (hc:iz X (.builtin id) r)(hg:Gl X x)(hm:X.mg x=none)(hv:ad0 x=some (.builtin id))(ha:PA X (e::es) t)(hn:x≠"__name__":=by decide)(hdb:(x == ("__debug__":Str))=false:=by decide)
  (he:si (e::es) X.env=(false,eval e X.env)::si es X.env:=by rfl) (hpl:(backTo pos (si es X.env)).any (·.1)=false:=by rfl):PE X (.Call (.Name x p) (e::es) [] pos) (tCB r t):=by
 intro pins s σ H Q I h;refine wpAny_Call_Name_kw (Bt I hg hm hv ?_ hn hdb);exact PyProof.Rows.callWith_builtin1 (thn (ha pos pins s σ H _ I h) λus s1 ⟨vs,H1,I1,r1,q1⟩=>hc pins s1 σ H1 vs us Q I1 r1 q1) he hpl
theorem d0 (hc:iz X (.type T) r)(hg:Gl X x)(hm:X.mg x=none)(hv:ad0 x=some (.type T))(ha:PA X (e::es) t)(hn:x≠"__name__":=by decide)(hdb:(x == ("__debug__":Str))=false:=by decide)
  (he:si (e::es) X.env=(false,eval e X.env)::si es X.env:=by rfl) (hpl:(backTo pos (si es X.env)).any (·.1)=false:=by rfl):PE X (.Call (.Name x p) (e::es) [] pos) (tCB r t):=by
 intro pins s σ H Q I h;refine wpAny_Call_Name_kw (Bt I hg hm hv ?_ hn hdb);exact PyProof.Rows.callWith_type1 (thn (ha pos pins s σ H _ I h) λus s1 ⟨vs,H1,I1,r1,q1⟩=>hc pins s1 σ H1 vs us Q I1 r1 q1) he hpl
end
end L2
namespace HT
open PySem PyProof.Rows
section
open PySem.SeqAt
open PySem.AutoSeq1 (wpAny_loadPart')
open PySem.MeetsSeq PySem.MeetsSeq2 PySem.MeetsSeq3
end
section
variable{prog:ma}{w:World}{A:Around}{E:Value->Shared->Prop}{s:Shared}
def sIx (n d:Nat):Option Int->Nat
 |none=>d
 |some v=>if v < 0 then (v+(n:Int)).toNat else min v.toNat n
theorem KI (n d:Nat):sIx n d none=d:=rfl
theorem Ib (n d k:Nat):sIx n d (some (k:Int))=min k n:=by
 show (if (k:Int) < 0 then ((k:Int)+(n:Int)).toNat else min (k:Int).toNat n)=min k n
 rw[if_neg (by omega),Int.toNat_natCast]
theorem QN (n d:Nat)(hd:d<=n)(o:Option Int):sIx n d o<=n:=by
 cases o with
 |none=>exact hd
 |some v =>
  show (if v < 0 then (v+(n:Int)).toNat else min v.toNat n)<=n
  by_cases hv:v < 0
  ·rw[if_pos hv];omega
  ·rw[if_neg hv];exact Nat.min_le_right _ _
theorem Ic (v:Int)(n d:Nat):(if v < 0 then max (v+(n:Int)) 0 else min v (n:Int))=((sIx n d (some v):Nat):Int):=by
 show (if v < 0 then max (v+(n:Int)) 0 else min v (n:Int))=(((if v < 0 then (v+(n:Int)).toNat else min v.toNat n):Nat):Int)
 by_cases hv:v < 0
 ·simp only[if_pos hv];omega
 ·simp only[if_neg hv];omega
theorem FW (lo hi:Option Int)(n:Nat):Builtin.Slice.sliceAdjust lo hi 1 (n:Int)=(((sIx n 0 lo:Nat):Int),((sIx n n hi:Nat):Int)):=by
 have h1:¬((1:Int) < 0):=by omega
 unfold Builtin.Slice.sliceAdjust;simp only[h1,if_false];refine Prod.ext ?_ ?_
 ·cases lo with
  |none=>rfl
  |some v=>exact Ic v n 0
 ·cases hi with
  |none=>rfl
  |some v=>exact Ic v n n
theorem FX (i j:Nat):aew (i:Int) (j:Int) 1=j - i:=by
 unfold aew;have h1:(1:Int) > 0:=by omega
 simp only[h1,if_true,Int.ediv_one];split <;> omega
theorem yH {v:Value}{o:Option Int}{Q:Option Int->Shared->Prop}(p:IsPart v o)(h:Q o s):wpAny (model prog w) A (Builtin.Slice.slicePartIndex v) Q E s:=by
 cases p with
 |none=>exact slicePart_none h
 |int i t=>exact slicePart_int h
theorem vp {sl:Addr}{vl vu:Value}{lo hi:Option Int}{n:Nat}{Q:Int×Int×Nat->Shared->Prop}(hs:s.heap.IsSliceOf sl vl vu .none)(pl:IsPart vl lo)(pu:IsPart vu hi)
  (h:Q (((sIx n 0 lo:Nat):Int),1,sIx n n hi - sIx n 0 lo) s):wpAny (model prog w) A (Builtin.Slice.sliceApplied (.ref sl) (pure (n:Int))) Q E s:=by
 obtain⟨os,hos,hcs,hds⟩:=id hs;unfold Builtin.Slice.sliceApplied Builtin.Slice.sliceFields;refine di (di (wpAny_field hos hds (x:=vl) rfl (di (wpAny_field hos hds (x:=vu) rfl (di (wpAny_field hos hds (x:=.none) rfl (kx ?_)))))));refine di (slicePart_none ?_);show wpAny _ _ (if ((1:Int) == 0)=true then _ else _) _ _ s
 rw[if_neg (by decide)]
 refine di (yH pl (di (yH pu (di (kx ?_)))));show wpAny _ _ (match Builtin.Slice.sliceAdjust lo hi 1 (n:Int) with | (lo,hi)=>pure (lo,(1:Int),aew lo hi 1)) _ _ s
 rw[FW lo hi n];show wpAny _ _ (pure (((sIx n 0 lo:Nat):Int),(1:Int),aew ((sIx n 0 lo:Nat):Int) ((sIx n n hi:Nat):Int) 1)) _ _ s;rw[FX];exact kx h
theorem KJ (xs:Array Value)(i k:Nat):((aev k).filterMap λ(m:Nat)=>xs[((i:Int)+(m:Int) * 1).toNat]?).toArray=((xs.toList.drop i).take k).toArray:=by
 have e:(λ(m:Nat)=>xs[((i:Int)+(m:Int) * 1).toNat]?)=λm=>xs[i+m]?:=by
  funext m
  have:((i:Int)+(m:Int) * 1).toNat=i+m:=by omega
  rw[this]
 rw[e];have:=pick_run xs i k;rw[List.filterMap_map]at this;have e2:((λx=>xs[x]?)∘λx=>i+x)=λm=>xs[i+m]?:=rfl
 rw[e2]at this;rw[this]
theorem ur {t sl:Addr}{items:Array Value}{vl vu:Value}{lo hi:Option Int}{Q:Value->Shared->Prop}(ht:IsTup s.heap t items)(hs:s.heap.IsSliceOf sl vl vu .none)(pl:IsPart vl lo)(pu:IsPart vu hi)
  (hw:¬(sIx items.size 0 lo=0/\sIx items.size items.size hi=items.size))
  (h:Q (.ref s.heap.objs.size) { s with heap:=s.heap.push { cls:=.type "tuple",data:=.seq ((items.toList.drop (sIx items.size 0 lo)).take (sIx items.size items.size hi - sIx items.size 0 lo)).toArray } })
  (hsz:items.size<=gn):wpAny (model prog w) A (getItem (.ref t) (.ref sl)) Q E s:=by
 have Ie:sizeOk (.seq ((items.toList.drop (sIx items.size 0 lo)).take (sIx items.size items.size hi - sIx items.size 0 lo)).toArray):=by
  show ((items.toList.drop (sIx items.size 0 lo)).take (sIx items.size items.size hi - sIx items.size 0 lo)).toArray.size<=gn;rw[ku,adW,aeF,aee];omega
 have hj:sIx items.size items.size hi<=items.size:=QN _ _ (km _) hi;obtain⟨os,hos,hcs,hds⟩:=id hs;have hTs:s.TypeIs (.ref sl) "slice":=⟨os,hos,hcs⟩;unfold getItem
 try with_reducible refine adV ?_
 first | refine di (kx ?_) | skip
 refine di (wpAny_sequenceKey ht.typeIs (by decide) ?_)
 refine di (wpAny_callSpecial?_slot (name:=ar "__getitem__") ht.typeIs PyProof.Rows.slot_tuple_getitem
  (wpAny_call_entry PyProof.Rows.slot_tuple_getitem ht.typeIs entry_tuple_getitem ?_ (args_tuple_getitem _ _)))
 show wpAny _ _ (Builtin.Tuple.tupleItemsOf (.ref t) >>= _) _ _ s;refine di (tupleItemsOf_ ht ?_);refine di (wpAny_typeOf hTs ?_);rw[if_pos (by decide)]
 refine di (vp hs pl pu ?_);have hno:¬((((sIx items.size 0 lo:Nat):Int) == 0 && (1:Int) == 1 && (sIx items.size items.size hi - sIx items.size 0 lo) == items.size)=true):=by
  intro q;rw[adO,adO]at q;have q1:((sIx items.size 0 lo:Nat):Int)=0:=eq_of_beq q.1.1;have q2:sIx items.size items.size hi - sIx items.size 0 lo=items.size:=eq_of_beq q.2;exact hw ⟨by omega,by omega⟩
 show wpAny _ _ (if (((sIx items.size 0 lo:Nat):Int) == 0 && (1:Int) == 1 && (sIx items.size items.size hi - sIx items.size 0 lo) == items.size)=true then _ else _) _ _ s
 rw[if_neg hno,KJ]
 first
  |exact di (m:=aeB _) (wpAny_newObj_type (kx ⟨_,rfl,kx h⟩) Ie)
  |exact di (m:=aeB _) (wpAny_newObj_type (di (kx (kx ⟨_,rfl,kx h⟩))) Ie)
  |exact di (di (m:=aeB _) (wpAny_newObj_type (kx (kx ⟨_,rfl,kx h⟩)) Ie))
  |exact di (di (m:=aeB _) (wpAny_newObj_type (kx ⟨_,rfl,kx h⟩) Ie))
end
end HT
namespace L2
open PySem PySem.Spec PyProof.Rows
abbrev TO:=St->Hp->(Option Int->Hp->Prop)->Prop
def PO (X:Cx)(e:Option Expr)(t:TO):Prop :=
 ∀(pins:List (Addr×Obj)) (s:Shared) (σ:St) (H:Hp) (Q:Option Int->Hp->Prop),Inv X pins σ H s->t σ H Q ->
  wpAny (model X.prog X.w) X.A (evalPart e X.env) (λu s'=>∃o H',Inv X pins σ H' s'/\IsPart u o/\Q o H') X.xe s
def ND:TO:=λ_ H Q=>Q none H
def V1 (t:TE):TO:=λσ H Q=>t σ H λx H1=>∃i,x=.int i/\Q (some i) H1
section
variable{X:Cx}{e:Expr}{te:TE}{lo hi:Option Expr}{tl th:TO}{pos p2:Pos}
theorem NF:PO X none ND:=by
 intro pins s σ H Q I h;rw[evalPart_none];exact kx ⟨none,H,I,.none,h⟩
theorem NG (h:PE X e te):PO X (some e) (V1 te):=by
 intro pins s σ H Q I hw;rw[evalPart_some];refine thn (h pins s σ H _ I hw) λu s1 ⟨x,H1,I1,r1,q1⟩=>?_
 obtain⟨i,rfl,q⟩:=q1;obtain⟨t,rfl⟩:=r1;exact⟨some i,H1,I1,.int i t,q⟩
def SlR (X:Cx)(r:V->Option Int->Option Int->Hp->VK->Prop):Prop :=
 ∀(pins:List (Addr×Obj)) (s:Shared) (σ:St) (H:Hp) (x:V) (v vl vu:Value) (lo hi:Option Int) (sl:Addr) (Q:VK),Inv X pins σ H s->RelV x v->s.heap.IsSliceOf sl vl vu .none->IsPart vl lo->IsPart vu hi->r x lo hi H Q ->
  ∃T id,typeLookup (.type T) "__getitem__"=pure (some (.builtin id))/\s.TypeIs v T/\wpAny (model X.prog X.w) X.A (getItem v (.ref sl)) (EP X pins σ Q) X.xe s
theorem SlR.or {r r':V->Option Int->Option Int->Hp->VK->Prop}(h:SlR X r)(h':SlR X r'):SlR X (λx lo hi H Q=>r x lo hi H Q\/r' x lo hi H Q):=by
 intro pins s σ H x v vl vu lo hi sl Q I rx hs pl pu q;rcases q with q | q
 ·exact h pins s σ H x v vl vu lo hi sl Q I rx hs pl pu q
 ·exact h' pins s σ H x v vl vu lo hi sl Q I rx hs pl pu q
def tSl (r:V->Option Int->Option Int->Hp->VK->Prop)(te:TE)(tl th:TO):TE:=λσ H Q=>te σ H λx H1=>tl σ H1 λl H2=>th σ H2 λu H3=>r x l u H3 Q
theorem KL {r:V->Option Int->Option Int->Hp->VK->Prop}(hr:SlR X r)(he:PE X e te)(hl:PO X lo tl)(hu:PO X hi th):PE X (.Subscript e (.Slice lo hi none p2) pos) (tSl r te tl th):=by
 intro pins s σ H Q I h;refine Subscript_ (thn (he pins s σ H _ I h) λv s1 ⟨x,H1,I1,r1,q1⟩=>?_)
 refine wpAny_Slice (thn (hl pins s1 σ H1 _ I1 q1) λvl s2 ⟨l,H2,I2,pl,q2⟩=>thn (hu pins s2 σ H2 _ I2 q2) λvu s3 ⟨u,H3,I3,pu,q3⟩=>?_)
 rw[evalPart_none];refine kx ?_;have I4:Inv X pins σ H3 { s3 with heap:=s3.heap.push { cls:=.type "slice",data:=.fields #[vl,vu,.none] } }:=I3.kept (t':=s3.toks) λb ob q=>gc _ q
 obtain⟨T,id,hT,ht,hg⟩:=hr pins { s3 with heap:=s3.heap.push { cls:=.type "slice",data:=.fields #[vl,vu,.none] } } σ H3 x v vl vu l u s3.heap.objs.size Q I4 r1 (Heap.IsSliceOf.new ..) pl pu q3
 show wpAny (model X.prog X.w) X.A (subscriptTail e (.Slice lo hi none p2) v (.ref s3.heap.objs.size)) (EP X pins σ Q) X.xe { s3 with heap:=s3.heap.push { cls:=.type "slice",data:=.fields #[vl,vu,.none] } }
 exact tail_any (ops:=[.ref s3.heap.objs.size,v]) ht hT hg (by with_unfolding_all rfl)
def CO (xs:List V)(lo hi:Option Int):List V:=(xs.drop (HT.sIx xs.length 0 lo)).take (HT.sIx xs.length xs.length hi - HT.sIx xs.length 0 lo)
theorem wz (xs:List V)(lo hi:Option Int):(CO xs lo hi).length<=xs.length:=by
 unfold CO;rw[adW,aeF];omega
def aa6 (K:cb):V->Option Int->Option Int->Hp->VK->Prop:=λx lo hi H Q=>∃a xs,x=.ref a/\SqT K H a xs /\
 ¬(HT.sIx xs.length 0 lo=0/\HT.sIx xs.length xs.length hi=xs.length)/\∀p,H p=none->Q (.ref p) (upd H p (.tup (CO xs lo hi)))
theorem QO:SlR X (aa6 X.K):=by
 intro pins s σ H x v vl vu lo hi sl Q I rx hs pl pu h;obtain⟨a,xs,rfl,hx,hw,q⟩:=h;cases rx;obtain⟨its,r,ht,hz⟩:=I.tuple hx;have hlen:its.toArray.size=xs.length:=by rw[ku];exact r.length.symm
 refine⟨"tuple",_,PyProof.Rows.slot_tuple_getitem.lookup,ht.typeIs,?_⟩;refine HT.ur ht hs pl pu (by rw[hlen];exact hw) ?_ (by rw[hlen];exact hz)
 rw[hlen];refine⟨.ref s.heap.objs.size,_,I.laid (t':=s.toks) (o:=.tup (CO xs lo hi)) (λb ob q=>gc _ q) (km _) ?_,rfl,q _ (I.hok.fresh (km _))⟩
 exact⟨me (wz xs lo hi) hz,_,(r.drop (HT.sIx xs.length 0 lo)).take (HT.sIx xs.length xs.length hi - HT.sIx xs.length 0 lo),IsTup.new _ _⟩
end
def ixN (n:Nat)(i:Int):Option Nat:=if 0<=i then (if i < n then some i.toNat else none) else if -(n:Int)<=i then some (i+n).toNat else none
def atI {α:Type}(xs:List α)(i:Int):Option α:=(ixN xs.length i).bind λj=>xs[j]?
theorem By {n:Nat}{i:Int}{j:Nat}(h:ixN n i=some j):seqIndex? i n=some j/\j < n/\-(n:Int)<=i/\i < n:=by
 unfold ixN at h
 by_cases h0:0<=i
 ·rw[if_pos h0]at h
  by_cases h1:i < n
  ·rw[if_pos h1]at h;have e:i.toNat=j:=adq h;exact⟨by rw[seqIndex_of h0 h1,e],by omega,by omega,h1⟩
  ·rw[if_neg h1]at h;cases h
 ·rw[if_neg h0]at h
  by_cases h1:-(n:Int)<=i
  ·rw[if_pos h1]at h;have e:(i+n).toNat=j:=adq h;exact⟨by rw[seqIndex_neg (by omega) h1,e],by omega,h1,by omega⟩
  ·rw[if_neg h1]at h;cases h
theorem Bz {α:Type}{xs:List α}{i:Int}{v:α}(h:atI xs i=some v):∃j,seqIndex? i xs.length=some j/\xs[j]?=some v/\j < xs.length/\-(xs.length:Int)<=i/\i < xs.length:=by
 unfold atI at h;cases e:ixN xs.length i with
 |none=>rw[e]at h;cases h
 |some j =>
  rw[e]at h;obtain⟨h1,h2,h3,h4⟩:=By e;exact⟨j,h1,h,h2,h3,h4⟩
theorem pM {α:Type}{xs:List α}{j:Nat}{v:α}(h:xs[j]?=some v):atI xs (j:Int)=some v:=by
 have hj:j < xs.length:=(List.getElem?_eq_some_iff.mp h).1;have e:ixN xs.length (j:Int)=some j:=by
  unfold ixN;rw[if_pos (by omega),if_pos (by omega)];simp
 unfold atI;rw[e];exact h
theorem yI {α:Type}(xs:List α)(v:α):atI (xs++[v]) (-1)=some v:=by
 have hl:(xs++[v]).length=xs.length+1:=by simp
 have e:ixN (xs++[v]).length (-1)=some xs.length:=by
  unfold ixN;rw[hl,if_neg (by decide),if_pos (by omega)]
  congr 1
  omega
 unfold atI;rw[e];show (xs++[v])[xs.length]?=some v;simp
def NH (b:Expr):Prop:=∀o i,subscripted b false o i=operate [o,i] (getItem o i)
def IxR (X:Cx)(r:R2):Prop :=
 ∀(value slice:Expr) (pins:List (Addr×Obj)) (s:Shared) (σ:St) (H:Hp) (x y:V) (v u:Value) (Q:VK),Inv X pins σ H s->RelV x v->RelV y u->r x y H Q ->
  subscripted slice false v u=operate [v,u] (getItem v u)->wpAny (model X.prog X.w) X.A (subscriptTail value slice v u) (EP X pins σ Q) X.xe s
def MtR (X:Cx)(id:String)(r:V->List V->Hp->VK->Prop):Prop :=
 ∀(pins:List (Addr×Obj)) (s:Shared) (σ:St) (H:Hp) (x:V) (xs:List V) (v:Value) (us:List Value) (Q:VK),Inv X pins σ H s->RelV x v->Vals xs us->r x xs H Q ->
  wpAny (model X.prog X.w) X.A (call (.builtin id) (v::us)) (EP X pins σ Q) X.xe s
section
variable{X:Cx}{a b:Expr}{ta tb:TE}{pos:Pos}
theorem IxR.or {r r':R2}(h:IxR X r)(h':IxR X r'):IxR X (λx y H Q=>r x y H Q\/r' x y H Q):=by
 intro value slice pins s σ H x y v u Q I rx ry q hs;rcases q with q | q
 ·exact h value slice pins s σ H x y v u Q I rx ry q hs
 ·exact h' value slice pins s σ H x y v u Q I rx ry q hs
theorem MtR.or {id:String}{r r':V->List V->Hp->VK->Prop}(h:MtR X id r)(h':MtR X id r'):MtR X id (λx xs H Q=>r x xs H Q\/r' x xs H Q):=by
 intro pins s σ H x xs v us Q I rx rs q;rcases q with q | q
 ·exact h pins s σ H x xs v us Q I rx rs q
 ·exact h' pins s σ H x xs v us Q I rx rs q
theorem bN {r:R2}(hr:IxR X r)(ha:PE X a ta)(hb:PE X b tb)(hs:NH b):PE X (.Subscript a b pos) (tOp r ta tb):=by
 intro pins s σ H Q I h;exact Subscript_ (QF ha hb I h λv u s2 x y H2 I2 rx ry q=>hr a b pins s2 σ H2 x y v u Q I2 rx ry q (hs _ _))
def V2 (K:cb):R2:=λx y H Q=>∃p xs i v,x=.ref p/\y=.int i/\SqL K H p xs/\atI xs i=some v/\Q v H
def V3 (K:cb):R2:=λx y H Q=>∃p xs i v,x=.ref p/\y=.int i/\SqT K H p xs/\atI xs i=some v/\Q v H
def V4:R2:=λx y H Q=>∃z i c,x=.str z/\y=.int i/\z.length<=gn/\atI z.cps.toList i=some c/\Q (.str ⟨#[c]⟩) H
theorem je:IxR X (V2 X.K):=by
 intro value slice pins s σ H x y v u Q I rx ry h hs;obtain⟨p,xs,i,z,rfl,rfl,hq,he,q⟩:=h;cases rx;obtain⟨t,rfl⟩:=ry;obtain⟨its,r,pl,hz⟩:=I.list hq;obtain⟨j,h1,h2,h3,h4,h5⟩:=Bz he;obtain⟨w,ew,rw'⟩:=r.get h2;have hl:=r.length;have hn:=vn;have fin:EP X pins σ Q w s:=⟨z,H,I,rw',q⟩
 by_cases h0:0<=i
 ·have hj:i.toNat=j:=by
   rw[seqIndex_of h0 h5]at h1;exact adq h1
  exact item_listR pl.isList h0 (by omega) (by rw[hj];simpa using ew) fin hs
 ·have hj:(i+(its.toArray.size:Int)).toNat=j:=by
   rw[seqIndex_neg (by omega) h4]at h1
   rw[ku,<-hl];exact adq h1
  exact subscriptTail_builtinR (x:=w) pl.isList.typeIs slot_list_getitem.lookup
   (wpAny_getItem_list_neg (Q:=λr s'=>r=w/\EP X pins σ Q r s') pl.isList (by omega) (by rw[ku] <;> omega) (by omega) (by rw[hj];simpa using ew) ⟨rfl,fin⟩) hs
theorem bG:IxR X (V3 X.K):=by
 intro value slice pins s σ H x y v u Q I rx ry h hs;obtain⟨p,xs,i,z,rfl,rfl,hq,he,q⟩:=h;cases rx;obtain⟨t,rfl⟩:=ry;obtain⟨its,r,pl,hz⟩:=I.tuple hq;obtain⟨j,h1,h2,h3,h4,h5⟩:=Bz he;obtain⟨w,ew,rw'⟩:=r.get h2;have hl:=r.length;have hn:=vn;have fin:EP X pins σ Q w s:=⟨z,H,I,rw',q⟩;exact subscriptTail_builtinR (x:=w) pl.typeIs slot_tuple_getitem.lookup
  (getItem_tuple (j:=j) (Q:=λr s'=>r=w/\EP X pins σ Q r s') pl (by omega) (by omega) (by rw[ku,<-hl];exact h1) (by simpa using ew) ⟨rfl,fin⟩) hs
theorem FY:IxR X V4:=by
 intro value slice pins s σ H x y v u Q I rx ry h hs;obtain⟨z,i,c,rfl,rfl,hz,he,q⟩:=h;obtain⟨t,rfl⟩:=rx;obtain⟨t',rfl⟩:=ry;obtain⟨j,h1,h2,h3,h4,h5⟩:=Bz he;have hl:z.cps.toList.length=z.length:=by simp[Str.length]
 rw[hl]at h1 h4 h5;have hn:=vn;exact tail_any (typeIs_str s z t) slot_str_getitem.lookup (getItem_str (c:=c) (by
  have e1:decide (i < -(2 ^ 63:Int))=false:=decide_eq_false (by omega)
  have e2:decide (i≥2 ^ 63)=false:=decide_eq_false (by omega)
  rw[e1,e2,Bool.or_false]) (by rw[h1];simpa using h2) ⟨.str ⟨#[c]⟩,H,I.tok _,⟨_,rfl⟩,q⟩) hs
def rIx (K:cb):R2:=λx y H Q=>V2 K x y H Q\/V3 K x y H Q\/V4 x y H Q
theorem QP:IxR X (rIx X.K):=je.or (bG.or FY)
theorem FZ (its:List Value)(n j:Nat)(u:Value):Obj.mapSeq (·.setIfInBounds j u) { cls:=.type "list",data:=.seq its.toArray n }={ cls:=.type "list",data:=.seq (its.set j u).toArray n }:=by
 simp[Obj.mapSeq]
theorem Inv.lst {pins:List (Addr×Obj)}{σ:St}{H:Hp}{s:Shared}{p:Addr}{xs:List V}(I:Inv X pins σ H s)(h:H p=some (.lst xs)) :
  ∃(its:List Value) (n:Nat),Vals xs its/\s.heap.get? p=some { cls:=.type "list",data:=.seq its.toArray n }/\xs.length<=gn:=by
 obtain⟨z,its,n,r,e⟩:=I.hok p _ h;exact⟨its,n,r,e,z⟩
theorem Inv.QQ {pins:List (Addr×Obj)}{σ:St}{H:Hp}{s:Shared}{p:Addr}{xs ys:List V}{its its':List Value}{n n':Nat}{f:Obj->Obj}(I:Inv X pins σ H s)(h:H p=some (.lst xs))
  (ho:s.heap.get? p=some { cls:=.type "list",data:=.seq its.toArray n }) (hf:f { cls:=.type "list",data:=.seq its.toArray n }={ cls:=.type "list",data:=.seq its'.toArray n' }) (r:Vals ys its') (hz:ys.length<=gn) (t:Nat) :
  Inv X pins σ (upd H p (.lst ys)) { s with heap:=s.heap.update p f,toks:=t }:=by
 have e:(s.heap.update p f).get? p=some { cls:=.type "list",data:=.seq its'.toArray n' }:=by
  rw[aeg f ho (by rw[hf] <;> rfl),hf]
 refine I.write (x:=p) (e:=p) (by rw[h];trivial) (.inl rfl) (λb u hb q=>(adS _ _ (adz hb)).trans q) ⟨_,e⟩ ?_
 exact⟨hz,its',n',r,e⟩
def V5:V->V->V->Hp->(Hp->Prop)->Prop:=λo i v H Q=>∃p xs k j,o=.ref p/\i=.int k/\H p=some (.lst xs)/\ixN xs.length k=some j/\Q (upd H p (.lst (xs.set j v)))
theorem set_list:VJ X V5:=by
 intro pins s σ H o i v ov iv u Q I ro ri rv h;obtain⟨p,xs,k,j,rfl,rfl,hp,hj,q⟩:=h;cases ro;obtain⟨t,rfl⟩:=ri;obtain⟨its,n,r,ho,hz⟩:=I.lst hp;obtain⟨h1,h2,h3,h4⟩:=By hj;have hl:=r.length;have hn:=vn;have I':Inv X pins σ (upd H p (.lst (xs.set j v))) { s with heap:=s.heap.update p (Obj.mapSeq (·.setIfInBounds j u)) } :=
  I.QQ hp ho (FZ its n j u) (r.set rv j) (by rw[aep];exact hz) s.toks
 by_cases h0:0<=k
 ·have hk:k.toNat=j:=by
   rw[seqIndex_of h0 h4]at h1;exact adq h1
  exact PySem.W.ki_setAt ho h0 (by omega) (by rw[ku,<-hl];exact h4) (by rw[hk];exact⟨_,I',q⟩)
 ·have hk:(k+(its.toArray.size:Int)).toNat=j:=by
   rw[seqIndex_neg (by omega) h3]at h1
   rw[ku,<-hl];exact adq h1
  exact PySem.W.ki_setBack ho (by omega) (by rw[ku,<-hl];exact h3) (by omega) (by rw[hk];exact⟨_,I',q⟩)
theorem BB (lo hi:Option Int)(n:Nat):(sliceBounds lo hi none n).1=((HT.sIx n 0 lo:Nat):Int)/\(sliceBounds lo hi none n).2.1=((HT.sIx n n hi:Nat):Int)/\(sliceBounds lo hi none n).2.2=1:=by
 refine⟨?_,?_,rfl⟩
 ·cases lo with
  |none=>simp[sliceBounds,HT.sIx]
  |some i =>
   simp only[sliceBounds,HT.sIx,Option.getD_none,show (1:Int) > 0 by decide,if_true]
   by_cases h:i < 0
   ·simp only[h,if_true] <;> omega
   ·simp only[h,if_false] <;> omega
 ·cases hi with
  |none=>simp[sliceBounds,HT.sIx]
  |some i =>
   simp only[sliceBounds,HT.sIx,Option.getD_none,show (1:Int) > 0 by decide,if_true]
   by_cases h:i < 0
   ·simp only[h,if_true] <;> omega
   ·simp only[h,if_false] <;> omega
theorem Ad (its:List Value)(lo hi:Option Int):slicePick its.toArray lo hi none=((its.drop (HT.sIx its.length 0 lo)).take (HT.sIx its.length its.length hi - HT.sIx its.length 0 lo)).toArray:=by
 obtain⟨h1,h2,h3⟩:=BB lo hi its.toArray.size;unfold slicePick;rw[h1,h2,h3];simp only[sliceRange_one,pick_run,ku] <;> rfl
def aa7 (K:cb):V->Option Int->Option Int->Hp->VK->Prop:=λx lo hi H Q=>∃a xs,x=.ref a/\SqL K H a xs/\∀p,H p=none->Q (.ref p) (upd H p (.lst (CO xs lo hi)))
theorem aaH:SlR X (aa7 X.K):=by
 intro pins s σ H x v vl vu lo hi sl Q I rx hs pl pu h;obtain⟨a,xs,rfl,hx,q⟩:=h;cases rx;obtain⟨its,r,ht,hz⟩:=I.list hx;have hlen:=r.length;refine⟨"list",_,slot_list_getitem.lookup,ht.isList.typeIs,?_⟩;refine wpAny_getItem_list_slice ht.isList hs pl pu .none (by simp) ?_ (by rw[ku] <;> omega)
 rw[Ad,<-hlen];refine⟨.ref s.heap.objs.size,_,I.laid (t':=s.toks) (o:=.lst (CO xs lo hi)) (λb ob q=>gc _ q) (km _) ?_,rfl,q _ (I.hok.fresh (km _))⟩
 exact⟨me (wz xs lo hi) hz,_,0,(r.drop (HT.sIx xs.length 0 lo)).take (HT.sIx xs.length xs.length hi - HT.sIx xs.length 0 lo),tm _ rfl⟩
def wA:V->Bool
 | .non=>true
 | .bl _=>true
 | .int _=>true
 | .str _=>true
 |_=>false
def eqV:V->V->Bool
 | .non,.non=>true
 | .bl a,.bl b=>a == b
 | .bl a,.int b=>(if a then 1 else 0) == b
 | .int a,.bl b=>a == (if b then 1 else 0)
 | .int a,.int b=>a == b
 | .str a,.str b=>a == b
 |_,_=>false
theorem QR {A:Around}{s:Shared}{y x:V}{u v:Value}(ry:RelV y u)(rx:RelV x v)(fy:wA y=true)(fx:wA x=true):SeqAt.EqAt A s u v (eqV y x):=by
 cases y with
 |non =>
  cases ry;cases x with
  |non=>cases rx;exact SeqAt.EqAt.same _
  |bl b=>cases rx;exact SeqAt.EqAt.none_bool b
  |int b=>obtain⟨t,rfl⟩:=rx;exact SeqAt.EqAt.none_int b t
  |str b=>obtain⟨t,rfl⟩:=rx;exact SeqAt.EqAt.none_str b t
  |_=>exact absurd (show false=true from fx) ki
 |bl a =>
  cases ry;cases x with
  |non=>cases rx;exact SeqAt.EqAt.bool_none a
  |bl b=>cases rx;exact SeqAt.EqAt.bool_bool a b
  |int b=>obtain⟨t,rfl⟩:=rx;exact SeqAt.EqAt.bool_int a b t
  |str b=>obtain⟨t,rfl⟩:=rx;exact SeqAt.EqAt.bool_str a b t
  |_=>exact absurd (show false=true from fx) ki
 |int a =>
  obtain⟨t',rfl⟩:=ry;cases x with
  |non=>cases rx;exact SeqAt.EqAt.int_none a t'
  |bl b=>cases rx;exact SeqAt.EqAt.int_bool a t' b
  |int b=>obtain⟨t,rfl⟩:=rx;exact SeqAt.EqAt.int_int a t' b t
  |str b=>obtain⟨t,rfl⟩:=rx;exact SeqAt.EqAt.int_str a t' b t
  |_=>exact absurd (show false=true from fx) ki
 |str a =>
  obtain⟨t',rfl⟩:=ry;cases x with
  |non=>cases rx;exact SeqAt.EqAt.str_none a t'
  |bl b=>cases rx;exact SeqAt.EqAt.str_bool a t' b
  |int b=>obtain⟨t,rfl⟩:=rx;exact SeqAt.EqAt.str_int a t' b t
  |str b=>obtain⟨t,rfl⟩:=rx;exact SeqAt.EqAt.str_str a t' b t
  |_=>exact absurd (show false=true from fx) ki
 |_=>exact absurd (show false=true from fy) ki
def eqU (x:V)(u:Value):Bool:=match u with
 | .none=>eqV .non x
 | .bool b=>eqV (.bl b) x
 | .int i _=>eqV (.int i) x
 | .str z _=>eqV (.str z) x
 |_=>false
theorem KN {x y:V}{u:Value}(r:RelV y u)(f:wA y=true):eqU x u=eqV y x:=by
 cases y with
 |non=>cases r;rfl
 |bl b=>cases r;rfl
 |int i=>obtain⟨t,rfl⟩:=r;rfl
 |str z=>obtain⟨t,rfl⟩:=r;rfl
 |_=>exact absurd (show false=true from f) ki
theorem BC {x:V}:∀ {xs:List V} {us:List Value},Vals xs us->xs.all wA=true->us.any (eqU x)=xs.any λy=>eqV y x
 |_,_,.nil,_=>rfl
 |y::xs,u::us,.cons r t,f=>by
  rw[List.all_cons,adO]at f;rw[List.any_cons,List.any_cons,KN r f.1,BC t f.2]
theorem yJ {A:Around}{s:Shared}{x:V}{v:Value}(rx:RelV x v)(fx:wA x=true):∀ {xs:List V} {us:List Value},Vals xs us->xs.all wA=true->∀u∈us,SeqAt.EqAt A s u v (eqU x u)
 |_,_,.nil,_=>λu hu=>by cases hu
 |y::xs,u::us,.cons r t,f=>λu' hu=>by
  rw[List.all_cons,adO]at f;rcases List.mem_cons.mp hu with rfl | hu
  ·rw[KN r f.1];exact QR r rx f.1 fx
  ·exact yJ rx fx t f.2 u' hu
def inV (x:V)(xs:List V):Bool:=xs.any λy=>eqV y x
def rIn (K:cb)(neg:Bool):R2:=λx y H Q=>∃p xs,y=.ref p/\(SqL K H p xs\/SqT K H p xs)/\wA x=true/\xs.all wA=true/\Q (.bl (if neg then !inV x xs else inV x xs)) H
theorem Je:OpR X (aei .In) (rIn X.K false):=by
 intro pins s σ H x y v u Q I rx ry h;obtain⟨p,xs,rfl,hq,fx,fs,q⟩:=h;cases ry;rcases hq with hq | hq
 ·obtain⟨its,r,pl,hz⟩:=I.list hq;refine SeqAt.in_listAt (eqU x) pl.isList (λw hw=>yJ rx fx r fs w (by simpa using hw)) ⟨.bl _,H,I,rfl,?_⟩
  rw[show its.toArray.any (eqU x)=its.any (eqU x) by simp,BC r fs]
  exact q
 ·obtain⟨its,r,pl,hz⟩:=I.tuple hq;refine SeqAt.in_tupleAt (eqU x) pl (λw hw=>yJ rx fx r fs w (by simpa using hw)) ⟨.bl _,H,I,rfl,?_⟩
  rw[show its.toArray.any (eqU x)=its.any (eqU x) by simp,BC r fs]
  exact q
theorem jf:iz X (.builtin "len") (λxs H Q=>∃p ys,xs=[.ref p]/\(SqL X.K H p ys\/SqT X.K H p ys)/\Q (.int ys.length) H):=by
 intro pins s σ H xs us Q I r h;obtain⟨p,ys,rfl,hq,q⟩:=h;obtain⟨u,rfl,rx⟩:=vals1 r;cases rx;have hn:=vn;rcases hq with hq | hq
 ·obtain⟨its,r',pl,hz⟩:=I.list hq;have hlen:=r'.length;exact Calls.call_len_list pl.isList (by simp only[ku] <;> omega) ⟨.int ys.length,H,I.tok _,⟨s.toks+1,by rw[ku,hlen]⟩,q⟩
 ·obtain⟨its,r',pl,hz⟩:=I.tuple hq;have hlen:=r'.length;exact len_tuple pl (by simp only[ku] <;> omega) ⟨.int ys.length,H,I.tok _,⟨s.toks+1,by rw[ku,hlen]⟩,q⟩
theorem iz.or {f:Value}{r r':List V->Hp->VK->Prop}(h:iz X f r)(h':iz X f r'):iz X f (λxs H Q=>r xs H Q\/r' xs H Q):=by
 intro pins s σ H xs us Q I rs q;rcases q with q | q
 ·exact h pins s σ H xs us Q I rs q
 ·exact h' pins s σ H xs us Q I rs q
theorem dS:iz X (.type "list") (λxs H Q=>∃p ys,xs=[.ref p]/\(SqL X.K H p ys\/SqT X.K H p ys)/\∀l,H l=none->Q (.ref l) (upd H l (.lst ys))):=by
 intro pins s σ H xs us Q I r h;obtain⟨p,ys,rfl,hq,q⟩:=h;obtain⟨u,rfl,rx⟩:=vals1 r;cases rx;have fin:∀(its:List Value),Vals ys its->ys.length<=gn->∀(h':Heap) (c':Nat),(∀b o',s.heap.get? b=some o'->h'.get? b=some o') ->
   h'.get? s.heap.objs.size=some { cls:=.type "list",dict:=none,data:=.seq its.toArray c',slots:=#[] }->EP X pins σ Q (.ref s.heap.objs.size) { s with heap:=h' }:=λits r' hz h' c' kp e =>
  ⟨.ref s.heap.objs.size,_,I.laid (t':=s.toks) kp (km _) (show fq X.prog X.w _ h' _ (.lst ys) from ⟨hz,its,c',r',e⟩),rfl,q _ (I.hok.fresh (km _))⟩
 rcases hq with hq | hq
 ·obtain⟨its,r',pl,hz⟩:=I.list hq;have hlen:=r'.length;obtain⟨o,ho,hc,n,hd⟩:=pl.isList;exact call_list_seq p (.inl rfl) ho hc hd (λh' c' kp e=>fin its r' hz h' c' kp e) (by simp only[ku] <;> omega)
 ·obtain⟨its,r',pl,hz⟩:=I.tuple hq;have hlen:=r'.length;obtain⟨o,ho,hc,n,hd⟩:=pl;exact call_list_seq p (.inr rfl) ho hc hd (λh' c' kp e=>fin its r' hz h' c' kp e) (by simp only[ku] <;> omega)
def tyV (K:cb)(T:String)(x:V)(H:Hp):Prop:=match x with
 | .str _=>T="str"
 | .int _=>T="int"
 | .ref p=>(T="list"/\∃xs,SqL K H p xs)\/(T="tuple"/\∃o,K.lookup p=some o/\o.cls=.type "tuple"/\o.dict=none) \/
   (T="dict"/\((∃kvs,H p=some (.dK kvs))\/∃kvs,H p=some (.dT kvs)))\/(T="set"/\∃S n,H p=some (.set S n))
 |_=>False
theorem KO {pins:List (Addr×Obj)}{σ:St}{H:Hp}{s:Shared}{T:String}{x:V}{v:Value}(I:Inv X pins σ H s)(r:RelV x v)(ty:tyV X.K T x H) :
  s.TypeIs v T/\∀a,v=.ref a->∃ob,s.heap.get? a=some ob/\ob.dict=none:=by
 cases x with
 |str z =>
  obtain⟨t,rfl⟩:=r;cases (show T="str" from ty)
  exact⟨typeIs_str s z t,λ_ e=>nomatch e⟩
 |int i =>
  obtain⟨t,rfl⟩:=r;cases (show T="int" from ty)
  exact⟨typeIs_int s i t,λ_ e=>nomatch e⟩
 |ref p =>
  cases r;rcases ty with ⟨rfl,xs,hq⟩ | ⟨rfl,o,hk,hc,hd⟩ | ⟨rfl,hk⟩ | ⟨rfl,S,n,hk⟩
  ·obtain⟨its,_,pl,_⟩:=I.list hq;refine⟨pl.isList.typeIs,λa e=>?_⟩
   cases e;obtain⟨o,n,e,c,hd,_⟩:=pl;exact⟨o,e,hd⟩
  ·refine⟨⟨o,I.kIn p o hk,hc⟩,λa e=>?_⟩
   cases e;exact⟨o,I.kIn _ o hk,hd⟩
  ·have z:∃o,s.heap.get? p=some o/\o.ExactDict:=by
    rcases hk with ⟨kvs,hk⟩ | ⟨kvs,hk⟩
    ·obtain⟨_,_,_,_,o,_,_,e,ex,_⟩:=I.hok p _ hk;exact⟨o,e,ex⟩
    ·obtain⟨_,_,_,_,o,_,_,e,ex,_⟩:=I.hok p _ hk;exact⟨o,e,ex⟩
   obtain⟨o,e,ex⟩:=z;refine⟨⟨o,e,ex.1⟩,λa e2=>?_⟩
   cases e2;exact⟨o,e,ex.2.1⟩
  ·obtain⟨o,_,_,_,e,ex,_⟩:=I.hok p _ hk;refine⟨⟨o,e,ex.1⟩,λa e2=>?_⟩
   cases e2;exact⟨o,e,ex.2.1⟩
 |_=>exact adw ty
def aa8 (K:cb)(T:String)(r:V->List V->Hp->VK->Prop)(to:TE):TE:=λσ H Q=>to σ H λx H1=>tyV K T x H1/\r x [] H1 Q
def tBM (K:cb)(T:String)(r:V->List V->Hp->VK->Prop)(to:TE)(t:TA):TE:=λσ H Q=>to σ H λx H1=>tyV K T x H1/\t σ H1 λxs H2=>r x xs H2 Q
variable{o e:Expr}{es:List Expr}{to:TE}{t:TA}{name:Str}{apos gO:Pos}{T id:String}{r:V->List V->Hp->VK->Prop}
theorem QS (pa:PlainAttrs T)(slot:Slot T name id)(hty:typeOf (.builtin id)=pure (.type "method_descriptor"))(hm:MtR X id r)(ho:PE X o to)
  (CP:attributeBase o name X.env (eval o X.env)=eval o X.env:=by rfl) (KP:(apos.endLine == gO.line)=true:=by rfl):PE X (.Call (.Attribute o name apos) [] [] gO) (aa8 X.K T r to):=by
 intro pins s σ H Q I h;refine wpAny_Call_method0_late CP KP (thn (ho pins s σ H _ I h) λv s1 ⟨x,H1,I1,r1,ty,q1⟩=>?_)
 obtain⟨h1,h2⟩:=KO I1 r1 ty;exact⟨T,id,pa,slot,hty,h1,h2,Calls.callWith_builtin rfl (PySem.evalArgs_none (hm pins s1 σ H1 x [] v [] Q I1 r1 .nil q1))⟩
theorem mi (pa:PlainAttrs T)(slot:Slot T name id)(hty:typeOf (.builtin id)=pure (.type "method_descriptor"))(hm:MtR X id r)(ho:PE X o to)(ha:PA X (e::es) t)
  (CP:attributeBase o name X.env (eval o X.env)=eval o X.env:=by rfl)
  (aa9:((backTo gO (si (e::es) X.env)).all (λx=>!x.1) && (backToKw gO (keywordEach [] X.env)).all (λx=>x.1.isSome)
   && decide ((e::es).length+([]:List Keyword).length+(if ([]:List Keyword).isEmpty then 0 else 1) < 30))=true:=by rfl)
  (KP:(apos.endLine == gO.line)=true:=by rfl) (hs:si (e::es) X.env=(false,eval e X.env)::si es X.env:=by rfl) (QT:(backTo gO (si es X.env)).any (·.1)=false:=by rfl) :
  PE X (.Call (.Attribute o name apos) (e::es) [] gO) (tBM X.K T r to t):=by
 intro pins s σ H Q I h;refine wpAny_Call_method_late CP aa9 KP rfl (thn (ho pins s σ H _ I h) λv s1 ⟨x,H1,I1,r1,ty,q1⟩=>?_)
 obtain⟨h1,h2⟩:=KO I1 r1 ty;refine⟨T,id,pa,slot,hty,h1,h2,?_⟩;have hA:=ha gO pins s1 σ H1 _ I1 q1;rw[hs]at hA ⊢;refine Calls.callWith_builtin (by show (false || (backTo gO (si es X.env)).any (·.1))=false;rw[QT] <;> rfl) (Calls.evalArgs_plain ?_)
 exact thn hA λus s2 ⟨vs,H2,I2,r2,q2⟩=>hm pins s2 σ H2 x vs v us Q I2 r1 r2 q2
end
def MtM (X:Cx)(id:String)(r:V->List V->Hp->VK->Prop):Prop :=
 ∀(pins:List (Addr×Obj)) (s:Shared) (σ:St) (H:Hp) (x:V) (xs:List V) (v:Value) (us:List Value) (Q:VK),Inv X pins σ H s->RelV x v->Vals xs us->r x xs H Q ->
  wpAny (model X.prog X.w) X.A (call (.builtin id) (v::us)) (EP X pins σ Q) X.xe s
theorem Vals.one:∀ {x:V} {us:List Value},Vals [x] us->∃u,us=[u]/\RelV x u
 |_,_,.cons r .nil=>⟨_,rfl,r⟩
theorem Vals.two:∀ {x y:V} {us:List Value},Vals [x,y] us->∃u v,us=[u,v]/\RelV x u/\RelV y v
 |_,_,_,.cons r (.cons q .nil)=>⟨_,_,rfl,r,q⟩
theorem Vals.zero:∀ {us:List Value},Vals [] us->us=[]
 |_,.nil=>rfl
theorem Vals.dropLast {xs:List V}{us:List Value}(h:Vals xs us):Vals xs.dropLast us.dropLast:=by
 induction h with
 |nil=>exact .nil
 |cons r t ih =>
  cases t with
  |nil=>exact .nil
  |cons q t'=>exact .cons r ih
theorem Vals.eraseIdx:∀ {xs:List V} {us:List Value} (i:Nat),Vals xs us->Vals (xs.eraseIdx i) (us.eraseIdx i)
 |_,_,_,.nil=>.nil
 |_,_,0,.cons _ t=>t
 |_,_,i+1,.cons r t=>.cons r (Vals.eraseIdx i t)
theorem Vals.rep {xs:List V}{us:List Value}(h:Vals xs us):∀k:Nat,Vals (List.replicate k xs).flatten (List.replicate k us).flatten
 | 0=>.nil
 |k+1=>by
  rw[List.replicate_succ,List.replicate_succ,List.flatten_cons,List.flatten_cons];exact Vals.append h (Vals.rep h k)
theorem F0 {α:Type}(l:List α):l.eraseIdx (l.length - 1)=l.dropLast:=by
 induction l with
 |nil=>rfl
 |cons a r ih =>
  cases r with
  |nil=>rfl
  |cons b r =>
   have e:(a::b::r).length - 1=((b::r).length - 1)+1:=by
    have h1:(a::b::r).length=r.length+2:=rfl;have h2:(b::r).length=r.length+1:=rfl;omega
   rw[e,List.eraseIdx_cons_succ,ih]
   all_goals rfl
theorem AM {α:Type}:∀(l:List α) (i:Nat),(l.eraseIdx i).length<=l.length
 |[],_=>km _
 |_::_,0=>ad9 _
 |_::r,i+1=>Nat.succ_le_succ (AM r i)
section
variable{X:Cx}{pins:List (Addr×Obj)}{σ:St}{H:Hp}{s:Shared}{l b:Addr}{xs ys zs:List V}
theorem Inv.KQ {its its':List Value}{n:Nat}{f:Array Value->Array Value}{t':Nat}(I:Inv X pins σ H s)(hH:H l=some (.lst xs))
  (e:s.heap.get? l=some { cls:=.type "list",data:=.seq its.toArray n }) (hf:f its.toArray=its'.toArray) (hv:Vals ys its') (hz:ys.length<=gn) :
  Inv X pins σ (upd H l (.lst ys)) { s with heap:=s.heap.update l (Obj.mapSeq f),toks:=t' }:=by
 have q:=PySem.IsL.update e f;rw[hf]at q;refine I.write (x:=l) (e:=l) (by rw[hH];exact trivial) (.inl rfl) (λb' u hb hu=>(adS s.heap (Obj.mapSeq f) (adz hb)).trans hu) ⟨_,q⟩ ?_
 exact⟨hz,its',_,hv,q⟩
theorem Inv.V6 {its:List Value}{t':Nat}(I:Inv X pins σ H s)(hv:Vals ys its)(hz:ys.length<=gn) :
  Inv X pins σ (upd H s.heap.objs.size (.lst ys)) { s with heap:=s.heap.push { cls:=.type "list",data:=.seq its.toArray },toks:=t' } :=
 I.laid (λ_ _ q=>gc _ q) (km _) ⟨hz,its,0,hv,tm _ rfl⟩
theorem Inv.fresh (I:Inv X pins σ H s):H s.heap.objs.size=none:=I.hok.fresh (km _)
theorem Inv.CQ (I:Inv X pins σ H s)(hH:H l=some (.lst xs)):xs.length<=gn/\∃(its:List Value) (n:Nat),Vals xs its/\xs.length=its.length/\s.heap.get? l=some { cls:=.type "list",data:=.seq its.toArray n }:=by
 obtain⟨z,its,n,r,e⟩:=I.hok l _ hH;exact⟨z,its,n,r,r.length,e⟩
theorem KR {n:Nat}(h:n<=gn):Builtin.List.listTooLong n=false:=by
 unfold Builtin.List.listTooLong;exact decide_eq_false (by omega)
end
section
variable{X:Cx}
def NI:V->List V->Hp->VK->Prop:=λx vs H Q=>∃l xs y,x=.ref l/\vs=[y]/\H l=some (.lst xs)/\xs.length < gn/\Q .non (upd H l (.lst (xs++[y])))
theorem gi:MtM X "list.append" NI:=by
 intro pins s σ H x vs v us Q I rx rv h;obtain⟨l,xs,y,rfl,rfl,hH,hz,q⟩:=h;cases rx;obtain⟨u,rfl,ru⟩:=rv.one;obtain⟨z,its,n,r,hl,e⟩:=I.CQ hH;refine call_meets F.slot_list_append ⟨_,e,rfl⟩ F.entry_list_append (F.args_list_append_2 _ _) (PySem.list_append l its.toArray n u (by rw[ku];omega)) ⟨e,?_⟩
 refine⟨.non,_,I.KQ (its':=its++[u]) hH e (by simp) (r.append (.cons ru .nil)) ?_,rfl,q⟩
 rw[kq,ady];omega
def NJ:V->List V->Hp->VK->Prop:=λx vs H Q=>∃l b xs zs,x=.ref l/\vs=[.ref b]/\H l=some (.lst xs)/\H b=some (.lst zs)/\xs.length+zs.length<=gn/\Q .non (upd H l (.lst (xs++zs)))
theorem AN:MtM X "list.extend" NJ:=by
 intro pins s σ H x vs v us Q I rx rv h;obtain⟨l,b,xs,zs,rfl,rfl,hH,hB,hz,q⟩:=h;cases rx;obtain⟨u,rfl,ru⟩:=rv.one;cases ru;obtain⟨z,its,n,r,hl,e⟩:=I.CQ hH;obtain⟨z2,F2,n2,r2,hl2,e2⟩:=I.CQ hB;have hsz:its.toArray.size+F2.toArray.size<=gn:=by rw[ku,ku];omega
 have V7:¬(!its.toArray.isEmpty && Builtin.List.listTooLong (its.toArray.size+F2.toArray.size))=true:=by
  rw[KR hsz,Bool.and_false];exact ki
 refine call_meets F.slot_list_extend ⟨_,e,rfl⟩ F.entry_list_extend (F.args_list_extend_2 _ _)
  (AutoSeq1.list_extend_list_list_0 l its.toArray n b F2.toArray n2 V7 (by rw[ku];omega) (by omega)) ⟨e,e2,?_⟩
 refine⟨.non,_,I.KQ (its':=its++F2) hH e (by simp) (r.append r2) ?_,rfl,q⟩
 rw[kq];omega
def aba:V->List V->Hp->VK->Prop:=λx vs H Q=>∃l xs y,x=.ref l/\vs=[]/\H l=some (.lst xs)/\xs[xs.length - 1]?=some y/\Q y (upd H l (.lst xs.dropLast))
theorem QU:MtM X "list.pop" aba:=by
 intro pins s σ H x vs v us Q I rx rv h;obtain⟨l,xs,y,rfl,rfl,hH,hy,q⟩:=h;cases rx;have hus:=rv.zero;subst hus;obtain⟨z,its,n,r,hl,e⟩:=I.CQ hH;obtain⟨u,hu,ru⟩:=r.get hy;have hy':its.toArray[its.toArray.size - 1]?=some u:=by
  show its.toArray[its.length - 1]?=some u;rw[<-Array.getElem?_toList,<-hl];exact hu
 refine call_meets F.slot_list_pop ⟨_,e,rfl⟩ F.entry_list_pop (F.args_list_pop_1 _) (MeetsSeq.list_pop_last l its.toArray n u hy' (by rw[ku];omega)) ⟨e,?_⟩
 refine⟨y,_,I.KQ (its':=its.dropLast) hH e ?_ r.dropLast ?_,ru,q⟩
 ·show its.toArray.eraseIdxIfInBounds (its.toArray.size - 1)=its.dropLast.toArray;rw[ku,List.eraseIdxIfInBounds_toArray,F0]
 ·rw[List.length_dropLast];omega
def QV:V->List V->Hp->VK->Prop:=λx vs H Q=>∃l xs i k y,x=.ref l/\vs=[.int i]/\H l=some (.lst xs)/\-(2 ^ 63)<=i/\i < 2 ^ 63/\seqIndex? i xs.length=some k/\xs[k]?=some y/\Q y (upd H l (.lst (xs.eraseIdx k)))
theorem KS:MtM X "list.pop" QV:=by
 intro pins s σ H x vs v us Q I rx rv h;obtain⟨l,xs,i,k,y,rfl,rfl,hH,h1,h2,hk,hy,q⟩:=h;cases rx;obtain⟨u,rfl,ru⟩:=rv.one;obtain⟨t,rfl⟩:=ru;obtain⟨z,its,n,r,hl,e⟩:=I.CQ hH;obtain⟨w,hw,rw'⟩:=r.get hy;refine call_meets F.slot_list_pop ⟨_,e,rfl⟩ F.entry_list_pop (F.args_list_pop_2 _ _)
  (MeetsSeq.list_pop_at l its.toArray n i t k w (fitsIndex_both h1 h2) (by rw[ku,<-hl];exact hk) (by rw[<-Array.getElem?_toList];exact hw) (by rw[ku];omega)) ⟨e,?_⟩
 refine⟨y,_,I.KQ (its':=its.eraseIdx k) hH e ?_ (r.eraseIdx k) ?_,rw',q⟩
 ·show its.toArray.eraseIdxIfInBounds k=(its.eraseIdx k).toArray;rw[List.eraseIdxIfInBounds_toArray]
 ·have:=AM xs k;omega
def abb:R2:=λx y H Q=>∃l b xs zs,x=.ref l/\y=.ref b/\H l=some (.lst xs)/\H b=some (.lst zs)/\xs.length+zs.length<=gn/\∀p,H p=none->Q (.ref p) (upd H p (.lst (xs++zs)))
theorem QW:OpR X (binaryOp .Add) abb:=by
 intro pins s σ H x y v u Q I rx ry h;obtain⟨l,b,xs,zs,rfl,rfl,hH,hB,hz,q⟩:=h;cases rx;cases ry;obtain⟨z,its,n,r,hl,e⟩:=I.CQ hH;obtain⟨z2,F2,n2,r2,hl2,e2⟩:=I.CQ hB;refine PySem.P.add_list e e2 ?_ (by rw[ku,ku];omega)
 have ea:its.toArray++F2.toArray=(its++F2).toArray:=by simp
 rw[ea];exact⟨.ref _,_,I.V6 (t':=s.toks) (r.append r2) (by rw[kq];omega),rfl,q _ I.fresh⟩
end
end L2
namespace Att
open PySem PySem.W PySem.Calls PyProof.Rows
theorem xa {P:Params}{h:Heap}:∀(ns:List Int) (vs:List Value),WellAll P h vs (ns.map WData.int)->IntsAre vs ns:=by
 intro ns
 induction ns with
 |nil =>
  intro vs w;rw[aec]at w;cases w;exact .nil
 |cons n ns ih =>
  intro vs w;rw[kg]at w;cases w with
  |cons a b =>
   cases a;exact .cons _ _ (ih _ b)
theorem Jf {l:OpenLaw}{n:Nat}(hn:l.most=some n){P:Params}{h:Heap}{args:List WData}{vals:List Value}
  (NK:l.row.toRowW.claim.pre args=true) (hwl:WellAll P h vals args) :
  ∃a vs ns,vals=[sr a]/\args=[WData.list (ns.map WData.int)]/\h.get? a=some { cls:=.type "list",data:=.seq vs.toArray }/\IntsAre vs ns/\ns.length<=n:=by
 have hsh:WShape.hasAll [] args [.list .int]=true:=(pre_splitW NK).1;have hc:l.pre.holds [] { args:=args }=true:=(pre_splitW NK).2;obtain⟨d,r,rfl,h1,h2⟩:=hasAllW_cons hsh;obtain rfl:=hasAllW_nil h2;obtain⟨xs,rfl,h3⟩:=hasW_list h1;obtain⟨ns,rfl⟩:=items_int h3;have hlen:ns.length<=n:=by
  unfold OpenLaw.pre at hc;have h4:(WTm.not (.lt (.lit (.int (n:Int))) (.len (.arg 0)))).holds [] { args:=[.list (ns.map .int)] }=true:=by
   have h4:=(holds_andW hc).1;rw[hn]at h4;exact h4
  have h5:=condW_of h4 (w_not (w_lt w_lit (w_len_list (w_arg rfl))));rw[da]at h5;refine Nat.le_of_not_lt λq=>?_
  have q':(n:Int) < ((ns.length:Nat):Int):=by omega
  first
   | (rw[decide_eq_true q']at h5;exact absurd h5 (by decide))
   | (simp at h5;omega)
 cases hwl with
 |cons w1 w2 =>
  cases w2;cases w1 with
  |list ho abc=>exact⟨_,_,ns,rfl,rfl,ho,xa ns _ abc,hlen⟩
theorem Jg (l:OpenLaw)(args:List WData):l.row.toRowW.claim.post args (.bool true) args=true :=
 postW_of (r:=l.row.toRowW) (X:=(true == true))
  (show WShape.has [] (.bool true) .bool=true by first | rfl | decide | simp[WShape.has,WShape.arms,WShape.armsAll])
  (show (WTm.eq .res (.lit (.bool true))).value [] { args:=args,res:=some (.bool true),after:=args }=some (.bool (true == true)) from w_eq_bool (w_res rfl) w_lit) rfl
theorem CS {l:OpenLaw}{n:Nat}{q:ma}{loose:List Str}{XP:(Str->Option Value)->Heap->Prop}{YP:World->Heap->Prop}{d:DefRec}
  (hn:l.most=some n) (hdf:d.params.defaults=[])
  (call:∀(w:World) (s₀ s₁:Shared) (mg mb:Str->Option Value) (fa:Addr) (o:Obj) (pm cd doc:Value) (a:Addr) (vs:List Value) (ns:List Int),
   Ground q loose [] XP w s₀ mg mb s₁.heap->YP w s₁.heap ->
   s₁.heap.get? fa=some o->o.data=.func (docDef d.name d.params d.body d.scope pm cd doc)->s₁.heap.CodeRec cd d.name->mg d.name=some (.ref fa) ->
   s₁.heap.get? a=some { cls:=.type "list",data:=.seq vs.toArray }->IntsAre vs ns->ns.length<=n->s₁.gens=#[] ->
   codeAny (model l.prog w) callerA (.call (.ref fa) ⟨[.ref a],[]⟩) (λr s'=>r=.ok (.ret (.bool true))/\OldK s₁.heap s'.heap/\s'.os=s₁.os/\AllBare s'.gens) s₁) :
  WalkO q loose XP YP l.row.toRowW d [] (λf vs=>PySem.call f vs):=by
 intro w s₀ s₁ mg mb G Y fa o pm cd doc dV kV ho hd hcd hD hmg hg args vals as NK adj hrd hwl hlo;obtain rfl:dV=.none:=Dflts.none hD hdf;obtain rfl:kV=.none:=Dflts.noKw hD;obtain⟨a,vs,ns,rfl,rfl,QX,hints,hlen⟩:=Jf hn NK hwl;refine enter_call (codeAny_mono (call w s₀ s₁ mg mb fa o pm cd doc a vs ns G Y ho (fd_plain hd) hcd hmg QX hints hlen hg) λr s' hq=>?_)
 obtain⟨rfl,h2,h3,h4⟩:=hq;exact⟨.inl ⟨.bool true,.bool true,[],rfl,λ_=>rfl,.bool true,Jg l _,λ_=>⟨List.Pairwise.nil,λ_ hm=>(nomatch hm)⟩⟩,h2,h3,h4⟩
section
variable{prog:ma}{w:World}{A:Around}{E:Value->Shared->Prop}{s:Shared}{K:Frag}
def ledger (h:Heap)(L d:Addr):List (Addr×Obj):=(aev h.objs.size).filterMap λa=>if a=L\/a=d then none else (h.get? a).map λo=>(a,o)
end
end Att
namespace L2
open PySem PySem.Spec PyProof.Rows
theorem AO:∀ {vs:List Value} {ns:List Int},IntsAre vs ns->Vals (ns.map V.int) vs
 |_,_,.nil=>.nil
 |_,_,.cons n t h=>.cons ⟨t,rfl⟩ (AO h)
def QY (H:Hp):Prop:=∀b,H b=none\/∃o xs,H b=some (.frz o (.lst xs))
theorem KU {P:ma}{w:World}{K:cb}{mg mb:Str->Option Value}{CX:CXT}{k:Nat}{fa a:Addr}{fd:kb}{x:Str}{sp:Sp}{s₁:Shared}{vs:List Value}{ns:List Int}
  (KX:K.In s₁.heap) (hns:s₁.heap.Ns gr mg) (hb:s₁.heap.Ns builtinsNs mb) (hbb:∀x:Str,x≠"__name__"->mb x=ad0 x) (abd:s₁.heap.NoLimit) (hg:s₁.gens=#[])
  (ha:s₁.heap.get? a=some { cls:=.type "list",data:=.seq vs.toArray }) (hi:IntsAre vs ns) (hl:ns.length<=gn) (hr:Room k callerA)
  (F:∀base:Heap,K.In base->base.Ns gr mg->a8 P w K mg base CX k fa fd [x] sp) (V8:∀(s:Shared) (u:Value),BindsTo s fd ⟨[u],[]⟩ [(x,u)])
  (hsp:∀H:Hp,QY H->SqL K H a (ns.map V.int)->sp [.ref a] H (λv _=>v=.bl true) λ_ _ _=>False)
  (hCX:∀H e s',CX [] H s₁ (λ_ _ _=>False) e s'->False) :
  codeAny (model P w) callerA (.call (.ref fa) ⟨[.ref a],[]⟩) (λr s'=>r=.ok (.ret (.bool true))/\OldK s₁.heap s'.heap/\s'.os=s₁.os/\AllBare s'.gens) s₁:=by
 have rv:=AO hi;have abe:=hi.length;have core:∀H:Hp,QY H->SqL K H a (ns.map V.int)->HOk P w H s₁.heap->(∀b,H b≠none->b=a)->(H a≠none->K.lookup a=none) ->
   codeAny (model P w) callerA (.call (.ref fa) ⟨[.ref a],[]⟩) (λr s'=>r=.ok (.ret (.bool true))/\OldK s₁.heap s'.heap/\s'.os=s₁.os/\AllBare s'.gens) s₁:=by
  intro H hO hS hok hA hK;have Ig:∀ {b:Addr} {o:Obj},s₁.heap.get? b=some o->H b=none->(Bq s₁.heap H).get? b=some o:=λe n=>Kr e n
  have noA:∀ {b:Addr} {o:Obj} {es:Array aea} {ep:Nat},s₁.heap.get? b=some o->o.data=.dict es ep->H b=none:=λ{b o es ep} e d=>by
   cases q:H b with
   |none=>rfl
   |some u =>
    have e':b=a:=hA b (by rw[q];simp)
    subst e';rw[ha]at e;cases e;have d':Data.seq vs.toArray _=Data.dict es ep:=d;cases d'
  have nsK:∀ {b:Addr} {m:Str->Option Value},s₁.heap.Ns b m->(Bq s₁.heap H).Ns b m:=λ{b m} ⟨o,es,ep,e,d,r⟩=>⟨o,es,ep,Ig e (noA e d),d,r⟩
  have hKb:K.In (Bq s₁.heap H):=λb o e=>Ig (KX b o e) (by
   cases q:H b with
   |none=>rfl
   |some u =>
    have e':b=a:=hA b (by rw[q];simp)
    subst e';rw[hK (by rw[q];simp)]at e;cases e)
  have hM:Mod K mg (Bq s₁.heap H):=⟨hKb,nsK hns,⟨mb,nsK hb,hbb⟩,let ⟨mc,h1,h2⟩:=abd;⟨mc,nsK h1,h2⟩⟩
  have e0:Ac P w K mg (Bq s₁.heap H) callerA [] s₁ H:=⟨rfl,hM,λb o e=>Nw e,Nat.le_of_eq (IW _ _),trivial,λb hb=>absurd (show b∈([]:List Addr) from hb) (by simp),hok,.of_eq hg⟩
  refine codeAny_mono ((F _ hKb (nsK hns)).run callerA [] s₁ H ⟨[.ref a],[]⟩ [.ref a] [.ref a] _ _ hr e0 (V8 s₁ (.ref a)) (.cons rfl .nil) (hsp H hO hS)) λr s' h=>?_
  cases r with
  |error e=>exact(hCX H e s' h).elim
  |ok fl =>
   cases fl with
   |next=>exact adw h
   |brk=>exact adw h
   |cont=>exact adw h
   |ret u =>
    obtain⟨v,H',os,bare,un,abf,r',q⟩:=h;have q':v=.bl true:=q;subst q';obtain rfl:u=Value.bool true:=r';refine⟨rfl,OldK.of_keep λb o e=>?_,os,bare⟩
    cases q:H b with
    |none=>exact un.keep b o e q (by intro z;exact absurd (show b∈([]:List Addr) from z) (by simp)) (by simp)
    |some u =>
     rcases hO b with z | ⟨ob,xs,z⟩
     ·rw[q]at z;cases z
     ·have z2:=un.tw b ob _ z;obtain⟨e1,_⟩:=hok b _ z;obtain⟨e2,_⟩:=abf b _ z2;rw[e]at e1;cases e1;exact e2
 cases hk:K.lookup a with
 |some o =>
  have e:=KX a o hk;rw[ha]at e;cases e;refine core (λ_=>none) (λ_=>.inl rfl) (.inr ⟨_,vs.toArray,_,hk,rfl,rfl,rfl,by rw[ku,abe];exact hl,by simpa using rv⟩) (λb u z=>by have z':(none:Option HO)=some u:=z;cases z') (λb z=>absurd rfl z) λz=>absurd rfl z
 |none =>
  refine core (λb=>if b=a then some (.frz { cls:=.type "list",data:=.seq vs.toArray } (.lst (ns.map V.int))) else none) (λb=>?_) (.inl (.inr ⟨{ cls:=.type "list",data:=.seq vs.toArray },if_pos rfl⟩)) (λb u z=>?_) (λb z=>?_) λ_=>hk
  ·by_cases hb:b=a
   ·exact .inr ⟨_,_,if_pos hb⟩
   ·exact .inl (if_neg hb)
  ·by_cases hb:b=a
   ·have z':=(if_pos hb).symm.trans z;cases z';subst hb;exact⟨ha,by rw[da];exact hl,vs,_,rv,ha⟩
   ·have z':=(if_neg hb).symm.trans z;cases z'
  ·by_cases hb:b=a
   ·exact hb
   ·exact absurd (if_neg hb) z
theorem NL {l:PySem.W.OpenLaw}{n k:Nat}{q:ma}{loose:List Str}{XP:(Str->Option Value)->Heap->Prop}{YP:World->Heap->Prop}{d:DefRec}{K:Params->cb}{CX:World->CXT}{sp:World->Sp}{x:Str}
  (hn:l.most=some n) (hn2:n<=gn) (hdf:d.params.defaults=[]) (hr:Room k callerA)
  (hY:∀(w:World) (h:Heap),YP w h->(K w.params).In h)
  (F:∀(w:World) (mg:Str->Option Value) (fa:Addr) (h:Heap),(K w.params).In h->h.Ns gr mg->mg d.name=some (.ref fa) ->
   ∃fd:kb,(∀(s:Shared) (u:Value),BindsTo s fd ⟨[u],[]⟩ [(x,u)]) /\
    ∀base:Heap,(K w.params).In base->base.Ns gr mg->a8 l.prog w (K w.params) mg base (CX w) k fa fd [x] (sp w))
  (hsp:∀(w:World) (H:Hp) (a:Addr) (ns:List Int),ns.length<=n->QY H->SqL (K w.params) H a (ns.map V.int)->sp w [.ref a] H (λv _=>v=.bl true) λ_ _ _=>False)
  (hCX:∀(w:World) (H:Hp) (s:Shared) (e:Value) (s':Shared),CX w [] H s (λ_ _ _=>False) e s'->False) :
  PySem.W.WalkO q loose XP YP l.row.toRowW d [] (λf vs=>PySem.call f vs):=by
 refine Att.CS hn hdf λw s₀ s₁ mg mb fa o pm cd doc a vs ns G Y ho hd hcd hmg QX hints hlen hg=>?_
 have KX:=hY w _ Y;obtain⟨fd,hb,hF⟩:=F w mg fa _ KX G.T.g hmg;exact KU KX G.T.g G.T.b G.T.builtins G.T.nolimit hg QX hints (me hlen hn2) hr hF hb (λH hO hS=>hsp w H a ns hlen hO hS) λH e s'=>hCX w H s₁ e s'
def inClass (s:Stmt)(j:Nat):Stmt:=match s with
 | .ClassDef _ _ _ body _ _ _ _ _ _ _=>body.getD j (.Pass ⟨0,0,0,0⟩)
 |_=>.Pass ⟨0,0,0,0⟩
def aB (s:Stmt):Arguments:=match s with
 | .FunctionDef _ a _ _ _ _ _ _ _ _=>a
 |_=>{ posonlyargs:=[],args:=[],vararg:=none,kwonlyargs:=[],kw_defaults:=[],kwarg:=none,defaults:=[] }
def ay (s:Stmt):List Stmt:=match s with
 | .FunctionDef _ _ b _ _ _ _ _ _ _=>b
 |_=>[]
def ag (s:Stmt):Scope:=match s with
 | .FunctionDef _ _ _ _ _ _ sc _ _ _=>sc
 |_=>{ kind:=.function,names:=[],isGenerator:=false,isCoroutine:=false }
abbrev CX0:CXT:=λ_ _ _ _ _ _=>False
abbrev E0:XK:=λ_ _ _=>False
theorem bC {X:Cx}:Passes CX0 X E0:=λ_ _ _ _ _ _ _ h=>h.elim
structure Fun (K:cb)(x qual:Str)(st:Stmt)(f:Addr)(fd:kb):Prop where
 ex:∃(oc:Value) (od:Option Addr) (kV doc pm:Value) (an:Option Addr) (cdv ct:Value) (osl:Array (Option Value)),
  fd=fu x qual (aB st) (ay st) (ag st) .none kV doc pm an cdv ct/\K.lookup f=some ⟨oc,od,.func fd,osl⟩/\eg K cdv qual=true
 kp:de K (.ref f)=true
section
variable{P:ma}{w:World}{K:cb}{mg:Str->Option Value}{base:Heap}
theorem Fun.ok {x qual:Str}{st:Stmt}{f:Addr}{fd:kb}{N ps:List Str}{k:Nat}{sp:Sp}(F:Fun K x qual st f fd)(S:az N ps (ag st))(len:∀vs H Q E,sp vs H Q E->vs.length=ps.length)
  (CN:∀(cdv:Value) (A:Around) (outer:List Env) (s:Shared) (H:Hp) (vs:List V) (Q:VK) (E:XK),Room k (A.deeper (envOfC qual (ag st) s.heap.objs.size f cdv))->sp vs H Q E ->
   ∃t,PSs (cD CX0 P w K mg base N qual (ag st) f cdv A outer s H E).nox (ay st) t/\t { nx:=λ_ H'=>Q .non H',rt:=Q } (start N vs) H):a8 P w K mg base CX0 (k+1) f fd ps sp:=by
 obtain⟨oc,od,kV,doc,pm,an,cdv,ct,osl,rfl,lk,hcd⟩:=F.ex;refine Pd lk hcd S len λA outer s H vs Q E hr hsp=>?_
 obtain⟨t,h,q⟩:=CN cdv A outer s H vs Q E hr hsp;exact⟨t,h.nox,q⟩
theorem Fun.binds {x qual:Str}{st:Stmt}{f:Addr}{fd:kb}{ps:List Str}(F:Fun K x qual st f fd)
  (h:∀(kV doc pm:Value) (an:Option Addr) (cdv ct:Value) (us:List Value),us.length=ps.length->bindArgs (fu x qual (aB st) (ay st) (ag st) .none kV doc pm an cdv ct) ⟨us,[]⟩=pure (ps.zip us)):Binds K fd ps []:=by
 obtain⟨oc,od,kV,doc,pm,an,cdv,ct,osl,rfl,lk,hcd⟩:=F.ex;exact .all (h kV doc pm an cdv ct)
theorem aV {x qual:Str}{st:Stmt}{f:Addr}{oc:Value}{od an:Option Addr}{osl:Array (Option Value)}{kV doc pm cdv ct:Value}(l:K.lookup f=some ⟨oc,od,.func (fu x qual (aB st) (ay st) (ag st) .none kV doc pm an cdv ct),osl⟩)
  (c:eg K cdv qual=true) (k:de K (.ref f)=true):Fun K x qual st f (fu x qual (aB st) (ay st) (ag st) .none kV doc pm an cdv ct):=⟨⟨oc,od,kV,doc,pm,an,cdv,ct,osl,rfl,l,c⟩,k⟩
end
section
variable{X:Cx}
theorem pv (i:Nat){x:Str}{pos:Pos}(hN:X.N[i]?=some x:=by rfl)(hv:Vis X.env.scope x:=by first | exact wt rfl | exact Or.inr (wt rfl) | exact Or.inr (Or.inr rfl))(hd:(x == ("__debug__":Str))=false:=by decide)
  (hcd:(x == ("__classdict__":Str))=false:=by decide):PE X (.Name x pos) (Qx i):=Qy hN hv hd hcd
end
theorem kK {A B:Prop}(h:B):if false=true then A else B:=by
 rw[if_neg ki];exact h
theorem nO {A B:Prop}(h:A):if true=true then A else B:=by
 rw[if_pos rfl];exact h
theorem vq {c A B:Prop}[Decidable c](h1:c->A)(h2:¬c->B):if c then A else B:=by
 by_cases h:c
 ·rw[if_pos h];exact h1 h
 ·rw[if_neg h];exact h2 h
def bT (H H':Hp):Prop:=∀b o,H b=some o->H' b=some o
theorem bT.refl (H:Hp):bT H H:=λ_ _ h=>h
theorem bT.trans {H H1 H2:Hp}(a:bT H H1)(b:bT H1 H2):bT H H2:=λc o h=>b c o (a c o h)
theorem bT.free {H H':Hp}(e:bT H H'){l:Addr}(h:H' l=Option.none):H l=Option.none:=by
 cases q:H l with
 |none=>rfl
 |some o =>
  rw[e l o q]at h;cases h
theorem bT.seq {K:cb}{H H':Hp}{a:Addr}{xs:List V}(e:bT H H')(h:SqL K H a xs):SqL K H' a xs:=by
 rcases h with (h | ⟨o,h⟩) | h
 ·exact .inl (.inl (e _ _ h))
 ·exact .inl (.inr ⟨o,e _ _ h⟩)
 ·exact .inr h
theorem vt:ad0 "len"=some (.builtin "len"):=by trivial
theorem bb:ad0 "isinstance"=some (.builtin "isinstance"):=by trivial
theorem QZ:ad0 "max"=some (.builtin "max"):=by trivial
theorem Q0:ad0 "any"=some (.builtin "any"):=by trivial
theorem KW:ad0 "int"=some (.type "int"):=by trivial
theorem KY:ad0 "str"=some (.type "str"):=by trivial
theorem kD:ad0 "list"=some (.type "list"):=by trivial
theorem Ae:ad0 "ValueError"=some (.type "ValueError"):=by trivial
mutual
def DV (K:cb)(H:Hp):PyData->V->Prop
 | .none,x=>x=.non
 | .bool b,x=>x=.bl b
 | .int i,x=>x=.int i
 | .str y,x=>x=.str y
 | .list ds,x=>∃a xs,x=.ref a/\SqL K H a xs/\DVs K H ds xs
 | .tuple ds,x=>∃a xs,x=.ref a/\SqT K H a xs/\DVs K H ds xs
 | .dict _,_=>False
def DVs (K:cb)(H:Hp):List PyData->List V->Prop
 |[],xs=>xs=[]
 |d::ds,xs=>∃x r,xs=x::r/\DV K H d x/\DVs K H ds r
end
section
variable{X:Cx}{pins:List (Addr×Obj)}{σ:St}{H:Hp}{s:Shared}
mutual
theorem DV.reads (I:Inv X pins σ H s):∀(d:PyData) {x:V} {u:Value},DV X.K H d x->RelV x u->∃as,Reads s.heap u d as
 | .none,_,_,h,r=>by
  have h':=h;unfold DV at h';subst h';cases r;exact⟨_,.none⟩
 | .bool b,_,_,h,r=>by
  have h':=h;unfold DV at h';subst h';cases r;exact⟨_,.bool b⟩
 | .int i,_,_,h,r=>by
  have h':=h;unfold DV at h';subst h';obtain⟨t,rfl⟩:=r;exact⟨_,.int i t⟩
 | .str y,_,_,h,r=>by
  have h':=h;unfold DV at h';subst h';obtain⟨t,rfl⟩:=r;exact⟨_,.str y t⟩
 | .list ds,_,_,h,r=>by
  have h':=h;unfold DV at h';obtain⟨a,xs,rfl,hq,hs⟩:=h';cases r;obtain⟨its,rv,⟨o,n,e,c,_,dt⟩,_⟩:=I.list hq;obtain⟨as,q⟩:=DVs.reads I ds hs rv;exact⟨_,.list e c dt (by simpa using q)⟩
 | .tuple ds,_,_,h,r=>by
  have h':=h;unfold DV at h';obtain⟨a,xs,rfl,hq,hs⟩:=h';cases r;obtain⟨its,rv,⟨o,e,c,n,dt⟩,_⟩:=I.tuple hq;obtain⟨as,q⟩:=DVs.reads I ds hs rv;exact⟨_,.tuple e c dt (by simpa using q)⟩
 | .dict _,_,_,h,_=>by
  have h':=h;unfold DV at h';exact h'.elim
theorem DVs.reads (I:Inv X pins σ H s):∀(ds:List PyData) {xs:List V} {us:List Value},DVs X.K H ds xs->Vals xs us->∃as,ReadsAll s.heap us ds as
 |[],_,_,h,r=>by
  have h':=h;unfold DVs at h';subst h';cases r;exact⟨_,.nil⟩
 |d::ds,_,_,h,r=>by
  have h':=h;unfold DVs at h';obtain⟨x,q,rfl,h1,h2⟩:=h';cases r with
  |cons r1 r2 =>
   obtain⟨as,e1⟩:=DV.reads I d h1 r1;obtain⟨bs,e2⟩:=DVs.reads I ds h2 r2;exact⟨_,.cons e1 e2⟩
end
def abg (K:cb):R2:=λx y H Q=>∃d e,DV K H d x/\DV K H e y/\SeqAt.shaped d=true/\SeqAt.shaped e=true/\Q (.bl (aeC d e)) H
def abh (K:cb):R2:=λx y H Q=>∃d e,DV K H d x/\DV K H e y/\SeqAt.shaped d=true/\SeqAt.shaped e=true/\Q (.bl (!aeC d e)) H
theorem KZ (hu:X.A.units+64 < cLine):OpR X (aei .Eq) (abg X.K):=by
 intro pins s σ H x y v u Q I rx ry h;obtain⟨d,e,hd,he,sd,se,q⟩:=h;obtain⟨as,r1⟩:=DV.reads I d hd rx;obtain⟨bs,r2⟩:=DV.reads I e he ry;exact eq_dataH r1 r2 sd se hu ⟨.bl _,H,I,rfl,q⟩
theorem Q1 (hu:X.A.units+64 < cLine):OpR X (aei .NotEq) (abh X.K):=by
 intro pins s σ H x y v u Q I rx ry h;obtain⟨d,e,hd,he,sd,se,q⟩:=h;obtain⟨as,r1⟩:=DV.reads I d hd rx;obtain⟨bs,r2⟩:=DV.reads I e he ry;exact ne_dataH r1 r2 sd se hu ⟨.bl _,H,I,rfl,q⟩
end
theorem CT (K:cb)(H:Hp):∀ws:List Str,DVs K H (ws.map ad3) (ws.map V.str)
 |[]=>by unfold DVs;rfl
 |w::ws=>by
  show DVs K H (ad3 w::ws.map ad3) _;unfold DVs;exact⟨_,_,rfl,by unfold DV;rfl,CT K H ws⟩
theorem BD {K:cb}{H:Hp}{a:Addr}{ws:List Str}(h:SqL K H a (ws.map V.str)):DV K H (.list (ws.map ad3)) (.ref a):=by
 unfold DV;exact⟨a,_,rfl,h,CT K H ws⟩
theorem wB:∀vs ws:List Str,aer (vs.map ad3) (ws.map ad3)=decide (vs=ws)
 |[],[]=>by simp[aer]
 |[],_::_=>by simp[aer]
 |_::_,[]=>by simp[aer]
 |a::r,b::t=>by
  simp only[kg,aer,aeC,wB r t]
  by_cases h:a=b <;> by_cases h':r=t <;> simp[h,h']
theorem wC:∀ws:List Str,(∀w∈ws,Lk w=true)->adC (ws.map ad3)=true
 |[],_=>by simp[adC]
 |w::ws,h=>by
  simp only[kg,adC,ad4,adO];exact⟨h w fi,wC ws λv hv=>h v (kf _ hv)⟩
theorem yK:∀ws:List Str,ad5 (ws.map ad3)<=1
 |[]=>by simp[ad5]
 |w::ws=>by
  have:=yK ws;simp only[kg,ad5,aed];omega
theorem wD {ws:List Str}(h:∀w∈ws,Lk w=true):SeqAt.shaped (.list (ws.map ad3))=true:=by
 have h1:=yK ws;have h2:aed (.list (ws.map ad3))<=64:=by simp only[aed];omega
 show (ad4 (.list (ws.map ad3)) && decide (aed (.list (ws.map ad3))<=64))=true;rw[adO];exact⟨by simp only[ad4];exact wC ws h,decide_eq_true h2⟩
theorem yL:∀ {ys:List Str} {us:List Value},Vals (ys.map V.str) us->StrsAre us ys
 |[],_,.nil=>.nil
 |y::ys,_,.cons r t=>by
  obtain⟨tk,rfl⟩:=r;exact .cons y tk (yL t)
theorem qO:∀l:List (Str×Tok),Vals ((l.map (·.1)).map V.str) (strValues l)
 |[]=>.nil
 |p::l=>.cons ⟨p.2,rfl⟩ (qO l)
section
variable{X:Cx}
def rJoin (K:cb):V->List V->Hp->VK->Prop:=λx vs H Q=>∃sep a ys,x=.str sep/\vs=[.ref a]/\SqL K H a (ys.map V.str)/\(ys.map (·.length)).sum+ys.length * sep.length<=16777216/\Q (.str (ka sep ys)) H
theorem Ih:MtR X "str.join" (rJoin X.K):=by
 intro pins s σ H x vs v us Q I rx rv h;obtain⟨sep,a,ys,rfl,rfl,hq,hz,q⟩:=h;obtain⟨t,rfl⟩:=rx;obtain⟨u,rfl,ru⟩:=rv.one;cases ru;obtain⟨its,r,pl,_⟩:=I.list hq;refine join_list pl.isList (yL (by simpa using r)) hz λt' k=>?_
 rw[show Txt.join sep ys=ka sep ys from StrLaws.glued_eq_join sep ys]
 exact⟨.str _,H,I.tok _,⟨_,rfl⟩,q⟩
def Q2:V->List V->Hp->VK->Prop:=λx vs H Q=>∃z y,x=.str z/\vs=[.str y]/\(y.length == 0)=false/\z.length+2<=gn/\∀p,H p=none->Q (.ref p) (upd H p (.lst ((Txt.split z y).map V.str)))
theorem K0:MtR X "str.split" Q2:=by
 intro pins s σ H x vs v us Q I rx rv h;obtain⟨x,y,rfl,rfl,hy,hsz,q⟩:=h;obtain⟨t,rfl⟩:=rx;obtain⟨_,rfl,u,rfl⟩:=rv.one;have hn:(Builtin.Str.partsBetween x (aen x y 0 x.length (x.length+1)) y.length).length<=gn:=by
  have e1:=StrLaws.occ_length_le x y 0 x.length (x.length+1);rw[length_partsBetween];omega
 have fin:∀(l:List (Str×Tok)) (tk:Nat),l.map (·.1)=Txt.split x y->(Txt.split x y).length<=gn ->
   EP X pins σ Q (.ref s.heap.objs.size) { s with heap:=s.heap.push { cls:=.type "list",data:=.seq (strValues l).toArray },toks:=tk }:=λl tk e hz=>by
  refine⟨.ref _,_,I.V6 (t':=tk) (ys:=(Txt.split x y).map V.str) (by rw[<-e];exact qO l) (by rw[da];exact hz),rfl,q _ I.fresh⟩
 have V9:1<=gn:=by omega
 cases h1:(decide (x.length < y.length) || decide (Builtin.Str.strKind x < Builtin.Str.strKind y))
 ·cases hf:(aen x y 0 x.length (x.length+1)).isEmpty
  ·refine call_meets F.slot_str_split (typeIs_str _ _ _) F.entry_str_split (F.args_str_split_2 _ _) (meets_str_split_sep x y t u h1 hy hf (by omega) hn) ?_
   have e:Txt.split x y=Builtin.Str.partsBetween x (aen x y 0 x.length (x.length+1)) y.length:=(if_neg (ne_true_of_eq_false h1)).trans (if_neg (ne_true_of_eq_false hf));show wants (EP X pins σ Q) X.xe _ { s with toks:=_,heap:=s.heap.push { cls:=.type "list",data:=.seq (strsFrom s.toks (Builtin.Str.partsBetween x (aen x y 0 x.length (x.length+1)) y.length)).toArray } }
   rw[strsFrom_eq];exact fin (numbered s.toks _) _ ((numbered_texts _ _).trans e.symm) (by rw[e];exact hn)
  ·have e:Txt.split x y=[x]:=(if_neg (ne_true_of_eq_false h1)).trans (if_pos hf);exact call_meets F.slot_str_split (typeIs_str _ _ _) F.entry_str_split (F.args_str_split_2 _ _) (meets_str_split_not_found x y t u h1 hy hf)
    (fin [(x,t)] s.toks e.symm (by rw[e];exact V9))
 ·have e:Txt.split x y=[x]:=if_pos h1;exact call_meets F.slot_str_split (typeIs_str _ _ _) F.entry_str_split (F.args_str_split_2 _ _) (meets_str_split_cannot_occur x y t u h1)
   (fin [(x,t)] s.toks e.symm (by rw[e];exact V9))
def Q3:V->Value
 | .ty n=>.type n
 | .ref a=>.ref a
 |_=>.none
def isC:V->Bool
 | .ty _=>true
 | .ref _=>true
 |_=>false
theorem gM:OpR X (binaryOp .Add) (λx y H Q=>∃l b xs zs,x=.ref l/\y=.ref b/\H l=some (.lst xs)/\H b=some (.lst zs)/\xs.length+zs.length<=gn/\∀p,H p=none->Q (.ref p) (upd H p (.lst (xs++zs)))):=QW
end
theorem eB (a b:Str):(a++b).cps.toList=a.cps.toList++b.cps.toList:=by
 show (a.cps++b.cps).toList=_;simp
theorem CU (c:Nat):∀(a b p q:List Nat),c∉a->c∉b->a++c::p=b++c::q->a=b/\p=q
 |[],[],p,q,_,_,e=>by simpa using e
 |[],y::b,p,q,_,hb,e=>by
  have e':c::p=y::(b++c::q):=e;injection e' with e1 _
  exact absurd (by rw[e1];exact fi) hb
 |x::a,[],p,q,ha,_,e=>by
  have e':x::(a++c::p)=c::q:=e;injection e' with e1 _
  exact absurd (by rw[<-e1];exact fi) ha
 |x::a,y::b,p,q,ha,hb,e=>by
  have e':x::(a++c::p)=y::(b++c::q):=e;injection e' with e1 e2
  obtain⟨h1,h2⟩:=CU c a b p q (λh=>ha (kf _ h)) (λh=>hb (kf _ h)) e2
  exact⟨by rw[e1,h1],h2⟩
theorem BE {a b:Str}(h:a.cps.toList=b.cps.toList):a=b:=by
 cases a;cases b;have:=Array.toList_inj.mp h;subst this;rfl
theorem jM (c:Nat)(x y:Str)(r:List Str):(ka ⟨#[c]⟩ (x::y::r)).cps.toList=x.cps.toList++c::(ka ⟨#[c]⟩ (y::r)).cps.toList:=by
 show ((x++⟨#[c]⟩)++ka ⟨#[c]⟩ (y::r)).cps.toList=_;rw[eB,eB];simp
theorem CV (c:Nat):∀(vs ws:List Str),vs≠[]->ws≠[]->(∀v∈vs,c∉v.cps.toList)->(∀w∈ws,c∉w.cps.toList)->ka ⟨#[c]⟩ vs=ka ⟨#[c]⟩ ws->vs=ws
 |[],_,h,_,_,_,_=>absurd rfl h
 |_,[],_,h,_,_,_=>absurd rfl h
 |[x],[y],_,_,_,_,e=>by rw[show x=y from e]
 |[x],y::z::r,_,_,hv,_,e=>by
  have e1:=congrArg (λt:Str=>t.cps.toList) e
  have e2:x.cps.toList=y.cps.toList++c::(ka ⟨#[c]⟩ (z::r)).cps.toList:=e1.trans (jM c y z r);exact absurd (by rw[e2];exact gp _ fi) (hv x fi)
 |x::z::r,[y],_,_,_,hw,e=>by
  have e1:=congrArg (λt:Str=>t.cps.toList) e
  have e2:x.cps.toList++c::(ka ⟨#[c]⟩ (z::r)).cps.toList=y.cps.toList:=(jM c x z r).symm.trans e1;exact absurd (by rw[<-e2];exact gp _ fi) (hw y fi)
 |x::x2::r,y::y2::q,_,_,hv,hw,e=>by
  have e1:=congrArg (λt:Str=>t.cps.toList) e
  have e2:=(jM c x x2 r).symm.trans (e1.trans (jM c y y2 q));obtain⟨h1,h2⟩:=CU c _ _ _ _ (hv x fi) (hw y fi) e2;have h3:=CV c (x2::r) (y2::q) (adX _ _) (adX _ _) (λv h=>hv v (kf _ h)) (λw h=>hw w (kf _ h)) (BE h2)
  rw[BE h1,h3]
theorem K1 (x y:Str):Txt.split x y≠[]:=by
 unfold Txt.split;split
 ·exact adX _ _
 ·split
  ·exact adX _ _
  ·rw[StrLaws.partsBetween_eq];intro h;have:=congrArg List.length h;revert this;cases (aen x y 0 x.length (x.length+1)) <;> simp[StrLaws.partsFrom]
theorem F3 {c:Nat}{ws:List Str}(h0:ws≠[])(h:∀w∈ws,c∉w.cps.toList):Txt.split (ka ⟨#[c]⟩ ws) ⟨#[c]⟩=ws :=
 CV c _ _ (K1 _ _) h0 (StrLaws.split_free _ c) h (StrLaws.join_split _ _)
theorem oF (c:Nat):∀ws:List Str,(ka ⟨#[c]⟩ ws).length<=(ws.map (·.length)).sum+ws.length
 |[]=>ad8 _
 |[x]=>by show x.length<=_;simp
 |x::y::r=>by
  have ih:=oF c (y::r);have e:(ka ⟨#[c]⟩ (x::y::r)).length=x.length+1+(ka ⟨#[c]⟩ (y::r)).length:=by
   have:=congrArg List.length (jM c x y r);rw[kq,om]at this;have l1:∀z:Str,z.cps.toList.length=z.length:=λz=>by simp[Str.length]
   rw[l1,l1,l1]at this;omega
  simp only[kg,List.sum_cons,om]at ih ⊢;omega
theorem Af {c:Nat}:∀ {ws:List Str},ws≠[]->(∀w∈ws,1<=w.length)->1<=(ka ⟨#[c]⟩ ws).length
 |[],h,_=>absurd rfl h
 |[x],_,h=>h x fi
 |x::y::r,_,h=>by
  have h1:=h x fi;have:=congrArg List.length (jM c x y r);rw[kq]at this;have l1:∀z:Str,z.cps.toList.length=z.length:=λz=>by simp[Str.length]
  rw[l1,l1]at this;omega
theorem Q4 {b:Bool}{A B:Prop}(hb:b=true)(h:B):if (!b)=true then A else B:=by
 subst hb;exact kK h
theorem Ii {b:Bool}{A B:Prop}(hb:b=true)(h:A):if b=true then A else B:=by
 subst hb;exact nO h
theorem K2 {b:Bool}{A B:Prop}(hb:b=false)(h:B):if b=true then A else B:=by
 subst hb;exact kK h
theorem aK {H:Hp}{p:Addr}{o:HO}(h:H p=none):bT H (upd H p o):=λb u e=>by
 rw[aw (a6 e h)];exact e
theorem bT.own {H H':Hp}{p:Addr}{o:HO}(s:bT H H')(h:H p=none):bT H (upd H' p o):=λb u e=>by
 rw[aw (a6 e h)];exact s b u e
theorem bT.new {H H':Hp}{p:Addr}{o:HO}(s:bT H H')(h:H' p=none):bT H (upd H' p o):=s.trans (aK h)
theorem bT.nn {H H':Hp}(s:bT H H'){p:Addr}{o:HO}(h:H p=none)(e:H' p=some o){b:Addr}{u:HO}(eb:H b=some u):b≠p:=a6 eb h
theorem K4 (xs:List V)(k:Nat):CO xs (some (k:Int)) none=xs.drop k:=by
 unfold CO;rw[HT.Ib,HT.KI]
 by_cases h:k<=xs.length
 ·rw[Nat.min_eq_left h];exact List.take_of_length_le (by rw[aeF];exact km _)
 ·have h':xs.length<=k:=by omega
  rw[Nat.min_eq_right h',List.drop_of_length_le h',List.drop_of_length_le (km _)];simp
theorem K5 {α:Type}{xs:List α}{i:Int}{n:Nat}(hn:xs.length=n)(h0:0<=i)(h1:i < n):∃c,atI xs i=some c/\c∈xs:=by
 have hi:i.toNat < xs.length:=by omega
 have e:((i.toNat:Nat):Int)=i:=by omega
 refine⟨xs[i.toNat],?_,List.getElem_mem hi⟩;have q:=pM (adv hi);rw[e]at q;exact q
def f6 (scope outer:Scope):Scope :=
 { scope with names:=scope.names.map λ(n,k)=>if (k == .free && outer.kind == .function && outer.names.lookup n == some .cell) then (n,.cell) else (n,k) }
structure dM (scope outer:Scope)(x:Str)(N M:List Str):Prop where
 kind:scope.kind=.function
 K6:outer.kind=.function
 yM:∀y∈scope.names,y.2≠.cell
 names:∀y∈scope.names,y.2=.local->scope.names.lookup y.1=some .local
 hx:scope.names.lookup x=some .local
 free:∀y∈scope.names,y.2=.free->outer.names.lookup y.1=some .cell
 nl:∀n∈M,(f6 scope outer).names.lookup n≠some .local
 ndM:M.Nodup
 nd:N.Nodup
 len:M.length=N.length
 rel:∀i:Nat,i < N.length->M[i]?=N[i]?\/M[i]?=some adE
 em:(f6 scope outer).names.lookup adE=none
theorem dM.mem {scope outer:Scope}{x:Str}{N M:List Str}(S:dM scope outer x N M){n:Str}{k:NameKind}(h:(f6 scope outer).names.lookup n=some k)(hk:k=.cell\/k=.free) :
  k=.cell/\(n,aek)∈scope.names/\outer.names.lookup n=some .cell:=by
 obtain⟨⟨n',k'⟩,hm,e⟩:=List.mem_map.mp (aef h);dsimp only at e
 by_cases hc:(k' == aek && outer.kind == .function && outer.names.lookup n' == some .cell)=true
 ·rw[if_pos hc]at e;injection e with e1 e2
  subst e1 e2;rw[adO,adO]at hc;have hk':k'=.free:=beq_iff_eq.mp hc.1.1;subst hk';exact⟨rfl,hm,beq_iff_eq.mp hc.2⟩
 ·rw[if_neg hc]at e;injection e with e1 e2
  subst e1 e2;rcases hk with z | z
  ·exact absurd z (S.yM _ hm)
  ·subst z
   exfalso
   refine hc ?_;rw[S.free _ hm rfl,S.K6];rfl
theorem BF {env:Env}{f:Str×NameKind->List (Str×Addr)->Sem (ForInStep (List (Str×Addr)))}
  (h1:∀n k r,k≠aek->f (n,k) r=pure (.yield r)) (h2:∀n r c,env.cells.lookup n=some c->f (n,.free) r=pure (.yield ((n,c)::r))) :
  ∀(ns:List (Str×NameKind)) (acc:List (Str×Addr)),(∀y∈ns,y.2=.free->∃c,env.cells.lookup y.1=some c)->(∀n c,acc.lookup n=some c->env.cells.lookup n=some c) ->
   ∃cl,(forIn ns acc f:Sem (List (Str×Addr)))=pure cl/\(∀n c,cl.lookup n=some c->env.cells.lookup n=some c)/\(∀n c,acc.lookup n=some c->(cl.lookup n).isSome=true)/\∀y∈ns,y.2=.free->(cl.lookup y.1).isSome=true
 |[],acc,_,ha=>⟨acc,by simp,ha,λn c e=>by rw[e];rfl,λy hy=>nomatch hy⟩
 | (n,k)::ns,acc,hn,ha=>by
  by_cases hk:k=aek
  ·subst hk;obtain⟨c,hc⟩:=hn (n,.free) fi rfl;have ha':∀m d,((n,c)::acc).lookup m=some d->env.cells.lookup m=some d:=λm d e=>by
    rw[aes]at e;split at e
    ·rename_i hb;have:m=n:=beq_iff_eq.mp hb;subst this;rw[<-adq e];exact hc
    ·exact ha m d e
   obtain⟨cl,e,p1,p2,p3⟩:=BF h1 h2 ns ((n,c)::acc) (λy hy=>hn y (kf _ hy)) ha'
   have hnn:(cl.lookup n).isSome=true:=p2 n c (by simp[aes])
   refine⟨cl,?_,p1,λm d em=>?_,λy hy hf=>?_⟩
   ·rw[List.forIn_cons,h2 n acc c hc,pure_bind];exact e
   ·by_cases hm:m=n
    ·subst hm;exact hnn
    ·exact p2 m d (by rw[aes,show (m == n)=false from beq_eq_false_iff_ne.mpr hm];exact em)
   ·rcases List.mem_cons.mp hy with rfl | hy
    ·exact hnn
    ·exact p3 y hy hf
  ·obtain⟨cl,e,p1,p2,p3⟩:=BF h1 h2 ns acc (λy hy=>hn y (kf _ hy)) ha
   refine⟨cl,?_,p1,p2,λy hy hf=>?_⟩
   ·rw[List.forIn_cons,h1 n k acc hk,pure_bind];exact e
   ·rcases List.mem_cons.mp hy with rfl | hy
    ·exact absurd hf hk
    ·exact p3 y hy hf
theorem vv {scope:Scope}{env:Env}(h:∀y∈scope.names,y.2=.free->∃c,env.cells.lookup y.1=some c) :
  ∃cl,closureFor scope env=pure cl/\(∀n c,cl.lookup n=some c->env.cells.lookup n=some c)/\∀y∈scope.names,y.2=.free->(cl.lookup y.1).isSome=true:=by
 unfold closureFor;obtain⟨cl,e,p1,_,p3⟩:=BF (env:=env) (f:=λx r=>match x with | (name,kind)=>if (kind == aek)=true then do let a <-cellOf env name;pure (.yield ((name,a)::r)) else pure (.yield r))
  (λn k r hk=>by
   have:(k == aek)=false:=beq_eq_false_iff_ne.mpr hk;simp only[this,Bool.false_eq_true,if_false])
  (λn r c hc=>by
   simp only[beq_self_eq_true,if_true];unfold cellOf;rw[hc];rw[pure_bind])
  scope.names [] h (λn c e=>by simp at e)
 refine⟨cl,?_,p1,p3⟩;have e':=congrArg (λz:Sem (List (Str×Addr))=>z >>= λcs=>pure cs) e
 simp only[pure_bind]at e';exact e'
def dW (X:Cx)(x:Str)(M:List Str)(scope:Scope)(cl:List (Str×Addr))(C:Addr)(s:Shared)(H:Hp)(fp:List Addr):Cx :=
 { X with N:=x::M,s₀:=s,H₀:=H,env:=compEnvC scope cl C X.env,outer:=X.stack,ex:=fp,fn:=λ_=>false,pn:=[],xe:=λ_ _=>False }
def yN (J:It)(te:TE)(σ:St)(D:Addr)(H1:Hp)(Q:VK):Prop:=∃W:Nat->Nat->List V->Hp->Prop,(∃m,W 0 m [] (upd H1 D (.lst [])))/\∀i m ys H2,W i m ys H2 ->
 H2 D=some (.lst ys)/\((J.stop i H2/\Q (.ref D) H2)\/(J.go i H2/\ys.length < gn/\∀x H3,J.yld i H2 x H3->te (some x::σ) H3 λy H4=>H4 D=some (.lst ys)/\∃m',m' < m/\W (i+1) m' (ys++[y]) (upd H4 D (.lst (ys++[y])))))
def K7 (wi:TI)(te:TE):TE:=λσ H Q=>wi σ H λJ H1=>∀D,H1 D=none->yN J te σ D H1 Q
section
variable{X:Cx}{pins:List (Addr×Obj)}{σ:St}{H:Hp}{s:Shared}{elt iter:Expr}{x:Str}{px pos:Pos}{scope:Scope}{wi:TI}{te:TE}{Q:VK}{M:List Str}
theorem NM {cl:List (Str×Addr)}{C:Addr}{fp:List Addr}(S:dM scope X.env.scope x X.N M)(I:Inv X pins σ H s)(hC:s.heap.objs.size<=C)(p1:∀n c,cl.lookup n=some c->X.env.cells.lookup n=some c)
  (p3:∀y∈scope.names,y.2=.free->(cl.lookup y.1).isSome=true) (f2:∀b∈fp,jG X pins H b) (fo:∀b∈fp,b < s.heap.objs.size):(dW X x M scope cl C s H fp).Ok where
 mod:=I.ok.mod
 kind:=S.kind
 glob:=I.ok.glob
 blt:=I.ok.blt
 above:=hC
 inj:=λy z c h1 h2=>I.ok.inj y z c (p1 y c h1) (p1 z c h2)
 has:=λy hy=>by
  have hy':(f6 scope X.env.scope).names.lookup y=some .cell\/(f6 scope X.env.scope).names.lookup y=some .free:=hy;have hm:(y,aek)∈scope.names:=by
   rcases hy' with z | z
   ·exact(S.mem z (.inl rfl)).2.1
   ·exact(S.mem z (.inr rfl)).2.1
  exact Option.isSome_iff_exists.mp (p3 _ hm rfl)
 cab:=λy c h=>absurd h ki
 hd:=I.ok.hd
 frames:=I.ok.frames
 stk:=.inl rfl
 exf:=λb hb=>⟨tu (ado (fo b hb) hC),λy c e=>(f2 b hb).2.2.2.2.1 y c (p1 y c e)⟩
 bs:=I.bs
 bsz:=me I.ok.bsz I.sz
 FH:=λb o e hb=>by
  rcases (f2 b hb).2.2.2.1 with z | z
  ·exact I.ok.FH b o e z
  ·exact absurd (ado (ky (I.ok.bs b o e).1) z) (Nat.lt_irrefl _)
 CI:=λb hb z=>by
  rcases List.mem_cons.mp (I.Br b z) with e | e
  ·exact(f2 b hb).2.1 e
  ·exact(f2 b hb).2.2.1 e
 tD:=I.stack
 frf:=I.Bs
theorem CW {cl:List (Str×Addr)}{C D:Addr}{fp:List Addr}{h₁:Heap}{tk:Nat}{m:Str->Option Value}(S:dM scope X.env.scope x X.N M)(I:Inv X pins σ H s)(hC:s.heap.objs.size<=C)(hD:s.heap.objs.size<=D)(hDC:D≠C)
  (p1:∀n c,cl.lookup n=some c->X.env.cells.lookup n=some c)
  (p3:∀y∈scope.names,y.2=.free->(cl.lookup y.1).isSome=true) (f2:∀b∈fp,jG X pins H b) (fo:∀b∈fp,b < s.heap.objs.size)
  (old:∀b o,s.heap.get? b=some o->h₁.get? b=some o) (hn:h₁.Ns C m) (hl:h₁.get? D=some { cls:=.type "list",data:=.seq ([]:List Value).toArray }) :
  Inv (dW X x M scope cl C s H fp) [] (none::σ) (upd H D (.lst [])) { s with heap:=h₁,toks:=tk }:=by
 have cellK:∀c v,s.heap.IsCell c v->h₁.IsCell c v:=λc v ⟨o,e,d⟩=>⟨o,old c o e,d⟩
 refine⟨NM S I hC p1 p3 f2 fo,rfl,I.bare,Un.laid old hD (I.hok.fresh hD),⟨m,hn,λi n v h1 h2 h3=>?_⟩,λy c e=>?_,?_,λy c e=>?_,λp hp=>absurd (show p∈([]:List (Addr×Obj)) from hp) (by simp),I.hok.laid old hD ⟨ad8 _,[],0,.nil,hl⟩,?_⟩
 ·cases i with
  |zero =>
   have h2':(none:Option V)=some v:=by simpa using h2
   cases h2'
  |succ i =>
   have h0':M[i]?=some n:=by simpa [dW] using h1
   have h2':σ[i]?=some (some v):=by simpa using h2
   have h3':(f6 scope X.env.scope).names.lookup n=some .local\/(f6 scope X.env.scope).names.lookup n=some .cell\/(f6 scope X.env.scope).names.lookup n=some .free:=h3;have uo:(f6 scope X.env.scope).names.lookup n=some .cell/\(n,aek)∈scope.names/\X.env.scope.names.lookup n=some .cell:=by
    rcases h3' with z | z | z
    ·exact absurd z (S.nl n (adF h0'))
    ·exact⟨z,(S.mem z (.inl rfl)).2⟩
    ·exact absurd (S.mem z (.inr rfl)).1 (by decide)
   have h1':X.N[i]?=some n:=by
    have hi:i < X.N.length:=by rw[<-S.len];exact(List.getElem?_eq_some_iff.mp h0').1
    rcases S.rel i hi with z | z
    ·rw[<-z];exact h0'
    ·rw[h0']at z;have e:n=adE:=adq z;rw[e,S.em]at uo;cases uo.1
   obtain⟨m0,hn0,hl0⟩:=I.loc;obtain⟨u,r,l⟩:=hl0 i n v h1' h2' (.inr (.inl uo.2.2));refine⟨u,r,.inr ⟨.inl uo.1,?_⟩⟩;obtain⟨c,hc⟩:=Option.isSome_iff_exists.mp (p3 _ uo.2.1 rfl);refine⟨c,hc,?_⟩;rcases l with ⟨k,_⟩ | ⟨_,c',hc',z⟩
   ·have k':X.env.scope.names.lookup n=some .local:=k;rw[uo.2.2]at k';cases k'
   ·rw[p1 n c hc]at hc';cases hc';exact cellK c _ z
 ·obtain⟨v,z⟩:=I.cell y c (p1 y c e);exact⟨v,cellK c v z⟩
 ·show (upd H D (.lst [])) C=none;rw[aw (adz hDC)];exact I.hok.fresh hC
 ·obtain⟨v,z⟩:=I.cell y c (p1 y c e);rw[aw (tu (ado z.lt hD))];exact I.oB y c (p1 y c e)
 ·show (none::σ).length=(x::M).length;rw[om,om,I.len,S.len]
theorem AQ {cl:List (Str×Addr)}{RR:Value->Addr->Result->Shared->Prop}(S:dM scope X.env.scope x X.N M)(hc:X.calm=true)(hi:PI X (.Name x px) iter wi)
  (he:∀cl C s H fp,PE (dW X x M scope cl C s H fp) elt te) (I:Inv X pins σ H s) (h:K7 wi te σ H Q)
  (p1:∀n c,cl.lookup n=some c->X.env.cells.lookup n=some c) (p3:∀y∈scope.names,y.2=.free->(cl.lookup y.1).isSome=true)
  (hRR:∀D C H' s' o m,Inv X (pins++[(C,o)]) σ H' s'->s'.heap.get? C=some o->s'.heap.Ns C m->X.s₀.heap.objs.size<=C->(∀y c,X.env.cells.lookup y=some c->c≠C)->(∀p∈X.pn++pins,p.1≠C)->Q (.ref D) H'->RR (.ref D) C (.ok .next) s') :
  wpAny (model X.prog X.w) X.A (eval iter X.env) (λxv s₁=>wpAny (model X.prog X.w) X.A (pyIter xv) (λit s₂=>wpAny (model X.prog X.w) X.A (newList []) (λacc s₃ =>
   wpAny (model X.prog X.w) X.A (newFunctionEnv scope X.env.globals cl [] X.env.qual none .none (some X.env)) (λK8 s₄ =>
    codeAny (model X.prog X.w) X.A (.compStart (.ListComp elt [⟨.Name x px,iter,[],0⟩] scope pos) 0 it acc { K8 with scope:=relabel scope X.env }) (RR acc K8.locals) s₄) X.xe s₃) X.xe s₂) X.xe s₁) X.xe s:=by
 refine thn (hi pins s σ H _ I h) λv s1 h1=>thn h1 λitv s2 h2=>?_
 obtain⟨it,fp,tn,J,H2,rfl,I2,T,st2,f2,q⟩:=h2;refine wpAny_newObj_type (wpAny_newFunctionEnv S.yM (by intro y hy;simp at hy) (λh₁ hns₁ hsb₁=>?_) S.kind)
 dsimp only at hns₁ hsb₁ ⊢;generalize hHH:s2.heap.push { cls:=.type "list",dict:=none,data:=.seq ([]:List Value).toArray }=HH at hns₁ hsb₁ ⊢;have hCs:HH.objs.size=s2.heap.objs.size+1:=by rw[<-hHH,aeE]
 have hDC:s2.heap.objs.size≠HH.objs.size:=by rw[hCs];exact tu (Nat.lt_succ_self _)
 have K9:s2.heap.objs.size<=HH.objs.size:=by rw[hCs];exact ad9 _
 have below:∀b,b < s2.heap.objs.size->b≠HH.objs.size:=λb hb=>by rw[hCs];exact tu (Nat.lt_succ_of_lt hb)
 have old:∀b o,s2.heap.get? b=some o->h₁.get? b=some o:=λb o e=>hsb₁.extBut b o (below b (ky e)) (gc _ (hHH▸gc _ e))
 have Jh:h₁.get? s2.heap.objs.size=some { cls:=.type "list",data:=.seq ([]:List Value).toArray }:=hsb₁.extBut _ _ hDC (gc _ (hHH▸tm _ rfl));have fo:∀b∈fp,b < s2.heap.objs.size:=λb hb=>by
  obtain⟨o,e,_⟩:=T.obj _ _ st2 b hb;exact ky e
 have IY:=CW (tk:=s2.toks+([]:List (Str×Value)).length) S I2 K9 (km _) hDC p1 p3 f2 fo old hns₁ Jh;have st1:tn 0 h₁:=T.keep _ _ _ st2 λb _ o e=>old b o e
 obtain⟨W,⟨m0,w0⟩,turn⟩:=q _ (I2.hok.fresh (km _));generalize hC:HH.objs.size=C at *;generalize hDD:s2.heap.objs.size=D at *;have ndY:(dW X x M scope cl C s2 H2 fp).N.Nodup:=by
  refine List.nodup_cons.mpr ⟨λhm=>S.nl x hm (lookup_relabel_local S.hx),S.ndM⟩
 have stat:∀ {H':Hp},(∀b∈fp,H' b=none)->∀b∈fp,jG (dW X x M scope cl C s2 H2 fp) [] H' b:=λhn b hb =>
  ⟨hn b hb,below b (fo b hb),IY.ok.CI b hb,.inl hb,λy c e=>(f2 b hb).2.2.2.2.1 y c (p1 y c e),λp hp=>absurd (show p∈([]:List (Addr×Obj)) from hp) (by simp)⟩
 have loop:codeAny (model X.prog X.w) X.A (.compLoop (.ListComp elt [⟨.Name x px,iter,[],0⟩] scope pos) 0 (.ref it) (.ref D) (compEnvC scope cl C X.env)) (RR (.ref D) C) { s2 with heap:=h₁,toks:=s2.toks+([]:List (Str×Value)).length }:=by
  refine codeAny_compLoop_tests (λn s'=>∃i v0 ys H',Inv (dW X x M scope cl C s2 H2 fp) [] (v0::σ) H' s'/\tn i s'.heap/\(∀b∈fp,H' b=none)/\W i n ys H') ?_ m0 ⟨0,none,[],_,IY,st1,λb hb=>?_,w0⟩
  ·rintro n s3 ⟨i,v0,ys,H3,I3,st3,fr3,w3⟩;obtain⟨hDl,hw⟩:=turn i n ys H3 w3;rcases hw with ⟨stop,qn⟩ | ⟨go,hsz,step⟩
   ·refine thn (T.done (dW X x M scope cl C s2 H2 fp) rfl rfl rfl hc i [] s3 _ H3 _ I3 (stat fr3) st3 stop) λr s4 ⟨hr,I4⟩=>?_
    subst hr;obtain⟨m4,hn4,_⟩:=I4.loc;obtain⟨oC,es4,ep4,e4,r4⟩:=id hn4;have La:s2.heap.objs.size<=C:=by rw[hDD];exact K9
    have IX:Inv X pins σ H3 s4:=I2.HU (ch:=fp) I4.os I4.base I4.hok I4.bare λb hb=>⟨(f2 b hb).2.2.2.1,(f2 b hb).2.1,(f2 b hb).2.2.2.2.1,(f2 b hb).2.2.2.2.2⟩
    have fC:=I2.yC (H':=H3) La I4.free;have IX2:Inv X (pins++[(C,oC)]) σ H3 s4:=IX.yo λp hp=>(List.mem_append.mp hp).elim (λz=>IX.pin p (gp _ z)) λz=>by
     have e:p=(C,oC):=by simpa using z
     subst e;exact⟨e4,fC.1,fC.2.1,fC.2.2.1,λv z=>by rw[r4.1]at z;cases z⟩
    exact hRR D C H3 s4 oC m4 IX2 e4 hn4 (me I2.sz La) fC.2.2.2.2.1 fC.2.2.2.2.2 qn
   ·refine thn (T.item (dW X x M scope cl C s2 H2 fp) rfl rfl rfl hc i [] s3 _ H3 _ I3 (stat fr3) st3 go) λr s4 ⟨u,hr,h4⟩=>?_
    subst hr;have e0:∀k:Sem Unit,(letOwnedTupleGo (.Name x px) (.ref it) u >>= λ_=>k)=k:=λk=>by
     rw[show letOwnedTupleGo (.Name x px) (.ref it) u=pure () from rfl,pure_bind]
    show wpAny _ _ (assign (.Name x px) (compEnvC scope cl C X.env) u) _ _ s4;rw[<-e0 (assign (.Name x px) (compEnvC scope cl C X.env) u)];refine di (thn h4 λ_ s5 ⟨xv,H5,I5,r5,y5,st5,fr5⟩=>?_)
    have I5':=I5.pinned (stat fr5) (T.obj _ _ st5);have hxl:(dW X x M scope cl C s2 H2 fp).env.scope.names.lookup x=some .local:=lookup_relabel_local S.hx;refine wpAny_assign_Name (oE (X:=dW X x M scope cl C s2 H2 fp) (i:=0) I5' ndY rfl (wt hxl) r5 (λs6 I6=>?_) (.inr hxl))
    refine wpAny_tests_nil ?_;rw[if_pos rfl];refine rf (he cl C s2 H2 fp _ s6 _ H5 _ I6 (step xv H5 y5)) (λy s7 ⟨yv,H7,I7,r7,hD7,m',hm',w7⟩=>?_) (λ_ _ f=>f.elim)
    refine rf (gi (X:=dW X x M scope cl C s2 H2 fp) _ s7 _ H7 (.ref D) [yv] (.ref D) [y] (λ_ H8=>H8=upd H7 D (.lst (ys++[yv]))) I7 rfl (.cons r7 .nil) ⟨D,ys,yv,rfl,rfl,hD7,hsz,rfl⟩)
     (λ_ s8 ⟨_,H8,I8,_,e8⟩=>?_) (λ_ _ f=>f.elim)
    subst e8;refine⟨m',hm',i+1,some xv,ys++[yv],_,I8.fv,T.keep _ _ _ st5 λb hb o e=>(I8.pin (b,o) (gp _ (gp _ (eY hb e)))).1,λb hb=>?_,w7⟩
    obtain⟨o,e,d⟩:=T.obj _ _ st5 b hb;exact(I8.pin (b,o) (gp _ (gp _ (eY hb e)))).2.1
  ·show (upd H2 D (.lst [])) b=none;rw[aw (tu (fo b hb))];exact(f2 b hb).1
 exact codeAny_compStart_list loop (T.self _ 0 _ _ _ st1 loop)
theorem BG (S:dM scope X.env.scope x X.N M)(hc:X.calm=true)(hi:PI X (.Name x px) iter wi)(he:∀cl C s H fp,PE (dW X x M scope cl C s H fp) elt te)
  (hs:∀x,foldedSetIterable iter X.env x=pure x:=by intro _;rfl):PE X (.ListComp elt [⟨.Name x px,iter,[],0⟩] scope pos) (K7 wi te):=by
 intro pins s σ H Q I h;obtain⟨cl,CY,p1,p3⟩:=vv (scope:=scope) (env:=X.env) (λy hy hf=>I.ok.has y.1 (.inl (S.free y hy hf)))
 rw[eval_ListComp];refine wpAny_comprehension_free (use:=none) rfl hs CY S.kind S.names (AQ (RR:=λacc C=>compPost (model X.prog X.w) X.A X.xe none (EP X pins σ Q) acc C) S hc hi he I h p1 p3 ?_)
 intro D C H' s' o m I' e hn h0 h1 h2 q;refine⟨m,hn,λh' hs'=>?_⟩
 have pC:=I'.pin (C,o) (gp _ (gp _ (by simp)))
 have IX:Inv X pins σ H' s':=I'.fv;exact⟨.ref D,H',IX.turned (t':=s'.toks) (λb ob hb e=>(hs'.2 b hb).trans e) pC.2.1 pC.2.2.1 (.inr h0) h1 h2,rfl,q⟩
theorem F4 {i:Nat}{y:Str}{py Wa:Pos}(S:dM scope X.env.scope x X.N M)(hc:X.calm=true)(hj:X.N[i]?=some y)(hy:Loc X.env.scope y)(hi:PI X (.Name x px) iter wi)(he:∀cl C s H fp,PE (dW X x M scope cl C s H fp) elt te)
  (hsw:swapsWith (.ListComp elt [⟨.Name x px,iter,[],0⟩] scope pos) (some (.Name y py)) Wa.line X.env=pure true:=by rfl)
  (hf:X.fn y=true\/X.env.scope.names.lookup y=some .local:=by first | exact .inl rfl | exact .inr rfl | assumption)
  (hs:∀x,foldedSetIterable iter X.env x=pure x:=by intro _;rfl):PS X (.Assign [.Name y py] (.ListComp elt [⟨.Name x px,iter,[],0⟩] scope pos) Wa) (Kw (K7 wi te) (iy i)):=by
 intro pins s σ H D I h;obtain⟨cl,CY,p1,p3⟩:=vv (scope:=scope) (env:=X.env) (λy hy hf=>I.ok.has y.1 (.inl (S.free y hy hf)))
 rw[exec_Assign_Name_used _ _ _ _ hsw];refine di (ad7 (di ?_));show wpAny _ _ (do let _ <-comprehension (.ListComp elt [⟨.Name x px,iter,[],0⟩] scope pos) scope X.env _ (newList []) false (eval iter X.env) (some (assign (.Name y py) X.env))) _ _ s
 refine di (rf (wpAny_comprehension_free (use:=some (assign (.Name y py) X.env)) (Q:=λ_ s'=>SP X pins D .next s') rfl hs CY S.kind S.names
  (AQ (RR:=λacc C=>compPost (model X.prog X.w) X.A X.xe (some (assign (.Name y py) X.env)) (λ_ s'=>SP X pins D .next s') acc C) S hc hi he I h p1 p3 ?_)) (λ_ s' hq=>kx (kx hq)) λ_ _ e=>e)
 intro Dd C H' s' o m I' e hn h0 h1 h2 q;show wpAny _ _ (assign (.Name y py) X.env (.ref Dd)) _ _ s';refine wpAny_assign_Name (oE I' S.nd hj hy (v:=.ref Dd) rfl (λs'' I''=>?_) hf)
 have pC:=I''.pin (C,o) (gp _ (gp _ (by simp)))
 obtain⟨o',es,ep,e0,r⟩:=hn;rw[e]at e0;cases e0;have IX:Inv X pins _ H' s'':=I''.fv;refine⟨m,⟨o,es,ep,pC.1,r⟩,λh' hs'=>?_⟩
 exact⟨_,H',IX.turned (t':=s''.toks) (λb ob hb e=>(hs'.2 b hb).trans e) pC.2.1 pC.2.2.1 (.inr h0) h1 h2,q⟩
def f7 (D:Addr)(n:Nat)(Pv:Nat->List V->Hp->Prop)(i:Nat)(ys:List V):VK:=λy H4=>H4 D=some (.lst ys)/\∃m',m' < n - i/\m'=n - (i+1)/\i+1<=n/\Pv (i+1) (ys++[y]) (upd H4 D (.lst (ys++[y])))
theorem f7.mk {D:Addr}{n:Nat}{Pv:Nat->List V->Hp->Prop}{i:Nat}{ys:List V}{y:V}{H4:Hp}(hi:i < n)(h1:H4 D=some (.lst ys))(h2:Pv (i+1) (ys++[y]) (upd H4 D (.lst (ys++[y])))):f7 D n Pv i ys y H4 :=
 ⟨h1,n - (i+1),by omega,rfl,hi,h2⟩
theorem vw {K:cb}{a D:Addr}{xs:List V}{te:TE}{Q:VK}{σ:St}{H1:Hp}(Pv:Nat->List V->Hp->Prop)(h0:Pv 0 [] (upd H1 D (.lst [])))(hz:xs.length<=gn)
  (hl:∀i ys H2,i<=xs.length->Pv i ys H2->SqL K H2 a xs/\H2 D=some (.lst ys)/\ys.length=i)
  (hs:∀i x ys H2,xs[i]?=some x->Pv i ys H2->te (some x::σ) H2 (f7 D xs.length Pv i ys)) (hd:∀ys H2,Pv xs.length ys H2->Q (.ref D) H2) :
  yN (Itl K a) te σ D H1 Q:=by
 refine⟨λi m ys H=>m=xs.length - i/\i<=xs.length/\Pv i ys H,⟨xs.length,by simp,ad8 _,h0⟩,?_⟩
 rintro i m ys H2 ⟨rfl,hi,p⟩;obtain⟨q,q2,q3⟩:=hl i ys H2 hi p;refine⟨q2,?_⟩
 by_cases hlt:i < xs.length
 ·refine .inr ⟨⟨xs,xs[i],q,by simp[hlt]⟩,by omega,λx H3 y=>?_⟩
  obtain⟨e,y⟩:=y;subst e;exact hs i x ys _ (y xs q) p
 ·have e:i=xs.length:=by omega
  subst e;exact .inl ⟨⟨xs,q,km _⟩,hd ys H2 p⟩
end
structure MkN (K:cb)(C:Addr):Prop where
 makes:adU K C=true
 init:bo K (.ref C) "__init__"=some (some (.builtin "object.__init__"))
 kp:de K (.ref C)=true
def Q5 (C:Addr):TE:=λ_ H Q=>∀x dx,H x=none->H dx=none->dx≠x->Q (.ref x) (upd (upd H dx (.own x)) x (.ins C dx []))
section
variable{X:Cx}{C:Addr}{x:Str}{p pos:Pos}
theorem oG (M:MkN X.K C)(hg:Gl X x)(hm:X.mg x=some (.ref C))(hdb:(x == ("__debug__":Str))=false:=by decide):PE X (.Call (.Name x p) [] [] pos) (Q5 C):=by
 intro pins s σ H Q I h;refine wpAny_Call_Name_kw (lU I hg hm ?_ hdb);refine PySem.W.callWith_K0 I.kIn M.kp (wpAny_call ?_);have I2:=Inv.made (C:=C) I;have q:=h (s.heap.objs.size+1) s.heap.objs.size (I.hok.fresh (ad9 _)) (I.hok.fresh (km _)) (tu (Nat.lt_succ_self _));have fin:EP X pins σ Q (.ref (s.heap.objs.size+1)) { s with heap:=(s.heap.push adD).push (adI C s.heap.objs.size) }:=⟨.ref _,_,I2,rfl,q⟩
 have X1:=I.kIn;have e2:((s.heap.push adD).push (adI C s.heap.objs.size)).get? (s.heap.objs.size+1)=some (adI C s.heap.objs.size):=by
  have:=tm (s.heap.push adD) (o:=adI C s.heap.objs.size) rfl
  rwa [aeE]at this
 clear I2 q h I;obtain⟨hh,g,d,t,os⟩:=s;have Y:=PySem.W.makes_of (M:=model X.prog X.w) X1 M.makes;refine PySem.W.make_core Y (aey X1 M.init) (λself=>PySem.W.Looks.of_pure (PySem.W.oi_bind self)) (.inr ⟨rfl,rfl⟩) ?_
 have t1:PySem.W.Looks (model X.prog X.w) ((hh.push adD).push (adI C hh.objs.size)) (typeOf (.ref (hh.objs.size+1))) (.ref C):=(PySem.W.Looks.ld e2).andThen .now;have t2:PySem.W.Looks (model X.prog X.w) ((hh.push adD).push (adI C hh.objs.size)) (isInstance (.ref (hh.objs.size+1)) (.type "object")) true:=t1.andThen (Y.top.keeps λb o e=>gc _ (gc _ e))
 refine codeAny_call_builtin PySem.W.oi_plain PySem.W.entry_oi (@PySem.W.check_slot (model X.prog X.w) _ _ _ "object.__init__" "object" "__init__" (.ref (hh.objs.size+1)) [] [] _ PySem.W.oi_kind PySem.W.oi_split t2 (PySem.W.oi_args (.ref (hh.objs.size+1))) ?_);show wpAny _ _ (Builtin.«object.__init__» ⟨[.ref (hh.objs.size+1)],[]⟩) _ _ _;rw[PySem.W.oi_run];exact kx (And.intro rfl fin)
end
structure Wb (P:Params)(K:cb)(a:Addr):Prop where
 ex:∃es n,K.lookup a=some ⟨.type "dict",none,.dict es n,#[]⟩/\PySem.W.KeysLit P es.toList
section
variable{X:Cx}
theorem Lb:IxR X (λx y H Q=>∃a z v u,x=.ref a/\y=.str z/\Wb X.w.params X.K a/\fe X.K a z=some (some u)/\RelV v u/\Q v H):=by
 intro value slice pins s σ H x y v u Q I rx ry h hs;obtain⟨a,z,w',u',rfl,rfl,⟨es,n,hl,hk⟩,e,r,q⟩:=h;cases rx;obtain⟨t,rfl⟩:=ry;have hm:=PySem.W.mapOf_K (prog:=X.prog) I.kIn hl hk;exact tail_any hm.typeIs slot_dict_getitem.lookup (wpAny_getItem_of (strKind_is X.prog X.w z t) hm (PySem.W.find_K hl e) ⟨w',H,I.tok _,r,q⟩) hs
end
theorem Lc (ws:List Str):aeC (.list (ws.map ad3)) (.list (ws.map ad3))=true:=by
 show aer _ _=true;rw[wB];exact decide_eq_true rfl
theorem NO (bs:List Bool):(aev bs.length).any (λi=>bs.getD i false)=bs.any id:=by
 have e:(aev bs.length).map (λi=>bs.getD i false)=bs:=by
  apply List.ext_getElem
  ·simp
  ·intro i h1 h2;simp[h2]
 calc _=((aev bs.length).map (λi=>bs.getD i false)).any id:=by rw[List.any_map];rfl
  _=_:=by rw[e]
theorem CZ:∀ {bs:List Bool} {us:List Value},Vals (bs.map V.bl) us->us=bs.map Value.bool
 |[],_,.nil=>rfl
 |b::bs,_,.cons r t=>by
  cases r;rw[CZ t];rfl
section
variable{X:Cx}
theorem Ld (hc:X.calm=true):iz X (.builtin "any") (λxs H Q=>∃(p:Addr) (bs:List Bool),xs=[.ref p]/\SqL X.K H p (bs.map V.bl)/\Q (.bl (bs.any id)) H):=by
 intro pins s σ H xs us Q I r h;obtain⟨p,bs,rfl,hq,q⟩:=h;obtain⟨u,rfl,rx⟩:=vals1 r;cases rx;obtain⟨its,rv,pl,hz⟩:=I.list hq;obtain rfl:=CZ rv;refine call_any_walk (wpAny_pyIter_list pl.isList ?_);obtain⟨o,n,e,_⟩:=id pl;have hlt:p < s.heap.objs.size:=ky e;refine⟨s.heap.objs.size,_,_,_,_,_,λi=>bs.getD i false,rfl,Walks.list (A:=X.A.in1) (show X.A.in1.handled=none from I.ok.hd hc) s.heap.objs.size p (tu hlt) (bs.map Value.bool).toArray,⟨⟨_,tm _ rfl,rfl,rfl⟩,pl.isList.at λo e=>gc _ e⟩,?_,λh' tk kk=>?_⟩
 ·intro i v s' Q' E' hv q';have hv':v=Value.bool (bs.getD i false):=by
   have h2:(bs.map Value.bool)[i]?=some v:=by simpa using hv
   rw[adK]at h2;cases hb:bs[i]? with
   |none=>rw[hb]at h2;cases h2
   |some b =>
    rw[hb]at h2;rw[adp,hb];exact(adq h2).symm
  rw[hv'];exact wpAny_truthy_bool q'
 ·have I1:Inv X pins σ H { s with heap:=h',toks:=tk }:=I.kept λb o e=>kk b o (by simp;exact tu (ky e)) (gc _ e)
  refine⟨.bl _,H,I1,rfl,?_⟩;have e1:(bs.map Value.bool).toArray.size=bs.length:=by simp
  rw[e1,NO];exact q
end
def Wc (X:Cx)(pins:List (Addr×Obj))(H:Hp)(h:Heap)(e:Addr)(vs:Array Value):Option Value->Prop
 |none=>vs[1]?=some .none
 |some m=>∃(T:Addr) (oT:Obj) (ts:Array Value),vs[1]?=some (.ref T)/\T≠e/\jG X pins H T/\h.get? T=some oT/\oT.data=.fields ts/\ts[3]?=some m
structure XAt (X:Cx)(pins:List (Addr×Obj))(H:Hp)(h:Heap)(e:Addr)(cls:Value)(xd:Option Addr)(m:Option Value):Prop where
 ok:jG X pins H e
 ex:∃(sl:Array (Option Value)) (vs:Array Value),h.get? e=some ⟨cls,xd,.fields vs,sl⟩/\1 < vs.size/\Wc X pins H h e vs m
def MOk (_:Cx)(m:Option Value):Prop:=m=none\/m=some .none\/∃v,m=some v
def XP (X:Cx)(pins:List (Addr×Obj))(σ:St)(E:XK)(e:Value)(s':Shared):Prop :=
 ∃(ea:Addr) (cls:Value) (xd:Option Addr) (m:Option Value) (H':Hp),e=.ref ea/\Inv X pins σ H' s'/\XAt X pins H' s'.heap ea cls xd m/\MOk X m/\E cls xd H'
abbrev SXK:=St->XK
def XPS (X:Cx)(pins:List (Addr×Obj))(E:SXK)(e:Value)(s':Shared):Prop:=∃σ',XP X pins σ' (E σ') e s'
structure Fr1 (X:Cx):Prop where
 stk:X.stack=X.env::X.outer
 fr:X.env.frame=some X.env.locals
section
variable{X:Cx}{pins:List (Addr×Obj)}{σ:St}{H H':Hp}{s:Shared}{e:Addr}{cls:Value}{xd:Option Addr}{m:Option Value}
theorem jG.abi {b:Addr}(I:Inv X pins σ H s)(f:jG X pins H' b):b∉frs X.stack:=λz=>by
 rcases List.mem_cons.mp (I.Br b z) with q | q
 ·exact f.2.1 q
 ·exact f.2.2.1 q
theorem jG.drop {pl:List (Addr×Obj)}{b:Addr}(f:jG X (pins++pl) H b):jG X pins H b :=
 ⟨f.1,f.2.1,f.2.2.1,f.2.2.2.1,f.2.2.2.2.1,λp hp=>f.2.2.2.2.2 p ((List.mem_append.mp hp).elim (λz=>ad2 _ z) λz=>gp _ (ad2 _ z))⟩
theorem jG.clear {b:Addr}(f:jG X pins H b):jG X [] H b :=
 ⟨f.1,f.2.1,f.2.2.1,f.2.2.2.1,f.2.2.2.2.1,λp hp=>f.2.2.2.2.2 p ((List.mem_append.mp hp).elim (λz=>ad2 _ z) λz=>nomatch z)⟩
theorem XAt.drop {pl:List (Addr×Obj)}{h:Heap}(x:XAt X (pins++pl) H h e cls xd m):XAt X pins H h e cls xd m:=by
 obtain⟨ok,sl,vs,he,hz,hm⟩:=x;refine⟨ok.drop,sl,vs,he,hz,?_⟩;cases m with
 |none=>exact hm
 |some m=>obtain⟨T,oT,ts,a,b,c,d⟩:=hm;exact⟨T,oT,ts,a,b,c.drop,d⟩
theorem XAt.clear {h:Heap}(x:XAt X pins H h e cls xd m):XAt X [] H h e cls xd m:=by
 obtain⟨ok,sl,vs,he,hz,hm⟩:=x;refine⟨ok.clear,sl,vs,he,hz,?_⟩;cases m with
 |none=>exact hm
 |some m=>obtain⟨T,oT,ts,a,b,c,d⟩:=hm;exact⟨T,oT,ts,a,b,c.clear,d⟩
theorem XP.drop {pl:List (Addr×Obj)}{E:XK}{v:Value}(x:XP X (pins++pl) σ E v s):XP X pins σ E v s:=by
 obtain⟨ea,cls,xd,m,H',rfl,I,hx,hm,q⟩:=x;exact⟨ea,cls,xd,m,H',rfl,I.fv,hx.drop,hm,q⟩
theorem Q6 {h':Heap}(I:Inv X pins σ H s)(he:jG X pins H e)(k1:∀b o,b∉frs X.stack->b≠e->s.heap.get? b=some o->h'.get? b=some o)
  (k2:∀b o,b≠e->s.heap.get? b=some o->∃sl,h'.get? b=some { o with slots:=sl }):Un (frs X.stack) [e] H H s.heap h'/\HOk X.prog X.w H h':=by
 refine⟨⟨λb o q _ hb hx=>k1 b o hb (by simpa using hx) q,λb o q _ _ hx=>k2 b o (by simpa using hx) q,λb o _ n _=>n,λb o q hx=>?_,λ_ _ q=>q,λ_ _ _ q=>q,λ_ ps q=>⟨#[],by rw[q];simp⟩⟩,λa o q=>?_⟩
 ·obtain⟨sl,z⟩:=k2 b o (by simpa using hx) q
  exact⟨_,z⟩
 ·refine(I.hok a o q).Ab (λb u hb r=>k1 b u (λz=>?_) (λz=>?_) r) (λ_ z=>z) (λ_ _ z=>z)
  ·have n:=I.Bs b z;rcases hb with rfl | hb
   ·rw[q]at n;cases n
   ·rw[hb]at n;cases n
  ·have n:=he.1;rw[<-z]at n;rcases hb with rfl | hb
   ·rw[q]at n;cases n
   ·rw[hb]at n;cases n
theorem NP {h':Heap}(I:Inv X pins σ H s)(he:jG X pins H e)(k1:∀b o,b∉frs X.stack->b≠e->s.heap.get? b=some o->h'.get? b=some o)
  (k2:∀b o,b≠e->s.heap.get? b=some o->∃sl,h'.get? b=some { o with slots:=sl }):Inv X pins σ H { s with heap:=h' }:=by
 obtain⟨u,ok⟩:=Q6 I he k1 k2;refine I.call (g':=s.gens) (t':=s.toks) (d':=s.drawn) u ok I.bare λb hb=>?_
 obtain rfl:b=e:=by simpa using hb
 exact⟨he.2.2.2.1,he.2.1,he.2.2.2.2.1,he.2.2.2.2.2⟩
theorem Ij {M:Model}{A:Around}{E:Value->Shared->Prop}{head:Value}{NQ:Bool}{sl:Array (Option Value)}{vs:Array Value}{Q:Unit->Shared->Prop}(F:Fr1 X)(hA:A.frames=some X.stack)(I:Inv X pins σ H s)(ok:jG X pins H e)
  (he:s.heap.get? e=some ⟨cls,xd,.fields vs,sl⟩) (hz:1 < vs.size) (h:∀s',Inv X pins σ H s'->XAt X pins H s'.heap e cls xd (some (rawInt X.env.locals))->Q () s') :
  wpAny M A (do let a <-frameOf X.env;let pl <-entryPlaceOf X.env.locals NQ;let b <-EntryCells.newEntry head a .none (rawInt X.env.locals) .none pl;setField (.ref e) 1 b) Q E s:=by
 have nE:e∉frs X.stack:=ok.abi I;have fs:=I.stack;rw[F.stk]at hA fs nE;refine di (wpAny_frameOf_fun hA fs F.fr λh₁ so=>?_)
 refine di (wpAny_entryPlaceOf λpl hpl=>?_)
 unfold EntryCells.newEntry newFields;refine di (wpAny_newObj_type ?_ (hpl.sizeOk5 _ _ _ _ _));generalize ht:([head,.ref X.env.locals,.none,rawInt X.env.locals,.none]++(if pl.isEmpty then List.replicate 6 aet else pl)).toArray=ts
 have t3:ts[3]?=some (rawInt X.env.locals):=by rw[<-ht];simp
 have e1:h₁.get? e=some ⟨cls,xd,.fields vs,sl⟩:=(so.2.1 e nE).trans he;have e2:=gc (h:=h₁) { cls:=.type "traceback",dict:=none,data:=.fields ts } e1;refine wpAny_setField e2 rfl hz ?_;have sz:h₁.objs.size=s.heap.objs.size:=so.1;have nT:h₁.objs.size≠e:=Nat.ne_of_gt (ky e1);have k0:∀b o,b≠e->h₁.get? b=some o->((h₁.push { cls:=.type "traceback",dict:=none,data:=.fields ts }).update e (aeb (·.setIfInBounds 1 (sr h₁.objs.size)))).get? b=some o:=λb o hb q =>
  (adS _ _ (adz hb)).trans (gc _ q)
 have I':=NP (h':=(h₁.push { cls:=.type "traceback",dict:=none,data:=.fields ts }).update e (aeb (·.setIfInBounds 1 (sr h₁.objs.size)))) I ok
  (λb o hb hbe q=>k0 b o hbe ((so.2.1 b (by rw[<-F.stk];exact hb)).trans q)) (λb o hbe q=>by obtain⟨sl,z⟩:=so.2.2 b o q;exact⟨sl,k0 b _ hbe z⟩)
 have fT:jG X pins H h₁.objs.size:=I.yC (by rw[sz];exact km _) (by rw[sz];exact I.fresh)
 have gE:((h₁.push { cls:=.type "traceback",dict:=none,data:=.fields ts }).update e (aeb (·.setIfInBounds 1 (sr h₁.objs.size)))).get? e=some ⟨cls,xd,.fields (vs.setIfInBounds 1 (sr h₁.objs.size)),sl⟩ :=
  aeg (aeb (·.setIfInBounds 1 (sr h₁.objs.size))) e2 rfl
 have gT:((h₁.push { cls:=.type "traceback",dict:=none,data:=.fields ts }).update e (aeb (·.setIfInBounds 1 (sr h₁.objs.size)))).get? h₁.objs.size=some { cls:=.type "traceback",dict:=none,data:=.fields ts } :=
  (adS _ _ (adz nT)).trans (tm h₁ rfl)
 exact h _ I' ⟨ok,sl,_,gE,by simpa using hz,h₁.objs.size,_,ts,by simp[hz],nT,fT,gT,rfl,t3⟩
theorem qP {M:Model}{A:Around}{E:Value->Shared->Prop}{f:Option Addr}{mv:Value}{Q:Unit->Shared->Prop}(I:Inv X pins σ H s)(x:XAt X pins H s.heap e cls xd (some mv))
  (h:∀s',Inv X pins σ H s'->XAt X pins H s'.heap e cls xd (some (f.elim .none λb=>rawInt b))->Q () s'):wpAny M A (setFlight (.ref e) f) Q E s:=by
 obtain⟨ok,sl,vs,he,hz,T,oT,ts,h1,nT,fT,hT,hd,h3⟩:=x;unfold setFlight;refine di (wpAny_field he rfl h1 ?_);rw[if_pos (show (sr T != aet)=true by simp)]
 have z3:3 < ts.size:=(Array.getElem?_eq_some_iff.mp h3).1;refine wpAny_setField hT hd z3 ?_;have other:∀b,b≠T->(s.heap.update T (aeb (·.setIfInBounds 3 (f.elim aet λb=>rawInt b)))).get? b=s.heap.get? b:=λb hb=>adS _ _ (adz hb)
 have I':=I.turned (t':=s.toks) (h':=s.heap.update T (aeb (·.setIfInBounds 3 (f.elim aet λb=>rawInt b)))) (λb o hb q=>(other b hb).trans q) fT.1 fT.2.1 fT.2.2.2.1 fT.2.2.2.2.1 fT.2.2.2.2.2
 exact h _ I' ⟨ok,sl,vs,(other e (adz nT)).trans he,hz,T,_,_,h1,nT,fT,aeg _ hT (Obj.isFreed_of_fields (Obj.data_mapFields hd _)),Obj.data_mapFields hd _,by simp[z3]⟩
theorem F5 {M:Model}{A:Around}{E:Value->Shared->Prop}{Q:Unit->Shared->Prop}(F:Fr1 X)(hA:A.frames=some X.stack)(I:Inv X pins σ H s)(x:XAt X pins H s.heap e cls xd m)(hm:MOk X m)
  (h:∀s',Inv X pins σ H s'->XAt X pins H s'.heap e cls xd (some (rawInt X.env.locals))->Q () s'):wpAny M A (noteFrame (.ref e) X.env) Q E s:=by
 obtain⟨ok,sl,vs,he,hz,hv⟩:=x;unfold noteFrame;simp only[F.fr];cases m with
 |none =>
  refine di (wpAny_field he rfl hv ?_);rw[if_neg (by decide)]
  exact Ij F hA I ok he hz h
 |some mv =>
  obtain⟨T,oT,ts,h1,nT,fT,hT,hd,h3⟩:=hv;refine di (wpAny_field he rfl h1 ?_);rw[if_pos (show (sr T != aet)=true by simp)]
  refine di (wpAny_field hT hd h3 ?_)
  by_cases hmv:mv=rawInt X.env.locals
  ·subst hmv;rw[if_pos (show (rawInt X.env.locals == rawInt X.env.locals)=true by simp)]
   exact kx (h s I ⟨ok,sl,vs,he,hz,T,oT,ts,h1,nT,fT,hT,hd,h3⟩)
  ·rw[if_neg (show ¬(mv == rawInt X.env.locals)=true from λz=>hmv (beq_iff_eq.mp z))]
   have z3:3 < ts.size:=(Array.getElem?_eq_some_iff.mp h3).1;refine di (wpAny_setField hT hd z3 ?_);have other:∀b,b≠T->(s.heap.update T (aeb (·.setIfInBounds 3 aet))).get? b=s.heap.get? b:=λb hb=>adS _ _ (adz hb)
   have I':=I.turned (t':=s.toks) (h':=s.heap.update T (aeb (·.setIfInBounds 3 aet))) (λb o hb q=>(other b hb).trans q) fT.1 fT.2.1 fT.2.2.2.1 fT.2.2.2.2.1 fT.2.2.2.2.2
   exact Ij F hA I' ok ((other e (adz nT)).trans he) hz h
theorem Le {E:SXK}(F:Fr1 X)(fr:X.A.frames=some X.stack):PassesOwn (model X.prog X.w) X.A X.env (XPS X pins E):=by
 rintro v s' ⟨σ',ea,cls,xd,m,H',rfl,I,hx,hm,q⟩;refine F5 F fr I hx hm λs1 I1 x1=>?_
 unfold cameBackBy;obtain⟨ok,sl,vs,he,hz,T,oT,ts,h1,r⟩:=id x1;refine di (wpAny_field he rfl h1 ?_);rw[if_neg (show ¬((sr T == aet)=true) by simp)]
 have step:wpAny (model X.prog X.w) X.A (setFlight (.ref ea) X.env.frame) (λ_ s''=>XPS X pins E (.ref ea) s'') (XPS X pins E) s1 :=
  qP I1 x1 λs2 I2 x2=>⟨σ',ea,cls,xd,_,H',rfl,I2,x2,by rw[F.fr];exact .inr (.inr ⟨_,rfl⟩),q⟩
 first
  |exact step
  |exact di (kx step)
end
abbrev CXX (P:ma)(w:World):CXT:=λouter H s E e s'=>∃(ea T:Addr) (cls:Value) (xd:Option Addr) (H':Hp),e=.ref ea/\s'.os=s.os/\AllBare s'.gens/\Un (frs outer) [] H H' s.heap s'.heap/\HOk P w H' s'.heap /\
 (H' ea=none/\s.heap.objs.size<=ea)/\(H' T=none/\s.heap.objs.size<=T)/\T≠ea /\
 (∃(sl:Array (Option Value)) (vs:Array Value) (oT:Obj) (ts:Array Value),s'.heap.get? ea=some ⟨cls,xd,.fields vs,sl⟩/\1 < vs.size/\vs[1]?=some (.ref T)/\s'.heap.get? T=some oT/\oT.data=.fields ts/\ts[3]?=some .none)/\E cls xd H'
section
variable{X:Cx}{pins:List (Addr×Obj)}{σ:St}{H:Hp}{s s':Shared}
theorem Q7 {E:XK}{e:Value}(I:Inv X pins σ H s)(h:CXX X.prog X.w X.stack H s E e s'):XP X pins σ E e s':=by
 obtain⟨ea,T,cls,xd,H',rfl,os,bare,un,hok,⟨e1,e2⟩,⟨t1,t2⟩,ne,⟨sl,vs,oT,ts,g1,g2,g3,g4,g5,g6⟩,q⟩:=h;have I':Inv X pins σ H' s':=I.HU (ch:=[]) os un hok bare λb z=>absurd z (by simp)
 exact⟨ea,cls,xd,some .none,H',rfl,I',⟨I.yC e2 e1,sl,vs,g1,g2,T,oT,ts,g3,ne,I.yC t2 t1,g4,g5,g6⟩,.inr (.inl rfl),q⟩
theorem Lf:Passes (CXX X.prog X.w) X E0:=λ_ _ _ _ _ _ _ ⟨_,_,_,_,_,_,_,_,_,_,_,_,_,_,z⟩=>z.elim
end
section
variable{P:ma}{w:World}{K:cb}{mg:Str->Option Value}{base:Heap}{k:Nat}{f:Addr}{fd:kb}{ps:List Str}{sp:Sp}
theorem a8.calm (F:a8 P w K mg base (CXX P w) k f fd ps sp)(h:∀vs H Q E,sp vs H Q E->sp vs H Q E0):a8 P w K mg base CX0 k f fd ps sp:=by
 refine⟨F.len,λA outer s H args us vs Q E hr he hb hv hs=>codeAny_mono (F.run A outer s H args us vs Q E0 hr he hb hv (h _ _ _ _ hs)) λr s' q=>?_⟩
 cases r with
 |error e=>obtain⟨_,_,_,_,_,_,_,_,_,_,_,_,_,_,z⟩:=q;exact z.elim
 |ok fl=>cases fl <;> exact q
theorem NR {N:List Str}{qual:Str}{scope:Scope}{cd:Value}{A:Around}{outer:List Env}{s s':Shared}{H:Hp}{E:XK}{e:Value}{pins:List (Addr×Obj)}
  (h:XPS (cD (CXX P w) P w K mg base N qual scope f cd A outer s H E) pins (λ_=>E) e s'):(cD (CXX P w) P w K mg base N qual scope f cd A outer s H E).xe e s':=by
 obtain⟨σ',ea,cls,xd,m,H',rfl,I,hx,hm,q⟩:=h;have fr:(cD (CXX P w) P w K mg base N qual scope f cd A outer s H E).A.frames=some (cD (CXX P w) P w K mg base N qual scope f cd A outer s H E).stack:=I.ok.frames;have F1:Fr1 (cD (CXX P w) P w K mg base N qual scope f cd A outer s H E):=⟨rfl,rfl⟩;show wpAny _ _ (leaving (cD (CXX P w) P w K mg base N qual scope f cd A outer s H E).env (.ref ea)) _ _ s';unfold leaving;refine di (F5 F1 fr I hx hm λs1 I1 x1=>qP I1 x1 λs2 I2 x2=>?_)
 obtain⟨ok,sl,vs,he,hz,T,oT,ts,h1,nT,fT,hT,hd,h3⟩:=x2;have old:∀ {b:Addr},jG (cD (CXX P w) P w K mg base N qual scope f cd A outer s H E) pins H' b->s.heap.objs.size<=b:=λ{b} z=>by
  rcases z.2.2.2.1 with y | y
  ·exact absurd (show b∈([]:List Addr) from y) (by simp)
  ·exact y
 exact⟨ea,T,cls,xd,H',rfl,I2.os,I2.bare,I2.base,I2.hok,⟨ok.1,old ok⟩,⟨fT.1,old fT⟩,nT,⟨sl,vs,oT,ts,he,hz,h1,hT,hd,h3⟩,q⟩
end
abbrev TEX:=St->Hp->VK->XK->Prop
abbrev TAX:=St->Hp->(List V->Hp->Prop)->XK->Prop
abbrev TSX:=Ends->SXK->St->Hp->Prop
def PEX (X:Cx)(e:Expr)(t:TEX):Prop :=
 ∀(pins:List (Addr×Obj)) (s:Shared) (σ:St) (H:Hp) (Q:VK) (E:XK),Inv X pins σ H s->t σ H Q E->wpAny (model X.prog X.w) X.A (eval e X.env) (EP X pins σ Q) (XP X pins σ E) s
def PAX (X:Cx)(es:List Expr)(t:TAX):Prop :=
 ∀(pos:Pos) (pins:List (Addr×Obj)) (s:Shared) (σ:St) (H:Hp) (Q:List V->Hp->Prop) (E:XK),Inv X pins σ H s->t σ H Q E->wpAny (model X.prog X.w) X.A (spliced (backTo pos (si es X.env))) (AP X pins σ Q) (XP X pins σ E) s
def PSX (X:Cx)(st:Stmt)(t:TSX):Prop :=
 ∀(pins:List (Addr×Obj)) (s:Shared) (σ:St) (H:Hp) (D:Ends) (E:SXK),Inv X pins σ H s->t D E σ H->wpAny (model X.prog X.w) X.A (exec st X.env) (SP X pins D) (XPS X pins E) s
def BH (X:Cx)(st:List Stmt)(t:TSX):Prop :=
 ∀(pins:List (Addr×Obj)) (s:Shared) (σ:St) (H:Hp) (D:Ends) (E:SXK),Inv X pins σ H s->t D E σ H->wpAny (model X.prog X.w) X.A (execs st X.env) (SP X pins D) (XPS X pins E) s
def Q8 (te:TE):TEX:=λσ H Q _=>te σ H Q
def Q9 (ta:TA):TAX:=λσ H Q _=>ta σ H Q
def F6 (ts:TS):TSX:=λD _ σ H=>ts D σ H
def Ik (t1 t2:TSX):TSX:=λD E σ H=>t1 { D with nx:=t2 D E } E σ H
def We (tc:TT)(t1 t2:TSX):TSX:=λD E σ H=>tc σ H λd H1=>if d=true then t1 D E σ H1 else t2 D E σ H1
def Lg (t:TEX):TSX:=λD E σ H=>t σ H (λ_ H1=>D.nx σ H1) (E σ)
def Pe (t:TEX):TSX:=λD E σ H=>t σ H D.rt (E σ)
def Lh (t:TAX)(sp:Sp):TEX:=λσ H Q E=>t σ H (λvs H1=>sp vs H1 Q E) E
def Li (C:Addr)(m:Str)(ta:TEX)(t:TAX)(sp:Sp):TEX:=λσ H Q E=>ta σ H (λx H1=>∃a dx fs,x=.ref a/\H1 a=some (.ins C dx fs)/\fs.lookup m=none/\t σ H1 (λvs H2=>sp (x::vs) H2 Q E) E) E
def Il (C:Addr)(m:Str)(ta:TEX)(sp:Sp):TEX:=λσ H Q E=>ta σ H (λx H1=>∃a dx fs,x=.ref a/\H1 a=some (.ins C dx fs)/\fs.lookup m=none/\sp [x] H1 Q E) E
section
variable{X:Cx}{e:Expr}{es:List Expr}{st:Stmt}{sts:List Stmt}{te:TE}{ta:TA}{ts:TS}{pos:Pos}
theorem EP.eJ {pins:List (Addr×Obj)}{σ:St}{Q:VK}{u:Value}{s':Shared}{W:Value->Shared->Prop}(h:EP (X.m9 W) pins σ Q u s'):EP X pins σ Q u s':=by
 obtain⟨v,H',I,r,q⟩:=h;exact⟨v,H',I.eJ,r,q⟩
theorem px (h:PE X.nox e te):PEX X e (Q8 te):=λpins s σ H Q _ I hw =>
 rf (h pins s σ H Q (I.m9 _) hw) (λ_ _ q=>q.eJ) λ_ _ z=>adw z
theorem pax (h:PA X.nox es ta):PAX X es (Q9 ta):=λpos pins s σ H Q _ I hw =>
 rf (h pos pins s σ H Q (I.m9 _) hw) (λ_ _ ⟨vs,H',I',r,q⟩=>⟨vs,H',I'.eJ,r,q⟩) λ_ _ z=>adw z
theorem psx (h:PS X.nox st ts):PSX X st (F6 ts):=λpins s σ H D _ I hw =>
 rf (h pins s σ H D (I.m9 _) hw) (λ_ _ q=>q.eJ) λ_ _ z=>adw z
theorem qt (h:PSs X.nox sts ts):BH X sts (F6 ts):=λpins s σ H D _ I hw =>
 rf (h pins s σ H D (I.m9 _) hw) (λ_ _ q=>q.eJ) λ_ _ z=>adw z
theorem aH {t1 t2:TSX}(h1:PSX X st t1)(h2:BH X sts t2):BH X (st::sts) (Ik t1 t2):=by
 intro pins s σ H D E I h;unfold Ik at h;refine wpAny_execs_cons (thn (h1 pins s σ H { D with nx:=t2 D E } E I h) λf s1 q=>?_)
 cases f with
 |next =>
  obtain⟨σ',H',I',q⟩:=q;exact h2 pins s1 σ' H' D E I' q
 |ret v=>exact q
 |brk=>exact q
 |cont=>exact q
theorem bA {t1:TSX}(h1:PSX X st t1):BH X [st] t1:=by
 intro pins s σ H D E I h;refine wpAny_execs_cons (thn (h1 pins s σ H D E I h) λf s1 q=>?_)
 cases f with
 |next=>exact wpAny_execs_nil q
 |ret v=>exact q
 |brk=>exact q
 |cont=>exact q
theorem fB {c:Expr}{a b:List Stmt}{tc:TT}{t1 t2:TSX}(hc:PT X.nox c tc)(ha:BH X a t1)(hb:BH X b t2):PSX X (.If c a b pos) (We tc t1 t2):=by
 intro pins s σ H D E I h;unfold We at h;refine wpAny_If (rf (hc pins s σ H _ (I.m9 _) h) (λd s1 ⟨H1,I1,q1⟩=>?_) λ_ _ z=>adw z)
 cases d with
 |true=>exact ha pins s1 σ H1 D E I1.eJ q1
 |false=>exact hb pins s1 σ H1 D E I1.eJ q1
theorem gP {t:TEX}(he:PEX X e t)(hs:swapsWith e none pos.line X.env=pure false:=by rfl):PSX X (.Expr e pos) (Lg t):=by
 intro pins s σ H D E I h;unfold Lg at h;exact wpAny_Expr_any (rf (he pins s σ H _ _ I h) (λv s1 ⟨x,H1,I1,r1,q1⟩=>⟨σ,H1,I1,q1⟩) λ_ _ z=>⟨σ,z⟩) I.quiet hs
theorem pN {t:TEX}(he:PEX X e t):PSX X (.Return (some e) pos) (Pe t):=by
 intro pins s σ H D E I h;unfold Pe at h;exact wpAny_Return_some (rf (he pins s σ H _ _ I h) (λv s1 ⟨x,H1,I1,r1,q1⟩=>⟨x,σ,H1,I1,r1,q1⟩) λ_ _ z=>⟨σ,z⟩)
end
section
variable{X:Cx}{k:Nat}{f C:Addr}{fd:kb}{ps:List Str}{sp:Sp}{x m:Str}{p pos apos:Pos}{e o:Expr}{es:List Expr}{t:TAX}
theorem BI {pins:List (Addr×Obj)}{σ:St}{H:Hp}{s:Shared}{Q:VK}{E:XK}{us:List Value}{vs:List V}(F:a8 X.prog X.w X.K X.mg X.base (CXX X.prog X.w) k f fd ps sp)(hr:Room k X.A)(hb:Binds X.K fd ps [])
  (I:Inv X pins σ H s) (r:Vals vs us) (h:sp vs H Q E):wpAny (model X.prog X.w) X.A (call (.ref f) us) (EP X pins σ Q) (XP X pins σ E) s:=by
 have hl:(us++[]).length=ps.length:=by rw[aex,<-r.length];exact F.len _ _ _ _ h
 have b:=hb s us I.kIn hl;rw[aex]at b;refine wpAny_call (codeAny_mono (F.run X.A X.stack s H ⟨us,[]⟩ us vs Q E hr I.NC b r h) λr s' hq=>?_)
 cases r with
 |error e=>exact Q7 I hq
 |ok fl =>
  cases fl with
  |ret u=>exact I.after hq
  |next=>exact adw hq
  |brk=>exact adw hq
  |cont=>exact adw hq
theorem oH (F:a8 X.prog X.w X.K X.mg X.base (CXX X.prog X.w) k f fd ps sp)(hr:Room k X.A)(hg:Gl X x)(hm:X.mg x=some (.ref f))(hk:de X.K (.ref f)=true)(hb:Binds X.K fd ps [])(ha:PAX X (e::es) t)
  (hdb:(x == ("__debug__":Str))=false:=by decide) (he:si (e::es) X.env=(false,eval e X.env)::si es X.env:=by rfl) (hpl:(backTo pos (si es X.env)).any (·.1)=false:=by rfl) :
  PEX X (.Call (.Name x p) (e::es) [] pos) (Lh t sp):=by
 intro pins s σ H Q E I h;unfold Lh at h;refine wpAny_Call_Name_kw (lU I hg hm ?_ hdb);exact aeK (h₀:=X.base) I.ok.mod.kin hk (thn (ha pos pins s σ H _ E I h) λus s1 ⟨vs,H1,I1,r,q⟩=>⟨I1.kIn,BI F hr hb I1 r q⟩) he hpl
theorem jg {pl:Sem Bool}{ta:TEX}(he:PEX X o ta)(c:Cls X.K C)(hm:Meth X.K C m f)(F:a8 X.prog X.w X.K X.mg X.base (CXX X.prog X.w) k f fd ps sp)(hr:Room k X.A)(hb:Binds X.K fd ps [])(ha:PAX X (e::es) t)
  (hst:si (e::es) X.env=(false,eval e X.env)::si es X.env:=by rfl) (hpl:(backTo pos (si es X.env)).any (·.1)=false:=by rfl)
  (ht:eval (.Call (.Attribute o m apos) (e::es) [] pos) X.env=(do
   let ov <-eval o X.env
   standAt apos.atName
   let (f,first) <-holding [ov] (getMethod ov m pl)
   callWith pos f first (backTo pos (si (e::es) X.env)) (backToKw pos (keywordEach [] X.env))):=by rfl) :
  PEX X (.Call (.Attribute o m apos) (e::es) [] pos) (Li C m ta t sp):=by
 intro pins s σ H Q E I h;unfold Li at h;refine ad6 (pl:=pl) (thn (he pins s σ H _ E I h) λu s1 ⟨x,H1,I1,rx,a,dx,fs,ex,ea,l,q⟩=>?_) ht
 subst ex;obtain rfl:u=sr a:=rx;refine jL I1 ea c hm l ?_;exact aeK (first:=[.ref a]) (h₀:=X.base) I.ok.mod.kin hm.kp (thn (ha pos pins s1 σ H1 _ E I1 q) λus s2 ⟨vs,H2,I2,r,q2⟩=>⟨I2.kIn,BI (us:=.ref a::us) (vs:=.ref a::vs) F hr hb I2 (.cons rfl r) q2⟩) hst hpl
theorem vx {pl:Sem Bool}{ta:TEX}(he:PEX X o ta)(c:Cls X.K C)(hm:Meth X.K C m f)(F:a8 X.prog X.w X.K X.mg X.base (CXX X.prog X.w) k f fd ps sp)(hr:Room k X.A)(hb:Binds X.K fd ps [])
  (ht:eval (.Call (.Attribute o m apos) [] [] pos) X.env=(do
   let ov <-eval o X.env
   standAt apos.atName
   let (f,first) <-holding [ov] (getMethod ov m pl)
   callWith pos f first (backTo pos (si [] X.env)) (backToKw pos (keywordEach [] X.env))):=by rfl) :
  PEX X (.Call (.Attribute o m apos) [] [] pos) (Il C m ta sp):=by
 intro pins s σ H Q E I h;unfold Il at h;refine ad6 (pl:=pl) (thn (he pins s σ H _ E I h) λu s1 ⟨x,H1,I1,rx,a,dx,fs,ex,ea,l,q⟩=>?_) ht
 subst ex;obtain rfl:u=sr a:=rx;refine jL I1 ea c hm l ?_;exact PySem.W.callWith_K0 (first:=[.ref a]) I1.kIn hm.kp (BI (us:=[.ref a]) (vs:=[.ref a]) F hr hb I1 (.cons rfl .nil) q)
end
section
variable{P:ma}{w:World}{K:cb}{mg:Str->Option Value}{base:Heap}
theorem Fun.okX {x qual:Str}{st:Stmt}{f:Addr}{fd:kb}{N ps:List Str}{k:Nat}{sp:Sp}(F:Fun K x qual st f fd)(S:az N ps (ag st))(len:∀vs H Q E,sp vs H Q E->vs.length=ps.length)
  (CN:∀(cdv:Value) (A:Around) (outer:List Env) (s:Shared) (H:Hp) (vs:List V) (Q:VK) (E:XK),Room k (A.deeper (envOfC qual (ag st) s.heap.objs.size f cdv))->sp vs H Q E ->
   ∃t,BH (cD (CXX P w) P w K mg base N qual (ag st) f cdv A outer s H E) (ay st) t/\t { nx:=λ_ H'=>Q .non H',rt:=Q } (λ_=>E) (start N vs) H):a8 P w K mg base (CXX P w) (k+1) f fd ps sp:=by
 obtain⟨oc,od,kV,doc,pm,an,cdv,ct,osl,rfl,lk,hcd⟩:=F.ex;refine Pd lk hcd S len λA outer s H vs Q E hr hsp=>?_
 obtain⟨t,h,q⟩:=CN cdv A outer s H vs Q E hr hsp;exact⟨λD σ H=>t D (λ_=>E) σ H,λpins s1 σ H1 D I hw=>rf (h pins s1 σ H1 D _ I hw) (λ_ _ z=>z) λ_ _ z=>NR z,q⟩
end
def xo (a:Addr)(cls:Value)(xd:Option Addr):HO:=.ext λh=>∃(sl:Array (Option Value)) (vs:Array Value),h.get? a=some ⟨cls,xd,.fields vs,sl⟩
abbrev hcx (X:Cx)(e:Addr):Cx:={ X with A:=X.A.mark (some (.ref e)),calm:=false,xe:=λ_ _=>False }
section
variable{X:Cx}{pins:List (Addr×Obj)}{σ:St}{H:Hp}{s:Shared}{e:Addr}{cls:Value}{xd:Option Addr}{m:Option Value}
theorem Lj (I:Inv X pins σ H s)(e:Addr):Inv (hcx X e) pins σ H s :=
 ⟨⟨I.ok.mod,I.ok.kind,I.ok.glob,I.ok.blt,I.ok.above,I.ok.inj,I.ok.has,I.ok.cab,λz=>absurd (show false=true from z) ki,I.ok.frames,I.ok.stk,I.ok.exf,I.ok.bs,I.ok.bsz,I.ok.FH,I.ok.CI,I.ok.tD,I.ok.frf⟩,I.os,I.bare,I.base,I.loc,I.cell,I.free,I.oB,I.pin,I.hok,I.len⟩
theorem yp (ok:X.Ok)(I:Inv (hcx X e) pins σ H s):Inv X pins σ H s:=⟨ok,I.os,I.bare,I.base,I.loc,I.cell,I.free,I.oB,I.pin,I.hok,I.len⟩
theorem NS (I:Inv X pins σ H s)(x:XAt X pins H s.heap e cls xd m):Inv X pins σ (upd H e (xo e cls xd)) s:=by
 obtain⟨ok,sl,vs,he,hz,_⟩:=x;have nb:∀b u,H b=some u->b≠e:=λb u q z=>by rw[z,ok.1]at q;cases q
 have hk:HOk X.prog X.w (upd H e (xo e cls xd)) s.heap:=λb u q=>by
  by_cases hb:b=e
  ·subst hb;rw[ah]at q;cases q;exact⟨⟨sl,vs,he⟩,⟨_,he⟩,λh1 h2 ⟨sl',vs',z⟩ k=>⟨sl',vs',k _ z⟩⟩
  ·rw[aw hb]at q;exact(I.hok b u q).Ab (λc v _ r=>r) (λc r=>by rw[aw (nb c _ r)];exact r) λc xs r=>by rw[aw (nb c _ r)];exact r
 exact I.step (g':=s.gens) (t':=s.toks) (d':=s.drawn) (h':=s.heap) (ch:=[e]) (λb hb=>by
   obtain rfl:b=e:=by simpa using hb
   exact⟨ok.2.2.2.1,ok.2.1,ok.2.2.2.2.1,ok.2.2.2.2.2⟩)
  (λ_ _ _ _ _ q _=>q) (λb o _ _ _ q _=>⟨o.slots,q⟩) (λb o hb _ n=>by rw[aw (by simpa using hb)];exact n) (λb o _ q=>⟨o,q⟩)
  (λb xs q=>by rw[aw (nb b _ q)];exact q) (λb o u q=>by rw[aw (nb b _ q)];exact q) (λb ps q=>⟨#[],by rw[aw (nb b _ q),q];simp⟩) (λ_ q=>q) hk I.bare
theorem BJ {M:Model}{A:Around}{E:Value->Shared->Prop}{n:Str}{i:Nat}{pos:Pos}{Q:Unit->Shared->Prop}(I:Inv X pins σ H s)(hN:X.N.Nodup)(hi:X.N[i]?=some n)(hl:X.env.kindOf n=some .local)
  (h:∀s',Inv X pins (σ.set i none) H s'->Q () s'):wpAny M A (do bindName X.env n .none;unbindBehindTheSuite X.env n pos) Q E s:=by
 obtain⟨mm,hn,abj⟩:=I.loc;refine wpAny_nameGoes_keeps hl hn (by rw[I.ok.kind];rfl) λh' v hn' sb=>h _ ?_
 have ol:∃o,s.heap.get? X.env.locals=some o/\H X.env.locals=none:=by obtain⟨o,_,_,ho,_⟩:=hn;exact⟨o,ho,I.free⟩
 have keep:∀b o,b≠X.env.locals->s.heap.get? b=some o->h'.get? b=some o:=λb o hb q=>(sb.2 b hb).trans q
 have below:∀ {b:Addr} {o:Obj},X.s₀.heap.get? b=some o->b≠X.env.locals:=λ{b o} q=>tu (ado (ky q) I.ok.above)
 refine⟨I.ok,I.os,I.bare,⟨λb o q nn hb hx=>keep b o (below q) (I.base.keep b o q nn hb hx),λb o q nn hb hx=>?_,I.base.free,λb o q hx=>?_,I.base.uk,I.base.tw,I.base.um⟩,⟨_,hn',λj y w e1 e2 e3=>?_⟩,λy c ec=>?_,I.free,I.oB,λp hp=>?_,λb u q=>?_,by rw[aep];exact I.len⟩
 ·obtain⟨sl,z⟩:=I.base.slot b o q nn hb hx;exact⟨sl,keep b _ (below q) z⟩
 ·obtain⟨o',z⟩:=I.base.there b o q hx;exact⟨o',keep b _ (below q) z⟩
 ·have hj:j≠i:=λz=>by
   subst z
   by_cases hlt:j < σ.length
   ·rw[List.getElem?_set_self hlt]at e2;cases e2
   ·rw[List.getElem?_eq_none_iff.mpr (by rw[aep];omega)]at e2;cases e2
  rw[List.getElem?_set_ne (adz hj)]at e2;obtain⟨u,r,q⟩:=abj j y w e1 e2 e3;refine⟨u,r,?_⟩;rcases q with ⟨k,z⟩ | ⟨k,c,z,hc⟩
  ·have:y≠n:=λz=>hj (yz hN e1 (z▸hi))
   exact .inl ⟨k,by simp only[this,if_false];exact z⟩
  ·obtain⟨o,ho,hd⟩:=hc;exact .inr ⟨k,c,z,o,keep c o (I.cne y c z) ho,hd⟩
 ·obtain⟨v',o,ho,hd⟩:=I.cell y c ec;exact⟨v',o,keep c o (I.cne y c ec) ho,hd⟩
 ·obtain⟨a1,a2,a3,a4,a5⟩:=I.pin p hp;exact⟨keep p.1 p.2 a3 a1,a2,a3,a4,a5⟩
 ·refine(I.hok b u q).Ab (λc v hc r=>keep c v (λz=>?_) r) (λ_ z=>z) λ_ _ z=>z
  have fr:=I.free;rw[<-z]at fr;rcases hc with rfl | hc
  ·rw[q]at fr;cases fr
  ·rw[hc]at fr;cases fr
end
abbrev THX:=Ends->SXK->St->XK
def F7 (D:Ends)(i:Nat):Ends:={ nx:=λσ H=>D.nx (σ.set i none) H,rt:=D.rt,bk:=λσ H=>D.bk (σ.set i none) H,ct:=λσ H=>D.ct (σ.set i none) H }
def hAs (K:cb)(C:Addr)(i:Nat)(ts:TS)(tr:THX):THX:=λD E σ cls xd H=>∃b,ads K cls (.ref C)=some b/\if b=true then ∀ea,H ea=none->ts (F7 D i) (σ.set i (some (.ref ea))) (upd H ea (xo ea cls xd)) else tr D E σ cls xd H
def Ll (tb:TSX)(th:THX):TSX:=λD E σ H=>tb D (λσ' cls xd H'=>th D E σ' cls xd H') σ H
def PHX (X:Cx)(hs:List ExceptHandler)(t:THX):Prop :=
 ∀(pins:List (Addr×Obj)) (s:Shared) (σ:St) (H:Hp) (D:Ends) (E:SXK) (ea:Addr) (cls:Value) (xd:Option Addr),Inv X pins σ H s->XAt X pins H s.heap ea cls xd (some .none)->t D E σ cls xd H ->
  wpAny (model X.prog X.w) X.A (handleBy (.ref ea) X.env hs) (SP X pins D) (XPS X pins E) s
section
variable{X:Cx}{x n:Str}{C:Addr}{np pos:Pos}{b₀:Stmt}{Pf:List Stmt}{rest:List ExceptHandler}{ts:TS}{tr:THX}
theorem NT (F:Fr1 X):PHX X [] (λ_ E σ cls xd H=>E σ cls xd H):=by
 intro pins s σ H D E ea cls xd I hx h;refine wpAny_handleBy_nil ?_;unfold PySem.passOn;obtain⟨ok,sl,vs,he,hz,T,oT,ts,h1,r⟩:=id hx;refine di (wpAny_field he rfl h1 ?_);rw[if_neg (show ¬((sr T == aet)=true) by simp)]
 have step:wpAny (model X.prog X.w) X.A (do setFlight (.ref ea) X.env.frame;throw (.ref ea):Sem Flow) (SP X pins D) (XPS X pins E) s :=
  di (qP I hx λs2 I2 x2=>wpAny_throw ⟨σ,ea,cls,xd,_,H,rfl,I2,x2,by rw[F.fr];exact .inr (.inr ⟨_,rfl⟩),h⟩)
 first
  |exact step
  |exact di (kx step)
theorem Wf {pins:List (Addr×Obj)}{s:Shared}{σ:St}{H:Hp}{ea:Addr}{cls:Value}{xd:Option Addr}{b:Bool}{E:Value->Shared->Prop}{R:Bool->Shared->Prop}(I:Inv X pins σ H s)(hx:XAt X pins H s.heap ea cls xd (some .none))
  (hg:Gl X x) (hm:X.mg x=some (.ref C)) (eb:ads X.K cls (.ref C)=some b) (h:R b s) (hd:(x == ("__debug__":Str))=false:=by decide) :
  wpAny (model X.prog X.w) (X.A.mark (some (.ref ea))) (eval (.Name x np) X.env) (λc s₁=>wpAny (model X.prog X.w) (X.A.mark (some (.ref ea))) (excMatches (.ref ea) c) R E s₁) E s:=by
 obtain⟨_,sl,vs,he,_⟩:=hx;refine lU (Lj I ea) hg hm ?_ hd;have lt:PySem.W.Looks (model X.prog X.w) s.heap (typeOf (.ref ea)) cls:=(PySem.W.Looks.ld he).andThen .now;exact PySem.W.exm_one I.kIn lt eb _ _ _ s (λ_ _ q=>q) h
theorem Ra {i:Nat}(hN:X.N.Nodup)(hi:X.N[i]?=some n)(hl:X.env.scope.names.lookup n=some .local)(hg:Gl X x)(hm:X.mg x=some (.ref C))(hs:∀e,PSs (hcx X e) (b₀::Pf) ts)(hr:PHX X rest tr)(hd:(x == ("__debug__":Str))=false:=by decide) :
  PHX X (.ExceptHandler (some (.Name x np)) (some n) (b₀::Pf) pos::rest) (hAs X.K C i ts tr):=by
 intro pins s σ H D E ea cls xd I hx h;unfold hAs at h;obtain⟨b,eb,h⟩:=h;refine wpAny_handleBy_cons (codeAny_handlers_test (Wf I hx hg hm eb ?_ hd)) (by intro q;cases q)
 cases b with
 |true =>
  refine codeAny_handlers_suite_as (qP I hx λs1 I1 x1=>?_)
  refine oE (X:=hcx X ea) (v:=.ref ea) (Lj (NS I1 x1) ea) hN hi (.inl hl) rfl (λs2 I2=>?_) (.inr hl)
  refine rf (hs ea pins s2 _ _ (F7 D i) I2 (h ea hx.ok.1)) (λf s3 q=>?_) λ_ _ z=>adw z
  show wpAny _ _ _ _ _ _;cases f with
  |next=>obtain⟨σ',H',I',q⟩:=q;exact BJ (yp I.ok I') hN hi hl λs4 I4=>⟨_,H',I4,q⟩
  |brk=>obtain⟨σ',H',I',q⟩:=q;exact BJ (yp I.ok I') hN hi hl λs4 I4=>⟨_,H',I4,q⟩
  |cont=>obtain⟨σ',H',I',q⟩:=q;exact BJ (yp I.ok I') hN hi hl λs4 I4=>⟨_,H',I4,q⟩
  |ret u=>obtain⟨v,σ',H',I',r,q⟩:=q;exact BJ (yp I.ok I') hN hi hl λs4 I4=>⟨v,_,H',I4,r,q⟩
 |false=>exact hr pins s σ H D E ea cls xd I hx h
theorem NU {body:List Stmt}{h₀:ExceptHandler}{hs:List ExceptHandler}{tb:TSX}{th:THX}(F:Fr1 X)(hb:BH X body tb)(hh:PHX X (h₀::hs) th) :
  PSX X (.Try body (h₀::hs) [] [] pos) (Ll tb th):=by
 intro pins s σ H D E I h;unfold Ll at h;refine wpAny_Try_except (rf (hb pins s σ H D _ I h) (λf s1 q=>?_) (λv s1 q=>?_))
 ·cases f with
  |next=>exact wpAny_execs_nil q
  |ret v=>exact q
  |brk=>exact q
  |cont=>exact q
 ·obtain⟨σ',ea,cls,xd,m,H',rfl,I1,hx,hm,q⟩:=q;exact F5 F I1.ok.frames I1 hx hm λs2 I2 x2=>qP I2 x2 λs3 I3 x3=>hh pins s3 σ' H' D E ea cls xd I3 x3 q
end
def abk (tb:TSX)(E:SXK):TS:=λD σ H=>tb D E σ H
section
variable{X:Cx}{tg:Expr}
theorem NV {iter:Expr}{body:List Stmt}{wi:TI}{g:TG}{tb:TSX}{pos:Pos}(F:Fr1 X)(hc:X.calm=true)(hi:PI X.nox tg iter wi)(hg:PG X.nox tg g)(hb:BH X body tb)
  (hs:∀x,foldedSetIterable iter X.env x=pure x:=by intro _;rfl):PSX X (.For tg iter body [] pos) (λD E σ H=>VO wi g (abk tb E) D σ H):=by
 intro pins s σ H D E I h;refine wpAny_For (rf (hi pins s σ H _ (I.m9 _) h) (λv s1 h1=>rf h1 (λitv s2 h2=>?_) λ_ _ z=>adw z) λ_ _ z=>adw z) hs
 obtain⟨it,fp,tn,J,H2,e,I2,T,st2,f2,W,⟨m0,w0⟩,turn⟩:=h2;subst e;have hp:PassesOwn (model X.prog X.w) X.A X.env (XPS X pins E):=Le F I.ok.frames;have stat:∀ {H':Hp},(∀b∈fp,H' b=none)->∀b∈fp,jG X pins H' b:=λhn b hb=>⟨hn b hb,(f2 b hb).2⟩
 refine codeAny_forLoop_any (λn s'=>∃i σ' H',Inv X pins σ' H' s'/\tn i s'.heap/\(∀b∈fp,H' b=none)/\W i n σ' H') ?_ m0 ⟨0,σ,H2,I2.eJ,st2,λb hb=>(f2 b hb).1,w0⟩
 rintro n s3 ⟨i,σ3,H3,I3,st3,fr3,w3⟩;rcases turn i n σ3 H3 w3 with ⟨stop,qn⟩ | ⟨go,N,hN,step⟩
 ·refine wpAny_passesOwn hp (thn (T.done X rfl rfl rfl hc i pins s3 σ3 H3 (XPS X pins E) I3 (stat fr3) st3 stop) λr s4 ⟨hr,I4⟩=>?_)
  subst hr;exact wpAny_execs_nil ⟨σ3,H3,I4,qn⟩
 ·refine wpAny_passesOwn hp (thn (T.item X rfl rfl rfl hc i pins s3 σ3 H3 (XPS X pins E) I3 (stat fr3) st3 go) λr s4 ⟨u,hr,h4⟩=>?_)
  subst hr;refine wpAny_passesOwn hp (thn h4 λ_ s5 ⟨x,H5,I5,r5,y5,st5,fr5⟩=>?_)
  have I5':=I5.pinned (stat fr5) (T.obj _ _ st5);refine wpAny_passesOwn hp (rf (hg _ s5 σ3 H5 x u _ (I5'.m9 _) r5 (step x H5 y5)) (λ_ s6 ⟨σ6,H6,I6,q6⟩=>?_) λ_ _ z=>adw z)
  refine wpAny_passesOwn hp (rf (hb _ s6 σ6 H6 _ E I6.eJ q6) (λf s7 q7=>?_) λ_ _ ⟨σ',z⟩=>⟨σ',z.drop⟩)
  have again:∀ {σ7:St} {H7:Hp},Inv X (pins++yD fp s5.heap) σ7 H7 s7->N σ7 H7->∃m,m < n/\∃i σ' H',Inv X pins σ' H' s7/\tn i s7.heap/\(∀b∈fp,H' b=none)/\W i m σ' H':=λ{σ7 H7} I7 n7=>by
   obtain⟨m',hm,w7⟩:=hN σ7 H7 n7;refine⟨m',hm,i+1,σ7,H7,I7.fv,T.keep _ _ _ st5 λb hb o e=>(I7.pin (b,o) (gp _ (gp _ (eY hb e)))).1,λb hb=>?_,w7⟩
   obtain⟨o,e,d⟩:=T.obj _ _ st5 b hb;exact(I7.pin (b,o) (gp _ (gp _ (eY hb e)))).2.1
  cases f with
  |next=>obtain⟨σ7,H7,I7,n7⟩:=q7;exact again I7 n7
  |cont=>obtain⟨σ7,H7,I7,n7⟩:=q7;exact again I7 n7
  |brk=>obtain⟨σ7,H7,I7,q7⟩:=q7;exact⟨σ7,H7,I7.fv,q7⟩
  |ret v=>obtain⟨x7,σ7,H7,I7,r7,q7⟩:=q7;exact⟨x7,σ7,H7,I7.fv,r7,q7⟩
end
structure GaX (K:cb)(C:Addr):Prop where
 ga:bo K (.ref C) "__getattribute__"=some (some (.builtin "BaseException.__getattribute__"))
 hk:bo K (.ref C) "__getattr__"=some none
 mb:adu K C (.type "BaseException")=some true
theorem C0:Slot "ValueError" "__getattribute__" "BaseException.__getattribute__":=F.attr_ValueError.ga
section
variable{prog:ma}{w:World}{A:Around}{E:Value->Shared->Prop}{s:Shared}{K:cb}{x C:Addr}{ox:Obj}{od:Option Obj}{name:Str}
theorem Lm {M:Model}{Pg:Value}{Q:Unit->Shared->Prop}(X:K.In s.heap)(I:ael s.heap x ox C od)(t:GaX K C)(hq:Q () s) :
  wpAny M A (checkBuiltinCall "BaseException.__getattribute__" ⟨[.ref x,Pg],[]⟩) Q E s:=by
 have hk:builtinKind "BaseException.__getattribute__"=some .slot:=by trivial
 have Rb:splitId "BaseException.__getattribute__"=some ("BaseException","__getattribute__"):=by trivial
 have L0:=I.type (M:=M);have L1:=PySem.W.looks_mroIn (M:=M) X t.mb;have ha:=F.args_bexc_ga (.ref x) Pg;obtain⟨hh,g,d,tt,os⟩:=s;simp only[checkBuiltinCall,hk,Rb];refine di ?_;unfold isInstance;refine di (L0.at (L1.at ?_))
 repeat (any_goals (first | assumption | wp_step))
def adf (v:Value)(Q:Value->Shared->Prop):Fin->Shared->Prop:=λfin s'=>match fin with | .done (.ret u)=>u=v/\Q u s' | _=>False
theorem Ln {tk:Tok}{v:Value}{Q:Fin->Shared->Prop}(X:K.In s.heap)(I:ael s.heap x ox C od)(hf:aeL K C od name=some (.value v))(hq:Q (.done (.ret v)) s) :
  wpAny (model prog w) A (Builtin.«object.__getattribute__» ⟨[.ref x,.str name tk],[]⟩) Q E s:=by
 obtain⟨hh,g,d,tt,os⟩:=s;have L0:=I.type (M:=model prog w);have L1:=PySem.W.looks_find (M:=model prog w) X I hf;unfold Builtin.«object.__getattribute__»;refine di (kx (di (kx (di (L0.at (di (L1.at ?_)))))));exact kx hq
theorem Ji {tk:Tok}{g a:Value}{P:Value->Shared->Prop}(X:K.In s.heap)(I:ael s.heap x ox C od)(hf:aeL K C od name=some (.bind g a))(h:wpAny (model prog w) A (call g [a,.ref x,.ref C]) P E s) :
  wpAny (model prog w) A (Builtin.«object.__getattribute__» ⟨[.ref x,.str name tk],[]⟩) (λfin s'=>match fin with | .done (.ret v)=>P v s' | _=>False) E s:=by
 obtain⟨hh,gg,d,tt,os⟩:=s;have L0:=I.type (M:=model prog w);have L1:=PySem.W.looks_find (M:=model prog w) X I hf;unfold Builtin.«object.__getattribute__»;refine di (kx (di (kx (di (L0.at (di (L1.at ?_)))))));show wpAny _ _ (holding [a] (call g [a,.ref x,.ref C]) >>= ret) _ _ _;exact di (adV (rf h (λv s' z=>kx z) λ_ _ z=>z))
theorem Ph {tk:Tok}{fill ex:Bool}{Q:Value->Shared->Prop}(X:K.In s.heap)(I:ael s.heap x ox C od)(t:GaX K C)
  (h:wpAny (model prog w) A.in1 (Builtin.«object.__getattribute__» ⟨[.ref x,.str name tk],[]⟩) (λfin s'=>match fin with | .done (.ret v)=>PySem.W.handedIn v=true/\Q v s' | _=>False) (λ_ _=>False) s) :
  wpAny (model prog w) A (getAttrBy (.ref x) (.str name tk) fill ex) Q E s:=by
 obtain⟨hh,g,d,tt,os⟩:=s;have L0:=I.type (M:=model prog w);have L1:=aey (M:=model prog w) X t.ga;have L2:=aey (M:=model prog w) X t.hk;unfold getAttrBy;refine adV (di (L0.at (di (L1.at ?_))));show wpAny _ _ (if (onTheHeap (sr C) && Value.builtin "BaseException.__getattribute__" == Value.builtin "object.__getattribute__")=true then _ else getAttrByItsOwn _ _ _ _ _ _) _ _ _
 rw[if_neg (by rw[show (Value.builtin "BaseException.__getattribute__" == Value.builtin "object.__getattribute__")=false from by trivial];exactλz=>Bool.noConfusion z)]
 unfold getAttrByItsOwn hookBefore callGetattribute boundAndCalled;refine di ?_;show wpAny _ _ (typeLookup (.ref C) "__getattr__") _ _ _;refine L2.at ?_;refine di (wpAny_attempt (adV ?_));rw[if_neg (by cases ex <;> decide)]
 refine di (wpAny_of_eq (C0.bind _) ?_);show wpAny _ _ (call (.builtin "BaseException.__getattribute__") [.ref x,.str name tk]) _ _ _;refine wpAny_call (codeAny_call_builtin C0.plain F.entry_bexc_ga (Lm X I t (rf h (λfin s' z=>?_) λ_ _ z=>z.elim)))
 rcases fin with (_ | _ | _ | _) | _ <;> first | exact PySem.W.handed_on z.1 z.2 | exact z.elim
end
structure lJ (K:cb)(C:Addr):Prop where
 ga:GaX K C
 cd:(adH K C).isSome=true
 ha:bo K (.ref C) "__class__"=some (some (.builtin "object.__class__"))
 hn:aez K (.builtin "object.__class__") "__get__"=some (some (.builtin "getset_descriptor.__get__"))
 htk:PySem.W.takesIn K (.builtin "object.__class__")=some true
 hm:adu K C (.type "object")=some true
theorem Lo {K:cb}{C:Addr}(t:lJ K C)(od:Option Obj):aeL K C od "__class__"=some (.bind (.builtin "getset_descriptor.__get__") (.builtin "object.__class__")):=by
 obtain⟨cd,hc⟩:=Option.isSome_iff_exists.mp t.cd;unfold aeL;rw[hc,Option.bind_some,t.ha,Option.bind_some];simp[t.hn,t.htk]
theorem yq {K:cb}{C x:Addr}{ox:Obj}{od:Option Obj}(t:lJ K C):PySem.W.KitX K (.ref x) (.ref C) (λh=>ael h x ox C od) where
 ty:=λ_ _ _ I=>I.type
 it:=λ_ _ X _=>by
  obtain⟨cd,hc⟩:=Option.isSome_iff_exists.mp t.cd;unfold adH at hc;split at hc
  ·rename_i ho;exactλA' Q' E' s' k q=>by
    unfold isType loadHead;exact di (wpAny_loadPart (k _ _ (X _ _ ho)) (kx q))
  ·cases hc
 ne:=λh tp dd its n sl X htp=>by
  obtain⟨cd,hc⟩:=Option.isSome_iff_exists.mp t.cd;refine Bool.eq_false_iff.mpr λq=>?_
  obtain rfl:C=tp:=Value.ref.inj (beq_iff_eq.mp q);unfold adH at hc;split at hc
  ·rename_i ho;cases (X _ _ ho).symm.trans htp
  ·cases hc
 ca:=λ{prog w A E Q s} X I k=>by
  unfold getAttr? getAttrBy?;refine di (wpAny_mkText (di (wpAny_attempt (Ph (s:={ s with toks:=s.toks+1 }) X I t.ga (rf (Ji (s:={ s with toks:=s.toks+1 }) X I (Lo t _) (P:=λv s'=>v=.ref C/\s'={ s with toks:=s.toks+1 }) (E:=λ_ _=>False)
   (wpAny_call (PySem.W.class_get (s:={ s with toks:=s.toks+1 }) (ox:=ox) X I t.hm ⟨rfl,rfl⟩))) (λfin s' z=>?_) λ_ _ z=>z)))))
  rcases fin with (_ | _ | _ | _) | _ <;> first | (obtain⟨rfl,rfl⟩:=z;exact⟨rfl,kx k⟩) | exact z.elim
section
variable{X:Cx}{pins:List (Addr×Obj)}{σ:St}{H:Hp}{s:Shared}
theorem NW {ea C:Addr}(I:Inv X pins σ H s)(h:H ea=some (xo ea (.ref C) none)):∃ox,ael s.heap ea ox C none:=by
 obtain⟨⟨sl,vs,e⟩,_⟩:=(show fq X.prog X.w H s.heap ea (xo ea (.ref C) none) from I.hok _ _ h)
 exact⟨_,e,rfl,rfl,trivial⟩
theorem Jj:iz X (.builtin "isinstance") (λxs H Q=>∃ea c C b,xs=[.ref ea,c]/\isC c=true/\H ea=some (xo ea (.ref C) none)/\lJ X.K C/\ba X.K (.ref C) (Q3 c)=some b/\Q (.bl b) H):=by
 intro pins s σ H xs us Q I r h;obtain⟨ea,c,C,b,rfl,hc,hx,ty,e,q⟩:=h;obtain⟨u,w',rfl,rx,rc⟩:=vals2 r;cases rx;obtain⟨ox,J⟩:=NW I hx;have fin:∀tk,EP X pins σ Q (.bool b) { s with toks:=tk }:=λtk=>⟨.bl b,H,I.tok _,rfl,q⟩
 cases c with
 |ty n=>cases rc;exact PySem.W.kia_one (yq ty) I.kIn J e (λz=>nomatch z) fin
 |ref a=>cases rc;exact PySem.W.kia_one (yq ty) I.kIn J e (λz=>nomatch z) fin
 |_=>exact absurd (show false=true from hc) ki
end
section
variable{prog:ma}{w:World}{A:Around}{E:Value->Shared->Prop}{h:Heap}{g:Array GenState}{d:Drawn}{t:Nat}{os:OsState}
variable{nm q:Str}{C N:Addr}{bs bm bmB:List Value}{hdct:Bool}{sn:List Str}{sub:List Value}{ab:Bool}{col:Option Bool}{dd:Option Addr}{k0 k1 k2 k3 k5:Option Value}{B nid iid:String}
abbrev nA (h:Heap)(C:Addr)(us:List Value):Heap:=(h.push { cls:=.type "tuple",data:=.seq us.toArray }).push ⟨.ref C,none,.fields #[.ref h.objs.size,.none,.none,.none,.bool false,.none],#[]⟩
theorem gj {us:List Value}{b:Addr}{o:Obj}(e:h.get? b=some o):(nA h C us).get? b=some o:=gc _ (gc _ e)
theorem yO {us:List Value}:(nA h C us).get? (h.objs.size+1)=some ⟨.ref C,none,.fields #[.ref h.objs.size,.none,.none,.none,.bool false,.none],#[]⟩:=by
 have:=tm (h.push { cls:=.type "tuple",data:=.seq us.toArray }) (o:=⟨.ref C,none,.fields #[.ref h.objs.size,.none,.none,.none,.bool false,.none],#[]⟩) rfl
 rwa [aeE]at this
theorem F8 (F:ExcBaseFacts B nid iid bmB)(T:OwnTail h bmB bm){mN:Str->Option Value}{us:List Value}{Q:Fin->Shared->Prop}
  (kC:h.get? C=some (adL nm q C N bs bm hdct sn sub ab col dd k0 k1 k2 k3 k5 nid)) (kN:h.Ns N mN) (kI:mN "__init__"=none) (hz:us.length<=gn)
  (hq:∀h',(∀b o,h.get? b=some o->h'.get? b=some o)->(∃tp,h'.get? (h.objs.size+1)=some ⟨.ref C,none,.fields #[.ref tp,.none,.none,.none,.bool false,.none],#[]⟩)->Q (.done (.ret (.ref (h.objs.size+1)))) ⟨h',g,d,t,os⟩) :
  wpAny (model prog w) A (Builtin.«type.__call__» ⟨.ref C::us,[]⟩) Q E ⟨h,g,d,t,os⟩:=by
 repeat (first | with_reducible refine wpAny_loadPart_at kC ?_ | with_reducible refine wpAny_madeBy_exc kC ?_ | wp_step)
 refine codeAny_call_builtin_code (Code.quiet_builtin _ F.quiet) (wpAny_check_new_subT F T kC (codeAny_exc_new_subT F T kC ?_ hz));show wpAny _ _ _ _ _ _;have kC1:(nA h C us).get? C=_:=gj kC;have kN1:(nA h C us).Ns N mN:=kN.keeps λb o e=>gj e
 have T1:OwnTail (nA h C us) bmB bm:=T.keeps λb o e=>gj e
 have kE:=yO (h:=h) (C:=C) (us:=us);have self:(sr C::bm).contains (.ref C)=true:=by simp
 unfold isInstance
 repeat (first | with_reducible refine wpAny_loadPart_at kE ?_ | (with_reducible refine wpAny_isSubtype_exc kC1 ?_;rw[self]) | wp_step)
 show wpAny _ _ (typeLookup (.ref C) _) _ _ _;refine wpAny_typeLookup_tail kC1 kN1 T1 F.mroIs F.init.lookup ?_;rw[kI];refine adV (di (wpAny_of_eq (F.init.bind _) ?_));refine di (wpAny_call (codeAny_call_builtin F.init.plain F.initEntry (wpAny_check_init_subT F T1 kC1 kE rfl ?_)))
 wp_walk
 refine hq _ (λb o e=>?_) ⟨h.objs.size+2,?_⟩
 ·rw[adS _ _ (Nat.ne_of_gt (Nat.lt_succ_of_lt (ky e)))];exact gc _ (gj e)
 ·refine(aeg _ (gc _ kE) rfl).trans ?_;simp only[aeE];rfl
theorem Jk (F:ExcBaseFacts B nid iid bmB)(T:OwnTail h bmB bm){mN:Str->Option Value}{us:List Value}{Q:Value->Shared->Prop}
  (kC:h.get? C=some (adL nm q C N bs bm hdct sn sub ab col dd k0 k1 k2 k3 k5 nid)) (kN:h.Ns N mN) (kI:mN "__init__"=none) (hz:us.length<=gn)
  (hq:∀h',(∀b o,h.get? b=some o->h'.get? b=some o)->(∃tp,h'.get? (h.objs.size+1)=some ⟨.ref C,none,.fields #[.ref tp,.none,.none,.none,.bool false,.none],#[]⟩)->Q (.ref (h.objs.size+1)) ⟨h',g,d,t,os⟩) :
  wpAny (model prog w) A (call (.ref C) us) Q E ⟨h,g,d,t,os⟩:=by
 have l1:=tc_lookup;have l2:=tc_bind (.ref C);have ty:(⟨h,g,d,t,os⟩:Shared).TypeIs (.ref C) "type":=⟨_,kC,rfl⟩;refine wpAny_call (codeAny_of_tree ?_);show wpAny _ _ (callAny (.ref C) _) _ _ _
 repeat (any_goals (first | assumption | with_reducible refine wpAny_loadPart_at kC ?_ | wp_step))
 refine⟨rfl,codeAny_call_builtin_at (Code.quiet_builtin _ (by trivial)) entry_typeCall (wpAny_check_type_call_sub kC (F8 F T kC kN kI hz λh' k e=>?_))⟩
 exact hq h' k e
theorem sj {M:Model}{env:Env}{s:Shared}{x:Sem Value}{Q:Flow->Shared->Prop}(CP:bm.contains (.type "BaseException")=true)(hh:A.handled=none)
  (hx:wpAny M A x (λv s₁=>∃(e:Addr) (xd:Option Addr) (a0:Value) (sl:Array (Option Value)),v=.ref e/\s₁.heap.get? C=some (adL nm q C N bs bm hdct sn sub ab col dd k0 k1 k2 k3 k5 nid) /\
   s₁.heap.get? e=some ⟨.ref C,xd,.fields #[a0,.none,.none,.none,.bool false,.none],sl⟩/\E (.ref e) s₁) E s):wpAny M A (raiseStmt env (some x) none) Q E s:=by
 have top:(sr C::bm).contains (.type "BaseException")=true:=by rw[List.contains_cons,CP,Bool.or_true]
 unfold raiseStmt;refine di (rf hx (λv s₁ h₁=>?_) λ_ _ z=>z)
 obtain⟨e,xd,a0,sl,rfl,kC,kE,fin⟩:=h₁;obtain⟨hp,g',d',tk,os'⟩:=s₁
 repeat (first | with_reducible refine wpAny_loadPart_at kE ?_ | with_reducible refine wpAny_loadPart_at kC ?_ | (with_reducible refine wpAny_isSubtype_exc kC ?_;rw[top]) | wp_step)
 exact wpAny_raiseNew_none hh fin
end
abbrev p6:List Value:=[.type "ValueError",.type "Exception",.type "BaseException",.type "object"]
def strKeys (es:Array aea):Bool:=es.toList.all λe=>match e.key with | .str _ _=>true | _=>false
structure BK (K:cb)(N:Addr):Prop where
 ex:∃(c:Value) (dd:Option Addr) (es:Array aea) (n:Nat) (sl:Array (Option Value)),K.lookup N=some ⟨c,dd,.dict es n,sl⟩/\strKeys es=true
 no:fe K N "__init__"=some none
theorem BK.ns {K:cb}{N:Addr}(x:BK K N){h:Heap}(X:K.In h):∃mN,h.Ns N mN/\mN "__init__"=none:=by
 obtain⟨⟨c,dd,es,n,sl,l,sk⟩,no⟩:=x;have ns:h.Ns N (nsFind es):=⟨_,es,n,X _ _ l,rfl,λe he=>by
  have z:=List.all_eq_true.mp sk e (Array.mem_toList_iff.mpr he);cases hk:e.key with
  |str y t=>exact⟨y,t,rfl⟩
  |_=>rw[hk]at z;exact absurd z ki,λ_=>rfl⟩
 refine⟨_,ns,?_⟩;unfold fe at no;rw[l]at no;dsimp only at no;unfold nsFind findBy;rw[<-Array.find?_toList];cases hf:es.toList.find? (λe=>e.key.isStr "__init__") with
 |none=>rfl
 |some e=>rw[hf]at no;cases no
inductive jh (K:cb):List Value->Prop
 |base:jh K p6
 |own {D:Addr} {c0:Value} {dd:Option Addr} {cd:aeG} {sl:Array (Option Value)} {tl:List Value}:K.lookup D=some ⟨c0,dd,.cls cd,sl⟩->BK K cd.ns->jh K tl->jh K (.ref D::tl)
theorem jh.tail {K:cb}{bm:List Value}(x:jh K bm){h:Heap}(X:K.In h):OwnTail h p6 bm:=by
 induction x with
 |base=>exact .base
 |own l n _ ih =>
  obtain⟨mA,a,b⟩:=n.ns X;exact .own (X _ _ l) a b ih
structure C1 (K:cb)(C:Addr):Prop where
 ex:∃(nm q:Str) (N:Addr) (bs bm:List Value) (hdct:Bool) (sn:List Str) (sub:List Value) (ab:Bool) (col:Option Bool) (dd:Option Addr) (k0 k1 k2 k3 k5:Option Value),
  K.lookup C=some (adL nm q C N bs bm hdct sn sub ab col dd k0 k1 k2 k3 k5 "ValueError.__new__")/\BK K N/\jh K bm
section
variable{X:Cx}{x:Str}{C:Addr}{np gO pos:Pos}{e₀:Expr}{rest:List Expr}{ta:TA}
theorem iT (ek:C1 X.K C)(hc:X.calm=true)(hg:Gl X x)(hm:X.mg x=some (.ref C))(ha:PA X.nox (e₀::rest) ta)(hdb:(x == ("__debug__":Str))=false:=by decide)
  (he:si (e₀::rest) X.env=(false,eval e₀ X.env)::si rest X.env:=by rfl) (hpl:(backTo gO (si rest X.env)).any (·.1)=false:=by rfl) :
  PSX X (.Raise (some (.Call (.Name x np) (e₀::rest) [] gO)) none pos) (λ_ E σ H=>ta σ H λvs H1=>vs.length<=gn/\E σ (.ref C) none H1):=by
 intro pins s σ H D E I h;obtain⟨nm,q,N,bs,bm,hdct,sn,sub,ab,col,dd,k0,k1,k2,k3,k5,l,n,T⟩:=ek.ex;have go:wpAny (model X.prog X.w) X.A (eval (.Call (.Name x np) (e₀::rest) [] gO) X.env) (λv s₁=>∃(e:Addr) (xd:Option Addr) (a0:Value) (sl:Array (Option Value)),v=.ref e/\s₁.heap.get? C=some (adL nm q C N bs bm hdct sn sub ab col dd k0 k1 k2 k3 k5 "ValueError.__new__") /\
   s₁.heap.get? e=some ⟨.ref C,xd,.fields #[a0,.none,.none,.none,.bool false,.none],sl⟩/\XPS X pins E (.ref e) s₁) (XPS X pins E) s:=by
  refine wpAny_Call_Name_kw (lU I hg hm ?_ hdb);unfold callWith;rw[he];refine di (adV (Calls.evalArgs_plain ?_));have ha':=ha gO pins s σ H _ (I.m9 _) h;rw[show X.nox.env=X.env from rfl,he]at ha'
  refine rf ha' (λus s₁ ⟨vs,H1,I1,r,hz,q1⟩=>di (ad7 ?_)) λ_ _ z=>adw z
  have I1':=I1.eJ;have kC:=I1'.kIn _ _ l;obtain⟨mN,kN,kI⟩:=n.ns I1'.kIn;have T1:=T.tail I1'.kIn;have pl:(backTo gO ((false,eval e₀ X.env)::si rest X.env)).any (·.1)=false:=by
   show (false || (backTo gO (si rest X.env)).any (·.1))=false
   rw[hpl];rfl
  obtain⟨hp,g',d',tk,os'⟩:=s₁;simp only[pl];refine di (wpAny_keeperOf_exc kC ?_);refine di (Jk (F:=PySem.F.excBase_ValueError) T1 kC kN kI (by rw[List.nil_append,<-r.length];exact hz) λh' k ⟨tp,ke⟩=>di (adV (wpAny_point (kx ?_))))
  have I2:Inv X pins σ H1 ⟨h',g',d',tk,os'⟩:=I1'.kept (t':=tk) k;refine⟨_,none,_,#[],rfl,k _ _ kC,ke,σ,_,_,none,none,H1,rfl,I2,⟨I1'.yC (ad9 _) (I1'.hok.fresh (ad9 _)),_,_,ke,(by show 1 < 6;decide),rfl⟩,.inl rfl,q1⟩
 rw[arm_exec_Raise];have hb:bm.contains (.type "BaseException")=true:=(T.tail I.kIn).hasType (b:=true) (by trivial)
 first
  |exact di (ad7 (sj (C:=C) (nm:=nm) (q:=q) (N:=N) (bs:=bs) (bm:=bm) (hdct:=hdct) (sn:=sn) (sub:=sub) (ab:=ab) (col:=col) (dd:=dd) (k0:=k0) (k1:=k1) (k2:=k2) (k3:=k3) (k5:=k5) hb (I.ok.hd hc) (di (rf go (λv s₃ h₃=>di (ad7 (kx h₃))) λ_ _ z=>z))))
  | (simp only[evalOpt,Option.map];exact di (ad7 (sj (C:=C) (nm:=nm) (q:=q) (N:=N) (bs:=bs) (bm:=bm) (hdct:=hdct) (sn:=sn) (sub:=sub) (ab:=ab) (col:=col) (dd:=dd) (k0:=k0) (k1:=k1) (k2:=k2) (k3:=k3) (k5:=k5) hb (I.ok.hd hc) (di (rf go (λv s₃ h₃=>di (ad7 (kx h₃))) λ_ _ z=>z)))))
end
theorem AR {α β:Type}(f:α->β):∀(xs:List α) (n:Nat),(xs.eraseIdx n).map f=(xs.map f).eraseIdx n
 |[],_=>rfl
 |_::_,0=>rfl
 |x::xs,n+1=>by
  show f x::(xs.eraseIdx n).map f=f x::(xs.map f).eraseIdx n;rw[AR f xs n]
section
variable{X:Cx}{pos:Pos}
theorem Vals.insert {xs:List V}{us:List Value}(r:Vals xs us){y:V}{u:Value}(ry:RelV y u)(k:Nat):Vals (xs.take k++y::xs.drop k) (us.take k++u::us.drop k):=(r.take k).append (.cons ry (r.drop k))
def NX:V->List V->Hp->VK->Prop:=λx vs H Q=>∃(l:Addr) (xs:List V) (i:Int) (k:Nat) (y:V),x=.ref l/\vs=[.int i,y]/\i=(k:Int)/\H l=some (.lst xs)/\k<=xs.length/\xs.length < gn/\Q .non (upd H l (.lst (xs.take k++y::xs.drop k)))
theorem Jl:MtM X "list.insert" NX:=by
 intro pins s σ H x vs v us Q I rx rv h;obtain⟨l,xs,i,k,y,rfl,rfl,hi,hH,hk,hz,q⟩:=h;cases rx;obtain⟨u1,u2,rfl,r1,r2⟩:=rv.two;obtain⟨t,rfl⟩:=r1;obtain⟨z,its,n,r,hl,e⟩:=I.CQ hH;have lim:gn=16777216:=by decide
 have a2:its.toArray.size<=gn:=by rw[ku];omega
 have b:Builtin.List.listFitsIndex i=true:=fitsIndex_both (by omega) (by omega)
 have nb:¬(!Builtin.List.listFitsIndex i)=true:=by rw[b];decide
 refine call_meets F.slot_list_insert ⟨_,e,rfl⟩ F.entry_list_insert (F.args_list_insert_3 _ _ _) (AutoSeq1.list_insert_list_int_val_1 l its.toArray n i t u2 nb a2) ⟨e,?_⟩;refine⟨.non,_,I.KQ (its':=its.take k++u2::its.drop k) hH e ?_ (r.insert r2 k) ?_,rfl,q⟩
 ·show (its.toArray.extract 0 (if i < 0 then (i+(its.toArray.size:Int)).toNat else min i.toNat its.toArray.size)).push u2++its.toArray.extract (if i < 0 then (i+(its.toArray.size:Int)).toNat else min i.toNat its.toArray.size)=_
  have e1:(if i < 0 then (i+(its.toArray.size:Int)).toNat else min i.toNat its.toArray.size)=k:=by
   rw[ku,if_neg (by omega)]
   omega
  rw[e1];apply Array.toList_inj.mp;simp;exact List.take_of_length_le (by rw[aeF];omega)
 ·rw[kq,om,adW,aeF];omega
end
section
variable{X:Cx}{e:Expr}{te:TE}{y:Str}{j:Nat}{p1 p2 pos:Pos}
def tFR (K:cb)(te:TE)(y:Str):TE:=λσ H Q=>te σ H λx H1=>∃(a:Addr) (d:PyData),x=.ref a/\DV K H1 d x/\d.showable=true/\d.hasDict=false/\d.depth<=60/\d.shown.length+y.length<=gn/\∀z:Str,Q (.str z) H1
theorem len_app (a b:Str):(a++b).length=a.length+b.length:=by
 show (a.cps++b.cps).size=_;simp[Str.length]
theorem Wg (hg:X.A.guards=some [])(hu:X.A.units+64 < cLine)(he:PE X e te):PE X (.JoinedStr [.FormattedValue e 114 none p1,.Constant (.str y) j p2] pos) (tFR X.K te y):=by
 intro pins s σ H Q I h;refine wpAny_JoinedStr ?_;show Joins _ _ _ [eval (.FormattedValue e 114 none p1) X.env,eval (.Constant (.str y) j p2) X.env] _ _ _;refine wpAny_FormattedValue_repr (thn (he pins s σ H _ I h) λv s1 ⟨x,H1,I1,r1,a,d,e1,hd,sh,nd,dp,sz,q⟩=>?_)
 subst e1;obtain rfl:v=sr a:=r1;obtain⟨as,rd⟩:=DV.reads I1 d hd rfl;refine pyReprObj_of_reads (h₀:=s1.heap) rd sh (λz=>absurd z (by rw[nd];decide)) hg (by omega) (λ_ _ z=>z) (λh' u tk hk=>?_) (by omega)
 have I2:Inv X pins σ H1 { s1 with heap:=h',toks:=tk }:=I1.kept hk
 have emp:(adE++d.shown:Str)=d.shown:=by
  apply BE;rw[eB];rfl
 have go:∀(t:Tok) (s2:Shared),Inv X pins σ H1 s2->∃z t',Value.str d.shown t=.str z t'/\(adE++z).length<=gn/\Joins (model X.prog X.w) X.A X.xe [eval (.Constant (.str y) j p2) X.env] (adE++z) (λout s₁=>out.length<=gn/\EP X pins σ Q (.str out s₁.toks) { s₁ with toks:=s₁.toks+1 }) s2:=λt s2 I3=>by
  refine⟨_,_,rfl,by rw[emp];omega,Calls.Constant_str ⟨y,_,rfl,?_,?_⟩⟩
  ·rw[emp,len_app];omega
  ·refine⟨by rw[emp,len_app];omega,.str _,H1,(I3.tok _).tok _,⟨_,rfl⟩,q _⟩
 exact wpAny_formatField_str (go _ _ I2) (go _ _ (I2.tok _)) (by omega)
end
theorem Lp {K:cb}{a D:Addr}{xs:List V}{te:TE}{Q:VK}{σ:St}{H1:Hp}(Pv:Nat->List V->Hp->Prop)(h0:Pv 0 [] (upd H1 D (.lst [])))(hz:xs.length<=gn)
  (hl:∀i ys H2,i<=xs.length->Pv i ys H2->SqT K H2 a xs/\H2 D=some (.lst ys)/\ys.length=i)
  (hs:∀i x ys H2,xs[i]?=some x->Pv i ys H2->te (some x::σ) H2 (f7 D xs.length Pv i ys)) (hd:∀ys H2,Pv xs.length ys H2->Q (.ref D) H2) :
  yN (Itt K a) te σ D H1 Q:=by
 refine⟨λi m ys H=>m=xs.length - i/\i<=xs.length/\Pv i ys H,⟨xs.length,by simp,ad8 _,h0⟩,?_⟩
 rintro i m ys H2 ⟨rfl,hi,p⟩;obtain⟨q,q2,q3⟩:=hl i ys H2 hi p;refine⟨q2,?_⟩
 by_cases hlt:i < xs.length
 ·refine .inr ⟨⟨xs,xs[i],q,by simp[hlt]⟩,by omega,λx H3 y=>?_⟩
  obtain⟨e,y⟩:=y;subst e;exact hs i x ys _ (y xs q) p
 ·have e:i=xs.length:=by omega
  subst e;exact .inl ⟨⟨xs,q,km _⟩,hd ys H2 p⟩
theorem eQ {K:cb}{H H':Hp}{t:Addr}{xs:List V}(s:bT H H')(h:SqT K H t xs):SqT K H' t xs:=by
 rcases h with (h | ⟨o,h⟩) | h
 ·exact .inl (.inl (s _ _ h))
 ·exact .inl (.inr ⟨o,s _ _ h⟩)
 ·exact .inr h
end L2
namespace L2
open PySem PySem.Spec PySem.Calls PyProof.Rows
def Rc (n:Nat)(Cf:Nat->Addr)(m:Str)(spf:Nat->Sp)(E:XK)(ta:TE):TE:=λσ H Q=>ta σ H λx H1=>∃k,k < n/\∃a dx fs,x=.ref a/\H1 a=some (.ins (Cf k) dx fs)/\fs.lookup m=none/\spf k [x] H1 Q E
section
variable{X:Cx}{o:Expr}{ta:TE}{m:Str}{apos pos:Pos}{n:Nat}{Cf ff:Nat->Addr}{fdf:Nat->kb}{spf:Nat->Sp}{kk:Nat}{ps:List Str}{CX:CXT}{E:XK}
theorem md {pl:Sem Bool}(he:PE X o ta)(c:∀k,k < n->Cls X.K (Cf k))(hm:∀k,k < n->Meth X.K (Cf k) m (ff k))(F:∀k,k < n->a8 X.prog X.w X.K X.mg X.base CX kk (ff k) (fdf k) ps (spf k))(hr:Room kk X.A)(hb:∀k,k < n->Binds X.K (fdf k) ps [])
  (hx:Passes CX X E)
  (ht:eval (.Call (.Attribute o m apos) [] [] pos) X.env=(do
   let ov <-eval o X.env
   standAt apos.atName
   let (f,first) <-holding [ov] (getMethod ov m pl)
   callWith pos f first (backTo pos (si [] X.env)) (backToKw pos (keywordEach [] X.env))):=by rfl) :
  PE X (.Call (.Attribute o m apos) [] [] pos) (Rc n Cf m spf E ta):=by
 intro pins s σ H Q I h;refine ad6 (pl:=pl) (thn (he pins s σ H _ I h) λu s1 ⟨x,H1,I1,rx,k,hk,a,dx,fs,ex,ea,l,q⟩=>?_) ht
 subst ex;obtain rfl:u=sr a:=rx;refine jL I1 ea (c k hk) (hm k hk) l ?_;exact PySem.W.callWith_K0 (first:=[.ref a]) I1.kIn (hm k hk).kp (Bx (us:=[.ref a]) (vs:=[.ref a]) (dvs:=[]) (F k hk) hr (hb k hk) .nil hx I1 (.cons rfl .nil) q)
theorem Wh {P:ma}{w:World}{K:cb}{mg:Str->Option Value}{base:Heap}{CX:CXT}{k:Nat}{f:Addr}{fd:kb}{ps:List Str}{sp sp':Sp}(F:a8 P w K mg base CX k f fd ps sp)(G:a8 P w K mg base CX k f fd ps sp') :
  a8 P w K mg base CX k f fd ps (λvs H Q E=>sp vs H Q E\/sp' vs H Q E) :=
 ⟨λvs H Q E z=>z.elim (F.len vs H Q E) (G.len vs H Q E),λa b c H d e vs Q E p q r s z=>z.elim (F.run a b c H d e vs Q E p q r s) (G.run a b c H d e vs Q E p q r s)⟩
end
end L2
namespace L2
open PySem PySem.Spec PyProof.Rows
def vy (J:It)(tc:TT)(te:TE)(σ:St)(D:Addr)(H1:Hp)(Q:VK):Prop:=∃W:Nat->Nat->List V->Hp->Prop,(∃m,W 0 m [] (upd H1 D (.lst [])))/\∀i m ys H2,W i m ys H2 ->
 H2 D=some (.lst ys)/\((J.stop i H2/\Q (.ref D) H2)\/(J.go i H2/\ys.length < gn/\∀x H3,J.yld i H2 x H3->tc (some x::σ) H3 λb H4=>if b=true then te (some x::σ) H4 λy H5=>H5 D=some (.lst ys)/\∃m',m' < m/\W (i+1) m' (ys++[y]) (upd H5 D (.lst (ys++[y]))) else ∃m',m' < m/\W (i+1) m' ys H4))
def Lq (wi:TI)(tc:TT)(te:TE):TE:=λσ H Q=>wi σ H λJ H1=>∀D,H1 D=none->vy J tc te σ D H1 Q
section
variable{X:Cx}{pins:List (Addr×Obj)}{σ:St}{H:Hp}{s:Shared}{elt iter cnd:Expr}{x:Str}{px pos:Pos}{scope:Scope}{wi:TI}{tc:TT}{te:TE}{Q:VK}{M:List Str}
theorem F9 {cl:List (Str×Addr)}{RR:Value->Addr->Result->Shared->Prop}(S:dM scope X.env.scope x X.N M)(hc:X.calm=true)(hi:PI X (.Name x px) iter wi)
  (ht:∀cl C s H fp,PT (dW X x M scope cl C s H fp) cnd tc) (he:∀cl C s H fp,PE (dW X x M scope cl C s H fp) elt te) (I:Inv X pins σ H s) (h:Lq wi tc te σ H Q)
  (p1:∀n c,cl.lookup n=some c->X.env.cells.lookup n=some c) (p3:∀y∈scope.names,y.2=.free->(cl.lookup y.1).isSome=true)
  (hRR:∀D C H' s' o m,Inv X (pins++[(C,o)]) σ H' s'->s'.heap.get? C=some o->s'.heap.Ns C m->X.s₀.heap.objs.size<=C->(∀y c,X.env.cells.lookup y=some c->c≠C)->(∀p∈X.pn++pins,p.1≠C)->Q (.ref D) H'->RR (.ref D) C (.ok .next) s') :
  wpAny (model X.prog X.w) X.A (eval iter X.env) (λxv s₁=>wpAny (model X.prog X.w) X.A (pyIter xv) (λit s₂=>wpAny (model X.prog X.w) X.A (newList []) (λacc s₃ =>
   wpAny (model X.prog X.w) X.A (newFunctionEnv scope X.env.globals cl [] X.env.qual none .none (some X.env)) (λK8 s₄ =>
    codeAny (model X.prog X.w) X.A (.compStart (.ListComp elt [⟨.Name x px,iter,[cnd],0⟩] scope pos) 0 it acc { K8 with scope:=relabel scope X.env }) (RR acc K8.locals) s₄) X.xe s₃) X.xe s₂) X.xe s₁) X.xe s:=by
 refine thn (hi pins s σ H _ I h) λv s1 h1=>thn h1 λitv s2 h2=>?_
 obtain⟨it,fp,tn,J,H2,rfl,I2,T,st2,f2,q⟩:=h2;refine wpAny_newObj_type (wpAny_newFunctionEnv S.yM (by intro y hy;simp at hy) (λh₁ hns₁ hsb₁=>?_) S.kind)
 dsimp only at hns₁ hsb₁ ⊢;generalize hHH:s2.heap.push { cls:=.type "list",dict:=none,data:=.seq ([]:List Value).toArray }=HH at hns₁ hsb₁ ⊢;have hCs:HH.objs.size=s2.heap.objs.size+1:=by rw[<-hHH,aeE]
 have hDC:s2.heap.objs.size≠HH.objs.size:=by rw[hCs];exact tu (Nat.lt_succ_self _)
 have K9:s2.heap.objs.size<=HH.objs.size:=by rw[hCs];exact ad9 _
 have below:∀b,b < s2.heap.objs.size->b≠HH.objs.size:=λb hb=>by rw[hCs];exact tu (Nat.lt_succ_of_lt hb)
 have old:∀b o,s2.heap.get? b=some o->h₁.get? b=some o:=λb o e=>hsb₁.extBut b o (below b (ky e)) (gc _ (hHH▸gc _ e))
 have Jh:h₁.get? s2.heap.objs.size=some { cls:=.type "list",data:=.seq ([]:List Value).toArray }:=hsb₁.extBut _ _ hDC (gc _ (hHH▸tm _ rfl));have fo:∀b∈fp,b < s2.heap.objs.size:=λb hb=>by
  obtain⟨o,e,_⟩:=T.obj _ _ st2 b hb;exact ky e
 have IY:=CW (tk:=s2.toks+([]:List (Str×Value)).length) S I2 K9 (km _) hDC p1 p3 f2 fo old hns₁ Jh;have st1:tn 0 h₁:=T.keep _ _ _ st2 λb _ o e=>old b o e
 obtain⟨W,⟨m0,w0⟩,turn⟩:=q _ (I2.hok.fresh (km _));generalize hC:HH.objs.size=C at *;generalize hDD:s2.heap.objs.size=D at *;have ndY:(dW X x M scope cl C s2 H2 fp).N.Nodup:=by
  refine List.nodup_cons.mpr ⟨λhm=>S.nl x hm (lookup_relabel_local S.hx),S.ndM⟩
 have stat:∀ {H':Hp},(∀b∈fp,H' b=none)->∀b∈fp,jG (dW X x M scope cl C s2 H2 fp) [] H' b:=λhn b hb =>
  ⟨hn b hb,below b (fo b hb),IY.ok.CI b hb,.inl hb,λy c e=>(f2 b hb).2.2.2.2.1 y c (p1 y c e),λp hp=>absurd (show p∈([]:List (Addr×Obj)) from hp) (by simp)⟩
 have loop:codeAny (model X.prog X.w) X.A (.compLoop (.ListComp elt [⟨.Name x px,iter,[cnd],0⟩] scope pos) 0 (.ref it) (.ref D) (compEnvC scope cl C X.env)) (RR (.ref D) C) { s2 with heap:=h₁,toks:=s2.toks+([]:List (Str×Value)).length }:=by
  refine codeAny_compLoop_tests (λn s'=>∃i v0 ys H',Inv (dW X x M scope cl C s2 H2 fp) [] (v0::σ) H' s'/\tn i s'.heap/\(∀b∈fp,H' b=none)/\W i n ys H') ?_ m0 ⟨0,none,[],_,IY,st1,λb hb=>?_,w0⟩
  ·rintro n s3 ⟨i,v0,ys,H3,I3,st3,fr3,w3⟩;obtain⟨hDl,hw⟩:=turn i n ys H3 w3;rcases hw with ⟨stop,qn⟩ | ⟨go,hsz,step⟩
   ·refine thn (T.done (dW X x M scope cl C s2 H2 fp) rfl rfl rfl hc i [] s3 _ H3 _ I3 (stat fr3) st3 stop) λr s4 ⟨hr,I4⟩=>?_
    subst hr;obtain⟨m4,hn4,_⟩:=I4.loc;obtain⟨oC,es4,ep4,e4,r4⟩:=id hn4;have La:s2.heap.objs.size<=C:=by rw[hDD];exact K9
    have IX:Inv X pins σ H3 s4:=I2.HU (ch:=fp) I4.os I4.base I4.hok I4.bare λb hb=>⟨(f2 b hb).2.2.2.1,(f2 b hb).2.1,(f2 b hb).2.2.2.2.1,(f2 b hb).2.2.2.2.2⟩
    have fC:=I2.yC (H':=H3) La I4.free;have IX2:Inv X (pins++[(C,oC)]) σ H3 s4:=IX.yo λp hp=>(List.mem_append.mp hp).elim (λz=>IX.pin p (gp _ z)) λz=>by
     have e:p=(C,oC):=by simpa using z
     subst e;exact⟨e4,fC.1,fC.2.1,fC.2.2.1,λv z=>by rw[r4.1]at z;cases z⟩
    exact hRR D C H3 s4 oC m4 IX2 e4 hn4 (me I2.sz La) fC.2.2.2.2.1 fC.2.2.2.2.2 qn
   ·refine thn (T.item (dW X x M scope cl C s2 H2 fp) rfl rfl rfl hc i [] s3 _ H3 _ I3 (stat fr3) st3 go) λr s4 ⟨u,hr,h4⟩=>?_
    subst hr;have e0:∀k:Sem Unit,(letOwnedTupleGo (.Name x px) (.ref it) u >>= λ_=>k)=k:=λk=>by
     rw[show letOwnedTupleGo (.Name x px) (.ref it) u=pure () from rfl,pure_bind]
    show wpAny _ _ (assign (.Name x px) (compEnvC scope cl C X.env) u) _ _ s4;rw[<-e0 (assign (.Name x px) (compEnvC scope cl C X.env) u)];refine di (thn h4 λ_ s5 ⟨xv,H5,I5,r5,y5,st5,fr5⟩=>?_)
    have I5':=I5.pinned (stat fr5) (T.obj _ _ st5);have hxl:(dW X x M scope cl C s2 H2 fp).env.scope.names.lookup x=some .local:=lookup_relabel_local S.hx;refine wpAny_assign_Name (oE (X:=dW X x M scope cl C s2 H2 fp) (i:=0) I5' ndY rfl (wt hxl) r5 (λs6 I6=>?_) (.inr hxl))
    refine wpAny_tests_one (rf (ht cl C s2 H2 fp _ s6 _ H5 _ I6 (step xv H5 y5)) (λb s6' ⟨H6,I6',hb⟩=>?_) (λ_ _ f=>f.elim))
    cases b with
    |true =>
     rw[if_pos rfl];have hb':=(if_pos rfl).mp hb;refine rf (he cl C s2 H2 fp _ s6' _ H6 _ I6' hb') (λy s7 ⟨yv,H7,I7,r7,hD7,m',hm',w7⟩=>?_) (λ_ _ f=>f.elim)
     refine rf (gi (X:=dW X x M scope cl C s2 H2 fp) _ s7 _ H7 (.ref D) [yv] (.ref D) [y] (λ_ H8=>H8=upd H7 D (.lst (ys++[yv]))) I7 rfl (.cons r7 .nil) ⟨D,ys,yv,rfl,rfl,hD7,hsz,rfl⟩)
      (λ_ s8 ⟨_,H8,I8,_,e8⟩=>?_) (λ_ _ f=>f.elim)
     subst e8;refine⟨m',hm',i+1,some xv,ys++[yv],_,I8.fv,T.keep _ _ _ st5 λb hb o e=>(I8.pin (b,o) (gp _ (gp _ (eY hb e)))).1,λb hb=>?_,w7⟩
     obtain⟨o,e,d⟩:=T.obj _ _ st5 b hb;exact(I8.pin (b,o) (gp _ (gp _ (eY hb e)))).2.1
    |false =>
     rw[if_neg ki];rw[if_neg ki]at hb;obtain⟨m',hm',w7⟩:=hb;refine⟨m',hm',i+1,some xv,ys,_,I6'.fv,T.keep _ _ _ st5 λb hb o e=>(I6'.pin (b,o) (gp _ (gp _ (eY hb e)))).1,λb hb=>?_,w7⟩
     obtain⟨o,e,d⟩:=T.obj _ _ st5 b hb;exact(I6'.pin (b,o) (gp _ (gp _ (eY hb e)))).2.1
  ·show (upd H2 D (.lst [])) b=none;rw[aw (tu (fo b hb))];exact(f2 b hb).1
 exact codeAny_compStart_list loop (T.self _ 0 _ _ _ st1 loop)
theorem C2 (S:dM scope X.env.scope x X.N M)(hc:X.calm=true)(hi:PI X (.Name x px) iter wi)(ht:∀cl C s H fp,PT (dW X x M scope cl C s H fp) cnd tc)(he:∀cl C s H fp,PE (dW X x M scope cl C s H fp) elt te)
  (hs:∀x,foldedSetIterable iter X.env x=pure x:=by intro _;rfl):PE X (.ListComp elt [⟨.Name x px,iter,[cnd],0⟩] scope pos) (Lq wi tc te):=by
 intro pins s σ H Q I h;obtain⟨cl,CY,p1,p3⟩:=vv (scope:=scope) (env:=X.env) (λy hy hf=>I.ok.has y.1 (.inl (S.free y hy hf)))
 rw[eval_ListComp];refine wpAny_comprehension_free (use:=none) rfl hs CY S.kind S.names (F9 (RR:=λacc C=>compPost (model X.prog X.w) X.A X.xe none (EP X pins σ Q) acc C) S hc hi ht he I h p1 p3 ?_)
 intro D C H' s' o m I' e hn h0 h1 h2 q;refine⟨m,hn,λh' hs'=>?_⟩
 have pC:=I'.pin (C,o) (gp _ (gp _ (by simp)))
 have IX:Inv X pins σ H' s':=I'.fv;exact⟨.ref D,H',IX.turned (t':=s'.toks) (λb ob hb e=>(hs'.2 b hb).trans e) pC.2.1 pC.2.2.1 (.inr h0) h1 h2,rfl,q⟩
end
end L2
namespace L2
open PySem PySem.Spec PySem.Calls PyProof.Rows
def KeysAre:List aea->List Str->Prop
 |[],ns=>ns=[]
 |e::r,ns=>∃x xs t,ns=x::xs/\e.key=.str x t/\KeysAre r xs
structure Im (P:Params)(K:cb)(a:Addr)(ns:List Str):Prop where
 ex:∃es n,K.lookup a=some ⟨.type "dict",none,.dict es n,#[]⟩/\PySem.W.KeysLit P es.toList/\KeysAre es.toList ns
 nd:ns.Nodup
 lo:(a == aeu)=false
theorem Ga {prog:ma}{w:World}:∀(es:List aea) (ns:List Str),PySem.W.KeysLit w.params es->KeysAre es ns->∃kvs:List (Str×Value),Pairs (strKind prog w) es kvs/\kvs.map (·.1)=ns:=by
 intro es
 induction es with
 |nil =>
  intro ns _ h;have h':ns=[]:=h;subst h';exact⟨[],by first | exact .nil | exact trivial | exact rfl | constructor,rfl⟩
 |cons e r ih =>
  rintro ns ⟨⟨x,t,e1,e2⟩,hk⟩ ⟨y,ys,t',rfl,e3,hr⟩;obtain⟨kvs,h1,h2⟩:=ih ys hk hr;rw[e1]at e3;injection e3 with e4 _
  subst e4;exact⟨(x,e.val)::kvs,.cons (by rw[e1];exact strKind_is prog w x t) rfl h1,by rw[kg,h2]⟩
theorem Im.at {prog:ma}{w:World}{K:cb}{a:Addr}{ns:List Str}(T:Im w.params K a ns):∃(kvs:List (Str×Value)) (n:Nat),kvs.map (·.1)=ns/\∀h:Heap,K.In h->h.DictAt (strKind prog w) a kvs n:=by
 obtain⟨es,n,hl,hk,ha⟩:=T.ex;obtain⟨kvs,h1,h2⟩:=Ga (prog:=prog) es.toList ns hk ha;refine⟨kvs,n,h2,λh X=>⟨_,es,X _ _ hl,⟨rfl,rfl,rfl⟩,rfl,λe he=>?_,h1,by rw[h2];exact T.nd⟩⟩
 obtain⟨x,t,e1,e2⟩:=hk.all e (Array.mem_toList_iff.mpr he);exact⟨x,by rw[e1];exact strKind_is prog w x t,e2⟩
def oI (n:Nat)(Pv:Nat->List V->Hp->Prop)(i:Nat)(ys:List V)(H4:Hp):Prop:=∃m',m' < n - i/\m'=n - (i+1)/\i+1<=n/\Pv (i+1) ys H4
theorem oI.mk {n:Nat}{Pv:Nat->List V->Hp->Prop}{i:Nat}{ys:List V}{H4:Hp}(hi:i < n)(h:Pv (i+1) ys H4):oI n Pv i ys H4:=⟨n - (i+1),by omega,rfl,hi,h⟩
end L2
namespace L2
open PySem PySem.Spec PyProof.Rows
def Itz (x:Str):It:=⟨λi _=>i < x.cps.size,λi H v H'=>H'=H/\∃c,x.cps[i]?=some c/\v=.str ⟨#[c]⟩,λi _=>x.cps.size<=i⟩
theorem Jm {P:ma}{w:World}{K:cb}{tg:Expr}(it:Addr)(x:Str)(t:Tok):Turn P w K tg (Itz x) [it] it (λi h=>h.IsStrIter it "str_ascii_iterator" x t i) where
 mem:=by simp
 obj:=λi h st b hb=>by
  have e:b=it:=by simpa using hb
  subst e;obtain⟨o,e,c,d⟩:=st;exact⟨o,e,λv z=>by rw[d]at z;cases z⟩
 keep:=λi h h' st k=>let ⟨o,e,r⟩:=st;⟨o,k it (by simp) o e,r⟩
 item:=by
  intro X hP hw hK hc i pins s σ H E I hf st hg;subst hP hw hK;obtain⟨f0,f1,f2,f3,f4,f5⟩:=hf it (by simp)
  have hg':i < x.cps.size:=hg;refine wpAny_pyNext_ascii_item st (c:=x.cps[i]) (by simp[hg']) λh' st' sb=>?_
  have I1:Inv X pins σ H { s with heap:=h',toks:=s.toks+1 }:=I.turned (λb o hb e=>(sb.2 b hb).trans e) f0 f1 f3 f4 f5
  obtain⟨o,e,c,d⟩:=id st';exact⟨_,rfl,CK (s:={ s with heap:=h',toks:=s.toks+1 }) e c d (by decide) ⟨.str ⟨#[x.cps[i]]⟩,H,I1,⟨_,rfl⟩,⟨rfl,_,by simp[hg'],rfl⟩,st',λb hb=>(hf b hb).1⟩⟩
 done:=by
  intro X hP hw hK hc i pins s σ H E I hf st hg;subst hP hw hK;obtain⟨f0,f1,f2,f3,f4,f5⟩:=hf it (by simp)
  have hg':x.cps.size<=i:=hg;exact wpAny_pyNext_ascii_end (I.ok.hd hc) st (by simp[hg']) λh' eb=>⟨rfl,I.turned (t':=s.toks) (λb o hb e=>eb b o hb e) f0 f1 f3 f4 f5⟩
 self:=λ_ _ _ _ _ st h=>wpAny_pyIter_striter_ascii st h
theorem Jn {P:ma}{w:World}{K:cb}{tg:Expr}(it:Addr)(x:Str)(t:Tok):Turn P w K tg (Itz x) [it] it (λi h=>h.IsStrIter it "str_iterator" x t i) where
 mem:=by simp
 obj:=λi h st b hb=>by
  have e:b=it:=by simpa using hb
  subst e;obtain⟨o,e,c,d⟩:=st;exact⟨o,e,λv z=>by rw[d]at z;cases z⟩
 keep:=λi h h' st k=>let ⟨o,e,r⟩:=st;⟨o,k it (by simp) o e,r⟩
 item:=by
  intro X hP hw hK hc i pins s σ H E I hf st hg;subst hP hw hK;obtain⟨f0,f1,f2,f3,f4,f5⟩:=hf it (by simp)
  have hg':i < x.cps.size:=hg;refine wpAny_pyNext_wide_item st (c:=x.cps[i]) (by simp[hg']) λh' st' sb=>?_
  have I1:Inv X pins σ H { s with heap:=h',toks:=s.toks+1 }:=I.turned (λb o hb e=>(sb.2 b hb).trans e) f0 f1 f3 f4 f5
  obtain⟨o,e,c,d⟩:=id st';exact⟨_,rfl,CK (s:={ s with heap:=h',toks:=s.toks+1 }) e c d (by decide) ⟨.str ⟨#[x.cps[i]]⟩,H,I1,⟨_,rfl⟩,⟨rfl,_,by simp[hg'],rfl⟩,st',λb hb=>(hf b hb).1⟩⟩
 done:=by
  intro X hP hw hK hc i pins s σ H E I hf st hg;subst hP hw hK;obtain⟨f0,f1,f2,f3,f4,f5⟩:=hf it (by simp)
  have hg':x.cps.size<=i:=hg;exact wpAny_pyNext_wide_end (I.ok.hd hc) st (by simp[hg']) λh' eb=>⟨rfl,I.turned (t':=s.toks) (λb o hb e=>eb b o hb e) f0 f1 f3 f4 f5⟩
 self:=λ_ _ _ _ _ st h=>wpAny_pyIter_striter_wide st h
section
variable{X:Cx}{tg:Expr}
def abl (tl:TE):TI:=λσ H R=>tl σ H λx H1=>∃z,x=.str z/\R (Itz z) H1
theorem Rf {l:Expr}{tl:TE}(hl:PE X l tl):PI X tg l (abl tl):=by
 intro pins s σ H R I h;refine thn (hl pins s σ H _ I h) λv s1 ⟨x,H1,I1,r1,z,e,q⟩=>?_
 subst e;obtain⟨t,rfl⟩:=r1;have fp:∀b∈[s1.heap.objs.size],jG X pins H1 b:=λb hb=>by
  have e:b=s1.heap.objs.size:=by simpa using hb
  subst e;exact I1.yC (km _) (I1.hok.fresh (km _))
 cases ha:z.cps.all (· < 128)
 ·exact wpAny_pyIter_wide ha ⟨s1.heap.objs.size,[s1.heap.objs.size],_,_,H1,rfl,I1.kept (t':=s1.toks) λb o e=>gc _ e,Jn _ z t,⟨_,tm _ rfl,rfl,rfl⟩,fp,q⟩
 ·exact wpAny_pyIter_ascii ha ⟨s1.heap.objs.size,[s1.heap.objs.size],_,_,H1,rfl,I1.kept (t':=s1.toks) λb o e=>gc _ e,Jm _ z t,⟨_,tm _ rfl,rfl,rfl⟩,fp,q⟩
end
inductive Rg:List Expr->List Str->Prop
 |nil:Rg [] []
 |cons {x:Str} {j:_} {p:Pos} {es:List Expr} {ss:List Str}:Rg es ss->Rg (.Constant (.str x) j p::es) (x::ss)
structure yP (scope outer:Scope)(xs N M:List Str):Prop where
 kind:scope.kind=.function
 K6:outer.kind=.function
 yM:∀y∈scope.names,y.2≠.cell
 names:∀y∈scope.names,y.2=.local->scope.names.lookup y.1=some .local
 hx:∀x∈xs,scope.names.lookup x=some .local
 free:∀y∈scope.names,y.2=.free->outer.names.lookup y.1=some .cell
 nl:∀n∈M,(f6 scope outer).names.lookup n≠some .local
 nd2:(xs++M).Nodup
 nd:N.Nodup
 len:M.length=N.length
 rel:∀i:Nat,i < N.length->M[i]?=N[i]?\/M[i]?=some adE
 em:(f6 scope outer).names.lookup adE=none
theorem yP.mem {scope outer:Scope}{xs:List Str}{N M:List Str}(S:yP scope outer xs N M){n:Str}{k:NameKind}(h:(f6 scope outer).names.lookup n=some k)(hk:k=.cell\/k=.free) :
  k=.cell/\(n,aek)∈scope.names/\outer.names.lookup n=some .cell:=by
 obtain⟨⟨n',k'⟩,hm,e⟩:=List.mem_map.mp (aef h);dsimp only at e
 by_cases hc:(k' == aek && outer.kind == .function && outer.names.lookup n' == some .cell)=true
 ·rw[if_pos hc]at e;injection e with e1 e2
  subst e1 e2;rw[adO,adO]at hc;have hk':k'=.free:=beq_iff_eq.mp hc.1.1;subst hk';exact⟨rfl,hm,beq_iff_eq.mp hc.2⟩
 ·rw[if_neg hc]at e;injection e with e1 e2
  subst e1 e2;rcases hk with z | z
  ·exact absurd z (S.yM _ hm)
  ·subst z
   exfalso
   refine hc ?_;rw[S.free _ hm rfl,S.K6];rfl
abbrev TJ:=St->Hp->Str->(Str->Hp->Prop)->Prop
def PJ (X:Cx)(es:List Expr)(t:TJ):Prop :=
 ∀(pins:List (Addr×Obj)) (s:Shared) (σ:St) (H:Hp) (acc:Str) (Q:Str->Hp->Prop),Inv X pins σ H s->t σ H acc Q ->
  Joins (model X.prog X.w) X.A X.xe (evalEach es X.env) acc (λout s1=>∃H1,Inv X pins σ H1 s1/\out.length<=gn/\Q out H1) s
theorem Joins.mono {M:Model}{A:Around}{E:Value->Shared->Prop}{Q Q':Str->Shared->Prop}(hQ:∀o s,Q o s->Q' o s):∀ {ps:List (Sem Value)} {acc:Str} {s:Shared},Joins M A E ps acc Q s->Joins M A E ps acc Q' s
 |[],_,_,h=>hQ _ _ h
 |_::_,_,_,h=>rf h (λ_ _ ⟨y,t,e,l,r⟩=>⟨y,t,e,l,Joins.mono hQ r⟩) λ_ _ z=>z
inductive C3:V->Str->Prop
 |int {i:Int}:i.natAbs.log2 < 1920->C3 (.int i) (toString i)
 |str {x:Str}:C3 (.str x) x
section
variable{X:Cx}{e:Expr}{es:List Expr}{te:TE}{t:TJ}{y:Str}{j:Nat}{p1 p2 pos:Pos}
theorem tF:PJ X [] (λ_ H acc Q=>acc.length<=gn/\Q acc H):=λ_ _ _ H _ _ I h=>⟨H,I,h.1,h.2⟩
theorem kL (h:PJ X es t):PJ X (.Constant (.str y) j p1::es) (λσ H acc Q=>(acc++y).length<=gn/\t σ H (acc++y) Q):=by
 intro pins s σ H acc Q I hw;show wpAny _ _ (eval (.Constant (.str y) j p1) X.env) _ _ s;exact Calls.Constant_str ⟨y,_,rfl,hw.1,h pins _ σ H _ Q (I.tok _) hw.2⟩
theorem tG (he:PE X e te)(h:PJ X es t):PJ X (.FormattedValue e (-1) none p1::es) (λσ H acc Q=>te σ H λx H1=>∃z,C3 x z/\z.length<=gn/\(acc++z).length<=gn/\t σ H1 (acc++z) Q):=by
 intro pins s σ H acc Q I hw;show wpAny _ _ (eval (.FormattedValue e (-1) none p1) X.env) _ _ s;refine wpAny_FormattedValue_plain (thn (he pins s σ H _ I hw) λv s1 ⟨x,H1,I1,r1,z,fz,l1,l2,q⟩=>?_)
 cases fz with
 |int hl =>
  obtain⟨tk,rfl⟩:=r1;exact wpAny_formatField_int hl ⟨_,_,rfl,l2,h pins _ σ H1 _ Q ((I1.tok _).tok _) q⟩
 |str =>
  obtain⟨tk,rfl⟩:=r1;exact wpAny_formatField_str ⟨_,_,rfl,l2,h pins _ σ H1 _ Q I1 q⟩ ⟨_,_,rfl,l2,h pins _ σ H1 _ Q (I1.tok _) q⟩ l1
theorem yQ {e₂:Expr}(h:PJ X (e::e₂::es) t):PE X (.JoinedStr (e::e₂::es) pos) (λσ H Q=>t σ H adE λz H1=>Q (.str z) H1):=by
 intro pins s σ H Q I hw;refine wpAny_JoinedStr ?_;have:=h pins s σ H adE _ I hw;refine Joins.mono ?_ this;rintro out s1 ⟨H1,I1,l,q⟩;exact⟨l,.str out,H1,I1.tok _,⟨_,rfl⟩,q⟩
end
def xi (a C:Addr)(xd:Option Addr):HO:=.ext λh=>∃a0:Addr,h.get? a=some ⟨.ref C,xd,.fields #[.ref a0,.none,.none,.none,.bool false,.none],#[]⟩
section
variable{P:ma}{w:World}{H:Hp}{h:Heap}{a C:Addr}{xd:Option Addr}
theorem Lr {a0:Addr}(e:h.get? a=some ⟨.ref C,xd,.fields #[.ref a0,.none,.none,.none,.bool false,.none],#[]⟩):fq P w H h a (xi a C xd) :=
 ⟨⟨a0,e⟩,⟨_,e⟩,λ_ _ ⟨b,z⟩ k=>⟨b,k _ z⟩⟩
theorem Ls (x:fq P w H h a (xi a C xd)):∃a0:Addr,h.get? a=some ⟨.ref C,xd,.fields #[.ref a0,.none,.none,.none,.bool false,.none],#[]⟩:=x.1
end
structure Pj (K:cb)(D:Addr):Prop where
 rd:PySem.W.readsIn K D (.type "type")=true
 sp:aez K (.ref D) "__getattribute__"=some (some (.builtin "type.__getattribute__"))
 fc:PySem.W.findCls K (.ref D) (.type "type") "__init__"=some (.val (.builtin "ValueError.__init__"))
structure BL (K:cb)(N f:Addr):Prop where
 ex:∃(c:Value) (dd:Option Addr) (es:Array aea) (n:Nat) (sl:Array (Option Value)),K.lookup N=some ⟨c,dd,.dict es n,sl⟩/\strKeys es=true
 at_:fe K N "__init__"=some (some (.ref f))
theorem BL.ns {K:cb}{N f:Addr}(x:BL K N f){h:Heap}(X:K.In h):∃mN,h.Ns N mN/\mN "__init__"=some (.ref f):=by
 obtain⟨⟨c,dd,es,n,sl,l,sk⟩,no⟩:=x;have ns:h.Ns N (nsFind es):=⟨_,es,n,X _ _ l,rfl,λe he=>by
  have z:=List.all_eq_true.mp sk e (Array.mem_toList_iff.mpr he);cases hk:e.key with
  |str y t=>exact⟨y,t,rfl⟩
  |_=>rw[hk]at z;exact absurd z ki,λ_=>rfl⟩
 refine⟨_,ns,?_⟩;unfold fe at no;rw[l]at no;dsimp only at no;unfold nsFind findBy;rw[<-Array.find?_toList];cases hf:es.toList.find? (λe=>e.key.isStr "__init__") with
 |none =>
  rw[hf]at no;dsimp only at no
  by_cases q:es.toList.any (·.refKey)=true
  ·rw[if_pos q]at no;cases no
  ·rw[if_neg q]at no;cases no
 |some e=>rw[hf]at no;exact adq no
structure BM (K:cb)(C f:Addr)(name:Str):Prop where
 ex:∃(nm q:Str) (N:Addr) (bs bm:List Value) (hdct:Bool) (sn:List Str) (sub:List Value) (ab:Bool) (col:Option Bool) (dd:Option Addr) (k0 k1 k2 k3 k5:Option Value),
  K.lookup C=some (adL nm q C N bs bm hdct sn sub ab col dd k0 k1 k2 k3 k5 "ValueError.__new__")/\jh K bm/\hdct=true/\BL K N f
 fn:ko K (.ref f)=true
 sa:bo K (.ref C) "__setattr__"=some (some (.builtin "object.__setattr__"))
 na:bo K (.ref C) name=some none
section
variable{X:Cx}{pins:List (Addr×Obj)}{σ:St}{H:Hp}{s:Shared}{C f:Addr}{name:Str}
theorem jh.pass {K:cb}{bm:List Value}(x:jh K bm)(self:Value):refuseLoop self "__setattr__" bm=pure ():=by
 induction x with
 |base=>exact PySem.F.store_ValueError.passes self
 |own _ _ _ ih=>rw[refuseLoop_ref];exact ih
theorem Gb {xk:BM X.K C f name}:iz X (.builtin "ValueError.__init__") (λxs H Q=>∃ea v,xs=[.ref ea,v]/\H ea=some (xi ea C none)/\Q .non H):=by
 intro pins s σ H xs us Q I r h;obtain⟨ea,v,rfl,hx,q⟩:=h;obtain⟨nm,qn,N,bs,bm,hdct,sn,sub,ab,col,dd,k0,k1,k2,k3,k5,l,T,hd,hi⟩:=xk.ex;obtain⟨u,u2,rfl,rx,rv⟩:=vals2 r;cases rx;obtain⟨a0,e⟩:=Ls (P:=X.prog) (w:=X.w) (I.hok _ _ hx);have kC:=I.kIn _ _ l;have T1:=T.tail I.kIn;have F:=PySem.F.excBase_ValueError;have ha:X.A.handled=X.A.handled:=rfl;obtain⟨hp,g,d,tk,os⟩:=s;dsimp only at e kC T1;refine wpAny_call (codeAny_call_builtin F.init.plain F.initEntry (wpAny_check_init_subT F T1 kC e rfl ?_))
 wp_walk
 have hE:ea≠hp.objs.size:=tu (ky e);have e1:(hp.push { cls:=.type "tuple",data:=.seq #[u2] }).get? ea=_:=gc _ e;have k:∀b o,b≠ea->hp.get? b=some o->((hp.push { cls:=.type "tuple",data:=.seq #[u2] }).update ea (aeb λx=>x.setIfInBounds 0 (.ref hp.objs.size))).get? b=some o:=λb o hb q =>
  (adS _ _ (adz hb)).trans (gc _ q)
 have e2:((hp.push { cls:=.type "tuple",data:=.seq #[u2] }).update ea (aeb λx=>x.setIfInBounds 0 (.ref hp.objs.size))).get? ea=some ⟨.ref C,none,.fields #[.ref hp.objs.size,.none,.none,.none,.bool false,.none],#[]⟩:=aeg _ e1 rfl
 have un:upd H ea (xi ea C none)=H:=by
  funext b
  by_cases z:b=ea
  ·rw[z,ah,hx]
  ·rw[aw z]
 have I2:=I.write (x:=ea) (e:=ea) (o:=xi ea C none) (t':=tk) (by rw[hx];exact aeJ) (.inl rfl) k ⟨_,e2⟩ (Lr e2)
 rw[un]at I2;exact⟨.non,H,I2,rfl,q⟩
end
end L2
namespace L2
open PySem PySem.Spec PyProof.Rows PySem.Builtin PySem.Builtin.ObjectAttr
section
variable{prog:ma}{w:World}{A:Around}{E:Value->Shared->Prop}{K:cb}{x C f:Addr}{name:Str}{v:Value}
theorem Lu {s:Shared}{vs:Array Value}{sl:Array (Option Value)}{Q:Unit->Shared->Prop}(X:K.In s.heap)(xk:BM K C f name)(hx:s.heap.get? x=some ⟨.ref C,none,.fields vs,sl⟩)
  (h:∀h' tk,h'.get? x=some ⟨.ref C,some s.heap.objs.size,.fields vs,sl⟩->h'.Ns1 s.heap.objs.size (λy=>if y=name then some v else none)->(∀b o,b≠x->s.heap.get? b=some o->h'.get? b=some o) ->
   Q () { s with heap:=h',toks:=tk }):wpAny (model prog w) A (setAttr (.ref x) name v) Q E s:=by
 obtain⟨nm,qn,N,bs,bm,hdct,sn,sub,ab,col,dd,k0,k1,k2,k3,k5,l,T,hd,hi⟩:=xk.ex;subst hd;obtain⟨hp,g,d,tk,os⟩:=s;dsimp only at hx h X;have J:ael hp x ⟨.ref C,none,.fields vs,sl⟩ C none:=⟨hx,rfl,rfl,trivial⟩;have SF:=PySem.F.store_object;have kC:=X _ _ l;have hT:=T.tail X;have hob:(sr C::bm).contains (.type "object")=true:=by rw[List.contains_cons,hT.hasType (b:=true) (by trivial),Bool.or_true]
 have pass:refuseLoop (.ref x) "__setattr__" (.ref C::bm)=pure ():=by rw[refuseLoop_ref];exact T.pass _
 refine PySem.W.set_plain X J xk.sa ?_;have sb:PySem.W.Looks (model prog w) hp (isInstance (.ref x) (.type "object")) true:=J.type.andThen (PySem.W.looks_mroIn X (by unfold adu adH;rw[l];simpa using hob))
 refine codeAny_call_builtin SF.slot.plain SF.entry (@PySem.W.check_slot (model prog w) _ _ ⟨hp,g,d,tk+1,os⟩ "object.__setattr__" "object" "__setattr__" (.ref x) [.str name tk,v] [] _ SF.kind SF.split sb (SF.args (.ref x) (.str name tk) v) ?_);have hm:PySem.W.Looks (model prog w) hp (mroOf (.ref C)) (.ref C::bm):=(PySem.W.looks_clsIn X (by unfold adH;rw[l])).andThen .now
 rw[PySem.W.osa_eq,refuse_eq];refine di (di ((J.type (M:=model prog w)).at (di (hm.at ?_))));rw[pass];refine kx (di ((J.type (M:=model prog w)).at (di ((aey X xk.na).at (di ((show PySem.W.Looks (model prog w) hp (storeTaker? none) none from .now).at ?_))))))
 have hxs:x≠hp.objs.size:=tu (ky hx);obtain⟨cd,hcl,hdd⟩:∃cd,adH K C=some cd/\cd.hasDict=true:=⟨_,by unfold adH;rw[l],rfl⟩
 refine di (kx (di (di (wpAny_loadPart hx (di ((PySem.W.looks_clsIn X hcl).at ?_))))));rw[hdd];have hx₁:(hp.push { cls:=.type "dict",data:=.dict #[] }).get? x=some _:=gc _ hx;refine di (wpAny_alloc' ?_);refine di (wpAny_update' hx₁ ?_);refine kx ?_;have hgd:((hp.push { cls:=.type "dict",data:=.dict #[] }).update x λo=>{ cls:=o.cls,dict:=some hp.objs.size,data:=o.data,slots:=o.slots }).get? hp.objs.size
   = some { cls:=.type "dict",data:=.dict #[] } :=
  (Heap.get?_update_ne _ _ _ _ hxs.symm).trans (Heap.get?_push_at rfl rfl)
 have hnd:((hp.push { cls:=.type "dict",data:=.dict #[] }).update x λo=>{ cls:=o.cls,dict:=some hp.objs.size,data:=o.data,slots:=o.slots }).Ns hp.objs.size (λ_=>none) :=
  ⟨_,#[],_,hgd,rfl,λe he=>absurd he (by simp),λ_=>rfl⟩
 show wpAny _ _ (storeInDict hp.objs.size (.str name tk) name v) _ _ _;unfold storeInDict newKeyGuard;refine di (kx (di (wpAny_nsSet1 (Heap.Ns1.of_empty hnd) λh' hn' hs=>?_)))
 obtain⟨oD,esD,epD,hoD,hdD,hcD⟩:=hn'.count (Within.cons name v Within.nil);refine di (wpAny_lookBehind hoD (by rw[hdD];exact pastItsLine_dict (me hcD (by rw[om,List.length_nil,sizeLine_eq];omega))) ?_)
 refine kx (h h' _ ?_ hn' λb ob hbx hb=>(hs.2 b (tu (ky hb))).trans ((Heap.get?_update_ne _ _ _ _ hbx).trans (gc _ hb)))
 exact(hs.2 x hxs).trans (aeg _ hx₁ rfl)
end
end L2
namespace L2
open PySem PySem.Spec PyProof.Rows
section
variable{prog:ma}{w:World}{A:Around}{E:Value->Shared->Prop}{h:Heap}{g:Array GenState}{d:Drawn}{t:Nat}{os:OsState}
variable{nm q:Str}{C N fI:Addr}{bs bm bmB:List Value}{hdct:Bool}{sn:List Str}{sub:List Value}{ab:Bool}{col:Option Bool}{dd:Option Addr}{k0 k1 k2 k3 k5:Option Value}{B nid iid:String}{K:cb}
theorem Jo (X:K.In h)(F:ExcBaseFacts B nid iid bmB)(T:OwnTail h bmB bm){mN:Str->Option Value}{us:List Value}{Q:Fin->Shared->Prop}
  (kC:h.get? C=some (adL nm q C N bs bm hdct sn sub ab col dd k0 k1 k2 k3 k5 nid)) (kN:h.Ns N mN) (kI:mN "__init__"=some (.ref fI)) (hf:PySem.W.typeIn K (.ref fI)=some (.type "function")) (hz:us.length<=gn)
  (hq:wpAny (model prog w) A (call (.ref fI) (.ref (h.objs.size+1)::us)) (λr s'=>r=.none/\Q (.done (.ret (.ref (h.objs.size+1)))) s') E ⟨nA h C us,g,d,t,os⟩) :
  wpAny (model prog w) A (Builtin.«type.__call__» ⟨.ref C::us,[]⟩) Q E ⟨h,g,d,t,os⟩:=by
 repeat (first | with_reducible refine wpAny_loadPart_at kC ?_ | with_reducible refine wpAny_madeBy_exc kC ?_ | wp_step)
 refine codeAny_call_builtin_code (Code.quiet_builtin _ F.quiet) (wpAny_check_new_subT F T kC (codeAny_exc_new_subT F T kC ?_ hz));show wpAny _ _ _ _ _ _;have kC1:(nA h C us).get? C=_:=gj kC;have kN1:(nA h C us).Ns N mN:=kN.keeps λb o e=>gj e
 have X1:K.In (nA h C us):=X.keeps λb o e=>gj e
 have T1:OwnTail (nA h C us) bmB bm:=T.keeps λb o e=>gj e
 have kE:=yO (h:=h) (C:=C) (us:=us);have self:(sr C::bm).contains (.ref C)=true:=by simp
 unfold isInstance
 repeat (first | with_reducible refine wpAny_loadPart_at kE ?_ | (with_reducible refine wpAny_isSubtype_exc kC1 ?_;rw[self]) | wp_step)
 show wpAny _ _ (typeLookup (.ref C) _) _ _ _;refine wpAny_typeLookup_tail kC1 kN1 T1 F.mroIs F.init.lookup ?_;rw[kI];refine adV (di ((PySem.W.bind_fn X1 (.ref (h.objs.size+1)) hf).at ?_));refine di (rf hq (λr s' hr=>?_) λ_ _ z=>z)
 obtain⟨rfl,hQ⟩:=hr
 wp_walk
 exact hQ
theorem Lv (X:K.In h)(F:ExcBaseFacts B nid iid bmB)(T:OwnTail h bmB bm){mN:Str->Option Value}{us:List Value}{Q:Value->Shared->Prop}
  (kC:h.get? C=some (adL nm q C N bs bm hdct sn sub ab col dd k0 k1 k2 k3 k5 nid)) (kN:h.Ns N mN) (kI:mN "__init__"=some (.ref fI)) (hf:PySem.W.typeIn K (.ref fI)=some (.type "function")) (hz:us.length<=gn)
  (hq:wpAny (model prog w) (A.under (.builtin "type.__call__" ⟨.ref C::us,[]⟩)) (call (.ref fI) (.ref (h.objs.size+1)::us)) (λr s'=>r=.none/\Q (.ref (h.objs.size+1)) s') E ⟨nA h C us,g,d,t,os⟩) :
  wpAny (model prog w) A (call (.ref C) us) Q E ⟨h,g,d,t,os⟩:=by
 have l1:=tc_lookup;have l2:=tc_bind (.ref C);have ty:(⟨h,g,d,t,os⟩:Shared).TypeIs (.ref C) "type":=⟨_,kC,rfl⟩;refine wpAny_call (codeAny_of_tree ?_);show wpAny _ _ (callAny (.ref C) _) _ _ _
 repeat (any_goals (first | assumption | with_reducible refine wpAny_loadPart_at kC ?_ | wp_step))
 exact⟨rfl,codeAny_call_builtin_at (Code.quiet_builtin _ (by trivial)) entry_typeCall (wpAny_check_type_call_sub kC (Jo X F T kC kN kI hf hz hq))⟩
end
def Jp (C:Addr)(name:Str):Sp:=λvs H Q _=>∃(e:Addr) (v:V),vs=[.ref e,v]/\H e=some (xi e C none)/\(∃z,C3 v z/\z.length<=10000)/\∀d,H d=none->Q .non (upd (upd H d (.xd [(name,v)])) e (xi e C (some d)))
section
variable{X:Cx}{pins:List (Addr×Obj)}{σ:St}{H:Hp}{s:Shared}{C f:Addr}{name x:Str}{fd:kb}{ps:List Str}{k:Nat}{np gO pos:Pos}{e₀:Expr}{ta:TA}
theorem Jq {E:Value->Shared->Prop}{v:V}{u:Value}{Q:Value->Shared->Prop}(xk:BM X.K C f name)(F:a8 X.prog X.w X.K X.mg X.base CX0 k f fd ps (Jp C name))(hr:Room (k+1) X.A)(hb:Binds X.K fd ps [])(I:Inv X pins σ H s)(r:RelV v u)
  (hv:∃z,C3 v z/\z.length<=10000)
  (h:∀(e d:Addr) (a0:Value) (s':Shared),H d=none->Inv X pins σ (upd H d (.xd [(name,v)])) s'->jG X pins (upd H d (.xd [(name,v)])) e->s'.heap.get? e=some ⟨.ref C,some d,.fields #[a0,.none,.none,.none,.bool false,.none],#[]⟩->Q (.ref e) s') :
  wpAny (model X.prog X.w) X.A (call (.ref C) [u]) Q E s:=by
 obtain⟨nm,qn,N,bs,bm,hdct,sn,sub,ab,col,dd,k0,k1,k2,k3,k5,l,T,hd,hi⟩:=xk.ex;obtain⟨mN,kN,kI⟩:=hi.ns I.kIn;have fre:=I.hok.fresh (km _);obtain⟨hp,g,dr,tk,os⟩:=s;have ne:H (hp.objs.size+1)=none:=I.hok.fresh (ad9 _);have I2:Inv X pins σ (upd H (hp.objs.size+1) (xi (hp.objs.size+1) C none)) ⟨nA hp C [u],g,dr,tk,os⟩ :=
  I.laid (h':=nA hp C [u]) (t':=tk) (λb o q=>gj q) (ad9 _) (Lr yO)
 have r2:Vals [V.ref (hp.objs.size+1),v] [sr (hp.objs.size+1),u]:=.cons rfl (.cons r .nil);have hsp:Jp C name [V.ref (hp.objs.size+1),v] (upd H (hp.objs.size+1) (xi (hp.objs.size+1) C none))
   (λv' H'=>v'=.non/\∃d,H d=none/\d≠hp.objs.size+1/\H'=upd (upd (upd H (hp.objs.size+1) (xi (hp.objs.size+1) C none)) d (.xd [(name,v)])) (hp.objs.size+1) (xi (hp.objs.size+1) C (some d))) E0:=by
  refine⟨_,v,rfl,ah,hv,λd hd=>⟨rfl,d,?_,?_,rfl⟩⟩
  ·by_cases z:d=hp.objs.size+1
   ·rw[z,ah]at hd;cases hd
   ·rwa [aw z]at hd
  ·intro z;rw[z,ah]at hd;cases hd
 have hl:[sr (hp.objs.size+1),u].length=ps.length:=by rw[<-r2.length];exact F.len _ _ _ _ hsp
 refine Lv I.kIn (F:=PySem.F.excBase_ValueError) (T.tail I.kIn) (I.kIn _ _ l) kN kI (beq_iff_eq.mp xk.fn) (show 1<=gn by decide) (wpAny_call (codeAny_mono (F.run _ X.stack _ _ ⟨[sr (hp.objs.size+1),u],[]⟩ _ _ _ E0 (hr.make C [u] [])
  (I2.NC.make C [u] []) (hb _ [sr (hp.objs.size+1),u] I2.kIn (by rw[aex];exact hl)) (by rw[aex];exact r2) hsp) λrr s' hq=>?_))
 cases rr with
 |error e=>exact hq.elim
 |ok fl =>
  cases fl with
  |ret u' =>
   obtain⟨v',H',os',bare,un,hok,rv,rfl,d,hd1,hd2,rfl⟩:=hq;cases rv;refine⟨rfl,?_⟩;have HeE:∀ {o:HO},upd (upd (upd H (hp.objs.size+1) (xi (hp.objs.size+1) C none)) d (.xd [(name,v)])) (hp.objs.size+1) o (hp.objs.size+1)=some o:=ah;have Hne:∀b,b≠hp.objs.size+1->upd (upd (upd H (hp.objs.size+1) (xi (hp.objs.size+1) C none)) d (.xd [(name,v)])) (hp.objs.size+1) (xi (hp.objs.size+1) C (some d)) b=upd H d (.xd [(name,v)]) b:=λb hb=>by
    rw[aw hb]
    by_cases z:b=d
    ·rw[z,ah,ah]
    ·rw[aw z,aw z,aw hb]
   have He2:upd H d (.xd [(name,v)]) (hp.objs.size+1)=none:=by rw[aw (adz hd2)];exact ne
   have U1:Un (frs X.stack) [] H (upd H (hp.objs.size+1) (xi (hp.objs.size+1) C none)) hp (nA hp C [u]):=Un.laid (λb o q=>gj q) (ad9 _) ne
   have U2:=U1.trans un;have lt:∀b o,hp.get? b=some o->b≠hp.objs.size+1:=λb o q=>tu (Nat.lt_succ_of_lt (ky q))
   have U3:Un (frs X.stack) [] H (upd H d (.xd [(name,v)])) hp s'.heap:=by
    refine⟨U2.keep,U2.slot,λb o q n hx=>?_,U2.there,λb xs q=>?_,λb o u q=>?_,λb p q=>?_⟩
    ·have z:=U2.free b o q n hx
     rwa [Hne b (lt b o q)]at z
    ·have z:=U2.uk b xs q
     rwa [Hne b (λe=>by rw[e,ne]at q;cases q)]at z
    ·have z:=U2.tw b o u q
     rwa [Hne b (λe=>by rw[e,ne]at q;cases q)]at z
    ·obtain⟨m,z⟩:=U2.um b p q;rw[Hne b (λe=>by rw[e,ne]at q;cases q)]at z
     exact⟨m,z⟩
   have K3:HOk X.prog X.w (upd H d (.xd [(name,v)])) s'.heap:=λa o q=>by
    have ha:a≠hp.objs.size+1:=λe=>by rw[e,He2]at q;cases q
    refine(hok a o (by rw[Hne a ha];exact q)).Ab (λb u _ z=>z) (λb z=>?_) (λb xs z=>?_)
    ·rwa [Hne b (λe=>by rw[e,HeE]at z;cases z)]at z
    ·rwa [Hne b (λe=>by rw[e,HeE]at z;cases z)]at z
   obtain⟨a0,ea⟩:=Ls (P:=X.prog) (w:=X.w) (hok _ _ HeE);have I3:Inv X pins σ (upd H d (.xd [(name,v)])) s':=I.HU (ch:=[]) os' U3 K3 bare λb z=>absurd z (by simp)
   exact h _ d (.ref a0) s' hd1 I3 (I.yC (ad9 _) He2) ea
  |next=>exact adw hq
  |brk=>exact adw hq
  |cont=>exact adw hq
theorem pO (xk:BM X.K C f name)(F:a8 X.prog X.w X.K X.mg X.base CX0 k f fd ps (Jp C name))(hr:Room (k+1) X.A)(hb:Binds X.K fd ps [])(hc:X.calm=true)(hg:Gl X x)(hm:X.mg x=some (.ref C))(ha:PA X.nox [e₀] ta)
  (hdb:(x == ("__debug__":Str))=false:=by decide) (he:si [e₀] X.env=[(false,eval e₀ X.env)]:=by rfl) :
  PSX X (.Raise (some (.Call (.Name x np) [e₀] [] gO)) none pos) (λ_ E σ H=>ta σ H λvs H1=>∃v,vs=[v]/\(∃z,C3 v z/\z.length<=10000)/\∀d,H1 d=none->E σ (.ref C) (some d) (upd H1 d (.xd [(name,v)]))):=by
 intro pins s σ H D E I h;obtain⟨nm,q,N,bs,bm,hdct,sn,sub,ab,col,dd,k0,k1,k2,k3,k5,l,T,hd,hi⟩:=xk.ex;have go:wpAny (model X.prog X.w) X.A (eval (.Call (.Name x np) [e₀] [] gO) X.env) (λv s₁=>∃(e:Addr) (xd:Option Addr) (a0:Value) (sl:Array (Option Value)),v=.ref e/\s₁.heap.get? C=some (adL nm q C N bs bm hdct sn sub ab col dd k0 k1 k2 k3 k5 "ValueError.__new__") /\
   s₁.heap.get? e=some ⟨.ref C,xd,.fields #[a0,.none,.none,.none,.bool false,.none],sl⟩/\XPS X pins E (.ref e) s₁) (XPS X pins E) s:=by
  refine wpAny_Call_Name_kw (lU I hg hm ?_ hdb);unfold callWith;rw[he];refine di (adV (Calls.evalArgs_plain ?_));have ha':=ha gO pins s σ H _ (I.m9 _) h;rw[show X.nox.env=X.env from rfl,he]at ha'
  refine rf ha' (λus s₁ ⟨vs,H1,I1,r,v,hvs,hv,q1⟩=>di (ad7 ?_)) λ_ _ z=>adw z
  subst hvs;obtain⟨u,rfl,rv⟩:=Vals.one r;have I1':=I1.eJ;have kC:=I1'.kIn _ _ l;have pl:(backTo gO [(false,eval e₀ X.env)]).any (·.1)=false:=rfl
  have fin:wpAny (model X.prog X.w) X.A (call (.ref C) ([]++[u])) (λr s'=>∃(e:Addr) (xd:Option Addr) (a0:Value) (sl:Array (Option Value)),r=.ref e/\s'.heap.get? C=some (adL nm q C N bs bm hdct sn sub ab col dd k0 k1 k2 k3 k5 "ValueError.__new__") /\
   s'.heap.get? e=some ⟨.ref C,xd,.fields #[a0,.none,.none,.none,.bool false,.none],sl⟩/\XPS X pins E (.ref e) s') (XPS X pins E) s₁:=by
   refine Jq xk F hr hb I1' rv hv λe d a0 s' hd1 I2 fp ke=>?_
   exact⟨e,some d,a0,#[],rfl,I2.kIn _ _ l,ke,σ,e,.ref C,some d,none,_,rfl,I2,⟨fp,_,_,ke,(by show 1 < 6;decide),rfl⟩,.inl rfl,q1 d hd1⟩
  obtain⟨hp,g',d',tk,os'⟩:=s₁;simp only[pl];refine di (wpAny_keeperOf_exc kC ?_);exact di (rf fin (λv s2 z=>di (adV (wpAny_point (kx z)))) λ_ _ z=>z)
 rw[arm_exec_Raise];have hbx:bm.contains (.type "BaseException")=true:=(T.tail I.kIn).hasType (b:=true) (by trivial)
 first
  |exact di (ad7 (sj (C:=C) (nm:=nm) (q:=q) (N:=N) (bs:=bs) (bm:=bm) (hdct:=hdct) (sn:=sn) (sub:=sub) (ab:=ab) (col:=col) (dd:=dd) (k0:=k0) (k1:=k1) (k2:=k2) (k3:=k3) (k5:=k5) hbx (I.ok.hd hc) (di (rf go (λv s₃ h₃=>di (ad7 (kx h₃))) λ_ _ z=>z))))
  | (simp only[evalOpt,Option.map];exact di (ad7 (sj (C:=C) (nm:=nm) (q:=q) (N:=N) (bs:=bs) (bm:=bm) (hdct:=hdct) (sn:=sn) (sub:=sub) (ab:=ab) (col:=col) (dd:=dd) (k0:=k0) (k1:=k1) (k2:=k2) (k3:=k3) (k5:=k5) hbx (I.ok.hd hc) (di (rf go (λv s₃ h₃=>di (ad7 (kx h₃))) λ_ _ z=>z)))))
end
section
variable{X:Cx}{pins:List (Addr×Obj)}{σ:St}{H:Hp}{s:Shared}{C D f:Addr}{name x:Str}{np apos gO pos pos':Pos}{o e value:Expr}{ta tv:TE}{t:TA}
theorem yR {pl:Sem Bool}(ik:Pj X.K D)(xk:BM X.K C f name)(hg:Gl X x)(hm:X.mg x=some (.ref D))(ha:PA X [o,e] t)(hdb:(x == ("__debug__":Str))=false:=by decide)
  (hst:si [o,e] X.env=(false,eval o X.env)::si [e] X.env:=by rfl) (hpl:(backTo pos (si [e] X.env)).any (·.1)=false:=by rfl)
  (ht:eval (.Call (.Attribute (.Name x np) "__init__" apos) [o,e] [] pos) X.env=(do
   let ov <-eval (.Name x np) X.env
   standAt apos.atName
   let (f,first) <-holding [ov] (getMethod ov "__init__" pl)
   callWith pos f first (backTo pos (si [o,e] X.env)) (backToKw pos (keywordEach [] X.env))):=by rfl) :
  PE X (.Call (.Attribute (.Name x np) "__init__" apos) [o,e] [] pos) (λσ H Q=>t σ H λvs H1=>∃ea v,vs=[.ref ea,v]/\H1 ea=some (xi ea C none)/\Q .non H1):=by
 intro pins s σ H Q I h;refine ad6 (pl:=pl) (lU I hg hm ?_ hdb) ht;refine PySem.W.method_cls I.kIn ik.sp (PySem.W.cls_value I.kIn ik.rd ik.fc (by trivial) ?_)
 show wpAny _ _ (callWith pos (.builtin "ValueError.__init__") [] (backTo pos (si [o,e] X.env)) []) _ _ _;exact PyProof.Rows.callWith_builtin1 (thn (ha pos pins _ σ H _ (I.tok _) h) λus s1 ⟨vs,H1,I1,r1,ea,v,hv,hx,q⟩=>Gb (xk:=xk) pins s1 σ H1 vs us Q I1 r1 ⟨ea,v,hv,hx,q⟩) hst hpl
theorem BN (xk:BM X.K C f name)(ha:PE X o ta)(hv:PE X value tv)(hs:swapsWith value (some (.Attribute o name pos')) pos.line X.env=pure false:=by rfl):PS X (.Assign [.Attribute o name pos'] value pos)
  (λD σ H=>tv σ H λy H1=>ta σ H1 λx H2=>∃ea,x=.ref ea/\H2 ea=some (xi ea C none)/\∀d,H2 d=none->D.nx σ (upd (upd H2 d (.xd [(name,y)])) ea (xi ea C (some d)))):=by
 intro pins s σ H D I h;refine plainObj_wpAny_Assign_Attribute (thn (hv pins s σ H _ I h) λu s1 ⟨y,H1,I1,ry,q⟩=>thn (ha pins s1 σ H1 _ I1 q) λov s2 ⟨x,H2,I2,rx,ea,ex,hx,q2⟩=>?_) hs
 subst ex;obtain rfl:ov=sr ea:=rx;obtain⟨a0,e0⟩:=Ls (P:=X.prog) (w:=X.w) (I2.hok _ _ hx);have fr:H2 s2.heap.objs.size=none:=I2.hok.fresh (km _);refine Lu I2.kIn xk e0 λh' tk hx' ns kk=>⟨σ,_,?_,q2 _ fr⟩
 have hde:ea≠s2.heap.objs.size:=a6 hx fr;have old:∀b,b≠ea->b≠s2.heap.objs.size->upd (upd H2 s2.heap.objs.size (.xd [(name,y)])) ea (xi ea C (some s2.heap.objs.size)) b=H2 b:=λb h1 h2=>by rw[aw h1,aw h2]
 have lt:∀b ob,s2.heap.get? b=some ob->b≠s2.heap.objs.size:=λb ob q=>tu (ky q)
 have nx:∀b,H2 b=none->b≠ea:=λb n z=>by rw[z,hx]at n;cases n
 have ns':∀b {o:HO},H2 b=some o->b≠s2.heap.objs.size:=λb _ n z=>by rw[z,fr]at n;cases n
 refine I2.un (t':=tk) ⟨λb ob q n _ _=>kk b ob (nx b n) q,λb ob q n _ _=>⟨ob.slots,kk b ob (nx b n) q⟩,λb ob q n _=>by rw[old b (nx b n) (lt b ob q)];exact n,λb ob q _=>?_,λb xs q=>?_,λb ob u q=>?_,λb ps q=>?_⟩ λa ob q=>?_
 ·by_cases z:b=ea
  ·exact⟨_,by rw[z];exact hx'⟩
  ·exact⟨ob,kk b ob z q⟩
 ·rw[old b (λz=>by rw[z,hx]at q;cases q) (ns' b q)];exact q
 ·rw[old b (λz=>by rw[z,hx]at q;cases q) (ns' b q)];exact q
 ·exact⟨#[],by rw[old b (λz=>by rw[z,hx]at q;cases q) (ns' b q),q];simp⟩
 ·by_cases z:a=ea
  ·subst z;rw[ah]at q;cases q;exact Lr hx'
  ·rw[aw z]at q
   by_cases z2:a=s2.heap.objs.size
   ·rw[z2,ah]at q;cases q;refine⟨_,by rw[z2];exact ns,λg=>?_⟩
    rw[aes]
    by_cases hg:g=name
    ·rw[if_pos hg,show (g == name)=true from beq_iff_eq.mpr hg];exact ry
    ·rw[if_neg hg,show (g == name)=false from beq_eq_false_iff_ne.mpr hg];exact aeJ
   ·rw[aw z2]at q;refine(I2.hok a ob q).Ab (λb u hb r=>kk b u ?_ r) (λb r=>?_) (λb xs r=>?_)
    ·rintro rfl;rcases hb with hb | hb
     ·exact z hb.symm
     ·rw[hx]at hb;cases hb
    ·rw[old b (λz=>by rw[z,hx]at r;cases r) (ns' b r)];exact r
    ·rw[old b (λz=>by rw[z,hx]at r;cases r) (ns' b r)];exact r
theorem C4 {ea C d:Addr}{fs:List (Str×V)}(I:Inv X pins σ H s)(h:H ea=some (xo ea (.ref C) (some d)))(hd:H d=some (.xd fs)) :
  ∃ox od,ael s.heap ea ox C (some od)/\∃mA:Str->Option Value,(∀n,PySem.W.lookIn n od=some (mA n))/\∀n,oz (fs.lookup n) (mA n):=by
 obtain⟨⟨sl,vs,e⟩,_⟩:=(show fq X.prog X.w H s.heap ea (xo ea (.ref C) (some d)) from I.hok _ _ h)
 obtain⟨mA,ns,r⟩:=(show fq X.prog X.w H s.heap d (.xd fs) from I.hok _ _ hd)
 obtain⟨od,ho,lk⟩:=AH ns;exact⟨_,od,⟨e,rfl,rfl,ho⟩,mA,lk,r⟩
structure NY (K:cb)(C:Addr)(name:Str):Prop where
 ga:GaX K C
 na:bo K (.ref C) name=some none
 hd:adA K C=true
theorem BO (he:PE X e ta)(hb:attributeBase e name X.env (eval e X.env)=eval e X.env):PE X (.Attribute e name pos)
  (λσ H Q=>ta σ H λx H1=>∃ea C d fs v,x=.ref ea/\H1 ea=some (xo ea (.ref C) (some d))/\H1 d=some (.xd fs)/\NY X.K C name/\fs.lookup name=some v/\(∃z,C3 v z)/\Q v H1):=by
 intro pins s σ H Q I h;refine Ia hb (thn (he pins s σ H _ I h) λu s1 ⟨x,H1,I1,rx,ea,C,d,fs,v,ex,hx,hd,xf,lk,⟨z,fz⟩,q⟩=>?_)
 subst ex;obtain rfl:u=sr ea:=rx;obtain⟨ox,od,J,mA,li,rel⟩:=C4 I1 hx hd;have rl:=rel name;rw[lk]at rl;cases hm:mA name with
 |none=>rw[hm]at rl;exact rl.elim
 |some u2 =>
  rw[hm]at rl;have rl':RelV v u2:=rl;have hh:PySem.W.handedIn u2=true:=by
   cases fz with
   |int _=>obtain⟨t,rfl⟩:=rl';rfl
   |str=>obtain⟨t,rfl⟩:=rl';rfl
  obtain⟨cd,hc,hdct⟩:=PySem.W.any_some xf.hd;have fo:aeL X.K C (some od) name=some (.value u2):=by
   unfold aeL;rw[hc,Option.bind_some,xf.na,Option.bind_some];simp only[Option.bind_some,PySem.W.ownOf,hdct,if_true,li,hm]
  unfold getAttr;refine di (wpAny_mkText (Ph (s:={ s1 with toks:=s1.toks+1 }) I1.kIn J xf.ga (Ln (s:={ s1 with toks:=s1.toks+1 }) I1.kIn J fo ?_)))
  exact⟨hh,v,H1,I1.tok _,rl',q⟩
theorem Gd:iz X (.builtin "isinstance") (λxs H Q=>∃ea c C d fs b,xs=[.ref ea,c]/\isC c=true/\H ea=some (xo ea (.ref C) (some d))/\H d=some (.xd fs)/\lJ X.K C/\ba X.K (.ref C) (Q3 c)=some b/\Q (.bl b) H):=by
 intro pins s σ H xs us Q I r h;obtain⟨ea,c,C,d,fs,b,rfl,hc,hx,hd,ty,e,q⟩:=h;obtain⟨u,w',rfl,rx,rc⟩:=vals2 r;cases rx;obtain⟨ox,od,J,_⟩:=C4 I hx hd;have fin:∀tk,EP X pins σ Q (.bool b) { s with toks:=tk }:=λtk=>⟨.bl b,H,I.tok _,rfl,q⟩
 cases c with
 |ty n=>cases rc;exact PySem.W.kia_one (yq ty) I.kIn J e (λz=>nomatch z) fin
 |ref a=>cases rc;exact PySem.W.kia_one (yq ty) I.kIn J e (λz=>nomatch z) fin
 |_=>exact absurd (show false=true from hc) ki
end
section
variable{κ:Type}[DecidableEq κ]
def jN (kvs:List (κ×V))(k:κ):Option V:=(kvs.find? λkv=>decide (kv.1=k)).map (·.2)
def putK (kvs:List (κ×V))(k:κ)(v:V):List (κ×V) :=
 if (kvs.any λkv=>decide (kv.1=k))=true then kvs.map (λkv=>if kv.1=k then (kv.1,v) else kv) else kvs++[(k,v)]
def lK (kvs:List (κ×V))(k:κ):List (κ×V):=kvs.filter λkv=>decide (kv.1≠k)
theorem mj {p:κ×V}{r:List (κ×V)}{k:κ}(e:p.1=k):jN (p::r) k=some p.2:=by simp[jN,aeq,e]
theorem iA {p:κ×V}{r:List (κ×V)}{k:κ}(e:¬p.1=k):jN (p::r) k=jN r k:=by simp[jN,aeq,e]
theorem uu (k:κ):∀kvs:List (κ×V),(kvs.any λkv=>decide (kv.1=k))=(jN kvs k).isSome
 |[]=>rfl
 |p::r=>by
  rw[List.any_cons]
  by_cases e:p.1=k
  ·simp only[mj e,decide_eq_true e,Bool.true_or,Option.isSome_some]
  ·rw[iA e,decide_eq_false e,Bool.false_or];exact uu k r
theorem wF (kvs:List (κ×V))(k:κ)(v:V):(putK kvs k v).length<=kvs.length+1:=by
 unfold putK;split
 ·rw[da];omega
 ·rw[kq,om,List.length_nil];omega
theorem Lw {kvs:List (κ×V)}{k:κ}(v:V)(h:jN kvs k=none):putK kvs k v=kvs++[(k,v)]:=by
 unfold putK;rw[uu,h];exact if_neg (by decide)
theorem oz.sv {o:Option V}{u:Option Value}(r:oz o u):o.isSome=u.isSome:=by
 cases o with
 |none=>cases u with
  |none=>rfl
  |some _=>exact(show False from r).elim
 |some _=>cases u with
  |none=>exact(show False from r).elim
  |some _=>rfl
theorem oz.getD {o:Option V}{u:Option Value}{d:V}{d':Value}(r:oz o u)(rd:RelV d d'):RelV (o.getD d) (u.getD d'):=by
 cases o with
 |none=>cases u with
  |none=>exact rd
  |some _=>exact(show False from r).elim
 |some _=>cases u with
  |none=>exact(show False from r).elim
  |some _=>exact r
theorem KV.val {kvs:List (κ×V)}{vs:List (κ×Value)}(r:KV kvs vs)(k:κ):oz (jN kvs k) (valueAt vs k):=by
 unfold KV at r
 induction r with
 |nil=>exact aeJ
 | @cons p q ps qs h t ih =>
  obtain⟨h1,h2⟩:=h
  by_cases e:p.1=k
  ·have e':q.1=k:=h1.symm.trans e;have b:valueAt (q::qs) k=some q.2:=by simp[valueAt,aeq,e']
   rw[mj e,b];exact h2
  ·have e':¬q.1=k:=λz=>e (h1.trans z)
   have b:valueAt (q::qs) k=valueAt qs k:=by simp[valueAt,aeq,e']
   rw[iA e,b];exact ih
theorem KV.any {kvs:List (κ×V)}{vs:List (κ×Value)}(r:KV kvs vs)(k:κ):(kvs.any λkv=>decide (kv.1=k))=vs.any λkv=>decide (kv.1=k):=by
 unfold KV at r
 induction r with
 |nil=>rfl
 |cons h t ih=>rw[List.any_cons,List.any_cons,ih,h.1]
theorem KV.Rh {kvs:List (κ×V)}{vs:List (κ×Value)}(r:KV kvs vs)(k:κ){y:V}{u:Value}(ry:RelV y u) :
  KV (kvs.map λkv=>if kv.1=k then (kv.1,y) else kv) (vs.map λkv=>if kv.1=k then (kv.1,u) else kv):=by
 unfold KV at r ⊢
 induction r with
 |nil=>exact .nil
 | @cons p q ps qs h t ih =>
  rw[kg,kg];refine .cons ?_ ih;obtain⟨h1,h2⟩:=h
  by_cases e:p.1=k
  ·rw[if_pos e,if_pos (h1.symm.trans e)];exact⟨h1,ry⟩
  ·rw[if_neg e,if_neg (λz=>e (h1.trans z))];exact⟨h1,h2⟩
theorem KV.put {kvs:List (κ×V)}{vs:List (κ×Value)}(r:KV kvs vs)(k:κ){y:V}{u:Value}(ry:RelV y u):KV (putK kvs k y) (stored vs k u):=by
 unfold putK stored;rw[r.any k]
 by_cases e:(vs.any λkv=>decide (kv.1=k))=true
 ·rw[if_pos e,if_pos e];exact r.Rh k ry
 ·rw[if_neg e,if_neg e];exact Paired.snoc r ⟨rfl,ry⟩
theorem KV.drop {kvs:List (κ×V)}{vs:List (κ×Value)}(r:KV kvs vs)(k:κ):KV (lK kvs k) (without vs k):=by
 unfold KV at r ⊢;unfold lK without
 induction r with
 |nil=>exact .nil
 | @cons p q ps qs h t ih =>
  obtain⟨h1,h2⟩:=h;rw[List.filter_cons,List.filter_cons]
  by_cases e:p.1=k
  ·have a:¬decide (p.1≠k)=true:=by simp[e]
   have b:¬decide (q.1≠k)=true:=by simp[h1.symm.trans e]
   rw[if_neg a,if_neg b];exact ih
  ·have e':¬q.1=k:=λz=>e (h1.trans z)
   have a:decide (p.1≠k)=true:=by simp[e]
   have b:decide (q.1≠k)=true:=by simp[e']
   rw[if_pos a,if_pos b];exact .cons ⟨h1,h2⟩ ih
theorem KV.keys {kvs:List (κ×V)}{vs:List (κ×Value)}(r:KV kvs vs):kvs.map (·.1)=vs.map (·.1):=by
 unfold KV at r
 induction r with
 |nil=>rfl
 |cons h t ih=>rw[kg,kg,ih,h.1]
theorem KV.length {kvs:List (κ×V)}{vs:List (κ×Value)}(r:KV kvs vs):kvs.length=vs.length:=Paired.length r
theorem C5 (kvs:List (κ×V))(k:κ):(lK kvs k).length<=kvs.length:=aeh _ _
end
theorem AS {P:ma}{w:World}{k:Key}{u:Value}(r:RelV (kV k) u):(eI P w).is k u=true:=by
 cases k with
 |inl i=>obtain⟨t,e⟩:=(show ∃t,u=Value.int i t from r);subst e;exact CG P w i t
 |inr x=>obtain⟨t,e⟩:=(show ∃t,u=Value.str x t from r);subst e;exact CH P w x t
theorem AU {P:ma}{w:World}:∀ {ks:List Key} {us:List Value},Vals (ks.map kV) us->ItemsAre (eI P w) ks us
 |[],_,r=>by rw[aec]at r;cases r;exact .nil
 |k::ks,_,r=>by
  rw[kg]at r;cases r with
  |cons h t=>exact .cons (AS h) (AU t)
abbrev KT (H:Hp):List (List Key×V)->List (List Key×Addr×Value)->Prop:=Paired λp q=>p.1=q.1/\H q.2.1=some (.tup (p.1.map kV))/\RelV p.2 q.2.2
theorem KT.val {H:Hp}{kvs:List (List Key×V)}{xs:List (List Key×Addr×Value)}(r:KT H kvs xs)(k:List Key):oz (jN kvs k) ((atKey xs k).map (·.2)):=by
 induction r with
 |nil=>exact aeJ
 | @cons p q ps qs h t ih =>
  obtain⟨h1,_,h2⟩:=h
  by_cases e:p.1=k
  ·have e':q.1=k:=h1.symm.trans e;have b:atKey (q::qs) k=some q.2:=by simp[atKey,aeq,e']
   rw[mj e,b];exact h2
  ·have e':¬q.1=k:=λz=>e (h1.trans z)
   have b:atKey (q::qs) k=atKey qs k:=by simp[atKey,aeq,e']
   rw[iA e,b];exact ih
theorem KT.Rh {H:Hp}{kvs:List (List Key×V)}{xs:List (List Key×Addr×Value)}(r:KT H kvs xs)(k:List Key){y:V}{u:Value}(ry:RelV y u) :
  KT H (kvs.map λkv=>if kv.1=k then (kv.1,y) else kv) (xs.map (putAt k u)):=by
 induction r with
 |nil=>exact .nil
 | @cons p q ps qs h t ih =>
  rw[kg,kg];refine .cons ?_ ih;obtain⟨h1,h2,h3⟩:=h;unfold putAt
  by_cases e:p.1=k
  ·rw[if_pos e,if_pos (h1.symm.trans e)];exact⟨h1,h2,ry⟩
  ·rw[if_neg e,if_neg (λz=>e (h1.trans z))];exact⟨h1,h2,h3⟩
theorem KT.put {H:Hp}{kvs:List (List Key×V)}{xs:List (List Key×Addr×Value)}(r:KT H kvs xs)(k:List Key){b:Addr}{y:V}{u:Value}(hb:H b=some (.tup (k.map kV)))(ry:RelV y u) :
  KT H (putK kvs k y) (storedH xs k b u):=by
 have e:(kvs.any λkv=>decide (kv.1=k))=(atKey xs k).isSome:=by
  rw[uu,(r.val k).sv,Option.isSome_map]
 unfold putK storedH;rw[e]
 by_cases q:(atKey xs k).isSome=true
 ·rw[if_pos q,if_pos q];exact r.Rh k ry
 ·rw[if_neg q,if_neg q];exact Paired.snoc r ⟨rfl,hb,ry⟩
theorem KT.keeps {H H':Hp}{kvs:List (List Key×V)}{xs:List (List Key×Addr×Value)}(r:KT H kvs xs)(ht:∀b ys,H b=some (.tup ys)->H' b=some (.tup ys)):KT H' kvs xs :=
 Paired.Qw r λ_ _ z=>⟨z.1,ht _ _ z.2.1,z.2.2⟩
section
variable{P:ma}{w:World}{H:Hp}{h:Heap}{a:Addr}
theorem Pk {u:HO}(ok:HOk P w H h)(e:Rd H a u):fq P w H h a u:=e.ok ok
theorem AV {kvs:List (Key×V)}(ok:HOk P w H h)(e:Rd H a (.dK kvs)):kvs.length<=gn/\(a == aeu)=false/\∃vs,KV kvs vs/\h.DictOf (eI P w) a vs :=
 show fq P w H h a (.dK kvs) from Pk ok e
theorem Io {kvs:List (Key×V)}(ok:HOk P w H h)(e:H a=some (.dK kvs)):kvs.length<=gn/\(a == aeu)=false/\∃vs,KV kvs vs/\h.DictOf (eI P w) a vs:=AV ok (.inl e)
theorem BP {ks:List Key}(ok:HOk P w H h)(e:H a=some (.tup (ks.map kV))):(tupleKind (eI P w)).is h ks a:=by
 obtain⟨_,its,r,o,h1,h2,n,h3⟩:=(show fq P w H h a (.tup (ks.map kV)) from ok a _ e)
 exact⟨o,its.toArray,n,h1,h2,h3,by simpa using AU r⟩
theorem C6 {kvs:List (List Key×V)}(ok:HOk P w H h)(e:Rd H a (.dT kvs)):kvs.length<=gn/\(a == aeu)=false /\
  ∃xs,KT H kvs xs/\h.DictOfH (tupleKind (eI P w)) a xs:=by
 obtain⟨z,y,xs,r,o,es,ep,h1,h2,h3,h4,h5⟩:=(show fq P w H h a (.dT kvs) from Pk ok e)
 refine⟨z,y,xs,r,o,es,ep,h1,h2,h3,h4,λx hx=>?_,h5⟩
 have all:∀ {l:List (List Key×V)} {m:List (List Key×Addr×Value)},KT H l m->∀x∈m,(tupleKind (eI P w)).is h x.1 x.2.1:=by
  intro l m q
  induction q with
  |nil=>intro x hx;exact nomatch hx
  | @cons p q ps qs hq t ih =>
   intro x hx;rcases List.mem_cons.mp hx with e | hx
   ·subst e;exact BP ok (by rw[<-hq.1];exact hq.2.1)
   ·exact ih x hx
 exact all r x hx
theorem Wi {kvs:List (List Key×V)}(ok:HOk P w H h)(e:H a=some (.dT kvs)):kvs.length<=gn/\(a == aeu)=false /\
  ∃xs,KT H kvs xs/\h.DictOfH (tupleKind (eI P w)) a xs:=C6 ok (.inl e)
end
def BQ (H:Hp)(a:Addr)(y:V)(r:Option V):Prop :=
 (∃kvs k,Rd H a (.dK kvs)/\y=kV k/\r=jN kvs k)\/∃kvs k b,Rd H a (.dT kvs)/\y=.ref b/\H b=some (.tup (k.map kV))/\r=jN kvs k
def xc (H:Hp)(a:Addr)(y v:V)(H':Hp):Prop :=
 (∃kvs k,H a=some (.dK kvs)/\y=kV k/\kvs.length < gn/\H'=upd H a (.dK (putK kvs k v))) \/
 ∃kvs k b,H a=some (.dT kvs)/\y=.ref b/\H b=some (.tup (k.map kV))/\kvs.length < gn/\H'=upd H a (.dT (putK kvs k v))
theorem BQ.k {H:Hp}{a:Addr}{kvs:List (Key×V)}{k:Key}(e:H a=some (.dK kvs)):BQ H a (kV k) (jN kvs k):=.inl ⟨kvs,k,.inl e,rfl,rfl⟩
theorem BQ.t {H:Hp}{a b:Addr}{kvs:List (List Key×V)}{k:List Key}(e:H a=some (.dT kvs))(eb:H b=some (.tup (k.map kV))):BQ H a (.ref b) (jN kvs k):=.inr ⟨kvs,k,b,.inl e,rfl,eb,rfl⟩
theorem xc.k {H:Hp}{a:Addr}{kvs:List (Key×V)}{k:Key}{v:V}(e:H a=some (.dK kvs))(hl:kvs.length < gn):xc H a (kV k) v (upd H a (.dK (putK kvs k v))):=.inl ⟨kvs,k,e,rfl,hl,rfl⟩
theorem xc.t {H:Hp}{a b:Addr}{kvs:List (List Key×V)}{k:List Key}{v:V}(e:H a=some (.dT kvs))(eb:H b=some (.tup (k.map kV)))(hl:kvs.length < gn) :
  xc H a (.ref b) v (upd H a (.dT (putK kvs k v))):=.inr ⟨kvs,k,b,e,rfl,eb,hl,rfl⟩
section
variable{X:Cx}{pins:List (Addr×Obj)}{σ:St}{H:Hp}{s:Shared}{a:Addr}{y v:V}{u r:Value}{o:Option V}{A:Around}{E:Value->Shared->Prop}
theorem Inv.big (I:Inv X pins σ H s):aeu < s.heap.objs.size:=by
 have h:gr < s.heap.objs.size:=(I.mod.glob.keeps I.bk).lt;exact Nat.lt_trans (by decide) h
theorem Jr {Q:Value->Shared->Prop}(hu:A.units+1 < cLine)(I:Inv X pins σ H s)(g:BQ H a y (some v))(ry:RelV y u)(h:∀w' s',Inv X pins σ H s'->RelV v w'->Q w' s') :
  wpAny (model X.prog X.w) A (getItem (.ref a) u) Q E s:=by
 rcases g with ⟨kvs,k,e,ey,l⟩ | ⟨kvs,k,b,e,ey,eb,l⟩
 ·subst ey;obtain⟨z,hd,vs,rel,dd⟩:=AV I.hok e;obtain⟨w',hw,rw'⟩:=oz.some_of (v:=v) (o:=valueAt vs k) (by rw[l];exact rel.val k)
  exact wpAny_getItem_of (AS ry) dd.mapOf hw (h w' _ (I.tok _) rw')
 ·subst ey;cases (show u=sr b from ry)
  obtain⟨z,hd,xs,rel,dd⟩:=C6 I.hok e;obtain⟨w',hw,rw'⟩:=oz.some_of (v:=v) (o:=(atKey xs k).map (·.2)) (by rw[l];exact rel.val k)
  obtain⟨p,hp,hp2⟩:=Option.map_eq_some_iff.mp hw;refine wpAny_getItem_heap (tupleKind_room_in1 hu) (BP I.hok eb) dd hp ?_;rw[hp2];exact h w' _ (I.tok _) rw'
theorem NZ {Q:Value->Shared->Prop}(hu:A.units+1 < cLine)(I:Inv X pins σ H s)(g:BQ H a y o)(ry:RelV y u)(h:∀s',Inv X pins σ H s'->Q (.bool (!o.isSome)) s') :
  wpAny (model X.prog X.w) A (aei .NotIn u (.ref a)) Q E s:=by
 rcases g with ⟨kvs,k,e,ey,l⟩ | ⟨kvs,k,b,e,ey,eb,l⟩
 ·subst ey;obtain⟨z,hd,vs,rel,dd⟩:=AV I.hok e;refine wpAny_notIn_of (AS ry) hd dd.mapOf ?_;rw[<-(rel.val k).sv,<-l];exact h _ (I.tok _)
 ·subst ey;cases (show u=sr b from ry)
  obtain⟨z,hd,xs,rel,dd⟩:=C6 I.hok e;refine wpAny_notIn_heap (tupleKind_room_in1 hu) (BP I.hok eb) hd dd ?_;have q:=(rel.val k).sv;rw[Option.isSome_map]at q;rw[<-q,<-l];exact h _ (I.tok _)
theorem yr {h':Heap}{t':Nat}{ob:HO}(I:Inv X pins σ H s)(mu:Mut (H a))(hs:Heap.SameBut a s.heap h')(he:∃q,h'.get? a=some q)(new:fq X.prog X.w (upd H a ob) h' a ob) :
  Inv X pins σ (upd H a ob) { s with heap:=h',toks:=t' } :=
 I.write (x:=a) (e:=a) mu (.inl rfl) (λb q hb z=>(hs.2 b hb).trans z) he new
theorem Ge {P:ma}{w:World}{H':Hp}{h':Heap}{kvs:List (Key×V)}{vs:List (Key×Value)}(z:kvs.length<=gn)(hd:(a == aeu)=false)(rel:KV kvs vs)(dd:h'.DictOf (eI P w) a vs) :
  fq P w H' h' a (.dK kvs):=⟨z,hd,vs,rel,dd⟩
theorem Js {H':Hp}{Q:Unit->Shared->Prop}(hu:A.units+1 < cLine)(I:Inv X pins σ H s)(g:xc H a y v H')(ry:RelV y u)(rv:RelV v r)(h:∀s',Inv X pins σ H' s'->Q () s') :
  wpAny (model X.prog X.w) A (setItem (.ref a) u r) Q E s:=by
 rcases g with ⟨kvs,k,e,ey,l,eH⟩ | ⟨kvs,k,b,e,ey,eb,l,eH⟩
 ·subst ey eH;obtain⟨z,hd,vs,rel,dd⟩:=Io I.hok e;have hz:vs.length<=gn:=by rw[<-rel.length];exact z
  have hl:(putK kvs k v).length<=gn:=by have:=wF kvs k v;omega
  refine wpAny_setItem_pairs (hsz:=hz) (AS ry) dd λh' dd' hs=>h _ ?_
  have he:∃q,h'.get? a=some q:=let ⟨q,_,_,hq,_⟩:=dd';⟨q,hq⟩
  exact yr I (by rw[e];exact aeJ) hs he (Ge hl hd (rel.put k rv) dd')
 ·subst ey eH;cases (show u=sr b from ry)
  obtain⟨z,hd,xs,rel,dd⟩:=Wi I.hok e;have hz:xs.length<=gn:=by rw[<-Paired.length rel];exact z
  have hl:(putK kvs k v).length<=gn:=by have:=wF kvs k v;omega
  refine wpAny_setItem_heap (hsz:=hz) (tupleKind_room_in1 hu) (BP I.hok eb) dd λh' dd' hs=>h _ ?_
  obtain⟨q,es,ep,hq,h2,h3,h4,_,h5⟩:=dd';refine yr I (by rw[e];exact aeJ) hs ⟨q,hq⟩ ⟨hl,hd,_,(rel.put k eb rv).keeps λc ys ec=>?_,q,es,ep,hq,h2,h3,h4,h5⟩
  rw[aw (VC ec e (λz=>nomatch z))]
  exact ec
end
section
variable{X:Cx}{pins:List (Addr×Obj)}{σ:St}{H:Hp}{s:Shared}{a:Addr}{kvs:List (Key×V)}{k:Key}{u:Value}{A:Around}{E:Value->Shared->Prop}
theorem VB {Q:Unit->Shared->Prop}(I:Inv X pins σ H s)(e:H a=some (.dK kvs))(ry:RelV (kV k) u)(l:(jN kvs k).isSome=true)(h:∀s',Inv X pins σ (upd H a (.dK (lK kvs k))) s'->Q () s') :
  wpAny (model X.prog X.w) A (delItem (.ref a) u) Q E s:=by
 obtain⟨z,hd,vs,rel,dd⟩:=Io I.hok e;refine wpAny_delItem_slot dd.typeIs (by decide) PySem.F.slot_dict_delitem
  (call_meetsIn PySem.F.slot_dict_delitem dd.typeIs PySem.F.entry_dict_delitem (PySem.F.args_dict_delitem_2 _ _) (meets_dict_delitem_pairs (eI X.prog X.w) a (AS ry)) ⟨vs,dd,by rw[<-rel.length];exact z,by rw[<-(rel.val k).sv];exact l,λh' dd' hs=>h _ ?_⟩)
 have he:∃q,h'.get? a=some q:=let ⟨q,_,_,hq,_⟩:=dd';⟨q,hq⟩
 exact yr I (by rw[e];exact aeJ) hs he (Ge (me (C5 kvs k) z) hd (rel.drop k) dd')
theorem Wj {v:V}{more:List Value}{Q:Value->Shared->Prop}(I:Inv X pins σ H s)(e:H a=some (.dK kvs))(ry:RelV (kV k) u)(l:jN kvs k=some v)(hm:more=[]\/∃x,more=[x])
  (h:∀w' s',Inv X pins σ (upd H a (.dK (lK kvs k))) s'->RelV v w'->Q w' s'):wpAny (model X.prog X.w) A (call (.builtin "dict.pop") (.ref a::u::more)) Q E s:=by
 obtain⟨z,hd,vs,rel,dd⟩:=Io I.hok e;obtain⟨w',hw,rw'⟩:=oz.some_of (v:=v) (o:=valueAt vs k) (by rw[<-l];exact rel.val k)
 have hp:(keyPart u).isSome=true:=by
  cases k with
  |inl i=>obtain⟨t,q⟩:=(show ∃t,u=Value.int i t from ry);subst q;rfl
  |inr x=>obtain⟨t,q⟩:=(show ∃t,u=Value.str x t from ry);subst q;rfl
 have ha:argsOk "dict.pop" ⟨.ref a::u::more,[]⟩:=by
  rcases hm with q | ⟨x,q⟩
  ·subst q;exact PySem.F.args_dict_pop_2 _ _
  ·subst q;exact PySem.F.args_dict_pop_3 _ _ _
 refine call_meetsIn PySem.F.slot_dict_pop dd.typeIs PySem.F.entry_dict_pop ha (meets_dict_pop_there (eI X.prog X.w) a (AS ry) more hm hp)
  ⟨vs,w',dd,by rw[<-rel.length];exact z,hw,λh' dd' hs=>h w' _ ?_ rw'⟩
 have he:∃q,h'.get? a=some q:=let ⟨q,_,_,hq,_⟩:=dd';⟨q,hq⟩
 exact yr I (by rw[e];exact aeJ) hs he (Ge (me (C5 kvs k) z) hd (rel.drop k) dd')
theorem Wk {Q:Value->Shared->Prop}(I:Inv X pins σ H s)(e:Rd H a (.dK kvs))(h:∀t s',Inv X pins σ H s'->Q (.int kvs.length t) s'):wpAny (model X.prog X.w) A (call (.builtin "len") [.ref a]) Q E s:=by
 obtain⟨z,hd,vs,rel,dd⟩:=AV I.hok e;refine call_len_dict hd dd (by rw[<-rel.length];rw[sizeLine_eq]at z;omega) ?_
 rw[<-rel.length];exact h _ _ (I.tok _)
end
def Wl (i:Expr):Prop:=∀ov iv,subscripted i false ov iv=operate [ov,iv] (getItem ov iv)
theorem N0 {prog:ma}{w:World}{A:Around}{E:Value->Shared->Prop}{s:Shared}{env:Env}{value slice:Expr}{pos:Pos}{T id:String}{Q:Value->Shared->Prop}
  (hl:typeLookup (.type T) "__getitem__"=pure (some (.builtin id))) (hs:Wl slice)
  (h:wpAny (model prog w) A (eval value env) (λo s₁=>wpAny (model prog w) A (eval slice env) (λi s₂=>s₂.TypeIs o T/\wpAny (model prog w) A (getItem o i) Q E s₂) E s₁) E s) :
  wpAny (model prog w) A (eval (.Subscript value slice pos) env) Q E s:=by
 refine Subscript_ (rf h (λo s₁ h₁=>rf h₁ (λi s₂ h₂=>?_) λ_ _ x=>x) λ_ _ x=>x)
 obtain⟨hT,h₂⟩:=h₂;unfold subscriptTail;refine di ?_;rw[getitemInPython_of_ne hT.not_modules];refine di (wpAny_specialOf hT hl ?_);have fin:wpAny (model prog w) A (subscripted slice false o i) (λr s₃=>wpAny (model prog w) A (letTemporaryGo value o r >>= λ_=>pure r) Q E s₃) E s₂:=by
  rw[hs o i];exact wpAny_operating (rf h₂ (λr s₃ h₃=>di (wpAny_letTemporaryGo (kx h₃))) λ_ _ x=>x)
 first
  |exact kx (di fin)
  |exact di (kx (di fin))
  |exact di fin
theorem C7 {X:Cx}{pins:List (Addr×Obj)}{σ:St}{H:Hp}{s:Shared}{a:Addr}{y:V}{o:Option V}(I:Inv X pins σ H s)(g:BQ H a y o):s.TypeIs (.ref a) "dict":=by
 rcases g with ⟨kvs,k,e,_,_⟩ | ⟨kvs,k,b,e,_,_,_⟩
 ·obtain⟨_,_,vs,_,dd⟩:=AV I.hok e;exact dd.typeIs
 ·obtain⟨_,_,xs,_,dd⟩:=C6 I.hok e;exact dd.typeIs
def Wm (td ty:TE):TE:=λσ H Q=>td σ H λx H1=>ty σ H1 λy H2=>∃a v,x=.ref a/\BQ H2 a y (some v)/\Q v H2
def N1 (ty td:TE):TE:=λσ H Q=>ty σ H λy H1=>td σ H1 λx H2=>∃a o,x=.ref a/\BQ H2 a y o/\Q (.bl (!o.isSome)) H2
def Wn (td ty tv:TE):TS:=λD σ H=>tv σ H λv H1=>td σ H1 λx H2=>ty σ H2 λy H3=>∃a H4,x=.ref a/\xc H3 a y v H4/\D.nx σ H4
section
variable{X:Cx}{o i e value:Expr}{pos pos' aa4:Pos}{td ty tv:TE}
theorem kF (hu:X.A.units+1 < cLine)(ho:PE X o td)(hi:PE X i ty)(hs:Wl i):PE X (.Subscript o i pos) (Wm td ty):=by
 intro pins s σ H Q I h;refine N0 PySem.F.slot_dict_getitem.lookup hs (thn (ho pins s σ H _ I h) λu s1 ⟨x,H1,I1,rx,q1⟩=>thn (hi pins s1 σ H1 _ I1 q1) λiv s2 ⟨y,H2,I2,ry,a,v,ex,g,q2⟩=>?_)
 subst ex;obtain rfl:u=sr a:=rx;exact⟨C7 I2 g,Jr hu I2 g ry λw' s3 I3 rw'=>⟨v,H2,I3,rw',q2⟩⟩
theorem vz (hu:X.A.units+1 < cLine)(hi:PE X i ty)(ho:PE X o td):PC X .NotIn i o (N1 ty td):=by
 intro pins s σ H Q I h;refine thn (hi pins s σ H _ I h) λiv s1 ⟨y,H1,I1,ry,q1⟩=>thn (ho pins s1 σ H1 _ I1 q1) λu s2 ⟨x,H2,I2,rx,a,ov,ex,g,q2⟩=>?_
 subst ex;obtain rfl:u=sr a:=rx;exact NZ hu I2 g ry λs3 I3=>⟨.bl (!ov.isSome),H2,I3,rfl,q2⟩
theorem sy (hu:X.A.units+1 < cLine)(ho:PE X o td)(hi:PE X i ty)(hv:PE X value tv)(hs:swapsWith value (some (.Subscript o i pos')) pos.line X.env=pure false) :
  PS X (.Assign [.Subscript o i pos'] value pos) (Wn td ty tv):=by
 intro pins s σ H D I h;refine wpAny_Assign_Subscript (thn (hv pins s σ H _ I h) λr s1 ⟨v,H1,I1,rv,q1⟩=>thn (ho pins s1 σ H1 _ I1 q1) λu s2 ⟨x,H2,I2,rx,q2⟩=>thn (hi pins s2 σ H2 _ I2 q2) λiv s3 ⟨y,H3,I3,ry,a,H4,ex,g,q3⟩=>?_) hs
 subst ex;obtain rfl:u=sr a:=rx;exact Js hu I3 g ry rv λs4 I4=>⟨σ,H4,I4,q3⟩
end
theorem Lx {P:ma}{w:World}{H:Hp}(h:Heap)(hb:aeu < h.objs.size):fq P w H (h.push { cls:=.type "dict",data:=.dict #[] }) h.objs.size (.dK []) :=
 ⟨ad8 _,beq_eq_false_iff_ne.mpr (adz (tu hb)),[],.nil,Heap.DictOf.new h⟩
def Ri:TE:=λ_ H Q=>∀p,H p=none->Q (.ref p) (upd H p (.dK []))
section
variable{X:Cx}{pos:Pos}
theorem uv:PE X (.Dict [] [] pos) Ri:=λpins s σ H Q I h =>
 wpAny_Dict_empty ⟨.ref s.heap.objs.size,_,I.laid (a:=s.heap.objs.size) (o:=.dK []) (t':=s.toks) (λ_ _ q=>gc _ q) (km _) (Lx s.heap I.big),rfl,h _ (I.hok.fresh (km _))⟩
end
structure M1 (X:Cx)(o:Expr)(m:Str)(apos:Pos)(e:Expr)(gO:Pos):Prop where
 base:attributeBase o m X.env (eval o X.env)=eval o X.env
 few:((backTo gO (si [e] X.env)).all (λx=>!x.1) && (backToKw gO (keywordEach [] X.env)).all (λx=>x.1.isSome)
  && decide (([e]:List Expr).length+([]:List Keyword).length+(if ([]:List Keyword).isEmpty then 0 else 1) < 30))=true
 line:(apos.endLine == gO.line)=true
 trees:backTo gO (si [e] X.env)=[(false,eval e X.env)]
structure M2 (X:Cx)(o:Expr)(m:Str)(apos:Pos)(e f:Expr)(gO:Pos):Prop where
 base:attributeBase o m X.env (eval o X.env)=eval o X.env
 few:((backTo gO (si [e,f] X.env)).all (λx=>!x.1) && (backToKw gO (keywordEach [] X.env)).all (λx=>x.1.isSome)
  && decide (([e,f]:List Expr).length+([]:List Keyword).length+(if ([]:List Keyword).isEmpty then 0 else 1) < 30))=true
 line:(apos.endLine == gO.line)=true
 trees:backTo gO (si [e,f] X.env)=[(false,eval e X.env),(false,eval f X.env)]
def IsD (H:Hp)(a:Addr):Prop:=(∃kvs,Rd H a (.dK kvs))\/∃kvs,Rd H a (.dT kvs)
theorem Rj {X:Cx}{pins:List (Addr×Obj)}{σ:St}{H:Hp}{s:Shared}{a:Addr}(I:Inv X pins σ H s)(d:IsD H a) :
  s.TypeIs (.ref a) "dict"/\(∀b,sr a=.ref b->∃ob,s.heap.get? b=some ob/\ob.dict=none)/\(a == aeu)=false:=by
 rcases d with ⟨kvs,e⟩ | ⟨kvs,e⟩
 ·obtain⟨_,hd,vs,_,dd⟩:=AV I.hok e;refine⟨dd.typeIs,λb q=>?_,hd⟩
  cases q;obtain⟨ob,_,_,h1,h2,_⟩:=dd;exact⟨ob,h1,h2.2.1⟩
 ·obtain⟨_,hd,xs,_,dd⟩:=C6 I.hok e;refine⟨dd.typeIs,λb q=>?_,hd⟩
  cases q;obtain⟨ob,_,_,h1,h2,_⟩:=dd;exact⟨ob,h1,h2.2.1⟩
def Rk (td ty:TE):TE:=λσ H Q=>td σ H λx H1=>∃a,x=.ref a/\IsD H1 a/\ty σ H1 λy H2=>∃kvs k v,H2 a=some (.dK kvs)/\y=kV k/\jN kvs k=some v/\Q v (upd H2 a (.dK (lK kvs k)))
section
variable{X:Cx}{o e f:Expr}{apos gO:Pos}{td ty tx:TE}
theorem Ly (ho:PE X o td)(he:PE X e ty)(m:M1 X o "pop" apos e gO):PE X (.Call (.Attribute o "pop" apos) [e] [] gO) (Rk td ty):=by
 intro pins s σ H Q I h;refine wpAny_Call_method m.base m.few m.line PySem.F.plainAttrs_dict PySem.F.slot_dict_pop PySem.F.type_dict_pop (thn (ho pins s σ H _ I h) λu s1 ⟨x,H1,I1,rx,a,ex,d,q1⟩=>?_)
 subst ex;obtain rfl:u=sr a:=rx;obtain⟨t1,t2,_⟩:=Rj I1 d;refine⟨t1,t2,?_⟩;rw[m.trees];refine Calls.callWith_builtin rfl (Calls.evalArgs_plain (Calls.spliced_cons (thn (he pins s1 σ H1 _ I1 q1) λiv s2 ⟨y,H2,I2,ry,kvs,k,v,ea,ey,l,q2⟩=>Calls.spliced_nil ?_)))
 subst ey;exact Wj I2 ea ry l (.inl rfl) λw' s3 I3 rw'=>⟨v,_,I3,rw',q2⟩
end
section
variable{X:Cx}
theorem Jt:iz X (.builtin "len") (λxs H Q=>∃a kvs,xs=[V.ref a]/\H a=some (.dK kvs)/\Q (.int kvs.length) H):=by
 intro pins s σ H xs us Q I r h;obtain⟨a,kvs,rfl,ha,q⟩:=h;obtain⟨u,rfl,ru⟩:=vals1 r;cases ru;exact Wk I (.inl ha) λt s' I'=>⟨.int kvs.length,H,I',⟨t,rfl⟩,q⟩
end
theorem Room.u1 {k:Nat}{A:Around}(r:Room k A):A.units+1 < cLine:=by have:=r.un;omega
theorem N2 {X:Cx}{K:cb}{e:Expr}{f:Str}{pos:Pos}{ta:TE}(ek:X.K=K)(he:PE X e ta)(hb:attributeBase e f X.env (eval e X.env)=eval e X.env):PE X (.Attribute e f pos) (VV K ta f):=by
 subst ek;exact bp he hb
theorem ints_of:∀(l:List Value) (ns:List Int),l.length=ns.length->(∀(j:Nat) (v:Value),l[j]?=some v->∃n t,ns[j]?=some n/\v=Value.int n t)->IntsAre l ns
 |[],[],_,_=>.nil
 |[],_::_,h,_=>nomatch h
 |_::_,[],h,_=>nomatch h
 |v::l,n::ns,h,g=>by
  obtain⟨n',t,e1,e2⟩:=g 0 v rfl;have e3:n=n':=by simpa using e1
  subst e3;subst e2;exact .cons n t (ints_of l ns (by simpa using h) λj v hv=>g (j+1) v (by simpa using hv))
theorem C8:∀ {vs:List Value} {ns:List Int},IntsAre vs ns->Vals (ns.map V.int) vs
 |_,_,.nil=>.nil
 |_,_,.cons n t h=>.cons ⟨t,rfl⟩ (C8 h)
theorem Pl {κ:Type}:∀ {kvs:List (κ×V)} {vs:List (κ×Value)},KV kvs vs->∀(j:Nat) (q:κ×Value),vs[j]?=some q->(kvs.map (·.1))[j]?=some q.1
 |_,_,.nil,j,q,h=>by simp at h
 |_,_,.cons a r,0,q,h=>by
  rw[adP]at h;cases h;rw[kg,adP,a.1]
 |_,_,.cons a r,j+1,q,h=>by
  have:=Pl r j q (by simpa using h)
  simpa using this
theorem N3 {P:ma}{w:World}{n:Int}{v:Value}(h:(eI P w).is (kr n) v=true):∃t,v=Value.int n t:=by
 rcases eh (k:=kr n) (v:=v) (show yy (kr n) v=true from h) with ⟨i,t,e,rfl⟩ | ⟨x,t,e,rfl⟩
 ·cases e;exact⟨t,rfl⟩
 ·cases e
theorem BR {X:Cx}(hh:X.A.handled=none):iz X (.builtin "sorted") (λxs H Q=>∃a kvs ns,xs=[V.ref a]/\H a=some (.dK kvs)/\kvs.map (·.1)=ns.map kr/\ns.length < 64 /\
  ∀l ns',List.Perm ns' ns->ns'.Pairwise (·<=·)->H l=none->Q (.ref l) (upd H l (.lst (ns'.map V.int)))):=by
 intro pins s σ H xs us Q I r h;obtain⟨a,kvs,ns,rfl,ha,hk,h64,q⟩:=h;obtain⟨u,rfl,ru⟩:=vals1 r;cases ru;obtain⟨z,hd,vs,rel,dd⟩:=Io I.hok ha;obtain⟨ep,hat⟩:=dd.dictAt;have hlen:vs.length=ns.length:=by
  have e1:=congrArg List.length hk;simp only[da]at e1;rw[<-rel.length];exact e1
 refine Calls.call_function_entry kind_sorted plain_sorted entry_sorted (args_sorted1 _) ?_;unfold Builtin.«sorted»;refine di (m:=checkCount "sorted" 1 1 _) (kx ?_);refine di (PySem.W.kdu_collect (A:=X.A.in1) (PySem.W.kdl_dict (knd:=eI X.prog X.w) (kvs:=vs) (ep:=ep) hd) hh hat (by rw[<-rel.length];exact z) λh' tk acc kp Jh=>?_)
 have hsz:acc.toList.length=ns.length:=by rw[aee];exact Jh.1.trans hlen
 have hI:IntsAre acc.toList ns:=ints_of _ _ hsz λj v hv=>by
  obtain⟨k,x,hx,hkv⟩:=Jh.2 j v (by rw[<-Array.getElem?_toList];exact hv)
  have e:=Pl rel j _ hx;rw[hk,adK]at e;cases en:ns[j]? with
  |none=>rw[en]at e;cases e
  |some n =>
   rw[en]at e;have e':kr n=k:=by simpa using e
   subst e';obtain⟨t,rfl⟩:=N3 hkv;exact⟨n,t,rfl,rfl⟩
 refine di (wpAny_newList ?_ (by rw[hsz];rw[sizeLine_eq];omega))
 have hoL:(h'.push (seqObj "list" acc.toList.toArray 0)).get? h'.objs.size=some (seqObj "list" acc.toList.toArray 0):=tm _ rfl;refine di (adV (wpAny_call_entry slot_list_sort ⟨_,hoL,rfl⟩ entry_list_sort (list_sort_tree hoL hI (by omega) λout ns' a1 a2 a3=>⟨_,rfl,?_⟩) (args_list_sort _)))
 refine kx ⟨_,rfl,?_⟩;obtain⟨e,he⟩:=sortedHeap_at (out:=out) hoL;have I1:Inv X pins σ H { s with heap:=h',toks:=tk }:=I.un (Un.kept kp) (I.hok.kept kp)
 refine⟨.ref h'.objs.size,_,I1.laid (t':=tk) (λb o hb=>?_) (km _) (show fq X.prog X.w _ _ _ (.lst (ns'.map V.int)) from ⟨?_,_,e,C8 a1,?_⟩),rfl,q _ ns' a2 a3 (I1.hok.fresh (km _))⟩
 ·have hb':h'.get? b=some o:=hb;have hlt:=ky hb';rw[sortedHeap_old (tu hlt) (by rw[size_push'];exact Nat.lt_succ_of_lt hlt)]
  exact gc _ hb'
 ·rw[da,a2.length_eq,sizeLine_eq];omega
 ·rw[Array.toArray_toList];exact he
theorem Ju:ad0 "sorted"=some (.builtin "sorted"):=by trivial
theorem Lz {X:Cx}{f:Value}{r1 r2:List V->Hp->VK->Prop}(h1:iz X f r1)(h2:iz X f r2):iz X f (λxs H Q=>r1 xs H Q\/r2 xs H Q):=by
 intro pins s σ H xs us Q I r h;rcases h with h | h
 ·exact h1 pins s σ H xs us Q I r h
 ·exact h2 pins s σ H xs us Q I r h
theorem aN {P:Prop}(h:∀G:Prop,(P->G)->G):P:=h P id
theorem ixv {s:Option (Option V)}{p:Addr}{n:Int}{S:Addr->List V->Prop}{xs:List V}{z:V}{R:V->Prop}(h0:s=some (some (.ref p)))(h1:S p xs)(h2:atI xs n=some z)(h:R z):∃v,s=some (some v)/\∃q ys i w,v=.ref q/\V.int n=.int i/\S q ys/\atI ys i=some w/\R w :=
 ⟨_,h0,p,xs,n,z,rfl,rfl,h1,h2,h⟩
theorem fh {K:cb}{s:Option (Option V)}{H:Hp}{a C dx:Addr}{fs:List (Str×V)}{f:Str}{w:V}{R:V->Prop}(h0:s=some (some (.ref a)))(h1:H a=some (.ins C dx fs))(h2:Cls K C)(h3:eA K C f)(h4:fs.lookup f=some w)(h:R w) :
  ∃v,s=some (some v)/\∃a C dx fs w,v=.ref a/\H a=some (.ins C dx fs)/\Cls K C/\eA K C f/\fs.lookup f=some w/\R w:=⟨_,h0,a,C,dx,fs,w,rfl,h1,h2,h3,h4,h⟩
theorem mtv {s:Option (Option V)}{H:Hp}{a C dx:Addr}{fs:List (Str×V)}{m:Str}{R:V->Prop}(h0:s=some (some (.ref a)))(h1:H a=some (.ins C dx fs))(h2:fs.lookup m=none)(h:R (.ref a)) :
  ∃v,s=some (some v)/\∃a dx fs,v=.ref a/\H a=some (.ins C dx fs)/\fs.lookup m=none/\R v:=⟨_,h0,a,dx,fs,rfl,h1,h2,h⟩
theorem tsf {b:Bool}{P Q:Prop}(h:b=false)(q:Q):∃k,V.bl b=.bl k/\if k=true then P else Q:=⟨b,rfl,by rw[h];exact q⟩
theorem tst {b:Bool}{P Q:Prop}(h:b=true)(q:P):∃k,V.bl b=.bl k/\if k=true then P else Q:=⟨b,rfl,by rw[h];exact q⟩
def scB (N P:List Str)(sc:Scope):Bool:=(match sc.kind with | .function=>true | _=>false) && !sc.isCoroutine && !sc.isGenerator && decide N.Nodup && decide (N.take P.length=P) && decide (∀x∈P,sc.names.lookup x=some .local\/sc.names.lookup x=some .cell) && decide (∀y∈sc.names,y.2≠.free)
theorem fsc {N P:List Str}{sc:Scope}(h:scB N P sc=true):az N P sc:=by
 unfold scB at h;simp only[adO,Bool.not_eq_true',decide_eq_true_eq]at h;obtain⟨⟨⟨⟨⟨⟨h1,h2⟩,h3⟩,h4⟩,h5⟩,h6⟩,h7⟩:=h;refine⟨?_,h2,h3,h4,h5,h6,h7⟩;split at h1
 ·assumption
 ·cases h1
end L2
namespace My
open PySem L2
seal PySem.wpAny
def top (i:Nat):Stmt:=PySem.Challenge.pw_moot_k14_refusals_apart.main.body.getD i (.Pass ⟨0,0,0,0⟩)
abbrev gk:Stmt:=inClass (top 24) 1
theorem yS:az ["self"] ["self"] (ag gk):=fsc (by trivial)
abbrev gm:Stmt:=inClass (top 25) 1
theorem yT:az ["self"] ["self"] (ag gm):=fsc (by trivial)
abbrev iU:Stmt:=inClass (top 26) 1
theorem BS:az ["self"] ["self"] (ag iU):=fsc (by trivial)
abbrev gs:Stmt:=inClass (top 27) 1
theorem yU:az ["self"] ["self"] (ag gs):=fsc (by trivial)
abbrev hV:Stmt:=inClass (top 28) 0
theorem Ag:az ["self"] ["self"] (ag hV):=fsc (by trivial)
abbrev jO:Stmt:=inClass (top 29) 0
theorem C9:az ["self"] ["self"] (ag jO):=fsc (by trivial)
abbrev iV:Stmt:=inClass (top 30) 0
theorem BU:az ["self"] ["self"] (ag iV):=fsc (by trivial)
abbrev hX:Stmt:=inClass (top 31) 1
theorem Ah:az ["self"] ["self"] (ag hX):=fsc (by trivial)
abbrev gu:Stmt:=inClass (top 23) 1
theorem yV:az ["self"] ["self"] (ag gu):=fsc (by trivial)
abbrev gv:Stmt:=inClass (top 23) 2
theorem yW:az ["self"] ["self"] (ag gv):=fsc (by trivial)
abbrev hZ:Stmt:=inClass (top 28) 1
theorem Ai:az ["self"] ["self"] (ag hZ):=fsc (by trivial)
abbrev gw:Stmt:=inClass (top 23) 3
theorem yX:az ["self"] ["self"] (ag gw):=fsc (by trivial)
abbrev gx:Stmt:=inClass (top 24) 2
theorem yY:az ["self"] ["self"] (ag gx):=fsc (by trivial)
abbrev gy:Stmt:=inClass (top 25) 2
theorem yZ:az ["self"] ["self"] (ag gy):=fsc (by trivial)
abbrev iW:Stmt:=inClass (top 26) 2
theorem BV:az ["self"] ["self"] (ag iW):=fsc (by trivial)
abbrev gz:Stmt:=inClass (top 27) 2
theorem y0:az ["self"] ["self"] (ag gz):=fsc (by trivial)
abbrev ia:Stmt:=inClass (top 31) 2
theorem Aj:az ["self"] ["self"] (ag ia):=fsc (by trivial)
abbrev gA:Stmt:=inClass (top 24) 0
theorem y3:az ["self","text"] ["self","text"] (ag gA):=fsc (by trivial)
abbrev gB:Stmt:=inClass (top 25) 0
theorem y4:az ["self","edit"] ["self","edit"] (ag gB):=fsc (by trivial)
abbrev iX:Stmt:=inClass (top 26) 0
theorem BW:az ["self","edit"] ["self","edit"] (ag iX):=fsc (by trivial)
abbrev gC:Stmt:=inClass (top 27) 0
theorem y6:az ["self","sitting"] ["self","sitting"] (ag gC):=fsc (by trivial)
abbrev ib:Stmt:=inClass (top 31) 0
theorem Ak:az ["self","clause"] ["self","clause"] (ag ib):=fsc (by trivial)
abbrev gD:Stmt:=inClass (top 4) 0
theorem y7:az ["self","bar"] ["self","bar"] (ag gD):=fsc (by trivial)
abbrev eM:Stmt:=inClass (top 7) 0
theorem vA:az ["self","sitting"] ["self","sitting"] (ag eM):=fsc (by trivial)
abbrev gF:Stmt:=inClass (top 11) 0
theorem y8:az ["self","sitting"] ["self","sitting"] (ag gF):=fsc (by trivial)
abbrev fD:Stmt:=inClass (top 48) 0
theorem xg:az ["self","seats"] ["self","seats"] (ag fD):=fsc (by trivial)
abbrev fE:Stmt:=inClass (top 48) 1
theorem p7:az ["self","told","number"] ["self","told"] (ag fE):=fsc (by trivial)
abbrev fF:Stmt:=inClass (top 48) 2
theorem lh:az ["self","ayes","noes","motion","word"] ["self","ayes","noes"] (ag fF):=fsc (by trivial)
abbrev fG:Stmt:=inClass (top 48) 3
theorem xh:az ["self"] ["self"] (ag fG):=fsc (by trivial)
abbrev fH:Stmt:=inClass (top 48) 4
theorem p8:az ["self","number","until"] ["self","number"] (ag fH):=fsc (by trivial)
abbrev d6:Stmt:=inClass (top 48) 6
theorem vB:az ["self","aside"] ["self"] (ag d6):=fsc (by trivial)
abbrev lO:Scope:={ kind:=.function,names:=[(ar ".0",.local),(ar "number",.local),(ar "self",.free)],isGenerator:=false,isCoroutine:=false,more:=[] }
theorem tH:dM lO (ag d6) "number" ["self","aside"] ["self","aside"]:=⟨rfl,rfl,by trivial,by trivial,rfl,by trivial,by trivial,by trivial,by trivial,rfl,by trivial,by trivial⟩
abbrev ei:Stmt:=inClass (top 48) 7
theorem uw:az ["self","number"] ["self","number"] (ag ei):=fsc (by trivial)
abbrev cJ:Stmt:=inClass (top 48) 9
theorem oJ:az ["self","number"] ["self","number"] (ag cJ):=fsc (by trivial)
abbrev c8:Stmt:=inClass (top 48) 10
theorem qu:az ["self","number"] ["self","number"] (ag c8):=fsc (by trivial)
abbrev d3:Stmt:=inClass (top 48) 11
theorem tI:az ["self"] ["self"] (ag d3):=fsc (by trivial)
abbrev dq:Stmt:=inClass (top 48) 12
theorem tJ:az ["self"] ["self"] (ag dq):=fsc (by trivial)
abbrev jH:Scope:={ kind:=.function,names:=[(ar ".0",.local),(ar "number",.local),(ar "self",.free)],isGenerator:=false,isCoroutine:=false,more:=[] }
theorem qQ:dM jH (ag dq) "number" ["self"] ["self"]:=⟨rfl,rfl,by trivial,by trivial,rfl,by trivial,by trivial,by trivial,by trivial,rfl,by trivial,by trivial⟩
abbrev dc:Stmt:=inClass (top 48) 13
theorem jI:az ["self","number","waiting"] ["self","number"] (ag dc):=fsc (by trivial)
abbrev bX:Stmt:=inClass (top 48) 14
theorem dN:az ["self","told","kind","pile"] ["self","told"] (ag bX):=fsc (by trivial)
abbrev cA:Stmt:=inClass (top 48) 15
theorem mn:az ["self"] ["self"] (ag cA):=fsc (by trivial)
abbrev cC:Stmt:=inClass (top 48) 16
theorem nc:az ["self","number"] ["self","number"] (ag cC):=fsc (by trivial)
abbrev ej:Stmt:=inClass (top 48) 17
theorem ux:az ["self","word"] ["self","word"] (ag ej):=fsc (by trivial)
abbrev cK:Stmt:=inClass (top 48) 18
theorem oK:az ["self","deed"] ["self","deed"] (ag cK):=fsc (by trivial)
abbrev dH:Stmt:=inClass (top 48) 19
theorem kM:az ["self","motion","kind"] ["self","motion"] (ag dH):=fsc (by trivial)
abbrev cG:Stmt:=inClass (top 48) 20
theorem iB:az ["self","edit","number"] ["self","edit"] (ag cG):=fsc (by trivial)
abbrev cH:Stmt:=inClass (top 48) 21
theorem dU:az ["self","edit","number","change","words"] ["self","edit"] (ag cH):=fsc (by trivial)
abbrev dI:Stmt:=inClass (top 48) 22
theorem qR:az ["self","until"] ["self","until"] (ag dI):=fsc (by trivial)
abbrev vC:Stmt:=top 16
theorem BX:az ["things","edit","places"] ["things","edit"] (ag vC):=fsc (by trivial)
abbrev gG:Stmt:=top 17
theorem y9:az ["things","edit"] ["things","edit"] (ag gG):=fsc (by trivial)
abbrev vD:Stmt:=top 18
theorem yt:az ["things","edit","kind","place","behind"] ["things","edit"] (ag vD):=fsc (by trivial)
abbrev jP:Stmt:=top 19
theorem Dc:az ["clause"] ["clause"] (ag jP):=fsc (by trivial)
abbrev iY:Stmt:=top 20
theorem BY:az ["words"] ["words"] (ag iY):=fsc (by trivial)
abbrev iZ:Stmt:=top 32
theorem lV:az ["told","kind"] ["told"] (ag iZ):=fsc (by trivial)
abbrev oM:Stmt:=top 35
theorem AW:az ["pile","closed","bar"] ["pile","closed"] (ag oM):=fsc (by trivial)
abbrev fV:Stmt:=top 36
theorem Al:az ["pile"] ["pile"] (ag fV):=fsc (by trivial)
abbrev oN:Scope:={ kind:=.function,names:=[(ar ".0",.local),(ar "motion",.local)],isGenerator:=false,isCoroutine:=false,more:=[] }
theorem xj:dM oN (ag fV) "motion" ["pile"] ["pile"]:=⟨rfl,rfl,by trivial,by trivial,rfl,by trivial,by trivial,by trivial,by trivial,rfl,by trivial,by trivial⟩
abbrev eN:Stmt:=top 37
theorem oO:az ["pile","told"] ["pile"] (ag eN):=fsc (by trivial)
abbrev dJ:Stmt:=top 38
theorem qS:az ["kind","pile"] ["kind","pile"] (ag dJ):=fsc (by trivial)
abbrev dO:Stmt:=top 39
theorem lP:az ["kind","pile","closed","bar"] ["kind","pile","closed"] (ag dO):=fsc (by trivial)
abbrev eO:Stmt:=top 41
theorem jQ:az ["text","words","clause"] ["text"] (ag eO):=fsc (by trivial)
abbrev eP:Stmt:=top 42
theorem oQ:az ["edit","words"] ["edit"] (ag eP):=fsc (by trivial)
abbrev eD:Stmt:=top 43
theorem p9:az ["deed","kind"] ["deed"] (ag eD):=fsc (by trivial)
abbrev mq:Scope:={ kind:=.function,names:=[(ar ".0",.local),(ar "number",.local),(ar "str",.globalImplicit)],isGenerator:=false,isCoroutine:=false,more:=[] }
theorem uy:dM mq (ag eD) "number" ["deed","kind"] ["deed","kind"]:=⟨rfl,rfl,by trivial,by trivial,rfl,by trivial,by trivial,by trivial,by trivial,rfl,by trivial,by trivial⟩
abbrev i3:Stmt:=top 44
theorem BZ:az ["deed"] ["deed"] (ag i3):=fsc (by trivial)
abbrev mf:Stmt:=top 46
theorem Gf:az ["need","ayes","noes"] ["need","ayes","noes"] (ag mf):=fsc (by trivial)
abbrev i4:Stmt:=top 50
theorem B0:az ["_law_script","_law_k"] ["_law_script","_law_k"] (ag i4):=fsc (by trivial)
abbrev oR:Stmt:=top 51
theorem oS:az ["_law_cell","_law_signs","_law_word_here","_law_k"] ["_law_cell"] (ag oR):=fsc (by trivial)
abbrev jR:Stmt:=top 52
theorem kO:az ["_law_cell","_law_words","_law_number","_law_k"] ["_law_cell"] (ag jR):=fsc (by trivial)
abbrev vE:Stmt:=top 54
theorem N4:az ["_law_chamber","_law_deed"] ["_law_chamber","_law_deed"] (ag vE):=fsc (by trivial)
abbrev jS:Stmt:=top 55
theorem bZ:az ["_law_script","_law_one","_law_text","_law_big","_law_matter","_law_put","_law_cut","_law_word_here","_law_cases_here","_law_size","_law_aside"] ["_law_script"] (ag jS):=fsc (by trivial)
abbrev sU:Scope:={ kind:=.function,names:=[(ar ".0",.local),(ar "_law_sign",.local)],isGenerator:=false,isCoroutine:=false,more:=[] }
theorem B1:dM sU (ag jS) "_law_sign" ["_law_script","_law_one","_law_text","_law_big","_law_matter","_law_put","_law_cut","_law_word_here","_law_cases_here","_law_size","_law_aside"] ["_law_script","_law_one","_law_text","_law_big","_law_matter","_law_put","_law_cut","_law_word_here","_law_cases_here","_law_size","_law_aside"]:=⟨rfl,rfl,by trivial,by trivial,rfl,by trivial,by trivial,by trivial,by trivial,rfl,by trivial,by trivial⟩
abbrev oU:Stmt:=top 56
theorem Jv:az ["_law_e"] ["_law_e"] (ag oU):=fsc (by trivial)
abbrev mr:Stmt:=top 57
theorem sA:az ["_law_e","_law_some"] ["_law_e"] (ag mr):=fsc (by trivial)
abbrev uz:Scope:={ kind:=.function,names:=[(ar ".0",.local),(ar "_law_one",.local)],isGenerator:=false,isCoroutine:=false,more:=[] }
theorem De:dM uz (ag mr) "_law_one" ["_law_e","_law_some"] ["_law_e","_law_some"]:=⟨rfl,rfl,by trivial,by trivial,rfl,by trivial,by trivial,by trivial,by trivial,rfl,by trivial,by trivial⟩
abbrev sV:Stmt:=top 58
theorem lj:az ["_law_script","_law_cases_here","_law_ahead","_law_deed","_law_due","_law_chamber","_law_one","_law_state","_law_rows","_law_told_here","_law_e"] ["_law_script"] (ag sV):=fsc (by trivial)
structure Adr where
 fits:Addr
 B2:kb
 qT:Addr
 mw:kb
 laid:Addr
 B3:kb
 words_of:Addr
 i5:kb
 oV:Addr
 ji:kb
 oW:Addr
 jj:kb
 Gg:Addr
 vF:kb
 tK:Addr
 nP:kb
 nQ:Addr
 jT:kb
 jk:Addr
 gQ:kb
 jU:Addr
 ir:kb
 nR:Addr
 jV:kb
 nS:Addr
 jW:kb
 pP:Addr
 ll:kb
 mh:Addr
 ic:kb
 B4:Addr
 tL:kb
 sC:Addr
 lW:kb
 Gh:Addr
 vG:kb
 za:Addr
 qU:kb
 Rm:Addr
 B5:kb
 B6:Addr
 tM:kb
 Gi:Addr
 vH:kb
 Gj:Addr
 vI:kb
 kG:Tok
 c0:Addr
 c1:Addr
 c2:Addr
 c3:Addr
 c4:Addr
 c5:Addr
 c6:Addr
 c7:Addr
 Cm:Addr
 tab:Addr
 Rn:Addr
 LA:kb
 Ro:Addr
 LB:kb
 Rp:Addr
 LC:kb
 Rq:Addr
 LD:kb
 Rr:Addr
 LF:kb
 Rt:Addr
 LG:kb
 Ru:Addr
 LH:kb
 Rv:Addr
 LI:kb
 f_r:Addr
 N5:kb
 f_n:Addr
 B7:kb
 Rw:Addr
 LJ:kb
 f_t:Addr
 LK:kb
 Rx:Addr
 LL:kb
 Ry:Addr
 LM:kb
 Rz:Addr
 LN:kb
 RA:Addr
 LO:kb
 RB:Addr
 LP:kb
 RC:Addr
 LQ:kb
 RD:Addr
 LR:kb
 RE:Addr
 LS:kb
 RF:Addr
 LU:kb
 RG:Addr
 LW:kb
 ak:Addr
 du:Addr
 lx:kb
 dz:Addr
 ly:kb
 dA:Addr
 lz:kb
 dB:Addr
 lB:kb
 dC:Addr
 lC:kb
 cX:Addr
 jX:kb
 cL:Addr
 jl:kb
 bU:Addr
 fJ:kb
 cc:Addr
 gH:kb
 cE:Addr
 iK:kb
 cF:Addr
 iL:kb
 cf:Addr
 gI:kb
 a7:Addr
 dP:kb
 bF:Addr
 eE:kb
 bK:Addr
 eK:kb
 cM:Addr
 jm:kb
 bV:Addr
 fK:kb
 cn:Addr
 gR:kb
 bP:Addr
 eZ:kb
 bQ:Addr
 fb:kb
 cq:Addr
 gS:kb
 cv:Addr
 cj:Addr
 bL:Addr
 bc:Addr
 bf:Addr
 aU:Addr
 bB:Addr
 bD:Addr
 bE:Addr
 bM:Addr
 aS:Addr
 ie:Addr
 fL:Addr
 zb:Addr
 vJ:kb
 tN:Addr
 qV:kb
 zc:Addr
 vK:kb
def Adr.C (A:Adr):Nat->Addr
 | 0=>A.c0
 | 1=>A.c1
 | 2=>A.c2
 | 3=>A.c3
 | 4=>A.c4
 | 5=>A.c5
 | 6=>A.c6
 |_=>A.c7
def Adr.fk (A:Adr):Nat->Addr
 | 0=>A.Rn
 | 1=>A.Ro
 | 2=>A.Rp
 | 3=>A.Rq
 | 4=>A.Rr
 | 5=>A.Rt
 | 6=>A.Ru
 |_=>A.Rv
def Adr.fkd (A:Adr):Nat->kb
 | 0=>A.LA
 | 1=>A.LB
 | 2=>A.LC
 | 3=>A.LD
 | 4=>A.LF
 | 5=>A.LG
 | 6=>A.LH
 |_=>A.LI
def Adr.fn (A:Adr):Nat->Addr
 | 0=>A.f_n
 | 1=>A.f_n
 | 2=>A.f_n
 | 3=>A.f_n
 | 4=>A.Rw
 | 5=>A.f_n
 | 6=>A.f_n
 |_=>A.f_n
def Adr.fnd (A:Adr):Nat->kb
 | 0=>A.B7
 | 1=>A.B7
 | 2=>A.B7
 | 3=>A.B7
 | 4=>A.LJ
 | 5=>A.B7
 | 6=>A.B7
 |_=>A.B7
def Adr.ft (A:Adr):Nat->Addr
 | 0=>A.Rx
 | 1=>A.Ry
 | 2=>A.Rz
 | 3=>A.RA
 | 4=>A.f_t
 | 5=>A.f_t
 | 6=>A.f_t
 |_=>A.RB
def Adr.ftd (A:Adr):Nat->kb
 | 0=>A.LL
 | 1=>A.LM
 | 2=>A.LN
 | 3=>A.LO
 | 4=>A.LK
 | 5=>A.LK
 | 6=>A.LK
 |_=>A.LP
def nm:Nat->Str
 | 0=>ar "matter"
 | 1=>ar "change"
 | 2=>ar "mend"
 | 3=>ar "put off"
 | 4=>ar "close"
 | 5=>ar "lay"
 | 6=>ar "rest"
 |_=>ar "point"
structure Txt (P:Params)(K:cb)(mg:Str->Option Value)(A:Adr):Prop where
 Gk:Fun K "fits" "fits" vC A.fits A.B2
 LX:Binds K A.B2 ["things","edit"] []
 LY:mg "fits"=some (.ref A.fits)
 iC:Fun K "require_fit" "require_fit" gG A.qT A.mw
 kH:Binds K A.mw ["things","edit"] []
 kJ:mg "require_fit"=some (.ref A.qT)
 B8:Fun K "laid" "laid" vD A.laid A.B3
 Gm:Binds K A.B3 ["things","edit"] []
 Gn:mg "laid"=some (.ref A.laid)
 iM:Fun K "words_of" "words_of" jP A.words_of A.i5
 jY:Binds K A.i5 ["clause"] []
 jZ:mg "words_of"=some (.ref A.words_of)
 nB:Fun K "clause_of" "clause_of" iY A.oV A.ji
 qW:Binds K A.ji ["words"] []
 qX:mg "clause_of"=some (.ref A.oV)
 nC:Fun K "motion_of" "motion_of" iZ A.oW A.jj
 wG:Binds K A.jj ["told"] []
 wH:mg "motion_of"=some (.ref A.oW)
 uA:Fun K "bar_of" "bar_of" oM A.Gg A.vF
 zd:Binds K A.vF ["pile","closed"] []
 ze:mg "bar_of"=some (.ref A.Gg)
 lX:Fun K "has_matter" "has_matter" fV A.tK A.nP
 pQ:Binds K A.nP ["pile"] []
 pR:mg "has_matter"=some (.ref A.tK)
 lD:Fun K "can_be_mended" "can_be_mended" eN A.nQ A.jT
 qa:Binds K A.jT ["pile"] []
 qb:mg "can_be_mended"=some (.ref A.nQ)
 iu:Fun K "has_what_it_needs" "has_what_it_needs" dJ A.jk A.gQ
 lQ:Binds K A.gQ ["kind","pile"] []
 lR:mg "has_what_it_needs"=some (.ref A.jk)
 iN:Fun K "require_in_order" "require_in_order" dO A.jU A.ir
 mx:Binds K A.ir ["kind","pile","closed"] []
 my:mg "require_in_order"=some (.ref A.jU)
 lE:Fun K "words_of_text" "words_of_text" eO A.nR A.jV
 qc:Binds K A.jV ["text"] []
 qd:mg "words_of_text"=some (.ref A.nR)
 lF:Fun K "words_of_edit" "words_of_edit" eP A.nS A.jW
 qe:Binds K A.jW ["edit"] []
 qf:mg "words_of_edit"=some (.ref A.nS)
 mz:Fun K "words_behind" "words_behind" eD A.pP A.ll
 qY:Binds K A.ll ["deed"] []
 qZ:mg "words_behind"=some (.ref A.pP)
 kP:Fun K "show_deed" "show_deed" i3 A.mh A.ic
 nD:Binds K A.ic ["deed"] []
 nF:mg "show_deed"=some (.ref A.mh)
 vL:Fun K "is_kept" "is_kept" mf A.B4 A.tL
 AX:Binds K A.tL ["need","ayes","noes"] []
 AY:mg "is_kept"=some (.ref A.B4)
 gU:Fun K "_law_cell_at" "_law_cell_at" i4 A.sC A.lW
 i6:Binds K A.lW ["_law_script","_law_k"] []
 i7:mg "_law_cell_at"=some (.ref A.sC)
 uB:Fun K "_law_word" "_law_word" oR A.Gh A.vG
 zf:Binds K A.vG ["_law_cell"] []
 zg:mg "_law_word"=some (.ref A.Gh)
 pS:Fun K "_law_clause" "_law_clause" jR A.za A.qU
 tO:Binds K A.qU ["_law_cell"] []
 tP:mg "_law_clause"=some (.ref A.za)
 B9:Fun K "_law_do" "_law_do" vE A.Rm A.B5
 Gp:Binds K A.B5 ["_law_chamber","_law_deed"] []
 Gr:mg "_law_do"=some (.ref A.Rm)
 vM:Fun K "_law_cases" "_law_cases" jS A.B6 A.tM
 AZ:Binds K A.tM ["_law_script"] []
 A0:mg "_law_cases"=some (.ref A.B6)
 zh:Fun K "_law_told" "_law_told" oU A.Gi A.vH
 Df:Binds K A.vH ["_law_e"] []
 Dg:mg "_law_told"=some (.ref A.Gi)
 zi:Fun K "_law_many" "_law_many" mr A.Gj A.vI
 Dh:Binds K A.vI ["_law_e"] []
 Di:mg "_law_many"=some (.ref A.Gj)
 Ca:mg "range"=none
 mB:mg "list"=none
 bq:mg "isinstance"=none
 zj:mg "len"=none
 Pm:mg "max"=none
 Pn:mg "any"=none
 LZ:mg "str"=none
 Dj:mg "sorted"=none
 L3:mg "int"=none
 uC:mg "ValueError"=none
 uD:mg "CLOSED_BAR"=some (.int 4 A.kG)
 cl:∀k,k < 8->Cls K (A.C k)
 uE:mg "Matter"=some (.ref (A.C 0))
 uF:mg "Change"=some (.ref (A.C 1))
 Gs:mg "Mend"=some (.ref (A.C 2))
 zk:mg "PutOff"=some (.ref (A.C 3))
 Cb:mg "Close"=some (.ref (A.C 4))
 L4:mg "Lay"=some (.ref (A.C 5))
 Gu:mg "Rest"=some (.ref (A.C 6))
 Cc:mg "Point"=some (.ref (A.C 7))
 Cd:mg "RANKS"=some (.ref A.tab)
 tb:Wb P K A.tab
 rk:∀k,k < 8->∃t,fe K A.tab (nm k)=some (some (.int k t))
 nU:∀k,k < 8->Meth K (A.C k) "kind" (A.fk k)
 nW:∀k,k < 8->Binds K (A.fkd k) ["self"] []
 L5:∀k,k < 8->Meth K (A.C k) "need" (A.fn k)
 L6:∀k,k < 8->Binds K (A.fnd k) ["self"] []
 Gv:∀k,k < 8->Meth K (A.C k) "told" (A.ft k)
 Gw:∀k,k < 8->Binds K (A.ftd k) ["self"] []
 L7:∀k,k < 8->Meth K (A.C k) "rank" A.f_r
 L8:∀k,k < 8->Binds K A.N5 ["self"] []
 Wo:Fun K "kind" "Matter.kind" gk A.Rn A.LA
 Wq:Fun K "kind" "Change.kind" gm A.Ro A.LB
 Ws:Fun K "kind" "Mend.kind" iU A.Rp A.LC
 Wt:Fun K "kind" "PutOff.kind" gs A.Rq A.LD
 Wu:Fun K "kind" "Close.kind" hV A.Rr A.LF
 Wv:Fun K "kind" "Lay.kind" jO A.Rt A.LG
 Ww:Fun K "kind" "Rest.kind" iV A.Ru A.LH
 Wx:Fun K "kind" "Point.kind" hX A.Rv A.LI
 F_r:Fun K "rank" "Motion.rank" gu A.f_r A.N5
 F_n:Fun K "need" "Motion.need" gv A.f_n A.B7
 Wy:Fun K "need" "Close.need" hZ A.Rw A.LJ
 F_t:Fun K "told" "Motion.told" gw A.f_t A.LK
 Wz:Fun K "told" "Matter.told" gx A.Rx A.LL
 WA:Fun K "told" "Change.told" gy A.Ry A.LM
 WB:Fun K "told" "Mend.told" iW A.Rz A.LN
 WC:Fun K "told" "PutOff.told" gz A.RA A.LO
 WD:Fun K "told" "Point.told" ia A.RB A.LP
 WE:Fun K "__init__" "Matter.__init__" gA A.RC A.LQ
 WG:Fun K "__init__" "Change.__init__" gB A.RD A.LR
 WH:Fun K "__init__" "Mend.__init__" iX A.RE A.LS
 WI:Fun K "__init__" "PutOff.__init__" gC A.RF A.LU
 WJ:Fun K "__init__" "Point.__init__" ib A.RG A.LW
 uG:Mk K (A.C 0) A.RC
 N6:Binds K A.LQ ["self","text"] []
 na0:eA K (A.C 0) "text"
 uH:Mk K (A.C 1) A.RD
 N7:Binds K A.LR ["self","edit"] []
 na1:eA K (A.C 1) "edit"
 Gx:Mk K (A.C 2) A.RE
 RH:Binds K A.LS ["self","edit"] []
 na2:eA K (A.C 2) "edit"
 zm:Mk K (A.C 3) A.RF
 RI:Binds K A.LU ["self","sitting"] []
 na3:eA K (A.C 3) "sitting"
 Ce:Mk K (A.C 7) A.RG
 RJ:Binds K A.LW ["self","clause"] []
 na7:eA K (A.C 7) "clause"
 mkn:∀k,k=4\/k=5\/k=6->MkN K (A.C k)
 A1:mg "Chamber"=some (.ref A.ak)
 ai:Cls K A.ak
 gW:Fun K "__init__" "Chamber.__init__" fD A.du A.lx
 jn:Binds K A.lx ["self","seats"] []
 A2:Mk K A.ak A.du
 gX:Fun K "move" "Chamber.move" fE A.dz A.ly
 jo:Binds K A.ly ["self","told"] []
 q0:Meth K A.ak "move" A.dz
 gY:Fun K "vote" "Chamber.vote" fF A.dA A.lz
 jq:Binds K A.lz ["self","ayes","noes"] []
 q5:Meth K A.ak "vote" A.dA
 gZ:Fun K "drop" "Chamber.drop" fG A.dB A.lB
 jr:Binds K A.lB ["self"] []
 q8:Meth K A.ak "drop" A.dB
 g0:Fun K "take" "Chamber.take" fH A.dC A.lC
 js:Binds K A.lC ["self","number"] []
 q9:Meth K A.ak "take" A.dC
 f9:Fun K "state" "Chamber.state" d6 A.cX A.jX
 gb:Binds K A.jX ["self"] []
 lG:Meth K A.ak "state" A.cX
 fM:Fun K "motion" "Chamber.motion" ei A.cL A.jl
 ig:Binds K A.jl ["self","number"] []
 oX:Meth K A.ak "motion" A.cL
 dD:Fun K "kept_changes" "Chamber.kept_changes" cJ A.bU A.fJ
 ef:Binds K A.fJ ["self","number"] []
 jt:Meth K A.ak "kept_changes" A.bU
 dX:Fun K "first_text" "Chamber.first_text" c8 A.cc A.gH
 eR:Binds K A.gH ["self","number"] []
 kQ:Meth K A.ak "first_text" A.cc
 eS:Fun K "minutes" "Chamber.minutes" d3 A.cE A.iK
 eT:Binds K A.iK ["self"] []
 ju:Meth K A.ak "minutes" A.cE
 eU:Fun K "pending" "Chamber.pending" dq A.cF A.iL
 eV:Binds K A.iL ["self"] []
 jv:Meth K A.ak "pending" A.cF
 dY:Fun K "told_aside" "Chamber.told_aside" dc A.cf A.gI
 eW:Binds K A.gI ["self","number"] []
 kR:Meth K A.ak "told_aside" A.cf
 cy:Fun K "require_can_be_made" "Chamber.require_can_be_made" bX A.a7 A.dP
 cT:Binds K A.dP ["self","told"] []
 fU:Meth K A.ak "require_can_be_made" A.a7
 cO:Fun K "require_pending" "Chamber.require_pending" cA A.bF A.eE
 cP:Binds K A.eE ["self"] []
 eL:Meth K A.ak "require_pending" A.bF
 cU:Fun K "require_matter" "Chamber.require_matter" cC A.bK A.eK
 cV:Binds K A.eK ["self","number"] []
 fg:Meth K A.ak "require_matter" A.bK
 fN:Fun K "decide" "Chamber.decide" ej A.cM A.jm
 fO:Binds K A.jm ["self","word"] []
 j0:Meth K A.ak "decide" A.cM
 dE:Fun K "end_decision" "Chamber.end_decision" cK A.bV A.fK
 dF:Binds K A.fK ["self","deed"] []
 fW:Meth K A.ak "end_decision" A.bV
 d8:Fun K "carry_out" "Chamber.carry_out" dH A.cn A.gR
 fj:Binds K A.gR ["self","motion"] []
 lS:Meth K A.ak "carry_out" A.cn
 df:Fun K "lay_on_matter" "Chamber.lay_on_matter" cG A.bP A.eZ
 d4:Binds K A.eZ ["self","edit"] []
 i8:Meth K A.ak "lay_on_matter" A.bP
 dg:Fun K "lay_on_change" "Chamber.lay_on_change" cH A.bQ A.fb
 d5:Binds K A.fb ["self","edit"] []
 i9:Meth K A.ak "lay_on_change" A.bQ
 d9:Fun K "put_aside" "Chamber.put_aside" dI A.cq A.gS
 ee:Binds K A.gS ["self","until"] []
 iw:Meth K A.ak "put_aside" A.cq
 jq1f:eA K A.ak "seats"
 jq1:eA K A.ak "sitting"
 jq4:eA K A.ak "closed"
 jq2:eA K A.ak "made"
 jq0:eA K A.ak "pile"
 jq3:eA K A.ak "aside"
 jqk:eA K A.ak "decided"
 jq5:eA K A.ak "first_texts"
 jq6:eA K A.ak "edits_kept"
 jqc:eA K A.ak "rows"
 g7:mg "ChamberError"=some (.ref A.cv)
 yu:mg "NoFit"=some (.ref A.cj)
 rb:mg "Barred"=some (.ref A.bL)
 pT:mg "NoMatter"=some (.ref A.bc)
 pU:mg "NoChange"=some (.ref A.bf)
 pV:mg "NotLater"=some (.ref A.aU)
 sD:mg "Nothing"=some (.ref A.bB)
 sE:mg "TooMany"=some (.ref A.bD)
 sF:mg "NoAside"=some (.ref A.bE)
 uI:mg "NotYet"=some (.ref A.bM)
 mC:mg "NoNumber"=some (.ref A.aS)
 Ip:mg "NoRow"=some (.ref A.ie)
 Dk:mg "NoName"=some (.ref A.fL)
 iI:Pj K A.cv
 Dl:lJ K A.cj
 Dm:C1 K A.cj
 jqs:ads K (.ref A.cj) (.ref A.cv)=some true
 jq2W:ba K (.ref A.cj) (.ref A.cj)=some true
 jq2G:ba K (.ref A.cj) (.ref A.bL)=some false
 jq1P:ba K (.ref A.cj) (.ref A.bc)=some false
 jq1Q:ba K (.ref A.cj) (.ref A.bf)=some false
 jq1R:ba K (.ref A.cj) (.ref A.aU)=some false
 jq2i:ba K (.ref A.cj) (.ref A.bB)=some false
 jq2j:ba K (.ref A.cj) (.ref A.bD)=some false
 jq2k:ba K (.ref A.cj) (.ref A.bE)=some false
 jq2H:ba K (.ref A.cj) (.ref A.bM)=some false
 jq1S:ba K (.ref A.cj) (.ref A.aS)=some false
 jq2X:ba K (.ref A.cj) (.ref A.ie)=some false
 jq2I:ba K (.ref A.cj) (.ref A.fL)=some false
 jqP:ba K (.ref A.cj) (.type "ValueError")=some true
 wI:lJ K A.bc
 wJ:C1 K A.bc
 jqd:ads K (.ref A.bc) (.ref A.cv)=some true
 jq1T:ba K (.ref A.bc) (.ref A.cj)=some false
 jq1g:ba K (.ref A.bc) (.ref A.bL)=some false
 jqw:ba K (.ref A.bc) (.ref A.bc)=some true
 jqx:ba K (.ref A.bc) (.ref A.bf)=some false
 jqy:ba K (.ref A.bc) (.ref A.aU)=some false
 jqQ:ba K (.ref A.bc) (.ref A.bB)=some false
 jqR:ba K (.ref A.bc) (.ref A.bD)=some false
 jqS:ba K (.ref A.bc) (.ref A.bE)=some false
 jq1h:ba K (.ref A.bc) (.ref A.bM)=some false
 jqz:ba K (.ref A.bc) (.ref A.aS)=some false
 jq1U:ba K (.ref A.bc) (.ref A.ie)=some false
 jq1i:ba K (.ref A.bc) (.ref A.fL)=some false
 jql:ba K (.ref A.bc) (.type "ValueError")=some true
 wK:lJ K A.bf
 wL:C1 K A.bf
 jqe:ads K (.ref A.bf) (.ref A.cv)=some true
 jq1V:ba K (.ref A.bf) (.ref A.cj)=some false
 jq1j:ba K (.ref A.bf) (.ref A.bL)=some false
 jqA:ba K (.ref A.bf) (.ref A.bc)=some false
 jqB:ba K (.ref A.bf) (.ref A.bf)=some true
 jqC:ba K (.ref A.bf) (.ref A.aU)=some false
 jqT:ba K (.ref A.bf) (.ref A.bB)=some false
 jqU:ba K (.ref A.bf) (.ref A.bD)=some false
 jqV:ba K (.ref A.bf) (.ref A.bE)=some false
 jq1k:ba K (.ref A.bf) (.ref A.bM)=some false
 jqD:ba K (.ref A.bf) (.ref A.aS)=some false
 jq1W:ba K (.ref A.bf) (.ref A.ie)=some false
 jq1l:ba K (.ref A.bf) (.ref A.fL)=some false
 jqm:ba K (.ref A.bf) (.type "ValueError")=some true
 zo:lJ K A.bB
 zp:C1 K A.bB
 jqh:ads K (.ref A.bB) (.ref A.cv)=some true
 jq2l:ba K (.ref A.bB) (.ref A.cj)=some false
 jq1X:ba K (.ref A.bB) (.ref A.bL)=some false
 jqW:ba K (.ref A.bB) (.ref A.bc)=some false
 jqX:ba K (.ref A.bB) (.ref A.bf)=some false
 jqY:ba K (.ref A.bB) (.ref A.aU)=some false
 jq1m:ba K (.ref A.bB) (.ref A.bB)=some true
 jq1n:ba K (.ref A.bB) (.ref A.bD)=some false
 jq1o:ba K (.ref A.bB) (.ref A.bE)=some false
 jq1Y:ba K (.ref A.bB) (.ref A.bM)=some false
 jqZ:ba K (.ref A.bB) (.ref A.aS)=some false
 jq2m:ba K (.ref A.bB) (.ref A.ie)=some false
 jq1Z:ba K (.ref A.bB) (.ref A.fL)=some false
 jqt:ba K (.ref A.bB) (.type "ValueError")=some true
 zq:lJ K A.bD
 zr:C1 K A.bD
 jqi:ads K (.ref A.bD) (.ref A.cv)=some true
 jq2n:ba K (.ref A.bD) (.ref A.cj)=some false
 jq20:ba K (.ref A.bD) (.ref A.bL)=some false
 jq10:ba K (.ref A.bD) (.ref A.bc)=some false
 jq11:ba K (.ref A.bD) (.ref A.bf)=some false
 jq12:ba K (.ref A.bD) (.ref A.aU)=some false
 jq1p:ba K (.ref A.bD) (.ref A.bB)=some false
 jq1q:ba K (.ref A.bD) (.ref A.bD)=some true
 jq1r:ba K (.ref A.bD) (.ref A.bE)=some false
 jq21:ba K (.ref A.bD) (.ref A.bM)=some false
 jq13:ba K (.ref A.bD) (.ref A.aS)=some false
 jq2o:ba K (.ref A.bD) (.ref A.ie)=some false
 jq22:ba K (.ref A.bD) (.ref A.fL)=some false
 jqu:ba K (.ref A.bD) (.type "ValueError")=some true
 zt:lJ K A.bE
 zu:C1 K A.bE
 jqj:ads K (.ref A.bE) (.ref A.cv)=some true
 jq2p:ba K (.ref A.bE) (.ref A.cj)=some false
 jq23:ba K (.ref A.bE) (.ref A.bL)=some false
 jq14:ba K (.ref A.bE) (.ref A.bc)=some false
 jq15:ba K (.ref A.bE) (.ref A.bf)=some false
 jq16:ba K (.ref A.bE) (.ref A.aU)=some false
 jq1s:ba K (.ref A.bE) (.ref A.bB)=some false
 jq1t:ba K (.ref A.bE) (.ref A.bD)=some false
 jq1u:ba K (.ref A.bE) (.ref A.bE)=some true
 jq24:ba K (.ref A.bE) (.ref A.bM)=some false
 jq17:ba K (.ref A.bE) (.ref A.aS)=some false
 jq2q:ba K (.ref A.bE) (.ref A.ie)=some false
 jq25:ba K (.ref A.bE) (.ref A.fL)=some false
 jqv:ba K (.ref A.bE) (.type "ValueError")=some true
 wM:lJ K A.aS
 rg:C1 K A.aS
 jqf:ads K (.ref A.aS) (.ref A.cv)=some true
 jq26:ba K (.ref A.aS) (.ref A.cj)=some false
 jq1v:ba K (.ref A.aS) (.ref A.bL)=some false
 jqE:ba K (.ref A.aS) (.ref A.bc)=some false
 jqF:ba K (.ref A.aS) (.ref A.bf)=some false
 jqG:ba K (.ref A.aS) (.ref A.aU)=some false
 jq18:ba K (.ref A.aS) (.ref A.bB)=some false
 jq19:ba K (.ref A.aS) (.ref A.bD)=some false
 jq1a:ba K (.ref A.aS) (.ref A.bE)=some false
 jq1w:ba K (.ref A.aS) (.ref A.bM)=some false
 jqH:ba K (.ref A.aS) (.ref A.aS)=some true
 jq27:ba K (.ref A.aS) (.ref A.ie)=some false
 jq1x:ba K (.ref A.aS) (.ref A.fL)=some false
 jqn:ba K (.ref A.aS) (.type "ValueError")=some true
 A3:lJ K A.bL
 mD:Fun K "__init__" "Barred.__init__" gD A.zb A.vJ
 mE:Binds K A.vJ ["self","bar"] []
 oY:BM K A.bL A.zb "bar"
 A4:NY K A.bL "bar"
 jqo:ads K (.ref A.bL) (.ref A.cv)=some true
 jq2J:ba K (.ref A.bL) (.ref A.cj)=some false
 jq2r:ba K (.ref A.bL) (.ref A.bL)=some true
 jq1y:ba K (.ref A.bL) (.ref A.bc)=some false
 jq1z:ba K (.ref A.bL) (.ref A.bf)=some false
 jq1A:ba K (.ref A.bL) (.ref A.aU)=some false
 jq28:ba K (.ref A.bL) (.ref A.bB)=some false
 jq29:ba K (.ref A.bL) (.ref A.bD)=some false
 jq2a:ba K (.ref A.bL) (.ref A.bE)=some false
 jq2s:ba K (.ref A.bL) (.ref A.bM)=some false
 jq1B:ba K (.ref A.bL) (.ref A.aS)=some false
 jq2K:ba K (.ref A.bL) (.ref A.ie)=some false
 jq2t:ba K (.ref A.bL) (.ref A.fL)=some false
 jqI:ba K (.ref A.bL) (.type "ValueError")=some true
 wN:lJ K A.aU
 jw:Fun K "__init__" "NotLater.__init__" eM A.tN A.qV
 lY:Binds K A.qV ["self","sitting"] []
 nG:BM K A.aU A.tN "sitting"
 wO:NY K A.aU "sitting"
 jqg:ads K (.ref A.aU) (.ref A.cv)=some true
 jq2b:ba K (.ref A.aU) (.ref A.cj)=some false
 jq1C:ba K (.ref A.aU) (.ref A.bL)=some false
 jqJ:ba K (.ref A.aU) (.ref A.bc)=some false
 jqK:ba K (.ref A.aU) (.ref A.bf)=some false
 jqL:ba K (.ref A.aU) (.ref A.aU)=some true
 jq1b:ba K (.ref A.aU) (.ref A.bB)=some false
 jq1c:ba K (.ref A.aU) (.ref A.bD)=some false
 jq1d:ba K (.ref A.aU) (.ref A.bE)=some false
 jq1D:ba K (.ref A.aU) (.ref A.bM)=some false
 jqM:ba K (.ref A.aU) (.ref A.aS)=some false
 jq2c:ba K (.ref A.aU) (.ref A.ie)=some false
 jq1E:ba K (.ref A.aU) (.ref A.fL)=some false
 jqp:ba K (.ref A.aU) (.type "ValueError")=some true
 A5:lJ K A.bM
 mF:Fun K "__init__" "NotYet.__init__" gF A.zc A.vK
 pW:Binds K A.vK ["self","sitting"] []
 sG:BM K A.bM A.zc "sitting"
 A6:NY K A.bM "sitting"
 jqq:ads K (.ref A.bM) (.ref A.cv)=some true
 jq2L:ba K (.ref A.bM) (.ref A.cj)=some false
 jq2u:ba K (.ref A.bM) (.ref A.bL)=some false
 jq1F:ba K (.ref A.bM) (.ref A.bc)=some false
 jq1G:ba K (.ref A.bM) (.ref A.bf)=some false
 jq1H:ba K (.ref A.bM) (.ref A.aU)=some false
 jq2d:ba K (.ref A.bM) (.ref A.bB)=some false
 jq2e:ba K (.ref A.bM) (.ref A.bD)=some false
 jq2f:ba K (.ref A.bM) (.ref A.bE)=some false
 jq2v:ba K (.ref A.bM) (.ref A.bM)=some true
 jq1I:ba K (.ref A.bM) (.ref A.aS)=some false
 jq2M:ba K (.ref A.bM) (.ref A.ie)=some false
 jq2w:ba K (.ref A.bM) (.ref A.fL)=some false
 jqN:ba K (.ref A.bM) (.type "ValueError")=some true
theorem sl (n:Nat)(h:n<=64:=by decide):n<=gn:=me h (by decide)
abbrev bl1:Str:=ar " "
def Asc (x:Str):Prop:=∀c∈x.cps.toList,c < 128
theorem Asc.ok {x:Str}(h:Asc x):Lk x=true:=by
 unfold Lk;rw[Array.all_eq_true];intro i hi;have:=h x.cps[i] (by simp)
 exact decide_eq_true (by omega)
theorem mG {sep:Str}(hs:Asc sep):∀ws:List Str,(∀w∈ws,Asc w)->Asc (ka sep ws)
 |[],_=>λc hc=>by
  have:c∈([]:List Nat):=hc;cases this
 |[x],h=>h x fi
 |x::y::r,h=>λc hc=>by
  have hc':c∈((x++sep)++ka sep (y::r)).cps.toList:=hc;rw[eB,eB,List.mem_append,List.mem_append]at hc';rcases hc' with (h1 | h1) | h1
  ·exact h x fi c h1
  ·exact hs c h1
  ·exact mG hs (y::r) (λw hw=>h w (kf _ hw)) c h1
structure Sh (n:Nat)(x:Str):Prop where
 asc:Asc x
 len:x.length<=n
structure Ed where
 k:Nat
 at_:Int
 th:Str
def kn:Nat->Str
 | 0=>ar "put"
 | 1=>ar "cut"
 |_=>ar "turn"
def jx (e:Ed):List V:=match e.k with
 | 0=>[.str (kn 0),.int e.at_,.str e.th]
 | 1=>[.str (kn 1),.int e.at_]
 |_=>[.str (kn 2),.int e.at_,.str e.th]
def edD (e:Ed):PyData:=match e.k with
 | 0=>.tuple [.str (kn 0),.int e.at_,.str e.th]
 | 1=>.tuple [.str (kn 1),.int e.at_]
 |_=>.tuple [.str (kn 2),.int e.at_,.str e.th]
structure uJ (e:Ed):Prop where
 k3:e.k=0\/e.k=1\/e.k=2
 lo:-1000<=e.at_
 hi:e.at_<=1000
 th:Sh 100000 e.th
def il (n:Nat)(e:Ed):Bool:=decide (0<=e.at_) && decide (e.at_ < (n:Int)+(if e.k=0 then 1 else 0))
def dn (xs:List Str)(e:Ed):List Str:=match e.k with
 | 0=>xs.take e.at_.toNat++e.th::xs.drop e.at_.toNat
 | 1=>xs.eraseIdx e.at_.toNat
 |_=>xs.set e.at_.toNat e.th
theorem Cg (e:Ed):atI (jx e) 0=some (.str (kn e.k)):=by
 unfold jx;split
 ·rename_i h;rw[h];rfl
 ·rename_i h;rw[h];rfl
 ·rename_i h1 h2;have:kn e.k=kn 2:=by
   unfold kn;split
   ·rename_i h;exact absurd h h1
   ·rename_i h;exact absurd h h2
   ·rfl
  rw[this];rfl
theorem Ci (e:Ed):atI (jx e) 1=some (.int e.at_):=by
 unfold jx;split <;> rfl
theorem Cj {e:Ed}(h:e.k≠1):atI (jx e) 2=some (.str e.th):=by
 unfold jx;split
 ·rfl
 ·rename_i z;exact absurd z h
 ·rfl
theorem Gy (e:Ed){K:cb}{H:Hp}{t:Addr}(h:SqT K H t (jx e)):DV K H (edD e) (.ref t):=by
 unfold jx at h;unfold edD;split
 ·rename_i z;rw[z]at h;unfold DV;exact⟨t,_,rfl,h,by unfold DVs;exact⟨_,_,rfl,by unfold DV;rfl,by unfold DVs;exact⟨_,_,rfl,by unfold DV;rfl,by unfold DVs;exact⟨_,_,rfl,by unfold DV;rfl,by unfold DVs;rfl⟩⟩⟩⟩
 ·rename_i z;rw[z]at h;unfold DV;exact⟨t,_,rfl,h,by unfold DVs;exact⟨_,_,rfl,by unfold DV;rfl,by unfold DVs;exact⟨_,_,rfl,by unfold DV;rfl,by unfold DVs;rfl⟩⟩⟩
 ·rename_i z1 z2;split at h
  ·rename_i z;exact absurd z z1
  ·rename_i z;exact absurd z z2
  ·unfold DV;exact⟨t,_,rfl,h,by unfold DVs;exact⟨_,_,rfl,by unfold DV;rfl,by unfold DVs;exact⟨_,_,rfl,by unfold DV;rfl,by unfold DVs;exact⟨_,_,rfl,by unfold DV;rfl,by unfold DVs;rfl⟩⟩⟩⟩
theorem A7 {i:Int}(h0:-1000<=i)(h1:i<=1000):i.natAbs.log2 < 1920:=by
 have h:i.natAbs < 2 ^ 10:=by omega
 by_cases hz:i.natAbs=0
 ·rw[hz];decide
 ·exact Nat.lt_trans ((Nat.log2_lt hz).mpr h) (by decide)
theorem L9 {e:Ed}(o:uJ e):(edD e).showable=true/\(edD e).hasDict=false/\(edD e).depth<=60:=by
 have lg:=A7 o.lo o.hi;unfold edD;split <;> simp[PyData.showable,PyData.showableAll,PyData.hasDict,PyData.hasDictAll,aed,ad5,lg]
theorem N8 {i:Int}(h0:-1000<=i)(h1:i<=1000):(ar (toString i)).length<=1921:=by
 have h:=int_text_length_le (a:=i) (k:=1920) (by decide) (A7 h0 h1)
 have e:(ar (toString i)).length=(toString i).length:=by first | exact PySem.ofString_length _ | exact ofString_length _
 omega
theorem Sh.rep {n:Nat}{x:Str}(s:Sh n x):(reprText x).length<=10 * n+2:=by
 have h:=StrLaws.reprText_len x λc hc=>Nat.lt_trans (s.asc c hc) (by decide)
 have:=s.len;omega
theorem Ma (k:Nat):Sh 4 (kn k):=by
 unfold kn;split <;> exact⟨by unfold Asc;trivial,by trivial⟩
theorem N9 {e:Ed}(o:uJ e):(edD e).shown.length<=1100000:=by
 have a:=(Ma 0).rep;have b:=(Ma 1).rep;have c:=(Ma 2).rep;have d:=o.th.rep;have i:=N8 o.lo o.hi;unfold edD;split
 ·have h:=tupleText_len_le [reprText (kn 0),ar (toString e.at_),reprText e.th];simp only[kg,aec,List.sum_cons,List.sum_nil,om,List.length_nil]at h;show (tupleText [reprText (kn 0),ar (toString e.at_),reprText e.th]).length<=_;omega
 ·have h:=tupleText_len_le [reprText (kn 1),ar (toString e.at_)];simp only[kg,aec,List.sum_cons,List.sum_nil,om,List.length_nil]at h;show (tupleText [reprText (kn 1),ar (toString e.at_)]).length<=_;omega
 ·have h:=tupleText_len_le [reprText (kn 2),ar (toString e.at_),reprText e.th];simp only[kg,aec,List.sum_cons,List.sum_nil,om,List.length_nil]at h;show (tupleText [reprText (kn 2),ar (toString e.at_),reprText e.th]).length<=_;omega
theorem Ck {e:Ed}(o:uJ e):(V.str (kn e.k)=V.str (ar "put"))↔e.k=0:=by
 rcases o.k3 with h | h | h <;> rw[h] <;> trivial
theorem zv {e:Ed}(o:uJ e):(V.str (kn e.k)=V.str (ar "cut"))↔e.k=1:=by
 rcases o.k3 with h | h | h <;> rw[h] <;> trivial
def RK (K:cb):Sp:=λvs H Q _=>∃(a t:Addr) (xs:List V) (e:Ed),vs=[.ref a,.ref t]/\SqL K H a xs/\SqT K H t (jx e)/\uJ e/\Q (.bl (il xs.length e)) H
def WK (A:Adr)(K:cb):Sp:=λvs H Q E=>∃(a t:Addr) (xs:List V) (e:Ed),vs=[.ref a,.ref t]/\SqL K H a xs/\SqT K H t (jx e)/\uJ e/\(il xs.length e=true->Q .non H)/\(il xs.length e=false->E (.ref A.cj) none H)
def RL (A:Adr)(K:cb):Sp:=λvs H Q E=>∃(a t:Addr) (xs:List Str) (e:Ed),vs=[.ref a,.ref t]/\SqL K H a (xs.map V.str)/\xs.length<=1000/\SqT K H t (jx e)/\uJ e /\
 (il xs.length e=true->∀p,H p=none->Q (.ref p) (upd H p (.lst ((dn xs e).map V.str))))/\(il xs.length e=false->E (.ref A.cj) none H)
theorem Dn {n:Nat}{e:Ed}:il n e=true↔0<=e.at_/\e.at_ < (n:Int)+(if e.k=0 then 1 else 0):=by
 unfold il;rw[adO,decide_eq_true_iff,decide_eq_true_iff]
section
variable{P:ma}{w:World}{K:cb}{mg:Str->Option Value}{base:Heap}{A:Adr}
theorem Mb {H H':Hp}{t:Addr}{xs:List V}(s:bT H H')(h:SqT K H t xs):SqT K H' t xs:=by
 rcases h with (h | ⟨o,h⟩) | h
 ·exact .inl (.inl (s _ _ h))
 ·exact .inl (.inr ⟨o,s _ _ h⟩)
 ·exact .inr h
theorem Oa (T:Txt w.params K mg A):a8 P w K mg base CX0 1 A.fits A.B2 ["things","edit"] (RK K):=by
 refine T.Gk.ok BX (λvs H Q E h=>?_) (λcdv A' outer s H vs Q E hr h=>?_)
 ·obtain⟨a,t,xs,e,rfl,_⟩:=h;rfl
 ·obtain⟨a,t,xs,e,rfl,ha,ht,o,q⟩:=h;refine⟨_,(ao (br (i:=2) BX.nd rfl (wt rfl) (bW jf (by rfl) T.zj vt (aa (pv 0) af)))
 (ao (cI (a9 cS (bN bG (pv 1) aj (λ_ _=>rfl)) au (bz _))
 (aq (br (i:=2) BX.nd rfl (wt rfl) (dj pL (pv 2) aj)))
 aT)
 (aq (aI (KC HZ KA aj (bN bG (pv 1) aj (λ_ _=>rfl)) (pv 2)))))),?_⟩
  try dsimp only[cD]
  refine⟨_,rfl,a,xs,rfl,.inl ha,?_⟩;refine ixv rfl ht (Cg e) ⟨rfl,_,rfl,vq (λz=>?_) (λz=>?_)⟩
  ·have hk:e.k=0:=(Ck o).mp (of_decide_eq_true z);refine⟨_,rfl,_,_,rfl,rfl,?_⟩;unfold il at q;rw[if_pos hk]at q;refine ixv rfl ht (Ci e) ⟨_,_,rfl,rfl,_,rfl,vq (λz1=>?_) (λz1=>?_)⟩
   ·have h1:0<=e.at_:=of_decide_eq_true z1;rw[decide_eq_true h1,Bool.true_and]at q;exact⟨_,rfl,_,_,rfl,rfl,q⟩
   ·have h1:¬0<=e.at_:=λy=>z1 (decide_eq_true y)
    rw[decide_eq_false h1,Bool.false_and]at q;exact q
  ·have hk:¬e.k=0:=λy=>z (decide_eq_true ((Ck o).mpr y))
   unfold il at q;rw[if_neg hk,Int.add_zero]at q;refine ixv rfl ht (Ci e) ⟨_,_,rfl,rfl,_,rfl,vq (λz1=>?_) (λz1=>?_)⟩
   ·have h1:0<=e.at_:=of_decide_eq_true z1;rw[decide_eq_true h1,Bool.true_and]at q;exact⟨_,rfl,_,_,rfl,rfl,q⟩
   ·have h1:¬0<=e.at_:=λy=>z1 (decide_eq_true y)
    rw[decide_eq_false h1,Bool.false_and]at q;exact q
theorem mH (T:Txt w.params K mg A):a8 P w K mg base (CXX P w) 2 A.qT A.mw ["things","edit"] (WK A K):=by
 refine T.iC.okX y9 (λvs H Q E h=>?_) (λcdv A' outer s H vs Q E hr h=>?_)
 ·obtain⟨a,t,xs,e,rfl,_⟩:=h;rfl
 ·obtain⟨a,t,xs,e,rfl,ha,ht,o,q1,q2⟩:=h;have hgd:=hr.gd;have Jw:=hr.units;refine⟨_,(bA (fB (vm (iq (bY (Oa T) hr rfl T.LY T.Gk.kp T.LX .nil bC (aa (pv 0) (aa (pv 1) af)))))
 (bA (iT T.Dm rfl rfl T.yu (aa (Wg hgd Jw (pv 1)) af)))
 (qt aT))),?_⟩
  try dsimp only[cD]
  refine⟨_,rfl,_,rfl,a,t,xs,e,rfl,ha,ht,o,_,rfl,?_⟩;cases hf:il xs.length e with
  |true=>exact kK (q1 hf)
  |false =>
   refine aN λGq gq=>?_
   obtain⟨s1,s2,s3⟩:=L9 o;have s4:=N9 o;refine gq ?_;refine nO ⟨_,rfl,t,edD e,rfl,Gy e ht,s1,s2,s3,me (Nat.add_le_add_right s4 _) (by trivial),λz=>?_⟩
   exact⟨(sl 1),q2 hf⟩
theorem Iq (T:Txt w.params K mg A):a8 P w K mg base (CXX P w) 3 A.laid A.B3 ["things","edit"] (RL A K):=by
 refine T.B8.okX yt (λvs H Q E h=>?_) (λcdv A' outer s H vs Q E hr h=>?_)
 ·obtain⟨a,t,xs,e,rfl,_⟩:=h;rfl
 ·obtain⟨a,t,xs,e,rfl,ha,hz,ht,o,q1,q2⟩:=h;refine⟨_,(aH (gP (oH (mH T) hr rfl T.kJ T.iC.kp T.kH (pax (aa (pv 0) (aa (pv 1) af)))))
 (aH (psx (br (i:=2) yt.nd rfl (wt rfl) (bN bG (pv 1) aj (λ_ _=>rfl))))
 (aH (psx (br (i:=3) yt.nd rfl (wt rfl) (bN bG (pv 1) aj (λ_ _=>rfl))))
 (aH (psx (br (i:=4) yt.nd rfl (wt rfl) (d0 dS (by rfl) T.mB kD (aa (pv 0) af))))
 (aH (psx (cI (a9 cS (pv 2) au (bz _))
 (aq (dh (mi adt PySem.F.slot_list_insert PySem.F.type_list_insert Jl (pv 4) (aa (pv 3) (aa (bN bG (pv 1) aj (λ_ _=>rfl)) af)))))
 (aq (cI (a9 cS (pv 2) au (bz _))
 (aq (dh (mi adt PySem.F.slot_list_pop PySem.F.type_list_pop KS (pv 4) (aa (pv 3) af))))
 (aq (Kx (bN bG (pv 1) aj (λ_ _=>rfl)) (QD (pv 4) (pv 3) set_list)))))))
 (bA (psx (aI (pv 4))))))))),?_⟩
  try dsimp only[cD]
  refine⟨_,rfl,_,rfl,a,t,_,e,rfl,ha,ht,o,λhf=>?_,λhf=>q2 (by rw[da]at hf;exact hf)⟩
  refine aN λGq gq=>?_
  rw[da]at hf;obtain⟨f0,f1⟩:=Dn.mp hf;have q:=q1 hf;have lim:(1001:Nat) < gn:=by decide
  obtain⟨n,hn⟩:∃n:Nat,e.at_=(n:Int):=⟨e.at_.toNat,by omega⟩
  refine gq ?_;refine ixv rfl ht (Cg e) ?_;refine ixv rfl ht (Ci e) ?_;refine⟨_,rfl,a,_,rfl,.inl ha,λp hp=>?_⟩
  have sp:bT H (upd H p (.lst (xs.map V.str))):=aK hp;have ht':=Mb sp ht;have q:=q p hp;rw[hn];rw[hn]at f1;refine⟨_,rfl,rfl,_,rfl,vq (λz=>?_) (λz=>?_)⟩
  ·have hk:e.k=0:=(Ck o).mp (of_decide_eq_true z);rw[if_pos hk]at f1;refine⟨_,rfl,.inl ⟨rfl,_,SqL.of ah⟩,_,rfl,ixv rfl ht' (Cj (by omega)) ⟨p,_,_,n,_,rfl,rfl,rfl,ah,(by rw[da];omega),(by rw[da];omega),?_⟩⟩
   rw[ny];refine⟨_,rfl,?_⟩;have e1:(dn xs e).map V.str=(xs.map V.str).take n++V.str e.th::(xs.map V.str).drop n:=by
    unfold dn;rw[hk,hn];simp
   rw[e1]at q;exact q
  ·have hk0:¬e.k=0:=λy=>z (decide_eq_true ((Ck o).mpr y))
   rw[if_neg hk0,Int.add_zero]at f1;have hlt:n < xs.length:=by omega
   refine⟨_,rfl,rfl,_,rfl,vq (λz2=>?_) (λz2=>?_)⟩
   ·have hk:e.k=1:=(zv o).mp (of_decide_eq_true z2);refine⟨_,rfl,.inl ⟨rfl,_,SqL.of ah⟩,_,rfl,p,_,(n:Int),n,_,rfl,rfl,ah,by omega,by omega,?_,(by rw[adv (by rw[da];exact hlt)]),?_⟩
    ·rw[da];exact(By (by unfold ixN;rw[if_pos (by omega),if_pos (by omega)];rfl)).1
    ·rw[ny];refine⟨_,rfl,?_⟩;have e1:(dn xs e).map V.str=(xs.map V.str).eraseIdx n:=by
      unfold dn;rw[hk,hn];exact AR V.str xs _
     rw[e1]at q;exact q
   ·have hk1:¬e.k=1:=λy=>z2 (decide_eq_true ((zv o).mpr y))
    have hk:e.k=2:=by have:=o.k3;omega
    refine ixv rfl ht' (Cj (by omega)) ⟨_,rfl,_,rfl,p,_,(n:Int),n,rfl,rfl,ah,?_,?_⟩
    ·rw[da];unfold ixN;rw[if_pos (by omega),if_pos (by omega)];rfl
    ·rw[ny];refine⟨_,rfl,?_⟩;have e1:(dn xs e).map V.str=(xs.map V.str).set n (V.str e.th):=by
      unfold dn;rw[hk,hn];simp[List.map_set]
     rw[e1]at q;exact q
end
mutual
theorem eqv_refl:∀d:PyData,d.canLay0=true->aeC d d=true
 | .none,_=>by simp[aeC]
 | .bool _,_=>by simp[aeC]
 | .int _,_=>by simp[aeC]
 | .str _,_=>by simp[aeC]
 | .list xs,h=>by simp only[aeC];exact eqvAll_refl xs (by simpa [ad4] using h)
 | .tuple xs,h=>by simp only[aeC];exact eqvAll_refl xs (by simpa [ad4] using h)
 | .dict _,h=>by simp[ad4]at h
theorem eqvAll_refl:∀xs:List PyData,adC xs=true->aer xs xs=true
 |[],_=>by simp[aer]
 |x::xs,h=>by
  have h':x.canLay0=true/\adC xs=true:=by simpa [adC] using h
  simp only[aer,eqv_refl x h'.1,eqvAll_refl xs h'.2,Bool.and_self]
end
theorem adg:∀k,k < 8->Lk (nm k)=true
 | 0,_=>by trivial
 | 1,_=>by trivial
 | 2,_=>by trivial
 | 3,_=>by trivial
 | 4,_=>by trivial
 | 5,_=>by trivial
 | 6,_=>by trivial
 | 7,_=>by trivial
 |n+8,h=>absurd h (by omega)
def nd (k:Nat):Str:=if k=4 then ar "two thirds" else ar "more"
def rowOf (k:Nat)(v:V):List V:=match k with
 | 4=>[.str (nm 4)]
 | 5=>[.str (nm 5)]
 | 6=>[.str (nm 6)]
 |k=>[.str (nm k),v]
def oZ (k:Nat)(v:V):List (Str×V):=match k with
 | 0=>[(ar "text",v)]
 | 1=>[(ar "edit",v)]
 | 2=>[(ar "edit",v)]
 | 3=>[(ar "sitting",v)]
 | 4=>[]
 | 5=>[]
 | 6=>[]
 |_=>[(ar "clause",v)]
theorem Ir {m:Str}(h:m≠ar "text"/\m≠ar "edit"/\m≠ar "sitting"/\m≠ar "clause")(k:Nat)(v:V):(oZ k v).lookup m=none:=by
 obtain⟨h1,h2,h3,h4⟩:=h;have b1:(m == ar "text")=false:=beq_eq_false_iff_ne.mpr h1;have b2:(m == ar "edit")=false:=beq_eq_false_iff_ne.mpr h2;have b3:(m == ar "sitting")=false:=beq_eq_false_iff_ne.mpr h3;have b4:(m == ar "clause")=false:=beq_eq_false_iff_ne.mpr h4;unfold oZ;split <;> simp[aes,b1,b2,b3,b4]
theorem lZ (k:Nat)(v:V):(oZ k v).lookup (ar "kind")=none:=Ir (by trivial) k v
theorem Ob (k:Nat)(v:V):(oZ k v).lookup (ar "rank")=none:=Ir (by trivial) k v
theorem Oc (k:Nat)(v:V):(oZ k v).lookup (ar "need")=none:=Ir (by trivial) k v
theorem Iu (k:Nat)(v:V):(oZ k v).lookup (ar "told")=none:=Ir (by trivial) k v
def gJ (k:Nat):Sp:=λvs H Q _=>∃m:Addr,vs=[.ref m]/\Q (.str (nm k)) H
def Mc (A:Adr):Sp:=λvs H Q _=>∃(m:Addr) (k:Nat) (dx:Addr) (fs:List (Str×V)),k < 8/\vs=[.ref m]/\H m=some (.ins (A.C k) dx fs)/\fs.lookup (ar "kind")=none/\Q (.int k) H
def Cn (k:Nat):Sp:=λvs H Q _=>∃m:Addr,vs=[.ref m]/\Q (.str (nd k)) H
def Iv (A:Adr):Sp:=λvs H Q _=>∃(m:Addr) (k:Nat) (dx:Addr) (fs:List (Str×V)),k < 8/\vs=[.ref m]/\H m=some (.ins (A.C k) dx fs)/\fs.lookup (ar "kind")=none/\∀p,H p=none->Q (.ref p) (upd H p (.tup [.str (nm k)]))
def yw (A:Adr)(k:Nat)(a:Str):Sp:=λvs H Q _=>∃(m dx:Addr) (fs:List (Str×V)) (v:V),vs=[.ref m]/\H m=some (.ins (A.C k) dx fs)/\fs.lookup (ar "kind")=none/\fs.lookup a=some v/\∀p,H p=none->Q (.ref p) (upd H p (.tup [.str (nm k),v]))
def Gz (A:Adr)(k:Nat):Sp:=λvs H Q _=>1<=k/\∃(m dx:Addr) (v:V),vs=[.ref m]/\H m=some (.ins (A.C k) dx (oZ k v))/\∀p,H p=none->Q (.ref p) (upd H p (.tup (rowOf k v)))
def Co (A:Adr)(k:Nat):Sp:=λvs H Q _=>∃(m dx:Addr) (v:V),vs=[.ref m,v]/\H m=some (.ins (A.C k) dx [])/\Q .non (upd H m (.ins (A.C k) dx (oZ k v)))
def Iw (A:Adr)(K:cb):Sp:=λvs H Q _=>∃(m dx L:Addr) (xs:List V),vs=[.ref m]/\H m=some (.ins (A.C 0) dx (oZ 0 (.ref L)))/\SqL K H L xs/\∀p q,H p=none->H q=none->p≠q->Q (.ref q) (upd (upd H p (.lst xs)) q (.tup [.str (nm 0),.ref p]))
def Od (A:Adr)(K:cb):Sp:=λvs H Q _=>∃(m dx L:Addr) (xs:List V),vs=[.ref m,.ref L]/\H m=some (.ins (A.C 0) dx [])/\SqL K H L xs/\∀p,H p=none->Q .non (upd (upd H p (.lst xs)) m (.ins (A.C 0) dx (oZ 0 (.ref p))))
def Iy (A:Adr):Sp:=λvs H Q _=>∃(t:Addr) (k:Nat) (v:V),1<=k/\k < 8/\vs=[.ref t]/\H t=some (.tup (rowOf k v))/\∀m H',bT H H'->H m=none->(∃dx,H' m=some (.ins (A.C k) dx (oZ k v)))->Q (.ref m) H'
def Dp (A:Adr)(K:cb):Sp:=λvs H Q _=>∃(t L:Addr) (xs:List V),vs=[.ref t]/\H t=some (.tup [.str (nm 0),.ref L])/\SqL K H L xs /\
 ∀m p H',bT H H'->H m=none->H p=none->H' p=some (.lst xs)->(∃dx,H' m=some (.ins (A.C 0) dx (oZ 0 (.ref p))))->Q (.ref m) H'
section
variable{P:ma}{w:World}{K:cb}{mg:Str->Option Value}{base:Heap}{A:Adr}
theorem zw (T:Txt w.params K mg A):a8 P w K mg base CX0 1 A.Rn A.LA ["self"] (gJ 0):=by
 refine T.Wo.ok yS (λvs H Q E h=>?_) (λcdv A' outer s H vs Q E hr h=>?_)
 ·obtain⟨m,rfl,_⟩:=h;rfl
 ·obtain⟨m,rfl,q⟩:=h;exact⟨_,(aq (aI au)),q⟩
theorem zx (T:Txt w.params K mg A):a8 P w K mg base CX0 1 A.Ro A.LB ["self"] (gJ 1):=by
 refine T.Wq.ok yT (λvs H Q E h=>?_) (λcdv A' outer s H vs Q E hr h=>?_)
 ·obtain⟨m,rfl,_⟩:=h;rfl
 ·obtain⟨m,rfl,q⟩:=h;exact⟨_,(aq (aI au)),q⟩
theorem Cp (T:Txt w.params K mg A):a8 P w K mg base CX0 1 A.Rp A.LC ["self"] (gJ 2):=by
 refine T.Ws.ok BS (λvs H Q E h=>?_) (λcdv A' outer s H vs Q E hr h=>?_)
 ·obtain⟨m,rfl,_⟩:=h;rfl
 ·obtain⟨m,rfl,q⟩:=h;exact⟨_,(aq (aI au)),q⟩
theorem zy (T:Txt w.params K mg A):a8 P w K mg base CX0 1 A.Rq A.LD ["self"] (gJ 3):=by
 refine T.Wt.ok yU (λvs H Q E h=>?_) (λcdv A' outer s H vs Q E hr h=>?_)
 ·obtain⟨m,rfl,_⟩:=h;rfl
 ·obtain⟨m,rfl,q⟩:=h;exact⟨_,(aq (aI au)),q⟩
theorem Am (T:Txt w.params K mg A):a8 P w K mg base CX0 1 A.Rr A.LF ["self"] (gJ 4):=by
 refine T.Wu.ok Ag (λvs H Q E h=>?_) (λcdv A' outer s H vs Q E hr h=>?_)
 ·obtain⟨m,rfl,_⟩:=h;rfl
 ·obtain⟨m,rfl,q⟩:=h;exact⟨_,(aq (aI au)),q⟩
theorem Dr (T:Txt w.params K mg A):a8 P w K mg base CX0 1 A.Rt A.LG ["self"] (gJ 5):=by
 refine T.Wv.ok C9 (λvs H Q E h=>?_) (λcdv A' outer s H vs Q E hr h=>?_)
 ·obtain⟨m,rfl,_⟩:=h;rfl
 ·obtain⟨m,rfl,q⟩:=h;exact⟨_,(aq (aI au)),q⟩
theorem Cq (T:Txt w.params K mg A):a8 P w K mg base CX0 1 A.Ru A.LH ["self"] (gJ 6):=by
 refine T.Ww.ok BU (λvs H Q E h=>?_) (λcdv A' outer s H vs Q E hr h=>?_)
 ·obtain⟨m,rfl,_⟩:=h;rfl
 ·obtain⟨m,rfl,q⟩:=h;exact⟨_,(aq (aI au)),q⟩
theorem An (T:Txt w.params K mg A):a8 P w K mg base CX0 1 A.Rv A.LI ["self"] (gJ 7):=by
 refine T.Wx.ok Ah (λvs H Q E h=>?_) (λcdv A' outer s H vs Q E hr h=>?_)
 ·obtain⟨m,rfl,_⟩:=h;rfl
 ·obtain⟨m,rfl,q⟩:=h;exact⟨_,(aq (aI au)),q⟩
theorem l6 (T:Txt w.params K mg A):∀k,k < 8->a8 P w K mg base CX0 1 (A.fk k) (A.fkd k) ["self"] (gJ k)
 | 0,_=>zw T
 | 1,_=>zx T
 | 2,_=>Cp T
 | 3,_=>zy T
 | 4,_=>Am T
 | 5,_=>Dr T
 | 6,_=>Cq T
 | 7,_=>An T
 |n+8,h=>absurd h (by omega)
theorem Oe (T:Txt w.params K mg A):a8 P w K mg base CX0 2 A.f_r A.N5 ["self"] (Mc A):=by
 have g8:∀k,k < 8->a8 P w K mg base CX0 1 (A.fk k) (A.fkd k) ["self"] (gJ k):=l6 T;refine T.F_r.ok yV (λvs H Q E h=>?_) (λcdv A' outer s H vs Q E hr h=>?_)
 ·obtain⟨m,k,dx,fs,_,rfl,_⟩:=h;rfl
 ·obtain⟨m,k,dx,fs,hk,rfl,hm,hl,q⟩:=h;obtain⟨t,ht⟩:=T.rk k hk;refine⟨_,(aq (aI (bN Lb (cW (v:=V.ref A.tab) rfl T.Cd rfl) (fA (pv 0) (T.cl k hk) (T.nU k hk) (g8 k hk) hr (T.nW k hk) .nil bC) (λ_ _=>rfl)))),?_⟩
  try dsimp only[cD]
  exact⟨_,rfl,m,dx,fs,rfl,hm,hl,m,rfl,A.tab,nm k,.int k,_,rfl,rfl,T.tb,ht,⟨_,rfl⟩,q⟩
theorem vN (T:Txt w.params K mg A):a8 P w K mg base CX0 2 A.f_t A.LK ["self"] (Iv A):=by
 have g8:∀k,k < 8->a8 P w K mg base CX0 1 (A.fk k) (A.fkd k) ["self"] (gJ k):=l6 T;refine T.F_t.ok yX (λvs H Q E h=>?_) (λcdv A' outer s H vs Q E hr h=>?_)
 ·obtain⟨m,k,dx,fs,_,rfl,_⟩:=h;rfl
 ·obtain⟨m,k,dx,fs,hk,rfl,hm,hl,q⟩:=h;refine⟨_,(aq (aI (aG (aa (fA (pv 0) (T.cl k hk) (T.nU k hk) (g8 k hk) hr (T.nW k hk) .nil bC) af)))),?_⟩
  try dsimp only[cD]
  exact⟨_,rfl,m,dx,fs,rfl,hm,hl,m,rfl,(sl 1),λp hp=>q p hp⟩
theorem zz (T:Txt w.params K mg A):a8 P w K mg base CX0 2 A.Ry A.LM ["self"] (yw A 1 "edit"):=by
 have g8:∀k,k < 8->a8 P w K mg base CX0 1 (A.fk k) (A.fkd k) ["self"] (gJ k):=l6 T;refine T.WA.ok yZ (λvs H Q E h=>?_) (λcdv A' outer s H vs Q E hr h=>?_)
 ·obtain⟨m,dx,fs,v,rfl,_⟩:=h;rfl
 ·obtain⟨m,dx,fs,v,rfl,hm,hl,hv,q⟩:=h;obtain⟨k,hk,ek⟩:∃k,k < 8/\k=1:=⟨1,by decide,rfl⟩
  have hm':H m=some (.ins (A.C k) dx fs):=by rw[ek];exact hm
  refine⟨_,(aq (aI (aG (aa (fA (pv 0) (T.cl k hk) (T.nU k hk) (g8 k hk) hr (T.nW k hk) .nil bC) (aa (bp (pv 0) rfl) af))))),?_⟩
  try dsimp only[cD]
  subst ek;exact⟨_,rfl,m,dx,fs,rfl,hm,hl,m,rfl,_,rfl,m,A.C 1,dx,fs,v,rfl,hm,T.cl 1 hk,T.na1,hv,(sl 2),λp hp=>q p hp⟩
theorem mI (T:Txt w.params K mg A):a8 P w K mg base CX0 1 A.RD A.LR ["self","edit"] (Co A 1):=by
 refine T.WG.ok y4 (λvs H Q E h=>?_) (λcdv A' outer s H vs Q E hr h=>?_)
 ·obtain⟨m,dx,v,rfl,_⟩:=h;rfl
 ·obtain⟨m,dx,v,rfl,hm,q⟩:=h;refine⟨_,(aq (fw (pv 0) (pv 1) rfl)),?_⟩
  try dsimp only[cD]
  exact⟨_,rfl,_,rfl,m,A.C 1,dx,[],rfl,hm,T.cl 1 (by decide),T.na1,by decide,q⟩
theorem Cr (T:Txt w.params K mg A):a8 P w K mg base CX0 2 A.Rz A.LN ["self"] (yw A 2 "edit"):=by
 have g8:∀k,k < 8->a8 P w K mg base CX0 1 (A.fk k) (A.fkd k) ["self"] (gJ k):=l6 T;refine T.WB.ok BV (λvs H Q E h=>?_) (λcdv A' outer s H vs Q E hr h=>?_)
 ·obtain⟨m,dx,fs,v,rfl,_⟩:=h;rfl
 ·obtain⟨m,dx,fs,v,rfl,hm,hl,hv,q⟩:=h;obtain⟨k,hk,ek⟩:∃k,k < 8/\k=2:=⟨2,by decide,rfl⟩
  have hm':H m=some (.ins (A.C k) dx fs):=by rw[ek];exact hm
  refine⟨_,(aq (aI (aG (aa (fA (pv 0) (T.cl k hk) (T.nU k hk) (g8 k hk) hr (T.nW k hk) .nil bC) (aa (bp (pv 0) rfl) af))))),?_⟩
  try dsimp only[cD]
  subst ek;exact⟨_,rfl,m,dx,fs,rfl,hm,hl,m,rfl,_,rfl,m,A.C 2,dx,fs,v,rfl,hm,T.cl 2 hk,T.na2,hv,(sl 2),λp hp=>q p hp⟩
theorem uK (T:Txt w.params K mg A):a8 P w K mg base CX0 1 A.RE A.LS ["self","edit"] (Co A 2):=by
 refine T.WH.ok BW (λvs H Q E h=>?_) (λcdv A' outer s H vs Q E hr h=>?_)
 ·obtain⟨m,dx,v,rfl,_⟩:=h;rfl
 ·obtain⟨m,dx,v,rfl,hm,q⟩:=h;refine⟨_,(aq (fw (pv 0) (pv 1) rfl)),?_⟩
  try dsimp only[cD]
  exact⟨_,rfl,_,rfl,m,A.C 2,dx,[],rfl,hm,T.cl 2 (by decide),T.na2,by decide,q⟩
theorem zA (T:Txt w.params K mg A):a8 P w K mg base CX0 2 A.RA A.LO ["self"] (yw A 3 "sitting"):=by
 have g8:∀k,k < 8->a8 P w K mg base CX0 1 (A.fk k) (A.fkd k) ["self"] (gJ k):=l6 T;refine T.WC.ok y0 (λvs H Q E h=>?_) (λcdv A' outer s H vs Q E hr h=>?_)
 ·obtain⟨m,dx,fs,v,rfl,_⟩:=h;rfl
 ·obtain⟨m,dx,fs,v,rfl,hm,hl,hv,q⟩:=h;obtain⟨k,hk,ek⟩:∃k,k < 8/\k=3:=⟨3,by decide,rfl⟩
  have hm':H m=some (.ins (A.C k) dx fs):=by rw[ek];exact hm
  refine⟨_,(aq (aI (aG (aa (fA (pv 0) (T.cl k hk) (T.nU k hk) (g8 k hk) hr (T.nW k hk) .nil bC) (aa (bp (pv 0) rfl) af))))),?_⟩
  try dsimp only[cD]
  subst ek;exact⟨_,rfl,m,dx,fs,rfl,hm,hl,m,rfl,_,rfl,m,A.C 3,dx,fs,v,rfl,hm,T.cl 3 hk,T.na3,hv,(sl 2),λp hp=>q p hp⟩
theorem rh (T:Txt w.params K mg A):a8 P w K mg base CX0 1 A.RF A.LU ["self","sitting"] (Co A 3):=by
 refine T.WI.ok y6 (λvs H Q E h=>?_) (λcdv A' outer s H vs Q E hr h=>?_)
 ·obtain⟨m,dx,v,rfl,_⟩:=h;rfl
 ·obtain⟨m,dx,v,rfl,hm,q⟩:=h;refine⟨_,(aq (fw (pv 0) (pv 1) rfl)),?_⟩
  try dsimp only[cD]
  exact⟨_,rfl,_,rfl,m,A.C 3,dx,[],rfl,hm,T.cl 3 (by decide),T.na3,by decide,q⟩
theorem Ao (T:Txt w.params K mg A):a8 P w K mg base CX0 2 A.RB A.LP ["self"] (yw A 7 "clause"):=by
 have g8:∀k,k < 8->a8 P w K mg base CX0 1 (A.fk k) (A.fkd k) ["self"] (gJ k):=l6 T;refine T.WD.ok Aj (λvs H Q E h=>?_) (λcdv A' outer s H vs Q E hr h=>?_)
 ·obtain⟨m,dx,fs,v,rfl,_⟩:=h;rfl
 ·obtain⟨m,dx,fs,v,rfl,hm,hl,hv,q⟩:=h;obtain⟨k,hk,ek⟩:∃k,k < 8/\k=7:=⟨7,by decide,rfl⟩
  have hm':H m=some (.ins (A.C k) dx fs):=by rw[ek];exact hm
  refine⟨_,(aq (aI (aG (aa (fA (pv 0) (T.cl k hk) (T.nU k hk) (g8 k hk) hr (T.nW k hk) .nil bC) (aa (bp (pv 0) rfl) af))))),?_⟩
  try dsimp only[cD]
  subst ek;exact⟨_,rfl,m,dx,fs,rfl,hm,hl,m,rfl,_,rfl,m,A.C 7,dx,fs,v,rfl,hm,T.cl 7 hk,T.na7,hv,(sl 2),λp hp=>q p hp⟩
theorem sW (T:Txt w.params K mg A):a8 P w K mg base CX0 1 A.RG A.LW ["self","clause"] (Co A 7):=by
 refine T.WJ.ok Ak (λvs H Q E h=>?_) (λcdv A' outer s H vs Q E hr h=>?_)
 ·obtain⟨m,dx,v,rfl,_⟩:=h;rfl
 ·obtain⟨m,dx,v,rfl,hm,q⟩:=h;refine⟨_,(aq (fw (pv 0) (pv 1) rfl)),?_⟩
  try dsimp only[cD]
  exact⟨_,rfl,_,rfl,m,A.C 7,dx,[],rfl,hm,T.cl 7 (by decide),T.na7,by decide,q⟩
theorem Md {k:Nat}{f:Addr}{fd:kb}{ps:List Str}{sp:Sp}(h:∀vs H Q E,¬sp vs H Q E):a8 P w K mg base CX0 k f fd ps sp :=
 ⟨λvs H Q E z=>(h vs H Q E z).elim,λ_ _ _ H _ _ vs Q E _ _ _ _ z=>(h vs H Q E z).elim⟩
theorem tQ {k:Nat}(hk:k=4\/k=5\/k=6):∀vs H Q E,Gz A k vs H Q E->Iv A vs H Q E:=λvs H Q E ⟨_,m,dx,v,e,hm,q⟩ =>
 ⟨m,k,dx,oZ k v,by omega,e,hm,lZ k v,λp hp=>by
  have:=q p hp;rcases hk with rfl | rfl | rfl <;> exact this⟩
theorem pX (T:Txt w.params K mg A):∀k,k < 8->a8 P w K mg base CX0 2 (A.ft k) (A.ftd k) ["self"] (Gz A k)
 | 0,_=>Md λvs H Q E h=>absurd h.1 (by decide)
 | 1,_=>(zz T).imp λvs H Q E ⟨_,m,dx,v,e,hm,q⟩=>⟨m,dx,_,v,e,hm,lZ 1 v,rfl,q⟩
 | 2,_=>(Cr T).imp λvs H Q E ⟨_,m,dx,v,e,hm,q⟩=>⟨m,dx,_,v,e,hm,lZ 2 v,rfl,q⟩
 | 3,_=>(zA T).imp λvs H Q E ⟨_,m,dx,v,e,hm,q⟩=>⟨m,dx,_,v,e,hm,lZ 3 v,rfl,q⟩
 | 4,_=>(vN T).imp (tQ (.inl rfl))
 | 5,_=>(vN T).imp (tQ (.inr (.inl rfl)))
 | 6,_=>(vN T).imp (tQ (.inr (.inr rfl)))
 | 7,_=>(Ao T).imp λvs H Q E ⟨_,m,dx,v,e,hm,q⟩=>⟨m,dx,_,v,e,hm,lZ 7 v,rfl,q⟩
 |n+8,h=>absurd h (by omega)
theorem zB (T:Txt w.params K mg A):a8 P w K mg base CX0 1 A.RC A.LQ ["self","text"] (Od A K):=by
 refine T.WE.ok y3 (λvs H Q E h=>?_) (λcdv A' outer s H vs Q E hr h=>?_)
 ·obtain⟨m,dx,L,xs,rfl,_⟩:=h;rfl
 ·obtain⟨m,dx,L,xs,rfl,hm,hL,q⟩:=h;refine⟨_,(aq (fw (pv 0) (d0 dS (by rfl) T.mB kD (aa (pv 1) af)) rfl)),?_⟩
  try dsimp only[cD]
  refine⟨_,rfl,L,xs,rfl,.inl hL,λp hp=>?_⟩
  have nmp:m≠p:=a6 hm hp;exact⟨_,rfl,m,A.C 0,dx,[],rfl,(aw nmp).trans hm,T.cl 0 (by decide),T.na0,by decide,q p hp⟩
theorem Me (T:Txt w.params K mg A):a8 P w K mg base CX0 2 A.Rx A.LL ["self"] (Iw A K):=by
 have g8:∀k,k < 8->a8 P w K mg base CX0 1 (A.fk k) (A.fkd k) ["self"] (gJ k):=l6 T;refine T.Wz.ok yY (λvs H Q E h=>?_) (λcdv A' outer s H vs Q E hr h=>?_)
 ·obtain⟨m,dx,L,xs,rfl,_⟩:=h;rfl
 ·obtain⟨m,dx,L,xs,rfl,hm,hL,q⟩:=h;obtain⟨k,hk,ek⟩:∃k,k < 8/\k=0:=⟨0,by decide,rfl⟩
  refine⟨_,(aq (aI (aG (aa (fA (pv 0) (T.cl k hk) (T.nU k hk) (g8 k hk) hr (T.nW k hk) .nil bC) (aa (d0 dS (by rfl) T.mB kD (aa (bp (pv 0) rfl) af)) af))))),?_⟩
  try dsimp only[cD]
  subst ek;refine⟨_,rfl,m,dx,_,rfl,hm,lZ 0 _,m,rfl,_,rfl,m,A.C 0,dx,_,_,rfl,hm,T.cl 0 hk,T.na0,rfl,L,xs,rfl,.inl hL,λp hp=>⟨(sl 2),λq' hq'=>?_⟩⟩
  have npq:p≠q':=a6 ah hq';have hq:H q'=none:=by rw[aw (adz npq)]at hq';exact hq'
  exact q p q' hp hq npq
theorem Cs (T:Txt w.params K mg A):a8 P w K mg base CX0 3 A.oW A.jj ["told"] (Iy A):=by
 refine T.nC.ok lV (λvs H Q E h=>?_) (λcdv A' outer s H vs Q E hr h=>?_)
 ·obtain⟨t,k,v,_,_,rfl,_⟩:=h;rfl
 ·obtain⟨t,k,v,h1,h8,rfl,ht,q⟩:=h;have jy:=hr;refine⟨_,(ao (br (i:=1) lV.nd rfl (wt rfl) (bN bG (pv 0) aj (λ_ _=>rfl)))
 (ao (cI (a9 cS (pv 1) au (bz _))
 (aq (aI (hU T.uG (zB T) jy rfl T.uE T.N6 .nil bC (aa (bN bG (pv 0) aj (λ_ _=>rfl)) af))))
 aT)
 (ao (cI (a9 cS (pv 1) au (bz _))
 (aq (aI (hU T.uH (mI T) jy rfl T.uF T.N7 .nil bC (aa (bN bG (pv 0) aj (λ_ _=>rfl)) af))))
 aT)
 (ao (cI (a9 cS (pv 1) au (bz _))
 (aq (aI (hU T.Gx (uK T) jy rfl T.Gs T.RH .nil bC (aa (bN bG (pv 0) aj (λ_ _=>rfl)) af))))
 aT)
 (ao (cI (a9 cS (pv 1) au (bz _))
 (aq (aI (hU T.zm (rh T) jy rfl T.zk T.RI .nil bC (aa (bN bG (pv 0) aj (λ_ _=>rfl)) af))))
 aT)
 (ao (cI (a9 cS (pv 1) au (bz _))
 (aq (aI (oG (T.mkn 4 (by decide)) rfl T.Cb)))
 aT)
 (ao (cI (a9 cS (pv 1) au (bz _))
 (aq (aI (oG (T.mkn 5 (by decide)) rfl T.L4)))
 aT)
 (ao (cI (a9 cS (pv 1) au (bz _))
 (aq (aI (oG (T.mkn 6 (by decide)) rfl T.Gu)))
 aT)
 (aq (aI (hU T.Ce (sW T) jy rfl T.Cc T.RJ .nil bC (aa (bN bG (pv 0) aj (λ_ _=>rfl)) af)))))))))))),?_⟩
  try dsimp only[cD]
  have h0:atI (rowOf k v) 0=some (.str (nm k)):=by
   have hk:k=1\/k=2\/k=3\/k=4\/k=5\/k=6\/k=7:=by omega
   rcases hk with rfl | rfl | rfl | rfl | rfl | rfl | rfl <;> rfl
  refine ixv rfl (SqT.of ht) h0 ?_;have hk:k=1\/k=2\/k=3\/k=4\/k=5\/k=6\/k=7:=by omega
  rcases hk with rfl | rfl | rfl | rfl | rfl | rfl | rfl
  ·refine⟨_,rfl,rfl,tsf (by trivial) ⟨_,rfl,rfl,tst (by trivial) ?_⟩⟩
   exact⟨_,rfl,t,_,_,v,rfl,rfl,SqT.of ht,rfl,λm dx nm ndx ne=>⟨m,dx,v,rfl,ah,rfl,q m _ ((((bT.refl H).own ndx).own nm).own nm) nm ⟨dx,ah⟩⟩⟩
  ·refine⟨_,rfl,rfl,tsf (by trivial) ⟨_,rfl,rfl,tsf (by trivial) ⟨_,rfl,rfl,tst (by trivial) ?_⟩⟩⟩
   exact⟨_,rfl,t,_,_,v,rfl,rfl,SqT.of ht,rfl,λm dx nm ndx ne=>⟨m,dx,v,rfl,ah,rfl,q m _ ((((bT.refl H).own ndx).own nm).own nm) nm ⟨dx,ah⟩⟩⟩
  ·refine⟨_,rfl,rfl,tsf (by trivial) ⟨_,rfl,rfl,tsf (by trivial) ⟨_,rfl,rfl,tsf (by trivial) ⟨_,rfl,rfl,tst (by trivial) ?_⟩⟩⟩⟩
   exact⟨_,rfl,t,_,_,v,rfl,rfl,SqT.of ht,rfl,λm dx nm ndx ne=>⟨m,dx,v,rfl,ah,rfl,q m _ ((((bT.refl H).own ndx).own nm).own nm) nm ⟨dx,ah⟩⟩⟩
  ·refine⟨_,rfl,rfl,tsf (by trivial) ⟨_,rfl,rfl,tsf (by trivial) ⟨_,rfl,rfl,tsf (by trivial) ⟨_,rfl,rfl,tsf (by trivial) ⟨_,rfl,rfl,tst (by trivial) ?_⟩⟩⟩⟩⟩
   exactλm dx nm ndx ne=>q m _ (((bT.refl H).own ndx).own nm) nm ⟨dx,ah⟩
  ·refine⟨_,rfl,rfl,tsf (by trivial) ⟨_,rfl,rfl,tsf (by trivial) ⟨_,rfl,rfl,tsf (by trivial) ⟨_,rfl,rfl,tsf (by trivial) ⟨_,rfl,rfl,tsf (by trivial) ⟨_,rfl,rfl,tst (by trivial) ?_⟩⟩⟩⟩⟩⟩
   exactλm dx nm ndx ne=>q m _ (((bT.refl H).own ndx).own nm) nm ⟨dx,ah⟩
  ·refine⟨_,rfl,rfl,tsf (by trivial) ⟨_,rfl,rfl,tsf (by trivial) ⟨_,rfl,rfl,tsf (by trivial) ⟨_,rfl,rfl,tsf (by trivial) ⟨_,rfl,rfl,tsf (by trivial) ⟨_,rfl,rfl,tsf (by trivial) ⟨_,rfl,rfl,tst (by trivial) ?_⟩⟩⟩⟩⟩⟩⟩
   exactλm dx nm ndx ne=>q m _ (((bT.refl H).own ndx).own nm) nm ⟨dx,ah⟩
  ·refine⟨_,rfl,rfl,tsf (by trivial) ⟨_,rfl,rfl,tsf (by trivial) ⟨_,rfl,rfl,tsf (by trivial) ⟨_,rfl,rfl,tsf (by trivial) ⟨_,rfl,rfl,tsf (by trivial) ⟨_,rfl,rfl,tsf (by trivial) ⟨_,rfl,rfl,tsf (by trivial) ?_⟩⟩⟩⟩⟩⟩⟩
   exact⟨_,rfl,t,_,_,v,rfl,rfl,SqT.of ht,rfl,λm dx nm ndx ne=>⟨m,dx,v,rfl,ah,rfl,q m _ ((((bT.refl H).own ndx).own nm).own nm) nm ⟨dx,ah⟩⟩⟩
theorem Aq (T:Txt w.params K mg A):a8 P w K mg base CX0 3 A.oW A.jj ["told"] (Dp A K):=by
 refine T.nC.ok lV (λvs H Q E h=>?_) (λcdv A' outer s H vs Q E hr h=>?_)
 ·obtain⟨t,L,xs,rfl,_⟩:=h;rfl
 ·obtain⟨t,L,xs,rfl,ht,hL,q⟩:=h;have jy:=hr;refine⟨_,(ao (br (i:=1) lV.nd rfl (wt rfl) (bN bG (pv 0) aj (λ_ _=>rfl)))
 (ao (cI (a9 cS (pv 1) au (bz _))
 (aq (aI (hU T.uG (zB T) jy rfl T.uE T.N6 .nil bC (aa (bN bG (pv 0) aj (λ_ _=>rfl)) af))))
 aT)
 (ao (cI (a9 cS (pv 1) au (bz _))
 (aq (aI (hU T.uH (mI T) jy rfl T.uF T.N7 .nil bC (aa (bN bG (pv 0) aj (λ_ _=>rfl)) af))))
 aT)
 (ao (cI (a9 cS (pv 1) au (bz _))
 (aq (aI (hU T.Gx (uK T) jy rfl T.Gs T.RH .nil bC (aa (bN bG (pv 0) aj (λ_ _=>rfl)) af))))
 aT)
 (ao (cI (a9 cS (pv 1) au (bz _))
 (aq (aI (hU T.zm (rh T) jy rfl T.zk T.RI .nil bC (aa (bN bG (pv 0) aj (λ_ _=>rfl)) af))))
 aT)
 (ao (cI (a9 cS (pv 1) au (bz _))
 (aq (aI (oG (T.mkn 4 (by decide)) rfl T.Cb)))
 aT)
 (ao (cI (a9 cS (pv 1) au (bz _))
 (aq (aI (oG (T.mkn 5 (by decide)) rfl T.L4)))
 aT)
 (ao (cI (a9 cS (pv 1) au (bz _))
 (aq (aI (oG (T.mkn 6 (by decide)) rfl T.Gu)))
 aT)
 (aq (aI (hU T.Ce (sW T) jy rfl T.Cc T.RJ .nil bC (aa (bN bG (pv 0) aj (λ_ _=>rfl)) af)))))))))))),?_⟩
  try dsimp only[cD]
  refine ixv rfl (SqT.of ht) rfl ?_;refine⟨_,rfl,rfl,tst (by trivial) ?_⟩
  refine⟨_,rfl,t,_,_,.ref L,rfl,rfl,SqT.of ht,rfl,λm dx nm ndx ne=>⟨m,dx,L,xs,rfl,ah,(((bT.refl H).own ndx).own nm).seq hL,λp hp=>⟨rfl,?_⟩⟩⟩
  have s1:bT H (upd (upd H dx (.own m)) m (.ins (A.C 0) dx [])):=((bT.refl H).own ndx).own nm;have npm:p≠m:=λz=>by rw[z,ah]at hp;cases hp
  exact q m p _ ((s1.new hp).own nm) nm (s1.free hp) ((aw npm).trans ah) ⟨dx,ah⟩
end
abbrev Mf:Str:=ar "more"
def o8 (n:Str)(a b:Int):Bool:=if a<=b then false else (decide (n=Mf) || decide (2 * b<=a))
def RM:Sp:=λvs H Q _=>∃(n:Str) (a b:Int),vs=[.str n,.int a,.int b]/\Q (.bl (o8 n a b)) H
section
variable{P:ma}{w:World}{K:cb}{mg:Str->Option Value}{base:Heap}{A:Adr}
theorem GA (T:Txt w.params K mg A):a8 P w K mg base CX0 1 A.B4 A.tL ["need","ayes","noes"] RM:=by
 refine T.vL.ok Gf (λvs H Q E h=>?_) (λcdv A' outer s H vs Q E hr h=>?_)
 ·obtain⟨n,a,b,rfl,_⟩:=h;rfl
 ·obtain⟨n,a,b,rfl,q⟩:=h;refine⟨_,(ao (cI (a9 HZ (pv 1) (pv 2) (bz _))
 (aq (aI yA))
 aT)
 (aq (aI (VG (nz cS (pv 0) au (bz _)) (FJ (nz VR (pv 1) (dj Bu aj (pv 2)) (bz _))))))),?_⟩
  try dsimp only[cD]
  refine⟨_,rfl,_,rfl,_,_,rfl,rfl,_,rfl,vq (λe=>?_) (λe=>?_)⟩
  ·have e':a<=b:=of_decide_eq_true e;rw[o8,if_pos e']at q;exact q
  ·have e':¬a<=b:=λz=>e (decide_eq_true z)
   rw[o8,if_neg e']at q;refine⟨_,rfl,rfl,_,rfl,vq (λe2=>?_) (λe2=>?_)⟩
   ·have h2:n=Mf:=by injection of_decide_eq_true e2
    rw[decide_eq_true h2,Bool.true_or]at q;exact q
   ·have h2:¬n=Mf:=λz=>e2 (decide_eq_true (by rw[z]))
    rw[decide_eq_false h2,Bool.false_or]at q;exact⟨_,rfl,_,rfl,_,_,rfl,rfl,.inl ⟨by decide,by decide⟩,_,_,rfl,rfl,q⟩
end
namespace R
abbrev bl1:Str:=ar " "
abbrev em:Str:=ar ""
theorem nX:bl1=⟨#[32]⟩:=by trivial
theorem Po:em=⟨#[]⟩:=by trivial
abbrev sg:Str:=ar "!\"#$&'()*+,-./0123456789:;<=>?@ABCDEFGHIJKLMNOPQRSTUVWXYZ[\\]^_`abcdefghijklmnopqrstuvwxyz{|}~"
def Sign (c:Nat):Prop:=33<=c/\c<=126/\c≠37
instance:DecidablePred Sign:=λc=>by unfold Sign;exact inferInstance
structure lH (x:Str):Prop where
 l1:1<=x.length
 l2:x.length<=20
 sgn:∀c∈x.cps.toList,Sign c
 ns:x≠ar "/"
def Asc (x:Str):Prop:=∀c∈x.cps.toList,c < 128
theorem Asc.ok {x:Str}(h:Asc x):Lk x=true:=by
 unfold Lk;rw[Array.all_eq_true];intro i hi;have:=h x.cps[i] (by simp)
 exact decide_eq_true (by omega)
theorem lH.asc {x:Str}(w:lH x):Asc x:=λc hc=>by have:=w.sgn c hc;unfold Sign at this;omega
theorem mG {sep:Str}(hs:Asc sep):∀ws:List Str,(∀w∈ws,Asc w)->Asc (ka sep ws)
 |[],_=>λc hc=>by
  have:c∈([]:List Nat):=hc;cases this
 |[x],h=>h x fi
 |x::y::r,h=>λc hc=>by
  have hc':c∈((x++sep)++ka sep (y::r)).cps.toList:=hc;rw[eB,eB,List.mem_append,List.mem_append]at hc';rcases hc' with (h1 | h1) | h1
  ·exact h x fi c h1
  ·exact hs c h1
  ·exact mG hs (y::r) (λw hw=>h w (kf _ hw)) c h1
abbrev WL:List Str:=[ar "-",ar "put",ar "/a",ar "0",ar "off",ar "//",ar "matter",ar "a"]
theorem Mg {x:Str}(h:decide (1<=x.length/\x.length<=20/\(∀c∈x.cps.toList,Sign c)/\x≠ar "/")=true):lH x:=by
 obtain⟨a,b,c,d⟩:=of_decide_eq_true h;exact⟨a,b,c,d⟩
theorem RN:∀x∈WL,lH x:=by
 intro x hx;simp only[List.mem_cons,aeH,or_false]at hx;rcases hx with rfl | rfl | rfl | rfl | rfl | rfl | rfl | rfl <;> exact Mg (by trivial)
structure Clause (n:Nat)(x:Str)(ws:List Str):Prop where
 eq:x=ka bl1 ws
 len:ws.length<=n
 wd:∀w∈ws,lH w
theorem Clause.asc {n:Nat}{x:Str}{ws:List Str}(c:Clause n x ws):Asc x:=by
 rw[c.eq];exact mG (by rw[nX];intro d hd;have:d=32:=(by simpa using hd);omega) ws λw hw=>(c.wd w hw).asc
theorem A8 {ws:List Str}(h:∀w∈ws,lH w):(ws.map (·.length)).sum<=ws.length * 20:=StrLaws.sumLen_le ws λw hw=>(h w hw).l2
theorem Clause.size {n:Nat}{x:Str}{ws:List Str}(c:Clause n x ws):x.length<=n * 21:=by
 rw[c.eq,nX];have h1:=oF 32 ws;have h2:=A8 c.wd;have h3:=c.len;omega
abbrev sl1:Str:=ar "/"
def num (i:Int):Str:=ar (toString i)
theorem Iz {i:Int}(h0:0<=i)(h1:i < 10 ^ 10):(num i).length<=10:=PyProof.Rows.toString_length_le h0 (by decide) h1
theorem IA {i:Int}(h0:0<=i)(h1:i < 10 ^ 10):i.natAbs.log2 < 1920:=by
 have h:i.natAbs < 2 ^ 34:=by
  have:(10:Int) ^ 10<=2 ^ 34:=by decide
  omega
 by_cases hz:i.natAbs=0
 ·rw[hz];decide
 ·exact Nat.lt_trans ((Nat.log2_lt hz).mpr h) (by decide)
def cw (z:Str):List Str:=if z=em then [] else PySem.Txt.split z bl1
theorem lH.free {x:Str}(w:lH x):32∉x.cps.toList:=λz=>by have:=w.sgn _ z;unfold Sign at this;omega
theorem jz {ws:List Str}(h:∀w∈ws,lH w):cw (ka bl1 ws)=ws:=by
 cases ws with
 |nil=>exact if_pos (by rw[Po];rfl)
 |cons x r =>
  have l:=Af (c:=32) (adX x r) λw hw=>(h w hw).l1
  have ne:¬ka bl1 (x::r)=em:=λe=>by
   rw[nX]at e;rw[e,Po]at l;exact absurd l (by decide)
  unfold cw;rw[if_neg ne,nX];exact F3 (adX x r) λw hw=>(h w hw).free
inductive d7 where
 |mat (cs:List (List Str))
 |ed (m:Bool) (k:Nat) (i:Int) (ws:List Str)
 |pt (ws:List Str)
 |nums (kd:Str) (ns:List Int)
def kEd (m:Bool):Str:=if m then ar "mend" else ar "change"
def kn:Nat->Str
 | 0=>ar "put"
 | 1=>ar "cut"
 |_=>ar "turn"
def edR (k:Nat)(i:Int)(x:Str):List V:=if k=1 then [.str (kn 1),.int i] else [.str (kn k),.int i,.str x]
def jA:List (Str×Nat):=[(ar "put off",1),(ar "vote",2),(ar "take",1),(ar "close",0),(ar "lay",0),(ar "rest",0),(ar "drop",0)]
structure sP (n:Nat)(ws:List Str):Prop where
 len:ws.length<=n
 wd:∀w∈ws,lH w
def DOk:d7->Prop
 | .mat cs=>cs.length<=12/\∀ws∈cs,sP 12 ws
 | .ed m k i ws=>(k=0\/k=1\/k=2)/\(0<=i/\i < 10 ^ 10)/\sP 12 ws/\(m=true->ws.length=1)
 | .pt ws=>sP 12 ws
 | .nums kd ns=>(kd,ns.length)∈jA/\∀i∈ns,0<=i/\i < 10 ^ 10
def rj (K:cb)(H:Hp):d7->Addr->Prop
 | .mat cs,t=>∃L,SqT K H t [.str (ar "matter"),.ref L]/\SqL K H L ((cs.map (ka bl1)).map V.str)
 | .ed m k i ws,t=>∃e,SqT K H t [.str (kEd m),.ref e]/\SqT K H e (edR k i (ka bl1 ws))
 | .pt ws,t=>SqT K H t [.str (ar "point"),.str (ka bl1 ws)]
 | .nums kd ns,t=>SqT K H t (.str kd::ns.map V.int)
theorem rj.same {K:cb}{H H':Hp}(s:bT H H'):∀ {d:d7} {t:Addr},rj K H d t->rj K H' d t
 | .mat _,_,⟨L,a,b⟩=>⟨L,eQ s a,s.seq b⟩
 | .ed _ _ _ _,_,⟨e,a,b⟩=>⟨e,eQ s a,eQ s b⟩
 | .pt _,_,a=>eQ s a
 | .nums _ _,_,a=>eQ s a
def nH:d7->Str
 | .mat _=>ar "matter"
 | .ed m _ _ _=>kEd m
 | .pt _=>ar "point"
 | .nums kd _=>kd
def jB:d7->List Str
 | .mat cs=>cs.flatMap λws=>sl1::ws
 | .ed _ k i ws=>kn k::num i::(if k=1 then [] else ws)
 | .pt ws=>ws
 | .nums _ ns=>ns.map num
def jC (d:d7):Str:=ka bl1 (nH d::jB d)
theorem RO (k:Nat):(kn k).length<=4:=by
 unfold kn;split <;> trivial
theorem Of (m:Bool):(kEd m).length<=6:=by cases m <;> trivial
theorem kd_len {kd:Str}{n:Nat}(h:(kd,n)∈jA):kd.length<=7/\n<=2:=by
 simp only[jA,List.mem_cons,aeH,or_false,Prod.mk.injEq]at h;rcases h with ⟨rfl,rfl⟩ | ⟨rfl,rfl⟩ | ⟨rfl,rfl⟩ | ⟨rfl,rfl⟩ | ⟨rfl,rfl⟩ | ⟨rfl,rfl⟩ | ⟨rfl,rfl⟩ <;> trivial
theorem A9 {d:d7}(o:DOk d):(jB d).length<=200/\(∀w∈jB d,w.length<=20)/\(nH d).length<=20:=by
 cases d with
 |mat cs =>
  obtain⟨o1,o2⟩:=o;refine⟨?_,λw hw=>?_,by show (ar "matter").length<=20;trivial⟩
  ·show (cs.flatMap λws=>sl1::ws).length<=200
   have:∀l:List (List Str),(∀ws∈l,sP 12 ws)->(l.flatMap λws=>sl1::ws).length<=l.length * 13:=λl=>by
    induction l with
    |nil=>intro _;exact km _
    |cons x l ih =>
     intro h;have h1:=(h x fi).len;have h2:=ih λw hw=>h w (kf _ hw)
     rw[List.flatMap_cons,kq,om,om];omega
   have:=this cs o2;omega
  ·obtain⟨ws,h1,h2⟩:=List.mem_flatMap.mp hw;rcases List.mem_cons.mp h2 with rfl | h2
   ·trivial
   ·exact((o2 ws h1).wd w h2).l2
 |ed m k i ws =>
  obtain⟨o1,⟨i0,i1⟩,o3,_⟩:=o;have l:=o3.len;refine⟨?_,λw hw=>?_,?_⟩
  ·show (kn k::num i::(if k=1 then [] else ws)).length<=200
   split <;> simp <;> omega
  ·have hw':w∈kn k::num i::(if k=1 then [] else ws):=hw
   rcases List.mem_cons.mp hw' with rfl | hw'
   ·have:=RO k;omega
   ·rcases List.mem_cons.mp hw' with rfl | hw'
    ·have:=Iz i0 i1;omega
    ·split at hw'
     ·cases hw'
     ·exact(o3.wd w hw').l2
  ·have:=Of m;show (kEd m).length<=20;omega
 |pt ws=>exact⟨by have:=o.len;show ws.length<=200;omega,λw hw=>(o.wd w hw).l2,by show (ar "point").length<=20;trivial⟩
 |nums kd ns =>
  obtain⟨o1,o2⟩:=o;have:=kd_len o1;refine⟨by show (ns.map num).length<=200;rw[da];omega,λw hw=>?_,by show kd.length<=20;omega⟩
  obtain⟨i,hi,rfl⟩:=List.mem_map.mp hw;have:=Iz (o2 i hi).1 (o2 i hi).2;omega
def sH:Sp:=λvs H Q _=>∃z,vs=[.str z]/\z.length+2<=gn/\∀p,H p=none->Q (.ref p) (upd H p (.lst ((cw z).map V.str)))
def tR (K:cb):Sp:=λvs H Q _=>∃a ws,vs=[.ref a]/\SqL K H a (ws.map V.str)/\(ws.map (·.length)).sum+ws.length<=16777216/\Q (.str (ka bl1 ws)) H
def RP (K:cb):Sp:=λvs H Q _=>∃(L:Addr) (cs:List (List Str)),vs=[.ref L]/\SqL K H L ((cs.map (ka bl1)).map V.str)/\DOk (.mat cs)/\∀p H',bT H H'->H p=none->H' p=some (.lst ((jB (.mat cs)).map V.str))->Q (.ref p) H'
def Og (K:cb):Sp:=λvs H Q _=>∃(t:Addr) (m:Bool) (k:Nat) (i:Int) (ws:List Str),vs=[.ref t]/\SqT K H t (edR k i (ka bl1 ws))/\DOk (.ed m k i ws)/\∀p H',bT H H'->H p=none->H' p=some (.lst ((jB (.ed m k i ws)).map V.str))->Q (.ref p) H'
def Mh (K:cb):Sp:=λvs H Q _=>∃(t:Addr) (d:d7),vs=[.ref t]/\rj K H d t/\DOk d/\∀p H',bT H H'->H p=none->H' p=some (.lst ((jB d).map V.str))->Q (.ref p) H'
def Ct (K:cb):Sp:=λvs H Q _=>∃(t:Addr) (d:d7),vs=[.ref t]/\rj K H d t/\DOk d/\∀H',bT H H'->Q (.str (jC d)) H'
theorem zv {k:Nat}(h:k=0\/k=1\/k=2):(V.str (kn k)=V.str (ar "cut"))↔k=1:=by
 rcases h with rfl | rfl | rfl <;> trivial
theorem IB (k:Nat)(i:Int)(x:Str):atI (edR k i x) 0=some (.str (kn k)):=by
 unfold edR;split
 ·rename_i h;rw[h];rfl
 ·rfl
theorem Oh (k:Nat)(i:Int)(x:Str):atI (edR k i x) 1=some (.int i):=by
 unfold edR;split <;> rfl
theorem Oi {k:Nat}(h:k≠1)(i:Int)(x:Str):atI (edR k i x) 2=some (.str x):=by
 unfold edR;rw[if_neg h];rfl
theorem tS {ws:List Str}(o:sP 12 ws):(ka bl1 ws).length<=300:=by
 have h1:=oF 32 ws;have h2:=A8 o.wd;have h3:=o.len;rw[nX];omega
theorem WM {kd:Str}{n:Nat}(h:(kd,n)∈jA):V.str kd≠V.str (ar "matter")/\V.str kd≠V.str (ar "change")/\V.str kd≠V.str (ar "mend")/\V.str kd≠V.str (ar "point"):=by
 simp only[jA,List.mem_cons,aeH,or_false,Prod.mk.injEq]at h;rcases h with ⟨rfl,rfl⟩ | ⟨rfl,rfl⟩ | ⟨rfl,rfl⟩ | ⟨rfl,rfl⟩ | ⟨rfl,rfl⟩ | ⟨rfl,rfl⟩ | ⟨rfl,rfl⟩ <;> trivial
section
variable{K:cb}
theorem rj.at0 {H:Hp}{d:d7}{t:Addr}(h:rj K H d t):∃xs,SqT K H t xs/\atI xs 0=some (.str (nH d)):=by
 cases d with
 |mat cs=>obtain⟨L,a,b⟩:=h;exact⟨_,a,rfl⟩
 |ed m k i ws=>obtain⟨e,a,b⟩:=h;exact⟨_,a,rfl⟩
 |pt ws=>exact⟨_,h,rfl⟩
 |nums kd ns=>exact⟨_,h,pM (j:=0) rfl⟩
end
section
variable{P:ma}{w:World}{K:cb}{mg:Str->Option Value}{base:Heap}{A:Adr}
theorem uL (T:Txt w.params K mg A):a8 P w K mg base CX0 1 A.oV A.ji ["words"] (tR K):=by
 refine T.nB.ok BY (λvs H Q E h=>?_) (λcdv A' outer s H vs Q E hr h=>?_)
 ·obtain⟨a,ws,rfl,_⟩:=h;rfl
 ·obtain⟨a,ws,rfl,hq,hz,k⟩:=h;refine⟨_,(aq (aI (mi PySem.F.plainAttrs_str PySem.F.slot_str_join PySem.F.type_str_join Ih au (aa (pv 0) af)))),?_⟩
  try dsimp only[cD]
  exact⟨rfl,_,rfl,bl1,a,ws,rfl,rfl,hq,by rw[nX];show _+ws.length * 1<=_;omega,k⟩
theorem kS (T:Txt w.params K mg A):a8 P w K mg base CX0 1 A.words_of A.i5 ["clause"] sH:=by
 refine T.iM.ok Dc (λvs H Q E h=>?_) (λcdv A' outer s H vs Q E hr h=>?_)
 ·obtain⟨z,rfl,_⟩:=h;rfl
 ·obtain⟨z,rfl,hz,k⟩:=h;refine⟨_,(ao (cI (a9 cS (pv 0) au (bz _))
 (aq (aI (bO af)))
 aT)
 (aq (aI (mi PySem.F.plainAttrs_str PySem.F.slot_str_split PySem.F.type_str_split K0 (pv 0) (aa au af))))),?_⟩
  try dsimp only[cD]
  refine⟨_,rfl,rfl,_,rfl,vq (λe=>?_) (λe=>?_)⟩
  ·have e':z=em:=by injection of_decide_eq_true e
   refine⟨ad8 _,λp hp=>?_⟩
   have:=k p hp;rw[cw,if_pos e']at this;exact this
  ·have e':¬z=em:=λq=>e (decide_eq_true (by rw[q]))
   refine⟨_,rfl,rfl,z,bl1,rfl,rfl,by rw[nX];rfl,hz,λp hp=>?_⟩
   have:=k p hp;rw[cw,if_neg e']at this;exact this
theorem vO (T:Txt w.params K mg A):a8 P w K mg base CX0 2 A.nR A.jV ["text"] (RP K):=by
 refine T.lE.ok jQ (λvs H Q E h=>?_) (λcdv A' outer s H vs Q E hr h=>?_)
 ·obtain⟨L,cs,rfl,_⟩:=h;rfl
 ·obtain⟨L,cs,rfl,hL,o,k⟩:=h;refine⟨_,(ao (br (i:=1) jQ.nd rfl (wt rfl) (bO af))
 (ao (FN PassesOwn.never rfl (sf (pv 0)) (pK (i:=2) jQ.nd rfl (wt rfl))
 (ao (dh (mi adt adM adN gi (pv 1) (aa au af)))
 (aq (dh (mi adt PySem.F.slot_list_extend PySem.F.type_list_extend AN (pv 1) (aa (bY (kS T) hr rfl T.jZ T.iM.kp T.jY .nil bC (aa (pv 2) af)) af))))))
 (aq (aI (pv 1))))),?_⟩
  try dsimp only[cD]
  have lim:gn=16777216:=by decide
  refine⟨ad8 _,λW hW=>?_⟩
  refine⟨_,rfl,L,rfl,⟨_,(aK hW).seq hL⟩,?_⟩;refine CL (K:=K) (a:=L) (xs:=(cs.map (ka bl1)).map V.str) (λi σ H2=>∃v2:Option V,σ=[some (.ref L),some (.ref W),v2]/\bT H H2/\H2 W=some (.lst ((jB (.mat (cs.take i))).map V.str)))
   ⟨_,rfl,aK hW,ah⟩ (λi σ H2 _ ⟨_,_,s2,_⟩=>s2.seq hL) ?_ ?_
  ·rintro i y σ H2 hi ⟨v2,rfl,s2,h2⟩;rw[adK,adK]at hi;cases hc:cs[i]? with
   |none=>rw[hc]at hi;cases hi
   |some ws =>
    rw[hc]at hi;obtain rfl:V.str (ka bl1 ws)=y:=adq hi;have ow:=o.2 ws (adF hc);have hcl:=tS ow;have hil:i < cs.length:=(List.getElem?_eq_some_iff.mp hc).1;have hb:(jB (.mat (cs.take i))).length<=200:=(A9 (d:=.mat (cs.take i)) ⟨by rw[adW];have:=o.1;omega,λws hw=>o.2 ws (List.mem_of_mem_take hw)⟩).1
    refine⟨_,rfl,.inl ⟨rfl,_,SqL.of h2⟩,W,_,_,rfl,rfl,h2,(by rw[da];omega),?_⟩
    refine⟨_,rfl,.inl ⟨rfl,_,SqL.of ah⟩,_,rfl,_,rfl,by omega,λp hp=>?_⟩
    rw[jz ow.wd];have nWp:W≠p:=a6 ah hp;have wl:=ow.len;refine⟨W,p,_,_,rfl,rfl,(aw nWp).trans ah,ah,(by rw[kq,da,da];show _+1+_<=_;omega),?_⟩
    refine⟨_,rfl,((s2.own hW).new hp).own hW,?_⟩;rw[ah,List.take_succ,hc];show some (HO.lst _)=some (HO.lst (((cs.take i++[ws]).flatMap λws=>sl1::ws).map V.str))
    rw[List.flatMap_append];simp[jB]
  ·rintro σ H2 ⟨v2,rfl,s2,h2⟩;rw[da,da,aeI]at h2;exact⟨_,rfl,k W H2 s2 hW h2⟩
theorem vP (T:Txt w.params K mg A):a8 P w K mg base CX0 2 A.nS A.jW ["edit"] (Og K):=by
 refine T.lF.ok oQ (λvs H Q E h=>?_) (λcdv A' outer s H vs Q E hr h=>?_)
 ·obtain⟨t,m,k,i,ws,rfl,_⟩:=h;rfl
 ·obtain⟨t,m,k,i,ws,rfl,ht,⟨o1,⟨i0,i1⟩,o3,_⟩,q⟩:=h;refine⟨_,(ao (br (i:=1) oQ.nd rfl (wt rfl) (bO (aa (bN bG (pv 0) aj (λ_ _=>rfl)) (aa (d0 uq (by rfl) T.LZ KY (aa (bN bG (pv 0) aj (λ_ _=>rfl)) af)) af))))
 (ao (cI (a9 HY (bN bG (pv 0) aj (λ_ _=>rfl)) au (bz _))
 (aq (dh (mi adt PySem.F.slot_list_extend PySem.F.type_list_extend AN (pv 1) (aa (bY (kS T) hr rfl T.jZ T.iM.kp T.jY .nil bC (aa (bN bG (pv 0) aj (λ_ _=>rfl)) af)) af))))
 aT)
 (aq (aI (pv 1))))),?_⟩
  try dsimp only[cD]
  have lim:gn=16777216:=by decide
  refine ixv rfl ht (IB k i _) (ixv rfl ht (Oh k i _) ⟨_,rfl,IA i0 i1,(sl 2),λW hW=>?_⟩)
  have s1:bT H (upd H W (.lst [V.str (kn k),V.str (num i)])):=aK hW;have hcl:=tS o3;refine ixv rfl (eQ s1 ht) (IB k i _) ⟨rfl,_,rfl,?_⟩
  by_cases hk:k=1
  ·rw[decide_eq_true ((zv o1).mpr hk)];refine kK ⟨_,rfl,q W _ s1 hW ?_⟩;show (upd H W (.lst [V.str (kn k),V.str (num i)])) W=some (.lst ((kn k::num i::(if k=1 then [] else ws)).map V.str))
   rw[ah,if_pos hk];rfl
  ·rw[decide_eq_false λz=>hk ((zv o1).mp z)]
   refine nO ⟨_,rfl,.inl ⟨rfl,_,SqL.of ah⟩,ixv rfl (eQ s1 ht) (Oi hk i _) ⟨_,rfl,by omega,λp hp=>?_⟩⟩
   rw[jz o3.wd];have nWp:W≠p:=a6 ah hp;have wl:=o3.len;refine⟨W,p,_,_,rfl,rfl,(aw nWp).trans ah,ah,(by rw[da];show 2+_<=_;omega),_,rfl,q W _ ((s1.new hp).own hW) hW ?_⟩
   show (upd (upd (upd H W (.lst [V.str (kn k),V.str (num i)])) p (.lst (ws.map V.str))) W (.lst ([V.str (kn k),V.str (num i)]++ws.map V.str))) W=some (.lst ((kn k::num i::(if k=1 then [] else ws)).map V.str))
   rw[ah,if_neg hk];rfl
theorem xl (T:Txt w.params K mg A):a8 P w K mg base CX0 3 A.pP A.ll ["deed"] (Mh K):=by
 have mJ:a8 P w K mg base CX0 2 A.words_of A.i5 ["clause"] sH:=(kS T).mono (by decide)
 refine T.mz.ok p9 (λvs H Q E h=>?_) (λcdv A' outer s H vs Q E hr h=>?_)
 ·obtain⟨t,d,rfl,_⟩:=h;rfl
 ·obtain⟨t,d,rfl,hd,o,q⟩:=h;refine⟨_,(ao (br (i:=1) p9.nd rfl (wt rfl) (bN bG (pv 0) aj (λ_ _=>rfl)))
 (ao (cI (a9 cS (pv 1) au (bz _))
 (aq (aI (bY (vO T) hr rfl T.qd T.lE.kp T.qc .nil bC (aa (bN bG (pv 0) aj (λ_ _=>rfl)) af))))
 aT)
 (ao (cI (PW.pt (pw_or (a9 cS (pv 1) au (bz _)) (pw_or1 (a9 cS (pv 1) au (bz _)))))
 (aq (aI (bY (vP T) hr rfl T.qf T.lF.kp T.qe .nil bC (aa (bN bG (pv 0) aj (λ_ _=>rfl)) af))))
 aT)
 (ao (cI (a9 cS (pv 1) au (bz _))
 (aq (aI (bY mJ hr rfl T.jZ T.iM.kp T.jY .nil bC (aa (bN bG (pv 0) aj (λ_ _=>rfl)) af))))
 aT)
 (aq (aI (BG (scope:=mq) uy rfl (QE (KL QO (pv 0) (NG aj) NF)) (λ_ _ _ _ _=>(d0 uq (by rfl) T.LZ KY (aa (pv 0) af)))))))))),?_⟩
  try dsimp only[cD]
  have lim:gn=16777216:=by decide
  cases d with
  |mat cs =>
   refine aN λGq gq=>?_
   obtain⟨L,ht,hL⟩:=hd;refine gq ?_;refine ixv rfl ht rfl ?_;refine⟨_,rfl,rfl,tst (decide_eq_true rfl) ?_⟩;exact ixv rfl ht rfl ⟨L,cs,rfl,hL,o,q⟩
  |ed m k i ws =>
   refine aN λGq gq=>?_
   obtain⟨e,ht,he⟩:=hd;refine gq ?_;refine ixv rfl ht rfl ?_;refine⟨_,rfl,rfl,tsf (decide_eq_false (by cases m <;> trivial)) ?_⟩
   cases m with
   |false =>
    refine⟨_,rfl,rfl,tst (decide_eq_true rfl) ?_⟩;exact ixv rfl ht rfl ⟨e,false,k,i,ws,rfl,he,o,q⟩
   |true =>
    refine⟨_,rfl,rfl,tsf (decide_eq_false (by trivial)) ?_⟩
    refine⟨_,rfl,rfl,tst (decide_eq_true rfl) ?_⟩;exact ixv rfl ht rfl ⟨e,true,k,i,ws,rfl,he,o,q⟩
  |pt ws =>
   have ht:=hd;refine ixv rfl ht rfl ?_;refine⟨_,rfl,rfl,tsf (decide_eq_false (by trivial)) ?_⟩
   refine⟨_,rfl,rfl,tsf (decide_eq_false (by trivial)) ?_⟩
   refine⟨_,rfl,rfl,tsf (decide_eq_false (by trivial)) ?_⟩
   refine⟨_,rfl,rfl,tst (decide_eq_true rfl) ?_⟩;have hcl:=tS o;refine ixv rfl ht rfl ⟨_,rfl,by omega,λp hp=>q p _ (aK hp) hp ?_⟩
   rw[ah,jz o.wd];rfl
  |nums kd ns =>
   refine aN λGq gq=>?_
   have ht:=hd;obtain⟨o1,o2⟩:=o;obtain⟨n1,n2,n3,n4⟩:=WM o1;have kl:=(kd_len o1).2;refine gq ?_;refine ixv rfl ht (pM (j:=0) rfl) ?_;refine⟨_,rfl,rfl,tsf (decide_eq_false n1) ?_⟩;refine⟨_,rfl,rfl,tsf (decide_eq_false n2) ?_⟩;refine⟨_,rfl,rfl,tsf (decide_eq_false n3) ?_⟩;refine⟨_,rfl,rfl,tsf (decide_eq_false n4) ?_⟩;refine⟨_,rfl,_,rfl,t,_,rfl,ht,λz=>?_,λp hp=>?_⟩
   ·have z1:=z.1;rw[show (1:Int)=((1:Nat):Int) from rfl,HT.Ib,om]at z1
    omega
   ·rw[show (1:Int)=((1:Nat):Int) from rfl,K4]
    show _;have hs1:bT H (upd H p (.tup (ns.map V.int))):=aK hp;have hpp:(upd H p (.tup (ns.map V.int))) p=some (.tup (ns.map V.int)):=ah;refine⟨p,rfl,⟨_,SqT.of hpp⟩,λD hD=>?_⟩
    have npD:p≠D:=a6 hpp hD;refine Lp (K:=K) (a:=p) (xs:=ns.map V.int) (λi ys H3=>ys=(ns.take i).map (λn=>V.str (num n))/\H3=upd (upd H p (.tup (ns.map V.int))) D (.lst ys)) ⟨rfl,rfl⟩ (by rw[da];omega) ?_ ?_ ?_
    ·rintro i ys H3 hi ⟨rfl,rfl⟩;rw[da]at hi;exact⟨SqT.of ((aw npD).trans hpp),ah,by rw[da,adW];omega⟩
    ·rintro i y ys H3 hi ⟨rfl,rfl⟩;rw[adK]at hi;cases hc:ns[i]? with
     |none=>rw[hc]at hi;cases hi
     |some n =>
      refine aN λGq gq=>?_
      rw[hc]at hi;obtain rfl:V.int n=y:=adq hi;obtain⟨b0,b1⟩:=o2 n (adF hc);refine gq ?_;refine⟨_,rfl,_,rfl,IA b0 b1,?_⟩;refine f7.mk (by rw[da];exact(List.getElem?_eq_some_iff.mp hc).1) ah ⟨?_,by rw[ny]⟩
      rw[List.take_succ,hc,wa];rfl
    ·rintro ys H3 ⟨rfl,rfl⟩;rw[da,aeI];refine q D _ (hs1.new hD) (hs1.free hD) ?_;rw[ah];show some (HO.lst _)=some (HO.lst ((ns.map num).map V.str));rw[List.map_map];rfl
theorem pY (T:Txt w.params K mg A):a8 P w K mg base CX0 4 A.mh A.ic ["deed"] (Ct K):=by
 have rm:a8 P w K mg base CX0 3 A.oV A.ji ["words"] (tR K):=(uL T).mono (by decide)
 refine T.kP.ok BZ (λvs H Q E h=>?_) (λcdv A' outer s H vs Q E hr h=>?_)
 ·obtain⟨t,d,rfl,_⟩:=h;rfl
 ·obtain⟨t,d,rfl,hd,o,q⟩:=h;refine⟨_,(aq (aI (bY rm hr rfl T.qX T.nB.kp T.qW .nil bC (aa (dj gM (bO (aa (bN bG (pv 0) aj (λ_ _=>rfl)) af)) (bY (xl T) hr rfl T.qZ T.mz.kp T.qY .nil bC (aa (pv 0) af))) af)))),?_⟩
  try dsimp only[cD]
  refine aN λGq gq=>?_
  have lim:gn=16777216:=by decide
  obtain⟨b1,b2,b3⟩:=A9 o;obtain⟨xs,hx,hx0⟩:=hd.at0;refine gq ?_;refine ixv rfl hx hx0 ⟨(sl 1),λp hp=>?_⟩
  refine⟨_,rfl,t,d,rfl,hd.same (aK hp),o,λp2 H2 s2 hn2 h2=>?_⟩
  have hp2:H2 p=some (.lst [V.str (nH d)]):=s2 _ _ ah;refine⟨p,p2,_,_,rfl,rfl,hp2,h2,(by rw[da];show 1+_<=_;omega),λp3 hp3=>?_⟩
  refine⟨p3,nH d::jB d,rfl,SqL.of (by rw[ah];rfl),?_,q _ (((aK hp).trans s2).new hp3)⟩
  have:=StrLaws.sumLen_le (B:=20) (nH d::jB d) (λw hw=>by
   rcases List.mem_cons.mp hw with rfl | hw
   ·exact b3
   ·exact b2 w hw)
  rw[om]at this ⊢;omega
end
end R
inductive Rl where
 |ob | made | aC | aL | decided | firsts | kept | rows
 |mK (n:Nat) | rn (n:Nat) | mL (n:Nat)
abbrev Col:=Addr->Option (Nat×Rl)
def iO (i:Nat)(x:Option (Nat×Rl)):Prop:=∃r,x=some (i,r)
theorem GB {i j:Nat}(n:i≠j)(r:Rl):¬iO j (some (i,r)):=λ⟨_,e⟩=>by cases e;exact n rfl
theorem bR {i:Nat}:¬iO i none:=λ⟨_,e⟩=>by cases e
structure Step (W:Option (Nat×Rl)->Prop)(c c':Col)(H H':Hp):Prop where
 nn:¬W none
 keep:∀a v,H a=some v->¬W (c a)->H' a=some v
 there:∀a v,H a=some v->∃v',H' a=some v'
 col:∀a v,H a=some v->¬W (c a)->c' a=c a
section
variable{W W':Option (Nat×Rl)->Prop}{c c1 c2:Col}{H H' H1 H2:Hp}{a:Addr}{o:HO}
theorem Step.refl (n:¬W none):Step W c c H H:=⟨n,λ_ _ h _=>h,λ_ v h=>⟨v,h⟩,λ_ _ _ _=>rfl⟩
theorem Step.same (n:¬W none)(s:bT H H'):Step W c c H H':=⟨n,λa v h _=>s a v h,λa v h=>⟨v,s a v h⟩,λ_ _ _ _=>rfl⟩
theorem Step.mono (f:∀x,W x->W' x)(n:¬W' none)(s:Step W c c1 H H1):Step W' c c1 H H1 where
 nn:=n
 keep:=λa v h m=>s.keep a v h λz=>m (f _ z)
 there:=s.there
 col:=λa v h m=>s.col a v h λz=>m (f _ z)
theorem Step.trans (x:Step W c c1 H H1)(y:Step W c1 c2 H1 H2):Step W c c2 H H2 where
 nn:=x.nn
 keep:=λa v h n=>y.keep a v (x.keep a v h n) (by rw[x.col a v h n];exact n)
 there:=λa v h=>let ⟨v1,h1⟩:=x.there a v h;y.there a v1 h1
 col:=λa v h n=>(y.col a v (x.keep a v h n) (by rw[x.col a v h n];exact n)).trans (x.col a v h n)
theorem Step.upd (n:¬W none)(m:W (c a)):Step W c c H (L2.upd H a o) where
 nn:=n
 keep:=λb v h n=>by rw[aw (λz=>n (by rw[z];exact m))];exact h
 there:=λb v h=>by
  by_cases z:b=a
  ·rw[z];exact⟨o,ah⟩
  ·exact⟨v,by rw[aw z];exact h⟩
 col:=λ_ _ _ _=>rfl
def bg (c:Col)(a:Addr)(x:Option (Nat×Rl)):Col:=λb=>if b=a then x else c b
theorem cz {x:Option (Nat×Rl)}:bg c a x a=x:=if_pos rfl
theorem ax {b:Addr}{x:Option (Nat×Rl)}(h:b≠a):bg c a x b=c b:=if_neg h
theorem Step.new {x:Option (Nat×Rl)}(n:¬W none)(h:H a=none):Step W c (bg c a x) H (L2.upd H a o) where
 nn:=n
 keep:=λb v e _=>aK h b v e
 there:=λb v e=>⟨v,aK h b v e⟩
 col:=λb v e _=>ax (λz=>by rw[z,h]at e;cases e)
theorem Step.role {x:Option (Nat×Rl)}(n:¬W none)(m:W (c a)):Step W c (bg c a x) H H where
 nn:=n
 keep:=λ_ _ h _=>h
 there:=λ_ v h=>⟨v,h⟩
 col:=λb _ _ n=>ax (λz=>n (by rw[z];exact m))
def gf (c:Col)(H:Hp):Col:=λa=>if (H a).isSome then c a else none
theorem g9 (h:H a=none):gf c H a=none:=by unfold gf;rw[h];rfl
theorem RQ {v:HO}(h:H a=some v):gf c H a=c a:=by unfold gf;rw[h];rfl
theorem Step.cl (n:¬W none)(s:bT H H'):Step W c (gf c H) H H':=⟨n,λa v h _=>s a v h,λa v h=>⟨v,s a v h⟩,λ_ _ h _=>RQ h⟩
end
def Wr (i:Nat)(p:Rl->Bool)(x:Option (Nat×Rl)):Prop:=∃r,x=some (i,r)/\p r=true
section
variable{i:Nat}{p:Rl->Bool}{r:Rl}{c c':Col}{H H':Hp}{a:Addr}
theorem Wr.nn:¬Wr i p none:=λ⟨_,e,_⟩=>nomatch e
theorem Wr.no (h:p r=false):¬Wr i p (some (i,r)):=λ⟨_,e,z⟩=>by cases e;rw[h]at z;cases z
theorem Wr.yes (e:c a=some (i,r))(h:p r=true):Wr i p (c a):=⟨r,e,h⟩
theorem Step.rp (s:Step (Wr i p) c c' H H'):Step (iO i) c c' H H':=s.mono (λ_ ⟨r,e,_⟩=>⟨r,e⟩) bR
theorem tT {o:Addr}{v:HO}(h:p .ob=false)(s:Step (Wr i p) c c' H H')(h1:c o=some (i,.ob))(h2:H o=some v):c' o=some (i,.ob)/\H' o=some v:=by
 have hn:¬Wr i p (c o):=by rw[h1];exact Wr.no h
 exact⟨by rw[s.col o _ h2 hn];exact h1,s.keep _ _ h2 hn⟩
end
inductive Mn where
 |mat (tx:List Str) | chg (e:Ed) | mnd (e:Ed) | off (n:Int) | cls | lay | rst | pnt (z:Str)
def Mn.k:Mn->Nat
 | .mat _=>0 | .chg _=>1 | .mnd _=>2 | .off _=>3 | .cls=>4 | .lay=>5 | .rst=>6 | .pnt _=>7
theorem Mn.k8 (m:Mn):m.k < 8:=by cases m <;> simp only[Mn.k] <;> omega
def TupAt (c:Col)(H:Hp)(t:Addr)(xs:List V):Prop:=c t=none/\Rd H t (.tup xs)
theorem TupAt.sq {K:cb}{c:Col}{H:Hp}{t:Addr}{xs:List V}(h:TupAt c H t xs):SqT K H t xs:=.inl h.2
theorem TupAt.step {W:Option (Nat×Rl)->Prop}{c c':Col}{H H':Hp}{t:Addr}{xs:List V}(s:Step W c c' H H')(h:TupAt c H t xs):TupAt c' H' t xs:=by
 obtain⟨n,h⟩:=h;have hn:¬W (c t):=by rw[n];exact s.nn
 rcases h with h | ⟨o,h⟩
 ·exact⟨by rw[s.col t _ h hn];exact n,.inl (s.keep _ _ h hn)⟩
 ·exact⟨by rw[s.col t _ h hn];exact n,.inr ⟨o,s.keep _ _ h hn⟩⟩
def IC (c:Col)(H:Hp)(p:Addr)(tx:List Str):Prop:=c p=none/\H p=some (.lst (tx.map V.str))
theorem IC.step {W:Option (Nat×Rl)->Prop}{c c':Col}{H H':Hp}{p:Addr}{tx:List Str}(s:Step W c c' H H')(h:IC c H p tx):IC c' H' p tx :=
 have hn:¬W (c p):=by rw[h.1];exact s.nn
 ⟨by rw[s.col p _ h.2 hn];exact h.1,s.keep _ _ h.2 hn⟩
def Mn.Val (c:Col)(H:Hp):Mn->V->Prop
 | .mat tx,v=>∃p,v=.ref p/\IC c H p tx
 | .chg e,v=>∃t,v=.ref t/\TupAt c H t (jx e)
 | .mnd e,v=>∃t,v=.ref t/\TupAt c H t (jx e)
 | .off n,v=>v=.int n
 | .pnt z,v=>v=.str z
 |_,_=>True
theorem Mn.Val.step {W:Option (Nat×Rl)->Prop}{c c':Col}{H H':Hp}(s:Step W c c' H H'):∀ {m:Mn} {v:V},m.Val c H v->m.Val c' H' v
 | .mat _,_,⟨p,e,h⟩=>⟨p,e,h.step s⟩
 | .chg _,_,⟨t,e,h⟩=>⟨t,e,h.step s⟩
 | .mnd _,_,⟨t,e,h⟩=>⟨t,e,h.step s⟩
 | .off _,_,h=>h
 | .pnt _,_,h=>h
 | .cls,_,_=>trivial
 | .lay,_,_=>trivial
 | .rst,_,_=>trivial
def mM (A:Adr)(c:Col)(H:Hp)(m:Mn)(o:Addr):Prop:=c o=none/\∃dx v,H o=some (.ins (A.C m.k) dx (oZ m.k v))/\m.Val c H v
theorem mM.step {A:Adr}{W:Option (Nat×Rl)->Prop}{c c':Col}{H H':Hp}{m:Mn}{o:Addr}(s:Step W c c' H H')(h:mM A c H m o):mM A c' H' m o:=by
 obtain⟨n,dx,v,h,hv⟩:=h;have hn:¬W (c o):=by rw[n];exact s.nn
 exact⟨by rw[s.col o _ h hn];exact n,dx,v,s.keep _ _ h hn,hv.step s⟩
structure Ch where
 iD:Int
 bt:Int
 closed:Bool
 made:List Mn
 aC:List Nat
 aL:List (Nat×Int×List Nat)
 decided:List (Nat×Str)
 firsts:List (Nat×List Str)
 kept:List (Nat×List Ed)
 rows:List Str
def nV (n:Nat):V:=.int (n:Int)
def bJ (xs:List (Nat×V)):List (Key×V):=xs.map λp=>(kr (p.1:Int),p.2)
inductive cQ {α β:Type}(R:α->β->Prop):List α->List β->Prop
 |nil:cQ R [] []
 |cons {a b as bs}:R a b->cQ R as bs->cQ R (a::as) (b::bs)
theorem cQ.imp {α β:Type}{R R':α->β->Prop}(f:∀a b,R a b->R' a b):∀ {as:List α} {bs:List β},cQ R as bs->cQ R' as bs
 |_,_,.nil=>.nil
 |_,_,.cons h t=>.cons (f _ _ h) (t.imp f)
def LstAt (i:Nat)(c:Col)(H:Hp)(r:Rl)(a:Addr)(xs:List V):Prop:=c a=some (i,r)/\H a=some (.lst xs)
def kT (i:Nat)(c:Col)(H:Hp)(r:Rl)(a:Addr)(xs:List (Nat×V)):Prop:=c a=some (i,r)/\H a=some (.dK (bJ xs))
def chF (v0 v1 v2 v3 v4 v5 v6 v7 v8 v9:V):List (Str×V):=[(ar "seats",v0),(ar "sitting",v1),(ar "closed",v2),(ar "made",v3),(ar "pile",v4),(ar "aside",v5),(ar "decided",v6),(ar "first_texts",v7),(ar "edits_kept",v8),(ar "rows",v9)]
abbrev Mi (i:Nat)(c:Col)(H:Hp)(x:Nat×Int×List Nat)(v:V):Prop:=∃t p,v=.ref t/\TupAt c H t [.int x.2.1,.ref p]/\LstAt i c H (.mK x.1) p (x.2.2.map nV)
abbrev Cu (i:Nat)(c:Col)(H:Hp)(x:Nat×List Str)(v:V):Prop:=∃p,v=.ref p/\LstAt i c H (.mL x.1) p (x.2.map V.str)
abbrev ID (i:Nat)(c:Col)(H:Hp)(x:Nat×List Ed)(v:V):Prop:=∃p ts,v=.ref p/\LstAt i c H (.rn x.1) p (ts.map V.ref)/\cQ (λe t=>TupAt c H t (jx e)) x.2 ts
structure ChX (A:Adr)(i:Nat)(c:Col)(H:Hp)(o:Addr)(st:Ch)(dx aM aP aA aD aF aE aR:Addr)(ms ds:List Addr)(ws fs es:List V):Prop where
 co:c o=some (i,.ob)
 ob:H o=some (.ins A.ak dx (chF (.int st.iD) (.int st.bt) (.bl st.closed) (.ref aM) (.ref aP) (.ref aA) (.ref aD) (.ref aF) (.ref aE) (.ref aR)))
 made:kT i c H .made aM ((adG 1 st.made.length).zip (ms.map V.ref))
 mot:cQ (λm p=>mM A c H m p) st.made ms
 aC:LstAt i c H .aC aP (st.aC.map nV)
 aL:kT i c H .aL aA ((st.aL.map (·.1)).zip ws)
 wait:cQ (Mi i c H) st.aL ws
 dec:LstAt i c H .decided aD (ds.map V.ref)
 xm:cQ (λ(x:Nat×Str) t=>TupAt c H t [nV x.1,.str x.2]) st.decided ds
 firsts:kT i c H .firsts aF ((st.firsts.map (·.1)).zip fs)
 first:cQ (Cu i c H) st.firsts fs
 kU:kT i c H .kept aE ((st.kept.map (·.1)).zip es)
 kept:cQ (ID i c H) st.kept es
 rows:LstAt i c H .rows aR (st.rows.map V.str)
structure fP (A:Adr)(i:Nat)(c:Col)(H:Hp)(o:Addr)(st:Ch):Prop where
 ex:∃(dx aM aP aA aD aF aE aR:Addr) (ms ds:List Addr) (ws fs es:List V),ChX A i c H o st dx aM aP aA aD aF aE aR ms ds ws fs es
theorem LstAt.keep {i:Nat}{W:Option (Nat×Rl)->Prop}{c c':Col}{H H':Hp}{r:Rl}{a:Addr}{xs:List V}(n:¬W (some (i,r)))(s:Step W c c' H H')(h:LstAt i c H r a xs):LstAt i c' H' r a xs:=by
 have hn:¬W (c a):=by rw[h.1];exact n
 exact⟨by rw[s.col a _ h.2 hn];exact h.1,s.keep _ _ h.2 hn⟩
theorem kT.keep {i:Nat}{W:Option (Nat×Rl)->Prop}{c c':Col}{H H':Hp}{r:Rl}{a:Addr}{xs:List (Nat×V)}(n:¬W (some (i,r)))(s:Step W c c' H H')(h:kT i c H r a xs):kT i c' H' r a xs:=by
 have hn:¬W (c a):=by rw[h.1];exact n
 exact⟨by rw[s.col a _ h.2 hn];exact h.1,s.keep _ _ h.2 hn⟩
section
variable{A:Adr}{i:Nat}{p:Rl->Bool}{r:Rl}{c c':Col}{H H':Hp}{a o:Addr}
theorem LstAt.kp {xs:List V}(h:p r=false)(s:Step (Wr i p) c c' H H')(z:LstAt i c H r a xs):LstAt i c' H' r a xs:=z.keep (Wr.no h) s
theorem kT.kp {xs:List (Nat×V)}(h:p r=false)(s:Step (Wr i p) c c' H H')(z:kT i c H r a xs):kT i c' H' r a xs:=z.keep (Wr.no h) s
theorem cQ.imp_mem {α β:Type}{R R':α->β->Prop}:∀ {as:List α} {bs:List β},(∀a∈as,∀b,R a b->R' a b)->cQ R as bs->cQ R' as bs
 |_,_,_,.nil=>.nil
 |_,_,f,.cons h t=>.cons (f _ fi _ h) (t.imp_mem λa m b=>f a (kf _ m) b)
theorem rq {as:List Mn}{ms:List Addr}{W:Option (Nat×Rl)->Prop}(s:Step W c c' H H')(z:cQ (λm p=>mM A c H m p) as ms):cQ (λm p=>mM A c' H' m p) as ms:=z.imp λ_ _ y=>y.step s
theorem rz {as:List (Nat×Str)}{ds:List Addr}{W:Option (Nat×Rl)->Prop}(s:Step W c c' H H')(z:cQ (λ(x:Nat×Str) t=>TupAt c H t [nV x.1,.str x.2]) as ds):cQ (λ(x:Nat×Str) t=>TupAt c' H' t [nV x.1,.str x.2]) as ds:=z.imp λ_ _ y=>y.step s
theorem sX {as:List (Nat×Int×List Nat)}{ws:List V}(h:∀x∈as,p (.mK x.1)=false)(s:Step (Wr i p) c c' H H')(z:cQ (Mi i c H) as ws):cQ (Mi i c' H') as ws :=
 z.imp_mem λx m v ⟨t,q,e,z1,z2⟩=>⟨t,q,e,z1.step s,z2.kp (h x m) s⟩
theorem sY {as:List (Nat×List Str)}{ws:List V}(h:∀x∈as,p (.mL x.1)=false)(s:Step (Wr i p) c c' H H')(z:cQ (Cu i c H) as ws):cQ (Cu i c' H') as ws :=
 z.imp_mem λx m v ⟨q,e,z2⟩=>⟨q,e,z2.kp (h x m) s⟩
theorem uM {as:List (Nat×List Ed)}{ws:List V}(h:∀x∈as,p (.rn x.1)=false)(s:Step (Wr i p) c c' H H')(z:cQ (ID i c H) as ws):cQ (ID i c' H') as ws :=
 z.imp_mem λx m v ⟨q,ts,e,z2,z3⟩=>⟨q,ts,e,z2.kp (h x m) s,z3.imp λ_ _ y=>y.step s⟩
end
theorem fP.other {A:Adr}{i j:Nat}(n:i≠j){c c':Col}{H H':Hp}{o:Addr}{st:Ch}(s:Step (iO j) c c' H H')(h:fP A i c H o st):fP A i c' H' o st:=by
 obtain⟨dx,aM,aP,aA,aD,aF,aE,aR,ms,ds,ws,fs,es,h1,h2,h3,h4,h5,h6,h7,h8,h9,h10,h11,h12,h13,h14⟩:=h.ex;have no:=λr=>GB n r
 have hn:¬iO j (c o):=by rw[h1];exact no _
 refine⟨dx,aM,aP,aA,aD,aF,aE,aR,ms,ds,ws,fs,es,by rw[s.col o _ h2 hn];exact h1,s.keep _ _ h2 hn,h3.keep (no _) s,h4.imp λ_ _ z=>z.step s,h5.keep (no _) s,h6.keep (no _) s,h7.imp ?_,h8.keep (no _) s,h9.imp λ_ _ z=>z.step s,
  h10.keep (no _) s,h11.imp ?_,h12.keep (no _) s,h13.imp ?_,h14.keep (no _) s⟩
 ·rintro x v ⟨t,p,e,z1,z2⟩;exact⟨t,p,e,z1.step s,z2.keep (no _) s⟩
 ·rintro x v ⟨p,e,z⟩;exact⟨p,e,z.keep (no _) s⟩
 ·rintro x v ⟨p,ts,e,z1,z2⟩;exact⟨p,ts,e,z1.keep (no _) s,z2.imp λ_ _ y=>y.step s⟩
section
variable{v0 v1 v2 v3 v4 v5 v6 v7 v8 v9 y:V}
theorem Jx:(chF v0 v1 v2 v3 v4 v5 v6 v7 v8 v9).lookup (ar "seats")=some v0:=by simp only[chF,adR,show (ar "seats" == ar "seats")=true from by trivial]
theorem ja:(chF v0 v1 v2 v3 v4 v5 v6 v7 v8 v9).lookup (ar "sitting")=some v1:=by simp only[chF,adR,show (ar "sitting" == ar "seats")=false from by trivial,show (ar "sitting" == ar "sitting")=true from by trivial]
theorem pZ:(chF v0 v1 v2 v3 v4 v5 v6 v7 v8 v9).lookup (ar "closed")=some v2:=by simp only[chF,adR,show (ar "closed" == ar "seats")=false from by trivial,show (ar "closed" == ar "sitting")=false from by trivial,show (ar "closed" == ar "closed")=true from by trivial]
theorem iE:(chF v0 v1 v2 v3 v4 v5 v6 v7 v8 v9).lookup (ar "made")=some v3:=by simp only[chF,adR,show (ar "made" == ar "seats")=false from by trivial,show (ar "made" == ar "sitting")=false from by trivial,show (ar "made" == ar "closed")=false from by trivial,show (ar "made" == ar "made")=true from by trivial]
theorem fQ:(chF v0 v1 v2 v3 v4 v5 v6 v7 v8 v9).lookup (ar "pile")=some v4:=by simp only[chF,adR,show (ar "pile" == ar "seats")=false from by trivial,show (ar "pile" == ar "sitting")=false from by trivial,show (ar "pile" == ar "closed")=false from by trivial,show (ar "pile" == ar "made")=false from by trivial,show (ar "pile" == ar "pile")=true from by trivial]
theorem j1:(chF v0 v1 v2 v3 v4 v5 v6 v7 v8 v9).lookup (ar "aside")=some v5:=by simp only[chF,adR,show (ar "aside" == ar "seats")=false from by trivial,show (ar "aside" == ar "sitting")=false from by trivial,show (ar "aside" == ar "closed")=false from by trivial,show (ar "aside" == ar "made")=false from by trivial,show (ar "aside" == ar "pile")=false from by trivial,show (ar "aside" == ar "aside")=true from by trivial]
theorem wQ:(chF v0 v1 v2 v3 v4 v5 v6 v7 v8 v9).lookup (ar "decided")=some v6:=by simp only[chF,adR,show (ar "decided" == ar "seats")=false from by trivial,show (ar "decided" == ar "sitting")=false from by trivial,show (ar "decided" == ar "closed")=false from by trivial,show (ar "decided" == ar "made")=false from by trivial,show (ar "decided" == ar "pile")=false from by trivial,show (ar "decided" == ar "aside")=false from by trivial,show (ar "decided" == ar "decided")=true from by trivial]
theorem qg:(chF v0 v1 v2 v3 v4 v5 v6 v7 v8 v9).lookup (ar "first_texts")=some v7:=by simp only[chF,adR,show (ar "first_texts" == ar "seats")=false from by trivial,show (ar "first_texts" == ar "sitting")=false from by trivial,show (ar "first_texts" == ar "closed")=false from by trivial,show (ar "first_texts" == ar "made")=false from by trivial,show (ar "first_texts" == ar "pile")=false from by trivial,show (ar "first_texts" == ar "aside")=false from by trivial,show (ar "first_texts" == ar "decided")=false from by trivial,show (ar "first_texts" == ar "first_texts")=true from by trivial]
theorem rA:(chF v0 v1 v2 v3 v4 v5 v6 v7 v8 v9).lookup (ar "edits_kept")=some v8:=by simp only[chF,adR,show (ar "edits_kept" == ar "seats")=false from by trivial,show (ar "edits_kept" == ar "sitting")=false from by trivial,show (ar "edits_kept" == ar "closed")=false from by trivial,show (ar "edits_kept" == ar "made")=false from by trivial,show (ar "edits_kept" == ar "pile")=false from by trivial,show (ar "edits_kept" == ar "aside")=false from by trivial,show (ar "edits_kept" == ar "decided")=false from by trivial,show (ar "edits_kept" == ar "first_texts")=false from by trivial,show (ar "edits_kept" == ar "edits_kept")=true from by trivial]
theorem rB:(chF v0 v1 v2 v3 v4 v5 v6 v7 v8 v9).lookup (ar "rows")=some v9:=by simp only[chF,adR,show (ar "rows" == ar "seats")=false from by trivial,show (ar "rows" == ar "sitting")=false from by trivial,show (ar "rows" == ar "closed")=false from by trivial,show (ar "rows" == ar "made")=false from by trivial,show (ar "rows" == ar "pile")=false from by trivial,show (ar "rows" == ar "aside")=false from by trivial,show (ar "rows" == ar "decided")=false from by trivial,show (ar "rows" == ar "first_texts")=false from by trivial,show (ar "rows" == ar "edits_kept")=false from by trivial,show (ar "rows" == ar "rows")=true from by trivial]
theorem Ds:gN (ar "sitting") y (chF v0 v1 v2 v3 v4 v5 v6 v7 v8 v9)=chF v0 y v2 v3 v4 v5 v6 v7 v8 v9:=by
 unfold chF;simp only[gN];rw[if_neg (by trivial),if_pos trivial]
theorem zC:gN (ar "closed") y (chF v0 v1 v2 v3 v4 v5 v6 v7 v8 v9)=chF v0 v1 y v3 v4 v5 v6 v7 v8 v9:=by
 unfold chF;simp only[gN];rw[if_neg (by trivial),if_neg (by trivial),if_pos trivial]
theorem Dt:gN (ar "pile") y (chF v0 v1 v2 v3 v4 v5 v6 v7 v8 v9)=chF v0 v1 v2 v3 y v5 v6 v7 v8 v9:=by
 unfold chF;simp only[gN];rw[if_neg (by trivial),if_neg (by trivial),if_neg (by trivial),if_neg (by trivial),if_pos trivial]
end
def Jy (A:Adr)(i:Nat):Sp:=λvs H Q E=>∃(o:Addr) (c:Col) (st:Ch),vs=[.ref o]/\fP A i c H o st/\(st.aC≠[]->Q .non H)/\(st.aC=[]->E (.ref A.bB) none H)
section
variable{P:ma}{w:World}{K:cb}{mg:Str->Option Value}{base:Heap}{A:Adr}
theorem mO (T:Txt w.params K mg A){i:Nat}:a8 P w K mg base (CXX P w) 1 A.bF A.eE ["self"] (Jy A i):=by
 refine T.cO.okX mn (λvs H Q E h=>?_) (λcdv A' outer s H vs Q E hr h=>?_)
 ·obtain⟨o,c,st,rfl,_⟩:=h;rfl
 ·obtain⟨o,c,st,rfl,hc,q1,q2⟩:=h;obtain⟨dx,aM,aP,aA,aD,aF,aE,aR,ms,ds,ws,fs,es,h1,h2,h3,h4,h5,h6,h7,h8,h9,h10,h11,h12,h13,h14⟩:=hc.ex;refine⟨_,(bA (fB (vm (qN (bp (pv 0) rfl) (λ_=>rfl)))
 (bA (iT T.zp rfl rfl T.sD (aa au af)))
 (qt aT))),?_⟩
  try dsimp only[cD]
  refine fh rfl h2 T.ai T.jq0 fQ ?_;refine⟨_,.inl ⟨_,.inl (.inl h5.2),rfl⟩,?_⟩;cases e:st.aC with
  |nil=>exact nO ⟨by decide,q2 e⟩
  |cons x r=>exact kK (q1 (by rw[e];exact adX _ _))
end
theorem cQ.len {α β:Type}{R:α->β->Prop}:∀ {as:List α} {bs:List β},cQ R as bs->as.length=bs.length
 |_,_,.nil=>rfl
 |_,_,.cons _ t=>by rw[om,om,t.len]
theorem cQ.get {α β:Type}{R:α->β->Prop}:∀ {as:List α} {bs:List β} {i:Nat} {a:α},cQ R as bs->as[i]?=some a->∃b,bs[i]?=some b/\R a b
 |_,_,_,_,.nil,h=>by simp at h
 |_,_,0,_,.cons h t,e=>by
  rw[adP]at e;cases e;exact⟨_,adP,h⟩
 |_,_,i+1,_,.cons h t,e=>by
  rw[ad1]at e;obtain⟨b,e1,e2⟩:=t.get e;exact⟨b,by rw[ad1];exact e1,e2⟩
theorem zD:∀(ms:List Addr) (s k:Nat) {o:Addr},ms[k]?=some o->jN (bJ ((adG s ms.length).zip (ms.map V.ref))) (kr ((s+k:Nat):Int))=some (.ref o)
 |[],_,_,_,h=>by simp at h
 |m::ms,s,0,o,h=>by
  rw[adP]at h;cases h;exact mj (p:=(kr ((s:Nat):Int),V.ref m)) rfl
 |m::ms,s,k+1,o,h=>by
  rw[ad1]at h;have ih:=zD ms (s+1) k h;have e:s+(k+1)=s+1+k:=by omega
  rw[e];refine(iA (p:=(kr ((s:Nat):Int),V.ref m)) ?_).trans ih;intro z;have z':((s:Nat):Int)=((s+1+k:Nat):Int):=Sum.inl.inj z;omega
def Ch.mo (st:Ch)(n:Nat):Mn:=st.made.getD (n - 1) .cls
def hG (st:Ch)(n:Nat):Prop:=1<=n/\n<=st.made.length
def Jz (A:Adr)(i:Nat):Sp:=λvs H Q _=>∃(o:Addr) (c:Col) (st:Ch),vs=[.ref o]/\fP A i c H o st/\(∀n∈st.aC,hG st n)/\st.aC.length<=1000 /\
 ∀R os,H R=none->cQ (λn m=>mM A c H (st.mo n) m) st.aC os->Q (.ref R) (upd H R (.lst (os.map V.ref)))
theorem IE {A:Adr}{c:Col}{H:Hp}{st:Ch}{ms:List Addr}(h:cQ (λm p=>mM A c H m p) st.made ms):∀(ns:List Nat),(∀n∈ns,hG st n)->cQ (λn m=>mM A c H (st.mo n) m) ns (ns.map λn=>ms.getD (n - 1) 0)
 |[],_=>.nil
 |n::ns,g=>by
  have hn:=g n fi;have hlt:n - 1 < st.made.length:=by have:=hn.1;have:=hn.2;omega
  obtain⟨b,e1,e2⟩:=h.get (adv hlt);refine .cons ?_ (IE h ns λn hn=>g n (kf _ hn))
  have e3:st.mo n=st.made[n - 1]:=by unfold Ch.mo;rw[adp,adv hlt];rfl
  have e4:ms.getD (n - 1) 0=b:=by rw[adp,e1];rfl
  show mM A c H (st.mo n) (ms.getD (n - 1) 0);rw[e3,e4];exact e2
section
variable{P:ma}{w:World}{K:cb}{mg:Str->Option Value}{base:Heap}{A:Adr}
theorem zE (T:Txt w.params K mg A){i:Nat}:a8 P w K mg base CX0 1 A.cF A.iL ["self"] (Jz A i):=by
 refine T.eU.ok tJ (λvs H Q E h=>?_) (λcdv A' outer s H vs Q E hr h=>?_)
 ·obtain⟨o,c,st,rfl,_⟩:=h;rfl
 ·obtain⟨o,c,st,rfl,hc,hp,hpl,q⟩:=h;obtain⟨dx,aM,aP,aA,aD,aF,aE,aR,ms,ds,ws,fs,es,h1,h2,h3,h4,h5,h6,h7,h8,h9,h10,h11,h12,h13,h14⟩:=hc.ex;have hu1:=hr.u1;refine⟨_,(aq (aI (BG (scope:=jH) qQ rfl (sf (bp (pv 0) rfl)) (λ_ _ _ _ _=>(kF hu1 (N2 (K:=K) rfl (pv 1) rfl) (pv 0) (λ_ _=>rfl)))))),?_⟩
  try dsimp only[cD]
  have ml:=h4.len;refine fh rfl h2 T.ai T.jq0 fQ ?_;have hB:SqL K H aP (st.aC.map nV):=SqL.of h5.2;refine⟨aP,rfl,⟨_,hB⟩,λR hR=>?_⟩
  have sR:∀ {o:HO},bT H (upd H R o):=aK hR;refine vw (K:=K) (a:=aP) (xs:=st.aC.map nV) (λi ys H2=>ys=((st.aC.take i).map λn=>V.ref (ms.getD (n - 1) 0))/\H2=upd H R (.lst ys)) ⟨rfl,rfl⟩ (by rw[da,sizeLine_eq];omega) ?_ ?_ ?_
  ·rintro i ys H2 hi ⟨rfl,rfl⟩;rw[da]at hi;exact⟨sR.seq hB,ah,by rw[da,adW];omega⟩
  ·rintro i y ys H2 hy ⟨rfl,rfl⟩;refine aN λGq gq=>?_
   obtain⟨n,hn1,rfl⟩:∃n,st.aC[i]?=some n/\nV n=y:=by
    rw[adK]at hy;cases ht:st.aC[i]? with
    |none=>rw[ht]at hy;cases hy
    |some t=>rw[ht]at hy;exact⟨t,rfl,adq hy⟩
   have hn:=hp n (adF hn1);have hlt:n - 1 < ms.length:=by have:=hn.1;have:=hn.2;omega
   have hm:ms[n - 1]?=some (ms.getD (n - 1) 0):=by rw[adp,adv hlt];rfl
   have hv:=zD ms 1 (n - 1) hm;rw[<-ml,show 1+(n - 1)=n by have:=hn.1;omega]at hv
   refine gq ?_;refine fh rfl (sR _ _ h2) T.ai T.jq2 iE ?_;refine⟨_,rfl,aM,_,rfl,.inl ⟨_,kr (n:Int),.inl (sR _ _ h3.2),rfl,hv.symm⟩,?_⟩;refine f7.mk (List.getElem?_eq_some_iff.mp hy).1 ah ⟨?_,by rw[ny]⟩
   rw[List.take_succ,hn1,wa];rfl
  ·rintro ys H2 ⟨rfl,rfl⟩;rw[da,aeI];have:=q R _ hR (IE h4 st.aC hp);rw[List.map_map]at this;exact this
end
theorem cQ.snoc {α β:Type}{R:α->β->Prop}:∀ {as:List α} {bs:List β} {a:α} {b:β},cQ R as bs->R a b->cQ R (as++[a]) (bs++[b])
 |_,_,_,_,.nil,h=>.cons h .nil
 |_,_,_,_,.cons g t,h=>.cons g (t.snoc h)
def Mj (A:Adr)(i:Nat):Sp:=λvs H Q _=>∃(o:Addr) (wd:Str) (c:Col) (st:Ch) (pre:List Nat) (n:Nat),vs=[.ref o,.str wd]/\fP A i c H o st/\st.aC=pre++[n]/\st.aC.length<=1000/\st.decided.length<=1000 /\
 ∀c' H',Step (iO i) c c' H H'->fP A i c' H' o { st with aC:=pre,decided:=st.decided++[(n,wd)] }->Q .non H'
section
variable{P:ma}{w:World}{K:cb}{mg:Str->Option Value}{base:Heap}{A:Adr}
theorem Ba (T:Txt w.params K mg A){i:Nat}:a8 P w K mg base CX0 1 A.cM A.jm ["self","word"] (Mj A i):=by
 refine T.fN.ok ux (λvs H Q E h=>?_) (λcdv A' outer s H vs Q E hr h=>?_)
 ·obtain⟨o,wd,c,st,pre,n,rfl,_⟩:=h;rfl
 ·obtain⟨o,wd,c,st,pre,n,rfl,hc,hp,hpl,hdl,q⟩:=h;obtain⟨dx,aM,aP,aA,aD,aF,aE,aR,ms,ds,ws,fs,es,h1,h2,h3,h4,h5,h6,h7,h8,h9,h10,h11,h12,h13,h14⟩:=hc.ex;refine⟨_,(aq (dh (mi adt adM adN gi (bp (pv 0) rfl) (aa (aG (aa (QS adt PySem.F.slot_list_pop PySem.F.type_list_pop QU (bp (pv 0) rfl)) (aa (pv 1) af))) af)))),?_⟩
  try dsimp only[cD]
  refine fh rfl h2 T.ai T.jqk wQ ?_;have hy:(st.aC.map nV)[(st.aC.map nV).length - 1]?=some (nV n):=by rw[hp];simp
  have hdr:(st.aC.map nV).dropLast=pre.map nV:=by rw[hp,wa];simp
  have nPD:aD≠aP:=λz=>by have:=h8.1;rw[z,h5.1]at this;cases this
  refine⟨.inl ⟨rfl,_,SqL.of h8.2⟩,fh rfl h2 T.ai T.jq0 fQ ?_⟩;refine⟨.inl ⟨rfl,_,SqL.of h5.2⟩,aP,_,_,rfl,rfl,h5.2,hy,_,rfl,(sl 2),λp hp0=>?_⟩
  have np:∀ {a:Addr} {v:HO},H a=some v->a≠p:=by
   intro a v e z;subst z
   by_cases y:a=aP
   ·subst y;rw[ah]at hp0;cases hp0
   ·rw[aw y,e]at hp0;cases hp0
  have nn:¬(λx=>x=some (i,Rl.aC)\/x=some (i,Rl.decided)) (none:Option (Nat×Rl)):=by rintro (z | z) <;> cases z
  refine⟨aD,_,_,rfl,rfl,(aw (np h8.2)).trans ((aw nPD).trans h8.2),?_,?_⟩
  ·rw[da,<-h9.len,sizeLine_eq];omega
  have sp:Step (λx=>x=some (i,Rl.aC)\/x=some (i,Rl.decided)) c (bg c p none) H (upd (upd (upd H aP (.lst (st.aC.map nV).dropLast)) p (.tup [nV n,.str wd])) aD (.lst (ds.map V.ref++[.ref p]))) :=
   ((Step.upd nn (.inl h5.1)).trans (Step.new nn hp0)).trans (Step.upd nn (.inr (by rw[ax (np h8.2)];exact h8.1)))
  have ht:TupAt (bg c p none) (upd (upd (upd H aP (.lst (st.aC.map nV).dropLast)) p (.tup [nV n,.str wd])) aD (.lst (ds.map V.ref++[.ref p]))) p [nV n,.str wd] :=
   ⟨cz,.inl ((aw (np h8.2).symm).trans ah)⟩
  have kp:LstAt i (bg c p none) (upd (upd (upd H aP (.lst (st.aC.map nV).dropLast)) p (.tup [nV n,.str wd])) aD (.lst (ds.map V.ref++[.ref p]))) .aC aP (pre.map nV) :=
   ⟨by rw[ax (np h5.2)];exact h5.1,by rw[aw nPD.symm,aw (np h5.2),ah,hdr]⟩
  have kd:LstAt i (bg c p none) (upd (upd (upd H aP (.lst (st.aC.map nV).dropLast)) p (.tup [nV n,.str wd])) aD (.lst (ds.map V.ref++[.ref p]))) .decided aD ((ds++[p]).map V.ref) :=
   ⟨by rw[ax (np h8.2)];exact h8.1,by rw[ah,wa];rfl⟩
  generalize upd (upd (upd H aP (.lst (st.aC.map nV).dropLast)) p (.tup [nV n,.str wd])) aD (.lst (ds.map V.ref++[.ref p]))=H' at sp ht kp kd ⊢;generalize bg c p none=c' at sp ht kp kd;have no:∀r,r≠Rl.aC->r≠Rl.decided->¬(λx=>x=some (i,Rl.aC)\/x=some (i,Rl.decided)) (some (i,r)):=λr y1 y2=>by
   rintro (z | z)
   ·cases z;exact y1 rfl
   ·cases z;exact y2 rfl
  have hno:=no .ob (λz=>nomatch z) (λz=>nomatch z)
  refine q c' H' (sp.mono (by rintro x (z | z) <;> exact⟨_,z⟩) bR) ⟨dx,aM,aP,aA,aD,aF,aE,aR,ms,ds++[p],ws,fs,es,by rw[sp.col o _ h2 (by rw[h1];exact hno)];exact h1,sp.keep _ _ h2 (by rw[h1];exact hno),
   h3.keep (no .made (λz=>nomatch z) (λz=>nomatch z)) sp,h4.imp λ_ _ z=>z.step sp,kp,h6.keep (no .aL (λz=>nomatch z) (λz=>nomatch z)) sp,h7.imp ?_,kd,(h9.imp λ_ _ z=>z.step sp).snoc ht,
   h10.keep (no .firsts (λz=>nomatch z) (λz=>nomatch z)) sp,h11.imp ?_,h12.keep (no .kept (λz=>nomatch z) (λz=>nomatch z)) sp,h13.imp ?_,h14.keep (no .rows (λz=>nomatch z) (λz=>nomatch z)) sp⟩
  ·rintro x v ⟨t,a,e,z1,z2⟩;exact⟨t,a,e,z1.step sp,z2.keep (no (.mK x.1) (λz=>nomatch z) (λz=>nomatch z)) sp⟩
  ·rintro x v ⟨a,e,z⟩;exact⟨a,e,z.keep (no (.mL x.1) (λz=>nomatch z) (λz=>nomatch z)) sp⟩
  ·rintro x v ⟨a,ts,e,z1,z2⟩;exact⟨a,ts,e,z1.keep (no (.rn x.1) (λz=>nomatch z) (λz=>nomatch z)) sp,z2.imp λ_ _ y=>y.step sp⟩
end
inductive Xc where
 |fX (b:Int) | eX | noChange | noFit | eF (n:Int) | nothing | tooMany | fY | iP (n:Int) | bj
def Xc.At (A:Adr)(H:Hp):Xc->Value->Option Addr->Prop
 | .fX b,C,d=>C=.ref A.bL/\∃a,d=some a/\H a=some (.xd [(ar "bar",.int b)])
 | .eX,C,d=>C=.ref A.bc/\d=none
 | .noChange,C,d=>C=.ref A.bf/\d=none
 | .noFit,C,d=>C=.ref A.cj/\d=none
 | .eF n,C,d=>C=.ref A.aU/\∃a,d=some a/\H a=some (.xd [(ar "sitting",.int n)])
 | .nothing,C,d=>C=.ref A.bB/\d=none
 | .tooMany,C,d=>C=.ref A.bD/\d=none
 | .fY,C,d=>C=.ref A.bE/\d=none
 | .iP n,C,d=>C=.ref A.bM/\∃a,d=some a/\H a=some (.xd [(ar "sitting",.int n)])
 | .bj,C,d=>C=.ref A.aS/\d=none
def Xc.New (A:Adr)(H H':Hp)(x:Xc)(C:Value)(d:Option Addr):Prop:=x.At A H' C d/\∀a,d=some a->H a=none
theorem same_none {H H':Hp}(s:bT H H'){a:Addr}(h:H' a=none):H a=none:=by
 cases z:H a with
 |none=>rfl
 |some v=>rw[s _ _ z]at h;cases h
theorem j2 {i:Int}(h0:-10000000000 < i)(h1:i < 10000000000):i.natAbs.log2 < 1920:=by
 have h:i.natAbs < 2 ^ 34:=by
  have:(10000000000:Int)<=2 ^ 34:=by decide
  omega
 by_cases hz:i.natAbs=0
 ·rw[hz];decide
 ·exact Nat.lt_trans ((Nat.log2_lt hz).mpr h) (by decide)
theorem sI {i:Int}(h0:0<=i)(h1:i < 10000000000):(ar (toString i)).length<=20 :=
 me (PyProof.Rows.toString_length_le h0 (by decide:(1:Nat)<=11) (by show i < (10:Int) ^ 11;omega)) (by decide)
theorem o9 {i:Int}(h0:0<=i)(h1:i < 10000000000):∃z,C3 (.int i) z/\z.length<=10000 :=
 ⟨_,.int (j2 (by omega) h1),me (sI h0 h1) (by decide)⟩
def rC (ms:List Mn):Int:=match ms.getLast? with
 |none=>-1
 |some m=>(m.k:Int)
def tU (cl:Bool)(ms:List Mn):Int:=if cl=true then (if (4:Int) > rC ms then 4 else rC ms) else rC ms
def JA (ms:List Mn):Bool:=ms.any λm=>decide (m.k=0)
def p0 (ms:List Mn):Bool:=match ms.getLast? with
 |some (.chg e)=>!decide (e.k=1)
 |_=>false
def Du (ms:List Mn)(k:Nat):Bool:=if k=2 then p0 ms else if k=1\/k=3\/k=4\/k=5 then JA ms else true
def zF (cl:Bool)(ms:List Mn)(k:Nat):Option Xc :=
 if (k:Int)<=tU cl ms then some (.fX (tU cl ms)) else if Du ms k=true then none else if JA ms=true then some .noChange else some .eX
theorem Ml (ms:List Mn):-1<=rC ms/\rC ms < 8:=by
 unfold rC;split
 ·omega
 ·rename_i m _;have:=m.k8;omega
theorem zG (cl:Bool)(ms:List Mn):-1<=tU cl ms/\tU cl ms < 8:=by
 have:=Ml ms;unfold tU;split
 ·split <;> omega
 ·omega
def uN (A:Adr)(K:cb)(c:Col)(H:Hp)(B:Addr)(ms:List Mn)(os:List Addr):Prop:=SqL K H B (os.map V.ref)/\cQ (λm p=>mM A c H m p) ms os
theorem mM.same {A:Adr}{c:Col}{H H':Hp}{m:Mn}{o:Addr}(s:bT H H')(h:mM A c H m o):mM A c H' m o:=h.step (Step.same (W:=λ_=>False) id s)
theorem uN.same {A:Adr}{K:cb}{c:Col}{H H':Hp}{B:Addr}{ms:List Mn}{os:List Addr}(s:bT H H')(h:uN A K c H B ms os):uN A K c H' B ms os:=⟨s.seq h.1,h.2.imp λ_ _ y=>y.same s⟩
def WN (A:Adr)(K:cb):Sp:=λvs H Q _=>∃(B:Addr) (cl:Bool) (c:Col) (ms:List Mn) (os:List Addr),vs=[.ref B,.bl cl]/\uN A K c H B ms os/\Q (.int (tU cl ms)) H
def WO (A:Adr)(K:cb):Sp:=λvs H Q _=>∃(B:Addr) (c:Col) (ms:List Mn) (os:List Addr),vs=[.ref B]/\uN A K c H B ms os/\ms.length<=1000/\∀H',bT H H'->Q (.bl (JA ms)) H'
def RS (A:Adr)(K:cb):Sp:=λvs H Q _=>∃(B:Addr) (c:Col) (ms:List Mn) (os:List Addr),vs=[.ref B]/\uN A K c H B ms os/\∀H',bT H H'->Q (.bl (p0 ms)) H'
def Oj (A:Adr)(K:cb):Sp:=λvs H Q _=>∃(k:Nat) (B:Addr) (c:Col) (ms:List Mn) (os:List Addr),vs=[.str (nm k),.ref B]/\k < 8/\uN A K c H B ms os/\ms.length<=1000/\∀H',bT H H'->Q (.bl (Du ms k)) H'
def WQ (A:Adr)(K:cb):Sp:=λvs H Q E=>∃(k:Nat) (B:Addr) (cl:Bool) (c:Col) (ms:List Mn) (os:List Addr),vs=[.str (nm k),.ref B,.bl cl]/\k < 8/\uN A K c H B ms os/\ms.length<=1000 /\
 (zF cl ms k=none->∀H',bT H H'->Q .non H')/\∀x,zF cl ms k=some x->∀C d H',bT H H'->x.New A H H' C d->E C d H'
def Cv (A:Adr)(K:cb)(k:Nat):Sp:=λvs H Q E=>(k=0/\Iw A K vs H Q E)\/Gz A k vs H Q E
theorem zH (pre:List Addr)(q:Addr):atI ((pre++[q]).map V.ref) (-1)=some (.ref q):=by
 rw[wa];exact yI _ _
theorem GC:∀k,k < 8->decide (V.str (nm k)=V.str (ar "matter"))=decide (k=0):=by trivial
theorem gK:∀k,k < 8->decide (V.str (nm k)=V.str (ar "change"))=decide (k=1):=by trivial
theorem iQ:∀k,k < 8->decide (V.str (nm k)=V.str (ar "mend"))=decide (k=2):=by trivial
theorem lI:∀k,k < 8->decide (V.str (nm k)=V.str (ar "put off"))=decide (k=3):=by trivial
theorem zI:∀k,k < 8->decide (V.str (nm k)=V.str (ar "close"))=decide (k=4):=by trivial
theorem Cw:∀k,k < 8->decide (V.str (nm k)=V.str (ar "lay"))=decide (k=5):=by trivial
theorem GD:∀k,k < 8->decide (V.str (nm k)=V.str (ar "rest"))=decide (k=6):=by trivial
theorem l7:∀ {k:Nat} {v:V},atI (rowOf k v) 0=some (.str (nm k))
 | 0,_=>rfl
 | 1,_=>rfl
 | 2,_=>rfl
 | 3,_=>rfl
 | 4,_=>rfl
 | 5,_=>rfl
 | 6,_=>rfl
 | 7,_=>rfl
 |_+8,_=>rfl
theorem Ol:∀k,decide (V.str (kn k)=V.str (ar "cut"))=decide (k=1)
 | 0=>by trivial
 | 1=>by trivial
 |n+2=>by rw[decide_eq_false (show ¬n+2=1 by omega)];show decide (V.str (ar "turn")=_)=_;trivial
theorem cQ.last {α β:Type}{R:α->β->Prop}{as:List α}{pre:List β}{b:β}(h:cQ R as (pre++[b])):∃as' a,as=as'++[a]/\cQ R as' pre/\R a b:=by
 induction pre generalizing as with
 |nil =>
  cases h with
  |cons h t=>cases t;exact⟨[],_,rfl,.nil,h⟩
 |cons x r ih =>
  cases h with
  |cons h t =>
   obtain⟨as',a,rfl,h1,h2⟩:=ih t;exact⟨_::as',a,rfl,.cons h h1,h2⟩
theorem sJ (ms:List Mn)(m:Mn):rC (ms++[m])=(m.k:Int):=by unfold rC;rw[aem]
section
variable{P:ma}{w:World}{K:cb}{mg:Str->Option Value}{base:Heap}{A:Adr}
theorem wR (T:Txt w.params K mg A):a8 P w K mg base CX0 1 A.zb A.vJ ["self","bar"] (Jp A.bL "bar"):=by
 refine T.mD.ok y7 (λvs H Q E h=>?_) (λcdv A' outer s H vs Q E hr h=>?_)
 ·obtain⟨e,v,rfl,_⟩:=h;rfl
 ·obtain⟨e,v,rfl,hx,⟨z,fz,zl⟩,q⟩:=h;refine⟨_,(ao (dh (yR T.iI T.oY rfl T.g7 (aa (pv 0) (aa (yQ (kL (tG (pv 1) tF))) af))))
 (aq (BN T.oY (pv 0) (pv 1)))),?_⟩
  try dsimp only[cD]
  have sz:gn=16777216:=by decide
  have c5:(ar "barred by the bar ").length=18:=by trivial
  have e5:(adE++ar "barred by the bar ":Str).length=18:=by trivial
  refine⟨_,rfl,by rw[e5];omega,_,rfl,z,fz,by omega,by rw[len_app,e5];omega,by rw[len_app,e5];omega,e,_,rfl,hx,?_⟩
  exact⟨_,rfl,_,rfl,e,rfl,hx,λd hd=>q d hd⟩
theorem Ar (T:Txt w.params K mg A):a8 P w K mg base CX0 1 A.tN A.qV ["self","sitting"] (Jp A.aU "sitting"):=by
 refine T.jw.ok vA (λvs H Q E h=>?_) (λcdv A' outer s H vs Q E hr h=>?_)
 ·obtain⟨e,v,rfl,_⟩:=h;rfl
 ·obtain⟨e,v,rfl,hx,⟨z,fz,zl⟩,q⟩:=h;refine⟨_,(ao (dh (yR T.iI T.nG rfl T.g7 (aa (pv 0) (aa (yQ (kL (tG (pv 1) tF))) af))))
 (aq (BN T.nG (pv 0) (pv 1)))),?_⟩
  try dsimp only[cD]
  have sz:gn=16777216:=by decide
  have c5:(ar "not later than the sitting ").length=27:=by trivial
  have e5:(adE++ar "not later than the sitting ":Str).length=27:=by trivial
  refine⟨_,rfl,by rw[e5];omega,_,rfl,z,fz,by omega,by rw[len_app,e5];omega,by rw[len_app,e5];omega,e,_,rfl,hx,?_⟩
  exact⟨_,rfl,_,rfl,e,rfl,hx,λd hd=>q d hd⟩
theorem Dv (T:Txt w.params K mg A):a8 P w K mg base CX0 1 A.zc A.vK ["self","sitting"] (Jp A.bM "sitting"):=by
 refine T.mF.ok y8 (λvs H Q E h=>?_) (λcdv A' outer s H vs Q E hr h=>?_)
 ·obtain⟨e,v,rfl,_⟩:=h;rfl
 ·obtain⟨e,v,rfl,hx,⟨z,fz,zl⟩,q⟩:=h;refine⟨_,(ao (dh (yR T.iI T.sG rfl T.g7 (aa (pv 0) (aa (yQ (kL (tG (pv 1) tF))) af))))
 (aq (BN T.sG (pv 0) (pv 1)))),?_⟩
  try dsimp only[cD]
  have sz:gn=16777216:=by decide
  have c5:(ar "aside until the sitting ").length=24:=by trivial
  have e5:(adE++ar "aside until the sitting ":Str).length=24:=by trivial
  refine⟨_,rfl,by rw[e5];omega,_,rfl,z,fz,by omega,by rw[len_app,e5];omega,by rw[len_app,e5];omega,e,_,rfl,hx,?_⟩
  exact⟨_,rfl,_,rfl,e,rfl,hx,λd hd=>q d hd⟩
theorem Dw (T:Txt w.params K mg A):∀k,k < 8->a8 P w K mg base CX0 2 (A.ft k) (A.ftd k) ["self"] (Cv A K k)
 | 0,_=>(Me T).imp λvs H Q E h=>h.elim (λz=>z.2) (λz=>absurd z.1 (by decide))
 | 1,h=>(pX T 1 h).imp λvs H Q E h=>h.elim (λz=>absurd z.1 (by decide)) id
 | 2,h=>(pX T 2 h).imp λvs H Q E h=>h.elim (λz=>absurd z.1 (by decide)) id
 | 3,h=>(pX T 3 h).imp λvs H Q E h=>h.elim (λz=>absurd z.1 (by decide)) id
 | 4,h=>(pX T 4 h).imp λvs H Q E h=>h.elim (λz=>absurd z.1 (by decide)) id
 | 5,h=>(pX T 5 h).imp λvs H Q E h=>h.elim (λz=>absurd z.1 (by decide)) id
 | 6,h=>(pX T 6 h).imp λvs H Q E h=>h.elim (λz=>absurd z.1 (by decide)) id
 | 7,h=>(pX T 7 h).imp λvs H Q E h=>h.elim (λz=>absurd z.1 (by decide)) id
 |n+8,h=>absurd h (by omega)
theorem Bb (T:Txt w.params K mg A):a8 P w K mg base CX0 3 A.Gg A.vF ["pile","closed"] (WN A K):=by
 have RT:∀k,k < 8->a8 P w K mg base CX0 2 A.f_r A.N5 ["self"] (Mc A):=λ_ _=>Oe T
 refine T.uA.ok AW (λvs H Q E h=>?_) (λcdv A' outer s H vs Q E hr h=>?_)
 ·obtain⟨B,cl,c,ms,os,rfl,_⟩:=h;rfl
 ·obtain⟨B,cl,c,ms,os,rfl,⟨hB,ho⟩,q⟩:=h;refine⟨_,(ao (br (i:=2) AW.nd rfl (wt rfl) (CJ (qN (pv 0) (λ_=>rfl)) (md (n:=8) (Cf:=A.C) (bN je (pv 0) (yE tE aj) (λ_ _=>rfl)) T.cl T.L7 RT hr T.L8 bC) (yE tE aj)))
 (ao (cI (iq (pv 1))
 (aq (aI (bW (Jb rfl) (by rfl) T.Pm QZ (aa (pv 2) (aa (cW (v:=V.int 4) rfl T.uD ⟨_,rfl⟩) af)))))
 aT)
 (aq (aI (pv 2))))),?_⟩
  try dsimp only[cD]
  unfold tU at q;rcases adY os with h | ⟨pre,o,h⟩
  ·subst h;cases ho;refine⟨_,rfl,_,.inl ⟨_,hB,rfl⟩,kK ⟨_,rfl,?_⟩⟩;refine⟨_,rfl,_,rfl,?_⟩;cases cl with
   |true=>exact nO ⟨_,rfl,_,_,rfl,q⟩
   |false=>exact kK ⟨_,rfl,q⟩
  ·rw[adZ]at h;refine aN λGq gq=>?_
   subst h;obtain⟨ms',m,rfl,_,_,dx,v,hm,_⟩:=ho.last;rw[sJ]at q;refine gq ?_;refine⟨_,rfl,_,.inl ⟨_,hB,rfl⟩,Ii (by simp) ⟨_,rfl,_,rfl,B,_,_,_,rfl,rfl,hB,zH pre o,m.k,m.k8,o,dx,_,rfl,hm,Ob m.k v,o,m.k,dx,_,m.k8,rfl,hm,lZ m.k v,?_⟩⟩
   refine⟨_,rfl,_,rfl,?_⟩;cases cl with
   |true=>exact nO ⟨_,rfl,_,_,rfl,q⟩
   |false=>exact kK ⟨_,rfl,q⟩
theorem sZ (T:Txt w.params K mg A):a8 P w K mg base CX0 2 A.tK A.nP ["pile"] (WO A K):=by
 have g8:∀k,k < 8->a8 P w K mg base CX0 1 (A.fk k) (A.fkd k) ["self"] (gJ k):=l6 T;refine T.lX.ok Al (λvs H Q E h=>?_) (λcdv A' outer s H vs Q E hr h=>?_)
 ·obtain⟨B,c,ms,os,rfl,_⟩:=h;rfl
 ·obtain⟨B,c,ms,os,rfl,⟨hB,ho⟩,hl,q⟩:=h;refine⟨_,(aq (aI (bW (Ld rfl) (by rfl) T.Pn Q0 (aa (BG (scope:=oN) xj rfl (sf (pv 0)) (λ_ _ _ _ _=>(nz cS (md (n:=8) (Cf:=A.C) (pv 0) T.cl T.nU g8 hr T.nW bC) au (bz _)))) af)))),?_⟩
  try dsimp only[cD]
  have lim:gn=16777216:=by decide
  have ol:=ho.len;refine⟨_,rfl,B,rfl,⟨_,hB⟩,λR hR=>?_⟩
  have sR:∀ {o:HO},bT H (upd H R o):=aK hR;refine vw (K:=K) (a:=B) (xs:=os.map V.ref) (λi ys H2=>ys=(ms.take i).map (λm=>V.bl (decide (m.k=0)))/\H2=upd H R (.lst ys)) ⟨rfl,rfl⟩ (by rw[da];omega) ?_ ?_ ?_
  ·rintro i ys H2 hi ⟨rfl,rfl⟩;rw[da]at hi;exact⟨sR.seq hB,ah,by rw[da,adW];omega⟩
  ·rintro i y ys H2 hy ⟨rfl,rfl⟩;refine aN λGq gq=>?_
   have hi:i < ms.length:=by have:=(List.getElem?_eq_some_iff.mp hy).1;rw[da]at this;omega
   obtain⟨o,ho1,_,dx,v,ho2,_⟩:=ho.get (adv hi);rw[adK,ho1]at hy;cases hy;refine gq ?_;refine⟨_,rfl,ms[i].k,ms[i].k8,o,dx,_,rfl,sR _ _ ho2,lZ _ v,o,rfl,rfl,?_⟩;rw[GC _ ms[i].k8];refine f7.mk (by rw[da];omega) ah ⟨?_,by rw[ny]⟩
   rw[List.take_succ,adv hi,wa];rfl
  ·rintro ys H2 ⟨rfl,rfl⟩;rw[da,<-ol,aeI];refine⟨R,ms.map (λm=>decide (m.k=0)),rfl,SqL.of (by rw[ah,List.map_map];rfl),?_⟩
   rw[List.any_map];exact q _ sR
theorem vQ (T:Txt w.params K mg A):a8 P w K mg base CX0 3 A.nQ A.jT ["pile"] (RS A K):=by
 have GF:∀k,k < 8->a8 P w K mg base CX0 2 (A.ft k) (A.ftd k) ["self"] (Cv A K k):=Dw T;refine T.lD.ok oO (λvs H Q E h=>?_) (λcdv A' outer s H vs Q E hr h=>?_)
 ·obtain⟨B,c,ms,os,rfl,_⟩:=h;rfl
 ·obtain⟨B,c,ms,os,rfl,⟨hB,ho⟩,q⟩:=h;refine⟨_,(ao (cI (vm (qN (pv 0) (λ_=>rfl)))
 (aq (aI yA))
 aT)
 (ao (br (i:=1) oO.nd rfl (wt rfl) (md (n:=8) (Cf:=A.C) (bN je (pv 0) (yE tE aj) (λ_ _=>rfl)) T.cl T.Gv GF hr T.Gw bC))
 (aq (aI (Ku (nz cS (bN bG (pv 1) aj (λ_ _=>rfl)) au (bz _)) (FJ (nz HY (bN bG (bN bG (pv 1) aj (λ_ _=>rfl)) aj (λ_ _=>rfl)) au (bz _)))))))),?_⟩
  try dsimp only[cD]
  rcases adY os with h | ⟨pre,o,h⟩
  ·subst h;cases ho;refine⟨_,rfl,_,.inl ⟨_,hB,rfl⟩,nO ?_⟩;exact q H (bT.refl _)
  ·rw[adZ]at h;subst h;refine⟨_,rfl,_,.inl ⟨_,hB,rfl⟩,K2 (by simp) ?_⟩
   refine aN λGq gq=>?_
   obtain⟨ms',m,rfl,_,_,dx,v,hm,hv⟩:=ho.last;have gl:(ms'++[m]).getLast?=some m:=aem;unfold p0 at q;rw[gl]at q;refine gq ?_;refine⟨_,rfl,_,rfl,B,_,_,_,rfl,rfl,hB,zH pre o,m.k,m.k8,o,dx,_,rfl,hm,Iu m.k v,?_⟩
   by_cases h0:m.k=0
   ·obtain⟨tx,rfl⟩:∃tx,m=.mat tx:=by cases m <;> first | exact⟨_,rfl⟩ | exact absurd h0 (by simp[Mn.k])
    refine aN λGq gq=>?_
    obtain⟨p,rfl,_,hp⟩:=hv;refine gq ?_;refine .inl ⟨rfl,o,dx,p,tx.map V.str,rfl,hm,SqL.of hp,λp2 u hp2 hu npu=>?_⟩
    have nu:(upd H p2 (.lst (tx.map V.str))) u=none:=(aw (adz npu)).trans hu;refine ixv rfl (SqT.of ah) rfl ⟨rfl,_,rfl,?_⟩;rw[gK 0 (by decide)]
    exact kK (q _ ((aK hp2).new nu))
   ·refine .inr ⟨by omega,o,dx,v,rfl,hm,λu hu=>?_⟩
    have su:=aK (o:=.tup (rowOf m.k v)) hu;refine ixv rfl (SqT.of ah) l7 ⟨rfl,_,rfl,?_⟩;rw[gK m.k m.k8]
    by_cases h1:m.k=1
    ·obtain⟨e,rfl⟩:∃e,m=.chg e:=by cases m <;> first | exact⟨_,rfl⟩ | exact absurd h1 (by simp[Mn.k])
     refine aN λGq gq=>?_
     obtain⟨t,rfl,ht⟩:=hv;refine gq ?_;refine Ii (decide_eq_true rfl) (ixv rfl (SqT.of ah) rfl ⟨t,_,_,_,rfl,rfl,eQ su ht.sq,Cg e,rfl,?_⟩);rw[Ol];exact q _ su
    ·rw[decide_eq_false h1];have q':∀H',bT H H'->Q (.bl false) H':=by
      cases m with
      |chg e=>exact absurd rfl h1
      |_=>exact q
     exact kK (q' _ su)
theorem rD (T:Txt w.params K mg A):a8 P w K mg base CX0 4 A.jk A.gQ ["kind","pile"] (Oj A K):=by
 refine T.iu.ok qS (λvs H Q E h=>?_) (λcdv A' outer s H vs Q E hr h=>?_)
 ·obtain⟨k,B,c,ms,os,rfl,_⟩:=h;rfl
 ·obtain⟨k,B,c,ms,os,rfl,k8,hp,hl,q⟩:=h;refine⟨_,(ao (cI (a9 cS (pv 0) au (bz _))
 (aq (aI (bY (vQ T) hr rfl T.qb T.lD.kp T.qa .nil bC (aa (pv 1) af))))
 aT)
 (ao (cI (a9 Je (pv 0) (aG (aa au (aa au (aa au (aa au af))))) rfl)
 (aq (aI (bY (sZ T) (hr.mono (by decide)) rfl T.pR T.lX.kp T.pQ .nil bC (aa (pv 1) af))))
 aT)
 (aq (aI yA)))),?_⟩
  try dsimp only[cD]
  refine⟨_,rfl,rfl,_,rfl,?_⟩;rw[iQ k k8];unfold Du at q
  by_cases h2:k=2
  ·rw[if_pos h2]at q;exact Ii (decide_eq_true h2) ⟨_,rfl,B,c,ms,os,rfl,hp,q⟩
  ·rw[if_neg h2]at q;refine K2 (decide_eq_false h2) ?_;refine⟨_,rfl,(sl 4),λt ht=>?_⟩
   have st:=aK (o:=.tup [V.str (ar "change"),V.str (ar "put off"),V.str (ar "close"),V.str (ar "lay")]) ht;refine⟨t,_,rfl,.inr (SqT.of ah),rfl,rfl,_,rfl,?_⟩;have ein:(if false=true then !inV (V.str (nm k)) [V.str (ar "change"),V.str (ar "put off"),V.str (ar "close"),V.str (ar "lay")] else inV (V.str (nm k)) [V.str (ar "change"),V.str (ar "put off"),V.str (ar "close"),V.str (ar "lay")])=decide (k=1\/k=3\/k=4\/k=5):=by
    have:∀k,k < 8->inV (V.str (nm k)) [V.str (ar "change"),V.str (ar "put off"),V.str (ar "close"),V.str (ar "lay")]=decide (k=1\/k=3\/k=4\/k=5):=by trivial
    exact this k k8
   rw[ein]
   by_cases h3:k=1\/k=3\/k=4\/k=5
   ·rw[if_pos h3]at q;exact Ii (decide_eq_true h3) ⟨_,rfl,B,c,ms,os,rfl,hp.same st,hl,λH' s'=>q H' (st.trans s')⟩
   ·rw[if_neg h3]at q;exact K2 (decide_eq_false h3) (q _ st)
theorem sQ (T:Txt w.params K mg A):a8 P w K mg base (CXX P w) 5 A.jU A.ir ["kind","pile","closed"] (WQ A K):=by
 refine T.iN.okX lP (λvs H Q E h=>?_) (λcdv A' outer s H vs Q E hr h=>?_)
 ·obtain⟨k,B,cl,c,ms,os,rfl,_⟩:=h;rfl
 ·obtain⟨k,B,cl,c,ms,os,rfl,k8,hp,hl,q,qx⟩:=h;refine⟨_,(aH (psx (br (i:=3) lP.nd rfl (wt rfl) (bY (Bb T) (hr.mono (by decide)) rfl T.ze T.uA.kp T.zd .nil bC (aa (pv 1) (aa (pv 2) af)))))
 (aH (fB (a9 HZ (bN Lb (cW (v:=V.ref A.tab) rfl T.Cd rfl) (pv 0) (λ_ _=>rfl)) (pv 3) (bz _))
 (bA (pO T.oY (wR T) (hr.mono (by decide)) T.mE rfl rfl T.rb (aa (pv 3) af)))
 (qt aT))
 (bA (fB (vm (iq (bY (rD T) hr rfl T.lR T.iu.kp T.lQ .nil bC (aa (pv 0) (aa (pv 1) af)))))
 (aH (fB (iq (bY (sZ T) (hr.mono (by decide)) rfl T.pR T.lX.kp T.pQ .nil bC (aa (pv 1) af)))
 (bA (iT T.wL rfl rfl T.pU (aa au af)))
 (qt aT))
 (bA (iT T.wJ rfl rfl T.pT (aa (yQ (tG (pv 0) (kL tF))) af))))
 (qt aT))))),?_⟩
  try dsimp only[cD]
  refine⟨_,rfl,_,rfl,B,cl,c,ms,os,rfl,hp,?_⟩;obtain⟨tk,htk⟩:=T.rk k k8;refine⟨_,rfl,A.tab,nm k,.int k,_,rfl,rfl,T.tb,htk,⟨_,rfl⟩,_,rfl,_,_,rfl,rfl,_,rfl,vq (λe=>?_) (λe=>?_)⟩
  ·have e':(k:Int)<=tU cl ms:=of_decide_eq_true e;have hb:=zG cl ms;refine⟨_,rfl,_,rfl,o9 (by omega) (by omega),λd hd=>qx (.fX (tU cl ms)) (by unfold zF;rw[if_pos e']) _ _ _ (aK hd) ⟨⟨rfl,d,rfl,ah⟩,λ_ z=>by cases z;exact hd⟩⟩
  ·have e':¬(k:Int)<=tU cl ms:=λz=>e (decide_eq_true z)
   unfold zF at q qx;rw[if_neg e']at q qx;refine⟨_,rfl,_,rfl,k,B,c,ms,os,rfl,k8,hp,hl,λH' s'=>⟨_,rfl,?_⟩⟩
   cases hn:Du ms k with
   |true =>
    rw[hn,if_pos rfl]at q;exact kK (q rfl _ s')
   |false =>
    rw[hn,if_neg ki]at qx;refine nO ⟨_,rfl,B,c,ms,os,rfl,hp.same s',hl,λH2 s2=>⟨_,rfl,?_⟩⟩
    cases hm:JA ms with
    |true =>
     rw[hm,if_pos rfl]at qx;exact nO ⟨by decide,qx _ rfl _ _ _ (s'.trans s2) ⟨⟨rfl,rfl⟩,λ_ z=>nomatch z⟩⟩
    |false =>
     rw[hm,if_neg ki]at qx;refine kK ⟨_,rfl,nm k,.str,?_,?_,?_⟩
     ·have:∀k,k < 8->(nm k).length<=10:=by trivial
      exact me (this k k8) (by decide)
     ·have:∀k,k < 8->(adE++nm k:Str).length<=10:=by trivial
      exact me (this k k8) (by decide)
     ·have:∀k,k < 8->((adE++nm k)++ar " needs a matter on the pile":Str).length<=100:=by trivial
      have l:=me (this k k8) (show 100<=gn by decide)
      exact⟨l,l,(sl 1),qx _ rfl _ _ _ (s'.trans s2) ⟨⟨rfl,rfl⟩,λ_ z=>nomatch z⟩⟩
theorem j3 (T:Txt w.params K mg A):a8 P w K mg base CX0 1 A.f_n A.B7 ["self"] (Cn 0):=by
 refine T.F_n.ok yW (λvs H Q E h=>?_) (λcdv A' outer s H vs Q E hr h=>?_)
 ·obtain⟨m,rfl,_⟩:=h;rfl
 ·obtain⟨m,rfl,q⟩:=h;exact⟨_,(aq (aI au)),q⟩
theorem JB (T:Txt w.params K mg A):a8 P w K mg base CX0 1 A.Rw A.LJ ["self"] (Cn 4):=by
 refine T.Wy.ok Ai (λvs H Q E h=>?_) (λcdv A' outer s H vs Q E hr h=>?_)
 ·obtain⟨m,rfl,_⟩:=h;rfl
 ·obtain⟨m,rfl,q⟩:=h;exact⟨_,(aq (aI au)),q⟩
theorem Om (T:Txt w.params K mg A):∀k,k < 8->a8 P w K mg base CX0 1 (A.fn k) (A.fnd k) ["self"] (Cn k)
 | 0,_=>j3 T
 | 1,_=>j3 T
 | 2,_=>j3 T
 | 3,_=>j3 T
 | 4,_=>JB T
 | 5,_=>j3 T
 | 6,_=>j3 T
 | 7,_=>j3 T
 |n+8,h=>absurd h (by omega)
end
theorem l8 {a b:Nat}:((kr (a:Int):Key)=kr (b:Int))↔a=b:=⟨λh=>by have:=Sum.inl.inj h;omega,λh=>by rw[h]⟩
theorem dG {k:Nat}{v:V}{ks:List Nat}{vs:List V}:bJ ((k::ks).zip (v::vs))=(kr (k:Int),v)::bJ (ks.zip vs):=rfl
theorem p4 {n:Nat}:∀ {ks:List Nat} {vs:List V},n∉ks->jN (bJ (ks.zip vs)) (kr (n:Int))=none
 |[],_,_=>rfl
 |_::_,[],_=>rfl
 |k::ks,v::vs,h=>by
  rw[dG,iA (λz=>h (by rw[l8.mp z];exact fi))]
  exact p4 λz=>h (kf _ z)
theorem Bc {n:Nat}{v:V}:∀ {ks:List Nat} {vs:List V} {j:Nat},ks.Nodup->ks[j]?=some n->vs[j]?=some v->jN (bJ (ks.zip vs)) (kr (n:Int))=some v
 |[],_,_,_,h,_=>by simp at h
 |_::_,[],_,_,_,h=>by simp at h
 |k::ks,u::vs,0,_,h,g=>by
  rw[adP]at h g;cases h;cases g;exact mj rfl
 |k::ks,u::vs,j+1,nd,h,g=>by
  rw[ad1]at h g;obtain⟨n1,n2⟩:=List.nodup_cons.mp nd;rw[dG,iA (λz=>n1 (by rw[l8.mp z];exact adF h))]
  exact Bc n2 h g
theorem uO {n:Nat}{v:V}:∀ {ks:List Nat} {vs:List V},n∉ks->(bJ (ks.zip vs)).map (λkv=>if kv.1=(kr (n:Int):Key) then (kv.1,v) else kv)=bJ (ks.zip vs)
 |[],_,_=>rfl
 |_::_,[],_=>rfl
 |k::ks,u::vs,h=>by
  rw[dG,kg,uO λz=>h (kf _ z),if_neg (λz=>h (by rw[l8.mp z];exact fi))]
theorem Bd {n:Nat}{v:V}:∀ {ks:List Nat} {vs:List V} {j:Nat},ks.Nodup->ks[j]?=some n->(bJ (ks.zip vs)).map (λkv=>if kv.1=(kr (n:Int):Key) then (kv.1,v) else kv)=bJ (ks.zip (vs.set j v))
 |[],_,_,_,h=>by simp at h
 |k::ks,[],_,_,_=>by simp[bJ]
 |k::ks,u::vs,0,nd,h=>by
  rw[adP]at h;cases h;rw[dG,kg,uO (List.nodup_cons.mp nd).1,if_pos rfl];rfl
 |k::ks,u::vs,j+1,nd,h=>by
  rw[ad1]at h;obtain⟨n1,n2⟩:=List.nodup_cons.mp nd;rw[dG,kg,Bd n2 h,if_neg (λz=>n1 (by rw[l8.mp z];exact adF h))]
  rfl
theorem JC {n:Nat}{v:V}{ks:List Nat}{vs:List V}{j:Nat}(nd:ks.Nodup)(h:ks[j]?=some n)(l:ks.length=vs.length):putK (bJ (ks.zip vs)) (kr (n:Int)) v=bJ (ks.zip (vs.set j v)):=by
 have hj:j < vs.length:=by rw[<-l];exact(List.getElem?_eq_some_iff.mp h).1
 unfold putK;rw[uu,Bc nd h (adv hj)];exact(if_pos rfl).trans (Bd nd h)
theorem sL {n:Nat}{v:V}{ks:List Nat}{vs:List V}(h:n∉ks)(l:ks.length=vs.length):putK (bJ (ks.zip vs)) (kr (n:Int)) v=bJ ((ks++[n]).zip (vs++[v])):=by
 rw[Lw v (p4 h),List.zip_append l];unfold bJ;rw[wa];rfl
section
variable{β:Type}{R:Nat×β->V->Prop}
def at1 (n:Nat)(xs:List (Nat×β)):Option (Nat×β):=xs.find? λx=>decide (x.1=n)
theorem nI {n:Nat}{xs:List (Nat×β)}{x:Nat×β}(h:at1 n xs=some x):x.1=n/\x∈xs:=by
 unfold at1 at h;have:=List.find?_some h;exact⟨of_decide_eq_true this,List.mem_of_find?_eq_some h⟩
theorem zJ {n:Nat}{xs:List (Nat×β)}(h:at1 n xs=none):n∉xs.map (·.1):=λz=>by
 obtain⟨x,hx,e⟩:=List.mem_map.mp z;have:=List.find?_eq_none.mp h x hx;exact this (decide_eq_true e)
theorem cQ.val {n:Nat}:∀ {xs:List (Nat×β)} {ws:List V} {x:Nat×β},cQ R xs ws->at1 n xs=some x->∃v,jN (bJ ((xs.map (·.1)).zip ws)) (kr (n:Int))=some v/\R x v
 |_,_,_,.nil,h=>nomatch h
 |y::xs,w::ws,x,.cons g t,h=>by
  unfold at1 at h;rw[aeq]at h
  by_cases e:y.1=n
  ·rw[decide_eq_true e]at h;cases h;exact⟨w,by rw[kg,dG];exact mj (l8.mpr e),g⟩
  ·rw[decide_eq_false e]at h;obtain⟨v,h1,h2⟩:=cQ.val t h;exact⟨v,by rw[kg,dG,iA (λz=>e (l8.mp z))];exact h1,h2⟩
theorem cQ.drop {n:Nat}:∀ {xs:List (Nat×β)} {ws:List V},cQ R xs ws->∃ws',lK (bJ ((xs.map (·.1)).zip ws)) (kr (n:Int))=bJ (((xs.filter λx=>decide (x.1≠n)).map (·.1)).zip ws')/\cQ R (xs.filter λx=>decide (x.1≠n)) ws'
 |_,_,.nil=>⟨[],rfl,.nil⟩
 |y::xs,w::ws,.cons g t=>by
  obtain⟨ws',h1,h2⟩:=cQ.drop (n:=n) t
  by_cases e:y.1=n
  ·refine⟨ws',?_,?_⟩
   ·rw[List.filter_cons_of_neg (by simp[e]),<-h1,kg,dG]
    unfold lK;rw[List.filter_cons_of_neg (by simp[e])]
   ·rw[List.filter_cons_of_neg (by simp[e])];exact h2
  ·refine⟨w::ws',?_,?_⟩
   ·rw[List.filter_cons_of_pos (by simp[e]),kg,kg,dG,dG,<-h1]
    unfold lK;have hne:(kr (y.1:Int):Key)≠kr (n:Int):=λz=>e (l8.mp z)
    rw[List.filter_cons_of_pos (by exact decide_eq_true hne)]
   ·rw[List.filter_cons_of_pos (by simp[e])];exact .cons g h2
theorem cQ.WR {R':Nat×β->V->Prop}{n:Nat}{f:Nat×β->Nat×β}{v:V}(h1:∀x,x.1=n->R x v->R' (f x) v)(h2:∀x u,x.1≠n->R x u->R' x u):∀ {xs:List (Nat×β)} {ws:List V},cQ R xs ws->(xs.map (·.1)).Nodup->jN (bJ ((xs.map (·.1)).zip ws)) (kr (n:Int))=some v ->
  cQ R' (xs.map λx=>if x.1=n then f x else x) ws
 |_,_,.nil,_,h=>nomatch h
 |y::xs,w::ws,.cons g t,nd,h=>by
  rw[kg]at nd;obtain⟨n1,n2⟩:=List.nodup_cons.mp nd;rw[kg,dG]at h;rw[kg]
  by_cases e:y.1=n
  ·rw[mj (l8.mpr e)]at h;cases h;rw[if_pos e];refine .cons (h1 y e g) ?_;have hne:∀x∈xs,x.1≠n:=λx hx z=>n1 (by rw[e,<-z];exact List.mem_map_of_mem hx)
   have em:xs.map (λx=>if x.1=n then f x else x)=xs:=by
    have:xs.map (λx=>if x.1=n then f x else x)=xs.map id:=aeD λx hx=>if_neg (hne x hx)
    rw[this,List.map_id]
   rw[em];exact t.imp_mem λx hx u=>h2 x u (hne x hx)
  ·rw[iA (λz=>e (l8.mp z))]at h
   rw[if_neg e];exact .cons (h2 y w e g) (cQ.WR h1 h2 t n2 h)
end
theorem cQ.set {α β:Type}{R:α->β->Prop}:∀ {as:List α} {bs:List β} {a:α} {b:β} (j:Nat),cQ R as bs->R a b->cQ R (as.set j a) (bs.set j b)
 |_,_,_,_,_,.nil,_=>.nil
 |_,_,_,_,0,.cons _ t,h=>.cons h t
 |_,_,_,_,j+1,.cons g t,h=>.cons g (t.set j h)
def pOb:Rl->Bool | .ob=>true | _=>false
def Pp:Rl->Bool | .rows=>true | _=>false
def IF:Rl->Bool | .made=>true | _=>false
def Pq:Rl->Bool | .aC=>true | _=>false
def WS:Rl->Bool | .ob=>true | .aC=>true | .aL=>true | _=>false
def Pr (n:Nat):Rl->Bool | .rn m=>decide (m=n) | _=>false
def WT:Rl->Bool | .firsts=>true | _=>false
def WU:Rl->Bool | .kept=>true | _=>false
def Pt (n:Nat):Rl->Bool | .ob=>true | .aL=>true | .mK m=>decide (m=n) | _=>false
theorem rE {i:Nat}{c:Col}{a b:Addr}{r r':Rl}(h:c a=some (i,r))(h':c b=some (i,r'))(n:r≠r'):a≠b:=λz=>by
 rw[z,h']at h;cases h;exact n rfl
section
variable{A:Adr}{i:Nat}{c c':Col}{H H':Hp}{o dx aM aP aA aD aF aE aR:Addr}{st:Ch}{ms ds:List Addr}{ws fs es:List V}
theorem ChX.free {W:Option (Nat×Rl)->Prop}(h:∀r,¬W (some (i,r)))(s:Step W c c' H H')(X:ChX A i c H o st dx aM aP aA aD aF aE aR ms ds ws fs es):ChX A i c' H' o st dx aM aP aA aD aF aE aR ms ds ws fs es:=by
 have hn:¬W (c o):=by rw[X.co];exact h _
 refine⟨by rw[s.col o _ X.ob hn];exact X.co,s.keep _ _ X.ob hn,X.made.keep (h _) s,rq s X.mot,X.aC.keep (h _) s,X.aL.keep (h _) s,X.wait.imp ?_,X.dec.keep (h _) s,rz s X.xm,X.firsts.keep (h _) s,X.first.imp ?_,X.kU.keep (h _) s,X.kept.imp ?_,X.rows.keep (h _) s⟩
 ·rintro x v ⟨t,p,e,z1,z2⟩;exact⟨t,p,e,z1.step s,z2.keep (h _) s⟩
 ·rintro x v ⟨p,e,z⟩;exact⟨p,e,z.keep (h _) s⟩
 ·rintro x v ⟨p,ts,e,z1,z2⟩;exact⟨p,ts,e,z1.keep (h _) s,z2.imp λ_ _ y=>y.step s⟩
theorem ChX.same (s:bT H H')(X:ChX A i c H o st dx aM aP aA aD aF aE aR ms ds ws fs es):ChX A i c H' o st dx aM aP aA aD aF aE aR ms ds ws fs es:=X.free (W:=λ_=>False) (λ_=>id) (Step.same id s)
theorem ChX.cl (s:bT H H')(X:ChX A i c H o st dx aM aP aA aD aF aE aR ms ds ws fs es):ChX A i (gf c H) H' o st dx aM aP aA aD aF aE aR ms ds ws fs es:=X.free (W:=λ_=>False) (λ_=>id) (Step.cl id s)
theorem ChX.at (X:ChX A i c H o st dx aM aP aA aD aF aE aR ms ds ws fs es):fP A i c H o st:=⟨_,_,_,_,_,_,_,_,_,_,_,_,_,X⟩
theorem ChX.attr (X:ChX A i c H o st dx aM aP aA aD aF aE aR ms ds ws fs es)(n:Int)(b:Bool) :
  Step (Wr i pOb) c c H (upd H o (.ins A.ak dx (chF (.int st.iD) (.int n) (.bl b) (.ref aM) (.ref aP) (.ref aA) (.ref aD) (.ref aF) (.ref aE) (.ref aR)))) /\
  ChX A i c (upd H o (.ins A.ak dx (chF (.int st.iD) (.int n) (.bl b) (.ref aM) (.ref aP) (.ref aA) (.ref aD) (.ref aF) (.ref aE) (.ref aR)))) o { st with bt:=n,closed:=b } dx aM aP aA aD aF aE aR ms ds ws fs es:=by
 have s:Step (Wr i pOb) c c H (upd H o (.ins A.ak dx (chF (.int st.iD) (.int n) (.bl b) (.ref aM) (.ref aP) (.ref aA) (.ref aD) (.ref aF) (.ref aE) (.ref aR)))):=Step.upd Wr.nn (Wr.yes X.co rfl);exact⟨s,X.co,ah,X.made.kp rfl s,rq s X.mot,X.aC.kp rfl s,X.aL.kp rfl s,sX (λ_ _=>rfl) s X.wait,X.dec.kp rfl s,rz s X.xm,X.firsts.kp rfl s,sY (λ_ _=>rfl) s X.first,X.kU.kp rfl s,uM (λ_ _=>rfl) s X.kept,X.rows.kp rfl s⟩
theorem ChX.row (X:ChX A i c H o st dx aM aP aA aD aF aE aR ms ds ws fs es)(z:Str) :
  Step (Wr i Pp) c c H (upd H aR (.lst (st.rows.map V.str++[.str z])))/\ChX A i c (upd H aR (.lst (st.rows.map V.str++[.str z]))) o { st with rows:=st.rows++[z] } dx aM aP aA aD aF aE aR ms ds ws fs es:=by
 have s:Step (Wr i Pp) c c H (upd H aR (.lst (st.rows.map V.str++[.str z]))):=Step.upd Wr.nn (Wr.yes X.rows.1 rfl);have k:=tT rfl s X.co X.ob;exact⟨s,k.1,k.2,X.made.kp rfl s,rq s X.mot,X.aC.kp rfl s,X.aL.kp rfl s,sX (λ_ _=>rfl) s X.wait,X.dec.kp rfl s,rz s X.xm,X.firsts.kp rfl s,sY (λ_ _=>rfl) s X.first,X.kU.kp rfl s,uM (λ_ _=>rfl) s X.kept,X.rows.1,by rw[ah,wa];rfl⟩
theorem ChX.push (X:ChX A i c H o st dx aM aP aA aD aF aE aR ms ds ws fs es)(n:Nat) :
  Step (Wr i Pq) c c H (upd H aP (.lst (st.aC.map nV++[nV n])))/\ChX A i c (upd H aP (.lst (st.aC.map nV++[nV n]))) o { st with aC:=st.aC++[n] } dx aM aP aA aD aF aE aR ms ds ws fs es:=by
 have s:Step (Wr i Pq) c c H (upd H aP (.lst (st.aC.map nV++[nV n]))):=Step.upd Wr.nn (Wr.yes X.aC.1 rfl);have k:=tT rfl s X.co X.ob;exact⟨s,k.1,k.2,X.made.kp rfl s,rq s X.mot,⟨X.aC.1,by rw[ah,wa];rfl⟩,X.aL.kp rfl s,sX (λ_ _=>rfl) s X.wait,X.dec.kp rfl s,rz s X.xm,X.firsts.kp rfl s,sY (λ_ _=>rfl) s X.first,X.kU.kp rfl s,uM (λ_ _=>rfl) s X.kept,X.rows.kp rfl s⟩
theorem Mm {n k:Nat}(h1:1<=n)(h2:n<=k):(adG 1 k)[n - 1]?=some n:=by
 rw[List.getElem?_range' (by omega)]
 congr 1
 omega
theorem ChX.IG (X:ChX A i c H o st dx aM aP aA aD aF aE aR ms ds ws fs es){n:Nat}{m:Mn}{x:Addr}(hn:hG st n)(hm:mM A c H m x) :
  Step (Wr i IF) c c H (upd H aM (.dK (putK (bJ ((adG 1 st.made.length).zip (ms.map V.ref))) (kr (n:Int)) (.ref x)))) /\
  ChX A i c (upd H aM (.dK (putK (bJ ((adG 1 st.made.length).zip (ms.map V.ref))) (kr (n:Int)) (.ref x)))) o { st with made:=st.made.set (n - 1) m } dx aM aP aA aD aF aE aR (ms.set (n - 1) x) ds ws fs es:=by
 have s:Step (Wr i IF) c c H (upd H aM (.dK (putK (bJ ((adG 1 st.made.length).zip (ms.map V.ref))) (kr (n:Int)) (.ref x)))):=Step.upd Wr.nn (Wr.yes X.made.1 rfl);have k:=tT rfl s X.co X.ob;have ml:=X.mot.len;have e:=JC (v:=.ref x) (List.nodup_range' (s:=1) (n:=st.made.length)) (Mm hn.1 hn.2) (vs:=ms.map V.ref) (by rw[aej,da];exact ml)
 have hd:kT i c (upd H aM (.dK (putK (bJ ((adG 1 st.made.length).zip (ms.map V.ref))) (kr (n:Int)) (.ref x)))) .made aM ((adG 1 (st.made.set (n - 1) m).length).zip ((ms.set (n - 1) x).map V.ref)) :=
  ⟨X.made.1,by rw[ah,e,aep,List.map_set]⟩
 exact⟨s,k.1,k.2,hd,(rq s X.mot).set _ (hm.step s),X.aC.kp rfl s,X.aL.kp rfl s,sX (λ_ _=>rfl) s X.wait,X.dec.kp rfl s,rz s X.xm,X.firsts.kp rfl s,sY (λ_ _=>rfl) s X.first,X.kU.kp rfl s,uM (λ_ _=>rfl) s X.kept,X.rows.kp rfl s⟩
theorem ChX.Oo (X:ChX A i c H o st dx aM aP aA aD aF aE aR ms ds ws fs es){m:Mn}{x:Addr}(hm:mM A c H m x) :
  Step (Wr i IF) c c H (upd H aM (.dK (putK (bJ ((adG 1 st.made.length).zip (ms.map V.ref))) (kr ((st.made.length+1:Nat):Int)) (.ref x)))) /\
  ChX A i c (upd H aM (.dK (putK (bJ ((adG 1 st.made.length).zip (ms.map V.ref))) (kr ((st.made.length+1:Nat):Int)) (.ref x)))) o { st with made:=st.made++[m] } dx aM aP aA aD aF aE aR (ms++[x]) ds ws fs es:=by
 have s:Step (Wr i IF) c c H (upd H aM (.dK (putK (bJ ((adG 1 st.made.length).zip (ms.map V.ref))) (kr ((st.made.length+1:Nat):Int)) (.ref x)))):=Step.upd Wr.nn (Wr.yes X.made.1 rfl);have k:=tT rfl s X.co X.ob;have ml:=X.mot.len;have e:=sL (v:=.ref x) (n:=st.made.length+1) (ks:=adG 1 st.made.length) (vs:=ms.map V.ref) (by rw[aeA];omega) (by rw[aej,da];exact ml)
 have hd:kT i c (upd H aM (.dK (putK (bJ ((adG 1 st.made.length).zip (ms.map V.ref))) (kr ((st.made.length+1:Nat):Int)) (.ref x)))) .made aM ((adG 1 (st.made++[m]).length).zip ((ms++[x]).map V.ref)) :=
  ⟨X.made.1,by rw[ah,e,kq,ady,List.range'_concat,wa,Nat.one_mul,Nat.add_comm 1];rfl⟩
 exact⟨s,k.1,k.2,hd,(rq s X.mot).snoc (hm.step s),X.aC.kp rfl s,X.aL.kp rfl s,sX (λ_ _=>rfl) s X.wait,X.dec.kp rfl s,rz s X.xm,X.firsts.kp rfl s,sY (λ_ _=>rfl) s X.first,X.kU.kp rfl s,uM (λ_ _=>rfl) s X.kept,X.rows.kp rfl s⟩
def Dx (n:Nat)(e:Ed)(xs:List (Nat×List Ed)):List (Nat×List Ed):=xs.map λx=>if x.1=n then (x.1,x.2++[e]) else x
theorem ChX.RU (X:ChX A i c H o st dx aM aP aA aD aF aE aR ms ds ws fs es){n:Nat}{x:Nat×List Ed}(hx:at1 n st.kept=some x):∃(p:Addr) (ts:List Addr),jN (bJ ((st.kept.map (·.1)).zip es)) (kr (n:Int))=some (.ref p)/\LstAt i c H (.rn n) p (ts.map V.ref)/\ts.length=x.2.length:=by
 obtain⟨v,h1,p,ts,rfl,h2,h3⟩:=X.kept.val hx;rw[(nI hx).1]at h2;exact⟨p,ts,h1,h2,h3.len.symm⟩
theorem ChX.Oq (X:ChX A i c H o st dx aM aP aA aD aF aE aR ms ds ws fs es){n:Nat}{e:Ed}{t p:Addr}{ts:List Addr}(hv:jN (bJ ((st.kept.map (·.1)).zip es)) (kr (n:Int))=some (.ref p))(hl:LstAt i c H (.rn n) p (ts.map V.ref))(nd:(st.kept.map (·.1)).Nodup)(ht:TupAt c H t (jx e)) :
  Step (Wr i (Pr n)) c c H (upd H p (.lst (ts.map V.ref++[.ref t])))/\ChX A i c (upd H p (.lst (ts.map V.ref++[.ref t]))) o { st with kept:=Dx n e st.kept } dx aM aP aA aD aF aE aR ms ds ws fs es:=by
 have s:Step (Wr i (Pr n)) c c H (upd H p (.lst (ts.map V.ref++[.ref t]))):=Step.upd Wr.nn (Wr.yes hl.1 (decide_eq_true rfl));have k:=tT rfl s X.co X.ob;have ek:(Dx n e st.kept).map (·.1)=st.kept.map (·.1):=by
  unfold Dx;rw[List.map_map];refine aeD λx _=>?_
  show (if x.1=n then (x.1,x.2++[e]) else x).1=x.1
  split <;> rfl
 refine⟨s,k.1,k.2,X.made.kp rfl s,rq s X.mot,X.aC.kp rfl s,X.aL.kp rfl s,sX (λ_ _=>rfl) s X.wait,X.dec.kp rfl s,rz s X.xm,X.firsts.kp rfl s,sY (λ_ _=>rfl) s X.first,by show kT i c _ .kept aE (((Dx n e st.kept).map (·.1)).zip es);rw[ek];exact X.kU.kp rfl s,?_,X.rows.kp rfl s⟩
 refine cQ.WR (f:=λx=>(x.1,x.2++[e])) (v:=.ref p) ?_ ?_ X.kept nd hv
 ·rintro x e1 ⟨q,us,e2,z1,z2⟩;cases e2;have e3:us.map V.ref=ts.map V.ref:=by
   have:=z1.2;rw[hl.2]at this;injection this with this
   injection this with this
   exact this.symm
  refine⟨p,us++[t],rfl,⟨z1.1,?_⟩,(z2.imp λ_ _ y=>y.step s).snoc (ht.step s)⟩
  rw[ah,<-e3,wa];rfl
 ·rintro x u e1 ⟨q,us,rfl,z1,z2⟩;exact⟨q,us,rfl,z1.kp (decide_eq_false e1) s,z2.imp λ_ _ y=>y.step s⟩
theorem ChX.Mo (X:ChX A i c H o st dx aM aP aA aD aF aE aR ms ds ws fs es){n:Nat}{tx:List Str}{p:Addr}(hp:H p=none)(hn:n∉st.firsts.map (·.1)) :
  Step (Wr i WT) c (bg c p (some (i,.mL n))) H (upd (upd H p (.lst (tx.map V.str))) aF (.dK (putK (bJ ((st.firsts.map (·.1)).zip fs)) (kr (n:Int)) (.ref p)))) /\
  ChX A i (bg c p (some (i,.mL n))) (upd (upd H p (.lst (tx.map V.str))) aF (.dK (putK (bJ ((st.firsts.map (·.1)).zip fs)) (kr (n:Int)) (.ref p)))) o { st with firsts:=st.firsts++[(n,tx)] } dx aM aP aA aD aF aE aR ms ds ws (fs++[.ref p]) es:=by
 have np:∀ {a:Addr} {v:HO},H a=some v->a≠p:=λe=>a6 e hp
 have s:Step (Wr i WT) c (bg c p (some (i,.mL n))) H (upd (upd H p (.lst (tx.map V.str))) aF (.dK (putK (bJ ((st.firsts.map (·.1)).zip fs)) (kr (n:Int)) (.ref p)))) :=
  (Step.new Wr.nn hp).trans (Step.upd Wr.nn ⟨.firsts,by rw[ax (np X.firsts.2)];exact X.firsts.1,rfl⟩)
 have k:=tT rfl s X.co X.ob;have e:=sL (v:=.ref p) hn (vs:=fs) (by rw[da];exact X.first.len)
 have hd:kT i (bg c p (some (i,.mL n))) (upd (upd H p (.lst (tx.map V.str))) aF (.dK (putK (bJ ((st.firsts.map (·.1)).zip fs)) (kr (n:Int)) (.ref p)))) .firsts aF (((st.firsts++[(n,tx)]).map (·.1)).zip (fs++[.ref p])) :=
  ⟨by rw[ax (np X.firsts.2)];exact X.firsts.1,by rw[ah,e,wa];rfl⟩
 have hl:Cu i (bg c p (some (i,.mL n))) (upd (upd H p (.lst (tx.map V.str))) aF (.dK (putK (bJ ((st.firsts.map (·.1)).zip fs)) (kr (n:Int)) (.ref p)))) (n,tx) (.ref p) :=
  ⟨p,rfl,cz,(aw (np X.firsts.2).symm).trans ah⟩
 exact⟨s,k.1,k.2,X.made.kp rfl s,rq s X.mot,X.aC.kp rfl s,X.aL.kp rfl s,sX (λ_ _=>rfl) s X.wait,X.dec.kp rfl s,rz s X.xm,hd,(sY (λ_ _=>rfl) s X.first).snoc hl,X.kU.kp rfl s,uM (λ_ _=>rfl) s X.kept,X.rows.kp rfl s⟩
theorem ChX.Ot (X:ChX A i c H o st dx aM aP aA aD aF aE aR ms ds ws fs es){n:Nat}{p:Addr}(hp:H p=none)(hn:n∉st.kept.map (·.1)) :
  Step (Wr i WU) c (bg c p (some (i,.rn n))) H (upd (upd H p (.lst [])) aE (.dK (putK (bJ ((st.kept.map (·.1)).zip es)) (kr (n:Int)) (.ref p)))) /\
  ChX A i (bg c p (some (i,.rn n))) (upd (upd H p (.lst [])) aE (.dK (putK (bJ ((st.kept.map (·.1)).zip es)) (kr (n:Int)) (.ref p)))) o { st with kept:=st.kept++[(n,([]:List Ed))] } dx aM aP aA aD aF aE aR ms ds ws fs (es++[.ref p]):=by
 have np:∀ {a:Addr} {v:HO},H a=some v->a≠p:=λe=>a6 e hp
 have s:Step (Wr i WU) c (bg c p (some (i,.rn n))) H (upd (upd H p (.lst [])) aE (.dK (putK (bJ ((st.kept.map (·.1)).zip es)) (kr (n:Int)) (.ref p)))) :=
  (Step.new Wr.nn hp).trans (Step.upd Wr.nn ⟨.kept,by rw[ax (np X.kU.2)];exact X.kU.1,rfl⟩)
 have k:=tT rfl s X.co X.ob;have e:=sL (v:=.ref p) hn (vs:=es) (by rw[da];exact X.kept.len)
 have hd:kT i (bg c p (some (i,.rn n))) (upd (upd H p (.lst [])) aE (.dK (putK (bJ ((st.kept.map (·.1)).zip es)) (kr (n:Int)) (.ref p)))) .kept aE (((st.kept++[(n,([]:List Ed))]).map (·.1)).zip (es++[.ref p])) :=
  ⟨by rw[ax (np X.kU.2)];exact X.kU.1,by rw[ah,e,wa];rfl⟩
 have hl:ID i (bg c p (some (i,.rn n))) (upd (upd H p (.lst [])) aE (.dK (putK (bJ ((st.kept.map (·.1)).zip es)) (kr (n:Int)) (.ref p)))) (n,[]) (.ref p) :=
  ⟨p,[],rfl,⟨cz,(aw (np X.kU.2).symm).trans ah⟩,.nil⟩
 exact⟨s,k.1,k.2,X.made.kp rfl s,rq s X.mot,X.aC.kp rfl s,X.aL.kp rfl s,sX (λ_ _=>rfl) s X.wait,X.dec.kp rfl s,rz s X.xm,X.firsts.kp rfl s,sY (λ_ _=>rfl) s X.first,hd,(uM (λ_ _=>rfl) s X.kept).snoc hl,X.rows.kp rfl s⟩
def Ch.sS (st:Ch)(n:Nat)(u:Int):Ch:={ st with aC:=[],aL:=st.aL++[(n,u,st.aC)] }
theorem ChX.sS (X:ChX A i c H o st dx aM aP aA aD aF aE aR ms ds ws fs es){n:Nat}{u:Int}{t p:Addr}(ht:H t=none)(hp:H p=none)(ntp:p≠t)(hn:n∉st.aL.map (·.1)) :
  ∃c',Step (Wr i WS) c c' H (upd (upd (upd (upd H t (.tup [.int u,.ref aP])) aA (.dK (putK (bJ ((st.aL.map (·.1)).zip ws)) (kr (n:Int)) (.ref t)))) p (.lst [])) o (.ins A.ak dx (chF (.int st.iD) (.int st.bt) (.bl st.closed) (.ref aM) (.ref p) (.ref aA) (.ref aD) (.ref aF) (.ref aE) (.ref aR)))) /\
  ChX A i c' (upd (upd (upd (upd H t (.tup [.int u,.ref aP])) aA (.dK (putK (bJ ((st.aL.map (·.1)).zip ws)) (kr (n:Int)) (.ref t)))) p (.lst [])) o (.ins A.ak dx (chF (.int st.iD) (.int st.bt) (.bl st.closed) (.ref aM) (.ref p) (.ref aA) (.ref aD) (.ref aF) (.ref aE) (.ref aR)))) o (st.sS n u) dx aM p aA aD aF aE aR ms ds (ws++[.ref t]) fs es:=by
 have nt:∀ {a:Addr} {v:HO},H a=some v->a≠t:=λe=>a6 e ht
 have np:∀ {a:Addr} {v:HO},H a=some v->a≠p:=λe=>a6 e hp
 have oA:o≠aA:=rE X.co X.aL.1 (λz=>nomatch z)
 have oP:o≠aP:=rE X.co X.aC.1 (λz=>nomatch z)
 have AP:aA≠aP:=rE X.aL.1 X.aC.1 (λz=>nomatch z)
 have e:=sL (v:=.ref t) hn (vs:=ws) (by rw[da];exact X.wait.len)
 have hp2:(upd (upd H t (.tup [.int u,.ref aP])) aA (.dK (putK (bJ ((st.aL.map (·.1)).zip ws)) (kr (n:Int)) (.ref t)))) p=none:=by
  rw[aw (np X.aL.2).symm,aw ntp];exact hp
 refine⟨bg (bg (bg c t none) p (some (i,.aC))) aP (some (i,.mK n)),?_⟩;have s:Step (Wr i WS) c (bg (bg (bg c t none) p (some (i,.aC))) aP (some (i,.mK n))) H (upd (upd (upd (upd H t (.tup [.int u,.ref aP])) aA (.dK (putK (bJ ((st.aL.map (·.1)).zip ws)) (kr (n:Int)) (.ref t)))) p (.lst [])) o (.ins A.ak dx (chF (.int st.iD) (.int st.bt) (.bl st.closed) (.ref aM) (.ref p) (.ref aA) (.ref aD) (.ref aF) (.ref aE) (.ref aR)))):=by
  refine((((Step.new Wr.nn ht).trans (Step.upd Wr.nn ⟨.aL,?_,rfl⟩)).trans (Step.new Wr.nn hp2)).trans (Step.upd Wr.nn ⟨.ob,?_,rfl⟩)).trans (Step.role Wr.nn ⟨.aC,?_,rfl⟩)
  ·rw[ax (nt X.aL.2)];exact X.aL.1
  ·rw[ax (np X.ob),ax (nt X.ob)];exact X.co
  ·rw[ax (np X.aC.2),ax (nt X.aC.2)];exact X.aC.1
 have k1:bg (bg (bg c t none) p (some (i,.aC))) aP (some (i,.mK n)) o=some (i,.ob):=by
  rw[ax oP,ax (np X.ob),ax (nt X.ob)];exact X.co
 have hd:kT i (bg (bg (bg c t none) p (some (i,.aC))) aP (some (i,.mK n))) (upd (upd (upd (upd H t (.tup [.int u,.ref aP])) aA (.dK (putK (bJ ((st.aL.map (·.1)).zip ws)) (kr (n:Int)) (.ref t)))) p (.lst [])) o (.ins A.ak dx (chF (.int st.iD) (.int st.bt) (.bl st.closed) (.ref aM) (.ref p) (.ref aA) (.ref aD) (.ref aF) (.ref aE) (.ref aR)))) .aL aA (((st.aL++[(n,u,st.aC)]).map (·.1)).zip (ws++[.ref t])) :=
  ⟨by rw[ax AP,ax (np X.aL.2),ax (nt X.aL.2)];exact X.aL.1,by rw[aw oA.symm,aw (np X.aL.2),ah,e,wa];rfl⟩
 have hl:LstAt i (bg (bg (bg c t none) p (some (i,.aC))) aP (some (i,.mK n))) (upd (upd (upd (upd H t (.tup [.int u,.ref aP])) aA (.dK (putK (bJ ((st.aL.map (·.1)).zip ws)) (kr (n:Int)) (.ref t)))) p (.lst [])) o (.ins A.ak dx (chF (.int st.iD) (.int st.bt) (.bl st.closed) (.ref aM) (.ref p) (.ref aA) (.ref aD) (.ref aF) (.ref aE) (.ref aR)))) (.mK n) aP (st.aC.map nV) :=
  ⟨cz,by rw[aw oP.symm,aw (np X.aC.2),aw AP.symm,aw (nt X.aC.2)];exact X.aC.2⟩
 have hn':LstAt i (bg (bg (bg c t none) p (some (i,.aC))) aP (some (i,.mK n))) (upd (upd (upd (upd H t (.tup [.int u,.ref aP])) aA (.dK (putK (bJ ((st.aL.map (·.1)).zip ws)) (kr (n:Int)) (.ref t)))) p (.lst [])) o (.ins A.ak dx (chF (.int st.iD) (.int st.bt) (.bl st.closed) (.ref aM) (.ref p) (.ref aA) (.ref aD) (.ref aF) (.ref aE) (.ref aR)))) .aC p [] :=
  ⟨by rw[ax (np X.aC.2).symm,cz],by rw[aw (np X.ob).symm,ah]⟩
 have htt:TupAt (bg (bg (bg c t none) p (some (i,.aC))) aP (some (i,.mK n))) (upd (upd (upd (upd H t (.tup [.int u,.ref aP])) aA (.dK (putK (bJ ((st.aL.map (·.1)).zip ws)) (kr (n:Int)) (.ref t)))) p (.lst [])) o (.ins A.ak dx (chF (.int st.iD) (.int st.bt) (.bl st.closed) (.ref aM) (.ref p) (.ref aA) (.ref aD) (.ref aF) (.ref aE) (.ref aR)))) t [.int u,.ref aP] :=
  ⟨by rw[ax (nt X.aC.2).symm,ax ntp.symm,cz],.inl (by rw[aw (nt X.ob).symm,aw ntp.symm,aw (nt X.aL.2).symm,ah])⟩
 exact⟨s,k1,ah,X.made.kp rfl s,rq s X.mot,hn',hd,(sX (λ_ _=>rfl) s X.wait).snoc ⟨t,aP,rfl,htt,hl⟩,X.dec.kp rfl s,rz s X.xm,X.firsts.kp rfl s,sY (λ_ _=>rfl) s X.first,X.kU.kp rfl s,uM (λ_ _=>rfl) s X.kept,X.rows.kp rfl s⟩
def Ch.uP (st:Ch)(n:Nat)(pl:List Nat):Ch:={ st with aC:=pl,aL:=st.aL.filter λx=>decide (x.1≠n) }
theorem ChX.waitOf (X:ChX A i c H o st dx aM aP aA aD aF aE aR ms ds ws fs es){n:Nat}{x:Nat×Int×List Nat}(hx:at1 n st.aL=some x):∃t p,jN (bJ ((st.aL.map (·.1)).zip ws)) (kr (n:Int))=some (.ref t)/\TupAt c H t [.int x.2.1,.ref p]/\LstAt i c H (.mK n) p (x.2.2.map nV):=by
 obtain⟨v,h1,t,p,rfl,h2,h3⟩:=X.wait.val hx;rw[(nI hx).1]at h3;exact⟨t,p,h1,h2,h3⟩
theorem ChX.uP (X:ChX A i c H o st dx aM aP aA aD aF aE aR ms ds ws fs es){n:Nat}{p:Addr}{pl:List Nat}(hl:LstAt i c H (.mK n) p (pl.map nV)) :
  ∃c' ws',Step (Wr i (Pt n)) c c' H (upd (upd H aA (.dK (lK (bJ ((st.aL.map (·.1)).zip ws)) (kr (n:Int))))) o (.ins A.ak dx (chF (.int st.iD) (.int st.bt) (.bl st.closed) (.ref aM) (.ref p) (.ref aA) (.ref aD) (.ref aF) (.ref aE) (.ref aR)))) /\
  ChX A i c' (upd (upd H aA (.dK (lK (bJ ((st.aL.map (·.1)).zip ws)) (kr (n:Int))))) o (.ins A.ak dx (chF (.int st.iD) (.int st.bt) (.bl st.closed) (.ref aM) (.ref p) (.ref aA) (.ref aD) (.ref aF) (.ref aE) (.ref aR)))) o (st.uP n pl) dx aM p aA aD aF aE aR ms ds ws' fs es:=by
 have oA:o≠aA:=rE X.co X.aL.1 (λz=>nomatch z)
 have op:o≠p:=rE X.co hl.1 (λz=>nomatch z)
 have Ap:aA≠p:=rE X.aL.1 hl.1 (λz=>nomatch z)
 obtain⟨ws',e1,e2⟩:=X.wait.drop (n:=n);refine⟨bg c p (some (i,.aC)),ws',?_⟩;have s:Step (Wr i (Pt n)) c (bg c p (some (i,.aC))) H (upd (upd H aA (.dK (lK (bJ ((st.aL.map (·.1)).zip ws)) (kr (n:Int))))) o (.ins A.ak dx (chF (.int st.iD) (.int st.bt) (.bl st.closed) (.ref aM) (.ref p) (.ref aA) (.ref aD) (.ref aF) (.ref aE) (.ref aR)))) :=
  ((Step.upd Wr.nn ⟨.aL,X.aL.1,rfl⟩).trans (Step.upd Wr.nn ⟨.ob,X.co,rfl⟩)).trans (Step.role Wr.nn ⟨.mK n,hl.1,decide_eq_true rfl⟩)
 have k1:bg c p (some (i,.aC)) o=some (i,.ob):=by rw[ax op];exact X.co
 have hd:kT i (bg c p (some (i,.aC))) (upd (upd H aA (.dK (lK (bJ ((st.aL.map (·.1)).zip ws)) (kr (n:Int))))) o (.ins A.ak dx (chF (.int st.iD) (.int st.bt) (.bl st.closed) (.ref aM) (.ref p) (.ref aA) (.ref aD) (.ref aF) (.ref aE) (.ref aR)))) .aL aA (((st.aL.filter λx=>decide (x.1≠n)).map (·.1)).zip ws') :=
  ⟨by rw[ax Ap];exact X.aL.1,by rw[aw oA.symm,ah,e1]⟩
 have hpl:LstAt i (bg c p (some (i,.aC))) (upd (upd H aA (.dK (lK (bJ ((st.aL.map (·.1)).zip ws)) (kr (n:Int))))) o (.ins A.ak dx (chF (.int st.iD) (.int st.bt) (.bl st.closed) (.ref aM) (.ref p) (.ref aA) (.ref aD) (.ref aF) (.ref aE) (.ref aR)))) .aC p (pl.map nV) :=
  ⟨cz,by rw[aw op.symm,aw Ap.symm];exact hl.2⟩
 exact⟨s,k1,ah,X.made.kp rfl s,rq s X.mot,hpl,hd,sX (λx hx=>decide_eq_false (of_decide_eq_true (List.mem_filter.mp hx).2)) s e2,X.dec.kp rfl s,rz s X.xm,X.firsts.kp rfl s,sY (λ_ _=>rfl) s X.first,X.kU.kp rfl s,uM (λ_ _=>rfl) s X.kept,X.rows.kp rfl s⟩
end
def vR (i:Nat)(c:Col)(H:Hp)(t:Addr)(xs:List V):Prop:=¬iO i (c t)/\H t=some (.tup xs)
def JD (i:Nat)(c:Col)(H:Hp)(t:Addr)(xs:List V):Prop:=¬iO i (c t)/\H t=some (.lst xs)
def tj (i:Nat)(c:Col)(H:Hp):R.d7->Addr->Prop
 | .mat cs,t=>∃L,vR i c H t [.str (ar "matter"),.ref L]/\JD i c H L ((cs.map (ka R.bl1)).map V.str)
 | .ed m k j ws,t=>∃e,vR i c H t [.str (R.kEd m),.ref e]/\TupAt c H e (R.edR k j (ka R.bl1 ws))
 | .pt ws,t=>vR i c H t [.str (ar "point"),.str (ka R.bl1 ws)]
 | .nums kd ns,t=>vR i c H t (.str kd::ns.map V.int)
section
variable{i:Nat}{c c':Col}{H H':Hp}{t:Addr}{xs:List V}
theorem vR.step (s:Step (iO i) c c' H H')(h:vR i c H t xs):vR i c' H' t xs:=⟨by rw[s.col t _ h.2 h.1];exact h.1,s.keep _ _ h.2 h.1⟩
theorem JD.step (s:Step (iO i) c c' H H')(h:JD i c H t xs):JD i c' H' t xs:=⟨by rw[s.col t _ h.2 h.1];exact h.1,s.keep _ _ h.2 h.1⟩
theorem tj.step (s:Step (iO i) c c' H H'):∀ {d:R.d7},tj i c H d t->tj i c' H' d t
 | .mat _,⟨L,a,b⟩=>⟨L,a.step s,b.step s⟩
 | .ed _ _ _ _,⟨e,a,b⟩=>⟨e,a.step s,b.step s⟩
 | .pt _,h=>vR.step s h
 | .nums _ _,h=>vR.step s h
theorem tj.at {K:cb}:∀ {d:R.d7},tj i c H d t->R.rj K H d t
 | .mat _,⟨L,a,b⟩=>⟨L,SqT.of a.2,SqL.of b.2⟩
 | .ed _ _ _ _,⟨e,a,b⟩=>⟨e,SqT.of a.2,b.sq⟩
 | .pt _,h=>SqT.of h.2
 | .nums _ _,h=>SqT.of h.2
end
theorem Mp {k:Nat}{j:Int}{x:Str}(h:k=0\/k=1\/k=2):R.edR k j x=jx ⟨k,j,x⟩:=by
 rcases h with rfl | rfl | rfl <;> rfl
theorem Ou {t1 t2:TS}{D:Ends}{σ:St}{H:Hp}(J:St->Hp->Prop)(h2:∀σ' H',J σ' H'->t2 D σ' H')(h1:∀N:St->Hp->Prop,(∀σ' H',J σ' H'->N σ' H')->t1 { D with nx:=N } σ H):QA t1 t2 D σ H:=h1 (t2 D) h2
def Ch.opened (st:Ch):Ch:={ st with closed:=if st.aC=[] then false else st.closed }
def Ch.Dy (st:Ch)(row:Str):Ch:={ st.opened with rows:=st.rows++[row] }
def WV (A:Adr)(i:Nat):Sp:=λvs H Q _=>∃(o t:Addr) (c:Col) (st:Ch) (d:R.d7),vs=[.ref o,.ref t]/\fP A i c H o st/\tj i c H d t/\R.DOk d/\st.rows.length<=1000 /\
 ∀c' H',Step (iO i) c c' H H'->fP A i c' H' o (st.Dy (R.jC d))->Q .non H'
def RV (A:Adr)(i:Nat):Sp:=λvs H Q _=>∃(o:Addr) (u:Int) (c:Col) (st:Ch) (n:Nat) (r:List Nat),vs=[.ref o,.int u]/\fP A i c H o st/\st.aC=n::r/\n∉st.aL.map (·.1)/\st.aL.length<=1000 /\
 ∀c' H',Step (iO i) c c' H H'->fP A i c' H' o (st.sS n u)->Q .non H'
def Ch.Ov (st:Ch)(n:Nat)(tx:List Str)(e:Ed):Ch:={ st with made:=st.made.set (n - 1) (.mat (dn tx e)),kept:=Dx n e st.kept }
def RW (A:Adr)(i:Nat):Sp:=λvs H Q _=>∃(o t:Addr) (c:Col) (st:Ch) (n:Nat) (r:List Nat) (tx:List Str) (e:Ed) (x:Nat×List Ed),vs=[.ref o,.ref t]/\fP A i c H o st/\st.aC=n::r/\hG st n/\st.mo n=.mat tx/\tx.length<=1000/\st.made.length<=1000 /\
 TupAt c H t (jx e)/\uJ e/\il tx.length e=true/\at1 n st.kept=some x/\x.2.length<=1000/\(st.kept.map (·.1)).Nodup /\
 ∀c' H',Step (iO i) c c' H H'->fP A i c' H' o (st.Ov n tx e)->Q .non H'
def Ch.Ow (st:Ch)(n:Nat)(e:Ed)(ws:List Str):Ch:={ st with made:=st.made.set (n - 1) (.chg ⟨e.k,e.at_,ka R.bl1 ws⟩) }
def RX (A:Adr)(i:Nat):Sp:=λvs H Q _=>∃(o t:Addr) (c:Col) (st:Ch) (n:Nat) (r:List Nat) (e f:Ed),vs=[.ref o,.ref t]/\fP A i c H o st/\st.aC=r++[n]/\hG st n/\st.mo n=.chg e/\e.k≠1/\uJ e/\(R.cw e.th).length<=1000/\st.made.length<=1000 /\
 TupAt c H t (jx f)/\uJ f/\il (R.cw e.th).length f=true/\((dn (R.cw e.th) f).map (·.length)).sum+(dn (R.cw e.th) f).length<=16777216 /\
 ∀c' H',Step (iO i) c c' H H'->fP A i c' H' o (st.Ow n e (dn (R.cw e.th) f))->Q .non H'
theorem ChX.Ox {A:Adr}{i:Nat}{c:Col}{H:Hp}{o dx aM aP aA aD aF aE aR:Addr}{st:Ch}{ms ds:List Addr}{ws fs es:List V}(X:ChX A i c H o st dx aM aP aA aD aF aE aR ms ds ws fs es){n:Nat}(hn:hG st n) :
  ∃x,jN (bJ ((adG 1 st.made.length).zip (ms.map V.ref))) (kr (n:Int))=some (.ref x)/\mM A c H (st.mo n) x:=by
 have ml:=X.mot.len;have hlt:n - 1 < st.made.length:=by have:=hn.1;have:=hn.2;omega
 obtain⟨x,e1,e2⟩:=X.mot.get (adv hlt);have hv:=zD ms 1 (n - 1) e1;rw[<-ml,show 1+(n - 1)=n by have:=hn.1;omega]at hv
 have e3:st.mo n=st.made[n - 1]:=by unfold Ch.mo;rw[adp,adv hlt];rfl
 exact⟨x,hv,by rw[e3];exact e2⟩
section
variable{P:ma}{w:World}{K:cb}{mg:Str->Option Value}{base:Heap}{A:Adr}
theorem qh (T:Txt w.params K mg A){i:Nat}:a8 P w K mg base CX0 5 A.bV A.fK ["self","deed"] (WV A i):=by
 have kW:a8 P w K mg base CX0 4 A.mh A.ic ["deed"] (R.Ct K):=R.pY T;refine T.dE.ok oK (λvs H Q E h=>?_) (λcdv A' outer s H vs Q E hr h=>?_)
 ·obtain⟨o,t,c,st,d,rfl,_⟩:=h;rfl
 ·obtain⟨o,t,c,st,d,rfl,hc,hd,hk,hl,q⟩:=h;refine⟨_,(ao (cI (vm (qN (bp (pv 0) rfl) (λ_=>rfl)))
 (aq (fw (pv 0) yA rfl))
 aT)
 (aq (dh (mi adt adM adN gi (bp (pv 0) rfl) (aa (bY kW hr rfl T.nF T.kP.kp T.nD .nil bC (aa (pv 1) af)) af))))),?_⟩
  try dsimp only[cD]
  have lim:gn=16777216:=by decide
  refine Ou (λσ' H'=>σ'=[some (.ref o),some (.ref t)]/\Step (iO i) c c H H'/\fP A i c H' o st.opened) ?r (λN nN=>?f)
  case f =>
   refine aN λGq gq=>?_
   obtain⟨dx,aM,aP,aA,aD,aF,aE,aR,ms,ds,ws,fs,es,X⟩:=hc.ex;refine gq ?_;refine fh rfl X.ob T.ai T.jq0 fQ ?_;refine⟨_,.inl ⟨_,.inl (.inl X.aC.2),rfl⟩,?_⟩;cases e:st.aC with
   |nil =>
    refine nO ⟨_,rfl,o,A.ak,dx,_,rfl,X.ob,T.ai,T.jq4,(by show 10 < 1000;decide),?_⟩
    rw[zC];obtain⟨s1,X1⟩:=X.attr st.bt false;refine nN _ _ ⟨rfl,s1.rp,?_⟩;have e1:st.opened={ st with bt:=st.bt,closed:=false }:=by unfold Ch.opened;rw[e,if_pos rfl]
    rw[e1];exact X1.at
   |cons x r =>
    refine kK (nN _ _ ⟨rfl,Step.refl bR,?_⟩);have e1:st.opened=st:=by unfold Ch.opened;rw[e,if_neg (adX _ _)];cases st;cases e;rfl
    rw[e1];exact hc
  case r =>
   rintro σ' H1 ⟨rfl,s1,hc1⟩;refine aN λGq gq=>?_
   obtain⟨dx,aM,aP,aA,aD,aF,aE,aR,ms,ds,ws,fs,es,X⟩:=hc1.ex;refine gq ?_;refine fh rfl X.ob T.ai T.jqc rB ?_;refine⟨.inl ⟨rfl,_,SqL.of X.rows.2⟩,_,rfl,t,d,rfl,(hd.step s1).at,hk,λH2 s2=>?_⟩
   have X2:=X.same s2;obtain⟨s3,X3⟩:=X2.row (R.jC d);refine⟨aR,_,_,rfl,rfl,X2.rows.2,by rw[da];show st.rows.length < _;omega,?_⟩
   exact q c _ ((s1.trans (Step.same bR s2)).trans s3.rp) X3.at
theorem uQ (T:Txt w.params K mg A){i:Nat}:a8 P w K mg base CX0 1 A.cq A.gS ["self","until"] (RV A i):=by
 refine T.d9.ok qR (λvs H Q E h=>?_) (λcdv A' outer s H vs Q E hr h=>?_)
 ·obtain⟨o,u,c,st,n,r,rfl,_⟩:=h;rfl
 ·obtain⟨o,u,c,st,n,r,rfl,hc,hp,hn,hl,q⟩:=h;obtain⟨dx,aM,aP,aA,aD,aF,aE,aR,ms,ds,ws,fs,es,X⟩:=hc.ex;have hu1:=hr.u1;have lim:gn=16777216:=by decide
  refine⟨_,(ao (sy hu1 (bp (pv 0) rfl) (bN je (bp (pv 0) rfl) aj (λ_ _=>rfl)) (aG (aa (pv 1) (aa (bp (pv 0) rfl) af))) rfl)
 (aq (fw (pv 0) (bO af) rfl))),?_⟩
  try dsimp only[cD]
  refine⟨_,rfl,fh rfl X.ob T.ai T.jq0 fQ ⟨(sl 2),λt ht=>?_⟩⟩
  have s1:=aK (o:=.tup [V.int u,.ref aP]) ht;refine fh rfl (s1 _ _ X.ob) T.ai T.jq3 j1 ?_;have h0:atI (st.aC.map nV) 0=some (nV n):=by rw[hp];exact pM (j:=0) rfl
  refine fh rfl (s1 _ _ X.ob) T.ai T.jq0 fQ ⟨aP,_,_,_,rfl,rfl,SqL.of (s1 _ _ X.aC.2),h0,?_⟩;refine⟨aA,_,rfl,xc.k (k:=kr (n:Int)) (s1 _ _ X.aL.2) ?_,?_⟩
  ·unfold bJ;rw[da,aeM,da];omega
  have oA:o≠aA:=rE X.co X.aL.1 (λz=>nomatch z)
  refine⟨(sl 0),λp hp0=>?_⟩
  have npA:p≠aA:=λz=>by rw[z,ah]at hp0;cases hp0
  have npt:p≠t:=λz=>by rw[aw npA,z,ah]at hp0;cases hp0
  have hp1:H p=none:=by rw[aw npA,aw npt]at hp0;exact hp0
  have hob:(upd (upd (upd H t (.tup [V.int u,.ref aP])) aA (.dK (putK (bJ ((st.aL.map (·.1)).zip ws)) (kr (n:Int)) (.ref t)))) p (.lst [])) o=some (.ins A.ak dx (chF (.int st.iD) (.int st.bt) (.bl st.closed) (.ref aM) (.ref aP) (.ref aA) (.ref aD) (.ref aF) (.ref aE) (.ref aR))):=by
   rw[aw (a6 X.ob hp1),aw oA];exact s1 _ _ X.ob
  refine⟨_,rfl,o,A.ak,dx,_,rfl,hob,T.ai,T.jq0,(by show 10 < 1000;decide),?_⟩
  rw[Dt];refine aN λGq gq=>?_
  obtain⟨c',s2,X2⟩:=X.sS (u:=u) ht hp1 npt hn;refine gq ?_;exact q c' _ s2.rp X2.at
theorem vS (T:Txt w.params K mg A){i:Nat}:a8 P w K mg base CX0 4 A.bP A.eZ ["self","edit"] (RW A i):=by
 refine T.df.ok iB (λvs H Q E h=>?_) (λcdv A' outer s H vs Q E hr h=>?_)
 ·obtain⟨o,t,c,st,n,r,tx,e,x,rfl,_⟩:=h;rfl
 ·obtain⟨o,t,c,st,n,r,tx,e,x,rfl,hc,hp,hn,hm,htx,hml,ht,he,hf,hx,hxl,hnd,q⟩:=h;obtain⟨dx,aM,aP,aA,aD,aF,aE,aR,ms,ds,ws,fs,es,X⟩:=hc.ex;have hu1:=hr.u1;have lim:gn=16777216:=by decide
  refine⟨_,(ao (br (i:=2) iB.nd rfl (wt rfl) (bN je (bp (pv 0) rfl) aj (λ_ _=>rfl)))
 (ao (sy hu1 (bp (pv 0) rfl) (pv 2) (hU T.uG (zB T) (hr.mono (by decide)) rfl T.uE T.N6 .nil bC (aa (bY (Iq T) hr rfl T.Gn T.B8.kp T.Gm .nil Lf (aa (bp (kF hu1 (bp (pv 0) rfl) (pv 2) (λ_ _=>rfl)) rfl) (aa (pv 1) af))) af)) rfl)
 (aq (dh (mi adt adM adN gi (kF hu1 (bp (pv 0) rfl) (pv 2) (λ_ _=>rfl)) (aa (pv 1) af)))))),?_⟩
  try dsimp only[cD]
  refine aN λGq gq=>?_
  have h0:atI (st.aC.map nV) 0=some (nV n):=by rw[hp];exact pM (j:=0) rfl
  obtain⟨m,hv,hmo⟩:=X.Ox hn;rw[hm]at hmo;obtain⟨_,dm,v,RY,L,rfl,hL⟩:=hmo;refine gq ?_;refine fh rfl X.ob T.ai T.jq0 fQ ⟨aP,_,_,_,rfl,rfl,SqL.of X.aC.2,h0,?_⟩;refine⟨_,rfl,o,A.ak,dx,_,.ref aM,rfl,X.ob,T.ai,T.jq2,iE,_,rfl,aM,_,rfl,.inl ⟨_,kr (n:Int),.inl X.made.2,rfl,hv.symm⟩,?_⟩;refine⟨m,A.C 0,dm,_,.ref L,rfl,RY,T.cl 0 (by decide),T.na0,rfl,_,rfl,?_⟩
  refine⟨L,t,tx,e,rfl,SqL.of hL.2,htx,ht.sq,he,λ_ p hp0=>?_,λz=>by rw[hf]at z;cases z⟩
  refineλy dy hy hdy ndy=>?_
  refine⟨y,dy,p,(dn tx e).map V.str,rfl,ah,?_,λp2 hp2=>⟨rfl,?_⟩⟩
  ·exact(((aK hdy).new ((aw (adz ndy)).trans hy)).seq (SqL.of ah))
  have hy0:H y=none:=by
   by_cases z:y=p
   ·rw[z,ah]at hy;cases hy
   ·rw[aw z]at hy;exact hy
  have abm:H dy=none:=by
   by_cases z:dy=p
   ·rw[z,ah]at hdy;cases hdy
   ·rw[aw z]at hdy;exact hdy
  have sm0:bT H (upd (upd (upd H p (.lst ((dn tx e).map V.str))) dy (.own y)) y (.ins (A.C 0) dy [])):=((aK hp0).own abm).own hy0;have WW:H p2=none:=by
   cases z:H p2 with
   |none=>rfl
   |some v=>rw[sm0 _ _ z]at hp2;cases hp2
  have sm:bT H (upd (upd (upd (upd (upd H p (.lst ((dn tx e).map V.str))) dy (.own y)) y (.ins (A.C 0) dy [])) p2 (.lst ((dn tx e).map V.str))) y (.ins (A.C 0) dy (oZ 0 (.ref p2)))):=(sm0.own WW).own hy0;have nyp:y≠p2:=λz=>by rw[<-z,ah]at hp2;cases hp2
  have X1:=X.cl sm;have hmn:mM A (gf c H) (upd (upd (upd (upd (upd H p (.lst ((dn tx e).map V.str))) dy (.own y)) y (.ins (A.C 0) dy [])) p2 (.lst ((dn tx e).map V.str))) y (.ins (A.C 0) dy (oZ 0 (.ref p2)))) (.mat (dn tx e)) y :=
   ⟨g9 hy0,dy,.ref p2,ah,p2,rfl,g9 WW,(aw (adz nyp)).trans ah⟩
  have st1:Step (iO i) c (gf c H) H _:=Step.cl bR sm;have ht1:=ht.step st1;generalize upd (upd (upd (upd (upd H p (.lst ((dn tx e).map V.str))) dy (.own y)) y (.ins (A.C 0) dy [])) p2 (.lst ((dn tx e).map V.str))) y (.ins (A.C 0) dy (oZ 0 (.ref p2)))=H1 at X1 hmn st1 ht1 ⊢;generalize gf c H=c1 at X1 hmn st1 ht1;refine fh rfl X1.ob T.ai T.jq2 iE ⟨_,rfl,aM,_,rfl,xc.k (k:=kr (n:Int)) X1.made.2 ?_,?_⟩
  ·unfold bJ;rw[da,aeM,aej];omega
  obtain⟨s2,X2⟩:=X1.IG hn hmn;have ht2:=ht1.step s2.rp;generalize upd H1 aM (.dK (putK (bJ ((adG 1 st.made.length).zip (ms.map V.ref))) (kr (n:Int)) (.ref y)))=H2 at s2 X2 ht2 ⊢;refine aN λGq gq=>?_
  obtain⟨pk,ts,hv2,hl2,tl⟩:=X2.RU hx;refine gq ?_;refine⟨_,rfl,o,A.ak,dx,_,.ref aE,rfl,X2.ob,T.ai,T.jq6,rA,_,rfl,aE,_,rfl,.inl ⟨_,kr (n:Int),.inl X2.kU.2,rfl,hv2.symm⟩,?_⟩;refine⟨.inl ⟨rfl,_,SqL.of hl2.2⟩,_,rfl,pk,_,_,rfl,rfl,hl2.2,by rw[da];omega,?_⟩
  obtain⟨s3,X3⟩:=X2.Oq hv2 hl2 hnd ht2;exact q c1 _ ((st1.trans s2.rp).trans s3.rp) X3.at
theorem vT (T:Txt w.params K mg A){i:Nat}:a8 P w K mg base CX0 4 A.bQ A.fb ["self","edit"] (RX A i):=by
 have mJ:a8 P w K mg base CX0 1 A.words_of A.i5 ["clause"] R.sH:=R.kS T;have rm:a8 P w K mg base CX0 1 A.oV A.ji ["words"] (R.tR K):=R.uL T;refine T.dg.ok dU (λvs H Q E h=>?_) (λcdv A' outer s H vs Q E hr h=>?_)
 ·obtain⟨o,t,c,st,n,r,e,f,rfl,_⟩:=h;rfl
 ·obtain⟨o,t,c,st,n,r,e,f,rfl,hc,hp,hn,hm,hk1,heo,hwl,hml,ht,hfo,hf,hsz,q⟩:=h;obtain⟨dx,aM,aP,aA,aD,aF,aE,aR,ms,ds,ws,fs,es,X⟩:=hc.ex;have hu1:=hr.u1;have lim:gn=16777216:=by decide
  refine⟨_,(ao (br (i:=2) dU.nd rfl (wt rfl) (bN je (bp (pv 0) rfl) (yE tE aj) (λ_ _=>rfl)))
 (ao (br (i:=3) dU.nd rfl (wt rfl) (bp (kF hu1 (bp (pv 0) rfl) (pv 2) (λ_ _=>rfl)) rfl))
 (ao (br (i:=4) dU.nd rfl (wt rfl) (bY (Iq T) hr rfl T.Gn T.B8.kp T.Gm .nil Lf (aa (bY mJ (hr.mono (by decide)) rfl T.jZ T.iM.kp T.jY .nil bC (aa (bN bG (pv 3) aj (λ_ _=>rfl)) af)) (aa (pv 1) af))))
 (aq (sy hu1 (bp (pv 0) rfl) (pv 2) (hU T.uH (mI T) (hr.mono (by decide)) rfl T.uF T.N7 .nil bC (aa (aG (aa (bN bG (pv 3) aj (λ_ _=>rfl)) (aa (bN bG (pv 3) aj (λ_ _=>rfl)) (aa (bY rm (hr.mono (by decide)) rfl T.qX T.nB.kp T.qW .nil bC (aa (pv 4) af)) af)))) af)) rfl))))),?_⟩
  try dsimp only[cD]
  refine aN λGq gq=>?_
  have h0:atI (st.aC.map nV) (-1)=some (nV n):=by rw[hp,wa];exact yI _ _
  obtain⟨m,hv,hmo⟩:=X.Ox hn;rw[hm]at hmo;obtain⟨_,dm,v,RY,te,rfl,hte⟩:=hmo;refine gq ?_;refine⟨_,rfl,o,A.ak,dx,_,.ref aP,rfl,X.ob,T.ai,T.jq0,fQ,_,rfl,aP,_,_,_,rfl,rfl,SqL.of X.aC.2,h0,?_⟩;refine⟨_,rfl,o,A.ak,dx,_,.ref aM,rfl,X.ob,T.ai,T.jq2,iE,_,rfl,aM,_,rfl,.inl ⟨_,kr (n:Int),.inl X.made.2,rfl,hv.symm⟩,?_⟩;refine⟨m,A.C 1,dm,_,.ref te,rfl,RY,T.cl 1 (by decide),T.na1,rfl,?_⟩
  have h2:=Cj (e:=e) hk1;refine ixv rfl hte.sq h2 ⟨e.th,rfl,?_,λp1 hp1=>?_⟩
  ·have:=heo.th.len;omega
  have s1:=aK (o:=.lst ((R.cw e.th).map V.str)) hp1;refine⟨_,rfl,p1,t,R.cw e.th,f,rfl,SqL.of ah,hwl,eQ s1 ht.sq,hfo,λ_ p2 hp2=>?_,λz=>by rw[hf]at z;cases z⟩
  have s2:=s1.new (o:=.lst ((dn (R.cw e.th) f).map V.str)) hp2;refine ixv rfl (eQ s2 hte.sq) (Cg e) (ixv rfl (eQ s2 hte.sq) (Ci e) ⟨_,rfl,p2,_,rfl,SqL.of ah,hsz,(sl 3),λtn htn=>?_⟩)
  have s3:=s2.new (o:=.tup [V.str (kn e.k),.int e.at_,.str (ka R.bl1 (dn (R.cw e.th) f))]) htn;refineλy dy hy hdy ndy=>?_
  refine⟨y,dy,.ref tn,rfl,ah,rfl,?_⟩;have hno:∀ {a:Addr},(upd (upd (upd H p1 (.lst ((R.cw e.th).map V.str))) p2 (.lst ((dn (R.cw e.th) f).map V.str))) tn (.tup [V.str (kn e.k),.int e.at_,.str (ka R.bl1 (dn (R.cw e.th) f))])) a=none->H a=none:=by
   intro a ha;cases z:H a with
   |none=>rfl
   |some v=>rw[s3 _ _ z]at ha;cases ha
  have nyt:y≠tn:=λz=>by rw[z,ah]at hy;cases hy
  have ndt:dy≠tn:=λz=>by rw[z,ah]at hdy;cases hdy
  have abn:H tn=none:=by
   cases z:H tn with
   |none=>rfl
   |some v=>rw[s2 _ _ z]at htn;cases htn
  have sm:=((s3.own (o:=.own y) (hno hdy)).own (o:=.ins (A.C 1) dy []) (hno hy)).own (o:=.ins (A.C 1) dy (oZ 1 (.ref tn))) (hno hy);have X1:=X.cl sm;have er:jx ⟨e.k,e.at_,ka R.bl1 (dn (R.cw e.th) f)⟩=[V.str (kn e.k),.int e.at_,.str (ka R.bl1 (dn (R.cw e.th) f))]:=by
   obtain⟨k,a,th⟩:=e;have h3:=heo.k3;dsimp only at h3 hk1 ⊢;rcases h3 with rfl | rfl | rfl
   ·rfl
   ·exact absurd rfl hk1
   ·rfl
  have hmn:=(⟨g9 (hno hy),dy,.ref tn,ah,tn,rfl,g9 abn,.inl (by rw[aw (adz nyt),aw (adz nyt),aw (adz ndt),ah,er])⟩:mM A (gf c H) (upd (upd (upd (upd (upd (upd H p1 (.lst ((R.cw e.th).map V.str))) p2 (.lst ((dn (R.cw e.th) f).map V.str))) tn (.tup [V.str (kn e.k),.int e.at_,.str (ka R.bl1 (dn (R.cw e.th) f))])) dy (.own y)) y (.ins (A.C 1) dy [])) y (.ins (A.C 1) dy (oZ 1 (.ref tn)))) (.chg ⟨e.k,e.at_,ka R.bl1 (dn (R.cw e.th) f)⟩) y)
  have st1:Step (iO i) c (gf c H) H _:=Step.cl bR sm;generalize upd (upd (upd (upd (upd (upd H p1 (.lst ((R.cw e.th).map V.str))) p2 (.lst ((dn (R.cw e.th) f).map V.str))) tn (.tup [V.str (kn e.k),.int e.at_,.str (ka R.bl1 (dn (R.cw e.th) f))])) dy (.own y)) y (.ins (A.C 1) dy [])) y (.ins (A.C 1) dy (oZ 1 (.ref tn)))=H1 at X1 hmn st1 ⊢;generalize gf c H=c1 at X1 hmn st1;refine fh rfl X1.ob T.ai T.jq2 iE ⟨_,rfl,aM,_,rfl,xc.k (k:=kr (n:Int)) X1.made.2 ?_,?_⟩
  ·unfold bJ;rw[da,aeM,aej];omega
  obtain⟨s4,X2⟩:=X1.IG hn hmn;exact q c1 _ (st1.trans s4.rp) X2.at
end
def zK (below:List Mn):Mn->Prop
 | .mat _=>below=[]
 | .chg e=>∃tx,below=[.mat tx]/\il tx.length e=true
 | .mnd f=>∃tx e,below=[.mat tx,.chg e]/\e.k≠1/\il (R.cw e.th).length f=true
 | .off _=>(∃tx r,below=.mat tx::r)/\∀b∈below,b.k < 3
 | .cls=>(∃tx r,below=.mat tx::r)/\∀b∈below,b.k < 4
 | .lay=>(∃tx r,below=.mat tx::r)/\∀b∈below,b.k < 5
 | .rst=>∀b∈below,b.k < 6
 | .pnt _=>∀b∈below,b.k < 7
inductive PMs:List Mn->Prop
 |nil:PMs []
 |snoc {ms:List Mn} {m:Mn}:PMs ms->zK ms m->PMs (ms++[m])
theorem PMs.pop {ms:List Mn}{m:Mn}(h:PMs (ms++[m])):PMs ms/\zK ms m:=by
 generalize e:ms++[m]=l at h;cases h with
 |nil=>simp at e
 |snoc h1 h2 =>
  obtain⟨e1,e2⟩:=List.append_inj' e rfl;cases e2;subst e1;exact⟨h1,h2⟩
theorem zK.lt {below:List Mn}:∀ {m:Mn},zK below m->∀b∈below,b.k < m.k
 | .mat _,h,b,hb=>by rw[h]at hb;cases hb
 | .chg _,⟨tx,h,_⟩,b,hb=>by
  rw[h,ra]at hb;rw[hb];show 0 < 1;decide
 | .mnd _,⟨tx,e,h,_,_⟩,b,hb=>by
  rw[h]at hb;rcases List.mem_cons.mp hb with rfl | hb
  ·show 0 < 2;decide
  ·rw[ra]at hb;rw[hb];show 1 < 2;decide
 | .off _,h,b,hb=>h.2 b hb
 | .cls,h,b,hb=>h.2 b hb
 | .lay,h,b,hb=>h.2 b hb
 | .rst,h,b,hb=>h b hb
 | .pnt _,h,b,hb=>h b hb
theorem PMs.le_top {ms:List Mn}(h:PMs ms):∀b∈ms,(b.k:Int)<=rC ms:=by
 cases h with
 |nil=>intro b hb;cases hb
 |snoc h1 h2 =>
  intro b hb;rw[sJ];rcases List.mem_append.mp hb with hb | hb
  ·have:=h2.lt b hb;omega
  ·rw[ra]at hb;rw[hb];exact Int.le_refl _
theorem PMs.JE {ms:List Mn}(h:PMs ms):JA ms=true->∃tx r,ms=.mat tx::r:=by
 induction h with
 |nil=>intro h;cases h
 | @snoc ms m h1 h2 ih =>
  intro h;unfold JA at h ih;rw[List.any_append,Bool.or_eq_true]at h;rcases h with h | h
  ·obtain⟨tx,r,e⟩:=ih h;exact⟨tx,r++[m],by rw[e];rfl⟩
  ·cases m with
   |mat tx =>
    have:ms=[]:=h2;rw[this];exact⟨tx,[],rfl⟩
   |_=>simp[Mn.k]at h
theorem PMs.len {ms:List Mn}(h:PMs ms):(ms.length:Int)<=rC ms+1:=by
 induction h with
 |nil=>decide
 | @snoc ms m h1 h2 ih =>
  rw[sJ,kq,ady];have:rC ms < (m.k:Int):=by
   unfold rC;split
   ·omega
   ·rename_i b hb;have:=h2.lt b (List.mem_of_getLast? hb);omega
  omega
theorem PMs.JF {ms:List Mn}(h:PMs ms):ms.length<=8:=by
 have:=h.len;have:=Ml ms;omega
theorem rF (cl:Bool)(ms:List Mn):rC ms<=tU cl ms:=by
 unfold tU;split
 ·split <;> omega
 ·exact Int.le_refl _
theorem uR {cl:Bool}{ms:List Mn}{k:Nat}(h:zF cl ms k=none):rC ms < (k:Int)/\Du ms k=true:=by
 have hb:=rF cl ms;unfold zF at h;split at h
 ·cases h
 ·split at h
  ·exact⟨by omega,by assumption⟩
  ·split at h <;> cases h
theorem zL {ms:List Mn}(h:rC ms < 0):ms=[]:=by
 rcases adY ms with e | ⟨r,b,e⟩
 ·exact e
 ·rw[e,adZ,sJ]at h;omega
def WX (ms:List Mn):Mn->Prop
 | .chg e=>∀tx r,ms=.mat tx::r->il tx.length e=true
 | .mnd f=>∀r e,ms=r++[.chg e]->il (R.cw e.th).length f=true
 |_=>True
theorem sM {α:Type}{xs:List α}{x:α}(h:xs.getLast?=some x):∃r,xs=r++[x]:=by
 rcases adY xs with e | ⟨r,b,e⟩
 ·rw[e]at h;cases h
 ·rw[adZ]at e;rw[e,aem]at h;cases h;exact⟨r,e⟩
theorem PMs.push {cl:Bool}{ms:List Mn}(h:PMs ms){m:Mn}(ho:zF cl ms m.k=none)(hf:WX ms m):PMs (ms++[m]):=by
 obtain⟨h1,h2⟩:=uR ho;have lt:∀b∈ms,b.k < m.k:=λb hb=>by have:=h.le_top b hb;omega
 refine .snoc h ?_;cases m with
 |mat tx=>exact zL h1
 |chg e =>
  obtain⟨tx,r,e1⟩:=h.JE h2;refine⟨tx,?_,hf tx r e1⟩;rcases adY r with e2 | ⟨r',b,e2⟩
  ·rw[e1,e2]
  ·rw[adZ]at e2;have hb:b.k < 1:=lt b (by rw[e1,e2];simp)
   rw[e1,e2,<-List.cons_append]at h;have ht:=h.pop.2;cases b with
   |mat ty=>exact absurd ht (adX _ _)
   |_=>simp[Mn.k]at hb
 |mnd f =>
  have h3:p0 ms=true:=h2;unfold p0 at h3;split at h3
  ·rename_i e he;obtain⟨r,e1⟩:=sM he;rw[e1]at h;obtain⟨tx,e2,_⟩:=h.pop.2;refine⟨tx,e,by rw[e1,e2];rfl,?_,hf r e e1⟩
   intro z;rw[z]at h3;cases h3
  ·cases h3
 |off n=>exact⟨h.JE h2,lt⟩
 |cls=>exact⟨h.JE h2,lt⟩
 |lay=>exact⟨h.JE h2,lt⟩
 |rst=>exact lt
 |pnt z=>exact lt
theorem GG {st:Ch}{n:Nat}{m:Mn}(hn:hG st n){st':Ch}(h:st'.made=st.made.set (n - 1) m):st'.mo n=m:=by
 unfold Ch.mo;have:=hn.1;have:=hn.2;rw[h,adp,List.getElem?_set_self (by omega)]
 rfl
theorem vU {st:Ch}{n k:Nat}{m:Mn}(hn:hG st n)(h1:1<=k)(ne:k≠n){st':Ch}(h:st'.made=st.made.set (n - 1) m):st'.mo k=st.mo k:=by
 unfold Ch.mo;have:=hn.1;rw[h,adp,List.getElem?_set_ne (by omega),<-adp]
theorem Mq {st:Ch}{m:Mn}{st':Ch}(h:st'.made=st.made++[m]){k:Nat}(hk:hG st k):st'.mo k=st.mo k:=by
 unfold Ch.mo;have:=hk.1;have:=hk.2;rw[h,adp,List.getElem?_append_left (by omega),<-adp]
theorem Mr {st:Ch}{m:Mn}{st':Ch}(h:st'.made=st.made++[m]):st'.mo (st.made.length+1)=m:=by
 unfold Ch.mo;rw[h,adp,Nat.add_sub_cancel,List.getElem?_append_right (km _),Nat.sub_self];rfl
def EdB (N:Nat)(e:Ed):Prop:=(e.k=0\/e.k=1\/e.k=2)/\-1000<=e.at_/\e.at_<=1000/\∃ws,e.th=ka R.bl1 ws/\(∀w∈ws,R.lH w)/\ws.length<=N
def MOk (N:Nat):Mn->Prop
 | .mat tx=>tx.length<=12+N/\∀x∈tx,Lk x=true
 | .chg e=>EdB (12+N) e
 | .mnd f=>EdB 1 f/\∃w,f.th=w/\R.lH w
 | .off u=>-10000000000 < u/\u < 10000000000
 | .pnt z=>Lk z=true
 |_=>True
theorem EdB.mono {N M:Nat}(h:N<=M){e:Ed}(z:EdB N e):EdB M e:=by
 obtain⟨a,b,c,ws,d,f,g⟩:=z;exact⟨a,b,c,ws,d,f,me g h⟩
theorem MOk.mono {N M:Nat}(h:N<=M):∀ {m:Mn},MOk N m->MOk M m
 | .mat tx,z=>⟨me z.1 (by omega),z.2⟩
 | .chg e,z=>EdB.mono (by omega) z
 | .mnd f,z=>z
 | .off u,z=>z
 | .cls,_=>trivial
 | .lay,_=>trivial
 | .rst,_=>trivial
 | .pnt _,z=>z
def Ch.all (st:Ch):List Nat:=st.aC++(st.aL.flatMap (·.2.2)++st.decided.map (·.1))
def Ch.kX (st:Ch):List Nat:=(adG 1 st.made.length).filter λn=>decide ((st.mo n).k=0)
structure Inv (N:Nat)(st:Ch):Prop where
 lm:3 * st.made.length<=N
 lr:st.rows.length<=N
 ld:st.decided.length<=N
 la:st.aL.length<=N
 lk:∀x∈st.kept,x.2.length<=N
 sit:1<=st.bt/\st.bt<=N+1
 mok:∀m∈st.made,MOk N m
 num:∀n∈st.all,hG st n
 nd:st.all.Nodup
 pil:PMs (st.aC.map st.mo)
 asd:∀x∈st.aL,PMs (x.2.2.map st.mo)/\(∃r,x.2.2=x.1::r)/\-10000000000 < x.2.1/\x.2.1 < 10000000000
 kk:st.kept.map (·.1)=st.kX
 ff:st.firsts.map (·.1)=st.kX
 dw:∀x∈st.decided,Lk x.2=true
theorem Inv.mono {N M:Nat}(h:N<=M){st:Ch}(I:Inv N st):Inv M st where
 lm:=me I.lm h
 lr:=me I.lr h
 ld:=me I.ld h
 la:=me I.la h
 lk:=λx hx=>me (I.lk x hx) h
 sit:=⟨I.sit.1,by have:=I.sit.2;omega⟩
 mok:=λm hm=>(I.mok m hm).mono h
 num:=I.num
 nd:=I.nd
 pil:=I.pil
 asd:=I.asd
 kk:=I.kk
 ff:=I.ff
 dw:=I.dw
theorem Inv.GH {N:Nat}{st:Ch}(I:Inv N st){n:Nat}(hn:hG st n):MOk N (st.mo n):=by
 have:=hn.1;have:=hn.2;have hlt:n - 1 < st.made.length:=by omega
 have e:st.mo n=st.made[n - 1]:=by unfold Ch.mo;rw[adp,adv hlt];rfl
 rw[e];exact I.mok _ (List.getElem_mem hlt)
theorem Inv.fm {N:Nat}{st:Ch}(I:Inv N st):∀n∈st.aC,hG st n:=λn hn=>I.num n (ad2 _ hn)
theorem Inv.uS {N:Nat}{st:Ch}(I:Inv N st){x:Nat×Int×List Nat}(hx:x∈st.aL):∀n∈x.2.2,hG st n:=λn hn =>
 I.num n (gp _ (ad2 _ (List.mem_flatMap.mpr ⟨x,hx,hn⟩)))
theorem Inv.IH {N:Nat}{st:Ch}(I:Inv N st){n:Nat}(hn:n∈st.aC){x:Nat×Int×List Nat}(hx:x∈st.aL):n∉x.2.2:=λz =>
 (List.nodup_append.mp I.nd).2.2 n hn n (ad2 _ (List.mem_flatMap.mpr ⟨x,hx,z⟩)) rfl
theorem Inv.Ms {N:Nat}{st:Ch}(I:Inv N st){n:Nat}(hn:n∈st.aC):n∉st.aL.map (·.1):=λz=>by
 obtain⟨x,hx,e⟩:=List.mem_map.mp z;obtain⟨r,er⟩:=(I.asd x hx).2.1;exact I.IH hn hx (by rw[er,e];exact fi)
theorem Oy {st st':Ch}(hl:st'.made.length=st.made.length)(hk:∀n,hG st n->(st'.mo n).k=(st.mo n).k):st'.kX=st.kX:=by
 unfold Ch.kX;rw[hl];refine List.filter_congr λn hn=>?_
 rw[aeA]at hn;rw[hk n ⟨hn.1,by omega⟩]
theorem GI (st:Ch):st.kX.Nodup:=List.filter_sublist.nodup List.nodup_range'
theorem Inv.keptAt {N:Nat}{st:Ch}(I:Inv N st){n:Nat}(hn:hG st n)(hk:(st.mo n).k=0):∃x,at1 n st.kept=some x/\x.2.length<=N:=by
 cases e:at1 n st.kept with
 |some x=>exact⟨x,rfl,I.lk x (nI e).2⟩
 |none =>
  have h:=zJ e;rw[I.kk]at h;have hr:n∈adG 1 st.made.length:=by
   rw[aeA];have:=hn.1;have:=hn.2;omega
  exact absurd (show n∈st.kX from List.mem_filter.mpr ⟨hr,by exact decide_eq_true hk⟩) h
def Ch.popped (st:Ch)(pre:List Nat)(n:Nat)(wd:Str):Ch:={ st with aC:=pre,decided:=st.decided++[(n,wd)] }
theorem Inv.pop {N:Nat}{st:Ch}(I:Inv N st){pre:List Nat}{n:Nat}(e:st.aC=pre++[n])(wd:Str)(hw:Lk wd=true):Inv (N+1) (st.popped pre n wd)/\zK (pre.map st.mo) (st.mo n):=by
 have hp:=I.pil;rw[e,wa]at hp;obtain⟨p1,p2⟩:=PMs.pop hp;have perm:List.Perm (st.popped pre n wd).all st.all:=by
  unfold Ch.all Ch.popped;rw[e,wa];have:List.Perm (st.aL.flatMap (·.2.2)++(st.decided.map (·.1)++[(n,wd)].map (·.1))) ([n]++(st.aL.flatMap (·.2.2)++st.decided.map (·.1))):=by
   rw[<-aeo];exact List.perm_append_comm
  exact(List.Perm.append_left pre this).trans (by rw[aeo])
 refine⟨⟨adx I.lm,adx I.lr,?_,adx I.la,λx hx=>adx (I.lk x hx),⟨I.sit.1,by have:=I.sit.2;show st.bt<=_;omega⟩,λm hm=>(I.mok m hm).mono (by omega),λk hk=>I.num k (perm.mem_iff.mp hk),perm.nodup_iff.mpr I.nd,p1,I.asd,I.kk,I.ff,?_⟩,p2⟩
 ·show (st.decided++[(n,wd)]).length<=_;rw[kq,ady];have:=I.ld;omega
 ·intro x hx;rcases List.mem_append.mp hx with h | h
  ·exact I.dw x h
  ·rw[ra]at h;rw[h];exact hw
theorem Inv.Dy {N:Nat}{st:Ch}(I:Inv N st)(z:Str):Inv (N+1) (st.Dy z):=by
 refine⟨adx I.lm,?_,adx I.ld,adx I.la,λx hx=>adx (I.lk x hx),⟨I.sit.1,by have:=I.sit.2;show st.bt<=_;omega⟩,λm hm=>(I.mok m hm).mono (by omega),I.num,I.nd,I.pil,I.asd,I.kk,I.ff,I.dw⟩
 show (st.rows++[z]).length<=_;rw[kq,ady];have:=I.lr;omega
theorem Inv.Pu {N:Nat}{st:Ch}(I:Inv N st){n:Nat}{m:Mn}(hn:n∈st.aC)(hk:m.k=(st.mo n).k)(hm:MOk (N+1) m){kp:List (Nat×List Ed)}(ek:kp.map (·.1)=st.kept.map (·.1))(lk:∀x∈kp,x.2.length<=N+1)
  (hp:PMs (st.aC.map (Ch.mo { st with made:=st.made.set (n - 1) m,kept:=kp }))):Inv (N+1) { st with made:=st.made.set (n - 1) m,kept:=kp }:=by
 have hno:=I.fm n hn;have kinds:∀k,hG st k->(Ch.mo { st with made:=st.made.set (n - 1) m,kept:=kp } k).k=(st.mo k).k:=λk h=>by
  by_cases z:k=n
  ·subst z;rw[GG hno rfl,hk]
  ·rw[vU hno h.1 z rfl]
 have em:Ch.kX { st with made:=st.made.set (n - 1) m,kept:=kp }=st.kX:=Oy (by show (st.made.set (n - 1) m).length=_;rw[aep]) kinds
 refine⟨?_,adx I.lr,adx I.ld,adx I.la,lk,⟨I.sit.1,by have:=I.sit.2;show st.bt<=_;omega⟩,?_,?_,I.nd,hp,?_,by rw[em,<-I.kk];exact ek,by rw[em];exact I.ff,I.dw⟩
 ·show 3 * (st.made.set (n - 1) m).length<=_;rw[aep];have:=I.lm;omega
 ·intro x hx;rcases List.mem_or_eq_of_mem_set hx with h | h
  ·exact(I.mok x h).mono (by omega)
  ·rw[h];exact hm
 ·intro k hk;have:=I.num k hk;exact⟨this.1,by show k<=(st.made.set (n - 1) m).length;rw[aep];exact this.2⟩
 ·intro x hx;obtain⟨h1,h2⟩:=I.asd x hx;refine⟨?_,h2⟩;have:x.2.2.map (Ch.mo { st with made:=st.made.set (n - 1) m,kept:=kp })=x.2.2.map st.mo:=aeD λk hk =>
   vU hno (I.uS hx k hk).1 (λz=>I.IH hn hx (by rw[<-z];exact hk)) rfl
  rw[this];exact h1
theorem Inv.sS {N:Nat}{st:Ch}(I:Inv N st){n:Nat}{r:List Nat}(e:st.aC=n::r){u:Int}(h0:-10000000000 < u)(h1:u < 10000000000):Inv (N+1) (st.sS n u):=by
 have perm:List.Perm (st.sS n u).all st.all:=by
  unfold Ch.all Ch.sS;rw[List.flatMap_append,List.nil_append];show List.Perm ((st.aL.flatMap (·.2.2)++[(n,u,st.aC)].flatMap (·.2.2))++st.decided.map (·.1)) _
  rw[show [(n,u,st.aC)].flatMap (·.2.2)=st.aC by simp,<-aeo]
  exact List.Perm.append_right _ List.perm_append_comm
 refine⟨adx I.lm,adx I.lr,adx I.ld,?_,λx hx=>adx (I.lk x hx),⟨I.sit.1,by have:=I.sit.2;show st.bt<=_;omega⟩,λm hm=>(I.mok m hm).mono (by omega),λk hk=>I.num k (perm.mem_iff.mp hk),perm.nodup_iff.mpr I.nd,.nil,?_,I.kk,I.ff,I.dw⟩
 ·show (st.aL++[(n,u,st.aC)]).length<=_;rw[kq,ady];have:=I.la;omega
 ·intro x hx;rcases List.mem_append.mp hx with hx | hx
  ·exact I.asd x hx
  ·rw[ra]at hx;subst hx;exact⟨I.pil,⟨r,e⟩,h0,h1⟩
def Ch.carry (st:Ch):Mn->Ch
 | .chg e=>match st.aC with
  |n::_=>(match st.mo n with
   | .mat tx=>st.Ov n tx e
   |_=>st)
  |[]=>st
 | .mnd f=>match st.aC.getLast? with
  |some n=>(match st.mo n with
   | .chg e=>st.Ow n e (dn (R.cw e.th) f)
   |_=>st)
  |none=>st
 | .off u=>match st.aC with
  |n::_=>st.sS n u
  |[]=>st
 | .cls=>{ st with closed:=true }
 | .lay=>match st.aC with
  |n::_=>st.sS n st.bt
  |[]=>st
 | .rst=>{ st with bt:=st.bt+1 }
 |_=>st
theorem vV (xs:List Str)(e:Ed):(dn xs e).length<=xs.length+1:=by
 unfold dn;split
 ·rw[kq,om,adW,aeF];omega
 ·exact adx (List.length_eraseIdx_le _ _)
 ·rw[aep];omega
theorem Be {xs:List Str}{e:Ed}{x:Str}(h:x∈dn xs e):x∈xs\/x=e.th:=by
 unfold dn at h;split at h
 ·rcases List.mem_append.mp h with h | h
  ·exact .inl (List.mem_of_mem_take h)
  ·rcases List.mem_cons.mp h with h | h
   ·exact .inr h
   ·exact .inl (List.mem_of_mem_drop h)
 ·exact .inl (List.mem_of_mem_eraseIdx h)
 ·exact List.mem_or_eq_of_mem_set h
theorem RZ {α β:Type}{f:α->β}{xs:List α}{y:β}(h:xs.map f=[y]):∃a,xs=[a]/\f a=y:=by
 cases xs with
 |nil=>cases h
 |cons a r =>
  cases r with
  |nil=>exact⟨a,rfl,by simpa using h⟩
  |cons b r=>simp at h
theorem WY {α β:Type}{f:α->β}{xs:List α}{y z:β}(h:xs.map f=[y,z]):∃a b,xs=[a,b]/\f a=y/\f b=z:=by
 cases xs with
 |nil=>cases h
 |cons a r =>
  rw[kg]at h;obtain⟨b,rfl,e⟩:=RZ (List.cons.inj h).2;exact⟨a,b,rfl,(List.cons.inj h).1,e⟩
theorem Oz {α β:Type}{f:α->β}{xs:List α}{y:β}{r:List β}(h:xs.map f=y::r):∃a s,xs=a::s/\f a=y:=by
 cases xs with
 |nil=>cases h
 |cons a s=>exact⟨a,s,rfl,(List.cons.inj h).1⟩
theorem EdB.ok {N:Nat}{e:Ed}(h:EdB N e)(hN:N<=4000):uJ e:=by
 obtain⟨a,b,c,ws,d,f,g⟩:=h;refine⟨a,b,c,?_,?_⟩
 ·rw[d];exact mG (λx hx=>by
   rw[show (R.bl1:Str).cps.toList=[32] by trivial,ra]at hx
   omega) ws λw hw=>λx hx=>by have:=(f w hw).sgn x hx;unfold R.Sign at this;omega
 ·rw[d,R.nX];have h1:=oF 32 ws;have h2:=R.A8 f;omega
theorem EdB.str {N:Nat}{e:Ed}(h:EdB N e):Lk e.th=true:=by
 obtain⟨a,b,c,ws,d,f,g⟩:=h;rw[d];exact(mG (λx hx=>by
  rw[show (R.bl1:Str).cps.toList=[32] by trivial,ra]at hx
  omega) ws λw hw=>λx hx=>by have:=(f w hw).sgn x hx;unfold R.Sign at this;omega).ok
theorem EdB.words {N:Nat}{e:Ed}(h:EdB N e):(∀w∈R.cw e.th,R.lH w)/\(R.cw e.th).length<=N:=by
 obtain⟨a,b,c,ws,d,f,g⟩:=h;rw[d,R.jz f];exact⟨f,g⟩
theorem zM {ws:List Str}{f:Ed}(h:∀w∈ws,R.lH w)(hf:R.lH f.th):∀w∈dn ws f,R.lH w:=λw hw=>by
 rcases Be hw with h1 | h1
 ·exact h w h1
 ·rw[h1];exact hf
theorem JG (n:Nat)(e:Ed)(xs:List (Nat×List Ed)):(Dx n e xs).map (·.1)=xs.map (·.1):=by
 unfold Dx;rw[List.map_map];refine aeD λx _=>?_
 show (if x.1=n then (x.1,x.2++[e]) else x).1=x.1
 split <;> rfl
theorem Mt {n N:Nat}{e:Ed}{xs:List (Nat×List Ed)}(h:∀x∈xs,x.2.length<=N):∀x∈Dx n e xs,x.2.length<=N+1:=by
 intro x hx;obtain⟨y,hy,rfl⟩:=List.mem_map.mp hx;have:=h y hy;split
 ·show (y.2++[e]).length<=_;rw[kq,ady];omega
 ·omega
theorem Inv.carry {N:Nat}{st:Ch}(I:Inv N st)(hN:N<=900){m:Mn}(ht:zK (st.aC.map st.mo) m)(hm:MOk N m):Inv (N+1) (st.carry m):=by
 have J:=I.mono (ad9 N);cases m with
 |mat tx=>exact J
 |pnt z=>exact J
 |chg e =>
  obtain⟨tx,h1,hf⟩:=ht;obtain⟨k,e1,e2⟩:=RZ h1;have hn:k∈st.aC:=by rw[e1];exact fi
  have htx:=I.GH (I.fm k hn);rw[e2]at htx;have e3:st.carry (.chg e)=st.Ov k tx e:=by unfold Ch.carry;rw[e1];dsimp only;rw[e2]
  rw[e3];refine I.Pu hn (by rw[e2];rfl) ?_ (JG k e st.kept) (Mt I.lk) ?_
  ·have:=vV tx e;have h3:tx.length<=12+N:=htx.1;refine⟨by omega,λx hx=>?_⟩
   rcases Be hx with h | h
   ·exact htx.2 x h
   ·rw[h];exact EdB.str hm
  ·rw[e1,kg,aec,GG (I.fm k hn) rfl];exact PMs.snoc (ms:=[]) .nil rfl
 |mnd f =>
  obtain⟨tx,e,h1,hk,hf⟩:=ht;obtain⟨a,b,e1,e2,e3⟩:=WY h1;have ha:a∈st.aC:=by rw[e1];exact fi
  have hb:b∈st.aC:=by rw[e1];exact kf _ fi
  have he:=I.GH (I.fm b hb);rw[e3]at he;have he':EdB (12+N) e:=he;obtain⟨w1,w2⟩:=he'.words;have e4:st.carry (.mnd f)=st.Ow b e (dn (R.cw e.th) f):=by unfold Ch.carry;rw[e1];show (match st.mo b with | .chg e=>_ | _=>st)=_;rw[e3];rfl
  rw[e4];obtain⟨_,w,hw,hw2⟩:=hm;refine I.Pu (kp:=st.kept) hb (by rw[e3];rfl) ?_ rfl (λx hx=>adx (I.lk x hx)) ?_
  ·refine⟨he'.1,he'.2.1,he'.2.2.1,_,rfl,zM w1 (by rw[hw];exact hw2),?_⟩
   have:=vV (R.cw e.th) f;omega
  ·have ne:a≠b:=λz=>by rw[z,e3]at e2;cases e2
   have hp:=I.pil;rw[h1]at hp;obtain⟨tx',e5,e6⟩:=(PMs.pop (ms:=[.mat tx]) hp).2;cases e5;rw[e1,kg,kg,aec,GG (I.fm b hb) rfl,vU (I.fm b hb) (I.fm a ha).1 ne rfl,e2];exact PMs.snoc (ms:=[.mat tx]) (PMs.snoc (ms:=[]) .nil rfl) ⟨tx,rfl,e6⟩
 |off u =>
  obtain⟨⟨tx,r,h1⟩,_⟩:=ht;obtain⟨k,s,e1,_⟩:=Oz h1;have e3:st.carry (.off u)=st.sS k u:=by unfold Ch.carry;rw[e1]
  rw[e3];exact I.sS e1 hm.1 hm.2
 |lay =>
  obtain⟨⟨tx,r,h1⟩,_⟩:=ht;obtain⟨k,s,e1,_⟩:=Oz h1;have e3:st.carry .lay=st.sS k st.bt:=by unfold Ch.carry;rw[e1]
  rw[e3];have:=I.sit;exact I.sS e1 (by omega) (by omega)
 |cls=>exact⟨J.lm,J.lr,J.ld,J.la,J.lk,J.sit,J.mok,J.num,J.nd,J.pil,J.asd,J.kk,J.ff,J.dw⟩
 |rst=>exact⟨J.lm,J.lr,J.ld,J.la,J.lk,⟨by have:=I.sit.1;show 1<=st.bt+1;omega,by have:=I.sit.2;show st.bt+1<=_;omega⟩,J.mok,J.num,J.nd,J.pil,J.asd,J.kk,J.ff,J.dw⟩
inductive Rs where
 |num (n:Nat) | txt (z:Str) | exc (x:Xc)
abbrev Pw:Str:=ar "kept"
abbrev Px:Str:=ar "lost"
abbrev rG:Str:=ar "dropped"
def zN (b:Bool):Str:=if b=true then Pw else Px
theorem II (b:Bool):Lk (zN b)=true:=by
 unfold zN;split <;> trivial
def pb (st:Ch)(a b:Int):Rs×Ch:=match st.aC.getLast? with
 |none=>(.exc .nothing,st)
 |some n=>if a+b > st.iD then (.exc .tooMany,st) else
  (.txt (zN (o8 (nd (st.mo n).k) a b)),(if o8 (nd (st.mo n).k) a b=true then (st.popped st.aC.dropLast n (zN (o8 (nd (st.mo n).k) a b))).carry (st.mo n) else st.popped st.aC.dropLast n (zN (o8 (nd (st.mo n).k) a b))).Dy (R.jC (.nums (ar "vote") [a,b])))
def qi (st:Ch):Rs×Ch:=match st.aC.getLast? with
 |none=>(.exc .nothing,st)
 |some n=>(.txt rG,(st.popped st.aC.dropLast n rG).Dy (R.jC (.nums (ar "drop") [])))
def stepT (st:Ch)(n:Nat):Rs×Ch:=if st.aC=[] then (match at1 n st.aL with
 |none=>(.exc .fY,st)
 |some x=>if st.bt < x.2.1 then (.exc (.iP x.2.1),st) else (.num n,{ st.uP n x.2.2 with rows:=st.rows++[R.jC (.nums (ar "take") [(n:Int)])] })) else (.exc (.fX (tU st.closed (st.aC.map st.mo))),st)
def sT (st:Ch):Mn->Option Xc
 | .chg e=>match st.aC.map st.mo with
  | .mat tx::_=>if il tx.length e=true then none else some .noFit
  |_=>none
 | .mnd f=>match (st.aC.map st.mo).getLast? with
  |some (.chg e)=>if il (R.cw e.th).length f=true then none else some .noFit
  |_=>none
 | .off u=>if u<=st.bt then some (.eF st.bt) else none
 |_=>none
def uT (st:Ch)(m:Mn):Option Xc:=match zF st.closed (st.aC.map st.mo) m.k with
 |some x=>some x
 |none=>sT st m
def Ch.moved (st:Ch)(m:Mn)(row:Str):Ch:={ st with made:=st.made++[m],aC:=st.aC++[st.made.length+1],firsts:=(match m with | .mat tx=>st.firsts++[(st.made.length+1,tx)] | _=>st.firsts),kept:=(match m with | .mat _=>st.kept++[(st.made.length+1,([]:List Ed))] | _=>st.kept),rows:=st.rows++[row] }
def lT (st:Ch)(m:Mn)(row:Str):Rs×Ch:=match uT st m with
 |some x=>(.exc x,st)
 |none=>(.num (st.made.length+1),st.moved m row)
theorem Inv.moved {N:Nat}{st:Ch}(I:Inv N st){m:Mn}(hm:MOk N m)(hc:uT st m=none)(row:Str):Inv (N+3) (st.moved m row):=by
 have J:=I.mono (show N<=N+3 by omega)
 have ho:zF st.closed (st.aC.map st.mo) m.k=none/\sT st m=none:=by
  unfold uT at hc;split at hc
  ·cases hc
  ·exact⟨by assumption,hc⟩
 have hf:WX (st.aC.map st.mo) m:=by
  have h:=ho.2;cases m with
  |chg e =>
   intro tx r e1;unfold sT at h;dsimp only at h;rw[e1]at h;dsimp only at h;split at h
   ·assumption
   ·cases h
  |mnd f =>
   intro r e e1;unfold sT at h;dsimp only at h;rw[e1,aem]at h;dsimp only at h;split at h
   ·assumption
   ·cases h
  |_=>trivial
 have em:(st.moved m row).made=st.made++[m]:=rfl;have old:∀ks:List Nat,(∀k∈ks,hG st k)->ks.map (st.moved m row).mo=ks.map st.mo:=λks h=>aeD λk hk=>Mq em (h k hk)
 have nok:∀k,hG st k->hG (st.moved m row) k:=λk h=>⟨h.1,by show k<=(st.made++[m]).length;rw[kq];have:=h.2;omega⟩
 have perm:List.Perm (st.moved m row).all ((st.made.length+1)::st.all):=by
  unfold Ch.all Ch.moved;rw[aeo];exact List.perm_middle
 have mt:(st.moved m row).kX=st.kX++(if m.k=0 then [st.made.length+1] else []):=by
  unfold Ch.kX;rw[em,kq,ady,List.range'_concat,List.filter_append,Nat.one_mul,Nat.add_comm 1]
  congr 1
  ·refine List.filter_congr λk hk=>?_
   rw[aeA]at hk;rw[Mq em ⟨hk.1,by omega⟩]
  ·rw[List.filter_cons,Mr em]
   by_cases z:m.k=0
   ·rw[if_pos (decide_eq_true z),if_pos z];rfl
   ·rw[if_neg (by rw[decide_eq_false z];decide),if_neg z];rfl
 refine⟨?_,?_,J.ld,J.la,?_,J.sit,?_,?_,?_,?_,?_,?_,?_,J.dw⟩
 ·show 3 * (st.made++[m]).length<=_;rw[kq,ady];have:=I.lm;omega
 ·show (st.rows++[row]).length<=_;rw[kq,ady];have:=I.lr;omega
 ·intro x hx;have hx':x∈(match m with | .mat _=>st.kept++[(st.made.length+1,([]:List Ed))] | _=>st.kept):=hx
  cases m with
  |mat tx =>
   rcases List.mem_append.mp hx' with h | h
   ·exact J.lk x h
   ·rw[ra]at h;rw[h];exact ad8 _
  |_=>exact J.lk x hx'
 ·intro x hx;rcases List.mem_append.mp (show x∈st.made++[m] from hx) with h | h
  ·exact J.mok x h
  ·rw[ra]at h;rw[h];exact hm.mono (by omega)
 ·intro k hk;rcases List.mem_cons.mp (perm.mem_iff.mp hk) with h | h
  ·rw[h];exact⟨by omega,by show _<=(st.made++[m]).length;rw[kq,ady];omega⟩
  ·exact nok k (I.num k h)
 ·rw[perm.nodup_iff,List.nodup_cons];exact⟨λz=>by have:=(I.num _ z).2;omega,I.nd⟩
 ·show PMs ((st.aC++[st.made.length+1]).map (st.moved m row).mo);rw[wa,old st.aC I.fm,kg,aec,Mr em];exact I.pil.push ho.1 hf
 ·intro x hx;obtain⟨h1,h2⟩:=I.asd x hx;exact⟨by rw[old _ (I.uS hx)];exact h1,h2⟩
 ·rw[mt,<-I.kk];cases m with
  |mat tx=>show (st.kept++[(st.made.length+1,([]:List Ed))]).map (·.1)=_;rw[wa,if_pos (show (Mn.mat tx).k=0 from rfl)];rfl
  |_=>exact(aex _).symm
 ·rw[mt,<-I.ff];cases m with
  |mat tx=>show (st.firsts++[(st.made.length+1,tx)]).map (·.1)=_;rw[wa,if_pos (show (Mn.mat tx).k=0 from rfl)];rfl
  |_=>exact(aex _).symm
theorem Bf {n:Nat}{x:Nat×Int×List Nat}:∀ {as:List (Nat×Int×List Nat)},(as.flatMap (·.2.2)).Nodup->(∀y∈as,∃r,y.2.2=y.1::r)->at1 n as=some x->List.Perm (x.2.2++(as.filter λy=>decide (y.1≠n)).flatMap (·.2.2)) (as.flatMap (·.2.2))
 |[],_,_,h=>nomatch h
 |y::as,nd,hd,h=>by
  rw[List.flatMap_cons]at nd ⊢;obtain⟨n1,n2,n3⟩:=List.nodup_append.mp nd;unfold at1 at h;rw[aeq]at h
  by_cases e:y.1=n
  ·rw[decide_eq_true e]at h;cases h;have:as.filter (λz=>decide (z.1≠n))=as:=by
    rw[List.filter_eq_self];intro z hz;refine decide_eq_true λq=>?_
    obtain⟨r,hr⟩:=hd z (kf _ hz);obtain⟨r',hr'⟩:=hd x fi;exact n3 n (by rw[hr',e];exact fi) n (List.mem_flatMap.mpr ⟨z,hz,by rw[hr,q];exact fi⟩) rfl
   rw[List.filter_cons_of_neg (by simp[e]),this]
  ·rw[decide_eq_false e]at h;have ih:=Bf n2 (λz hz=>hd z (kf _ hz)) h
   rw[List.filter_cons_of_pos (by simp[e]),List.flatMap_cons,<-aeo]
   exact(List.Perm.append_right _ List.perm_append_comm).trans (by rw[aeo];exact List.Perm.append_left _ ih)
theorem Inv.uP {N:Nat}{st:Ch}(I:Inv N st){n:Nat}{x:Nat×Int×List Nat}(hp:st.aC=[])(hx:at1 n st.aL=some x)(row:Str):Inv (N+1) { st.uP n x.2.2 with rows:=st.rows++[row] }:=by
 have J:=I.mono (ad9 N);have hm:=(nI hx).2;have nd:=I.nd;unfold Ch.all at nd;rw[hp,List.nil_append]at nd;have pm:=Bf (List.nodup_append.mp nd).1 (λy hy=>(I.asd y hy).2.1) hx
 have perm:List.Perm (Ch.all { st.uP n x.2.2 with rows:=st.rows++[row] }) st.all:=by
  unfold Ch.all Ch.uP;rw[hp,List.nil_append,<-aeo];exact List.Perm.append_right _ pm
 refine⟨J.lm,?_,J.ld,?_,J.lk,J.sit,J.mok,λk hk=>I.num k (perm.mem_iff.mp hk),perm.nodup_iff.mpr I.nd,(I.asd x hm).1,λy hy=>I.asd y (List.mem_filter.mp hy).1,I.kk,I.ff,I.dw⟩
 ·show (st.rows++[row]).length<=_;rw[kq,ady];have:=I.lr;omega
 ·exact me (aeh _ _) J.la
theorem Inv.pb {N:Nat}{st:Ch}(I:Inv N st)(hN:N<=800)(a b:Int):Inv (N+3) (pb st a b).2:=by
 unfold My.pb;split
 ·exact I.mono (by omega)
 ·rename_i n h;obtain⟨pre,e⟩:=sM h;split
  ·exact I.mono (by omega)
  ·have ed:st.aC.dropLast=pre:=by rw[e];exact List.dropLast_concat
   obtain⟨I1,ht⟩:=I.pop e (zN (o8 (My.nd (st.mo n).k) a b)) (II _);rw[ed];have hn:n∈st.aC:=by rw[e];simp
   split
   ·exact(I1.carry (by omega) ht ((I.GH (I.fm n hn)).mono (by omega))).Dy _
   ·exact(I1.Dy _).mono (by omega)
theorem Inv.qi {N:Nat}{st:Ch}(I:Inv N st):Inv (N+3) (qi st).2:=by
 unfold My.qi;split
 ·exact I.mono (by omega)
 ·rename_i n h;obtain⟨pre,e⟩:=sM h;have ed:st.aC.dropLast=pre:=by rw[e];exact List.dropLast_concat
  rw[ed];exact((I.pop e rG (by trivial)).1.Dy _).mono (by omega)
theorem Inv.stepT {N:Nat}{st:Ch}(I:Inv N st)(n:Nat):Inv (N+3) (stepT st n).2:=by
 unfold My.stepT;split
 ·split
  ·exact I.mono (by omega)
  ·split
   ·exact I.mono (by omega)
   ·exact(I.uP (by assumption) (by assumption) _).mono (by omega)
 ·exact I.mono (by omega)
theorem Inv.lT {N:Nat}{st:Ch}(I:Inv N st){m:Mn}(hm:MOk N m)(row:Str):Inv (N+3) (lT st m row).2:=by
 unfold My.lT;split
 ·exact I.mono (by omega)
 ·exact I.moved hm (by assumption) row
theorem zO:∀(L:Nat) (l:List Nat),l.Nodup->(∀n∈l,1<=n/\n<=L)->l.length<=L
 | 0,l,_,h=>by
  cases l with
  |nil=>exact km 0
  |cons x r=>have:=h x fi;omega
 |L+1,l,nd,h=>by
  by_cases m:L+1∈l
  ·have ih:=zO L (l.erase (L+1)) (nd.erase _) (λn hn=>by
    obtain⟨h1,h2⟩:=nd.mem_erase_iff.mp hn;have:=h n h2;omega)
   rw[List.length_erase_of_mem m]at ih;omega
  ·have ih:=zO L l nd (λn hn=>by
    have:=h n hn;have:n≠L+1:=λz=>m (by rw[<-z];exact hn)
    omega)
   omega
theorem Dz:∀ {as:List (Nat×Int×List Nat)},(∀y∈as,∃r,y.2.2=y.1::r)->List.Sublist (as.map (·.1)) (as.flatMap (·.2.2))
 |[],_=>.slnil
 |y::as,h=>by
  obtain⟨r,hr⟩:=h y fi;rw[kg,List.flatMap_cons,hr,List.cons_append];exact .cons₂ _ ((Dz λz hz=>h z (kf _ hz)).trans (List.sublist_append_right _ _))
theorem Inv.R0 {N:Nat}{st:Ch}(I:Inv N st):(st.aL.map (·.1)).Nodup:=by
 have nd:=I.nd;unfold Ch.all at nd;exact(Dz λy hy=>(I.asd y hy).2.1).nodup (List.nodup_append.mp (List.nodup_append.mp nd).2.1).1
theorem Inv.DA {N:Nat}{st:Ch}(I:Inv N st):st.aL.length<=st.made.length:=by
 have h:=zO st.made.length (st.aL.map (·.1)) I.R0 (λn hn=>by
  obtain⟨x,hx,e⟩:=List.mem_map.mp hn;obtain⟨r,hr⟩:=(I.asd x hx).2.1;exact I.uS hx n (by rw[hr,e];exact fi))
 rw[da]at h;exact h
def wU (A:Adr)(i:Nat)(c:Col)(H:Hp)(o:Addr):Rs×Ch->VK->XK->Prop
 | (.num n,st),Q,_=>∀c' H',Step (iO i) c c' H H'->fP A i c' H' o st->Q (nV n) H'
 | (.txt z,st),Q,_=>∀c' H',Step (iO i) c c' H H'->fP A i c' H' o st->Q (.str z) H'
 | (.exc x,st),_,E=>∀c' H' C d,Step (iO i) c c' H H'->fP A i c' H' o st->x.At A H' C d->(∀a,d=some a->c' a=none)->E C d H'
def IJ:List Str:=[ar "seats",ar "sitting",ar "closed",ar "made",ar "pile",ar "aside",ar "decided",ar "first_texts",ar "edits_kept",ar "rows"]
theorem cZ {m:Str}{v0 v1 v2 v3 v4 v5 v6 v7 v8 v9:V}(h:m∉IJ):(chF v0 v1 v2 v3 v4 v5 v6 v7 v8 v9).lookup m=none:=by
 unfold IJ at h;simp only[List.mem_cons,aeH,or_false,not_or]at h;obtain⟨h0,h1,h2,h3,h4,h5,h6,h7,h8,h9⟩:=h;unfold chF;simp only[adR,beq_eq_false_iff_ne.mpr h0,beq_eq_false_iff_ne.mpr h1,beq_eq_false_iff_ne.mpr h2,beq_eq_false_iff_ne.mpr h3,beq_eq_false_iff_ne.mpr h4,beq_eq_false_iff_ne.mpr h5,beq_eq_false_iff_ne.mpr h6,beq_eq_false_iff_ne.mpr h7,beq_eq_false_iff_ne.mpr h8,beq_eq_false_iff_ne.mpr h9]
def OA (A:Adr)(i:Nat):Sp:=λvs H Q _=>∃(o mo:Addr) (c:Col) (st:Ch) (m:Mn) (N:Nat),vs=[.ref o,.ref mo]/\fP A i c H o st/\mM A c H m mo/\Inv N st/\N<=900/\zK (st.aC.map st.mo) m/\MOk N m /\
 ∀c' H',Step (iO i) c c' H H'->fP A i c' H' o (st.carry m)->Q .non H'
def R1 (A:Adr)(i:Nat):Sp:=λvs H Q E=>∃(o:Addr) (a b:Int) (c:Col) (st:Ch) (N:Nat),vs=[.ref o,.int a,.int b]/\fP A i c H o st/\Inv N st/\N<=800/\(0<=a/\a < 10 ^ 10)/\(0<=b/\b < 10 ^ 10)/\wU A i c H o (pb st a b) Q E
def R3 (A:Adr)(i:Nat):Sp:=λvs H Q E=>∃(o:Addr) (c:Col) (st:Ch) (N:Nat),vs=[.ref o]/\fP A i c H o st/\Inv N st/\N<=800/\wU A i c H o (qi st) Q E
def R4 (A:Adr)(i:Nat):Sp:=λvs H Q E=>∃(o:Addr) (z:Int) (c:Col) (st:Ch) (N:Nat),vs=[.ref o,.int z]/\fP A i c H o st/\Inv N st/\N<=800/\-1<=z/\z < 10 ^ 10/\wU A i c H o (stepT st z.toNat) Q E
theorem Bg:∀ {ks:List Nat} {vs:List V},jN (bJ (ks.zip vs)) (kr (-1))=none
 |[],_=>rfl
 |_::_,[]=>rfl
 |k::ks,v::vs=>by
  rw[dG,iA (λz=>by have:=Sum.inl.inj z;omega)]
  exact Bg
theorem Inv.no0 {N:Nat}{st:Ch}(I:Inv N st):at1 0 st.aL=none:=by
 cases e:at1 0 st.aL with
 |none=>rfl
 |some x =>
  obtain⟨h1,h2⟩:=nI e;obtain⟨r,hr⟩:=(I.asd x h2).2.1;have:=(I.uS h2 x.1 (by rw[hr];exact fi)).1
  omega
theorem Cy {i:Nat}{c:Col}{H:Hp}{t:Addr}{xs:List V}:vR i (bg c t none) (upd H t (.tup xs)) t xs:=⟨by rw[cz];exact bR,ah⟩
theorem uU {A:Adr}{c:Col}{H H':Hp}{f:Nat->Mn}(s:bT H H'):∀ {ns:List Nat} {os:List Addr},cQ (λn m=>mM A c H (f n) m) ns os->cQ (λm p=>mM A c H' m p) (ns.map f) os
 |_,_,.nil=>.nil
 |_,_,.cons h t=>.cons (h.same s) (uU s t)
theorem zP {kd:Str}{ns:List Int}(h:(kd,ns.length)∈R.jA)(hn:∀i∈ns,0<=i/\i < 10 ^ 10):R.DOk (.nums kd ns):=⟨h,hn⟩
section
variable{P:ma}{w:World}{K:cb}{mg:Str->Option Value}{base:Heap}{A:Adr}
theorem Cz (T:Txt w.params K mg A){i:Nat}:a8 P w K mg base CX0 5 A.cn A.gR ["self","motion"] (OA A i):=by
 have g8:∀k,k < 8->a8 P w K mg base CX0 1 (A.fk k) (A.fkd k) ["self"] (gJ k):=l6 T;refine T.d8.ok kM (λvs H Q E h=>?_) (λcdv A' outer s H vs Q E hr h=>?_)
 ·obtain⟨o,mo,c,st,m,N,rfl,_⟩:=h;rfl
 ·obtain⟨o,mo,c,st,m,N,rfl,hc,hmo,I,hN,GJ,Mu,q⟩:=h;obtain⟨dx,aM,aP,aA,aD,aF,aE,aR,ms,ds,ws,fs,es,X⟩:=hc.ex;refine⟨_,(ao (br (i:=2) kM.nd rfl (wt rfl) (md (n:=8) (Cf:=A.C) (pv 1) T.cl T.nU g8 (hr.mono (by decide)) T.nW bC))
 (aq (cI (a9 cS (pv 2) au (bz _))
 (aq (dh (kB (pv 0) T.ai T.i8 (vS (i:=i) T) hr T.d4 .nil bC (aa (bp (pv 1) rfl) af))))
 (aq (cI (a9 cS (pv 2) au (bz _))
 (aq (dh (kB (pv 0) T.ai T.i9 (vT (i:=i) T) hr T.d5 .nil bC (aa (bp (pv 1) rfl) af))))
 (aq (cI (a9 cS (pv 2) au (bz _))
 (aq (dh (kB (pv 0) T.ai T.iw (uQ (i:=i) T) (hr.mono (by decide)) T.ee .nil bC (aa (bp (pv 1) rfl) af))))
 (aq (cI (a9 cS (pv 2) au (bz _))
 (aq (fw (pv 0) yA rfl))
 (aq (cI (a9 cS (pv 2) au (bz _))
 (aq (dh (kB (pv 0) T.ai T.iw (uQ (i:=i) T) (hr.mono (by decide)) T.ee .nil bC (aa (bp (pv 0) rfl) af))))
 (aq (cI (a9 cS (pv 2) au (bz _))
 (aq (fw (pv 0) (dj pL (bp (pv 0) rfl) aj) rfl))
 aT))))))))))))),?_⟩
  try dsimp only[cD]
  refine aN λGq gq=>?_
  obtain⟨hcn,dm,v,hm,hv⟩:=hmo;refine gq ?_;refine⟨_,rfl,m.k,m.k8,mo,dm,_,rfl,hm,lZ m.k v,mo,rfl,?_⟩;have lM:=I.lm;cases m with
  |mat tx=>exact⟨_,rfl,rfl,tsf (gK 0 (by decide)) ⟨_,rfl,rfl,tsf (iQ 0 (by decide)) ⟨_,rfl,rfl,tsf (lI 0 (by decide)) ⟨_,rfl,rfl,tsf (zI 0 (by decide)) ⟨_,rfl,rfl,tsf (Cw 0 (by decide)) ⟨_,rfl,rfl,tsf (GD 0 (by decide)) (q c H (Step.refl bR) hc)⟩⟩⟩⟩⟩⟩
  |pnt z=>exact⟨_,rfl,rfl,tsf (gK 7 (by decide)) ⟨_,rfl,rfl,tsf (iQ 7 (by decide)) ⟨_,rfl,rfl,tsf (lI 7 (by decide)) ⟨_,rfl,rfl,tsf (zI 7 (by decide)) ⟨_,rfl,rfl,tsf (Cw 7 (by decide)) ⟨_,rfl,rfl,tsf (GD 7 (by decide)) (q c H (Step.refl bR) hc)⟩⟩⟩⟩⟩⟩
  |chg e =>
   refine⟨_,rfl,rfl,tst (gK 1 (by decide)) ?_⟩
   refine aN λGq gq=>?_
   obtain⟨tx,h1,hf⟩:=GJ;obtain⟨k,e1,e2⟩:=RZ h1;have hn:k∈st.aC:=by rw[e1];exact fi
   have hno:=I.fm k hn;have htx:=I.GH hno;rw[e2]at htx;have adk:tx.length<=12+N:=htx.1;obtain⟨x,hx,hxl⟩:=I.keptAt hno (by rw[e2];rfl)
   have e3:st.carry (.chg e)=st.Ov k tx e:=by unfold Ch.carry;rw[e1];dsimp only;rw[e2]
   rw[e3]at q;have WZ:EdB (12+N) e:=Mu;obtain⟨t,rfl,ht⟩:=hv;refine gq ?_;refine mtv rfl X.ob (cZ (by trivial)) ⟨_,rfl,mo,A.C 1,dm,_,.ref t,rfl,hm,T.cl 1 (by decide),T.na1,rfl,?_⟩
   exact⟨o,t,c,st,k,[],tx,e,x,rfl,hc,e1,hno,e2,by omega,by omega,ht,WZ.ok (by omega),hf,hx,by omega,by rw[I.kk];exact GI st,q⟩
  |mnd f =>
   refine⟨_,rfl,rfl,tsf (gK 2 (by decide)) ⟨_,rfl,rfl,tst (iQ 2 (by decide)) ?_⟩⟩
   refine aN λGq gq=>?_
   obtain⟨tx,e,h1,hk,hf⟩:=GJ;obtain⟨a,b,e1,e2,e3⟩:=WY h1;have hb:b∈st.aC:=by rw[e1];exact kf _ fi
   have hno:=I.fm b hb;have he:=I.GH hno;rw[e3]at he;have he':EdB (12+N) e:=he;obtain⟨w1,w2⟩:=he'.words;have e4:st.carry (.mnd f)=st.Ow b e (dn (R.cw e.th) f):=by unfold Ch.carry;rw[e1];show (match st.mo b with | .chg e=>_ | _=>st)=_;rw[e3];rfl
   rw[e4]at q;obtain⟨hf1,w0,hw0,hw1⟩:=Mu;have l1:=vV (R.cw e.th) f;have l2:=R.A8 (zM w1 (by rw[hw0];exact hw1):∀w∈dn (R.cw e.th) f,R.lH w)
   obtain⟨t,rfl,ht⟩:=hv;refine gq ?_;refine mtv rfl X.ob (cZ (by trivial)) ⟨_,rfl,mo,A.C 2,dm,_,.ref t,rfl,hm,T.cl 2 (by decide),T.na2,rfl,?_⟩
   exact⟨o,t,c,st,b,[a],e,f,rfl,hc,e1,hno,e3,hk,he'.ok (by omega),by omega,by omega,ht,hf1.ok (by omega),hf,by omega,q⟩
  |off u =>
   refine⟨_,rfl,rfl,tsf (gK 3 (by decide)) ⟨_,rfl,rfl,tsf (iQ 3 (by decide)) ⟨_,rfl,rfl,tst (lI 3 (by decide)) ?_⟩⟩⟩
   refine aN λGq gq=>?_
   obtain⟨⟨tx,r,h1⟩,_⟩:=GJ;obtain⟨k,r',e1,_⟩:=Oz h1;have e3:st.carry (.off u)=st.sS k u:=by unfold Ch.carry;rw[e1]
   rw[e3]at q;have hv':v=.int u:=hv;subst hv';have:=I.la;refine gq ?_;refine mtv rfl X.ob (cZ (by trivial)) ⟨_,rfl,mo,A.C 3,dm,_,.int u,rfl,hm,T.cl 3 (by decide),T.na3,rfl,?_⟩
   exact⟨o,u,c,st,k,r',rfl,hc,e1,I.Ms (by rw[e1];exact fi),by omega,q⟩
  |cls =>
   refine⟨_,rfl,rfl,tsf (gK 4 (by decide)) ⟨_,rfl,rfl,tsf (iQ 4 (by decide)) ⟨_,rfl,rfl,tsf (lI 4 (by decide)) ⟨_,rfl,rfl,tst (zI 4 (by decide)) ?_⟩⟩⟩⟩
   refine⟨_,rfl,o,A.ak,dx,_,rfl,X.ob,T.ai,T.jq4,(by show 10 < 1000;decide),?_⟩
   rw[zC];obtain⟨s1,X1⟩:=X.attr st.bt true;exact q c _ s1.rp X1.at
  |lay =>
   refine⟨_,rfl,rfl,tsf (gK 5 (by decide)) ⟨_,rfl,rfl,tsf (iQ 5 (by decide)) ⟨_,rfl,rfl,tsf (lI 5 (by decide)) ⟨_,rfl,rfl,tsf (zI 5 (by decide)) ⟨_,rfl,rfl,tst (Cw 5 (by decide)) ?_⟩⟩⟩⟩⟩
   refine aN λGq gq=>?_
   obtain⟨⟨tx,r,h1⟩,_⟩:=GJ;obtain⟨k,r',e1,_⟩:=Oz h1;have e3:st.carry .lay=st.sS k st.bt:=by unfold Ch.carry;rw[e1]
   rw[e3]at q;have:=I.la;refine gq ?_;refine mtv rfl X.ob (cZ (by trivial)) (fh rfl X.ob T.ai T.jq1 ja ?_)
   exact⟨o,st.bt,c,st,k,r',rfl,hc,e1,I.Ms (by rw[e1];exact fi),by omega,q⟩
  |rst =>
   refine⟨_,rfl,rfl,tsf (gK 6 (by decide)) ⟨_,rfl,rfl,tsf (iQ 6 (by decide)) ⟨_,rfl,rfl,tsf (lI 6 (by decide)) ⟨_,rfl,rfl,tsf (zI 6 (by decide)) ⟨_,rfl,rfl,tsf (Cw 6 (by decide)) ⟨_,rfl,rfl,tst (GD 6 (by decide)) ?_⟩⟩⟩⟩⟩⟩
   refine fh rfl X.ob T.ai T.jq1 ja ⟨_,_,rfl,rfl,_,rfl,o,A.ak,dx,_,rfl,X.ob,T.ai,T.jq1,(by show 10 < 1000;decide),?_⟩
   rw[Ds];obtain⟨s1,X1⟩:=X.attr (st.bt+1) st.closed;exact q c _ s1.rp X1.at
theorem OB (T:Txt w.params K mg A){i:Nat}:a8 P w K mg base (CXX P w) 6 A.dA A.lz ["self","ayes","noes"] (R1 A i):=by
 have R5:∀k,k < 8->a8 P w K mg base CX0 1 (A.fn k) (A.fnd k) ["self"] (Cn k):=Om T;refine T.gY.okX lh (λvs H Q E h=>?_) (λcdv A' outer s H vs Q E hr h=>?_)
 ·obtain⟨o,a,b,c,st,N,rfl,_⟩:=h;rfl
 ·obtain⟨o,a,b,c,st,N,rfl,hc,I,hN,ha,hb,q⟩:=h;obtain⟨dx,aM,aP,aA,aD,aF,aE,aR,ms,ds,ws,fs,es,X⟩:=hc.ex;have hu1:=hr.u1;refine⟨_,(aH (gP (vx (px (pv 0)) T.ai T.eL (mO (i:=i) T) (hr.mono (by decide)) T.cP))
 (aH (fB (a9 VQ (dj pL (pv 1) (pv 2)) (bp (pv 0) rfl) (bz _))
 (bA (iT T.zr rfl rfl T.sE (aa au af)))
 (qt aT))
 (aH (psx (br (i:=3) lh.nd rfl (wt rfl) (kF hu1 (bp (pv 0) rfl) (bN je (bp (pv 0) rfl) (yE tE aj) (λ_ _=>rfl)) (λ_ _=>rfl))))
 (aH (psx (br (i:=4) lh.nd rfl (wt rfl) (CJ (iq (bY (GA T) (hr.mono (by decide)) rfl T.AY T.vL.kp T.AX .nil bC (aa (md (n:=8) (Cf:=A.C) (pv 3) T.cl T.L5 R5 (hr.mono (by decide)) T.L6 bC) (aa (pv 1) (aa (pv 2) af))))) au au)))
 (aH (psx (dh (kB (pv 0) T.ai T.j0 (Ba (i:=i) T) (hr.mono (by decide)) T.fO .nil bC (aa (pv 4) af))))
 (aH (psx (cI (a9 cS (pv 4) au (bz _))
 (aq (dh (kB (pv 0) T.ai T.lS (Cz (i:=i) T) hr T.fj .nil bC (aa (pv 3) af))))
 aT))
 (aH (psx (dh (kB (pv 0) T.ai T.fW (qh (i:=i) T) hr T.dF .nil bC (aa (aG (aa au (aa (pv 1) (aa (pv 2) af)))) af))))
 (bA (psx (aI (pv 4))))))))))),?_⟩
  try dsimp only[cD]
  refine mtv rfl X.ob (cZ (by trivial)) ⟨o,c,st,rfl,hc,λhne=>?_,λhe=>?_⟩
  case refine_2 =>
   unfold pb at q;rw[he]at q;exact q c H _ _ (Step.refl bR) hc ⟨rfl,rfl⟩ (λ_ z=>nomatch z)
  refine aN λGq gq=>?_
  obtain⟨pre,n,e⟩:∃pre n,st.aC=pre++[n]:=by
   rcases adY st.aC with e | ⟨pre,n,e⟩
   ·exact absurd e hne
   ·exact⟨pre,n,by rw[e,adZ]⟩
  have gl:st.aC.getLast?=some n:=by rw[e];exact aem
  have ed:st.aC.dropLast=pre:=by rw[e];exact List.dropLast_concat
  unfold pb at q;rw[gl]at q;dsimp only at q;rw[ed]at q;refine gq ?_;refine⟨_,rfl,_,rfl,_,_,rfl,rfl,fh rfl X.ob T.ai T.jq1f Jx ⟨_,_,rfl,rfl,_,rfl,vq (λz=>?_) (λz=>?_)⟩⟩
  ·have z':a+b > st.iD:=of_decide_eq_true z;rw[if_pos z']at q;exact⟨by decide,q c H _ _ (Step.refl bR) hc ⟨rfl,rfl⟩ (λ_ z=>nomatch z)⟩
  refine aN λGq gq=>?_
  have z':¬a+b > st.iD:=λy=>z (decide_eq_true y)
  rw[if_neg z']at q;have hn:n∈st.aC:=by rw[e];simp
  have hno:=I.fm n hn;obtain⟨mo,hv,hmo⟩:=X.Ox hno;have hcp:=hmo;obtain⟨_,dm,v,hm,_⟩:=hmo;have h0:atI (st.aC.map nV) (-1)=some (nV n):=by rw[e,wa];exact yI _ _
  refine gq ?_;refine⟨_,rfl,o,A.ak,dx,_,.ref aM,rfl,X.ob,T.ai,T.jq2,iE,_,rfl,o,A.ak,dx,_,.ref aP,rfl,X.ob,T.ai,T.jq0,fQ,_,rfl,aP,_,_,_,rfl,rfl,SqL.of X.aC.2,h0,aM,_,rfl,.inl ⟨_,kr (n:Int),.inl X.made.2,rfl,hv.symm⟩,?_⟩;refine⟨_,rfl,(st.mo n).k,(st.mo n).k8,mo,dm,_,rfl,hm,Oc _ v,mo,rfl,_,rfl,_,rfl,nd (st.mo n).k,a,b,rfl,_,rfl,?_⟩;obtain⟨I1,GJ⟩:=I.pop e (zN (o8 (nd (st.mo n).k) a b)) (II _);have Mu:=(I.GH hno).mono (ad9 N);have lp:=I.pil.JF;rw[da]at lp;have ld:=I.ld;have lr:=I.lr;have dk:R.DOk (.nums (ar "vote") [a,b]):=zP (by show (ar "vote",2)∈R.jA;trivial) (by
   intro i hi;rcases List.mem_cons.mp hi with h | hi
   ·rw[h];exact ha
   ·rw[ra]at hi;rw[hi];exact hb)
  cases hk:o8 (nd (st.mo n).k) a b with
  |true =>
   rw[hk]at q I1;rw[if_pos rfl]at q;refine nO (mtv rfl X.ob (cZ (by trivial)) ⟨_,rfl,o,Pw,c,st,pre,n,rfl,hc,e,by omega,by omega,λc1 H1 s1 hc1=>?_⟩)
   refine aN λGq gq=>?_
   obtain⟨dx1,aM1,aP1,aA1,aD1,aF1,aE1,aR1,ms1,ds1,ws1,fs1,es1,X1⟩:=hc1.ex;refine gq ?_;refine⟨_,rfl,rfl,tst (by trivial) (mtv rfl X1.ob (cZ (by trivial)) ⟨_,rfl,o,mo,c1,_,st.mo n,N+1,rfl,hc1,hcp.step s1,I1,by omega,GJ,Mu,λc2 H2 s2 hc2=>?_⟩)⟩
   refine aN λGq gq=>?_
   obtain⟨dx2,aM2,aP2,aA2,aD2,aF2,aE2,aR2,ms2,ds2,ws2,fs2,es2,X2⟩:=hc2.ex;have I2:=I1.carry (by omega) GJ Mu
   refine gq ?_;refine mtv rfl X2.ob (cZ (by trivial)) ⟨_,rfl,_,rfl,(sl 3),λt ht=>?_⟩
   have s3:Step (iO i) c2 (bg c2 t none) H2 (upd H2 t (.tup [V.str (ar "vote"),.int a,.int b])):=Step.new bR ht;have X3:=X2.free (W:=λ_=>False) (λ_=>id) (Step.new (x:=none) (o:=.tup [V.str (ar "vote"),.int a,.int b]) id ht)
   have lr2:=I2.lr;refine⟨o,t,_,_,.nums (ar "vote") [a,b],rfl,X3.at,Cy,dk,me lr2 (by omega),λc4 H4 s4 hc4=>⟨_,rfl,?_⟩⟩
   exact q c4 H4 (((s1.trans s2).trans s3).trans s4) hc4
  |false =>
   rw[hk]at q I1;rw[if_neg ki]at q;refine kK (mtv rfl X.ob (cZ (by trivial)) ⟨_,rfl,o,Px,c,st,pre,n,rfl,hc,e,by omega,by omega,λc1 H1 s1 hc1=>?_⟩)
   refine aN λGq gq=>?_
   obtain⟨dx2,aM2,aP2,aA2,aD2,aF2,aE2,aR2,ms2,ds2,ws2,fs2,es2,X2⟩:=hc1.ex;refine gq ?_;refine⟨_,rfl,rfl,tsf (by trivial) ?_⟩
   refine mtv rfl X2.ob (cZ (by trivial)) ⟨_,rfl,_,rfl,(sl 3),λt ht=>?_⟩
   have s3:Step (iO i) c1 (bg c1 t none) H1 (upd H1 t (.tup [V.str (ar "vote"),.int a,.int b])):=Step.new bR ht;have X3:=X2.free (W:=λ_=>False) (λ_=>id) (Step.new (x:=none) (o:=.tup [V.str (ar "vote"),.int a,.int b]) id ht)
   refine⟨o,t,_,_,.nums (ar "vote") [a,b],rfl,X3.at,Cy,dk,by show st.rows.length<=1000;omega,λc4 H4 s4 hc4=>⟨_,rfl,?_⟩⟩
   exact q c4 H4 ((s1.trans s3).trans s4) hc4
theorem OC (T:Txt w.params K mg A){i:Nat}:a8 P w K mg base (CXX P w) 6 A.dB A.lB ["self"] (R3 A i):=by
 refine T.gZ.okX xh (λvs H Q E h=>?_) (λcdv A' outer s H vs Q E hr h=>?_)
 ·obtain⟨o,c,st,N,rfl,_⟩:=h;rfl
 ·obtain⟨o,c,st,N,rfl,hc,I,hN,q⟩:=h;obtain⟨dx,aM,aP,aA,aD,aF,aE,aR,ms,ds,ws,fs,es,X⟩:=hc.ex;refine⟨_,(aH (gP (vx (px (pv 0)) T.ai T.eL (mO (i:=i) T) (hr.mono (by decide)) T.cP))
 (aH (psx (dh (kB (pv 0) T.ai T.j0 (Ba (i:=i) T) (hr.mono (by decide)) T.fO .nil bC (aa au af))))
 (aH (psx (dh (kB (pv 0) T.ai T.fW (qh (i:=i) T) hr T.dF .nil bC (aa (aG (aa au af)) af))))
 (bA (psx (aI au)))))),?_⟩
  try dsimp only[cD]
  refine mtv rfl X.ob (cZ (by trivial)) ⟨o,c,st,rfl,hc,λhne=>?_,λhe=>?_⟩
  case refine_2 =>
   unfold qi at q;rw[he]at q;exact q c H _ _ (Step.refl bR) hc ⟨rfl,rfl⟩ (λ_ z=>nomatch z)
  refine aN λGq gq=>?_
  obtain⟨pre,n,e⟩:∃pre n,st.aC=pre++[n]:=by
   rcases adY st.aC with e | ⟨pre,n,e⟩
   ·exact absurd e hne
   ·exact⟨pre,n,by rw[e,adZ]⟩
  have gl:st.aC.getLast?=some n:=by rw[e];exact aem
  have ed:st.aC.dropLast=pre:=by rw[e];exact List.dropLast_concat
  unfold qi at q;rw[gl]at q;dsimp only at q;rw[ed]at q;have lp:=I.pil.JF;rw[da]at lp;have ld:=I.ld;have lr:=I.lr;refine gq ?_;refine mtv rfl X.ob (cZ (by trivial)) ⟨o,rG,c,st,pre,n,rfl,hc,e,by omega,by omega,λc1 H1 s1 hc1=>?_⟩
  refine aN λGq gq=>?_
  obtain⟨dx2,aM2,aP2,aA2,aD2,aF2,aE2,aR2,ms2,ds2,ws2,fs2,es2,X2⟩:=hc1.ex;refine gq ?_;refine mtv rfl X2.ob (cZ (by trivial)) ⟨(sl 1),λt ht=>?_⟩
  have s3:Step (iO i) c1 (bg c1 t none) H1 (upd H1 t (.tup [V.str (ar "drop")])):=Step.new bR ht;have X3:=X2.free (W:=λ_=>False) (λ_=>id) (Step.new (x:=none) (o:=.tup [V.str (ar "drop")]) id ht)
  refine⟨o,t,_,_,.nums (ar "drop") [],rfl,X3.at,Cy,zP (by trivial) (λ_ h=>nomatch h),by show st.rows.length<=1000;omega,λc4 H4 s4 hc4=>?_⟩
  exact q c4 H4 ((s1.trans s3).trans s4) hc4
theorem OD (T:Txt w.params K mg A){i:Nat}:a8 P w K mg base (CXX P w) 6 A.dC A.lC ["self","number"] (R4 A i):=by
 have kW:a8 P w K mg base CX0 4 A.mh A.ic ["deed"] (R.Ct K):=R.pY T;refine T.g0.okX p8 (λvs H Q E h=>?_) (λcdv A' outer s H vs Q E hr h=>?_)
 ·obtain⟨o,z,c,st,N,rfl,_⟩:=h;rfl
 ·obtain⟨o,z,c,st,N,rfl,hc,I,hN,hz0,hz1,q⟩:=h;obtain⟨dx,aM,aP,aA,aD,aF,aE,aR,ms,ds,ws,fs,es,X⟩:=hc.ex;have hu1:=hr.u1;have hgd:=hr.gd;have lim:gn=16777216:=by decide
  refine⟨_,(aH (fB (qN (bp (pv 0) rfl) (λ_=>rfl))
 (bA (pO T.oY (wR T) (hr.mono (by decide)) T.mE rfl rfl T.rb (aa (bY (Bb T) (hr.mono (by decide)) rfl T.ze T.uA.kp T.zd .nil bC (aa (fA (pv 0) T.ai T.jv (zE (i:=i) T) (hr.mono (by decide)) T.eV .nil bC) (aa (bp (pv 0) rfl) af))) af)))
 (qt aT))
 (aH (fB (FI (vz hu1 (pv 1) (bp (pv 0) rfl)))
 (bA (iT T.zu rfl rfl T.sF (aa (yQ (kL (tG (pv 1) (kL tF)))) af)))
 (qt aT))
 (aH (psx (br (i:=2) p8.nd rfl (wt rfl) (bN bG (kF hu1 (bp (pv 0) rfl) (pv 1) (λ_ _=>rfl)) aj (λ_ _=>rfl))))
 (aH (fB (a9 KA (bp (pv 0) rfl) (pv 2) (bz _))
 (bA (pO T.sG (Dv T) (hr.mono (by decide)) T.pW rfl rfl T.uI (aa (pv 2) af)))
 (qt aT))
 (aH (psx (fw (pv 0) (bN QP (Ly (bp (pv 0) rfl) (pv 1) ⟨rfl,rfl,rfl,rfl⟩) aj (λ_ _=>rfl)) rfl))
 (aH (psx (dh (mi adt adM adN gi (bp (pv 0) rfl) (aa (bY kW (hr.mono (by decide)) rfl T.nF T.kP.kp T.nD .nil bC (aa (aG (aa au (aa (pv 1) af))) af)) af))))
 (bA (psx (aI (pv 1)))))))))),?_⟩
  try dsimp only[cD]
  by_cases hz:z=-1
  ·subst hz;refine fh rfl X.ob T.ai T.jq0 fQ ⟨_,.inl ⟨_,.inl (.inl X.aC.2),rfl⟩,?_⟩;rw[show ((-1:Int).toNat)=0 from rfl]at q
   unfold stepT at q;cases e:st.aC with
   |cons k0 r0 =>
    rw[if_neg (by rw[e];exact adX _ _)]at q
    have lp:=I.pil.JF;rw[da]at lp;have hb:=zG st.closed (st.aC.map st.mo);have hb0:0<=tU st.closed (st.aC.map st.mo):=Int.le_trans (by
     by_cases z:rC (st.aC.map st.mo) < 0
     ·have:=zL z;rw[e]at this;cases this
     ·omega) (rF _ _)
    refine nO (mtv rfl X.ob (cZ (by trivial)) ⟨o,c,st,rfl,hc,I.fm,by omega,λB os hB hos=>?_⟩)
    have sB:=aK (o:=.lst (os.map V.ref)) hB;refine fh rfl (sB _ _ X.ob) T.ai T.jq4 pZ ⟨B,st.closed,c,st.aC.map st.mo,os,rfl,⟨SqL.of ah,uU sB hos⟩,?_⟩;refine⟨_,rfl,o9 (by omega) (by omega),λd hd=>?_⟩
    exact q (gf c H) _ _ _ (Step.cl bR (sB.new hd)) (X.cl (sB.new hd)).at ⟨rfl,d,rfl,ah⟩ (λ_ z=>by cases z;exact g9 (same_none sB hd))
   |nil =>
    rw[if_pos e,I.no0]at q;refine kK ?_;refine⟨_,rfl,fh rfl X.ob T.ai T.jq3 j1 ⟨aA,_,rfl,.inl ⟨_,kr (-1),.inl X.aL.2,rfl,rfl⟩,_,rfl,?_⟩⟩;rw[Bg];have l1:(adE++ar "no matter of the number ":Str).length=24:=by trivial
    have l2:(ar " is aside").length=9:=by trivial
    have l3:(ar (toString (-1:Int))).length=2:=by trivial
    refine nO ⟨by rw[l1];omega,_,rfl,_,.int (by decide),by rw[l3];omega,by rw[len_app,l1,l3];omega,by rw[len_app,len_app,l1,l2,l3];omega,by rw[len_app,len_app,l1,l2,l3];omega,(sl 1),?_⟩
    exact q c H _ _ (Step.refl bR) hc ⟨rfl,rfl⟩ (λ_ z=>nomatch z)
  refine aN λGq gq=>?_
  obtain⟨n,rfl⟩:∃n:Nat,z=(n:Int):=⟨z.toNat,by omega⟩
  rw[Int.toNat_natCast]at q;have adl:n < 10 ^ 10:=by
   have:(10:Nat) ^ 10=10000000000:=by decide
   have:(10:Int) ^ 10=10000000000:=by decide
   omega
  clear hz hz0 hz1;refine gq ?_;refine fh rfl X.ob T.ai T.jq0 fQ ⟨_,.inl ⟨_,.inl (.inl X.aC.2),rfl⟩,?_⟩;unfold stepT at q;cases e:st.aC with
  |cons k0 r0 =>
   rw[if_neg (by rw[e];exact adX _ _)]at q
   have lp:=I.pil.JF;rw[da]at lp;have hb:=zG st.closed (st.aC.map st.mo);have hb0:0<=tU st.closed (st.aC.map st.mo):=Int.le_trans (by
    by_cases z:rC (st.aC.map st.mo) < 0
    ·have:=zL z;rw[e]at this;cases this
    ·omega) (rF _ _)
   refine nO (mtv rfl X.ob (cZ (by trivial)) ⟨o,c,st,rfl,hc,I.fm,by omega,λB os hB hos=>?_⟩)
   have sB:=aK (o:=.lst (os.map V.ref)) hB;refine fh rfl (sB _ _ X.ob) T.ai T.jq4 pZ ⟨B,st.closed,c,st.aC.map st.mo,os,rfl,⟨SqL.of ah,uU sB hos⟩,?_⟩;refine⟨_,rfl,o9 (by omega) (by omega),λd hd=>?_⟩
   exact q (gf c H) _ _ _ (Step.cl bR (sB.new hd)) (X.cl (sB.new hd)).at ⟨rfl,d,rfl,ah⟩ (λ_ z=>by cases z;exact g9 (same_none sB hd))
  |nil =>
   rw[if_pos e]at q;refine kK ?_;refine⟨_,rfl,fh rfl X.ob T.ai T.jq3 j1 ⟨aA,_,rfl,.inl ⟨_,kr (n:Int),.inl X.aL.2,rfl,rfl⟩,_,rfl,?_⟩⟩;cases hx:at1 n st.aL with
   |none =>
    rw[hx]at q;rw[p4 (zJ hx)];have l1:(adE++ar "no matter of the number ":Str).length=24:=by trivial
    have l2:(ar " is aside").length=9:=by trivial
    have e10:(10:Nat) ^ 10=10000000000:=by decide
    have l3:(ar (toString (n:Int))).length<=20:=sI (by omega) (by omega)
    refine nO ⟨by rw[l1];omega,_,rfl,_,.int (j2 (by omega) (by omega)),by omega,by rw[len_app,l1];omega,by rw[len_app,len_app,l1,l2];omega,by rw[len_app,len_app,l1,l2];omega,(sl 1),?_⟩
    exact q c H _ _ (Step.refl bR) hc ⟨rfl,rfl⟩ (λ_ z=>nomatch z)
   |some x =>
    refine aN λGq gq=>?_
    rw[hx]at q;dsimp only at q;obtain⟨t,p,hv,ht,hl⟩:=X.waitOf hx;refine gq ?_;rw[hv];refine kK ?_;refine⟨_,rfl,o,A.ak,dx,_,.ref aA,rfl,X.ob,T.ai,T.jq3,j1,_,rfl,aA,_,rfl,.inl ⟨_,kr (n:Int),.inl X.aL.2,rfl,hv.symm⟩,t,_,_,_,rfl,rfl,ht.sq,rfl,?_⟩;refine⟨_,rfl,o,A.ak,dx,_,.int st.bt,rfl,X.ob,T.ai,T.jq1,ja,_,rfl,_,_,rfl,rfl,_,rfl,vq (λz=>?_) (λz=>?_)⟩
    ·have z':st.bt < x.2.1:=of_decide_eq_true z;refine aN λGq gq=>?_
     rw[if_pos z']at q;obtain⟨_,_,b1,b2⟩:=I.asd x (nI hx).2;refine gq ?_;refine⟨_,rfl,_,rfl,o9 (by have:=I.sit.1;omega) b2,λd hd=>?_⟩
     exact q (gf c H) _ _ _ (Step.cl bR (aK hd)) (X.cl (aK hd)).at ⟨rfl,d,rfl,ah⟩ (λ_ z=>by cases z;exact g9 hd)
    ·have z':¬st.bt < x.2.1:=λy=>z (decide_eq_true y)
     rw[if_neg z']at q;have nAt:t≠aA:=λy=>by have:=ht.1;rw[y,X.aL.1]at this;cases this
     have ht':SqT K (upd H aA (.dK (lK (bJ ((st.aL.map (·.1)).zip ws)) (kr (n:Int))))) t [.int x.2.1,.ref p]:=by
      rcases ht.2 with h | ⟨u,h⟩
      ·exact .inl (.inl ((aw nAt).trans h))
      ·exact .inl (.inr ⟨u,(aw nAt).trans h⟩)
     have oA:o≠aA:=rE X.co X.aL.1 (λz=>nomatch z)
     refine fh rfl X.ob T.ai T.jq3 j1 ⟨aA,rfl,.inl ⟨_,.inl X.aL.2⟩,_,rfl,_,kr (n:Int),_,X.aL.2,rfl,hv,.inr (.inl ⟨t,_,1,.ref p,rfl,rfl,ht',rfl,?_⟩)⟩;refine⟨_,rfl,o,A.ak,dx,_,rfl,(aw oA).trans X.ob,T.ai,T.jq0,(by show 10 < 1000;decide),?_⟩
     rw[Dt];refine aN λGq gq=>?_
     obtain⟨c1,ws1,s1,X1⟩:=X.uP hl;refine gq ?_;generalize upd (upd H aA (.dK (lK (bJ ((st.aL.map (·.1)).zip ws)) (kr (n:Int))))) o (.ins A.ak dx (chF (.int st.iD) (.int st.bt) (.bl st.closed) (.ref aM) (.ref p) (.ref aA) (.ref aD) (.ref aF) (.ref aE) (.ref aR)))=H1 at s1 X1 ⊢
     have lr:=I.lr;have h10:(n:Int) < 10 ^ 10:=by
      have:(10:Nat) ^ 10=10000000000:=by decide
      have:(10:Int) ^ 10=10000000000:=by decide
      omega
     refine fh rfl X1.ob T.ai T.jqc rB ⟨.inl ⟨rfl,_,SqL.of X1.rows.2⟩,_,rfl,(sl 2),λu hu=>?_⟩
     have s2:=aK (o:=.tup [V.str (ar "take"),nV n]) hu;refine⟨u,.nums (ar "take") [(n:Int)],rfl,SqT.of ah,zP (by show (ar "take",1)∈R.jA;trivial) (by intro i hi;rw[ra]at hi;rw[hi];exact⟨by omega,h10⟩),λH2 s3=>?_⟩
     have X2:=X1.same (s2.trans s3);obtain⟨s4,X3⟩:=X2.row (R.jC (.nums (ar "take") [(n:Int)]));refine⟨aR,_,_,rfl,rfl,X2.rows.2,by rw[da];show st.rows.length < _;omega,_,rfl,?_⟩
     exact q c1 _ ((s1.rp.trans (Step.same bR (s2.trans s3))).trans s4.rp) X3.at
end
def jD:R.d7->Mn
 | .mat cs=>.mat (cs.map (ka R.bl1))
 | .ed m k j ws=>if m=true then .mnd ⟨k,j,ka R.bl1 ws⟩ else .chg ⟨k,j,ka R.bl1 ws⟩
 | .pt ws=>.pnt (ka R.bl1 ws)
 | .nums kd ns=>if kd=ar "put off" then .off (ns.getD 0 0) else if kd=ar "close" then .cls else if kd=ar "lay" then .lay else .rst
def sN:List (Str×Nat):=[(ar "put off",1),(ar "close",0),(ar "lay",0),(ar "rest",0)]
def DB:R.d7->Prop
 | .mat cs=>cs.length<=12/\∀ws∈cs,R.sP 12 ws
 | .ed m k j ws=>(k=0\/k=1\/k=2)/\(-1000<=j/\j<=1000)/\R.sP 12 ws/\(m=true->ws.length=1)
 | .pt ws=>R.sP 12 ws
 | .nums kd ns=>(kd,ns.length)∈sN/\∀i∈ns,-10000000000 < i/\i < 10 ^ 10
theorem uV {kd:Str}{ns:List Int}(h:(kd,ns.length)∈sN):(∃u,kd=ar "put off"/\ns=[u])\/(kd=ar "close"/\ns=[])\/(kd=ar "lay"/\ns=[])\/(kd=ar "rest"/\ns=[]):=by
 unfold sN at h;simp only[List.mem_cons,aeH,or_false,Prod.mk.injEq]at h;rcases h with ⟨h1,h2⟩ | ⟨h1,h2⟩ | ⟨h1,h2⟩ | ⟨h1,h2⟩
 ·cases ns with
  |nil=>simp at h2
  |cons u r =>
   cases r with
   |nil=>exact .inl ⟨u,h1,rfl⟩
   |cons _ _=>simp at h2
 ·exact .inr (.inl ⟨h1,List.length_eq_zero_iff.mp h2⟩)
 ·exact .inr (.inr (.inl ⟨h1,List.length_eq_zero_iff.mp h2⟩))
 ·exact .inr (.inr (.inr ⟨h1,List.length_eq_zero_iff.mp h2⟩))
theorem DC {n:Nat}{ws:List Str}(h:R.sP n ws):Lk (ka R.bl1 ws)=true:=(R.Clause.asc (n:=n) ⟨rfl,h.len,h.wd⟩).ok
theorem Mv {N:Nat}:∀ {d:R.d7},DB d->MOk N (jD d)
 | .mat cs,h=>by
  refine⟨?_,?_⟩
  ·rw[da];have:=h.1;omega
  ·intro x hx;obtain⟨ws,hw,rfl⟩:=List.mem_map.mp hx;exact DC (h.2 ws hw)
 | .ed m k j ws,h=>by
  obtain⟨h1,⟨h2,h3⟩,h4,h5⟩:=h;cases m with
  |true =>
   show EdB 1 ⟨k,j,ka R.bl1 ws⟩/\_;have hl:=h5 rfl
   match ws,hl,h4 with
   |[x],_,h4=>exact⟨⟨h1,h2,h3,[x],rfl,h4.wd,km 1⟩,x,rfl,h4.wd x fi⟩
  |false =>
   show EdB (12+N) ⟨k,j,ka R.bl1 ws⟩;exact⟨h1,h2,h3,ws,rfl,h4.wd,by have:=h4.len;omega⟩
 | .pt ws,h=>DC h
 | .nums kd ns,h=>by
  obtain⟨h1,h2⟩:=h;rcases uV h1 with ⟨u,rfl,rfl⟩ | ⟨rfl,rfl⟩ | ⟨rfl,rfl⟩ | ⟨rfl,rfl⟩
  ·rw[jD,if_pos rfl];obtain⟨a,b⟩:=h2 u fi;have:(10:Int) ^ 10=10000000000:=by decide
   exact⟨a,by show u < _;omega⟩
  ·rw[jD,if_neg (by trivial),if_pos rfl];trivial
  ·rw[jD,if_neg (by trivial),if_neg (by trivial),if_pos rfl];trivial
  ·rw[jD,if_neg (by trivial),if_neg (by trivial),if_neg (by trivial)];trivial
theorem Py {M:Nat}{e:Ed}(h:il M e=true):0<=e.at_:=(Dn.mp h).1
theorem R6 {N:Nat}{st:Ch}(I:Inv N st){d:R.d7}(h:DB d)(hc:uT st (jD d)=none):R.DOk d:=by
 have ho:zF st.closed (st.aC.map st.mo) (jD d).k=none/\sT st (jD d)=none:=by
  unfold uT at hc;split at hc
  ·cases hc
  ·exact⟨by assumption,hc⟩
 obtain⟨h0,hf⟩:=ho;cases d with
 |mat cs=>exact h
 |pt ws=>exact h
 |ed m k j ws =>
  obtain⟨h1,⟨h2,h3⟩,h4,h5⟩:=h;have e10:(10:Int) ^ 10=10000000000:=by decide
  refine⟨h1,⟨?_,by omega⟩,h4,h5⟩
  cases m with
  |true =>
   rw[jD,if_pos rfl]at h0 hf;have h3:p0 (st.aC.map st.mo)=true:=(uR h0).2;unfold p0 at h3;split at h3
   ·rename_i e he;unfold sT at hf;dsimp only at hf;rw[he]at hf;dsimp only at hf;split at hf
    ·rename_i h6;exact Py h6
    ·cases hf
   ·cases h3
  |false =>
   rw[jD,if_neg ki]at h0 hf;obtain⟨tx,r,e1⟩:=I.pil.JE (uR h0).2;unfold sT at hf;dsimp only at hf;rw[e1]at hf;dsimp only at hf;split at hf
   ·rename_i h6;exact Py h6
   ·cases hf
 |nums kd ns =>
  obtain⟨h1,h2⟩:=h;have s1:=I.sit.1;rcases uV h1 with ⟨u,rfl,rfl⟩ | ⟨rfl,rfl⟩ | ⟨rfl,rfl⟩ | ⟨rfl,rfl⟩
  ·rw[jD,if_pos rfl]at hf;refine⟨by show (ar "put off",1)∈R.jA;trivial,λi hi=>?_⟩
   rw[ra]at hi;subst hi;unfold sT at hf;dsimp only at hf;split at hf
   ·cases hf
   ·rename_i h6;have h7:¬i<=st.bt:=h6;exact⟨by omega,(h2 i fi).2⟩
  ·exact⟨by trivial,λ_ h=>nomatch h⟩
  ·exact⟨by trivial,λ_ h=>nomatch h⟩
  ·exact⟨by trivial,λ_ h=>nomatch h⟩
theorem zQ {i:Nat}{c:Col}{H:Hp}{t:Addr}:∀ {d:R.d7},DB d->tj i c H d t->∃v,vR i c H t (rowOf (jD d).k v)/\((jD d).k=0->∃L tx,v=.ref L/\jD d=.mat tx/\JD i c H L (tx.map V.str))/\((jD d).k≠0->(jD d).Val c H v)
 | .mat cs,_,⟨L,a,b⟩=>⟨.ref L,a,λ_=>⟨L,_,rfl,rfl,b⟩,λz=>absurd rfl z⟩
 | .ed true k j ws,h,⟨e,a,b⟩=>⟨.ref e,a,λz=>(nomatch z),λ_=>⟨e,rfl,by rw[<-Mp h.1];exact b⟩⟩
 | .ed false k j ws,h,⟨e,a,b⟩=>⟨.ref e,a,λz=>(nomatch z),λ_=>⟨e,rfl,by rw[<-Mp h.1];exact b⟩⟩
 | .pt ws,_,a=>⟨.str (ka R.bl1 ws),a,λz=>(nomatch z),λ_=>rfl⟩
 | .nums kd ns,h,a=>by
  rcases uV h.1 with ⟨u,rfl,rfl⟩ | ⟨rfl,rfl⟩ | ⟨rfl,rfl⟩ | ⟨rfl,rfl⟩
  ·rw[jD,if_pos rfl];exact⟨.int u,a,λz=>(nomatch z),λ_=>rfl⟩
  ·rw[jD,if_neg (by trivial),if_pos rfl]
   exact⟨.non,a,λz=>(nomatch z),λ_=>trivial⟩
  ·rw[jD,if_neg (by trivial),if_neg (by trivial),if_pos rfl]
   exact⟨.non,a,λz=>(nomatch z),λ_=>trivial⟩
  ·rw[jD,if_neg (by trivial),if_neg (by trivial),if_neg (by trivial)]
   exact⟨.non,a,λz=>(nomatch z),λ_=>trivial⟩
def Mw (A:Adr)(K:cb):Sp:=λvs H Q E=>Iy A vs H Q E\/Dp A K vs H Q E
def W0 (A:Adr)(i:Nat):Sp:=λvs H Q E=>∃(o t:Addr) (c:Col) (st:Ch) (N:Nat) (d:R.d7),vs=[.ref o,.ref t]/\fP A i c H o st/\Inv N st/\N<=800/\DB d/\tj i c H d t /\
 (uT st (jD d)=none->∀H',bT H H'->Q .non H')/\∀x,uT st (jD d)=some x->∀C e H',bT H H'->x.New A H H' C e->E C e H'
def R7 (A:Adr)(i:Nat):Sp:=λvs H Q E=>∃(o t:Addr) (c:Col) (st:Ch) (N:Nat) (d:R.d7),vs=[.ref o,.ref t]/\fP A i c H o st/\Inv N st/\N<=800/\DB d/\tj i c H d t/\wU A i c H o (lT st (jD d) (R.jC d)) Q E
theorem MOk.ed1 {N:Nat}{e:Ed}(h:MOk N (.chg e))(hN:N<=800):uJ e:=EdB.ok h (by omega)
theorem MOk.ed2 {N:Nat}{e:Ed}(h:MOk N (.mnd e)):uJ e:=EdB.ok h.1 (by decide)
section
variable{P:ma}{w:World}{K:cb}{mg:Str->Option Value}{base:Heap}{A:Adr}
theorem p5 (T:Txt w.params K mg A){i:Nat}:a8 P w K mg base (CXX P w) 6 A.a7 A.dP ["self","told"] (W0 A i):=by
 have mJ:a8 P w K mg base CX0 1 A.words_of A.i5 ["clause"] R.sH:=R.kS T;refine T.cy.okX dN (λvs H Q E h=>?_) (λcdv A' outer s H vs Q E hr h=>?_)
 ·obtain⟨o,t,c,st,N,d,rfl,_⟩:=h;rfl
 ·obtain⟨o,t,c,st,N,d,rfl,hc,I,hN,hd,hdc,q,qx⟩:=h;obtain⟨dx,aM,aP,aA,aD,aF,aE,aR,ms,ds,ws,fs,es,X⟩:=hc.ex;have hu1:=hr.u1;refine⟨_,(aH (psx (br (i:=2) dN.nd rfl (wt rfl) (bN bG (pv 1) aj (λ_ _=>rfl))))
 (aH (psx (br (i:=3) dN.nd rfl (wt rfl) (fA (pv 0) T.ai T.jv (zE (i:=i) T) (hr.mono (by decide)) T.eV .nil bC)))
 (aH (gP (oH (sQ T) hr rfl T.my T.iN.kp T.mx (pax (aa (pv 2) (aa (pv 3) (aa (bp (pv 0) rfl) af))))))
 (bA (fB (a9 cS (pv 2) au (bz _))
 (bA (gP (oH (mH T) (hr.mono (by decide)) rfl T.kJ T.iC.kp T.kH (pax (aa (bp (bN je (pv 3) aj (λ_ _=>rfl)) rfl) (aa (bN bG (pv 1) aj (λ_ _=>rfl)) af))))))
 (bA (fB (a9 cS (pv 2) au (bz _))
 (bA (gP (oH (mH T) (hr.mono (by decide)) rfl T.kJ T.iC.kp T.kH (pax (aa (bY mJ (hr.mono (by decide)) rfl T.jZ T.iM.kp T.jY .nil bC (aa (bN bG (bp (bN je (pv 3) (yE tE aj) (λ_ _=>rfl)) rfl) aj (λ_ _=>rfl)) af)) (aa (bN bG (pv 1) aj (λ_ _=>rfl)) af))))))
 (bA (fB (PW.pt (pw_and (a9 cS (pv 2) au (bz _)) (pw_and1 (a9 HZ (bN bG (pv 1) aj (λ_ _=>rfl)) (bp (pv 0) rfl) (bz _)))))
 (bA (pO T.nG (Ar T) (hr.mono (by decide)) T.lY rfl rfl T.pV (aa (bp (pv 0) rfl) af)))
 (qt aT)))))))))),?_⟩
  try dsimp only[cD]
  refine aN λGq gq=>?_
  obtain⟨v,ht,hv0,hv1⟩:=zQ hd hdc;have hmk:=Mv (N:=N) hd;refine gq ?_;generalize jD d=m at ht hv0 hv1 hmk q qx;have lp:=I.pil.JF;rw[da]at lp;refine ixv rfl (SqT.of ht.2) l7 ?_;refine mtv rfl X.ob (cZ (by trivial)) ⟨o,c,st,rfl,hc,I.fm,by omega,λB os hB hos=>?_⟩
  have sB:=aK (o:=.lst (os.map V.ref)) hB;have hp:uN A K c (upd H B (.lst (os.map V.ref))) B (st.aC.map st.mo) os:=⟨SqL.of ah,uU sB hos⟩;generalize upd H B (.lst (os.map V.ref))=H1 at sB hp;refine⟨_,rfl,_,rfl,fh rfl (sB _ _ X.ob) T.ai T.jq4 pZ ⟨m.k,B,st.closed,c,st.aC.map st.mo,os,rfl,m.k8,hp,by rw[da];omega,λho H2 s2=>?_,λx hx C e H2 s2 hat=>?_⟩⟩
  case refine_2=>exact qx x (by unfold uT;rw[hx]) C e H2 (sB.trans s2) ⟨hat.1,λa z=>same_none sB (hat.2 a z)⟩
  have ec:uT st m=sT st m:=by unfold uT;rw[ho]
  rw[ec]at q qx;have s12:=sB.trans s2;have hp2:=hp.same s2;obtain⟨h1,h2⟩:=uR ho;have X2:=X.same s12;have ht2:H2 t=some (.tup (rowOf m.k v)):=s12 _ _ ht.2;cases m with
  |mat tx=>exact⟨_,rfl,rfl,tsf (gK 0 (by decide)) ⟨_,rfl,rfl,tsf (iQ 0 (by decide)) ⟨_,rfl,rfl,tsf (lI 0 (by decide)) (kK (q rfl H2 s12))⟩⟩⟩
  |pnt z=>exact⟨_,rfl,rfl,tsf (gK 7 (by decide)) ⟨_,rfl,rfl,tsf (iQ 7 (by decide)) ⟨_,rfl,rfl,tsf (lI 7 (by decide)) (kK (q rfl H2 s12))⟩⟩⟩
  |cls=>exact⟨_,rfl,rfl,tsf (gK 4 (by decide)) ⟨_,rfl,rfl,tsf (iQ 4 (by decide)) ⟨_,rfl,rfl,tsf (lI 4 (by decide)) (kK (q rfl H2 s12))⟩⟩⟩
  |lay=>exact⟨_,rfl,rfl,tsf (gK 5 (by decide)) ⟨_,rfl,rfl,tsf (iQ 5 (by decide)) ⟨_,rfl,rfl,tsf (lI 5 (by decide)) (kK (q rfl H2 s12))⟩⟩⟩
  |rst=>exact⟨_,rfl,rfl,tsf (gK 6 (by decide)) ⟨_,rfl,rfl,tsf (iQ 6 (by decide)) ⟨_,rfl,rfl,tsf (lI 6 (by decide)) (kK (q rfl H2 s12))⟩⟩⟩
  |chg e =>
   refine⟨_,rfl,rfl,tst (gK 1 (by decide)) ?_⟩
   refine aN λGq gq=>?_
   obtain⟨tx,r,e1⟩:=I.pil.JE h2;obtain⟨te,rfl,hte⟩:=hv1 (by simp[Mn.k])
   rw[e1]at hp2;obtain⟨hB2,ho2⟩:=hp2;refine gq ?_;cases ho2 with
   | @cons _ ob _ bs hm adh =>
    refine aN λGq gq=>?_
    obtain⟨_,dm,v,hm2,L,rfl,hL⟩:=hm;refine gq ?_;refine ixv rfl hB2 (pM (j:=0) rfl) ⟨ob,A.C 0,dm,_,.ref L,rfl,hm2,T.cl 0 (by decide),T.na0,rfl,ixv rfl (SqT.of ht2) rfl ?_⟩
    refine⟨L,te,tx.map V.str,e,rfl,SqL.of hL.2,eQ s12 hte.sq,hmk.ed1 hN,λhf=>?_,λhf=>?_⟩
    ·rw[da]at hf;refine q ?_ H2 s12;unfold sT;dsimp only;rw[e1];dsimp only;rw[if_pos hf]
    ·rw[da]at hf;refine qx .noFit ?_ _ _ H2 s12 ⟨⟨rfl,rfl⟩,λ_ z=>nomatch z⟩
     unfold sT;dsimp only;rw[e1];dsimp only;rw[if_neg (by rw[hf];decide)]
  |mnd f =>
   refine⟨_,rfl,rfl,tsf (gK 2 (by decide)) ⟨_,rfl,rfl,tst (iQ 2 (by decide)) ?_⟩⟩
   refine aN λGq gq=>?_
   have h3:p0 (st.aC.map st.mo)=true:=h2;unfold p0 at h3;obtain⟨e,he,hk1⟩:∃e,(st.aC.map st.mo).getLast?=some (.chg e)/\e.k≠1:=by
    split at h3
    ·rename_i e he;exact⟨e,he,λz=>by rw[z]at h3;cases h3⟩
    ·cases h3
   obtain⟨r,e1⟩:=sM he;obtain⟨te,rfl,hte⟩:=hv1 (by simp[Mn.k])
   obtain⟨hB2,ho2⟩:=hp2;obtain⟨pre,ob,eo⟩:∃pre ob,os=pre++[ob]:=by
    have hl:=ho2.len;rw[e1,kq,ady]at hl;rcases adY os with e | ⟨pre,n,e⟩
    ·rw[e]at hl;simp at hl
    ·exact⟨pre,n,by rw[e,adZ]⟩
   subst eo;obtain⟨as',a,e3,_,hm⟩:=ho2.last;rw[e1]at e3;obtain⟨_,e4⟩:=List.append_inj' e3 rfl;cases e4;obtain⟨_,dm,v,hm2,tc,rfl,htc⟩:=hm;have hem:EdB (12+N) e:=by
    have R8:Mn.chg e∈st.aC.map st.mo:=by rw[e1];simp
    obtain⟨k,hk,ek⟩:=List.mem_map.mp R8;have:=I.GH (I.fm k hk);rw[ek]at this;exact this
   have heo:uJ e:=hem.ok (by omega)
   refine gq ?_;refine⟨_,rfl,_,rfl,B,_,_,_,rfl,rfl,hB2,zH pre ob,ob,A.C 1,dm,_,.ref tc,rfl,hm2,T.cl 1 (by decide),T.na1,rfl,tc,_,_,_,rfl,rfl,htc.sq,Cj hk1,e.th,rfl,?_,λp1 hp1=>?_⟩
   ·have:=heo.th.len;have lim:gn=16777216:=by decide
    omega
   have s3:=aK (o:=.lst ((R.cw e.th).map V.str)) hp1;have s13:=s12.trans s3;refine ixv rfl (SqT.of (s3 _ _ ht2)) rfl ?_;refine⟨p1,te,(R.cw e.th).map V.str,f,rfl,SqL.of ah,eQ s13 hte.sq,hmk.ed2,λhf=>?_,λhf=>?_⟩
   ·rw[da]at hf;refine q ?_ _ s13;unfold sT;dsimp only;rw[he];dsimp only;rw[if_pos hf]
   ·rw[da]at hf;refine qx .noFit ?_ _ _ _ s13 ⟨⟨rfl,rfl⟩,λ_ z=>nomatch z⟩
    unfold sT;dsimp only;rw[he];dsimp only;rw[if_neg (by rw[hf];decide)]
  |off u =>
   have hv':v=.int u:=hv1 (by simp[Mn.k])
   subst hv';refine⟨_,rfl,rfl,tsf (gK 3 (by decide)) ⟨_,rfl,rfl,tsf (iQ 3 (by decide)) ⟨_,rfl,rfl,tst (lI 3 (by decide)) ?_⟩⟩⟩
   refine ixv rfl (SqT.of ht2) rfl (fh rfl X2.ob T.ai T.jq1 ja ⟨_,_,rfl,rfl,_,rfl,vq (λz=>?_) (λz=>?_)⟩)
   ·have z':u<=st.bt:=of_decide_eq_true z;have:=I.sit;refine fh rfl X2.ob T.ai T.jq1 ja ⟨_,rfl,o9 (by omega) (by omega),λd hd=>?_⟩
    refine qx (.eF st.bt) ?_ _ _ _ (s12.new hd) ⟨⟨rfl,d,rfl,ah⟩,λ_ z=>by cases z;exact same_none s12 hd⟩
    unfold sT;dsimp only;rw[if_pos z']
   ·have z':¬u<=st.bt:=λy=>z (decide_eq_true y)
    refine q ?_ _ s12;unfold sT;dsimp only;rw[if_neg z']
theorem OE (T:Txt w.params K mg A):a8 P w K mg base CX0 3 A.oW A.jj ["told"] (Mw A K):=Wh (Cs T) (Aq T)
theorem Mx {i:Nat}{c:Col}{H:Hp}{t:Addr}{m:Mn}{v:V}{Q:VK}{E:XK}(ht:vR i c H t (rowOf m.k v))(hv0:m.k=0->∃L tx,v=.ref L/\m=.mat tx/\JD i c H L (tx.map V.str))(hv1:m.k≠0->m.Val c H v)
  (q:∀mo H',bT H H'->mM A (gf c H) H' m mo->Q (.ref mo) H'):Mw A K [.ref t] H Q E:=by
 by_cases h0:m.k=0
 ·obtain⟨L,tx,rfl,rfl,hL⟩:=hv0 h0;refine .inr ⟨t,L,tx.map V.str,rfl,ht.2,SqL.of hL.2,λmo p H' s hm hp hp' hmo=>q mo H' s ?_⟩
  obtain⟨dx,hmo⟩:=hmo;exact⟨g9 hm,dx,.ref p,hmo,p,rfl,g9 hp,hp'⟩
 ·refine .inl ⟨t,m.k,v,by omega,m.k8,rfl,ht.2,λmo H' s hm hmo=>q mo H' s ?_⟩
  obtain⟨dx,hmo⟩:=hmo;exact⟨g9 hm,dx,v,hmo,(hv1 h0).step (Step.cl (W:=λ_=>False) id s)⟩
theorem OF (T:Txt w.params K mg A){i:Nat}:a8 P w K mg base (CXX P w) 7 A.dz A.ly ["self","told"] (R7 A i):=by
 have kW:a8 P w K mg base CX0 4 A.mh A.ic ["deed"] (R.Ct K):=R.pY T;refine T.gX.okX p7 (λvs H Q E h=>?_) (λcdv A' outer s H vs Q E hr h=>?_)
 ·obtain⟨o,t,c,st,N,d,rfl,_⟩:=h;rfl
 ·obtain⟨o,t,c,st,N,d,rfl,hc,I,hN,hd,hdc,q⟩:=h;obtain⟨dx,aM,aP,aA,aD,aF,aE,aR,ms,ds,ws,fs,es,X⟩:=hc.ex;have hu1:=hr.u1;have lim:gn=16777216:=by decide
  refine⟨_,(aH (gP (jg (px (pv 0)) T.ai T.fU (p5 (i:=i) T) hr T.cT (pax (aa (pv 1) af))))
 (aH (psx (br (i:=2) p7.nd rfl (wt rfl) (dj pL (bW Jt (by rfl) T.zj vt (aa (bp (pv 0) rfl) af)) aj)))
 (aH (psx (sy hu1 (bp (pv 0) rfl) (pv 2) (bY (OE T) (hr.mono (by decide)) rfl T.wH T.nC.kp T.wG .nil bC (aa (pv 1) af)) rfl))
 (aH (psx (dh (mi adt adM adN gi (bp (pv 0) rfl) (aa (pv 2) af))))
 (aH (psx (cI (a9 cS (bN bG (pv 1) aj (λ_ _=>rfl)) au (bz _))
 (ao (sy hu1 (bp (pv 0) rfl) (pv 2) (d0 dS (by rfl) T.mB kD (aa (bN bG (pv 1) aj (λ_ _=>rfl)) af)) rfl)
 (aq (sy hu1 (bp (pv 0) rfl) (pv 2) (bO af) rfl)))
 aT))
 (aH (psx (dh (mi adt adM adN gi (bp (pv 0) rfl) (aa (bY kW (hr.mono (by decide)) rfl T.nF T.kP.kp T.nD .nil bC (aa (pv 1) af)) af))))
 (bA (psx (aI (pv 2)))))))))),?_⟩
  try dsimp only[cD]
  unfold lT at q;refine mtv rfl X.ob (cZ (by trivial)) ⟨_,rfl,o,t,c,st,N,d,rfl,hc,I,hN,hd,hdc,λW2 H1 s1=>?_,λx hx C e H1 s1 hat=>?_⟩
  case refine_2 =>
   rw[hx]at q;exact q (gf c H) H1 C e (Step.cl bR s1) (X.cl s1).at hat.1 (λa z=>g9 (hat.2 a z))
  refine aN λGq gq=>?_
  rw[W2]at q;have W3:=R6 I hd W2;have X1:=X.same s1;have st1:Step (iO i) c c H H1:=Step.same bR s1;have R9:=hdc.step st1;obtain⟨v,ht,hv0,hv1⟩:=zQ hd R9;obtain⟨m,em⟩:∃m,m=jD d:=⟨_,rfl⟩;rw[<-em]at ht hv0 hv1 q;have lm:=I.lm;have lr:=I.lr;have ml:=X1.mot.len;have lp:=I.pil.JF;rw[da]at lp;have el:(bJ ((adG 1 st.made.length).zip (ms.map V.ref))).length=st.made.length:=by
   unfold bJ;rw[da,aeM,aej,da,<-ml,Nat.min_self]
  have en:(((bJ ((adG 1 st.made.length).zip (ms.map V.ref))).length:Nat):Int)+1=((st.made.length+1:Nat):Int):=by rw[el];omega
  refine gq ?_;refine fh rfl X1.ob T.ai T.jq2 iE ⟨aM,_,rfl,X1.made.2,_,_,rfl,rfl,?_⟩;dsimp only[iy];rw[en];refine⟨_,rfl,Mx ht hv0 hv1 λmo H2 s2 hmo=>?_⟩
  have X2:=X1.cl s2;have st2:Step (iO i) c (gf c H1) H1 H2:=Step.cl bR s2;refine fh rfl X2.ob T.ai T.jq2 iE ⟨_,rfl,aM,_,rfl,xc.k (k:=kr ((st.made.length+1:Nat):Int)) X2.made.2 (by omega),?_⟩
  obtain⟨st3,X3⟩:=X2.Oo hmo;have Sa:=st2.trans st3.rp;generalize upd H2 aM (.dK (putK (bJ ((adG 1 st.made.length).zip (ms.map V.ref))) (kr ((st.made.length+1:Nat):Int)) (.ref mo)))=H3 at Sa X3 ⊢;clear hmo st2 X2;generalize gf c H1=c3 at Sa X3;refine fh rfl X3.ob T.ai T.jq0 fQ ⟨.inl ⟨rfl,_,SqL.of X3.aC.2⟩,_,rfl,aP,_,_,rfl,rfl,X3.aC.2,by rw[da];show st.aC.length < _;omega,?_⟩
  obtain⟨st4,X4⟩:=X3.push (st.made.length+1);have W4:=Sa.trans st4.rp;have X4':ChX A i c3 (upd H3 aP (.lst (st.aC.map nV++[V.int ((st.made.length+1:Nat):Int)]))) o { st with made:=st.made++[m],aC:=st.aC++[st.made.length+1] } dx aM aP aA aD aF aE aR (ms++[mo]) ds ws fs es:=X4
  have Bh:Step (iO i) c c3 H1 (upd H3 aP (.lst (st.aC.map nV++[V.int ((st.made.length+1:Nat):Int)]))):=W4;clear X4 W4 st4;generalize upd H3 aP (.lst (st.aC.map nV++[V.int ((st.made.length+1:Nat):Int)]))=H4 at X4' Bh ⊢;have nf:st.made.length+1∉st.kX:=λz=>by
   have:=(List.mem_filter.mp z).1;rw[aeA]at this;omega
  have ht4:=ht.step Bh
  by_cases h0:m.k=0
  ·obtain⟨L,tx,rfl,rfl,hL⟩:=hv0 h0;have hL4:=hL.step Bh;refine ixv rfl (SqT.of ht4.2) rfl ⟨rfl,tst (GC 0 (by decide)) ?_⟩
   refine ixv rfl (SqT.of ht4.2) rfl ⟨L,_,rfl,.inl (SqL.of hL4.2),λp hp=>?_⟩
   have lf:st.firsts.length=fs.length:=X4'.first.len;have lff:st.firsts.length<=st.made.length:=by
    have:=congrArg List.length I.ff;rw[da]at this;rw[this];exact me (aeh _ _) (by rw[aej];exact km _)
   have lkk:st.kept.length<=st.made.length:=by
    have:=congrArg List.length I.kk;rw[da]at this;rw[this];exact me (aeh _ _) (by rw[aej];exact km _)
   have sp:=aK (o:=.lst (tx.map V.str)) hp;refine fh rfl (sp _ _ X4'.ob) T.ai T.jq5 qg ⟨_,rfl,aF,_,rfl,xc.k (k:=kr ((st.made.length+1:Nat):Int)) (sp _ _ X4'.firsts.2) ?_,?_⟩
   ·unfold bJ;rw[da,aeM,da];show min st.firsts.length _ < _;omega
   obtain⟨st5,X5⟩:=X4'.Mo (tx:=tx) hp (n:=st.made.length+1) (by show _∉st.firsts.map (·.1);rw[I.ff];exact nf)
   have X5':ChX A i (bg c3 p (some (i,.mL (st.made.length+1)))) (upd (upd H4 p (.lst (tx.map V.str))) aF (.dK (putK (bJ ((st.firsts.map (·.1)).zip fs)) (kr ((st.made.length+1:Nat):Int)) (.ref p)))) o { st with made:=st.made++[.mat tx],aC:=st.aC++[st.made.length+1],firsts:=st.firsts++[(st.made.length+1,tx)] } dx aM aP aA aD aF aE aR (ms++[mo]) ds ws (fs++[.ref p]) es:=X5
   have Sb:Step (iO i) c (bg c3 p (some (i,.mL (st.made.length+1)))) H1 (upd (upd H4 p (.lst (tx.map V.str))) aF (.dK (putK (bJ ((st.firsts.map (·.1)).zip fs)) (kr ((st.made.length+1:Nat):Int)) (.ref p)))):=Bh.trans st5.rp
   clear X5 st5;generalize bg c3 p (some (i,.mL (st.made.length+1)))=c5 at X5' Sb;generalize upd (upd H4 p (.lst (tx.map V.str))) aF (.dK (putK (bJ ((st.firsts.map (·.1)).zip fs)) (kr ((st.made.length+1:Nat):Int)) (.ref p)))=H5 at X5' Sb ⊢
   refine⟨(sl 0),λp2 hp2=>?_⟩
   have sp2:=aK (o:=.lst []) hp2;refine fh rfl (sp2 _ _ X5'.ob) T.ai T.jq6 rA ⟨_,rfl,aE,_,rfl,xc.k (k:=kr ((st.made.length+1:Nat):Int)) (sp2 _ _ X5'.kU.2) ?_,?_⟩
   ·unfold bJ;rw[da,aeM,da];show min st.kept.length _ < _;omega
   obtain⟨st6,X6⟩:=X5'.Ot hp2 (n:=st.made.length+1) (by show _∉st.kept.map (·.1);rw[I.kk];exact nf)
   have W5:=Sb.trans st6.rp;have Sd:=R9.step W5;refine fh rfl X6.ob T.ai T.jqc rB ⟨.inl ⟨rfl,_,SqL.of X6.rows.2⟩,_,rfl,t,d,rfl,Sd.at,W3,λH7 s7=>?_⟩
   have X7:=X6.same s7;obtain⟨st8,X8⟩:=X7.row (R.jC d);refine⟨aR,_,_,rfl,rfl,X7.rows.2,by rw[da];show st.rows.length < _;omega,_,rfl,?_⟩
   exact q _ _ (((st1.trans W5).trans (Step.same bR s7)).trans st8.rp) X8.at
  ·refine ixv rfl (SqT.of ht4.2) l7 ⟨rfl,tsf ((GC m.k m.k8).trans (decide_eq_false h0)) ?_⟩;have Sd:=R9.step Bh;refine fh rfl X4'.ob T.ai T.jqc rB ⟨.inl ⟨rfl,_,SqL.of X4'.rows.2⟩,_,rfl,t,d,rfl,Sd.at,W3,λH7 s7=>?_⟩
   have X7:=X4'.same s7;obtain⟨st8,X8⟩:=X7.row (R.jC d);refine⟨aR,_,_,rfl,rfl,X7.rows.2,by rw[da];show st.rows.length < _;omega,_,rfl,?_⟩
   have e8:st.moved m (R.jC d)={ st with made:=st.made++[m],aC:=st.aC++[st.made.length+1],rows:=st.rows++[R.jC d] }:=by
    unfold Ch.moved;cases m with
    |mat tx=>exact absurd rfl h0
    |_=>rfl
   rw[e8]at q;exact q _ _ (((st1.trans Bh).trans (Step.same bR s7)).trans st8.rp) X8.at
end
def rH (n:Int):Ch:=⟨n,1,false,[],[],[],[],[],[],[]⟩
def W6 (A:Adr):Sp:=λvs H Q _=>∃(o dx:Addr) (n:Int),vs=[.ref o,.int n]/\H o=some (.ins A.ak dx []) /\
 ∀H',(∀(i:Nat) (c:Col),∃c',(∀a v,H a=some v->a≠o->H' a=some v/\c' a=c a)/\fP A i c' H' o (rH n))->Q .non H'
theorem iF {f:Str}{v:V}:∀ {fs:List (Str×V)},f∉fs.map (·.1)->gN f v fs=fs++[(f,v)]
 |[],_=>rfl
 | (g,x)::r,h=>by
  rw[gN,if_neg (λz=>h (by rw[<-z];exact fi)),iF λz=>h (kf _ z)]
  rfl
theorem nxt {H:Hp}{o a C dx:Addr}{fs fs':List (Str×V)}{v:HO}(ho:H o=some (.ins C dx fs))(ha:H a=none) :
  (upd (upd H a v) o (.ins C dx fs')) a=some v/\(upd (upd H a v) o (.ins C dx fs')) o=some (.ins C dx fs')/\a≠o/\∀b u,H b=some u->b≠o->(upd (upd H a v) o (.ins C dx fs')) b=some u/\b≠a:=by
 have na:a≠o:=(a6 ho ha).symm;refine⟨(aw na).trans ah,ah,na,λb u hb hbo=>?_⟩
 have nb:b≠a:=a6 hb ha;exact⟨(aw hbo).trans ((aw nb).trans hb),nb⟩
section
variable{P:ma}{w:World}{K:cb}{mg:Str->Option Value}{base:Heap}{A:Adr}
theorem Se (T:Txt w.params K mg A):a8 P w K mg base CX0 2 A.du A.lx ["self","seats"] (W6 A):=by
 refine T.gW.ok xg (λvs H Q E h=>?_) (λcdv A' outer s H vs Q E hr h=>?_)
 ·obtain⟨o,dx,n,rfl,_⟩:=h;rfl
 ·obtain⟨o,dx,n,rfl,ho,q⟩:=h;refine⟨_,(ao (fw (pv 0) (pv 1) rfl)
 (ao (fw (pv 0) aj rfl)
 (ao (fw (pv 0) yA rfl)
 (ao (fw (pv 0) uv rfl)
 (ao (fw (pv 0) (bO af) rfl)
 (ao (fw (pv 0) uv rfl)
 (ao (fw (pv 0) (bO af) rfl)
 (ao (fw (pv 0) uv rfl)
 (ao (fw (pv 0) uv rfl)
 (aq (fw (pv 0) (bO af) rfl))))))))))),?_⟩
  try dsimp only[cD]
  refine⟨_,rfl,_,rfl,o,A.ak,dx,_,rfl,ho,T.ai,T.jq1f,(by show 0 < 1000;decide),?_⟩
  refine⟨_,rfl,o,A.ak,dx,_,rfl,ah,T.ai,T.jq1,(by show 1 < 1000;decide),?_⟩
  rw[ny];refine⟨_,rfl,o,A.ak,dx,_,rfl,ah,T.ai,T.jq4,(by show 2 < 1000;decide),?_⟩
  rw[ny];have e0:gN (ar "closed") (V.bl false) (gN (ar "sitting") (V.int 1) (gN (ar "seats") (V.int n) []))=[(ar "seats",V.int n),(ar "sitting",V.int 1),(ar "closed",V.bl false)]:=by
   have f1:gN (ar "seats") (V.int n) []=[(ar "seats",V.int n)]:=rfl;have f2:gN (ar "sitting") (V.int 1) [(ar "seats",V.int n)]=[(ar "seats",V.int n),(ar "sitting",V.int 1)]:=iF (by show _∉[ar "seats"];trivial)
   rw[f1,f2];exact iF (by show _∉[ar "seats",ar "sitting"];trivial)
  rw[e0];have o0:(upd H o (.ins A.ak dx [(ar "seats",V.int n),(ar "sitting",V.int 1),(ar "closed",V.bl false)])) o=some (.ins A.ak dx [(ar "seats",V.int n),(ar "sitting",V.int 1),(ar "closed",V.bl false)]):=ah;have k0:∀b u,H b=some u->b≠o->(upd H o (.ins A.ak dx [(ar "seats",V.int n),(ar "sitting",V.int 1),(ar "closed",V.bl false)])) b=some u:=λb u hb hbo=>(aw hbo).trans hb
  generalize upd H o (.ins A.ak dx [(ar "seats",V.int n),(ar "sitting",V.int 1),(ar "closed",V.bl false)])=H0 at o0 k0 ⊢;refineλaM zaM=>?_
  have naM:o≠aM:=a6 o0 zaM;refine⟨_,rfl,o,A.ak,dx,_,rfl,(aw naM).trans o0,T.ai,T.jq2,(by show 3 < 1000;decide),?_⟩
  have e1:gN (ar "made") (V.ref aM) [(ar "seats",V.int n),(ar "sitting",V.int 1),(ar "closed",V.bl false)]=[(ar "seats",V.int n),(ar "sitting",V.int 1),(ar "closed",V.bl false),(ar "made",V.ref aM)]:=iF (by show _∉[ar "seats",ar "sitting",ar "closed"];trivial)
  rw[e1];refine aN λGq gq=>?_
  obtain⟨yaM,o1,_,waM⟩:=nxt (v:=.dK []) (fs':=[(ar "seats",V.int n),(ar "sitting",V.int 1),(ar "closed",V.bl false),(ar "made",V.ref aM)]) o0 zaM;have k1:=λb u (hb:H b=some u) (hbo:b≠o)=>waM b u (k0 b u hb hbo) hbo
  refine gq ?_;generalize upd (upd H0 aM (.dK [])) o (.ins A.ak dx [(ar "seats",V.int n),(ar "sitting",V.int 1),(ar "closed",V.bl false),(ar "made",V.ref aM)])=H1 at o1 k1 waM yaM ⊢;clear waM;refine⟨(sl 0),λaP zaP=>?_⟩
  have naP:o≠aP:=a6 o1 zaP;refine⟨_,rfl,o,A.ak,dx,_,rfl,(aw naP).trans o1,T.ai,T.jq0,(by show 4 < 1000;decide),?_⟩
  have e2:gN (ar "pile") (V.ref aP) [(ar "seats",V.int n),(ar "sitting",V.int 1),(ar "closed",V.bl false),(ar "made",V.ref aM)]=[(ar "seats",V.int n),(ar "sitting",V.int 1),(ar "closed",V.bl false),(ar "made",V.ref aM),(ar "pile",V.ref aP)]:=iF (by show _∉[ar "seats",ar "sitting",ar "closed",ar "made"];trivial)
  rw[e2];refine aN λGq gq=>?_
  obtain⟨yaP,o2,_,waP⟩:=nxt (v:=.lst []) (fs':=[(ar "seats",V.int n),(ar "sitting",V.int 1),(ar "closed",V.bl false),(ar "made",V.ref aM),(ar "pile",V.ref aP)]) o1 zaP;obtain⟨yaM,W7⟩:=waP _ _ yaM (adz naM);have k2:=λb u (hb:H b=some u) (hbo:b≠o)=>waP b u ((k1 b u hb hbo).1) hbo
  refine gq ?_;generalize upd (upd H1 aP (.lst [])) o (.ins A.ak dx [(ar "seats",V.int n),(ar "sitting",V.int 1),(ar "closed",V.bl false),(ar "made",V.ref aM),(ar "pile",V.ref aP)])=H2 at o2 k2 waP yaM yaP ⊢;clear waP;refineλaA zaA=>?_
  have naA:o≠aA:=a6 o2 zaA;refine⟨_,rfl,o,A.ak,dx,_,rfl,(aw naA).trans o2,T.ai,T.jq3,(by show 5 < 1000;decide),?_⟩
  have e3:gN (ar "aside") (V.ref aA) [(ar "seats",V.int n),(ar "sitting",V.int 1),(ar "closed",V.bl false),(ar "made",V.ref aM),(ar "pile",V.ref aP)]=[(ar "seats",V.int n),(ar "sitting",V.int 1),(ar "closed",V.bl false),(ar "made",V.ref aM),(ar "pile",V.ref aP),(ar "aside",V.ref aA)]:=iF (by show _∉[ar "seats",ar "sitting",ar "closed",ar "made",ar "pile"];trivial)
  rw[e3];refine aN λGq gq=>?_
  obtain⟨yaA,o3,_,waA⟩:=nxt (v:=.dK []) (fs':=[(ar "seats",V.int n),(ar "sitting",V.int 1),(ar "closed",V.bl false),(ar "made",V.ref aM),(ar "pile",V.ref aP),(ar "aside",V.ref aA)]) o2 zaA;obtain⟨yaM,W8⟩:=waA _ _ yaM (adz naM);obtain⟨yaP,W9⟩:=waA _ _ yaP (adz naP);have k3:=λb u (hb:H b=some u) (hbo:b≠o)=>waA b u ((k2 b u hb hbo).1) hbo
  refine gq ?_;generalize upd (upd H2 aA (.dK [])) o (.ins A.ak dx [(ar "seats",V.int n),(ar "sitting",V.int 1),(ar "closed",V.bl false),(ar "made",V.ref aM),(ar "pile",V.ref aP),(ar "aside",V.ref aA)])=H3 at o3 k3 waA yaM yaP yaA ⊢;clear waA;refine⟨(sl 0),λaD zaD=>?_⟩
  have naD:o≠aD:=a6 o3 zaD;refine⟨_,rfl,o,A.ak,dx,_,rfl,(aw naD).trans o3,T.ai,T.jqk,(by show 6 < 1000;decide),?_⟩
  have e4:gN (ar "decided") (V.ref aD) [(ar "seats",V.int n),(ar "sitting",V.int 1),(ar "closed",V.bl false),(ar "made",V.ref aM),(ar "pile",V.ref aP),(ar "aside",V.ref aA)]=[(ar "seats",V.int n),(ar "sitting",V.int 1),(ar "closed",V.bl false),(ar "made",V.ref aM),(ar "pile",V.ref aP),(ar "aside",V.ref aA),(ar "decided",V.ref aD)]:=iF (by show _∉[ar "seats",ar "sitting",ar "closed",ar "made",ar "pile",ar "aside"];trivial)
  rw[e4];refine aN λGq gq=>?_
  obtain⟨yaD,o4,_,waD⟩:=nxt (v:=.lst []) (fs':=[(ar "seats",V.int n),(ar "sitting",V.int 1),(ar "closed",V.bl false),(ar "made",V.ref aM),(ar "pile",V.ref aP),(ar "aside",V.ref aA),(ar "decided",V.ref aD)]) o3 zaD;obtain⟨yaM,Xa⟩:=waD _ _ yaM (adz naM);obtain⟨yaP,Xb⟩:=waD _ _ yaP (adz naP);obtain⟨yaA,Xd⟩:=waD _ _ yaA (adz naA);have k4:=λb u (hb:H b=some u) (hbo:b≠o)=>waD b u ((k3 b u hb hbo).1) hbo
  refine gq ?_;generalize upd (upd H3 aD (.lst [])) o (.ins A.ak dx [(ar "seats",V.int n),(ar "sitting",V.int 1),(ar "closed",V.bl false),(ar "made",V.ref aM),(ar "pile",V.ref aP),(ar "aside",V.ref aA),(ar "decided",V.ref aD)])=H4 at o4 k4 waD yaM yaP yaA yaD ⊢;clear waD;refineλaF zaF=>?_
  have naF:o≠aF:=a6 o4 zaF;refine⟨_,rfl,o,A.ak,dx,_,rfl,(aw naF).trans o4,T.ai,T.jq5,(by show 7 < 1000;decide),?_⟩
  have e5:gN (ar "first_texts") (V.ref aF) [(ar "seats",V.int n),(ar "sitting",V.int 1),(ar "closed",V.bl false),(ar "made",V.ref aM),(ar "pile",V.ref aP),(ar "aside",V.ref aA),(ar "decided",V.ref aD)]=[(ar "seats",V.int n),(ar "sitting",V.int 1),(ar "closed",V.bl false),(ar "made",V.ref aM),(ar "pile",V.ref aP),(ar "aside",V.ref aA),(ar "decided",V.ref aD),(ar "first_texts",V.ref aF)]:=iF (by show _∉[ar "seats",ar "sitting",ar "closed",ar "made",ar "pile",ar "aside",ar "decided"];trivial)
  rw[e5];refine aN λGq gq=>?_
  obtain⟨yaF,o5,_,waF⟩:=nxt (v:=.dK []) (fs':=[(ar "seats",V.int n),(ar "sitting",V.int 1),(ar "closed",V.bl false),(ar "made",V.ref aM),(ar "pile",V.ref aP),(ar "aside",V.ref aA),(ar "decided",V.ref aD),(ar "first_texts",V.ref aF)]) o4 zaF;obtain⟨yaM,Xe⟩:=waF _ _ yaM (adz naM);obtain⟨yaP,Xf⟩:=waF _ _ yaP (adz naP);obtain⟨yaA,Xg⟩:=waF _ _ yaA (adz naA);obtain⟨yaD,Xh⟩:=waF _ _ yaD (adz naD);have k5:=λb u (hb:H b=some u) (hbo:b≠o)=>waF b u ((k4 b u hb hbo).1) hbo
  refine gq ?_;generalize upd (upd H4 aF (.dK [])) o (.ins A.ak dx [(ar "seats",V.int n),(ar "sitting",V.int 1),(ar "closed",V.bl false),(ar "made",V.ref aM),(ar "pile",V.ref aP),(ar "aside",V.ref aA),(ar "decided",V.ref aD),(ar "first_texts",V.ref aF)])=H5 at o5 k5 waF yaM yaP yaA yaD yaF ⊢;clear waF;refineλaE zaE=>?_
  have naE:o≠aE:=a6 o5 zaE;refine⟨_,rfl,o,A.ak,dx,_,rfl,(aw naE).trans o5,T.ai,T.jq6,(by show 8 < 1000;decide),?_⟩
  have e6:gN (ar "edits_kept") (V.ref aE) [(ar "seats",V.int n),(ar "sitting",V.int 1),(ar "closed",V.bl false),(ar "made",V.ref aM),(ar "pile",V.ref aP),(ar "aside",V.ref aA),(ar "decided",V.ref aD),(ar "first_texts",V.ref aF)]=[(ar "seats",V.int n),(ar "sitting",V.int 1),(ar "closed",V.bl false),(ar "made",V.ref aM),(ar "pile",V.ref aP),(ar "aside",V.ref aA),(ar "decided",V.ref aD),(ar "first_texts",V.ref aF),(ar "edits_kept",V.ref aE)]:=iF (by show _∉[ar "seats",ar "sitting",ar "closed",ar "made",ar "pile",ar "aside",ar "decided",ar "first_texts"];trivial)
  rw[e6];refine aN λGq gq=>?_
  obtain⟨yaE,o6,_,waE⟩:=nxt (v:=.dK []) (fs':=[(ar "seats",V.int n),(ar "sitting",V.int 1),(ar "closed",V.bl false),(ar "made",V.ref aM),(ar "pile",V.ref aP),(ar "aside",V.ref aA),(ar "decided",V.ref aD),(ar "first_texts",V.ref aF),(ar "edits_kept",V.ref aE)]) o5 zaE;obtain⟨yaM,Xi⟩:=waE _ _ yaM (adz naM);obtain⟨yaP,Xj⟩:=waE _ _ yaP (adz naP);obtain⟨yaA,Xk⟩:=waE _ _ yaA (adz naA);obtain⟨yaD,Xl⟩:=waE _ _ yaD (adz naD);obtain⟨yaF,Xm⟩:=waE _ _ yaF (adz naF);have k6:=λb u (hb:H b=some u) (hbo:b≠o)=>waE b u ((k5 b u hb hbo).1) hbo
  refine gq ?_;generalize upd (upd H5 aE (.dK [])) o (.ins A.ak dx [(ar "seats",V.int n),(ar "sitting",V.int 1),(ar "closed",V.bl false),(ar "made",V.ref aM),(ar "pile",V.ref aP),(ar "aside",V.ref aA),(ar "decided",V.ref aD),(ar "first_texts",V.ref aF),(ar "edits_kept",V.ref aE)])=H6 at o6 k6 waE yaM yaP yaA yaD yaF yaE ⊢;clear waE;refine⟨(sl 0),λaR zaR=>?_⟩
  have naR:o≠aR:=a6 o6 zaR;refine⟨_,rfl,o,A.ak,dx,_,rfl,(aw naR).trans o6,T.ai,T.jqc,(by show 9 < 1000;decide),?_⟩
  have e7:gN (ar "rows") (V.ref aR) [(ar "seats",V.int n),(ar "sitting",V.int 1),(ar "closed",V.bl false),(ar "made",V.ref aM),(ar "pile",V.ref aP),(ar "aside",V.ref aA),(ar "decided",V.ref aD),(ar "first_texts",V.ref aF),(ar "edits_kept",V.ref aE)]=[(ar "seats",V.int n),(ar "sitting",V.int 1),(ar "closed",V.bl false),(ar "made",V.ref aM),(ar "pile",V.ref aP),(ar "aside",V.ref aA),(ar "decided",V.ref aD),(ar "first_texts",V.ref aF),(ar "edits_kept",V.ref aE),(ar "rows",V.ref aR)]:=iF (by show _∉[ar "seats",ar "sitting",ar "closed",ar "made",ar "pile",ar "aside",ar "decided",ar "first_texts",ar "edits_kept"];trivial)
  rw[e7];refine aN λGq gq=>?_
  obtain⟨yaR,o7,_,waR⟩:=nxt (v:=.lst []) (fs':=[(ar "seats",V.int n),(ar "sitting",V.int 1),(ar "closed",V.bl false),(ar "made",V.ref aM),(ar "pile",V.ref aP),(ar "aside",V.ref aA),(ar "decided",V.ref aD),(ar "first_texts",V.ref aF),(ar "edits_kept",V.ref aE),(ar "rows",V.ref aR)]) o6 zaR;obtain⟨yaM,Xn⟩:=waR _ _ yaM (adz naM);obtain⟨yaP,Xo⟩:=waR _ _ yaP (adz naP);obtain⟨yaA,Xp⟩:=waR _ _ yaA (adz naA);obtain⟨yaD,Xq⟩:=waR _ _ yaD (adz naD);obtain⟨yaF,Xr⟩:=waR _ _ yaF (adz naF);obtain⟨yaE,Xs⟩:=waR _ _ yaE (adz naE);have k7:=λb u (hb:H b=some u) (hbo:b≠o)=>waR b u ((k6 b u hb hbo).1) hbo
  refine gq ?_;generalize upd (upd H6 aR (.lst [])) o (.ins A.ak dx [(ar "seats",V.int n),(ar "sitting",V.int 1),(ar "closed",V.bl false),(ar "made",V.ref aM),(ar "pile",V.ref aP),(ar "aside",V.ref aA),(ar "decided",V.ref aD),(ar "first_texts",V.ref aF),(ar "edits_kept",V.ref aE),(ar "rows",V.ref aR)])=H7 at o7 k7 waR yaM yaP yaA yaD yaF yaE yaR ⊢;clear waR;refine q H7 λi c=>⟨bg (bg (bg (bg (bg (bg (bg (bg c o (some (i,Rl.ob))) aM (some (i,Rl.made))) aP (some (i,Rl.aC))) aA (some (i,Rl.aL))) aD (some (i,Rl.decided))) aF (some (i,Rl.firsts))) aE (some (i,Rl.kept))) aR (some (i,Rl.rows)),λb u hb hbo=>⟨(k7 b u hb hbo).1,?_⟩,⟨dx,aM,aP,aA,aD,aF,aE,aR,[],[],[],[],[],?_⟩⟩
  ·rw[ax (k7 b u hb hbo).2,ax (k6 b u hb hbo).2,ax (k5 b u hb hbo).2,ax (k4 b u hb hbo).2,ax (k3 b u hb hbo).2,ax (k2 b u hb hbo).2,ax (k1 b u hb hbo).2,ax hbo]
  ·exact⟨by rw[ax naR,ax naE,ax naF,ax naD,ax naA,ax naP,ax naM,cz],o7,⟨by rw[ax Xn,ax Xi,ax Xe,ax Xa,ax W8,ax W7,cz],yaM⟩,.nil,⟨by rw[ax Xo,ax Xj,ax Xf,ax Xb,ax W9,cz],yaP⟩,⟨by rw[ax Xp,ax Xk,ax Xg,ax Xd,cz],yaA⟩,.nil,⟨by rw[ax Xq,ax Xl,ax Xh,cz],yaD⟩,.nil,⟨by rw[ax Xr,ax Xm,cz],yaF⟩,.nil,⟨by rw[ax Xs,cz],yaE⟩,.nil,⟨by rw[cz],yaR⟩⟩
end
def abo (A:Adr)(i:Nat):Sp:=λvs H Q _=>∃(o:Addr) (n:Nat) (c:Col) (st:Ch) (x:Nat×Int×List Nat),vs=[.ref o,nV n]/\fP A i c H o st/\at1 n st.aL=some x /\
 ∀l u H',H l=none->H u=none->bT H H'->H' l=some (.lst (x.2.2.map nV))->H' u=some (.tup [nV n,.int x.2.1,.ref l])->Q (.ref u) H'
def wV (ns:List Nat):PyData:=.list (ns.map λn:Nat=>.int (n:Int))
def asD (x:Nat×Int×List Nat):PyData:=.tuple [.int (x.1:Int),.int x.2.1,wV x.2.2]
def dcD (x:Nat×Str):PyData:=.tuple [.int (x.1:Int),.str x.2]
def CA (st:Ch)(n:Int):Nat×Int×List Nat:=(at1 n.toNat st.aL).getD (0,0,[])
def stD (st:Ch)(ns:List Int):PyData:=.tuple [.int st.bt,.bool st.closed,wV st.aC,.list (ns.map λn=>asD (CA st n)),.list (st.decided.map dcD)]
def mnD:Mn->PyData
 | .mat tx=>.tuple [.str (nm 0),.list (tx.map ad3)]
 | .chg e=>.tuple [.str (nm 1),edD e]
 | .mnd e=>.tuple [.str (nm 2),edD e]
 | .off u=>.tuple [.str (nm 3),.int u]
 | .cls=>.tuple [.str (nm 4)]
 | .lay=>.tuple [.str (nm 5)]
 | .rst=>.tuple [.str (nm 6)]
 | .pnt z=>.tuple [.str (nm 7),.str z]
def Mz (A:Adr)(K:cb)(i:Nat):Sp:=λvs H Q E=>∃(o:Addr) (n:Nat) (c:Col) (st:Ch),vs=[.ref o,nV n]/\fP A i c H o st/\n < 10 ^ 10 /\
 (hG st n->∀u H',bT H H'->DV K H' (mnD (st.mo n)) (.ref u)->Q (.ref u) H')/\(¬hG st n->E (.ref A.aS) none H)
theorem IK {α:Type}{K:cb}{H:Hp}{f:α->PyData}{g:α->V}:∀ {xs:List α},(∀x∈xs,DV K H (f x) (g x))->DVs K H (xs.map f) (xs.map g)
 |[],_=>by unfold DVs;rfl
 |x::xs,h=>by
  rw[kg,kg];unfold DVs;exact⟨g x,xs.map g,rfl,h x fi,IK λy hy=>h y (kf _ hy)⟩
theorem CB {K:cb}{H:Hp}{a:Addr}{ns:List Nat}(h:SqL K H a (ns.map nV)):DV K H (wV ns) (.ref a):=by
 unfold wV DV;exact⟨a,_,rfl,h,IK (f:=λn:Nat=>PyData.int (n:Int)) (g:=nV) λn _=>by unfold DV;rfl⟩
theorem cQ.dvs {α:Type}{K:cb}{H:Hp}{f:α->PyData}{R:α->V->Prop}(g:∀x v,R x v->DV K H (f x) v):∀ {xs:List α} {vs:List V},cQ R xs vs->DVs K H (xs.map f) vs
 |_,_,.nil=>by unfold DVs;rfl
 |_,_,.cons h t=>by
  rw[kg];unfold DVs;exact⟨_,_,rfl,g _ _ h,t.dvs g⟩
theorem cQ.mapR {α β γ:Type}{R:α->γ->Prop}{f:β->γ}:∀ {xs:List α} {ys:List β},cQ (λa b=>R a (f b)) xs ys->cQ R xs (ys.map f)
 |_,_,.nil=>.nil
 |_,_,.cons h t=>.cons h t.mapR
def DD (H:Hp)(R:Addr)(x:Nat×Int×List Nat)(v:V):Prop:=∃u l,v=.ref u/\u≠R/\l≠R/\H u=some (.tup [nV x.1,.int x.2.1,.ref l])/\H l=some (.lst (x.2.2.map nV))
theorem DD.same {H H':Hp}{R:Addr}{x:Nat×Int×List Nat}{v:V}(s:bT H H'):DD H R x v->DD H' R x v
 |⟨u,l,e,h1,h2,h3,h4⟩=>⟨u,l,e,h1,h2,s _ _ h3,s _ _ h4⟩
theorem DD.upd {H:Hp}{R:Addr}{o:HO}{x:Nat×Int×List Nat}{v:V}:DD H R x v->DD (L2.upd H R o) R x v
 |⟨u,l,e,h1,h2,h3,h4⟩=>⟨u,l,e,h1,h2,(aw h1).trans h3,(aw h2).trans h4⟩
theorem DD.dv {K:cb}{H:Hp}{R:Addr}{x:Nat×Int×List Nat}{v:V}:DD H R x v->DV K H (asD x) v
 |⟨u,l,e,h1,h2,h3,h4⟩=>by
  unfold asD DV;refine⟨u,_,e,SqT.of h3,?_⟩;unfold DVs;refine⟨_,_,rfl,by unfold DV;rfl,?_⟩
  unfold DVs;refine⟨_,_,rfl,by unfold DV;rfl,?_⟩
  unfold DVs;exact⟨_,_,rfl,CB (SqL.of h4),by unfold DVs;rfl⟩
section
variable{P:ma}{w:World}{K:cb}{mg:Str->Option Value}{base:Heap}{A:Adr}
theorem As (T:Txt w.params K mg A){i:Nat}:a8 P w K mg base CX0 1 A.cf A.gI ["self","number"] (abo A i):=by
 refine T.dY.ok jI (λvs H Q E h=>?_) (λcdv A' outer s H vs Q E hr h=>?_)
 ·obtain⟨o,n,c,st,x,rfl,_⟩:=h;rfl
 ·obtain⟨o,n,c,st,x,rfl,hc,hx,q⟩:=h;obtain⟨dx,aM,aP,aA,aD,aF,aE,aR,ms,ds,ws,fs,es,X⟩:=hc.ex;have hu1:=hr.u1;refine⟨_,(ao (br (i:=2) jI.nd rfl (wt rfl) (kF hu1 (bp (pv 0) rfl) (pv 1) (λ_ _=>rfl)))
 (aq (aI (aG (aa (pv 1) (aa (bN bG (pv 2) aj (λ_ _=>rfl)) (aa (d0 dS (by rfl) T.mB kD (aa (bN bG (pv 2) aj (λ_ _=>rfl)) af)) af))))))),?_⟩
  try dsimp only[cD]
  refine aN λGq gq=>?_
  obtain⟨t,p,hv,ht,hl⟩:=X.waitOf hx;refine gq ?_;refine⟨_,rfl,o,A.ak,dx,_,.ref aA,rfl,X.ob,T.ai,T.jq3,j1,_,rfl,aA,_,rfl,.inl ⟨_,kr (n:Int),.inl X.aL.2,rfl,hv.symm⟩,?_⟩;refine⟨_,rfl,_,rfl,t,_,_,_,rfl,rfl,ht.sq,rfl,_,rfl,t,_,_,_,rfl,rfl,ht.sq,rfl,p,_,rfl,.inl (SqL.of hl.2),λl hl0=>⟨(sl 3),λu hu=>?_⟩⟩
  have nul:u≠l:=λz=>by rw[z,ah]at hu;cases hu
  have hu0:H u=none:=by rw[aw nul]at hu;exact hu
  exact q l u _ hl0 hu0 ((aK hl0).new hu) ((aw (adz nul)).trans ah) ah
theorem Sf {c:Col}{H:Hp}{v:V}{t:Addr}:∀ {m:Mn},1<=m.k->m.Val c H v->SqT K H t (rowOf m.k v)->DV K H (mnD m) (.ref t)
 | .mat _,h,_,_=>absurd h (by simp[Mn.k])
 | .chg e,_,⟨te,ev,hte⟩,ht=>by
  subst ev;unfold mnD DV;refine⟨t,_,rfl,ht,?_⟩;unfold DVs;refine⟨_,_,rfl,by unfold DV;rfl,?_⟩
  unfold DVs;exact⟨_,_,rfl,Gy e hte.sq,by unfold DVs;rfl⟩
 | .mnd e,_,⟨te,ev,hte⟩,ht=>by
  subst ev;unfold mnD DV;refine⟨t,_,rfl,ht,?_⟩;unfold DVs;refine⟨_,_,rfl,by unfold DV;rfl,?_⟩
  unfold DVs;exact⟨_,_,rfl,Gy e hte.sq,by unfold DVs;rfl⟩
 | .off u,_,ev,ht=>by
  have ev':v=.int u:=ev;subst ev';unfold mnD DV;refine⟨t,_,rfl,ht,?_⟩;unfold DVs;refine⟨_,_,rfl,by unfold DV;rfl,?_⟩
  unfold DVs;exact⟨_,_,rfl,by unfold DV;rfl,by unfold DVs;rfl⟩
 | .pnt z,_,ev,ht=>by
  have ev':v=.str z:=ev;subst ev';unfold mnD DV;refine⟨t,_,rfl,ht,?_⟩;unfold DVs;refine⟨_,_,rfl,by unfold DV;rfl,?_⟩
  unfold DVs;exact⟨_,_,rfl,by unfold DV;rfl,by unfold DVs;rfl⟩
 | .cls,_,_,ht=>by
  unfold mnD DV;refine⟨t,_,rfl,ht,?_⟩;unfold DVs;exact⟨_,_,rfl,by unfold DV;rfl,by unfold DVs;rfl⟩
 | .lay,_,_,ht=>by
  unfold mnD DV;refine⟨t,_,rfl,ht,?_⟩;unfold DVs;exact⟨_,_,rfl,by unfold DV;rfl,by unfold DVs;rfl⟩
 | .rst,_,_,ht=>by
  unfold mnD DV;refine⟨t,_,rfl,ht,?_⟩;unfold DVs;exact⟨_,_,rfl,by unfold DV;rfl,by unfold DVs;rfl⟩
theorem JH (T:Txt w.params K mg A){i:Nat}:a8 P w K mg base (CXX P w) 3 A.cL A.jl ["self","number"] (Mz A K i):=by
 have GF:∀k,k < 8->a8 P w K mg base CX0 2 (A.ft k) (A.ftd k) ["self"] (Cv A K k):=Dw T;refine T.fM.okX uw (λvs H Q E h=>?_) (λcdv A' outer s H vs Q E hr h=>?_)
 ·obtain⟨o,n,c,st,rfl,_⟩:=h;rfl
 ·obtain⟨o,n,c,st,rfl,hc,h10,q,qx⟩:=h;obtain⟨dx,aM,aP,aA,aD,aF,aE,aR,ms,ds,ws,fs,es,X⟩:=hc.ex;have hu1:=hr.u1;have hgd:=hr.gd;have lim:gn=16777216:=by decide
  refine⟨_,(aH (fB (FI (vz hu1 (pv 1) (bp (pv 0) rfl)))
 (bA (iT T.rg rfl rfl T.mC (aa (yQ (kL (tG (pv 1) tF))) af)))
 (qt aT))
 (bA (psx (aI (md (n:=8) (Cf:=A.C) (kF hu1 (bp (pv 0) rfl) (pv 1) (λ_ _=>rfl)) T.cl T.Gv GF hr T.Gw bC))))),?_⟩
  try dsimp only[cD]
  refine⟨_,rfl,fh rfl X.ob T.ai T.jq2 iE ⟨aM,_,rfl,.inl ⟨_,kr (n:Int),.inl X.made.2,rfl,rfl⟩,_,rfl,?_⟩⟩
  by_cases hn:hG st n
  ·obtain⟨mo,hv,hmo⟩:=X.Ox hn;have q:=q hn;rw[hv];refine kK ?_;refine aN λGq gq=>?_
   obtain⟨_,dm,v,hm,hvv⟩:=hmo;refine gq ?_;refine⟨_,rfl,o,A.ak,dx,_,.ref aM,rfl,X.ob,T.ai,T.jq2,iE,_,rfl,aM,_,rfl,.inl ⟨_,kr (n:Int),.inl X.made.2,rfl,hv.symm⟩,(st.mo n).k,(st.mo n).k8,mo,dm,_,rfl,hm,Iu _ v,?_⟩;generalize st.mo n=m at hm hvv q
   by_cases h0:m.k=0
   ·obtain⟨tx,rfl⟩:∃tx,m=.mat tx:=by cases m <;> first | exact⟨_,rfl⟩ | exact absurd h0 (by simp[Mn.k])
    refine aN λGq gq=>?_
    obtain⟨p,rfl,hp⟩:=hvv;refine gq ?_;refine .inl ⟨rfl,mo,dm,p,tx.map V.str,rfl,hm,SqL.of hp.2,λp2 u hp2 hu npu=>?_⟩
    have nu:(upd H p2 (.lst (tx.map V.str))) u=none:=(aw (adz npu)).trans hu;refine q u _ ((aK hp2).new nu) ?_;unfold mnD DV;refine⟨u,_,rfl,SqT.of ah,?_⟩;unfold DVs;refine⟨_,_,rfl,by unfold DV;rfl,?_⟩
    unfold DVs;exact⟨_,_,rfl,BD (SqL.of ((aw npu).trans ah)),by unfold DVs;rfl⟩
   ·refine .inr ⟨by omega,mo,dm,v,rfl,hm,λu hu=>?_⟩
    have su:=aK (o:=.tup (rowOf m.k v)) hu;exact q u _ su (Sf (by omega) (hvv.step (Step.same (W:=λ_=>False) id su)) (SqT.of ah))
  ·have hnm:n∉adG 1 st.made.length:=λz=>by
    rw[aeA]at z;exact hn ⟨z.1,by omega⟩
   rw[p4 hnm];have l1:(adE++ar "no motion has the number ":Str).length=25:=by trivial
   have e10:(10:Nat) ^ 10=10000000000:=by decide
   have l3:(ar (toString (n:Int))).length<=20:=sI (by omega) (by omega)
   refine nO ⟨by rw[l1];omega,_,rfl,_,.int (j2 (by omega) (by omega)),by omega,by rw[len_app,l1];omega,by rw[len_app,l1];omega,(sl 1),qx hn⟩
end
def dZ (st:Ch):R.d7->Rs×Ch
 | .nums kd ns=>if kd=ar "vote" then pb st (ns.getD 0 0) (ns.getD 1 0) else if kd=ar "drop" then qi st else if kd=ar "take" then stepT st (ns.getD 0 0).toNat else lT st (jD (.nums kd ns)) (R.jC (.nums kd ns))
 |d=>lT st (jD d) (R.jC d)
inductive jd:R.d7->Prop
 |DE {a b:Int}:(0<=a/\a < 10 ^ 10)->(0<=b/\b < 10 ^ 10)->jd (.nums (ar "vote") [a,b])
 |drop:jd (.nums (ar "drop") [])
 |take {z:Int}:-1<=z->z < 10 ^ 10->jd (.nums (ar "take") [z])
 |move {d:R.d7}:DB d->jd d
theorem mP {st:Ch}{a b:Int}:dZ st (.nums (ar "vote") [a,b])=pb st a b:=by rw[dZ,if_pos rfl];rfl
theorem mQ {st:Ch}:dZ st (.nums (ar "drop") [])=qi st:=by rw[dZ,if_neg (by trivial),if_pos rfl]
theorem iR {st:Ch}{z:Int}:dZ st (.nums (ar "take") [z])=stepT st z.toNat:=by
 rw[dZ,if_neg (by trivial),if_neg (by trivial),if_pos rfl]
 rfl
theorem j4 {st:Ch}{d:R.d7}(h:DB d):dZ st d=lT st (jD d) (R.jC d):=by
 cases d with
 |nums kd ns =>
  rcases uV h.1 with ⟨u,rfl,rfl⟩ | ⟨rfl,rfl⟩ | ⟨rfl,rfl⟩ | ⟨rfl,rfl⟩ <;> rw[dZ,if_neg (by trivial),if_neg (by trivial),if_neg (by trivial)]
 |_=>rfl
theorem Inv.dZ {N:Nat}{st:Ch}(I:Inv N st)(hN:N<=800){d:R.d7}(h:jd d):Inv (N+3) (dZ st d).2:=by
 cases h with
 |DE=>rw[mP];exact I.pb hN _ _
 |drop=>rw[mQ];exact I.qi
 |take=>rw[iR];exact I.stepT _
 |move h=>rw[j4 h];exact I.lT (Mv h) _
def OG:Xc->Prop
 | .fX b=>-10000000000 < b/\b < 10000000000
 | .eF b=>-10000000000 < b/\b < 10000000000
 | .iP b=>-10000000000 < b/\b < 10000000000
 |_=>True
def abp:Rs->Prop
 | .txt z=>Lk z=true
 | .exc x=>OG x
 |_=>True
theorem OH {N:Nat}{st:Ch}(I:Inv N st)(hN:N<=800){m:Mn}{x:Xc}(h:uT st m=some x):OG x:=by
 have hb:=zG st.closed (st.aC.map st.mo);have hs:=I.sit;unfold uT at h;split at h
 ·rename_i y hy;cases h;unfold zF at hy;split at hy
  ·cases hy;exact⟨by omega,by omega⟩
  ·split at hy
   ·cases hy
   ·split at hy <;> cases hy <;> trivial
 ·unfold sT at h;split at h
  ·split at h
   ·split at h
    ·cases h
    ·cases h;trivial
   ·cases h
  ·split at h
   ·split at h
    ·cases h
    ·cases h;trivial
   ·cases h
  ·split at h
   ·cases h;exact⟨by omega,by omega⟩
   ·cases h
  ·cases h
theorem MA {N:Nat}{st:Ch}(I:Inv N st)(hN:N<=800){d:R.d7}(h:jd d):abp (dZ st d).1:=by
 cases h with
 |DE =>
  rw[mP];unfold pb;split
  ·trivial
  ·split
   ·trivial
   ·show Lk (zN _)=true;unfold zN;split <;> trivial
 |drop =>
  rw[mQ];unfold qi;split
  ·trivial
  ·show Lk rG=true
   trivial
 |take =>
  rw[iR];unfold stepT;split
  ·split
   ·trivial
   ·rename_i x hx;split
    ·exact(I.asd x (nI hx).2).2.2
    ·trivial
  ·have hb:=zG st.closed (st.aC.map st.mo);exact⟨by omega,by omega⟩
 |move h =>
  rw[j4 h];unfold lT;split
  ·rename_i x hx;exact OH I hN hx
  ·trivial
theorem jE {W:Option (Nat×Rl)->Prop}{c c':Col}{H H':Hp}(s:Step W c c' H H'){a:Addr}{v:HO}(h:c a=none)(hv:H a=some v):c' a=none/\H' a=some v:=by
 have hn:¬W (c a):=by rw[h];exact s.nn
 exact⟨by rw[s.col a _ hv hn];exact h,s.keep _ _ hv hn⟩
abbrev tV:Str:=ar "abcdefghijklmnopqrstuvwxyzAZ09-#./"
theorem MB:tV.length=34:=by trivial
theorem Bi:tV.cps.toList.length=34:=by trivial
theorem Bj:∀c∈tV.cps.toList,R.Sign c:=by trivial
theorem OI:∀c∈tV.cps.toList.take 33,c≠47:=by trivial
theorem abq {i:Int}(h0:0<=i)(h1:i < 34):∃c,atI tV.cps.toList i=some c/\R.Sign c:=by
 obtain⟨c,hc,hm⟩:=K5 (xs:=tV.cps.toList) (i:=i) (n:=34) Bi h0 (by omega)
 exact⟨c,hc,Bj c hm⟩
theorem abr {i:Int}(h0:0<=i)(h1:i < 33):∃c,atI tV.cps.toList i=some c/\R.Sign c/\c≠47:=by
 obtain⟨n,rfl⟩:∃n:Nat,i=(n:Int):=⟨i.toNat,by omega⟩
 have hn:n < 33:=by omega
 have hl:=Bi;have e:tV.cps.toList[n]?=some tV.cps.toList[n]:=adv (by omega)
 refine⟨_,pM e,Bj _ (List.getElem_mem _),OI _ ?_⟩;have e2:(tV.cps.toList.take 33)[n]?=some tV.cps.toList[n]:=by rw[List.getElem?_take,if_pos hn];exact e
 exact adF e2
structure Wd (n:Nat)(x:Str):Prop where
 len:x.length<=n
 hd:∃d r,x.cps.toList=d::r/\d≠47
 sgn:∀c∈x.cps.toList,R.Sign c
theorem Sg {c:Nat}(h:R.Sign c)(n:c≠47):Wd 1 ⟨#[c]⟩:=⟨km 1,⟨c,[],rfl,n⟩,λd hd=>by
 have:d=c:=by simpa using hd
 rw[this];exact h⟩
theorem Si {x:Str}{n c:Nat}(w:Wd n x)(h:R.Sign c):Wd (n+1) (x++⟨#[c]⟩):=by
 obtain⟨d,r,e,hd⟩:=w.hd;refine⟨?_,⟨d,r++[c],?_,hd⟩,λy hy=>?_⟩
 ·have:=w.len;rw[len_app];show _+1<=_;omega
 ·rw[eB,e];rfl
 ·rw[eB,List.mem_append]at hy;rcases hy with hy | hy
  ·exact w.sgn y hy
  ·have:y=c:=by simpa using hy
   rw[this];exact h
theorem Wd.word {n:Nat}{x:Str}(w:Wd n x)(h:n<=20):R.lH x:=by
 obtain⟨d,r,e,hd⟩:=w.hd;have hl:x.cps.toList.length=x.length:=by rw[aee];rfl
 refine⟨?_,me w.len h,w.sgn,λz=>?_⟩
 ·rw[<-hl,e];simp
 ·rw[z]at e;have:(ar "/").cps.toList=[47]:=by trivial
  rw[this]at e;cases e;exact hd rfl
def MC:Sp:=λvs H Q _=>∃c:Int,vs=[.int c]/\∀x,R.lH x->Q (.str x) H
def GK:Sp:=λvs H Q _=>∃c:Int,vs=[.int c]/\∀(ws:List Str) (H':Hp),R.sP 12 ws->bT H H'->Q (.str (ka R.bl1 ws)) H'
def MD (K:cb):Sp:=λvs H Q _=>∃(a:Addr) (ns:List Int) (k:Int),vs=[.ref a,.int k]/\SqL K H a (ns.map V.int)/\0<=k/\∀z:Int,Q (.int z) H
section
variable{P:ma}{w:World}{K:cb}{mg:Str->Option Value}{base:Heap}{A:Adr}
theorem uW (T:Txt w.params K mg A):a8 P w K mg base CX0 1 A.sC A.lW ["_law_script","_law_k"] (MD K):=by
 refine T.gU.ok B0 (λvs H Q E h=>?_) (λcdv A' outer s H vs Q E hr h=>?_)
 ·obtain⟨a,ns,k,rfl,_⟩:=h;rfl
 ·obtain⟨a,ns,k,rfl,hS,h0,q⟩:=h;refine⟨_,(ao (cI (a9 KA (pv 1) (bW jf (by rfl) T.zj vt (aa (pv 0) af)) (bz _))
 (aq (aI (bN je (pv 0) (pv 1) (λ_ _=>rfl))))
 aT)
 (aq (aI aj))),?_⟩
  try dsimp only[cD]
  refine⟨_,rfl,_,rfl,a,_,rfl,.inl hS,_,_,rfl,rfl,_,rfl,vq (λe=>?_) (λ_=>q 0)⟩
  refine aN λGq gq=>?_
  have e':k < ((ns.map V.int).length:Int):=of_decide_eq_true e;rw[da]at e';obtain⟨c,hc,hm⟩:=K5 (xs:=ns.map V.int) (i:=k) (n:=ns.length) (da _) h0 e';obtain⟨z,_,rfl⟩:=List.mem_map.mp hm;refine gq ?_;exact⟨_,rfl,_,rfl,a,_,_,_,rfl,rfl,hS,hc,q z⟩
theorem Bk (T:Txt w.params K mg A):a8 P w K mg base CX0 1 A.Gh A.vG ["_law_cell"] MC:=by
 refine T.uB.ok oS (λvs H Q E h=>?_) (λcdv A' outer s H vs Q E hr h=>?_)
 ·obtain⟨c,rfl,_⟩:=h;rfl
 ·obtain⟨c,rfl,k⟩:=h;refine⟨_,(ao (br (i:=1) oS.nd rfl (wt rfl) au)
 (ao (br (i:=2) oS.nd rfl (wt rfl) (bN FY (pv 1) (dj qM (pv 0) aj) (λ_ _=>rfl)))
 (ao (FN PassesOwn.never rfl (AE rfl T.Ca (aa (dj qM (dj Bv (pv 0) aj) aj) af)) (pK (i:=3) oS.nd rfl (wt rfl))
 (aq (br (i:=2) oS.nd rfl (wt rfl) (dj FP (pv 2) (bN FY (pv 1) (dj qM (dj Bv (pv 0) (dj Bu aj (dj pL aj (dj Bu aj (pv 3))))) aj) (λ_ _=>rfl))))))
 (aq (aI (pv 2)))))),?_⟩
  try dsimp only[cD]
  refine aN λGq gq=>?_
  have s34:tV.length<=gn:=by rw[MB];decide
  obtain⟨d,hd,hd',abt⟩:=abr (i:=c % 33) (by omega) (by omega)
  refine gq ?_;refine⟨_,rfl,_,rfl,_,_,rfl,rfl,(by show (0:Int) < 33;decide),tV,_,d,rfl,rfl,s34,hd,?_⟩
  refine⟨_,rfl,_,_,rfl,rfl,⟨by decide,by decide⟩,_,_,rfl,rfl,(by show (0:Int) < 3;decide),_,rfl,by omega,by omega,?_⟩
  refine AF (lo:=0) (n:=(c / 33 % 3).toNat) (λi σ H'=>H'=H/\∃x kv,σ=[some (.int c),some (.str tV),some (.str x),kv]/\Wd (1+i) x) ⟨rfl,_,_,rfl,Sg hd' abt⟩ ?_ ?_
  ·rintro i σ H' hi ⟨rfl,x,kv,rfl,wx⟩;refine aN λGq gq=>?_
   obtain⟨d2,hd2,abu⟩:=abq (i:=c / (99 * (1+33 * (0+(i:Int)))) % 34) (by omega) (by omega)
   refine gq ?_;refine⟨_,rfl,_,rfl,_,rfl,_,rfl,_,_,rfl,rfl,.inl ⟨by decide,by decide⟩,_,_,rfl,rfl,_,_,rfl,rfl,.inl ⟨by decide,by decide⟩,_,_,rfl,rfl,⟨by omega,by omega⟩,_,_,rfl,rfl,(by show (0:Int) < 34;decide),tV,_,d2,rfl,rfl,s34,hd2,_,_,rfl,rfl,?_,rfl,_,_,rfl,?_⟩
   ·have:=wx.len;rw[show (⟨#[d2]⟩:Str).length=1 from rfl]
    have:i < 3:=by omega
    exact me (by omega:x.length+1<=10) (by decide)
   ·exact Si wx abu
  ·rintro σ H' ⟨rfl,x,kv,rfl,wx⟩;exact⟨_,rfl,k x (wx.word (by omega))⟩
theorem wW (T:Txt w.params K mg A):a8 P w K mg base CX0 2 A.za A.qU ["_law_cell"] GK:=by
 refine T.pS.ok kO (λvs H Q E h=>?_) (λcdv A' outer s H vs Q E hr h=>?_)
 ·obtain⟨c,rfl,_⟩:=h;rfl
 ·obtain⟨c,rfl,k⟩:=h;refine⟨_,(ao (br (i:=1) kO.nd rfl (wt rfl) (bO af))
 (ao (br (i:=2) kO.nd rfl (wt rfl) (dj pL (dj qM (pv 0) aj) aj))
 (ao (FN PassesOwn.never rfl (AE rfl T.Ca (aa (dj qM (pv 0) aj) af)) (pK (i:=3) kO.nd rfl (wt rfl))
 (ao (br (i:=2) kO.nd rfl (wt rfl) (dj qM (dj Bu (pv 2) aj) aj))
 (aq (dh (mi adt adM adN gi (pv 1) (aa (bY (Bk T) hr rfl T.zg T.uB.kp T.zf .nil bC (aa (dj Bv (pv 2) aj) af)) af))))))
 (aq (aI (mi PySem.F.plainAttrs_str PySem.F.slot_str_join PySem.F.type_str_join Ih au (aa (pv 1) af))))))),?_⟩
  try dsimp only[cD]
  have sz:gn=16777216:=by decide
  refine⟨ad8 _,λW hW=>?_⟩
  refine⟨_,rfl,_,_,rfl,rfl,(by show (0:Int) < 4294967311;decide),_,_,rfl,rfl,?_⟩
  refine⟨_,rfl,_,_,rfl,rfl,(by show (0:Int) < 4;decide),_,rfl,by omega,by omega,?_⟩
  refine AF (lo:=0) (n:=(c % 4).toNat) (λi σ H2=>∃(ws:List Str) (m:Int) (kv:Option V),σ=[some (.int c),some (.ref W),some (.int m),kv]/\0<=m/\m<=4294967311/\H2 W=some (.lst (ws.map V.str))/\ws.length=i/\(∀w∈ws,R.lH w)/\bT H H2)
   ⟨[],_,_,rfl,by omega,by omega,ah,rfl,(λz hz=>nomatch hz),aK hW⟩ ?_ ?_
  ·rintro i σ H2 hi ⟨ws,m,kv,rfl,m0,m1,h2,hl,hg,s2⟩;refine⟨_,rfl,_,_,rfl,rfl,.inl ⟨by omega,by omega⟩,_,_,rfl,rfl,(by show (0:Int) < 4294967311;decide),?_⟩
   refine⟨_,rfl,.inl ⟨rfl,_,SqL.of h2⟩,_,rfl,_,_,rfl,rfl,⟨by decide,by decide⟩,_,rfl,λx hx=>?_⟩
   refine⟨W,_,_,rfl,rfl,h2,(by rw[da];omega),?_⟩
   refine⟨ws++[x],_,_,rfl,by omega,by omega,?_,?_,λz h=>?_,s2.own hW⟩
   ·rw[ah,wa];rfl
   ·rw[kq,hl];rfl
   ·rcases List.mem_append.mp h with h | h
    ·exact hg z h
    ·rw[List.mem_singleton.mp h];exact hx
  ·rintro σ H2 ⟨ws,m,kv,rfl,m0,m1,h2,hl,hg,s2⟩;have hs:=R.A8 hg;refine⟨rfl,_,rfl,R.bl1,W,ws,rfl,rfl,SqL.of h2,(by rw[R.nX];show _+_ * 1<=_;omega),?_⟩
   exact k ws _ ⟨by omega,hg⟩ s2
end
theorem fP.free {A:Adr}{i:Nat}{W:Option (Nat×Rl)->Prop}{c c':Col}{H H':Hp}{o:Addr}{st:Ch}(h:∀r,¬W (some (i,r)))(s:Step W c c' H H')(hc:fP A i c H o st):fP A i c' H' o st:=by
 obtain⟨dx,aM,aP,aA,aD,aF,aE,aR,ms,ds,ws,fs,es,X⟩:=hc.ex;exact(X.free h s).at
mutual
theorem DV.same {K:cb}{H H':Hp}(s:bT H H'):∀(d:PyData) {x:V},DV K H d x->DV K H' d x
 | .none,_,h=>by unfold DV at h ⊢;exact h
 | .bool _,_,h=>by unfold DV at h ⊢;exact h
 | .int _,_,h=>by unfold DV at h ⊢;exact h
 | .str _,_,h=>by unfold DV at h ⊢;exact h
 | .list ds,_,h=>by
  unfold DV at h ⊢;obtain⟨a,xs,e,h1,h2⟩:=h;exact⟨a,xs,e,s.seq h1,DVs.same s ds h2⟩
 | .tuple ds,_,h=>by
  unfold DV at h ⊢;obtain⟨a,xs,e,h1,h2⟩:=h;exact⟨a,xs,e,eQ s h1,DVs.same s ds h2⟩
 | .dict _,_,h=>by unfold DV at h;exact h.elim
theorem DVs.same {K:cb}{H H':Hp}(s:bT H H'):∀(ds:List PyData) {xs:List V},DVs K H ds xs->DVs K H' ds xs
 |[],_,h=>by unfold DVs at h ⊢;exact h
 |d::ds,_,h=>by
  unfold DVs at h ⊢;obtain⟨x,r,e,h1,h2⟩:=h;exact⟨x,r,e,DV.same s d h1,DVs.same s ds h2⟩
end
theorem vW {d:PyData}(h1:d.canLay0=true)(h2:d.depth<=64):SeqAt.shaped d=true:=by
 show (d.canLay0 && decide (d.depth<=64))=true;rw[h1,decide_eq_true h2];rfl
theorem sO {α:Type}{f:α->PyData}{k:Nat}(h:∀x,aed (f x)<=k):∀xs:List α,ad5 (xs.map f)<=k
 |[]=>by simp only[aec,ad5];omega
 |x::xs=>by
  have h1:=h x;have h2:=sO h xs;simp only[kg,ad5];omega
theorem yx {α:Type}{f:α->PyData}:∀ {xs:List α},(∀x∈xs,(f x).canLay0=true)->adC (xs.map f)=true
 |[],_=>by simp only[aec,adC]
 |x::xs,h=>by
  simp only[kg,adC,h x fi,yx λy hy=>h y (kf _ hy),Bool.and_self]
theorem DF (ns:List Nat):(wV ns).canLay0=true:=by
 unfold wV;simp only[ad4];exact yx λn _=>by simp only[ad4]
theorem DG (ns:List Nat):(wV ns).depth<=2:=by
 unfold wV;have:=sO (f:=λn:Nat=>PyData.int (n:Int)) (k:=0) (λn=>by simp only[aed];omega) ns
 simp only[aed];omega
theorem Sj (x:Nat×Int×List Nat):(asD x).canLay0=true:=by
 unfold asD;simp only[ad4,adC,DF,Bool.and_self]
theorem Sk (x:Nat×Int×List Nat):(asD x).depth<=10:=by
 have:=DG x.2.2;unfold asD;simp only[aed,ad5];omega
theorem Sl (x:Nat×Str):(dcD x).depth<=10:=by
 unfold dcD;simp only[aed,ad5];omega
theorem ME {N:Nat}{st:Ch}(I:Inv N st)(ns:List Int):(stD st ns).canLay0=true:=by
 have h1:adC (ns.map λn=>asD (CA st n))=true:=yx λn _=>Sj _
 have h2:adC (st.decided.map dcD)=true:=yx λx hx=>by
  unfold dcD;simp only[ad4,adC,I.dw x hx,Bool.and_self]
 unfold stD;simp only[ad4,adC,DF,h1,h2,Bool.and_self]
theorem Sm (st:Ch)(ns:List Int):(stD st ns).depth<=64:=by
 have h0:=DG st.aC;have h1:=sO (f:=λn=>asD (CA st n)) (k:=10) (λn=>Sk _) ns
 have h2:=sO (f:=dcD) (k:=10) Sl st.decided;unfold stD;simp only[aed,ad5];omega
theorem wX:∀ {xs ys:List Int},List.Perm xs ys->xs.Pairwise (·<=·)->ys.Pairwise (·<=·)->xs=ys
 |[],ys,p,_,_=>(List.Perm.nil_eq p)
 |x::xs,[],p,_,_=>absurd p.length_eq (by simp)
 |x::xs,y::ys,p,hx,hy=>by
  obtain⟨x1,x2⟩:=List.pairwise_cons.mp hx;obtain⟨y1,y2⟩:=List.pairwise_cons.mp hy;have e:x=y:=by
   have a:x∈y::ys:=p.mem_iff.mp fi;have b:y∈x::xs:=p.mem_iff.mpr fi;rcases List.mem_cons.mp a with a | a
   ·exact a
   ·rcases List.mem_cons.mp b with b | b
    ·exact b.symm
    ·exact Int.le_antisymm (x1 y b) (y1 x a)
  subst e;rw[wX (List.perm_cons x |>.mp p) x2 y2]
def uX (c:Col)(H:Hp)(t:Addr)(xs:List V):Prop:=c t=none/\H t=some (.tup xs)
def wY (c:Col)(H:Hp):R.d7->Addr->Prop
 | .mat cs,t=>∃L,uX c H t [.str (ar "matter"),.ref L]/\c L=none/\H L=some (.lst ((cs.map (ka R.bl1)).map V.str))
 | .ed m k j ws,t=>∃e,uX c H t [.str (R.kEd m),.ref e]/\TupAt c H e (R.edR k j (ka R.bl1 ws))
 | .pt ws,t=>uX c H t [.str (ar "point"),.str (ka R.bl1 ws)]
 | .nums kd ns,t=>uX c H t (.str kd::ns.map V.int)
theorem uX.c {i:Nat}{c:Col}{H:Hp}{t:Addr}{xs:List V}(h:uX c H t xs):vR i c H t xs:=⟨by rw[h.1];exact bR,h.2⟩
theorem uX.step {W:Option (Nat×Rl)->Prop}{c c':Col}{H H':Hp}{t:Addr}{xs:List V}(s:Step W c c' H H')(h:uX c H t xs):uX c' H' t xs:=jE s h.1 h.2
theorem wY.step {W:Option (Nat×Rl)->Prop}{c c':Col}{H H':Hp}{t:Addr}(s:Step W c c' H H'):∀ {d:R.d7},wY c H d t->wY c' H' d t
 | .mat _,⟨L,a,b1,b2⟩=>⟨L,a.step s,jE s b1 b2⟩
 | .ed _ _ _ _,⟨e,a,b⟩=>⟨e,a.step s,b.step s⟩
 | .pt _,h=>uX.step s h
 | .nums _ _,h=>uX.step s h
theorem wY.c {i:Nat}{c:Col}{H:Hp}{t:Addr}:∀ {d:R.d7},wY c H d t->tj i c H d t
 | .mat _,⟨L,a,b1,b2⟩=>⟨L,a.c,by rw[b1];exact bR,b2⟩
 | .ed _ _ _ _,⟨e,a,b⟩=>⟨e,a.c,b⟩
 | .pt _,h=>uX.c h
 | .nums _ _,h=>uX.c h
theorem wY.kind {c:Col}{H:Hp}{t:Addr}:∀ {d:R.d7},wY c H d t->∃xs,H t=some (.tup (.str (R.nH d)::xs))
 | .mat _,⟨_,a,_⟩=>⟨_,a.2⟩
 | .ed _ _ _ _,⟨_,a,_⟩=>⟨_,a.2⟩
 | .pt _,h=>⟨_,h.2⟩
 | .nums _ _,h=>⟨_,h.2⟩
theorem MF:∀(as:List (Nat×Int×List Nat)) (ws:List V),as.length=ws.length->(bJ ((as.map (·.1)).zip ws)).map (·.1)=(as.map λx=>(x.1:Int)).map kr:=by
 intro as
 induction as with
 |nil=>intro ws _;cases ws <;> rfl
 |cons a as ih =>
  intro ws h;cases ws with
  |nil=>cases h
  |cons w ws =>
   rw[kg,dG,kg,ih ws (by simpa using h)]
   rfl
def AsC (c:Col)(H:Hp)(x:Nat×Int×List Nat)(v:V):Prop:=∃u l,v=.ref u/\(c u=none/\H u=some (.tup [nV x.1,.int x.2.1,.ref l]))/\c l=none/\H l=some (.lst (x.2.2.map nV))
def DcC (c:Col)(H:Hp)(x:Nat×Str)(v:V):Prop:=∃t,v=.ref t/\TupAt c H t [nV x.1,.str x.2]
structure StX (c:Col)(H:Hp)(st:Ch)(ns:List Int)(u l1 R l2:Addr)(ys ds:List V):Prop where
 cu:c u=none
 hu:H u=some (.tup [.int st.bt,.bl st.closed,.ref l1,.ref R,.ref l2])
 c1:c l1=none
 h1:H l1=some (.lst (st.aC.map nV))
 cR:c R=none
 hR:H R=some (.lst ys)
 asd:cQ (AsC c H) (ns.map (CA st)) ys
 c2:c l2=none
 h2:H l2=some (.lst ds)
 dec:cQ (DcC c H) st.decided ds
def OJ (c:Col)(H:Hp)(st:Ch)(ns:List Int)(u:Addr):Prop:=∃l1 R l2 ys ds,StX c H st ns u l1 R l2 ys ds
theorem AsC.step {W:Option (Nat×Rl)->Prop}{c c':Col}{H H':Hp}{x:Nat×Int×List Nat}{v:V}(s:Step W c c' H H'):AsC c H x v->AsC c' H' x v
 |⟨u,l,e,⟨h1,h2⟩,h3,h4⟩=>⟨u,l,e,jE s h1 h2,jE s h3 h4⟩
theorem DcC.step {W:Option (Nat×Rl)->Prop}{c c':Col}{H H':Hp}{x:Nat×Str}{v:V}(s:Step W c c' H H'):DcC c H x v->DcC c' H' x v
 |⟨t,e,h⟩=>⟨t,e,h.step s⟩
theorem StX.step {W:Option (Nat×Rl)->Prop}{c c':Col}{H H':Hp}{st:Ch}{ns:List Int}{u l1 R l2:Addr}{ys ds:List V}(s:Step W c c' H H')(h:StX c H st ns u l1 R l2 ys ds):StX c' H' st ns u l1 R l2 ys ds :=
 ⟨(jE s h.cu h.hu).1,(jE s h.cu h.hu).2,(jE s h.c1 h.h1).1,(jE s h.c1 h.h1).2,(jE s h.cR h.hR).1,(jE s h.cR h.hR).2,h.asd.imp λ_ _ z=>z.step s,(jE s h.c2 h.h2).1,(jE s h.c2 h.h2).2,h.dec.imp λ_ _ z=>z.step s⟩
theorem OJ.step {W:Option (Nat×Rl)->Prop}{c c':Col}{H H':Hp}{st:Ch}{ns:List Int}{u:Addr}(s:Step W c c' H H'):OJ c H st ns u->OJ c' H' st ns u
 |⟨l1,R,l2,ys,ds,h⟩=>⟨l1,R,l2,ys,ds,h.step s⟩
theorem AsC.dv {K:cb}{c:Col}{H:Hp}{x:Nat×Int×List Nat}{v:V}:AsC c H x v->DV K H (asD x) v
 |⟨u,l,e,⟨_,h3⟩,_,h4⟩=>by
  unfold asD DV;refine⟨u,_,e,SqT.of h3,?_⟩;unfold DVs;refine⟨_,_,rfl,by unfold DV;rfl,?_⟩
  unfold DVs;refine⟨_,_,rfl,by unfold DV;rfl,?_⟩
  unfold DVs;exact⟨_,_,rfl,CB (SqL.of h4),by unfold DVs;rfl⟩
theorem DcC.dv {K:cb}{c:Col}{H:Hp}{x:Nat×Str}{v:V}:DcC c H x v->DV K H (dcD x) v
 |⟨t,e,h⟩=>by
  subst e;unfold dcD DV;refine⟨t,_,rfl,h.sq,?_⟩;unfold DVs;refine⟨_,_,rfl,by unfold DV;rfl,?_⟩
  unfold DVs;exact⟨_,_,rfl,by unfold DV;rfl,by unfold DVs;rfl⟩
theorem StX.dv {K:cb}{c:Col}{H:Hp}{st:Ch}{ns:List Int}{u l1 R l2:Addr}{ys ds:List V}(h:StX c H st ns u l1 R l2 ys ds):DV K H (stD st ns) (.ref u):=by
 unfold stD DV;refine⟨u,_,rfl,SqT.of h.hu,?_⟩;unfold DVs;refine⟨_,_,rfl,by unfold DV;rfl,?_⟩
 unfold DVs;refine⟨_,_,rfl,by unfold DV;rfl,?_⟩
 unfold DVs;refine⟨_,_,rfl,CB (SqL.of h.h1),?_⟩;unfold DVs;refine⟨_,_,rfl,?_,?_⟩
 ·unfold DV;refine⟨R,ys,rfl,SqL.of h.hR,?_⟩;rw[show (ns.map λn=>asD (CA st n))=(ns.map (CA st)).map asD by rw[List.map_map];rfl]
  exact cQ.dvs (λx v h=>h.dv) h.asd
 ·unfold DVs;refine⟨_,_,rfl,?_,by unfold DVs;rfl⟩
  unfold DV;exact⟨l2,_,rfl,SqL.of h.h2,cQ.dvs (λx v h=>h.dv) h.dec⟩
def MG (A:Adr)(i:Nat):Sp:=λvs H Q _=>∃(o:Addr) (c:Col) (st:Ch),vs=[.ref o]/\fP A i c H o st/\st.aL.length < 64 /\
 ∀(ns:List Int) (u:Addr) (H':Hp),List.Perm ns (st.aL.map λx=>(x.1:Int))->ns.Pairwise (·<=·)->bT H H'->OJ (gf c H) H' st ns u->Q (.ref u) H'
def AsN (H0 H:Hp)(R:Addr)(x:Nat×Int×List Nat)(v:V):Prop:=∃u l,v=.ref u/\(u≠R/\l≠R)/\(H0 u=none/\H0 l=none)/\H u=some (.tup [nV x.1,.int x.2.1,.ref l])/\H l=some (.lst (x.2.2.map nV))
theorem AsN.same {H0 H H':Hp}{R:Addr}{x:Nat×Int×List Nat}{v:V}(s:bT H H'):AsN H0 H R x v->AsN H0 H' R x v
 |⟨u,l,e,h1,h2,h3,h4⟩=>⟨u,l,e,h1,h2,s _ _ h3,s _ _ h4⟩
theorem AsN.upd {H0 H:Hp}{R:Addr}{o:HO}{x:Nat×Int×List Nat}{v:V}:AsN H0 H R x v->AsN H0 (L2.upd H R o) R x v
 |⟨u,l,e,h1,h2,h3,h4⟩=>⟨u,l,e,h1,h2,(aw h1.1).trans h3,(aw h1.2).trans h4⟩
section
variable{P:ma}{w:World}{K:cb}{mg:Str->Option Value}{base:Heap}{A:Adr}
theorem Bl (T:Txt w.params K mg A){i:Nat}:a8 P w K mg base CX0 2 A.cX A.jX ["self"] (MG A i):=by
 refine T.f9.ok vB (λvs H Q E h=>?_) (λcdv A' outer s H vs Q E hr h=>?_)
 ·obtain⟨o,c,st,rfl,_⟩:=h;rfl
 ·obtain⟨o,c,st,rfl,hc,hal,q⟩:=h;obtain⟨dx,aM,aP,aA,aD,aF,aE,aR,ms,ds,ws,fs,es,X⟩:=hc.ex;have lim:gn=16777216:=by decide
  refine⟨_,(ao (F4 (i:=1) (scope:=lO) tH rfl rfl (wt rfl) (sf (bW (BR hr.hd) (by rfl) T.Dj Ju (aa (bp (pv 0) rfl) af))) (λ_ _ _ _ _=>(kB (pv 1) T.ai T.kR (As (i:=i) T) hr T.eW .nil bC (aa (pv 0) af))))
 (aq (aI (aG (aa (bp (pv 0) rfl) (aa (bp (pv 0) rfl) (aa (d0 dS (by rfl) T.mB kD (aa (bp (pv 0) rfl) af)) (aa (pv 1) (aa (d0 dS (by rfl) T.mB kD (aa (bp (pv 0) rfl) af)) af))))))))),?_⟩
  try dsimp only[cD]
  refine fh rfl X.ob T.ai T.jq3 j1 ⟨aA,_,_,rfl,X.aL.2,MF st.aL ws X.wait.len,by rw[da];exact hal,λl0 ns pm so hl0=>?_⟩
  have nl:ns.length=st.aL.length:=by rw[pm.length_eq,da]
  have s0:=aK (o:=.lst (ns.map V.int)) hl0;have hB:SqL K (upd H l0 (.lst (ns.map V.int))) l0 (ns.map V.int):=SqL.of ah;generalize upd H l0 (.lst (ns.map V.int))=H1 at s0 hB ⊢;refine⟨l0,rfl,⟨_,hB⟩,λR hR=>?_⟩
  have hR0:=same_none s0 hR;refine vw (K:=K) (a:=l0) (xs:=ns.map V.int) (λj ys H2=>bT H1 H2/\H2 R=some (.lst ys)/\cQ (AsN H H2 R) ((ns.take j).map (CA st)) ys) ⟨aK hR,ah,.nil⟩ (by rw[da];omega) ?_ ?_ ?_
  ·rintro j ys H2 hj ⟨s2,hR2,ha⟩;refine⟨s2.seq hB,hR2,?_⟩;rw[<-ha.len,da,adW];rw[da]at hj;omega
  ·rintro j y ys H2 hy ⟨s2,hR2,ha⟩;refine aN λGq gq=>?_
   obtain⟨n,hn1,rfl⟩:∃n,ns[j]?=some n/\V.int n=y:=by
    rw[adK]at hy;cases ht:ns[j]? with
    |none=>rw[ht]at hy;cases hy
    |some t=>rw[ht]at hy;exact⟨t,rfl,adq hy⟩
   have R8:n∈st.aL.map λx=>(x.1:Int):=pm.mem_iff.mp (adF hn1)
   obtain⟨x0,hx0,e0⟩:=List.mem_map.mp R8;obtain⟨x,hx⟩:∃x,at1 x0.1 st.aL=some x:=by
    cases z:at1 x0.1 st.aL with
    |some x=>exact⟨x,rfl⟩
    |none=>exact absurd (List.mem_map_of_mem hx0) (zJ z)
   have e0':((x0.1:Nat):Int)=n:=e0;subst e0';have s02:=s0.trans s2;have X2:=X.same s02;have ea:CA st ((x0.1:Nat):Int)=x:=by unfold CA;rw[Int.toNat_natCast,hx];rfl
   refine gq ?_;refine mtv rfl X2.ob (cZ (by trivial)) ⟨_,rfl,o,x0.1,c,st,x,rfl,X2.at,hx,λl u H3 hl hu s3 h1 h2=>?_⟩
   have hR3:=s3 _ _ hR2;refine f7.mk (List.getElem?_eq_some_iff.mp hy).1 hR3 ⟨(s2.trans s3).own hR,ah,?_⟩;rw[List.take_succ,hn1,wa];refine cQ.snoc (ha.imp λ_ _ z=>(z.same s3).upd) ?_
   rw[ea];refine AsN.upd ⟨u,l,rfl,⟨(λz=>by rw[z,hR2]at hu;cases hu),(λz=>by rw[z,hR2]at hl;cases hl)⟩,⟨same_none s02 hu,same_none s02 hl⟩,?_,h1⟩
   rw[(nI hx).1];exact h2
  ·rintro ys H2 ⟨s2,hR2,ha⟩;rw[da,aeI]at ha;have s02:=s0.trans s2;have X2:=X.same s02;refine fh rfl X2.ob T.ai T.jq1 ja (fh rfl X2.ob T.ai T.jq4 pZ (fh rfl X2.ob T.ai T.jq0 fQ ⟨aP,_,rfl,.inl (SqL.of X2.aC.2),λl1 hl1=>?_⟩))
   have s3:=aK (o:=.lst (st.aC.map nV)) hl1;have X3:=X2.same s3;have s03:=s02.trans s3;refine⟨_,rfl,fh rfl X3.ob T.ai T.jqk wQ ⟨aD,_,rfl,.inl (SqL.of X3.dec.2),λl2 hl2=>⟨(sl 5),λu hu=>?_⟩⟩⟩
   have s4:=aK (o:=.lst (ds.map V.ref)) hl2;have s5:=aK (o:=.tup [V.int st.bt,.bl st.closed,.ref l1,.ref R,.ref l2]) hu;have s45:=s4.trans s5;have s05:=s03.trans s45;have X5:=X3.same s45;refine q ns u _ pm so s05 ⟨l1,R,l2,ys,ds.map V.ref,g9 (same_none (s03.trans s4) hu),ah,g9 (same_none s02 hl1),s45 _ _ ah,g9 hR0,(s3.trans s45) _ _ hR2,?_,g9 (same_none s03 hl2),s5 _ _ ah,?_⟩
   ·refine ha.imp λx v z=>?_
    refine aN λGq gq=>?_
    obtain⟨u',l',e,_,⟨z1,z2⟩,z3,z4⟩:=z.same (s3.trans s45);refine gq ?_;exact⟨u',l',e,⟨g9 z1,z3⟩,g9 z2,z4⟩
   ·refine cQ.mapR (X5.xm.imp λx t h=>⟨t,rfl,?_,h.2⟩)
    unfold gf;split
    ·exact h.1
    ·rfl
end
mutual
def LV (c:Col)(H:Hp):PyData->V->Prop
 | .int n,v=>v=.int n
 | .str s,v=>v=.str s
 | .tuple ds,v=>∃t vs,v=.ref t/\(c t=none/\H t=some (.tup vs))/\LVs c H ds vs
 | .list ds,v=>∃t vs,v=.ref t/\(c t=none/\H t=some (.lst vs))/\LVs c H ds vs
 |_,_=>False
def LVs (c:Col)(H:Hp):List PyData->List V->Prop
 |[],vs=>vs=[]
 |d::ds,vs=>∃v r,vs=v::r/\LV c H d v/\LVs c H ds r
end
mutual
theorem LV.step {W:Option (Nat×Rl)->Prop}{c c':Col}{H H':Hp}(s:Step W c c' H H'):∀(d:PyData) {v:V},LV c H d v->LV c' H' d v
 | .none,_,h=>by unfold LV at h;exact h.elim
 | .bool _,_,h=>by unfold LV at h;exact h.elim
 | .dict _,_,h=>by unfold LV at h;exact h.elim
 | .int _,_,h=>by unfold LV at h ⊢;exact h
 | .str _,_,h=>by unfold LV at h ⊢;exact h
 | .tuple ds,_,h=>by
  unfold LV at h ⊢;obtain⟨t,vs,e,h1,h2⟩:=h;exact⟨t,vs,e,jE s h1.1 h1.2,LVs.step s ds h2⟩
 | .list ds,_,h=>by
  unfold LV at h ⊢;obtain⟨t,vs,e,h1,h2⟩:=h;exact⟨t,vs,e,jE s h1.1 h1.2,LVs.step s ds h2⟩
theorem LVs.step {W:Option (Nat×Rl)->Prop}{c c':Col}{H H':Hp}(s:Step W c c' H H'):∀(ds:List PyData) {vs:List V},LVs c H ds vs->LVs c' H' ds vs
 |[],_,h=>by unfold LVs at h ⊢;exact h
 |d::ds,_,h=>by
  unfold LVs at h ⊢;obtain⟨v,r,e,h1,h2⟩:=h;exact⟨v,r,e,LV.step s d h1,LVs.step s ds h2⟩
end
mutual
theorem LV.dv {K:cb}{c:Col}{H:Hp}:∀(d:PyData) {v:V},LV c H d v->DV K H d v
 | .none,_,h=>by unfold LV at h;exact h.elim
 | .bool _,_,h=>by unfold LV at h;exact h.elim
 | .dict _,_,h=>by unfold LV at h;exact h.elim
 | .int _,_,h=>by unfold LV at h;unfold DV;exact h
 | .str _,_,h=>by unfold LV at h;unfold DV;exact h
 | .tuple ds,_,h=>by
  unfold LV at h;unfold DV;obtain⟨t,vs,e,h1,h2⟩:=h;exact⟨t,vs,e,SqT.of h1.2,LVs.dv ds h2⟩
 | .list ds,_,h=>by
  unfold LV at h;unfold DV;obtain⟨t,vs,e,h1,h2⟩:=h;exact⟨t,vs,e,SqL.of h1.2,LVs.dv ds h2⟩
theorem LVs.dv {K:cb}{c:Col}{H:Hp}:∀(ds:List PyData) {vs:List V},LVs c H ds vs->DVs K H ds vs
 |[],_,h=>by unfold LVs at h;unfold DVs;exact h
 |d::ds,_,h=>by
  unfold LVs at h;unfold DVs;obtain⟨v,r,e,h1,h2⟩:=h;exact⟨v,r,e,LV.dv d h1,LVs.dv ds h2⟩
end
theorem LVs.len {c:Col}{H:Hp}:∀(ds:List PyData) {vs:List V},LVs c H ds vs->vs.length=ds.length
 |[],_,h=>by unfold LVs at h;rw[h];rfl
 |d::ds,_,h=>by
  unfold LVs at h;obtain⟨v,r,e,_,h2⟩:=h;rw[e,om,om,LVs.len ds h2]
theorem LVs.at_ {c:Col}{H:Hp}:∀(ds:List PyData) {vs:List V} {i:Nat} {v:V},LVs c H ds vs->vs[i]?=some v->∃d,ds[i]?=some d/\LV c H d v
 |[],_,_,_,h,e=>by unfold LVs at h;rw[h]at e;simp at e
 |d::ds,_,0,_,h,e=>by
  unfold LVs at h;obtain⟨v,r,rfl,h1,_⟩:=h;rw[adP]at e;cases e;exact⟨d,rfl,h1⟩
 |d::ds,_,i+1,_,h,e=>by
  unfold LVs at h;obtain⟨v,r,rfl,_,h2⟩:=h;rw[ad1]at e;obtain⟨d',e1,e2⟩:=LVs.at_ ds h2 e;exact⟨d',by rw[ad1];exact e1,e2⟩
theorem LVs.app {c:Col}{H:Hp}{es:List PyData}{ws:List V}(h2:LVs c H es ws):∀(ds:List PyData) {vs:List V},LVs c H ds vs->LVs c H (ds++es) (vs++ws)
 |[],_,h=>by unfold LVs at h;rw[h];exact h2
 |d::ds,_,h=>by
  unfold LVs at h;obtain⟨v,r,rfl,h1,h3⟩:=h;show LVs c H (d::(ds++es)) (v::(r++ws));unfold LVs;exact⟨v,_,rfl,h1,LVs.app h2 ds h3⟩
theorem Pz {c:Col}{H:Hp}{ds:List PyData}{vs:List V}(l:LVs c H ds vs)(hl:ds.length<=100):vs.length<=gn:=by
 have sz:gn=16777216:=by decide
 rw[LVs.len ds l];omega
abbrev cN:Col:=λ_=>none
theorem LV.same {H H':Hp}(s:bT H H'){d:PyData}{v:V}(h:LV cN H d v):LV cN H' d v:=LV.step (Step.same (W:=λ_=>False) id s) d h
theorem LVs.same {H H':Hp}(s:bT H H'){ds:List PyData}{vs:List V}(h:LVs cN H ds vs):LVs cN H' ds vs:=LVs.step (Step.same (W:=λ_=>False) id s) ds h
def BT (H0:Hp)(σ:St)(te:TE)(d:PyData):Prop:=∀H (Q:VK),bT H0 H->(∀v H',bT H H'->LV cN H' d v->Q v H')->te σ H Q
def BA (H0:Hp)(σ:St)(ta:TA)(ds:List PyData):Prop:=∀H (Q:List V->Hp->Prop),bT H0 H->(∀vs H',bT H H'->LVs cN H' ds vs->Q vs H')->ta σ H Q
section
variable{H0:Hp}{σ:St}{te tf:TE}{ta:TA}{d e:PyData}{ds es:List PyData}
theorem lt_str {s:Str}:BT H0 σ (tC (.str s)) (.str s):=λH _ _ q=>q _ H (bT.refl _) (by unfold LV;rfl)
theorem lt_int {n:Int}:BT H0 σ (tC (.int n)) (.int n):=λH _ _ q=>q _ H (bT.refl _) (by unfold LV;rfl)
theorem bS {i:Nat}{v:V}(h:σ[i]?=some (some v))(l:LV cN H0 d v):BT H0 σ (Qx i) d:=λH _ s q=>⟨v,h,q v H (bT.refl _) (LV.same s l)⟩
theorem Sn {n:Int}:BT H0 σ (tUn (rU λi=>V.int (-i)) (tC (.int n))) (.int (-n)):=λH _ _ q=>⟨n,rfl,q _ H (bT.refl _) (by unfold LV;rfl)⟩
theorem av:BA H0 σ QL []:=λH _ _ q=>q [] H (bT.refl _) (by unfold LVs;rfl)
theorem ae (h1:BT H0 σ te d)(h2:BA H0 σ ta ds):BA H0 σ (Pb te ta) (d::ds):=λH Q s q =>
 h1 H _ s λv H1 s1 l1=>h2 H1 _ (s.trans s1) λvs H2 s2 l2=>q (v::vs) H2 (s1.trans s2) (by unfold LVs;exact⟨v,vs,rfl,LV.same s2 l1,l2⟩)
theorem aO (h:BA H0 σ ta ds)(hl:ds.length<=100:=by exact kc rfl):BT H0 σ (VW ta) (.tuple ds):=λH Q s q =>
 h H _ s λvs H1 s1 l1=>⟨Pz l1 hl,λp hp=>q _ _ (s1.new hp) (by unfold LV;exact⟨p,vs,rfl,⟨rfl,ah⟩,LVs.same (aK hp) l1⟩)⟩
theorem cB (h:BA H0 σ ta ds)(hl:ds.length<=100:=by exact kc rfl):BT H0 σ (VX ta) (.list ds):=λH Q s q =>
 h H _ s λvs H1 s1 l1=>⟨Pz l1 hl,λp hp=>q _ _ (s1.new hp) (by unfold LV;exact⟨p,vs,rfl,⟨rfl,ah⟩,LVs.same (aK hp) l1⟩)⟩
theorem mR (h1:BT H0 σ te (.list ds))(h2:BT H0 σ tf (.list es))(hl:ds.length+es.length<=100:=by exact kc rfl) :
  BT H0 σ (tOp (λx y H Q=>∃l b xs zs,x=V.ref l/\y=V.ref b/\H l=some (.lst xs)/\H b=some (.lst zs)/\xs.length+zs.length<=gn/\∀p,H p=none->Q (V.ref p) (upd H p (.lst (xs++zs)))) te tf) (.list (ds++es)):=λH Q s q =>
 h1 H _ s λv H1 s1 l1=>h2 H1 _ (s.trans s1) λu H2 s2 l2=>by
  have l1':=LV.same s2 l1;unfold LV at l1' l2;obtain⟨a,xs,ev,⟨_,ha⟩,la⟩:=l1';obtain⟨b,ys,eu,⟨_,hb⟩,lb⟩:=l2;have sz:gn=16777216:=by decide
  refine⟨a,b,xs,ys,ev,eu,ha,hb,by rw[LVs.len _ la,LVs.len _ lb];omega,λp hp=>q _ _ ((s1.trans s2).new hp) ?_⟩
  unfold LV;exact⟨p,_,rfl,⟨rfl,ah⟩,LVs.same (aK hp) (LVs.app lb _ la)⟩
theorem ix {i:Nat}{t2:TS}{D:Ends}(h:BT H0 σ te d)(q:∀v H',bT H0 H'->LV cN H' d v->t2 D (σ.set i (some v)) H'):QA (Kw te (iy i)) t2 D σ H0:=h H0 _ (bT.refl _) q
end
inductive Dq where
 |d (x:R.d7) | nY (n:Int) | kept (n:Int) | first (n:Int)
def qj:R.d7->PyData
 | .mat cs=>.tuple [.str (ar "matter"),.list ((cs.map (ka R.bl1)).map ad3)]
 | .ed m k j ws=>.tuple [.str (R.kEd m),edD ⟨k,j,ka R.bl1 ws⟩]
 | .pt ws=>.tuple [.str (ar "point"),.str (ka R.bl1 ws)]
 | .nums kd ns=>.tuple (.str kd::ns.map PyData.int)
def dqD:Dq->PyData
 | .d x=>qj x
 | .nY n=>.tuple [.str (ar "motion"),.int n]
 | .kept n=>.tuple [.str (ar "kept"),.int n]
 | .first n=>.tuple [.str (ar "first"),.int n]
def rJ:Xc->PyData
 | .fX b=>.tuple [.str (ar "bar"),.int b]
 | .eF b=>.tuple [.str (ar "later"),.int b]
 | .iP b=>.tuple [.str (ar "yet"),.int b]
 | .nothing=>.int 0
 | .eX=>.int 1
 | .noChange=>.int 2
 | .noFit=>.int 3
 | .tooMany=>.int 4
 | .fY=>.int 5
 | .bj=>.int 6
abbrev Case:Type:=List R.d7×Dq×Xc
def IL (x:Case):PyData:=.tuple [.list (x.1.map qj),dqD x.2.1,rJ x.2.2]
def DH:List R.d7->Ch->Option Ch
 |[],st=>some st
 |d::ds,st=>match dZ st d with
  | (.exc _,_)=>none
  | (_,st')=>DH ds st'
def GL (st:Ch):Dq->Option Xc
 | .d x=>match (dZ st x).1 with
  | .exc e=>some e
  |_=>none
 | .nY n=>if 1<=n/\n<=st.made.length then none else some .bj
 | .kept n=>if n∈st.kX.map (λk:Nat=>(k:Int)) then none else some .bj
 | .first n=>if n∈st.kX.map (λk:Nat=>(k:Int)) then none else some .bj
def So:Dq->Prop
 | .d x=>jd x
 | .nY n=>0<=n/\n < 10 ^ 10
 | .kept n=>-1<=n/\n < 10 ^ 10
 | .first n=>-1<=n/\n < 10 ^ 10
def NN:R.d7->Prop
 | .ed _ _ j _=>0<=j
 | .nums _ ns=>∀i∈ns,0<=i
 |_=>True
theorem OK (m:Nat):R.Asc (R.num ((m:Nat):Int)):=λc hc=>by
 have sg:=PySem.W.KIN.signs_num m;have hc':c∈(Nat.toDigits 10 m).map Char.toNat:=by rw[<-sg];exact hc
 obtain⟨ch,hch,e⟩:=List.mem_map.mp hc';have r:=PyProof.Rows.digit_range (Nat.isDigit_of_mem_toDigits (by decide) (by decide) hch)
 rw[<-e];have:=r.2;omega
theorem DI {i:Int}(h:0<=i):R.Asc (R.num i):=by
 obtain⟨m,rfl⟩:=Int.eq_ofNat_of_zero_le h;exact OK m
theorem DJ {d:R.d7}(hd:jd d)(hn:NN d):Lk (R.jC d)=true:=by
 have lit:∀x∈([R.bl1,ar "matter",R.sl1,ar "mend",ar "change",R.kn 0,R.kn 1,R.kn 2,ar "point",ar "put off",ar "vote",ar "take",ar "close",ar "lay",ar "rest",ar "drop"]:List Str),∀c∈x.cps.toList,c < 128:=by trivial
 refine R.Asc.ok (R.mG (lit _ (by simp)) _ λw hw=>?_)
 rcases List.mem_cons.mp hw with rfl | hw
 ·cases hd with
  |DE=>exact lit _ (by simp[R.nH])
  |drop=>exact lit _ (by simp[R.nH])
  |take=>exact lit _ (by simp[R.nH])
  |move hm =>
   cases d with
   |mat cs=>exact lit _ (by simp[R.nH])
   |ed m k j ws=>cases m <;> exact lit _ (by simp[R.nH,R.kEd])
   |pt ws=>exact lit _ (by simp[R.nH])
   |nums kd ns=>rcases uV hm.1 with ⟨u,rfl,rfl⟩ | ⟨rfl,rfl⟩ | ⟨rfl,rfl⟩ | ⟨rfl,rfl⟩ <;> exact lit _ (by simp[R.nH])
 ·cases d with
  |nums kd ns =>
   obtain⟨i,hi,rfl⟩:=List.mem_map.mp (show w∈ns.map R.num from hw)
   exact DI (hn i hi)
  |mat cs =>
   cases hd with
   |move hm =>
    obtain⟨ws,h1,h2⟩:=List.mem_flatMap.mp (show w∈cs.flatMap λws=>R.sl1::ws from hw)
    rcases List.mem_cons.mp h2 with rfl | h2
    ·exact lit _ (by simp)
    ·exact((hm.2 ws h1).wd w h2).asc
  |pt ws =>
   cases hd with
   |move hm=>exact(hm.wd w hw).asc
  |ed m k j ws =>
   cases hd with
   |move hm =>
    rcases List.mem_cons.mp (show w∈R.kn k::R.num j::(if k=1 then [] else ws) from hw) with rfl | h2
    ·rcases hm.1 with rfl | rfl | rfl <;> exact lit _ (by simp)
    ·rcases List.mem_cons.mp h2 with rfl | h2
     ·exact DI hn
     ·split at h2
      ·cases h2
      ·exact(hm.2.2.1.wd w h2).asc
structure GoodC (x:Case):Prop where
 ok:∀d∈x.1,jd d/\NN d
 len:x.1.length<=3
 q:So x.2.1
 run:∃st,DH x.1 (rH 3)=some st/\GL st x.2.1=some x.2.2
abbrev fR (z:String)(ns:List Int):R.d7:=.nums (ar z) ns
def IM (w1 w2:List Str)(big:Int)(wd:Str)(sz:Int):List Case :=
  [([],.d (fR "vote" [1,0]),.nothing),([],.d (fR "drop" []),.nothing),([fR "rest" []],.d (.ed false 1 0 []),.fX 6),
   ([],.d (.ed false 0 2 w1),.eX),([],.d (fR "lay" []),.eX),([],.d (.ed true 0 0 [wd]),.eX),
   ([.mat [w1,w2]],.d (.mat [w1,w2]),.fX 0),
   ([.mat [w1,w2]],.d (.ed true 0 0 [wd]),.noChange),([.mat [w1,w2],.ed false 1 0 []],.d (.ed true 0 0 [wd]),.noChange),
   ([.mat [w1,w2]],.d (.ed false 2 2 w1),.noFit),([.mat [w1,w2]],.d (fR "put off" [1]),.eF 1),
   ([.mat [w1,w2],.ed false 0 2 w1],.d (.ed true 1 sz [wd]),.noFit),([.mat [w1,w2],.ed false 0 2 w1],.d (.ed false 0 2 w1),.fX 1),
   ([.mat [w1,w2]],.d (fR "vote" [3,1]),.tooMany),([.mat [w1,w2],fR "close" [],fR "vote" [2,1]],.d (fR "put off" [2]),.fX 4),
   ([.mat [w1,w2]],.d (fR "take" [1]),.fX 0),([],.d (fR "take" [big]),.fY),
   ([.mat [w1,w2],fR "vote" [1,0]],.d (fR "take" [1]),.fY),
   ([.mat [w1,w2],fR "put off" [big],fR "vote" [1,0]],.d (fR "take" [1]),.iP big),([.mat [w1,w2],fR "put off" [big],fR "vote" [1,0]],.d (fR "take" [2]),.fY),([],.nY big,.bj),
   ([.mat [w1,w2],.ed false 1 0 []],.kept 2,.bj),([.mat [w1,w2],.ed false 1 0 []],.first 2,.bj),([.mat [w1,w2]],.nY 0,.bj),
   ([.mat [w1,w2]],.kept 0,.bj),([.mat [w1,w2]],.first (-1),.bj),([.mat [w1,w2]],.kept big,.bj)]
theorem IP {α:Type}{p:α->Prop}:∀ {xs:List α},(xs.foldr (λx q=>p x/\q) True)->∀x∈xs,p x
 |[],_,x,h=>nomatch h
 |y::xs,⟨h1,h2⟩,x,h=>by
  rcases List.mem_cons.mp h with e | h
  ·rw[e];exact h1
  ·exact IP h2 x h
theorem Bm {w1 w2:List Str}{big:Int}(b1:2<=big)(h:jd (fR "put off" [big])):∃st,DH [.mat [w1,w2],fR "put off" [big],fR "vote" [1,0]] (rH 3)=some st/\(stepT st 1).1=.exc (.iP big)/\(stepT st 2).1=.exc .fY:=by
 have mv:DB (fR "put off" [big]):=by
  generalize e:fR "put off" [big]=d at h;cases h with
  |DE=>exact absurd (R.d7.nums.inj e).1 (by trivial)
  |drop=>exact absurd (R.d7.nums.inj e).1 (by trivial)
  |take=>exact absurd (R.d7.nums.inj e).1 (by trivial)
  |move h=>exact h
 have r1:dZ ((rH 3).moved (.mat ([w1,w2].map (ka R.bl1))) (R.jC (.mat [w1,w2]))) (fR "put off" [big])=(.num 2,((rH 3).moved (.mat ([w1,w2].map (ka R.bl1))) (R.jC (.mat [w1,w2]))).moved (.off big) (R.jC (fR "put off" [big]))):=by
  rw[j4 mv];have key:uT ((rH 3).moved (.mat ([w1,w2].map (ka R.bl1))) (R.jC (.mat [w1,w2]))) (.off big)=none:=by
   show (if big<=1 then some (Xc.eF 1) else none)=none
   rw[if_neg (by omega)]
  show lT _ (.off big) _=_;unfold lT;rw[key];rfl
 refine⟨(pb (((rH 3).moved (.mat ([w1,w2].map (ka R.bl1))) (R.jC (.mat [w1,w2]))).moved (.off big) (R.jC (fR "put off" [big]))) 1 0).2,?_,?_,rfl⟩
 ·show (match dZ ((rH 3).moved (.mat ([w1,w2].map (ka R.bl1))) (R.jC (.mat [w1,w2]))) (fR "put off" [big]) with
   | (.exc _,_)=>none
   | (_,st')=>DH [fR "vote" [1,0]] st')=some _
  rw[r1];rfl
 ·show (if (1:Int) < big then (Rs.exc (.iP big),_) else _:Rs×Ch).1=_
  rw[if_pos (by omega)]
theorem MH {w1 w2:List Str}{big:Int}{wd:Str}{sz:Int}(h1:R.sP 12 w1)(h2:R.sP 12 w2)(b1:2<=big)(b2:big < 1000000000)(hw:R.lH wd)(hs:sz=w1.length):∀x∈IM w1 w2 big wd sz,GoodC x:=by
 have k1:(10:Int) ^ 10=10000000000:=by decide
 have h0:R.sP 12 []:=⟨by decide,λ_ h=>nomatch h⟩
 have hm:jd (.mat [w1,w2]):=.move ⟨by show 2<=12;decide,λws h=>by
  simp only[List.mem_cons,aeH,or_false]at h;rcases h with rfl | rfl
  ·exact h1
  ·exact h2⟩
 have hc:jd (.ed false 1 0 []):=.move ⟨.inr (.inl rfl),⟨by decide,by decide⟩,h0,λz=>nomatch z⟩
 have hp:jd (.ed false 0 2 w1):=.move ⟨.inl rfl,⟨by decide,by decide⟩,h1,λz=>nomatch z⟩
 have ht:jd (.ed false 2 2 w1):=.move ⟨.inr (.inr rfl),⟨by decide,by decide⟩,h1,λz=>nomatch z⟩
 have h1w:R.sP 12 [wd]:=⟨by show 1<=12;decide,λw h=>by rw[ra]at h;rw[h];exact hw⟩
 have hd:jd (.ed true 0 0 [wd]):=.move ⟨.inl rfl,⟨by decide,by decide⟩,h1w,λ_=>rfl⟩
 have hz:jd (.ed true 1 sz [wd]):=.move ⟨.inr (.inl rfl),⟨by omega,by have:=h1.len;omega⟩,h1w,λ_=>rfl⟩
 have ho:∀u:Int,0<=u->u < 1000000000->jd (fR "put off" [u]):=λu u0 u1=>.move ⟨by show (ar "put off",1)∈sN;trivial,λi hi=>by rw[ra]at hi;rw[hi];omega⟩
 have hn:∀z:String,(ar z,0)∈sN->jd (fR z []):=λz h=>.move ⟨h,λ_ h=>nomatch h⟩
 have hv:∀a b:Int,0<=a->a < 100->0<=b->b < 100->jd (fR "vote" [a,b]):=λa b a0 a1 b0 b1=>.DE ⟨a0,by omega⟩ ⟨b0,by omega⟩
 have hk:∀u:Int,-1<=u->u < 1000000000->jd (fR "take" [u]):=λu u0 u1=>.take u0 (by omega)
 have g1:∀ {p:R.d7->Prop} {x:R.d7},p x->∀d∈[x],p d:=λh d hd=>by rw[ra]at hd;rw[hd];exact h
 have g2:∀ {p:R.d7->Prop} {x y:R.d7},p x->p y->∀d∈[x,y],p d:=λh h' d hd=>by
  rcases List.mem_cons.mp hd with e | hd
  ·rw[e];exact h
  ·rw[ra]at hd;rw[hd];exact h'
 have g3:∀ {p:R.d7->Prop} {x y z:R.d7},p x->p y->p z->∀d∈[x,y,z],p d:=λh h' h'' d hd=>by
  rcases List.mem_cons.mp hd with e | hd
  ·rw[e];exact h
  ·exact g2 h' h'' d hd
 have l0:∀d∈([]:List R.d7),jd d/\NN d:=λ_ h=>nomatch h
 have hmN:jd (.mat [w1,w2])/\NN (.mat [w1,w2]):=⟨hm,trivial⟩;have hcN:jd (.ed false 1 0 [])/\NN (.ed false 1 0 []):=⟨hc,Int.le_refl 0⟩;have hpN:jd (.ed false 0 2 w1)/\NN (.ed false 0 2 w1):=⟨hp,by show (0:Int)<=2;decide⟩
 have hoN:jd (fR "put off" [big])/\NN (fR "put off" [big]):=⟨ho big (by omega) b2,λi hi=>by rw[ra]at hi;rw[hi];omega⟩
 have hnN:∀z:String,(ar z,0)∈sN->jd (fR z [])/\NN (fR z []):=λz h=>⟨hn z h,λ_ h=>nomatch h⟩
 have hvN:∀a b:Int,0<=a->a < 100->0<=b->b < 100->jd (fR "vote" [a,b])/\NN (fR "vote" [a,b]):=λa b a0 a1 b0 b1=>⟨hv a b a0 a1 b0 b1,λi hi=>by
  rcases List.mem_cons.mp hi with e | hi
  ·rw[e];exact a0
  ·rw[ra]at hi;rw[hi];exact b0⟩
 have q3:∀n:Int,-1<=n->n < 1000000000->-1<=n/\n < 10 ^ 10:=λn a b=>⟨a,by omega⟩
 have q4:∀n:Int,0<=n->n < 1000000000->0<=n/\n < 10 ^ 10:=λn a b=>⟨a,by omega⟩
 refine IP ⟨?_,?_,?_,?_,?_,?_,?_,?_,?_,?_,?_,?_,?_,?_,?_,?_,?_,?_,?_,?_,?_,?_,?_,?_,?_,?_,?_,trivial⟩
 ·exact⟨l0,kc rfl,hv 1 0 (by decide) (by decide) (by decide) (by decide),_,rfl,rfl⟩
 ·exact⟨l0,kc rfl,.drop,_,rfl,rfl⟩
 ·exact⟨g1 (hnN "rest" (by trivial)),kc rfl,hc,_,rfl,rfl⟩
 ·exact⟨l0,kc rfl,hp,_,rfl,rfl⟩
 ·exact⟨l0,kc rfl,hn "lay" (by trivial),_,rfl,rfl⟩
 ·exact⟨l0,kc rfl,hd,_,rfl,rfl⟩
 ·exact⟨g1 hmN,kc rfl,hm,_,rfl,rfl⟩
 ·exact⟨g1 hmN,kc rfl,hd,_,rfl,rfl⟩
 ·exact⟨g2 hmN hcN,kc rfl,hd,_,rfl,rfl⟩
 ·exact⟨g1 hmN,kc rfl,ht,_,rfl,rfl⟩
 ·exact⟨g1 hmN,kc rfl,ho 1 (by decide) (by decide),_,rfl,rfl⟩
 ·refine⟨g2 hmN hpN,kc rfl,hz,_,rfl,?_⟩;have hf:il (R.cw (ka R.bl1 w1)).length ⟨1,sz,ka R.bl1 [wd]⟩=false:=by
   rw[R.jz h1.wd,hs];unfold il;simp
  have key:uT (((rH 3).moved (.mat ([w1,w2].map (ka R.bl1))) (R.jC (.mat [w1,w2]))).moved (.chg ⟨0,2,ka R.bl1 w1⟩) (R.jC (.ed false 0 2 w1))) (.mnd ⟨1,sz,ka R.bl1 [wd]⟩)=some .noFit:=by
   show (if il (R.cw (ka R.bl1 w1)).length ⟨1,sz,ka R.bl1 [wd]⟩=true then none else some Xc.noFit)=_
   rw[hf];rfl
  show (match (lT (((rH 3).moved (.mat ([w1,w2].map (ka R.bl1))) (R.jC (.mat [w1,w2]))).moved (.chg ⟨0,2,ka R.bl1 w1⟩) (R.jC (.ed false 0 2 w1))) (.mnd ⟨1,sz,ka R.bl1 [wd]⟩) (R.jC (.ed true 1 sz [wd]))).1 with
   | .exc e=>some e
   |_=>none)=_
  unfold lT;rw[key]
 ·exact⟨g2 hmN hpN,kc rfl,hp,_,rfl,rfl⟩
 ·exact⟨g1 hmN,kc rfl,hv 3 1 (by decide) (by decide) (by decide) (by decide),_,rfl,rfl⟩
 ·exact⟨g3 hmN (hnN "close" (by trivial)) (hvN 2 1 (by decide) (by decide) (by decide) (by decide)),kc rfl,ho 2 (by decide) (by decide),_,rfl,rfl⟩
 ·exact⟨g1 hmN,kc rfl,hk 1 (by decide) (by decide),_,rfl,rfl⟩
 ·exact⟨l0,kc rfl,hk big (by omega) b2,_,rfl,rfl⟩
 ·exact⟨g2 hmN (hvN 1 0 (by decide) (by decide) (by decide) (by decide)),kc rfl,hk 1 (by decide) (by decide),_,rfl,rfl⟩
 ·refine⟨g3 hmN hoN (hvN 1 0 (by decide) (by decide) (by decide) (by decide)),kc rfl,hk 1 (by decide) (by decide),?_⟩
  obtain⟨st,e1,e2,_⟩:=Bm (w1:=w1) (w2:=w2) b1 (ho big (by omega) b2)
  refine⟨st,e1,?_⟩;show (match (dZ st (fR "take" [1])).1 with
   | .exc e=>some e
   |_=>none)=_
  rw[iR];show (match (stepT st 1).1 with
   | .exc e=>some e
   |_=>none)=_
  rw[e2]
 ·refine⟨g3 hmN hoN (hvN 1 0 (by decide) (by decide) (by decide) (by decide)),kc rfl,hk 2 (by decide) (by decide),?_⟩
  obtain⟨st,e1,_,e2⟩:=Bm (w1:=w1) (w2:=w2) b1 (ho big (by omega) b2)
  refine⟨st,e1,?_⟩;show (match (dZ st (fR "take" [2])).1 with
   | .exc e=>some e
   |_=>none)=_
  rw[iR];show (match (stepT st 2).1 with
   | .exc e=>some e
   |_=>none)=_
  rw[e2]
 ·exact⟨l0,kc rfl,q4 big (by omega) b2,_,rfl,if_neg (by show ¬(1<=big/\big<=((0:Nat):Int));omega)⟩
 ·exact⟨g2 hmN hcN,kc rfl,q3 2 (by decide) (by decide),_,rfl,rfl⟩
 ·exact⟨g2 hmN hcN,kc rfl,q3 2 (by decide) (by decide),_,rfl,rfl⟩
 ·exact⟨g1 hmN,kc rfl,q4 0 (by decide) (by decide),_,rfl,rfl⟩
 ·exact⟨g1 hmN,kc rfl,q3 0 (by decide) (by decide),_,rfl,rfl⟩
 ·exact⟨g1 hmN,kc rfl,q3 (-1) (by decide) (by decide),_,rfl,rfl⟩
 ·refine⟨g1 hmN,kc rfl,q3 big (by omega) b2,_,rfl,if_neg ?_⟩
  show ¬big∈[((1:Nat):Int)];rw[ra];omega
theorem Bn {n:Int}:∀ {ks:List Nat} {vs:List V},n∉ks.map (λk:Nat=>(k:Int))->jN (bJ (ks.zip vs)) (kr n)=none
 |[],_,_=>rfl
 |_::_,[],_=>rfl
 |k::ks,v::vs,h=>by
  rw[dG,iA (λz=>h (by rw[<-Sum.inl.inj z];exact fi))]
  exact Bn λz=>h (kf _ z)
def CC (A:Adr)(i:Nat):Sp:=λvs H _ E=>∃(o:Addr) (n:Int) (c:Col) (st:Ch) (N:Nat),vs=[.ref o,.int n]/\fP A i c H o st/\Inv N st/\-1<=n/\n < 10 ^ 10/\n∉st.kX.map (λk:Nat=>(k:Int))/\E (.ref A.aS) none H
def JI (A:Adr)(i:Nat):Sp:=λvs H Q _=>∃(o:Addr) (c:Col) (st:Ch),vs=[.ref o]/\fP A i c H o st/\∀l,H l=none->Q (.ref l) (upd H l (.lst (st.rows.map V.str)))
def abv (A:Adr)(i:Nat)(c:Col)(H:Hp)(o:Addr)(st:Ch):Dq->VK->XK->Prop
 | .d x,Q,E=>wU A i c H o (dZ st x) Q E
 |q,_,E=>GL st q=some .bj/\E (.ref A.aS) none H
def abw (A:Adr)(i:Nat):Sp:=λvs H Q E=>∃(o t:Addr) (c:Col) (st:Ch) (N:Nat) (q:Dq),vs=[.ref o,.ref t]/\fP A i c H o st/\Inv N st/\N<=800/\So q/\LV c H (dqD q) (.ref t)/\abv A i c H o st q Q E
theorem IQ {c:Col}{H:Hp}:∀ {ns:List Int} {vs:List V},LVs c H (ns.map PyData.int) vs->vs=ns.map V.int
 |[],_,h=>by unfold LVs at h;exact h
 |n::ns,_,h=>by
  rw[kg]at h;unfold LVs at h;obtain⟨v,r,rfl,h1,h2⟩:=h;unfold LV at h1;rw[h1,IQ h2];rfl
theorem IS {c:Col}{H:Hp}:∀ {ns:List Str} {vs:List V},LVs c H (ns.map ad3) vs->vs=ns.map V.str
 |[],_,h=>by unfold LVs at h;exact h
 |n::ns,_,h=>by
  rw[kg]at h;unfold LVs at h;obtain⟨v,r,rfl,h1,h2⟩:=h;unfold LV at h1;rw[h1,IS h2];rfl
theorem vX {c:Col}{H:Hp}{t:Addr}{z:Str}{d:PyData}(h:LV c H (.tuple [.str z,d]) (.ref t)):∃v,uX c H t [.str z,v]/\LV c H d v:=by
 unfold LV at h;obtain⟨t',vs,e,h1,h2⟩:=h;cases e;unfold LVs at h2;obtain⟨v,r,rfl,h3,h4⟩:=h2;unfold LV at h3;subst h3;unfold LVs at h4;obtain⟨u,r,rfl,h5,h6⟩:=h4;unfold LVs at h6;subst h6;exact⟨u,h1,h5⟩
theorem Xt {c:Col}{H:Hp}{v:V}{k:Nat}{j:Int}{z:Str}(hk:k=0\/k=1\/k=2)(h:LV c H (edD ⟨k,j,z⟩) v):∃e,v=.ref e/\TupAt c H e (R.edR k j z):=by
 rcases hk with rfl | rfl | rfl
 all_goals
  have h':=h;unfold edD at h';dsimp only at h';unfold LV at h';obtain⟨t,vs,e,h1,h2⟩:=h';unfold LVs at h2;obtain⟨v1,r1,rfl,h3,h4⟩:=h2;unfold LV at h3;subst h3;unfold LVs at h4;obtain⟨v2,r2,rfl,h5,h6⟩:=h4;unfold LV at h5;subst h5;unfold LVs at h6
 ·obtain⟨v3,r3,rfl,h7,h8⟩:=h6;unfold LV at h7;subst h7;unfold LVs at h8;subst h8;exact⟨t,e,h1.1,.inl h1.2⟩
 ·subst h6;exact⟨t,e,h1.1,.inl h1.2⟩
 ·obtain⟨v3,r3,rfl,h7,h8⟩:=h6;unfold LV at h7;subst h7;unfold LVs at h8;subst h8;exact⟨t,e,h1.1,.inl h1.2⟩
theorem OL {c:Col}{H:Hp}{t:Addr}:∀ {d:R.d7},jd d->LV c H (qj d) (.ref t)->wY c H d t
 | .mat cs,_,h=>by
  obtain⟨v,h1,h2⟩:=vX h;unfold LV at h2;obtain⟨L,vs,rfl,h3,h4⟩:=h2;rw[IS h4]at h3;exact⟨L,h1,h3⟩
 | .ed m k j ws,hd,h=>by
  obtain⟨v,h1,h2⟩:=vX h;have hk:k=0\/k=1\/k=2:=by
   cases hd with
   |move h=>exact h.1
  obtain⟨e,rfl,h3⟩:=Xt hk h2;exact⟨e,h1,h3⟩
 | .pt ws,_,h=>by
  obtain⟨v,h1,h2⟩:=vX h;unfold LV at h2;subst h2;exact h1
 | .nums kd ns,_,h=>by
  unfold qj LV at h;obtain⟨t',vs,e,h1,h2⟩:=h;cases e;unfold LVs at h2;obtain⟨v,r,rfl,h3,h4⟩:=h2;unfold LV at h3;rw[h3,IQ h4]at h1;exact h1
theorem Sq:∀k,k < 8->decide (V.str (nm k)=V.str (ar "vote"))=false:=by trivial
theorem Sr:∀k,k < 8->decide (V.str (nm k)=V.str (ar "drop"))=false:=by trivial
theorem Ss:∀k,k < 8->decide (V.str (nm k)=V.str (ar "take"))=false:=by trivial
theorem Su:∀k,k < 8->decide (V.str (nm k)=V.str (ar "motion"))=false/\decide (V.str (nm k)=V.str (ar "kept"))=false/\decide (V.str (nm k)=V.str (ar "first"))=false:=by trivial
section
variable{P:ma}{w:World}{K:cb}{mg:Str->Option Value}{base:Heap}{A:Adr}
theorem nJ (T:Txt w.params K mg A){i:Nat}:a8 P w K mg base (CXX P w) 1 A.bK A.eK ["self","number"] (CC A i):=by
 refine T.cU.okX nc (λvs H Q E h=>?_) (λcdv A' outer s H vs Q E hr h=>?_)
 ·obtain⟨o,n,c,st,N,rfl,_⟩:=h;rfl
 ·obtain⟨o,n,c,st,N,rfl,hc,I,n0,n1,hn,q⟩:=h;obtain⟨dx,aM,aP,aA,aD,aF,aE,aR,ms,ds,ws,fs,es,X⟩:=hc.ex;have hu1:=hr.u1;have hgd:=hr.gd;have lim:gn=16777216:=by decide
  refine⟨_,(bA (fB (FI (vz hu1 (pv 1) (bp (pv 0) rfl)))
 (bA (iT T.rg rfl rfl T.mC (aa (yQ (kL (tG (pv 1) tF))) af)))
 (qt aT))),?_⟩
  try dsimp only[cD]
  have e10:(10:Int) ^ 10=10000000000:=by decide
  have l1:(adE++ar "no matter has the number ":Str).length=25:=by trivial
  have l3:(ar (toString n)).length<=20:=by
   rcases Int.lt_or_le n 0 with z | z
   ·have:n=-1:=by omega
    rw[this]
    trivial
   ·exact sI (by omega) (by omega)
  refine⟨_,rfl,fh rfl X.ob T.ai T.jq5 qg ⟨aF,_,rfl,.inl ⟨_,kr n,.inl X.firsts.2,rfl,rfl⟩,_,rfl,?_⟩⟩;rw[Bn (by rw[I.ff];exact hn)]
  exact nO ⟨by rw[l1];omega,_,rfl,_,.int (j2 (by omega) (by omega)),by omega,by rw[len_app,l1];omega,by rw[len_app,l1];omega,(sl 1),q⟩
theorem Au (T:Txt w.params K mg A){i:Nat}:a8 P w K mg base (CXX P w) 2 A.cc A.gH ["self","number"] (CC A i):=by
 refine T.dX.okX qu (λvs H Q E h=>?_) (λcdv A' outer s H vs Q E hr h=>?_)
 ·obtain⟨o,n,c,st,N,rfl,_⟩:=h;rfl
 ·obtain⟨o,n,c,st,N,rfl,hc,I,n0,n1,hn,q⟩:=h;obtain⟨dx,aM,aP,aA,aD,aF,aE,aR,ms,ds,ws,fs,es,X⟩:=hc.ex;have hu1:=hr.u1;refine⟨_,(aH (gP (jg (px (pv 0)) T.ai T.fg (nJ (i:=i) T) hr T.cV (pax (aa (pv 1) af))))
 (bA (psx (aI (d0 dS (by rfl) T.mB kD (aa (kF hu1 (bp (pv 0) rfl) (pv 1) (λ_ _=>rfl)) af)))))),?_⟩
  try dsimp only[cD]
  exact mtv rfl X.ob (cZ (by trivial)) ⟨_,rfl,o,n,c,st,N,rfl,hc,I,n0,n1,hn,q⟩
theorem xp (T:Txt w.params K mg A){i:Nat}:a8 P w K mg base (CXX P w) 2 A.bU A.fJ ["self","number"] (CC A i):=by
 refine T.dD.okX oJ (λvs H Q E h=>?_) (λcdv A' outer s H vs Q E hr h=>?_)
 ·obtain⟨o,n,c,st,N,rfl,_⟩:=h;rfl
 ·obtain⟨o,n,c,st,N,rfl,hc,I,n0,n1,hn,q⟩:=h;obtain⟨dx,aM,aP,aA,aD,aF,aE,aR,ms,ds,ws,fs,es,X⟩:=hc.ex;have hu1:=hr.u1;refine⟨_,(aH (gP (jg (px (pv 0)) T.ai T.fg (nJ (i:=i) T) hr T.cV (pax (aa (pv 1) af))))
 (bA (psx (aI (d0 dS (by rfl) T.mB kD (aa (kF hu1 (bp (pv 0) rfl) (pv 1) (λ_ _=>rfl)) af)))))),?_⟩
  try dsimp only[cD]
  exact mtv rfl X.ob (cZ (by trivial)) ⟨_,rfl,o,n,c,st,N,rfl,hc,I,n0,n1,hn,q⟩
theorem zR (T:Txt w.params K mg A){i:Nat}:a8 P w K mg base CX0 1 A.cE A.iK ["self"] (JI A i):=by
 refine T.eS.ok tI (λvs H Q E h=>?_) (λcdv A' outer s H vs Q E hr h=>?_)
 ·obtain⟨o,c,st,rfl,_⟩:=h;rfl
 ·obtain⟨o,c,st,rfl,hc,q⟩:=h;obtain⟨dx,aM,aP,aA,aD,aF,aE,aR,ms,ds,ws,fs,es,X⟩:=hc.ex;refine⟨_,(aq (aI (d0 dS (by rfl) T.mB kD (aa (bp (pv 0) rfl) af)))),?_⟩
  try dsimp only[cD]
  exact fh rfl X.ob T.ai T.jqc rB ⟨aR,_,rfl,.inl (SqL.of X.rows.2),q⟩
theorem IT (T:Txt w.params K mg A){i:Nat}:a8 P w K mg base (CXX P w) 8 A.Rm A.B5 ["_law_chamber","_law_deed"] (abw A i):=by
 refine T.B9.okX N4 (λvs H Q E h=>?_) (λcdv A' outer s H vs Q E hr h=>?_)
 ·obtain⟨o,t,c,st,N,q,rfl,_⟩:=h;rfl
 ·obtain⟨o,t,c,st,N,q,rfl,hc,I,hN,hq,hl,k⟩:=h;obtain⟨dx,aM,aP,aA,aD,aF,aE,aR,ms,ds,ws,fs,es,X⟩:=hc.ex;refine⟨_,(aH (fB (a9 cS (bN bG (pv 1) aj (λ_ _=>rfl)) au (bz _))
 (bA (pN (jg (px (pv 0)) T.ai T.q5 (OB (i:=i) T) (hr.mono (by decide)) T.jq (pax (aa (bN bG (pv 1) aj (λ_ _=>rfl)) (aa (bN bG (pv 1) aj (λ_ _=>rfl)) af))))))
 (qt aT))
 (aH (fB (a9 cS (bN bG (pv 1) aj (λ_ _=>rfl)) au (bz _))
 (bA (pN (vx (px (pv 0)) T.ai T.q8 (OC (i:=i) T) (hr.mono (by decide)) T.jr)))
 (qt aT))
 (aH (fB (a9 cS (bN bG (pv 1) aj (λ_ _=>rfl)) au (bz _))
 (bA (pN (jg (px (pv 0)) T.ai T.q9 (OD (i:=i) T) (hr.mono (by decide)) T.js (pax (aa (bN bG (pv 1) aj (λ_ _=>rfl)) af)))))
 (qt aT))
 (aH (fB (a9 cS (bN bG (pv 1) aj (λ_ _=>rfl)) au (bz _))
 (bA (pN (jg (px (pv 0)) T.ai T.oX (JH (i:=i) T) (hr.mono (by decide)) T.ig (pax (aa (bN bG (pv 1) aj (λ_ _=>rfl)) af)))))
 (qt aT))
 (aH (fB (a9 cS (bN bG (pv 1) aj (λ_ _=>rfl)) au (bz _))
 (bA (pN (jg (px (pv 0)) T.ai T.jt (xp (i:=i) T) (hr.mono (by decide)) T.ef (pax (aa (bN bG (pv 1) aj (λ_ _=>rfl)) af)))))
 (qt aT))
 (aH (fB (a9 cS (bN bG (pv 1) aj (λ_ _=>rfl)) au (bz _))
 (bA (pN (jg (px (pv 0)) T.ai T.kQ (Au (i:=i) T) (hr.mono (by decide)) T.eR (pax (aa (bN bG (pv 1) aj (λ_ _=>rfl)) af)))))
 (qt aT))
 (bA (pN (jg (px (pv 0)) T.ai T.q0 (OF (i:=i) T) hr T.jo (pax (aa (pv 1) af))))))))))),?_⟩
  try dsimp only[cD]
  have e10:(10:Int) ^ 10=10000000000:=by decide
  have e11:(10:Nat) ^ 10=10000000000:=by decide
  cases q with
  |d x =>
   have k':wU A i c H o (dZ st x) Q E:=k;have hz:=OL hq hl;cases hq with
   | @DE a b ha hb =>
    rw[mP]at k';have ht:SqT K H t [.str (ar "vote"),.int a,.int b]:=SqT.of hz.2;exact ixv rfl ht rfl ⟨rfl,tst (by trivial) (mtv rfl X.ob (cZ (by trivial)) (ixv rfl ht rfl (ixv rfl ht rfl ⟨o,a,b,c,st,N,rfl,hc,I,hN,ha,hb,k'⟩)))⟩
   |drop =>
    rw[mQ]at k';have ht:SqT K H t [.str (ar "drop")]:=SqT.of hz.2;exact ixv rfl ht rfl ⟨rfl,tsf (by trivial) (ixv rfl ht rfl ⟨rfl,tst (by trivial) (mtv rfl X.ob (cZ (by trivial)) ⟨o,c,st,N,rfl,hc,I,hN,k'⟩)⟩)⟩
   | @take z h0 h1 =>
    rw[iR]at k';have ht:SqT K H t [.str (ar "take"),.int z]:=SqT.of hz.2;exact ixv rfl ht rfl ⟨rfl,tsf (by trivial) (ixv rfl ht rfl ⟨rfl,tsf (by trivial) (ixv rfl ht rfl ⟨rfl,tst (by trivial) (mtv rfl X.ob (cZ (by trivial)) (ixv rfl ht rfl ⟨o,z,c,st,N,rfl,hc,I,hN,h0,h1,k'⟩))⟩)⟩)⟩
   |move hm =>
    refine aN λGq gq=>?_
    rw[j4 hm]at k';obtain⟨v,ht,_,_⟩:=zQ hm (hz.c (i:=i));have k8:=(jD x).k8;obtain⟨q1,q2,q3⟩:=Su _ k8;refine gq ?_;exact ixv rfl (SqT.of ht.2) l7 ⟨rfl,tsf (Sq _ k8) (ixv rfl (SqT.of ht.2) l7 ⟨rfl,tsf (Sr _ k8) (ixv rfl (SqT.of ht.2) l7 ⟨rfl,tsf (Ss _ k8) (ixv rfl (SqT.of ht.2) l7 ⟨rfl,tsf q1 (ixv rfl (SqT.of ht.2) l7 ⟨rfl,tsf q2 (ixv rfl (SqT.of ht.2) l7 ⟨rfl,tsf q3 (mtv rfl X.ob (cZ (by trivial)) ⟨_,rfl,o,t,c,st,N,x,rfl,hc,I,hN,hm,hz.c,k'⟩)⟩)⟩)⟩)⟩)⟩)⟩
  |nY n =>
   refine aN λGq gq=>?_
   obtain⟨v,hz,hv⟩:=vX hl;unfold LV at hv;subst hv;obtain⟨hx,k⟩:=k;obtain⟨m,rfl⟩:∃m:Nat,n=(m:Int):=⟨n.toNat,by have:=hq.1;omega⟩
   have hno:¬hG st m:=λz=>by
    have h1:=z.1;have h2:=z.2;have hx':(if 1<=(m:Int)/\(m:Int)<=st.made.length then none else some Xc.bj)=some Xc.bj:=hx
    rw[if_pos ⟨by omega,by omega⟩]at hx'
    cases hx'
   have ht:SqT K H t [.str (ar "motion"),.int (m:Int)]:=SqT.of hz.2;have abx:m < 10 ^ 10:=by have:=hq.2;omega
   refine gq ?_;exact ixv rfl ht rfl ⟨rfl,tsf (by trivial) (ixv rfl ht rfl ⟨rfl,tsf (by trivial) (ixv rfl ht rfl ⟨rfl,tsf (by trivial) (ixv rfl ht rfl ⟨rfl,tst (by trivial) (mtv rfl X.ob (cZ (by trivial)) (ixv rfl ht rfl ⟨o,m,c,st,rfl,hc,abx,(λz=>absurd z hno),λ_=>k⟩))⟩)⟩)⟩)⟩
  |kept n =>
   refine aN λGq gq=>?_
   obtain⟨v,hz,hv⟩:=vX hl;unfold LV at hv;subst hv;obtain⟨hx,k⟩:=k;have hno:n∉st.kX.map (λk:Nat=>(k:Int)):=λz=>by
    have hx':(if n∈st.kX.map (λk:Nat=>(k:Int)) then none else some Xc.bj)=some Xc.bj:=hx
    rw[if_pos z]at hx';cases hx'
   have ht:SqT K H t [.str (ar "kept"),.int n]:=SqT.of hz.2;refine gq ?_;exact ixv rfl ht rfl ⟨rfl,tsf (by trivial) (ixv rfl ht rfl ⟨rfl,tsf (by trivial) (ixv rfl ht rfl ⟨rfl,tsf (by trivial) (ixv rfl ht rfl ⟨rfl,tsf (by trivial) (ixv rfl ht rfl ⟨rfl,tst (by trivial) (mtv rfl X.ob (cZ (by trivial)) (ixv rfl ht rfl ⟨o,n,c,st,N,rfl,hc,I,hq.1,hq.2,hno,k⟩))⟩)⟩)⟩)⟩)⟩
  |first n =>
   refine aN λGq gq=>?_
   obtain⟨v,hz,hv⟩:=vX hl;unfold LV at hv;subst hv;obtain⟨hx,k⟩:=k;have hno:n∉st.kX.map (λk:Nat=>(k:Int)):=λz=>by
    have hx':(if n∈st.kX.map (λk:Nat=>(k:Int)) then none else some Xc.bj)=some Xc.bj:=hx
    rw[if_pos z]at hx';cases hx'
   have ht:SqT K H t [.str (ar "first"),.int n]:=SqT.of hz.2;refine gq ?_;exact ixv rfl ht rfl ⟨rfl,tsf (by trivial) (ixv rfl ht rfl ⟨rfl,tsf (by trivial) (ixv rfl ht rfl ⟨rfl,tsf (by trivial) (ixv rfl ht rfl ⟨rfl,tsf (by trivial) (ixv rfl ht rfl ⟨rfl,tsf (by trivial) (ixv rfl ht rfl ⟨rfl,tst (by trivial) (mtv rfl X.ob (cZ (by trivial)) (ixv rfl ht rfl ⟨o,n,c,st,N,rfl,hc,I,hq.1,hq.2,hno,k⟩))⟩)⟩)⟩)⟩)⟩)⟩
end
theorem MI {t:TS}{D:Ends}{σ σ':St}{H:Hp}(e:σ=σ')(h:t D σ' H):t D σ H:=e▸h
theorem JJ {z:Str}{D:Addr}{tc:TT}{te:TE}{Q:VK}{σ:St}{H1:Hp}(Pv:Nat->List V->Hp->Prop)(h0:Pv 0 [] (upd H1 D (.lst [])))(hz:z.cps.size<=gn)
  (hl:∀i ys H2,i<=z.cps.size->Pv i ys H2->H2 D=some (.lst ys)/\ys.length<=i)
  (hs:∀i c ys H2,z.cps[i]?=some c->Pv i ys H2->tc (some (.str ⟨#[c]⟩)::σ) H2 λb H4=>if b=true then te (some (.str ⟨#[c]⟩)::σ) H4 (f7 D z.cps.size Pv i ys) else oI z.cps.size Pv i ys H4) (hd:∀ys H2,Pv z.cps.size ys H2->Q (.ref D) H2) :
  vy (Itz z) tc te σ D H1 Q:=by
 refine⟨λi m ys H=>m=z.cps.size - i/\i<=z.cps.size/\Pv i ys H,⟨z.cps.size,by simp,ad8 _,h0⟩,?_⟩
 rintro i m ys H2 ⟨rfl,hi,p⟩;obtain⟨q2,q3⟩:=hl i ys H2 hi p;refine⟨q2,?_⟩
 by_cases hlt:i < z.cps.size
 ·refine .inr ⟨hlt,by omega,λx H3 y=>?_⟩
  obtain⟨e,c,hc,ex⟩:=y;subst e ex;exact hs i c ys _ hc p
 ·have e:i=z.cps.size:=by omega
  subst e;exact .inl ⟨km _,hd ys H2 p⟩
theorem PB {x:Str}(h:R.lH x):x.cps.toList.filter (λc=>decide (c=32))=[]:=by
 rw[List.filter_eq_nil_iff];intro c hc z;have h1:=(h.sgn c hc).1;have h2:=of_decide_eq_true z;omega
theorem cnt_join:∀ws:List Str,(∀w∈ws,R.lH w)->((ka R.bl1 ws).cps.toList.filter (λc=>decide (c=32))).length=ws.length - 1
 |[],_=>rfl
 |[x],h=>by
  show (x.cps.toList.filter (λc=>decide (c=32))).length=0
  rw[PB (h x fi)];rfl
 |x::y::r,h=>by
  show (((x++R.bl1)++ka R.bl1 (y::r)).cps.toList.filter (λc=>decide (c=32))).length=_
  have e:R.bl1.cps.toList.filter (λc=>decide (c=32))=[32]:=by trivial
  rw[eB,eB,List.filter_append,List.filter_append,PB (h x fi),e,kq,cnt_join (y::r) λw hw=>h w (kf _ hw)]
  show 1+r.length=r.length+1;omega
theorem Xu (c:Nat):decide (V.str ⟨#[c]⟩=V.str (ar " "))=decide (c=32):=by
 have e:ar " "=⟨#[32]⟩:=by trivial
 rw[e]
 by_cases h:c=32
 ·rw[h,decide_eq_true rfl,decide_eq_true rfl]
 ·rw[decide_eq_false h,decide_eq_false];intro z;have z2:=congrArg (λv=>match v with | V.str x=>x.cps.toList | _=>[]) z
  exact h (by simpa using z2)
theorem OM {x:Str}{r:List Str}(h:R.lH x):ka R.bl1 (x::r)≠ar "":=by
 intro z;have hl:=h.l1;have z2:=congrArg Str.length z;have e0:(ar "").length=0:=by trivial
 rw[e0]at z2;cases r with
 |nil =>
  have z3:x.length=0:=z2;omega
 |cons y r =>
  have z3:((x++R.bl1)++ka R.bl1 (y::r):Str).length=0:=z2;rw[len_app,len_app]at z3;omega
def ON (K:cb):Sp:=λvs H Q _=>∃(a:Addr) (ns:List Int),vs=[.ref a]/\SqL K H a (ns.map V.int) /\
 ∀(L:V) (w1 w2:List Str) (big:Int) (wd:Str) (H':Hp),R.sP 12 w1->R.sP 12 w2->2<=big->big < 1000000000->R.lH wd->bT H H'->LV cN H' (.list ((IM w1 w2 big wd w1.length).map IL)) L->Q L H'
section
variable{P:ma}{w:World}{K:cb}{mg:Str->Option Value}{base:Heap}{A:Adr}
theorem GN (T:Txt w.params K mg A):a8 P w K mg base CX0 3 A.B6 A.tM ["_law_script"] (ON K):=by
 have nK:a8 P w K mg base CX0 1 A.sC A.lW ["_law_script","_law_k"] (MD K):=uW T;refine T.vM.ok bZ (λvs H Q E h=>?_) (λcdv A' outer s H vs Q E hr h=>?_)
 ·obtain⟨a,ns,rfl,_⟩:=h;rfl
 ·obtain⟨a,ns,rfl,hS,q⟩:=h;have l9:Room 1 _:=hr.mono (by decide)
  have hu1:=hr.u1;have Jw:=hr.units;refine⟨_,(ao (br (i:=1) bZ.nd rfl (wt rfl) (bY (wW T) hr rfl T.tP T.pS.kp T.tO .nil bC (aa (bY nK l9 rfl T.i7 T.gU.kp T.i6 .nil bC (aa (pv 0) (aa aj af))) af)))
 (ao (br (i:=2) bZ.nd rfl (wt rfl) (bO (aa (pv 1) (aa (bY (wW T) hr rfl T.tP T.pS.kp T.tO .nil bC (aa (bY nK l9 rfl T.i7 T.gU.kp T.i6 .nil bC (aa (pv 0) (aa aj af))) af)) af))))
 (ao (br (i:=3) bZ.nd rfl (wt rfl) (dj pL aj (dj qM (bY nK l9 rfl T.i7 T.gU.kp T.i6 .nil bC (aa (pv 0) (aa aj af))) (dj QH aj aj))))
 (ao (br (i:=4) bZ.nd rfl (wt rfl) (aG (aa au (aa (pv 2) af))))
 (ao (br (i:=5) bZ.nd rfl (wt rfl) (aG (aa au (aa (aG (aa au (aa aj (aa (pv 1) af)))) af))))
 (ao (br (i:=6) bZ.nd rfl (wt rfl) (aG (aa au (aa (aG (aa au (aa aj af))) af))))
 (ao (br (i:=7) bZ.nd rfl (wt rfl) (bY (Bk T) (hr.mono (by decide)) rfl T.zg T.uB.kp T.zf .nil bC (aa (bY nK l9 rfl T.i7 T.gU.kp T.i6 .nil bC (aa (pv 0) (aa aj af))) af)))
 (ao (br (i:=8) bZ.nd rfl (wt rfl) (bO (aa (aG (aa (bO af) (aa (aG (aa au (aa aj (aa aj af)))) (aa aj af)))) (aa (aG (aa (bO af) (aa (aG (aa au af)) (aa aj af)))) (aa (aG (aa (bO (aa (aG (aa au af)) af)) (aa (aG (aa au (aa (aG (aa au (aa aj af))) af))) (aa (aG (aa au (aa aj af))) af)))) af)))))
 (ao (br (i:=8) bZ.nd rfl (wt rfl) (dj gM (pv 8) (bO (aa (aG (aa (bO af) (aa (pv 5) (aa aj af)))) (aa (aG (aa (bO af) (aa (aG (aa au af)) (aa aj af)))) (aa (aG (aa (bO af) (aa (aG (aa au (aa (aG (aa au (aa aj (aa (pv 7) af)))) af))) (aa aj af)))) af))))))
 (ao (br (i:=8) bZ.nd rfl (wt rfl) (dj gM (pv 8) (bO (aa (aG (aa (bO (aa (pv 4) af)) (aa (pv 4) (aa (aG (aa au (aa aj af))) af)))) af))))
 (ao (br (i:=8) bZ.nd rfl (wt rfl) (dj gM (pv 8) (bO (aa (aG (aa (bO (aa (pv 4) af)) (aa (aG (aa au (aa (aG (aa au (aa aj (aa (pv 7) af)))) af))) (aa aj af)))) (aa (aG (aa (bO (aa (pv 4) (aa (pv 6) af))) (aa (aG (aa au (aa (aG (aa au (aa aj (aa (pv 7) af)))) af))) (aa aj af)))) af)))))
 (ao (br (i:=8) bZ.nd rfl (wt rfl) (dj gM (pv 8) (bO (aa (aG (aa (bO (aa (pv 4) af)) (aa (aG (aa au (aa (aG (aa au (aa aj (aa (pv 1) af)))) af))) (aa aj af)))) (aa (aG (aa (bO (aa (pv 4) af)) (aa (aG (aa au (aa aj af))) (aa (aG (aa au (aa aj af))) af)))) af)))))
 (ao (br (i:=9) bZ.nd rfl (wt rfl) (dj pL (bW jf (by rfl) T.zj vt (aa (C2 (scope:=sU) B1 rfl (Rf (pv 1)) (λ_ _ _ _ _=>(a9 cS (pv 0) au (bz _))) (λ_ _ _ _ _=>(pv 0))) af)) (d0 AG (by rfl) T.L3 KW (aa (nz HY (pv 1) au (bz _)) af))))
 (ao (br (i:=8) bZ.nd rfl (wt rfl) (dj gM (pv 8) (bO (aa (aG (aa (bO (aa (pv 4) (aa (pv 5) af))) (aa (aG (aa au (aa (aG (aa au (aa (pv 9) af))) af))) (aa aj af)))) (aa (aG (aa (bO (aa (pv 4) (aa (pv 5) af))) (aa (pv 5) (aa (aG (aa au (aa aj af))) af)))) af)))))
 (ao (br (i:=8) bZ.nd rfl (wt rfl) (dj gM (pv 8) (bO (aa (aG (aa (bO (aa (pv 4) af)) (aa (aG (aa au (aa aj (aa aj af)))) (aa aj af)))) (aa (aG (aa (bO (aa (pv 4) (aa (aG (aa au af)) (aa (aG (aa au (aa aj (aa aj af)))) af)))) (aa (aG (aa au (aa aj af))) (aa (aG (aa au (aa aj af))) af)))) af)))))
 (ao (br (i:=8) bZ.nd rfl (wt rfl) (dj gM (pv 8) (bO (aa (aG (aa (bO (aa (pv 4) af)) (aa (aG (aa au (aa aj af))) (aa (aG (aa au (aa aj af))) af)))) (aa (aG (aa (bO af) (aa (aG (aa au (aa (pv 3) af))) (aa aj af)))) af)))))
 (ao (br (i:=8) bZ.nd rfl (wt rfl) (dj gM (pv 8) (bO (aa (aG (aa (bO (aa (pv 4) (aa (aG (aa au (aa aj (aa aj af)))) af))) (aa (aG (aa au (aa aj af))) (aa aj af)))) af))))
 (ao (br (i:=10) bZ.nd rfl (wt rfl) (bO (aa (pv 4) (aa (aG (aa au (aa (pv 3) af))) (aa (aG (aa au (aa aj (aa aj af)))) af)))))
 (ao (br (i:=8) bZ.nd rfl (wt rfl) (dj gM (pv 8) (bO (aa (aG (aa (pv 10) (aa (aG (aa au (aa aj af))) (aa (aG (aa au (aa (pv 3) af))) af)))) (aa (aG (aa (pv 10) (aa (aG (aa au (aa aj af))) (aa aj af)))) (aa (aG (aa (bO af) (aa (aG (aa au (aa (pv 3) af))) (aa aj af)))) af))))))
 (ao (br (i:=8) bZ.nd rfl (wt rfl) (dj gM (pv 8) (bO (aa (aG (aa (bO (aa (pv 4) (aa (pv 6) af))) (aa (aG (aa au (aa aj af))) (aa aj af)))) (aa (aG (aa (bO (aa (pv 4) (aa (pv 6) af))) (aa (aG (aa au (aa aj af))) (aa aj af)))) (aa (aG (aa (bO (aa (pv 4) af)) (aa (aG (aa au (aa aj af))) (aa aj af)))) af))))))
 (ao (br (i:=8) bZ.nd rfl (wt rfl) (dj gM (pv 8) (bO (aa (aG (aa (bO (aa (pv 4) af)) (aa (aG (aa au (aa aj af))) (aa aj af)))) (aa (aG (aa (bO (aa (pv 4) af)) (aa (aG (aa au (aa (yE tE aj) af))) (aa aj af)))) (aa (aG (aa (bO (aa (pv 4) af)) (aa (aG (aa au (aa (pv 3) af))) (aa aj af)))) af))))))
 (aq (aI (pv 8)))))))))))))))))))))))),?_⟩
  try dsimp only[cD]
  have sz:gn=16777216:=by decide
  refine⟨_,rfl,a,ns,1,rfl,hS,by decide,λz1=>⟨z1,rfl,λw1 H1 h1 s0=>?_⟩⟩
  have hS1:=s0.seq hS
  try dsimp only[iy]
  refine⟨_,rfl,_,rfl,a,ns,2,rfl,hS1,by decide,λz2=>⟨z2,rfl,λw2 H2 h2 s2=>⟨(sl 2),λpt hpt=>?_⟩⟩⟩
  have s3:=aK (o:=.lst [V.str (ka R.bl1 w1),V.str (ka R.bl1 w2)]) hpt;have gL:LV cN (upd H2 pt (.lst [V.str (ka R.bl1 w1),V.str (ka R.bl1 w2)])) (.str (ka R.bl1 w1)) (.str (ka R.bl1 w1)):=by unfold LV;rfl
  have dR:LV cN (upd H2 pt (.lst [V.str (ka R.bl1 w1),V.str (ka R.bl1 w2)])) (.list (([w1,w2].map (ka R.bl1)).map ad3)) (.ref pt):=by
   unfold LV;refine⟨pt,_,rfl,⟨rfl,ah⟩,?_⟩;rw[kg,kg,kg,kg];unfold LVs;refine⟨_,_,rfl,by unfold LV;rfl,?_⟩
   unfold LVs;exact⟨_,_,rfl,by unfold LV;rfl,by rw[aec,aec];unfold LVs;rfl⟩
  replace s0:=(s0.trans s2).trans s3
  have hS3:=(s2.trans s3).seq hS1;generalize upd H2 pt (.lst [V.str (ka R.bl1 w1),V.str (ka R.bl1 w2)])=H3 at s0 gL dR hS3 ⊢;clear s2 s3 hpt hS1
  try dsimp only[iy]
  have e8:(10:Int) ^ (8:Int).toNat=100000000:=by decide
  refine⟨_,rfl,a,ns,3,rfl,hS3,by decide,λz3=>⟨_,_,rfl,rfl,⟨by decide,by decide,by decide⟩,_,_,rfl,rfl,(by rw[e8];show (0:Int) < 100000000;decide),_,_,rfl,rfl,?_⟩⟩
  obtain⟨big,eb⟩:∃big,big=2+z3 % (10:Int) ^ (8:Int).toNat:=⟨_,rfl⟩;have b1:2<=big:=by rw[eb,e8];omega
  have b2:big < 1000000000:=by rw[eb,e8];omega
  show iy 3 (V.int (2+z3 % (10:Int) ^ (8:Int).toNat)) _ _ _;rw[<-eb];clear eb;have fZ:LV cN H3 (.int big) (.int big):=by unfold LV;rfl
  try dsimp only[iy]
  refine ix (aO (ae lt_str (ae (bS rfl dR) av))) λv10 H10 s10 lN=>?_
  replace gL:=LV.same s10 gL
  replace dR:=LV.same s10 dR
  replace fZ:=LV.same s10 fZ
  replace s0:=s0.trans s10
  have bh:=lN;clear lN s10;refine ix (aO (ae lt_str (ae (aO (ae lt_str (ae lt_int (ae (bS rfl gL) av)))) av))) λv11 H11 s11 lN=>?_
  replace gL:=LV.same s11 gL
  replace dR:=LV.same s11 dR
  replace fZ:=LV.same s11 fZ
  replace bh:=LV.same s11 bh
  replace s0:=s0.trans s11
  have ij:=lN;clear lN s11;refine ix (aO (ae lt_str (ae (aO (ae lt_str (ae lt_int av))) av))) λv12 H12 s12 lN=>?_
  replace gL:=LV.same s12 gL
  replace dR:=LV.same s12 dR
  replace fZ:=LV.same s12 fZ
  replace bh:=LV.same s12 bh
  replace ij:=LV.same s12 ij
  replace s0:=s0.trans s12
  have iS:=lN;clear lN s12;refine MI (σ':=[some (.ref a),some (.str (ka R.bl1 w1)),some (.ref pt),some (.int big),some v10,some v11,some v12,none,none,none,none]) rfl ?_;refine⟨_,rfl,a,ns,3,rfl,s0.seq hS,by decide,λz4=>⟨z4,rfl,λwd hw=>?_⟩⟩
  have eG:LV cN H12 (.str wd) (.str wd):=by unfold LV;rfl
  try dsimp only[iy]
  refine ix (cB (ae (aO (ae (cB av) (ae (aO (ae lt_str (ae lt_int (ae lt_int av)))) (ae lt_int av)))) (ae (aO (ae (cB av) (ae (aO (ae lt_str av)) (ae lt_int av)))) (ae (aO (ae (cB (ae (aO (ae lt_str av)) av)) (ae (aO (ae lt_str (ae (aO (ae lt_str (ae lt_int av))) av))) (ae (aO (ae lt_str (ae lt_int av))) av)))) av)))) λv13 H13 s13 lN=>?_
  replace gL:=LV.same s13 gL
  replace dR:=LV.same s13 dR
  replace fZ:=LV.same s13 fZ
  replace bh:=LV.same s13 bh
  replace ij:=LV.same s13 ij
  replace iS:=LV.same s13 iS
  replace eG:=LV.same s13 eG
  replace s0:=s0.trans s13
  have dQ:=lN;clear lN s13;refine ix (mR (bS rfl dQ) (cB (ae (aO (ae (cB av) (ae (bS rfl ij) (ae lt_int av)))) (ae (aO (ae (cB av) (ae (aO (ae lt_str av)) (ae lt_int av)))) (ae (aO (ae (cB av) (ae (aO (ae lt_str (ae (aO (ae lt_str (ae lt_int (ae (bS rfl eG) av)))) av))) (ae lt_int av)))) av))))) λv14 H14 s14 lN=>?_
  replace gL:=LV.same s14 gL
  replace dR:=LV.same s14 dR
  replace fZ:=LV.same s14 fZ
  replace bh:=LV.same s14 bh
  replace ij:=LV.same s14 ij
  replace iS:=LV.same s14 iS
  replace eG:=LV.same s14 eG
  replace s0:=s0.trans s14
  replace dQ:=lN
  clear lN s14;refine ix (mR (bS rfl dQ) (cB (ae (aO (ae (cB (ae (bS rfl bh) av)) (ae (bS rfl bh) (ae (aO (ae lt_str (ae lt_int av))) av)))) av))) λv15 H15 s15 lN=>?_
  replace gL:=LV.same s15 gL
  replace dR:=LV.same s15 dR
  replace fZ:=LV.same s15 fZ
  replace bh:=LV.same s15 bh
  replace ij:=LV.same s15 ij
  replace iS:=LV.same s15 iS
  replace eG:=LV.same s15 eG
  replace s0:=s0.trans s15
  replace dQ:=lN
  clear lN s15;refine ix (mR (bS rfl dQ) (cB (ae (aO (ae (cB (ae (bS rfl bh) av)) (ae (aO (ae lt_str (ae (aO (ae lt_str (ae lt_int (ae (bS rfl eG) av)))) av))) (ae lt_int av)))) (ae (aO (ae (cB (ae (bS rfl bh) (ae (bS rfl iS) av))) (ae (aO (ae lt_str (ae (aO (ae lt_str (ae lt_int (ae (bS rfl eG) av)))) av))) (ae lt_int av)))) av)))) λv16 H16 s16 lN=>?_
  replace gL:=LV.same s16 gL
  replace dR:=LV.same s16 dR
  replace fZ:=LV.same s16 fZ
  replace bh:=LV.same s16 bh
  replace ij:=LV.same s16 ij
  replace iS:=LV.same s16 iS
  replace eG:=LV.same s16 eG
  replace s0:=s0.trans s16
  replace dQ:=lN
  clear lN s16;refine ix (mR (bS rfl dQ) (cB (ae (aO (ae (cB (ae (bS rfl bh) av)) (ae (aO (ae lt_str (ae (aO (ae lt_str (ae lt_int (ae (bS rfl gL) av)))) av))) (ae lt_int av)))) (ae (aO (ae (cB (ae (bS rfl bh) av)) (ae (aO (ae lt_str (ae lt_int av))) (ae (aO (ae lt_str (ae lt_int av))) av)))) av)))) λv17 H17 s17 lN=>?_
  replace gL:=LV.same s17 gL
  replace dR:=LV.same s17 dR
  replace fZ:=LV.same s17 fZ
  replace bh:=LV.same s17 bh
  replace ij:=LV.same s17 ij
  replace iS:=LV.same s17 iS
  replace eG:=LV.same s17 eG
  replace s0:=s0.trans s17
  replace dQ:=lN
  clear lN s17;refine MI (σ':=[some (.ref a),some (.str (ka R.bl1 w1)),some (.ref pt),some (.int big),some v10,some v11,some v12,some (.str wd),some v17,none,none]) rfl ?_;have adn:(ka R.bl1 w1).cps.size<=1000:=by
   have a1:=R.A8 h1.wd;have a2:=oF 32 w1;rw[<-R.nX]at a2;have a3:=h1.len;show (ka R.bl1 w1).length<=1000;omega
  refine⟨_,rfl,_,rfl,λD hD=>?_⟩
  refine JJ (λi ys H2=>bT H17 H2/\H2 D=some (.lst ys)/\ys.length=(((ka R.bl1 w1).cps.toList.take i).filter (λc=>decide (c=32))).length) ⟨aK hD,ah,rfl⟩ (by omega) ?_ ?_ ?_
  ·rintro i ys H2 hi ⟨_,h2,h3⟩;refine⟨h2,?_⟩;have b1:=aeh (λc=>decide (c=32)) ((ka R.bl1 w1).cps.toList.take i)
   rw[adW]at b1;omega
  ·rintro i c ys H2 hc ⟨s18,h2,h3⟩;have hc':(ka R.bl1 w1).cps.toList[i]?=some c:=by rw[Array.getElem?_toList];exact hc
   have hlt:i < (ka R.bl1 w1).cps.size:=by
    have:=(List.getElem?_eq_some_iff.mp hc').1;rw[aee]at this;exact this
   have et:(((ka R.bl1 w1).cps.toList.take (i+1)).filter (λc=>decide (c=32))).length=ys.length+(if decide (c=32)=true then 1 else 0):=by
    rw[List.take_succ,hc',List.filter_append,kq,h3]
    congr 1
    cases hb:decide (c=32) <;> simp[List.filter,hb]
   refine⟨_,rfl,rfl,_,rfl,?_⟩;rw[Xu];cases hb:decide (c=32) with
   |true =>
    rw[hb]at et;refine nO ⟨_,rfl,f7.mk hlt h2 ⟨s18.own hD,ah,?_⟩⟩;rw[et,kq];rfl
   |false =>
    rw[hb]at et;exact kK (oI.mk hlt ⟨s18,h2,by rw[et];rfl⟩)
  ·rintro ys H18 ⟨s18,h18,hy⟩;have ey:ys.length=w1.length - 1:=by
    rw[<-aee,aeI]at hy;rw[hy,cnt_join w1 h1.wd]
   refine⟨D,ys,rfl,.inl (SqL.of h18),_,rfl,rfl,.inr ⟨_,rfl,_,_,rfl,rfl,?_⟩⟩;have ez:((ys.length:Int)+(if (!decide (V.str (ka R.bl1 w1)=V.str (ar "")))=true then 1 else 0))=(w1.length:Int):=by
    rw[ey];cases w1 with
    |nil=>rfl
    |cons x r =>
     rw[decide_eq_false (λz=>OM (h1.wd x fi) (V.str.inj z))]
     show ((r.length:Nat):Int)+1=((r.length+1:Nat):Int);omega
   show iy 9 (V.int ((ys.length:Int)+(if (!decide (V.str (ka R.bl1 w1)=V.str (ar "")))=true then 1 else 0))) _ _ _
   rw[ez]
   replace gL:=LV.same s18 gL
   replace dR:=LV.same s18 dR
   replace fZ:=LV.same s18 fZ
   replace bh:=LV.same s18 bh
   replace ij:=LV.same s18 ij
   replace iS:=LV.same s18 iS
   replace eG:=LV.same s18 eG
   replace dQ:=LV.same s18 dQ
   replace s0:=s0.trans s18
   have kY:LV cN H18 (.int (w1.length:Int)) (.int (w1.length:Int)):=by unfold LV;rfl
   clear s18 h18 hy ey ez hD;dsimp only[iy];refine MI (σ':=[some (.ref a),some (.str (ka R.bl1 w1)),some (.ref pt),some (.int big),some v10,some v11,some v12,some (.str wd),some v17,some (.int (w1.length:Int)),none]) rfl ?_;refine ix (mR (bS rfl dQ) (cB (ae (aO (ae (cB (ae (bS rfl bh) (ae (bS rfl ij) av))) (ae (aO (ae lt_str (ae (aO (ae lt_str (ae (bS rfl kY) av))) av))) (ae lt_int av)))) (ae (aO (ae (cB (ae (bS rfl bh) (ae (bS rfl ij) av))) (ae (bS rfl ij) (ae (aO (ae lt_str (ae lt_int av))) av)))) av)))) λv18 H18 s18 lN=>?_
   replace gL:=LV.same s18 gL
   replace dR:=LV.same s18 dR
   replace fZ:=LV.same s18 fZ
   replace bh:=LV.same s18 bh
   replace ij:=LV.same s18 ij
   replace iS:=LV.same s18 iS
   replace eG:=LV.same s18 eG
   replace kY:=LV.same s18 kY
   replace s0:=s0.trans s18
   replace dQ:=lN
   clear lN s18;refine ix (mR (bS rfl dQ) (cB (ae (aO (ae (cB (ae (bS rfl bh) av)) (ae (aO (ae lt_str (ae lt_int (ae lt_int av)))) (ae lt_int av)))) (ae (aO (ae (cB (ae (bS rfl bh) (ae (aO (ae lt_str av)) (ae (aO (ae lt_str (ae lt_int (ae lt_int av)))) av)))) (ae (aO (ae lt_str (ae lt_int av))) (ae (aO (ae lt_str (ae lt_int av))) av)))) av)))) λv19 H19 s19 lN=>?_
   replace gL:=LV.same s19 gL
   replace dR:=LV.same s19 dR
   replace fZ:=LV.same s19 fZ
   replace bh:=LV.same s19 bh
   replace ij:=LV.same s19 ij
   replace iS:=LV.same s19 iS
   replace eG:=LV.same s19 eG
   replace kY:=LV.same s19 kY
   replace s0:=s0.trans s19
   replace dQ:=lN
   clear lN s19;refine ix (mR (bS rfl dQ) (cB (ae (aO (ae (cB (ae (bS rfl bh) av)) (ae (aO (ae lt_str (ae lt_int av))) (ae (aO (ae lt_str (ae lt_int av))) av)))) (ae (aO (ae (cB av) (ae (aO (ae lt_str (ae (bS rfl fZ) av))) (ae lt_int av)))) av)))) λv20 H20 s20 lN=>?_
   replace gL:=LV.same s20 gL
   replace dR:=LV.same s20 dR
   replace fZ:=LV.same s20 fZ
   replace bh:=LV.same s20 bh
   replace ij:=LV.same s20 ij
   replace iS:=LV.same s20 iS
   replace eG:=LV.same s20 eG
   replace kY:=LV.same s20 kY
   replace s0:=s0.trans s20
   replace dQ:=lN
   clear lN s20;refine ix (mR (bS rfl dQ) (cB (ae (aO (ae (cB (ae (bS rfl bh) (ae (aO (ae lt_str (ae lt_int (ae lt_int av)))) av))) (ae (aO (ae lt_str (ae lt_int av))) (ae lt_int av)))) av))) λv21 H21 s21 lN=>?_
   replace gL:=LV.same s21 gL
   replace dR:=LV.same s21 dR
   replace fZ:=LV.same s21 fZ
   replace bh:=LV.same s21 bh
   replace ij:=LV.same s21 ij
   replace iS:=LV.same s21 iS
   replace eG:=LV.same s21 eG
   replace kY:=LV.same s21 kY
   replace s0:=s0.trans s21
   replace dQ:=lN
   clear lN s21;refine ix (cB (ae (bS rfl bh) (ae (aO (ae lt_str (ae (bS rfl fZ) av))) (ae (aO (ae lt_str (ae lt_int (ae lt_int av)))) av)))) λv22 H22 s22 lN=>?_
   replace gL:=LV.same s22 gL
   replace dR:=LV.same s22 dR
   replace fZ:=LV.same s22 fZ
   replace bh:=LV.same s22 bh
   replace ij:=LV.same s22 ij
   replace iS:=LV.same s22 iS
   replace eG:=LV.same s22 eG
   replace dQ:=LV.same s22 dQ
   replace kY:=LV.same s22 kY
   replace s0:=s0.trans s22
   have rK:=lN;clear lN s22;refine ix (mR (bS rfl dQ) (cB (ae (aO (ae (bS rfl rK) (ae (aO (ae lt_str (ae lt_int av))) (ae (aO (ae lt_str (ae (bS rfl fZ) av))) av)))) (ae (aO (ae (bS rfl rK) (ae (aO (ae lt_str (ae lt_int av))) (ae lt_int av)))) (ae (aO (ae (cB av) (ae (aO (ae lt_str (ae (bS rfl fZ) av))) (ae lt_int av)))) av))))) λv23 H23 s23 lN=>?_
   replace gL:=LV.same s23 gL
   replace dR:=LV.same s23 dR
   replace fZ:=LV.same s23 fZ
   replace bh:=LV.same s23 bh
   replace ij:=LV.same s23 ij
   replace iS:=LV.same s23 iS
   replace eG:=LV.same s23 eG
   replace kY:=LV.same s23 kY
   replace rK:=LV.same s23 rK
   replace s0:=s0.trans s23
   replace dQ:=lN
   clear lN s23;refine ix (mR (bS rfl dQ) (cB (ae (aO (ae (cB (ae (bS rfl bh) (ae (bS rfl iS) av))) (ae (aO (ae lt_str (ae lt_int av))) (ae lt_int av)))) (ae (aO (ae (cB (ae (bS rfl bh) (ae (bS rfl iS) av))) (ae (aO (ae lt_str (ae lt_int av))) (ae lt_int av)))) (ae (aO (ae (cB (ae (bS rfl bh) av)) (ae (aO (ae lt_str (ae lt_int av))) (ae lt_int av)))) av))))) λv24 H24 s24 lN=>?_
   replace gL:=LV.same s24 gL
   replace dR:=LV.same s24 dR
   replace fZ:=LV.same s24 fZ
   replace bh:=LV.same s24 bh
   replace ij:=LV.same s24 ij
   replace iS:=LV.same s24 iS
   replace eG:=LV.same s24 eG
   replace kY:=LV.same s24 kY
   replace rK:=LV.same s24 rK
   replace s0:=s0.trans s24
   replace dQ:=lN
   clear lN s24;refine ix (mR (bS rfl dQ) (cB (ae (aO (ae (cB (ae (bS rfl bh) av)) (ae (aO (ae lt_str (ae lt_int av))) (ae lt_int av)))) (ae (aO (ae (cB (ae (bS rfl bh) av)) (ae (aO (ae lt_str (ae Sn av))) (ae lt_int av)))) (ae (aO (ae (cB (ae (bS rfl bh) av)) (ae (aO (ae lt_str (ae (bS rfl fZ) av))) (ae lt_int av)))) av))))) λv25 H25 s25 lN=>?_
   replace gL:=LV.same s25 gL
   replace dR:=LV.same s25 dR
   replace fZ:=LV.same s25 fZ
   replace bh:=LV.same s25 bh
   replace ij:=LV.same s25 ij
   replace iS:=LV.same s25 iS
   replace eG:=LV.same s25 eG
   replace kY:=LV.same s25 kY
   replace rK:=LV.same s25 rK
   replace s0:=s0.trans s25
   replace dQ:=lN
   clear lN s25;exact⟨_,rfl,q _ w1 w2 big wd _ h1 h2 b1 b2 hw s0 dQ⟩
end
def XAt (H:Hp)(v:V)(C:Addr):Prop:=∃ea,v=.ref ea/\(H ea=some (xo ea (.ref C) none)\/∃d fs,H ea=some (xo ea (.ref C) (some d))/\H d=some (.xd fs))
theorem cx {X:Cx}:iz X (.builtin "isinstance") (λxs H Q=>∃v c C b,xs=[v,c]/\isC c=true/\XAt H v C/\lJ X.K C/\ba X.K (.ref C) (Q3 c)=some b/\Q (.bl b) H):=by
 intro pins s σ H xs us Q I r h;obtain⟨v,c,C,b,rfl,hc,⟨ea,rfl,hx⟩,ty,e,q⟩:=h;refine Lz Jj Gd pins s σ H [.ref ea,c] us Q I r ?_;rcases hx with hx | ⟨d,fs,hx,hd⟩
 ·exact .inl ⟨ea,c,C,b,rfl,hc,hx,ty,e,q⟩
 ·exact .inr ⟨ea,c,C,d,fs,b,rfl,hc,hx,hd,ty,e,q⟩
theorem GO {K:cb}{a D:Addr}{xs:List V}{tc:TT}{te:TE}{Q:VK}{σ:St}{H1:Hp}(Pv:Nat->List V->Hp->Prop)(h0:Pv 0 [] (upd H1 D (.lst [])))(hz:xs.length<=gn)
  (hl:∀i ys H2,i<=xs.length->Pv i ys H2->SqL K H2 a xs/\H2 D=some (.lst ys)/\ys.length<=i)
  (hs:∀i x ys H2,xs[i]?=some x->Pv i ys H2->tc (some x::σ) H2 λb H4=>if b=true then te (some x::σ) H4 (f7 D xs.length Pv i ys) else oI xs.length Pv i ys H4) (hd:∀ys H2,Pv xs.length ys H2->Q (.ref D) H2) :
  vy (Itl K a) tc te σ D H1 Q:=by
 refine⟨λi m ys H=>m=xs.length - i/\i<=xs.length/\Pv i ys H,⟨xs.length,by simp,ad8 _,h0⟩,?_⟩
 rintro i m ys H2 ⟨rfl,hi,p⟩;obtain⟨q,q2,q3⟩:=hl i ys H2 hi p;refine⟨q2,?_⟩
 by_cases hlt:i < xs.length
 ·refine .inr ⟨⟨xs,xs[i],q,by simp[hlt]⟩,by omega,λx H3 y=>?_⟩
  obtain⟨e,y⟩:=y;subst e;exact hs i x ys _ (y xs q) p
 ·have e:i=xs.length:=by omega
  subst e;exact .inl ⟨⟨xs,q,km _⟩,hd ys H2 p⟩
def xC (A:Adr):Xc->Addr
 | .fX _=>A.bL
 | .eF _=>A.aU
 | .iP _=>A.bM
 | .nothing=>A.bB
 | .eX=>A.bc
 | .noChange=>A.bf
 | .noFit=>A.cj
 | .tooMany=>A.bD
 | .fY=>A.bE
 | .bj=>A.aS
def xn:Xc->Nat
 | .fX _=>0
 | .eF _=>1
 | .iP _=>2
 | .nothing=>3
 | .eX=>4
 | .noChange=>5
 | .noFit=>6
 | .tooMany=>7
 | .fY=>8
 | .bj=>9
def xb (x:Xc)(j:Nat):Bool:=decide (xn x=j)
def DK (A:Adr)(H:Hp)(x:Xc)(v:V):Prop:=∃ea C d,v=.ref ea/\H ea=some (xo ea C d)/\x.At A H C d
theorem DK.same {A:Adr}{H H':Hp}(s:bT H H'){v:V}:∀ {x:Xc},DK A H x v->DK A H' x v
 | .fX _,⟨ea,C,d,e,h,eC,a,ed,ha⟩=>⟨ea,C,d,e,s _ _ h,eC,a,ed,s _ _ ha⟩
 | .eF _,⟨ea,C,d,e,h,eC,a,ed,ha⟩=>⟨ea,C,d,e,s _ _ h,eC,a,ed,s _ _ ha⟩
 | .iP _,⟨ea,C,d,e,h,eC,a,ed,ha⟩=>⟨ea,C,d,e,s _ _ h,eC,a,ed,s _ _ ha⟩
 | .nothing,⟨ea,C,d,e,h,hx⟩=>⟨ea,C,d,e,s _ _ h,hx⟩
 | .eX,⟨ea,C,d,e,h,hx⟩=>⟨ea,C,d,e,s _ _ h,hx⟩
 | .noChange,⟨ea,C,d,e,h,hx⟩=>⟨ea,C,d,e,s _ _ h,hx⟩
 | .noFit,⟨ea,C,d,e,h,hx⟩=>⟨ea,C,d,e,s _ _ h,hx⟩
 | .tooMany,⟨ea,C,d,e,h,hx⟩=>⟨ea,C,d,e,s _ _ h,hx⟩
 | .fY,⟨ea,C,d,e,h,hx⟩=>⟨ea,C,d,e,s _ _ h,hx⟩
 | .bj,⟨ea,C,d,e,h,hx⟩=>⟨ea,C,d,e,s _ _ h,hx⟩
theorem DK.xat {A:Adr}{H:Hp}{v:V}:∀ {x:Xc},DK A H x v->XAt H v (xC A x)
 | .fX _,⟨ea,C,d,e,h,eC,a,ed,ha⟩=>by subst eC;subst ed;exact⟨ea,e,.inr ⟨a,_,h,ha⟩⟩
 | .eF _,⟨ea,C,d,e,h,eC,a,ed,ha⟩=>by subst eC;subst ed;exact⟨ea,e,.inr ⟨a,_,h,ha⟩⟩
 | .iP _,⟨ea,C,d,e,h,eC,a,ed,ha⟩=>by subst eC;subst ed;exact⟨ea,e,.inr ⟨a,_,h,ha⟩⟩
 | .nothing,⟨ea,C,d,e,h,eC,ed⟩=>by subst eC;subst ed;exact⟨ea,e,.inl h⟩
 | .eX,⟨ea,C,d,e,h,eC,ed⟩=>by subst eC;subst ed;exact⟨ea,e,.inl h⟩
 | .noChange,⟨ea,C,d,e,h,eC,ed⟩=>by subst eC;subst ed;exact⟨ea,e,.inl h⟩
 | .noFit,⟨ea,C,d,e,h,eC,ed⟩=>by subst eC;subst ed;exact⟨ea,e,.inl h⟩
 | .tooMany,⟨ea,C,d,e,h,eC,ed⟩=>by subst eC;subst ed;exact⟨ea,e,.inl h⟩
 | .fY,⟨ea,C,d,e,h,eC,ed⟩=>by subst eC;subst ed;exact⟨ea,e,.inl h⟩
 | .bj,⟨ea,C,d,e,h,eC,ed⟩=>by subst eC;subst ed;exact⟨ea,e,.inl h⟩
theorem Xc.At.Sv {A:Adr}{H H':Hp}(s:bT H H'){C:Value}{d:Option Addr}:∀ {x:Xc},x.At A H C d->x.At A H' C d
 | .fX _,⟨e,a,ea,h⟩=>⟨e,a,ea,s _ _ h⟩
 | .eF _,⟨e,a,ea,h⟩=>⟨e,a,ea,s _ _ h⟩
 | .iP _,⟨e,a,ea,h⟩=>⟨e,a,ea,s _ _ h⟩
 | .eX,h=>h
 | .noChange,h=>h
 | .noFit,h=>h
 | .nothing,h=>h
 | .tooMany,h=>h
 | .fY,h=>h
 | .bj,h=>h
section
variable{P:ma}{w:World}{K:cb}{mg:Str->Option Value}{base:Heap}{A:Adr}
theorem Xc.mat (T:Txt w.params K mg A){H:Hp}{C:Value}{d:Option Addr}:∀ {x:Xc},x.At A H C d->ads K C (.ref A.cv)=some true
 | .fX _,⟨e,_⟩=>by rw[e];exact T.jqo
 | .eF _,⟨e,_⟩=>by rw[e];exact T.jqg
 | .iP _,⟨e,_⟩=>by rw[e];exact T.jqq
 | .eX,⟨e,_⟩=>by rw[e];exact T.jqd
 | .noChange,⟨e,_⟩=>by rw[e];exact T.jqe
 | .noFit,⟨e,_⟩=>by rw[e];exact T.jqs
 | .nothing,⟨e,_⟩=>by rw[e];exact T.jqh
 | .tooMany,⟨e,_⟩=>by rw[e];exact T.jqi
 | .fY,⟨e,_⟩=>by rw[e];exact T.jqj
 | .bj,⟨e,_⟩=>by rw[e];exact T.jqf
theorem Sw (T:Txt w.params K mg A):∀x:Xc,lJ K (xC A x)/\ba K (.ref (xC A x)) (.type "ValueError")=some true/\ba K (.ref (xC A x)) (.ref A.bL)=some (xb x 0)/\ba K (.ref (xC A x)) (.ref A.aU)=some (xb x 1)/\ba K (.ref (xC A x)) (.ref A.bM)=some (xb x 2)/\ba K (.ref (xC A x)) (.ref A.bB)=some (xb x 3)/\ba K (.ref (xC A x)) (.ref A.bc)=some (xb x 4)/\ba K (.ref (xC A x)) (.ref A.bf)=some (xb x 5)/\ba K (.ref (xC A x)) (.ref A.cj)=some (xb x 6)/\ba K (.ref (xC A x)) (.ref A.bD)=some (xb x 7)/\ba K (.ref (xC A x)) (.ref A.bE)=some (xb x 8)/\ba K (.ref (xC A x)) (.ref A.aS)=some (xb x 9)/\ba K (.ref (xC A x)) (.ref A.ie)=some (xb x 10)/\ba K (.ref (xC A x)) (.ref A.fL)=some (xb x 11)
 | .fX _=>⟨T.A3,T.jqI,T.jq2r,T.jq1A,T.jq2s,T.jq28,T.jq1y,T.jq1z,T.jq2J,T.jq29,T.jq2a,T.jq1B,T.jq2K,T.jq2t⟩
 | .eF _=>⟨T.wN,T.jqp,T.jq1C,T.jqL,T.jq1D,T.jq1b,T.jqJ,T.jqK,T.jq2b,T.jq1c,T.jq1d,T.jqM,T.jq2c,T.jq1E⟩
 | .iP _=>⟨T.A5,T.jqN,T.jq2u,T.jq1H,T.jq2v,T.jq2d,T.jq1F,T.jq1G,T.jq2L,T.jq2e,T.jq2f,T.jq1I,T.jq2M,T.jq2w⟩
 | .nothing=>⟨T.zo,T.jqt,T.jq1X,T.jqY,T.jq1Y,T.jq1m,T.jqW,T.jqX,T.jq2l,T.jq1n,T.jq1o,T.jqZ,T.jq2m,T.jq1Z⟩
 | .eX=>⟨T.wI,T.jql,T.jq1g,T.jqy,T.jq1h,T.jqQ,T.jqw,T.jqx,T.jq1T,T.jqR,T.jqS,T.jqz,T.jq1U,T.jq1i⟩
 | .noChange=>⟨T.wK,T.jqm,T.jq1j,T.jqC,T.jq1k,T.jqT,T.jqA,T.jqB,T.jq1V,T.jqU,T.jqV,T.jqD,T.jq1W,T.jq1l⟩
 | .noFit=>⟨T.Dl,T.jqP,T.jq2G,T.jq1R,T.jq2H,T.jq2i,T.jq1P,T.jq1Q,T.jq2W,T.jq2j,T.jq2k,T.jq1S,T.jq2X,T.jq2I⟩
 | .tooMany=>⟨T.zq,T.jqu,T.jq20,T.jq12,T.jq21,T.jq1p,T.jq10,T.jq11,T.jq2n,T.jq1q,T.jq1r,T.jq13,T.jq2o,T.jq22⟩
 | .fY=>⟨T.zt,T.jqv,T.jq23,T.jq16,T.jq24,T.jq1s,T.jq14,T.jq15,T.jq2p,T.jq1t,T.jq1u,T.jq17,T.jq2q,T.jq25⟩
 | .bj=>⟨T.wM,T.jqn,T.jq1v,T.jqG,T.jq1w,T.jq18,T.jqE,T.jqF,T.jq26,T.jq19,T.jq1a,T.jqH,T.jq27,T.jq1x⟩
def MJ (A:Adr)(K:cb):Sp:=λvs H Q _=>∃(x:Xc) (v:V),vs=[v]/\DK A H x v/\OG x/\∀r H',bT H H'->DV K H' (rJ x) r->Q r H'
def MK (A:Adr):Sp:=λvs H Q _=>∃(x:Xc) (v:V),vs=[v]/\DK A H x v/\∀H',bT H H'->Q (.int 1) H'
theorem zS {H:Hp}{u:Addr}{z:Str}{b:Int}(h:H u=some (.tup [.str z,.int b])):DV K H (.tuple [.str z,.int b]) (.ref u):=by
 unfold DV;refine⟨u,_,rfl,SqT.of h,?_⟩;unfold DVs;refine⟨_,_,rfl,by unfold DV;rfl,?_⟩
 unfold DVs;exact⟨_,_,rfl,by unfold DV;rfl,by unfold DVs;rfl⟩
theorem JK (T:Txt w.params K mg A):a8 P w K mg base CX0 1 A.Gi A.vH ["_law_e"] (MJ A K):=by
 refine T.zh.ok Jv (λvs H Q E h=>?_) (λcdv A' outer s H vs Q E hr h=>?_)
 ·obtain⟨x,v,rfl,_⟩:=h;rfl
 ·obtain⟨x,v,rfl,hv,hok,q⟩:=h;refine⟨_,(ao (cI (iq (bW cx (by rfl) T.bq bb (aa (pv 0) (aa (cW (v:=V.ref A.bL) rfl T.rb rfl) af))))
 (aq (aI (aG (aa au (aa (BO (pv 0) rfl) af)))))
 aT)
 (ao (cI (iq (bW cx (by rfl) T.bq bb (aa (pv 0) (aa (cW (v:=V.ref A.aU) rfl T.pV rfl) af))))
 (aq (aI (aG (aa au (aa (BO (pv 0) rfl) af)))))
 aT)
 (ao (cI (iq (bW cx (by rfl) T.bq bb (aa (pv 0) (aa (cW (v:=V.ref A.bM) rfl T.uI rfl) af))))
 (aq (aI (aG (aa au (aa (BO (pv 0) rfl) af)))))
 aT)
 (ao (cI (iq (bW cx (by rfl) T.bq bb (aa (pv 0) (aa (cW (v:=V.ref A.bB) rfl T.sD rfl) af))))
 (aq (aI aj))
 aT)
 (ao (cI (iq (bW cx (by rfl) T.bq bb (aa (pv 0) (aa (cW (v:=V.ref A.bc) rfl T.pT rfl) af))))
 (aq (aI aj))
 aT)
 (ao (cI (iq (bW cx (by rfl) T.bq bb (aa (pv 0) (aa (cW (v:=V.ref A.bf) rfl T.pU rfl) af))))
 (aq (aI aj))
 aT)
 (ao (cI (iq (bW cx (by rfl) T.bq bb (aa (pv 0) (aa (cW (v:=V.ref A.cj) rfl T.yu rfl) af))))
 (aq (aI aj))
 aT)
 (ao (cI (iq (bW cx (by rfl) T.bq bb (aa (pv 0) (aa (cW (v:=V.ref A.bD) rfl T.sE rfl) af))))
 (aq (aI aj))
 aT)
 (ao (cI (iq (bW cx (by rfl) T.bq bb (aa (pv 0) (aa (cW (v:=V.ref A.bE) rfl T.sF rfl) af))))
 (aq (aI aj))
 aT)
 (aq (aI (dj pL aj (d0 AG (by rfl) T.L3 KW (aa (Qz (bW cx (by rfl) T.bq bb (aa (pv 0) (aa (cW (v:=V.ref A.aS) rfl T.mC rfl) af)))) af)))))))))))))),?_⟩
  try dsimp only[cD]
  refine aN λGq gq=>?_
  have hx:=hv.xat;obtain⟨xt,_,b0,b1,b2,b3,b4,b5,b6,b7,b8,b9,_,_⟩:=Sw T x;have lkb:∀b:Int,([(ar "bar",V.int b)]:List (Str×V)).lookup (ar "bar")=some (V.int b):=λb=>by rw[aes];rfl
  have lks:∀b:Int,([(ar "sitting",V.int b)]:List (Str×V)).lookup (ar "sitting")=some (V.int b):=λb=>by rw[aes];rfl
  refine gq ?_;cases x with
  |fX b =>
   refine aN λGq gq=>?_
   obtain⟨ea,C,d,ev,hxo,eC,a,ed,ha⟩:=hv;subst ev;subst eC;subst ed;refine gq ?_;exact⟨_,rfl,.ref ea,_,(_),_,rfl,rfl,hx,xt,b0,tst rfl ⟨_,rfl,ea,A.bL,a,_,.int b,rfl,hxo,ha,T.A4,lkb b,⟨_,.int (j2 hok.1 hok.2)⟩,(sl 2),λu hu=>q _ _ (aK hu) (zS ah)⟩⟩
  |eF b =>
   refine aN λGq gq=>?_
   obtain⟨ea,C,d,ev,hxo,eC,a,ed,ha⟩:=hv;subst ev;subst eC;subst ed;refine gq ?_;exact⟨_,rfl,.ref ea,_,(_),_,rfl,rfl,hx,xt,b0,tsf rfl ⟨_,rfl,.ref ea,_,(_),_,rfl,rfl,hx,xt,b1,tst rfl ⟨_,rfl,ea,A.aU,a,_,.int b,rfl,hxo,ha,T.wO,lks b,⟨_,.int (j2 hok.1 hok.2)⟩,(sl 2),λu hu=>q _ _ (aK hu) (zS ah)⟩⟩⟩
  |iP b =>
   refine aN λGq gq=>?_
   obtain⟨ea,C,d,ev,hxo,eC,a,ed,ha⟩:=hv;subst ev;subst eC;subst ed;refine gq ?_;exact⟨_,rfl,.ref ea,_,(_),_,rfl,rfl,hx,xt,b0,tsf rfl ⟨_,rfl,.ref ea,_,(_),_,rfl,rfl,hx,xt,b1,tsf rfl ⟨_,rfl,.ref ea,_,(_),_,rfl,rfl,hx,xt,b2,tst rfl ⟨_,rfl,ea,A.bM,a,_,.int b,rfl,hxo,ha,T.A6,lks b,⟨_,.int (j2 hok.1 hok.2)⟩,(sl 2),λu hu=>q _ _ (aK hu) (zS ah)⟩⟩⟩⟩
  |nothing=>exact⟨_,rfl,v,_,(_),_,rfl,rfl,hx,xt,b0,tsf rfl ⟨_,rfl,v,_,(_),_,rfl,rfl,hx,xt,b1,tsf rfl ⟨_,rfl,v,_,(_),_,rfl,rfl,hx,xt,b2,tsf rfl ⟨_,rfl,v,_,(_),_,rfl,rfl,hx,xt,b3,tst rfl (q _ _ (bT.refl _) (by unfold rJ DV;rfl))⟩⟩⟩⟩
  |eX=>exact⟨_,rfl,v,_,(_),_,rfl,rfl,hx,xt,b0,tsf rfl ⟨_,rfl,v,_,(_),_,rfl,rfl,hx,xt,b1,tsf rfl ⟨_,rfl,v,_,(_),_,rfl,rfl,hx,xt,b2,tsf rfl ⟨_,rfl,v,_,(_),_,rfl,rfl,hx,xt,b3,tsf rfl ⟨_,rfl,v,_,(_),_,rfl,rfl,hx,xt,b4,tst rfl (q _ _ (bT.refl _) (by unfold rJ DV;rfl))⟩⟩⟩⟩⟩
  |noChange=>exact⟨_,rfl,v,_,(_),_,rfl,rfl,hx,xt,b0,tsf rfl ⟨_,rfl,v,_,(_),_,rfl,rfl,hx,xt,b1,tsf rfl ⟨_,rfl,v,_,(_),_,rfl,rfl,hx,xt,b2,tsf rfl ⟨_,rfl,v,_,(_),_,rfl,rfl,hx,xt,b3,tsf rfl ⟨_,rfl,v,_,(_),_,rfl,rfl,hx,xt,b4,tsf rfl ⟨_,rfl,v,_,(_),_,rfl,rfl,hx,xt,b5,tst rfl (q _ _ (bT.refl _) (by unfold rJ DV;rfl))⟩⟩⟩⟩⟩⟩
  |noFit=>exact⟨_,rfl,v,_,(_),_,rfl,rfl,hx,xt,b0,tsf rfl ⟨_,rfl,v,_,(_),_,rfl,rfl,hx,xt,b1,tsf rfl ⟨_,rfl,v,_,(_),_,rfl,rfl,hx,xt,b2,tsf rfl ⟨_,rfl,v,_,(_),_,rfl,rfl,hx,xt,b3,tsf rfl ⟨_,rfl,v,_,(_),_,rfl,rfl,hx,xt,b4,tsf rfl ⟨_,rfl,v,_,(_),_,rfl,rfl,hx,xt,b5,tsf rfl ⟨_,rfl,v,_,(_),_,rfl,rfl,hx,xt,b6,tst rfl (q _ _ (bT.refl _) (by unfold rJ DV;rfl))⟩⟩⟩⟩⟩⟩⟩
  |tooMany=>exact⟨_,rfl,v,_,(_),_,rfl,rfl,hx,xt,b0,tsf rfl ⟨_,rfl,v,_,(_),_,rfl,rfl,hx,xt,b1,tsf rfl ⟨_,rfl,v,_,(_),_,rfl,rfl,hx,xt,b2,tsf rfl ⟨_,rfl,v,_,(_),_,rfl,rfl,hx,xt,b3,tsf rfl ⟨_,rfl,v,_,(_),_,rfl,rfl,hx,xt,b4,tsf rfl ⟨_,rfl,v,_,(_),_,rfl,rfl,hx,xt,b5,tsf rfl ⟨_,rfl,v,_,(_),_,rfl,rfl,hx,xt,b6,tsf rfl ⟨_,rfl,v,_,(_),_,rfl,rfl,hx,xt,b7,tst rfl (q _ _ (bT.refl _) (by unfold rJ DV;rfl))⟩⟩⟩⟩⟩⟩⟩⟩
  |fY=>exact⟨_,rfl,v,_,(_),_,rfl,rfl,hx,xt,b0,tsf rfl ⟨_,rfl,v,_,(_),_,rfl,rfl,hx,xt,b1,tsf rfl ⟨_,rfl,v,_,(_),_,rfl,rfl,hx,xt,b2,tsf rfl ⟨_,rfl,v,_,(_),_,rfl,rfl,hx,xt,b3,tsf rfl ⟨_,rfl,v,_,(_),_,rfl,rfl,hx,xt,b4,tsf rfl ⟨_,rfl,v,_,(_),_,rfl,rfl,hx,xt,b5,tsf rfl ⟨_,rfl,v,_,(_),_,rfl,rfl,hx,xt,b6,tsf rfl ⟨_,rfl,v,_,(_),_,rfl,rfl,hx,xt,b7,tsf rfl ⟨_,rfl,v,_,(_),_,rfl,rfl,hx,xt,b8,tst rfl (q _ _ (bT.refl _) (by unfold rJ DV;rfl))⟩⟩⟩⟩⟩⟩⟩⟩⟩
  |bj=>exact⟨_,rfl,v,_,(_),_,rfl,rfl,hx,xt,b0,tsf rfl ⟨_,rfl,v,_,(_),_,rfl,rfl,hx,xt,b1,tsf rfl ⟨_,rfl,v,_,(_),_,rfl,rfl,hx,xt,b2,tsf rfl ⟨_,rfl,v,_,(_),_,rfl,rfl,hx,xt,b3,tsf rfl ⟨_,rfl,v,_,(_),_,rfl,rfl,hx,xt,b4,tsf rfl ⟨_,rfl,v,_,(_),_,rfl,rfl,hx,xt,b5,tsf rfl ⟨_,rfl,v,_,(_),_,rfl,rfl,hx,xt,b6,tsf rfl ⟨_,rfl,v,_,(_),_,rfl,rfl,hx,xt,b7,tsf rfl ⟨_,rfl,v,_,(_),_,rfl,rfl,hx,xt,b8,tsf rfl ⟨_,rfl,v,_,(_),_,rfl,rfl,hx,xt,b9,_,rfl,.inr ⟨_,rfl,_,_,rfl,rfl,q _ _ (bT.refl _) (by unfold rJ DV;rfl)⟩⟩⟩⟩⟩⟩⟩⟩⟩⟩⟩
theorem JL (T:Txt w.params K mg A):a8 P w K mg base CX0 1 A.Gj A.vI ["_law_e"] (MK A):=by
 refine T.zi.ok sA (λvs H Q E h=>?_) (λcdv A' outer s H vs Q E hr h=>?_)
 ·obtain⟨x,v,rfl,_⟩:=h;rfl
 ·obtain⟨x,v,rfl,hv,q⟩:=h;refine⟨_,(ao (br (i:=1) sA.nd rfl (wt rfl) (bO (aa (bW cx (by rfl) T.bq bb (aa (pv 0) (aa (cW (v:=V.ref A.bL) rfl T.rb rfl) af))) (aa (bW cx (by rfl) T.bq bb (aa (pv 0) (aa (cW (v:=V.ref A.aU) rfl T.pV rfl) af))) (aa (bW cx (by rfl) T.bq bb (aa (pv 0) (aa (cW (v:=V.ref A.bM) rfl T.uI rfl) af))) (aa (bW cx (by rfl) T.bq bb (aa (pv 0) (aa (cW (v:=V.ref A.bB) rfl T.sD rfl) af))) af))))))
 (ao (br (i:=1) sA.nd rfl (wt rfl) (dj gM (pv 1) (bO (aa (bW cx (by rfl) T.bq bb (aa (pv 0) (aa (cW (v:=V.ref A.bc) rfl T.pT rfl) af))) (aa (bW cx (by rfl) T.bq bb (aa (pv 0) (aa (cW (v:=V.ref A.bf) rfl T.pU rfl) af))) (aa (bW cx (by rfl) T.bq bb (aa (pv 0) (aa (cW (v:=V.ref A.cj) rfl T.yu rfl) af))) (aa (bW cx (by rfl) T.bq bb (aa (pv 0) (aa (cW (v:=V.ref A.bD) rfl T.sE rfl) af))) af)))))))
 (ao (br (i:=1) sA.nd rfl (wt rfl) (dj gM (pv 1) (bO (aa (bW cx (by rfl) T.bq bb (aa (pv 0) (aa (cW (v:=V.ref A.bE) rfl T.sF rfl) af))) (aa (bW cx (by rfl) T.bq bb (aa (pv 0) (aa (cW (v:=V.ref A.aS) rfl T.mC rfl) af))) (aa (bW cx (by rfl) T.bq bb (aa (pv 0) (aa (cW (v:=V.ref A.ie) rfl T.Ip rfl) af))) (aa (bW cx (by rfl) T.bq bb (aa (pv 0) (aa (cW (v:=V.ref A.fL) rfl T.Dk rfl) af))) af)))))))
 (aq (aI (bW jf (by rfl) T.zj vt (aa (C2 (scope:=uz) De rfl (sf (pv 1)) (λ_ _ _ _ _=>(iq (pv 0))) (λ_ _ _ _ _=>(pv 0))) af))))))),?_⟩
  try dsimp only[cD]
  refine aN λGq gq=>?_
  obtain⟨xt,_,b0,b1,b2,b3,b4,b5,b6,b7,b8,b9,b10,b11⟩:=Sw T x;have hx:=hv.xat;have sz:gn=16777216:=by decide
  refine gq ?_;refine⟨_,rfl,v,_,(_),_,rfl,rfl,hx,xt,b0,_,rfl,v,_,(_),_,rfl,rfl,hx,xt,b1,_,rfl,v,_,(_),_,rfl,rfl,hx,xt,b2,_,rfl,v,_,(_),_,rfl,rfl,hx,xt,b3,(sl 4),λl1 hl1=>?_⟩
  have s1:=aK (o:=.lst [V.bl (xb x 0),V.bl (xb x 1),V.bl (xb x 2),V.bl (xb x 3)]) hl1;have hx1:=(hv.same s1).xat
  try dsimp only[iy]
  refine⟨_,rfl,_,rfl,v,_,(_),_,rfl,rfl,hx1,xt,b4,_,rfl,v,_,(_),_,rfl,rfl,hx1,xt,b5,_,rfl,v,_,(_),_,rfl,rfl,hx1,xt,b6,_,rfl,v,_,(_),_,rfl,rfl,hx1,xt,b7,(sl 4),λl2 hl2=>?_⟩
  have n21:l1≠l2:=a6 ah hl2;have s2:=s1.new (o:=.lst [V.bl (xb x 4),V.bl (xb x 5),V.bl (xb x 6),V.bl (xb x 7)]) hl2;refine⟨l1,l2,_,_,rfl,rfl,(aw n21).trans ah,ah,(by show 8<=gn;omega),λl3 hl3=>?_⟩
  have s3:=s2.new (o:=.lst ([V.bl (xb x 0),V.bl (xb x 1),V.bl (xb x 2),V.bl (xb x 3)]++[V.bl (xb x 4),V.bl (xb x 5),V.bl (xb x 6),V.bl (xb x 7)])) hl3;have hx3:=(hv.same s3).xat
  try dsimp only[iy]
  refine⟨_,rfl,_,rfl,v,_,(_),_,rfl,rfl,hx3,xt,b8,_,rfl,v,_,(_),_,rfl,rfl,hx3,xt,b9,_,rfl,v,_,(_),_,rfl,rfl,hx3,xt,b10,_,rfl,v,_,(_),_,rfl,rfl,hx3,xt,b11,(sl 4),λl4 hl4=>?_⟩
  have n43:l3≠l4:=a6 ah hl4;have s4:=s3.new (o:=.lst [V.bl (xb x 8),V.bl (xb x 9),V.bl (xb x 10),V.bl (xb x 11)]) hl4;refine⟨l3,l4,_,_,rfl,rfl,(aw n43).trans ah,ah,(by show 12<=gn;omega),λl5 hl5=>?_⟩
  have s5:=s4.new (o:=.lst (([V.bl (xb x 0),V.bl (xb x 1),V.bl (xb x 2),V.bl (xb x 3)]++[V.bl (xb x 4),V.bl (xb x 5),V.bl (xb x 6),V.bl (xb x 7)])++[V.bl (xb x 8),V.bl (xb x 9),V.bl (xb x 10),V.bl (xb x 11)])) hl5;have h5:(upd (upd (upd (upd (upd H l1 (.lst [V.bl (xb x 0),V.bl (xb x 1),V.bl (xb x 2),V.bl (xb x 3)])) l2 (.lst [V.bl (xb x 4),V.bl (xb x 5),V.bl (xb x 6),V.bl (xb x 7)])) l3 (.lst ([V.bl (xb x 0),V.bl (xb x 1),V.bl (xb x 2),V.bl (xb x 3)]++[V.bl (xb x 4),V.bl (xb x 5),V.bl (xb x 6),V.bl (xb x 7)]))) l4 (.lst [V.bl (xb x 8),V.bl (xb x 9),V.bl (xb x 10),V.bl (xb x 11)])) l5 (.lst (([V.bl (xb x 0),V.bl (xb x 1),V.bl (xb x 2),V.bl (xb x 3)]++[V.bl (xb x 4),V.bl (xb x 5),V.bl (xb x 6),V.bl (xb x 7)])++[V.bl (xb x 8),V.bl (xb x 9),V.bl (xb x 10),V.bl (xb x 11)]))) l5=some (.lst ((aev 12).map λj=>V.bl (xb x j))):=ah
  generalize upd (upd (upd (upd (upd H l1 (.lst [V.bl (xb x 0),V.bl (xb x 1),V.bl (xb x 2),V.bl (xb x 3)])) l2 (.lst [V.bl (xb x 4),V.bl (xb x 5),V.bl (xb x 6),V.bl (xb x 7)])) l3 (.lst ([V.bl (xb x 0),V.bl (xb x 1),V.bl (xb x 2),V.bl (xb x 3)]++[V.bl (xb x 4),V.bl (xb x 5),V.bl (xb x 6),V.bl (xb x 7)]))) l4 (.lst [V.bl (xb x 8),V.bl (xb x 9),V.bl (xb x 10),V.bl (xb x 11)])) l5 (.lst (([V.bl (xb x 0),V.bl (xb x 1),V.bl (xb x 2),V.bl (xb x 3)]++[V.bl (xb x 4),V.bl (xb x 5),V.bl (xb x 6),V.bl (xb x 7)])++[V.bl (xb x 8),V.bl (xb x 9),V.bl (xb x 10),V.bl (xb x 11)]))=H5 at s5 h5 ⊢;clear s1 s2 s3 s4 hx1 hx3 hl1 hl2 hl3 hl4 hl5 n21 n43
  try dsimp only[iy]
  refine⟨_,rfl,l5,rfl,⟨_,SqL.of h5⟩,λD hD=>?_⟩
  refine GO (K:=K) (a:=l5) (xs:=(aev 12).map λj=>V.bl (xb x j)) (λi ys H2=>bT H5 H2/\H2 D=some (.lst ys)/\ys.length=((aev i).filter λj=>xb x j).length) ⟨aK hD,ah,rfl⟩ (by rw[da,List.length_range];omega) ?_ ?_ ?_
  ·rintro i ys H2 hi ⟨s6,h6,h7⟩;refine⟨SqL.of (s6 _ _ h5),h6,?_⟩;have:=aeh (λj=>xb x j) (aev i)
   rw[List.length_range]at this;omega
  ·rintro i y ys H2 hy ⟨s6,h6,h7⟩;have hlt:=(List.getElem?_eq_some_iff.mp hy).1;have aby:i < 12:=by rw[da,List.length_range]at hlt;exact hlt
   have ey:y=V.bl (xb x i):=by
    rw[adK,List.getElem?_range aby]at hy;exact(adq hy).symm
   subst ey;have et:((aev (i+1)).filter λj=>xb x j).length=ys.length+(if xb x i=true then 1 else 0):=by
    rw[List.range_succ,List.filter_append,kq,h7]
    congr 1
    cases hb:xb x i <;> simp[List.filter,hb]
   refine⟨_,rfl,_,rfl,?_⟩;cases hb:xb x i with
   |true =>
    rw[hb]at et;refine nO ⟨_,rfl,f7.mk hlt h6 ⟨s6.own hD,ah,?_⟩⟩;rw[et,kq];rfl
   |false =>
    rw[hb]at et;exact kK (oI.mk hlt ⟨s6,h6,by rw[et];rfl⟩)
  ·rintro ys H6 ⟨s6,h6,h7⟩;have e1:ys.length=1:=by
    rw[h7,da,List.length_range];cases x <;> rfl
   refine⟨D,ys,rfl,.inl (SqL.of h6),?_⟩;rw[e1];exact q H6 (s5.trans s6)
end
theorem OO (n:Int):Inv 0 (rH n) :=
 ⟨km 0,km 0,km 0,km 0,(λ_ h=>nomatch h),⟨by show (1:Int)<=1;decide,by show (1:Int)<=_;decide⟩,(λ_ h=>nomatch h),(λ_ h=>nomatch h),List.nodup_nil,.nil,(λ_ h=>nomatch h),rfl,rfl,(λ_ h=>nomatch h)⟩
theorem JM {W:Option (Nat×Rl)->Prop}(n:¬W none){c c':Col}{H1 H2:Hp}{x dx:Addr}{o:HO}(hx:H1 x=none)(hdx:H1 dx=none)(hk:∀a v,(upd (upd H1 dx (.own x)) x o) a=some v->a≠x->H2 a=some v/\c' a=c a):Step W c c' H1 H2:=by
 have old:∀a v,H1 a=some v->H2 a=some v/\c' a=c a:=λa v h =>
  hk a v ((aw (a6 h hx)).trans ((aw (a6 h hdx)).trans h)) (a6 h hx)
 exact⟨n,λa v h _=>(old a v h).1,λa v h=>⟨v,(old a v h).1⟩,λa v h _=>(old a v h).2⟩
def DL (K:cb):Sp:=λvs H Q _=>∃(a:Addr) (ns:List Int),vs=[.ref a]/\SqL K H a (ns.map V.int)/\ns.length<=63/\∀H',Q (.bl true) H'
theorem ML {t1 t2:TSX}{D:Ends}{E:SXK}{σ:St}{H:Hp}(h:t1 { D with nx:=t2 D E } E σ H):Ik t1 t2 D E σ H:=h
theorem zT {ts:TS}{t2:TSX}{D:Ends}{E:SXK}{σ:St}{H:Hp}(h:ts { D with nx:=t2 D E } σ H):Ik (F6 ts) t2 D E σ H:=h
theorem sgX {t:TSX}{D:Ends}{E:SXK}{σ σ':St}{H:Hp}(e:σ=σ')(h:t D E σ' H):t D E σ H:=e▸h
theorem OP {v:V}{i:Nat}{D:Ends}{σ:St}{H:Hp}(h:D.nx (σ.set i (some v)) H):Kw (tC v) (iy i) D σ H:=h
theorem JN {tb:TSX}{th:THX}{D:Ends}{E:SXK}{σ:St}{H:Hp}(J:SXK->Prop)(hE:J (λσ' C e H'=>th D E σ' C e H'))(h:∀E1,J E1->tb D E1 σ H):Ll tb th D E σ H:=h _ hE
theorem OQ {c:Col}{H:Hp}{x:Case}{v:V}(h:LV c H (IL x) v):∃t v0 v1 v2,v=.ref t/\(c t=none/\H t=some (.tup [v0,v1,v2]))/\LV c H (.list (x.1.map qj)) v0/\LV c H (dqD x.2.1) v1/\LV c H (rJ x.2.2) v2:=by
 unfold IL LV at h;obtain⟨t,vs,e,h1,h2⟩:=h;unfold LVs at h2;obtain⟨v0,r,rfl,l0,h2⟩:=h2;unfold LVs at h2;obtain⟨v1,r,rfl,l1,h2⟩:=h2;unfold LVs at h2;obtain⟨v2,r,rfl,l2,h2⟩:=h2;unfold LVs at h2;subst h2;exact⟨t,v0,v1,v2,e,h1,l0,l1,l2⟩
theorem GP (st:Ch)(m:Mn):(st.carry m).rows=st.rows:=by
 unfold Ch.carry;split
 ·split
  ·split <;> rfl
  ·rfl
 ·split
  ·split <;> rfl
  ·rfl
 ·split <;> rfl
 ·rfl
 ·split <;> rfl
 ·rfl
 ·rfl
theorem uY {rs:List Str}{z:Str}(h:∀r∈rs,Lk r=true)(hz:Lk z=true):∀r∈rs++[z],Lk r=true:=λr hr=>by
 rcases List.mem_append.mp hr with hr | hr
 ·exact h r hr
 ·rw[ra]at hr;rw[hr];exact hz
theorem JO {st:Ch}{d:R.d7}(hd:jd d)(hn:NN d)(h:∀r∈st.rows,Lk r=true):∀r∈(dZ st d).2.rows,Lk r=true:=by
 have hz:=DJ hd hn;have e:∀(b:Bool) (s1 s2:Ch),s1.rows=st.rows->s2.rows=st.rows->(if b=true then s1 else s2:Ch).rows=st.rows:=by
  intro b s1 s2 h1 h2;cases b
  ·exact h2
  ·exact h1
 cases hd with
 | @DE a b ha hb =>
  rw[mP];unfold pb;split
  ·exact h
  ·rename_i n _;split
   ·exact h
   ·refine uY (λr hr=>h r ?_) hz
    rw[<-e (o8 (My.nd (st.mo n).k) a b) ((st.popped st.aC.dropLast n (zN (o8 (My.nd (st.mo n).k) a b))).carry (st.mo n)) (st.popped st.aC.dropLast n (zN (o8 (My.nd (st.mo n).k) a b))) (GP _ _) rfl];exact hr
 |drop =>
  rw[mQ];unfold qi;split
  ·exact h
  ·exact uY h hz
 | @take z z0 z1 =>
  rw[iR];have e10:(10:Int) ^ 10=10000000000:=by decide
  have hz2:Lk (R.jC (.nums (ar "take") [((z.toNat:Nat):Int)]))=true:=DJ (.take (by omega) (by omega)) λi hi=>by rw[ra]at hi;rw[hi];omega
  unfold stepT;split
  ·split
   ·exact h
   ·split
    ·exact h
    ·exact uY h hz2
  ·exact h
 |move hm =>
  rw[j4 hm];unfold lT;split
  ·exact h
  ·exact uY h hz
theorem JP {st:Ch}{d:R.d7}(hd:jd d){x:Xc}(h:(dZ st d).1=.exc x):(dZ st d).2=st:=by
 cases hd with
 |DE =>
  rw[mP]at h ⊢;unfold pb at h ⊢;split
  ·rfl
  ·rename_i n hn;rw[hn]at h;dsimp only at h;split
   ·rfl
   ·rename_i z;rw[if_neg z]at h;cases h
 |drop =>
  rw[mQ]at h ⊢;unfold qi at h ⊢;split
  ·rfl
  ·rename_i n hn;rw[hn]at h;cases h
 |take =>
  rw[iR]at h ⊢;unfold stepT at h ⊢;split
  ·rename_i hp;rw[if_pos hp]at h;split
   ·rfl
   ·rename_i y hy;rw[hy]at h;dsimp only at h;split
    ·rfl
    ·rename_i z;rw[if_neg z]at h;cases h
  ·rfl
 |move hm =>
  rw[j4 hm]at h ⊢;unfold lT at h ⊢;split
  ·rfl
  ·rename_i hc;rw[hc]at h;cases h
theorem MM {c:Col}{H:Hp}:∀ {q:Dq} {v:V},LV c H (dqD q) v->∃t,v=.ref t
 | .d (.mat _),_,h=>by unfold dqD qj LV at h;obtain⟨t,_,e,_⟩:=h;exact⟨t,e⟩
 | .d (.ed _ _ _ _),_,h=>by unfold dqD qj LV at h;obtain⟨t,_,e,_⟩:=h;exact⟨t,e⟩
 | .d (.pt _),_,h=>by unfold dqD qj LV at h;obtain⟨t,_,e,_⟩:=h;exact⟨t,e⟩
 | .d (.nums _ _),_,h=>by unfold dqD qj LV at h;obtain⟨t,_,e,_⟩:=h;exact⟨t,e⟩
 | .nY _,_,h=>by unfold dqD LV at h;obtain⟨t,_,e,_⟩:=h;exact⟨t,e⟩
 | .kept _,_,h=>by unfold dqD LV at h;obtain⟨t,_,e,_⟩:=h;exact⟨t,e⟩
 | .first _,_,h=>by unfold dqD LV at h;obtain⟨t,_,e,_⟩:=h;exact⟨t,e⟩
theorem Sx {N:Nat}{st:Ch}(I:Inv N st)(hN:N<=800){q:Dq}(hgq:So q){e:Xc}(h:GL st q=some e):OG e:=by
 cases q with
 |d xx =>
  have ho:=MA I hN hgq;have h':(match (dZ st xx).1 with
   | .exc e=>some e
   |_=>none)=some e:=h
  cases hz:(dZ st xx).1 with
  |num n=>rw[hz]at h';cases h'
  |txt z=>rw[hz]at h';cases h'
  |exc y=>rw[hz]at h' ho;cases h';exact ho
 |nY n =>
  have h':(if 1<=n/\n<=st.made.length then none else some Xc.bj)=some e:=h
  split at h'
  ·cases h'
  ·cases h';trivial
 |kept n =>
  have h':(if n∈st.kX.map (λk:Nat=>(k:Int)) then none else some Xc.bj)=some e:=h
  split at h'
  ·cases h'
  ·cases h';trivial
 |first n =>
  have h':(if n∈st.kX.map (λk:Nat=>(k:Int)) then none else some Xc.bj)=some e:=h
  split at h'
  ·cases h'
  ·cases h';trivial
theorem OR (x:Xc):(rJ x).canLay0=true/\(rJ x).depth<=64:=by
 have h1:Lk (ar "bar")=true:=by trivial
 have h2:Lk (ar "later")=true:=by trivial
 have h3:Lk (ar "yet")=true:=by trivial
 cases x <;> refine⟨?_,?_⟩ <;> simp only[rJ,ad4,adC,aed,ad5,h1,h2,h3,Bool.and_self] <;> omega
section
variable{P:ma}{w:World}{K:cb}{mg:Str->Option Value}{base:Heap}{A:Adr}
set_option maxHeartbeats 20000000 in
theorem OS {f:Addr}{fd:kb}(F:Fun K "law" "law" sV f fd)(T:Txt w.params K mg A):a8 P w K mg base (CXX P w) 20 f fd ["_law_script"] (DL K):=by
 refine F.okX lj (λvs H Q E h=>?_) (λcdv A' outer s H vs Q E hr h=>?_)
 ·obtain⟨a,ns,rfl,_⟩:=h;rfl
 ·obtain⟨a,ns,rfl,hS,hlen,q⟩:=h;have hu1:=hr.u1;have Jw:=hr.units;refine⟨_,(aH (psx (br (i:=1) lj.nd rfl (wt rfl) (bY (GN T) (hr.mono (by decide)) rfl T.A0 T.vM.kp T.AZ .nil bC (aa (pv 0) af))))
 (aH (psx (Kx (bN je (pv 1) (dj qM (bY (uW T) (hr.mono (by decide)) rfl T.i7 T.gU.kp T.i6 .nil bC (aa (pv 0) (aa aj af))) (bW jf (by rfl) T.zj vt (aa (pv 1) af))) (λ_ _=>rfl)) (QC rfl (yB (pK (i:=2) lj.nd rfl (wt rfl)) (yB (pK (i:=3) lj.nd rfl (wt rfl)) (yB (pK (i:=4) lj.nd rfl (wt rfl)) Nz))))))
 (aH (psx (br (i:=5) lj.nd rfl (wt rfl) (hU T.A2 (Se T) (hr.mono (by decide)) rfl T.A1 T.jn .nil bC (aa aj af))))
 (aH (NV ⟨rfl,rfl⟩ rfl (sf (pv 2)) (pK (i:=6) lj.nd rfl (wt rfl))
 (bA (gP (oH (IT (i:=1) T) (hr.mono (by decide)) rfl T.Gr T.B9.kp T.Gp (pax (aa (pv 5) (aa (pv 6) af)))))))
 (aH (psx (br (i:=7) lj.nd rfl (wt rfl) (fA (pv 5) T.ai T.lG (Bl (i:=1) T) (hr.mono (by decide)) T.gb .nil bC)))
 (aH (psx (br (i:=8) lj.nd rfl (wt rfl) (fA (pv 5) T.ai T.ju (zR (i:=1) T) (hr.mono (by decide)) T.eT .nil bC)))
 (aH (psx (br (i:=9) lj.nd rfl (wt rfl) Ks))
 (aH (NU ⟨rfl,rfl⟩ (bA (gP (oH (IT (i:=1) T) (hr.mono (by decide)) rfl T.Gr T.B9.kp T.Gp (pax (aa (pv 5) (aa (pv 3) af))))))
 (Ra (i:=10) lj.nd rfl rfl rfl T.g7 (λ_=>(aq (br (i:=9) lj.nd rfl (wt rfl) (pv 10)))) (NT ⟨rfl,rfl⟩)))
 (aH (psx (cI (PW.pt (pw_or (a9 QI (pv 9) Ks (bz _)) (pw_or (vm (iq (bW cx (by rfl) T.bq bb (aa (pv 9) (aa (Ny (v:=V.ty "ValueError") rfl T.uC Ae rfl) af))))) (pw_or (a9 (Q1 Jw) (bY (JK T) (hr.mono (by decide)) rfl T.Dg T.zh.kp T.Df .nil bC (aa (pv 9) af)) (pv 4) (bz _)) (pw_or1 (a9 HY (bY (JL T) (hr.mono (by decide)) rfl T.Di T.zi.kp T.Dh .nil bC (aa (pv 9) af)) aj (bz _)))))))
 (aq (aI yA))
 aT))
 (bA (psx (aI (Ku (nz (KZ Jw) (fA (pv 5) T.ai T.lG (Bl (i:=1) T) (hr.mono (by decide)) T.gb .nil bC) (pv 7) (bz _)) (FJ (nz (KZ Jw) (fA (pv 5) T.ai T.ju (zR (i:=1) T) (hr.mono (by decide)) T.eT .nil bC) (pv 8) (bz _)))))))))))))))),?_⟩
  try dsimp only[cD]
  have sz:gn=16777216:=by decide
  refine⟨_,rfl,a,ns,rfl,hS,λL w1 w2 big wd H1 h1 h2 b1 b2 hw s1 lc=>?_⟩
  refine aN λGq gq=>?_
  unfold LV at lc;obtain⟨lL,vs,rfl,⟨_,hL⟩,lvs⟩:=lc;have vl:vs.length=27:=by rw[LVs.len _ lvs];rfl
  refine gq ?_
  try dsimp only[iy]
  refine⟨_,rfl,_,rfl,a,ns,0,rfl,s1.seq hS,Int.le_refl _,λz=>?_⟩
  refine⟨_,rfl,lL,vs,rfl,.inl (SqL.of hL),z,_,rfl,rfl,(by rw[vl];show (0:Int) < 27;decide),?_⟩
  refine aN λGq gq=>?_
  obtain⟨v,hv,hm⟩:=K5 (xs:=vs) (i:=z % (vs.length:Int)) (n:=27) vl (Int.emod_nonneg _ (by rw[vl];decide)) (by rw[vl];exact Int.emod_lt_of_pos _ (by decide))
  obtain⟨j,hj⟩:=List.mem_iff_getElem?.mp hm;obtain⟨d,hd1,hd2⟩:=LVs.at_ _ lvs hj;obtain⟨x,hx,rfl⟩:∃x,(IM w1 w2 big wd w1.length)[j]?=some x/\IL x=d:=by
   rw[adK]at hd1;cases hz:(IM w1 w2 big wd w1.length)[j]? with
   |none=>rw[hz]at hd1;cases hd1
   |some t=>rw[hz]at hd1;exact⟨t,rfl,adq hd1⟩
  have good:=MH h1 h2 b1 b2 hw rfl x (adF hx);obtain⟨t,v0,v1,v2,rfl,ht,la,lq,ld⟩:=OQ hd2;clear hd1 hx hj hm lvs hd2 h1 h2 b1 b2 hw;refine gq ?_;refine⟨lL,vs,_,_,rfl,rfl,SqL.of hL,hv,t,_,rfl,SqT.of ht.2,rfl,v0,_,rfl,v1,_,rfl,v2,_,rfl,rfl,?_⟩;dsimp only;refine sgX (σ':=[some (.ref a),some (.ref lL),some v0,some v1,some v2,none,none,none,none,none,none]) rfl ?_;refine zT ?_;refineλo d1 ho1 hd1 ne1=>⟨o,d1,3,rfl,ah,λH2 h2=>⟨rfl,?_⟩⟩
  refine aN λGq gq=>?_
  obtain⟨c1,k1,ch1⟩:=h2 1 cN;have st1:Step (λ_=>False) cN c1 H1 H2:=JM id ho1 hd1 k1
  refine gq ?_
  replace la:=LV.step st1 _ la
  replace lq:=LV.step st1 _ lq
  replace ld:=LV.step st1 _ ld
  refine aN λGq gq=>?_
  clear k1 ho1 hd1 ne1 h2 st1 s1 ht hL hv;unfold LV at la;obtain⟨lA,us,rfl,hA,lus⟩:=la;obtain⟨st,abz,CD⟩:=good.run;have ul:us.length=x.1.length:=by rw[LVs.len _ lus,da]
  have l3:=good.len;refine gq ?_;dsimp only[iy];refine sgX (σ':=[some (.ref a),some (.ref lL),some (.ref lA),some v1,some v2,some (.ref o),none,none,none,none,none]) rfl ?_;refine ML ?_;refine⟨_,rfl,lA,rfl,⟨_,SqL.of hA.2⟩,?_⟩;refine CL (K:=K) (a:=lA) (xs:=us) (λi σ' Hi=>∃v6,σ'=[some (.ref a),some (.ref lL),some (.ref lA),some v1,some v2,some (.ref o),v6,none,none,none,none]/\∃(c:Col) (sti:Ch),fP A 1 c Hi o sti/\Inv (3 * i) sti/\DH (x.1.drop i) sti=some st/\(∀r∈sti.rows,Lk r=true)/\LVs c Hi (x.1.map qj) us/\(c lA=none/\Hi lA=some (.lst us))/\LV c Hi (dqD x.2.1) v1/\LV c Hi (rJ x.2.2) v2)
   ⟨_,rfl,c1,_,ch1,OO 3,abz,(λ_ h=>nomatch h),lus,hA,lq,ld⟩ (λi σ' Hi _ ⟨_,_,_,_,_,_,_,_,_,h,_⟩=>SqL.of h.2) ?_ ?_
  ·rintro i y σ' Hi hy ⟨v6,rfl,c,sti,ch,I,hr1,ro,lu,hA2,lq2,ld2⟩;refine aN λGq gq=>?_
   obtain⟨dd,hdd,hly⟩:=LVs.at_ _ lu hy;obtain⟨d,hd,rfl⟩:∃d,x.1[i]?=some d/\qj d=dd:=by
    rw[adK]at hdd;cases hz:x.1[i]? with
    |none=>rw[hz]at hdd;cases hdd
    |some t=>rw[hz]at hdd;exact⟨t,rfl,adq hdd⟩
   obtain⟨ok,nn⟩:=good.ok d (adF hd);obtain⟨ti,rfl⟩:=MM (q:=.d d) hly;have hlt:=(List.getElem?_eq_some_iff.mp hd).1;rw[List.drop_eq_getElem_cons hlt,(List.getElem?_eq_some_iff.mp hd).2]at hr1;have hr2:(match dZ sti d with
    | (.exc _,_)=>none
    | (_,st')=>DH (x.1.drop (i+1)) st')=some st:=hr1
   have I2:=I.dZ (by omega) ok
   have ro2:=JO ok nn ro;have fin:∀(c':Col) (H':Hp),Step (iO 1) c c' Hi H'->fP A 1 c' H' o (dZ sti d).2->DH (x.1.drop (i+1)) (dZ sti d).2=some st->∃v6,[some (V.ref a),some (.ref lL),some (.ref lA),some v1,some v2,some (.ref o),some (.ref ti),none,none,none,none]=[some (.ref a),some (.ref lL),some (.ref lA),some v1,some v2,some (.ref o),v6,none,none,none,none]/\∃(c:Col) (sti:Ch),fP A 1 c H' o sti/\Inv (3 * (i+1)) sti/\DH (x.1.drop (i+1)) sti=some st/\(∀r∈sti.rows,Lk r=true)/\LVs c H' (x.1.map qj) us/\(c lA=none/\H' lA=some (.lst us))/\LV c H' (dqD x.2.1) v1/\LV c H' (rJ x.2.2) v2:=λc' H' s' ch' hr' =>
    ⟨_,rfl,c',_,ch',I2,hr',ro2,LVs.step s' _ lu,jE s' hA2.1 hA2.2,LV.step s' _ lq2,LV.step s' _ ld2⟩
   refine gq ?_;refine⟨_,rfl,_,rfl,o,ti,c,sti,3 * i,.d d,rfl,ch,I,by omega,ok,hly,?_⟩
   show wU A 1 c Hi o (dZ sti d) _ _;generalize dZ sti d=rs at hr2 fin;obtain⟨r,st'⟩:=rs;cases r with
   |num n=>exactλc' H' s' ch'=>fin c' H' s' ch' hr2
   |txt z=>exactλc' H' s' ch'=>fin c' H' s' ch' hr2
   |exc e=>cases hr2
  ·rintro σ' Hi ⟨v6,rfl,c,sti,ch,I,hr1,ro,_,_,lq2,ld2⟩;rw[ul,List.drop_length]at hr1;cases hr1;dsimp only;refine aN λGq gq=>?_
   obtain⟨dx1,aM1,aP1,aA1,aD1,aF1,aE1,aR1,ms1,ds1,ws1,fs1,es1,X1⟩:=ch.ex;have al:=I.DA;have lm:=I.lm;refine gq ?_;refine zT ?_;refine mtv rfl X1.ob (cZ (by trivial)) ⟨o,c,st,rfl,ch,by omega,λns4 u4 H4 pm4 so4 s4 at4=>?_⟩
   have e4:Step (λ_=>False) c (gf c Hi) Hi H4:=Step.cl id s4
   have ch4:=ch.free (λ_=>id) e4
   replace lq2:=LV.step e4 _ lq2
   replace ld2:=LV.step e4 _ ld2
   generalize gf c Hi=c4 at ch4 lq2 ld2 at4;refine aN λGq gq=>?_
   clear e4 s4 X1 ch;obtain⟨dx1,aM1,aP1,aA1,aD1,aF1,aE1,aR1,ms1,ds1,ws1,fs1,es1,X1⟩:=ch4.ex;refine gq ?_;dsimp only[iy];refine zT ?_;refine mtv rfl X1.ob (cZ (by trivial)) ⟨o,c4,st,rfl,ch4,λlr hlr=>?_⟩
   have e5:Step (λ_=>False) c4 (bg c4 lr none) H4 (upd H4 lr (.lst (st.rows.map V.str))):=Step.new id hlr
   have ch5:=ch4.free (λ_=>id) e5
   replace lq2:=LV.step e5 _ lq2
   replace ld2:=LV.step e5 _ ld2
   have at5:=at4.step e5;have hr5:bg c4 lr none lr=none/\(upd H4 lr (.lst (st.rows.map V.str))) lr=some (.lst (st.rows.map V.str)):=⟨cz,ah⟩;generalize bg c4 lr none=c5 at ch5 lq2 ld2 at5 hr5;generalize upd H4 lr (.lst (st.rows.map V.str))=H5 at ch5 lq2 ld2 at5 hr5 ⊢;clear e5 X1 ch4 at4 hlr;dsimp only[iy];refine zT ?_;refine OP ?_;dsimp only;refine sgX (σ':=[some (.ref a),some (.ref lL),some (.ref lA),some v1,some v2,some (.ref o),v6,some (.ref u4),some (.ref lr),some .non,none]) rfl ?_;refine ML ?_;have hgq:=good.q;have al:=I.DA;have lm:=I.lm;have IN:3 * us.length<=800:=by omega
   generalize x.2.1=xq at hgq CD lq2;generalize x.2.2=xe at CD ld2;refine aN λGq gq=>?_
   have xok:=Sx I IN hgq CD;obtain⟨t1,rfl⟩:=MM lq2;refine gq ?_;refine JN (λE1=>∀(c':Col) (H':Hp) (C:Value) (e:Option Addr),Step (iO 1) c5 c' H5 H'->fP A 1 c' H' o st->xe.At A H' C e->(∀a,e=some a->c' a=none)->E1 [some (.ref a),some (.ref lL),some (.ref lA),some (.ref t1),some v2,some (.ref o),v6,some (.ref u4),some (.ref lr),some .non,none] C e H') ?hE (λE1 hE=>?bd)
   case bd =>
    refine⟨_,rfl,_,rfl,o,t1,c5,st,3 * us.length,xq,rfl,ch5,I,IN,hgq,lq2,?_⟩;have Sy:GL st xq=some .bj->xe=.bj:=λz=>by rw[z]at CD;exact(adq CD).symm
    have num:xe=.bj->E1 [some (.ref a),some (.ref lL),some (.ref lA),some (.ref t1),some v2,some (.ref o),v6,some (.ref u4),some (.ref lr),some .non,none] (.ref A.aS) none H5:=λz =>
     hE c5 H5 _ none (Step.refl bR) ch5 (by rw[z];exact⟨rfl,rfl⟩) λ_ z=>nomatch z
    cases xq with
    |d xx =>
     have hx:(dZ st xx).1=.exc xe:=by
      have h':(match (dZ st xx).1 with
       | .exc e=>some e
       |_=>none)=some xe:=CD
      cases hz:(dZ st xx).1 with
      |num n=>rw[hz]at h';cases h'
      |txt z=>rw[hz]at h';cases h'
      |exc e=>rw[hz]at h';cases h';rfl
     have e2:=JP hgq hx;show wU A 1 c5 H5 o (dZ st xx) _ _;rw[show dZ st xx=(.exc xe,st) from Prod.ext hx e2]
     exactλc' H' C e s' ch' at' he=>hE c' H' C e s' ch' at' he
    |nY n =>
     have hn:GL st (.nY n)=some .bj:=by
      have h':(if 1<=n/\n<=st.made.length then none else some Xc.bj)=some xe:=CD
      show (if 1<=n/\n<=st.made.length then none else some Xc.bj)=_
      split at h'
      ·cases h'
      ·rename_i z;rw[if_neg z]
     exact⟨hn,num (Sy hn)⟩
    |kept n =>
     have hn:GL st (.kept n)=some .bj:=by
      have h':(if n∈st.kX.map (λk:Nat=>(k:Int)) then none else some Xc.bj)=some xe:=CD
      show (if n∈st.kX.map (λk:Nat=>(k:Int)) then none else some Xc.bj)=_
      split at h'
      ·cases h'
      ·rename_i z;rw[if_neg z]
     exact⟨hn,num (Sy hn)⟩
    |first n =>
     have hn:GL st (.first n)=some .bj:=by
      have h':(if n∈st.kX.map (λk:Nat=>(k:Int)) then none else some Xc.bj)=some xe:=CD
      show (if n∈st.kX.map (λk:Nat=>(k:Int)) then none else some Xc.bj)=_
      split at h'
      ·cases h'
      ·rename_i z;rw[if_neg z]
     exact⟨hn,num (Sy hn)⟩
   case hE =>
    intro c6 H6 C e s6 ch6 hat he;refine⟨true,Xc.mat T hat,nO (λea hea=>⟨_,rfl,?_⟩)⟩
    have sx:=aK (o:=xo ea C e) hea;have cg:DK A (upd H6 ea (xo ea C e)) xe (.ref ea):=⟨ea,C,e,rfl,ah,Xc.At.Sv sx hat⟩;have e7:Step (λ_=>False) c6 (bg c6 ea none) H6 (upd H6 ea (xo ea C e)):=Step.new id hea
    have ch7:=ch6.free (λ_=>id) e7
    have ld7:=LV.step e7 _ (LV.step s6 _ ld2);have at7:=(at5.step s6).step e7;have hr7:=jE e7 (jE s6 hr5.1 hr5.2).1 (jE s6 hr5.1 hr5.2).2;generalize bg c6 ea none=c7 at ch7 ld7 at7 hr7;generalize upd H6 ea (xo ea C e)=H7 at cg ch7 ld7 at7 hr7 ⊢;refine aN λGq gq=>?_
    clear e7 sx hea hat he s6 ch6 at5 hr5 ld2 lq2 ch5;obtain⟨xt,xv,_⟩:=Sw T xe;refine gq ?_;dsimp only[iy,F7];refine sgX (σ':=[some (.ref a),some (.ref lL),some (.ref lA),some (.ref t1),some v2,some (.ref o),v6,some (.ref u4),some (.ref lr),some (.ref ea),none]) rfl ?_;refine zT ?_;refine⟨_,rfl,rfl,tsf (decide_eq_false λz=>V.noConfusion z) ?_⟩
    refine⟨_,rfl,.ref ea,.ty "ValueError",(_),true,rfl,rfl,cg.xat,xt,xv,?_⟩;refine⟨true,rfl,kK ?_⟩;have dl:=OR xe;refine⟨_,rfl,xe,.ref ea,rfl,cg,xok,λr8 H8 s8 dv8=>?_⟩
    refine⟨_,rfl,rJ xe,rJ xe,dv8,DV.same s8 _ (LV.dv _ ld7),vW dl.1 dl.2,vW dl.1 dl.2,_,rfl,Q4 (eqv_refl _ dl.1) ?_⟩;refine⟨_,rfl,xe,.ref ea,rfl,cg.same s8,λH9 s9=>⟨rfl,tsf (by decide) ?_⟩⟩
    have s79:=s8.trans s9;have e9:Step (λ_=>False) c7 (gf c7 H7) H7 H9:=Step.cl id s79
    have ch9:=ch7.free (λ_=>id) e9
    have at9:=at7.step e9;have hr9:=jE e9 hr7.1 hr7.2;generalize gf c7 H7=c9 at ch9 at9 hr9;refine aN λGq gq=>?_
    clear e9 s79 s8 s9 ch7 at7 hr7 ld7 cg dv8;obtain⟨dx1,aM1,aP1,aA1,aD1,aF1,aE1,aR1,ms1,ds1,ws1,fs1,es1,X1⟩:=ch9.ex;refine gq ?_;refine mtv rfl X1.ob (cZ (by trivial)) ⟨o,c9,st,rfl,ch9,by omega,λns5 u5 H10 pm5 so5 s10 abA=>?_⟩
    refine aN λGq gq=>?_
    have en:ns5=ns4:=wX (pm5.trans pm4.symm) so5 so4;obtain⟨l1,_,l2,ys,ds,S5⟩:=abA;obtain⟨m1,_,m2,zs,es,S4⟩:=at9;rw[en]at S5;have sh:=vW (ME I ns4) (Sm st ns4);refine gq ?_;refine⟨_,rfl,stD st ns4,stD st ns4,S5.dv,DV.same s10 _ S4.dv,sh,sh,?_⟩;rw[eqv_refl _ (ME I ns4)];have X2:=X1.same s10;refine⟨true,rfl,nO (mtv rfl X2.ob (cZ (by trivial)) ⟨o,c9,st,rfl,X2.at,λl hl=>⟨_,rfl,_,_,BD (SqL.of ah),BD (SqL.of ((aK hl) _ _ (s10 _ _ hr9.2))),wD ro,wD ro,?_⟩⟩)⟩
    rw[Lc];exact q _
theorem Sz {f:Addr}{fd:kb}(F:Fun K "law" "law" sV f fd)(T:Txt w.params K mg A):a8 P w K mg base CX0 20 f fd ["_law_script"] (DL K):=(OS F T).calm λ_ _ _ _ h=>h
end
set_option maxHeartbeats 0 in
theorem all_mk {l:PySem.W.OpenLaw}{w:World}{K:cb}{h:Heap}{mg:Str->Option Value}{P:Params}{fa f_1 f_2 f_3 f_4 f_5 f_6 f_7 f_8 f_9 OT OU OV OW OX OY OZ O0 O1 O2 O3 O4 O5 O6 SA c0 c1 c2 c3 c4 c5 c6 c7 cm tb DM DN DO DP DQ DR DS DT xr zU DU GQ DW DX DY DZ D0 D1 D2 D3 D4 D5 aW du dz dA dB dC cX cL bU cc cE cF cf a7 bF bK cM bV cn bP bQ cq aJ ck bH aX aY aQ bu bw bx bI aZ iJ gh mS jF mT:Addr}(X:K.In h)(G:h.Ns gr mg)(hfa:mg "law"=some (.ref fa))(hP:w.params=P)
  {abB abC abD abE abF abG abH abI abJ abK abL abM abN abO abP abQ abR abS Xv Xw Xx Xy Xz XA XB XC XD XE XF XG XH XI XJ XM XN XO XQ XR XS XT XU XW XX XY XZ X0 X9 PD SD SE SG SH SI SJ SK SM SN SO SQ SR SS SU SV SW Ya Yb Yc Yd SX SY Ye Yf S0 S1 S2 S3 S6 S7 S8 S9 Ta Tb Tc Td Te Tf Tg Th Ti Tj Tn To xu xw xy xA xB xD xE xF xG xH vY vZ uZ u3 pd pe qv qw tW tX tY tZ qy qz j5 j6 mU mV ng nh u6 u7 pf ph rL rM nZ n5 n6 n8 rN rO D6 D7 Av Aw D8 D9:Option Addr} {abT abU abV abW abX abY abZ ab0 ab1 Yg Yh Yi Yj Yk Yl Ym Yn Yo Yp Yq Yr Ys Yt Yu Tp Tq Tr Ts Tt Tu Tv Tw Yv Yw Tx Yx Tz TB TC TF TH TK TL TM TN TQ xI xJ xK xM xN wb u9 pj qA t4 t5 qB j7 mW ni va pq rP n9 oa rQ Ea Ax Eb:Array (Option Value)} {ab2 ab3 ab4 ab5 Yy ab6 ab7 ab8 ab9 aca Yz acb acd ace acf acg YA ach aci acj ack acn YB aco acp acq acr acs YC acu acv acw acx acy YD acz acA acB acC acD YE acE acF acG acH acI YF acJ acK acL acM acN YG acO YH YI YJ YK PF YL YM YN YO YQ PH YR YS YT YU YV PK YW YX YY YZ Y0 PL Y1 Y2 Y3 Y4 Y5 PM Y6 Y7 Y8 Y9 Za PN Zb Zc Zd Ze Zf PQ Zg Zh Zi Zj Zk PR Zl Zm Zn Zo Zp PU Zq Zr Zs Zt Zu PV Zv Zw Zx Zy Zz PX ZA ZC ZD ZE ZF PY ZG ZH ZI ZJ ZK PZ ZL ZM ZN ZO ZP P0 ZQ ZR P1 P2 P4 MN P5 TR TU TV TX MO TY TZ T2 T3 T4 MP T5 T6 T7 T8 T9 MQ Ua Ub Uc Ud Ue MR Ug Uh Ui Uj Uk MS Ul Um Uo Up Uq MT Ur Us Ut Uu Uv MU Uw Ux Uy Uz UA MV UB ZS ZT ZU ZV P6 ZW ZX ZY ZZ Z0 P7 Z1 UC UD UE UG MW UH Z2 Z3 Z4 Z5 P8 Z6 UI UJ UK UL MX UM UN UO UP UQ MY UR US UT UU UW MZ UX UY UZ U0 U4 M0 U5 U6 U7 U8 U9 M3 Va Vb Vc Vd Ve M4 Vf Vg Vh Vi Vj M5 Vk Vl Vm Vn Vo M6 Vp Vq Vr Vs Vt M7 Vu Vv Vw Vx Vy M8 Vz xO xP xQ xR qk xS xT xU xV xW ql xX xY xZ x4 x5 qm x6 x8 x9 ya yb qo yc yd ye yf yg qp yh wc we wg wj pw wk vb vc vd ve nL vf pz pA pB pD jb pE qC qD qE qF jJ qG t6 t7 t8 t9 mX ua ub uc ud ue mY uf qH qI qJ qK jK qL j8 j9 kh kz fS kA mZ m3 m5 m6 hJ m7 nj nk nq nr ip nv vg vh vi vj nM vk pF pG pH pI jc pJ rR rS rT rV kZ rW oe og oh oi iG oj oo oq ot ou iH oy rX rY rZ r6 k9 r9 Ec Ee Ef Eg wZ Eh Ay Az AA AB tq AD Ei Ej Ek El w4 Em:Value} {kG tr0 tr1 tr2 tr3 tr4 tr5 tr6 tr7:Tok} {est:Array aea} {nt:Nat} {CF:Addr} {M9:Value} {Na:Option Addr} {En:Array aea} {Nb:Nat} {Nc:Array (Option Value)} {m8:Addr} {yi:Value} {yj:Option Addr} {qq:Array aea} {yk:Nat} {yl:Array (Option Value)} {ug:Addr} {Eo:Value} {Ep:Option Addr} {w5:Array aea} {Er:Nat} {Es:Array (Option Value)} {uh:Addr} {Et:Value} {Eu:Option Addr} {w6:Array aea} {Ew:Nat} {Ex:Array (Option Value)} {wm:Addr} {GR:Value} {GS:Option Addr} {zV:Array aea} {GU:Nat} {GV:Array (Option Value)} {wo:Addr} {GW:Value} {GX:Option Addr} {zW:Array aea} {GY:Nat} {GZ:Array (Option Value)} {wq:Addr} {G0:Value} {G1:Option Addr} {zX:Array aea} {G2:Nat} {G3:Array (Option Value)} {ui:Addr} {Ey:Value} {Ez:Option Addr} {w8:Array aea} {EA:Nat} {EB:Array (Option Value)} {zY:Addr} {JQ:Value} {JR:Option Addr} {Bo:Array aea} {JS:Nat} {JT:Array (Option Value)} {uj:Addr} {EC:Value} {ED:Option Addr} {w9:Array aea} {EE:Nat} {EF:Array (Option Value)} {zZ:Addr} {JU:Value} {JV:Option Addr} {Bp:Array aea} {JW:Nat} {JX:Array (Option Value)} {Nd O7:Str} {Nf:List Value} {Ng:List Str} {Nh:List Value} {Ni:Bool} {Nj:Option Bool} {Nk:Option Addr} {Nl Nm Nn Np Nq:Option Value} {Nr:Bool}{Nt:aeG} {EG G4:Str} {EH:List Value} {EI:List Str} {EJ:List Value} {EK:Bool} {EL:Option Bool} {EM:Option Addr} {EN EO ER ES ET:Option Value} {EU:Bool}{EV:aeG} {EW G5:Str} {EX:List Value} {EY:List Str} {EZ:List Value} {E2:Bool} {E3:Option Bool} {E4:Option Addr} {E5 E6 E7 E8 E9:Option Value} {Fb:Bool}{Fc:aeG} {G6 JY:Str} {G7:List Value} {G8:List Str} {G9:List Value} {Ha:Bool} {Hb:Option Bool} {Hc:Option Addr} {Hd He Hf Hg Hh:Option Value} {Hj:Bool}{Hk:aeG} {Hl JZ:Str} {Hm:List Value} {Hn:List Str} {Ho:List Value} {Hq:Bool} {Hr:Option Bool} {Hs:Option Addr} {Ht Hu Hv Hw Hx:Option Value} {Hy:Bool}{Hz:aeG} {HA J0:Str} {HB:List Value} {HC:List Str} {HD:List Value} {HE:Bool} {HF:Option Bool} {HG:Option Addr} {HI HJ HK HL HM:Option Value} {HN:Bool}{HP:aeG} {Fd HQ:Str} {Fe:List Value} {Ff:List Str} {Fg:List Value} {Fh:Bool} {Fi:Option Bool} {Fj:Option Addr} {Fl Fm Fn Fo Fp:Option Value} {Fq:Bool}{Fs:aeG} {J1 Nu:Str} {J2:List Value} {J3:List Str} {J4:List Value} {J5:Bool} {J6:Option Bool} {J7:Option Addr} {J8 J9 Ka Kb Kc:Option Value} {Kd:aeG} {Ft HR:Str} {Fu:List Value} {Fv:List Str} {Fw:List Value} {Fx:Bool} {Fy:Option Bool} {Fz:Option Addr} {FA FC FD FE FF:Option Value} {FG:aeG} {Ke Nv:Str} {Kf:List Value} {Kg:List Str} {Kh:List Value} {Ki:Bool} {Kj:Option Bool} {Kk:Option Addr} {Kl Km Kn Ko Kp:Option Value} {Kq:aeG} {Aa:Value} {ym:Option Addr} {qr:aeG} {yn:Array (Option Value)}
  (a_1:fe K gr "fits"=some (some (.ref f_1)))
  (l_1:K.lookup f_1=some ⟨ab2,abB,.func (fu "fits" "fits" (aB vC) (ay vC) (ag vC) .none ab3 ab4 ab5 abC Yy ab6),abT⟩)
  (cc_1:eg K Yy "fits"=true)
  (kp_1:de K (.ref f_1)=true)
  (a_2:fe K gr "require_fit"=some (some (.ref f_2)))
  (l_2:K.lookup f_2=some ⟨ab7,abD,.func (fu "require_fit" "require_fit" (aB gG) (ay gG) (ag gG) .none ab8 ab9 aca abE Yz acb),abU⟩)
  (cc_2:eg K Yz "require_fit"=true)
  (kp_2:de K (.ref f_2)=true)
  (a_3:fe K gr "laid"=some (some (.ref f_3)))
  (l_3:K.lookup f_3=some ⟨acd,abF,.func (fu "laid" "laid" (aB vD) (ay vD) (ag vD) .none ace acf acg abG YA ach),abV⟩)
  (cc_3:eg K YA "laid"=true)
  (kp_3:de K (.ref f_3)=true)
  (a_4:fe K gr "words_of"=some (some (.ref f_4)))
  (l_4:K.lookup f_4=some ⟨aci,abH,.func (fu "words_of" "words_of" (aB jP) (ay jP) (ag jP) .none acj ack acn abI YB aco),abW⟩)
  (cc_4:eg K YB "words_of"=true)
  (kp_4:de K (.ref f_4)=true)
  (a_5:fe K gr "clause_of"=some (some (.ref f_5)))
  (l_5:K.lookup f_5=some ⟨acp,abJ,.func (fu "clause_of" "clause_of" (aB iY) (ay iY) (ag iY) .none acq acr acs abK YC acu),abX⟩)
  (cc_5:eg K YC "clause_of"=true)
  (kp_5:de K (.ref f_5)=true)
  (a_6:fe K gr "motion_of"=some (some (.ref f_6)))
  (l_6:K.lookup f_6=some ⟨acv,abL,.func (fu "motion_of" "motion_of" (aB iZ) (ay iZ) (ag iZ) .none acw acx acy abM YD acz),abY⟩)
  (cc_6:eg K YD "motion_of"=true)
  (kp_6:de K (.ref f_6)=true)
  (a_7:fe K gr "bar_of"=some (some (.ref f_7)))
  (l_7:K.lookup f_7=some ⟨acA,abN,.func (fu "bar_of" "bar_of" (aB oM) (ay oM) (ag oM) .none acB acC acD abO YE acE),abZ⟩)
  (cc_7:eg K YE "bar_of"=true)
  (kp_7:de K (.ref f_7)=true)
  (a_8:fe K gr "has_matter"=some (some (.ref f_8)))
  (l_8:K.lookup f_8=some ⟨acF,abP,.func (fu "has_matter" "has_matter" (aB fV) (ay fV) (ag fV) .none acG acH acI abQ YF acJ),ab0⟩)
  (cc_8:eg K YF "has_matter"=true)
  (kp_8:de K (.ref f_8)=true)
  (a_9:fe K gr "can_be_mended"=some (some (.ref f_9)))
  (l_9:K.lookup f_9=some ⟨acK,abR,.func (fu "can_be_mended" "can_be_mended" (aB eN) (ay eN) (ag eN) .none acL acM acN abS YG acO),ab1⟩)
  (cc_9:eg K YG "can_be_mended"=true)
  (kp_9:de K (.ref f_9)=true)
  (a_10:fe K gr "has_what_it_needs"=some (some (.ref OT)))
  (l_10:K.lookup OT=some ⟨YH,Xv,.func (fu "has_what_it_needs" "has_what_it_needs" (aB dJ) (ay dJ) (ag dJ) .none YI YJ YK Xw PF YL),Yg⟩)
  (jq8a:eg K PF "has_what_it_needs"=true)
  (jq8b:de K (.ref OT)=true)
  (a_11:fe K gr "require_in_order"=some (some (.ref OU)))
  (l_11:K.lookup OU=some ⟨YM,Xx,.func (fu "require_in_order" "require_in_order" (aB dO) (ay dO) (ag dO) .none YN YO YQ Xy PH YR),Yh⟩)
  (jq8c:eg K PH "require_in_order"=true)
  (jq8d:de K (.ref OU)=true)
  (a_12:fe K gr "words_of_text"=some (some (.ref OV)))
  (l_12:K.lookup OV=some ⟨YS,Xz,.func (fu "words_of_text" "words_of_text" (aB eO) (ay eO) (ag eO) .none YT YU YV XA PK YW),Yi⟩)
  (jq8e:eg K PK "words_of_text"=true)
  (jq8f:de K (.ref OV)=true)
  (a_13:fe K gr "words_of_edit"=some (some (.ref OW)))
  (l_13:K.lookup OW=some ⟨YX,XB,.func (fu "words_of_edit" "words_of_edit" (aB eP) (ay eP) (ag eP) .none YY YZ Y0 XC PL Y1),Yj⟩)
  (jq8g:eg K PL "words_of_edit"=true)
  (jq8h:de K (.ref OW)=true)
  (a_14:fe K gr "words_behind"=some (some (.ref OX)))
  (l_14:K.lookup OX=some ⟨Y2,XD,.func (fu "words_behind" "words_behind" (aB eD) (ay eD) (ag eD) .none Y3 Y4 Y5 XE PM Y6),Yk⟩)
  (jq8i:eg K PM "words_behind"=true)
  (jq8j:de K (.ref OX)=true)
  (a_15:fe K gr "show_deed"=some (some (.ref OY)))
  (l_15:K.lookup OY=some ⟨Y7,XF,.func (fu "show_deed" "show_deed" (aB i3) (ay i3) (ag i3) .none Y8 Y9 Za XG PN Zb),Yl⟩)
  (jq8k:eg K PN "show_deed"=true)
  (jq8l:de K (.ref OY)=true)
  (a_16:fe K gr "is_kept"=some (some (.ref OZ)))
  (l_16:K.lookup OZ=some ⟨Zc,XH,.func (fu "is_kept" "is_kept" (aB mf) (ay mf) (ag mf) .none Zd Ze Zf XI PQ Zg),Ym⟩)
  (jq8m:eg K PQ "is_kept"=true)
  (jq8n:de K (.ref OZ)=true)
  (a_17:fe K gr "_law_cell_at"=some (some (.ref O0)))
  (l_17:K.lookup O0=some ⟨Zh,XJ,.func (fu "_law_cell_at" "_law_cell_at" (aB i4) (ay i4) (ag i4) .none Zi Zj Zk XM PR Zl),Yn⟩)
  (jq8o:eg K PR "_law_cell_at"=true)
  (jq8p:de K (.ref O0)=true)
  (a_18:fe K gr "_law_word"=some (some (.ref O1)))
  (l_18:K.lookup O1=some ⟨Zm,XN,.func (fu "_law_word" "_law_word" (aB oR) (ay oR) (ag oR) .none Zn Zo Zp XO PU Zq),Yo⟩)
  (jq8q:eg K PU "_law_word"=true)
  (jq8r:de K (.ref O1)=true)
  (a_19:fe K gr "_law_clause"=some (some (.ref O2)))
  (l_19:K.lookup O2=some ⟨Zr,XQ,.func (fu "_law_clause" "_law_clause" (aB jR) (ay jR) (ag jR) .none Zs Zt Zu XR PV Zv),Yp⟩)
  (jq8s:eg K PV "_law_clause"=true)
  (jq8t:de K (.ref O2)=true)
  (a_20:fe K gr "_law_do"=some (some (.ref O3)))
  (l_20:K.lookup O3=some ⟨Zw,XS,.func (fu "_law_do" "_law_do" (aB vE) (ay vE) (ag vE) .none Zx Zy Zz XT PX ZA),Yq⟩)
  (jq8u:eg K PX "_law_do"=true)
  (jq8v:de K (.ref O3)=true)
  (a_21:fe K gr "_law_cases"=some (some (.ref O4)))
  (l_21:K.lookup O4=some ⟨ZC,XU,.func (fu "_law_cases" "_law_cases" (aB jS) (ay jS) (ag jS) .none ZD ZE ZF XW PY ZG),Yr⟩)
  (jq8w:eg K PY "_law_cases"=true)
  (jq8x:de K (.ref O4)=true)
  (a_22:fe K gr "_law_told"=some (some (.ref O5)))
  (l_22:K.lookup O5=some ⟨ZH,XX,.func (fu "_law_told" "_law_told" (aB oU) (ay oU) (ag oU) .none ZI ZJ ZK XY PZ ZL),Ys⟩)
  (jq8y:eg K PZ "_law_told"=true)
  (jq8z:de K (.ref O5)=true)
  (a_23:fe K gr "_law_many"=some (some (.ref O6)))
  (l_23:K.lookup O6=some ⟨ZM,XZ,.func (fu "_law_many" "_law_many" (aB mr) (ay mr) (ag mr) .none ZN ZO ZP X0 P0 ZQ),Yt⟩)
  (jq8A:eg K P0 "_law_many"=true)
  (jq8B:de K (.ref O6)=true)
  (a_24:fe K gr "law"=some (some (.ref SA)))
  (l_24:K.lookup SA=some ⟨ZR,X9,.func (fu "law" "law" (aB sV) (ay sV) (ag sV) .none P1 P2 P4 PD MN P5),Yu⟩)
  (jq8C:eg K MN "law"=true)
  (jq8D:de K (.ref SA)=true)
  (z1:fe K gr "range"=some none)
  (z2:fe K gr "list"=some none)
  (z3:fe K gr "isinstance"=some none)
  (z4:fe K gr "len"=some none)
  (z5:fe K gr "max"=some none)
  (z6:fe K gr "any"=some none)
  (z7:fe K gr "str"=some none)
  (z8:fe K gr "sorted"=some none)
  (z9:fe K gr "int"=some none)
  (z10:fe K gr "ValueError"=some none)
  (jq4k:fe K gr "CLOSED_BAR"=some (some (.int 4 kG)))
  (ac0:fe K gr "Matter"=some (some (.ref c0)))
  (ac1:fe K gr "Change"=some (some (.ref c1)))
  (ac2:fe K gr "Mend"=some (some (.ref c2)))
  (ac3:fe K gr "PutOff"=some (some (.ref c3)))
  (ac4:fe K gr "Close"=some (some (.ref c4)))
  (ac5:fe K gr "Lay"=some (some (.ref c5)))
  (ac6:fe K gr "Rest"=some (some (.ref c6)))
  (ac7:fe K gr "Point"=some (some (.ref c7)))
  (acm:fe K gr "Motion"=some (some (.ref cm)))
  (atb:fe K gr "RANKS"=some (some (.ref tb)))
  (ltb:K.lookup tb=some ⟨.type "dict",none,.dict est nt,#[]⟩)
  (ktb:PySem.W.KeysLit P est.toList)
  (rk0:fe K tb (ar "matter")=some (some (.int 0 tr0)))
  (rk1:fe K tb (ar "change")=some (some (.int 1 tr1)))
  (rk2:fe K tb (ar "mend")=some (some (.int 2 tr2)))
  (rk3:fe K tb (ar "put off")=some (some (.int 3 tr3)))
  (rk4:fe K tb (ar "close")=some (some (.int 4 tr4)))
  (rk5:fe K tb (ar "lay")=some (some (.int 5 tr5)))
  (rk6:fe K tb (ar "rest")=some (some (.int 6 tr6)))
  (rk7:fe K tb (ar "point")=some (some (.int 7 tr7)))
  (pg0:adJ K c0 adE=true)
  (hd0:adA K c0=true)
  (po0:adQ K c0=true)
  (sa0:bo K (.ref c0) "__setattr__"=some (some (.builtin "object.__setattr__")))
  (mk0:adU K c0=true)
  (kc0:de K (.ref c0)=true)
  (pg1:adJ K c1 adE=true)
  (hd1:adA K c1=true)
  (po1:adQ K c1=true)
  (sa1:bo K (.ref c1) "__setattr__"=some (some (.builtin "object.__setattr__")))
  (mk1:adU K c1=true)
  (kc1:de K (.ref c1)=true)
  (pg2:adJ K c2 adE=true)
  (hd2:adA K c2=true)
  (po2:adQ K c2=true)
  (sa2:bo K (.ref c2) "__setattr__"=some (some (.builtin "object.__setattr__")))
  (mk2:adU K c2=true)
  (kc2:de K (.ref c2)=true)
  (pg3:adJ K c3 adE=true)
  (hd3:adA K c3=true)
  (po3:adQ K c3=true)
  (sa3:bo K (.ref c3) "__setattr__"=some (some (.builtin "object.__setattr__")))
  (mk3:adU K c3=true)
  (kc3:de K (.ref c3)=true)
  (pg4:adJ K c4 adE=true)
  (hd4:adA K c4=true)
  (po4:adQ K c4=true)
  (sa4:bo K (.ref c4) "__setattr__"=some (some (.builtin "object.__setattr__")))
  (mk4:adU K c4=true)
  (kc4:de K (.ref c4)=true)
  (pg5:adJ K c5 adE=true)
  (hd5:adA K c5=true)
  (po5:adQ K c5=true)
  (sa5:bo K (.ref c5) "__setattr__"=some (some (.builtin "object.__setattr__")))
  (mk5:adU K c5=true)
  (kc5:de K (.ref c5)=true)
  (pg6:adJ K c6 adE=true)
  (hd6:adA K c6=true)
  (po6:adQ K c6=true)
  (sa6:bo K (.ref c6) "__setattr__"=some (some (.builtin "object.__setattr__")))
  (mk6:adU K c6=true)
  (kc6:de K (.ref c6)=true)
  (pg7:adJ K c7 adE=true)
  (hd7:adA K c7=true)
  (po7:adQ K c7=true)
  (sa7:bo K (.ref c7) "__setattr__"=some (some (.builtin "object.__setattr__")))
  (mk7:adU K c7=true)
  (kc7:de K (.ref c7)=true)
  (jq6D:bo K (.ref c0) "kind"=some (some (.ref DM)))
  (jq8E:K.lookup DM=some ⟨TR,SD,.func (fu "kind" "Matter.kind" (aB gk) (ay gk) (ag gk) .none TU TV TX SE MO TY),Tp⟩)
  (jq7b:eg K MO "Matter.kind"=true)
  (jq6E:de K (.ref DM)=true)
  (jq7c:ko K (.ref DM)=true)
  (jq6F:bo K (.ref c1) "kind"=some (some (.ref DN)))
  (jq8F:K.lookup DN=some ⟨TZ,SG,.func (fu "kind" "Change.kind" (aB gm) (ay gm) (ag gm) .none T2 T3 T4 SH MP T5),Tq⟩)
  (jq7d:eg K MP "Change.kind"=true)
  (jq6G:de K (.ref DN)=true)
  (jq7e:ko K (.ref DN)=true)
  (jq6H:bo K (.ref c2) "kind"=some (some (.ref DO)))
  (jq8G:K.lookup DO=some ⟨T6,SI,.func (fu "kind" "Mend.kind" (aB iU) (ay iU) (ag iU) .none T7 T8 T9 SJ MQ Ua),Tr⟩)
  (jq7f:eg K MQ "Mend.kind"=true)
  (jq6I:de K (.ref DO)=true)
  (jq7g:ko K (.ref DO)=true)
  (jq6J:bo K (.ref c3) "kind"=some (some (.ref DP)))
  (jq8H:K.lookup DP=some ⟨Ub,SK,.func (fu "kind" "PutOff.kind" (aB gs) (ay gs) (ag gs) .none Uc Ud Ue SM MR Ug),Ts⟩)
  (jq7h:eg K MR "PutOff.kind"=true)
  (jq6K:de K (.ref DP)=true)
  (jq7i:ko K (.ref DP)=true)
  (jq6L:bo K (.ref c4) "kind"=some (some (.ref DQ)))
  (jq8I:K.lookup DQ=some ⟨Uh,SN,.func (fu "kind" "Close.kind" (aB hV) (ay hV) (ag hV) .none Ui Uj Uk SO MS Ul),Tt⟩)
  (jq7j:eg K MS "Close.kind"=true)
  (jq6M:de K (.ref DQ)=true)
  (jq7k:ko K (.ref DQ)=true)
  (jq6N:bo K (.ref c5) "kind"=some (some (.ref DR)))
  (jq8J:K.lookup DR=some ⟨Um,SQ,.func (fu "kind" "Lay.kind" (aB jO) (ay jO) (ag jO) .none Uo Up Uq SR MT Ur),Tu⟩)
  (jq7l:eg K MT "Lay.kind"=true)
  (jq6O:de K (.ref DR)=true)
  (jq7m:ko K (.ref DR)=true)
  (jq6P:bo K (.ref c6) "kind"=some (some (.ref DS)))
  (jq8K:K.lookup DS=some ⟨Us,SS,.func (fu "kind" "Rest.kind" (aB iV) (ay iV) (ag iV) .none Ut Uu Uv SU MU Uw),Tv⟩)
  (jq7n:eg K MU "Rest.kind"=true)
  (jq6Q:de K (.ref DS)=true)
  (jq7o:ko K (.ref DS)=true)
  (jq6R:bo K (.ref c7) "kind"=some (some (.ref DT)))
  (jq8L:K.lookup DT=some ⟨Ux,SV,.func (fu "kind" "Point.kind" (aB hX) (ay hX) (ag hX) .none Uy Uz UA SW MV UB),Tw⟩)
  (jq7p:eg K MV "Point.kind"=true)
  (jq6S:de K (.ref DT)=true)
  (jq7q:ko K (.ref DT)=true)
  (jq7r:bo K (.ref c0) "rank"=some (some (.ref xr)))
  (jq7s:bo K (.ref c1) "rank"=some (some (.ref xr)))
  (jq7t:bo K (.ref c2) "rank"=some (some (.ref xr)))
  (jq7u:bo K (.ref c3) "rank"=some (some (.ref xr)))
  (jq7v:bo K (.ref c4) "rank"=some (some (.ref xr)))
  (jq7w:bo K (.ref c5) "rank"=some (some (.ref xr)))
  (jq7x:bo K (.ref c6) "rank"=some (some (.ref xr)))
  (jq7y:bo K (.ref c7) "rank"=some (some (.ref xr)))
  (l_mr:K.lookup xr=some ⟨ZS,Ya,.func (fu "rank" "Motion.rank" (aB gu) (ay gu) (ag gu) .none ZT ZU ZV Yb P6 ZW),Yv⟩)
  (jq8M:eg K P6 "Motion.rank"=true)
  (jq4t:de K (.ref xr)=true)
  (jq5m:ko K (.ref xr)=true)
  (jq7z:bo K (.ref c0) "need"=some (some (.ref zU)))
  (jq7A:bo K (.ref c1) "need"=some (some (.ref zU)))
  (jq7B:bo K (.ref c2) "need"=some (some (.ref zU)))
  (jq7C:bo K (.ref c3) "need"=some (some (.ref zU)))
  (jq7D:bo K (.ref c5) "need"=some (some (.ref zU)))
  (jq7E:bo K (.ref c6) "need"=some (some (.ref zU)))
  (jq7F:bo K (.ref c7) "need"=some (some (.ref zU)))
  (l_mn:K.lookup zU=some ⟨ZX,Yc,.func (fu "need" "Motion.need" (aB gv) (ay gv) (ag gv) .none ZY ZZ Z0 Yd P7 Z1),Yw⟩)
  (jq8N:eg K P7 "Motion.need"=true)
  (jq5n:de K (.ref zU)=true)
  (jq61:ko K (.ref zU)=true)
  (jq6T:bo K (.ref c4) "need"=some (some (.ref DU)))
  (jq8O:K.lookup DU=some ⟨UC,SX,.func (fu "need" "Close.need" (aB hZ) (ay hZ) (ag hZ) .none UD UE UG SY MW UH),Tx⟩)
  (jq7G:eg K MW "Close.need"=true)
  (jq6U:de K (.ref DU)=true)
  (jq7H:ko K (.ref DU)=true)
  (jq7I:bo K (.ref c4) "told"=some (some (.ref GQ)))
  (jq7J:bo K (.ref c5) "told"=some (some (.ref GQ)))
  (jq7K:bo K (.ref c6) "told"=some (some (.ref GQ)))
  (l_mt:K.lookup GQ=some ⟨Z2,Ye,.func (fu "told" "Motion.told" (aB gw) (ay gw) (ag gw) .none Z3 Z4 Z5 Yf P8 Z6),Yx⟩)
  (jq8P:eg K P8 "Motion.told"=true)
  (jq6C:de K (.ref GQ)=true)
  (jq7a:ko K (.ref GQ)=true)
  (jq6V:bo K (.ref c0) "told"=some (some (.ref DW)))
  (jq8Q:K.lookup DW=some ⟨UI,S0,.func (fu "told" "Matter.told" (aB gx) (ay gx) (ag gx) .none UJ UK UL S1 MX UM),Tz⟩)
  (jq7L:eg K MX "Matter.told"=true)
  (jq6W:de K (.ref DW)=true)
  (jq7M:ko K (.ref DW)=true)
  (jq6X:bo K (.ref c1) "told"=some (some (.ref DX)))
  (jq8R:K.lookup DX=some ⟨UN,S2,.func (fu "told" "Change.told" (aB gy) (ay gy) (ag gy) .none UO UP UQ S3 MY UR),TB⟩)
  (jq7N:eg K MY "Change.told"=true)
  (jq6Y:de K (.ref DX)=true)
  (jq7O:ko K (.ref DX)=true)
  (jq6Z:bo K (.ref c2) "told"=some (some (.ref DY)))
  (jq8S:K.lookup DY=some ⟨US,S6,.func (fu "told" "Mend.told" (aB iW) (ay iW) (ag iW) .none UT UU UW S7 MZ UX),TC⟩)
  (jq7P:eg K MZ "Mend.told"=true)
  (jq70:de K (.ref DY)=true)
  (jq7Q:ko K (.ref DY)=true)
  (jq71:bo K (.ref c3) "told"=some (some (.ref DZ)))
  (jq8T:K.lookup DZ=some ⟨UY,S8,.func (fu "told" "PutOff.told" (aB gz) (ay gz) (ag gz) .none UZ U0 U4 S9 M0 U5),TF⟩)
  (jq7R:eg K M0 "PutOff.told"=true)
  (jq72:de K (.ref DZ)=true)
  (jq7S:ko K (.ref DZ)=true)
  (jq73:bo K (.ref c7) "told"=some (some (.ref D0)))
  (jq8U:K.lookup D0=some ⟨U6,Ta,.func (fu "told" "Point.told" (aB ia) (ay ia) (ag ia) .none U7 U8 U9 Tb M3 Va),TH⟩)
  (jq7T:eg K M3 "Point.told"=true)
  (jq74:de K (.ref D0)=true)
  (jq7U:ko K (.ref D0)=true)
  (jq75:bo K (.ref c0) "__init__"=some (some (.ref D1)))
  (jq8V:K.lookup D1=some ⟨Vb,Tc,.func (fu "__init__" "Matter.__init__" (aB gA) (ay gA) (ag gA) .none Vc Vd Ve Td M4 Vf),TK⟩)
  (jq7V:eg K M4 "Matter.__init__"=true)
  (jq7W:de K (.ref D1)=true)
  (jq7X:ko K (.ref D1)=true)
  (jq76:bo K (.ref c1) "__init__"=some (some (.ref D2)))
  (jq8W:K.lookup D2=some ⟨Vg,Te,.func (fu "__init__" "Change.__init__" (aB gB) (ay gB) (ag gB) .none Vh Vi Vj Tf M5 Vk),TL⟩)
  (jq7Y:eg K M5 "Change.__init__"=true)
  (jq7Z:de K (.ref D2)=true)
  (jq80:ko K (.ref D2)=true)
  (jq77:bo K (.ref c2) "__init__"=some (some (.ref D3)))
  (jq8X:K.lookup D3=some ⟨Vl,Tg,.func (fu "__init__" "Mend.__init__" (aB iX) (ay iX) (ag iX) .none Vm Vn Vo Th M6 Vp),TM⟩)
  (jq81:eg K M6 "Mend.__init__"=true)
  (jq82:de K (.ref D3)=true)
  (jq83:ko K (.ref D3)=true)
  (jq78:bo K (.ref c3) "__init__"=some (some (.ref D4)))
  (jq8Y:K.lookup D4=some ⟨Vq,Ti,.func (fu "__init__" "PutOff.__init__" (aB gC) (ay gC) (ag gC) .none Vr Vs Vt Tj M7 Vu),TN⟩)
  (jq84:eg K M7 "PutOff.__init__"=true)
  (jq85:de K (.ref D4)=true)
  (jq86:ko K (.ref D4)=true)
  (jq79:bo K (.ref c7) "__init__"=some (some (.ref D5)))
  (jq8Z:K.lookup D5=some ⟨Vv,Tn,.func (fu "__init__" "Point.__init__" (aB ib) (ay ib) (ag ib) .none Vw Vx Vy To M8 Vz),TQ⟩)
  (jq87:eg K M8 "Point.__init__"=true)
  (jq88:de K (.ref D5)=true)
  (jq89:ko K (.ref D5)=true)
  (na0:bo K (.ref c0) "text"=some none)
  (na1:bo K (.ref c1) "edit"=some none)
  (na2:bo K (.ref c2) "edit"=some none)
  (na3:bo K (.ref c3) "sitting"=some none)
  (na7:bo K (.ref c7) "clause"=some none)
  (ni4:bo K (.ref c4) "__init__"=some (some (.builtin "object.__init__")))
  (ni5:bo K (.ref c5) "__init__"=some (some (.builtin "object.__init__")))
  (ni6:bo K (.ref c6) "__init__"=some (some (.builtin "object.__init__")))
  (jq5o:fe K gr "Chamber"=some (some (.ref aW)))
  (jq5p:adJ K aW adE=true)
  (jq5q:adA K aW=true)
  (jq5r:adQ K aW=true)
  (jq5s:bo K (.ref aW) "__setattr__"=some (some (.builtin "object.__setattr__")))
  (jq5t:adU K aW=true)
  (jq5u:de K (.ref aW)=true)
  (jq3T:bo K (.ref aW) "__init__"=some (some (.ref du)))
  (jq4c:K.lookup du=some ⟨xO,xu,.func (fu "__init__" "Chamber.__init__" (aB fD) (ay fD) (ag fD) .none xP xQ xR xw qk xS),xI⟩)
  (jq3U:eg K qk "Chamber.__init__"=true)
  (jq3V:de K (.ref du)=true)
  (jq3W:ko K (.ref du)=true)
  (jq3X:bo K (.ref aW) "move"=some (some (.ref dz)))
  (jq4d:K.lookup dz=some ⟨xT,xy,.func (fu "move" "Chamber.move" (aB fE) (ay fE) (ag fE) .none xU xV xW xA ql xX),xJ⟩)
  (jq3Y:eg K ql "Chamber.move"=true)
  (jq3t:de K (.ref dz)=true)
  (jq3Z:ko K (.ref dz)=true)
  (jq40:bo K (.ref aW) "vote"=some (some (.ref dA)))
  (jq4e:K.lookup dA=some ⟨xY,xB,.func (fu "vote" "Chamber.vote" (aB fF) (ay fF) (ag fF) .none xZ x4 x5 xD qm x6),xK⟩)
  (jq41:eg K qm "Chamber.vote"=true)
  (jq3u:de K (.ref dA)=true)
  (jq42:ko K (.ref dA)=true)
  (jq43:bo K (.ref aW) "drop"=some (some (.ref dB)))
  (jq4f:K.lookup dB=some ⟨x8,xE,.func (fu "drop" "Chamber.drop" (aB fG) (ay fG) (ag fG) .none x9 ya yb xF qo yc),xM⟩)
  (jq44:eg K qo "Chamber.drop"=true)
  (jq3v:de K (.ref dB)=true)
  (jq45:ko K (.ref dB)=true)
  (jq46:bo K (.ref aW) "take"=some (some (.ref dC)))
  (jq4g:K.lookup dC=some ⟨yd,xG,.func (fu "take" "Chamber.take" (aB fH) (ay fH) (ag fH) .none ye yf yg xH qp yh),xN⟩)
  (jq47:eg K qp "Chamber.take"=true)
  (jq3w:de K (.ref dC)=true)
  (jq48:ko K (.ref dC)=true)
  (jq3L:bo K (.ref aW) "state"=some (some (.ref cX)))
  (jq49:K.lookup cX=some ⟨wc,vY,.func (fu "state" "Chamber.state" (aB d6) (ay d6) (ag d6) .none we wg wj vZ pw wk),wb⟩)
  (jq3M:eg K pw "Chamber.state"=true)
  (jq3q:de K (.ref cX)=true)
  (jq3N:ko K (.ref cX)=true)
  (jq3D:bo K (.ref aW) "motion"=some (some (.ref cL)))
  (jq3O:K.lookup cL=some ⟨vb,uZ,.func (fu "motion" "Chamber.motion" (aB ei) (ay ei) (ag ei) .none vc vd ve u3 nL vf),u9⟩)
  (jq3E:eg K nL "Chamber.motion"=true)
  (jq3g:de K (.ref cL)=true)
  (jq3F:ko K (.ref cL)=true)
  (jq2Y:bo K (.ref aW) "kept_changes"=some (some (.ref bU)))
  (jq36:K.lookup bU=some ⟨pz,pd,.func (fu "kept_changes" "Chamber.kept_changes" (aB cJ) (ay cJ) (ag cJ) .none pA pB pD pe jb pE),pj⟩)
  (jq2Z:eg K jb "Chamber.kept_changes"=true)
  (jq2g:de K (.ref bU)=true)
  (jq30:ko K (.ref bU)=true)
  (jq3a:bo K (.ref aW) "first_text"=some (some (.ref cc)))
  (jq3i:K.lookup cc=some ⟨qC,qv,.func (fu "first_text" "Chamber.first_text" (aB c8) (ay c8) (ag c8) .none qD qE qF qw jJ qG),qA⟩)
  (jq3b:eg K jJ "Chamber.first_text"=true)
  (jq2A:de K (.ref cc)=true)
  (jq3c:ko K (.ref cc)=true)
  (jq3x:bo K (.ref aW) "minutes"=some (some (.ref cE)))
  (jq3G:K.lookup cE=some ⟨t6,tW,.func (fu "minutes" "Chamber.minutes" (aB d3) (ay d3) (ag d3) .none t7 t8 t9 tX mX ua),t4⟩)
  (jq3y:eg K mX "Chamber.minutes"=true)
  (jq37:de K (.ref cE)=true)
  (jq3z:ko K (.ref cE)=true)
  (jq3A:bo K (.ref aW) "pending"=some (some (.ref cF)))
  (jq3H:K.lookup cF=some ⟨ub,tY,.func (fu "pending" "Chamber.pending" (aB dq) (ay dq) (ag dq) .none uc ud ue tZ mY uf),t5⟩)
  (jq3B:eg K mY "Chamber.pending"=true)
  (jq38:de K (.ref cF)=true)
  (jq3C:ko K (.ref cF)=true)
  (jq3d:bo K (.ref aW) "told_aside"=some (some (.ref cf)))
  (jq3j:K.lookup cf=some ⟨qH,qy,.func (fu "told_aside" "Chamber.told_aside" (aB dc) (ay dc) (ag dc) .none qI qJ qK qz jK qL),qB⟩)
  (jq3e:eg K jK "Chamber.told_aside"=true)
  (jq2B:de K (.ref cf)=true)
  (jq3f:ko K (.ref cf)=true)
  (jq1J:bo K (.ref aW) "require_can_be_made"=some (some (.ref a7)))
  (jq1O:K.lookup a7=some ⟨j8,j5,.func (fu "require_can_be_made" "Chamber.require_can_be_made" (aB bX) (ay bX) (ag bX) .none j9 kh kz j6 fS kA),j7⟩)
  (jq1K:eg K fS "Chamber.require_can_be_made"=true)
  (jqr:de K (.ref a7)=true)
  (jq1L:ko K (.ref a7)=true)
  (jq2x:bo K (.ref aW) "require_pending"=some (some (.ref bF)))
  (jq2C:K.lookup bF=some ⟨mZ,mU,.func (fu "require_pending" "Chamber.require_pending" (aB cA) (ay cA) (ag cA) .none m3 m5 m6 mV hJ m7),mW⟩)
  (jq2y:eg K hJ "Chamber.require_pending"=true)
  (jqO:de K (.ref bF)=true)
  (jq2z:ko K (.ref bF)=true)
  (jq2D:bo K (.ref aW) "require_matter"=some (some (.ref bK)))
  (jq2P:K.lookup bK=some ⟨nj,ng,.func (fu "require_matter" "Chamber.require_matter" (aB cC) (ay cC) (ag cC) .none nk nq nr nh ip nv),ni⟩)
  (jq2E:eg K ip "Chamber.require_matter"=true)
  (jq1e:de K (.ref bK)=true)
  (jq2F:ko K (.ref bK)=true)
  (jq3I:bo K (.ref aW) "decide"=some (some (.ref cM)))
  (jq3P:K.lookup cM=some ⟨vg,u6,.func (fu "decide" "Chamber.decide" (aB ej) (ay ej) (ag ej) .none vh vi vj u7 nM vk),va⟩)
  (jq3J:eg K nM "Chamber.decide"=true)
  (jq3h:de K (.ref cM)=true)
  (jq3K:ko K (.ref cM)=true)
  (jq31:bo K (.ref aW) "end_decision"=some (some (.ref bV)))
  (jq39:K.lookup bV=some ⟨pF,pf,.func (fu "end_decision" "Chamber.end_decision" (aB cK) (ay cK) (ag cK) .none pG pH pI ph jc pJ),pq⟩)
  (jq32:eg K jc "Chamber.end_decision"=true)
  (jq2h:de K (.ref bV)=true)
  (jq33:ko K (.ref bV)=true)
  (jq3k:bo K (.ref aW) "carry_out"=some (some (.ref cn)))
  (jq3r:K.lookup cn=some ⟨rR,rL,.func (fu "carry_out" "Chamber.carry_out" (aB dH) (ay dH) (ag dH) .none rS rT rV rM kZ rW),rP⟩)
  (jq3l:eg K kZ "Chamber.carry_out"=true)
  (jq2N:de K (.ref cn)=true)
  (jq3m:ko K (.ref cn)=true)
  (jq2Q:bo K (.ref aW) "lay_on_matter"=some (some (.ref bP)))
  (jq34:K.lookup bP=some ⟨oe,nZ,.func (fu "lay_on_matter" "Chamber.lay_on_matter" (aB cG) (ay cG) (ag cG) .none og oh oi n5 iG oj),n9⟩)
  (jq2R:eg K iG "Chamber.lay_on_matter"=true)
  (jq1M:de K (.ref bP)=true)
  (jq2S:ko K (.ref bP)=true)
  (jq2T:bo K (.ref aW) "lay_on_change"=some (some (.ref bQ)))
  (jq35:K.lookup bQ=some ⟨oo,n6,.func (fu "lay_on_change" "Chamber.lay_on_change" (aB cH) (ay cH) (ag cH) .none oq ot ou n8 iH oy),oa⟩)
  (jq2U:eg K iH "Chamber.lay_on_change"=true)
  (jq1N:de K (.ref bQ)=true)
  (jq2V:ko K (.ref bQ)=true)
  (jq3n:bo K (.ref aW) "put_aside"=some (some (.ref cq)))
  (jq3s:K.lookup cq=some ⟨rX,rN,.func (fu "put_aside" "Chamber.put_aside" (aB dI) (ay dI) (ag dI) .none rY rZ r6 rO k9 r9),rQ⟩)
  (jq3o:eg K k9 "Chamber.put_aside"=true)
  (jq2O:de K (.ref cq)=true)
  (jq3p:ko K (.ref cq)=true)
  (jq1f:bo K (.ref aW) "seats"=some none)
  (jq1:bo K (.ref aW) "sitting"=some none)
  (jq4:bo K (.ref aW) "closed"=some none)
  (jq2:bo K (.ref aW) "made"=some none)
  (jq0:bo K (.ref aW) "pile"=some none)
  (jq3:bo K (.ref aW) "aside"=some none)
  (jqk:bo K (.ref aW) "decided"=some none)
  (jq5:bo K (.ref aW) "first_texts"=some none)
  (jq6:bo K (.ref aW) "edits_kept"=some none)
  (jqc:bo K (.ref aW) "rows"=some none)
  (jq4a:fe K gr "ChamberError"=some (some (.ref aJ)))
  (jq6r:fe K gr "NoFit"=some (some (.ref ck)))
  (jq62:fe K gr "Barred"=some (some (.ref bH)))
  (jq4u:fe K gr "NoMatter"=some (some (.ref aX)))
  (jq4v:fe K gr "NoChange"=some (some (.ref aY)))
  (jq4w:fe K gr "NotLater"=some (some (.ref aQ)))
  (jq5v:fe K gr "Nothing"=some (some (.ref bu)))
  (jq5w:fe K gr "TooMany"=some (some (.ref bw)))
  (jq5x:fe K gr "NoAside"=some (some (.ref bx)))
  (jq63:fe K gr "NotYet"=some (some (.ref bI)))
  (jq4x:fe K gr "NoNumber"=some (some (.ref aZ)))
  (jq6s:fe K gr "NoRow"=some (some (.ref iJ)))
  (jq64:fe K gr "NoName"=some (some (.ref gh)))
  (jq6t:K.lookup ck=some (adL Nd O7 ck CF Nf (.ref aJ::p6) Nr Ng Nh Ni Nj Nk Nl Nm Nn Np Nq "ValueError.__new__"))
  (jq4y:K.lookup aX=some (adL EG G4 aX ug EH (.ref aJ::p6) EU EI EJ EK EL EM EN EO ER ES ET "ValueError.__new__"))
  (jq4z:K.lookup aY=some (adL EW G5 aY uh EX (.ref aJ::p6) Fb EY EZ E2 E3 E4 E5 E6 E7 E8 E9 "ValueError.__new__"))
  (jq5y:K.lookup bu=some (adL G6 JY bu wm G7 (.ref aJ::p6) Hj G8 G9 Ha Hb Hc Hd He Hf Hg Hh "ValueError.__new__"))
  (jq5z:K.lookup bw=some (adL Hl JZ bw wo Hm (.ref aJ::p6) Hy Hn Ho Hq Hr Hs Ht Hu Hv Hw Hx "ValueError.__new__"))
  (jq5A:K.lookup bx=some (adL HA J0 bx wq HB (.ref aJ::p6) HN HC HD HE HF HG HI HJ HK HL HM "ValueError.__new__"))
  (jq4A:K.lookup aZ=some (adL Fd HQ aZ ui Fe (.ref aJ::p6) Fq Ff Fg Fh Fi Fj Fl Fm Fn Fo Fp "ValueError.__new__"))
  (jq65:K.lookup bH=some (adL J1 Nu bH zY J2 (.ref aJ::p6) true J3 J4 J5 J6 J7 J8 J9 Ka Kb Kc "ValueError.__new__"))
  (jq4B:K.lookup aQ=some (adL Ft HR aQ uj Fu (.ref aJ::p6) true Fv Fw Fx Fy Fz FA FC FD FE FF "ValueError.__new__"))
  (jq66:K.lookup bI=some (adL Ke Nv bI zZ Kf (.ref aJ::p6) true Kg Kh Ki Kj Kk Kl Km Kn Ko Kp "ValueError.__new__"))
  (jq7:K.lookup aJ=some ⟨Aa,ym,.cls qr,yn⟩)
  (jq8:qr.ns=m8)
  (jq6u:K.lookup CF=some ⟨M9,Na,.dict En Nb,Nc⟩)
  (jq6v:strKeys En=true)
  (jq6w:fe K CF "__init__"=some none)
  (jq9:K.lookup m8=some ⟨yi,yj,.dict qq yk,yl⟩)
  (jqa:strKeys qq=true)
  (jqb:fe K m8 "__init__"=some none)
  (jq4C:K.lookup ug=some ⟨Eo,Ep,.dict w5 Er,Es⟩)
  (jq4D:strKeys w5=true)
  (jq4E:fe K ug "__init__"=some none)
  (jq4F:K.lookup uh=some ⟨Et,Eu,.dict w6 Ew,Ex⟩)
  (jq4G:strKeys w6=true)
  (jq4H:fe K uh "__init__"=some none)
  (jq5B:K.lookup wm=some ⟨GR,GS,.dict zV GU,GV⟩)
  (jq5C:strKeys zV=true)
  (jq5D:fe K wm "__init__"=some none)
  (jq5E:K.lookup wo=some ⟨GW,GX,.dict zW GY,GZ⟩)
  (jq5F:strKeys zW=true)
  (jq5G:fe K wo "__init__"=some none)
  (jq5H:K.lookup wq=some ⟨G0,G1,.dict zX G2,G3⟩)
  (jq5I:strKeys zX=true)
  (jq5J:fe K wq "__init__"=some none)
  (jq4I:K.lookup ui=some ⟨Ey,Ez,.dict w8 EA,EB⟩)
  (jq4J:strKeys w8=true)
  (jq4K:fe K ui "__init__"=some none)
  (jq67:K.lookup zY=some ⟨JQ,JR,.dict Bo JS,JT⟩)
  (jq68:strKeys Bo=true)
  (jq69:fe K zY "__init__"=some (some (.ref mS)))
  (jq4L:K.lookup uj=some ⟨EC,ED,.dict w9 EE,EF⟩)
  (jq4M:strKeys w9=true)
  (jq4N:fe K uj "__init__"=some (some (.ref jF)))
  (jq6a:K.lookup zZ=some ⟨JU,JV,.dict Bp JW,JX⟩)
  (jq6b:strKeys Bp=true)
  (jq6c:fe K zZ "__init__"=some (some (.ref mT)))
  (xhn:aez K (.builtin "object.__class__") "__get__"=some (some (.builtin "getset_descriptor.__get__")))
  (xhtk:PySem.W.takesIn K (.builtin "object.__class__")=some true)
  (jq3Q:PySem.W.readsIn K aJ (.type "type")=true)
  (jq3R:aez K (.ref aJ) "__getattribute__"=some (some (.builtin "type.__getattribute__")))
  (jq3S:PySem.W.findCls K (.ref aJ) (.type "type") "__init__"=some (.val (.builtin "ValueError.__init__")))
  (jq6x:bo K (.ref ck) "__getattribute__"=some (some (.builtin "BaseException.__getattribute__")))
  (jq6d:bo K (.ref ck) "__getattr__"=some none)
  (jq6y:adu K ck (.type "BaseException")=some true)
  (jq6z:adH K ck=some Nt)
  (jq6A:bo K (.ref ck) "__class__"=some (some (.builtin "object.__class__")))
  (jq6B:adu K ck (.type "object")=some true)
  (jqs:ads K (.ref ck) (.ref aJ)=some true)
  (jq2W:ba K (.ref ck) (.ref ck)=some true)
  (jq2G:ba K (.ref ck) (.ref bH)=some false)
  (jq1P:ba K (.ref ck) (.ref aX)=some false)
  (jq1Q:ba K (.ref ck) (.ref aY)=some false)
  (jq1R:ba K (.ref ck) (.ref aQ)=some false)
  (jq2i:ba K (.ref ck) (.ref bu)=some false)
  (jq2j:ba K (.ref ck) (.ref bw)=some false)
  (jq2k:ba K (.ref ck) (.ref bx)=some false)
  (jq2H:ba K (.ref ck) (.ref bI)=some false)
  (jq1S:ba K (.ref ck) (.ref aZ)=some false)
  (jq2X:ba K (.ref ck) (.ref iJ)=some false)
  (jq2I:ba K (.ref ck) (.ref gh)=some false)
  (jqP:ba K (.ref ck) (.type "ValueError")=some true)
  (jq4O:bo K (.ref aX) "__getattribute__"=some (some (.builtin "BaseException.__getattribute__")))
  (jq4n:bo K (.ref aX) "__getattr__"=some none)
  (jq4P:adu K aX (.type "BaseException")=some true)
  (jq4Q:adH K aX=some EV)
  (jq4R:bo K (.ref aX) "__class__"=some (some (.builtin "object.__class__")))
  (jq4S:adu K aX (.type "object")=some true)
  (jqd:ads K (.ref aX) (.ref aJ)=some true)
  (jq1T:ba K (.ref aX) (.ref ck)=some false)
  (jq1g:ba K (.ref aX) (.ref bH)=some false)
  (jqw:ba K (.ref aX) (.ref aX)=some true)
  (jqx:ba K (.ref aX) (.ref aY)=some false)
  (jqy:ba K (.ref aX) (.ref aQ)=some false)
  (jqQ:ba K (.ref aX) (.ref bu)=some false)
  (jqR:ba K (.ref aX) (.ref bw)=some false)
  (jqS:ba K (.ref aX) (.ref bx)=some false)
  (jq1h:ba K (.ref aX) (.ref bI)=some false)
  (jqz:ba K (.ref aX) (.ref aZ)=some false)
  (jq1U:ba K (.ref aX) (.ref iJ)=some false)
  (jq1i:ba K (.ref aX) (.ref gh)=some false)
  (jql:ba K (.ref aX) (.type "ValueError")=some true)
  (jq4T:bo K (.ref aY) "__getattribute__"=some (some (.builtin "BaseException.__getattribute__")))
  (jq4o:bo K (.ref aY) "__getattr__"=some none)
  (jq4U:adu K aY (.type "BaseException")=some true)
  (jq4V:adH K aY=some Fc)
  (jq4W:bo K (.ref aY) "__class__"=some (some (.builtin "object.__class__")))
  (jq4X:adu K aY (.type "object")=some true)
  (jqe:ads K (.ref aY) (.ref aJ)=some true)
  (jq1V:ba K (.ref aY) (.ref ck)=some false)
  (jq1j:ba K (.ref aY) (.ref bH)=some false)
  (jqA:ba K (.ref aY) (.ref aX)=some false)
  (jqB:ba K (.ref aY) (.ref aY)=some true)
  (jqC:ba K (.ref aY) (.ref aQ)=some false)
  (jqT:ba K (.ref aY) (.ref bu)=some false)
  (jqU:ba K (.ref aY) (.ref bw)=some false)
  (jqV:ba K (.ref aY) (.ref bx)=some false)
  (jq1k:ba K (.ref aY) (.ref bI)=some false)
  (jqD:ba K (.ref aY) (.ref aZ)=some false)
  (jq1W:ba K (.ref aY) (.ref iJ)=some false)
  (jq1l:ba K (.ref aY) (.ref gh)=some false)
  (jqm:ba K (.ref aY) (.type "ValueError")=some true)
  (jq5K:bo K (.ref bu) "__getattribute__"=some (some (.builtin "BaseException.__getattribute__")))
  (jq4Y:bo K (.ref bu) "__getattr__"=some none)
  (jq5L:adu K bu (.type "BaseException")=some true)
  (jq5M:adH K bu=some Hk)
  (jq5N:bo K (.ref bu) "__class__"=some (some (.builtin "object.__class__")))
  (jq5O:adu K bu (.type "object")=some true)
  (jqh:ads K (.ref bu) (.ref aJ)=some true)
  (jq2l:ba K (.ref bu) (.ref ck)=some false)
  (jq1X:ba K (.ref bu) (.ref bH)=some false)
  (jqW:ba K (.ref bu) (.ref aX)=some false)
  (jqX:ba K (.ref bu) (.ref aY)=some false)
  (jqY:ba K (.ref bu) (.ref aQ)=some false)
  (jq1m:ba K (.ref bu) (.ref bu)=some true)
  (jq1n:ba K (.ref bu) (.ref bw)=some false)
  (jq1o:ba K (.ref bu) (.ref bx)=some false)
  (jq1Y:ba K (.ref bu) (.ref bI)=some false)
  (jqZ:ba K (.ref bu) (.ref aZ)=some false)
  (jq2m:ba K (.ref bu) (.ref iJ)=some false)
  (jq1Z:ba K (.ref bu) (.ref gh)=some false)
  (jqt:ba K (.ref bu) (.type "ValueError")=some true)
  (jq5P:bo K (.ref bw) "__getattribute__"=some (some (.builtin "BaseException.__getattribute__")))
  (jq4Z:bo K (.ref bw) "__getattr__"=some none)
  (jq5Q:adu K bw (.type "BaseException")=some true)
  (jq5R:adH K bw=some Hz)
  (jq5S:bo K (.ref bw) "__class__"=some (some (.builtin "object.__class__")))
  (jq5T:adu K bw (.type "object")=some true)
  (jqi:ads K (.ref bw) (.ref aJ)=some true)
  (jq2n:ba K (.ref bw) (.ref ck)=some false)
  (jq20:ba K (.ref bw) (.ref bH)=some false)
  (jq10:ba K (.ref bw) (.ref aX)=some false)
  (jq11:ba K (.ref bw) (.ref aY)=some false)
  (jq12:ba K (.ref bw) (.ref aQ)=some false)
  (jq1p:ba K (.ref bw) (.ref bu)=some false)
  (jq1q:ba K (.ref bw) (.ref bw)=some true)
  (jq1r:ba K (.ref bw) (.ref bx)=some false)
  (jq21:ba K (.ref bw) (.ref bI)=some false)
  (jq13:ba K (.ref bw) (.ref aZ)=some false)
  (jq2o:ba K (.ref bw) (.ref iJ)=some false)
  (jq22:ba K (.ref bw) (.ref gh)=some false)
  (jqu:ba K (.ref bw) (.type "ValueError")=some true)
  (jq5U:bo K (.ref bx) "__getattribute__"=some (some (.builtin "BaseException.__getattribute__")))
  (jq50:bo K (.ref bx) "__getattr__"=some none)
  (jq5V:adu K bx (.type "BaseException")=some true)
  (jq5W:adH K bx=some HP)
  (jq5X:bo K (.ref bx) "__class__"=some (some (.builtin "object.__class__")))
  (jq5Y:adu K bx (.type "object")=some true)
  (jqj:ads K (.ref bx) (.ref aJ)=some true)
  (jq2p:ba K (.ref bx) (.ref ck)=some false)
  (jq23:ba K (.ref bx) (.ref bH)=some false)
  (jq14:ba K (.ref bx) (.ref aX)=some false)
  (jq15:ba K (.ref bx) (.ref aY)=some false)
  (jq16:ba K (.ref bx) (.ref aQ)=some false)
  (jq1s:ba K (.ref bx) (.ref bu)=some false)
  (jq1t:ba K (.ref bx) (.ref bw)=some false)
  (jq1u:ba K (.ref bx) (.ref bx)=some true)
  (jq24:ba K (.ref bx) (.ref bI)=some false)
  (jq17:ba K (.ref bx) (.ref aZ)=some false)
  (jq2q:ba K (.ref bx) (.ref iJ)=some false)
  (jq25:ba K (.ref bx) (.ref gh)=some false)
  (jqv:ba K (.ref bx) (.type "ValueError")=some true)
  (jq51:bo K (.ref aZ) "__getattribute__"=some (some (.builtin "BaseException.__getattribute__")))
  (jq4p:bo K (.ref aZ) "__getattr__"=some none)
  (jq52:adu K aZ (.type "BaseException")=some true)
  (jq53:adH K aZ=some Fs)
  (jq54:bo K (.ref aZ) "__class__"=some (some (.builtin "object.__class__")))
  (jq55:adu K aZ (.type "object")=some true)
  (jqf:ads K (.ref aZ) (.ref aJ)=some true)
  (jq26:ba K (.ref aZ) (.ref ck)=some false)
  (jq1v:ba K (.ref aZ) (.ref bH)=some false)
  (jqE:ba K (.ref aZ) (.ref aX)=some false)
  (jqF:ba K (.ref aZ) (.ref aY)=some false)
  (jqG:ba K (.ref aZ) (.ref aQ)=some false)
  (jq18:ba K (.ref aZ) (.ref bu)=some false)
  (jq19:ba K (.ref aZ) (.ref bw)=some false)
  (jq1a:ba K (.ref aZ) (.ref bx)=some false)
  (jq1w:ba K (.ref aZ) (.ref bI)=some false)
  (jqH:ba K (.ref aZ) (.ref aZ)=some true)
  (jq27:ba K (.ref aZ) (.ref iJ)=some false)
  (jq1x:ba K (.ref aZ) (.ref gh)=some false)
  (jqn:ba K (.ref aZ) (.type "ValueError")=some true)
  (jq5g:bo K (.ref bH) "__getattribute__"=some (some (.builtin "BaseException.__getattribute__")))
  (jq4q:bo K (.ref bH) "__getattr__"=some none)
  (jq5h:adu K bH (.type "BaseException")=some true)
  (jq6e:adH K bH=some Kd)
  (jq6f:bo K (.ref bH) "__class__"=some (some (.builtin "object.__class__")))
  (jq6g:adu K bH (.type "object")=some true)
  (jq5Z:K.lookup mS=some ⟨Ec,D6,.func (fu "__init__" "Barred.__init__" (aB gD) (ay gD) (ag gD) .none Ee Ef Eg D7 wZ Eh),Ea⟩)
  (jq56:eg K wZ "Barred.__init__"=true)
  (jq57:de K (.ref mS)=true)
  (jq6h:ko K (.ref mS)=true)
  (jq6i:bo K (.ref bH) "__setattr__"=some (some (.builtin "object.__setattr__")))
  (jq5i:bo K (.ref bH) "bar"=some none)
  (jq6j:adA K bH=true)
  (jqo:ads K (.ref bH) (.ref aJ)=some true)
  (jq2J:ba K (.ref bH) (.ref ck)=some false)
  (jq2r:ba K (.ref bH) (.ref bH)=some true)
  (jq1y:ba K (.ref bH) (.ref aX)=some false)
  (jq1z:ba K (.ref bH) (.ref aY)=some false)
  (jq1A:ba K (.ref bH) (.ref aQ)=some false)
  (jq28:ba K (.ref bH) (.ref bu)=some false)
  (jq29:ba K (.ref bH) (.ref bw)=some false)
  (jq2a:ba K (.ref bH) (.ref bx)=some false)
  (jq2s:ba K (.ref bH) (.ref bI)=some false)
  (jq1B:ba K (.ref bH) (.ref aZ)=some false)
  (jq2K:ba K (.ref bH) (.ref iJ)=some false)
  (jq2t:ba K (.ref bH) (.ref gh)=some false)
  (jqI:ba K (.ref bH) (.type "ValueError")=some true)
  (jq4h:bo K (.ref aQ) "__getattribute__"=some (some (.builtin "BaseException.__getattribute__")))
  (jq4b:bo K (.ref aQ) "__getattr__"=some none)
  (jq4i:adu K aQ (.type "BaseException")=some true)
  (jq58:adH K aQ=some FG)
  (jq59:bo K (.ref aQ) "__class__"=some (some (.builtin "object.__class__")))
  (jq5a:adu K aQ (.type "object")=some true)
  (jq4r:K.lookup jF=some ⟨Ay,Av,.func (fu "__init__" "NotLater.__init__" (aB eM) (ay eM) (ag eM) .none Az AA AB Aw tq AD),Ax⟩)
  (jq4l:eg K tq "NotLater.__init__"=true)
  (jq4m:de K (.ref jF)=true)
  (jq5b:ko K (.ref jF)=true)
  (jq5c:bo K (.ref aQ) "__setattr__"=some (some (.builtin "object.__setattr__")))
  (jq4j:bo K (.ref aQ) "sitting"=some none)
  (jq5d:adA K aQ=true)
  (jqg:ads K (.ref aQ) (.ref aJ)=some true)
  (jq2b:ba K (.ref aQ) (.ref ck)=some false)
  (jq1C:ba K (.ref aQ) (.ref bH)=some false)
  (jqJ:ba K (.ref aQ) (.ref aX)=some false)
  (jqK:ba K (.ref aQ) (.ref aY)=some false)
  (jqL:ba K (.ref aQ) (.ref aQ)=some true)
  (jq1b:ba K (.ref aQ) (.ref bu)=some false)
  (jq1c:ba K (.ref aQ) (.ref bw)=some false)
  (jq1d:ba K (.ref aQ) (.ref bx)=some false)
  (jq1D:ba K (.ref aQ) (.ref bI)=some false)
  (jqM:ba K (.ref aQ) (.ref aZ)=some false)
  (jq2c:ba K (.ref aQ) (.ref iJ)=some false)
  (jq1E:ba K (.ref aQ) (.ref gh)=some false)
  (jqp:ba K (.ref aQ) (.type "ValueError")=some true)
  (jq5j:bo K (.ref bI) "__getattribute__"=some (some (.builtin "BaseException.__getattribute__")))
  (jq4s:bo K (.ref bI) "__getattr__"=some none)
  (jq5k:adu K bI (.type "BaseException")=some true)
  (jq6k:adH K bI=some Kq)
  (jq6l:bo K (.ref bI) "__class__"=some (some (.builtin "object.__class__")))
  (jq6m:adu K bI (.type "object")=some true)
  (jq60:K.lookup mT=some ⟨Ei,D8,.func (fu "__init__" "NotYet.__init__" (aB gF) (ay gF) (ag gF) .none Ej Ek El D9 w4 Em),Eb⟩)
  (jq5e:eg K w4 "NotYet.__init__"=true)
  (jq5f:de K (.ref mT)=true)
  (jq6n:ko K (.ref mT)=true)
  (jq6o:bo K (.ref bI) "__setattr__"=some (some (.builtin "object.__setattr__")))
  (jq5l:bo K (.ref bI) "sitting"=some none)
  (jq6p:adA K bI=true)
  (jqq:ads K (.ref bI) (.ref aJ)=some true)
  (jq2L:ba K (.ref bI) (.ref ck)=some false)
  (jq2u:ba K (.ref bI) (.ref bH)=some false)
  (jq1F:ba K (.ref bI) (.ref aX)=some false)
  (jq1G:ba K (.ref bI) (.ref aY)=some false)
  (jq1H:ba K (.ref bI) (.ref aQ)=some false)
  (jq2d:ba K (.ref bI) (.ref bu)=some false)
  (jq2e:ba K (.ref bI) (.ref bw)=some false)
  (jq2f:ba K (.ref bI) (.ref bx)=some false)
  (jq2v:ba K (.ref bI) (.ref bI)=some true)
  (jq1I:ba K (.ref bI) (.ref aZ)=some false)
  (jq2M:ba K (.ref bI) (.ref iJ)=some false)
  (jq2w:ba K (.ref bI) (.ref gh)=some false)
  (jqN:ba K (.ref bI) (.type "ValueError")=some true) :
  ∃fd:kb,(∀(s:Shared) (v:Value),BindsTo s fd ⟨[v],[]⟩ [("_law_script",v)])/\∀base:Heap,K.In base->base.Ns gr mg->a8 l.prog w K mg base CX0 20 fa fd ["_law_script"] (DL K):=by
 have e:=hfa.symm.trans (kj X G a_24);cases e;have F_1:=aV (st:=vC) l_1 cc_1 kp_1;have b_1:=F_1.binds (ps:=["things","edit"]) λ_ _ _ _ _ _ us hl=>match us,hl with | [_,_],_=>rfl
 have F_2:=aV (st:=gG) l_2 cc_2 kp_2;have b_2:=F_2.binds (ps:=["things","edit"]) λ_ _ _ _ _ _ us hl=>match us,hl with | [_,_],_=>rfl
 have F_3:=aV (st:=vD) l_3 cc_3 kp_3;have b_3:=F_3.binds (ps:=["things","edit"]) λ_ _ _ _ _ _ us hl=>match us,hl with | [_,_],_=>rfl
 have F_4:=aV (st:=jP) l_4 cc_4 kp_4;have b_4:=F_4.binds (ps:=["clause"]) λ_ _ _ _ _ _ us hl=>match us,hl with | [_],_=>rfl
 have F_5:=aV (st:=iY) l_5 cc_5 kp_5;have b_5:=F_5.binds (ps:=["words"]) λ_ _ _ _ _ _ us hl=>match us,hl with | [_],_=>rfl
 have F_6:=aV (st:=iZ) l_6 cc_6 kp_6;have b_6:=F_6.binds (ps:=["told"]) λ_ _ _ _ _ _ us hl=>match us,hl with | [_],_=>rfl
 have F_7:=aV (st:=oM) l_7 cc_7 kp_7;have b_7:=F_7.binds (ps:=["pile","closed"]) λ_ _ _ _ _ _ us hl=>match us,hl with | [_,_],_=>rfl
 have F_8:=aV (st:=fV) l_8 cc_8 kp_8;have b_8:=F_8.binds (ps:=["pile"]) λ_ _ _ _ _ _ us hl=>match us,hl with | [_],_=>rfl
 have F_9:=aV (st:=eN) l_9 cc_9 kp_9;have b_9:=F_9.binds (ps:=["pile"]) λ_ _ _ _ _ _ us hl=>match us,hl with | [_],_=>rfl
 have Z7:=aV (st:=dJ) l_10 jq8a jq8b;have acP:=Z7.binds (ps:=["kind","pile"]) λ_ _ _ _ _ _ us hl=>match us,hl with | [_,_],_=>rfl
 have Z8:=aV (st:=dO) l_11 jq8c jq8d;have acQ:=Z8.binds (ps:=["kind","pile","closed"]) λ_ _ _ _ _ _ us hl=>match us,hl with | [_,_,_],_=>rfl
 have Z9:=aV (st:=eO) l_12 jq8e jq8f;have acR:=Z9.binds (ps:=["text"]) λ_ _ _ _ _ _ us hl=>match us,hl with | [_],_=>rfl
 have aaa:=aV (st:=eP) l_13 jq8g jq8h;have acS:=aaa.binds (ps:=["edit"]) λ_ _ _ _ _ _ us hl=>match us,hl with | [_],_=>rfl
 have aab:=aV (st:=eD) l_14 jq8i jq8j;have acT:=aab.binds (ps:=["deed"]) λ_ _ _ _ _ _ us hl=>match us,hl with | [_],_=>rfl
 have aac:=aV (st:=i3) l_15 jq8k jq8l;have acU:=aac.binds (ps:=["deed"]) λ_ _ _ _ _ _ us hl=>match us,hl with | [_],_=>rfl
 have aad:=aV (st:=mf) l_16 jq8m jq8n;have acV:=aad.binds (ps:=["need","ayes","noes"]) λ_ _ _ _ _ _ us hl=>match us,hl with | [_,_,_],_=>rfl
 have aae:=aV (st:=i4) l_17 jq8o jq8p;have acW:=aae.binds (ps:=["_law_script","_law_k"]) λ_ _ _ _ _ _ us hl=>match us,hl with | [_,_],_=>rfl
 have aaf:=aV (st:=oR) l_18 jq8q jq8r;have acX:=aaf.binds (ps:=["_law_cell"]) λ_ _ _ _ _ _ us hl=>match us,hl with | [_],_=>rfl
 have aag:=aV (st:=jR) l_19 jq8s jq8t;have acY:=aag.binds (ps:=["_law_cell"]) λ_ _ _ _ _ _ us hl=>match us,hl with | [_],_=>rfl
 have aah:=aV (st:=vE) l_20 jq8u jq8v;have acZ:=aah.binds (ps:=["_law_chamber","_law_deed"]) λ_ _ _ _ _ _ us hl=>match us,hl with | [_,_],_=>rfl
 have aai:=aV (st:=jS) l_21 jq8w jq8x;have ac8:=aai.binds (ps:=["_law_script"]) λ_ _ _ _ _ _ us hl=>match us,hl with | [_],_=>rfl
 have aaj:=aV (st:=oU) l_22 jq8y jq8z;have ac9:=aaj.binds (ps:=["_law_e"]) λ_ _ _ _ _ _ us hl=>match us,hl with | [_],_=>rfl
 have aak:=aV (st:=mr) l_23 jq8A jq8B;have ada:=aak.binds (ps:=["_law_e"]) λ_ _ _ _ _ _ us hl=>match us,hl with | [_],_=>rfl
 have adb:=aV (st:=sV) l_24 jq8C jq8D;have P9:=aV (st:=gk) jq8E jq7b jq6E;have aal:=P9.binds (ps:=["self"]) λ_ _ _ _ _ _ us hl=>match us,hl with | [_],_=>rfl
 have Qa:=aV (st:=gm) jq8F jq7d jq6G;have aam:=Qa.binds (ps:=["self"]) λ_ _ _ _ _ _ us hl=>match us,hl with | [_],_=>rfl
 have Qb:=aV (st:=iU) jq8G jq7f jq6I;have aan:=Qb.binds (ps:=["self"]) λ_ _ _ _ _ _ us hl=>match us,hl with | [_],_=>rfl
 have Qc:=aV (st:=gs) jq8H jq7h jq6K;have aao:=Qc.binds (ps:=["self"]) λ_ _ _ _ _ _ us hl=>match us,hl with | [_],_=>rfl
 have Qd:=aV (st:=hV) jq8I jq7j jq6M;have aap:=Qd.binds (ps:=["self"]) λ_ _ _ _ _ _ us hl=>match us,hl with | [_],_=>rfl
 have Qe:=aV (st:=jO) jq8J jq7l jq6O;have aaq:=Qe.binds (ps:=["self"]) λ_ _ _ _ _ _ us hl=>match us,hl with | [_],_=>rfl
 have Qf:=aV (st:=iV) jq8K jq7n jq6Q;have aar:=Qf.binds (ps:=["self"]) λ_ _ _ _ _ _ us hl=>match us,hl with | [_],_=>rfl
 have Qg:=aV (st:=hX) jq8L jq7p jq6S;have aas:=Qg.binds (ps:=["self"]) λ_ _ _ _ _ _ us hl=>match us,hl with | [_],_=>rfl
 have aat:=aV (st:=gu) l_mr jq8M jq4t;have ade:=aat.binds (ps:=["self"]) λ_ _ _ _ _ _ us hl=>match us,hl with | [_],_=>rfl
 have aau:=aV (st:=gv) l_mn jq8N jq5n;have HS:=aau.binds (ps:=["self"]) λ_ _ _ _ _ _ us hl=>match us,hl with | [_],_=>rfl
 have Qh:=aV (st:=hZ) jq8O jq7G jq6U;have aav:=Qh.binds (ps:=["self"]) λ_ _ _ _ _ _ us hl=>match us,hl with | [_],_=>rfl
 have aaw:=aV (st:=gw) l_mt jq8P jq6C;have VA:=aaw.binds (ps:=["self"]) λ_ _ _ _ _ _ us hl=>match us,hl with | [_],_=>rfl
 have Qi:=aV (st:=gx) jq8Q jq7L jq6W;have aax:=Qi.binds (ps:=["self"]) λ_ _ _ _ _ _ us hl=>match us,hl with | [_],_=>rfl
 have Qj:=aV (st:=gy) jq8R jq7N jq6Y;have aay:=Qj.binds (ps:=["self"]) λ_ _ _ _ _ _ us hl=>match us,hl with | [_],_=>rfl
 have Qk:=aV (st:=iW) jq8S jq7P jq70;have aaz:=Qk.binds (ps:=["self"]) λ_ _ _ _ _ _ us hl=>match us,hl with | [_],_=>rfl
 have Ql:=aV (st:=gz) jq8T jq7R jq72;have aaA:=Ql.binds (ps:=["self"]) λ_ _ _ _ _ _ us hl=>match us,hl with | [_],_=>rfl
 have Qm:=aV (st:=ia) jq8U jq7T jq74;have aaB:=Qm.binds (ps:=["self"]) λ_ _ _ _ _ _ us hl=>match us,hl with | [_],_=>rfl
 have Qn:=aV (st:=gA) jq8V jq7V jq7W;have aaC:=Qn.binds (ps:=["self","text"]) λ_ _ _ _ _ _ us hl=>match us,hl with | [_,_],_=>rfl
 have Qo:=aV (st:=gB) jq8W jq7Y jq7Z;have aaD:=Qo.binds (ps:=["self","edit"]) λ_ _ _ _ _ _ us hl=>match us,hl with | [_,_],_=>rfl
 have Qp:=aV (st:=iX) jq8X jq81 jq82;have aaE:=Qp.binds (ps:=["self","edit"]) λ_ _ _ _ _ _ us hl=>match us,hl with | [_,_],_=>rfl
 have Qq:=aV (st:=gC) jq8Y jq84 jq85;have aaF:=Qq.binds (ps:=["self","sitting"]) λ_ _ _ _ _ _ us hl=>match us,hl with | [_,_],_=>rfl
 have Qr:=aV (st:=ib) jq8Z jq87 jq88;have aaG:=Qr.binds (ps:=["self","clause"]) λ_ _ _ _ _ _ us hl=>match us,hl with | [_,_],_=>rfl
 have gW:=aV (st:=fD) jq4c jq3U jq3V;have jn:=gW.binds (ps:=["self","seats"]) λ_ _ _ _ _ _ us hl=>match us,hl with | [_,_],_=>rfl
 have gX:=aV (st:=fE) jq4d jq3Y jq3t;have jo:=gX.binds (ps:=["self","told"]) λ_ _ _ _ _ _ us hl=>match us,hl with | [_,_],_=>rfl
 have gY:=aV (st:=fF) jq4e jq41 jq3u;have jq:=gY.binds (ps:=["self","ayes","noes"]) λ_ _ _ _ _ _ us hl=>match us,hl with | [_,_,_],_=>rfl
 have gZ:=aV (st:=fG) jq4f jq44 jq3v;have jr:=gZ.binds (ps:=["self"]) λ_ _ _ _ _ _ us hl=>match us,hl with | [_],_=>rfl
 have g0:=aV (st:=fH) jq4g jq47 jq3w;have js:=g0.binds (ps:=["self","number"]) λ_ _ _ _ _ _ us hl=>match us,hl with | [_,_],_=>rfl
 have f9:=aV (st:=d6) jq49 jq3M jq3q;have gb:=f9.binds (ps:=["self"]) λ_ _ _ _ _ _ us hl=>match us,hl with | [_],_=>rfl
 have fM:=aV (st:=ei) jq3O jq3E jq3g;have ig:=fM.binds (ps:=["self","number"]) λ_ _ _ _ _ _ us hl=>match us,hl with | [_,_],_=>rfl
 have dD:=aV (st:=cJ) jq36 jq2Z jq2g;have ef:=dD.binds (ps:=["self","number"]) λ_ _ _ _ _ _ us hl=>match us,hl with | [_,_],_=>rfl
 have dX:=aV (st:=c8) jq3i jq3b jq2A;have eR:=dX.binds (ps:=["self","number"]) λ_ _ _ _ _ _ us hl=>match us,hl with | [_,_],_=>rfl
 have eS:=aV (st:=d3) jq3G jq3y jq37;have eT:=eS.binds (ps:=["self"]) λ_ _ _ _ _ _ us hl=>match us,hl with | [_],_=>rfl
 have eU:=aV (st:=dq) jq3H jq3B jq38;have eV:=eU.binds (ps:=["self"]) λ_ _ _ _ _ _ us hl=>match us,hl with | [_],_=>rfl
 have dY:=aV (st:=dc) jq3j jq3e jq2B;have eW:=dY.binds (ps:=["self","number"]) λ_ _ _ _ _ _ us hl=>match us,hl with | [_,_],_=>rfl
 have cy:=aV (st:=bX) jq1O jq1K jqr;have cT:=cy.binds (ps:=["self","told"]) λ_ _ _ _ _ _ us hl=>match us,hl with | [_,_],_=>rfl
 have cO:=aV (st:=cA) jq2C jq2y jqO;have cP:=cO.binds (ps:=["self"]) λ_ _ _ _ _ _ us hl=>match us,hl with | [_],_=>rfl
 have cU:=aV (st:=cC) jq2P jq2E jq1e;have cV:=cU.binds (ps:=["self","number"]) λ_ _ _ _ _ _ us hl=>match us,hl with | [_,_],_=>rfl
 have fN:=aV (st:=ej) jq3P jq3J jq3h;have fO:=fN.binds (ps:=["self","word"]) λ_ _ _ _ _ _ us hl=>match us,hl with | [_,_],_=>rfl
 have dE:=aV (st:=cK) jq39 jq32 jq2h;have dF:=dE.binds (ps:=["self","deed"]) λ_ _ _ _ _ _ us hl=>match us,hl with | [_,_],_=>rfl
 have d8:=aV (st:=dH) jq3r jq3l jq2N;have fj:=d8.binds (ps:=["self","motion"]) λ_ _ _ _ _ _ us hl=>match us,hl with | [_,_],_=>rfl
 have df:=aV (st:=cG) jq34 jq2R jq1M;have d4:=df.binds (ps:=["self","edit"]) λ_ _ _ _ _ _ us hl=>match us,hl with | [_,_],_=>rfl
 have dg:=aV (st:=cH) jq35 jq2U jq1N;have d5:=dg.binds (ps:=["self","edit"]) λ_ _ _ _ _ _ us hl=>match us,hl with | [_,_],_=>rfl
 have d9:=aV (st:=dI) jq3s jq3o jq2O;have ee:=d9.binds (ps:=["self","until"]) λ_ _ _ _ _ _ us hl=>match us,hl with | [_,_],_=>rfl
 have mD:=aV (st:=gD) jq5Z jq56 jq57;have mE:=mD.binds (ps:=["self","bar"]) λ_ _ _ _ _ _ us hl=>match us,hl with | [_,_],_=>rfl
 have jw:=aV (st:=eM) jq4r jq4l jq4m;have lY:=jw.binds (ps:=["self","sitting"]) λ_ _ _ _ _ _ us hl=>match us,hl with | [_,_],_=>rfl
 have mF:=aV (st:=gF) jq60 jq5e jq5f;have pW:=mF.binds (ps:=["self","sitting"]) λ_ _ _ _ _ _ us hl=>match us,hl with | [_,_],_=>rfl
 have T:Txt P K mg ⟨f_1,_,f_2,_,f_3,_,f_4,_,f_5,_,f_6,_,f_7,_,f_8,_,f_9,_,OT,_,OU,_,OV,_,OW,_,OX,_,OY,_,OZ,_,O0,_,O1,_,O2,_,O3,_,O4,_,O5,_,O6,_,kG,c0,c1,c2,c3,c4,c5,c6,c7,cm,tb,DM,_,DN,_,DO,_,DP,_,DQ,_,DR,_,DS,_,DT,_,xr,_,zU,_,DU,_,GQ,_,DW,_,DX,_,DY,_,DZ,_,D0,_,D1,_,D2,_,D3,_,D4,_,D5,_,aW,du,_,dz,_,dA,_,dB,_,dC,_,cX,_,cL,_,bU,_,cc,_,cE,_,cF,_,cf,_,a7,_,bF,_,bK,_,cM,_,bV,_,cn,_,bP,_,bQ,_,cq,_,aJ,ck,bH,aX,aY,aQ,bu,bw,bx,bI,aZ,iJ,gh,mS,_,jF,_,mT,_⟩:={
  Gk:=F_1,
  LX:=b_1,
  LY:=kj X G a_1,
  iC:=F_2,
  kH:=b_2,
  kJ:=kj X G a_2,
  B8:=F_3,
  Gm:=b_3,
  Gn:=kj X G a_3,
  iM:=F_4,
  jY:=b_4,
  jZ:=kj X G a_4,
  nB:=F_5,
  qW:=b_5,
  qX:=kj X G a_5,
  nC:=F_6,
  wG:=b_6,
  wH:=kj X G a_6,
  uA:=F_7,
  zd:=b_7,
  ze:=kj X G a_7,
  lX:=F_8,
  pQ:=b_8,
  pR:=kj X G a_8,
  lD:=F_9,
  qa:=b_9,
  qb:=kj X G a_9,
  iu:=Z7,
  lQ:=acP,
  lR:=kj X G a_10,
  iN:=Z8,
  mx:=acQ,
  my:=kj X G a_11,
  lE:=Z9,
  qc:=acR,
  qd:=kj X G a_12,
  lF:=aaa,
  qe:=acS,
  qf:=kj X G a_13,
  mz:=aab,
  qY:=acT,
  qZ:=kj X G a_14,
  kP:=aac,
  nD:=acU,
  nF:=kj X G a_15,
  vL:=aad,
  AX:=acV,
  AY:=kj X G a_16,
  gU:=aae,
  i6:=acW,
  i7:=kj X G a_17,
  uB:=aaf,
  zf:=acX,
  zg:=kj X G a_18,
  pS:=aag,
  tO:=acY,
  tP:=kj X G a_19,
  B9:=aah,
  Gp:=acZ,
  Gr:=kj X G a_20,
  vM:=aai,
  AZ:=ac8,
  A0:=kj X G a_21,
  zh:=aaj,
  Df:=ac9,
  Dg:=kj X G a_22,
  zi:=aak,
  Dh:=ada,
  Di:=kj X G a_23,
  Ca:=adT X G z1,
  mB:=adT X G z2,
  bq:=adT X G z3,
  zj:=adT X G z4,
  Pm:=adT X G z5,
  Pn:=adT X G z6,
  LZ:=adT X G z7,
  Dj:=adT X G z8,
  L3:=adT X G z9,
  uC:=adT X G z10,
  uD:=kj X G jq4k,
  cl:=λk hk=>match k,hk with | 0,_=>⟨pg0,hd0,po0,sa0⟩ | 1,_=>⟨pg1,hd1,po1,sa1⟩ | 2,_=>⟨pg2,hd2,po2,sa2⟩ | 3,_=>⟨pg3,hd3,po3,sa3⟩ | 4,_=>⟨pg4,hd4,po4,sa4⟩ | 5,_=>⟨pg5,hd5,po5,sa5⟩ | 6,_=>⟨pg6,hd6,po6,sa6⟩ | 7,_=>⟨pg7,hd7,po7,sa7⟩ | n+8,h=>absurd h (by omega),
  uE:=kj X G ac0,
  uF:=kj X G ac1,
  Gs:=kj X G ac2,
  zk:=kj X G ac3,
  Cb:=kj X G ac4,
  L4:=kj X G ac5,
  Gu:=kj X G ac6,
  Cc:=kj X G ac7,
  Cd:=kj X G atb,
  tb:=⟨est,nt,ltb,ktb⟩,
  rk:=λk hk=>match k,hk with | 0,_=>⟨_,rk0⟩ | 1,_=>⟨_,rk1⟩ | 2,_=>⟨_,rk2⟩ | 3,_=>⟨_,rk3⟩ | 4,_=>⟨_,rk4⟩ | 5,_=>⟨_,rk5⟩ | 6,_=>⟨_,rk6⟩ | 7,_=>⟨_,rk7⟩ | n+8,h=>absurd h (by omega),
  nU:=λk hk=>match k,hk with | 0,_=>⟨jq6D,jq7c,jq6E⟩ | 1,_=>⟨jq6F,jq7e,jq6G⟩ | 2,_=>⟨jq6H,jq7g,jq6I⟩ | 3,_=>⟨jq6J,jq7i,jq6K⟩ | 4,_=>⟨jq6L,jq7k,jq6M⟩ | 5,_=>⟨jq6N,jq7m,jq6O⟩ | 6,_=>⟨jq6P,jq7o,jq6Q⟩ | 7,_=>⟨jq6R,jq7q,jq6S⟩ | n+8,h=>absurd h (by omega),
  nW:=λk hk=>match k,hk with | 0,_=>aal | 1,_=>aam | 2,_=>aan | 3,_=>aao | 4,_=>aap | 5,_=>aaq | 6,_=>aar | 7,_=>aas | n+8,h=>absurd h (by omega),
  L5:=λk hk=>match k,hk with | 0,_=>⟨jq7z,jq61,jq5n⟩ | 1,_=>⟨jq7A,jq61,jq5n⟩ | 2,_=>⟨jq7B,jq61,jq5n⟩ | 3,_=>⟨jq7C,jq61,jq5n⟩ | 4,_=>⟨jq6T,jq7H,jq6U⟩ | 5,_=>⟨jq7D,jq61,jq5n⟩ | 6,_=>⟨jq7E,jq61,jq5n⟩ | 7,_=>⟨jq7F,jq61,jq5n⟩ | n+8,h=>absurd h (by omega),
  L6:=λk hk=>match k,hk with | 0,_=>HS | 1,_=>HS | 2,_=>HS | 3,_=>HS | 4,_=>aav | 5,_=>HS | 6,_=>HS | 7,_=>HS | n+8,h=>absurd h (by omega),
  Gv:=λk hk=>match k,hk with | 0,_=>⟨jq6V,jq7M,jq6W⟩ | 1,_=>⟨jq6X,jq7O,jq6Y⟩ | 2,_=>⟨jq6Z,jq7Q,jq70⟩ | 3,_=>⟨jq71,jq7S,jq72⟩ | 4,_=>⟨jq7I,jq7a,jq6C⟩ | 5,_=>⟨jq7J,jq7a,jq6C⟩ | 6,_=>⟨jq7K,jq7a,jq6C⟩ | 7,_=>⟨jq73,jq7U,jq74⟩ | n+8,h=>absurd h (by omega),
  Gw:=λk hk=>match k,hk with | 0,_=>aax | 1,_=>aay | 2,_=>aaz | 3,_=>aaA | 4,_=>VA | 5,_=>VA | 6,_=>VA | 7,_=>aaB | n+8,h=>absurd h (by omega),
  L7:=λk hk=>match k,hk with | 0,_=>⟨jq7r,jq5m,jq4t⟩ | 1,_=>⟨jq7s,jq5m,jq4t⟩ | 2,_=>⟨jq7t,jq5m,jq4t⟩ | 3,_=>⟨jq7u,jq5m,jq4t⟩ | 4,_=>⟨jq7v,jq5m,jq4t⟩ | 5,_=>⟨jq7w,jq5m,jq4t⟩ | 6,_=>⟨jq7x,jq5m,jq4t⟩ | 7,_=>⟨jq7y,jq5m,jq4t⟩ | n+8,h=>absurd h (by omega),
  L8:=λ_ _=>ade,
  Wo:=P9,
  Wq:=Qa,
  Ws:=Qb,
  Wt:=Qc,
  Wu:=Qd,
  Wv:=Qe,
  Ww:=Qf,
  Wx:=Qg,
  F_r:=aat,
  F_n:=aau,
  Wy:=Qh,
  F_t:=aaw,
  Wz:=Qi,
  WA:=Qj,
  WB:=Qk,
  WC:=Ql,
  WD:=Qm,
  WE:=Qn,
  WG:=Qo,
  WH:=Qp,
  WI:=Qq,
  WJ:=Qr,
  uG:=⟨mk0,jq75,jq7X,kc0⟩,
  N6:=aaC,
  na0:=na0,
  uH:=⟨mk1,jq76,jq80,kc1⟩,
  N7:=aaD,
  na1:=na1,
  Gx:=⟨mk2,jq77,jq83,kc2⟩,
  RH:=aaE,
  na2:=na2,
  zm:=⟨mk3,jq78,jq86,kc3⟩,
  RI:=aaF,
  na3:=na3,
  Ce:=⟨mk7,jq79,jq89,kc7⟩,
  RJ:=aaG,
  na7:=na7,
  mkn:=λk hk=>by
   rcases hk with rfl | rfl | rfl
   ·exact⟨mk4,ni4,kc4⟩
   ·exact⟨mk5,ni5,kc5⟩
   ·exact⟨mk6,ni6,kc6⟩,
  A1:=kj X G jq5o,
  ai:=⟨jq5p,jq5q,jq5r,jq5s⟩,
  gW:=gW,
  jn:=jn,
  A2:=⟨jq5t,jq3T,jq3W,jq5u⟩,
  gX:=gX,
  jo:=jo,
  q0:=⟨jq3X,jq3Z,jq3t⟩,
  gY:=gY,
  jq:=jq,
  q5:=⟨jq40,jq42,jq3u⟩,
  gZ:=gZ,
  jr:=jr,
  q8:=⟨jq43,jq45,jq3v⟩,
  g0:=g0,
  js:=js,
  q9:=⟨jq46,jq48,jq3w⟩,
  f9:=f9,
  gb:=gb,
  lG:=⟨jq3L,jq3N,jq3q⟩,
  fM:=fM,
  ig:=ig,
  oX:=⟨jq3D,jq3F,jq3g⟩,
  dD:=dD,
  ef:=ef,
  jt:=⟨jq2Y,jq30,jq2g⟩,
  dX:=dX,
  eR:=eR,
  kQ:=⟨jq3a,jq3c,jq2A⟩,
  eS:=eS,
  eT:=eT,
  ju:=⟨jq3x,jq3z,jq37⟩,
  eU:=eU,
  eV:=eV,
  jv:=⟨jq3A,jq3C,jq38⟩,
  dY:=dY,
  eW:=eW,
  kR:=⟨jq3d,jq3f,jq2B⟩,
  cy:=cy,
  cT:=cT,
  fU:=⟨jq1J,jq1L,jqr⟩,
  cO:=cO,
  cP:=cP,
  eL:=⟨jq2x,jq2z,jqO⟩,
  cU:=cU,
  cV:=cV,
  fg:=⟨jq2D,jq2F,jq1e⟩,
  fN:=fN,
  fO:=fO,
  j0:=⟨jq3I,jq3K,jq3h⟩,
  dE:=dE,
  dF:=dF,
  fW:=⟨jq31,jq33,jq2h⟩,
  d8:=d8,
  fj:=fj,
  lS:=⟨jq3k,jq3m,jq2N⟩,
  df:=df,
  d4:=d4,
  i8:=⟨jq2Q,jq2S,jq1M⟩,
  dg:=dg,
  d5:=d5,
  i9:=⟨jq2T,jq2V,jq1N⟩,
  d9:=d9,
  ee:=ee,
  iw:=⟨jq3n,jq3p,jq2O⟩,
  jq1f:=jq1f,
  jq1:=jq1,
  jq4:=jq4,
  jq2:=jq2,
  jq0:=jq0,
  jq3:=jq3,
  jqk:=jqk,
  jq5:=jq5,
  jq6:=jq6,
  jqc:=jqc,
  g7:=kj X G jq4a,
  yu:=kj X G jq6r,
  rb:=kj X G jq62,
  pT:=kj X G jq4u,
  pU:=kj X G jq4v,
  pV:=kj X G jq4w,
  sD:=kj X G jq5v,
  sE:=kj X G jq5w,
  sF:=kj X G jq5x,
  uI:=kj X G jq63,
  mC:=kj X G jq4x,
  Ip:=kj X G jq6s,
  Dk:=kj X G jq64,
  iI:=⟨jq3Q,jq3R,jq3S⟩,
  Dl:=⟨⟨jq6x,jq6d,jq6y⟩,by rw[jq6z];rfl,jq6A,xhn,xhtk,jq6B⟩,
  Dm:=⟨⟨_,_,_,_,_,_,_,_,_,_,_,_,_,_,_,_,jq6t,⟨⟨_,_,_,_,_,jq6u,jq6v⟩,jq6w⟩,(jh.own jq7 (by rw[jq8];exact⟨⟨_,_,_,_,_,jq9,jqa⟩,jqb⟩) jh.base)⟩⟩,
  jqs:=jqs,
  jq2W:=jq2W,
  jq2G:=jq2G,
  jq1P:=jq1P,
  jq1Q:=jq1Q,
  jq1R:=jq1R,
  jq2i:=jq2i,
  jq2j:=jq2j,
  jq2k:=jq2k,
  jq2H:=jq2H,
  jq1S:=jq1S,
  jq2X:=jq2X,
  jq2I:=jq2I,
  jqP:=jqP,
  wI:=⟨⟨jq4O,jq4n,jq4P⟩,by rw[jq4Q];rfl,jq4R,xhn,xhtk,jq4S⟩,
  wJ:=⟨⟨_,_,_,_,_,_,_,_,_,_,_,_,_,_,_,_,jq4y,⟨⟨_,_,_,_,_,jq4C,jq4D⟩,jq4E⟩,(jh.own jq7 (by rw[jq8];exact⟨⟨_,_,_,_,_,jq9,jqa⟩,jqb⟩) jh.base)⟩⟩,
  jqd:=jqd,
  jq1T:=jq1T,
  jq1g:=jq1g,
  jqw:=jqw,
  jqx:=jqx,
  jqy:=jqy,
  jqQ:=jqQ,
  jqR:=jqR,
  jqS:=jqS,
  jq1h:=jq1h,
  jqz:=jqz,
  jq1U:=jq1U,
  jq1i:=jq1i,
  jql:=jql,
  wK:=⟨⟨jq4T,jq4o,jq4U⟩,by rw[jq4V];rfl,jq4W,xhn,xhtk,jq4X⟩,
  wL:=⟨⟨_,_,_,_,_,_,_,_,_,_,_,_,_,_,_,_,jq4z,⟨⟨_,_,_,_,_,jq4F,jq4G⟩,jq4H⟩,(jh.own jq7 (by rw[jq8];exact⟨⟨_,_,_,_,_,jq9,jqa⟩,jqb⟩) jh.base)⟩⟩,
  jqe:=jqe,
  jq1V:=jq1V,
  jq1j:=jq1j,
  jqA:=jqA,
  jqB:=jqB,
  jqC:=jqC,
  jqT:=jqT,
  jqU:=jqU,
  jqV:=jqV,
  jq1k:=jq1k,
  jqD:=jqD,
  jq1W:=jq1W,
  jq1l:=jq1l,
  jqm:=jqm,
  zo:=⟨⟨jq5K,jq4Y,jq5L⟩,by rw[jq5M];rfl,jq5N,xhn,xhtk,jq5O⟩,
  zp:=⟨⟨_,_,_,_,_,_,_,_,_,_,_,_,_,_,_,_,jq5y,⟨⟨_,_,_,_,_,jq5B,jq5C⟩,jq5D⟩,(jh.own jq7 (by rw[jq8];exact⟨⟨_,_,_,_,_,jq9,jqa⟩,jqb⟩) jh.base)⟩⟩,
  jqh:=jqh,
  jq2l:=jq2l,
  jq1X:=jq1X,
  jqW:=jqW,
  jqX:=jqX,
  jqY:=jqY,
  jq1m:=jq1m,
  jq1n:=jq1n,
  jq1o:=jq1o,
  jq1Y:=jq1Y,
  jqZ:=jqZ,
  jq2m:=jq2m,
  jq1Z:=jq1Z,
  jqt:=jqt,
  zq:=⟨⟨jq5P,jq4Z,jq5Q⟩,by rw[jq5R];rfl,jq5S,xhn,xhtk,jq5T⟩,
  zr:=⟨⟨_,_,_,_,_,_,_,_,_,_,_,_,_,_,_,_,jq5z,⟨⟨_,_,_,_,_,jq5E,jq5F⟩,jq5G⟩,(jh.own jq7 (by rw[jq8];exact⟨⟨_,_,_,_,_,jq9,jqa⟩,jqb⟩) jh.base)⟩⟩,
  jqi:=jqi,
  jq2n:=jq2n,
  jq20:=jq20,
  jq10:=jq10,
  jq11:=jq11,
  jq12:=jq12,
  jq1p:=jq1p,
  jq1q:=jq1q,
  jq1r:=jq1r,
  jq21:=jq21,
  jq13:=jq13,
  jq2o:=jq2o,
  jq22:=jq22,
  jqu:=jqu,
  zt:=⟨⟨jq5U,jq50,jq5V⟩,by rw[jq5W];rfl,jq5X,xhn,xhtk,jq5Y⟩,
  zu:=⟨⟨_,_,_,_,_,_,_,_,_,_,_,_,_,_,_,_,jq5A,⟨⟨_,_,_,_,_,jq5H,jq5I⟩,jq5J⟩,(jh.own jq7 (by rw[jq8];exact⟨⟨_,_,_,_,_,jq9,jqa⟩,jqb⟩) jh.base)⟩⟩,
  jqj:=jqj,
  jq2p:=jq2p,
  jq23:=jq23,
  jq14:=jq14,
  jq15:=jq15,
  jq16:=jq16,
  jq1s:=jq1s,
  jq1t:=jq1t,
  jq1u:=jq1u,
  jq24:=jq24,
  jq17:=jq17,
  jq2q:=jq2q,
  jq25:=jq25,
  jqv:=jqv,
  wM:=⟨⟨jq51,jq4p,jq52⟩,by rw[jq53];rfl,jq54,xhn,xhtk,jq55⟩,
  rg:=⟨⟨_,_,_,_,_,_,_,_,_,_,_,_,_,_,_,_,jq4A,⟨⟨_,_,_,_,_,jq4I,jq4J⟩,jq4K⟩,(jh.own jq7 (by rw[jq8];exact⟨⟨_,_,_,_,_,jq9,jqa⟩,jqb⟩) jh.base)⟩⟩,
  jqf:=jqf,
  jq26:=jq26,
  jq1v:=jq1v,
  jqE:=jqE,
  jqF:=jqF,
  jqG:=jqG,
  jq18:=jq18,
  jq19:=jq19,
  jq1a:=jq1a,
  jq1w:=jq1w,
  jqH:=jqH,
  jq27:=jq27,
  jq1x:=jq1x,
  jqn:=jqn,
  A3:=⟨⟨jq5g,jq4q,jq5h⟩,by rw[jq6e];rfl,jq6f,xhn,xhtk,jq6g⟩,
  mD:=mD,
  mE:=mE,
  oY:=⟨⟨_,_,_,_,_,_,_,_,_,_,_,_,_,_,_,_,jq65,(jh.own jq7 (by rw[jq8];exact⟨⟨_,_,_,_,_,jq9,jqa⟩,jqb⟩) jh.base),rfl,⟨⟨_,_,_,_,_,jq67,jq68⟩,jq69⟩⟩,jq6h,jq6i,jq5i⟩,
  A4:=⟨⟨jq5g,jq4q,jq5h⟩,jq5i,jq6j⟩,
  jqo:=jqo,
  jq2J:=jq2J,
  jq2r:=jq2r,
  jq1y:=jq1y,
  jq1z:=jq1z,
  jq1A:=jq1A,
  jq28:=jq28,
  jq29:=jq29,
  jq2a:=jq2a,
  jq2s:=jq2s,
  jq1B:=jq1B,
  jq2K:=jq2K,
  jq2t:=jq2t,
  jqI:=jqI,
  wN:=⟨⟨jq4h,jq4b,jq4i⟩,by rw[jq58];rfl,jq59,xhn,xhtk,jq5a⟩,
  jw:=jw,
  lY:=lY,
  nG:=⟨⟨_,_,_,_,_,_,_,_,_,_,_,_,_,_,_,_,jq4B,(jh.own jq7 (by rw[jq8];exact⟨⟨_,_,_,_,_,jq9,jqa⟩,jqb⟩) jh.base),rfl,⟨⟨_,_,_,_,_,jq4L,jq4M⟩,jq4N⟩⟩,jq5b,jq5c,jq4j⟩,
  wO:=⟨⟨jq4h,jq4b,jq4i⟩,jq4j,jq5d⟩,
  jqg:=jqg,
  jq2b:=jq2b,
  jq1C:=jq1C,
  jqJ:=jqJ,
  jqK:=jqK,
  jqL:=jqL,
  jq1b:=jq1b,
  jq1c:=jq1c,
  jq1d:=jq1d,
  jq1D:=jq1D,
  jqM:=jqM,
  jq2c:=jq2c,
  jq1E:=jq1E,
  jqp:=jqp,
  A5:=⟨⟨jq5j,jq4s,jq5k⟩,by rw[jq6k];rfl,jq6l,xhn,xhtk,jq6m⟩,
  mF:=mF,
  pW:=pW,
  sG:=⟨⟨_,_,_,_,_,_,_,_,_,_,_,_,_,_,_,_,jq66,(jh.own jq7 (by rw[jq8];exact⟨⟨_,_,_,_,_,jq9,jqa⟩,jqb⟩) jh.base),rfl,⟨⟨_,_,_,_,_,jq6a,jq6b⟩,jq6c⟩⟩,jq6n,jq6o,jq5l⟩,
  A6:=⟨⟨jq5j,jq4s,jq5k⟩,jq5l,jq6p⟩,
  jqq:=jqq,
  jq2L:=jq2L,
  jq2u:=jq2u,
  jq1F:=jq1F,
  jq1G:=jq1G,
  jq1H:=jq1H,
  jq2d:=jq2d,
  jq2e:=jq2e,
  jq2f:=jq2f,
  jq2v:=jq2v,
  jq1I:=jq1I,
  jq2M:=jq2M,
  jq2w:=jq2w,
  jqN:=jqN }
 subst hP;exact⟨fu "law" "law" (aB sV) (ay sV) (ag sV) .none P1 P2 P4 PD MN P5,λs v=>.of_eq rfl,λbase _ _=>Sz adb T⟩
theorem walk {l:PySem.W.OpenLaw}{q:ma}{loose:List Str}{XP:(Str->Option Value)->Heap->Prop}{YP:World->Heap->Prop}{d:DefRec}{K:Params->cb}(hn:l.most=some 63)(hdf:d.params.defaults=[])
  (hY:∀(w:World) (h:Heap),YP w h->(K w.params).In h)
  (F:∀(w:World) (mg:Str->Option Value) (fa:Addr) (h:Heap),(K w.params).In h->h.Ns gr mg->mg d.name=some (.ref fa) ->
   ∃fd:kb,(∀(s:Shared) (u:Value),BindsTo s fd ⟨[u],[]⟩ [("_law_script",u)])/\∀base:Heap,(K w.params).In base->base.Ns gr mg->a8 l.prog w (K w.params) mg base CX0 20 fa fd ["_law_script"] (DL (K w.params))) :
  PySem.W.WalkO q loose XP YP l.row.toRowW d [] (λf vs=>PySem.call f vs) :=
 L2.NL (n:=63) (k:=20) (x:="_law_script") (CX:=λ_=>CX0) (sp:=λw=>DL (K w.params)) hn (by decide) hdf ⟨rfl,by decide,by decide,rfl⟩ hY F (λ_ _ a ns hl _ hS=>⟨a,ns,rfl,hS,hl,λ_=>rfl⟩) λ_ _ _ _ _ z=>z
end My
structure PySem.W.Fast:Prop where(tw5631091602215400135 tw15695544149629972076 tw13665462062670680904 tw17963714246605995056 tw17118743788956758917 tw11042192931024095729 tw11081216417533805497 tw5854023929879187480 tw10589062884266503905 tw1165783957873370493 tw18330868656490574028 tw12503112164677789397 tw1883729669958633546 tw9935862604596702408 tw8556971201372173175 tw3421804847907133564 tw13195401656008650652 tw11077963465884434056 tw9227488574511025262 tw13271414312771159215 tw8906443790436736737 tw11496036959207565690 tw6500628902672493599 tw16469347549144607575 tw3373210494078950909 tw16185544183819444971 tw15659984901879561169 tw5875851077307731678 tw15748403824250786293 tw5218820926175221118 tw9754936996965753682 tw3598974275191821784 tw13822939741192291825 tw4876447286463376579 tw3981986704686318864 tw8250630642096272501 tw7770860467802455565 tw14166195215194025074 tw16004159569459164946 tw10068426454664027580 tw10135608334386394071 tw1302844437171947033 tw1211949905455672100 tw1444689113761349738 tw7892288116713985869 tw17605920574003968976 tw17628516641953771577 tw3579855807152051835 tw6394194879196731992 tw234185332523640404 tw2759368275698141479 tw16867683655573083176 tw14869307170625715173 tw5374606379685711907 tw7173856252673244983 tw2352627182622183852 tw8698857807529141435 tw17822411281387778762 tw6754750580327097925 tw10866081074896418475 tw17911634267458043142 tw617463548604396352 tw18164498596895160815 tw2363597572864169562 tw2024032812825052315 tw16225677680700296903 tw2253665664182564751 tw17405077987897826301 tw4350166430874892206 tw2969730562098355658 tw9708061706069507852 tw5168643684922117298 tw9329969708679326736 tw5857489135200551371 tw5329467017144369880 tw9889204990412391133 tw8406650611547155847 tw1005645320960840827 tw6315090436739911591 tw16058044465112067551 tw10811013453725694215 tw18174602942309709762 tw5720129786986208441 tw9489390692377402062 tw1224302792971707518 tw8079092639276196079 tw13904150813609090750 tw2746573160681835016 tw13486528812362802766 tw12690844390169573999 tw17375416901921206675 tw9628249730311838681 tw2158089406335008310 tw17557643758747447282 tw9235316227155674757 tw18411232029354035216 tw1797585271168586424 tw16778552647574328344 tw2852089910746477053 tw13612776686062487210 tw9989052131481256850 tw598204134791382365 tw1047991896326250427 tw13809275804143928530 tw9432067466385507081 tw16546140212934851683 tw1429758166803922174 tw13381282327494406495 tw9928076536741122889 tw11495252898512493051 tw15888611617674113957 tw3391821769519332637 tw7048992126518083652 tw13584112353763325311 tw15468758615467696580 tw1636907556015394934 tw4364747187237171648 tw4704889803526809166 tw5961814468829297861 tw11978583321156272132 tw15164925300337296204 tw15966867983846645344 tw4215020446569537289 tw10332000160342118688 tw2300405536523971810 tw9011488979057236660 tw11077974752704216528 tw6168707734583574109 tw1356958965967196062 tw4084540803327766245 tw8978157766313522650 tw4081062911992183859 tw5688996047678934854 tw10464573623218883491 tw9008183222062354148 tw14868665798947760535 tw2528198031095116591 tw7719654512285906524 tw1634041517030522888 tw14966583704675626267 tw9069797621931417394 tw15203983120405293848 tw3549856965507571668 tw5714052398795236183 tw17827387060865236793 tw7958921110250946692 tw6312144430607697926 tw7661045250016751469 tw12390815244630382356 tw2331439920256170730 tw16624360288022836162 tw15427404982262059973 tw652714590465959596 tw17775523900612101900 tw6873026347460502456 tw3394949028909522850 tw11364620248710024171 tw9606461184220580893 tw6800786344416097126 tw16146153836826689144 tw11734097223750699622 tw3510687277961019434 tw7166945677984668219 tw12206596337079876422 tw8281978807588439070 tw14082285367223623380 tw10285768687568419705 tw8645136894274881455 tw8942984200038914366 tw1069922065500084037 tw5991586933429695815 tw1698103137077784049 tw3491171193500933802 tw13773516850241145995 tw17286823028277246443 tw9801170616703001283 tw4516628935732609480 tw155754395076842131 tw2413787247861050383 tw4227039778340619090 tw8655271429432810425 tw12848923296872576556 tw6803964915678089869 tw3703920164367546727 tw5875976236121737376 tw1104411949875502320 tw5125054108899558288 tw4798585312592850779 tw958343714927102937 tw4991421495533659182 tw14666279852806049344 tw12065293213017467402 tw4824380059845963332 tw12853719855856610075 tw4806793031565063988 tw5645755585844144488 tw16237853631799343621 tw11639074600568602985 tw165685434848246151 tw3985952381056832557 tw14327426805969983828 tw6339732688544244686 tw14013758658495489989 tw17336750878873195783 tw654059374643425556 tw8781732601009750465 tw708216420710759590 tw9694343325313828322 tw9582071882448007878 tw7006189803933844168 tw7412777560416924801 tw1203161353206658005 tw3665715277099184696 tw3935298393865931601 tw13890808013585397754 tw3764943045915553631 tw5168385090011695745 tw14333848259925939296 tw9808147924806117149 tw9454632655311718975 tw2079857411102326098 tw14795022074149742563 tw1369583738048478861 tw3283333312429377421 tw14924213213801677420 tw4289089942982010396 tw10868183147180890562 tw7566089430070550195 tw10028199587550622901 tw15823130460048579040 tw18339631279729284443 tw4473493988540567251 tw16811188437493772013 tw1010870226850330133 tw14199763602087647026 tw18094746271001209768 tw17942421222722636336 tw8024761611115898959 tw3193994473533389593 tw4350653899064028354 tw11184929468936816628 tw6177245159589862624 tw4912470786456349908 tw1068153894794919029 tw15131085585918027523 tw2070546259087227682 tw14594849437742858066 tw151526669095357802 tw15309669728240556938 tw5288144451197172868 tw13119753976972316986 tw8545109547148516989 tw16719561578271323758 tw3540336523234704658 tw6770254922377557593 tw10325051644165669503 tw13168534791959365642 tw14618288684445374032 tw3467591342578076551 tw8622524953894685876 tw14896243692204846679 tw9373322250068864969 tw14228252682936135850 tw13823775853277120707 tw10097369834810988799 tw8639392761677279241 tw15464228914455401837 tw13432666572363507286 tw6309747325096049123 tw606959648793481276 tw4169021666539970582 tw3662656959542211172 tw15912536563708180384 tw4988091999665774441 tw1420002729067001998 tw6883918922609406317 tw12915509221282522350 tw10054817545693538496 tw4708358835205261156 tw11727084059542745507 tw15799990678061880077 tw8353220046121228269 tw13768512798558934435 tw10059319179753308058 tw14469219062100788293 tw1500067854428196125 tw8517445243053674189 tw212242061192916419 tw2503056382071681640 tw2649285476723453340 tw8508294208740680475 tw845231938316428852 tw6111611175969632645 tw12736331685783299028 tw15539324873682641944 tw13075281310663591387 tw1669934530128366126 tw3653074659886356930 tw13961822603145767461 tw3257346719256408261 tw6516417496428859428 tw17869147535786634048 tw5660305870096406416 tw6497351729893193189 tw2902156218310533228 tw792454529177848769 tw11237034337451086009 tw12839437593254695254 tw11693783195959295961 tw13166328549783925540 tw739846627022194035 tw7815732277695649523 tw9118979798572679166 tw10061804743056602533 tw8318684141350579865 tw396204700140706720 tw4055667776049326696 tw10422472378507986437 tw12215627902203588479 tw12833789514341794369 tw14763959741051250283 tw12281358458765706599 tw14913146740094353981 tw3313287047026646453 tw3195842036697445040 tw9940249875901124293 tw9871682766228796138 tw11784168702818535005 tw15728558616866360823 tw3447995524607752690 tw3174718416098200229 tw11958676660728485539 tw16677793866372550160 tw12670766921516335926 tw5192764300671298115 tw3304600368491314806 tw16533569329887018267 tw8217607308501358081 tw630200198170005334 tw4233445096019981215 tw3828281509572988592 tw18198867476855105991 tw2269863072505427892 tw7327168130478889717 tw6237456918998644512 tw7544851782313445561 tw5399811435717282989 tw13053934447245677763 tw15003710724930883878 tw5316863033288176748 tw12114623851953430023 tw8819056058753322565 tw6326096309680415510 tw1738187505850064000 tw9159394249168546425 tw1918994787433000093 tw2456214807947760798 tw13003996179929933794 tw15275638742971060241 tw7578957507200559859 tw2023271393457902067 tw1548195820513517232 tw1087928447560479507 tw7076715149984056277 tw7519423897911420496 tw8236763295915198826 tw16488814849448390042 tw2696364174440859064 tw7067231793961800288 tw9972619914823741202 tw2459594108851251310 tw15514251734282662157 tw15951500380828428961 tw8660241482334477765 tw8676284284606330786 tw6400172472124612810 tw7175532572226663101 tw12320521792482711337 tw8031774083298116185 tw2348822642376594583 tw10736401208137050755 tw1971239893052287444 tw12008017483780813725 tw17270739163785800053 tw4304021855524520471 tw12743465301354726426 tw14956569107072519474 tw5162452159630265422 tw8060211718177673545 tw28543837471530432 tw6735252093304697379 tw13039599161498057564 tw7111120161548312437 tw16362835742814845632 tw11121815152373806783 tw11073013790184660025 tw13747305811163166210 tw9818264251389031753 tw8038160042137078562 tw13902203737726837762 tw5900199718602181851 tw149775105218762226 tw7163970873184596827 tw15628534585816372250 tw17200292664945455351 tw3250914334577329648 tw14452565730941187332 tw16179767479041381428 tw18375440141687956057 tw10439725903240587016 tw15914175272362874148 tw4225241040753504254 tw9314417296460177189 tw16802328873458752327 tw137544458816625539 tw10243755807716288263 tw11223884498464922447 tw14108968233325012209 tw13735502972354891082 tw5906982669959870922 tw1584401482500486339 tw11691847307493441713 tw10563420879628779274 tw744774740986578078 tw11676891272902825655 tw13196950995829048359 tw17472904907315073465 tw12479264472284036803 tw17396086437390640795 tw15040405671602003402 tw5560560899023223352 tw18334075609269531455 tw10937702764556518375 tw12220127917520537639 tw13804677717876647009 tw8491327888664228132 tw7006461315173763333 tw1607551549965652849 tw2243360082966763037 tw9156907345002494505 tw11370288527654545382 tw5063751063387031543 tw7852185334225857517 tw784198915320354885 tw3881407468815547706 tw15386528055190182246 tw6704870759847381738 tw11131864918696885530 tw4929195644832694820 tw2268706705163915403 tw7918830966946370229 tw13469296455796125178 tw1755245815132928542 tw15056005919410490791 tw16807612074074885811 tw14973584197480083933 tw6141783307463101506 tw637165876857346658 tw11618427669879271088 tw10270851336152213508 tw5230756111263081148 tw17151128506571655228 tw14038048042217435960 tw10350059613020651108 tw6491627162112904935 tw10284384711240042662 tw12899371368753962155 tw3670023179392140952 tw6328947713458537478 tw12246070528541376132 tw16206645480190482615 tw18191746151038794443 tw6055775399156111624 tw16888796064965954396 tw5966350707647583495 tw3909237996137616485 tw4826254457060775617 tw13866895205216450782 tw1690946581192459679 tw704933917770896479 tw15959169665360613879 tw15971334300911123693 tw1300819652673274998 tw7131933647759114097 tw7863069768305064877 tw9469707849603802184 tw15466029614435783291 tw2844294834907496666 tw10991289135217735119 tw11212392711677786947 tw1905943956063275107 tw13139258444321064250 tw6378244007896290416 tw6979662258475837694 tw13306809381212554674 tw17693632106021636468 tw13884251323773383779 tw12283082744267890219 tw2591684286731233771 tw18345538923374125029 tw15869742240171616279 tw18105907101438432879 tw6442646232496766847 tw4308103116091521509 tw9393666033563561659 tw17361012735972747826 tw13531071645512710069 tw12922893518910238053 tw7683008744841822422 tw9659471352986551139 tw199520687652436908 tw11340338158488863927 tw2480161458159326286 tw11652543473989270608 tw2522536233336306744 tw467005946632912229 tw11995853591803125448 tw8121628267877176434 tw4259443258701244324 tw15020061798946920795 tw872151633539299471 tw9428211982647985339 tw9672450900311671070 tw4172168691509082146 tw4646206539409464619 tw822585627168158361 tw11309099419157717422 tw4480493534537353208 tw13394406973198133330 tw5927747105346258128 tw600442799700158805 tw14378514926855742044 tw16075949015521001932 tw8442876872221598140 tw18351961021287880184 tw702375021853988204 tw12361477061704844206 tw129786087835514355 tw18381102195340566067 tw12676429406167988214 tw13059444780811056281 tw14250543187023048040 tw10139133050047658339 tw4019512712322984928 tw9988469559409678535 tw17084417956705596976 tw7672579619468590586 tw18056692650054660514 tw10294825121683346117 tw9764172723897431332 tw898002127758644014 tw7825171768498857485 tw7893143375721934730 tw941637759569122318 tw12607963022178826757 tw17708059617920653630 tw1225254137818515365 tw17885613397848689839 tw10183988491530258675 tw18334459536168518707 tw18385028845105991059 tw14890286178429792748 tw12663806508402616738 tw13241146048765073064 tw109322499207070415 tw2787604533498541342 tw7248205766494092852 tw10795657457647803439 tw679225259403219631 tw7364161745866711174 tw5820380647539973834 tw8252788516924073937 tw3271659889527164718 tw8238949503660804498 tw16500346092222305483 tw163573862109561051 tw11511864009102590189 tw11259905107004263731 tw15331283719114154942 tw15196905893595554505 tw8082680331015420256 tw5139411618795263443 tw2759753882178737549 tw8600142469023019762 tw17771449845815227810 tw1219632308400445595 tw17686058905678943537 tw17336636915960005124 tw8607656069581844662 tw105311940841855116 tw12301901630001054429 tw13224870252475259920 tw10059456539215135793 tw2826031829422819883 tw15401966364306434254 tw10136338183819198346 tw7330773579530709252 tw9022235495105812601 tw6251863419937567188 tw2767433426177186228 tw3185608617063408272 tw11509108450105067992 tw1315161930375452294 tw1640919927738455690 tw7169593230595591213 tw1129820768227629108 tw6893533114879059891 tw2869081431579196589 tw11118716552020424393 tw2138741842231876524 tw6341440352069335041 tw1732598491124252876 tw13624772337442569226:True)
open PySem PySem.W PyProof.Rows
set_option maxRecDepth 100000 in
set_option maxHeartbeats 0 in
theorem PySem.Challenge.cw_moot_k14_refusals_apart_holds : PySem.Challenge.rw_moot_k14_refusals_apart.Holds := by
 w_on;o_law;k_head;(case hw=>w_witness2)
 k_fill;refine My.walk (l:=PySem.Challenge.rw_moot_k14_refusals_apart) rfl rfl (λw h Y=>PySem.W.kIn_of Y) ?F
 case F =>
  intro w mg fa h KX G hmg;refine' My.all_mk KX G hmg rfl ?a_1 ?l_1 ?cc_1 ?kp_1 ?a_2 ?l_2 ?cc_2 ?kp_2 ?a_3 ?l_3 ?cc_3 ?kp_3 ?a_4 ?l_4 ?cc_4 ?kp_4 ?a_5 ?l_5 ?cc_5 ?kp_5 ?a_6 ?l_6 ?cc_6 ?kp_6 ?a_7 ?l_7 ?cc_7 ?kp_7 ?a_8 ?l_8 ?cc_8 ?kp_8 ?a_9 ?l_9 ?cc_9 ?kp_9 ?a_10 ?l_10 ?jq8a ?jq8b ?a_11 ?l_11 ?jq8c ?jq8d ?a_12 ?l_12 ?jq8e ?jq8f ?a_13 ?l_13 ?jq8g ?jq8h ?a_14 ?l_14 ?jq8i ?jq8j ?a_15 ?l_15 ?jq8k ?jq8l ?a_16 ?l_16 ?jq8m ?jq8n ?a_17 ?l_17 ?jq8o ?jq8p ?a_18 ?l_18 ?jq8q ?jq8r ?a_19 ?l_19 ?jq8s ?jq8t ?a_20 ?l_20 ?jq8u ?jq8v ?a_21 ?l_21 ?jq8w ?jq8x ?a_22 ?l_22 ?jq8y ?jq8z ?a_23 ?l_23 ?jq8A ?jq8B ?a_24 ?l_24 ?jq8C ?jq8D ?z1 ?z2 ?z3 ?z4 ?z5 ?z6 ?z7 ?z8 ?z9 ?z10 ?jq4k ?ac0 ?ac1 ?ac2 ?ac3 ?ac4 ?ac5 ?ac6 ?ac7 ?acm ?atb ?ltb ?ktb ?rk0 ?rk1 ?rk2 ?rk3 ?rk4 ?rk5 ?rk6 ?rk7 ?pg0 ?hd0 ?po0 ?sa0 ?mk0 ?kc0 ?pg1 ?hd1 ?po1 ?sa1 ?mk1 ?kc1 ?pg2 ?hd2 ?po2 ?sa2 ?mk2 ?kc2 ?pg3 ?hd3 ?po3 ?sa3 ?mk3 ?kc3 ?pg4 ?hd4 ?po4 ?sa4 ?mk4 ?kc4 ?pg5 ?hd5 ?po5 ?sa5 ?mk5 ?kc5 ?pg6 ?hd6 ?po6 ?sa6 ?mk6 ?kc6 ?pg7 ?hd7 ?po7 ?sa7 ?mk7 ?kc7 ?jq6D ?jq8E ?jq7b ?jq6E ?jq7c ?jq6F ?jq8F ?jq7d ?jq6G ?jq7e ?jq6H ?jq8G ?jq7f ?jq6I ?jq7g ?jq6J ?jq8H ?jq7h ?jq6K ?jq7i ?jq6L ?jq8I ?jq7j ?jq6M ?jq7k ?jq6N ?jq8J ?jq7l ?jq6O ?jq7m ?jq6P ?jq8K ?jq7n ?jq6Q ?jq7o ?jq6R ?jq8L ?jq7p ?jq6S ?jq7q ?jq7r ?jq7s ?jq7t ?jq7u ?jq7v ?jq7w ?jq7x ?jq7y ?l_mr ?jq8M ?jq4t ?jq5m ?jq7z ?jq7A ?jq7B ?jq7C ?jq7D ?jq7E ?jq7F ?l_mn ?jq8N ?jq5n ?jq61 ?jq6T ?jq8O ?jq7G ?jq6U ?jq7H ?jq7I ?jq7J ?jq7K ?l_mt ?jq8P ?jq6C ?jq7a ?jq6V ?jq8Q ?jq7L ?jq6W ?jq7M ?jq6X ?jq8R ?jq7N ?jq6Y ?jq7O ?jq6Z ?jq8S ?jq7P ?jq70 ?jq7Q ?jq71 ?jq8T ?jq7R ?jq72 ?jq7S ?jq73 ?jq8U ?jq7T ?jq74 ?jq7U ?jq75 ?jq8V ?jq7V ?jq7W ?jq7X ?jq76 ?jq8W ?jq7Y ?jq7Z ?jq80 ?jq77 ?jq8X ?jq81 ?jq82 ?jq83 ?jq78 ?jq8Y ?jq84 ?jq85 ?jq86 ?jq79 ?jq8Z ?jq87 ?jq88 ?jq89 ?na0 ?na1 ?na2 ?na3 ?na7 ?ni4 ?ni5 ?ni6 ?jq5o ?jq5p ?jq5q ?jq5r ?jq5s ?jq5t ?jq5u ?jq3T ?jq4c ?jq3U ?jq3V ?jq3W ?jq3X ?jq4d ?jq3Y ?jq3t ?jq3Z ?jq40 ?jq4e ?jq41 ?jq3u ?jq42 ?jq43 ?jq4f ?jq44 ?jq3v ?jq45 ?jq46 ?jq4g ?jq47 ?jq3w ?jq48 ?jq3L ?jq49 ?jq3M ?jq3q ?jq3N ?jq3D ?jq3O ?jq3E ?jq3g ?jq3F ?jq2Y ?jq36 ?jq2Z ?jq2g ?jq30 ?jq3a ?jq3i ?jq3b ?jq2A ?jq3c ?jq3x ?jq3G ?jq3y ?jq37 ?jq3z ?jq3A ?jq3H ?jq3B ?jq38 ?jq3C ?jq3d ?jq3j ?jq3e ?jq2B ?jq3f ?jq1J ?jq1O ?jq1K ?jqr ?jq1L ?jq2x ?jq2C ?jq2y ?jqO ?jq2z ?jq2D ?jq2P ?jq2E ?jq1e ?jq2F ?jq3I ?jq3P ?jq3J ?jq3h ?jq3K ?jq31 ?jq39 ?jq32 ?jq2h ?jq33 ?jq3k ?jq3r ?jq3l ?jq2N ?jq3m ?jq2Q ?jq34 ?jq2R ?jq1M ?jq2S ?jq2T ?jq35 ?jq2U ?jq1N ?jq2V ?jq3n ?jq3s ?jq3o ?jq2O ?jq3p ?jq1f ?jq1 ?jq4 ?jq2 ?jq0 ?jq3 ?jqk ?jq5 ?jq6 ?jqc ?jq4a ?jq6r ?jq62 ?jq4u ?jq4v ?jq4w ?jq5v ?jq5w ?jq5x ?jq63 ?jq4x ?jq6s ?jq64 ?jq6t ?jq4y ?jq4z ?jq5y ?jq5z ?jq5A ?jq4A ?jq65 ?jq4B ?jq66 ?jq7 ?jq8 ?jq6u ?jq6v ?jq6w ?jq9 ?jqa ?jqb ?jq4C ?jq4D ?jq4E ?jq4F ?jq4G ?jq4H ?jq5B ?jq5C ?jq5D ?jq5E ?jq5F ?jq5G ?jq5H ?jq5I ?jq5J ?jq4I ?jq4J ?jq4K ?jq67 ?jq68 ?jq69 ?jq4L ?jq4M ?jq4N ?jq6a ?jq6b ?jq6c ?xhn ?xhtk ?jq3Q ?jq3R ?jq3S ?jq6x ?jq6d ?jq6y ?jq6z ?jq6A ?jq6B ?jqs ?jq2W ?jq2G ?jq1P ?jq1Q ?jq1R ?jq2i ?jq2j ?jq2k ?jq2H ?jq1S ?jq2X ?jq2I ?jqP ?jq4O ?jq4n ?jq4P ?jq4Q ?jq4R ?jq4S ?jqd ?jq1T ?jq1g ?jqw ?jqx ?jqy ?jqQ ?jqR ?jqS ?jq1h ?jqz ?jq1U ?jq1i ?jql ?jq4T ?jq4o ?jq4U ?jq4V ?jq4W ?jq4X ?jqe ?jq1V ?jq1j ?jqA ?jqB ?jqC ?jqT ?jqU ?jqV ?jq1k ?jqD ?jq1W ?jq1l ?jqm ?jq5K ?jq4Y ?jq5L ?jq5M ?jq5N ?jq5O ?jqh ?jq2l ?jq1X ?jqW ?jqX ?jqY ?jq1m ?jq1n ?jq1o ?jq1Y ?jqZ ?jq2m ?jq1Z ?jqt ?jq5P ?jq4Z ?jq5Q ?jq5R ?jq5S ?jq5T ?jqi ?jq2n ?jq20 ?jq10 ?jq11 ?jq12 ?jq1p ?jq1q ?jq1r ?jq21 ?jq13 ?jq2o ?jq22 ?jqu ?jq5U ?jq50 ?jq5V ?jq5W ?jq5X ?jq5Y ?jqj ?jq2p ?jq23 ?jq14 ?jq15 ?jq16 ?jq1s ?jq1t ?jq1u ?jq24 ?jq17 ?jq2q ?jq25 ?jqv ?jq51 ?jq4p ?jq52 ?jq53 ?jq54 ?jq55 ?jqf ?jq26 ?jq1v ?jqE ?jqF ?jqG ?jq18 ?jq19 ?jq1a ?jq1w ?jqH ?jq27 ?jq1x ?jqn ?jq5g ?jq4q ?jq5h ?jq6e ?jq6f ?jq6g ?jq5Z ?jq56 ?jq57 ?jq6h ?jq6i ?jq5i ?jq6j ?jqo ?jq2J ?jq2r ?jq1y ?jq1z ?jq1A ?jq28 ?jq29 ?jq2a ?jq2s ?jq1B ?jq2K ?jq2t ?jqI ?jq4h ?jq4b ?jq4i ?jq58 ?jq59 ?jq5a ?jq4r ?jq4l ?jq4m ?jq5b ?jq5c ?jq4j ?jq5d ?jqg ?jq2b ?jq1C ?jqJ ?jqK ?jqL ?jq1b ?jq1c ?jq1d ?jq1D ?jqM ?jq2c ?jq1E ?jqp ?jq5j ?jq4s ?jq5k ?jq6k ?jq6l ?jq6m ?jq60 ?jq5e ?jq5f ?jq6n ?jq6o ?jq5l ?jq6p ?jqq ?jq2L ?jq2u ?jq1F ?jq1G ?jq1H ?jq2d ?jq2e ?jq2f ?jq2v ?jq1I ?jq2M ?jq2w ?jqN
  (case a_1 | l_1 | cc_1 | kp_1 | a_2 | l_2 | cc_2 | kp_2 | a_3 | l_3 | cc_3 | kp_3 | a_4 | l_4 | cc_4 | kp_4 | a_5 | l_5 | cc_5 | kp_5 | a_6 | l_6 | cc_6 | kp_6 | a_7 | l_7 | cc_7 | kp_7 | a_8 | l_8 | cc_8 | kp_8 | a_9 | l_9 | cc_9 | kp_9 | a_10 | l_10 | jq8a | jq8b | a_11 | l_11 | jq8c | jq8d | a_12 | l_12 | jq8e | jq8f | a_13 | l_13 | jq8g | jq8h | a_14 | l_14 | jq8i | jq8j | a_15 | l_15 | jq8k | jq8l | a_16 | l_16 | jq8m | jq8n | a_17 | l_17 | jq8o | jq8p | a_18 | l_18 | jq8q | jq8r | a_19 | l_19 | jq8s | jq8t | a_20 | l_20 | jq8u | jq8v | a_21 | l_21 | jq8w | jq8x | a_22 | l_22 | jq8y | jq8z | a_23 | l_23 | jq8A | jq8B | a_24 | l_24 | jq8C | jq8D | z1 | z2 | z3 | z4 | z5 | z6 | z7 | z8 | z9 | z10 | jq4k | ac0 | ac1 | ac2 | ac3 | ac4 | ac5 | ac6 | ac7 | acm | atb | ltb=>k_is)
  (case ktb=>k_keys)
  (case rk0 | rk1 | rk2 | rk3 | rk4 | rk5 | rk6 | rk7 | pg0 | hd0 | po0 | sa0 | mk0 | kc0 | pg1 | hd1 | po1 | sa1 | mk1 | kc1 | pg2 | hd2 | po2 | sa2 | mk2 | kc2 | pg3 | hd3 | po3 | sa3 | mk3 | kc3 | pg4 | hd4 | po4 | sa4 | mk4 | kc4 | pg5 | hd5 | po5 | sa5 | mk5 | kc5 | pg6 | hd6 | po6 | sa6 | mk6 | kc6 | pg7 | hd7 | po7 | sa7 | mk7 | kc7 | jq6D | jq8E | jq7b | jq6E | jq7c | jq6F | jq8F | jq7d | jq6G | jq7e | jq6H | jq8G | jq7f | jq6I | jq7g | jq6J | jq8H | jq7h | jq6K | jq7i | jq6L | jq8I | jq7j | jq6M | jq7k | jq6N | jq8J | jq7l | jq6O | jq7m | jq6P | jq8K | jq7n | jq6Q | jq7o | jq6R | jq8L | jq7p | jq6S | jq7q | jq7r | jq7s | jq7t | jq7u | jq7v | jq7w | jq7x | jq7y | l_mr | jq8M | jq4t | jq5m | jq7z | jq7A | jq7B | jq7C | jq7D | jq7E | jq7F | l_mn | jq8N | jq5n | jq61 | jq6T | jq8O | jq7G | jq6U | jq7H | jq7I | jq7J | jq7K | l_mt | jq8P | jq6C | jq7a | jq6V | jq8Q | jq7L | jq6W | jq7M | jq6X | jq8R | jq7N | jq6Y | jq7O | jq6Z | jq8S | jq7P | jq70 | jq7Q | jq71 | jq8T | jq7R | jq72 | jq7S | jq73 | jq8U | jq7T | jq74 | jq7U | jq75 | jq8V | jq7V | jq7W | jq7X | jq76 | jq8W | jq7Y | jq7Z | jq80 | jq77 | jq8X | jq81 | jq82 | jq83 | jq78 | jq8Y | jq84 | jq85 | jq86 | jq79 | jq8Z | jq87 | jq88 | jq89 | na0 | na1 | na2 | na3 | na7 | ni4 | ni5 | ni6 | jq5o | jq5p | jq5q | jq5r | jq5s | jq5t | jq5u | jq3T | jq4c | jq3U | jq3V | jq3W | jq3X | jq4d | jq3Y | jq3t | jq3Z | jq40 | jq4e | jq41 | jq3u | jq42 | jq43 | jq4f | jq44 | jq3v | jq45 | jq46 | jq4g | jq47 | jq3w | jq48 | jq3L | jq49 | jq3M | jq3q | jq3N | jq3D | jq3O | jq3E | jq3g | jq3F | jq2Y | jq36 | jq2Z | jq2g | jq30 | jq3a | jq3i | jq3b | jq2A | jq3c | jq3x | jq3G | jq3y | jq37 | jq3z | jq3A | jq3H | jq3B | jq38 | jq3C | jq3d | jq3j | jq3e | jq2B | jq3f | jq1J | jq1O | jq1K | jqr | jq1L | jq2x | jq2C | jq2y | jqO | jq2z | jq2D | jq2P | jq2E | jq1e | jq2F | jq3I | jq3P | jq3J | jq3h | jq3K | jq31 | jq39 | jq32 | jq2h | jq33 | jq3k | jq3r | jq3l | jq2N | jq3m | jq2Q | jq34 | jq2R | jq1M | jq2S | jq2T | jq35 | jq2U | jq1N | jq2V | jq3n | jq3s | jq3o | jq2O | jq3p | jq1f | jq1 | jq4 | jq2 | jq0 | jq3 | jqk | jq5 | jq6 | jqc | jq4a | jq6r | jq62 | jq4u | jq4v | jq4w | jq5v | jq5w | jq5x | jq63 | jq4x | jq6s | jq64 | jq6t | jq4y | jq4z | jq5y | jq5z | jq5A | jq4A | jq65 | jq4B | jq66 | jq7=>k_is)
  (case jq8=>rfl)
  (case jq6u=>k_is)
  (case jq6v=>with_unfolding_all rfl)
  (case jq6w | jq9=>k_is)
  (case jqa=>with_unfolding_all rfl)
  (case jqb | jq4C=>k_is)
  (case jq4D=>with_unfolding_all rfl)
  (case jq4E | jq4F=>k_is)
  (case jq4G=>with_unfolding_all rfl)
  (case jq4H | jq5B=>k_is)
  (case jq5C=>with_unfolding_all rfl)
  (case jq5D | jq5E=>k_is)
  (case jq5F=>with_unfolding_all rfl)
  (case jq5G | jq5H=>k_is)
  (case jq5I=>with_unfolding_all rfl)
  (case jq5J | jq4I=>k_is)
  (case jq4J=>with_unfolding_all rfl)
  (case jq4K | jq67=>k_is)
  (case jq68=>with_unfolding_all rfl)
  (case jq69 | jq4L=>k_is)
  (case jq4M=>with_unfolding_all rfl)
  (case jq4N | jq6a=>k_is)
  (case jq6b=>with_unfolding_all rfl)
  (case jq6c | xhn | xhtk | jq3Q | jq3R | jq3S | jq6x | jq6d | jq6y | jq6z | jq6A | jq6B=>k_is)
  (case jqs=>kts_exm)
  (case jq2W | jq2G | jq1P | jq1Q | jq1R | jq2i | jq2j | jq2k | jq2H | jq1S | jq2X | jq2I | jqP=>kit_is)
  (case jq4O | jq4n | jq4P | jq4Q | jq4R | jq4S=>k_is)
  (case jqd=>kts_exm)
  (case jq1T | jq1g | jqw | jqx | jqy | jqQ | jqR | jqS | jq1h | jqz | jq1U | jq1i | jql=>kit_is)
  (case jq4T | jq4o | jq4U | jq4V | jq4W | jq4X=>k_is)
  (case jqe=>kts_exm)
  (case jq1V | jq1j | jqA | jqB | jqC | jqT | jqU | jqV | jq1k | jqD | jq1W | jq1l | jqm=>kit_is)
  (case jq5K | jq4Y | jq5L | jq5M | jq5N | jq5O=>k_is)
  (case jqh=>kts_exm)
  (case jq2l | jq1X | jqW | jqX | jqY | jq1m | jq1n | jq1o | jq1Y | jqZ | jq2m | jq1Z | jqt=>kit_is)
  (case jq5P | jq4Z | jq5Q | jq5R | jq5S | jq5T=>k_is)
  (case jqi=>kts_exm)
  (case jq2n | jq20 | jq10 | jq11 | jq12 | jq1p | jq1q | jq1r | jq21 | jq13 | jq2o | jq22 | jqu=>kit_is)
  (case jq5U | jq50 | jq5V | jq5W | jq5X | jq5Y=>k_is)
  (case jqj=>kts_exm)
  (case jq2p | jq23 | jq14 | jq15 | jq16 | jq1s | jq1t | jq1u | jq24 | jq17 | jq2q | jq25 | jqv=>kit_is)
  (case jq51 | jq4p | jq52 | jq53 | jq54 | jq55=>k_is)
  (case jqf=>kts_exm)
  (case jq26 | jq1v | jqE | jqF | jqG | jq18 | jq19 | jq1a | jq1w | jqH | jq27 | jq1x | jqn=>kit_is)
  (case jq5g | jq4q | jq5h | jq6e | jq6f | jq6g | jq5Z | jq56 | jq57 | jq6h | jq6i | jq5i | jq6j=>k_is)
  (case jqo=>kts_exm)
  (case jq2J | jq2r | jq1y | jq1z | jq1A | jq28 | jq29 | jq2a | jq2s | jq1B | jq2K | jq2t | jqI=>kit_is)
  (case jq4h | jq4b | jq4i | jq58 | jq59 | jq5a | jq4r | jq4l | jq4m | jq5b | jq5c | jq4j | jq5d=>k_is)
  (case jqg=>kts_exm)
  (case jq2b | jq1C | jqJ | jqK | jqL | jq1b | jq1c | jq1d | jq1D | jqM | jq2c | jq1E | jqp=>kit_is)
  (case jq5j | jq4s | jq5k | jq6k | jq6l | jq6m | jq60 | jq5e | jq5f | jq6n | jq6o | jq5l | jq6p=>k_is)
  (case jqq=>kts_exm)
  (case jq2L | jq2u | jq1F | jq1G | jq1H | jq2d | jq2e | jq2f | jq2v | jq1I | jq2M | jq2w | jqN=>kit_is)
