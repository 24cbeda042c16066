import PyProof.Rows.All
import Wide.All
import OpenK.AllK
import Wide.FinOn
import Lean
import PyProof.EqAt
import PyProof.EqKinds
import PyProof.TupleCall
import PySem.Challenge.RW_moot_k13_whole_each_deed
set_option Elab.async false
set_option linter.all false
set_option maxRecDepth 100000
open PySem.Str renaming ofString → ar, join → sr, empty → akc
open PySem.W renaming Frag → ba, findIn → bo, keepIn → da, exmOne → de, codeIn → di, nsIn → eg, fnOf → fu, mg_of → kg, isFn → ma, hasDictIn → aj4, emptyDict → aj6, instObj → akf, plainGet → akg, mg_none_of → aki, plainOver → akn, makesIn → aks, mroIn → akt, kia_one → akx, methodCall_KW → akC, looks_findIn → ak3, callWith_K0 → ak6, callWith_K → ak8
open List renaming length_map → cb, mem_cons_self → gn, map_cons → kj, size_toArray → ko, mem_cons_of_mem → kq, map_append → kx, length_append → ky, getElem?_eq_getElem → wa, mem_append_right → Lk, length_cons → ajK, getD_eq_getElem?_getD → ajO, length_singleton → ajW, eq_nil_or_concat → ajX, concat_eq_append → ajY, cons_ne_nil → aj5, getElem?_map → aj7, getElem?_cons_zero → aj8, range' → aj9, mem_of_getElem? → aka, mem_singleton → akd, getElem?_cons_succ → ake, map_nil → akj, find?_cons → akl, length_take → akm, lookup → ako, getLast?_concat → akp, mem_append_left → akv, length_set → aky, length_range' → akF, mem_range'_1 → akK, dropLast_concat → akO, append_assoc → akQ, length_zip → akR, map_congr_left → akS, getElem?_set_self → akT, length_drop → akV, lookup_cons → akW, append_nil → ak1, getElem?_set_ne → ak2, take_length → ak7, length_nil → ak9, Perm → ala
open PySem renaming wpAny_bind → fe, mainGlobals → gr, sizeLine → ka, FuncData → ki, Program → rf, wpAny_pure → tm, starEach → ajJ, wpAny → ajL, Spec → ajS, wpAny_mono → ajT, excClassObj → akh, bootBuiltins → aku, wpAny_holding → akw, wpAny_standAt → akD, compareOp → akG, DictEntry → akI, mem_of_lookup → akL, sysModules → akY
open PySem.Heap renaming get?_push_of_some → kf, lt_size → si, get?_push_size → ajU, get?_update_other → akq, get?_update_self → akM
open Sum renaming inl → km, inr → tu
open Nat renaming le_refl → kr, le_trans → ajI, lt_of_lt_of_le → ajM, ne_of_lt → ajV, le_succ_of_le → aj0, zero_le → akB, le_succ → akH
open Bool renaming false_ne_true → ku, and_self → akb, and_eq_true → akz
open PySem.PyData renaming canLayAll0 → me, canLay0 → ajN, strOk → ajZ, depthAll → aj1, depth → akk, eqv → akZ, str → alc
open PySem.F renaming plainAttrs_list → om, slot_list_append → ajQ, type_list_append → ajR, plainAttrs_str → akU
open Or renaming inl → wt
open PySem.Value renaming ref → adm, none → akX, bool → alb
open Option.some renaming inj → ajP
open Ne renaming symm → aj2
open False renaming elim → aj3
open Int renaming emod_lt_of_pos → akr, emod_nonneg → akE
open True renaming intro → akA
open PySem.Obj renaming mapFields → akJ
open PySem.NameKind renaming free → akN
open PySem.Builtin.Str renaming occurrences → akP
open PySem.Builtin.Slice renaming slicePlaces → ak0
open PySem.Builtin.Tuple renaming tupleExact → ak4
open Array renaming length_toList → ak5
namespace L2
open PySem PySem.Spec PyProof.Rows
abbrev Key:=Sum Int Str
def Aw:Key->Value->Bool
 | .inl k,v=>Value.isInt k v
 | .inr x,v=>Value.isStrOf x v
def ag1 (w:World):Key->Int
 | .inl k=>hashInt k
 | .inr x=>hashStr w x
theorem dN:∀ {k:Key} {v:Value},Aw k v=true->(∃i t,k=km i/\v=Value.int i t)\/(∃x t,k=tu x/\v=Value.str x t)
 | .inl i,v,h=>by
  obtain⟨t,e⟩:=Value.isInt_shape (k:=i) (v:=v) h;exact .inl ⟨i,t,rfl,e⟩
 | .inr x,v,h=>by
  obtain⟨t,e⟩:=Value.isStrOf_shape (x:=x) (v:=v) h;exact .inr ⟨x,t,rfl,e⟩
theorem ML (i:Int)(t:Tok):Aw (.inl i) (.int i t)=true:=by simp[Aw,Value.isInt]
theorem MM (x:Str)(t:Tok):Aw (.inr x) (.str x t)=true:=by simp[Aw,Value.isStrOf]
theorem Vi (a b:Int):decide ((km a:Key)=km b)=(a == b):=by
 by_cases e:a=b
 ·subst e;simp
 ·have h:¬(km a:Key)=km b:=λq=>e (Sum.inl.inj q)
  rw[decide_eq_false h];exact(beq_eq_false_iff_ne.mpr e).symm
theorem Vj (a b:Str):decide ((tu a:Key)=tu b)=decide (a=b):=by
 by_cases e:a=b
 ·subst e;simp
 ·have h:¬(tu a:Key)=tu b:=λq=>e (Sum.inr.inj q)
  rw[decide_eq_false h,decide_eq_false e]
theorem Vk (a:Int)(b:Str):decide ((km a:Key)=tu b)=false:=decide_eq_false (λq=>nomatch q)
theorem Vl (a:Str)(b:Int):decide ((tu a:Key)=km b)=false:=decide_eq_false (λq=>nomatch q)
def cZ (prog:rf)(w:World):PySem.KeyKind prog w Key where
 is:=Aw
 hash:=ag1 w
 inj:=λv a b ha hb=>by
  rcases dN ha with ⟨i,t,rfl,rfl⟩ | ⟨x,t,rfl,rfl⟩
  ·rcases dN hb with ⟨j,u,rfl,e⟩ | ⟨y,u,rfl,e⟩
   ·injection e with e1 _;rw[e1]
   ·exact nomatch e
  ·rcases dN hb with ⟨j,u,rfl,e⟩ | ⟨y,u,rfl,e⟩
   ·exact nomatch e
   ·injection e with e1 _;rw[e1]
 byValue:=λk v h=>by
  rcases dN h with ⟨i,t,rfl,rfl⟩ | ⟨x,t,rfl,rfl⟩ <;> rfl
 pyHash:=λhv h=>by
  rcases dN hv with ⟨i,t,rfl,rfl⟩ | ⟨x,t,rfl,rfl⟩
  ·exact wpAny_pyHash_int h
  ·exact wpAny_pyHash_str h
 eqBool:=λhu hv h=>by
  rcases dN hu with ⟨i,t,rfl,rfl⟩ | ⟨x,t,rfl,rfl⟩
  ·rcases dN hv with ⟨j,u,rfl,rfl⟩ | ⟨y,u,rfl,rfl⟩
   ·rw[Vi]at h;exact wpAny_eqBool_int h
   ·rw[Vk]at h;exact SeqAt.EqAt.int_str i t y u _ _ _ _ h
  ·rcases dN hv with ⟨j,u,rfl,rfl⟩ | ⟨y,u,rfl,rfl⟩
   ·rw[Vl]at h;exact SeqAt.EqAt.str_int x t j u _ _ _ _ h
   ·rw[Vj]at h;exact wpAny_eqBool_str h
 «strs»:=λk x t v h=>by
  rcases dN h with ⟨i,u,rfl,e⟩ | ⟨y,u,rfl,e⟩
  ·exact nomatch e
  ·injection e with e1 _
   subst e1;cases v <;> rfl
theorem FC (prog:rf)(w:World)(i:Int)(t:Tok):(cZ prog w).is (.inl i) (.int i t)=true:=ML i t
theorem FD (prog:rf)(w:World)(x:Str)(t:Tok):(cZ prog w).is (.inr x) (.str x t)=true:=MM x t
end L2
namespace L2
open PySem PySem.Spec PyProof.Rows
inductive V where
 |non | bl (b:Bool) | int (i:Int) | str (x:Str) | byt (b:Array UInt8) | flt (b:UInt64) | ref (a:Addr) | ty (n:String)
 deriving DecidableEq
def RelV:V->Value->Prop
 | .non,u=>u=akX
 | .bl b,u=>u=alb b
 | .int i,u=>∃t,u=Value.int i t
 | .str x,u=>∃t,u=Value.str x t
 | .byt b,u=>∃t,u=Value.bytes b t
 | .flt b,u=>∃t,u=Value.float b t
 | .ref a,u=>u=adm a
 | .ty n,u=>u=Value.type n
abbrev Vals:List V->List Value->Prop:=Paired RelV
theorem Vals.length {xs:List V}{us:List Value}(r:Vals xs us):xs.length=us.length:=Paired.length r
theorem Vals.get:∀ {xs:List V} {us:List Value} {i:Nat} {x:V},Vals xs us->xs[i]?=some x->∃u,us[i]?=some u/\RelV x u
 |_,_,_,_,.nil,e=>by simp at e
 |_,_,0,_,.cons r _,e=>by simp at e;subst e;exact⟨_,rfl,r⟩
 |_,_,i+1,x,.cons _ t,e=>by
  obtain⟨u,h1,h2⟩:=Vals.get (i:=i) (x:=x) t (by simpa using e)
  exact⟨u,by simpa using h1,h2⟩
theorem Vals.set {x:V}{u:Value}(r:RelV x u):∀ {xs:List V} {us:List Value} (i:Nat),Vals xs us->Vals (xs.set i x) (us.set i u)
 |_,_,_,.nil=>.nil
 |_,_,0,.cons _ t=>.cons r t
 |_,_,i+1,.cons q t=>.cons q (Vals.set r i t)
theorem Vals.append:∀ {xs ys:List V} {us ws:List Value},Vals xs us->Vals ys ws->Vals (xs++ys) (us++ws)
 |_,_,_,_,.nil,s=>s
 |_,_,_,_,.cons r t,s=>.cons r (Vals.append t s)
theorem Vals.take:∀ {xs:List V} {us:List Value} (n:Nat),Vals xs us->Vals (xs.take n) (us.take n)
 |_,_,0,_=>.nil
 |_,_,_+1,.nil=>.nil
 |_,_,n+1,.cons r t=>.cons r (Vals.take n t)
theorem Vals.drop:∀ {xs:List V} {us:List Value} (n:Nat),Vals xs us->Vals (xs.drop n) (us.drop n)
 |_,_,0,r=>r
 |_,_,_+1,.nil=>.nil
 |_,_,n+1,.cons _ t=>Vals.drop n t
theorem Vals.none_of:∀ {xs:List V} {us:List Value} {i:Nat},Vals xs us->xs[i]?=none->us[i]?=none:=λ{xs us i} r e=>by
 have h1:=r.length;have h2:xs.length<=i:=List.getElem?_eq_none_iff.mp e;exact List.getElem?_eq_none_iff.mpr (by omega)
def oF:Option V->Option Value->Prop
 |some v,some u=>RelV v u
 |none,none=>True
 |_,_=>False
def KV {κ:Type}:List (κ×V)->List (κ×Value)->Prop:=Paired λ(p:κ×V) (q:κ×Value)=>p.1=q.1/\RelV p.2 q.2
def kV:Key->V
 | .inl i=>.int i
 | .inr x=>.str x
inductive HO where
 |lst (xs:List V)
 |tup (xs:List V)
 |dK (kvs:List (Key×V)) | dT (kvs:List (List Key×V))
 |set (S:Int->Bool) (n:Nat)
 |ins (C dx:Addr) (fs:List (Str×V))
 |own (x:Addr)
 |xd (fs:List (Str×V))
 |met (f x:Addr)
 |rng (lo hi:Int)
 |frz (o:Obj) (u:HO)
 |tbl (ps:Array Value)
 |ext (φ:Heap->Prop)
abbrev Hp:=Addr->Option HO
def upd (H:Hp)(a:Addr)(o:HO):Hp:=λb=>if b=a then some o else H b
theorem ae {H:Hp}{a:Addr}{o:HO}:upd H a o a=some o:=by unfold upd;rw[if_pos rfl]
theorem aq {H:Hp}{a b:Addr}{o:HO}(h:b≠a):upd H a o b=H b:=by unfold upd;rw[if_neg h]
theorem nc {H:Hp}{a:Addr}{o u:HO}:upd (upd H a o) a u=upd H a u:=by
 funext b;unfold upd;split <;> rfl
theorem ZD {H:Hp}{a b:Addr}{o u:HO}(h:H a=some o)(h':H b=some u)(d:o≠u):a≠b:=by
 intro e;subst e;rw[h]at h';exact d (ajP h')
theorem aG {H:Hp}{a b:Addr}{o:HO}(h:H a=some o)(h':H b=none):a≠b:=by
 intro e;subst e;rw[h]at h';cases h'
section
variable(P:rf)(w:World)
def dU (H:Hp)(h:Heap)(a:Addr):HO->Prop
 | .lst xs=>xs.length<=ka/\∃(its:List Value) (n:Nat),Vals xs its/\h.get? a=some { cls:=.type "list",data:=.seq its.toArray n }
 | .tup xs=>xs.length<=ka/\∃its:List Value,Vals xs its/\IsTup h a its.toArray
 | .dK kvs=>kvs.length<=ka/\(a == akY)=false/\∃vs,KV kvs vs/\h.DictOf (cZ P w) a vs
 | .dT kvs=>kvs.length<=ka/\(a == akY)=false/\∃xs:List (List Key×Addr×Value),
   Paired (λ(p:List Key×V) (q:List Key×Addr×Value)=>p.1=q.1/\H q.2.1=some (.tup (p.1.map kV))/\RelV p.2 q.2.2) kvs xs /\
   ∃o es ep,h.get? a=some o/\o.ExactDict/\o.data=.dict es ep/\es.toList=xs.map (entryOfKey (tupleKind (cZ P w)))/\(xs.map (·.1)).Nodup
 | .set S n=>h.SetOf (intKind P w) a S n
 | .ins C dx fs=>H dx=some (.own a)/\fs.length<=1000/\dx≠a/\h.get? a=some (akf C dx) /\
   ∃mA,h.Ns1 dx mA/\(∀f,oF (fs.lookup f) (mA f))/\PySem.Within mA (fs.map (·.1))
 | .own _=>∃o,h.get? a=some o
 | .xd fs=>∃mA,h.Ns1 a mA/\∀f,oF (fs.lookup f) (mA f)
 | .rng lo hi=>∃t u v,h.get? a=some { cls:=.type "range",data:=.fields #[.int lo t,.int hi u,.int 1 v] }
 | .frz o u=>h.get? a=some o/\dU H h a u
 | .tbl ps=>h.get? a=some { cls:=.none,data:=.fields ps }
 | .met f x=>h.get? a=some (PySem.W.methodObj (.ref f) (.ref x))
 | .ext φ=>φ h/\(∃o,h.get? a=some o)/\∀h1 h2:Heap,φ h1->(∀o,h1.get? a=some o->h2.get? a=some o)->φ h2
def HOk (H:Hp)(h:Heap):Prop:=∀a o,H a=some o->dU P w H h a o
end
section
variable{P:rf}{w:World}{H H':Hp}{h h':Heap}{a:Addr}{o:HO}
theorem dU.lt (x:dU P w H h a o):a < h.objs.size:=by
 cases o with
 |lst xs=>obtain⟨_,_,_,_,e⟩:=x;exact si e
 |tup xs=>obtain⟨_,_,_,p⟩:=x;exact p.lt
 |dK kvs=>obtain⟨_,_,_,_,o,_,_,e,_⟩:=x;exact si e
 |dT kvs=>obtain⟨_,_,_,_,o,_,_,e,_⟩:=x;exact si e
 |set S n=>obtain⟨o,_,_,_,e,_⟩:=x;exact si e
 |ins C dx fs=>obtain⟨_,_,_,e,_⟩:=x;exact si e
 |own y=>obtain⟨_,e⟩:=x;exact si e
 |xd fs=>obtain⟨_,⟨_,_,_,e,_⟩,_⟩:=x;exact si e
 |rng lo hi=>obtain⟨_,_,_,e⟩:=x;exact si e
 |frz ob u=>obtain⟨e,_⟩:=x;exact si e
 |tbl ps=>exact si (show h.get? a=some _ from x)
 |met f y=>exact si (show h.get? a=some _ from x)
 |ext φ=>obtain⟨_,⟨_,e⟩,_⟩:=x;exact si e
theorem Paired.Vm {α β:Type}{F G:α->β->Prop}:∀ {l₁:List α} {l₂:List β},Paired F l₁ l₂->(∀a b,F a b->G a b)->Paired G l₁ l₂
 |_,_,.nil,_=>.nil
 |_,_,.cons r t,f=>.cons (f _ _ r) (Paired.Vm t f)
theorem dU.Cu (x:dU P w H h a o)(k:∀b u,(b=a\/H b=some (.own a))->h.get? b=some u->h'.get? b=some u)
  (ho:∀b,H b=some (.own a)->H' b=some (.own a)) (ht:∀b xs,H b=some (.tup xs)->H' b=some (.tup xs)):dU P w H' h' a o:=by
 induction o with
 |lst xs=>obtain⟨z,its,n,r,e⟩:=x;exact⟨z,its,n,r,k _ _ (.inl rfl) e⟩
 |tup xs=>obtain⟨z,its,r,ob,e,c⟩:=x;exact⟨z,its,r,ob,k _ _ (.inl rfl) e,c⟩
 |dK kvs=>obtain⟨z,y,vs,r,ob,es,ep,e,c⟩:=x;exact⟨z,y,vs,r,ob,es,ep,k _ _ (.inl rfl) e,c⟩
 |dT kvs =>
  obtain⟨z,y,xs,r,ob,es,ep,e,c⟩:=x;exact⟨z,y,xs,Paired.Vm r λp q z=>⟨z.1,ht _ _ z.2.1,z.2.2⟩,ob,es,ep,k _ _ (.inl rfl) e,c⟩
 |set S n=>obtain⟨ob,es,ep,t,e,c⟩:=x;exact⟨ob,es,ep,t,k _ _ (.inl rfl) e,c⟩
 |ins C dx fs =>
  obtain⟨d,z,ne,e,mA,⟨od,es,ep,e2,c⟩,r⟩:=x;exact⟨ho _ d,z,ne,k _ _ (.inl rfl) e,mA,⟨od,es,ep,k _ _ (.inr d) e2,c⟩,r⟩
 |own y=>obtain⟨ob,e⟩:=x;exact⟨ob,k _ _ (.inl rfl) e⟩
 |xd fs=>obtain⟨mA,⟨od,es,ep,e,c⟩,r⟩:=x;exact⟨mA,⟨od,es,ep,k _ _ (.inl rfl) e,c⟩,r⟩
 |rng lo hi=>obtain⟨t,u,v,e⟩:=x;exact⟨t,u,v,k _ _ (.inl rfl) e⟩
 |frz ob u ih=>obtain⟨e,q⟩:=x;exact⟨k _ _ (.inl rfl) e,ih q⟩
 |tbl ps =>
  have e:h.get? a=some { cls:=.none,data:=.fields ps }:=x;show h'.get? a=some { cls:=.none,data:=.fields ps };exact k a _ (.inl rfl) e
 |met f y =>
  have e:h.get? a=some (PySem.W.methodObj (.ref f) (.ref y)):=x;show h'.get? a=some (PySem.W.methodObj (.ref f) (.ref y));exact k a _ (.inl rfl) e
 |ext φ=>obtain⟨p,⟨o,e⟩,st⟩:=x;exact⟨st _ _ p λo q=>k _ _ (.inl rfl) q,⟨o,k _ _ (.inl rfl) e⟩,st⟩
theorem HOk.lt (x:HOk P w H h)(e:H a=some o):a < h.objs.size:=(x a o e).lt
theorem HOk.fresh (x:HOk P w H h)(e:h.objs.size<=a):H a=none:=by
 cases q:H a with
 |none=>rfl
 |some u=>exact absurd (ajM (x.lt q) e) (Nat.lt_irrefl _)
theorem HOk.kept (x:HOk P w H h)(k:∀b u,h.get? b=some u->h'.get? b=some u):HOk P w H h':=λa o e =>
 (x a o e).Cu (λb u _ q=>k b u q) (λ_ q=>q) λ_ _ q=>q
theorem HOk.laid (x:HOk P w H h)(k:∀b u,h.get? b=some u->h'.get? b=some u)(hp:h.objs.size<=a)(new:dU P w (upd H a o) h' a o):HOk P w (upd H a o) h':=λb u e=>by
 have hn:=x.fresh hp
 by_cases hb:b=a
 ·subst hb;rw[ae]at e;cases e;exact new
 ·rw[aq hb]at e;exact(x b u e).Cu (λc v _ q=>k c v q) (λc q=>by rw[aq (aG q hn)];exact q) λc xs q=>by rw[aq (aG q hn)];exact q
end
def Rd (H:Hp)(a:Addr)(u:HO):Prop:=H a=some u\/∃o,H a=some (.frz o u)
theorem Rd.of {H:Hp}{a:Addr}{u:HO}(h:H a=some u):Rd H a u:=.inl h
theorem Rd.ok {P:rf}{w:World}{H:Hp}{h:Heap}{a:Addr}{u:HO}(r:Rd H a u)(x:HOk P w H h):dU P w H h a u:=by
 rcases r with r | ⟨o,r⟩
 ·exact x a u r
 ·obtain⟨_,q⟩:=x a _ r;exact q
def Mut:Option HO->Prop
 |some (.lst _)=>True
 |some (.dK _)=>True
 |some (.dT _)=>True
 |some (.set _ _)=>True
 |some (.ins _ _ _)=>True
 |some (.ext _)=>True
 |_=>False
section
variable{P:rf}{w:World}{H:Hp}{h h':Heap}{x e:Addr}{o':HO}
theorem HOk.write (ok:HOk P w H h)(mu:Mut (H x))(he:e=x\/H e=some (.own x))(k:∀b u,b≠e->h.get? b=some u->h'.get? b=some u)(heo:∃u,h'.get? e=some u)
  (new:dU P w (upd H x o') h' x o'):HOk P w (upd H x o') h':=λb u q=>by
 have ZE:∀c y,H c=some (.own y)->c≠x:=λc y r z=>by subst z;rw[r]at mu;exact mu
 have ag2:∀c xs,H c=some (.tup xs)->c≠x:=λc xs r z=>by subst z;rw[r]at mu;exact mu
 by_cases hb:b=x
 ·subst hb;rw[ae]at q;cases q;exact new
 ·rw[aq hb]at q
  by_cases hbe:b=e
  ·have q':H b=some (.own x):=by
    rcases he with z | z
    ·exact absurd (hbe.trans z) hb
    ·rw[hbe];exact z
   rw[q]at q';cases q';obtain⟨v,hv⟩:=heo;exact⟨v,by rw[hbe];exact hv⟩
  ·refine(ok b u q).Cu (λc v hc r=>k c v ?_ r) (λc r=>by rw[aq (ZE c b r)];exact r) λc xs r=>by rw[aq (ag2 c xs r)];exact r
   rcases hc with rfl | hc
   ·exact hbe
   ·rintro rfl;rcases he with z | z
    ·exact ZE c b hc z
    ·rw[hc]at z;cases z;exact hb rfl
end
structure Un (fs ex:List Addr)(H H':Hp)(h h':Heap):Prop where
 keep:∀b o,h.get? b=some o->H b=none->b∉fs->b∉ex->h'.get? b=some o
 slot:∀b o,h.get? b=some o->H b=none->b∈fs->b∉ex->∃sl,h'.get? b=some { o with slots:=sl }
 free:∀b o,h.get? b=some o->H b=none->b∉ex->H' b=none
 there:∀b o,h.get? b=some o->b∉ex->∃o',h'.get? b=some o'
 u5:∀b xs,H b=some (.tup xs)->H' b=some (.tup xs)
 uj:∀b o u,H b=some (.frz o u)->H' b=some (.frz o u)
 u9:∀b ps,H b=some (.tbl ps)->∃more,H' b=some (.tbl (ps++more))
section
variable{fs fs' ex ex':List Addr}{H H1 H2:Hp}{h h1 h2 h':Heap}{a x e:Addr}{o:HO}
theorem Un.any (u:Un fs ex H H1 h h1){b:Addr}{ob:Obj}(q:h.get? b=some ob)(n:H b=none)(hx:b∉ex):∃sl,h1.get? b=some { ob with slots:=sl }:=by
 by_cases hb:b∈fs
 ·exact u.slot b ob q n hb hx
 ·exact⟨ob.slots,u.keep b ob q n hb hx⟩
theorem Un.trans (a:Un fs ex H H1 h h1)(b:Un fs ex H1 H2 h1 h2):Un fs ex H H2 h h2 where
 keep:=λc ob q n hc hx=>b.keep c ob (a.keep c ob q n hc hx) (a.free c ob q n hx) hc hx
 slot:=λc ob q n hc hx=>by
  obtain⟨sl,e1⟩:=a.slot c ob q n hc hx;obtain⟨sl',e2⟩:=b.slot c _ e1 (a.free c ob q n hx) hc hx;exact⟨sl',e2⟩
 free:=λc ob q n hx=>by
  obtain⟨o',e1⟩:=a.there c ob q hx;exact b.free c o' e1 (a.free c ob q n hx) hx
 there:=λc ob q hx=>by
  obtain⟨o',e1⟩:=a.there c ob q hx;exact b.there c o' e1 hx
 u5:=λc xs q=>b.u5 c xs (a.u5 c xs q)
 uj:=λc ob xs q=>b.uj c ob xs (a.uj c ob xs q)
 u9:=λc ps q=>by
  obtain⟨m1,e1⟩:=a.u9 c ps q;obtain⟨m2,e2⟩:=b.u9 c _ e1;exact⟨m1++m2,by rw[e2,Array.append_assoc]⟩
theorem Un.kept (k:∀b u,h.get? b=some u->h'.get? b=some u):Un fs ex H H h h' :=
 ⟨λb ob q _ _ _=>k b ob q,λb ob q _ _ _=>⟨ob.slots,k b ob q⟩,λ_ _ _ n _=>n,λb ob q _=>⟨ob,k b ob q⟩,λ_ _ q=>q,λ_ _ _ q=>q,λ_ ps q=>⟨#[],by rw[q];simp⟩⟩
theorem Un.refl:Un fs ex H H h h:=Un.kept λ_ _ q=>q
theorem Un.laid (k:∀b u,h.get? b=some u->h'.get? b=some u)(hp:h.objs.size<=a)(hn:H a=none):Un fs ex H (upd H a o) h h' where
 keep:=λb u q _ _ _=>k b u q
 slot:=λb u q _ _ _=>⟨u.slots,k b u q⟩
 free:=λb u q n _=>by rw[aq (ajV (ajM (si q) hp))];exact n
 there:=λb u q _=>⟨u,k b u q⟩
 u5:=λb xs q=>by rw[aq (aG q hn)];exact q
 uj:=λb u xs q=>by rw[aq (aG q hn)];exact q
 u9:=λb ps q=>⟨#[],by rw[aq (aG q hn),q];simp⟩
theorem Un.write (mu:Mut (H x))(he:e=x\/H e=some (.own x))(k:∀b u,b≠e->h.get? b=some u->h'.get? b=some u)(heo:∃u,h'.get? e=some u):Un fs ex H (upd H x o) h h':=by
 have hx:∀b,H b=none->b≠x:=λb n z=>by subst z;rw[n]at mu;exact mu
 have hb:∀b,H b=none->b≠e:=λb n z=>by
  subst z;rcases he with r | r
  ·exact hx b n r
  ·rw[n]at r;cases r
 have hm:∀b u,H b=some u->¬Mut (some u)->b≠x:=λb u q nm z=>by subst z;rw[q]at mu;exact nm mu
 refine⟨λb u q n _ _=>k b u (hb b n) q,λb u q n _ _=>⟨u.slots,k b u (hb b n) q⟩,λb u q n _=>by rw[aq (hx b n)];exact n,λb u q _=>?_,
  λb xs q=>by rw[aq (hm b _ q λz=>z)];exact q,λb u xs q=>by rw[aq (hm b _ q λz=>z)];exact q,λb ps q=>⟨#[],by rw[aq (hm b _ q λz=>z),q];simp⟩⟩
 by_cases hbe:b=e
 ·subst hbe;exact heo
 ·exact⟨u,k b u hbe q⟩
theorem Un.mono (u:Un fs ex H H1 h h1)(hs:∀b∈fs,b∈fs')(hx:∀b∈ex,b∈ex'):Un fs' ex' H H1 h h1 :=
 ⟨λb ob q n hb he=>u.keep b ob q n (λz=>hb (hs b z)) λz=>he (hx b z),λ_ _ q n _ he=>u.any q n λz=>he (hx _ z),λb ob q n he=>u.free b ob q n λz=>he (hx b z),λb ob q he=>u.there b ob q λz=>he (hx b z),u.u5,u.uj,u.u9⟩
end
def trk (h:Heap)(H:Hp):List Addr:=(List.range h.objs.size).filter λa=>(H a).isSome
def D6 (h:Heap)(H:Hp):Heap:=PySem.W.hideAll h (trk h H)
theorem MN (h:Heap)(H:Hp):(D6 h H).objs.size=h.objs.size:=PySem.W.hideAll_size _ _
theorem Of {h:Heap}{H:Hp}{b:Addr}{o:Obj}(e:h.get? b=some o)(n:H b=none):(D6 h H).get? b=some o :=
 PySem.W.hideAll_get _ e λhm=>by
  have q:(H b).isSome=true:=(List.mem_filter.mp hm).2;rw[n]at q;simp at q
theorem Rz {h:Heap}{H:Hp}{b:Addr}{o:Obj}(e:(D6 h H).get? b=some o):h.get? b=some o/\H b=none:=by
 have e':h.get? b=some o:=PySem.W.of_hideAll (trk h H) e;refine⟨e',?_⟩;cases q:H b with
 |none=>rfl
 |some x =>
  have hm:b∈trk h H:=List.mem_filter.mpr ⟨List.mem_range.mpr (si e'),by simp[q]⟩
  have z:(D6 h H).get? b=none:=PySem.W.hideAll_none (trk h H) hm;rw[z]at e;cases e
def RA (g h:Heap)(L:Addr):List (Addr×Obj):=(List.range h.objs.size).filterMap λa=>if a=L\/(g.get? a).isSome=true then none else (h.get? a).map λo=>(a,o)
def rest (g h:Heap)(L d:Addr):List (Addr×Obj):=(RA g h L).filter λp=>decide (p.1≠d)
end L2
namespace L2
open PySem PySem.Spec PyProof.Rows
structure Mod (K:ba)(mg:Str->Option Value)(base:Heap):Prop where
 kin:K.In base
 glob:base.Ns gr mg
 blt:∃mb,base.Ns builtinsNs mb/\∀x:Str,x≠"__name__"->mb x=aku x
 nolimit:base.NoLimit
structure Cx where
 prog:rf
 w:World
 K:ba
 mg:Str->Option Value
 base:Heap
 A:Around
 N:List Str
 s₀:Shared
 H₀:Hp
 env:Env
 outer:List Env
 stack:List Env
 ex:List Addr
 fn:Str->Bool
 calm:Bool
 pn:List (Addr×Obj)
 xe:Value->Shared->Prop
def frs (l:List Env):List Addr:=l.filterMap (·.frame)
abbrev Cx.fs (X:Cx):List Addr:=frs X.outer
def Vis (sc:Scope)(x:Str):Prop:=sc.names.lookup x=some .local\/sc.names.lookup x=some .cell\/sc.names.lookup x=some .free
def Loc (sc:Scope)(x:Str):Prop:=sc.names.lookup x=some .local\/sc.names.lookup x=some .cell
def Look (env:Env)(h:Heap)(m:Str->Option Value)(x:Str)(u:Value):Prop :=
 (env.kindOf x=some .local/\m x=some u)\/((env.kindOf x=some .cell\/env.kindOf x=some .free)/\∃c,env.cells.lookup x=some c/\h.IsCell c (some u))
structure Cx.Ok (X:Cx):Prop where
 mod:Mod X.K X.mg X.base
 kind:X.env.scope.kind=.function
 glob:X.env.globals=gr
 blt:X.env.builtins=builtinsNs
 above:X.s₀.heap.objs.size<=X.env.locals
 inj:∀x y c,X.env.cells.lookup x=some c->X.env.cells.lookup y=some c->x=y
 has:∀x,(X.env.kindOf x=some .cell\/X.env.kindOf x=some .free)->∃c,X.env.cells.lookup x=some c
 cab:∀x c,X.fn x=true->X.env.cells.lookup x=some c->X.s₀.heap.objs.size<=c
 hd:X.calm=true->X.A.handled=none
 frames:X.A.frames=some X.stack
 stk:X.stack=X.outer\/(X.stack=X.env::X.outer/\X.env.frame=some X.env.locals)
 exf:∀b∈X.ex,b≠X.env.locals/\∀x c,X.env.cells.lookup x=some c->c≠b
 bs:∀b o,X.base.get? b=some o->X.s₀.heap.get? b=some o/\X.H₀ b=none
 bsz:X.base.objs.size<=X.s₀.heap.objs.size
 Jp:∀b o,X.base.get? b=some o->b∉X.ex
 Jq:∀b∈X.ex,b∉X.fs
 uk:X.s₀.heap.FunFrames X.base X.outer
 frf:∀b∈X.fs,X.H₀ b=none
structure Inv (X:Cx)(pins:List (Addr×Obj))(σ:List (Option V))(H:Hp)(s:Shared):Prop where
 ok:X.Ok
 os:s.os=X.s₀.os
 bare:AllBare s.gens
 base:Un X.fs X.ex X.H₀ H X.s₀.heap s.heap
 loc:∃m,s.heap.Ns X.env.locals m/\∀(i:Nat) (x:Str) (v:V),X.N[i]?=some x->σ[i]?=some (some v)->Vis X.env.scope x->∃u,RelV v u/\Look X.env s.heap m x u
 cell:∀x c,X.env.cells.lookup x=some c->∃v,s.heap.IsCell c v
 free:H X.env.locals=none
 oG:∀x c,X.env.cells.lookup x=some c->H c=none
 pin:∀p∈X.pn++pins,s.heap.get? p.1=some p.2/\H p.1=none/\p.1≠X.env.locals/\p.1∉X.fs/\∀v,p.2.data≠.cell v
 hok:HOk X.prog X.w H s.heap
 len:σ.length=X.N.length
section
variable{X:Cx}{pins:List (Addr×Obj)}{σ:List (Option V)}{H H':Hp}{s:Shared}{h':Heap}
theorem Cx.Ok.ag3 (ok:X.Ok){b:Addr}{o:Obj}(e:X.base.get? b=some o):b∉X.fs:=λhb=>by
 have:=(ok.uk.mem hb).1;rw[e]at this;cases this
theorem Inv.bs (I:Inv X pins σ H s):∀b o,X.base.get? b=some o->s.heap.get? b=some o/\H b=none:=λb o e =>
 ⟨I.base.keep b o (I.ok.bs b o e).1 (I.ok.bs b o e).2 (I.ok.ag3 e) (I.ok.Jp b o e),I.base.free b o (I.ok.bs b o e).1 (I.ok.bs b o e).2 (I.ok.Jp b o e)⟩
theorem Inv.bk (I:Inv X pins σ H s):∀b o,X.base.get? b=some o->s.heap.get? b=some o:=λb o e=>(I.bs b o e).1
theorem Inv.mod (I:Inv X pins σ H s):Mod X.K X.mg X.base:=I.ok.mod
theorem Inv.kIn (I:Inv X pins σ H s):X.K.In s.heap:=I.ok.mod.kin.keeps I.bk
theorem Inv.nolimit (I:Inv X pins σ H s):s.heap.NoLimit:=I.ok.mod.nolimit.keeps I.bk
theorem Inv.fr (I:Inv X pins σ H s):∃m,Fr X.base X.env.locals s.heap m :=
 let ⟨m,hn,_⟩:=I.loc
 ⟨m,hn,I.bk,ajI I.ok.bsz I.ok.above⟩
theorem Inv.lt (I:Inv X pins σ H s):X.env.locals < s.heap.objs.size:=let ⟨_,hn,_⟩:=I.loc;hn.lt
theorem Inv.sz (I:Inv X pins σ H s):X.s₀.heap.objs.size<=s.heap.objs.size:=ajI I.ok.above (Nat.le_of_lt I.lt)
theorem Inv.ag4 (I:Inv X pins σ H s){a:Addr}(h:s.heap.objs.size<=a):a∉X.fs:=λhb=>by
 obtain⟨_,o,ho,_⟩:=I.ok.uk.mem hb;exact absurd (ajM (si ho) (ajI I.sz h)) (Nat.lt_irrefl _)
theorem Inv.cne (I:Inv X pins σ H s):∀x c,X.env.cells.lookup x=some c->c≠X.env.locals:=λx c e z=>by
 obtain⟨v,o,ho,hd⟩:=I.cell x c e;obtain⟨m,⟨o',es,ep,ho',hd',_⟩,_⟩:=I.loc;rw[z,ho']at ho;cases ho;rw[hd']at hd;cases hd
theorem Inv.uk (I:Inv X pins σ H s):s.heap.FunFrames X.base X.outer:=by
 have all:∀(l:List Env),(∀b∈frs l,b∈X.fs)->X.s₀.heap.FunFrames X.base l->s.heap.FunFrames X.base l:=by
  intro l
  induction l with
  |nil=>intro _ _;trivial
  |cons env r ih =>
   intro hs hl;obtain⟨hk,⟨L,o,hf,hn,ho,hd⟩,hr⟩:=hl;have hL:L∈X.fs:=hs L (by unfold frs;rw[List.filterMap_cons,hf];exact gn)
   obtain⟨sl,e⟩:=I.base.slot L o ho (I.ok.frf L hL) hL λz=>I.ok.Jq L z hL
   exact⟨hk,⟨L,_,hf,hn,e,hd⟩,ih (λb hb=>hs b (by unfold frs;rw[List.filterMap_cons,hf];exact kq _ hb)) hr⟩
 exact all X.outer (λ_ hb=>hb) I.ok.uk
theorem Inv.stack (I:Inv X pins σ H s):s.heap.FunFrames X.base X.stack:=by
 rcases I.ok.stk with e | ⟨e,hf⟩
 ·rw[e];exact I.uk
 ·rw[e];obtain⟨m,hn,_⟩:=I.loc;refine .cons (by rw[I.ok.kind];decide) hf hn ?_ I.uk
  exact Heap.get?_none_of_le (ajI I.ok.bsz I.ok.above)
theorem Inv.D7 (I:Inv X pins σ H s):∀b∈frs X.stack,b∈X.env.locals::X.fs:=λb hb=>by
 rcases I.ok.stk with e | ⟨e,hf⟩
 ·rw[e]at hb;exact kq _ hb
 ·rw[e]at hb;unfold frs at hb;rw[List.filterMap_cons,hf]at hb;exact hb
theorem Inv.D8 (I:Inv X pins σ H s):∀b∈frs X.stack,H b=none:=λb hb=>by
 rcases List.mem_cons.mp (I.D7 b hb) with e | hb
 ·rw[e];exact I.free
 ·obtain⟨_,o,ho,_⟩:=I.ok.uk.mem hb;exact I.base.free b o ho (I.ok.frf b hb) λz=>I.ok.Jq b z hb
theorem Inv.step {g':Array GenState}{t':Nat}{d':Drawn}{ch:List Addr}(I:Inv X pins σ H s)
  (hch:∀b∈ch,(b∈X.ex\/X.s₀.heap.objs.size<=b)/\b≠X.env.locals/\(∀x c,X.env.cells.lookup x=some c->c≠b)/\∀p∈X.pn++pins,p.1≠b)
  (keep:∀b o,b≠X.env.locals->b∉X.fs->b∉ch->s.heap.get? b=some o->H b=none->h'.get? b=some o)
  (slot:∀b o,b≠X.env.locals->b∈X.fs->b∉ch->s.heap.get? b=some o->H b=none->∃sl,h'.get? b=some { o with slots:=sl }) (free:∀b o,b∉ch->s.heap.get? b=some o->H b=none->H' b=none)
  (there:∀b o,b∉ch->s.heap.get? b=some o->∃o',h'.get? b=some o')
  (u5:∀b xs,H b=some (.tup xs)->H' b=some (.tup xs)) (uj:∀b o u,H b=some (.frz o u)->H' b=some (.frz o u)) (u9:∀b ps,H b=some (.tbl ps)->∃more,H' b=some (.tbl (ps++more)))
  (ns:∀m,s.heap.Ns X.env.locals m->h'.Ns X.env.locals m) (hok:HOk X.prog X.w H' h') (hg:AllBare g') :
  Inv X pins σ H' { s with heap:=h',gens:=g',drawn:=d',toks:=t' }:=by
 have neL:∀b o,X.s₀.heap.get? b=some o->b≠X.env.locals:=λb o e=>ajV (ajM (si e) I.ok.above)
 have neC:∀b o,X.s₀.heap.get? b=some o->b∉X.ex->b∉ch:=λb o e hx hb=>by
  rcases (hch b hb).1 with z | z
  ·exact hx z
  ·exact absurd (ajM (si e) z) (Nat.lt_irrefl _)
 have cellK:∀x c,X.env.cells.lookup x=some c->∀v,s.heap.IsCell c v->h'.IsCell c v:=λx c e v ⟨o,ho,hd⟩=>by
  have nch:c∉ch:=λz=>(hch c z).2.2.1 x c e rfl
  by_cases hc:c∈X.fs
  ·obtain⟨sl,q⟩:=slot c o (I.cne x c e) hc nch ho (I.oG x c e);exact⟨_,q,hd⟩
  ·exact⟨o,keep c o (I.cne x c e) hc nch ho (I.oG x c e),hd⟩
 refine⟨I.ok,I.os,hg,⟨λb o e n hb hx=>?_,λb o e n hb hx=>?_,λb o e n hx=>?_,λb o e hx=>?_,λb xs e=>u5 b xs (I.base.u5 b xs e),λb o xs e=>uj b o xs (I.base.uj b o xs e),λb ps e=>?_⟩,?_,λx c e=>?_,?_,λx c e=>?_,λp hp=>?_,hok,I.len⟩
 ·exact keep b o (neL b o e) hb (neC b o e hx) (I.base.keep b o e n hb hx) (I.base.free b o e n hx)
 ·obtain⟨sl,e1⟩:=I.base.slot b o e n hb hx;obtain⟨sl',e2⟩:=slot b _ (neL b o e) hb (neC b o e hx) e1 (I.base.free b o e n hx);exact⟨sl',e2⟩
 ·obtain⟨o',e1⟩:=I.base.there b o e hx;exact free b o' (neC b o e hx) e1 (I.base.free b o e n hx)
 ·obtain⟨o',e1⟩:=I.base.there b o e hx;exact there b o' (neC b o e hx) e1
 ·obtain⟨m1,e1⟩:=I.base.u9 b ps e;obtain⟨m2,e2⟩:=u9 b _ e1;exact⟨m1++m2,by rw[e2,Array.append_assoc]⟩
 ·obtain⟨m,hn,hl⟩:=I.loc;refine⟨m,ns m hn,λi x v e1 e2 e3=>?_⟩
  obtain⟨u,r,l⟩:=hl i x v e1 e2 e3;refine⟨u,r,?_⟩;rcases l with l | ⟨k,c,e,z⟩
  ·exact .inl l
  ·exact .inr ⟨k,c,e,cellK x c e _ z⟩
 ·obtain⟨v,z⟩:=I.cell x c e;exact⟨v,cellK x c e v z⟩
 ·obtain⟨m,⟨o,_,_,ho,_⟩,_⟩:=I.loc;exact free _ o (λz=>(hch _ z).2.1 rfl) ho I.free
 ·obtain⟨v,o,ho,hd⟩:=I.cell x c e;exact free c o (λz=>(hch c z).2.2.1 x c e rfl) ho (I.oG x c e)
 ·obtain⟨e,n,ne,nf,d⟩:=I.pin p hp;have nch:p.1∉ch:=λz=>(hch p.1 z).2.2.2 p hp rfl
  exact⟨keep p.1 p.2 ne nf nch e n,free p.1 p.2 nch e n,ne,nf,d⟩
theorem Inv.un {t':Nat}(I:Inv X pins σ H s)(u:Un X.fs [] H H' s.heap h')(hok:HOk X.prog X.w H' h'):Inv X pins σ H' { s with heap:=h',toks:=t' }:=by
 obtain⟨m,⟨o,es,ep,ho,r⟩,_⟩:=id I.loc;obtain⟨sl,hL⟩:=u.any ho I.free (by simp)
 exact I.step (g':=s.gens) (d':=s.drawn) (ch:=[]) (λ_ z=>nomatch z) (λb o _ hb _ e n=>u.keep b o e n hb (by simp)) (λb o _ hb _ e n=>u.slot b o e n hb (by simp)) (λb o _ e n=>u.free b o e n (by simp)) (λb o _ e=>u.there b o e (by simp)) u.u5 u.uj u.u9 (λm' hm=>by
  obtain⟨o',es',ep',ho',r'⟩:=hm;rw[ho]at ho';cases ho';exact⟨_,es',ep',hL,r'⟩) hok I.bare
theorem Inv.call {g':Array GenState}{t':Nat}{d':Drawn}{ch:List Addr}(I:Inv X pins σ H s)(u:Un (frs X.stack) ch H H' s.heap h')(hok:HOk X.prog X.w H' h')(hg:AllBare g')
  (hch:∀b∈ch,(b∈X.ex\/X.s₀.heap.objs.size<=b)/\b≠X.env.locals/\(∀x c,X.env.cells.lookup x=some c->c≠b)/\∀p∈X.pn++pins,p.1≠b) :
  Inv X pins σ H' { s with heap:=h',gens:=g',drawn:=d',toks:=t' }:=by
 obtain⟨m,⟨o,es,ep,ho,r⟩,_⟩:=id I.loc;obtain⟨sl,hL⟩:=u.any ho I.free λz=>(hch _ z).2.1 rfl
 exact I.step (ch:=ch) hch (λb o hL hb hc e n=>u.keep b o e n (λz=>(List.mem_cons.mp (I.D7 b z)).elim hL hb) hc) (λb o _ _ hc e n=>u.any e n hc) (λb o hc e n=>u.free b o e n hc) (λb o hc e=>u.there b o e hc) u.u5 u.uj u.u9 (λm' hm=>by
  obtain⟨o',es',ep',ho',r'⟩:=hm;rw[ho]at ho';cases ho';exact⟨_,es',ep',hL,r'⟩) hok hg
theorem Inv.turned {t':Nat}{it:Addr}(I:Inv X pins σ H s)(k:∀b o,b≠it->s.heap.get? b=some o->h'.get? b=some o)(hn:H it=none)(hL:it≠X.env.locals)
  (h1:it∈X.ex\/X.s₀.heap.objs.size<=it) (h2:∀x c,X.env.cells.lookup x=some c->c≠it) (h3:∀p∈X.pn++pins,p.1≠it):Inv X pins σ H { s with heap:=h',toks:=t' }:=by
 have nit:∀b u,H b=some u->b≠it:=λb u e z=>by rw[z,hn]at e;cases e
 refine I.step (g':=s.gens) (d':=s.drawn) (ch:=[it]) (λb hb=>?_) (λb o _ _ hc e _=>k b o (λz=>hc (by simp[z])) e) (λb o _ _ hc e _=>⟨o.slots,k b o (λz=>hc (by simp[z])) e⟩) (λ_ _ _ _ n=>n)
  (λb o hc e=>⟨o,k b o (λz=>hc (by simp[z])) e⟩) (λ_ _ e=>e) (λ_ _ _ e=>e) (λb ps e=>⟨#[],by rw[e];simp⟩) (λm hm=>?_) (λb u e=>?_) I.bare
 ·have e:b=it:=by simpa using hb
  subst e;exact⟨h1,hL,h2,h3⟩
 ·obtain⟨o,es,ep,ho,r⟩:=hm;exact⟨o,es,ep,k _ o (aj2 hL) ho,r⟩
 ·refine(I.hok b u e).Cu (λc v hc q=>k c v ?_ q) (λ_ q=>q) λ_ _ q=>q
  rcases hc with z | z
  ·rw[z];exact nit b u e
  ·exact nit c _ z
theorem Inv.tok (I:Inv X pins σ H s)(t:Nat):Inv X pins σ H { s with toks:=t }:=I.un (h':=s.heap) (t':=t) Un.refl I.hok
theorem Inv.kept {t':Nat}(I:Inv X pins σ H s)(k:∀b u,s.heap.get? b=some u->h'.get? b=some u):Inv X pins σ H { s with heap:=h',toks:=t' }:=I.un (Un.kept k) (I.hok.kept k)
theorem Inv.laid {a:Addr}{o:HO}{t':Nat}(I:Inv X pins σ H s)(k:∀b u,s.heap.get? b=some u->h'.get? b=some u)(hp:s.heap.objs.size<=a)(new:dU X.prog X.w (upd H a o) h' a o) :
  Inv X pins σ (upd H a o) { s with heap:=h',toks:=t' }:=I.un (Un.laid k hp (I.hok.fresh hp)) (I.hok.laid k hp new)
theorem Inv.write {x e:Addr}{o:HO}{t':Nat}(I:Inv X pins σ H s)(mu:Mut (H x))(he:e=x\/H e=some (.own x))(k:∀b u,b≠e->s.heap.get? b=some u->h'.get? b=some u)(heo:∃u,h'.get? e=some u)
  (new:dU X.prog X.w (upd H x o) h' x o):Inv X pins σ (upd H x o) { s with heap:=h',toks:=t' }:=I.un (Un.write mu he k heo) (I.hok.write mu he k heo new)
theorem Inv.D9 {TH:List (Addr×Obj)}(I:Inv X pins σ H s)(h:∀p∈TH,s.heap.get? p.1=some p.2/\H p.1=none/\p.1≠X.env.locals/\p.1∉X.fs/\∀v,p.2.data≠.cell v):Inv X TH σ H s :=
 ⟨I.ok,I.os,I.bare,I.base,I.loc,I.cell,I.free,I.oG,λp hp=>(List.mem_append.mp hp).elim (λz=>I.pin p (akv _ z)) (h p),I.hok,I.len⟩
theorem Ax {N:List Str}(hN:N.Nodup){i j:Nat}{x:Str}(a:N[i]?=some x)(b:N[j]?=some x):i=j:=by
 obtain⟨h1,e1⟩:=List.getElem?_eq_some_iff.mp a;obtain⟨h2,e2⟩:=List.getElem?_eq_some_iff.mp b;exact(List.getElem_inj hN).mp (e1.trans e2.symm)
theorem MO {M:Model}{A:Around}{E:Value->Shared->Prop}{i:Nat}{x:Str}{v:V}{u:Value}{Q:Unit->Shared->Prop}(I:Inv X pins σ H s)(hN:X.N.Nodup)(hi:X.N[i]?=some x)(hx:Loc X.env.scope x)(r:RelV v u)
  (h:∀s',Inv X pins (σ.set i (some v)) H s'->(∃a,Heap.SameBut a s.heap s'.heap/\(a=X.env.locals\/X.env.cells.lookup x=some a))->Q () s') (hf:X.fn x=true\/X.env.scope.names.lookup x=some .local:=by first | exact .inl rfl | exact .inr rfl | assumption):wpAny M A (storeName X.env x u) Q E s:=by
 obtain⟨m,hn,hl⟩:=id I.loc;have ag5:(X.env.scope.kind == .class || (X.env.scope.kind == .module && X.env.locals != X.env.globals))=false:=by rw[I.ok.kind];rfl
 have hiσ:i < σ.length:=by rw[I.len];exact(List.getElem?_eq_some_iff.mp hi).1
 have cne:=I.cne;have tracked:∀ {a:Addr} {h':Heap},(∃o,s.heap.get? a=some o/\H a=none)->Heap.SameBut a s.heap h'->HOk X.prog X.w H h':=λ{a h'} ha hs b ob e=>by
  obtain⟨_,_,TK⟩:=ha;refine(I.hok b ob e).Cu (λc w' hc q=>(hs.2 c ?_).trans q) (λ_ q=>q) λ_ _ q=>q
  rintro rfl;rcases hc with rfl | hc
  ·rw[TK]at e;cases e
  ·rw[TK]at hc;cases hc
 rcases hx with hk | hk
 ·refine wpAny_storeName_local hk hn (λh' hn' hs=>?_) ag5
  obtain⟨oL,_,_,hoL,_⟩:=id hn;refine h _ ⟨I.ok,I.os,I.bare,⟨λb o e n hb hx=>?_,λb o e n hb hx=>?_,I.base.free,λb o e hx=>?_,I.base.u5,I.base.uj,I.base.u9⟩,⟨_,hn',λj y v' e1 e2 e3=>?_⟩,λy c e=>?_,I.free,I.oG,λp hp=>?_,tracked ⟨oL,hoL,I.free⟩ hs,by simpa using I.len⟩ ⟨_,hs,.inl rfl⟩
  ·exact(hs.2 b (ajV (ajM (si e) I.ok.above))).trans (I.base.keep b o e n hb hx)
  ·obtain⟨sl,e1⟩:=I.base.slot b o e n hb hx;exact⟨sl,(hs.2 b (ajV (ajM (si e) I.ok.above))).trans e1⟩
  ·obtain⟨o',e1⟩:=I.base.there b o e hx;exact⟨o',(hs.2 b (ajV (ajM (si e) I.ok.above))).trans e1⟩
  ·by_cases hj:j=i
   ·subst hj;rw[hi]at e1;cases e1;rw[akT hiσ]at e2;cases e2;exact⟨u,r,.inl ⟨hk,by simp⟩⟩
   ·rw[ak2 (aj2 hj)]at e2;obtain⟨u',r',q⟩:=hl j y v' e1 e2 e3;refine⟨u',r',?_⟩;rcases q with ⟨k,e⟩ | ⟨k,c,e,z⟩
    ·refine .inl ⟨k,?_⟩;have:y≠x:=λe=>hj (Ax hN e1 (e▸hi))
     simp[this,e]
    ·exact .inr ⟨k,c,e,z.sameBut hs (cne y c e)⟩
  ·obtain⟨w',z⟩:=I.cell y c e;exact⟨w',z.sameBut hs (cne y c e)⟩
  ·obtain⟨e,n,ne,nf,d⟩:=I.pin p hp;exact⟨(hs.2 p.1 ne).trans e,n,ne,nf,d⟩
 ·have hfn:X.fn x=true:=by
   rcases hf with z | z
   ·exact z
   ·rw[z]at hk;cases hk
  obtain⟨c,hc⟩:=I.ok.has x (.inl hk);obtain⟨w',z⟩:=I.cell x c hc;refine wpAny_storeName_cell I.ok.kind hk hc z (λh' hc' hs=>?_)
  obtain⟨oc,hoc,ag6⟩:=id z;refine h { s with heap:=h' } ⟨I.ok,I.os,I.bare,⟨λb o e n hb hx=>?_,λb o e n hb hx=>?_,I.base.free,λb o e hx=>?_,I.base.u5,I.base.uj,I.base.u9⟩,⟨m,hn.sameBut hs (aj2 (cne x c hc)),λj y v' e1 e2 e3=>?_⟩,λy c' e=>?_,I.free,I.oG,λp hp=>?_,tracked ⟨oc,hoc,I.oG x c hc⟩ hs,by simpa using I.len⟩ ⟨c,hs,.inr hc⟩
  ·exact(hs.2 b (ajV (ajM (si e) (I.ok.cab x c hfn hc)))).trans (I.base.keep b o e n hb hx)
  ·obtain⟨sl,e1⟩:=I.base.slot b o e n hb hx;exact⟨sl,(hs.2 b (ajV (ajM (si e) (I.ok.cab x c hfn hc)))).trans e1⟩
  ·obtain⟨o',e1⟩:=I.base.there b o e hx;exact⟨o',(hs.2 b (ajV (ajM (si e) (I.ok.cab x c hfn hc)))).trans e1⟩
  ·by_cases hj:j=i
   ·subst hj;rw[hi]at e1;cases e1;rw[akT hiσ]at e2;cases e2;exact⟨u,r,.inr ⟨.inl hk,c,hc,hc'⟩⟩
   ·rw[ak2 (aj2 hj)]at e2;obtain⟨u',r',q⟩:=hl j y v' e1 e2 e3;refine⟨u',r',?_⟩;rcases q with q | ⟨k,c',e,z'⟩
    ·exact .inl q
    ·refine .inr ⟨k,c',e,z'.sameBut hs ?_⟩;rintro rfl;exact hj (Ax hN e1 (I.ok.inj _ _ _ e hc▸hi))
  ·by_cases hcc:c'=c
   ·subst hcc;exact⟨_,hc'⟩
   ·obtain⟨w2,z2⟩:=I.cell y c' e;exact⟨w2,z2.sameBut hs hcc⟩
  ·obtain⟨e,n,ne,nf,d⟩:=I.pin p hp;refine⟨(hs.2 p.1 ?_).trans e,n,ne,nf,d⟩;intro q;rw[q,hoc]at e;have q':oc=p.2:=ajP e;exact d w' (by rw[<-q'];exact ag6)
theorem rp {M:Model}{A:Around}{E:Value->Shared->Prop}{i:Nat}{x:Str}{v:V}{u:Value}{Q:Unit->Shared->Prop}(I:Inv X pins σ H s)(hN:X.N.Nodup)(hi:X.N[i]?=some x)(hx:Loc X.env.scope x)(r:RelV v u)
  (h:∀s',Inv X pins (σ.set i (some v)) H s'->Q () s') (hf:X.fn x=true\/X.env.scope.names.lookup x=some .local:=by first | exact .inl rfl | exact .inr rfl | assumption):wpAny M A (storeName X.env x u) Q E s :=
 MO I hN hi hx r (λs' I' _=>h s' I') hf
theorem Inv.Og {s':Shared}{ch:List Addr}(I:Inv X pins σ H s)(ho:s'.os=s.os)(u:Un (frs X.stack) ch H H' s.heap s'.heap)(hok:HOk X.prog X.w H' s'.heap)(hg:AllBare s'.gens)
  (hch:∀b∈ch,(b∈X.ex\/X.s₀.heap.objs.size<=b)/\b≠X.env.locals/\(∀x c,X.env.cells.lookup x=some c->c≠b)/\∀p∈X.pn++pins,p.1≠b):Inv X pins σ H' s':=by
 obtain⟨h',g',d',t',o'⟩:=s';have e:o'=s.os:=ho;subst e;exact I.call (g':=g') (t':=t') (d':=d') u hok hg hch
end
abbrev XK:=Value->Option Addr->Hp->Prop
abbrev St:=List (Option V)
abbrev VK:=V->Hp->Prop
abbrev TE:=St->Hp->VK->Prop
abbrev TT:=St->Hp->(Bool->Hp->Prop)->Prop
abbrev TA:=St->Hp->(List V->Hp->Prop)->Prop
structure Ends where
 nx:St->Hp->Prop
 rt:VK
 bk:St->Hp->Prop:=λ_ _=>False
 ct:St->Hp->Prop:=λ_ _=>False
abbrev TS:=Ends->St->Hp->Prop
def EP (X:Cx)(pins:List (Addr×Obj))(σ:St)(Q:VK)(u:Value)(s':Shared):Prop:=∃v H',Inv X pins σ H' s'/\RelV v u/\Q v H'
def TP (X:Cx)(pins:List (Addr×Obj))(σ:St)(Q:Bool->Hp->Prop)(b:Bool)(s':Shared):Prop:=∃H',Inv X pins σ H' s'/\Q b H'
def AP (X:Cx)(pins:List (Addr×Obj))(σ:St)(Q:List V->Hp->Prop)(us:List Value)(s':Shared):Prop:=∃vs H',Inv X pins σ H' s'/\Vals vs us/\Q vs H'
def SP (X:Cx)(pins:List (Addr×Obj))(D:Ends)(f:Flow)(s':Shared):Prop :=
 match f with
 | .next=>∃σ' H',Inv X pins σ' H' s'/\D.nx σ' H'
 | .brk=>∃σ' H',Inv X pins σ' H' s'/\D.bk σ' H'
 | .cont=>∃σ' H',Inv X pins σ' H' s'/\D.ct σ' H'
 | .ret u=>∃v σ' H',Inv X pins σ' H' s'/\RelV v u/\D.rt v H'
def PE (X:Cx)(e:Expr)(t:TE):Prop :=
 ∀(pins:List (Addr×Obj)) (s:Shared) (σ:St) (H:Hp) (Q:VK),Inv X pins σ H s->t σ H Q->wpAny (model X.prog X.w) X.A (eval e X.env) (EP X pins σ Q) X.xe s
def PT (X:Cx)(e:Expr)(t:TT):Prop :=
 ∀(pins:List (Addr×Obj)) (s:Shared) (σ:St) (H:Hp) (Q:Bool->Hp->Prop),Inv X pins σ H s->t σ H Q->wpAny (model X.prog X.w) X.A (isTrue e X.env (eval e X.env)) (TP X pins σ Q) X.xe s
def PW (X:Cx)(e:Expr)(t:TT):Prop :=
 ∀(whole:Sem Value) (pins:List (Addr×Obj)) (s:Shared) (σ:St) (H:Hp) (Q:Bool->Hp->Prop),Inv X pins σ H s->t σ H Q->wpAny (model X.prog X.w) X.A (isTrue e X.env whole) (TP X pins σ Q) X.xe s
theorem PW.pt {X:Cx}{e:Expr}{t:TT}(h:PW X e t):PT X e t:=h _
def PA (X:Cx)(es:List Expr)(t:TA):Prop :=
 ∀(pos:Pos) (pins:List (Addr×Obj)) (s:Shared) (σ:St) (H:Hp) (Q:List V->Hp->Prop),Inv X pins σ H s->t σ H Q->wpAny (model X.prog X.w) X.A (spliced (backTo pos (ajJ es X.env))) (AP X pins σ Q) X.xe s
def PS (X:Cx)(st:Stmt)(t:TS):Prop :=
 ∀(pins:List (Addr×Obj)) (s:Shared) (σ:St) (H:Hp) (D:Ends),Inv X pins σ H s->t D σ H->wpAny (model X.prog X.w) X.A (exec st X.env) (SP X pins D) X.xe s
def PSs (X:Cx)(st:List Stmt)(t:TS):Prop :=
 ∀(pins:List (Addr×Obj)) (s:Shared) (σ:St) (H:Hp) (D:Ends),Inv X pins σ H s->t D σ H->wpAny (model X.prog X.w) X.A (execs st X.env) (SP X pins D) X.xe s
theorem thn {α:Type}{t:Sem α}{Q Q':α->Shared->Prop}{M:Model}{A:Around}{E:Value->Shared->Prop}{s:Shared}(h:wpAny M A t Q E s)(hQ:∀a s,Q a s->Q' a s):wpAny M A t Q' E s:=ajT h hQ λ_ _ x=>x
end L2
namespace L2
open PySem PySem.Spec PyProof.Rows
section
variable{X:Cx}
theorem bin {a b:Expr}{ta tb:TE}(ha:PE X a ta)(hb:PE X b tb){pins:List (Addr×Obj)}{s:Shared}{σ:St}{H:Hp}{R:V->V->Hp->Prop}(I:Inv X pins σ H s)(h:ta σ H λx H1=>tb σ H1 λy H2=>R x y H2)
  {α:Type} {Q:α->Shared->Prop} {f:Value->Value->Sem α}
  (hf:∀v u s2 x y H2,Inv X pins σ H2 s2->RelV x v->RelV y u->R x y H2->wpAny (model X.prog X.w) X.A (f v u) Q X.xe s2) :
  wpAny (model X.prog X.w) X.A (eval a X.env) (λv s₁=>wpAny (model X.prog X.w) X.A (eval b X.env) (λu s₂=>wpAny (model X.prog X.w) X.A (f v u) Q X.xe s₂) X.xe s₁) X.xe s:=by
 refine thn (ha pins s σ H _ I h) λv s1 ⟨x,H1,I1,r1,q1⟩=>?_
 refine thn (hb pins s1 σ H1 _ I1 q1) λu s2 ⟨y,H2,I2,r2,q2⟩=>?_
 exact hf v u s2 x y H2 I2 r1 r2 q2
def ZF (i:Nat):TE:=λσ H Q=>∃v,σ[i]?=some (some v)/\Q v H
def tC (v:V):TE:=λ_ H Q=>Q v H
theorem Vn {i:Nat}{x:Str}{pos:Pos}(hN:X.N[i]?=some x)(hv:Vis X.env.scope x)(hd:(x == ("__debug__":Str))=false:=by decide)(hcd:(x == ("__classdict__":Str))=false:=by decide):PE X (.Name x pos) (ZF i):=by
 intro pins s σ H Q I h;obtain⟨v,e,h⟩:=h;obtain⟨m,hn,hl⟩:=I.loc;obtain⟨u,r,l⟩:=hl i x v hN e hv;have fin:EP X pins σ Q u s:=⟨v,H,I,r,h⟩;rcases l with ⟨hk,hm⟩ | ⟨hk,c,hc,va⟩
 ·exact wpAny_Name (wpAny_loadName_local I.ok.kind hk hn hm fin) hd
 ·rcases hk with hk | hk
  ·exact wpAny_Name (wpAny_loadName_cell I.ok.kind hk hc va fin) hd
  ·exact wpAny_Name (wpAny_loadName_free I.ok.kind hk hc va fin hcd) hd
theorem af {i j pos}:PE X (.Constant (.int i) j pos) (tC (.int i)):=λ_ _ _ H _ I h=>wpAny_Constant_int ⟨.int i,H,I.tok _,⟨_,rfl⟩,h⟩
theorem oH {b j pos}:PE X (.Constant (.bool b) j pos) (tC (.bl b)):=λ_ _ _ H _ I h=>Constant_bool ⟨.bl b,H,I,rfl,h⟩
theorem Ea {j pos}:PE X (.Constant .none j pos) (tC .non):=λ_ _ _ H _ I h=>Constant_none ⟨.non,H,I,rfl,h⟩
theorem ao {x j pos}:PE X (.Constant (.str x) j pos) (tC (.str x)):=λ_ _ _ H _ I h=>Calls.Constant_str ⟨.str x,H,I.tok _,⟨_,rfl⟩,h⟩
def Gl (X:Cx)(x:Str):Prop:=X.env.kindOf x=some .globalImplicit
theorem j8 {E:Value->Shared->Prop}{pins:List (Addr×Obj)}{s:Shared}{σ:St}{H:Hp}{x:Str}{u:Value}{pos:Pos}{Q:Value->Shared->Prop}(I:Inv X pins σ H s)(hg:Gl X x)(hm:X.mg x=some u)(h:Q u s)
  (hd:(x == ("__debug__":Str))=false:=by decide):wpAny (model X.prog X.w) X.A (eval (.Name x pos) X.env) Q E s :=
 Calls.Name_function_global I.ok.kind hg (Calls.loadGlobal_global (by rw[I.ok.glob];exact I.mod.glob.keeps I.bk) hm h) hd
theorem Eb {E:Value->Shared->Prop}{pins:List (Addr×Obj)}{s:Shared}{σ:St}{H:Hp}{x:Str}{u:Value}{pos:Pos}{Q:Value->Shared->Prop}(I:Inv X pins σ H s)(hg:Gl X x)(hm:X.mg x=none)(hv:aku x=some u)(h:Q u s)
  (hn:x≠"__name__":=by decide) (hd:(x == ("__debug__":Str))=false:=by decide):wpAny (model X.prog X.w) X.A (eval (.Name x pos) X.env) Q E s:=by
 obtain⟨mb,h1,h2⟩:=I.mod.blt;exact Calls.Name_function_global I.ok.kind hg (Calls.loadGlobal_builtin (by rw[I.ok.glob];exact I.mod.glob.keeps I.bk) hm (by rw[I.ok.blt];exact h1.keeps I.bk) ((h2 x hn).trans hv) h) hd
theorem Ec {x:Str}{v:V}{u:Value}{pos:Pos}(hg:Gl X x)(hm:X.mg x=some u)(r:RelV v u)(hd:(x == ("__debug__":Str))=false:=by decide):PE X (.Name x pos) (tC v) :=
 λ_ _ _ H _ I h=>j8 I hg hm ⟨v,H,I,r,h⟩ hd
theorem RB {x:Str}{v:V}{u:Value}{pos:Pos}(hg:Gl X x)(hm:X.mg x=none)(hv:aku x=some u)(r:RelV v u)(hn:x≠"__name__":=by decide)(hd:(x == ("__debug__":Str))=false:=by decide):PE X (.Name x pos) (tC v) :=
 λ_ _ _ H _ I h=>Eb I hg hm hv ⟨v,H,I,r,h⟩ hn hd
variable{a b:Expr}{ta tb:TE}{pos:Pos}
def PC (X:Cx)(op:CmpOp)(a b:Expr)(t:TE):Prop :=
 ∀(pins:List (Addr×Obj)) (s:Shared) (σ:St) (H:Hp) (Q:VK),Inv X pins σ H s->t σ H Q ->
  wpAny (model X.prog X.w) X.A (eval a X.env) (λv s₁=>wpAny (model X.prog X.w) X.A (eval b X.env) (λu s₂=>wpAny (model X.prog X.w) X.A (akG op v u) (EP X pins σ Q) X.xe s₂) X.xe s₁) X.xe s
theorem Oh (b:Expr){op:CmpOp}(h:op≠.In)(h2:op≠.NotIn):behindInMarks op b=false:=by
 have e1:(op == CmpOp.In)=false:=by cases op <;> first | rfl | exact absurd rfl h
 have e2:(op == CmpOp.NotIn)=false:=by cases op <;> first | rfl | exact absurd rfl h2
 cases b <;> simp[behindInMarks,e1,e2]
def tB (t:TE):TT:=λσ H Q=>t σ H λx H1=>∃c,x=.bl c/\Q c H1
theorem Jr {op:CmpOp}{t:TE}(h:PC X op a b t)(h1:behindInMarks op b=false:=by first | exact Oh _ (by decide) (by decide) | rfl):PT X (.Compare a [op] [b] pos) (tB t):=by
 intro pins s σ H Q I hw;refine wpAny_isTrue_Compare1 (thn (h pins s σ H _ I hw) λv s1 h1=>thn h1 λu s2 h2=>thn h2 λc s3 ⟨x,H1,I1,r1,q1⟩=>?_) h1
 obtain⟨d,rfl,q⟩:=q1;cases r1;exact wpAny_truthy_bool ⟨H1,I1,q⟩
theorem p6 {e:Expr}{t:TE}(h:PE X e t)(he:∀whole,isTrue e X.env whole=(do let v <-whole;standAt e.pos;holding [v] (truthy v)):=by intro _;rfl):PT X e (tB t):=by
 intro pins s σ H Q I hw;refine isTrue_plain (thn (h pins s σ H _ I hw) λv s1 ⟨x,H1,I1,r1,q1⟩=>?_) (he _)
 obtain⟨d,rfl,q⟩:=q1;cases r1;exact wpAny_truthy_bool ⟨H1,I1,q⟩
variable{tA tB':TT}{rest:List Expr}
def ag7 (t u:TT):TT:=λσ H Q=>t σ H λc H1=>if c=true then u σ H1 Q else Q false H1
def tOr (t u:TT):TT:=λσ H Q=>t σ H λc H1=>if c=true then Q true H1 else u σ H1 Q
def ag8 (t:TT):TT:=λσ H Q=>t σ H λc H1=>Q (!c) H1
theorem pw_and1 (ha:PT X a tA):PW X (.BoolOp .And [a] pos) tA:=by
 intro wh pins s σ H Q I h;refine isTrue_and (thn (ha pins s σ H Q I h) λc s1 e=>?_)
 cases c with
 |true=>exact isTrue_and_nil e
 |false=>exact e
theorem pw_or1 (ha:PT X a tA):PW X (.BoolOp .Or [a] pos) tA:=by
 intro wh pins s σ H Q I h;refine isTrue_or (thn (ha pins s σ H Q I h) λc s1 e=>?_)
 cases c with
 |false=>exact isTrue_or_nil e
 |true=>exact e
theorem pw_and (ha:PT X a tA)(hb:PW X (.BoolOp .And (b::rest) pos) tB'):PW X (.BoolOp .And (a::b::rest) pos) (ag7 tA tB'):=by
 intro wh pins s σ H Q I h;refine isTrue_and (thn (ha pins s σ H _ I h) λc s1 ⟨H1,I1,q1⟩=>?_)
 cases c with
 |true=>exact hb wh pins s1 σ H1 Q I1 q1
 |false=>exact⟨H1,I1,q1⟩
theorem pw_or (ha:PT X a tA)(hb:PW X (.BoolOp .Or (b::rest) pos) tB'):PW X (.BoolOp .Or (a::b::rest) pos) (tOr tA tB'):=by
 intro wh pins s σ H Q I h;refine isTrue_or (thn (ha pins s σ H _ I h) λc s1 ⟨H1,I1,q1⟩=>?_)
 cases c with
 |true=>exact⟨H1,I1,q1⟩
 |false=>exact hb wh pins s1 σ H1 Q I1 q1
theorem rq (ha:PT X a tA):PT X (.UnaryOp .Not a pos) (ag8 tA):=by
 intro pins s σ H Q I h;exact isTrue_not (ha pins s σ H (λc H1=>Q (!c) H1) I h)
def ZG (ta tb:TE):TE:=λσ H Q=>ta σ H λx H1=>∃c,x=.bl c/\if c=true then tb σ H1 Q else Q (.bl false) H1
def ag9 (ta tb:TE):TE:=λσ H Q=>ta σ H λx H1=>∃c,x=.bl c/\if c=true then Q (.bl true) H1 else tb σ H1 Q
theorem Js {op}{t:TE}(h:PE X a t):PE X (.BoolOp op [a] pos) t:=λpins s σ H Q I hw=>BoolOp_one (h pins s σ H Q I hw)
theorem Oi (ha:PE X a ta)(hb:PE X (.BoolOp .And (b::rest) pos) tb):PE X (.BoolOp .And (a::b::rest) pos) (ZG ta tb):=by
 intro pins s σ H Q I h;refine BoolOp_and (thn (ha pins s σ H _ I h) λv s1 ⟨x,H1,I1,r1,q1⟩=>?_)
 obtain⟨c,rfl,q1⟩:=q1;cases r1;refine wpAny_truthy_bool ?_;cases c with
 |true=>exact hb pins s1 σ H1 Q I1 q1
 |false=>exact⟨.bl false,H1,I1,rfl,q1⟩
theorem ZH (ha:PE X a ta)(hb:PE X (.BoolOp .Or (b::rest) pos) tb):PE X (.BoolOp .Or (a::b::rest) pos) (ag9 ta tb):=by
 intro pins s σ H Q I h;refine BoolOp_or (thn (ha pins s σ H _ I h) λv s1 ⟨x,H1,I1,r1,q1⟩=>?_)
 obtain⟨c,rfl,q1⟩:=q1;cases r1;refine wpAny_truthy_bool ?_;cases c with
 |false=>exact hb pins s1 σ H1 Q I1 q1
 |true=>exact⟨.bl true,H1,I1,rfl,q1⟩
def tIf (t:TT)(ta tb:TE):TE:=λσ H Q=>t σ H λc H1=>if c=true then ta σ H1 Q else tb σ H1 Q
theorem FE {c:Expr}(hc:PT X c tA)(ha:PE X a ta)(hb:PE X b tb):PE X (.IfExp c a b pos) (tIf tA ta tb):=by
 intro pins s σ H Q I h;refine wpAny_IfExp (thn (hc pins s σ H _ I h) λd s1 ⟨H1,I1,q1⟩=>?_)
 cases d with
 |true=>exact ha pins s1 σ H1 Q I1 q1
 |false=>exact hb pins s1 σ H1 Q I1 q1
end
end L2
namespace L2
open PySem PySem.Spec PyProof.Rows
def SqL (K:ba)(H:Hp)(a:Addr)(xs:List V):Prop :=
 Rd H a (.lst xs) \/
  ∃(o:Obj) (its:Array Value) (n:Nat),K.lookup a=some o/\o.cls=.type "list"/\o.dict=none/\o.data=.seq its n/\its.size<=ka/\Vals xs its.toList
def SqT (K:ba)(H:Hp)(a:Addr)(xs:List V):Prop :=
 Rd H a (.tup xs) \/
  ∃(o:Obj) (its:Array Value) (n:Nat),K.lookup a=some o/\o.cls=.type "tuple"/\o.data=.seq its n/\its.size<=ka/\Vals xs its.toList
def aha:Value->Option V
 | .none=>some .non
 | .bool b=>some (.bl b)
 | .int i _=>some (.int i)
 | .str x _=>some (.str x)
 | .bytes b _=>some (.byt b)
 | .float b _=>some (.flt b)
 | .ref a=>some (.ref a)
 | .type n=>some (.ty n)
 |_=>none
theorem RelV.abs {x:V}{u:Value}(r:RelV x u):aha u=some x:=by
 cases x with
 |non=>cases r;rfl
 |bl _=>cases r;rfl
 |int _=>obtain⟨t,rfl⟩:=r;rfl
 |str _=>obtain⟨t,rfl⟩:=r;rfl
 |byt _=>obtain⟨t,rfl⟩:=r;rfl
 |flt _=>obtain⟨t,rfl⟩:=r;rfl
 |ref _=>cases r;rfl
 |ty _=>cases r;rfl
theorem RelV.inj {x y:V}{u:Value}(r:RelV x u)(q:RelV y u):x=y:=ajP (r.abs.symm.trans q.abs)
theorem Vals.inj:∀ {xs ys:List V} {us:List Value},Vals xs us->Vals ys us->xs=ys
 |_,_,_,.nil,.nil=>rfl
 |_,_,_,.cons r t,.cons r' t'=>by rw[r.inj r',Vals.inj t t']
section
variable{X:Cx}{pins:List (Addr×Obj)}{σ:St}{H:Hp}{s:Shared}{a:Addr}{xs ys:List V}
theorem SqL.of {K:ba}(h:H a=some (.lst xs)):SqL K H a xs:=.inl (.inl h)
theorem SqT.of {K:ba}(h:H a=some (.tup xs)):SqT K H a xs:=.inl (.inl h)
theorem Inv.list (I:Inv X pins σ H s)(h:SqL X.K H a xs):∃its:List Value,Vals xs its/\PlainL s.heap a its.toArray/\xs.length<=ka:=by
 rcases h with h | ⟨o,its,n,hk,hc,hd,hs,hz,r⟩
 ·obtain⟨z,its,n,r,e⟩:=h.ok I.hok;exact⟨its,r,⟨_,n,e,rfl,rfl,rfl⟩,z⟩
 ·refine⟨its.toList,r,⟨o,n,I.kIn a o hk,hc,hd,by simpa using hs⟩,?_⟩
  have e:=r.length;simp only[ak5]at e;omega
theorem Inv.tuple (I:Inv X pins σ H s)(h:SqT X.K H a xs):∃its:List Value,Vals xs its/\IsTup s.heap a its.toArray/\xs.length<=ka:=by
 rcases h with h | ⟨o,its,n,hk,hc,hs,hz,r⟩
 ·obtain⟨z,its,r,p⟩:=h.ok I.hok;exact⟨its,r,p,z⟩
 ·refine⟨its.toList,r,⟨o,I.kIn a o hk,hc,n,by simpa using hs⟩,?_⟩
  have e:=r.length;simp only[ak5]at e;omega
theorem Inv.Oj (I:Inv X pins σ H s)(h:SqL X.K H a xs)(h':SqL X.K H a ys):xs=ys:=by
 obtain⟨its,r,⟨o,n,e,_,_,d⟩,_⟩:=I.list h;obtain⟨its',r',⟨o',n',e',_,_,d'⟩,_⟩:=I.list h';rw[e]at e';cases e';rw[d]at d';injection d' with d1 _
 have:its=its':=by simpa using congrArg Array.toList d1
 subst this;exact r.inj r'
theorem Inv.MQ (I:Inv X pins σ H s)(h:SqT X.K H a xs)(h':SqT X.K H a ys):xs=ys:=by
 obtain⟨its,r,⟨o,e,_,n,d⟩,_⟩:=I.tuple h;obtain⟨its',r',⟨o',e',_,n',d'⟩,_⟩:=I.tuple h';rw[e]at e';cases e';rw[d]at d';injection d' with d1 _
 have:its=its':=by simpa using congrArg Array.toList d1
 subst this;exact r.inj r'
end
abbrev Cx.oI (X:Cx)(E:Value->Shared->Prop):Cx:={ X with xe:=E }
abbrev Cx.nox (X:Cx):Cx:=X.oI λ_ _=>False
theorem Cx.Ok.oI {X:Cx}(ok:X.Ok)(E:Value->Shared->Prop):(X.oI E).Ok :=
 ⟨ok.mod,ok.kind,ok.glob,ok.blt,ok.above,ok.inj,ok.has,ok.cab,ok.hd,ok.frames,ok.stk,ok.exf,ok.bs,ok.bsz,ok.Jp,ok.Jq,ok.uk,ok.frf⟩
theorem Cx.Ok.eO {X:Cx}{E:Value->Shared->Prop}(ok:(X.oI E).Ok):X.Ok :=
 ⟨ok.mod,ok.kind,ok.glob,ok.blt,ok.above,ok.inj,ok.has,ok.cab,ok.hd,ok.frames,ok.stk,ok.exf,ok.bs,ok.bsz,ok.Jp,ok.Jq,ok.uk,ok.frf⟩
section
variable{X:Cx}{pins:List (Addr×Obj)}{σ:St}{H:Hp}{s:Shared}{E:Value->Shared->Prop}
theorem Inv.oI (I:Inv X pins σ H s)(E:Value->Shared->Prop):Inv (X.oI E) pins σ H s:=⟨I.ok.oI E,I.os,I.bare,I.base,I.loc,I.cell,I.free,I.oG,I.pin,I.hok,I.len⟩
theorem Inv.eO (I:Inv (X.oI E) pins σ H s):Inv X pins σ H s:=⟨I.ok.eO,I.os,I.bare,I.base,I.loc,I.cell,I.free,I.oG,I.pin,I.hok,I.len⟩
theorem SP.eO {D:Ends}{f:Flow}{s':Shared}(h:SP (X.oI E) pins D f s'):SP X pins D f s':=by
 cases f with
 |next=>obtain⟨σ',H',I,q⟩:=h;exact⟨σ',H',I.eO,q⟩
 |brk=>obtain⟨σ',H',I,q⟩:=h;exact⟨σ',H',I.eO,q⟩
 |cont=>obtain⟨σ',H',I,q⟩:=h;exact⟨σ',H',I.eO,q⟩
 |ret u=>obtain⟨v,σ',H',I,r,q⟩:=h;exact⟨v,σ',H',I.eO,r,q⟩
theorem PE.nox {e:Expr}{t:TE}(h:PE X.nox e t):PE X e t:=λpins s σ H Q I hw =>
 ajT (h pins s σ H Q (I.oI _) hw) (λ_ _ ⟨v,H',I',r,q⟩=>⟨v,H',I'.eO,r,q⟩) λ_ _ z=>aj3 z
theorem PT.nox {e:Expr}{t:TT}(h:PT X.nox e t):PT X e t:=λpins s σ H Q I hw =>
 ajT (h pins s σ H Q (I.oI _) hw) (λ_ _ ⟨H',I',q⟩=>⟨H',I'.eO,q⟩) λ_ _ z=>aj3 z
theorem PSs.nox {st:List Stmt}{t:TS}(h:PSs X.nox st t):PSs X st t:=λpins s σ H D I hw =>
 ajT (h pins s σ H D (I.oI _) hw) (λ_ _ q=>q.eO) λ_ _ z=>aj3 z
end
section
variable{X:Cx}{st:Stmt}{rest:List Stmt}{t u:TS}{e:Expr}{te:TE}{pos:Pos}
def ZI:TS:=λD σ H=>D.nx σ H
def ZJ (t u:TS):TS:=λD σ H=>t { D with nx:=u D } σ H
theorem aH:PSs X [] ZI:=λ_ _ σ H _ I h=>wpAny_execs_nil ⟨σ,H,I,h⟩
theorem ai (h1:PS X st t)(h2:PSs X rest u):PSs X (st::rest) (ZJ t u):=by
 intro pins s σ H D I h;refine wpAny_execs_cons (thn (h1 pins s σ H { D with nx:=u D } I h) λf s1 q=>?_)
 cases f with
 |next =>
  obtain⟨σ',H',I',q⟩:=q;exact h2 pins s1 σ' H' D I' q
 |ret v=>exact q
 |brk=>exact q
 |cont=>exact q
theorem aj (h1:PS X st t):PSs X [st] t:=by
 intro pins s σ H D I h;refine wpAny_execs_cons (thn (h1 pins s σ H D I h) λf s1 q=>?_)
 cases f with
 |next=>exact wpAny_execs_nil q
 |ret v=>exact q
 |brk=>exact q
 |cont=>exact q
theorem Inv.quiet {pins:List (Addr×Obj)}{σ:St}{H:Hp}{s:Shared}(I:Inv X pins σ H s):interactive X.env=false:=by simp[interactive,I.ok.kind]
def ZK (te:TE):TS:=λD σ H=>te σ H λ_ H1=>D.nx σ H1
theorem bN (he:PE X e te)(hs:swapsWith e none pos.line X.env=pure false:=by rfl):PS X (.Expr e pos) (ZK te):=by
 intro pins s σ H D I h;exact wpAny_Expr_any (thn (he pins s σ H _ I h) λv s1 ⟨x,H1,I1,r1,q1⟩=>⟨σ,H1,I1,q1⟩) I.quiet hs
def ahb (te:TE):TS:=λD σ H=>te σ H D.rt
theorem aI (he:PE X e te):PS X (.Return (some e) pos) (ahb te):=by
 intro pins s σ H D I h;exact wpAny_Return_some (thn (he pins s σ H _ I h) λv s1 ⟨x,H1,I1,r1,q1⟩=>⟨x,σ,H1,I1,r1,q1⟩)
def ahc (c:TT)(t u:TS):TS:=λD σ H=>c σ H λb H1=>if b=true then t D σ H1 else u D σ H1
theorem bb {c:Expr}{a b:List Stmt}{tc:TT}(hc:PT X c tc)(ha:PSs X a t)(hb:PSs X b u):PS X (.If c a b pos) (ahc tc t u):=by
 intro pins s σ H D I h;refine wpAny_If (thn (hc pins s σ H _ I h) λd s1 ⟨H1,I1,q1⟩=>?_)
 cases d with
 |true=>exact ha pins s1 σ H1 D I1 q1
 |false=>exact hb pins s1 σ H1 D I1 q1
end
abbrev TG:=V->St->Hp->(St->Hp->Prop)->Prop
abbrev TGs:=List V->St->Hp->(St->Hp->Prop)->Prop
def PG (X:Cx)(target:Expr)(t:TG):Prop :=
 ∀(pins:List (Addr×Obj)) (s:Shared) (σ:St) (H:Hp) (v:V) (u:Value) (Q:St->Hp->Prop),Inv X pins σ H s->RelV v u->t v σ H Q ->
  wpAny (model X.prog X.w) X.A (assign target X.env u) (λ_ s'=>∃σ' H',Inv X pins σ' H' s'/\Q σ' H') X.xe s
def PGs (X:Cx)(ts:List Expr)(t:TGs):Prop :=
 ∀(pins:List (Addr×Obj)) (s:Shared) (σ:St) (H:Hp) (vs:List V) (us:List Value) (Q:St->Hp->Prop),Inv X pins σ H s->Vals vs us->t vs σ H Q ->
  wpAny (model X.prog X.w) X.A (assignInOrder ((assignEach ts X.env).map (·.2)) us) (λ_ s'=>∃σ' H',Inv X pins σ' H' s'/\Q σ' H') X.xe s
abbrev Vo:=V->V->V->Hp->(Hp->Prop)->Prop
def ZL (X:Cx)(t:Vo):Prop :=
 ∀(pins:List (Addr×Obj)) (s:Shared) (σ:St) (H:Hp) (o i v:V) (ov iv u:Value) (Q:Hp->Prop),Inv X pins σ H s->RelV o ov->RelV i iv->RelV v u->t o i v H Q ->
  wpAny (model X.prog X.w) X.A (setItem ov iv u) (λ_ s'=>∃H',Inv X pins σ H' s'/\Q H') X.xe s
section
variable{X:Cx}{pos:Pos}
def iZ (i:Nat):TG:=λv σ H Q=>Q (σ.set i (some v)) H
theorem j9 {i:Nat}{x:Str}(hN:X.N.Nodup)(hi:X.N[i]?=some x)(hx:Loc X.env.scope x)(hf:X.fn x=true\/X.env.scope.names.lookup x=some .local:=by first | exact .inl rfl | exact .inr rfl | assumption):PG X (.Name x pos) (iZ i):=by
 intro pins s σ H v u Q I r h;exact wpAny_assign_Name (rp I hN hi hx r (λs' I'=>⟨_,H,I',h⟩) hf)
def ahd:TGs:=λvs σ H Q=>vs=[]/\Q σ H
def ZM (t:TG)(u:TGs):TGs:=λvs σ H Q=>∃v r,vs=v::r/\t v σ H λσ' H'=>u r σ' H' Q
theorem LK:PGs X [] ahd:=by
 intro pins s σ H vs us Q I r h;obtain⟨e,h⟩:=h;subst e;cases r;exact assignInOrder_nil ⟨σ,H,I,h⟩
theorem rz {e:Expr}{es:List Expr}{t:TG}{u:TGs}(h1:PG X e t)(h2:PGs X es u)
  (hs:(assignEach (e::es) X.env).map (·.2)=assign e X.env::(assignEach es X.env).map (·.2):=by rfl):PGs X (e::es) (ZM t u):=by
 intro pins s σ H vs us Q I r h;obtain⟨v,vr,e1,h⟩:=h;subst e1;cases r with
 |cons r rr =>
  rw[hs];refine assignInOrder_cons (thn (h1 pins s σ H _ _ _ I r h) λ_ s1 ⟨σ1,H1,I1,q1⟩=>?_)
  exact h2 pins s1 σ1 H1 _ _ Q I1 rr q1
def ahe (K:ba)(n:Nat)(t:TGs):TG:=λv σ H Q=>∃a xs,v=.ref a/\SqT K H a xs/\xs.length=n/\t xs σ H Q
theorem Ol {es:List Expr}{k:Nat}{t:TGs}{n:Nat}(hc:X.calm=true)(h:PGs X es t)
  (hn:(assignEach es X.env).length=n:=by rfl) (hst:(assignEach es X.env).findIdx? (·.1)=none:=by rfl):PG X (.Tuple es k pos) (ahe X.K n t):=by
 intro pins s σ H v u Q I r hw;obtain⟨a,xs,e1,hq,hl,hw⟩:=hw;subst e1;cases r;obtain⟨its,rv,ht,hz⟩:=I.tuple hq;refine assign_Tuple_tuple (I.ok.hd hc) ht (by simp[hn,<-hl,rv.length]) hst λh' hx=>?_
 have I1:Inv X pins σ H { s with heap:=h' }:=I.kept (t':=s.toks) λb o e=>hx b o (ajV (si e)) e
 exact h pins _ σ H xs _ Q I1 (by simpa using rv) hw
def ahf (to ti:TE)(t:Vo):TG:=λv σ H Q=>to σ H λo H1=>ti σ H1 λi H2=>t o i v H2 λH3=>Q σ H3
theorem Jt {o i:Expr}{to ti:TE}{t:Vo}(ho:PE X o to)(hi:PE X i ti)(hs:ZL X t)
  (ha:∀v,assign (.Subscript o i pos) X.env v=(do
   let ov <-holding [v] (eval o X.env)
   let iv <-holding [v,ov] (eval i X.env)
   standAt pos
   holding [v,ov,iv] (setItem ov iv v)
   release [v,ov,iv] []):=by intro _;rfl):PG X (.Subscript o i pos) (ahf to ti t):=by
 intro pins s σ H v u Q I r h;rw[ha];refine fe (akw (thn (ho pins s σ H _ I h) λov s1 ⟨x,H1,I1,r1,q1⟩=>?_))
 refine fe (akw (thn (hi pins s1 σ H1 _ I1 q1) λiv s2 ⟨y,H2,I2,r2,q2⟩=>?_))
 refine fe (akD (fe (akw (thn (hs pins s2 σ H2 x y v ov iv u _ I2 r1 r2 r q2) λ_ s3 ⟨H3,I3,q3⟩=>?_))))
 exact wpAny_release ⟨σ,H3,I3,q3⟩
def RC (te:TE)(g:TG):TS:=λD σ H=>te σ H λx H1=>g x σ H1 D.nx
theorem Ay {tg e:Expr}{te:TE}{g:TG}(he:PE X e te)(hg:PG X tg g)(hs:swapsWithSole [tg] e pos.line X.env=pure false:=by rfl)(hw:swappedStores [tg] e X.env=pure none:=by rfl)
  (h1:(assignEach [tg] X.env).map (·.2)=[assign tg X.env]:=by rfl):PS X (.Assign [tg] e pos) (RC te g):=by
 intro pins s σ H D I h;refine wpAny_Assign_stores (thn (he pins s σ H _ I h) λv s1 ⟨x,H1,I1,r1,q1⟩=>?_) hs hw
 rw[h1];exact thn (hg pins s1 σ H1 x v _ I1 r1 q1) λ_ s2 q=>q
theorem aZ {i:Nat}{x:Str}{e:Expr}{te:TE}{pos':Pos}(hN:X.N.Nodup)(hi:X.N[i]?=some x)(hx:Loc X.env.scope x)(he:PE X e te)(hs:swapsWith e (some (.Name x pos')) pos.line X.env=pure false:=by rfl)(hf:X.fn x=true\/X.env.scope.names.lookup x=some .local:=by first | exact .inl rfl | exact .inr rfl | assumption) :
  PS X (.Assign [.Name x pos'] e pos) (RC te (iZ i)):=by
 intro pins s σ H D I h;refine wpAny_Assign_Name (thn (he pins s σ H _ I h) λv s1 ⟨y,H1,I1,r1,q1⟩=>?_) hs
 exact rp I1 hN hi hx r1 (λs2 I2=>⟨_,H1,I2,q1⟩) hf
end
structure It where
 go:Nat->Hp->Prop
 yld:Nat->Hp->V->Hp->Prop
 stop:Nat->Hp->Prop
def k9 (X:Cx)(pins:List (Addr×Obj))(H:Hp)(b:Addr):Prop :=
 H b=none/\b≠X.env.locals/\b∉X.fs/\(b∈X.ex\/X.s₀.heap.objs.size<=b)/\(∀x c,X.env.cells.lookup x=some c->c≠b)/\∀p∈X.pn++pins,p.1≠b
theorem Inv.Ee {X:Cx}{pins:List (Addr×Obj)}{σ:St}{H H':Hp}{s:Shared}{b:Addr}(I:Inv X pins σ H s)(hb:s.heap.objs.size<=b)(hn:H' b=none):k9 X pins H' b:=by
 refine⟨hn,Nat.ne_of_gt (ajM I.lt hb),I.ag4 hb,.inr (ajI I.sz hb),λx c e z=>?_,λp hp z=>?_⟩
 ·obtain⟨v,q⟩:=I.cell x c e;exact absurd (ajM q.lt (by rw[z];exact hb)) (Nat.lt_irrefl _)
 ·exact absurd (ajM (si (I.pin p hp).1) (by rw[z];exact hb)) (Nat.lt_irrefl _)
structure Turn (P:rf)(w:World)(K:ba)(tg:Expr)(J:It)(fp:List Addr)(it:Addr)(tn:Nat->Heap->Prop):Prop where
 mem:it∈fp
 obj:∀i h,tn i h->∀b∈fp,∃o,h.get? b=some o/\∀v,o.data≠.cell v
 keep:∀i h h',tn i h->(∀b∈fp,∀o,h.get? b=some o->h'.get? b=some o)->tn i h'
 item:∀(X:Cx),X.prog=P->X.w=w->X.K=K->X.calm=true->∀(i:Nat) (pins:List (Addr×Obj)) (s:Shared) (σ:St) (H:Hp) (E:Value->Shared->Prop),Inv X pins σ H s->(∀b∈fp,k9 X pins H b)->tn i s.heap->J.go i H ->
  wpAny (model P w) X.A (pyNext (.ref it)) (λr s1=>∃u,r=some u /\
   wpAny (model P w) X.A (letOwnedTupleGo tg (.ref it) u) (λ_ s2=>∃x H',Inv X pins σ H' s2/\RelV x u/\J.yld i H x H'/\tn (i+1) s2.heap/\∀b∈fp,H' b=none) E s1) E s
 done:∀(X:Cx),X.prog=P->X.w=w->X.K=K->X.calm=true->∀(i:Nat) (pins:List (Addr×Obj)) (s:Shared) (σ:St) (H:Hp) (E:Value->Shared->Prop),Inv X pins σ H s->(∀b∈fp,k9 X pins H b)->tn i s.heap->J.stop i H ->
  wpAny (model P w) X.A (pyNext (.ref it)) (λr s1=>r=none/\Inv X pins σ H s1) E s
 self:∀(A:Around) (i:Nat) (s:Shared) (Q:Value->Shared->Prop) (E:Value->Shared->Prop),tn i s.heap->Q (.ref it) s->wpAny (model P w) A (pyIter (.ref it)) Q E s
abbrev TI:=St->Hp->(It->Hp->Prop)->Prop
def PIE (X:Cx)(pins:List (Addr×Obj))(σ:St)(tg:Expr)(R:It->Hp->Prop)(itv:Value)(s2:Shared):Prop :=
 ∃(it:Addr) (fp:List Addr) (tn:Nat->Heap->Prop) (J:It) (H':Hp),itv=.ref it/\Inv X pins σ H' s2/\Turn X.prog X.w X.K tg J fp it tn/\tn 0 s2.heap/\(∀b∈fp,k9 X pins H' b)/\R J H'
def PI (X:Cx)(tg iter:Expr)(wi:TI):Prop :=
 ∀(pins:List (Addr×Obj)) (s:Shared) (σ:St) (H:Hp) (R:It->Hp->Prop),Inv X pins σ H s->wi σ H R ->
  wpAny (model X.prog X.w) X.A (eval iter X.env) (λv s1=>wpAny (model X.prog X.w) X.A (pyIter v) (PIE X pins σ tg R) X.xe s1) X.xe s
theorem Om {M:Model}{A:Around}{E:Value->Shared->Prop}{s:Shared}{tg:Expr}{it:Addr}{u:Value}{o:Obj}{n:String}{vs:Array Value}{Q:Unit->Shared->Prop}(ho:s.heap.get? it=some o)(hc:o.cls=.type n)(hd:o.data=.fields vs)
    (hn:["enumerate","zip","dict_itemiterator","dict_reverseitemiterator","odict_iterator","itertools.zip_longest","itertools.pairwise"].contains n=false) (hQ:Q () s):wpAny M A (letOwnedTupleGo tg (.ref it) u) Q E s:=by
  unfold letOwnedTupleGo
  cases tg <;> first
    |exact tm hQ
    | (cases u <;> first
        |exact tm hQ
        | (refine fe (wpAny_load ho ?_)
           rw[hc,hd]
           show wpAny M A (if (["enumerate","zip","dict_itemiterator","dict_reverseitemiterator","odict_iterator","itertools.zip_longest","itertools.pairwise"].contains n && vs[0]? == some (rawInt _))=true then _ else _) Q E s
           rw[if_neg (by intro h;rw[hn,Bool.false_and]at h;cases h)]
           exact tm hQ))
def Itl (K:ba)(a:Addr):It :=
 ⟨λi H=>∃xs x,SqL K H a xs/\xs[i]?=some x,λi H x H'=>H'=H/\∀xs,SqL K H a xs->xs[i]?=some x,λi H=>∃xs,SqL K H a xs/\xs.length<=i⟩
def Itt (K:ba)(a:Addr):It :=
 ⟨λi H=>∃xs x,SqT K H a xs/\xs[i]?=some x,λi H x H'=>H'=H/\∀xs,SqT K H a xs->xs[i]?=some x,λi H=>∃xs,SqT K H a xs/\xs.length<=i⟩
def Itr (lo:Int)(n:Nat):It:=⟨λi _=>i < n,λi H x H'=>H'=H/\x=.int (lo+i),λi _=>n<=i⟩
theorem MR {P:rf}{w:World}{K:ba}{tg:Expr}(a it:Addr):Turn P w K tg (Itl K a) [it] it (λi h=>h.IsListIter it a i) where
 mem:=by simp
 obj:=λi h st b hb=>by
  have e:b=it:=by simpa using hb
  subst e;obtain⟨o,e,c,d⟩:=st;exact⟨o,e,λv z=>by rw[d]at z;cases z⟩
 keep:=λi h h' st k=>st.at λo e=>k it (by simp) o e
 item:=by
  intro X hP hw hK hc i pins s σ H E I hf st hg;subst hP hw hK;obtain⟨xs,x,hq,hx⟩:=hg;obtain⟨its,rv,p,hz⟩:=I.list hq;obtain⟨u,hu,ru⟩:=rv.get hx;obtain⟨f0,f1,f2,f3,f4,f5⟩:=hf it (by simp)
  refine wpAny_pyNext_list_item st p.isList (x:=u) (by simpa using hu) λh' st' sb=>?_
  have I1:Inv X pins σ H { s with heap:=h' }:=I.turned (t':=s.toks) (λb o hb e=>(sb.2 b hb).trans e) f0 f1 f3 f4 f5
  obtain⟨o,e,c,d⟩:=id st';exact⟨u,rfl,Om (s:={ s with heap:=h' }) e c d (by decide) ⟨x,H,I1,ru,⟨rfl,λys hy=>by rw[I.Oj hy hq];exact hx⟩,st',λb hb=>(hf b hb).1⟩⟩
 done:=by
  intro X hP hw hK hc i pins s σ H E I hf st hg;subst hP hw hK;obtain⟨xs,hq,hx⟩:=hg;obtain⟨its,rv,p,hz⟩:=I.list hq;obtain⟨f0,f1,f2,f3,f4,f5⟩:=hf it (by simp)
  have hl:=rv.length;exact wpAny_pyNext_list_end (I.ok.hd hc) st p.isList (by simp;omega) λh' eb=>⟨rfl,I.turned (t':=s.toks) (λb o hb e=>eb b o hb e) f0 f1 f3 f4 f5⟩
 self:=λ_ _ _ _ _ st h=>wpAny_pyIter_listiter st h
theorem Ju {P:rf}{w:World}{K:ba}{tg:Expr}(a it:Addr):Turn P w K tg (Itt K a) [it] it (λi h=>h.IsTupleIter it a i) where
 mem:=by simp
 obj:=λi h st b hb=>by
  have e:b=it:=by simpa using hb
  subst e;obtain⟨o,e,c,d⟩:=st;exact⟨o,e,λv z=>by rw[d]at z;cases z⟩
 keep:=λi h h' st k=>st.at λo e=>k it (by simp) o e
 item:=by
  intro X hP hw hK hc i pins s σ H E I hf st hg;subst hP hw hK;obtain⟨xs,x,hq,hx⟩:=hg;obtain⟨its,rv,p,hz⟩:=I.tuple hq;obtain⟨u,hu,ru⟩:=rv.get hx;obtain⟨f0,f1,f2,f3,f4,f5⟩:=hf it (by simp)
  refine wpAny_pyNext_tuple_item st (show s.heap.IsTuple a its.toArray from p) (x:=u) (by simpa using hu) λh' st' sb=>?_
  have I1:Inv X pins σ H { s with heap:=h' }:=I.turned (t':=s.toks) (λb o hb e=>(sb.2 b hb).trans e) f0 f1 f3 f4 f5
  obtain⟨o,e,c,d⟩:=id st';exact⟨u,rfl,Om (s:={ s with heap:=h' }) e c d (by decide) ⟨x,H,I1,ru,⟨rfl,λys hy=>by rw[I.MQ hy hq];exact hx⟩,st',λb hb=>(hf b hb).1⟩⟩
 done:=by
  intro X hP hw hK hc i pins s σ H E I hf st hg;subst hP hw hK;obtain⟨xs,hq,hx⟩:=hg;obtain⟨its,rv,p,hz⟩:=I.tuple hq;obtain⟨f0,f1,f2,f3,f4,f5⟩:=hf it (by simp)
  have hl:=rv.length;exact wpAny_pyNext_tuple_end (I.ok.hd hc) st (show s.heap.IsTuple a its.toArray from p) (by simp;omega) λh' eb=>⟨rfl,I.turned (t':=s.toks) (λb o hb e=>eb b o hb e) f0 f1 f3 f4 f5⟩
 self:=λ_ _ _ _ _ st h=>wpAny_pyIter_tupleiter st h
theorem Jv {P:rf}{w:World}{K:ba}{tg:Expr}(it:Addr)(lo:Int)(n:Nat):Turn P w K tg (Itr lo n) [it] it (λi h=>IsRangeIter h it (lo+(i:Nat) * 1) ((n:Int) - (i:Nat)) 1) where
 mem:=by simp
 obj:=λi h st b hb=>by
  have e:b=it:=by simpa using hb
  subst e;exact⟨_,st,λv z=>by
   have z':Data.fields _=Data.cell v:=z;cases z'⟩
 keep:=λi h h' st k=>k it (by simp) _ st
 item:=by
  intro X hP hw hK hc i pins s σ H E I hf st hg;subst hP hw hK;obtain⟨f0,f1,f2,f3,f4,f5⟩:=hf it (by simp)
  have W:=Walks.range (prog:=X.prog) (w:=X.w) (I.ok.hd hc) it lo 1 n;refine W.item i s _ _ hg st λv h' tk hv st' kk=>?_
  obtain⟨t,rfl⟩:=hv;have I1:Inv X pins σ H { s with heap:=h',toks:=tk }:=I.turned (λb o hb e=>kk b o (by simpa using hb) e) f0 f1 f3 f4 f5
  refine⟨_,rfl,Om (s:={ s with heap:=h',toks:=tk }) (n:="range_iterator") st' rfl rfl (by decide) ⟨.int (lo+i),H,I1,⟨t,?_⟩,⟨rfl,rfl⟩,st',λb hb=>(hf b hb).1⟩⟩
  rw[Int.mul_one]
 done:=by
  intro X hP hw hK hc i pins s σ H E I hf st hg;subst hP hw hK;obtain⟨f0,f1,f2,f3,f4,f5⟩:=hf it (by simp)
  exact wpAny_pyNext_range_end (I.ok.hd hc) st (by have:n<=i:=hg;omega) λh' eb=>⟨rfl,I.turned (t':=s.toks) (λb o hb e=>eb b o hb e) f0 f1 f3 f4 f5⟩
 self:=λ_ _ _ _ _ st h=>wpAny_pyIter_rangeiter st h
end L2
namespace L2
open PySem PySem.Spec PyProof.Rows
section
variable{X:Cx}{tg:Expr}
def ZN (K:ba)(tl:TE):TI:=λσ H R=>tl σ H λx H1=>∃a,x=.ref a/\(∃xs,SqL K H1 a xs)/\R (Itl K a) H1
def ahg (K:ba)(tl:TE):TI:=λσ H R=>tl σ H λx H1=>∃a,x=.ref a/\(∃xs,SqT K H1 a xs)/\R (Itt K a) H1
theorem tq {l:Expr}{tl:TE}(hl:PE X l tl):PI X tg l (ZN X.K tl):=by
 intro pins s σ H R I h;refine thn (hl pins s σ H _ I h) λv s1 ⟨x,H1,I1,r1,q1⟩=>?_
 obtain⟨a,e,⟨xs,hq⟩,q⟩:=q1;subst e;cases r1;obtain⟨its,rv,p,hz⟩:=I1.list hq;refine wpAny_pyIter_list p.isList ?_;refine⟨s1.heap.objs.size,[s1.heap.objs.size],_,_,H1,rfl,I1.kept (t':=s1.toks) λb o e=>kf _ e,MR a _,⟨_,ajU _ rfl,rfl,rfl⟩,λb hb=>?_,q⟩
 have e:b=s1.heap.objs.size:=by simpa using hb
 subst e;exact I1.Ee (kr _) (I1.hok.fresh (kr _))
theorem Vp {l:Expr}{tl:TE}(hl:PE X l tl):PI X tg l (ahg X.K tl):=by
 intro pins s σ H R I h;refine thn (hl pins s σ H _ I h) λv s1 ⟨x,H1,I1,r1,q1⟩=>?_
 obtain⟨a,e,⟨xs,hq⟩,q⟩:=q1;subst e;cases r1;obtain⟨its,rv,p,hz⟩:=I1.tuple hq;refine wpAny_pyIter_tuple (show s1.heap.IsTuple a its.toArray from p) ?_
 refine⟨s1.heap.objs.size,[s1.heap.objs.size],_,_,H1,rfl,I1.kept (t':=s1.toks) λb o e=>kf _ e,Ju a _,⟨_,ajU _ rfl,rfl,rfl⟩,λb hb=>?_,q⟩
 have e:b=s1.heap.objs.size:=by simpa using hb
 subst e;exact I1.Ee (kr _) (I1.hok.fresh (kr _))
theorem Oo {pins:List (Addr×Obj)}{σ:St}{H:Hp}{s:Shared}{R:It->Hp->Prop}{E:Value->Shared->Prop}{lo hi:Int}{t u v:Tok}{tk:Nat}(I:Inv X pins σ H s)(h1:-(2 ^ 62)<=lo)(h2:lo < 2 ^ 62)(h3:-(2 ^ 62)<=hi)(h4:hi < 2 ^ 62)
  (q:R (Itr lo (hi - lo).toNat) H):wpAny (model X.prog X.w) X.A (pyIter (.ref s.heap.objs.size)) (PIE X pins σ tg R) E { s with heap:=s.heap.push { cls:=.type "range",data:=.fields #[.int lo t,.int hi u,.int 1 v] },toks:=tk }:=by
 refine wpAny_pyIter_range (IsRange.new ..) (small_one h1 h2 h3 h4) ?_;have I1:Inv X pins σ H { s with heap:=s.heap.push { cls:=.type "range",data:=.fields #[.int lo t,.int hi u,.int 1 v] },toks:=tk }:=I.kept λb o e=>kf _ e
 refine⟨(s.heap.push { cls:=.type "range",data:=.fields #[.int lo t,.int hi u,.int 1 v] }).objs.size,[(s.heap.push { cls:=.type "range",data:=.fields #[.int lo t,.int hi u,.int 1 v] }).objs.size],_,_,H,rfl,
  I1.kept (t':=tk) λb o e=>kf _ e,Jv _ lo (hi - lo).toNat,?_,λb hb=>?_,q⟩
 ·have e1:lo+((0:Nat):Int) * 1=lo:=by simp
  have e2:(((hi - lo).toNat:Nat):Int) - ((0:Nat):Int)=Builtin.Range.rangeSize lo hi 1:=by rw[rangeSize_one];split <;> omega
  show IsRangeIter _ _ (lo+((0:Nat):Int) * 1) ((((hi - lo).toNat:Nat):Int) - ((0:Nat):Int)) 1;rw[e1,e2];exact ajU _ rfl
 ·have e:b=(s.heap.push { cls:=.type "range",data:=.fields #[.int lo t,.int hi u,.int 1 v] }).objs.size:=by simpa using hb
  subst e;exact I1.Ee (kr _) (I1.hok.fresh (kr _))
def ZO (ta:TA):TI:=λσ H R=>ta σ H λvs H1=>∃j:Int,vs=[.int j]/\-(2 ^ 62)<=j/\j < 2 ^ 62/\R (Itr 0 j.toNat) H1
theorem wW {a:Expr}{ta:TA}{p pos:Pos}(hg:Gl X "range")(hm:X.mg "range"=none)(ha:PA X [a] ta)(hs:ajJ [a] X.env=[(false,eval a X.env)]:=by rfl):PI X tg (.Call (.Name "range" p) [a] [] pos) (ZO ta):=by
 intro pins s σ H R I h;refine Call_ (Eb I hg hm boot_range (PyProof.Rows.callWith_type1 (thn (ha pos pins s σ H _ I h) λus s1 ⟨vs,H1,I1,r1,q1⟩=>?_) hs rfl))
 obtain⟨j,e,q1,q2,q⟩:=q1;subst e;cases r1 with
 |cons r rr =>
  cases rr;obtain⟨t,rfl⟩:=r;exact call_range_1 (Oo I1 (by omega) (by omega) q1 q2 (by simpa using q))
def ahh (wi:TI)(g:TG)(tb:TS):TS:=λD σ H=>wi σ H λJ H1=>∃W:Nat->Nat->St->Hp->Prop,(∃m,W 0 m σ H1)/\∀i m σ H,W i m σ H ->
 (J.stop i H/\D.nx σ H)\/(J.go i H/\∃N:St->Hp->Prop,(∀σ' H',N σ' H'->∃m',m' < m/\W (i+1) m' σ' H')/\∀x H',J.yld i H x H'->g x σ H' λσ2 H2=>tb { D with nx:=N,ct:=N,bk:=D.nx } σ2 H2)
def Ef (fp:List Addr)(h:Heap):List (Addr×Obj):=fp.filterMap λb=>(h.get? b).map λo=>(b,o)
theorem p7 {fp:List Addr}{h:Heap}{b:Addr}{o:Obj}(hb:b∈fp)(e:h.get? b=some o):(b,o)∈Ef fp h:=List.mem_filterMap.mpr ⟨b,hb,by rw[e];rfl⟩
theorem MS {fp:List Addr}{h:Heap}{p:Addr×Obj}(hp:p∈Ef fp h):p.1∈fp/\h.get? p.1=some p.2:=by
 obtain⟨b,hb,e⟩:=List.mem_filterMap.mp hp;cases q:h.get? b with
 |none=>rw[q]at e;cases e
 |some o =>
  rw[q]at e;have e':(b,o)=p:=ajP e;subst e';exact⟨hb,q⟩
theorem Inv.pinned {pins:List (Addr×Obj)}{σ:St}{H:Hp}{s:Shared}{fp:List Addr}(I:Inv X pins σ H s)(hf:∀b∈fp,k9 X pins H b)(ho:∀b∈fp,∃o,s.heap.get? b=some o/\∀v,o.data≠.cell v):Inv X (pins++Ef fp s.heap) σ H s :=
 I.D9 λp hp=>(List.mem_append.mp hp).elim (λz=>I.pin p (Lk _ z)) λz=>by
  obtain⟨hb,e⟩:=MS z;obtain⟨f0,f1,f2,_⟩:=hf p.1 hb;obtain⟨o,e',d⟩:=ho p.1 hb;rw[e]at e';cases e';exact⟨e,f0,f1,f2,d⟩
theorem Inv.l6 {pins pl:List (Addr×Obj)}{σ:St}{H:Hp}{s:Shared}(I:Inv X (pins++pl) σ H s):Inv X pins σ H s:=I.D9 λp hp=>I.pin p (Lk _ (akv _ hp))
theorem Az {iter:Expr}{body:List Stmt}{wi:TI}{g:TG}{tb:TS}{pos:Pos}(hp:PassesOwn (model X.prog X.w) X.A X.env X.xe)(hc:X.calm=true)(hi:PI X tg iter wi)(hg:PG X tg g)(hb:PSs X body tb)
  (hs:∀x,foldedSetIterable iter X.env x=pure x:=by intro _;rfl):PS X (.For tg iter body [] pos) (ahh wi g tb):=by
 intro pins s σ H D I h;refine wpAny_For (thn (hi pins s σ H _ I h) λv s1 h1=>thn h1 λitv s2 h2=>?_) hs
 obtain⟨it,fp,tn,J,H2,e,I2,T,st2,f2,W,⟨m0,w0⟩,turn⟩:=h2;subst e;have stat:∀ {H':Hp},(∀b∈fp,H' b=none)->∀b∈fp,k9 X pins H' b:=λhn b hb=>⟨hn b hb,(f2 b hb).2⟩
 refine codeAny_forLoop_any (λn s'=>∃i σ' H',Inv X pins σ' H' s'/\tn i s'.heap/\(∀b∈fp,H' b=none)/\W i n σ' H') ?_ m0 ⟨0,σ,H2,I2,st2,λb hb=>(f2 b hb).1,w0⟩
 rintro n s3 ⟨i,σ3,H3,I3,st3,fr3,w3⟩;rcases turn i n σ3 H3 w3 with ⟨stop,qn⟩ | ⟨go,N,hN,step⟩
 ·refine wpAny_passesOwn hp (thn (T.done X rfl rfl rfl hc i pins s3 σ3 H3 X.xe I3 (stat fr3) st3 stop) λr s4 ⟨hr,I4⟩=>?_)
  subst hr;exact wpAny_execs_nil ⟨σ3,H3,I4,qn⟩
 ·refine wpAny_passesOwn hp (thn (T.item X rfl rfl rfl hc i pins s3 σ3 H3 X.xe I3 (stat fr3) st3 go) λr s4 ⟨u,hr,h4⟩=>?_)
  subst hr;refine wpAny_passesOwn hp (thn h4 λ_ s5 ⟨x,H5,I5,r5,y5,st5,fr5⟩=>?_)
  have I5':=I5.pinned (stat fr5) (T.obj _ _ st5);refine wpAny_passesOwn hp (thn (hg _ s5 σ3 H5 x u _ I5' r5 (step x H5 y5)) λ_ s6 ⟨σ6,H6,I6,q6⟩=>?_)
  refine wpAny_passesOwn hp (thn (hb _ s6 σ6 H6 _ I6 q6) λf s7 q7=>?_)
  have again:∀ {σ7:St} {H7:Hp},Inv X (pins++Ef fp s5.heap) σ7 H7 s7->N σ7 H7->∃m,m < n/\∃i σ' H',Inv X pins σ' H' s7/\tn i s7.heap/\(∀b∈fp,H' b=none)/\W i m σ' H':=λ{σ7 H7} I7 n7=>by
   obtain⟨m',hm,w7⟩:=hN σ7 H7 n7;refine⟨m',hm,i+1,σ7,H7,I7.l6,T.keep _ _ _ st5 λb hb o e=>(I7.pin (b,o) (Lk _ (Lk _ (p7 hb e)))).1,λb hb=>?_,w7⟩
   obtain⟨o,e,d⟩:=T.obj _ _ st5 b hb;exact(I7.pin (b,o) (Lk _ (Lk _ (p7 hb e)))).2.1
  cases f with
  |next=>obtain⟨σ7,H7,I7,n7⟩:=q7;exact again I7 n7
  |cont=>obtain⟨σ7,H7,I7,n7⟩:=q7;exact again I7 n7
  |brk=>obtain⟨σ7,H7,I7,q7⟩:=q7;exact⟨σ7,H7,I7.l6,q7⟩
  |ret v=>obtain⟨x7,σ7,H7,I7,r7,q7⟩:=q7;exact⟨x7,σ7,H7,I7.l6,r7,q7⟩
end
theorem AA {K:ba}{a:Addr}{xs:List V}{g:TG}{tb:TS}{D:Ends}{σ:St}{H:Hp}(Pv:Nat->St->Hp->Prop)(h0:Pv 0 σ H)(hl:∀i σ H,i<=xs.length->Pv i σ H->SqL K H a xs)
  (hs:∀i x σ H,xs[i]?=some x->Pv i σ H->g x σ H λσ2 H2=>tb { D with nx:=Pv (i+1),ct:=Pv (i+1),bk:=D.nx } σ2 H2) (hd:∀σ H,Pv xs.length σ H->D.nx σ H) :
  ∃W:Nat->Nat->St->Hp->Prop,(∃m,W 0 m σ H)/\∀i m σ H,W i m σ H ->
   ((Itl K a).stop i H/\D.nx σ H)\/((Itl K a).go i H/\∃N:St->Hp->Prop,(∀σ' H',N σ' H'->∃m',m' < m/\W (i+1) m' σ' H')/\∀x H',(Itl K a).yld i H x H'->g x σ H' λσ2 H2=>tb { D with nx:=N,ct:=N,bk:=D.nx } σ2 H2):=by
 refine⟨λi m σ H=>m=xs.length - i/\i<=xs.length/\Pv i σ H,⟨xs.length,by simp,akB _,h0⟩,?_⟩
 rintro i m σ H ⟨rfl,hi,p⟩;have q:=hl i σ H hi p
 by_cases hlt:i < xs.length
 ·refine .inr ⟨⟨xs,xs[i],q,by simp[hlt]⟩,Pv (i+1),λσ' H' p'=>⟨xs.length - (i+1),by omega,rfl,hlt,p'⟩,λx H' y=>?_⟩
  obtain⟨e,y⟩:=y;subst e;exact hs i x σ _ (y xs q) p
 ·have e:i=xs.length:=by omega
  subst e;exact .inl ⟨⟨xs,q,kr _⟩,hd σ H p⟩
theorem CZ {lo:Int}{n:Nat}{g:TG}{tb:TS}{D:Ends}{σ:St}{H:Hp}(Pv:Nat->St->Hp->Prop)(h0:Pv 0 σ H)
  (hs:∀i σ H,i < n->Pv i σ H->g (.int (lo+i)) σ H λσ2 H2=>tb { D with nx:=Pv (i+1),ct:=Pv (i+1),bk:=D.nx } σ2 H2) (hd:∀σ H,Pv n σ H->D.nx σ H) :
  ∃W:Nat->Nat->St->Hp->Prop,(∃m,W 0 m σ H)/\∀i m σ H,W i m σ H ->
   ((Itr lo n).stop i H/\D.nx σ H)\/((Itr lo n).go i H/\∃N:St->Hp->Prop,(∀σ' H',N σ' H'->∃m',m' < m/\W (i+1) m' σ' H')/\∀x H',(Itr lo n).yld i H x H'->g x σ H' λσ2 H2=>tb { D with nx:=N,ct:=N,bk:=D.nx } σ2 H2):=by
 refine⟨λi m σ H=>m=n - i/\i<=n/\Pv i σ H,⟨n,by simp,akB _,h0⟩,?_⟩
 rintro i m σ H ⟨rfl,hi,p⟩
 by_cases hlt:i < n
 ·refine .inr ⟨hlt,Pv (i+1),λσ' H' p'=>⟨n - (i+1),by omega,rfl,hlt,p'⟩,λx H' y=>?_⟩
  obtain⟨e,y⟩:=y;subst e y;exact hs i σ _ hlt p
 ·have e:i=n:=by omega
  subst e;exact .inl ⟨kr _,hd σ H p⟩
end L2
namespace L2
open PySem PySem.Spec PyProof.Rows
abbrev R2:=V->V->Hp->VK->Prop
def OpR (X:Cx)(f:Value->Value->Sem Value)(r:R2):Prop :=
 ∀(pins:List (Addr×Obj)) (s:Shared) (σ:St) (H:Hp) (x y:V) (v u:Value) (Q:VK),Inv X pins σ H s->RelV x v->RelV y u->r x y H Q ->
  wpAny (model X.prog X.w) X.A (f v u) (EP X pins σ Q) X.xe s
def UnR (X:Cx)(f:Value->Sem Value)(r:V->Hp->VK->Prop):Prop :=
 ∀(pins:List (Addr×Obj)) (s:Shared) (σ:St) (H:Hp) (x:V) (v:Value) (Q:VK),Inv X pins σ H s->RelV x v->r x H Q ->
  wpAny (model X.prog X.w) X.A (f v) (EP X pins σ Q) X.xe s
def lx (X:Cx)(f:Value)(r:List V->Hp->VK->Prop):Prop :=
 ∀(pins:List (Addr×Obj)) (s:Shared) (σ:St) (H:Hp) (xs:List V) (us:List Value) (Q:VK),Inv X pins σ H s->Vals xs us->r xs H Q ->
  wpAny (model X.prog X.w) X.A (call f us) (EP X pins σ Q) X.xe s
def ahi (X:Cx)(r:V->Hp->(Bool->Hp->Prop)->Prop):Prop :=
 ∀(pins:List (Addr×Obj)) (s:Shared) (σ:St) (H:Hp) (x:V) (v:Value) (Q:Bool->Hp->Prop),Inv X pins σ H s->RelV x v->r x H Q ->
  wpAny (model X.prog X.w) X.A (truthy v) (TP X pins σ Q) X.xe s
def tOp (r:R2)(ta tb:TE):TE:=λσ H Q=>ta σ H λx H1=>tb σ H1 λy H2=>r x y H2 Q
def tUn (r:V->Hp->VK->Prop)(ta:TE):TE:=λσ H Q=>ta σ H λx H1=>r x H1 Q
def rI (C:Int->Int->Prop)(g:Int->Int->V):R2:=λx y H Q=>∃i j,x=.int i/\y=.int j/\C i j/\Q (g i j) H
def rI0 (g:Int->Int->V):R2:=λx y H Q=>∃i j,x=.int i/\y=.int j/\Q (g i j) H
def rU (g:Int->V):V->Hp->VK->Prop:=λx H Q=>∃i,x=.int i/\Q (g i) H
section
variable{X:Cx}{a b c:Expr}{ta tb tc:TE}{pos:Pos}
theorem Vq (ha:PE X a ta)(hb:PE X b tb){pins:List (Addr×Obj)}{s:Shared}{σ:St}{H:Hp}{R:V->V->Hp->Prop}(I:Inv X pins σ H s)
  (h:ta σ H λx H1=>tb σ H1 λy H2=>R x y H2) {Q:Value->Shared->Prop} {f:Value->Value->Sem Value}
  (hf:∀v u s2 x y H2,Inv X pins σ H2 s2->RelV x v->RelV y u->R x y H2->wpAny (model X.prog X.w) X.A (f v u) Q X.xe s2) :
  wpAny (model X.prog X.w) X.A (eval a X.env) (λv s₁=>wpAny (model X.prog X.w) X.A (eval b X.env) (λu s₂=>wpAny (model X.prog X.w) X.A (f v u) Q X.xe s₂) X.xe s₁) X.xe s:=by
 refine thn (ha pins s σ H _ I h) λv s1 ⟨x,H1,I1,r1,q1⟩=>?_
 refine thn (hb pins s1 σ H1 _ I1 q1) λu s2 ⟨y,H2,I2,r2,q2⟩=>?_
 exact hf v u s2 x y H2 I2 r1 r2 q2
theorem a6 {op:Operator}{r:R2}(ho:OpR X (binaryOp op) r)(ha:PE X a ta)(hb:PE X b tb):PE X (.BinOp a op b pos) (tOp r ta tb):=by
 intro pins s σ H Q I h;exact wpAny_BinOp (Vq ha hb I h λv u s2 x y H2 I2 rx ry q=>ho pins s2 σ H2 x y v u Q I2 rx ry q)
theorem oJ {op:UnaryOp}{r:V->Hp->VK->Prop}(ho:UnR X (unaryOp op) r)(ha:PE X a ta):PE X (.UnaryOp op a pos) (tUn r ta):=by
 intro pins s σ H Q I h;exact UnaryOp_ (thn (ha pins s σ H _ I h) λv s1 ⟨x,H1,I1,r1,q1⟩=>ho pins s1 σ H1 x v Q I1 r1 q1)
theorem opI {f:Value->Value->Sem Value}{C:Int->Int->Prop}{g:Int->Int->Int}
  (rule:∀(i j:Int) (t u:Tok) (s:Shared) (Q:Value->Shared->Prop) (E:Value->Shared->Prop),C i j->Q (.int (g i j) s.toks) { s with toks:=s.toks+1 }->wpAny (model X.prog X.w) X.A (f (.int i t) (.int j u)) Q E s) :
  OpR X f (rI C λi j=>.int (g i j)):=by
 intro pins s σ H x y v u Q I rx ry h;obtain⟨i,j,rfl,rfl,hc,q⟩:=h;obtain⟨t,rfl⟩:=rx;obtain⟨t',rfl⟩:=ry;exact rule i j t t' s _ _ hc ⟨.int (g i j),H,I.tok _,⟨_,rfl⟩,q⟩
theorem ZP {f:Value->Value->Sem Value}{g:Int->Int->Int}
  (rule:∀(i j:Int) (t u:Tok) (s:Shared) (Q:Value->Shared->Prop) (E:Value->Shared->Prop),Q (.int (g i j) s.toks) { s with toks:=s.toks+1 }->wpAny (model X.prog X.w) X.A (f (.int i t) (.int j u)) Q E s) :
  OpR X f (rI0 λi j=>.int (g i j)):=by
 intro pins s σ H x y v u Q I rx ry h;obtain⟨i,j,rfl,rfl,q⟩:=h;obtain⟨t,rfl⟩:=rx;obtain⟨t',rfl⟩:=ry;exact rule i j t t' s _ _ ⟨.int (g i j),H,I.tok _,⟨_,rfl⟩,q⟩
theorem RD {f:Value->Value->Sem Value}{g:Int->Int->Bool}
  (rule:∀(i j:Int) (t u:Tok) (s:Shared) (Q:Value->Shared->Prop) (E:Value->Shared->Prop),Q (.bool (g i j)) s->wpAny (model X.prog X.w) X.A (f (.int i t) (.int j u)) Q E s) :
  OpR X f (rI0 λi j=>.bl (g i j)):=by
 intro pins s σ H x y v u Q I rx ry h;obtain⟨i,j,rfl,rfl,q⟩:=h;obtain⟨t,rfl⟩:=rx;obtain⟨t',rfl⟩:=ry;exact rule i j t t' s _ _ ⟨.bl (g i j),H,I,rfl,q⟩
def ahj (i j:Int):Prop:=0 < j/\j < 1073741824
def ahk (i j:Int):Prop:=0<=j/\j<=1000000/\i.natAbs < 2 ^ 64
def Vr (i j:Int):Prop:=(-(2 ^ 64) < i/\i < 2 ^ 64)\/(-(2 ^ 64) < j/\j < 2 ^ 64)
theorem Vr.ok {i j:Int}(h:Vr i j):IntMulOk i j:=by
 rcases h with ⟨h1,h2⟩ | ⟨h1,h2⟩
 ·exact .of_left (intBits_le_64 h1 h2)
 ·exact .of_right (intBits_le_64 h1 h2)
theorem dJ:OpR X (binaryOp .Add) (rI0 λi j=>.int (i+j)):=ZP λ_ _ _ _ _ _ _ q=>add_int q
theorem nP:OpR X (binaryOp .Sub) (rI0 λi j=>.int (i - j)):=ZP λ_ _ _ _ _ _ _ q=>sub_int q
theorem wX:OpR X (binaryOp .Mult) (rI Vr λi j=>.int (i * j)):=opI λ_ _ _ _ _ _ _ hc q=>mul_int q hc.ok
theorem cI:OpR X (binaryOp .FloorDiv) (rI ahj λi j=>.int (i / j)):=opI λi j _ _ _ _ _ hc q=>by
 have h1:(0:Int) < j:=hc.1;have h2:j < 1073741824:=hc.2;exact floordiv_int (by omega) (by rw[Int.fdiv_eq_ediv_of_nonneg i (by omega)];exact q) (.inl (PyProof.noPylong_small (by omega)))
theorem bU:OpR X (binaryOp .Mod) (rI (λ_ j=>0 < j) λi j=>.int (i % j)):=opI λi j _ _ _ _ _ hc q=>by
 have h1:(0:Int) < j:=hc;exact mod_int' (by omega) (by rw[Int.fmod_eq_emod_of_nonneg i (by omega)];exact q)
theorem Vs:OpR X (binaryOp .Pow) (rI ahk λi j=>.int (i ^ j.toNat)):=opI λ_ _ _ _ _ _ _ hc q=>pow_int_small hc.1 hc.2.1 hc.2.2 q
theorem unI {f:Value->Sem Value}{g:Int->Int}
  (rule:∀(i:Int) (t:Tok) (s:Shared) (Q:Value->Shared->Prop) (E:Value->Shared->Prop),Q (.int (g i) s.toks) { s with toks:=s.toks+1 }->wpAny (model X.prog X.w) X.A (f (.int i t)) Q E s) :
  UnR X f (rU λi=>.int (g i)):=by
 intro pins s σ H x v Q I rx h;obtain⟨i,rfl,q⟩:=h;obtain⟨t,rfl⟩:=rx;exact rule i t s _ _ ⟨.int (g i),H,I.tok _,⟨_,rfl⟩,q⟩
theorem jA:UnR X (unaryOp .USub) (rU λi=>.int (-i)):=unI λ_ _ _ _ _ q=>neg_int q
end
def ZQ:V->V->Bool
 | .non,.non=>true | .non,.int _=>true | .int _,.non=>true | .non,.bl _=>true | .bl _,.non=>true | .non,.str _=>true | .str _,.non=>true
 | .int _,.int _=>true | .bl _,.bl _=>true | .str _,.str _=>true | .byt _,.byt _=>true
 | .int _,.str _=>true | .str _,.int _=>true | .bl _,.str _=>true | .str _,.bl _=>true
 |_,_=>false
def rEq:R2:=λx y H Q=>ZQ x y=true/\Q (.bl (decide (x=y))) H
def rNe:R2:=λx y H Q=>ZQ x y=true/\Q (.bl (!decide (x=y))) H
theorem LL {i j:Int}:decide (V.int i=V.int j)=(i == j):=by
 rw[Bool.eq_iff_iff];simp
theorem Oq {i j:Bool}:decide (V.bl i=V.bl j)=(i == j):=by
 rw[Bool.eq_iff_iff];simp
theorem LM {i j:Str}:decide (V.str i=V.str j)=(i == j):=by
 rw[Bool.eq_iff_iff];simp
theorem LN {i j:Array UInt8}:decide (V.byt i=V.byt j)=(i.toList == j.toList):=by
 rw[Bool.eq_iff_iff];cases i;cases j;simp
section
variable{X:Cx}{a b c:Expr}{ta tb tc:TE}{pos:Pos}
theorem cy {pins:List (Addr×Obj)}{σ:St}{H:Hp}{s:Shared}{Q:VK}{k k':Bool}(I:Inv X pins σ H s)(q:Q (.bl k) H)(e:k=k'):EP X pins σ Q (.bool k') s:=by
 subst e;exact⟨.bl k,H,I,rfl,q⟩
theorem bu:OpR X (akG .Eq) rEq:=by
 intro pins s σ H x y v u Q I rx ry h;obtain⟨hs,q⟩:=h;cases x with
 |non =>
  cases rx;cases y with
  |non=>cases ry;exact PySem.EqNone.eq_none_none (cy I q (by simp))
  |bl j=>cases ry;exact PySem.EqNone.eq_none_bool (cy I q (by simp))
  |int j=>obtain⟨t',rfl⟩:=ry;exact PySem.EqNone.eq_none_int (cy I q (by simp))
  |str j=>obtain⟨t',rfl⟩:=ry;exact PySem.EqNone.eq_none_str (cy I q (by simp))
  |_=>exact absurd (show false=true from hs) ku
 |bl i =>
  cases rx;cases y with
  |non=>cases ry;exact PySem.EqNone.eq_bool_none (cy I q (by simp))
  |bl j=>cases ry;exact eq_bool (cy I q Oq)
  |str j=>obtain⟨t',rfl⟩:=ry;exact PySem.EqMixed.eq_bool_str (cy I q (by simp))
  |_=>exact absurd (show false=true from hs) ku
 |int i =>
  obtain⟨t,rfl⟩:=rx;cases y with
  |non=>cases ry;exact PySem.EqNone.eq_int_none (cy I q (by simp))
  |int j=>obtain⟨t',rfl⟩:=ry;exact eq_int (cy I q LL)
  |str j=>obtain⟨t',rfl⟩:=ry;exact PySem.EqMixed.eq_int_str (cy I q (by simp))
  |_=>exact absurd (show false=true from hs) ku
 |str i =>
  obtain⟨t,rfl⟩:=rx;cases y with
  |non=>cases ry;exact PySem.EqNone.eq_str_none (cy I q (by simp))
  |bl j=>cases ry;exact PySem.EqMixed.eq_str_bool (cy I q (by simp))
  |int j=>obtain⟨t',rfl⟩:=ry;exact PySem.EqMixed.eq_str_int (cy I q (by simp))
  |str j=>obtain⟨t',rfl⟩:=ry;exact eq_str (cy I q LM)
  |_=>exact absurd (show false=true from hs) ku
 |byt i =>
  obtain⟨t,rfl⟩:=rx;cases y with
  |byt j=>obtain⟨t',rfl⟩:=ry;exact PySem.W.eq_bytes (cy I q LN)
  |_=>exact absurd (show false=true from hs) ku
 |_=>cases y <;> exact absurd (show false=true from hs) ku
theorem C0:OpR X (akG .NotEq) rNe:=by
 intro pins s σ H x y v u Q I rx ry h;obtain⟨hs,q⟩:=h;cases x with
 |non =>
  cases rx;cases y with
  |non=>cases ry;exact PySem.EqNone.ne_none_none (cy I q (by simp))
  |bl j=>cases ry;exact PySem.EqNone.ne_none_bool (cy I q (by simp))
  |int j=>obtain⟨t',rfl⟩:=ry;exact PySem.EqNone.ne_none_int (cy I q (by simp))
  |str j=>obtain⟨t',rfl⟩:=ry;exact PySem.EqNone.ne_none_str (cy I q (by simp))
  |_=>exact absurd (show false=true from hs) ku
 |bl i =>
  cases rx;cases y with
  |non=>cases ry;exact PySem.EqNone.ne_bool_none (cy I q (by simp))
  |bl j=>cases ry;exact ne_bool (cy I q (congrArg not Oq))
  |str j=>obtain⟨t',rfl⟩:=ry;exact PySem.EqMixed.ne_bool_str (cy I q (by simp))
  |_=>exact absurd (show false=true from hs) ku
 |int i =>
  obtain⟨t,rfl⟩:=rx;cases y with
  |non=>cases ry;exact PySem.EqNone.ne_int_none (cy I q (by simp))
  |int j=>obtain⟨t',rfl⟩:=ry;exact ne_int (cy I q (congrArg not LL))
  |str j=>obtain⟨t',rfl⟩:=ry;exact PySem.EqMixed.ne_int_str (cy I q (by simp))
  |_=>exact absurd (show false=true from hs) ku
 |str i =>
  obtain⟨t,rfl⟩:=rx;cases y with
  |non=>cases ry;exact PySem.EqNone.ne_str_none (cy I q (by simp))
  |bl j=>cases ry;exact PySem.EqMixed.ne_str_bool (cy I q (by simp))
  |int j=>obtain⟨t',rfl⟩:=ry;exact PySem.EqMixed.ne_str_int (cy I q (by simp))
  |str j=>obtain⟨t',rfl⟩:=ry;exact ne_str (cy I q (congrArg not LM))
  |_=>exact absurd (show false=true from hs) ku
 |byt i =>
  obtain⟨t,rfl⟩:=rx;cases y with
  |byt j=>obtain⟨t',rfl⟩:=ry;exact PySem.W.ne_bytes (cy I q (congrArg not LN))
  |_=>exact absurd (show false=true from hs) ku
 |_=>cases y <;> exact absurd (show false=true from hs) ku
theorem rA:OpR X (akG .Lt) (rI0 λi j=>.bl (decide (i < j))):=RD λ_ _ _ _ _ _ _ q=>lt_int q
theorem vc:OpR X (akG .LtE) (rI0 λi j=>.bl (decide (i<=j))):=RD λ_ _ _ _ _ _ _ q=>le_int q
theorem FF:OpR X (akG .Gt) (rI0 λi j=>.bl (decide (j < i))):=RD λ_ _ _ _ _ _ _ q=>gt_int q
theorem TL:OpR X (akG .GtE) (rI0 λi j=>.bl (decide (j<=i))):=RD λ_ _ _ _ _ _ _ q=>ge_int q
theorem RE:OpR X (akG .IsNot) (λx y H Q=>y=.non/\Q (.bl (!decide (x=.non))) H):=by
 intro pins s σ H x y v u Q I rx ry h;obtain⟨rfl,q⟩:=h;cases ry;refine isnot_none_gen (cy I q ?_);cases x <;> first
  | (cases rx;rfl)
  | (obtain⟨t,rfl⟩:=rx;rfl)
theorem OpR.or {f:Value->Value->Sem Value}{r r':R2}(h:OpR X f r)(h':OpR X f r'):OpR X f (λx y H Q=>r x y H Q\/r' x y H Q):=by
 intro pins s σ H x y v u Q I rx ry q;rcases q with q | q
 ·exact h pins s σ H x y v u Q I rx ry q
 ·exact h' pins s σ H x y v u Q I rx ry q
theorem aK (b:Expr){op:CmpOp}(h:op≠.In:=by decide)(h2:op≠.NotIn:=by decide):behindInMarks op b=false:=by
 have e1:(op == CmpOp.In)=false:=by cases op <;> first | rfl | exact absurd rfl h
 have e2:(op == CmpOp.NotIn)=false:=by cases op <;> first | rfl | exact absurd rfl h2
 cases b <;> simp[behindInMarks,e1,e2]
theorem ng {op:CmpOp}{r:R2}(ho:OpR X (akG op) r)(ha:PE X a ta)(hb:PE X b tb)(hm:behindInMarks op b=false):PE X (.Compare a [op] [b] pos) (tOp r ta tb):=by
 intro pins s σ H Q I h;exact wpAny_Compare1 (Vq ha hb I h λv u s2 x y H2 I2 rx ry q=>ho pins s2 σ H2 x y v u Q I2 rx ry q) hm
def ZR (t:TE):TT:=λσ H Q=>t σ H λx H'=>∃k,x=.bl k/\Q k H'
theorem aB {op:CmpOp}{r:R2}(ho:OpR X (akG op) r)(ha:PE X a ta)(hb:PE X b tb)(hm:behindInMarks op b=false):PT X (.Compare a [op] [b] pos) (ZR (tOp r ta tb)):=by
 intro pins s σ H Q I h;refine wpAny_isTrue_Compare1 (thn (ha pins s σ H _ I h) λv s1 ⟨x,H1,I1,r1,q1⟩=>thn (hb pins s1 σ H1 _ I1 q1) λu s2 ⟨y,H2,I2,r2,q2⟩ =>
  thn (ho pins s2 σ H2 x y v u _ I2 r1 r2 q2) λc s3 ⟨z,H3,I3,r3,k,e,q3⟩=>?_) hm
 subst e;cases r3;exact wpAny_truthy_bool ⟨H3,I3,q3⟩
def Vt (r r':R2)(ta tb tc:TE):TE:=λσ H Q=>ta σ H λx H1=>tb σ H1 λy H2=>r x y H2 λz H3=>∃k,z=.bl k /\
 (if k=true then tc σ H3 λw' H4=>r' y w' H4 Q else Q (.bl false) H3)
theorem AB {op op':CmpOp}{r r':R2}(ho:OpR X (akG op) r)(ho':OpR X (akG op') r')(ha:PE X a ta)(hb:PE X b tb)(hc:PE X c tc)
  (hm:lastMarks [op,op'] [b,c]=false:=by with_unfolding_all rfl):PE X (.Compare a [op,op'] [b,c] pos) (Vt r r' ta tb tc):=by
 intro pins s σ H Q I h;refine Compare_chain (thn (ha pins s σ H _ I h) λv s1 ⟨x,H1,I1,r1,q1⟩=>chain_link (thn (hb pins s1 σ H1 _ I1 q1) λu s2 ⟨y,H2,I2,r2,q2⟩ =>
  thn (ho pins s2 σ H2 x y v u _ I2 r1 r2 q2) λd s3 ⟨z,H3,I3,r3,k,e,q3⟩=>?_)) hm
 subst e;cases r3;refine wpAny_truthy_bool ?_;cases k with
 |false=>exact ite_ff ⟨.bl false,H3,I3,rfl,q3⟩
 |true=>exact ite_tt (chain_last (thn (hc pins s3 σ H3 _ I3 q3) λw' s4 ⟨z',H4,I4,r4,q4⟩=>ho' pins s4 σ H4 y z' u w' Q I4 r2 r4 q4))
def ZS (K:ba)(x:V)(H:Hp)(k:Bool):Prop :=
 match x with
 | .non=>k=false
 | .bl b=>k=b
 | .int i=>k=(i != 0)
 | .str y=>y.length<=ka/\k=((y.length:Int) != 0)
 | .byt y=>y.size<=ka/\k=((y.size:Int) != 0)
 | .ref p=>(∃xs,SqL K H p xs/\k=!xs.isEmpty)\/(∃xs,SqT K H p xs/\k=!xs.isEmpty)\/∃kvs,H p=some (.dK kvs)/\k=!kvs.isEmpty
 |_=>False
theorem Jw {κ:Type}{kvs:List (κ×V)}{vs:List (κ×Value)}(r:KV kvs vs):(!vs.isEmpty)=!kvs.isEmpty:=by
 cases r <;> rfl
theorem AD {xs:List V}{its:List Value}(r:Vals xs its):(!its.toArray.isEmpty)=!xs.isEmpty:=by
 cases r <;> simp
theorem um:(ka:Nat) < 2 ^ 63:=by rw[sizeLine_eq];decide
theorem Vu:ahi X (λx H Q=>∃k,ZS X.K x H k/\Q k H):=by
 intro pins s σ H x v Q I rx h;obtain⟨k,e,q⟩:=h;have hl:=um;have hs:ka=16777216:=sizeLine_eq;cases x with
 |non =>
  cases rx;have e':k=false:=e;subst e';exact truthy_none ⟨H,I,q⟩
 |bl b =>
  cases rx;have e':k=b:=e;subst e';exact wpAny_truthy_bool ⟨H,I,q⟩
 |int i =>
  obtain⟨t,rfl⟩:=rx;have e':k=(i != 0):=e;subst e';exact PySem.P.truthy_int ⟨H,I,q⟩
 |str y =>
  obtain⟨t,rfl⟩:=rx;obtain⟨hy,e'⟩:y.length<=ka/\k=((y.length:Int) != 0):=e;subst e';exact PySem.P.truthy_str (by omega) ⟨H,I.tok _,q⟩
 |byt y =>
  obtain⟨t,rfl⟩:=rx;obtain⟨hy,e'⟩:y.size<=ka/\k=((y.size:Int) != 0):=e;subst e';exact PySem.W.truthy_bytes (by omega) ⟨H,I.tok _,q⟩
 |ref p =>
  cases rx;have e':(∃xs,SqL X.K H p xs/\k=!xs.isEmpty)\/(∃xs,SqT X.K H p xs/\k=!xs.isEmpty)\/∃kvs,H p=some (.dK kvs)/\k=!kvs.isEmpty:=e;rcases e' with ⟨xs,hx,e'⟩ | ⟨xs,hx,e'⟩ | ⟨kvs,hx,e'⟩
  ·subst e';obtain⟨its,r,pl,hz⟩:=I.list hx;have hlen:=r.length;exact wpAny_truthy_list pl.isList (by simp only[ko];omega) ⟨H,I.tok _,by rw[AD r];exact q⟩
  ·subst e';obtain⟨its,r,pl,hz⟩:=I.tuple hx;have hlen:=r.length;exact truthy_tuple pl (by simp only[ko];omega) ⟨H,I.tok _,by rw[AD r];exact q⟩
  ·subst e';obtain⟨hz,hS,vs,r,m⟩:kvs.length<=ka/\(p == akY)=false/\∃vs,KV kvs vs/\s.heap.DictOf (cZ X.prog X.w) p vs:=I.hok p _ hx;have hlen:kvs.length=vs.length:=Paired.length r;exact wpAny_truthy_dict hS m (by omega) ⟨H,I.tok _,by rw[Jw r];exact q⟩
 |_=>exact(show False from e).elim
theorem rB (ha:PE X a ta)(he:∀whole,isTrue a X.env whole=(do let v <-whole;standAt a.pos;holding [v] (truthy v))) :
  PT X a (λσ H Q=>ta σ H λx H'=>∃k,ZS X.K x H' k/\Q k H'):=by
 intro pins s σ H Q I h;exact isTrue_plain (thn (ha pins s σ H _ I h) λv s1 ⟨x,H1,I1,r1,q1⟩=>Vu pins s1 σ H1 x v Q I1 r1 q1) (he _)
theorem Jx:OpR X (binaryOp .Add) (λx y H Q=>∃i j,x=.str i/\y=.str j/\i.length+j.length<=ka/\Q (.str (i++j)) H):=by
 intro pins s σ H x y v u Q I rx ry h;obtain⟨i,j,rfl,rfl,hz,q⟩:=h;obtain⟨t,rfl⟩:=rx;obtain⟨t',rfl⟩:=ry;exact add_str (λt' tk=>⟨.str (i++j),H,I.tok _,⟨_,rfl⟩,q⟩) hz
theorem vals1 {x:V}{us:List Value}(r:Vals [x] us):∃u,us=[u]/\RelV x u:=by
 cases r with
 |cons r1 r2=>cases r2;exact⟨_,rfl,r1⟩
theorem vals2 {x y:V}{us:List Value}(r:Vals [x,y] us):∃u w',us=[u,w']/\RelV x u/\RelV y w':=by
 cases r with
 |cons r1 r2 =>
  cases r2 with
  |cons r3 r4=>cases r4;exact⟨_,_,rfl,r1,r3⟩
theorem tw (hc:X.calm=true):lx X (.builtin "max") (λxs H Q=>∃i j,xs=[.int i,.int j]/\Q (.int (if j > i then j else i)) H):=by
 intro pins s σ H xs us Q I r h;obtain⟨i,j,rfl,q⟩:=h;obtain⟨u,w',rfl,⟨t,rfl⟩,⟨t',rfl⟩⟩:=vals2 r;refine max_two_ints (I.ok.hd hc) λh' tk k=>⟨_,H,I.kept k,?_,q⟩
 by_cases hj:j > i
 ·rw[if_pos hj,if_pos hj];exact⟨_,rfl⟩
 ·rw[if_neg hj,if_neg hj];exact⟨_,rfl⟩
theorem C1:lx X (.type "int") (λxs H Q=>(∃i,xs=[.int i]/\Q (.int i) H)\/∃k,xs=[.bl k]/\Q (.int (if k then 1 else 0)) H):=by
 intro pins s σ H xs us Q I r h;rcases h with ⟨i,rfl,q⟩ | ⟨k,rfl,q⟩
 ·obtain⟨u,rfl,t,rfl⟩:=vals1 r;exact call_int_int ⟨.int i,H,I,⟨_,rfl⟩,q⟩
 ·obtain⟨u,rfl,r1⟩:=vals1 r;cases r1;exact call_int_bool ⟨.int (if k then 1 else 0),H,I.tok _,⟨_,rfl⟩,q⟩
theorem vd:lx X (.type "str") (λxs H Q=>∃i,xs=[.int i]/\i.natAbs.log2 < 1920/\Q (.str (toString i)) H):=by
 intro pins s σ H xs us Q I r h;obtain⟨i,rfl,hz,q⟩:=h;obtain⟨u,rfl,t,rfl⟩:=vals1 r;exact PySem.P.str_of_int hz ⟨.str _,H,I.tok _,⟨_,rfl⟩,q⟩
end
end L2
namespace L2
open PySem PySem.Spec PyProof.Rows
structure Jy (h:Heap)(x dx C:Addr)(mA:Str->Option Value):Prop where
 obj:h.get? x=some (akf C dx)
 ns:h.Ns1 dx mA
 ne:dx≠x
theorem C2 {h:Heap}{dx:Addr}{mA:Str->Option Value}(n:h.Ns1 dx mA):∃od,h.get? dx=some od/\∀name,PySem.W.lookIn name od=some (mA name):=by
 obtain⟨o,es,ep,ho,hd,hk,_,hm⟩:=n;refine⟨o,ho,λname=>?_⟩
 have e:=hm name;unfold nsFind findBy at e;rw[<-Array.find?_toList]at e;unfold PySem.W.lookIn;rw[hd];dsimp only;split
 ·rename_i y q;rw[q]at e;exact congrArg some e
 ·rename_i q;rw[q]at e;have a:es.toList.any (·.refKey)=false:=by
   rw[List.any_eq_false];intro y hy;obtain⟨z,t,ahl⟩:=hk y (Array.mem_toList_iff.mp hy);simp[DictEntry.refKey,ahl]
  have a':¬es.toList.any (·.refKey)=true:=by rw[a];exact ku
  rw[if_neg a'];exact congrArg some e
theorem Jy.look {h:Heap}{x dx C:Addr}{mA:Str->Option Value}(I:Jy h x dx C mA):∃od,PySem.W.InstAt h x (akf C dx) C (some od)/\∀name,PySem.W.lookIn name od=some (mA name) :=
 let ⟨od,ho,hl⟩:=C2 I.ns
 ⟨od,⟨I.obj,rfl,rfl,ho⟩,hl⟩
section
variable{prog:rf}{w:World}{A:Around}{E:Value->Shared->Prop}{s:Shared}{K:ba}{x dx C f:Addr}{mA:Str->Option Value}{name:Str}{v:Value}
theorem get_map {expr:Bool}{Q:Value->Shared->Prop}(X:K.In s.heap)(I:Jy s.heap x dx C mA)(hg:akg K C name=true)(hh:aj4 K C=true)
  (ha:bo K (.ref C) name=some none) (hv:mA name=some v) (hv':PySem.W.handedIn v=true) (h:Q v { s with toks:=s.toks+1 }) :
  wpAny (model prog w) A (getAttr (.ref x) name expr) Q E s:=by
 obtain⟨od,J,hl⟩:=I.look;exact PySem.W.get_value X J (PySem.W.plainGet_of hg).1 (PySem.W.findObj_own hh ha rfl (by rw[hl,hv])) hv' h
theorem Ot {pl:Sem Bool}{Q:Value×List Value->Shared->Prop}(X:K.In s.heap)(I:Jy s.heap x dx C mA)(hg:akg K C name=true)
  (hf:bo K (.ref C) name=some (some (.ref f))) (ht:ma K (.ref f)=true) (hv:mA name=none) (h:Q (.ref f,[.ref x]) s) :
  wpAny (model prog w) A (getMethod (.ref x) name pl) Q E s:=by
 obtain⟨od,J,hl⟩:=I.look;exact PySem.W.method_fn X J (PySem.W.plainGet_of hg).1 (PySem.W.plainGet_of hg).2 hf (beq_iff_eq.mp ht) (by show (PySem.W.lookIn name od).map (·.isSome)=some false;rw[hl,hv];rfl) h
theorem RF {ns:List Str}{Q:Unit->Shared->Prop}(X:K.In s.heap)(I:Jy s.heap x dx C mA)
  (hs:bo K (.ref C) "__setattr__"=some (some (.builtin "object.__setattr__"))) (hp:akn K C=true) (ht:PySem.W.takerIn K C name=some none) (hh:aj4 K C=true)
  (hw:PySem.Within mA ns) (hsz:ns.length<=ka)
  (h:∀h',Jy h' x dx C (λy=>if y=name then some v else mA y)->Heap.SameBut dx s.heap h'->Q () { s with heap:=h',toks:=s.toks+2 }) :
  wpAny (model prog w) A (setAttr (.ref x) name v) Q E s:=by
 obtain⟨od,J,hl⟩:=I.look;refine PySem.W.set_plain X J hs (PySem.W.osa_open (s:={ s with toks:=s.toks+1 }) (r:=none) X J hp ht λb=>?_)
 obtain⟨cd,hc,hd'⟩:=PySem.W.any_some hh;have hx:s.heap.get? x=some ⟨.ref C,some dx,.plain,#[]⟩:=I.obj;refine fe (tm (fe (fe (wpAny_loadPart hx (fe (PySem.W.Looks.here (s:={ s with toks:=s.toks+1 }) (PySem.W.looks_clsIn X hc) ?_))))))
 rw[hd'];refine tm (a:=some dx) (fe (tm (fe ?_)));refine wpAny_nsSet1 (s:={ s with toks:=s.toks+1 }) I.ns λh' hn2 hs2=>?_
 obtain⟨oD,esD,epD,hoD,hdD,hcD⟩:=hn2.count (PySem.Within.cons name v hw);refine fe (wpAny_lookBehind hoD (by rw[hdD];exact pastItsLine_dict (ajI hcD (by rw[ajK];omega))) ?_)
 exact tm (h _ ⟨(hs2.2 _ (aj2 I.ne)).trans I.obj,hn2,I.ne⟩ hs2)
theorem Ou {R:Result->Shared->Prop}{vs:List Value}{kw:List (Str×Value)}(X:K.In s.heap)(hm:aks K C=true)
  (hi:bo K (.ref C) "__init__"=some (some (.ref f))) (hf:PySem.W.typeIn K (.ref f)=some (.type "function"))
  (h:codeAny (model prog w) (A.under (.builtin "type.__call__" ⟨.ref C::vs,kw⟩)) (.call (.ref f) ⟨.ref (s.heap.objs.size+1)::vs,kw⟩) (PySem.W.InitBack (s.heap.objs.size+1) R)
   { s with heap:=(s.heap.push aj6).push (akf C s.heap.objs.size) }) :
  codeAny (model prog w) A (.call (.ref C) ⟨vs,kw⟩) R s:=by
 obtain⟨hh,g,d,t,os⟩:=s;exact PySem.W.make_core (PySem.W.makes_of X hm) (ak3 X hi) (λself=>PySem.W.bind_fn X self hf) (.inl rfl) h
end
def gx (f:Str)(v:V):List (Str×V)->List (Str×V)
 |[]=>[(f,v)]
 | (g,x)::r=>if g=f then (g,v)::r else (g,x)::gx f v r
theorem yk (f g:Str)(v:V):∀fs:List (Str×V),(gx f v fs).lookup g=if g=f then some v else fs.lookup g
 |[]=>by
  show ako g [(f,v)]=_
  by_cases h:g=f
  ·have hb:(g == f)=true:=beq_iff_eq.mpr h;simp only[ako,hb,if_pos h]
  ·have hb:(g == f)=false:=beq_eq_false_iff_ne.mpr h;simp only[ako,hb,if_neg h]
 | (k,x)::r=>by
  have ih:=yk f g v r;rw[show gx f v ((k,x)::r)=(if k=f then (k,v)::r else (k,x)::gx f v r) from rfl]
  by_cases hk:k=f
  ·rw[if_pos hk]
   by_cases h:g=k
   ·have hb:(g == k)=true:=beq_iff_eq.mpr h;simp only[ako,hb,if_pos (h.trans hk)]
   ·have hb:(g == k)=false:=beq_eq_false_iff_ne.mpr h;simp only[ako,hb,if_neg (λe:g=f=>h (e.trans hk.symm))]
  ·rw[if_neg hk]
   by_cases h:g=k
   ·have hb:(g == k)=true:=beq_iff_eq.mpr h;simp only[ako,hb,if_neg (λe:g=f=>hk (h.symm.trans e))]
   ·have hb:(g == k)=false:=beq_eq_false_iff_ne.mpr h;simp only[ako,hb];exact ih
theorem wY (f:Str)(v:V):∀fs:List (Str×V),f∈(gx f v fs).map (·.1)/\∀g,g∈fs.map (·.1)->g∈(gx f v fs).map (·.1)
 |[]=>⟨by simp[gx],λg h=>by simp at h⟩
 | (k,x)::r=>by
  obtain⟨i1,i2⟩:=wY f v r;rw[show gx f v ((k,x)::r)=(if k=f then (k,v)::r else (k,x)::gx f v r) from rfl]
  by_cases hk:k=f
  ·rw[if_pos hk];subst hk;exact⟨by simp,λg h=>by simpa using h⟩
  ·rw[if_neg hk];refine⟨?_,λg h=>?_⟩
   ·rw[kj];exact kq _ i1
   ·rw[kj]at h ⊢;rcases List.mem_cons.mp h with e | e
    ·exact List.mem_cons.mpr (.inl e)
    ·exact kq _ (i2 g e)
theorem ym (f:Str)(v:V):∀fs:List (Str×V),(gx f v fs).length<=fs.length+1
 |[]=>by simp[gx]
 | (k,x)::r=>by
  have ih:=ym f v r;rw[show gx f v ((k,x)::r)=(if k=f then (k,v)::r else (k,x)::gx f v r) from rfl]
  by_cases hk:k=f
  ·rw[if_pos hk,ajK,ajK];omega
  ·rw[if_neg hk,ajK,ajK];omega
theorem oF.some_of {v:V}{o:Option Value}(r:oF (some v) o):∃u,o=some u/\RelV v u:=by
 cases o with
 |none=>exact(show False from r).elim
 |some u=>exact⟨u,rfl,r⟩
theorem oF.none_of {o:Option Value}(r:oF none o):o=none:=by
 cases o with
 |none=>rfl
 |some u=>exact(show False from r).elim
theorem MT {v:V}{u:Value}(r:RelV v u):PySem.W.handedIn u=true:=by
 cases v with
 |non=>cases (show u=akX from r);rfl
 |bl b=>cases (show u=alb b from r);rfl
 |int i=>obtain⟨t,e⟩:=(show ∃t,u=Value.int i t from r);cases e;rfl
 |str x=>obtain⟨t,e⟩:=(show ∃t,u=Value.str x t from r);cases e;rfl
 |byt b=>obtain⟨t,e⟩:=(show ∃t,u=Value.bytes b t from r);cases e;rfl
 |flt b=>obtain⟨t,e⟩:=(show ∃t,u=Value.float b t from r);cases e;rfl
 |ref a=>cases (show u=adm a from r);rfl
 |ty n=>cases (show u=Value.type n from r);rfl
section
variable{P:rf}{w:World}{H H':Hp}{h h':Heap}{a C dx:Addr}{fs fs':List (Str×V)}
theorem z0 (hok:HOk P w H h)(e:H a=some (.ins C dx fs)):∃mA,Jy h a dx C mA/\(∀f,oF (fs.lookup f) (mA f))/\PySem.Within mA (fs.map (·.1))/\fs.length<=1000/\H dx=some (.own a):=by
 obtain⟨d,z,ne,ob,mA,n,r,q⟩:=(show dU P w H h a (.ins C dx fs) from hok a _ e)
 exact⟨mA,⟨ob,n,ne⟩,r,q,z,d⟩
end
structure Cls (K:ba)(C:Addr):Prop where
 pg:akg K C akc=true
 hd:aj4 K C=true
 po:akn K C=true
 sa:bo K (.ref C) "__setattr__"=some (some (.builtin "object.__setattr__"))
theorem Cls.get {K:ba}{C:Addr}(c:Cls K C)(f:Str):akg K C f=true:=c.pg
def dW (K:ba)(C:Addr)(f:Str):Prop:=bo K (.ref C) f=some none
theorem dW.ZT {K:ba}{C:Addr}{f:Str}(n:dW K C f):PySem.W.takerIn K C f=some none:=by
 unfold PySem.W.takerIn;rw[show bo K (.ref C) f=some none from n]
 rfl
structure Con (K:ba)(C:Addr)(f:Str)(v:V)(u:Value):Prop where
 at_:bo K (.ref C) f=some (some u)
 rel:RelV v u
 get:PySem.W.specialIn K u "__get__"=some none
 cp:PySem.W.copiedNames.contains f=false
structure Meth (K:ba)(C:Addr)(m:Str)(f:Addr):Prop where
 at_:bo K (.ref C) m=some (some (.ref f))
 fn:ma K (.ref f)=true
 kp:da K (.ref f)=true
section
variable{X:Cx}{pins:List (Addr×Obj)}{σ:St}{H:Hp}{s:Shared}{a C dx:Addr}{fs:List (Str×V)}{f:Str}{v:V}{A:Around}{E:Value->Shared->Prop}
theorem Jz {b:Bool}{Q:Value->Shared->Prop}(I:Inv X pins σ H s)(e:H a=some (.ins C dx fs))(c:Cls X.K C)(n:dW X.K C f)(l:fs.lookup f=some v)
  (h:∀u s',Inv X pins σ H s'->RelV v u->Q u s'):wpAny (model X.prog X.w) A (getAttr (.ref a) f b) Q E s:=by
 obtain⟨mA,O,r,_,_,_⟩:=z0 I.hok e;obtain⟨u,hu,ru⟩:=oF.some_of (v:=v) (o:=mA f) (by rw[<-l];exact r f)
 exact get_map I.kIn O (c.get f) c.hd n hu (MT ru) (h u _ (I.tok _) ru)
theorem jB {m:Str}{g:Addr}{pl:Sem Bool}{Q:Value×List Value->Shared->Prop}(I:Inv X pins σ H s)(e:H a=some (.ins C dx fs))(c:Cls X.K C)(k:Meth X.K C m g)(l:fs.lookup m=none)
  (h:Q (.ref g,[.ref a]) s):wpAny (model X.prog X.w) A (getMethod (.ref a) m pl) Q E s:=by
 obtain⟨mA,O,r,_,_,_⟩:=z0 I.hok e;have hn:mA m=none:=oF.none_of (by rw[<-l];exact r m)
 exact Ot I.kIn O (c.get m) k.at_ k.fn hn h
theorem JA {y:V}{u:Value}{Q:Unit->Shared->Prop}(I:Inv X pins σ H s)(e:H a=some (.ins C dx fs))(c:Cls X.K C)(n:dW X.K C f)(hl:fs.length < 1000)(ry:RelV y u)
  (h:∀s',Inv X pins σ (upd H a (.ins C dx (gx f y fs))) s'->Q () s'):wpAny (model X.prog X.w) A (setAttr (.ref a) f u) Q E s:=by
 obtain⟨mA,O,r,wi,_,ho⟩:=z0 I.hok e;have hz:(fs.map (·.1)).length<=ka:=by rw[cb,sizeLine_eq];omega
 refine RF I.kIn O c.sa c.po n.ZT c.hd wi hz λh' O' sb=>h _ ?_
 have hd:∃o,h'.get? dx=some o:=let ⟨o,_,_,e',_⟩:=O'.ns;⟨o,e'⟩
 refine I.write (x:=a) (e:=dx) (by rw[e];exact akA) (.inr ho) (λb q hb z=>(sb.2 b hb).trans z) hd ?_
 refine⟨by rw[aq O.ne];exact ho,?_,O.ne,O'.obj,_,O'.ns,λg=>?_,λg hg=>?_⟩
 ·have:=ym f y fs;omega
 ·show oF ((gx f y fs).lookup g) (if g=f then some u else mA g)
  rw[yk]
  by_cases q:g=f
  ·rw[if_pos q,if_pos q];exact ry
  ·rw[if_neg q,if_neg q];exact r g
 ·by_cases q:g=f
  ·rw[q];exact(wY f y fs).1
  ·refine(wY f y fs).2 g (wi g λz=>hg ?_)
   show (if g=f then some u else mA g)=none
   rw[if_neg q];exact z
theorem Inv.made (I:Inv X pins σ H s):Inv X pins σ (upd (upd H s.heap.objs.size (.own (s.heap.objs.size+1))) (s.heap.objs.size+1) (.ins C s.heap.objs.size []))
  { s with heap:=(s.heap.push aj6).push (akf C s.heap.objs.size) }:=by
 have e1:(s.heap.push aj6).get? s.heap.objs.size=some aj6:=ajU s.heap rfl;have e2:((s.heap.push aj6).push (akf C s.heap.objs.size)).get? (s.heap.objs.size+1)=some (akf C s.heap.objs.size):=by
  have:=ajU (s.heap.push aj6) (o:=akf C s.heap.objs.size) rfl
  rwa [Heap.size_push]at this
 have e3:(s.heap.push aj6).Ns s.heap.objs.size (λ_=>none):=⟨aj6,#[],_,e1,rfl,(λe he=>absurd he (by simp)),λ_=>rfl⟩
 have I1:=I.laid (a:=s.heap.objs.size) (o:=.own (s.heap.objs.size+1)) (h':=s.heap.push aj6) (t':=s.toks) (λb u q=>kf _ q) (kr _) ⟨_,e1⟩
 refine I1.laid (a:=s.heap.objs.size+1) (o:=.ins C s.heap.objs.size []) (t':=s.toks) (λb u q=>kf _ q) (Nat.le_of_eq (Heap.size_push _ _)) ?_
 have ne:s.heap.objs.size≠s.heap.objs.size+1:=ajV (Nat.lt_succ_self _);refine⟨by rw[aq ne,ae],akB _,ne,e2,λ_=>none,(Heap.Ns1.of_empty e3).at λo q=>kf _ q,λ_=>akA,λy hy=>absurd rfl hy⟩
theorem LO {prog:rf}{w:World}{env:Env}{e:Expr}{f:Str}{pos:Pos}{s:Shared}{Q:Value->Shared->Prop}(hb:attributeBase e f env (eval e env)=eval e env)
  (h:wpAny (model prog w) A (eval e env) (λo s₁=>wpAny (model prog w) A (getAttr o f true) Q E s₁) E s):wpAny (model prog w) A (eval (.Attribute e f pos) env) Q E s :=
 Attribute_any_ h (by rw[arm_eval_Attribute,hb])
end
def ZU (K:ba)(ta:TE)(f:Str):TE:=λσ H Q=>ta σ H λx H1=>∃a C dx fs v,x=.ref a/\H1 a=some (.ins C dx fs)/\Cls K C/\dW K C f/\fs.lookup f=some v/\Q v H1
def ahm (K:ba)(ta tv:TE)(f:Str):TS:=λD σ H=>tv σ H λy H1=>ta σ H1 λx H2=>∃a C dx fs,x=.ref a/\H2 a=some (.ins C dx fs)/\Cls K C/\dW K C f/\fs.length < 1000 /\
 D.nx σ (upd H2 a (.ins C dx (gx f y fs)))
section
variable{X:Cx}{o e value:Expr}{f:Str}{pos pos' ahn:Pos}{ta tv:TE}
theorem bq (he:PE X e ta)(hb:attributeBase e f X.env (eval e X.env)=eval e X.env):PE X (.Attribute e f pos) (ZU X.K ta f):=by
 intro pins s σ H Q I h;refine LO hb (thn (he pins s σ H _ I h) λu s1 ⟨x,H1,I1,rx,a,C,dx,fs,v,ex,ea,c,n,l,q⟩=>?_)
 subst ex;obtain rfl:u=adm a:=rx;exact Jz I1 ea c n l λu' s2 I2 ru=>⟨v,H1,I2,ru,q⟩
theorem eP (ha:PE X o ta)(hv:PE X value tv)(hs:swapsWith value (some (.Attribute o f pos')) pos.line X.env=pure false):PS X (.Assign [.Attribute o f pos'] value pos) (ahm X.K ta tv f):=by
 intro pins s σ H D I h;refine plainObj_wpAny_Assign_Attribute (thn (hv pins s σ H _ I h) λu s1 ⟨y,H1,I1,ry,q⟩=>thn (ha pins s1 σ H1 _ I1 q) λov s2 ⟨x,H2,I2,rx,a,C,dx,fs,ex,ea,c,n,l,q2⟩=>?_) hs
 subst ex;obtain rfl:ov=adm a:=rx;exact JA I2 ea c n l ry λs3 I3=>⟨σ,_,I3,q2⟩
theorem TM {pl:Sem Bool}{m:Str}{apos:Pos}{args:List Expr}{pins:List (Addr×Obj)}{s:Shared}{σ:St}{H:Hp}{Q:Value->Shared->Prop}{te:TE}(he:PE X e te)(I:Inv X pins σ H s)
  (h:te σ H λx H1=>∃a C dx fs g,x=.ref a/\H1 a=some (.ins C dx fs)/\Cls X.K C/\Meth X.K C m g/\fs.lookup m=none /\
   ∀s1,Inv X pins σ H1 s1->wpAny (model X.prog X.w) X.A (callWith pos (.ref g) [.ref a] (backTo pos (ajJ args X.env)) (backToKw pos (keywordEach [] X.env))) Q X.xe s1)
  (ht:eval (.Call (.Attribute e m apos) args [] pos) X.env=(do
   let ov <-eval e X.env
   standAt apos.atName
   let (f,first) <-holding [ov] (getMethod ov m pl)
   callWith pos f first (backTo pos (ajJ args X.env)) (backToKw pos (keywordEach [] X.env)))) :
  wpAny (model X.prog X.w) X.A (eval (.Call (.Attribute e m apos) args [] pos) X.env) Q X.xe s:=by
 refine akC (pl:=pl) (thn (he pins s σ H _ I h) λu s1 ⟨x,H1,I1,rx,a,C,dx,fs,g,ex,ea,c,k,l,q⟩=>?_) ht
 subst ex;obtain rfl:u=adm a:=rx;exact jB I1 ea c k l (q s1 I1)
end
section
variable{X:Cx}{pins:List (Addr×Obj)}{σ:St}{H:Hp}{s:Shared}{A:Around}{E:Value->Shared->Prop}{Q:Value->Shared->Prop}{c:Value}{b:Bool}
inductive wZ (K:ba)(H:Hp):V->Value->Prop where
 |non:wZ K H .non (.type "NoneType")
 |bl (x:Bool):wZ K H (.bl x) (.type "bool")
 |int (i:Int):wZ K H (.int i) (.type "int")
 |str (x:Str):wZ K H (.str x) (.type "str")
 |flt (x:UInt64):wZ K H (.flt x) (.type "float")
 |lst {a:Addr} {xs:List V} (e:H a=some (.lst xs)):wZ K H (.ref a) (.type "list")
 |frz {a:Addr} {o:Obj} {xs:List V} (e:H a=some (.frz o (.lst xs))):wZ K H (.ref a) (.type "list")
 |tup {a:Addr} {xs:List V} (e:H a=some (.tup xs)):wZ K H (.ref a) (.type "tuple")
 |dK {a:Addr} {kvs:List (Key×V)} (e:H a=some (.dK kvs)):wZ K H (.ref a) (.type "dict")
 |dT {a:Addr} {kvs:List (List Key×V)} (e:H a=some (.dT kvs)):wZ K H (.ref a) (.type "dict")
 |ins {a C dx:Addr} {fs:List (Str×V)} (e:H a=some (.ins C dx fs)) (cl:Cls K C) (ha:bo K (.ref C) "__class__"=some (some (.builtin "object.__class__")))
   (hn:PySem.W.specialIn K (.builtin "object.__class__") "__get__"=some (some (.builtin "getset_descriptor.__get__"))) (htk:PySem.W.takesIn K (.builtin "object.__class__")=some true)
   (hm:akt K C (.type "object")=some true):wZ K H (.ref a) (.ref C)
theorem C3 {x:V}{u t:Value}(I:Inv X pins σ H s)(rx:RelV x u)(ty:wZ X.K H x t)(e:PySem.W.kitOne X.K t c=some b)(h:∀tk,Q (.bool b) { s with toks:=tk }) :
  wpAny (model X.prog X.w) A (call (.builtin "isinstance") [u,c]) Q E s:=by
 cases ty with
 |non=>cases (show u=akX from rx);exact akx PySem.W.kitx_none I.kIn akA e (λz=>nomatch z) h
 |bl y=>cases (show u=alb y from rx);exact akx PySem.W.kitx_bool I.kIn akA e (λz=>nomatch z) h
 |int i=>obtain⟨t,q⟩:=(show ∃t,u=Value.int i t from rx);cases q;exact akx PySem.W.kitx_int I.kIn akA e (λz=>nomatch z) h
 |str y=>obtain⟨t,q⟩:=(show ∃t,u=Value.str y t from rx);cases q;exact akx PySem.W.kitx_str I.kIn akA e (λz=>nomatch z) h
 |flt y=>obtain⟨t,q⟩:=(show ∃t,u=Value.float y t from rx);cases q;exact akx PySem.W.kitx_float I.kIn akA e (λz=>nomatch z) h
 | @lst a xs ea =>
  cases (show u=adm a from rx)
  obtain⟨_,_,n,_,h1⟩:=(show dU X.prog X.w H s.heap a (.lst xs) from I.hok a _ ea)
  exact akx PySem.W.kitx_list I.kIn ⟨_,h1,rfl⟩ e (λz=>nomatch z) h
 | @frz a ob xs ea =>
  cases (show u=adm a from rx)
  obtain⟨_,_,_,n,_,h1⟩:=(show dU X.prog X.w H s.heap a (.frz ob (.lst xs)) from I.hok a _ ea)
  exact akx PySem.W.kitx_list I.kIn ⟨_,h1,rfl⟩ e (λz=>nomatch z) h
 | @tup a xs ea =>
  cases (show u=adm a from rx)
  obtain⟨_,_,_,p⟩:=(show dU X.prog X.w H s.heap a (.tup xs) from I.hok a _ ea)
  obtain⟨o,h1,h2,_⟩:=p;exact akx PySem.W.kitx_tuple I.kIn ⟨o,h1,h2⟩ e (λz=>nomatch z) h
 | @dK a kvs ea =>
  cases (show u=adm a from rx)
  obtain⟨_,_,vs,_,p⟩:=(show dU X.prog X.w H s.heap a (.dK kvs) from I.hok a _ ea)
  obtain⟨o,es,ep,h1,h2,_⟩:=p;exact akx PySem.W.kitx_dict I.kIn ⟨o,h1,h2.1⟩ e (λz=>nomatch z) h
 | @dT a kvs ea =>
  cases (show u=adm a from rx)
  obtain⟨_,_,xs,_,o,es,ep,h1,h2,_⟩:=(show dU X.prog X.w H s.heap a (.dT kvs) from I.hok a _ ea)
  exact akx PySem.W.kitx_dict I.kIn ⟨o,h1,h2.1⟩ e (λz=>nomatch z) h
 | @ins a C dx fs ea cl ha hn htk hm =>
  cases (show u=adm a from rx)
  obtain⟨mA,O,_⟩:=z0 I.hok ea;obtain⟨od,J,_⟩:=O.look;exact akx (PySem.W.kitx_own (cl.get _) cl.hd ha hn htk hm) I.kIn J e (λz=>nomatch z) h
end
end L2
namespace L2
open PySem PySem.Spec PyProof.Rows
structure Room (k:Nat)(A:Around):Prop where
 hd:A.handled=none
 dp:A.depth+3 * k+5 < recursionLimit
 un:A.units+16 * k+200 < cLine
 gd:A.guards=some []
theorem Room.mono {j k:Nat}{A:Around}(r:Room k A)(h:j<=k):Room j A:=⟨r.hd,by have:=r.dp;omega,by have:=r.un;omega,r.gd⟩
theorem Room.deeper {k:Nat}{A:Around}(r:Room (k+1) A)(env:Env):Room k (A.deeper env) :=
 ⟨r.hd,by have:=r.dp;show A.depth+1+3 * k+5 < _;omega,by have:=r.un;show A.units+3+16 * k+200 < _;omega,r.gd⟩
theorem Room.in1 {k:Nat}{A:Around}(r:Room (k+1) A):Room k A.in1 :=
 ⟨r.hd,by have:=r.dp;show A.depth+3 * k+5 < _;omega,by have:=r.un;show A.units+1+16 * k+200 < _;omega,r.gd⟩
theorem JB {A:Around}{C:Addr}{us:List Value}{kw:List (Str×Value)}:(A.under (.builtin "type.__call__" ⟨.ref C::us,kw⟩)).depth=A.depth+1:=by
 first | rfl | simp[Around.under,Code.weight,Code.isCreation,Code.isGuard,Code.isCaller,Code.frames,Code.isFrame,guardIds]
theorem JC {A:Around}{C:Addr}{us:List Value}{kw:List (Str×Value)}:(A.under (.builtin "type.__call__" ⟨.ref C::us,kw⟩)).units=A.units+1:=by
 first | rfl | simp[Around.under,Code.cUnits,Code.frames,Code.isFrame]
theorem Room.make {k:Nat}{A:Around}(r:Room (k+1) A)(C:Addr)(us:List Value)(kw:List (Str×Value)):Room k (A.under (.builtin "type.__call__" ⟨.ref C::us,kw⟩)) :=
 ⟨r.hd,by have:=r.dp;rw[JB];omega,by have:=r.un;rw[JC];omega,by
  have g:=r.gd
  first | exact g | simp[Around.under,Code.guards,Code.isGuard,guardIds,pushGuards,g]⟩
theorem Room.depth {k:Nat}{A:Around}(r:Room k A):A.depth < recursionLimit:=by have:=r.dp;omega
theorem Room.units {k:Nat}{A:Around}(r:Room k A):A.units+64 < cLine:=by have:=r.un;omega
def Vv:TA:=λ_ H Q=>Q [] H
def ZV (ta:TE)(tr:TA):TA:=λσ H Q=>ta σ H λx H1=>tr σ H1 λxs H2=>Q (x::xs) H2
section
variable{X:Cx}{e:Expr}{es:List Expr}{te:TE}{t:TA}{pos:Pos}
theorem ag:PA X [] Vv:=λ_ _ _ _ H Q I h=>Calls.spliced_nil ⟨[],H,I,.nil,h⟩
theorem aa (ha:PE X e te)(hr:PA X es t)(hs:ajJ (e::es) X.env=(false,eval e X.env)::ajJ es X.env:=by rfl):PA X (e::es) (ZV te t):=by
 intro pos pins s σ H Q I h;rw[hs];show wpAny _ _ (spliced ((false,eval e X.env)::backTo pos (ajJ es X.env))) _ _ s;refine Calls.spliced_cons (thn (ha pins s σ H _ I h) λu s1 ⟨x,H1,I1,r1,q1⟩=>?_)
 exact thn (hr pos pins s1 σ H1 _ I1 q1) λus s2 ⟨xs,H2,I2,r2,q2⟩=>⟨x::xs,H2,I2,.cons r1 r2,q2⟩
def aho (t:TA):TE:=λσ H Q=>t σ H λxs H1=>xs.length<=ka/\∀p,H1 p=none->Q (.ref p) (upd H1 p (.tup xs))
def ahp (t:TA):TE:=λσ H Q=>t σ H λxs H1=>xs.length<=ka/\∀p,H1 p=none->Q (.ref p) (upd H1 p (.lst xs))
theorem bg {x1}(h:PA X es t):PE X (.Tuple es x1 pos) (aho t):=by
 intro pins s σ H Q I hq;refine wpAny_Tuple_spliced (thn (h pos pins s σ H _ I hq) λus s1 ⟨xs,H1,I1,r,z,q⟩=>⟨by rw[<-r.length];exact z,?_⟩)
 have hf:H1 s1.heap.objs.size=none:=I1.hok.fresh (kr _);refine⟨.ref s1.heap.objs.size,upd H1 s1.heap.objs.size (.tup xs),I1.laid (t':=s1.toks) (λb u e=>kf _ e) (kr _) ?_,rfl,q _ hf⟩
 exact⟨z,us,r,⟨_,ajU _ rfl,rfl,_,rfl⟩⟩
theorem bQ (h:PA X es t):PE X (.List es pos) (ahp t):=by
 intro pins s σ H Q I hq;refine wpAny_List_spliced (thn (h pos pins s σ H _ I hq) λus s1 ⟨xs,H1,I1,r,z,q⟩=>⟨by rw[<-r.length];exact z,?_⟩)
 have hf:H1 s1.heap.objs.size=none:=I1.hok.fresh (kr _);refine⟨.ref s1.heap.objs.size,upd H1 s1.heap.objs.size (.lst xs),I1.laid (t':=s1.toks) (λb u e=>kf _ e) (kr _) ?_,rfl,q _ hf⟩
 exact⟨z,us,0,r,ajU _ rfl⟩
end
abbrev Sp:=List V->Hp->VK->XK->Prop
abbrev CXT:=List Env->Hp->Shared->XK->Value->Shared->Prop
structure Cv (P:rf)(w:World)(K:ba)(mg:Str->Option Value)(base:Heap)(A:Around)(outer:List Env)(s:Shared)(H:Hp):Prop where
 frames:A.frames=some outer
 mod:Mod K mg base
 bs:∀b o,base.get? b=some o->s.heap.get? b=some o/\H b=none
 bsz:base.objs.size<=s.heap.objs.size
 uk:s.heap.FunFrames base outer
 frf:∀b∈frs outer,H b=none
 hok:HOk P w H s.heap
 bare:AllBare s.gens
def CE (outer:List Env)(P:rf)(w:World)(H:Hp)(s:Shared)(Q:VK)(u:Value)(s':Shared):Prop :=
 ∃v H',s'.os=s.os/\AllBare s'.gens/\Un (frs outer) [] H H' s.heap s'.heap/\HOk P w H' s'.heap/\RelV v u/\Q v H'
def CR (CX:CXT)(outer:List Env)(P:rf)(w:World)(H:Hp)(s:Shared)(Q:VK)(E:XK)(r:Result)(s':Shared):Prop :=
 match r with
 | .ok (.ret u)=>CE outer P w H s Q u s'
 | .ok _=>False
 | .error e=>CX outer H s E e s'
structure aJ (P:rf)(w:World)(K:ba)(mg:Str->Option Value)(base:Heap)(CX:CXT)(k:Nat)(f:Addr)(fd:ki)(ps:List Str)(sp:Sp):Prop where
 len:∀vs H Q E,sp vs H Q E->vs.length=ps.length
 run:∀(A:Around) (outer:List Env) (s:Shared) (H:Hp) (args:Args) (us:List Value) (vs:List V) (Q:VK) (E:XK),Room k A->Cv P w K mg base A outer s H->BindsTo s fd args (ps.zip us)->Vals vs us->sp vs H Q E ->
  codeAny (model P w) A (.call (.ref f) args) (CR CX outer P w H s Q E) s
theorem aJ.mono {P:rf}{w:World}{K:ba}{mg:Str->Option Value}{base:Heap}{CX:CXT}{j k:Nat}{f:Addr}{fd:ki}{ps:List Str}{sp:Sp}(F:aJ P w K mg base CX j f fd ps sp)(h:j<=k) :
  aJ P w K mg base CX k f fd ps sp:=⟨F.len,λA outer s H args us vs Q E hr=>F.run A outer s H args us vs Q E (hr.mono h)⟩
theorem aJ.imp {P:rf}{w:World}{K:ba}{mg:Str->Option Value}{base:Heap}{CX:CXT}{k:Nat}{f:Addr}{fd:ki}{ps:List Str}{sp sp':Sp}(F:aJ P w K mg base CX k f fd ps sp)
  (h:∀vs H Q E,sp' vs H Q E->sp vs H Q E):aJ P w K mg base CX k f fd ps sp' :=
 ⟨λvs H Q E q=>F.len vs H Q E (h _ _ _ _ q),λA outer s H args us vs Q E hr he hb hv hs=>F.run A outer s H args us vs Q E hr he hb hv (h _ _ _ _ hs)⟩
theorem Cv.make {P:rf}{w:World}{K:ba}{mg:Str->Option Value}{base:Heap}{A:Around}{outer:List Env}{s:Shared}{H:Hp}(e:Cv P w K mg base A outer s H)(C:Addr)(us:List Value)(kw:List (Str×Value)) :
  Cv P w K mg base (A.under (.builtin "type.__call__" ⟨.ref C::us,kw⟩)) outer s H:=⟨by first | exact e.frames | (simpa [Around.under,Code.envs,Code.isFrame,pushEnvs] using e.frames),e.mod,e.bs,e.bsz,e.uk,e.frf,e.hok,e.bare⟩
theorem Cv.in1 {P:rf}{w:World}{K:ba}{mg:Str->Option Value}{base:Heap}{A:Around}{outer:List Env}{s:Shared}{H:Hp}(e:Cv P w K mg base A outer s H) :
  Cv P w K mg base A.in1 outer s H:=⟨e.frames,e.mod,e.bs,e.bsz,e.uk,e.frf,e.hok,e.bare⟩
section
variable{X:Cx}{pins:List (Addr×Obj)}{σ:St}{H:Hp}{s s':Shared}
theorem Inv.RG (I:Inv X pins σ H s):Cv X.prog X.w X.K X.mg X.base X.A X.stack s H :=
 ⟨I.ok.frames,I.ok.mod,I.bs,ajI I.ok.bsz I.sz,I.stack,I.D8,I.hok,I.bare⟩
theorem Inv.after {Q:VK}{u:Value}(I:Inv X pins σ H s)(h:CE X.stack X.prog X.w H s Q u s'):EP X pins σ Q u s':=by
 obtain⟨v,H',os,bare,un,hok,r,q⟩:=h;obtain⟨hh,g,d,t,os'⟩:=s';obtain rfl:os'=s.os:=os;exact⟨v,H',I.call (h':=hh) (g':=g) (d':=d) (t':=t) (ch:=[]) un hok bare (λb z=>absurd z (by simp)),r,q⟩
end
def TN (sp:Sp)(dvs:List V)(E:XK)(t:TA):TE:=λσ H Q=>t σ H λvs H1=>sp (vs++dvs) H1 Q E
def TQ (C:Addr)(m:Str)(sp:Sp)(dvs:List V)(E:XK)(ta:TE)(t:TA):TE:=λσ H Q=>ta σ H λx H1=>∃a dx fs,x=.ref a/\H1 a=some (.ins C dx fs)/\fs.lookup m=none /\
 t σ H1 λvs H2=>sp (x::(vs++dvs)) H2 Q E
def ZW (C:Addr)(sp:Sp)(dvs:List V)(E:XK)(t:TA):TE:=λσ H Q=>t σ H λvs H1=>∀x dx,H1 x=none->H1 dx=none->dx≠x ->
 sp (.ref x::(vs++dvs)) (upd (upd H1 dx (.own x)) x (.ins C dx [])) (λv H2=>v=.non/\Q (.ref x) H2) E
def Binds (K:ba)(fd:ki)(ps:List Str)(ds:List Value):Prop :=
 ∀(s:Shared) (us:List Value),K.In s.heap->(us++ds).length=ps.length->BindsTo s fd ⟨us,[]⟩ (ps.zip (us++ds))
theorem Binds.all {K:ba}{fd:ki}{ps:List Str}(h:∀us:List Value,us.length=ps.length->bindArgs fd ⟨us,[]⟩=pure (ps.zip us)):Binds K fd ps []:=λs us _ hl=>by
 rw[ak1]at hl ⊢;exact .of_eq (h us hl)
def Passes (CX:CXT)(X:Cx)(E:XK):Prop:=∀(pins:List (Addr×Obj)) (σ:St) (H:Hp) (s:Shared) (e:Value) (s':Shared),Inv X pins σ H s->CX X.stack H s E e s'->X.xe e s'
section
variable{X:Cx}{CX:CXT}{k:Nat}{f C:Addr}{fd:ki}{ps:List Str}{sp:Sp}{dvs:List V}{ds:List Value}{E:XK}{x m:Str}{p pos apos:Pos}{e o:Expr}{es:List Expr}{ta:TE}{t:TA}
theorem AE {pins:List (Addr×Obj)}{σ:St}{H:Hp}{s:Shared}{Q:VK}{us:List Value}{vs:List V}(F:aJ X.prog X.w X.K X.mg X.base CX k f fd ps sp)(hr:Room k X.A)(hb:Binds X.K fd ps ds)(hd:Vals dvs ds)(hx:Passes CX X E)
  (I:Inv X pins σ H s) (r:Vals vs us) (h:sp (vs++dvs) H Q E):wpAny (model X.prog X.w) X.A (call (.ref f) us) (EP X pins σ Q) X.xe s:=by
 have r2:Vals (vs++dvs) (us++ds):=r.append hd;have hl:(us++ds).length=ps.length:=by rw[<-r2.length];exact F.len _ _ _ _ h
 refine wpAny_call (codeAny_mono (F.run X.A X.stack s H ⟨us,[]⟩ (us++ds) (vs++dvs) Q E hr I.RG (hb s us I.kIn hl) r2 h) λr s' hq=>?_)
 cases r with
 |error e=>exact hx pins σ H s e s' I hq
 |ok fl =>
  cases fl with
  |ret u=>exact I.after hq
  |next=>exact aj3 hq
  |brk=>exact aj3 hq
  |cont=>exact aj3 hq
theorem aW (F:aJ X.prog X.w X.K X.mg X.base CX k f fd ps sp)(hr:Room k X.A)(hg:Gl X x)(hm:X.mg x=some (.ref f))(hk:da X.K (.ref f)=true)(hb:Binds X.K fd ps ds)(hd:Vals dvs ds)(hx:Passes CX X E)
  (ha:PA X (e::es) t) (hdb:(x == ("__debug__":Str))=false:=by decide) (he:ajJ (e::es) X.env=(false,eval e X.env)::ajJ es X.env:=by rfl) (hpl:(backTo pos (ajJ es X.env)).any (·.1)=false:=by rfl) :
  PE X (.Call (.Name x p) (e::es) [] pos) (TN sp dvs E t):=by
 intro pins s σ H Q I h;refine wpAny_Call_Name_kw (j8 I hg hm ?_ hdb);refine ak8 (h₀:=X.base) I.ok.mod.kin hk (thn (ha pos pins s σ H _ I h) λus s1 ⟨vs,H1,I1,r,q⟩=>⟨I1.kIn,?_⟩) he hpl
 exact AE F hr hb hd hx I1 r q
theorem Ov (F:aJ X.prog X.w X.K X.mg X.base CX k f fd ps sp)(hr:Room k X.A)(hg:Gl X x)(hm:X.mg x=some (.ref f))(hk:da X.K (.ref f)=true)(hb:Binds X.K fd ps ds)(hd:Vals dvs ds)(hx:Passes CX X E)
  (hdb:(x == ("__debug__":Str))=false:=by decide):PE X (.Call (.Name x p) [] [] pos) (TN sp dvs E Vv):=by
 intro pins s σ H Q I h;refine wpAny_Call_Name_kw (j8 I hg hm ?_ hdb);exact ak6 I.kIn hk (AE (us:=[]) F hr hb hd hx I .nil h)
theorem i3 {pl:Sem Bool}(he:PE X o ta)(c:Cls X.K C)(hm:Meth X.K C m f)(F:aJ X.prog X.w X.K X.mg X.base CX k f fd ps sp)(hr:Room k X.A)(hb:Binds X.K fd ps ds)(hd:Vals dvs ds)(hx:Passes CX X E)(ha:PA X (e::es) t)
  (hst:ajJ (e::es) X.env=(false,eval e X.env)::ajJ es X.env:=by rfl) (hpl:(backTo pos (ajJ es X.env)).any (·.1)=false:=by rfl)
  (ht:eval (.Call (.Attribute o m apos) (e::es) [] pos) X.env=(do
   let ov <-eval o X.env
   standAt apos.atName
   let (f,first) <-holding [ov] (getMethod ov m pl)
   callWith pos f first (backTo pos (ajJ (e::es) X.env)) (backToKw pos (keywordEach [] X.env))):=by rfl) :
  PE X (.Call (.Attribute o m apos) (e::es) [] pos) (TQ C m sp dvs E ta t):=by
 intro pins s σ H Q I h;refine akC (pl:=pl) (thn (he pins s σ H _ I h) λu s1 ⟨x,H1,I1,rx,a,dx,fs,ex,ea,l,q⟩=>?_) ht
 subst ex;obtain rfl:u=adm a:=rx;refine jB I1 ea c hm l ?_;refine ak8 (first:=[.ref a]) (h₀:=X.base) I.ok.mod.kin hm.kp (thn (ha pos pins s1 σ H1 _ I1 q) λus s2 ⟨vs,H2,I2,r,q2⟩=>⟨I2.kIn,?_⟩) hst hpl
 exact AE (us:=.ref a::us) (vs:=.ref a::vs) F hr hb hd hx I2 (.cons rfl r) q2
theorem gz {pl:Sem Bool}(he:PE X o ta)(c:Cls X.K C)(hm:Meth X.K C m f)(F:aJ X.prog X.w X.K X.mg X.base CX k f fd ps sp)(hr:Room k X.A)(hb:Binds X.K fd ps ds)(hd:Vals dvs ds)(hx:Passes CX X E)
  (ht:eval (.Call (.Attribute o m apos) [] [] pos) X.env=(do
   let ov <-eval o X.env
   standAt apos.atName
   let (f,first) <-holding [ov] (getMethod ov m pl)
   callWith pos f first (backTo pos (ajJ [] X.env)) (backToKw pos (keywordEach [] X.env))):=by rfl) :
  PE X (.Call (.Attribute o m apos) [] [] pos) (TQ C m sp dvs E ta Vv):=by
 intro pins s σ H Q I h;refine akC (pl:=pl) (thn (he pins s σ H _ I h) λu s1 ⟨x,H1,I1,rx,a,dx,fs,ex,ea,l,q⟩=>?_) ht
 subst ex;obtain rfl:u=adm a:=rx;refine jB I1 ea c hm l ?_;exact ak6 (first:=[.ref a]) I1.kIn hm.kp (AE (us:=[.ref a]) (vs:=[.ref a]) F hr hb hd hx I1 (.cons rfl .nil) q)
structure Mk (K:ba)(C f:Addr):Prop where
 makes:aks K C=true
 init:bo K (.ref C) "__init__"=some (some (.ref f))
 fn:ma K (.ref f)=true
 kp:da K (.ref C)=true
theorem Ow {pins:List (Addr×Obj)}{σ:St}{H:Hp}{s:Shared}{Q:VK}{us:List Value}{vs:List V}(M:Mk X.K C f)(F:aJ X.prog X.w X.K X.mg X.base CX k f fd ps sp)(hr:Room (k+1) X.A)(hb:Binds X.K fd ps ds)(hd:Vals dvs ds)
  (hx:Passes CX X E) (I:Inv X pins σ H s) (r:Vals vs us)
  (h:∀x dx,H x=none->H dx=none->dx≠x->sp (.ref x::(vs++dvs)) (upd (upd H dx (.own x)) x (.ins C dx [])) (λv H2=>v=.non/\Q (.ref x) H2) E) :
  wpAny (model X.prog X.w) X.A (call (.ref C) us) (EP X pins σ Q) X.xe s:=by
 have hq:=h (s.heap.objs.size+1) s.heap.objs.size (I.hok.fresh (akH _)) (I.hok.fresh (kr _)) (ajV (Nat.lt_succ_self _));have I2:=Inv.made (C:=C) I;have r2:Vals (V.ref (s.heap.objs.size+1)::(vs++dvs)) (adm (s.heap.objs.size+1)::(us++ds)):=.cons rfl (r.append hd);have hl:(adm (s.heap.objs.size+1)::us++ds).length=ps.length:=by
  have e:=r2.length;rw[F.len _ _ _ _ hq]at e;exact e.symm
 refine wpAny_call (Ou (f:=f) I.kIn M.makes M.init (beq_iff_eq.mp M.fn) (codeAny_mono (F.run _ X.stack _ _ ⟨adm (s.heap.objs.size+1)::us,[]⟩ (adm (s.heap.objs.size+1)::(us++ds)) _ _ E (hr.make C us [])
  (I2.RG.make C us []) (hb _ (adm (s.heap.objs.size+1)::us) I2.kIn hl) r2 hq) λr s' hq'=>?_))
 cases r with
 |error e=>exact hx pins σ _ _ e s' I2 hq'
 |ok fl =>
  cases fl with
  |ret u =>
   obtain⟨v,H',I3,rv,ev,q3⟩:=I2.after hq';subst ev;exact⟨rv,⟨V.ref (s.heap.objs.size+1),H',I3,rfl,q3⟩⟩
  |next=>exact aj3 hq'
  |brk=>exact aj3 hq'
  |cont=>exact aj3 hq'
theorem gP (M:Mk X.K C f)(F:aJ X.prog X.w X.K X.mg X.base CX k f fd ps sp)(hr:Room (k+1) X.A)(hg:Gl X x)(hm:X.mg x=some (.ref C))(hb:Binds X.K fd ps ds)(hd:Vals dvs ds)(hx:Passes CX X E)
  (ha:PA X (e::es) t) (hdb:(x == ("__debug__":Str))=false:=by decide) (he:ajJ (e::es) X.env=(false,eval e X.env)::ajJ es X.env:=by rfl) (hpl:(backTo pos (ajJ es X.env)).any (·.1)=false:=by rfl) :
  PE X (.Call (.Name x p) (e::es) [] pos) (ZW C sp dvs E t):=by
 intro pins s σ H Q I h;refine wpAny_Call_Name_kw (j8 I hg hm ?_ hdb);refine ak8 (h₀:=X.base) I.ok.mod.kin M.kp (thn (ha pos pins s σ H _ I h) λus s1 ⟨vs,H1,I1,r,q⟩=>⟨I1.kIn,?_⟩) he hpl
 exact Ow M F hr hb hd hx I1 r q
end
section
variable{X:Cx}{CX:CXT}{k:Nat}{f C:Addr}{fd:ki}{ps ks:List Str}{sp:Sp}{E:XK}{x m:Str}{p pos apos ajE:Pos}{e o:Expr}{es:List Expr}{kws:List Keyword}{te ta:TE}{t tk:TA}{nm:Option Str}
structure ahq (K:ba)(fd:ki)(ps ks:List Str)(g:List Value->List Value->List Value)(gV:List V->List V->List V):Prop where
 to:∀(s:Shared) (us ws:List Value),K.In s.heap->(g us ws).length=ps.length->BindsTo s fd ⟨us,ks.zip ws⟩ (ps.zip (g us ws))
 rel:∀ {vs:List V} {us:List Value} {zs:List V} {ws:List Value},Vals vs us->Vals zs ws->Vals (gV vs zs) (g us ws)
variable{g:List Value->List Value->List Value}{gV:List V->List V->List V}
end
structure aS (N P:List Str)(sc:Scope):Prop where
 kind:sc.kind=.function
 co:sc.isCoroutine=false
 gen:sc.isGenerator=false
 nd:N.Nodup
 pre:N.take P.length=P
 par:∀x∈P,sc.names.lookup x=some .local\/sc.names.lookup x=some .cell
 Vw:∀y∈sc.names,y.2≠.free
theorem C4 {kindOf:Str->Option NameKind}{x:Str}:∀ {binds:List (Str×Value)} {m:Str->Option Value},(∀v,(x,v)∉binds)->bindL kindOf binds m x=m x
 |[],_,_=>rfl
 | (n,v)::r,m,h=>by
  unfold bindL;rw[C4 λw hw=>h w (kq _ hw)]
  split
  ·have:x≠n:=by rintro rfl;exact h v gn
   simp[this]
  ·rfl
theorem C5 {kindOf:Str->Option NameKind}{x:Str}:∀ {binds:List (Str×Value)} {m:Str->Option Value},(∀v,(x,v)∉binds)->bindC kindOf binds m x=m x
 |[],_,_=>rfl
 | (n,v)::r,m,h=>by
  unfold bindC;rw[C5 λw hw=>h w (kq _ hw)]
  split
  ·rfl
  ·have:x≠n:=by rintro rfl;exact h v gn
   simp[this]
theorem C6 {kindOf:Str->Option NameKind}{x:Str}{v:Value}:∀ {P:List Str} {vs:List Value} {i:Nat} {m:Str->Option Value},P.Nodup->P[i]?=some x->vs[i]?=some v->kindOf x=some .local ->
  bindL kindOf (P.zip vs) m x=some v
 |[],_,_,_,_,h,_,_=>by simp at h
 |_::_,[],_,_,_,_,h,_=>by simp at h
 |p::P,w::vs,0,m,nd,h1,h2,hk=>by
  simp at h1 h2;subst h1;subst h2;show bindL kindOf ((p,w)::P.zip vs) m p=_;unfold bindL;rw[C4 λv hv=>(List.nodup_cons.mp nd).1 (List.of_mem_zip hv).1,if_pos hk]
  simp
 |p::P,w::vs,i+1,m,nd,h1,h2,hk=>by
  show bindL kindOf ((p,w)::P.zip vs) m x=_;unfold bindL;exact C6 (i:=i) (List.nodup_cons.mp nd).2 (by simpa using h1) (by simpa using h2) hk
theorem C7 {kindOf:Str->Option NameKind}{x:Str}{v:Value}:∀ {P:List Str} {vs:List Value} {i:Nat} {m:Str->Option Value},P.Nodup->P[i]?=some x->vs[i]?=some v->kindOf x≠some .local ->
  bindC kindOf (P.zip vs) m x=some v
 |[],_,_,_,_,h,_,_=>by simp at h
 |_::_,[],_,_,_,_,h,_=>by simp at h
 |p::P,w::vs,0,m,nd,h1,h2,hk=>by
  simp at h1 h2;subst h1;subst h2;show bindC kindOf ((p,w)::P.zip vs) m p=_;unfold bindC;rw[C5 λv hv=>(List.nodup_cons.mp nd).1 (List.of_mem_zip hv).1,if_neg hk]
  simp
 |p::P,w::vs,i+1,m,nd,h1,h2,hk=>by
  show bindC kindOf ((p,w)::P.zip vs) m x=_;unfold bindC;exact C7 (i:=i) (List.nodup_cons.mp nd).2 (by simpa using h1) (by simpa using h2) hk
def start (N:List Str)(vs:List V):St:=vs.map some++List.replicate (N.length - vs.length) none
def ve (CX:CXT)(P:rf)(w:World)(K:ba)(mg:Str->Option Value)(base:Heap)(N:List Str)(qual:Str)(scope:Scope)(f:Addr)(cd:Value)(A:Around)(outer:List Env)(s:Shared)(H:Hp)(E:XK):Cx where
 prog:=P
 w:=w
 K:=K
 mg:=mg
 base:=base
 A:=A.deeper (envOfC qual scope s.heap.objs.size f cd)
 N:=N
 s₀:=s
 H₀:=H
 env:=envOfC qual scope s.heap.objs.size f cd
 outer:=outer
 stack:=envOfC qual scope s.heap.objs.size f cd::outer
 ex:=[]
 calm:=true
 fn:=λ_=>true
 pn:=[]
 xe:=λe s'=>wpAny (model P w) (A.deeper (envOfC qual scope s.heap.objs.size f cd)) (leaving (envOfC qual scope s.heap.objs.size f cd) e) (λ_ s''=>CX outer H s E e s'') (λe' s''=>CX outer H s E e' s'') s'
theorem FG {sc:Scope}{n:Nat}{x:Str}(h:sc.names.lookup x=some .cell):∃c,(cellsFrom n sc.names []).lookup x=some c:=by
 have q:=PySem.W.cellsFrom_some sc.names n [] (.inl h);exact Option.isSome_iff_exists.mp q
theorem MU {CX:CXT}{P:rf}{w:World}{K:ba}{mg:Str->Option Value}{base:Heap}{N ps:List Str}{qual:Str}{scope:Scope}{f:Addr}{cd:Value}{A:Around}{outer:List Env}{s s1:Shared}{H:Hp}{E:XK}{us:List Value}{vs:List V}
  (S:aS N ps scope) (hd:A.handled=none) (e0:Cv P w K mg base A outer s H) (hl:vs.length=ps.length) (r:Vals vs us)
  (x:InCallC s s.heap.objs.size (bindL (envOfC qual scope s.heap.objs.size f cd).kindOf (ps.zip us) λ_=>none) (cellsFrom (s.heap.objs.size+1) scope.names []) (bindC (envOfC qual scope s.heap.objs.size f cd).kindOf (ps.zip us) λ_=>none) s1) :
  Inv (ve CX P w K mg base N qual scope f cd A outer s H E) [] (start N vs) H s1:=by
 have hpl:ps.length<=N.length:=by have:=congrArg List.length S.pre;rw[akm]at this;omega
 obtain⟨h1,tk,rfl,hk⟩:=x.done;have noA:∀b:Addr,b∉(ve CX P w K mg base N qual scope f cd A outer s H E).ex:=λb z=>absurd (show b∈([]:List Addr) from z) (by simp)
 refine⟨⟨e0.mod,S.kind,rfl,rfl,kr _,λy z c h1 h2=>?_,λy hy=>?_,λy c _ h=>?_,λ_=>hd,Around.frames_deeper e0.frames,.inr ⟨rfl,rfl⟩,λb z=>absurd z (noA b),e0.bs,e0.bsz,λb _ _=>noA b,λb z=>absurd z (noA b),e0.uk,e0.frf⟩,
  rfl,e0.bare,Un.kept hk,⟨_,x.toInCall.ns,λi y v h1 h2 h3=>?_⟩,λy c h=>⟨_,x.cell y c h⟩,e0.hok.fresh (kr _),λy c h=>?_,λp hp=>absurd (show p∈([]:List (Addr×Obj)) from hp) (by simp),e0.hok.kept hk,?_⟩
 ·exact name_of_addr x.apart (akL h1) (akL h2)
 ·have hy:scope.names.lookup y=some .cell\/scope.names.lookup y=some .free:=hy;rcases hy with hy | hy
  ·exact FG hy
  ·exact absurd rfl (S.Vw _ (akL hy))
 ·exact Nat.le_of_lt (x.above y c (akL h))
 ·have hi:i < vs.length:=by
   unfold start at h2
   by_cases hi:i < vs.length
   ·exact hi
   ·rw[List.getElem?_append_right (by simpa using hi)]at h2
    rw[List.getElem?_replicate]at h2;split at h2 <;> cases h2
  have ha:vs[i]?=some v:=by
   unfold start at h2;rw[List.getElem?_append_left (by simpa using hi),aj7]at h2
   cases e:vs[i]? with
   |none=>rw[e]at h2;cases h2
   |some a=>rw[e]at h2;cases h2;rfl
  obtain⟨u,hu,rv⟩:=r.get ha;have hp:ps[i]?=some y:=by
   rw[<-S.pre,List.getElem?_take_of_lt (by omega)];exact h1
  have ndP:ps.Nodup:=by rw[<-S.pre];exact S.nd.sublist (List.take_sublist _ _)
  refine⟨u,rv,?_⟩;rcases S.par y (aka hp) with k | k
  ·exact .inl ⟨k,C6 ndP hp hu k⟩
  ·obtain⟨c,e⟩:=FG (n:=s.heap.objs.size+1) k;refine .inr ⟨.inl k,c,e,?_⟩;have q:=x.cell y c e;rw[C7 ndP hp hu (by show scope.names.lookup y≠_;rw[k];decide)]at q
   exact q
 ·exact e0.hok.fresh (Nat.le_of_lt (x.above y c (akL h)))
 ·unfold start;show _=N.length;rw[ky,cb,List.length_replicate];omega
theorem TR {CX:CXT}{P:rf}{w:World}{K:ba}{mg:Str->Option Value}{base:Heap}{k:Nat}{f:Addr}{name qual:Str}{params:Arguments}{body:List Stmt}{scope:Scope}{dV kV doc pm cdv ct oc:Value}{an od:Option Addr}
  {osl:Array (Option Value)} {N ps:List Str} {sp:Sp} (lk:K.lookup f=some ⟨oc,od,.func (fu name qual params body scope dV kV doc pm an cdv ct),osl⟩) (hcd:di K cdv qual=true) (S:aS N ps scope)
  (len:∀vs H Q E,sp vs H Q E->vs.length=ps.length)
  (FH:∀(A:Around) (outer:List Env) (s:Shared) (H:Hp) (vs:List V) (Q:VK) (E:XK),Room k (A.deeper (envOfC qual scope s.heap.objs.size f cdv))->sp vs H Q E ->
   ∃t,PSs (ve CX P w K mg base N qual scope f cdv A outer s H E) body t/\t { nx:=λ_ H'=>Q .non H',rt:=Q } (start N vs) H) :
  aJ P w K mg base CX (k+1) f (fu name qual params body scope dV kV doc pm an cdv ct) ps sp:=by
 refine⟨len,λA outer s H args us vs Q E hr e0 hb r hsp=>?_⟩
 have hl:=len _ _ _ _ hsp;have KX:K.In s.heap:=e0.mod.kin.keeps λb o e=>(e0.bs b o e).1
 have lim:s.heap.NoLimit:=e0.mod.nolimit.keeps λb o e=>(e0.bs b o e).1
 have ZX:∀y∈ps.zip us,scope.names.lookup y.1=some .local\/(scope.names.lookup y.1=some .cell/\((cellsFrom (s.heap.objs.size+1) scope.names []).lookup y.1).isSome=true):=λ⟨n,v⟩ hy=>by
  rcases S.par n (List.of_mem_zip hy).1 with q | q
  ·exact .inl q
  ·exact .inr ⟨q,PySem.W.cellsFrom_some _ _ _ (.inl q)⟩
 refine codeAny_call_function hr.depth (KX _ _ lk) rfl S.co S.gen rfl (PySem.W.codeRec_of KX hcd) (hb _ _ _ _ ?_);refine wpAny_newFunctionEnv_cells S.kind ZX λenv he s1 x=>?_
 subst he;refine⟨lim.keeps x.toInCall.keep,codeAny_func ?_⟩;obtain⟨t,ht,hq⟩:=FH A outer s H vs Q E (hr.deeper _) hsp;have I:Inv (ve CX P w K mg base N qual scope f cdv A outer s H E) [] (start N vs) H s1:=MU S hr.hd e0 hl r x;refine ajT (ht [] s1 (start N vs) H _ I hq) (λfl s' hs=>?_) λe s' hs=>hs
 have fin:∀ {σ':St} {H':Hp} {v:V} {u:Value},Inv (ve CX P w K mg base N qual scope f cdv A outer s H E) [] σ' H' s'->RelV v u->Q v H'->CE outer P w H s Q u s' :=
  λ{σ' H' v u} J rv q=>⟨v,H',J.os,J.bare,J.base,J.hok,rv,q⟩
 cases fl with
 |ret u =>
  obtain⟨v,σ',H',J,rv,q⟩:=hs;exact fin J rv q
 |next =>
  obtain⟨σ',H',J,q⟩:=hs;exact fin (v:=V.non) (u:=akX) J rfl q
 |brk =>
  obtain⟨_,_,_,q⟩:=hs;exact aj3 q
 |cont =>
  obtain⟨_,_,_,q⟩:=hs;exact aj3 q
end L2
namespace L2
open PySem PySem.Spec PyProof.Rows
section
variable{X:Cx}{x:Str}{p pos:Pos}{e:Expr}{es:List Expr}{t:TA}{id T:String}{r:List V->Hp->VK->Prop}
def tCB (r:List V->Hp->VK->Prop)(t:TA):TE:=λσ H Q=>t σ H λvs H1=>r vs H1 Q
theorem ck (hc:lx X (.builtin id) r)(hg:Gl X x)(hm:X.mg x=none)(hv:aku x=some (.builtin id))(ha:PA X (e::es) t)(hn:x≠"__name__":=by decide)(hdb:(x == ("__debug__":Str))=false:=by decide)
  (he:ajJ (e::es) X.env=(false,eval e X.env)::ajJ es X.env:=by rfl) (hpl:(backTo pos (ajJ es X.env)).any (·.1)=false:=by rfl):PE X (.Call (.Name x p) (e::es) [] pos) (tCB r t):=by
 intro pins s σ H Q I h;refine wpAny_Call_Name_kw (Eb I hg hm hv ?_ hn hdb);exact PyProof.Rows.callWith_builtin1 (thn (ha pos pins s σ H _ I h) λus s1 ⟨vs,H1,I1,r1,q1⟩=>hc pins s1 σ H1 vs us Q I1 r1 q1) he hpl
theorem dn (hc:lx X (.type T) r)(hg:Gl X x)(hm:X.mg x=none)(hv:aku x=some (.type T))(ha:PA X (e::es) t)(hn:x≠"__name__":=by decide)(hdb:(x == ("__debug__":Str))=false:=by decide)
  (he:ajJ (e::es) X.env=(false,eval e X.env)::ajJ es X.env:=by rfl) (hpl:(backTo pos (ajJ es X.env)).any (·.1)=false:=by rfl):PE X (.Call (.Name x p) (e::es) [] pos) (tCB r t):=by
 intro pins s σ H Q I h;refine wpAny_Call_Name_kw (Eb I hg hm hv ?_ hn hdb);exact PyProof.Rows.callWith_type1 (thn (ha pos pins s σ H _ I h) λus s1 ⟨vs,H1,I1,r1,q1⟩=>hc pins s1 σ H1 vs us Q I1 r1 q1) he hpl
end
end L2
namespace HT
open PySem PyProof.Rows
section
open PySem.SeqAt
open PySem.AutoSeq1 (wpAny_loadPart')
open PySem.MeetsSeq PySem.MeetsSeq2 PySem.MeetsSeq3
end
section
variable{prog:rf}{w:World}{A:Around}{E:Value->Shared->Prop}{s:Shared}
theorem RH {t b:Addr}{vs ws:List Value}{Q:Value->Shared->Prop}(ht:IsTup s.heap t vs.toArray)(hb:IsTup s.heap b ws.toArray)(hv:vs≠[])
  (h1:ws=[]->Q (.ref t) s) (h2:ws≠[]->Q (.ref s.heap.objs.size) { s with heap:=s.heap.push { cls:=.type "tuple",data:=.seq (vs++ws).toArray } })
  (hsz:vs.length+ws.length<=ka):wpAny (model prog w) A (binaryOp .Add (.ref t) (.ref b)) Q E s:=by
 obtain⟨⟨cls,dd,data,sl⟩,ho,hc,n,hd⟩:=id ht;obtain⟨⟨ajF,dd2,data2,sl2⟩,ho2,hc2,n2,hd2⟩:=id hb;simp only at hc hd hc2 hd2;subst hc hd hc2 hd2;have e:vs.toArray++ws.toArray=(vs++ws).toArray:=by simp
 by_cases hw:ws=[]
 ·exact concat_meets ⟨_,ho,rfl⟩ ⟨_,ho2,rfl⟩ noFill_tuple_add seq_tuple_add PySem.F.slot_tuple_add PySem.F.entry_tuple_add (PySem.F.args_tuple_add_2 _ _)
   (tuple_addW1 t b vs.toArray ws.toArray n n2 dd dd2 sl sl2 (by simpa using hv) (by simp[hw])) ⟨ho,ho2,h1 hw⟩
 ·refine concat_meets ⟨_,ho,rfl⟩ ⟨_,ho2,rfl⟩ noFill_tuple_add seq_tuple_add PySem.F.slot_tuple_add PySem.F.entry_tuple_add (PySem.F.args_tuple_add_2 _ _)
   (tuple_addW2 t b vs.toArray ws.toArray n n2 dd dd2 sl sl2 (by simpa using hv) (by simpa using hw) (by rw[ko,ko];exact hsz)) ⟨ho,ho2,?_⟩
  rw[e];exact h2 hw
def sIx (n d:Nat):Option Int->Nat
 |none=>d
 |some v=>if v < 0 then (v+(n:Int)).toNat else min v.toNat n
theorem FI (n d:Nat):sIx n d none=d:=rfl
theorem vf (n d k:Nat):sIx n d (some (k:Int))=min k n:=by
 show (if (k:Int) < 0 then ((k:Int)+(n:Int)).toNat else min (k:Int).toNat n)=min k n
 rw[if_neg (by omega),Int.toNat_natCast]
theorem Vx (n d:Nat)(hd:d<=n)(o:Option Int):sIx n d o<=n:=by
 cases o with
 |none=>exact hd
 |some v =>
  show (if v < 0 then (v+(n:Int)).toNat else min v.toNat n)<=n
  by_cases hv:v < 0
  ·rw[if_pos hv];omega
  ·rw[if_neg hv];exact Nat.min_le_right _ _
theorem LP (v:Int)(n d:Nat):(if v < 0 then max (v+(n:Int)) 0 else min v (n:Int))=((sIx n d (some v):Nat):Int):=by
 show (if v < 0 then max (v+(n:Int)) 0 else min v (n:Int))=(((if v < 0 then (v+(n:Int)).toNat else min v.toNat n):Nat):Int)
 by_cases hv:v < 0
 ·simp only[if_pos hv];omega
 ·simp only[if_neg hv];omega
theorem JD (lo hi:Option Int)(n:Nat):Builtin.Slice.sliceAdjust lo hi 1 (n:Int)=(((sIx n 0 lo:Nat):Int),((sIx n n hi:Nat):Int)):=by
 have h1:¬((1:Int) < 0):=by omega
 unfold Builtin.Slice.sliceAdjust;simp only[h1,if_false];refine Prod.ext ?_ ?_
 ·cases lo with
  |none=>rfl
  |some v=>exact LP v n 0
 ·cases hi with
  |none=>rfl
  |some v=>exact LP v n n
theorem JE (i j:Nat):ak0 (i:Int) (j:Int) 1=j - i:=by
 unfold ak0;have h1:(1:Int) > 0:=by omega
 simp only[h1,if_true,Int.ediv_one];split <;> omega
theorem AF {v:Value}{o:Option Int}{Q:Option Int->Shared->Prop}(p:IsPart v o)(h:Q o s):wpAny (model prog w) A (Builtin.Slice.slicePartIndex v) Q E s:=by
 cases p with
 |none=>exact slicePart_none h
 |int i t=>exact slicePart_int h
theorem w5 {sl:Addr}{vl vu:Value}{lo hi:Option Int}{n:Nat}{Q:Int×Int×Nat->Shared->Prop}(hs:s.heap.IsSliceOf sl vl vu .none)(pl:IsPart vl lo)(pu:IsPart vu hi)
  (h:Q (((sIx n 0 lo:Nat):Int),1,sIx n n hi - sIx n 0 lo) s):wpAny (model prog w) A (Builtin.Slice.sliceApplied (.ref sl) (pure (n:Int))) Q E s:=by
 obtain⟨os,hos,hcs,hds⟩:=id hs;unfold Builtin.Slice.sliceApplied Builtin.Slice.sliceFields;refine fe (fe (wpAny_field hos hds (x:=vl) rfl (fe (wpAny_field hos hds (x:=vu) rfl (fe (wpAny_field hos hds (x:=.none) rfl (tm ?_)))))));refine fe (slicePart_none ?_);show wpAny _ _ (if ((1:Int) == 0)=true then _ else _) _ _ s
 rw[if_neg (by decide)]
 refine fe (AF pl (fe (AF pu (fe (tm ?_)))));show wpAny _ _ (match Builtin.Slice.sliceAdjust lo hi 1 (n:Int) with | (lo,hi)=>pure (lo,(1:Int),ak0 lo hi 1)) _ _ s
 rw[JD lo hi n];show wpAny _ _ (pure (((sIx n 0 lo:Nat):Int),(1:Int),ak0 ((sIx n 0 lo:Nat):Int) ((sIx n n hi:Nat):Int) 1)) _ _ s;rw[JE];exact tm h
theorem Ox (xs:Array Value)(i k:Nat):((List.range k).filterMap λ(m:Nat)=>xs[((i:Int)+(m:Int) * 1).toNat]?).toArray=((xs.toList.drop i).take k).toArray:=by
 have e:(λ(m:Nat)=>xs[((i:Int)+(m:Int) * 1).toNat]?)=λm=>xs[i+m]?:=by
  funext m
  have:((i:Int)+(m:Int) * 1).toNat=i+m:=by omega
  rw[this]
 rw[e];have:=pick_run xs i k;rw[List.filterMap_map]at this;have e2:((λx=>xs[x]?)∘λx=>i+x)=λm=>xs[i+m]?:=rfl
 rw[e2]at this;rw[this]
theorem vg {t sl:Addr}{items:Array Value}{vl vu:Value}{lo hi:Option Int}{Q:Value->Shared->Prop}(ht:IsTup s.heap t items)(hs:s.heap.IsSliceOf sl vl vu .none)(pl:IsPart vl lo)(pu:IsPart vu hi)
  (hw:¬(sIx items.size 0 lo=0/\sIx items.size items.size hi=items.size))
  (h:Q (.ref s.heap.objs.size) { s with heap:=s.heap.push { cls:=.type "tuple",data:=.seq ((items.toList.drop (sIx items.size 0 lo)).take (sIx items.size items.size hi - sIx items.size 0 lo)).toArray } })
  (hsz:items.size<=ka):wpAny (model prog w) A (getItem (.ref t) (.ref sl)) Q E s:=by
 have LQ:sizeOk (.seq ((items.toList.drop (sIx items.size 0 lo)).take (sIx items.size items.size hi - sIx items.size 0 lo)).toArray):=by
  show ((items.toList.drop (sIx items.size 0 lo)).take (sIx items.size items.size hi - sIx items.size 0 lo)).toArray.size<=ka;rw[ko,akm,akV,ak5];omega
 have hj:sIx items.size items.size hi<=items.size:=Vx _ _ (kr _) hi;obtain⟨os,hos,hcs,hds⟩:=id hs;have hTs:s.TypeIs (.ref sl) "slice":=⟨os,hos,hcs⟩;unfold getItem
 try with_reducible refine akw ?_
 first | refine fe (tm ?_) | skip
 refine fe (wpAny_sequenceKey ht.typeIs (by decide) ?_)
 refine fe (wpAny_callSpecial?_slot (name:=ar "__getitem__") ht.typeIs PyProof.Rows.slot_tuple_getitem
  (wpAny_call_entry PyProof.Rows.slot_tuple_getitem ht.typeIs entry_tuple_getitem ?_ (args_tuple_getitem _ _)))
 show wpAny _ _ (Builtin.Tuple.tupleItemsOf (.ref t) >>= _) _ _ s;refine fe (tupleItemsOf_ ht ?_);refine fe (wpAny_typeOf hTs ?_);rw[if_pos (by decide)]
 refine fe (w5 hs pl pu ?_);have hno:¬((((sIx items.size 0 lo:Nat):Int) == 0 && (1:Int) == 1 && (sIx items.size items.size hi - sIx items.size 0 lo) == items.size)=true):=by
  intro q;rw[akz,akz]at q;have q1:((sIx items.size 0 lo:Nat):Int)=0:=eq_of_beq q.1.1;have q2:sIx items.size items.size hi - sIx items.size 0 lo=items.size:=eq_of_beq q.2;exact hw ⟨by omega,by omega⟩
 show wpAny _ _ (if (((sIx items.size 0 lo:Nat):Int) == 0 && (1:Int) == 1 && (sIx items.size items.size hi - sIx items.size 0 lo) == items.size)=true then _ else _) _ _ s
 rw[if_neg hno,Ox]
 first
  |exact fe (m:=ak4 _) (wpAny_newObj_type (tm ⟨_,rfl,tm h⟩) LQ)
  |exact fe (m:=ak4 _) (wpAny_newObj_type (fe (tm (tm ⟨_,rfl,tm h⟩))) LQ)
  |exact fe (fe (m:=ak4 _) (wpAny_newObj_type (tm (tm ⟨_,rfl,tm h⟩)) LQ))
  |exact fe (fe (m:=ak4 _) (wpAny_newObj_type (tm ⟨_,rfl,tm h⟩) LQ))
end
end HT
namespace L2
open PySem PySem.Spec PyProof.Rows
abbrev TO:=St->Hp->(Option Int->Hp->Prop)->Prop
def PO (X:Cx)(e:Option Expr)(t:TO):Prop :=
 ∀(pins:List (Addr×Obj)) (s:Shared) (σ:St) (H:Hp) (Q:Option Int->Hp->Prop),Inv X pins σ H s->t σ H Q ->
  wpAny (model X.prog X.w) X.A (evalPart e X.env) (λu s'=>∃o H',Inv X pins σ H' s'/\IsPart u o/\Q o H') X.xe s
def RI:TO:=λ_ H Q=>Q none H
def ZY (t:TE):TO:=λσ H Q=>t σ H λx H1=>∃i,x=.int i/\Q (some i) H1
section
variable{X:Cx}{e:Expr}{te:TE}{lo hi:Option Expr}{tl th:TO}{pos p2:Pos}
theorem vh:PO X none RI:=by
 intro pins s σ H Q I h;rw[evalPart_none];exact tm ⟨none,H,I,.none,h⟩
theorem p8 (h:PE X e te):PO X (some e) (ZY te):=by
 intro pins s σ H Q I hw;rw[evalPart_some];refine thn (h pins s σ H _ I hw) λu s1 ⟨x,H1,I1,r1,q1⟩=>?_
 obtain⟨i,rfl,q⟩:=q1;obtain⟨t,rfl⟩:=r1;exact⟨some i,H1,I1,.int i t,q⟩
def SlR (X:Cx)(r:V->Option Int->Option Int->Hp->VK->Prop):Prop :=
 ∀(pins:List (Addr×Obj)) (s:Shared) (σ:St) (H:Hp) (x:V) (v vl vu:Value) (lo hi:Option Int) (sl:Addr) (Q:VK),Inv X pins σ H s->RelV x v->s.heap.IsSliceOf sl vl vu .none->IsPart vl lo->IsPart vu hi->r x lo hi H Q ->
  ∃T id,typeLookup (.type T) "__getitem__"=pure (some (.builtin id))/\s.TypeIs v T/\wpAny (model X.prog X.w) X.A (getItem v (.ref sl)) (EP X pins σ Q) X.xe s
theorem SlR.or {r r':V->Option Int->Option Int->Hp->VK->Prop}(h:SlR X r)(h':SlR X r'):SlR X (λx lo hi H Q=>r x lo hi H Q\/r' x lo hi H Q):=by
 intro pins s σ H x v vl vu lo hi sl Q I rx hs pl pu q;rcases q with q | q
 ·exact h pins s σ H x v vl vu lo hi sl Q I rx hs pl pu q
 ·exact h' pins s σ H x v vl vu lo hi sl Q I rx hs pl pu q
def tSl (r:V->Option Int->Option Int->Hp->VK->Prop)(te:TE)(tl th:TO):TE:=λσ H Q=>te σ H λx H1=>tl σ H1 λl H2=>th σ H2 λu H3=>r x l u H3 Q
theorem oK {r:V->Option Int->Option Int->Hp->VK->Prop}(hr:SlR X r)(he:PE X e te)(hl:PO X lo tl)(hu:PO X hi th):PE X (.Subscript e (.Slice lo hi none p2) pos) (tSl r te tl th):=by
 intro pins s σ H Q I h;refine Subscript_ (thn (he pins s σ H _ I h) λv s1 ⟨x,H1,I1,r1,q1⟩=>?_)
 refine wpAny_Slice (thn (hl pins s1 σ H1 _ I1 q1) λvl s2 ⟨l,H2,I2,pl,q2⟩=>thn (hu pins s2 σ H2 _ I2 q2) λvu s3 ⟨u,H3,I3,pu,q3⟩=>?_)
 rw[evalPart_none];refine tm ?_;have I4:Inv X pins σ H3 { s3 with heap:=s3.heap.push { cls:=.type "slice",data:=.fields #[vl,vu,.none] } }:=I3.kept (t':=s3.toks) λb ob q=>kf _ q
 obtain⟨T,id,hT,ht,hg⟩:=hr pins { s3 with heap:=s3.heap.push { cls:=.type "slice",data:=.fields #[vl,vu,.none] } } σ H3 x v vl vu l u s3.heap.objs.size Q I4 r1 (Heap.IsSliceOf.new ..) pl pu q3
 show wpAny (model X.prog X.w) X.A (subscriptTail e (.Slice lo hi none p2) v (.ref s3.heap.objs.size)) (EP X pins σ Q) X.xe { s3 with heap:=s3.heap.push { cls:=.type "slice",data:=.fields #[vl,vu,.none] } }
 exact tail_any (ops:=[.ref s3.heap.objs.size,v]) ht hT hg (by with_unfolding_all rfl)
def gy (xs:List V)(lo hi:Option Int):List V:=(xs.drop (HT.sIx xs.length 0 lo)).take (HT.sIx xs.length xs.length hi - HT.sIx xs.length 0 lo)
theorem iK (xs:List V)(lo hi:Option Int):(gy xs lo hi).length<=xs.length:=by
 unfold gy;rw[akm,akV];omega
def ahr (K:ba):V->Option Int->Option Int->Hp->VK->Prop:=λx lo hi H Q=>∃a xs,x=.ref a/\SqT K H a xs /\
 ¬(HT.sIx xs.length 0 lo=0/\HT.sIx xs.length xs.length hi=xs.length)/\∀p,H p=none->Q (.ref p) (upd H p (.tup (gy xs lo hi)))
theorem Vy:SlR X (ahr X.K):=by
 intro pins s σ H x v vl vu lo hi sl Q I rx hs pl pu h;obtain⟨a,xs,rfl,hx,hw,q⟩:=h;cases rx;obtain⟨its,r,ht,hz⟩:=I.tuple hx;have hlen:its.toArray.size=xs.length:=by rw[ko];exact r.length.symm
 refine⟨"tuple",_,PyProof.Rows.slot_tuple_getitem.lookup,ht.typeIs,?_⟩;refine HT.vg ht hs pl pu (by rw[hlen];exact hw) ?_ (by rw[hlen];exact hz)
 rw[hlen];refine⟨.ref s.heap.objs.size,_,I.laid (t':=s.toks) (o:=.tup (gy xs lo hi)) (λb ob q=>kf _ q) (kr _) ?_,rfl,q _ (I.hok.fresh (kr _))⟩
 exact⟨ajI (iK xs lo hi) hz,_,(r.drop (HT.sIx xs.length 0 lo)).take (HT.sIx xs.length xs.length hi - HT.sIx xs.length 0 lo),IsTup.new _ _⟩
def ZZ (K:ba):R2:=λx y H Q=>∃a b xs ys,x=.ref a/\y=.ref b/\SqT K H a xs/\SqT K H b ys/\xs≠[]/\xs.length+ys.length<=ka /\
 (ys=[]->Q (.ref a) H)/\(ys≠[]->∀p,H p=none->Q (.ref p) (upd H p (.tup (xs++ys))))
theorem Vals.Eg {xs:List V}{us:List Value}(r:Vals xs us):us=[]↔xs=[]:=by
 cases r with
 |nil=>simp
 |cons _ _=>simp
theorem RJ:OpR X (binaryOp .Add) (ZZ X.K):=by
 intro pins s σ H x y v u Q I rx ry h;obtain⟨a,b,xs,ys,rfl,rfl,ha,hb,hx,hz,q1,q2⟩:=h;cases rx;cases ry;obtain⟨its,r1,p1,_⟩:=I.tuple ha;obtain⟨FJ,r2,p2,_⟩:=I.tuple hb;refine HT.RH p1 p2 (λz=>hx (r1.Eg.mp z)) (λz=>⟨.ref a,H,I,rfl,q1 (r2.Eg.mp z)⟩) (λz=>?_) (by rw[<-r1.length,<-r2.length];exact hz)
 refine⟨.ref s.heap.objs.size,_,I.laid (t':=s.toks) (o:=.tup (xs++ys)) (λb ob q=>kf _ q) (kr _) ?_,rfl,q2 (λw=>z (r2.Eg.mpr w)) _ (I.hok.fresh (kr _))⟩
 exact⟨by rw[ky];exact hz,_,r1.append r2,IsTup.new _ _⟩
end
end L2
namespace L2
open PySem PySem.Spec PyProof.Rows
def ixN (n:Nat)(i:Int):Option Nat:=if 0<=i then (if i < n then some i.toNat else none) else if -(n:Int)<=i then some (i+n).toNat else none
def atI {α:Type}(xs:List α)(i:Int):Option α:=(ixN xs.length i).bind λj=>xs[j]?
theorem Eh {n:Nat}{i:Int}{j:Nat}(h:ixN n i=some j):seqIndex? i n=some j/\j < n/\-(n:Int)<=i/\i < n:=by
 unfold ixN at h
 by_cases h0:0<=i
 ·rw[if_pos h0]at h
  by_cases h1:i < n
  ·rw[if_pos h1]at h;have e:i.toNat=j:=ajP h;exact⟨by rw[seqIndex_of h0 h1,e],by omega,by omega,h1⟩
  ·rw[if_neg h1]at h;cases h
 ·rw[if_neg h0]at h
  by_cases h1:-(n:Int)<=i
  ·rw[if_pos h1]at h;have e:(i+n).toNat=j:=ajP h;exact⟨by rw[seqIndex_neg (by omega) h1,e],by omega,h1,by omega⟩
  ·rw[if_neg h1]at h;cases h
theorem Ei {α:Type}{xs:List α}{i:Int}{v:α}(h:atI xs i=some v):∃j,seqIndex? i xs.length=some j/\xs[j]?=some v/\j < xs.length/\-(xs.length:Int)<=i/\i < xs.length:=by
 unfold atI at h;cases e:ixN xs.length i with
 |none=>rw[e]at h;cases h
 |some j =>
  rw[e]at h;obtain⟨h1,h2,h3,h4⟩:=Eh e;exact⟨j,h1,h,h2,h3,h4⟩
theorem eu {α:Type}{xs:List α}{j:Nat}{v:α}(h:xs[j]?=some v):atI xs (j:Int)=some v:=by
 have hj:j < xs.length:=(List.getElem?_eq_some_iff.mp h).1;have e:ixN xs.length (j:Int)=some j:=by
  unfold ixN;rw[if_pos (by omega),if_pos (by omega)];simp
 unfold atI;rw[e];exact h
theorem i4 {α:Type}(xs:List α)(v:α):atI (xs++[v]) (-1)=some v:=by
 have hl:(xs++[v]).length=xs.length+1:=by simp
 have e:ixN (xs++[v]).length (-1)=some xs.length:=by
  unfold ixN;rw[hl,if_neg (by decide),if_pos (by omega)]
  congr 1
  omega
 unfold atI;rw[e];show (xs++[v])[xs.length]?=some v;simp
def RK (b:Expr):Prop:=∀o i,subscripted b false o i=operate [o,i] (getItem o i)
def IxR (X:Cx)(r:R2):Prop :=
 ∀(value slice:Expr) (pins:List (Addr×Obj)) (s:Shared) (σ:St) (H:Hp) (x y:V) (v u:Value) (Q:VK),Inv X pins σ H s->RelV x v->RelV y u->r x y H Q ->
  subscripted slice false v u=operate [v,u] (getItem v u)->wpAny (model X.prog X.w) X.A (subscriptTail value slice v u) (EP X pins σ Q) X.xe s
def MtR (X:Cx)(id:String)(r:V->List V->Hp->VK->Prop):Prop :=
 ∀(pins:List (Addr×Obj)) (s:Shared) (σ:St) (H:Hp) (x:V) (xs:List V) (v:Value) (us:List Value) (Q:VK),Inv X pins σ H s->RelV x v->Vals xs us->r x xs H Q ->
  wpAny (model X.prog X.w) X.A (call (.builtin id) (v::us)) (EP X pins σ Q) X.xe s
section
variable{X:Cx}{a b:Expr}{ta tb:TE}{pos:Pos}
theorem IxR.or {r r':R2}(h:IxR X r)(h':IxR X r'):IxR X (λx y H Q=>r x y H Q\/r' x y H Q):=by
 intro value slice pins s σ H x y v u Q I rx ry q hs;rcases q with q | q
 ·exact h value slice pins s σ H x y v u Q I rx ry q hs
 ·exact h' value slice pins s σ H x y v u Q I rx ry q hs
theorem MtR.or {id:String}{r r':V->List V->Hp->VK->Prop}(h:MtR X id r)(h':MtR X id r'):MtR X id (λx xs H Q=>r x xs H Q\/r' x xs H Q):=by
 intro pins s σ H x xs v us Q I rx rs q;rcases q with q | q
 ·exact h pins s σ H x xs v us Q I rx rs q
 ·exact h' pins s σ H x xs v us Q I rx rs q
theorem aT {r:R2}(hr:IxR X r)(ha:PE X a ta)(hb:PE X b tb)(hs:RK b):PE X (.Subscript a b pos) (tOp r ta tb):=by
 intro pins s σ H Q I h;exact Subscript_ (Vq ha hb I h λv u s2 x y H2 I2 rx ry q=>hr a b pins s2 σ H2 x y v u Q I2 rx ry q (hs _ _))
def Z0 (K:ba):R2:=λx y H Q=>∃p xs i v,x=.ref p/\y=.int i/\SqL K H p xs/\atI xs i=some v/\Q v H
def Z1 (K:ba):R2:=λx y H Q=>∃p xs i v,x=.ref p/\y=.int i/\SqT K H p xs/\atI xs i=some v/\Q v H
def Z2:R2:=λx y H Q=>∃z i c,x=.str z/\y=.int i/\z.length<=ka/\atI z.cps.toList i=some c/\Q (.str ⟨#[c]⟩) H
theorem bF:IxR X (Z0 X.K):=by
 intro value slice pins s σ H x y v u Q I rx ry h hs;obtain⟨p,xs,i,z,rfl,rfl,hq,he,q⟩:=h;cases rx;obtain⟨t,rfl⟩:=ry;obtain⟨its,r,pl,hz⟩:=I.list hq;obtain⟨j,h1,h2,h3,h4,h5⟩:=Ei he;obtain⟨w,ew,rw'⟩:=r.get h2;have hl:=r.length;have hn:=um;have fin:EP X pins σ Q w s:=⟨z,H,I,rw',q⟩
 by_cases h0:0<=i
 ·have hj:i.toNat=j:=by
   rw[seqIndex_of h0 h5]at h1;exact ajP h1
  exact item_listR pl.isList h0 (by omega) (by rw[hj];simpa using ew) fin hs
 ·have hj:(i+(its.toArray.size:Int)).toNat=j:=by
   rw[seqIndex_neg (by omega) h4]at h1
   rw[ko,<-hl];exact ajP h1
  exact subscriptTail_builtinR (x:=w) pl.isList.typeIs slot_list_getitem.lookup
   (wpAny_getItem_list_neg (Q:=λr s'=>r=w/\EP X pins σ Q r s') pl.isList (by omega) (by rw[ko] <;> omega) (by omega) (by rw[hj];simpa using ew) ⟨rfl,fin⟩) hs
theorem aU:IxR X (Z1 X.K):=by
 intro value slice pins s σ H x y v u Q I rx ry h hs;obtain⟨p,xs,i,z,rfl,rfl,hq,he,q⟩:=h;cases rx;obtain⟨t,rfl⟩:=ry;obtain⟨its,r,pl,hz⟩:=I.tuple hq;obtain⟨j,h1,h2,h3,h4,h5⟩:=Ei he;obtain⟨w,ew,rw'⟩:=r.get h2;have hl:=r.length;have hn:=um;have fin:EP X pins σ Q w s:=⟨z,H,I,rw',q⟩;exact subscriptTail_builtinR (x:=w) pl.typeIs slot_tuple_getitem.lookup
  (getItem_tuple (j:=j) (Q:=λr s'=>r=w/\EP X pins σ Q r s') pl (by omega) (by omega) (by rw[ko,<-hl];exact h1) (by simpa using ew) ⟨rfl,fin⟩) hs
theorem JF:IxR X Z2:=by
 intro value slice pins s σ H x y v u Q I rx ry h hs;obtain⟨z,i,c,rfl,rfl,hz,he,q⟩:=h;obtain⟨t,rfl⟩:=rx;obtain⟨t',rfl⟩:=ry;obtain⟨j,h1,h2,h3,h4,h5⟩:=Ei he;have hl:z.cps.toList.length=z.length:=by simp[Str.length]
 rw[hl]at h1 h4 h5;have hn:=um;exact tail_any (typeIs_str s z t) slot_str_getitem.lookup (getItem_str (c:=c) (by
  have e1:decide (i < -(2 ^ 63:Int))=false:=decide_eq_false (by omega)
  have e2:decide (i≥2 ^ 63)=false:=decide_eq_false (by omega)
  rw[e1,e2,Bool.or_false]) (by rw[h1];simpa using h2) ⟨.str ⟨#[c]⟩,H,I.tok _,⟨_,rfl⟩,q⟩) hs
def rIx (K:ba):R2:=λx y H Q=>Z0 K x y H Q\/Z1 K x y H Q\/Z2 x y H Q
theorem Vz:IxR X (rIx X.K):=bF.or (aU.or JF)
theorem JG (its:List Value)(n j:Nat)(u:Value):Obj.mapSeq (·.setIfInBounds j u) { cls:=.type "list",data:=.seq its.toArray n }={ cls:=.type "list",data:=.seq (its.set j u).toArray n }:=by
 simp[Obj.mapSeq]
theorem Inv.lst {pins:List (Addr×Obj)}{σ:St}{H:Hp}{s:Shared}{p:Addr}{xs:List V}(I:Inv X pins σ H s)(h:H p=some (.lst xs)) :
  ∃(its:List Value) (n:Nat),Vals xs its/\s.heap.get? p=some { cls:=.type "list",data:=.seq its.toArray n }/\xs.length<=ka:=by
 obtain⟨z,its,n,r,e⟩:=I.hok p _ h;exact⟨its,n,r,e,z⟩
theorem Inv.VA {pins:List (Addr×Obj)}{σ:St}{H:Hp}{s:Shared}{p:Addr}{xs ys:List V}{its its':List Value}{n n':Nat}{f:Obj->Obj}(I:Inv X pins σ H s)(h:H p=some (.lst xs))
  (ho:s.heap.get? p=some { cls:=.type "list",data:=.seq its.toArray n }) (hf:f { cls:=.type "list",data:=.seq its.toArray n }={ cls:=.type "list",data:=.seq its'.toArray n' }) (r:Vals ys its') (hz:ys.length<=ka) (t:Nat) :
  Inv X pins σ (upd H p (.lst ys)) { s with heap:=s.heap.update p f,toks:=t }:=by
 have e:(s.heap.update p f).get? p=some { cls:=.type "list",data:=.seq its'.toArray n' }:=by
  rw[akM f ho (by rw[hf] <;> rfl),hf]
 refine I.write (x:=p) (e:=p) (by rw[h];trivial) (.inl rfl) (λb u hb q=>(akq _ _ (aj2 hb)).trans q) ⟨_,e⟩ ?_
 exact⟨hz,its',n',r,e⟩
def Z3:V->V->V->Hp->(Hp->Prop)->Prop:=λo i v H Q=>∃p xs k j,o=.ref p/\i=.int k/\H p=some (.lst xs)/\ixN xs.length k=some j/\Q (upd H p (.lst (xs.set j v)))
theorem set_list:ZL X Z3:=by
 intro pins s σ H o i v ov iv u Q I ro ri rv h;obtain⟨p,xs,k,j,rfl,rfl,hp,hj,q⟩:=h;cases ro;obtain⟨t,rfl⟩:=ri;obtain⟨its,n,r,ho,hz⟩:=I.lst hp;obtain⟨h1,h2,h3,h4⟩:=Eh hj;have hl:=r.length;have hn:=um;have I':Inv X pins σ (upd H p (.lst (xs.set j v))) { s with heap:=s.heap.update p (Obj.mapSeq (·.setIfInBounds j u)) } :=
  I.VA hp ho (JG its n j u) (r.set rv j) (by rw[aky];exact hz) s.toks
 by_cases h0:0<=k
 ·have hk:k.toNat=j:=by
   rw[seqIndex_of h0 h4]at h1;exact ajP h1
  exact PySem.W.ki_setAt ho h0 (by omega) (by rw[ko,<-hl];exact h4) (by rw[hk];exact⟨_,I',q⟩)
 ·have hk:(k+(its.toArray.size:Int)).toNat=j:=by
   rw[seqIndex_neg (by omega) h3]at h1
   rw[ko,<-hl];exact ajP h1
  exact PySem.W.ki_setBack ho (by omega) (by rw[ko,<-hl];exact h3) (by omega) (by rw[hk];exact⟨_,I',q⟩)
theorem Ej (lo hi:Option Int)(n:Nat):(sliceBounds lo hi none n).1=((HT.sIx n 0 lo:Nat):Int)/\(sliceBounds lo hi none n).2.1=((HT.sIx n n hi:Nat):Int)/\(sliceBounds lo hi none n).2.2=1:=by
 refine⟨?_,?_,rfl⟩
 ·cases lo with
  |none=>simp[sliceBounds,HT.sIx]
  |some i =>
   simp only[sliceBounds,HT.sIx,Option.getD_none,show (1:Int) > 0 by decide,if_true]
   by_cases h:i < 0
   ·simp only[h,if_true] <;> omega
   ·simp only[h,if_false] <;> omega
 ·cases hi with
  |none=>simp[sliceBounds,HT.sIx]
  |some i =>
   simp only[sliceBounds,HT.sIx,Option.getD_none,show (1:Int) > 0 by decide,if_true]
   by_cases h:i < 0
   ·simp only[h,if_true] <;> omega
   ·simp only[h,if_false] <;> omega
theorem Cw (its:List Value)(lo hi:Option Int):slicePick its.toArray lo hi none=((its.drop (HT.sIx its.length 0 lo)).take (HT.sIx its.length its.length hi - HT.sIx its.length 0 lo)).toArray:=by
 obtain⟨h1,h2,h3⟩:=Ej lo hi its.toArray.size;unfold slicePick;rw[h1,h2,h3];simp only[sliceRange_one,pick_run,ko] <;> rfl
def ahs (K:ba):V->Option Int->Option Int->Hp->VK->Prop:=λx lo hi H Q=>∃a xs,x=.ref a/\SqL K H a xs/\∀p,H p=none->Q (.ref p) (upd H p (.lst (gy xs lo hi)))
theorem vi:SlR X (ahs X.K):=by
 intro pins s σ H x v vl vu lo hi sl Q I rx hs pl pu h;obtain⟨a,xs,rfl,hx,q⟩:=h;cases rx;obtain⟨its,r,ht,hz⟩:=I.list hx;have hlen:=r.length;refine⟨"list",_,slot_list_getitem.lookup,ht.isList.typeIs,?_⟩;refine wpAny_getItem_list_slice ht.isList hs pl pu .none (by simp) ?_ (by rw[ko] <;> omega)
 rw[Cw,<-hlen];refine⟨.ref s.heap.objs.size,_,I.laid (t':=s.toks) (o:=.lst (gy xs lo hi)) (λb ob q=>kf _ q) (kr _) ?_,rfl,q _ (I.hok.fresh (kr _))⟩
 exact⟨ajI (iK xs lo hi) hz,_,0,(r.drop (HT.sIx xs.length 0 lo)).take (HT.sIx xs.length xs.length hi - HT.sIx xs.length 0 lo),ajU _ rfl⟩
def vj:V->Bool
 | .non=>true
 | .bl _=>true
 | .int _=>true
 | .str _=>true
 |_=>false
def eqV:V->V->Bool
 | .non,.non=>true
 | .bl a,.bl b=>a == b
 | .bl a,.int b=>(if a then 1 else 0) == b
 | .int a,.bl b=>a == (if b then 1 else 0)
 | .int a,.int b=>a == b
 | .str a,.str b=>a == b
 |_,_=>false
theorem VB {A:Around}{s:Shared}{y x:V}{u v:Value}(ry:RelV y u)(rx:RelV x v)(fy:vj y=true)(fx:vj x=true):SeqAt.EqAt A s u v (eqV y x):=by
 cases y with
 |non =>
  cases ry;cases x with
  |non=>cases rx;exact SeqAt.EqAt.same _
  |bl b=>cases rx;exact SeqAt.EqAt.none_bool b
  |int b=>obtain⟨t,rfl⟩:=rx;exact SeqAt.EqAt.none_int b t
  |str b=>obtain⟨t,rfl⟩:=rx;exact SeqAt.EqAt.none_str b t
  |_=>exact absurd (show false=true from fx) ku
 |bl a =>
  cases ry;cases x with
  |non=>cases rx;exact SeqAt.EqAt.bool_none a
  |bl b=>cases rx;exact SeqAt.EqAt.bool_bool a b
  |int b=>obtain⟨t,rfl⟩:=rx;exact SeqAt.EqAt.bool_int a b t
  |str b=>obtain⟨t,rfl⟩:=rx;exact SeqAt.EqAt.bool_str a b t
  |_=>exact absurd (show false=true from fx) ku
 |int a =>
  obtain⟨t',rfl⟩:=ry;cases x with
  |non=>cases rx;exact SeqAt.EqAt.int_none a t'
  |bl b=>cases rx;exact SeqAt.EqAt.int_bool a t' b
  |int b=>obtain⟨t,rfl⟩:=rx;exact SeqAt.EqAt.int_int a t' b t
  |str b=>obtain⟨t,rfl⟩:=rx;exact SeqAt.EqAt.int_str a t' b t
  |_=>exact absurd (show false=true from fx) ku
 |str a =>
  obtain⟨t',rfl⟩:=ry;cases x with
  |non=>cases rx;exact SeqAt.EqAt.str_none a t'
  |bl b=>cases rx;exact SeqAt.EqAt.str_bool a t' b
  |int b=>obtain⟨t,rfl⟩:=rx;exact SeqAt.EqAt.str_int a t' b t
  |str b=>obtain⟨t,rfl⟩:=rx;exact SeqAt.EqAt.str_str a t' b t
  |_=>exact absurd (show false=true from fx) ku
 |_=>exact absurd (show false=true from fy) ku
def eqU (x:V)(u:Value):Bool:=match u with
 | .none=>eqV .non x
 | .bool b=>eqV (.bl b) x
 | .int i _=>eqV (.int i) x
 | .str z _=>eqV (.str z) x
 |_=>false
theorem JH {x y:V}{u:Value}(r:RelV y u)(f:vj y=true):eqU x u=eqV y x:=by
 cases y with
 |non=>cases r;rfl
 |bl b=>cases r;rfl
 |int i=>obtain⟨t,rfl⟩:=r;rfl
 |str z=>obtain⟨t,rfl⟩:=r;rfl
 |_=>exact absurd (show false=true from f) ku
theorem Ek {x:V}:∀ {xs:List V} {us:List Value},Vals xs us->xs.all vj=true->us.any (eqU x)=xs.any λy=>eqV y x
 |_,_,.nil,_=>rfl
 |y::xs,u::us,.cons r t,f=>by
  rw[List.all_cons,akz]at f;rw[List.any_cons,List.any_cons,JH r f.1,Ek t f.2]
theorem vk {A:Around}{s:Shared}{x:V}{v:Value}(rx:RelV x v)(fx:vj x=true):∀ {xs:List V} {us:List Value},Vals xs us->xs.all vj=true->∀u∈us,SeqAt.EqAt A s u v (eqU x u)
 |_,_,.nil,_=>λu hu=>by cases hu
 |y::xs,u::us,.cons r t,f=>λu' hu=>by
  rw[List.all_cons,akz]at f;rcases List.mem_cons.mp hu with rfl | hu
  ·rw[JH r f.1];exact VB r rx f.1 fx
  ·exact vk rx fx t f.2 u' hu
def inV (x:V)(xs:List V):Bool:=xs.any λy=>eqV y x
def rIn (K:ba)(neg:Bool):R2:=λx y H Q=>∃p xs,y=.ref p/\(SqL K H p xs\/SqT K H p xs)/\vj x=true/\xs.all vj=true/\Q (.bl (if neg then !inV x xs else inV x xs)) H
theorem w6:OpR X (akG .In) (rIn X.K false):=by
 intro pins s σ H x y v u Q I rx ry h;obtain⟨p,xs,rfl,hq,fx,fs,q⟩:=h;cases ry;rcases hq with hq | hq
 ·obtain⟨its,r,pl,hz⟩:=I.list hq;refine SeqAt.in_listAt (eqU x) pl.isList (λw hw=>vk rx fx r fs w (by simpa using hw)) ⟨.bl _,H,I,rfl,?_⟩
  rw[show its.toArray.any (eqU x)=its.any (eqU x) by simp,Ek r fs]
  exact q
 ·obtain⟨its,r,pl,hz⟩:=I.tuple hq;refine SeqAt.in_tupleAt (eqU x) pl (λw hw=>vk rx fx r fs w (by simpa using hw)) ⟨.bl _,H,I,rfl,?_⟩
  rw[show its.toArray.any (eqU x)=its.any (eqU x) by simp,Ek r fs]
  exact q
theorem c8:lx X (.builtin "len") (λxs H Q=>∃p ys,xs=[.ref p]/\(SqL X.K H p ys\/SqT X.K H p ys)/\Q (.int ys.length) H):=by
 intro pins s σ H xs us Q I r h;obtain⟨p,ys,rfl,hq,q⟩:=h;obtain⟨u,rfl,rx⟩:=vals1 r;cases rx;have hn:=um;rcases hq with hq | hq
 ·obtain⟨its,r',pl,hz⟩:=I.list hq;have hlen:=r'.length;exact Calls.call_len_list pl.isList (by simp only[ko] <;> omega) ⟨.int ys.length,H,I.tok _,⟨s.toks+1,by rw[ko,hlen]⟩,q⟩
 ·obtain⟨its,r',pl,hz⟩:=I.tuple hq;have hlen:=r'.length;exact len_tuple pl (by simp only[ko] <;> omega) ⟨.int ys.length,H,I.tok _,⟨s.toks+1,by rw[ko,hlen]⟩,q⟩
theorem lx.or {f:Value}{r r':List V->Hp->VK->Prop}(h:lx X f r)(h':lx X f r'):lx X f (λxs H Q=>r xs H Q\/r' xs H Q):=by
 intro pins s σ H xs us Q I rs q;rcases q with q | q
 ·exact h pins s σ H xs us Q I rs q
 ·exact h' pins s σ H xs us Q I rs q
theorem c9:lx X (.type "list") (λxs H Q=>∃p ys,xs=[.ref p]/\(SqL X.K H p ys\/SqT X.K H p ys)/\∀l,H l=none->Q (.ref l) (upd H l (.lst ys))):=by
 intro pins s σ H xs us Q I r h;obtain⟨p,ys,rfl,hq,q⟩:=h;obtain⟨u,rfl,rx⟩:=vals1 r;cases rx;have fin:∀(its:List Value),Vals ys its->ys.length<=ka->∀(h':Heap) (c':Nat),(∀b o',s.heap.get? b=some o'->h'.get? b=some o') ->
   h'.get? s.heap.objs.size=some { cls:=.type "list",dict:=none,data:=.seq its.toArray c',slots:=#[] }->EP X pins σ Q (.ref s.heap.objs.size) { s with heap:=h' }:=λits r' hz h' c' kp e =>
  ⟨.ref s.heap.objs.size,_,I.laid (t':=s.toks) kp (kr _) (show dU X.prog X.w _ h' _ (.lst ys) from ⟨hz,its,c',r',e⟩),rfl,q _ (I.hok.fresh (kr _))⟩
 rcases hq with hq | hq
 ·obtain⟨its,r',pl,hz⟩:=I.list hq;have hlen:=r'.length;obtain⟨o,ho,hc,n,hd⟩:=pl.isList;exact call_list_seq p (.inl rfl) ho hc hd (λh' c' kp e=>fin its r' hz h' c' kp e) (by simp only[ko] <;> omega)
 ·obtain⟨its,r',pl,hz⟩:=I.tuple hq;have hlen:=r'.length;obtain⟨o,ho,hc,n,hd⟩:=pl;exact call_list_seq p (.inr rfl) ho hc hd (λh' c' kp e=>fin its r' hz h' c' kp e) (by simp only[ko] <;> omega)
def tyV (K:ba)(T:String)(x:V)(H:Hp):Prop:=match x with
 | .str _=>T="str"
 | .int _=>T="int"
 | .ref p=>(T="list"/\∃xs,SqL K H p xs)\/(T="tuple"/\∃o,K.lookup p=some o/\o.cls=.type "tuple"/\o.dict=none) \/
   (T="dict"/\((∃kvs,H p=some (.dK kvs))\/∃kvs,H p=some (.dT kvs)))\/(T="set"/\∃S n,H p=some (.set S n))
 |_=>False
theorem Oy {pins:List (Addr×Obj)}{σ:St}{H:Hp}{s:Shared}{T:String}{x:V}{v:Value}(I:Inv X pins σ H s)(r:RelV x v)(ty:tyV X.K T x H) :
  s.TypeIs v T/\∀a,v=.ref a->∃ob,s.heap.get? a=some ob/\ob.dict=none:=by
 cases x with
 |str z =>
  obtain⟨t,rfl⟩:=r;cases (show T="str" from ty)
  exact⟨typeIs_str s z t,λ_ e=>nomatch e⟩
 |int i =>
  obtain⟨t,rfl⟩:=r;cases (show T="int" from ty)
  exact⟨typeIs_int s i t,λ_ e=>nomatch e⟩
 |ref p =>
  cases r;rcases ty with ⟨rfl,xs,hq⟩ | ⟨rfl,o,hk,hc,hd⟩ | ⟨rfl,hk⟩ | ⟨rfl,S,n,hk⟩
  ·obtain⟨its,_,pl,_⟩:=I.list hq;refine⟨pl.isList.typeIs,λa e=>?_⟩
   cases e;obtain⟨o,n,e,c,hd,_⟩:=pl;exact⟨o,e,hd⟩
  ·refine⟨⟨o,I.kIn p o hk,hc⟩,λa e=>?_⟩
   cases e;exact⟨o,I.kIn _ o hk,hd⟩
  ·have z:∃o,s.heap.get? p=some o/\o.ExactDict:=by
    rcases hk with ⟨kvs,hk⟩ | ⟨kvs,hk⟩
    ·obtain⟨_,_,_,_,o,_,_,e,ex,_⟩:=I.hok p _ hk;exact⟨o,e,ex⟩
    ·obtain⟨_,_,_,_,o,_,_,e,ex,_⟩:=I.hok p _ hk;exact⟨o,e,ex⟩
   obtain⟨o,e,ex⟩:=z;refine⟨⟨o,e,ex.1⟩,λa e2=>?_⟩
   cases e2;exact⟨o,e,ex.2.1⟩
  ·obtain⟨o,_,_,_,e,ex,_⟩:=I.hok p _ hk;refine⟨⟨o,e,ex.1⟩,λa e2=>?_⟩
   cases e2;exact⟨o,e,ex.2.1⟩
 |_=>exact aj3 ty
def aht (K:ba)(T:String)(r:V->List V->Hp->VK->Prop)(to:TE):TE:=λσ H Q=>to σ H λx H1=>tyV K T x H1/\r x [] H1 Q
def tBM (K:ba)(T:String)(r:V->List V->Hp->VK->Prop)(to:TE)(t:TA):TE:=λσ H Q=>to σ H λx H1=>tyV K T x H1/\t σ H1 λxs H2=>r x xs H2 Q
variable{o e:Expr}{es:List Expr}{to:TE}{t:TA}{name:Str}{apos gA:Pos}{T id:String}{r:V->List V->Hp->VK->Prop}
theorem Oz (pa:PlainAttrs T)(slot:Slot T name id)(hty:typeOf (.builtin id)=pure (.type "method_descriptor"))(hm:MtR X id r)(ho:PE X o to)
  (FK:attributeBase o name X.env (eval o X.env)=eval o X.env:=by rfl) (OA:(apos.endLine == gA.line)=true:=by rfl):PE X (.Call (.Attribute o name apos) [] [] gA) (aht X.K T r to):=by
 intro pins s σ H Q I h;refine wpAny_Call_method0_late FK OA (thn (ho pins s σ H _ I h) λv s1 ⟨x,H1,I1,r1,ty,q1⟩=>?_)
 obtain⟨h1,h2⟩:=Oy I1 r1 ty;exact⟨T,id,pa,slot,hty,h1,h2,Calls.callWith_builtin rfl (PySem.evalArgs_none (hm pins s1 σ H1 x [] v [] Q I1 r1 .nil q1))⟩
theorem gB (pa:PlainAttrs T)(slot:Slot T name id)(hty:typeOf (.builtin id)=pure (.type "method_descriptor"))(hm:MtR X id r)(ho:PE X o to)(ha:PA X (e::es) t)
  (FK:attributeBase o name X.env (eval o X.env)=eval o X.env:=by rfl)
  (ahu:((backTo gA (ajJ (e::es) X.env)).all (λx=>!x.1) && (backToKw gA (keywordEach [] X.env)).all (λx=>x.1.isSome)
   && decide ((e::es).length+([]:List Keyword).length+(if ([]:List Keyword).isEmpty then 0 else 1) < 30))=true:=by rfl)
  (OA:(apos.endLine == gA.line)=true:=by rfl) (hs:ajJ (e::es) X.env=(false,eval e X.env)::ajJ es X.env:=by rfl) (VC:(backTo gA (ajJ es X.env)).any (·.1)=false:=by rfl) :
  PE X (.Call (.Attribute o name apos) (e::es) [] gA) (tBM X.K T r to t):=by
 intro pins s σ H Q I h;refine wpAny_Call_method_late FK ahu OA rfl (thn (ho pins s σ H _ I h) λv s1 ⟨x,H1,I1,r1,ty,q1⟩=>?_)
 obtain⟨h1,h2⟩:=Oy I1 r1 ty;refine⟨T,id,pa,slot,hty,h1,h2,?_⟩;have hA:=ha gA pins s1 σ H1 _ I1 q1;rw[hs]at hA ⊢;refine Calls.callWith_builtin (by show (false || (backTo gA (ajJ es X.env)).any (·.1))=false;rw[VC] <;> rfl) (Calls.evalArgs_plain ?_)
 exact thn hA λus s2 ⟨vs,H2,I2,r2,q2⟩=>hm pins s2 σ H2 x vs v us Q I2 r1 r2 q2
end
end L2
namespace L2
open PySem PySem.Spec PyProof.Rows
def MtM (X:Cx)(id:String)(r:V->List V->Hp->VK->Prop):Prop :=
 ∀(pins:List (Addr×Obj)) (s:Shared) (σ:St) (H:Hp) (x:V) (xs:List V) (v:Value) (us:List Value) (Q:VK),Inv X pins σ H s->RelV x v->Vals xs us->r x xs H Q ->
  wpAny (model X.prog X.w) X.A (call (.builtin id) (v::us)) (EP X pins σ Q) X.xe s
theorem Vals.one:∀ {x:V} {us:List Value},Vals [x] us->∃u,us=[u]/\RelV x u
 |_,_,.cons r .nil=>⟨_,rfl,r⟩
theorem Vals.two:∀ {x y:V} {us:List Value},Vals [x,y] us->∃u v,us=[u,v]/\RelV x u/\RelV y v
 |_,_,_,.cons r (.cons q .nil)=>⟨_,_,rfl,r,q⟩
theorem Vals.zero:∀ {us:List Value},Vals [] us->us=[]
 |_,.nil=>rfl
theorem Vals.dropLast {xs:List V}{us:List Value}(h:Vals xs us):Vals xs.dropLast us.dropLast:=by
 induction h with
 |nil=>exact .nil
 |cons r t ih =>
  cases t with
  |nil=>exact .nil
  |cons q t'=>exact .cons r ih
theorem Vals.eraseIdx:∀ {xs:List V} {us:List Value} (i:Nat),Vals xs us->Vals (xs.eraseIdx i) (us.eraseIdx i)
 |_,_,_,.nil=>.nil
 |_,_,0,.cons _ t=>t
 |_,_,i+1,.cons r t=>.cons r (Vals.eraseIdx i t)
theorem Vals.rep {xs:List V}{us:List Value}(h:Vals xs us):∀k:Nat,Vals (List.replicate k xs).flatten (List.replicate k us).flatten
 | 0=>.nil
 |k+1=>by
  rw[List.replicate_succ,List.replicate_succ,List.flatten_cons,List.flatten_cons];exact Vals.append h (Vals.rep h k)
theorem JI {α:Type}(l:List α):l.eraseIdx (l.length - 1)=l.dropLast:=by
 induction l with
 |nil=>rfl
 |cons a r ih =>
  cases r with
  |nil=>rfl
  |cons b r =>
   have e:(a::b::r).length - 1=((b::r).length - 1)+1:=by
    have h1:(a::b::r).length=r.length+2:=rfl;have h2:(b::r).length=r.length+1:=rfl;omega
   rw[e,List.eraseIdx_cons_succ,ih]
   all_goals rfl
theorem C8 {α:Type}:∀(l:List α) (i:Nat),(l.eraseIdx i).length<=l.length
 |[],_=>kr _
 |_::_,0=>akH _
 |_::r,i+1=>Nat.succ_le_succ (C8 r i)
section
variable{X:Cx}{pins:List (Addr×Obj)}{σ:St}{H:Hp}{s:Shared}{l b:Addr}{xs ys zs:List V}
theorem Inv.OB {its its':List Value}{n:Nat}{f:Array Value->Array Value}{t':Nat}(I:Inv X pins σ H s)(hH:H l=some (.lst xs))
  (e:s.heap.get? l=some { cls:=.type "list",data:=.seq its.toArray n }) (hf:f its.toArray=its'.toArray) (hv:Vals ys its') (hz:ys.length<=ka) :
  Inv X pins σ (upd H l (.lst ys)) { s with heap:=s.heap.update l (Obj.mapSeq f),toks:=t' }:=by
 have q:=PySem.IsL.update e f;rw[hf]at q;refine I.write (x:=l) (e:=l) (by rw[hH];exact trivial) (.inl rfl) (λb' u hb hu=>(akq s.heap (Obj.mapSeq f) (aj2 hb)).trans hu) ⟨_,q⟩ ?_
 exact⟨hz,its',_,hv,q⟩
theorem Inv.Z4 {its:List Value}{t':Nat}(I:Inv X pins σ H s)(hv:Vals ys its)(hz:ys.length<=ka) :
  Inv X pins σ (upd H s.heap.objs.size (.lst ys)) { s with heap:=s.heap.push { cls:=.type "list",data:=.seq its.toArray },toks:=t' } :=
 I.laid (λ_ _ q=>kf _ q) (kr _) ⟨hz,its,0,hv,ajU _ rfl⟩
theorem Inv.fresh (I:Inv X pins σ H s):H s.heap.objs.size=none:=I.hok.fresh (kr _)
theorem Inv.FL (I:Inv X pins σ H s)(hH:H l=some (.lst xs)):xs.length<=ka/\∃(its:List Value) (n:Nat),Vals xs its/\xs.length=its.length/\s.heap.get? l=some { cls:=.type "list",data:=.seq its.toArray n }:=by
 obtain⟨z,its,n,r,e⟩:=I.hok l _ hH;exact⟨z,its,n,r,r.length,e⟩
theorem OC {n:Nat}(h:n<=ka):Builtin.List.listTooLong n=false:=by
 unfold Builtin.List.listTooLong;exact decide_eq_false (by omega)
end
section
variable{X:Cx}
def RL:V->List V->Hp->VK->Prop:=λx vs H Q=>∃l xs y,x=.ref l/\vs=[y]/\H l=some (.lst xs)/\xs.length < ka/\Q .non (upd H l (.lst (xs++[y])))
theorem dq:MtM X "list.append" RL:=by
 intro pins s σ H x vs v us Q I rx rv h;obtain⟨l,xs,y,rfl,rfl,hH,hz,q⟩:=h;cases rx;obtain⟨u,rfl,ru⟩:=rv.one;obtain⟨z,its,n,r,hl,e⟩:=I.FL hH;refine call_meets F.slot_list_append ⟨_,e,rfl⟩ F.entry_list_append (F.args_list_append_2 _ _) (PySem.list_append l its.toArray n u (by rw[ko];omega)) ⟨e,?_⟩
 refine⟨.non,_,I.OB (its':=its++[u]) hH e (by simp) (r.append (.cons ru .nil)) ?_,rfl,q⟩
 rw[ky,ajW];omega
def RM:V->List V->Hp->VK->Prop:=λx vs H Q=>∃l b xs zs,x=.ref l/\vs=[.ref b]/\H l=some (.lst xs)/\H b=some (.lst zs)/\xs.length+zs.length<=ka/\Q .non (upd H l (.lst (xs++zs)))
theorem C9:MtM X "list.extend" RM:=by
 intro pins s σ H x vs v us Q I rx rv h;obtain⟨l,b,xs,zs,rfl,rfl,hH,hB,hz,q⟩:=h;cases rx;obtain⟨u,rfl,ru⟩:=rv.one;cases ru;obtain⟨z,its,n,r,hl,e⟩:=I.FL hH;obtain⟨z2,FJ,n2,r2,hl2,e2⟩:=I.FL hB;have hsz:its.toArray.size+FJ.toArray.size<=ka:=by rw[ko,ko];omega
 have Z5:¬(!its.toArray.isEmpty && Builtin.List.listTooLong (its.toArray.size+FJ.toArray.size))=true:=by
  rw[OC hsz,Bool.and_false];exact ku
 refine call_meets F.slot_list_extend ⟨_,e,rfl⟩ F.entry_list_extend (F.args_list_extend_2 _ _)
  (AutoSeq1.list_extend_list_list_0 l its.toArray n b FJ.toArray n2 Z5 (by rw[ko];omega) (by omega)) ⟨e,e2,?_⟩
 refine⟨.non,_,I.OB (its':=its++FJ) hH e (by simp) (r.append r2) ?_,rfl,q⟩
 rw[ky];omega
def ahv:V->List V->Hp->VK->Prop:=λx vs H Q=>∃l xs y,x=.ref l/\vs=[]/\H l=some (.lst xs)/\xs[xs.length - 1]?=some y/\Q y (upd H l (.lst xs.dropLast))
theorem OD:MtM X "list.pop" ahv:=by
 intro pins s σ H x vs v us Q I rx rv h;obtain⟨l,xs,y,rfl,rfl,hH,hy,q⟩:=h;cases rx;have hus:=rv.zero;subst hus;obtain⟨z,its,n,r,hl,e⟩:=I.FL hH;obtain⟨u,hu,ru⟩:=r.get hy;have hy':its.toArray[its.toArray.size - 1]?=some u:=by
  show its.toArray[its.length - 1]?=some u;rw[<-Array.getElem?_toList,<-hl];exact hu
 refine call_meets F.slot_list_pop ⟨_,e,rfl⟩ F.entry_list_pop (F.args_list_pop_1 _) (MeetsSeq.list_pop_last l its.toArray n u hy' (by rw[ko];omega)) ⟨e,?_⟩
 refine⟨y,_,I.OB (its':=its.dropLast) hH e ?_ r.dropLast ?_,ru,q⟩
 ·show its.toArray.eraseIdxIfInBounds (its.toArray.size - 1)=its.dropLast.toArray;rw[ko,List.eraseIdxIfInBounds_toArray,JI]
 ·rw[List.length_dropLast];omega
def VD:V->List V->Hp->VK->Prop:=λx vs H Q=>∃l xs i k y,x=.ref l/\vs=[.int i]/\H l=some (.lst xs)/\-(2 ^ 63)<=i/\i < 2 ^ 63/\seqIndex? i xs.length=some k/\xs[k]?=some y/\Q y (upd H l (.lst (xs.eraseIdx k)))
theorem OE:MtM X "list.pop" VD:=by
 intro pins s σ H x vs v us Q I rx rv h;obtain⟨l,xs,i,k,y,rfl,rfl,hH,h1,h2,hk,hy,q⟩:=h;cases rx;obtain⟨u,rfl,ru⟩:=rv.one;obtain⟨t,rfl⟩:=ru;obtain⟨z,its,n,r,hl,e⟩:=I.FL hH;obtain⟨w,hw,rw'⟩:=r.get hy;refine call_meets F.slot_list_pop ⟨_,e,rfl⟩ F.entry_list_pop (F.args_list_pop_2 _ _)
  (MeetsSeq.list_pop_at l its.toArray n i t k w (fitsIndex_both h1 h2) (by rw[ko,<-hl];exact hk) (by rw[<-Array.getElem?_toList];exact hw) (by rw[ko];omega)) ⟨e,?_⟩
 refine⟨y,_,I.OB (its':=its.eraseIdx k) hH e ?_ (r.eraseIdx k) ?_,rw',q⟩
 ·show its.toArray.eraseIdxIfInBounds k=(its.eraseIdx k).toArray;rw[List.eraseIdxIfInBounds_toArray]
 ·have:=C8 xs k;omega
def ahw:R2:=λx y H Q=>∃l b xs zs,x=.ref l/\y=.ref b/\H l=some (.lst xs)/\H b=some (.lst zs)/\xs.length+zs.length<=ka/\∀p,H p=none->Q (.ref p) (upd H p (.lst (xs++zs)))
theorem VE:OpR X (binaryOp .Add) ahw:=by
 intro pins s σ H x y v u Q I rx ry h;obtain⟨l,b,xs,zs,rfl,rfl,hH,hB,hz,q⟩:=h;cases rx;cases ry;obtain⟨z,its,n,r,hl,e⟩:=I.FL hH;obtain⟨z2,FJ,n2,r2,hl2,e2⟩:=I.FL hB;refine PySem.P.add_list e e2 ?_ (by rw[ko,ko];omega)
 have ea:its.toArray++FJ.toArray=(its++FJ).toArray:=by simp
 rw[ea];exact⟨.ref _,_,I.Z4 (t':=s.toks) (r.append r2) (by rw[ky];omega),rfl,q _ I.fresh⟩
end
end L2
namespace Att
open PySem PySem.W PySem.Calls PyProof.Rows
theorem yQ {P:Params}{h:Heap}:∀(ns:List Int) (vs:List Value),WellAll P h vs (ns.map WData.int)->IntsAre vs ns:=by
 intro ns
 induction ns with
 |nil =>
  intro vs w;rw[akj]at w;cases w;exact .nil
 |cons n ns ih =>
  intro vs w;rw[kj]at w;cases w with
  |cons a b =>
   cases a;exact .cons _ _ (ih _ b)
theorem MV {l:OpenLaw}{n:Nat}(hn:l.most=some n){P:Params}{h:Heap}{args:List WData}{vals:List Value}
  (RN:l.row.toRowW.claim.pre args=true) (hwl:WellAll P h vals args) :
  ∃a vs ns,vals=[adm a]/\args=[WData.list (ns.map WData.int)]/\h.get? a=some { cls:=.type "list",data:=.seq vs.toArray }/\IntsAre vs ns/\ns.length<=n:=by
 have hsh:WShape.hasAll [] args [.list .int]=true:=(pre_splitW RN).1;have hc:l.pre.holds [] { args:=args }=true:=(pre_splitW RN).2;obtain⟨d,r,rfl,h1,h2⟩:=hasAllW_cons hsh;obtain rfl:=hasAllW_nil h2;obtain⟨xs,rfl,h3⟩:=hasW_list h1;obtain⟨ns,rfl⟩:=items_int h3;have hlen:ns.length<=n:=by
  unfold OpenLaw.pre at hc;have h4:(WTm.not (.lt (.lit (.int (n:Int))) (.len (.arg 0)))).holds [] { args:=[.list (ns.map .int)] }=true:=by
   have h4:=(holds_andW hc).1;rw[hn]at h4;exact h4
  have h5:=condW_of h4 (w_not (w_lt w_lit (w_len_list (w_arg rfl))));rw[cb]at h5;refine Nat.le_of_not_lt λq=>?_
  have q':(n:Int) < ((ns.length:Nat):Int):=by omega
  first
   | (rw[decide_eq_true q']at h5;exact absurd h5 (by decide))
   | (simp at h5;omega)
 cases hwl with
 |cons w1 w2 =>
  cases w2;cases w1 with
  |list ho VF=>exact⟨_,_,ns,rfl,rfl,ho,yQ ns _ VF,hlen⟩
theorem MW (l:OpenLaw)(args:List WData):l.row.toRowW.claim.post args (.bool true) args=true :=
 postW_of (r:=l.row.toRowW) (X:=(true == true))
  (show WShape.has [] (.bool true) .bool=true by first | rfl | decide | simp[WShape.has,WShape.arms,WShape.armsAll])
  (show (WTm.eq .res (.lit (.bool true))).value [] { args:=args,res:=some (.bool true),after:=args }=some (.bool (true == true)) from w_eq_bool (w_res rfl) w_lit) rfl
theorem FN {l:OpenLaw}{n:Nat}{q:rf}{loose:List Str}{XP:(Str->Option Value)->Heap->Prop}{YP:World->Heap->Prop}{d:DefRec}
  (hn:l.most=some n) (hdf:d.params.defaults=[])
  (call:∀(w:World) (s₀ s₁:Shared) (mg mb:Str->Option Value) (fa:Addr) (o:Obj) (pm cd doc:Value) (a:Addr) (vs:List Value) (ns:List Int),
   Ground q loose [] XP w s₀ mg mb s₁.heap->YP w s₁.heap ->
   s₁.heap.get? fa=some o->o.data=.func (docDef d.name d.params d.body d.scope pm cd doc)->s₁.heap.CodeRec cd d.name->mg d.name=some (.ref fa) ->
   s₁.heap.get? a=some { cls:=.type "list",data:=.seq vs.toArray }->IntsAre vs ns->ns.length<=n->s₁.gens=#[] ->
   codeAny (model l.prog w) callerA (.call (.ref fa) ⟨[.ref a],[]⟩) (λr s'=>r=.ok (.ret (.bool true))/\OldK s₁.heap s'.heap/\s'.os=s₁.os/\AllBare s'.gens) s₁) :
  WalkO q loose XP YP l.row.toRowW d [] (λf vs=>PySem.call f vs):=by
 intro w s₀ s₁ mg mb G Y fa o pm cd doc dV kV ho hd hcd hD hmg hg args vals as RN ajG hrd hwl hlo;obtain rfl:dV=.none:=Dflts.none hD hdf;obtain rfl:kV=.none:=Dflts.noKw hD;obtain⟨a,vs,ns,rfl,rfl,VG,hints,hlen⟩:=MV hn RN hwl;refine enter_call (codeAny_mono (call w s₀ s₁ mg mb fa o pm cd doc a vs ns G Y ho (fd_plain hd) hcd hmg VG hints hlen hg) λr s' hq=>?_)
 obtain⟨rfl,h2,h3,h4⟩:=hq;exact⟨.inl ⟨.bool true,.bool true,[],rfl,λ_=>rfl,.bool true,MW l _,λ_=>⟨List.Pairwise.nil,λ_ hm=>(nomatch hm)⟩⟩,h2,h3,h4⟩
section
variable{prog:rf}{w:World}{A:Around}{E:Value->Shared->Prop}{s:Shared}{K:Frag}
def ledger (h:Heap)(L d:Addr):List (Addr×Obj):=(List.range h.objs.size).filterMap λa=>if a=L\/a=d then none else (h.get? a).map λo=>(a,o)
end
end Att
namespace L2
open PySem PySem.Spec PyProof.Rows
theorem Dc:∀ {vs:List Value} {ns:List Int},IntsAre vs ns->Vals (ns.map V.int) vs
 |_,_,.nil=>.nil
 |_,_,.cons n t h=>.cons ⟨t,rfl⟩ (Dc h)
def VH (H:Hp):Prop:=∀b,H b=none\/∃o xs,H b=some (.frz o (.lst xs))
theorem OF {P:rf}{w:World}{K:ba}{mg mb:Str->Option Value}{CX:CXT}{k:Nat}{fa a:Addr}{fd:ki}{x:Str}{sp:Sp}{s₁:Shared}{vs:List Value}{ns:List Int}
  (KX:K.In s₁.heap) (hns:s₁.heap.Ns gr mg) (hb:s₁.heap.Ns builtinsNs mb) (hbb:∀x:Str,x≠"__name__"->mb x=aku x) (ahx:s₁.heap.NoLimit) (hg:s₁.gens=#[])
  (ha:s₁.heap.get? a=some { cls:=.type "list",data:=.seq vs.toArray }) (hi:IntsAre vs ns) (hl:ns.length<=ka) (hr:Room k callerA)
  (F:∀base:Heap,K.In base->base.Ns gr mg->aJ P w K mg base CX k fa fd [x] sp) (Z6:∀(s:Shared) (u:Value),BindsTo s fd ⟨[u],[]⟩ [(x,u)])
  (hsp:∀H:Hp,VH H->SqL K H a (ns.map V.int)->sp [.ref a] H (λv _=>v=.bl true) λ_ _ _=>False)
  (hCX:∀H e s',CX [] H s₁ (λ_ _ _=>False) e s'->False) :
  codeAny (model P w) callerA (.call (.ref fa) ⟨[.ref a],[]⟩) (λr s'=>r=.ok (.ret (.bool true))/\OldK s₁.heap s'.heap/\s'.os=s₁.os/\AllBare s'.gens) s₁:=by
 have rv:=Dc hi;have ahy:=hi.length;have core:∀H:Hp,VH H->SqL K H a (ns.map V.int)->HOk P w H s₁.heap->(∀b,H b≠none->b=a)->(H a≠none->K.lookup a=none) ->
   codeAny (model P w) callerA (.call (.ref fa) ⟨[.ref a],[]⟩) (λr s'=>r=.ok (.ret (.bool true))/\OldK s₁.heap s'.heap/\s'.os=s₁.os/\AllBare s'.gens) s₁:=by
  intro H hO hS hok hA hK;have LR:∀ {b:Addr} {o:Obj},s₁.heap.get? b=some o->H b=none->(D6 s₁.heap H).get? b=some o:=λe n=>Of e n
  have noA:∀ {b:Addr} {o:Obj} {es:Array akI} {ep:Nat},s₁.heap.get? b=some o->o.data=.dict es ep->H b=none:=λ{b o es ep} e d=>by
   cases q:H b with
   |none=>rfl
   |some u =>
    have e':b=a:=hA b (by rw[q];simp)
    subst e';rw[ha]at e;cases e;have d':Data.seq vs.toArray _=Data.dict es ep:=d;cases d'
  have nsK:∀ {b:Addr} {m:Str->Option Value},s₁.heap.Ns b m->(D6 s₁.heap H).Ns b m:=λ{b m} ⟨o,es,ep,e,d,r⟩=>⟨o,es,ep,LR e (noA e d),d,r⟩
  have hKb:K.In (D6 s₁.heap H):=λb o e=>LR (KX b o e) (by
   cases q:H b with
   |none=>rfl
   |some u =>
    have e':b=a:=hA b (by rw[q];simp)
    subst e';rw[hK (by rw[q];simp)]at e;cases e)
  have hM:Mod K mg (D6 s₁.heap H):=⟨hKb,nsK hns,⟨mb,nsK hb,hbb⟩,let ⟨mc,h1,h2⟩:=ahx;⟨mc,nsK h1,h2⟩⟩
  have e0:Cv P w K mg (D6 s₁.heap H) callerA [] s₁ H:=⟨rfl,hM,λb o e=>Rz e,Nat.le_of_eq (MN _ _),trivial,λb hb=>absurd (show b∈([]:List Addr) from hb) (by simp),hok,.of_eq hg⟩
  refine codeAny_mono ((F _ hKb (nsK hns)).run callerA [] s₁ H ⟨[.ref a],[]⟩ [.ref a] [.ref a] _ _ hr e0 (Z6 s₁ (.ref a)) (.cons rfl .nil) (hsp H hO hS)) λr s' h=>?_
  cases r with
  |error e=>exact(hCX H e s' h).elim
  |ok fl =>
   cases fl with
   |next=>exact aj3 h
   |brk=>exact aj3 h
   |cont=>exact aj3 h
   |ret u =>
    obtain⟨v,H',os,bare,un,ahz,r',q⟩:=h;have q':v=.bl true:=q;subst q';obtain rfl:u=alb true:=r';refine⟨rfl,OldK.of_keep λb o e=>?_,os,bare⟩
    cases q:H b with
    |none=>exact un.keep b o e q (by intro z;exact absurd (show b∈([]:List Addr) from z) (by simp)) (by simp)
    |some u =>
     rcases hO b with z | ⟨ob,xs,z⟩
     ·rw[q]at z;cases z
     ·have z2:=un.uj b ob _ z;obtain⟨e1,_⟩:=hok b _ z;obtain⟨e2,_⟩:=ahz b _ z2;rw[e]at e1;cases e1;exact e2
 cases hk:K.lookup a with
 |some o =>
  have e:=KX a o hk;rw[ha]at e;cases e;refine core (λ_=>none) (λ_=>.inl rfl) (.inr ⟨_,vs.toArray,_,hk,rfl,rfl,rfl,by rw[ko,ahy];exact hl,by simpa using rv⟩) (λb u z=>by have z':(none:Option HO)=some u:=z;cases z') (λb z=>absurd rfl z) λz=>absurd rfl z
 |none =>
  refine core (λb=>if b=a then some (.frz { cls:=.type "list",data:=.seq vs.toArray } (.lst (ns.map V.int))) else none) (λb=>?_) (.inl (.inr ⟨{ cls:=.type "list",data:=.seq vs.toArray },if_pos rfl⟩)) (λb u z=>?_) (λb z=>?_) λ_=>hk
  ·by_cases hb:b=a
   ·exact .inr ⟨_,_,if_pos hb⟩
   ·exact .inl (if_neg hb)
  ·by_cases hb:b=a
   ·have z':=(if_pos hb).symm.trans z;cases z';subst hb;exact⟨ha,by rw[cb];exact hl,vs,_,rv,ha⟩
   ·have z':=(if_neg hb).symm.trans z;cases z'
  ·by_cases hb:b=a
   ·exact hb
   ·exact absurd (if_neg hb) z
end L2
namespace L2
open PySem PySem.Spec PyProof.Rows
theorem RO {l:PySem.W.OpenLaw}{n k:Nat}{q:rf}{loose:List Str}{XP:(Str->Option Value)->Heap->Prop}{YP:World->Heap->Prop}{d:DefRec}{K:Params->ba}{CX:World->CXT}{sp:World->Sp}{x:Str}
  (hn:l.most=some n) (hn2:n<=ka) (hdf:d.params.defaults=[]) (hr:Room k callerA)
  (hY:∀(w:World) (h:Heap),YP w h->(K w.params).In h)
  (F:∀(w:World) (mg:Str->Option Value) (fa:Addr) (h:Heap),(K w.params).In h->h.Ns gr mg->mg d.name=some (.ref fa) ->
   ∃fd:ki,(∀(s:Shared) (u:Value),BindsTo s fd ⟨[u],[]⟩ [(x,u)]) /\
    ∀base:Heap,(K w.params).In base->base.Ns gr mg->aJ l.prog w (K w.params) mg base (CX w) k fa fd [x] (sp w))
  (hsp:∀(w:World) (H:Hp) (a:Addr) (ns:List Int),ns.length<=n->VH H->SqL (K w.params) H a (ns.map V.int)->sp w [.ref a] H (λv _=>v=.bl true) λ_ _ _=>False)
  (hCX:∀(w:World) (H:Hp) (s:Shared) (e:Value) (s':Shared),CX w [] H s (λ_ _ _=>False) e s'->False) :
  PySem.W.WalkO q loose XP YP l.row.toRowW d [] (λf vs=>PySem.call f vs):=by
 refine Att.FN hn hdf λw s₀ s₁ mg mb fa o pm cd doc a vs ns G Y ho hd hcd hmg VG hints hlen hg=>?_
 have KX:=hY w _ Y;obtain⟨fd,hb,hF⟩:=F w mg fa _ KX G.T.g hmg;exact OF KX G.T.g G.T.b G.T.builtins G.T.nolimit hg VG hints (ajI hlen hn2) hr hF hb (λH hO hS=>hsp w H a ns hlen hO hS) λH e s'=>hCX w H s₁ e s'
end L2
namespace L2
open PySem PySem.Spec PyProof.Rows
def inClass (s:Stmt)(j:Nat):Stmt:=match s with
 | .ClassDef _ _ _ body _ _ _ _ _ _ _=>body.getD j (.Pass ⟨0,0,0,0⟩)
 |_=>.Pass ⟨0,0,0,0⟩
def aQ (s:Stmt):Arguments:=match s with
 | .FunctionDef _ a _ _ _ _ _ _ _ _=>a
 |_=>{ posonlyargs:=[],args:=[],vararg:=none,kwonlyargs:=[],kw_defaults:=[],kwarg:=none,defaults:=[] }
def aL (s:Stmt):List Stmt:=match s with
 | .FunctionDef _ _ b _ _ _ _ _ _ _=>b
 |_=>[]
def ah (s:Stmt):Scope:=match s with
 | .FunctionDef _ _ _ _ _ _ sc _ _ _=>sc
 |_=>{ kind:=.function,names:=[],isGenerator:=false,isCoroutine:=false }
abbrev CX0:CXT:=λ_ _ _ _ _ _=>False
abbrev E0:XK:=λ_ _ _=>False
theorem a7 {X:Cx}:Passes CX0 X E0:=λ_ _ _ _ _ _ _ h=>h.elim
structure Fun (K:ba)(x qual:Str)(st:Stmt)(f:Addr)(fd:ki):Prop where
 ex:∃(oc:Value) (od:Option Addr) (kV doc pm:Value) (an:Option Addr) (cdv ct:Value) (osl:Array (Option Value)),
  fd=fu x qual (aQ st) (aL st) (ah st) .none kV doc pm an cdv ct/\K.lookup f=some ⟨oc,od,.func fd,osl⟩/\di K cdv qual=true
 kp:da K (.ref f)=true
section
variable{P:rf}{w:World}{K:ba}{mg:Str->Option Value}{base:Heap}
theorem Fun.ok {x qual:Str}{st:Stmt}{f:Addr}{fd:ki}{N ps:List Str}{k:Nat}{sp:Sp}(F:Fun K x qual st f fd)(S:aS N ps (ah st))(len:∀vs H Q E,sp vs H Q E->vs.length=ps.length)
  (FH:∀(cdv:Value) (A:Around) (outer:List Env) (s:Shared) (H:Hp) (vs:List V) (Q:VK) (E:XK),Room k (A.deeper (envOfC qual (ah st) s.heap.objs.size f cdv))->sp vs H Q E ->
   ∃t,PSs (ve CX0 P w K mg base N qual (ah st) f cdv A outer s H E).nox (aL st) t/\t { nx:=λ_ H'=>Q .non H',rt:=Q } (start N vs) H):aJ P w K mg base CX0 (k+1) f fd ps sp:=by
 obtain⟨oc,od,kV,doc,pm,an,cdv,ct,osl,rfl,lk,hcd⟩:=F.ex;refine TR lk hcd S len λA outer s H vs Q E hr hsp=>?_
 obtain⟨t,h,q⟩:=FH cdv A outer s H vs Q E hr hsp;exact⟨t,h.nox,q⟩
theorem Fun.binds {x qual:Str}{st:Stmt}{f:Addr}{fd:ki}{ps:List Str}(F:Fun K x qual st f fd)
  (h:∀(kV doc pm:Value) (an:Option Addr) (cdv ct:Value) (us:List Value),us.length=ps.length->bindArgs (fu x qual (aQ st) (aL st) (ah st) .none kV doc pm an cdv ct) ⟨us,[]⟩=pure (ps.zip us)):Binds K fd ps []:=by
 obtain⟨oc,od,kV,doc,pm,an,cdv,ct,osl,rfl,lk,hcd⟩:=F.ex;exact .all (h kV doc pm an cdv ct)
theorem aX {x qual:Str}{st:Stmt}{f:Addr}{oc:Value}{od an:Option Addr}{osl:Array (Option Value)}{kV doc pm cdv ct:Value}(l:K.lookup f=some ⟨oc,od,.func (fu x qual (aQ st) (aL st) (ah st) .none kV doc pm an cdv ct),osl⟩)
  (c:di K cdv qual=true) (k:da K (.ref f)=true):Fun K x qual st f (fu x qual (aQ st) (aL st) (ah st) .none kV doc pm an cdv ct):=⟨⟨oc,od,kV,doc,pm,an,cdv,ct,osl,rfl,l,c⟩,k⟩
end
section
variable{X:Cx}
theorem pv (i:Nat){x:Str}{pos:Pos}(hN:X.N[i]?=some x:=by rfl)(hv:Vis X.env.scope x:=by first | exact wt rfl | exact Or.inr (wt rfl) | exact Or.inr (Or.inr rfl))(hd:(x == ("__debug__":Str))=false:=by decide)
  (hcd:(x == ("__classdict__":Str))=false:=by decide):PE X (.Name x pos) (ZF i):=Vn hN hv hd hcd
end
theorem bw {A B:Prop}(h:B):if false=true then A else B:=by
 rw[if_neg ku];exact h
theorem dM {A B:Prop}(h:A):if true=true then A else B:=by
 rw[if_pos rfl];exact h
theorem eQ {c A B:Prop}[Decidable c](h1:c->A)(h2:¬c->B):if c then A else B:=by
 by_cases h:c
 ·rw[if_pos h];exact h1 h
 ·rw[if_neg h];exact h2 h
def bA (H H':Hp):Prop:=∀b o,H b=some o->H' b=some o
theorem bA.refl (H:Hp):bA H H:=λ_ _ h=>h
theorem bA.trans {H H1 H2:Hp}(a:bA H H1)(b:bA H1 H2):bA H H2:=λc o h=>b c o (a c o h)
theorem bA.free {H H':Hp}(e:bA H H'){l:Addr}(h:H' l=Option.none):H l=Option.none:=by
 cases q:H l with
 |none=>rfl
 |some o =>
  rw[e l o q]at h;cases h
theorem bA.seq {K:ba}{H H':Hp}{a:Addr}{xs:List V}(e:bA H H')(h:SqL K H a xs):SqL K H' a xs:=by
 rcases h with (h | ⟨o,h⟩) | h
 ·exact .inl (.inl (e _ _ h))
 ·exact .inl (.inr ⟨o,e _ _ h⟩)
 ·exact .inr h
end L2
set_option maxHeartbeats 4000000
namespace L2
open PySem PySem.Spec PyProof.Rows
theorem lb:aku "len"=some (.builtin "len"):=by decide +kernel
theorem Cy:aku "isinstance"=some (.builtin "isinstance"):=by decide +kernel
theorem El:aku "max"=some (.builtin "max"):=by decide +kernel
theorem VI:aku "any"=some (.builtin "any"):=by decide +kernel
theorem OG:aku "int"=some (.type "int"):=by decide +kernel
theorem OH:aku "str"=some (.type "str"):=by decide +kernel
theorem RP:aku "bool"=some (.type "bool"):=by decide +kernel
theorem kh:aku "list"=some (.type "list"):=by decide +kernel
mutual
def DV (K:ba)(H:Hp):PyData->V->Prop
 | .none,x=>x=.non
 | .bool b,x=>x=.bl b
 | .int i,x=>x=.int i
 | .str y,x=>x=.str y
 | .list ds,x=>∃a xs,x=.ref a/\SqL K H a xs/\DVs K H ds xs
 | .tuple ds,x=>∃a xs,x=.ref a/\SqT K H a xs/\DVs K H ds xs
 | .dict _,_=>False
def DVs (K:ba)(H:Hp):List PyData->List V->Prop
 |[],xs=>xs=[]
 |d::ds,xs=>∃x r,xs=x::r/\DV K H d x/\DVs K H ds r
end
section
variable{X:Cx}{pins:List (Addr×Obj)}{σ:St}{H:Hp}{s:Shared}
mutual
theorem DV.reads (I:Inv X pins σ H s):∀(d:PyData) {x:V} {u:Value},DV X.K H d x->RelV x u->∃as,Reads s.heap u d as
 | .none,_,_,h,r=>by
  have h':=h;unfold DV at h';subst h';cases r;exact⟨_,.none⟩
 | .bool b,_,_,h,r=>by
  have h':=h;unfold DV at h';subst h';cases r;exact⟨_,.bool b⟩
 | .int i,_,_,h,r=>by
  have h':=h;unfold DV at h';subst h';obtain⟨t,rfl⟩:=r;exact⟨_,.int i t⟩
 | .str y,_,_,h,r=>by
  have h':=h;unfold DV at h';subst h';obtain⟨t,rfl⟩:=r;exact⟨_,.str y t⟩
 | .list ds,_,_,h,r=>by
  have h':=h;unfold DV at h';obtain⟨a,xs,rfl,hq,hs⟩:=h';cases r;obtain⟨its,rv,⟨o,n,e,c,_,dt⟩,_⟩:=I.list hq;obtain⟨as,q⟩:=DVs.reads I ds hs rv;exact⟨_,.list e c dt (by simpa using q)⟩
 | .tuple ds,_,_,h,r=>by
  have h':=h;unfold DV at h';obtain⟨a,xs,rfl,hq,hs⟩:=h';cases r;obtain⟨its,rv,⟨o,e,c,n,dt⟩,_⟩:=I.tuple hq;obtain⟨as,q⟩:=DVs.reads I ds hs rv;exact⟨_,.tuple e c dt (by simpa using q)⟩
 | .dict _,_,_,h,_=>by
  have h':=h;unfold DV at h';exact h'.elim
theorem DVs.reads (I:Inv X pins σ H s):∀(ds:List PyData) {xs:List V} {us:List Value},DVs X.K H ds xs->Vals xs us->∃as,ReadsAll s.heap us ds as
 |[],_,_,h,r=>by
  have h':=h;unfold DVs at h';subst h';cases r;exact⟨_,.nil⟩
 |d::ds,_,_,h,r=>by
  have h':=h;unfold DVs at h';obtain⟨x,q,rfl,h1,h2⟩:=h';cases r with
  |cons r1 r2 =>
   obtain⟨as,e1⟩:=DV.reads I d h1 r1;obtain⟨bs,e2⟩:=DVs.reads I ds h2 r2;exact⟨_,.cons e1 e2⟩
end
def ahA (K:ba):R2:=λx y H Q=>∃d e,DV K H d x/\DV K H e y/\SeqAt.shaped d=true/\SeqAt.shaped e=true/\Q (.bl (akZ d e)) H
def ahB (K:ba):R2:=λx y H Q=>∃d e,DV K H d x/\DV K H e y/\SeqAt.shaped d=true/\SeqAt.shaped e=true/\Q (.bl (!akZ d e)) H
theorem AG (hu:X.A.units+64 < cLine):OpR X (akG .Eq) (ahA X.K):=by
 intro pins s σ H x y v u Q I rx ry h;obtain⟨d,e,hd,he,sd,se,q⟩:=h;obtain⟨as,r1⟩:=DV.reads I d hd rx;obtain⟨bs,r2⟩:=DV.reads I e he ry;exact eq_dataH r1 r2 sd se hu ⟨.bl _,H,I,rfl,q⟩
theorem w8 (hu:X.A.units+64 < cLine):OpR X (akG .NotEq) (ahB X.K):=by
 intro pins s σ H x y v u Q I rx ry h;obtain⟨d,e,hd,he,sd,se,q⟩:=h;obtain⟨as,r1⟩:=DV.reads I d hd rx;obtain⟨bs,r2⟩:=DV.reads I e he ry;exact ne_dataH r1 r2 sd se hu ⟨.bl _,H,I,rfl,q⟩
end
theorem FO (K:ba)(H:Hp):∀ws:List Str,DVs K H (ws.map alc) (ws.map V.str)
 |[]=>by unfold DVs;rfl
 |w::ws=>by
  show DVs K H (alc w::ws.map alc) _;unfold DVs;exact⟨_,_,rfl,by unfold DV;rfl,FO K H ws⟩
theorem LS {K:ba}{H:Hp}{a:Addr}{ws:List Str}(h:SqL K H a (ws.map V.str)):DV K H (.list (ws.map alc)) (.ref a):=by
 unfold DV;exact⟨a,_,rfl,h,FO K H ws⟩
theorem yn:∀ws:List Str,(∀w∈ws,ajZ w=true)->me (ws.map alc)=true
 |[],_=>by simp[me]
 |w::ws,h=>by
  simp only[kj,me,ajN,akz];exact⟨h w gn,yn ws λv hv=>h v (kq _ hv)⟩
theorem AH:∀ws:List Str,aj1 (ws.map alc)<=1
 |[]=>by simp[aj1]
 |w::ws=>by
  have:=AH ws;simp only[kj,aj1,akk];omega
theorem AI:∀ {ys:List Str} {us:List Value},Vals (ys.map V.str) us->StrsAre us ys
 |[],_,.nil=>.nil
 |y::ys,_,.cons r t=>by
  obtain⟨tk,rfl⟩:=r;exact .cons y tk (AI t)
theorem rC:∀l:List (Str×Tok),Vals ((l.map (·.1)).map V.str) (strValues l)
 |[]=>.nil
 |p::l=>.cons ⟨p.2,rfl⟩ (rC l)
section
variable{X:Cx}
def rJoin (K:ba):V->List V->Hp->VK->Prop:=λx vs H Q=>∃sep a ys,x=.str sep/\vs=[.ref a]/\SqL K H a (ys.map V.str)/\(ys.map (·.length)).sum+ys.length * sep.length<=16777216/\Q (.str (sr sep ys)) H
theorem Em:MtR X "str.join" (rJoin X.K):=by
 intro pins s σ H x vs v us Q I rx rv h;obtain⟨sep,a,ys,rfl,rfl,hq,hz,q⟩:=h;obtain⟨t,rfl⟩:=rx;obtain⟨u,rfl,ru⟩:=rv.one;cases ru;obtain⟨its,r,pl,_⟩:=I.list hq;refine join_list pl.isList (AI (by simpa using r)) hz λt' k=>?_
 rw[show Txt.join sep ys=sr sep ys from StrLaws.glued_eq_join sep ys]
 exact⟨.str _,H,I.tok _,⟨_,rfl⟩,q⟩
def VJ:V->List V->Hp->VK->Prop:=λx vs H Q=>∃z y,x=.str z/\vs=[.str y]/\(y.length == 0)=false/\z.length+2<=ka/\∀p,H p=none->Q (.ref p) (upd H p (.lst ((Txt.split z y).map V.str)))
theorem FP:MtR X "str.split" VJ:=by
 intro pins s σ H x vs v us Q I rx rv h;obtain⟨x,y,rfl,rfl,hy,hsz,q⟩:=h;obtain⟨t,rfl⟩:=rx;obtain⟨_,rfl,u,rfl⟩:=rv.one;have hn:(Builtin.Str.partsBetween x (akP x y 0 x.length (x.length+1)) y.length).length<=ka:=by
  have e1:=StrLaws.occ_length_le x y 0 x.length (x.length+1);rw[length_partsBetween];omega
 have fin:∀(l:List (Str×Tok)) (tk:Nat),l.map (·.1)=Txt.split x y->(Txt.split x y).length<=ka ->
   EP X pins σ Q (.ref s.heap.objs.size) { s with heap:=s.heap.push { cls:=.type "list",data:=.seq (strValues l).toArray },toks:=tk }:=λl tk e hz=>by
  refine⟨.ref _,_,I.Z4 (t':=tk) (ys:=(Txt.split x y).map V.str) (by rw[<-e];exact rC l) (by rw[cb];exact hz),rfl,q _ I.fresh⟩
 have Z7:1<=ka:=by omega
 cases h1:(decide (x.length < y.length) || decide (Builtin.Str.strKind x < Builtin.Str.strKind y))
 ·cases hf:(akP x y 0 x.length (x.length+1)).isEmpty
  ·refine call_meets F.slot_str_split (typeIs_str _ _ _) F.entry_str_split (F.args_str_split_2 _ _) (meets_str_split_sep x y t u h1 hy hf (by omega) hn) ?_
   have e:Txt.split x y=Builtin.Str.partsBetween x (akP x y 0 x.length (x.length+1)) y.length:=(if_neg (ne_true_of_eq_false h1)).trans (if_neg (ne_true_of_eq_false hf));show wants (EP X pins σ Q) X.xe _ { s with toks:=_,heap:=s.heap.push { cls:=.type "list",data:=.seq (strsFrom s.toks (Builtin.Str.partsBetween x (akP x y 0 x.length (x.length+1)) y.length)).toArray } }
   rw[strsFrom_eq];exact fin (numbered s.toks _) _ ((numbered_texts _ _).trans e.symm) (by rw[e];exact hn)
  ·have e:Txt.split x y=[x]:=(if_neg (ne_true_of_eq_false h1)).trans (if_pos hf);exact call_meets F.slot_str_split (typeIs_str _ _ _) F.entry_str_split (F.args_str_split_2 _ _) (meets_str_split_not_found x y t u h1 hy hf)
    (fin [(x,t)] s.toks e.symm (by rw[e];exact Z7))
 ·have e:Txt.split x y=[x]:=if_pos h1;exact call_meets F.slot_str_split (typeIs_str _ _ _) F.entry_str_split (F.args_str_split_2 _ _) (meets_str_split_cannot_occur x y t u h1)
   (fin [(x,t)] s.toks e.symm (by rw[e];exact Z7))
def ahC:V->Value
 | .ty n=>.type n
 | .ref a=>.ref a
 |_=>.none
def isC:V->Bool
 | .ty _=>true
 | .ref _=>true
 |_=>false
theorem OI:lx X (.builtin "isinstance") (λxs H Q=>∃x c t b,xs=[x,c]/\isC c=true/\wZ X.K H x t/\PySem.W.kitOne X.K t (ahC c)=some b/\Q (.bl b) H):=by
 intro pins s σ H xs us Q I r h;obtain⟨x,c,t,b,rfl,hc,ty,e,q⟩:=h;obtain⟨u,w',rfl,rx,rc⟩:=vals2 r;have fin:∀tk,EP X pins σ Q (.bool b) { s with toks:=tk }:=λtk=>⟨.bl b,H,I.tok _,rfl,q⟩
 cases c with
 |ty n=>cases rc;exact C3 I rx ty e fin
 |ref a=>cases rc;exact C3 I rx ty e fin
 |_=>exact absurd (show false=true from hc) ku
end
section
variable{X:Cx}
theorem Aa:OpR X (binaryOp .Add) (λx y H Q=>∃l b xs zs,x=.ref l/\y=.ref b/\H l=some (.lst xs)/\H b=some (.lst zs)/\xs.length+zs.length<=ka/\∀p,H p=none->Q (.ref p) (upd H p (.lst (xs++zs)))):=VE
end
theorem fB (a b:Str):(a++b).cps.toList=a.cps.toList++b.cps.toList:=by
 show (a.cps++b.cps).toList=_;simp
theorem FQ (c:Nat):∀(a b p q:List Nat),c∉a->c∉b->a++c::p=b++c::q->a=b/\p=q
 |[],[],p,q,_,_,e=>by simpa using e
 |[],y::b,p,q,_,hb,e=>by
  have e':c::p=y::(b++c::q):=e;injection e' with e1 _
  exact absurd (by rw[e1];exact gn) hb
 |x::a,[],p,q,ha,_,e=>by
  have e':x::(a++c::p)=c::q:=e;injection e' with e1 _
  exact absurd (by rw[<-e1];exact gn) ha
 |x::a,y::b,p,q,ha,hb,e=>by
  have e':x::(a++c::p)=y::(b++c::q):=e;injection e' with e1 e2
  obtain⟨h1,h2⟩:=FQ c a b p q (λh=>ha (kq _ h)) (λh=>hb (kq _ h)) e2
  exact⟨by rw[e1,h1],h2⟩
theorem En {a b:Str}(h:a.cps.toList=b.cps.toList):a=b:=by
 cases a;cases b;have:=Array.toList_inj.mp h;subst this;rfl
theorem jC (c:Nat)(x y:Str)(r:List Str):(sr ⟨#[c]⟩ (x::y::r)).cps.toList=x.cps.toList++c::(sr ⟨#[c]⟩ (y::r)).cps.toList:=by
 show ((x++⟨#[c]⟩)++sr ⟨#[c]⟩ (y::r)).cps.toList=_;rw[fB,fB];simp
theorem FR (c:Nat):∀(vs ws:List Str),vs≠[]->ws≠[]->(∀v∈vs,c∉v.cps.toList)->(∀w∈ws,c∉w.cps.toList)->sr ⟨#[c]⟩ vs=sr ⟨#[c]⟩ ws->vs=ws
 |[],_,h,_,_,_,_=>absurd rfl h
 |_,[],_,h,_,_,_=>absurd rfl h
 |[x],[y],_,_,_,_,e=>by rw[show x=y from e]
 |[x],y::z::r,_,_,hv,_,e=>by
  have e1:=congrArg (λt:Str=>t.cps.toList) e
  have e2:x.cps.toList=y.cps.toList++c::(sr ⟨#[c]⟩ (z::r)).cps.toList:=e1.trans (jC c y z r);exact absurd (by rw[e2];exact Lk _ gn) (hv x gn)
 |x::z::r,[y],_,_,_,hw,e=>by
  have e1:=congrArg (λt:Str=>t.cps.toList) e
  have e2:x.cps.toList++c::(sr ⟨#[c]⟩ (z::r)).cps.toList=y.cps.toList:=(jC c x z r).symm.trans e1;exact absurd (by rw[<-e2];exact Lk _ gn) (hw y gn)
 |x::x2::r,y::y2::q,_,_,hv,hw,e=>by
  have e1:=congrArg (λt:Str=>t.cps.toList) e
  have e2:=(jC c x x2 r).symm.trans (e1.trans (jC c y y2 q));obtain⟨h1,h2⟩:=FQ c _ _ _ _ (hv x gn) (hw y gn) e2;have h3:=FR c (x2::r) (y2::q) (aj5 _ _) (aj5 _ _) (λv h=>hv v (kq _ h)) (λw h=>hw w (kq _ h)) (En h2)
  rw[En h1,h3]
theorem OJ (x y:Str):Txt.split x y≠[]:=by
 unfold Txt.split;split
 ·exact aj5 _ _
 ·split
  ·exact aj5 _ _
  ·rw[StrLaws.partsBetween_eq];intro h;have:=congrArg List.length h;revert this;cases (akP x y 0 x.length (x.length+1)) <;> simp[StrLaws.partsFrom]
theorem JJ {c:Nat}{ws:List Str}(h0:ws≠[])(h:∀w∈ws,c∉w.cps.toList):Txt.split (sr ⟨#[c]⟩ ws) ⟨#[c]⟩=ws :=
 FR c _ _ (OJ _ _) h0 (StrLaws.split_free _ c) h (StrLaws.join_split _ _)
theorem tD (c:Nat):∀ws:List Str,(sr ⟨#[c]⟩ ws).length<=(ws.map (·.length)).sum+ws.length
 |[]=>akB _
 |[x]=>by show x.length<=_;simp
 |x::y::r=>by
  have ih:=tD c (y::r);have e:(sr ⟨#[c]⟩ (x::y::r)).length=x.length+1+(sr ⟨#[c]⟩ (y::r)).length:=by
   have:=congrArg List.length (jC c x y r);rw[ky,ajK]at this;have l1:∀z:Str,z.cps.toList.length=z.length:=λz=>by simp[Str.length]
   rw[l1,l1,l1]at this;omega
  simp only[kj,List.sum_cons,ajK]at ih ⊢;omega
theorem Cz {c:Nat}:∀ {ws:List Str},ws≠[]->(∀w∈ws,1<=w.length)->1<=(sr ⟨#[c]⟩ ws).length
 |[],h,_=>absurd rfl h
 |[x],_,h=>h x gn
 |x::y::r,_,h=>by
  have h1:=h x gn;have:=congrArg List.length (jC c x y r);rw[ky]at this;have l1:∀z:Str,z.cps.toList.length=z.length:=λz=>by simp[Str.length]
  rw[l1,l1]at this;omega
theorem yo {b:Bool}{A B:Prop}(hb:b=true)(h:A):if b=true then A else B:=by
 subst hb;exact dM h
theorem yp {b:Bool}{A B:Prop}(hb:b=false)(h:B):if b=true then A else B:=by
 subst hb;exact bw h
theorem aC {H:Hp}{p:Addr}{o:HO}(h:H p=none):bA H (upd H p o):=λb u e=>by
 rw[aq (aG e h)];exact e
theorem bA.own {H H':Hp}{p:Addr}{o:HO}(s:bA H H')(h:H p=none):bA H (upd H' p o):=λb u e=>by
 rw[aq (aG e h)];exact s b u e
theorem bA.new {H H':Hp}{p:Addr}{o:HO}(s:bA H H')(h:H' p=none):bA H (upd H' p o):=s.trans (aC h)
theorem bA.nn {H H':Hp}(s:bA H H'){p:Addr}{o:HO}(h:H p=none)(e:H' p=some o){b:Addr}{u:HO}(eb:H b=some u):b≠p:=aG eb h
theorem AJ (xs:List V)(k:Nat):gy xs (some (k:Int)) none=xs.drop k:=by
 unfold gy;rw[HT.vf,HT.FI]
 by_cases h:k<=xs.length
 ·rw[Nat.min_eq_left h];exact List.take_of_length_le (by rw[akV];exact kr _)
 ·have h':xs.length<=k:=by omega
  rw[Nat.min_eq_right h',List.drop_of_length_le h',List.drop_of_length_le (kr _)];simp
theorem TU {α:Type}{xs:List α}{i:Int}{n:Nat}(hn:xs.length=n)(h0:0<=i)(h1:i < n):∃c,atI xs i=some c/\c∈xs:=by
 have hi:i.toNat < xs.length:=by omega
 have e:((i.toNat:Nat):Int)=i:=by omega
 refine⟨xs[i.toNat],?_,List.getElem_mem hi⟩;have q:=eu (wa hi);rw[e]at q;exact q
end L2
namespace L2
open PySem PySem.Spec PyProof.Rows
def fN (scope outer:Scope):Scope :=
 { scope with names:=scope.names.map λ(n,k)=>if (k == .free && outer.kind == .function && outer.names.lookup n == some .cell) then (n,.cell) else (n,k) }
structure d9 (scope outer:Scope)(x:Str)(N M:List Str):Prop where
 kind:scope.kind=.function
 OK:outer.kind=.function
 Eo:∀y∈scope.names,y.2≠.cell
 names:∀y∈scope.names,y.2=.local->scope.names.lookup y.1=some .local
 hx:scope.names.lookup x=some .local
 free:∀y∈scope.names,y.2=.free->outer.names.lookup y.1=some .cell
 nl:∀n∈M,(fN scope outer).names.lookup n≠some .local
 ndM:M.Nodup
 nd:N.Nodup
 len:M.length=N.length
 rel:∀i:Nat,i < N.length->M[i]?=N[i]?\/M[i]?=some akc
 em:(fN scope outer).names.lookup akc=none
theorem d9.mem {scope outer:Scope}{x:Str}{N M:List Str}(S:d9 scope outer x N M){n:Str}{k:NameKind}(h:(fN scope outer).names.lookup n=some k)(hk:k=.cell\/k=.free) :
  k=.cell/\(n,akN)∈scope.names/\outer.names.lookup n=some .cell:=by
 obtain⟨⟨n',k'⟩,hm,e⟩:=List.mem_map.mp (akL h);dsimp only at e
 by_cases hc:(k' == akN && outer.kind == .function && outer.names.lookup n' == some .cell)=true
 ·rw[if_pos hc]at e;injection e with e1 e2
  subst e1 e2;rw[akz,akz]at hc;have hk':k'=.free:=beq_iff_eq.mp hc.1.1;subst hk';exact⟨rfl,hm,beq_iff_eq.mp hc.2⟩
 ·rw[if_neg hc]at e;injection e with e1 e2
  subst e1 e2;rcases hk with z | z
  ·exact absurd z (S.Eo _ hm)
  ·subst z
   exfalso
   refine hc ?_;rw[S.free _ hm rfl,S.OK];rfl
theorem Ep {env:Env}{f:Str×NameKind->List (Str×Addr)->Sem (ForInStep (List (Str×Addr)))}
  (h1:∀n k r,k≠akN->f (n,k) r=pure (.yield r)) (h2:∀n r c,env.cells.lookup n=some c->f (n,.free) r=pure (.yield ((n,c)::r))) :
  ∀(ns:List (Str×NameKind)) (acc:List (Str×Addr)),(∀y∈ns,y.2=.free->∃c,env.cells.lookup y.1=some c)->(∀n c,acc.lookup n=some c->env.cells.lookup n=some c) ->
   ∃cl,(forIn ns acc f:Sem (List (Str×Addr)))=pure cl/\(∀n c,cl.lookup n=some c->env.cells.lookup n=some c)/\(∀n c,acc.lookup n=some c->(cl.lookup n).isSome=true)/\∀y∈ns,y.2=.free->(cl.lookup y.1).isSome=true
 |[],acc,_,ha=>⟨acc,by simp,ha,λn c e=>by rw[e];rfl,λy hy=>nomatch hy⟩
 | (n,k)::ns,acc,hn,ha=>by
  by_cases hk:k=akN
  ·subst hk;obtain⟨c,hc⟩:=hn (n,.free) gn rfl;have ha':∀m d,((n,c)::acc).lookup m=some d->env.cells.lookup m=some d:=λm d e=>by
    rw[akW]at e;split at e
    ·rename_i hb;have:m=n:=beq_iff_eq.mp hb;subst this;rw[<-ajP e];exact hc
    ·exact ha m d e
   obtain⟨cl,e,p1,p2,p3⟩:=Ep h1 h2 ns ((n,c)::acc) (λy hy=>hn y (kq _ hy)) ha'
   have hnn:(cl.lookup n).isSome=true:=p2 n c (by simp[akW])
   refine⟨cl,?_,p1,λm d em=>?_,λy hy hf=>?_⟩
   ·rw[List.forIn_cons,h2 n acc c hc,pure_bind];exact e
   ·by_cases hm:m=n
    ·subst hm;exact hnn
    ·exact p2 m d (by rw[akW,show (m == n)=false from beq_eq_false_iff_ne.mpr hm];exact em)
   ·rcases List.mem_cons.mp hy with rfl | hy
    ·exact hnn
    ·exact p3 y hy hf
  ·obtain⟨cl,e,p1,p2,p3⟩:=Ep h1 h2 ns acc (λy hy=>hn y (kq _ hy)) ha
   refine⟨cl,?_,p1,p2,λy hy hf=>?_⟩
   ·rw[List.forIn_cons,h1 n k acc hk,pure_bind];exact e
   ·rcases List.mem_cons.mp hy with rfl | hy
    ·exact absurd hf hk
    ·exact p3 y hy hf
theorem De {scope:Scope}{env:Env}(h:∀y∈scope.names,y.2=.free->∃c,env.cells.lookup y.1=some c) :
  ∃cl,closureFor scope env=pure cl/\(∀n c,cl.lookup n=some c->env.cells.lookup n=some c)/\∀y∈scope.names,y.2=.free->(cl.lookup y.1).isSome=true:=by
 unfold closureFor;obtain⟨cl,e,p1,_,p3⟩:=Ep (env:=env) (f:=λx r=>match x with | (name,kind)=>if (kind == akN)=true then do let a <-cellOf env name;pure (.yield ((name,a)::r)) else pure (.yield r))
  (λn k r hk=>by
   have:(k == akN)=false:=beq_eq_false_iff_ne.mpr hk;simp only[this,Bool.false_eq_true,if_false])
  (λn r c hc=>by
   simp only[beq_self_eq_true,if_true];unfold cellOf;rw[hc];rw[pure_bind])
  scope.names [] h (λn c e=>by simp at e)
 refine⟨cl,?_,p1,p3⟩;have e':=congrArg (λz:Sem (List (Str×Addr))=>z >>= λcs=>pure cs) e
 simp only[pure_bind]at e';exact e'
def i5 (X:Cx)(x:Str)(M:List Str)(scope:Scope)(cl:List (Str×Addr))(C:Addr)(s:Shared)(H:Hp)(fp:List Addr):Cx :=
 { X with N:=x::M,s₀:=s,H₀:=H,env:=compEnvC scope cl C X.env,outer:=X.stack,ex:=fp,fn:=λ_=>false,pn:=[],xe:=λ_ _=>False }
def vm (J:It)(te:TE)(σ:St)(D:Addr)(H1:Hp)(Q:VK):Prop:=∃W:Nat->Nat->List V->Hp->Prop,(∃m,W 0 m [] (upd H1 D (.lst [])))/\∀i m ys H2,W i m ys H2 ->
 H2 D=some (.lst ys)/\((J.stop i H2/\Q (.ref D) H2)\/(J.go i H2/\ys.length < ka/\∀x H3,J.yld i H2 x H3->te (some x::σ) H3 λy H4=>H4 D=some (.lst ys)/\∃m',m' < m/\W (i+1) m' (ys++[y]) (upd H4 D (.lst (ys++[y])))))
def OL (wi:TI)(te:TE):TE:=λσ H Q=>wi σ H λJ H1=>∀D,H1 D=none->vm J te σ D H1 Q
section
variable{X:Cx}{pins:List (Addr×Obj)}{σ:St}{H:Hp}{s:Shared}{elt iter:Expr}{x:Str}{px pos:Pos}{scope:Scope}{wi:TI}{te:TE}{Q:VK}{M:List Str}
theorem RQ {cl:List (Str×Addr)}{C:Addr}{fp:List Addr}(S:d9 scope X.env.scope x X.N M)(I:Inv X pins σ H s)(hC:s.heap.objs.size<=C)(p1:∀n c,cl.lookup n=some c->X.env.cells.lookup n=some c)
  (p3:∀y∈scope.names,y.2=.free->(cl.lookup y.1).isSome=true) (f2:∀b∈fp,k9 X pins H b) (fo:∀b∈fp,b < s.heap.objs.size):(i5 X x M scope cl C s H fp).Ok where
 mod:=I.ok.mod
 kind:=S.kind
 glob:=I.ok.glob
 blt:=I.ok.blt
 above:=hC
 inj:=λy z c h1 h2=>I.ok.inj y z c (p1 y c h1) (p1 z c h2)
 has:=λy hy=>by
  have hy':(fN scope X.env.scope).names.lookup y=some .cell\/(fN scope X.env.scope).names.lookup y=some .free:=hy;have hm:(y,akN)∈scope.names:=by
   rcases hy' with z | z
   ·exact(S.mem z (.inl rfl)).2.1
   ·exact(S.mem z (.inr rfl)).2.1
  exact Option.isSome_iff_exists.mp (p3 _ hm rfl)
 cab:=λy c h=>absurd h ku
 hd:=I.ok.hd
 frames:=I.ok.frames
 stk:=.inl rfl
 exf:=λb hb=>⟨ajV (ajM (fo b hb) hC),λy c e=>(f2 b hb).2.2.2.2.1 y c (p1 y c e)⟩
 bs:=I.bs
 bsz:=ajI I.ok.bsz I.sz
 Jp:=λb o e hb=>by
  rcases (f2 b hb).2.2.2.1 with z | z
  ·exact I.ok.Jp b o e z
  ·exact absurd (ajM (si (I.ok.bs b o e).1) z) (Nat.lt_irrefl _)
 Jq:=λb hb z=>by
  rcases List.mem_cons.mp (I.D7 b z) with e | e
  ·exact(f2 b hb).2.1 e
  ·exact(f2 b hb).2.2.1 e
 uk:=I.stack
 frf:=I.D8
theorem OM {cl:List (Str×Addr)}{C D:Addr}{fp:List Addr}{h₁:Heap}{tk:Nat}{m:Str->Option Value}(S:d9 scope X.env.scope x X.N M)(I:Inv X pins σ H s)(hC:s.heap.objs.size<=C)(hD:s.heap.objs.size<=D)(hDC:D≠C)
  (p1:∀n c,cl.lookup n=some c->X.env.cells.lookup n=some c)
  (p3:∀y∈scope.names,y.2=.free->(cl.lookup y.1).isSome=true) (f2:∀b∈fp,k9 X pins H b) (fo:∀b∈fp,b < s.heap.objs.size)
  (old:∀b o,s.heap.get? b=some o->h₁.get? b=some o) (hn:h₁.Ns C m) (hl:h₁.get? D=some { cls:=.type "list",data:=.seq ([]:List Value).toArray }) :
  Inv (i5 X x M scope cl C s H fp) [] (none::σ) (upd H D (.lst [])) { s with heap:=h₁,toks:=tk }:=by
 have cellK:∀c v,s.heap.IsCell c v->h₁.IsCell c v:=λc v ⟨o,e,d⟩=>⟨o,old c o e,d⟩
 refine⟨RQ S I hC p1 p3 f2 fo,rfl,I.bare,Un.laid old hD (I.hok.fresh hD),⟨m,hn,λi n v h1 h2 h3=>?_⟩,λy c e=>?_,?_,λy c e=>?_,λp hp=>absurd (show p∈([]:List (Addr×Obj)) from hp) (by simp),I.hok.laid old hD ⟨akB _,[],0,.nil,hl⟩,?_⟩
 ·cases i with
  |zero =>
   have h2':(none:Option V)=some v:=by simpa using h2
   cases h2'
  |succ i =>
   have h0':M[i]?=some n:=by simpa [i5] using h1
   have h2':σ[i]?=some (some v):=by simpa using h2
   have h3':(fN scope X.env.scope).names.lookup n=some .local\/(fN scope X.env.scope).names.lookup n=some .cell\/(fN scope X.env.scope).names.lookup n=some .free:=h3;have va:(fN scope X.env.scope).names.lookup n=some .cell/\(n,akN)∈scope.names/\X.env.scope.names.lookup n=some .cell:=by
    rcases h3' with z | z | z
    ·exact absurd z (S.nl n (aka h0'))
    ·exact⟨z,(S.mem z (.inl rfl)).2⟩
    ·exact absurd (S.mem z (.inr rfl)).1 (by decide)
   have h1':X.N[i]?=some n:=by
    have hi:i < X.N.length:=by rw[<-S.len];exact(List.getElem?_eq_some_iff.mp h0').1
    rcases S.rel i hi with z | z
    ·rw[<-z];exact h0'
    ·rw[h0']at z;have e:n=akc:=ajP z;rw[e,S.em]at va;cases va.1
   obtain⟨m0,hn0,hl0⟩:=I.loc;obtain⟨u,r,l⟩:=hl0 i n v h1' h2' (.inr (.inl va.2.2));refine⟨u,r,.inr ⟨.inl va.1,?_⟩⟩;obtain⟨c,hc⟩:=Option.isSome_iff_exists.mp (p3 _ va.2.1 rfl);refine⟨c,hc,?_⟩;rcases l with ⟨k,_⟩ | ⟨_,c',hc',z⟩
   ·have k':X.env.scope.names.lookup n=some .local:=k;rw[va.2.2]at k';cases k'
   ·rw[p1 n c hc]at hc';cases hc';exact cellK c _ z
 ·obtain⟨v,z⟩:=I.cell y c (p1 y c e);exact⟨v,cellK c v z⟩
 ·show (upd H D (.lst [])) C=none;rw[aq (aj2 hDC)];exact I.hok.fresh hC
 ·obtain⟨v,z⟩:=I.cell y c (p1 y c e);rw[aq (ajV (ajM z.lt hD))];exact I.oG y c (p1 y c e)
 ·show (none::σ).length=(x::M).length;rw[ajK,ajK,I.len,S.len]
theorem Df {cl:List (Str×Addr)}{RR:Value->Addr->Result->Shared->Prop}(S:d9 scope X.env.scope x X.N M)(hc:X.calm=true)(hi:PI X (.Name x px) iter wi)
  (he:∀cl C s H fp,PE (i5 X x M scope cl C s H fp) elt te) (I:Inv X pins σ H s) (h:OL wi te σ H Q)
  (p1:∀n c,cl.lookup n=some c->X.env.cells.lookup n=some c) (p3:∀y∈scope.names,y.2=.free->(cl.lookup y.1).isSome=true)
  (hRR:∀D C H' s' o m,Inv X (pins++[(C,o)]) σ H' s'->s'.heap.get? C=some o->s'.heap.Ns C m->X.s₀.heap.objs.size<=C->(∀y c,X.env.cells.lookup y=some c->c≠C)->(∀p∈X.pn++pins,p.1≠C)->Q (.ref D) H'->RR (.ref D) C (.ok .next) s') :
  wpAny (model X.prog X.w) X.A (eval iter X.env) (λxv s₁=>wpAny (model X.prog X.w) X.A (pyIter xv) (λit s₂=>wpAny (model X.prog X.w) X.A (newList []) (λacc s₃ =>
   wpAny (model X.prog X.w) X.A (newFunctionEnv scope X.env.globals cl [] X.env.qual none .none (some X.env)) (λZ8 s₄ =>
    codeAny (model X.prog X.w) X.A (.compStart (.ListComp elt [⟨.Name x px,iter,[],0⟩] scope pos) 0 it acc { Z8 with scope:=relabel scope X.env }) (RR acc Z8.locals) s₄) X.xe s₃) X.xe s₂) X.xe s₁) X.xe s:=by
 refine thn (hi pins s σ H _ I h) λv s1 h1=>thn h1 λitv s2 h2=>?_
 obtain⟨it,fp,tn,J,H2,rfl,I2,T,st2,f2,q⟩:=h2;refine wpAny_newObj_type (wpAny_newFunctionEnv S.Eo (by intro y hy;simp at hy) (λh₁ hns₁ hsb₁=>?_) S.kind)
 dsimp only at hns₁ hsb₁ ⊢;generalize hHH:s2.heap.push { cls:=.type "list",dict:=none,data:=.seq ([]:List Value).toArray }=HH at hns₁ hsb₁ ⊢;have hCs:HH.objs.size=s2.heap.objs.size+1:=by rw[<-hHH,Heap.size_push]
 have hDC:s2.heap.objs.size≠HH.objs.size:=by rw[hCs];exact ajV (Nat.lt_succ_self _)
 have Z9:s2.heap.objs.size<=HH.objs.size:=by rw[hCs];exact akH _
 have below:∀b,b < s2.heap.objs.size->b≠HH.objs.size:=λb hb=>by rw[hCs];exact ajV (Nat.lt_succ_of_lt hb)
 have old:∀b o,s2.heap.get? b=some o->h₁.get? b=some o:=λb o e=>hsb₁.extBut b o (below b (si e)) (kf _ (hHH▸kf _ e))
 have RS:h₁.get? s2.heap.objs.size=some { cls:=.type "list",data:=.seq ([]:List Value).toArray }:=hsb₁.extBut _ _ hDC (kf _ (hHH▸ajU _ rfl));have fo:∀b∈fp,b < s2.heap.objs.size:=λb hb=>by
  obtain⟨o,e,_⟩:=T.obj _ _ st2 b hb;exact si e
 have IY:=OM (tk:=s2.toks+([]:List (Str×Value)).length) S I2 Z9 (kr _) hDC p1 p3 f2 fo old hns₁ RS;have st1:tn 0 h₁:=T.keep _ _ _ st2 λb _ o e=>old b o e
 obtain⟨W,⟨m0,w0⟩,turn⟩:=q _ (I2.hok.fresh (kr _));generalize hC:HH.objs.size=C at *;generalize hDD:s2.heap.objs.size=D at *;have ndY:(i5 X x M scope cl C s2 H2 fp).N.Nodup:=by
  refine List.nodup_cons.mpr ⟨λhm=>S.nl x hm (lookup_relabel_local S.hx),S.ndM⟩
 have stat:∀ {H':Hp},(∀b∈fp,H' b=none)->∀b∈fp,k9 (i5 X x M scope cl C s2 H2 fp) [] H' b:=λhn b hb =>
  ⟨hn b hb,below b (fo b hb),IY.ok.Jq b hb,.inl hb,λy c e=>(f2 b hb).2.2.2.2.1 y c (p1 y c e),λp hp=>absurd (show p∈([]:List (Addr×Obj)) from hp) (by simp)⟩
 have loop:codeAny (model X.prog X.w) X.A (.compLoop (.ListComp elt [⟨.Name x px,iter,[],0⟩] scope pos) 0 (.ref it) (.ref D) (compEnvC scope cl C X.env)) (RR (.ref D) C) { s2 with heap:=h₁,toks:=s2.toks+([]:List (Str×Value)).length }:=by
  refine codeAny_compLoop_tests (λn s'=>∃i v0 ys H',Inv (i5 X x M scope cl C s2 H2 fp) [] (v0::σ) H' s'/\tn i s'.heap/\(∀b∈fp,H' b=none)/\W i n ys H') ?_ m0 ⟨0,none,[],_,IY,st1,λb hb=>?_,w0⟩
  ·rintro n s3 ⟨i,v0,ys,H3,I3,st3,fr3,w3⟩;obtain⟨hDl,hw⟩:=turn i n ys H3 w3;rcases hw with ⟨stop,qn⟩ | ⟨go,hsz,step⟩
   ·refine thn (T.done (i5 X x M scope cl C s2 H2 fp) rfl rfl rfl hc i [] s3 _ H3 _ I3 (stat fr3) st3 stop) λr s4 ⟨hr,I4⟩=>?_
    subst hr;obtain⟨m4,hn4,_⟩:=I4.loc;obtain⟨oC,es4,ep4,e4,r4⟩:=id hn4;have aaa:s2.heap.objs.size<=C:=by rw[hDD];exact Z9
    have IX:Inv X pins σ H3 s4:=I2.Og (ch:=fp) I4.os I4.base I4.hok I4.bare λb hb=>⟨(f2 b hb).2.2.2.1,(f2 b hb).2.1,(f2 b hb).2.2.2.2.1,(f2 b hb).2.2.2.2.2⟩
    have fC:=I2.Ee (H':=H3) aaa I4.free;have IX2:Inv X (pins++[(C,oC)]) σ H3 s4:=IX.D9 λp hp=>(List.mem_append.mp hp).elim (λz=>IX.pin p (Lk _ z)) λz=>by
     have e:p=(C,oC):=by simpa using z
     subst e;exact⟨e4,fC.1,fC.2.1,fC.2.2.1,λv z=>by rw[r4.1]at z;cases z⟩
    exact hRR D C H3 s4 oC m4 IX2 e4 hn4 (ajI I2.sz aaa) fC.2.2.2.2.1 fC.2.2.2.2.2 qn
   ·refine thn (T.item (i5 X x M scope cl C s2 H2 fp) rfl rfl rfl hc i [] s3 _ H3 _ I3 (stat fr3) st3 go) λr s4 ⟨u,hr,h4⟩=>?_
    subst hr;have e0:∀k:Sem Unit,(letOwnedTupleGo (.Name x px) (.ref it) u >>= λ_=>k)=k:=λk=>by
     rw[show letOwnedTupleGo (.Name x px) (.ref it) u=pure () from rfl,pure_bind]
    show wpAny _ _ (assign (.Name x px) (compEnvC scope cl C X.env) u) _ _ s4;rw[<-e0 (assign (.Name x px) (compEnvC scope cl C X.env) u)];refine fe (thn h4 λ_ s5 ⟨xv,H5,I5,r5,y5,st5,fr5⟩=>?_)
    have I5':=I5.pinned (stat fr5) (T.obj _ _ st5);have hxl:(i5 X x M scope cl C s2 H2 fp).env.scope.names.lookup x=some .local:=lookup_relabel_local S.hx;refine wpAny_assign_Name (rp (X:=i5 X x M scope cl C s2 H2 fp) (i:=0) I5' ndY rfl (wt hxl) r5 (λs6 I6=>?_) (.inr hxl))
    refine wpAny_tests_nil ?_;rw[if_pos rfl];refine ajT (he cl C s2 H2 fp _ s6 _ H5 _ I6 (step xv H5 y5)) (λy s7 ⟨yv,H7,I7,r7,hD7,m',hm',w7⟩=>?_) (λ_ _ f=>f.elim)
    refine ajT (dq (X:=i5 X x M scope cl C s2 H2 fp) _ s7 _ H7 (.ref D) [yv] (.ref D) [y] (λ_ H8=>H8=upd H7 D (.lst (ys++[yv]))) I7 rfl (.cons r7 .nil) ⟨D,ys,yv,rfl,rfl,hD7,hsz,rfl⟩)
     (λ_ s8 ⟨_,H8,I8,_,e8⟩=>?_) (λ_ _ f=>f.elim)
    subst e8;refine⟨m',hm',i+1,some xv,ys++[yv],_,I8.l6,T.keep _ _ _ st5 λb hb o e=>(I8.pin (b,o) (Lk _ (Lk _ (p7 hb e)))).1,λb hb=>?_,w7⟩
    obtain⟨o,e,d⟩:=T.obj _ _ st5 b hb;exact(I8.pin (b,o) (Lk _ (Lk _ (p7 hb e)))).2.1
  ·show (upd H2 D (.lst [])) b=none;rw[aq (ajV (fo b hb))];exact(f2 b hb).1
 exact codeAny_compStart_list loop (T.self _ 0 _ _ _ st1 loop)
theorem Ab (S:d9 scope X.env.scope x X.N M)(hc:X.calm=true)(hi:PI X (.Name x px) iter wi)(he:∀cl C s H fp,PE (i5 X x M scope cl C s H fp) elt te)
  (hs:∀x,foldedSetIterable iter X.env x=pure x:=by intro _;rfl):PE X (.ListComp elt [⟨.Name x px,iter,[],0⟩] scope pos) (OL wi te):=by
 intro pins s σ H Q I h;obtain⟨cl,ON,p1,p3⟩:=De (scope:=scope) (env:=X.env) (λy hy hf=>I.ok.has y.1 (.inl (S.free y hy hf)))
 rw[eval_ListComp];refine wpAny_comprehension_free (use:=none) rfl hs ON S.kind S.names (Df (RR:=λacc C=>compPost (model X.prog X.w) X.A X.xe none (EP X pins σ Q) acc C) S hc hi he I h p1 p3 ?_)
 intro D C H' s' o m I' e hn h0 h1 h2 q;refine⟨m,hn,λh' hs'=>?_⟩
 have pC:=I'.pin (C,o) (Lk _ (Lk _ (by simp)))
 have IX:Inv X pins σ H' s':=I'.l6;exact⟨.ref D,H',IX.turned (t':=s'.toks) (λb ob hb e=>(hs'.2 b hb).trans e) pC.2.1 pC.2.2.1 (.inr h0) h1 h2,rfl,q⟩
theorem JK {i:Nat}{y:Str}{py aab:Pos}(S:d9 scope X.env.scope x X.N M)(hc:X.calm=true)(hj:X.N[i]?=some y)(hy:Loc X.env.scope y)(hi:PI X (.Name x px) iter wi)(he:∀cl C s H fp,PE (i5 X x M scope cl C s H fp) elt te)
  (hsw:swapsWith (.ListComp elt [⟨.Name x px,iter,[],0⟩] scope pos) (some (.Name y py)) aab.line X.env=pure true:=by rfl)
  (hf:X.fn y=true\/X.env.scope.names.lookup y=some .local:=by first | exact .inl rfl | exact .inr rfl | assumption)
  (hs:∀x,foldedSetIterable iter X.env x=pure x:=by intro _;rfl):PS X (.Assign [.Name y py] (.ListComp elt [⟨.Name x px,iter,[],0⟩] scope pos) aab) (RC (OL wi te) (iZ i)):=by
 intro pins s σ H D I h;obtain⟨cl,ON,p1,p3⟩:=De (scope:=scope) (env:=X.env) (λy hy hf=>I.ok.has y.1 (.inl (S.free y hy hf)))
 rw[exec_Assign_Name_used _ _ _ _ hsw];refine fe (akD (fe ?_));show wpAny _ _ (do let _ <-comprehension (.ListComp elt [⟨.Name x px,iter,[],0⟩] scope pos) scope X.env _ (newList []) false (eval iter X.env) (some (assign (.Name y py) X.env))) _ _ s
 refine fe (ajT (wpAny_comprehension_free (use:=some (assign (.Name y py) X.env)) (Q:=λ_ s'=>SP X pins D .next s') rfl hs ON S.kind S.names
  (Df (RR:=λacc C=>compPost (model X.prog X.w) X.A X.xe (some (assign (.Name y py) X.env)) (λ_ s'=>SP X pins D .next s') acc C) S hc hi he I h p1 p3 ?_)) (λ_ s' hq=>tm (tm hq)) λ_ _ e=>e)
 intro Dd C H' s' o m I' e hn h0 h1 h2 q;show wpAny _ _ (assign (.Name y py) X.env (.ref Dd)) _ _ s';refine wpAny_assign_Name (rp I' S.nd hj hy (v:=.ref Dd) rfl (λs'' I''=>?_) hf)
 have pC:=I''.pin (C,o) (Lk _ (Lk _ (by simp)))
 obtain⟨o',es,ep,e0,r⟩:=hn;rw[e]at e0;cases e0;have IX:Inv X pins _ H' s'':=I''.l6;refine⟨m,⟨o,es,ep,pC.1,r⟩,λh' hs'=>?_⟩
 exact⟨_,H',IX.turned (t':=s''.toks) (λb ob hb e=>(hs'.2 b hb).trans e) pC.2.1 pC.2.2.1 (.inr h0) h1 h2,q⟩
def ib (D:Addr)(n:Nat)(Pv:Nat->List V->Hp->Prop)(i:Nat)(ys:List V):VK:=λy H4=>H4 D=some (.lst ys)/\∃m',m' < n - i/\m'=n - (i+1)/\i+1<=n/\Pv (i+1) (ys++[y]) (upd H4 D (.lst (ys++[y])))
theorem ib.mk {D:Addr}{n:Nat}{Pv:Nat->List V->Hp->Prop}{i:Nat}{ys:List V}{y:V}{H4:Hp}(hi:i < n)(h1:H4 D=some (.lst ys))(h2:Pv (i+1) (ys++[y]) (upd H4 D (.lst (ys++[y])))):ib D n Pv i ys y H4 :=
 ⟨h1,n - (i+1),by omega,rfl,hi,h2⟩
theorem w9 {K:ba}{a D:Addr}{xs:List V}{te:TE}{Q:VK}{σ:St}{H1:Hp}(Pv:Nat->List V->Hp->Prop)(h0:Pv 0 [] (upd H1 D (.lst [])))(hz:xs.length<=ka)
  (hl:∀i ys H2,i<=xs.length->Pv i ys H2->SqL K H2 a xs/\H2 D=some (.lst ys)/\ys.length=i)
  (hs:∀i x ys H2,xs[i]?=some x->Pv i ys H2->te (some x::σ) H2 (ib D xs.length Pv i ys)) (hd:∀ys H2,Pv xs.length ys H2->Q (.ref D) H2) :
  vm (Itl K a) te σ D H1 Q:=by
 refine⟨λi m ys H=>m=xs.length - i/\i<=xs.length/\Pv i ys H,⟨xs.length,by simp,akB _,h0⟩,?_⟩
 rintro i m ys H2 ⟨rfl,hi,p⟩;obtain⟨q,q2,q3⟩:=hl i ys H2 hi p;refine⟨q2,?_⟩
 by_cases hlt:i < xs.length
 ·refine .inr ⟨⟨xs,xs[i],q,by simp[hlt]⟩,by omega,λx H3 y=>?_⟩
  obtain⟨e,y⟩:=y;subst e;exact hs i x ys _ (y xs q) p
 ·have e:i=xs.length:=by omega
  subst e;exact .inl ⟨⟨xs,q,kr _⟩,hd ys H2 p⟩
theorem JL {lo:Int}{n:Nat}{D:Addr}{te:TE}{Q:VK}{σ:St}{H1:Hp}(Pv:Nat->List V->Hp->Prop)(h0:Pv 0 [] (upd H1 D (.lst [])))(hz:n<=ka)
  (hl:∀i ys H2,i<=n->Pv i ys H2->H2 D=some (.lst ys)/\ys.length=i)
  (hs:∀i ys H2,i < n->Pv i ys H2->te (some (.int (lo+i))::σ) H2 (ib D n Pv i ys)) (hd:∀ys H2,Pv n ys H2->Q (.ref D) H2) :
  vm (Itr lo n) te σ D H1 Q:=by
 refine⟨λi m ys H=>m=n - i/\i<=n/\Pv i ys H,⟨n,by simp,akB _,h0⟩,?_⟩
 rintro i m ys H2 ⟨rfl,hi,p⟩;obtain⟨q2,q3⟩:=hl i ys H2 hi p;refine⟨q2,?_⟩
 by_cases hlt:i < n
 ·refine .inr ⟨hlt,by omega,λx H3 y=>?_⟩
  obtain⟨e,y⟩:=y;subst e y;exact hs i ys _ hlt p
 ·have e:i=n:=by omega
  subst e;exact .inl ⟨kr _,hd ys H2 p⟩
end
end L2
namespace L2
open PySem PySem.Spec PyProof.Rows
structure MkN (K:ba)(C:Addr):Prop where
 makes:aks K C=true
 init:bo K (.ref C) "__init__"=some (some (.builtin "object.__init__"))
 kp:da K (.ref C)=true
def VL (C:Addr):TE:=λ_ H Q=>∀x dx,H x=none->H dx=none->dx≠x->Q (.ref x) (upd (upd H dx (.own x)) x (.ins C dx []))
section
variable{X:Cx}{C:Addr}{x:Str}{p pos:Pos}
theorem oN (M:MkN X.K C)(hg:Gl X x)(hm:X.mg x=some (.ref C))(hdb:(x == ("__debug__":Str))=false:=by decide):PE X (.Call (.Name x p) [] [] pos) (VL C):=by
 intro pins s σ H Q I h;refine wpAny_Call_Name_kw (j8 I hg hm ?_ hdb);refine ak6 I.kIn M.kp (wpAny_call ?_);have I2:=Inv.made (C:=C) I;have q:=h (s.heap.objs.size+1) s.heap.objs.size (I.hok.fresh (akH _)) (I.hok.fresh (kr _)) (ajV (Nat.lt_succ_self _));have fin:EP X pins σ Q (.ref (s.heap.objs.size+1)) { s with heap:=(s.heap.push aj6).push (akf C s.heap.objs.size) }:=⟨.ref _,_,I2,rfl,q⟩
 have X1:=I.kIn;have e2:((s.heap.push aj6).push (akf C s.heap.objs.size)).get? (s.heap.objs.size+1)=some (akf C s.heap.objs.size):=by
  have:=ajU (s.heap.push aj6) (o:=akf C s.heap.objs.size) rfl
  rwa [Heap.size_push]at this
 clear I2 q h I;obtain⟨hh,g,d,t,os⟩:=s;have Y:=PySem.W.makes_of (M:=model X.prog X.w) X1 M.makes;refine PySem.W.make_core Y (ak3 X1 M.init) (λself=>PySem.W.Looks.of_pure (PySem.W.oi_bind self)) (.inr ⟨rfl,rfl⟩) ?_
 have t1:PySem.W.Looks (model X.prog X.w) ((hh.push aj6).push (akf C hh.objs.size)) (typeOf (.ref (hh.objs.size+1))) (.ref C):=(PySem.W.Looks.ld e2).andThen .now;have t2:PySem.W.Looks (model X.prog X.w) ((hh.push aj6).push (akf C hh.objs.size)) (isInstance (.ref (hh.objs.size+1)) (.type "object")) true:=t1.andThen (Y.top.keeps λb o e=>kf _ (kf _ e))
 refine codeAny_call_builtin PySem.W.oi_plain PySem.W.entry_oi (@PySem.W.check_slot (model X.prog X.w) _ _ _ "object.__init__" "object" "__init__" (.ref (hh.objs.size+1)) [] [] _ PySem.W.oi_kind PySem.W.oi_split t2 (PySem.W.oi_args (.ref (hh.objs.size+1))) ?_);show wpAny _ _ (Builtin.«object.__init__» ⟨[.ref (hh.objs.size+1)],[]⟩) _ _ _;rw[PySem.W.oi_run];exact tm (And.intro rfl fin)
end
structure aac (P:Params)(K:ba)(a:Addr):Prop where
 ex:∃es n,K.lookup a=some ⟨.type "dict",none,.dict es n,#[]⟩/\PySem.W.KeysLit P es.toList
section
variable{X:Cx}
theorem OO:IxR X (λx y H Q=>∃a z v u,x=.ref a/\y=.str z/\aac X.w.params X.K a/\eg X.K a z=some (some u)/\RelV v u/\Q v H):=by
 intro value slice pins s σ H x y v u Q I rx ry h hs;obtain⟨a,z,w',u',rfl,rfl,⟨es,n,hl,hk⟩,e,r,q⟩:=h;cases rx;obtain⟨t,rfl⟩:=ry;have hm:=PySem.W.mapOf_K (prog:=X.prog) I.kIn hl hk;exact tail_any hm.typeIs slot_dict_getitem.lookup (wpAny_getItem_of (strKind_is X.prog X.w z t) hm (PySem.W.find_K hl e) ⟨w',H,I.tok _,r,q⟩) hs
end
end L2
namespace L2
open PySem PySem.Spec PyProof.Rows
theorem RT (bs:List Bool):(List.range bs.length).any (λi=>bs.getD i false)=bs.any id:=by
 have e:(List.range bs.length).map (λi=>bs.getD i false)=bs:=by
  apply List.ext_getElem
  ·simp
  ·intro i h1 h2;simp[h2]
 calc _=((List.range bs.length).map (λi=>bs.getD i false)).any id:=by rw[List.any_map];rfl
  _=_:=by rw[e]
theorem FT:∀ {bs:List Bool} {us:List Value},Vals (bs.map V.bl) us->us=bs.map alb
 |[],_,.nil=>rfl
 |b::bs,_,.cons r t=>by
  cases r;rw[FT t];rfl
section
variable{X:Cx}
theorem OP (hc:X.calm=true):lx X (.builtin "any") (λxs H Q=>∃(p:Addr) (bs:List Bool),xs=[.ref p]/\SqL X.K H p (bs.map V.bl)/\Q (.bl (bs.any id)) H):=by
 intro pins s σ H xs us Q I r h;obtain⟨p,bs,rfl,hq,q⟩:=h;obtain⟨u,rfl,rx⟩:=vals1 r;cases rx;obtain⟨its,rv,pl,hz⟩:=I.list hq;obtain rfl:=FT rv;refine call_any_walk (wpAny_pyIter_list pl.isList ?_);obtain⟨o,n,e,_⟩:=id pl;have hlt:p < s.heap.objs.size:=si e;refine⟨s.heap.objs.size,_,_,_,_,_,λi=>bs.getD i false,rfl,Walks.list (A:=X.A.in1) (show X.A.in1.handled=none from I.ok.hd hc) s.heap.objs.size p (ajV hlt) (bs.map alb).toArray,⟨⟨_,ajU _ rfl,rfl,rfl⟩,pl.isList.at λo e=>kf _ e⟩,?_,λh' tk kk=>?_⟩
 ·intro i v s' Q' E' hv q';have hv':v=alb (bs.getD i false):=by
   have h2:(bs.map alb)[i]?=some v:=by simpa using hv
   rw[aj7]at h2;cases hb:bs[i]? with
   |none=>rw[hb]at h2;cases h2
   |some b =>
    rw[hb]at h2;rw[ajO,hb];exact(ajP h2).symm
  rw[hv'];exact wpAny_truthy_bool q'
 ·have I1:Inv X pins σ H { s with heap:=h',toks:=tk }:=I.kept λb o e=>kk b o (by simp;exact ajV (si e)) (kf _ e)
  refine⟨.bl _,H,I1,rfl,?_⟩;have e1:(bs.map alb).toArray.size=bs.length:=by simp
  rw[e1,RT];exact q
end
end L2
set_option maxHeartbeats 4000000
namespace L2
open PySem PySem.Spec PyProof.Rows
def aad (X:Cx)(pins:List (Addr×Obj))(H:Hp)(h:Heap)(e:Addr)(vs:Array Value):Option Value->Prop
 |none=>vs[1]?=some .none
 |some m=>∃(T:Addr) (oT:Obj) (ts:Array Value),vs[1]?=some (.ref T)/\T≠e/\k9 X pins H T/\h.get? T=some oT/\oT.data=.fields ts/\ts[3]?=some m
structure XAt (X:Cx)(pins:List (Addr×Obj))(H:Hp)(h:Heap)(e:Addr)(cls:Value)(xd:Option Addr)(m:Option Value):Prop where
 ok:k9 X pins H e
 ex:∃(sl:Array (Option Value)) (vs:Array Value),h.get? e=some ⟨cls,xd,.fields vs,sl⟩/\1 < vs.size/\aad X pins H h e vs m
def MOk (_:Cx)(m:Option Value):Prop:=m=none\/m=some .none\/∃v,m=some v
def XP (X:Cx)(pins:List (Addr×Obj))(σ:St)(E:XK)(e:Value)(s':Shared):Prop :=
 ∃(ea:Addr) (cls:Value) (xd:Option Addr) (m:Option Value) (H':Hp),e=.ref ea/\Inv X pins σ H' s'/\XAt X pins H' s'.heap ea cls xd m/\MOk X m/\E cls xd H'
abbrev SXK:=St->XK
def XPS (X:Cx)(pins:List (Addr×Obj))(E:SXK)(e:Value)(s':Shared):Prop:=∃σ',XP X pins σ' (E σ') e s'
structure Fr1 (X:Cx):Prop where
 stk:X.stack=X.env::X.outer
 fr:X.env.frame=some X.env.locals
section
variable{X:Cx}{pins:List (Addr×Obj)}{σ:St}{H H':Hp}{s:Shared}{e:Addr}{cls:Value}{xd:Option Addr}{m:Option Value}
theorem k9.ahD {b:Addr}(I:Inv X pins σ H s)(f:k9 X pins H' b):b∉frs X.stack:=λz=>by
 rcases List.mem_cons.mp (I.D7 b z) with q | q
 ·exact f.2.1 q
 ·exact f.2.2.1 q
theorem k9.drop {pl:List (Addr×Obj)}{b:Addr}(f:k9 X (pins++pl) H b):k9 X pins H b :=
 ⟨f.1,f.2.1,f.2.2.1,f.2.2.2.1,f.2.2.2.2.1,λp hp=>f.2.2.2.2.2 p ((List.mem_append.mp hp).elim (λz=>akv _ z) λz=>Lk _ (akv _ z))⟩
theorem k9.clear {b:Addr}(f:k9 X pins H b):k9 X [] H b :=
 ⟨f.1,f.2.1,f.2.2.1,f.2.2.2.1,f.2.2.2.2.1,λp hp=>f.2.2.2.2.2 p ((List.mem_append.mp hp).elim (λz=>akv _ z) λz=>nomatch z)⟩
theorem XAt.drop {pl:List (Addr×Obj)}{h:Heap}(x:XAt X (pins++pl) H h e cls xd m):XAt X pins H h e cls xd m:=by
 obtain⟨ok,sl,vs,he,hz,hm⟩:=x;refine⟨ok.drop,sl,vs,he,hz,?_⟩;cases m with
 |none=>exact hm
 |some m=>obtain⟨T,oT,ts,a,b,c,d⟩:=hm;exact⟨T,oT,ts,a,b,c.drop,d⟩
theorem XAt.clear {h:Heap}(x:XAt X pins H h e cls xd m):XAt X [] H h e cls xd m:=by
 obtain⟨ok,sl,vs,he,hz,hm⟩:=x;refine⟨ok.clear,sl,vs,he,hz,?_⟩;cases m with
 |none=>exact hm
 |some m=>obtain⟨T,oT,ts,a,b,c,d⟩:=hm;exact⟨T,oT,ts,a,b,c.clear,d⟩
theorem XP.drop {pl:List (Addr×Obj)}{E:XK}{v:Value}(x:XP X (pins++pl) σ E v s):XP X pins σ E v s:=by
 obtain⟨ea,cls,xd,m,H',rfl,I,hx,hm,q⟩:=x;exact⟨ea,cls,xd,m,H',rfl,I.l6,hx.drop,hm,q⟩
theorem VM {h':Heap}(I:Inv X pins σ H s)(he:k9 X pins H e)(k1:∀b o,b∉frs X.stack->b≠e->s.heap.get? b=some o->h'.get? b=some o)
  (k2:∀b o,b≠e->s.heap.get? b=some o->∃sl,h'.get? b=some { o with slots:=sl }):Un (frs X.stack) [e] H H s.heap h'/\HOk X.prog X.w H h':=by
 refine⟨⟨λb o q _ hb hx=>k1 b o hb (by simpa using hx) q,λb o q _ _ hx=>k2 b o (by simpa using hx) q,λb o _ n _=>n,λb o q hx=>?_,λ_ _ q=>q,λ_ _ _ q=>q,λ_ ps q=>⟨#[],by rw[q];simp⟩⟩,λa o q=>?_⟩
 ·obtain⟨sl,z⟩:=k2 b o (by simpa using hx) q
  exact⟨_,z⟩
 ·refine(I.hok a o q).Cu (λb u hb r=>k1 b u (λz=>?_) (λz=>?_) r) (λ_ z=>z) (λ_ _ z=>z)
  ·have n:=I.D8 b z;rcases hb with rfl | hb
   ·rw[q]at n;cases n
   ·rw[hb]at n;cases n
  ·have n:=he.1;rw[<-z]at n;rcases hb with rfl | hb
   ·rw[q]at n;cases n
   ·rw[hb]at n;cases n
theorem RU {h':Heap}(I:Inv X pins σ H s)(he:k9 X pins H e)(k1:∀b o,b∉frs X.stack->b≠e->s.heap.get? b=some o->h'.get? b=some o)
  (k2:∀b o,b≠e->s.heap.get? b=some o->∃sl,h'.get? b=some { o with slots:=sl }):Inv X pins σ H { s with heap:=h' }:=by
 obtain⟨u,ok⟩:=VM I he k1 k2;refine I.call (g':=s.gens) (t':=s.toks) (d':=s.drawn) u ok I.bare λb hb=>?_
 obtain rfl:b=e:=by simpa using hb
 exact⟨he.2.2.2.1,he.2.1,he.2.2.2.2.1,he.2.2.2.2.2⟩
theorem LU {M:Model}{A:Around}{E:Value->Shared->Prop}{head:Value}{RV:Bool}{sl:Array (Option Value)}{vs:Array Value}{Q:Unit->Shared->Prop}(F:Fr1 X)(hA:A.frames=some X.stack)(I:Inv X pins σ H s)(ok:k9 X pins H e)
  (he:s.heap.get? e=some ⟨cls,xd,.fields vs,sl⟩) (hz:1 < vs.size) (h:∀s',Inv X pins σ H s'->XAt X pins H s'.heap e cls xd (some (rawInt X.env.locals))->Q () s') :
  wpAny M A (do let a <-frameOf X.env;let pl <-entryPlaceOf X.env.locals RV;let b <-EntryCells.newEntry head a .none (rawInt X.env.locals) .none pl;setField (.ref e) 1 b) Q E s:=by
 have nE:e∉frs X.stack:=ok.ahD I;have fs:=I.stack;rw[F.stk]at hA fs nE;refine fe (wpAny_frameOf_fun hA fs F.fr λh₁ so=>?_)
 refine fe (wpAny_entryPlaceOf λpl hpl=>?_)
 unfold EntryCells.newEntry newFields;refine fe (wpAny_newObj_type ?_ (hpl.sizeOk5 _ _ _ _ _));generalize ht:([head,.ref X.env.locals,.none,rawInt X.env.locals,.none]++(if pl.isEmpty then List.replicate 6 akX else pl)).toArray=ts
 have t3:ts[3]?=some (rawInt X.env.locals):=by rw[<-ht];simp
 have e1:h₁.get? e=some ⟨cls,xd,.fields vs,sl⟩:=(so.2.1 e nE).trans he;have e2:=kf (h:=h₁) { cls:=.type "traceback",dict:=none,data:=.fields ts } e1;refine wpAny_setField e2 rfl hz ?_;have sz:h₁.objs.size=s.heap.objs.size:=so.1;have nT:h₁.objs.size≠e:=Nat.ne_of_gt (si e1);have k0:∀b o,b≠e->h₁.get? b=some o->((h₁.push { cls:=.type "traceback",dict:=none,data:=.fields ts }).update e (akJ (·.setIfInBounds 1 (adm h₁.objs.size)))).get? b=some o:=λb o hb q =>
  (akq _ _ (aj2 hb)).trans (kf _ q)
 have I':=RU (h':=(h₁.push { cls:=.type "traceback",dict:=none,data:=.fields ts }).update e (akJ (·.setIfInBounds 1 (adm h₁.objs.size)))) I ok
  (λb o hb hbe q=>k0 b o hbe ((so.2.1 b (by rw[<-F.stk];exact hb)).trans q)) (λb o hbe q=>by obtain⟨sl,z⟩:=so.2.2 b o q;exact⟨sl,k0 b _ hbe z⟩)
 have fT:k9 X pins H h₁.objs.size:=I.Ee (by rw[sz];exact kr _) (by rw[sz];exact I.fresh)
 have gE:((h₁.push { cls:=.type "traceback",dict:=none,data:=.fields ts }).update e (akJ (·.setIfInBounds 1 (adm h₁.objs.size)))).get? e=some ⟨cls,xd,.fields (vs.setIfInBounds 1 (adm h₁.objs.size)),sl⟩ :=
  akM (akJ (·.setIfInBounds 1 (adm h₁.objs.size))) e2 rfl
 have gT:((h₁.push { cls:=.type "traceback",dict:=none,data:=.fields ts }).update e (akJ (·.setIfInBounds 1 (adm h₁.objs.size)))).get? h₁.objs.size=some { cls:=.type "traceback",dict:=none,data:=.fields ts } :=
  (akq _ _ (aj2 nT)).trans (ajU h₁ rfl)
 exact h _ I' ⟨ok,sl,_,gE,by simpa using hz,h₁.objs.size,_,ts,by simp[hz],nT,fT,gT,rfl,t3⟩
theorem rD {M:Model}{A:Around}{E:Value->Shared->Prop}{f:Option Addr}{mv:Value}{Q:Unit->Shared->Prop}(I:Inv X pins σ H s)(x:XAt X pins H s.heap e cls xd (some mv))
  (h:∀s',Inv X pins σ H s'->XAt X pins H s'.heap e cls xd (some (f.elim .none λb=>rawInt b))->Q () s'):wpAny M A (setFlight (.ref e) f) Q E s:=by
 obtain⟨ok,sl,vs,he,hz,T,oT,ts,h1,nT,fT,hT,hd,h3⟩:=x;unfold setFlight;refine fe (wpAny_field he rfl h1 ?_);rw[if_pos (show (adm T != akX)=true by simp)]
 have z3:3 < ts.size:=(Array.getElem?_eq_some_iff.mp h3).1;refine wpAny_setField hT hd z3 ?_;have other:∀b,b≠T->(s.heap.update T (akJ (·.setIfInBounds 3 (f.elim akX λb=>rawInt b)))).get? b=s.heap.get? b:=λb hb=>akq _ _ (aj2 hb)
 have I':=I.turned (t':=s.toks) (h':=s.heap.update T (akJ (·.setIfInBounds 3 (f.elim akX λb=>rawInt b)))) (λb o hb q=>(other b hb).trans q) fT.1 fT.2.1 fT.2.2.2.1 fT.2.2.2.2.1 fT.2.2.2.2.2
 exact h _ I' ⟨ok,sl,vs,(other e (aj2 nT)).trans he,hz,T,_,_,h1,nT,fT,akM _ hT (Obj.isFreed_of_fields (Obj.data_mapFields hd _)),Obj.data_mapFields hd _,by simp[z3]⟩
theorem OQ {M:Model}{A:Around}{E:Value->Shared->Prop}{Q:Unit->Shared->Prop}(F:Fr1 X)(hA:A.frames=some X.stack)(I:Inv X pins σ H s)(x:XAt X pins H s.heap e cls xd m)(hm:MOk X m)
  (h:∀s',Inv X pins σ H s'->XAt X pins H s'.heap e cls xd (some (rawInt X.env.locals))->Q () s'):wpAny M A (noteFrame (.ref e) X.env) Q E s:=by
 obtain⟨ok,sl,vs,he,hz,hv⟩:=x;unfold noteFrame;simp only[F.fr];cases m with
 |none =>
  refine fe (wpAny_field he rfl hv ?_);rw[if_neg (by decide)]
  exact LU F hA I ok he hz h
 |some mv =>
  obtain⟨T,oT,ts,h1,nT,fT,hT,hd,h3⟩:=hv;refine fe (wpAny_field he rfl h1 ?_);rw[if_pos (show (adm T != akX)=true by simp)]
  refine fe (wpAny_field hT hd h3 ?_)
  by_cases hmv:mv=rawInt X.env.locals
  ·subst hmv;rw[if_pos (show (rawInt X.env.locals == rawInt X.env.locals)=true by simp)]
   exact tm (h s I ⟨ok,sl,vs,he,hz,T,oT,ts,h1,nT,fT,hT,hd,h3⟩)
  ·rw[if_neg (show ¬(mv == rawInt X.env.locals)=true from λz=>hmv (beq_iff_eq.mp z))]
   have z3:3 < ts.size:=(Array.getElem?_eq_some_iff.mp h3).1;refine fe (wpAny_setField hT hd z3 ?_);have other:∀b,b≠T->(s.heap.update T (akJ (·.setIfInBounds 3 akX))).get? b=s.heap.get? b:=λb hb=>akq _ _ (aj2 hb)
   have I':=I.turned (t':=s.toks) (h':=s.heap.update T (akJ (·.setIfInBounds 3 akX))) (λb o hb q=>(other b hb).trans q) fT.1 fT.2.1 fT.2.2.2.1 fT.2.2.2.2.1 fT.2.2.2.2.2
   exact LU F hA I' ok ((other e (aj2 nT)).trans he) hz h
end
abbrev CXX (P:rf)(w:World):CXT:=λouter H s E e s'=>∃(ea T:Addr) (cls:Value) (xd:Option Addr) (H':Hp),e=.ref ea/\s'.os=s.os/\AllBare s'.gens/\Un (frs outer) [] H H' s.heap s'.heap/\HOk P w H' s'.heap /\
 (H' ea=none/\s.heap.objs.size<=ea)/\(H' T=none/\s.heap.objs.size<=T)/\T≠ea /\
 (∃(sl:Array (Option Value)) (vs:Array Value) (oT:Obj) (ts:Array Value),s'.heap.get? ea=some ⟨cls,xd,.fields vs,sl⟩/\1 < vs.size/\vs[1]?=some (.ref T)/\s'.heap.get? T=some oT/\oT.data=.fields ts/\ts[3]?=some .none)/\E cls xd H'
section
variable{X:Cx}{pins:List (Addr×Obj)}{σ:St}{H:Hp}{s s':Shared}
theorem VN {E:XK}{e:Value}(I:Inv X pins σ H s)(h:CXX X.prog X.w X.stack H s E e s'):XP X pins σ E e s':=by
 obtain⟨ea,T,cls,xd,H',rfl,os,bare,un,hok,⟨e1,e2⟩,⟨t1,t2⟩,ne,⟨sl,vs,oT,ts,g1,g2,g3,g4,g5,g6⟩,q⟩:=h;have I':Inv X pins σ H' s':=I.Og (ch:=[]) os un hok bare λb z=>absurd z (by simp)
 exact⟨ea,cls,xd,some .none,H',rfl,I',⟨I.Ee e2 e1,sl,vs,g1,g2,T,oT,ts,g3,ne,I.Ee t2 t1,g4,g5,g6⟩,.inr (.inl rfl),q⟩
theorem JM:Passes (CXX X.prog X.w) X E0:=λ_ _ _ _ _ _ _ ⟨_,_,_,_,_,_,_,_,_,_,_,_,_,_,z⟩=>z.elim
end
section
variable{P:rf}{w:World}{K:ba}{mg:Str->Option Value}{base:Heap}{k:Nat}{f:Addr}{fd:ki}{ps:List Str}{sp:Sp}
theorem aJ.calm (F:aJ P w K mg base (CXX P w) k f fd ps sp)(h:∀vs H Q E,sp vs H Q E->sp vs H Q E0):aJ P w K mg base CX0 k f fd ps sp:=by
 refine⟨F.len,λA outer s H args us vs Q E hr he hb hv hs=>codeAny_mono (F.run A outer s H args us vs Q E0 hr he hb hv (h _ _ _ _ hs)) λr s' q=>?_⟩
 cases r with
 |error e=>obtain⟨_,_,_,_,_,_,_,_,_,_,_,_,_,_,z⟩:=q;exact z.elim
 |ok fl=>cases fl <;> exact q
theorem RW {N:List Str}{qual:Str}{scope:Scope}{cd:Value}{A:Around}{outer:List Env}{s s':Shared}{H:Hp}{E:XK}{e:Value}{pins:List (Addr×Obj)}
  (h:XPS (ve (CXX P w) P w K mg base N qual scope f cd A outer s H E) pins (λ_=>E) e s'):(ve (CXX P w) P w K mg base N qual scope f cd A outer s H E).xe e s':=by
 obtain⟨σ',ea,cls,xd,m,H',rfl,I,hx,hm,q⟩:=h;have fr:(ve (CXX P w) P w K mg base N qual scope f cd A outer s H E).A.frames=some (ve (CXX P w) P w K mg base N qual scope f cd A outer s H E).stack:=I.ok.frames;have F1:Fr1 (ve (CXX P w) P w K mg base N qual scope f cd A outer s H E):=⟨rfl,rfl⟩;show wpAny _ _ (leaving (ve (CXX P w) P w K mg base N qual scope f cd A outer s H E).env (.ref ea)) _ _ s';unfold leaving;refine fe (OQ F1 fr I hx hm λs1 I1 x1=>rD I1 x1 λs2 I2 x2=>?_)
 obtain⟨ok,sl,vs,he,hz,T,oT,ts,h1,nT,fT,hT,hd,h3⟩:=x2;have old:∀ {b:Addr},k9 (ve (CXX P w) P w K mg base N qual scope f cd A outer s H E) pins H' b->s.heap.objs.size<=b:=λ{b} z=>by
  rcases z.2.2.2.1 with y | y
  ·exact absurd (show b∈([]:List Addr) from y) (by simp)
  ·exact y
 exact⟨ea,T,cls,xd,H',rfl,I2.os,I2.bare,I2.base,I2.hok,⟨ok.1,old ok⟩,⟨fT.1,old fT⟩,nT,⟨sl,vs,oT,ts,he,hz,h1,hT,hd,h3⟩,q⟩
end
abbrev TEX:=St->Hp->VK->XK->Prop
abbrev TAX:=St->Hp->(List V->Hp->Prop)->XK->Prop
abbrev TSX:=Ends->SXK->St->Hp->Prop
def PEX (X:Cx)(e:Expr)(t:TEX):Prop :=
 ∀(pins:List (Addr×Obj)) (s:Shared) (σ:St) (H:Hp) (Q:VK) (E:XK),Inv X pins σ H s->t σ H Q E->wpAny (model X.prog X.w) X.A (eval e X.env) (EP X pins σ Q) (XP X pins σ E) s
def PAX (X:Cx)(es:List Expr)(t:TAX):Prop :=
 ∀(pos:Pos) (pins:List (Addr×Obj)) (s:Shared) (σ:St) (H:Hp) (Q:List V->Hp->Prop) (E:XK),Inv X pins σ H s->t σ H Q E->wpAny (model X.prog X.w) X.A (spliced (backTo pos (ajJ es X.env))) (AP X pins σ Q) (XP X pins σ E) s
def PSX (X:Cx)(st:Stmt)(t:TSX):Prop :=
 ∀(pins:List (Addr×Obj)) (s:Shared) (σ:St) (H:Hp) (D:Ends) (E:SXK),Inv X pins σ H s->t D E σ H->wpAny (model X.prog X.w) X.A (exec st X.env) (SP X pins D) (XPS X pins E) s
def FU (X:Cx)(st:List Stmt)(t:TSX):Prop :=
 ∀(pins:List (Addr×Obj)) (s:Shared) (σ:St) (H:Hp) (D:Ends) (E:SXK),Inv X pins σ H s->t D E σ H->wpAny (model X.prog X.w) X.A (execs st X.env) (SP X pins D) (XPS X pins E) s
def VO (te:TE):TEX:=λσ H Q _=>te σ H Q
def VP (ta:TA):TAX:=λσ H Q _=>ta σ H Q
def JN (ts:TS):TSX:=λD _ σ H=>ts D σ H
def OR (t1:TEX)(t2:TAX):TAX:=λσ H Q E=>t1 σ H (λx H1=>t2 σ H1 (λxs H2=>Q (x::xs) H2) E) E
def LV (t1 t2:TSX):TSX:=λD E σ H=>t1 { D with nx:=t2 D E } E σ H
def aae (tc:TT)(t1 t2:TSX):TSX:=λD E σ H=>tc σ H λd H1=>if d=true then t1 D E σ H1 else t2 D E σ H1
def OS (t:TEX):TSX:=λD E σ H=>t σ H (λ_ H1=>D.nx σ H1) (E σ)
def TV (t:TEX):TSX:=λD E σ H=>t σ H D.rt (E σ)
def OT (t:TAX)(sp:Sp):TEX:=λσ H Q E=>t σ H (λvs H1=>sp vs H1 Q E) E
def OU (C:Addr)(m:Str)(ta:TEX)(t:TAX)(sp:Sp):TEX:=λσ H Q E=>ta σ H (λx H1=>∃a dx fs,x=.ref a/\H1 a=some (.ins C dx fs)/\fs.lookup m=none/\t σ H1 (λvs H2=>sp (x::vs) H2 Q E) E) E
def LW (C:Addr)(m:Str)(ta:TEX)(sp:Sp):TEX:=λσ H Q E=>ta σ H (λx H1=>∃a dx fs,x=.ref a/\H1 a=some (.ins C dx fs)/\fs.lookup m=none/\sp [x] H1 Q E) E
section
variable{X:Cx}{e:Expr}{es:List Expr}{st:Stmt}{sts:List Stmt}{te:TE}{ta:TA}{ts:TS}{pos:Pos}
theorem EP.eO {pins:List (Addr×Obj)}{σ:St}{Q:VK}{u:Value}{s':Shared}{W:Value->Shared->Prop}(h:EP (X.oI W) pins σ Q u s'):EP X pins σ Q u s':=by
 obtain⟨v,H',I,r,q⟩:=h;exact⟨v,H',I.eO,r,q⟩
theorem px (h:PE X.nox e te):PEX X e (VO te):=λpins s σ H Q _ I hw =>
 ajT (h pins s σ H Q (I.oI _) hw) (λ_ _ q=>q.eO) λ_ _ z=>aj3 z
theorem pax (h:PA X.nox es ta):PAX X es (VP ta):=λpos pins s σ H Q _ I hw =>
 ajT (h pos pins s σ H Q (I.oI _) hw) (λ_ _ ⟨vs,H',I',r,q⟩=>⟨vs,H',I'.eO,r,q⟩) λ_ _ z=>aj3 z
theorem psx (h:PS X.nox st ts):PSX X st (JN ts):=λpins s σ H D _ I hw =>
 ajT (h pins s σ H D (I.oI _) hw) (λ_ _ q=>q.eO) λ_ _ z=>aj3 z
theorem vn (h:PSs X.nox sts ts):FU X sts (JN ts):=λpins s σ H D _ I hw =>
 ajT (h pins s σ H D (I.oI _) hw) (λ_ _ q=>q.eO) λ_ _ z=>aj3 z
theorem Ac:PAX X [] (λ_ H Q _=>Q [] H):=λ_ _ _ _ H Q _ I h=>Calls.spliced_nil ⟨[],H,I,.nil,h⟩
theorem kJ {t1:TEX}{t2:TAX}(ha:PEX X e t1)(hr:PAX X es t2)(hs:ajJ (e::es) X.env=(false,eval e X.env)::ajJ es X.env:=by rfl) :
  PAX X (e::es) (OR t1 t2):=by
 intro pos pins s σ H Q E I h;unfold OR at h;rw[hs];refine Calls.spliced_cons (ajT (ha pins s σ H _ E I h) (λu s1 ⟨x,H1,I1,r1,q1⟩=>?_) λ_ _ z=>z)
 exact ajT (hr pos pins s1 σ H1 _ E I1 q1) (λus s2 ⟨xs,H2,I2,r2,q2⟩=>⟨x::xs,H2,I2,.cons r1 r2,q2⟩) λ_ _ z=>z
theorem bc {t1 t2:TSX}(h1:PSX X st t1)(h2:FU X sts t2):FU X (st::sts) (LV t1 t2):=by
 intro pins s σ H D E I h;unfold LV at h;refine wpAny_execs_cons (thn (h1 pins s σ H { D with nx:=t2 D E } E I h) λf s1 q=>?_)
 cases f with
 |next =>
  obtain⟨σ',H',I',q⟩:=q;exact h2 pins s1 σ' H' D E I' q
 |ret v=>exact q
 |brk=>exact q
 |cont=>exact q
theorem bE {t1:TSX}(h1:PSX X st t1):FU X [st] t1:=by
 intro pins s σ H D E I h;refine wpAny_execs_cons (thn (h1 pins s σ H D E I h) λf s1 q=>?_)
 cases f with
 |next=>exact wpAny_execs_nil q
 |ret v=>exact q
 |brk=>exact q
 |cont=>exact q
theorem hX {c:Expr}{a b:List Stmt}{tc:TT}{t1 t2:TSX}(hc:PT X.nox c tc)(ha:FU X a t1)(hb:FU X b t2):PSX X (.If c a b pos) (aae tc t1 t2):=by
 intro pins s σ H D E I h;unfold aae at h;refine wpAny_If (ajT (hc pins s σ H _ (I.oI _) h) (λd s1 ⟨H1,I1,q1⟩=>?_) λ_ _ z=>aj3 z)
 cases d with
 |true=>exact ha pins s1 σ H1 D E I1.eO q1
 |false=>exact hb pins s1 σ H1 D E I1.eO q1
theorem l7 {t:TEX}(he:PEX X e t)(hs:swapsWith e none pos.line X.env=pure false:=by rfl):PSX X (.Expr e pos) (OS t):=by
 intro pins s σ H D E I h;unfold OS at h;exact wpAny_Expr_any (ajT (he pins s σ H _ _ I h) (λv s1 ⟨x,H1,I1,r1,q1⟩=>⟨σ,H1,I1,q1⟩) λ_ _ z=>⟨σ,z⟩) I.quiet hs
theorem Ad {t:TEX}(he:PEX X e t):PSX X (.Return (some e) pos) (TV t):=by
 intro pins s σ H D E I h;unfold TV at h;exact wpAny_Return_some (ajT (he pins s σ H _ _ I h) (λv s1 ⟨x,H1,I1,r1,q1⟩=>⟨x,σ,H1,I1,r1,q1⟩) λ_ _ z=>⟨σ,z⟩)
end
section
variable{X:Cx}{k:Nat}{f C:Addr}{fd:ki}{ps:List Str}{sp:Sp}{x m:Str}{p pos apos:Pos}{e o:Expr}{es:List Expr}{t:TAX}
theorem Er {pins:List (Addr×Obj)}{σ:St}{H:Hp}{s:Shared}{Q:VK}{E:XK}{us:List Value}{vs:List V}(F:aJ X.prog X.w X.K X.mg X.base (CXX X.prog X.w) k f fd ps sp)(hr:Room k X.A)(hb:Binds X.K fd ps [])
  (I:Inv X pins σ H s) (r:Vals vs us) (h:sp vs H Q E):wpAny (model X.prog X.w) X.A (call (.ref f) us) (EP X pins σ Q) (XP X pins σ E) s:=by
 have hl:(us++[]).length=ps.length:=by rw[ak1,<-r.length];exact F.len _ _ _ _ h
 have b:=hb s us I.kIn hl;rw[ak1]at b;refine wpAny_call (codeAny_mono (F.run X.A X.stack s H ⟨us,[]⟩ us vs Q E hr I.RG b r h) λr s' hq=>?_)
 cases r with
 |error e=>exact VN I hq
 |ok fl =>
  cases fl with
  |ret u=>exact I.after hq
  |next=>exact aj3 hq
  |brk=>exact aj3 hq
  |cont=>exact aj3 hq
theorem vo (F:aJ X.prog X.w X.K X.mg X.base (CXX X.prog X.w) k f fd ps sp)(hr:Room k X.A)(hg:Gl X x)(hm:X.mg x=some (.ref f))(hk:da X.K (.ref f)=true)(hb:Binds X.K fd ps [])(ha:PAX X (e::es) t)
  (hdb:(x == ("__debug__":Str))=false:=by decide) (he:ajJ (e::es) X.env=(false,eval e X.env)::ajJ es X.env:=by rfl) (hpl:(backTo pos (ajJ es X.env)).any (·.1)=false:=by rfl) :
  PEX X (.Call (.Name x p) (e::es) [] pos) (OT t sp):=by
 intro pins s σ H Q E I h;unfold OT at h;refine wpAny_Call_Name_kw (j8 I hg hm ?_ hdb);exact ak8 (h₀:=X.base) I.ok.mod.kin hk (thn (ha pos pins s σ H _ E I h) λus s1 ⟨vs,H1,I1,r,q⟩=>⟨I1.kIn,Er F hr hb I1 r q⟩) he hpl
theorem vp {pl:Sem Bool}{ta:TEX}(he:PEX X o ta)(c:Cls X.K C)(hm:Meth X.K C m f)(F:aJ X.prog X.w X.K X.mg X.base (CXX X.prog X.w) k f fd ps sp)(hr:Room k X.A)(hb:Binds X.K fd ps [])(ha:PAX X (e::es) t)
  (hst:ajJ (e::es) X.env=(false,eval e X.env)::ajJ es X.env:=by rfl) (hpl:(backTo pos (ajJ es X.env)).any (·.1)=false:=by rfl)
  (ht:eval (.Call (.Attribute o m apos) (e::es) [] pos) X.env=(do
   let ov <-eval o X.env
   standAt apos.atName
   let (f,first) <-holding [ov] (getMethod ov m pl)
   callWith pos f first (backTo pos (ajJ (e::es) X.env)) (backToKw pos (keywordEach [] X.env))):=by rfl) :
  PEX X (.Call (.Attribute o m apos) (e::es) [] pos) (OU C m ta t sp):=by
 intro pins s σ H Q E I h;unfold OU at h;refine akC (pl:=pl) (thn (he pins s σ H _ E I h) λu s1 ⟨x,H1,I1,rx,a,dx,fs,ex,ea,l,q⟩=>?_) ht
 subst ex;obtain rfl:u=adm a:=rx;refine jB I1 ea c hm l ?_;exact ak8 (first:=[.ref a]) (h₀:=X.base) I.ok.mod.kin hm.kp (thn (ha pos pins s1 σ H1 _ E I1 q) λus s2 ⟨vs,H2,I2,r,q2⟩=>⟨I2.kIn,Er (us:=.ref a::us) (vs:=.ref a::vs) F hr hb I2 (.cons rfl r) q2⟩) hst hpl
theorem xa {pl:Sem Bool}{ta:TEX}(he:PEX X o ta)(c:Cls X.K C)(hm:Meth X.K C m f)(F:aJ X.prog X.w X.K X.mg X.base (CXX X.prog X.w) k f fd ps sp)(hr:Room k X.A)(hb:Binds X.K fd ps [])
  (ht:eval (.Call (.Attribute o m apos) [] [] pos) X.env=(do
   let ov <-eval o X.env
   standAt apos.atName
   let (f,first) <-holding [ov] (getMethod ov m pl)
   callWith pos f first (backTo pos (ajJ [] X.env)) (backToKw pos (keywordEach [] X.env))):=by rfl) :
  PEX X (.Call (.Attribute o m apos) [] [] pos) (LW C m ta sp):=by
 intro pins s σ H Q E I h;unfold LW at h;refine akC (pl:=pl) (thn (he pins s σ H _ E I h) λu s1 ⟨x,H1,I1,rx,a,dx,fs,ex,ea,l,q⟩=>?_) ht
 subst ex;obtain rfl:u=adm a:=rx;refine jB I1 ea c hm l ?_;exact ak6 (first:=[.ref a]) I1.kIn hm.kp (Er (us:=[.ref a]) (vs:=[.ref a]) F hr hb I1 (.cons rfl .nil) q)
end
section
variable{P:rf}{w:World}{K:ba}{mg:Str->Option Value}{base:Heap}
theorem Fun.okX {x qual:Str}{st:Stmt}{f:Addr}{fd:ki}{N ps:List Str}{k:Nat}{sp:Sp}(F:Fun K x qual st f fd)(S:aS N ps (ah st))(len:∀vs H Q E,sp vs H Q E->vs.length=ps.length)
  (FH:∀(cdv:Value) (A:Around) (outer:List Env) (s:Shared) (H:Hp) (vs:List V) (Q:VK) (E:XK),Room k (A.deeper (envOfC qual (ah st) s.heap.objs.size f cdv))->sp vs H Q E ->
   ∃t,FU (ve (CXX P w) P w K mg base N qual (ah st) f cdv A outer s H E) (aL st) t/\t { nx:=λ_ H'=>Q .non H',rt:=Q } (λ_=>E) (start N vs) H):aJ P w K mg base (CXX P w) (k+1) f fd ps sp:=by
 obtain⟨oc,od,kV,doc,pm,an,cdv,ct,osl,rfl,lk,hcd⟩:=F.ex;refine TR lk hcd S len λA outer s H vs Q E hr hsp=>?_
 obtain⟨t,h,q⟩:=FH cdv A outer s H vs Q E hr hsp;exact⟨λD σ H=>t D (λ_=>E) σ H,λpins s1 σ H1 D I hw=>ajT (h pins s1 σ H1 D _ I hw) (λ_ _ z=>z) λ_ _ z=>RW z,q⟩
end
end L2
set_option maxHeartbeats 4000000
namespace L2
open PySem PySem.Spec PyProof.Rows
def xo (a:Addr)(cls:Value)(xd:Option Addr):HO:=.ext λh=>∃(sl:Array (Option Value)) (vs:Array Value),h.get? a=some ⟨cls,xd,.fields vs,sl⟩
abbrev hcx (X:Cx)(e:Addr):Cx:={ X with A:=X.A.mark (some (.ref e)),calm:=false,xe:=λ_ _=>False }
section
variable{X:Cx}{pins:List (Addr×Obj)}{σ:St}{H:Hp}{s:Shared}{e:Addr}{cls:Value}{xd:Option Addr}{m:Option Value}
theorem JO (I:Inv X pins σ H s)(e:Addr):Inv (hcx X e) pins σ H s :=
 ⟨⟨I.ok.mod,I.ok.kind,I.ok.glob,I.ok.blt,I.ok.above,I.ok.inj,I.ok.has,I.ok.cab,λz=>absurd (show false=true from z) ku,I.ok.frames,I.ok.stk,I.ok.exf,I.ok.bs,I.ok.bsz,I.ok.Jp,I.ok.Jq,I.ok.uk,I.ok.frf⟩,I.os,I.bare,I.base,I.loc,I.cell,I.free,I.oG,I.pin,I.hok,I.len⟩
theorem nh (ok:X.Ok)(I:Inv (hcx X e) pins σ H s):Inv X pins σ H s:=⟨ok,I.os,I.bare,I.base,I.loc,I.cell,I.free,I.oG,I.pin,I.hok,I.len⟩
theorem RX (I:Inv X pins σ H s)(x:XAt X pins H s.heap e cls xd m):Inv X pins σ (upd H e (xo e cls xd)) s:=by
 obtain⟨ok,sl,vs,he,hz,_⟩:=x;have nb:∀b u,H b=some u->b≠e:=λb u q z=>by rw[z,ok.1]at q;cases q
 have hk:HOk X.prog X.w (upd H e (xo e cls xd)) s.heap:=λb u q=>by
  by_cases hb:b=e
  ·subst hb;rw[ae]at q;cases q;exact⟨⟨sl,vs,he⟩,⟨_,he⟩,λh1 h2 ⟨sl',vs',z⟩ k=>⟨sl',vs',k _ z⟩⟩
  ·rw[aq hb]at q;exact(I.hok b u q).Cu (λc v _ r=>r) (λc r=>by rw[aq (nb c _ r)];exact r) λc xs r=>by rw[aq (nb c _ r)];exact r
 exact I.step (g':=s.gens) (t':=s.toks) (d':=s.drawn) (h':=s.heap) (ch:=[e]) (λb hb=>by
   obtain rfl:b=e:=by simpa using hb
   exact⟨ok.2.2.2.1,ok.2.1,ok.2.2.2.2.1,ok.2.2.2.2.2⟩)
  (λ_ _ _ _ _ q _=>q) (λb o _ _ _ q _=>⟨o.slots,q⟩) (λb o hb _ n=>by rw[aq (by simpa using hb)];exact n) (λb o _ q=>⟨o,q⟩)
  (λb xs q=>by rw[aq (nb b _ q)];exact q) (λb o u q=>by rw[aq (nb b _ q)];exact q) (λb ps q=>⟨#[],by rw[aq (nb b _ q),q];simp⟩) (λ_ q=>q) hk I.bare
theorem Es {M:Model}{A:Around}{E:Value->Shared->Prop}{n:Str}{i:Nat}{pos:Pos}{Q:Unit->Shared->Prop}(I:Inv X pins σ H s)(hN:X.N.Nodup)(hi:X.N[i]?=some n)(hl:X.env.kindOf n=some .local)
  (h:∀s',Inv X pins (σ.set i none) H s'->Q () s'):wpAny M A (do bindName X.env n .none;unbindBehindTheSuite X.env n pos) Q E s:=by
 obtain⟨mm,hn,ahE⟩:=I.loc;refine wpAny_nameGoes_keeps hl hn (by rw[I.ok.kind];rfl) λh' v hn' sb=>h _ ?_
 have ol:∃o,s.heap.get? X.env.locals=some o/\H X.env.locals=none:=by obtain⟨o,_,_,ho,_⟩:=hn;exact⟨o,ho,I.free⟩
 have keep:∀b o,b≠X.env.locals->s.heap.get? b=some o->h'.get? b=some o:=λb o hb q=>(sb.2 b hb).trans q
 have below:∀ {b:Addr} {o:Obj},X.s₀.heap.get? b=some o->b≠X.env.locals:=λ{b o} q=>ajV (ajM (si q) I.ok.above)
 refine⟨I.ok,I.os,I.bare,⟨λb o q nn hb hx=>keep b o (below q) (I.base.keep b o q nn hb hx),λb o q nn hb hx=>?_,I.base.free,λb o q hx=>?_,I.base.u5,I.base.uj,I.base.u9⟩,⟨_,hn',λj y w e1 e2 e3=>?_⟩,λy c ec=>?_,I.free,I.oG,λp hp=>?_,λb u q=>?_,by rw[aky];exact I.len⟩
 ·obtain⟨sl,z⟩:=I.base.slot b o q nn hb hx;exact⟨sl,keep b _ (below q) z⟩
 ·obtain⟨o',z⟩:=I.base.there b o q hx;exact⟨o',keep b _ (below q) z⟩
 ·have hj:j≠i:=λz=>by
   subst z
   by_cases hlt:j < σ.length
   ·rw[akT hlt]at e2;cases e2
   ·rw[List.getElem?_eq_none_iff.mpr (by rw[aky];omega)]at e2;cases e2
  rw[ak2 (aj2 hj)]at e2;obtain⟨u,r,q⟩:=ahE j y w e1 e2 e3;refine⟨u,r,?_⟩;rcases q with ⟨k,z⟩ | ⟨k,c,z,hc⟩
  ·have:y≠n:=λz=>hj (Ax hN e1 (z▸hi))
   exact .inl ⟨k,by simp only[this,if_false];exact z⟩
  ·obtain⟨o,ho,hd⟩:=hc;exact .inr ⟨k,c,z,o,keep c o (I.cne y c z) ho,hd⟩
 ·obtain⟨v',o,ho,hd⟩:=I.cell y c ec;exact⟨v',o,keep c o (I.cne y c ec) ho,hd⟩
 ·obtain⟨a1,a2,a3,a4,a5⟩:=I.pin p hp;exact⟨keep p.1 p.2 a3 a1,a2,a3,a4,a5⟩
 ·refine(I.hok b u q).Cu (λc v hc r=>keep c v (λz=>?_) r) (λ_ z=>z) λ_ _ z=>z
  have fr:=I.free;rw[<-z]at fr;rcases hc with rfl | hc
  ·rw[q]at fr;cases fr
  ·rw[hc]at fr;cases fr
end
abbrev THX:=Ends->SXK->St->XK
def OV (D:Ends)(i:Nat):Ends:={ nx:=λσ H=>D.nx (σ.set i none) H,rt:=D.rt,bk:=λσ H=>D.bk (σ.set i none) H,ct:=λσ H=>D.ct (σ.set i none) H }
def TX (K:ba)(C:Addr)(ts:TS)(tr:THX):THX:=λD E σ cls xd H=>∃b,de K cls (.ref C)=some b/\if b=true then ts D σ H else tr D E σ cls xd H
def hAs (K:ba)(C:Addr)(i:Nat)(ts:TS)(tr:THX):THX:=λD E σ cls xd H=>∃b,de K cls (.ref C)=some b/\if b=true then ∀ea,H ea=none->ts (OV D i) (σ.set i (some (.ref ea))) (upd H ea (xo ea cls xd)) else tr D E σ cls xd H
def OW (tb:TSX)(th:THX):TSX:=λD E σ H=>tb D (λσ' cls xd H'=>th D E σ' cls xd H') σ H
def PHX (X:Cx)(hs:List ExceptHandler)(t:THX):Prop :=
 ∀(pins:List (Addr×Obj)) (s:Shared) (σ:St) (H:Hp) (D:Ends) (E:SXK) (ea:Addr) (cls:Value) (xd:Option Addr),Inv X pins σ H s->XAt X pins H s.heap ea cls xd (some .none)->t D E σ cls xd H ->
  wpAny (model X.prog X.w) X.A (handleBy (.ref ea) X.env hs) (SP X pins D) (XPS X pins E) s
section
variable{X:Cx}{x n:Str}{C:Addr}{np pos:Pos}{b₀:Stmt}{LX:List Stmt}{rest:List ExceptHandler}{ts:TS}{tr:THX}
theorem RY (F:Fr1 X):PHX X [] (λ_ E σ cls xd H=>E σ cls xd H):=by
 intro pins s σ H D E ea cls xd I hx h;refine wpAny_handleBy_nil ?_;unfold PySem.passOn;obtain⟨ok,sl,vs,he,hz,T,oT,ts,h1,r⟩:=id hx;refine fe (wpAny_field he rfl h1 ?_);rw[if_neg (show ¬((adm T == akX)=true) by simp)]
 have step:wpAny (model X.prog X.w) X.A (do setFlight (.ref ea) X.env.frame;throw (.ref ea):Sem Flow) (SP X pins D) (XPS X pins E) s :=
  fe (rD I hx λs2 I2 x2=>wpAny_throw ⟨σ,ea,cls,xd,_,H,rfl,I2,x2,by rw[F.fr];exact .inr (.inr ⟨_,rfl⟩),h⟩)
 first
  |exact step
  |exact fe (tm step)
theorem TY {pins:List (Addr×Obj)}{s:Shared}{σ:St}{H:Hp}{ea:Addr}{cls:Value}{xd:Option Addr}{b:Bool}{E:Value->Shared->Prop}{R:Bool->Shared->Prop}(I:Inv X pins σ H s)(hx:XAt X pins H s.heap ea cls xd (some .none))
  (hg:Gl X x) (hm:X.mg x=some (.ref C)) (eb:de X.K cls (.ref C)=some b) (h:R b s) (hd:(x == ("__debug__":Str))=false:=by decide) :
  wpAny (model X.prog X.w) (X.A.mark (some (.ref ea))) (eval (.Name x np) X.env) (λc s₁=>wpAny (model X.prog X.w) (X.A.mark (some (.ref ea))) (excMatches (.ref ea) c) R E s₁) E s:=by
 obtain⟨_,sl,vs,he,_⟩:=hx;refine j8 (JO I ea) hg hm ?_ hd;have lt:PySem.W.Looks (model X.prog X.w) s.heap (typeOf (.ref ea)) cls:=(PySem.W.Looks.ld he).andThen .now;exact PySem.W.exm_one I.kIn lt eb _ _ _ s (λ_ _ q=>q) h
theorem oO (hg:Gl X x)(hm:X.mg x=some (.ref C))(hs:∀e,PSs (hcx X e) (b₀::LX) ts)(hr:PHX X rest tr)(hd:(x == ("__debug__":Str))=false:=by decide) :
  PHX X (.ExceptHandler (some (.Name x np)) none (b₀::LX) pos::rest) (TX X.K C ts tr):=by
 intro pins s σ H D E ea cls xd I hx h;unfold TX at h;obtain⟨b,eb,h⟩:=h;refine wpAny_handleBy_cons (codeAny_handlers_test (TY I hx hg hm eb ?_ hd)) (by intro q;cases q)
 cases b with
 |true =>
  refine codeAny_handlers_suite (rD I hx λs1 I1 x1=>?_)
  refine ajT (hs ea pins s1 σ H D (JO I1 ea) h) (λf s2 q=>?_) λ_ _ z=>aj3 z
  cases f with
  |next=>obtain⟨σ',H',I',q⟩:=q;exact⟨σ',H',nh I.ok I',q⟩
  |brk=>obtain⟨σ',H',I',q⟩:=q;exact⟨σ',H',nh I.ok I',q⟩
  |cont=>obtain⟨σ',H',I',q⟩:=q;exact⟨σ',H',nh I.ok I',q⟩
  |ret u=>obtain⟨v,σ',H',I',r,q⟩:=q;exact⟨v,σ',H',nh I.ok I',r,q⟩
 |false=>exact hr pins s σ H D E ea cls xd I hx h
theorem JP {i:Nat}(hN:X.N.Nodup)(hi:X.N[i]?=some n)(hl:X.env.scope.names.lookup n=some .local)(hg:Gl X x)(hm:X.mg x=some (.ref C))(hs:∀e,PSs (hcx X e) (b₀::LX) ts)(hr:PHX X rest tr)(hd:(x == ("__debug__":Str))=false:=by decide) :
  PHX X (.ExceptHandler (some (.Name x np)) (some n) (b₀::LX) pos::rest) (hAs X.K C i ts tr):=by
 intro pins s σ H D E ea cls xd I hx h;unfold hAs at h;obtain⟨b,eb,h⟩:=h;refine wpAny_handleBy_cons (codeAny_handlers_test (TY I hx hg hm eb ?_ hd)) (by intro q;cases q)
 cases b with
 |true =>
  refine codeAny_handlers_suite_as (rD I hx λs1 I1 x1=>?_)
  refine rp (X:=hcx X ea) (v:=.ref ea) (JO (RX I1 x1) ea) hN hi (.inl hl) rfl (λs2 I2=>?_) (.inr hl)
  refine ajT (hs ea pins s2 _ _ (OV D i) I2 (h ea hx.ok.1)) (λf s3 q=>?_) λ_ _ z=>aj3 z
  show wpAny _ _ _ _ _ _;cases f with
  |next=>obtain⟨σ',H',I',q⟩:=q;exact Es (nh I.ok I') hN hi hl λs4 I4=>⟨_,H',I4,q⟩
  |brk=>obtain⟨σ',H',I',q⟩:=q;exact Es (nh I.ok I') hN hi hl λs4 I4=>⟨_,H',I4,q⟩
  |cont=>obtain⟨σ',H',I',q⟩:=q;exact Es (nh I.ok I') hN hi hl λs4 I4=>⟨_,H',I4,q⟩
  |ret u=>obtain⟨v,σ',H',I',r,q⟩:=q;exact Es (nh I.ok I') hN hi hl λs4 I4=>⟨v,_,H',I4,r,q⟩
 |false=>exact hr pins s σ H D E ea cls xd I hx h
theorem RZ {body:List Stmt}{h₀:ExceptHandler}{hs:List ExceptHandler}{tb:TSX}{th:THX}(F:Fr1 X)(hb:FU X body tb)(hh:PHX X (h₀::hs) th) :
  PSX X (.Try body (h₀::hs) [] [] pos) (OW tb th):=by
 intro pins s σ H D E I h;unfold OW at h;refine wpAny_Try_except (ajT (hb pins s σ H D _ I h) (λf s1 q=>?_) (λv s1 q=>?_))
 ·cases f with
  |next=>exact wpAny_execs_nil q
  |ret v=>exact q
  |brk=>exact q
  |cont=>exact q
 ·obtain⟨σ',ea,cls,xd,m,H',rfl,I1,hx,hm,q⟩:=q;exact OQ F I1.ok.frames I1 hx hm λs2 I2 x2=>rD I2 x2 λs3 I3 x3=>hh pins s3 σ' H' D E ea cls xd I3 x3 q
end
structure GaX (K:ba)(C:Addr):Prop where
 ga:bo K (.ref C) "__getattribute__"=some (some (.builtin "BaseException.__getattribute__"))
 hk:bo K (.ref C) "__getattr__"=some none
 mb:akt K C (.type "BaseException")=some true
theorem FV:Slot "ValueError" "__getattribute__" "BaseException.__getattribute__":=F.attr_ValueError.ga
section
variable{prog:rf}{w:World}{A:Around}{E:Value->Shared->Prop}{s:Shared}{K:ba}{x C:Addr}{ox:Obj}{od:Option Obj}{name:Str}
theorem OX {M:Model}{TZ:Value}{Q:Unit->Shared->Prop}(X:K.In s.heap)(I:PySem.W.InstAt s.heap x ox C od)(t:GaX K C)(hq:Q () s) :
  wpAny M A (checkBuiltinCall "BaseException.__getattribute__" ⟨[.ref x,TZ],[]⟩) Q E s:=by
 have hk:builtinKind "BaseException.__getattribute__"=some .slot:=by decide +kernel
 have VQ:splitId "BaseException.__getattribute__"=some ("BaseException","__getattribute__"):=by decide +kernel
 have L0:=I.type (M:=M);have L1:=PySem.W.looks_mroIn (M:=M) X t.mb;have ha:=F.args_bexc_ga (.ref x) TZ;obtain⟨hh,g,d,tt,os⟩:=s;simp only[checkBuiltinCall,hk,VQ];refine fe ?_;unfold isInstance;refine fe (L0.at (L1.at ?_))
 repeat (any_goals (first | assumption | wp_step))
def ajB (v:Value)(Q:Value->Shared->Prop):Fin->Shared->Prop:=λfin s'=>match fin with | .done (.ret u)=>u=v/\Q u s' | _=>False
theorem OY {tk:Tok}{v:Value}{Q:Fin->Shared->Prop}(X:K.In s.heap)(I:PySem.W.InstAt s.heap x ox C od)(hf:PySem.W.findObj K C od name=some (.value v))(hq:Q (.done (.ret v)) s) :
  wpAny (model prog w) A (Builtin.«object.__getattribute__» ⟨[.ref x,.str name tk],[]⟩) Q E s:=by
 obtain⟨hh,g,d,tt,os⟩:=s;have L0:=I.type (M:=model prog w);have L1:=PySem.W.looks_find (M:=model prog w) X I hf;unfold Builtin.«object.__getattribute__»;refine fe (tm (fe (tm (fe (L0.at (fe (L1.at ?_)))))));exact tm hq
theorem aaf {tk:Tok}{fill ex:Bool}{Q:Value->Shared->Prop}(X:K.In s.heap)(I:PySem.W.InstAt s.heap x ox C od)(t:GaX K C)
  (h:wpAny (model prog w) A.in1 (Builtin.«object.__getattribute__» ⟨[.ref x,.str name tk],[]⟩) (λfin s'=>match fin with | .done (.ret v)=>PySem.W.handedIn v=true/\Q v s' | _=>False) (λ_ _=>False) s) :
  wpAny (model prog w) A (getAttrBy (.ref x) (.str name tk) fill ex) Q E s:=by
 obtain⟨hh,g,d,tt,os⟩:=s;have L0:=I.type (M:=model prog w);have L1:=ak3 (M:=model prog w) X t.ga;have L2:=ak3 (M:=model prog w) X t.hk;unfold getAttrBy;refine akw (fe (L0.at (fe (L1.at ?_))));show wpAny _ _ (if (onTheHeap (adm C) && Value.builtin "BaseException.__getattribute__" == Value.builtin "object.__getattribute__")=true then _ else getAttrByItsOwn _ _ _ _ _ _) _ _ _
 rw[if_neg (by rw[show (Value.builtin "BaseException.__getattribute__" == Value.builtin "object.__getattribute__")=false from by decide +kernel];exactλz=>Bool.noConfusion z)]
 unfold getAttrByItsOwn hookBefore callGetattribute boundAndCalled;refine fe ?_;show wpAny _ _ (typeLookup (.ref C) "__getattr__") _ _ _;refine L2.at ?_;refine fe (wpAny_attempt (akw ?_));rw[if_neg (by cases ex <;> decide)]
 refine fe (wpAny_of_eq (FV.bind _) ?_);show wpAny _ _ (call (.builtin "BaseException.__getattribute__") [.ref x,.str name tk]) _ _ _;refine wpAny_call (codeAny_call_builtin FV.plain F.entry_bexc_ga (OX X I t (ajT h (λfin s' z=>?_) λ_ _ z=>z.elim)))
 rcases fin with (_ | _ | _ | _) | _ <;> first | exact PySem.W.handed_on z.1 z.2 | exact z.elim
end
structure ajC (K:ba)(C:Addr):Prop where
 ga:GaX K C
 cd:(PySem.W.clsIn K C).isSome=true
 ha:bo K (.ref C) "__class__"=some (some (.builtin "object.__class__"))
 hn:PySem.W.specialIn K (.builtin "object.__class__") "__get__"=some (some (.builtin "getset_descriptor.__get__"))
 htk:PySem.W.takesIn K (.builtin "object.__class__")=some true
 hm:akt K C (.type "object")=some true
end L2
set_option maxHeartbeats 4000000
namespace L2
open PySem PySem.Spec PyProof.Rows
section
variable{prog:rf}{w:World}{A:Around}{E:Value->Shared->Prop}{h:Heap}{g:Array GenState}{d:Drawn}{t:Nat}{os:OsState}
variable{nm q:Str}{C N:Addr}{bs bm bmB:List Value}{hdct:Bool}{sn:List Str}{sub:List Value}{ab:Bool}{col:Option Bool}{dd:Option Addr}{k0 k1 k2 k3 k5:Option Value}{B nid iid:String}
abbrev ni (h:Heap)(C:Addr)(us:List Value):Heap:=(h.push { cls:=.type "tuple",data:=.seq us.toArray }).push ⟨.ref C,none,.fields #[.ref h.objs.size,.none,.none,.none,.bool false,.none],#[]⟩
theorem fQ {us:List Value}{b:Addr}{o:Obj}(e:h.get? b=some o):(ni h C us).get? b=some o:=kf _ (kf _ e)
theorem AK {us:List Value}:(ni h C us).get? (h.objs.size+1)=some ⟨.ref C,none,.fields #[.ref h.objs.size,.none,.none,.none,.bool false,.none],#[]⟩:=by
 have:=ajU (h.push { cls:=.type "tuple",data:=.seq us.toArray }) (o:=⟨.ref C,none,.fields #[.ref h.objs.size,.none,.none,.none,.bool false,.none],#[]⟩) rfl
 rwa [Heap.size_push]at this
theorem JQ (F:ExcBaseFacts B nid iid bmB)(T:OwnTail h bmB bm){mN:Str->Option Value}{us:List Value}{Q:Fin->Shared->Prop}
  (kC:h.get? C=some (akh nm q C N bs bm hdct sn sub ab col dd k0 k1 k2 k3 k5 nid)) (kN:h.Ns N mN) (kI:mN "__init__"=none) (hz:us.length<=ka)
  (hq:∀h',(∀b o,h.get? b=some o->h'.get? b=some o)->(∃tp,h'.get? (h.objs.size+1)=some ⟨.ref C,none,.fields #[.ref tp,.none,.none,.none,.bool false,.none],#[]⟩)->Q (.done (.ret (.ref (h.objs.size+1)))) ⟨h',g,d,t,os⟩) :
  wpAny (model prog w) A (Builtin.«type.__call__» ⟨.ref C::us,[]⟩) Q E ⟨h,g,d,t,os⟩:=by
 repeat (first | with_reducible refine wpAny_loadPart_at kC ?_ | with_reducible refine wpAny_madeBy_exc kC ?_ | wp_step)
 refine codeAny_call_builtin_code (Code.quiet_builtin _ F.quiet) (wpAny_check_new_subT F T kC (codeAny_exc_new_subT F T kC ?_ hz));show wpAny _ _ _ _ _ _;have kC1:(ni h C us).get? C=_:=fQ kC;have kN1:(ni h C us).Ns N mN:=kN.keeps λb o e=>fQ e
 have T1:OwnTail (ni h C us) bmB bm:=T.keeps λb o e=>fQ e
 have kE:=AK (h:=h) (C:=C) (us:=us);have self:(adm C::bm).contains (.ref C)=true:=by simp
 unfold isInstance
 repeat (first | with_reducible refine wpAny_loadPart_at kE ?_ | (with_reducible refine wpAny_isSubtype_exc kC1 ?_;rw[self]) | wp_step)
 show wpAny _ _ (typeLookup (.ref C) _) _ _ _;refine wpAny_typeLookup_tail kC1 kN1 T1 F.mroIs F.init.lookup ?_;rw[kI];refine akw (fe (wpAny_of_eq (F.init.bind _) ?_));refine fe (wpAny_call (codeAny_call_builtin F.init.plain F.initEntry (wpAny_check_init_subT F T1 kC1 kE rfl ?_)))
 wp_walk
 refine hq _ (λb o e=>?_) ⟨h.objs.size+2,?_⟩
 ·rw[akq _ _ (Nat.ne_of_gt (Nat.lt_succ_of_lt (si e)))];exact kf _ (fQ e)
 ·refine(akM _ (kf _ kE) rfl).trans ?_;simp only[Heap.size_push];rfl
theorem MX (F:ExcBaseFacts B nid iid bmB)(T:OwnTail h bmB bm){mN:Str->Option Value}{us:List Value}{Q:Value->Shared->Prop}
  (kC:h.get? C=some (akh nm q C N bs bm hdct sn sub ab col dd k0 k1 k2 k3 k5 nid)) (kN:h.Ns N mN) (kI:mN "__init__"=none) (hz:us.length<=ka)
  (hq:∀h',(∀b o,h.get? b=some o->h'.get? b=some o)->(∃tp,h'.get? (h.objs.size+1)=some ⟨.ref C,none,.fields #[.ref tp,.none,.none,.none,.bool false,.none],#[]⟩)->Q (.ref (h.objs.size+1)) ⟨h',g,d,t,os⟩) :
  wpAny (model prog w) A (call (.ref C) us) Q E ⟨h,g,d,t,os⟩:=by
 have l1:=tc_lookup;have l2:=tc_bind (.ref C);have ty:(⟨h,g,d,t,os⟩:Shared).TypeIs (.ref C) "type":=⟨_,kC,rfl⟩;refine wpAny_call (codeAny_of_tree ?_);show wpAny _ _ (callAny (.ref C) _) _ _ _
 repeat (any_goals (first | assumption | with_reducible refine wpAny_loadPart_at kC ?_ | wp_step))
 refine⟨rfl,codeAny_call_builtin_at (Code.quiet_builtin _ (by decide +kernel)) entry_typeCall (wpAny_check_type_call_sub kC (JQ F T kC kN kI hz λh' k e=>?_))⟩
 exact hq h' k e
theorem tE {M:Model}{env:Env}{s:Shared}{x:Sem Value}{Q:Flow->Shared->Prop}(FK:bm.contains (.type "BaseException")=true)(hh:A.handled=none)
  (hx:wpAny M A x (λv s₁=>∃(e:Addr) (xd:Option Addr) (a0:Value) (sl:Array (Option Value)),v=.ref e/\s₁.heap.get? C=some (akh nm q C N bs bm hdct sn sub ab col dd k0 k1 k2 k3 k5 nid) /\
   s₁.heap.get? e=some ⟨.ref C,xd,.fields #[a0,.none,.none,.none,.bool false,.none],sl⟩/\E (.ref e) s₁) E s):wpAny M A (raiseStmt env (some x) none) Q E s:=by
 have top:(adm C::bm).contains (.type "BaseException")=true:=by rw[List.contains_cons,FK,Bool.or_true]
 unfold raiseStmt;refine fe (ajT hx (λv s₁ h₁=>?_) λ_ _ z=>z)
 obtain⟨e,xd,a0,sl,rfl,kC,kE,fin⟩:=h₁;obtain⟨hp,g',d',tk,os'⟩:=s₁
 repeat (first | with_reducible refine wpAny_loadPart_at kE ?_ | with_reducible refine wpAny_loadPart_at kC ?_ | (with_reducible refine wpAny_isSubtype_exc kC ?_;rw[top]) | wp_step)
 exact wpAny_raiseNew_none hh fin
end
abbrev qz:List Value:=[.type "ValueError",.type "Exception",.type "BaseException",.type "object"]
def strKeys (es:Array akI):Bool:=es.toList.all λe=>match e.key with | .str _ _=>true | _=>false
structure Et (K:ba)(N:Addr):Prop where
 ex:∃(c:Value) (dd:Option Addr) (es:Array akI) (n:Nat) (sl:Array (Option Value)),K.lookup N=some ⟨c,dd,.dict es n,sl⟩/\strKeys es=true
 no:eg K N "__init__"=some none
theorem Et.ns {K:ba}{N:Addr}(x:Et K N){h:Heap}(X:K.In h):∃mN,h.Ns N mN/\mN "__init__"=none:=by
 obtain⟨⟨c,dd,es,n,sl,l,sk⟩,no⟩:=x;have ns:h.Ns N (nsFind es):=⟨_,es,n,X _ _ l,rfl,λe he=>by
  have z:=List.all_eq_true.mp sk e (Array.mem_toList_iff.mpr he);cases hk:e.key with
  |str y t=>exact⟨y,t,rfl⟩
  |_=>rw[hk]at z;exact absurd z ku,λ_=>rfl⟩
 refine⟨_,ns,?_⟩;unfold eg at no;rw[l]at no;dsimp only at no;unfold nsFind findBy;rw[<-Array.find?_toList];cases hf:es.toList.find? (λe=>e.key.isStr "__init__") with
 |none=>rfl
 |some e=>rw[hf]at no;cases no
inductive i6 (K:ba):List Value->Prop
 |base:i6 K qz
 |own {D:Addr} {c0:Value} {dd:Option Addr} {cd:ClassData} {sl:Array (Option Value)} {tl:List Value}:K.lookup D=some ⟨c0,dd,.cls cd,sl⟩->Et K cd.ns->i6 K tl->i6 K (.ref D::tl)
theorem i6.tail {K:ba}{bm:List Value}(x:i6 K bm){h:Heap}(X:K.In h):OwnTail h qz bm:=by
 induction x with
 |base=>exact .base
 |own l n _ ih =>
  obtain⟨mA,a,b⟩:=n.ns X;exact .own (X _ _ l) a b ih
structure FW (K:ba)(C:Addr):Prop where
 ex:∃(nm q:Str) (N:Addr) (bs bm:List Value) (hdct:Bool) (sn:List Str) (sub:List Value) (ab:Bool) (col:Option Bool) (dd:Option Addr) (k0 k1 k2 k3 k5:Option Value),
  K.lookup C=some (akh nm q C N bs bm hdct sn sub ab col dd k0 k1 k2 k3 k5 "ValueError.__new__")/\Et K N/\i6 K bm
section
variable{X:Cx}{x:Str}{C:Addr}{np gA pos:Pos}{e₀:Expr}{rest:List Expr}{ta:TA}
theorem jD (ek:FW X.K C)(hc:X.calm=true)(hg:Gl X x)(hm:X.mg x=some (.ref C))(ha:PA X.nox (e₀::rest) ta)(hdb:(x == ("__debug__":Str))=false:=by decide)
  (he:ajJ (e₀::rest) X.env=(false,eval e₀ X.env)::ajJ rest X.env:=by rfl) (hpl:(backTo gA (ajJ rest X.env)).any (·.1)=false:=by rfl) :
  PSX X (.Raise (some (.Call (.Name x np) (e₀::rest) [] gA)) none pos) (λ_ E σ H=>ta σ H λvs H1=>vs.length<=ka/\E σ (.ref C) none H1):=by
 intro pins s σ H D E I h;obtain⟨nm,q,N,bs,bm,hdct,sn,sub,ab,col,dd,k0,k1,k2,k3,k5,l,n,T⟩:=ek.ex;have go:wpAny (model X.prog X.w) X.A (eval (.Call (.Name x np) (e₀::rest) [] gA) X.env) (λv s₁=>∃(e:Addr) (xd:Option Addr) (a0:Value) (sl:Array (Option Value)),v=.ref e/\s₁.heap.get? C=some (akh nm q C N bs bm hdct sn sub ab col dd k0 k1 k2 k3 k5 "ValueError.__new__") /\
   s₁.heap.get? e=some ⟨.ref C,xd,.fields #[a0,.none,.none,.none,.bool false,.none],sl⟩/\XPS X pins E (.ref e) s₁) (XPS X pins E) s:=by
  refine wpAny_Call_Name_kw (j8 I hg hm ?_ hdb);unfold callWith;rw[he];refine fe (akw (Calls.evalArgs_plain ?_));have ha':=ha gA pins s σ H _ (I.oI _) h;rw[show X.nox.env=X.env from rfl,he]at ha'
  refine ajT ha' (λus s₁ ⟨vs,H1,I1,r,hz,q1⟩=>fe (akD ?_)) λ_ _ z=>aj3 z
  have I1':=I1.eO;have kC:=I1'.kIn _ _ l;obtain⟨mN,kN,kI⟩:=n.ns I1'.kIn;have T1:=T.tail I1'.kIn;have pl:(backTo gA ((false,eval e₀ X.env)::ajJ rest X.env)).any (·.1)=false:=by
   show (false || (backTo gA (ajJ rest X.env)).any (·.1))=false
   rw[hpl];rfl
  obtain⟨hp,g',d',tk,os'⟩:=s₁;simp only[pl];refine fe (wpAny_keeperOf_exc kC ?_);refine fe (MX (F:=PySem.F.excBase_ValueError) T1 kC kN kI (by rw[List.nil_append,<-r.length];exact hz) λh' k ⟨tp,ke⟩=>fe (akw (wpAny_point (tm ?_))))
  have I2:Inv X pins σ H1 ⟨h',g',d',tk,os'⟩:=I1'.kept (t':=tk) k;refine⟨_,none,_,#[],rfl,k _ _ kC,ke,σ,_,_,none,none,H1,rfl,I2,⟨I1'.Ee (akH _) (I1'.hok.fresh (akH _)),_,_,ke,(by show 1 < 6;decide),rfl⟩,.inl rfl,q1⟩
 rw[arm_exec_Raise];have hb:bm.contains (.type "BaseException")=true:=(T.tail I.kIn).hasType (b:=true) (by decide +kernel)
 first
  |exact fe (akD (tE (C:=C) (nm:=nm) (q:=q) (N:=N) (bs:=bs) (bm:=bm) (hdct:=hdct) (sn:=sn) (sub:=sub) (ab:=ab) (col:=col) (dd:=dd) (k0:=k0) (k1:=k1) (k2:=k2) (k3:=k3) (k5:=k5) hb (I.ok.hd hc) (fe (ajT go (λv s₃ h₃=>fe (akD (tm h₃))) λ_ _ z=>z))))
  | (simp only[evalOpt,Option.map];exact fe (akD (tE (C:=C) (nm:=nm) (q:=q) (N:=N) (bs:=bs) (bm:=bm) (hdct:=hdct) (sn:=sn) (sub:=sub) (ab:=ab) (col:=col) (dd:=dd) (k0:=k0) (k1:=k1) (k2:=k2) (k3:=k3) (k5:=k5) hb (I.ok.hd hc) (fe (ajT go (λv s₃ h₃=>fe (akD (tm h₃))) λ_ _ z=>z)))))
end
end L2
set_option maxHeartbeats 4000000
namespace L2
open PySem PySem.Spec PyProof.Rows
theorem Dg {α β:Type}(f:α->β):∀(xs:List α) (n:Nat),(xs.eraseIdx n).map f=(xs.map f).eraseIdx n
 |[],_=>rfl
 |_::_,0=>rfl
 |x::xs,n+1=>by
  show f x::(xs.eraseIdx n).map f=f x::(xs.map f).eraseIdx n;rw[Dg f xs n]
section
variable{X:Cx}{pos:Pos}
theorem Vals.insert {xs:List V}{us:List Value}(r:Vals xs us){y:V}{u:Value}(ry:RelV y u)(k:Nat):Vals (xs.take k++y::xs.drop k) (us.take k++u::us.drop k):=(r.take k).append (.cons ry (r.drop k))
def R0:V->List V->Hp->VK->Prop:=λx vs H Q=>∃(l:Addr) (xs:List V) (i:Int) (k:Nat) (y:V),x=.ref l/\vs=[.int i,y]/\i=(k:Int)/\H l=some (.lst xs)/\k<=xs.length/\xs.length < ka/\Q .non (upd H l (.lst (xs.take k++y::xs.drop k)))
theorem MY:MtM X "list.insert" R0:=by
 intro pins s σ H x vs v us Q I rx rv h;obtain⟨l,xs,i,k,y,rfl,rfl,hi,hH,hk,hz,q⟩:=h;cases rx;obtain⟨u1,u2,rfl,r1,r2⟩:=rv.two;obtain⟨t,rfl⟩:=r1;obtain⟨z,its,n,r,hl,e⟩:=I.FL hH;have lim:ka=16777216:=by decide
 have a2:its.toArray.size<=ka:=by rw[ko];omega
 have b:Builtin.List.listFitsIndex i=true:=fitsIndex_both (by omega) (by omega)
 have nb:¬(!Builtin.List.listFitsIndex i)=true:=by rw[b];decide
 refine call_meets F.slot_list_insert ⟨_,e,rfl⟩ F.entry_list_insert (F.args_list_insert_3 _ _ _) (AutoSeq1.list_insert_list_int_val_1 l its.toArray n i t u2 nb a2) ⟨e,?_⟩;refine⟨.non,_,I.OB (its':=its.take k++u2::its.drop k) hH e ?_ (r.insert r2 k) ?_,rfl,q⟩
 ·show (its.toArray.extract 0 (if i < 0 then (i+(its.toArray.size:Int)).toNat else min i.toNat its.toArray.size)).push u2++its.toArray.extract (if i < 0 then (i+(its.toArray.size:Int)).toNat else min i.toNat its.toArray.size)=_
  have e1:(if i < 0 then (i+(its.toArray.size:Int)).toNat else min i.toNat its.toArray.size)=k:=by
   rw[ko,if_neg (by omega)]
   omega
  rw[e1];apply Array.toList_inj.mp;simp;exact List.take_of_length_le (by rw[akV];omega)
 ·rw[ky,ajK,akm,akV];omega
end
section
variable{X:Cx}{e:Expr}{te:TE}{y:Str}{j:Nat}{p1 p2 pos:Pos}
def tFR (K:ba)(te:TE)(y:Str):TE:=λσ H Q=>te σ H λx H1=>∃(a:Addr) (d:PyData),x=.ref a/\DV K H1 d x/\d.showable=true/\d.hasDict=false/\d.depth<=60/\d.shown.length+y.length<=ka/\∀z:Str,Q (.str z) H1
theorem len_app (a b:Str):(a++b).length=a.length+b.length:=by
 show (a.cps++b.cps).size=_;simp[Str.length]
theorem aag (hg:X.A.guards=some [])(hu:X.A.units+64 < cLine)(he:PE X e te):PE X (.JoinedStr [.FormattedValue e 114 none p1,.Constant (.str y) j p2] pos) (tFR X.K te y):=by
 intro pins s σ H Q I h;refine wpAny_JoinedStr ?_;show Joins _ _ _ [eval (.FormattedValue e 114 none p1) X.env,eval (.Constant (.str y) j p2) X.env] _ _ _;refine wpAny_FormattedValue_repr (thn (he pins s σ H _ I h) λv s1 ⟨x,H1,I1,r1,a,d,e1,hd,sh,nd,dp,sz,q⟩=>?_)
 subst e1;obtain rfl:v=adm a:=r1;obtain⟨as,rd⟩:=DV.reads I1 d hd rfl;refine pyReprObj_of_reads (h₀:=s1.heap) rd sh (λz=>absurd z (by rw[nd];decide)) hg (by omega) (λ_ _ z=>z) (λh' u tk hk=>?_) (by omega)
 have I2:Inv X pins σ H1 { s1 with heap:=h',toks:=tk }:=I1.kept hk
 have emp:(akc++d.shown:Str)=d.shown:=by
  apply En;rw[fB];rfl
 have go:∀(t:Tok) (s2:Shared),Inv X pins σ H1 s2->∃z t',Value.str d.shown t=.str z t'/\(akc++z).length<=ka/\Joins (model X.prog X.w) X.A X.xe [eval (.Constant (.str y) j p2) X.env] (akc++z) (λout s₁=>out.length<=ka/\EP X pins σ Q (.str out s₁.toks) { s₁ with toks:=s₁.toks+1 }) s2:=λt s2 I3=>by
  refine⟨_,_,rfl,by rw[emp];omega,Calls.Constant_str ⟨y,_,rfl,?_,?_⟩⟩
  ·rw[emp,len_app];omega
  ·refine⟨by rw[emp,len_app];omega,.str _,H1,(I3.tok _).tok _,⟨_,rfl⟩,q _⟩
 exact wpAny_formatField_str (go _ _ I2) (go _ _ (I2.tok _)) (by omega)
end
theorem OZ {K:ba}{a D:Addr}{xs:List V}{te:TE}{Q:VK}{σ:St}{H1:Hp}(Pv:Nat->List V->Hp->Prop)(h0:Pv 0 [] (upd H1 D (.lst [])))(hz:xs.length<=ka)
  (hl:∀i ys H2,i<=xs.length->Pv i ys H2->SqT K H2 a xs/\H2 D=some (.lst ys)/\ys.length=i)
  (hs:∀i x ys H2,xs[i]?=some x->Pv i ys H2->te (some x::σ) H2 (ib D xs.length Pv i ys)) (hd:∀ys H2,Pv xs.length ys H2->Q (.ref D) H2) :
  vm (Itt K a) te σ D H1 Q:=by
 refine⟨λi m ys H=>m=xs.length - i/\i<=xs.length/\Pv i ys H,⟨xs.length,by simp,akB _,h0⟩,?_⟩
 rintro i m ys H2 ⟨rfl,hi,p⟩;obtain⟨q,q2,q3⟩:=hl i ys H2 hi p;refine⟨q2,?_⟩
 by_cases hlt:i < xs.length
 ·refine .inr ⟨⟨xs,xs[i],q,by simp[hlt]⟩,by omega,λx H3 y=>?_⟩
  obtain⟨e,y⟩:=y;subst e;exact hs i x ys _ (y xs q) p
 ·have e:i=xs.length:=by omega
  subst e;exact .inl ⟨⟨xs,q,kr _⟩,hd ys H2 p⟩
theorem bV {K:ba}{H H':Hp}{t:Addr}{xs:List V}(s:bA H H')(h:SqT K H t xs):SqT K H' t xs:=by
 rcases h with (h | ⟨o,h⟩) | h
 ·exact .inl (.inl (s _ _ h))
 ·exact .inl (.inr ⟨o,s _ _ h⟩)
 ·exact .inr h
end L2
set_option maxHeartbeats 4000000
set_option maxHeartbeats 4000000
namespace L2
open PySem PySem.Spec PySem.Calls PyProof.Rows
def VR (n:Nat)(Cf:Nat->Addr)(m:Str)(spf:Nat->Sp)(E:XK)(ta:TE):TE:=λσ H Q=>ta σ H λx H1=>∃k,k < n/\∃a dx fs,x=.ref a/\H1 a=some (.ins (Cf k) dx fs)/\fs.lookup m=none/\spf k [x] H1 Q E
section
variable{X:Cx}{o:Expr}{ta:TE}{m:Str}{apos pos:Pos}{n:Nat}{Cf ff:Nat->Addr}{fdf:Nat->ki}{spf:Nat->Sp}{kk:Nat}{ps:List Str}{CX:CXT}{E:XK}
theorem lP {pl:Sem Bool}(he:PE X o ta)(c:∀k,k < n->Cls X.K (Cf k))(hm:∀k,k < n->Meth X.K (Cf k) m (ff k))(F:∀k,k < n->aJ X.prog X.w X.K X.mg X.base CX kk (ff k) (fdf k) ps (spf k))(hr:Room kk X.A)(hb:∀k,k < n->Binds X.K (fdf k) ps [])
  (hx:Passes CX X E)
  (ht:eval (.Call (.Attribute o m apos) [] [] pos) X.env=(do
   let ov <-eval o X.env
   standAt apos.atName
   let (f,first) <-holding [ov] (getMethod ov m pl)
   callWith pos f first (backTo pos (ajJ [] X.env)) (backToKw pos (keywordEach [] X.env))):=by rfl) :
  PE X (.Call (.Attribute o m apos) [] [] pos) (VR n Cf m spf E ta):=by
 intro pins s σ H Q I h;refine akC (pl:=pl) (thn (he pins s σ H _ I h) λu s1 ⟨x,H1,I1,rx,k,hk,a,dx,fs,ex,ea,l,q⟩=>?_) ht
 subst ex;obtain rfl:u=adm a:=rx;refine jB I1 ea (c k hk) (hm k hk) l ?_;exact ak6 (first:=[.ref a]) I1.kIn (hm k hk).kp (AE (us:=[.ref a]) (vs:=[.ref a]) (dvs:=[]) (F k hk) hr (hb k hk) .nil hx I1 (.cons rfl .nil) q)
theorem aah {P:rf}{w:World}{K:ba}{mg:Str->Option Value}{base:Heap}{CX:CXT}{k:Nat}{f:Addr}{fd:ki}{ps:List Str}{sp sp':Sp}(F:aJ P w K mg base CX k f fd ps sp)(G:aJ P w K mg base CX k f fd ps sp') :
  aJ P w K mg base CX k f fd ps (λvs H Q E=>sp vs H Q E\/sp' vs H Q E) :=
 ⟨λvs H Q E z=>z.elim (F.len vs H Q E) (G.len vs H Q E),λa b c H d e vs Q E p q r s z=>z.elim (F.run a b c H d e vs Q E p q r s) (G.run a b c H d e vs Q E p q r s)⟩
end
section
variable{X:Cx}
def VS (K:ba):V->List V->Hp->VK->Prop:=λx vs H Q=>∃(l:Addr) (ws:List Str) (z:Str) (j:Nat),x=.ref l/\vs=[.str z]/\SqL K H l (ws.map V.str)/\ws[j]?=some z/\(∀m,m < j->ws[m]?≠some z)/\Q (.int j) H
theorem O0:MtR X "list.index" (VS X.K):=by
 intro pins s σ H x vs v us Q I rx rv h;obtain⟨l,ws,z,j,rfl,rfl,hq,hj,hno,q⟩:=h;cases rx;obtain⟨u,rfl,t,rfl⟩:=vals1 rv;obtain⟨its,r,pl,hz⟩:=I.list hq;have hlen:=r.length;rw[cb]at hlen;obtain⟨⟨cls,dd,data,sl⟩,ho,hc,n,hd⟩:=pl.isList;simp only at hc hd;subst hc hd;have flat:(ws.map V.str).all vj=true:=by
  rw[List.all_eq_true];intro y hy;obtain⟨w,_,rfl⟩:=List.mem_map.mp hy;rfl
 have at_:∀(i:Nat) (h:i < its.toArray.size),∃w,ws[i]?=some w/\eqU (.str z) its.toArray[i]=(w == z):=λi h=>by
  have h':i < ws.length:=by rw[ko]at h;omega
  refine⟨ws[i],wa h',?_⟩;obtain⟨u,hu,ru⟩:=Vals.get r (show (ws.map V.str)[i]?=some (V.str ws[i]) by rw[aj7,wa h'];rfl)
  have e:its.toArray[i]=u:=by
   rw[wa (by rw[ko]at h;exact h)]at hu
   simpa using ajP hu
  rw[e,JH ru rfl];rfl
 have jl:j < ws.length:=(List.getElem?_eq_some_iff.mp hj).1;have hn:=um;have hsz:ws.length<=ka:=by rw[cb]at hz;exact hz
 refine call_meets PySem.F.slot_list_index ⟨_,ho,rfl⟩ PySem.F.entry_list_index (PySem.F.args_list_index_2 _ _) (SeqAt.list_indexAt l its.toArray n dd sl (.str z t) (eqU (.str z)) j (by rw[ko];omega) (by rw[sizeLine_eq]at hsz;omega) ?_ ?_) ⟨ho,λy hy=>vk (x:=.str z) (v:=.str z t) ⟨t,rfl⟩ rfl r flat y (by simpa using hy),?_⟩
 ·obtain⟨w,h1,h2⟩:=at_ j (by rw[ko];omega)
  rw[h2];obtain rfl:=ajP (h1.symm.trans hj);exact beq_self_eq_true _
 ·intro m hm hmj;obtain⟨w,h1,h2⟩:=at_ m hm;rw[h2];exact beq_eq_false_iff_ne.mpr λe=>hno m hmj (by rw[h1,e])
 ·exact⟨.int j,H,I.tok _,⟨_,rfl⟩,q⟩
end
end L2
set_option maxHeartbeats 4000000
set_option maxHeartbeats 4000000
namespace L2
open PySem PySem.Spec PySem.Calls PyProof.Rows
def KeysAre:List akI->List Str->Prop
 |[],ns=>ns=[]
 |e::r,ns=>∃x xs t,ns=x::xs/\e.key=.str x t/\KeysAre r xs
structure LY (P:Params)(K:ba)(a:Addr)(ns:List Str):Prop where
 ex:∃es n,K.lookup a=some ⟨.type "dict",none,.dict es n,#[]⟩/\PySem.W.KeysLit P es.toList/\KeysAre es.toList ns
 nd:ns.Nodup
 lo:(a == akY)=false
theorem JR {prog:rf}{w:World}:∀(es:List akI) (ns:List Str),PySem.W.KeysLit w.params es->KeysAre es ns->∃kvs:List (Str×Value),Pairs (strKind prog w) es kvs/\kvs.map (·.1)=ns:=by
 intro es
 induction es with
 |nil =>
  intro ns _ h;have h':ns=[]:=h;subst h';exact⟨[],by first | exact .nil | exact trivial | exact rfl | constructor,rfl⟩
 |cons e r ih =>
  rintro ns ⟨⟨x,t,e1,e2⟩,hk⟩ ⟨y,ys,t',rfl,e3,hr⟩;obtain⟨kvs,h1,h2⟩:=ih ys hk hr;rw[e1]at e3;injection e3 with e4 _
  subst e4;exact⟨(x,e.val)::kvs,.cons (by rw[e1];exact strKind_is prog w x t) rfl h1,by rw[kj,h2]⟩
theorem LY.at {prog:rf}{w:World}{K:ba}{a:Addr}{ns:List Str}(T:LY w.params K a ns):∃(kvs:List (Str×Value)) (n:Nat),kvs.map (·.1)=ns/\∀h:Heap,K.In h->h.DictAt (strKind prog w) a kvs n:=by
 obtain⟨es,n,hl,hk,ha⟩:=T.ex;obtain⟨kvs,h1,h2⟩:=JR (prog:=prog) es.toList ns hk ha;refine⟨kvs,n,h2,λh X=>⟨_,es,X _ _ hl,⟨rfl,rfl,rfl⟩,rfl,λe he=>?_,h1,by rw[h2];exact T.nd⟩⟩
 obtain⟨x,t,e1,e2⟩:=hk.all e (Array.mem_toList_iff.mpr he);exact⟨x,by rw[e1];exact strKind_is prog w x t,e2⟩
def FX (n:Nat)(Pv:Nat->List V->Hp->Prop)(i:Nat)(ys:List V)(H4:Hp):Prop:=∃m',m' < n - i/\m'=n - (i+1)/\i+1<=n/\Pv (i+1) ys H4
theorem FX.mk {n:Nat}{Pv:Nat->List V->Hp->Prop}{i:Nat}{ys:List V}{H4:Hp}(hi:i < n)(h:Pv (i+1) ys H4):FX n Pv i ys H4:=⟨n - (i+1),by omega,rfl,hi,h⟩
end L2
set_option maxHeartbeats 4000000
namespace L2
open PySem PySem.Spec PyProof.Rows
inductive VT:List Expr->List Str->Prop
 |nil:VT [] []
 |cons {x:Str} {j:_} {p:Pos} {es:List Expr} {ss:List Str}:VT es ss->VT (.Constant (.str x) j p::es) (x::ss)
end L2
set_option maxHeartbeats 4000000
namespace L2
open PySem PySem.Spec PyProof.Rows
structure AL (scope outer:Scope)(xs N M:List Str):Prop where
 kind:scope.kind=.function
 OK:outer.kind=.function
 Eo:∀y∈scope.names,y.2≠.cell
 names:∀y∈scope.names,y.2=.local->scope.names.lookup y.1=some .local
 hx:∀x∈xs,scope.names.lookup x=some .local
 free:∀y∈scope.names,y.2=.free->outer.names.lookup y.1=some .cell
 nl:∀n∈M,(fN scope outer).names.lookup n≠some .local
 nd2:(xs++M).Nodup
 nd:N.Nodup
 len:M.length=N.length
 rel:∀i:Nat,i < N.length->M[i]?=N[i]?\/M[i]?=some akc
 em:(fN scope outer).names.lookup akc=none
theorem AL.mem {scope outer:Scope}{xs:List Str}{N M:List Str}(S:AL scope outer xs N M){n:Str}{k:NameKind}(h:(fN scope outer).names.lookup n=some k)(hk:k=.cell\/k=.free) :
  k=.cell/\(n,akN)∈scope.names/\outer.names.lookup n=some .cell:=by
 obtain⟨⟨n',k'⟩,hm,e⟩:=List.mem_map.mp (akL h);dsimp only at e
 by_cases hc:(k' == akN && outer.kind == .function && outer.names.lookup n' == some .cell)=true
 ·rw[if_pos hc]at e;injection e with e1 e2
  subst e1 e2;rw[akz,akz]at hc;have hk':k'=.free:=beq_iff_eq.mp hc.1.1;subst hk';exact⟨rfl,hm,beq_iff_eq.mp hc.2⟩
 ·rw[if_neg hc]at e;injection e with e1 e2
  subst e1 e2;rcases hk with z | z
  ·exact absurd z (S.Eo _ hm)
  ·subst z
   exfalso
   refine hc ?_;rw[S.free _ hm rfl,S.OK];rfl
def aai (t:TAX):TEX:=λσ H Q E=>t σ H (λxs H1=>xs.length<=ka/\∀p,H1 p=none->Q (.ref p) (upd H1 p (.tup xs))) E
theorem Ae {X:Cx}{es:List Expr}{t:TAX}{x1:_}{pos:Pos}(h:PAX X es t):PEX X (.Tuple es x1 pos) (aai t):=by
 intro pins s σ H Q E I hq;refine wpAny_Tuple_spliced (thn (h pos pins s σ H _ E I hq) λus s1 ⟨xs,H1,I1,r,z,q⟩=>⟨by rw[<-r.length];exact z,?_⟩)
 have hf:H1 s1.heap.objs.size=none:=I1.hok.fresh (kr _);refine⟨.ref s1.heap.objs.size,upd H1 s1.heap.objs.size (.tup xs),I1.laid (t':=s1.toks) (λb u e=>kf _ e) (kr _) ?_,rfl,q _ hf⟩
 exact⟨z,us,r,⟨_,ajU _ rfl,rfl,_,rfl⟩⟩
end L2
set_option maxHeartbeats 4000000
namespace L2
open PySem PySem.Spec PyProof.Rows
abbrev TJ:=St->Hp->Str->(Str->Hp->Prop)->Prop
def PJ (X:Cx)(es:List Expr)(t:TJ):Prop :=
 ∀(pins:List (Addr×Obj)) (s:Shared) (σ:St) (H:Hp) (acc:Str) (Q:Str->Hp->Prop),Inv X pins σ H s->t σ H acc Q ->
  Joins (model X.prog X.w) X.A X.xe (evalEach es X.env) acc (λout s1=>∃H1,Inv X pins σ H1 s1/\out.length<=ka/\Q out H1) s
theorem Joins.mono {M:Model}{A:Around}{E:Value->Shared->Prop}{Q Q':Str->Shared->Prop}(hQ:∀o s,Q o s->Q' o s):∀ {ps:List (Sem Value)} {acc:Str} {s:Shared},Joins M A E ps acc Q s->Joins M A E ps acc Q' s
 |[],_,_,h=>hQ _ _ h
 |_::_,_,_,h=>ajT h (λ_ _ ⟨y,t,e,l,r⟩=>⟨y,t,e,l,Joins.mono hQ r⟩) λ_ _ z=>z
inductive Eu:V->Str->Prop
 |int {i:Int}:i.natAbs.log2 < 1920->Eu (.int i) (toString i)
 |str {x:Str}:Eu (.str x) x
section
variable{X:Cx}{e:Expr}{es:List Expr}{te:TE}{t:TJ}{y:Str}{j:Nat}{p1 p2 pos:Pos}
theorem xb:PJ X [] (λ_ H acc Q=>acc.length<=ka/\Q acc H):=λ_ _ _ H _ _ I h=>⟨H,I,h.1,h.2⟩
theorem l8 (h:PJ X es t):PJ X (.Constant (.str y) j p1::es) (λσ H acc Q=>(acc++y).length<=ka/\t σ H (acc++y) Q):=by
 intro pins s σ H acc Q I hw;show wpAny _ _ (eval (.Constant (.str y) j p1) X.env) _ _ s;exact Calls.Constant_str ⟨y,_,rfl,hw.1,h pins _ σ H _ Q (I.tok _) hw.2⟩
theorem xc (he:PE X e te)(h:PJ X es t):PJ X (.FormattedValue e (-1) none p1::es) (λσ H acc Q=>te σ H λx H1=>∃z,Eu x z/\z.length<=ka/\(acc++z).length<=ka/\t σ H1 (acc++z) Q):=by
 intro pins s σ H acc Q I hw;show wpAny _ _ (eval (.FormattedValue e (-1) none p1) X.env) _ _ s;refine wpAny_FormattedValue_plain (thn (he pins s σ H _ I hw) λv s1 ⟨x,H1,I1,r1,z,fz,l1,l2,q⟩=>?_)
 cases fz with
 |int hl =>
  obtain⟨tk,rfl⟩:=r1;exact wpAny_formatField_int hl ⟨_,_,rfl,l2,h pins _ σ H1 _ Q ((I1.tok _).tok _) q⟩
 |str =>
  obtain⟨tk,rfl⟩:=r1;exact wpAny_formatField_str ⟨_,_,rfl,l2,h pins _ σ H1 _ Q I1 q⟩ ⟨_,_,rfl,l2,h pins _ σ H1 _ Q (I1.tok _) q⟩ l1
theorem Dh {e₂:Expr}(h:PJ X (e::e₂::es) t):PE X (.JoinedStr (e::e₂::es) pos) (λσ H Q=>t σ H akc λz H1=>Q (.str z) H1):=by
 intro pins s σ H Q I hw;refine wpAny_JoinedStr ?_;have:=h pins s σ H akc _ I hw;refine Joins.mono ?_ this;rintro out s1 ⟨H1,I1,l,q⟩;exact⟨l,.str out,H1,I1.tok _,⟨_,rfl⟩,q⟩
end
def xi (a C:Addr)(xd:Option Addr):HO:=.ext λh=>∃a0:Addr,h.get? a=some ⟨.ref C,xd,.fields #[.ref a0,.none,.none,.none,.bool false,.none],#[]⟩
section
variable{P:rf}{w:World}{H:Hp}{h:Heap}{a C:Addr}{xd:Option Addr}
theorem O1 {a0:Addr}(e:h.get? a=some ⟨.ref C,xd,.fields #[.ref a0,.none,.none,.none,.bool false,.none],#[]⟩):dU P w H h a (xi a C xd) :=
 ⟨⟨a0,e⟩,⟨_,e⟩,λ_ _ ⟨b,z⟩ k=>⟨b,k _ z⟩⟩
theorem O2 (x:dU P w H h a (xi a C xd)):∃a0:Addr,h.get? a=some ⟨.ref C,xd,.fields #[.ref a0,.none,.none,.none,.bool false,.none],#[]⟩:=x.1
end
structure T2 (K:ba)(D:Addr):Prop where
 rd:PySem.W.readsIn K D (.type "type")=true
 sp:PySem.W.specialIn K (.ref D) "__getattribute__"=some (some (.builtin "type.__getattribute__"))
 fc:PySem.W.findCls K (.ref D) (.type "type") "__init__"=some (.val (.builtin "ValueError.__init__"))
structure Ew (K:ba)(N f:Addr):Prop where
 ex:∃(c:Value) (dd:Option Addr) (es:Array akI) (n:Nat) (sl:Array (Option Value)),K.lookup N=some ⟨c,dd,.dict es n,sl⟩/\strKeys es=true
 at_:eg K N "__init__"=some (some (.ref f))
theorem Ew.ns {K:ba}{N f:Addr}(x:Ew K N f){h:Heap}(X:K.In h):∃mN,h.Ns N mN/\mN "__init__"=some (.ref f):=by
 obtain⟨⟨c,dd,es,n,sl,l,sk⟩,no⟩:=x;have ns:h.Ns N (nsFind es):=⟨_,es,n,X _ _ l,rfl,λe he=>by
  have z:=List.all_eq_true.mp sk e (Array.mem_toList_iff.mpr he);cases hk:e.key with
  |str y t=>exact⟨y,t,rfl⟩
  |_=>rw[hk]at z;exact absurd z ku,λ_=>rfl⟩
 refine⟨_,ns,?_⟩;unfold eg at no;rw[l]at no;dsimp only at no;unfold nsFind findBy;rw[<-Array.find?_toList];cases hf:es.toList.find? (λe=>e.key.isStr "__init__") with
 |none =>
  rw[hf]at no;dsimp only at no
  by_cases q:es.toList.any (·.refKey)=true
  ·rw[if_pos q]at no;cases no
  ·rw[if_neg q]at no;cases no
 |some e=>rw[hf]at no;exact ajP no
structure Ex (K:ba)(C f:Addr)(name:Str):Prop where
 ex:∃(nm q:Str) (N:Addr) (bs bm:List Value) (hdct:Bool) (sn:List Str) (sub:List Value) (ab:Bool) (col:Option Bool) (dd:Option Addr) (k0 k1 k2 k3 k5:Option Value),
  K.lookup C=some (akh nm q C N bs bm hdct sn sub ab col dd k0 k1 k2 k3 k5 "ValueError.__new__")/\i6 K bm/\hdct=true/\Ew K N f
 fn:ma K (.ref f)=true
 sa:bo K (.ref C) "__setattr__"=some (some (.builtin "object.__setattr__"))
 na:bo K (.ref C) name=some none
section
variable{X:Cx}{pins:List (Addr×Obj)}{σ:St}{H:Hp}{s:Shared}{C f:Addr}{name:Str}
theorem i6.pass {K:ba}{bm:List Value}(x:i6 K bm)(self:Value):refuseLoop self "__setattr__" bm=pure ():=by
 induction x with
 |base=>exact PySem.F.store_ValueError.passes self
 |own _ _ _ ih=>rw[refuseLoop_ref];exact ih
theorem JS {xk:Ex X.K C f name}:lx X (.builtin "ValueError.__init__") (λxs H Q=>∃ea v,xs=[.ref ea,v]/\H ea=some (xi ea C none)/\Q .non H):=by
 intro pins s σ H xs us Q I r h;obtain⟨ea,v,rfl,hx,q⟩:=h;obtain⟨nm,qn,N,bs,bm,hdct,sn,sub,ab,col,dd,k0,k1,k2,k3,k5,l,T,hd,hi⟩:=xk.ex;obtain⟨u,u2,rfl,rx,rv⟩:=vals2 r;cases rx;obtain⟨a0,e⟩:=O2 (P:=X.prog) (w:=X.w) (I.hok _ _ hx);have kC:=I.kIn _ _ l;have T1:=T.tail I.kIn;have F:=PySem.F.excBase_ValueError;have ha:X.A.handled=X.A.handled:=rfl;obtain⟨hp,g,d,tk,os⟩:=s;dsimp only at e kC T1;refine wpAny_call (codeAny_call_builtin F.init.plain F.initEntry (wpAny_check_init_subT F T1 kC e rfl ?_))
 wp_walk
 have hE:ea≠hp.objs.size:=ajV (si e);have e1:(hp.push { cls:=.type "tuple",data:=.seq #[u2] }).get? ea=_:=kf _ e;have k:∀b o,b≠ea->hp.get? b=some o->((hp.push { cls:=.type "tuple",data:=.seq #[u2] }).update ea (akJ λx=>x.setIfInBounds 0 (.ref hp.objs.size))).get? b=some o:=λb o hb q =>
  (akq _ _ (aj2 hb)).trans (kf _ q)
 have e2:((hp.push { cls:=.type "tuple",data:=.seq #[u2] }).update ea (akJ λx=>x.setIfInBounds 0 (.ref hp.objs.size))).get? ea=some ⟨.ref C,none,.fields #[.ref hp.objs.size,.none,.none,.none,.bool false,.none],#[]⟩:=akM _ e1 rfl
 have un:upd H ea (xi ea C none)=H:=by
  funext b
  by_cases z:b=ea
  ·rw[z,ae,hx]
  ·rw[aq z]
 have I2:=I.write (x:=ea) (e:=ea) (o:=xi ea C none) (t':=tk) (by rw[hx];exact akA) (.inl rfl) k ⟨_,e2⟩ (O1 e2)
 rw[un]at I2;exact⟨.non,H,I2,rfl,q⟩
end
end L2
set_option maxHeartbeats 4000000
namespace L2
open PySem PySem.Spec PyProof.Rows PySem.Builtin PySem.Builtin.ObjectAttr
section
variable{prog:rf}{w:World}{A:Around}{E:Value->Shared->Prop}{K:ba}{x C f:Addr}{name:Str}{v:Value}
theorem O3 {s:Shared}{vs:Array Value}{sl:Array (Option Value)}{Q:Unit->Shared->Prop}(X:K.In s.heap)(xk:Ex K C f name)(hx:s.heap.get? x=some ⟨.ref C,none,.fields vs,sl⟩)
  (h:∀h' tk,h'.get? x=some ⟨.ref C,some s.heap.objs.size,.fields vs,sl⟩->h'.Ns1 s.heap.objs.size (λy=>if y=name then some v else none)->(∀b o,b≠x->s.heap.get? b=some o->h'.get? b=some o) ->
   Q () { s with heap:=h',toks:=tk }):wpAny (model prog w) A (setAttr (.ref x) name v) Q E s:=by
 obtain⟨nm,qn,N,bs,bm,hdct,sn,sub,ab,col,dd,k0,k1,k2,k3,k5,l,T,hd,hi⟩:=xk.ex;subst hd;obtain⟨hp,g,d,tk,os⟩:=s;dsimp only at hx h X;have J:PySem.W.InstAt hp x ⟨.ref C,none,.fields vs,sl⟩ C none:=⟨hx,rfl,rfl,trivial⟩;have SF:=PySem.F.store_object;have kC:=X _ _ l;have hT:=T.tail X;have hob:(adm C::bm).contains (.type "object")=true:=by rw[List.contains_cons,hT.hasType (b:=true) (by decide +kernel),Bool.or_true]
 have pass:refuseLoop (.ref x) "__setattr__" (.ref C::bm)=pure ():=by rw[refuseLoop_ref];exact T.pass _
 refine PySem.W.set_plain X J xk.sa ?_;have sb:PySem.W.Looks (model prog w) hp (isInstance (.ref x) (.type "object")) true:=J.type.andThen (PySem.W.looks_mroIn X (by unfold akt PySem.W.clsIn;rw[l];simpa using hob))
 refine codeAny_call_builtin SF.slot.plain SF.entry (@PySem.W.check_slot (model prog w) _ _ ⟨hp,g,d,tk+1,os⟩ "object.__setattr__" "object" "__setattr__" (.ref x) [.str name tk,v] [] _ SF.kind SF.split sb (SF.args (.ref x) (.str name tk) v) ?_);have hm:PySem.W.Looks (model prog w) hp (mroOf (.ref C)) (.ref C::bm):=(PySem.W.looks_clsIn X (by unfold PySem.W.clsIn;rw[l])).andThen .now
 rw[PySem.W.osa_eq,refuse_eq];refine fe (fe ((J.type (M:=model prog w)).at (fe (hm.at ?_))));rw[pass];refine tm (fe ((J.type (M:=model prog w)).at (fe ((ak3 X xk.na).at (fe ((show PySem.W.Looks (model prog w) hp (storeTaker? none) none from .now).at ?_))))))
 have hxs:x≠hp.objs.size:=ajV (si hx);obtain⟨cd,hcl,hdd⟩:∃cd,PySem.W.clsIn K C=some cd/\cd.hasDict=true:=⟨_,by unfold PySem.W.clsIn;rw[l],rfl⟩
 refine fe (tm (fe (fe (wpAny_loadPart hx (fe ((PySem.W.looks_clsIn X hcl).at ?_))))));rw[hdd];have hx₁:(hp.push { cls:=.type "dict",data:=.dict #[] }).get? x=some _:=kf _ hx;refine fe (wpAny_alloc' ?_);refine fe (wpAny_update' hx₁ ?_);refine tm ?_;have hgd:((hp.push { cls:=.type "dict",data:=.dict #[] }).update x λo=>{ cls:=o.cls,dict:=some hp.objs.size,data:=o.data,slots:=o.slots }).get? hp.objs.size
   = some { cls:=.type "dict",data:=.dict #[] } :=
  (Heap.get?_update_ne _ _ _ _ hxs.symm).trans (Heap.get?_push_at rfl rfl)
 have hnd:((hp.push { cls:=.type "dict",data:=.dict #[] }).update x λo=>{ cls:=o.cls,dict:=some hp.objs.size,data:=o.data,slots:=o.slots }).Ns hp.objs.size (λ_=>none) :=
  ⟨_,#[],_,hgd,rfl,λe he=>absurd he (by simp),λ_=>rfl⟩
 show wpAny _ _ (storeInDict hp.objs.size (.str name tk) name v) _ _ _;unfold storeInDict newKeyGuard;refine fe (tm (fe (wpAny_nsSet1 (Heap.Ns1.of_empty hnd) λh' hn' hs=>?_)))
 obtain⟨oD,esD,epD,hoD,hdD,hcD⟩:=hn'.count (Within.cons name v Within.nil);refine fe (wpAny_lookBehind hoD (by rw[hdD];exact pastItsLine_dict (ajI hcD (by rw[ajK,ak9,sizeLine_eq];omega))) ?_)
 refine tm (h h' _ ?_ hn' λb ob hbx hb=>(hs.2 b (ajV (si hb))).trans ((Heap.get?_update_ne _ _ _ _ hbx).trans (kf _ hb)))
 exact(hs.2 x hxs).trans (akM _ hx₁ rfl)
end
end L2
set_option maxHeartbeats 4000000
namespace L2
open PySem PySem.Spec PyProof.Rows
section
variable{prog:rf}{w:World}{A:Around}{E:Value->Shared->Prop}{h:Heap}{g:Array GenState}{d:Drawn}{t:Nat}{os:OsState}
variable{nm q:Str}{C N fI:Addr}{bs bm bmB:List Value}{hdct:Bool}{sn:List Str}{sub:List Value}{ab:Bool}{col:Option Bool}{dd:Option Addr}{k0 k1 k2 k3 k5:Option Value}{B nid iid:String}{K:ba}
theorem MZ (X:K.In h)(F:ExcBaseFacts B nid iid bmB)(T:OwnTail h bmB bm){mN:Str->Option Value}{us:List Value}{Q:Fin->Shared->Prop}
  (kC:h.get? C=some (akh nm q C N bs bm hdct sn sub ab col dd k0 k1 k2 k3 k5 nid)) (kN:h.Ns N mN) (kI:mN "__init__"=some (.ref fI)) (hf:PySem.W.typeIn K (.ref fI)=some (.type "function")) (hz:us.length<=ka)
  (hq:wpAny (model prog w) A (call (.ref fI) (.ref (h.objs.size+1)::us)) (λr s'=>r=.none/\Q (.done (.ret (.ref (h.objs.size+1)))) s') E ⟨ni h C us,g,d,t,os⟩) :
  wpAny (model prog w) A (Builtin.«type.__call__» ⟨.ref C::us,[]⟩) Q E ⟨h,g,d,t,os⟩:=by
 repeat (first | with_reducible refine wpAny_loadPart_at kC ?_ | with_reducible refine wpAny_madeBy_exc kC ?_ | wp_step)
 refine codeAny_call_builtin_code (Code.quiet_builtin _ F.quiet) (wpAny_check_new_subT F T kC (codeAny_exc_new_subT F T kC ?_ hz));show wpAny _ _ _ _ _ _;have kC1:(ni h C us).get? C=_:=fQ kC;have kN1:(ni h C us).Ns N mN:=kN.keeps λb o e=>fQ e
 have X1:K.In (ni h C us):=X.keeps λb o e=>fQ e
 have T1:OwnTail (ni h C us) bmB bm:=T.keeps λb o e=>fQ e
 have kE:=AK (h:=h) (C:=C) (us:=us);have self:(adm C::bm).contains (.ref C)=true:=by simp
 unfold isInstance
 repeat (first | with_reducible refine wpAny_loadPart_at kE ?_ | (with_reducible refine wpAny_isSubtype_exc kC1 ?_;rw[self]) | wp_step)
 show wpAny _ _ (typeLookup (.ref C) _) _ _ _;refine wpAny_typeLookup_tail kC1 kN1 T1 F.mroIs F.init.lookup ?_;rw[kI];refine akw (fe ((PySem.W.bind_fn X1 (.ref (h.objs.size+1)) hf).at ?_));refine fe (ajT hq (λr s' hr=>?_) λ_ _ z=>z)
 obtain⟨rfl,hQ⟩:=hr
 wp_walk
 exact hQ
theorem O4 (X:K.In h)(F:ExcBaseFacts B nid iid bmB)(T:OwnTail h bmB bm){mN:Str->Option Value}{us:List Value}{Q:Value->Shared->Prop}
  (kC:h.get? C=some (akh nm q C N bs bm hdct sn sub ab col dd k0 k1 k2 k3 k5 nid)) (kN:h.Ns N mN) (kI:mN "__init__"=some (.ref fI)) (hf:PySem.W.typeIn K (.ref fI)=some (.type "function")) (hz:us.length<=ka)
  (hq:wpAny (model prog w) (A.under (.builtin "type.__call__" ⟨.ref C::us,[]⟩)) (call (.ref fI) (.ref (h.objs.size+1)::us)) (λr s'=>r=.none/\Q (.ref (h.objs.size+1)) s') E ⟨ni h C us,g,d,t,os⟩) :
  wpAny (model prog w) A (call (.ref C) us) Q E ⟨h,g,d,t,os⟩:=by
 have l1:=tc_lookup;have l2:=tc_bind (.ref C);have ty:(⟨h,g,d,t,os⟩:Shared).TypeIs (.ref C) "type":=⟨_,kC,rfl⟩;refine wpAny_call (codeAny_of_tree ?_);show wpAny _ _ (callAny (.ref C) _) _ _ _
 repeat (any_goals (first | assumption | with_reducible refine wpAny_loadPart_at kC ?_ | wp_step))
 exact⟨rfl,codeAny_call_builtin_at (Code.quiet_builtin _ (by decide +kernel)) entry_typeCall (wpAny_check_type_call_sub kC (MZ X F T kC kN kI hf hz hq))⟩
end
def CA (C:Addr)(name:Str):Sp:=λvs H Q _=>∃(e:Addr) (v:V),vs=[.ref e,v]/\H e=some (xi e C none)/\(∃z,Eu v z/\z.length<=10000)/\∀d,H d=none->Q .non (upd (upd H d (.xd [(name,v)])) e (xi e C (some d)))
section
variable{X:Cx}{pins:List (Addr×Obj)}{σ:St}{H:Hp}{s:Shared}{C f:Addr}{name x:Str}{fd:ki}{ps:List Str}{k:Nat}{np gA pos:Pos}{e₀:Expr}{ta:TA}
theorem M0 {E:Value->Shared->Prop}{v:V}{u:Value}{Q:Value->Shared->Prop}(xk:Ex X.K C f name)(F:aJ X.prog X.w X.K X.mg X.base CX0 k f fd ps (CA C name))(hr:Room (k+1) X.A)(hb:Binds X.K fd ps [])(I:Inv X pins σ H s)(r:RelV v u)
  (hv:∃z,Eu v z/\z.length<=10000)
  (h:∀(e d:Addr) (a0:Value) (s':Shared),H d=none->Inv X pins σ (upd H d (.xd [(name,v)])) s'->k9 X pins (upd H d (.xd [(name,v)])) e->s'.heap.get? e=some ⟨.ref C,some d,.fields #[a0,.none,.none,.none,.bool false,.none],#[]⟩->Q (.ref e) s') :
  wpAny (model X.prog X.w) X.A (call (.ref C) [u]) Q E s:=by
 obtain⟨nm,qn,N,bs,bm,hdct,sn,sub,ab,col,dd,k0,k1,k2,k3,k5,l,T,hd,hi⟩:=xk.ex;obtain⟨mN,kN,kI⟩:=hi.ns I.kIn;have fre:=I.hok.fresh (kr _);obtain⟨hp,g,dr,tk,os⟩:=s;have ne:H (hp.objs.size+1)=none:=I.hok.fresh (akH _);have I2:Inv X pins σ (upd H (hp.objs.size+1) (xi (hp.objs.size+1) C none)) ⟨ni hp C [u],g,dr,tk,os⟩ :=
  I.laid (h':=ni hp C [u]) (t':=tk) (λb o q=>fQ q) (akH _) (O1 AK)
 have r2:Vals [V.ref (hp.objs.size+1),v] [adm (hp.objs.size+1),u]:=.cons rfl (.cons r .nil);have hsp:CA C name [V.ref (hp.objs.size+1),v] (upd H (hp.objs.size+1) (xi (hp.objs.size+1) C none))
   (λv' H'=>v'=.non/\∃d,H d=none/\d≠hp.objs.size+1/\H'=upd (upd (upd H (hp.objs.size+1) (xi (hp.objs.size+1) C none)) d (.xd [(name,v)])) (hp.objs.size+1) (xi (hp.objs.size+1) C (some d))) E0:=by
  refine⟨_,v,rfl,ae,hv,λd hd=>⟨rfl,d,?_,?_,rfl⟩⟩
  ·by_cases z:d=hp.objs.size+1
   ·rw[z,ae]at hd;cases hd
   ·rwa [aq z]at hd
  ·intro z;rw[z,ae]at hd;cases hd
 have hl:[adm (hp.objs.size+1),u].length=ps.length:=by rw[<-r2.length];exact F.len _ _ _ _ hsp
 refine O4 I.kIn (F:=PySem.F.excBase_ValueError) (T.tail I.kIn) (I.kIn _ _ l) kN kI (beq_iff_eq.mp xk.fn) (show 1<=ka by decide) (wpAny_call (codeAny_mono (F.run _ X.stack _ _ ⟨[adm (hp.objs.size+1),u],[]⟩ _ _ _ E0 (hr.make C [u] [])
  (I2.RG.make C [u] []) (hb _ [adm (hp.objs.size+1),u] I2.kIn (by rw[ak1];exact hl)) (by rw[ak1];exact r2) hsp) λrr s' hq=>?_))
 cases rr with
 |error e=>exact hq.elim
 |ok fl =>
  cases fl with
  |ret u' =>
   obtain⟨v',H',os',bare,un,hok,rv,rfl,d,hd1,hd2,rfl⟩:=hq;cases rv;refine⟨rfl,?_⟩;have HeE:∀ {o:HO},upd (upd (upd H (hp.objs.size+1) (xi (hp.objs.size+1) C none)) d (.xd [(name,v)])) (hp.objs.size+1) o (hp.objs.size+1)=some o:=ae;have Hne:∀b,b≠hp.objs.size+1->upd (upd (upd H (hp.objs.size+1) (xi (hp.objs.size+1) C none)) d (.xd [(name,v)])) (hp.objs.size+1) (xi (hp.objs.size+1) C (some d)) b=upd H d (.xd [(name,v)]) b:=λb hb=>by
    rw[aq hb]
    by_cases z:b=d
    ·rw[z,ae,ae]
    ·rw[aq z,aq z,aq hb]
   have He2:upd H d (.xd [(name,v)]) (hp.objs.size+1)=none:=by rw[aq (aj2 hd2)];exact ne
   have U1:Un (frs X.stack) [] H (upd H (hp.objs.size+1) (xi (hp.objs.size+1) C none)) hp (ni hp C [u]):=Un.laid (λb o q=>fQ q) (akH _) ne
   have U2:=U1.trans un;have lt:∀b o,hp.get? b=some o->b≠hp.objs.size+1:=λb o q=>ajV (Nat.lt_succ_of_lt (si q))
   have U3:Un (frs X.stack) [] H (upd H d (.xd [(name,v)])) hp s'.heap:=by
    refine⟨U2.keep,U2.slot,λb o q n hx=>?_,U2.there,λb xs q=>?_,λb o u q=>?_,λb p q=>?_⟩
    ·have z:=U2.free b o q n hx
     rwa [Hne b (lt b o q)]at z
    ·have z:=U2.u5 b xs q
     rwa [Hne b (λe=>by rw[e,ne]at q;cases q)]at z
    ·have z:=U2.uj b o u q
     rwa [Hne b (λe=>by rw[e,ne]at q;cases q)]at z
    ·obtain⟨m,z⟩:=U2.u9 b p q;rw[Hne b (λe=>by rw[e,ne]at q;cases q)]at z
     exact⟨m,z⟩
   have K3:HOk X.prog X.w (upd H d (.xd [(name,v)])) s'.heap:=λa o q=>by
    have ha:a≠hp.objs.size+1:=λe=>by rw[e,He2]at q;cases q
    refine(hok a o (by rw[Hne a ha];exact q)).Cu (λb u _ z=>z) (λb z=>?_) (λb xs z=>?_)
    ·rwa [Hne b (λe=>by rw[e,HeE]at z;cases z)]at z
    ·rwa [Hne b (λe=>by rw[e,HeE]at z;cases z)]at z
   obtain⟨a0,ea⟩:=O2 (P:=X.prog) (w:=X.w) (hok _ _ HeE);have I3:Inv X pins σ (upd H d (.xd [(name,v)])) s':=I.Og (ch:=[]) os' U3 K3 bare λb z=>absurd z (by simp)
   exact h _ d (.ref a0) s' hd1 I3 (I.Ee (akH _) He2) ea
  |next=>exact aj3 hq
  |brk=>exact aj3 hq
  |cont=>exact aj3 hq
theorem p9 (xk:Ex X.K C f name)(F:aJ X.prog X.w X.K X.mg X.base CX0 k f fd ps (CA C name))(hr:Room (k+1) X.A)(hb:Binds X.K fd ps [])(hc:X.calm=true)(hg:Gl X x)(hm:X.mg x=some (.ref C))(ha:PA X.nox [e₀] ta)
  (hdb:(x == ("__debug__":Str))=false:=by decide) (he:ajJ [e₀] X.env=[(false,eval e₀ X.env)]:=by rfl) :
  PSX X (.Raise (some (.Call (.Name x np) [e₀] [] gA)) none pos) (λ_ E σ H=>ta σ H λvs H1=>∃v,vs=[v]/\(∃z,Eu v z/\z.length<=10000)/\∀d,H1 d=none->E σ (.ref C) (some d) (upd H1 d (.xd [(name,v)]))):=by
 intro pins s σ H D E I h;obtain⟨nm,q,N,bs,bm,hdct,sn,sub,ab,col,dd,k0,k1,k2,k3,k5,l,T,hd,hi⟩:=xk.ex;have go:wpAny (model X.prog X.w) X.A (eval (.Call (.Name x np) [e₀] [] gA) X.env) (λv s₁=>∃(e:Addr) (xd:Option Addr) (a0:Value) (sl:Array (Option Value)),v=.ref e/\s₁.heap.get? C=some (akh nm q C N bs bm hdct sn sub ab col dd k0 k1 k2 k3 k5 "ValueError.__new__") /\
   s₁.heap.get? e=some ⟨.ref C,xd,.fields #[a0,.none,.none,.none,.bool false,.none],sl⟩/\XPS X pins E (.ref e) s₁) (XPS X pins E) s:=by
  refine wpAny_Call_Name_kw (j8 I hg hm ?_ hdb);unfold callWith;rw[he];refine fe (akw (Calls.evalArgs_plain ?_));have ha':=ha gA pins s σ H _ (I.oI _) h;rw[show X.nox.env=X.env from rfl,he]at ha'
  refine ajT ha' (λus s₁ ⟨vs,H1,I1,r,v,hvs,hv,q1⟩=>fe (akD ?_)) λ_ _ z=>aj3 z
  subst hvs;obtain⟨u,rfl,rv⟩:=Vals.one r;have I1':=I1.eO;have kC:=I1'.kIn _ _ l;have pl:(backTo gA [(false,eval e₀ X.env)]).any (·.1)=false:=rfl
  have fin:wpAny (model X.prog X.w) X.A (call (.ref C) ([]++[u])) (λr s'=>∃(e:Addr) (xd:Option Addr) (a0:Value) (sl:Array (Option Value)),r=.ref e/\s'.heap.get? C=some (akh nm q C N bs bm hdct sn sub ab col dd k0 k1 k2 k3 k5 "ValueError.__new__") /\
   s'.heap.get? e=some ⟨.ref C,xd,.fields #[a0,.none,.none,.none,.bool false,.none],sl⟩/\XPS X pins E (.ref e) s') (XPS X pins E) s₁:=by
   refine M0 xk F hr hb I1' rv hv λe d a0 s' hd1 I2 fp ke=>?_
   exact⟨e,some d,a0,#[],rfl,I2.kIn _ _ l,ke,σ,e,.ref C,some d,none,_,rfl,I2,⟨fp,_,_,ke,(by show 1 < 6;decide),rfl⟩,.inl rfl,q1 d hd1⟩
  obtain⟨hp,g',d',tk,os'⟩:=s₁;simp only[pl];refine fe (wpAny_keeperOf_exc kC ?_);exact fe (ajT fin (λv s2 z=>fe (akw (wpAny_point (tm z)))) λ_ _ z=>z)
 rw[arm_exec_Raise];have hbx:bm.contains (.type "BaseException")=true:=(T.tail I.kIn).hasType (b:=true) (by decide +kernel)
 first
  |exact fe (akD (tE (C:=C) (nm:=nm) (q:=q) (N:=N) (bs:=bs) (bm:=bm) (hdct:=hdct) (sn:=sn) (sub:=sub) (ab:=ab) (col:=col) (dd:=dd) (k0:=k0) (k1:=k1) (k2:=k2) (k3:=k3) (k5:=k5) hbx (I.ok.hd hc) (fe (ajT go (λv s₃ h₃=>fe (akD (tm h₃))) λ_ _ z=>z))))
  | (simp only[evalOpt,Option.map];exact fe (akD (tE (C:=C) (nm:=nm) (q:=q) (N:=N) (bs:=bs) (bm:=bm) (hdct:=hdct) (sn:=sn) (sub:=sub) (ab:=ab) (col:=col) (dd:=dd) (k0:=k0) (k1:=k1) (k2:=k2) (k3:=k3) (k5:=k5) hbx (I.ok.hd hc) (fe (ajT go (λv s₃ h₃=>fe (akD (tm h₃))) λ_ _ z=>z)))))
end
end L2
set_option maxHeartbeats 4000000
namespace L2
open PySem PySem.Spec PyProof.Rows
section
variable{X:Cx}{pins:List (Addr×Obj)}{σ:St}{H:Hp}{s:Shared}{C D f:Addr}{name x:Str}{np apos gA pos pos':Pos}{o e value:Expr}{ta tv:TE}{t:TA}
theorem AM {pl:Sem Bool}(ik:T2 X.K D)(xk:Ex X.K C f name)(hg:Gl X x)(hm:X.mg x=some (.ref D))(ha:PA X [o,e] t)(hdb:(x == ("__debug__":Str))=false:=by decide)
  (hst:ajJ [o,e] X.env=(false,eval o X.env)::ajJ [e] X.env:=by rfl) (hpl:(backTo pos (ajJ [e] X.env)).any (·.1)=false:=by rfl)
  (ht:eval (.Call (.Attribute (.Name x np) "__init__" apos) [o,e] [] pos) X.env=(do
   let ov <-eval (.Name x np) X.env
   standAt apos.atName
   let (f,first) <-holding [ov] (getMethod ov "__init__" pl)
   callWith pos f first (backTo pos (ajJ [o,e] X.env)) (backToKw pos (keywordEach [] X.env))):=by rfl) :
  PE X (.Call (.Attribute (.Name x np) "__init__" apos) [o,e] [] pos) (λσ H Q=>t σ H λvs H1=>∃ea v,vs=[.ref ea,v]/\H1 ea=some (xi ea C none)/\Q .non H1):=by
 intro pins s σ H Q I h;refine akC (pl:=pl) (j8 I hg hm ?_ hdb) ht;refine PySem.W.method_cls I.kIn ik.sp (PySem.W.cls_value I.kIn ik.rd ik.fc (by decide +kernel) ?_)
 show wpAny _ _ (callWith pos (.builtin "ValueError.__init__") [] (backTo pos (ajJ [o,e] X.env)) []) _ _ _;exact PyProof.Rows.callWith_builtin1 (thn (ha pos pins _ σ H _ (I.tok _) h) λus s1 ⟨vs,H1,I1,r1,ea,v,hv,hx,q⟩=>JS (xk:=xk) pins s1 σ H1 vs us Q I1 r1 ⟨ea,v,hv,hx,q⟩) hst hpl
theorem Ey (xk:Ex X.K C f name)(ha:PE X o ta)(hv:PE X value tv)(hs:swapsWith value (some (.Attribute o name pos')) pos.line X.env=pure false:=by rfl):PS X (.Assign [.Attribute o name pos'] value pos)
  (λD σ H=>tv σ H λy H1=>ta σ H1 λx H2=>∃ea,x=.ref ea/\H2 ea=some (xi ea C none)/\∀d,H2 d=none->D.nx σ (upd (upd H2 d (.xd [(name,y)])) ea (xi ea C (some d)))):=by
 intro pins s σ H D I h;refine plainObj_wpAny_Assign_Attribute (thn (hv pins s σ H _ I h) λu s1 ⟨y,H1,I1,ry,q⟩=>thn (ha pins s1 σ H1 _ I1 q) λov s2 ⟨x,H2,I2,rx,ea,ex,hx,q2⟩=>?_) hs
 subst ex;obtain rfl:ov=adm ea:=rx;obtain⟨a0,e0⟩:=O2 (P:=X.prog) (w:=X.w) (I2.hok _ _ hx);have fr:H2 s2.heap.objs.size=none:=I2.hok.fresh (kr _);refine O3 I2.kIn xk e0 λh' tk hx' ns kk=>⟨σ,_,?_,q2 _ fr⟩
 have hde:ea≠s2.heap.objs.size:=aG hx fr;have old:∀b,b≠ea->b≠s2.heap.objs.size->upd (upd H2 s2.heap.objs.size (.xd [(name,y)])) ea (xi ea C (some s2.heap.objs.size)) b=H2 b:=λb h1 h2=>by rw[aq h1,aq h2]
 have lt:∀b ob,s2.heap.get? b=some ob->b≠s2.heap.objs.size:=λb ob q=>ajV (si q)
 have nx:∀b,H2 b=none->b≠ea:=λb n z=>by rw[z,hx]at n;cases n
 have ns':∀b {o:HO},H2 b=some o->b≠s2.heap.objs.size:=λb _ n z=>by rw[z,fr]at n;cases n
 refine I2.un (t':=tk) ⟨λb ob q n _ _=>kk b ob (nx b n) q,λb ob q n _ _=>⟨ob.slots,kk b ob (nx b n) q⟩,λb ob q n _=>by rw[old b (nx b n) (lt b ob q)];exact n,λb ob q _=>?_,λb xs q=>?_,λb ob u q=>?_,λb ps q=>?_⟩ λa ob q=>?_
 ·by_cases z:b=ea
  ·exact⟨_,by rw[z];exact hx'⟩
  ·exact⟨ob,kk b ob z q⟩
 ·rw[old b (λz=>by rw[z,hx]at q;cases q) (ns' b q)];exact q
 ·rw[old b (λz=>by rw[z,hx]at q;cases q) (ns' b q)];exact q
 ·exact⟨#[],by rw[old b (λz=>by rw[z,hx]at q;cases q) (ns' b q),q];simp⟩
 ·by_cases z:a=ea
  ·subst z;rw[ae]at q;cases q;exact O1 hx'
  ·rw[aq z]at q
   by_cases z2:a=s2.heap.objs.size
   ·rw[z2,ae]at q;cases q;refine⟨_,by rw[z2];exact ns,λg=>?_⟩
    rw[akW]
    by_cases hg:g=name
    ·rw[if_pos hg,show (g == name)=true from beq_iff_eq.mpr hg];exact ry
    ·rw[if_neg hg,show (g == name)=false from beq_eq_false_iff_ne.mpr hg];exact akA
   ·rw[aq z2]at q;refine(I2.hok a ob q).Cu (λb u hb r=>kk b u ?_ r) (λb r=>?_) (λb xs r=>?_)
    ·rintro rfl;rcases hb with hb | hb
     ·exact z hb.symm
     ·rw[hx]at hb;cases hb
    ·rw[old b (λz=>by rw[z,hx]at r;cases r) (ns' b r)];exact r
    ·rw[old b (λz=>by rw[z,hx]at r;cases r) (ns' b r)];exact r
theorem O5 {ea C d:Addr}{fs:List (Str×V)}(I:Inv X pins σ H s)(h:H ea=some (xo ea (.ref C) (some d)))(hd:H d=some (.xd fs)) :
  ∃ox od,PySem.W.InstAt s.heap ea ox C (some od)/\∃mA:Str->Option Value,(∀n,PySem.W.lookIn n od=some (mA n))/\∀n,oF (fs.lookup n) (mA n):=by
 obtain⟨⟨sl,vs,e⟩,_⟩:=(show dU X.prog X.w H s.heap ea (xo ea (.ref C) (some d)) from I.hok _ _ h)
 obtain⟨mA,ns,r⟩:=(show dU X.prog X.w H s.heap d (.xd fs) from I.hok _ _ hd)
 obtain⟨od,ho,lk⟩:=C2 ns;exact⟨_,od,⟨e,rfl,rfl,ho⟩,mA,lk,r⟩
structure O6 (K:ba)(C:Addr)(name:Str):Prop where
 ga:GaX K C
 na:bo K (.ref C) name=some none
 hd:aj4 K C=true
theorem R1 (he:PE X e ta)(hb:attributeBase e name X.env (eval e X.env)=eval e X.env):PE X (.Attribute e name pos)
  (λσ H Q=>ta σ H λx H1=>∃ea C d fs v,x=.ref ea/\H1 ea=some (xo ea (.ref C) (some d))/\H1 d=some (.xd fs)/\O6 X.K C name/\fs.lookup name=some v/\(∃z,Eu v z)/\Q v H1):=by
 intro pins s σ H Q I h;refine LO hb (thn (he pins s σ H _ I h) λu s1 ⟨x,H1,I1,rx,ea,C,d,fs,v,ex,hx,hd,xf,lk,⟨z,fz⟩,q⟩=>?_)
 subst ex;obtain rfl:u=adm ea:=rx;obtain⟨ox,od,J,mA,li,rel⟩:=O5 I1 hx hd;have rl:=rel name;rw[lk]at rl;cases hm:mA name with
 |none=>rw[hm]at rl;exact rl.elim
 |some u2 =>
  rw[hm]at rl;have rl':RelV v u2:=rl;have hh:PySem.W.handedIn u2=true:=by
   cases fz with
   |int _=>obtain⟨t,rfl⟩:=rl';rfl
   |str=>obtain⟨t,rfl⟩:=rl';rfl
  obtain⟨cd,hc,hdct⟩:=PySem.W.any_some xf.hd;have fo:PySem.W.findObj X.K C (some od) name=some (.value u2):=by
   unfold PySem.W.findObj;rw[hc,Option.bind_some,xf.na,Option.bind_some];simp only[Option.bind_some,PySem.W.ownOf,hdct,if_true,li,hm]
  unfold getAttr;refine fe (wpAny_mkText (aaf (s:={ s1 with toks:=s1.toks+1 }) I1.kIn J xf.ga (OY (s:={ s1 with toks:=s1.toks+1 }) I1.kIn J fo ?_)))
  exact⟨hh,v,H1,I1.tok _,rl',q⟩
end
end L2
set_option maxHeartbeats 4000000
namespace L2
open PySem PySem.Spec PyProof.Rows
section
variable{κ:Type}[DecidableEq κ]
def gQ (kvs:List (κ×V))(k:κ):Option V:=(kvs.find? λkv=>decide (kv.1=k)).map (·.2)
def putK (kvs:List (κ×V))(k:κ)(v:V):List (κ×V) :=
 if (kvs.any λkv=>decide (kv.1=k))=true then kvs.map (λkv=>if kv.1=k then (kv.1,v) else kv) else kvs++[(k,v)]
def iL (kvs:List (κ×V))(k:κ):List (κ×V):=kvs.filter λkv=>decide (kv.1≠k)
theorem eR {p:κ×V}{r:List (κ×V)}{k:κ}(e:p.1=k):gQ (p::r) k=some p.2:=by simp[gQ,akl,e]
theorem bP {p:κ×V}{r:List (κ×V)}{k:κ}(e:¬p.1=k):gQ (p::r) k=gQ r k:=by simp[gQ,akl,e]
theorem rE (k:κ):∀kvs:List (κ×V),(kvs.any λkv=>decide (kv.1=k))=(gQ kvs k).isSome
 |[]=>rfl
 |p::r=>by
  rw[List.any_cons]
  by_cases e:p.1=k
  ·simp only[eR e,decide_eq_true e,Bool.true_or,Option.isSome_some]
  ·rw[bP e,decide_eq_false e,Bool.false_or];exact rE k r
theorem rF (kvs:List (κ×V))(k:κ)(v:V):(putK kvs k v).length<=kvs.length+1:=by
 unfold putK;split
 ·rw[cb];omega
 ·rw[ky,ajK,ak9];omega
theorem O7 {kvs:List (κ×V)}{k:κ}(v:V)(h:gQ kvs k=none):putK kvs k v=kvs++[(k,v)]:=by
 unfold putK;rw[rE,h];exact if_neg (by decide)
theorem oF.tF {o:Option V}{u:Option Value}(r:oF o u):o.isSome=u.isSome:=by
 cases o with
 |none=>cases u with
  |none=>rfl
  |some _=>exact(show False from r).elim
 |some _=>cases u with
  |none=>exact(show False from r).elim
  |some _=>rfl
theorem oF.getD {o:Option V}{u:Option Value}{d:V}{d':Value}(r:oF o u)(rd:RelV d d'):RelV (o.getD d) (u.getD d'):=by
 cases o with
 |none=>cases u with
  |none=>exact rd
  |some _=>exact(show False from r).elim
 |some _=>cases u with
  |none=>exact(show False from r).elim
  |some _=>exact r
theorem KV.val {kvs:List (κ×V)}{vs:List (κ×Value)}(r:KV kvs vs)(k:κ):oF (gQ kvs k) (valueAt vs k):=by
 unfold KV at r
 induction r with
 |nil=>exact akA
 | @cons p q ps qs h t ih =>
  obtain⟨h1,h2⟩:=h
  by_cases e:p.1=k
  ·have e':q.1=k:=h1.symm.trans e;have b:valueAt (q::qs) k=some q.2:=by simp[valueAt,akl,e']
   rw[eR e,b];exact h2
  ·have e':¬q.1=k:=λz=>e (h1.trans z)
   have b:valueAt (q::qs) k=valueAt qs k:=by simp[valueAt,akl,e']
   rw[bP e,b];exact ih
theorem KV.any {kvs:List (κ×V)}{vs:List (κ×Value)}(r:KV kvs vs)(k:κ):(kvs.any λkv=>decide (kv.1=k))=vs.any λkv=>decide (kv.1=k):=by
 unfold KV at r
 induction r with
 |nil=>rfl
 |cons h t ih=>rw[List.any_cons,List.any_cons,ih,h.1]
theorem KV.VU {kvs:List (κ×V)}{vs:List (κ×Value)}(r:KV kvs vs)(k:κ){y:V}{u:Value}(ry:RelV y u) :
  KV (kvs.map λkv=>if kv.1=k then (kv.1,y) else kv) (vs.map λkv=>if kv.1=k then (kv.1,u) else kv):=by
 unfold KV at r ⊢
 induction r with
 |nil=>exact .nil
 | @cons p q ps qs h t ih =>
  rw[kj,kj];refine .cons ?_ ih;obtain⟨h1,h2⟩:=h
  by_cases e:p.1=k
  ·rw[if_pos e,if_pos (h1.symm.trans e)];exact⟨h1,ry⟩
  ·rw[if_neg e,if_neg (λz=>e (h1.trans z))];exact⟨h1,h2⟩
theorem KV.put {kvs:List (κ×V)}{vs:List (κ×Value)}(r:KV kvs vs)(k:κ){y:V}{u:Value}(ry:RelV y u):KV (putK kvs k y) (stored vs k u):=by
 unfold putK stored;rw[r.any k]
 by_cases e:(vs.any λkv=>decide (kv.1=k))=true
 ·rw[if_pos e,if_pos e];exact r.VU k ry
 ·rw[if_neg e,if_neg e];exact Paired.snoc r ⟨rfl,ry⟩
theorem KV.drop {kvs:List (κ×V)}{vs:List (κ×Value)}(r:KV kvs vs)(k:κ):KV (iL kvs k) (without vs k):=by
 unfold KV at r ⊢;unfold iL without
 induction r with
 |nil=>exact .nil
 | @cons p q ps qs h t ih =>
  obtain⟨h1,h2⟩:=h;rw[List.filter_cons,List.filter_cons]
  by_cases e:p.1=k
  ·have a:¬decide (p.1≠k)=true:=by simp[e]
   have b:¬decide (q.1≠k)=true:=by simp[h1.symm.trans e]
   rw[if_neg a,if_neg b];exact ih
  ·have e':¬q.1=k:=λz=>e (h1.trans z)
   have a:decide (p.1≠k)=true:=by simp[e]
   have b:decide (q.1≠k)=true:=by simp[e']
   rw[if_pos a,if_pos b];exact .cons ⟨h1,h2⟩ ih
theorem KV.keys {kvs:List (κ×V)}{vs:List (κ×Value)}(r:KV kvs vs):kvs.map (·.1)=vs.map (·.1):=by
 unfold KV at r
 induction r with
 |nil=>rfl
 |cons h t ih=>rw[kj,kj,ih,h.1]
theorem KV.length {kvs:List (κ×V)}{vs:List (κ×Value)}(r:KV kvs vs):kvs.length=vs.length:=Paired.length r
theorem FY (kvs:List (κ×V))(k:κ):(iL kvs k).length<=kvs.length:=List.length_filter_le _ _
end
theorem AN {P:rf}{w:World}{k:Key}{u:Value}(r:RelV (kV k) u):(cZ P w).is k u=true:=by
 cases k with
 |inl i=>obtain⟨t,e⟩:=(show ∃t,u=Value.int i t from r);subst e;exact FC P w i t
 |inr x=>obtain⟨t,e⟩:=(show ∃t,u=Value.str x t from r);subst e;exact FD P w x t
theorem Di {P:rf}{w:World}:∀ {ks:List Key} {us:List Value},Vals (ks.map kV) us->ItemsAre (cZ P w) ks us
 |[],_,r=>by rw[akj]at r;cases r;exact .nil
 |k::ks,_,r=>by
  rw[kj]at r;cases r with
  |cons h t=>exact .cons (AN h) (Di t)
abbrev KT (H:Hp):List (List Key×V)->List (List Key×Addr×Value)->Prop:=Paired λp q=>p.1=q.1/\H q.2.1=some (.tup (p.1.map kV))/\RelV p.2 q.2.2
theorem KT.val {H:Hp}{kvs:List (List Key×V)}{xs:List (List Key×Addr×Value)}(r:KT H kvs xs)(k:List Key):oF (gQ kvs k) ((atKey xs k).map (·.2)):=by
 induction r with
 |nil=>exact akA
 | @cons p q ps qs h t ih =>
  obtain⟨h1,_,h2⟩:=h
  by_cases e:p.1=k
  ·have e':q.1=k:=h1.symm.trans e;have b:atKey (q::qs) k=some q.2:=by simp[atKey,akl,e']
   rw[eR e,b];exact h2
  ·have e':¬q.1=k:=λz=>e (h1.trans z)
   have b:atKey (q::qs) k=atKey qs k:=by simp[atKey,akl,e']
   rw[bP e,b];exact ih
theorem KT.VU {H:Hp}{kvs:List (List Key×V)}{xs:List (List Key×Addr×Value)}(r:KT H kvs xs)(k:List Key){y:V}{u:Value}(ry:RelV y u) :
  KT H (kvs.map λkv=>if kv.1=k then (kv.1,y) else kv) (xs.map (putAt k u)):=by
 induction r with
 |nil=>exact .nil
 | @cons p q ps qs h t ih =>
  rw[kj,kj];refine .cons ?_ ih;obtain⟨h1,h2,h3⟩:=h;unfold putAt
  by_cases e:p.1=k
  ·rw[if_pos e,if_pos (h1.symm.trans e)];exact⟨h1,h2,ry⟩
  ·rw[if_neg e,if_neg (λz=>e (h1.trans z))];exact⟨h1,h2,h3⟩
theorem KT.put {H:Hp}{kvs:List (List Key×V)}{xs:List (List Key×Addr×Value)}(r:KT H kvs xs)(k:List Key){b:Addr}{y:V}{u:Value}(hb:H b=some (.tup (k.map kV)))(ry:RelV y u) :
  KT H (putK kvs k y) (storedH xs k b u):=by
 have e:(kvs.any λkv=>decide (kv.1=k))=(atKey xs k).isSome:=by
  rw[rE,(r.val k).tF,Option.isSome_map]
 unfold putK storedH;rw[e]
 by_cases q:(atKey xs k).isSome=true
 ·rw[if_pos q,if_pos q];exact r.VU k ry
 ·rw[if_neg q,if_neg q];exact Paired.snoc r ⟨rfl,hb,ry⟩
theorem KT.keeps {H H':Hp}{kvs:List (List Key×V)}{xs:List (List Key×Addr×Value)}(r:KT H kvs xs)(ht:∀b ys,H b=some (.tup ys)->H' b=some (.tup ys)):KT H' kvs xs :=
 Paired.Vm r λ_ _ z=>⟨z.1,ht _ _ z.2.1,z.2.2⟩
section
variable{P:rf}{w:World}{H:Hp}{h:Heap}{a:Addr}
theorem T3 {u:HO}(ok:HOk P w H h)(e:Rd H a u):dU P w H h a u:=e.ok ok
theorem Dj {kvs:List (Key×V)}(ok:HOk P w H h)(e:Rd H a (.dK kvs)):kvs.length<=ka/\(a == akY)=false/\∃vs,KV kvs vs/\h.DictOf (cZ P w) a vs :=
 show dU P w H h a (.dK kvs) from T3 ok e
theorem AO {kvs:List (Key×V)}(ok:HOk P w H h)(e:H a=some (.dK kvs)):kvs.length<=ka/\(a == akY)=false/\∃vs,KV kvs vs/\h.DictOf (cZ P w) a vs:=Dj ok (.inl e)
theorem Ez {ks:List Key}(ok:HOk P w H h)(e:H a=some (.tup (ks.map kV))):(tupleKind (cZ P w)).is h ks a:=by
 obtain⟨_,its,r,o,h1,h2,n,h3⟩:=(show dU P w H h a (.tup (ks.map kV)) from ok a _ e)
 exact⟨o,its.toArray,n,h1,h2,h3,by simpa using Di r⟩
theorem FZ {kvs:List (List Key×V)}(ok:HOk P w H h)(e:Rd H a (.dT kvs)):kvs.length<=ka/\(a == akY)=false /\
  ∃xs,KT H kvs xs/\h.DictOfH (tupleKind (cZ P w)) a xs:=by
 obtain⟨z,y,xs,r,o,es,ep,h1,h2,h3,h4,h5⟩:=(show dU P w H h a (.dT kvs) from T3 ok e)
 refine⟨z,y,xs,r,o,es,ep,h1,h2,h3,h4,λx hx=>?_,h5⟩
 have all:∀ {l:List (List Key×V)} {m:List (List Key×Addr×Value)},KT H l m->∀x∈m,(tupleKind (cZ P w)).is h x.1 x.2.1:=by
  intro l m q
  induction q with
  |nil=>intro x hx;exact nomatch hx
  | @cons p q ps qs hq t ih =>
   intro x hx;rcases List.mem_cons.mp hx with e | hx
   ·subst e;exact Ez ok (by rw[<-hq.1];exact hq.2.1)
   ·exact ih x hx
 exact all r x hx
theorem aaj {kvs:List (List Key×V)}(ok:HOk P w H h)(e:H a=some (.dT kvs)):kvs.length<=ka/\(a == akY)=false /\
  ∃xs,KT H kvs xs/\h.DictOfH (tupleKind (cZ P w)) a xs:=FZ ok (.inl e)
end
def uo (H:Hp)(a:Addr)(y:V)(r:Option V):Prop :=
 (∃kvs k,Rd H a (.dK kvs)/\y=kV k/\r=gQ kvs k)\/∃kvs k b,Rd H a (.dT kvs)/\y=.ref b/\H b=some (.tup (k.map kV))/\r=gQ kvs k
def oQ (H:Hp)(a:Addr)(y v:V)(H':Hp):Prop :=
 (∃kvs k,H a=some (.dK kvs)/\y=kV k/\kvs.length < ka/\H'=upd H a (.dK (putK kvs k v))) \/
 ∃kvs k b,H a=some (.dT kvs)/\y=.ref b/\H b=some (.tup (k.map kV))/\kvs.length < ka/\H'=upd H a (.dT (putK kvs k v))
theorem uo.k {H:Hp}{a:Addr}{kvs:List (Key×V)}{k:Key}(e:H a=some (.dK kvs)):uo H a (kV k) (gQ kvs k):=.inl ⟨kvs,k,.inl e,rfl,rfl⟩
theorem uo.t {H:Hp}{a b:Addr}{kvs:List (List Key×V)}{k:List Key}(e:H a=some (.dT kvs))(eb:H b=some (.tup (k.map kV))):uo H a (.ref b) (gQ kvs k):=.inr ⟨kvs,k,b,.inl e,rfl,eb,rfl⟩
theorem oQ.k {H:Hp}{a:Addr}{kvs:List (Key×V)}{k:Key}{v:V}(e:H a=some (.dK kvs))(hl:kvs.length < ka):oQ H a (kV k) v (upd H a (.dK (putK kvs k v))):=.inl ⟨kvs,k,e,rfl,hl,rfl⟩
theorem oQ.t {H:Hp}{a b:Addr}{kvs:List (List Key×V)}{k:List Key}{v:V}(e:H a=some (.dT kvs))(eb:H b=some (.tup (k.map kV)))(hl:kvs.length < ka) :
  oQ H a (.ref b) v (upd H a (.dT (putK kvs k v))):=.inr ⟨kvs,k,b,e,rfl,eb,hl,rfl⟩
section
variable{X:Cx}{pins:List (Addr×Obj)}{σ:St}{H:Hp}{s:Shared}{a:Addr}{y v:V}{u r:Value}{o:Option V}{A:Around}{E:Value->Shared->Prop}
theorem Inv.big (I:Inv X pins σ H s):akY < s.heap.objs.size:=by
 have h:gr < s.heap.objs.size:=(I.mod.glob.keeps I.bk).lt;exact Nat.lt_trans (by decide) h
theorem M3 {Q:Value->Shared->Prop}(hu:A.units+1 < cLine)(I:Inv X pins σ H s)(g:uo H a y (some v))(ry:RelV y u)(h:∀w' s',Inv X pins σ H s'->RelV v w'->Q w' s') :
  wpAny (model X.prog X.w) A (getItem (.ref a) u) Q E s:=by
 rcases g with ⟨kvs,k,e,ey,l⟩ | ⟨kvs,k,b,e,ey,eb,l⟩
 ·subst ey;obtain⟨z,hd,vs,rel,dd⟩:=Dj I.hok e;obtain⟨w',hw,rw'⟩:=oF.some_of (v:=v) (o:=valueAt vs k) (by rw[l];exact rel.val k)
  exact wpAny_getItem_of (AN ry) dd.mapOf hw (h w' _ (I.tok _) rw')
 ·subst ey;cases (show u=adm b from ry)
  obtain⟨z,hd,xs,rel,dd⟩:=FZ I.hok e;obtain⟨w',hw,rw'⟩:=oF.some_of (v:=v) (o:=(atKey xs k).map (·.2)) (by rw[l];exact rel.val k)
  obtain⟨p,hp,hp2⟩:=Option.map_eq_some_iff.mp hw;refine wpAny_getItem_heap (tupleKind_room_in1 hu) (Ez I.hok eb) dd hp ?_;rw[hp2];exact h w' _ (I.tok _) rw'
theorem R3 {Q:Value->Shared->Prop}(hu:A.units+1 < cLine)(I:Inv X pins σ H s)(g:uo H a y o)(ry:RelV y u)(h:∀s',Inv X pins σ H s'->Q (.bool (!o.isSome)) s') :
  wpAny (model X.prog X.w) A (akG .NotIn u (.ref a)) Q E s:=by
 rcases g with ⟨kvs,k,e,ey,l⟩ | ⟨kvs,k,b,e,ey,eb,l⟩
 ·subst ey;obtain⟨z,hd,vs,rel,dd⟩:=Dj I.hok e;refine wpAny_notIn_of (AN ry) hd dd.mapOf ?_;rw[<-(rel.val k).tF,<-l];exact h _ (I.tok _)
 ·subst ey;cases (show u=adm b from ry)
  obtain⟨z,hd,xs,rel,dd⟩:=FZ I.hok e;refine wpAny_notIn_heap (tupleKind_room_in1 hu) (Ez I.hok eb) hd dd ?_;have q:=(rel.val k).tF;rw[Option.isSome_map]at q;rw[<-q,<-l];exact h _ (I.tok _)
theorem vq {h':Heap}{t':Nat}{ob:HO}(I:Inv X pins σ H s)(mu:Mut (H a))(hs:Heap.SameBut a s.heap h')(he:∃q,h'.get? a=some q)(new:dU X.prog X.w (upd H a ob) h' a ob) :
  Inv X pins σ (upd H a ob) { s with heap:=h',toks:=t' } :=
 I.write (x:=a) (e:=a) mu (.inl rfl) (λb q hb z=>(hs.2 b hb).trans z) he new
theorem EA {P:rf}{w:World}{H':Hp}{h':Heap}{kvs:List (Key×V)}{vs:List (Key×Value)}(z:kvs.length<=ka)(hd:(a == akY)=false)(rel:KV kvs vs)(dd:h'.DictOf (cZ P w) a vs) :
  dU P w H' h' a (.dK kvs):=⟨z,hd,vs,rel,dd⟩
theorem M4 {H':Hp}{Q:Unit->Shared->Prop}(hu:A.units+1 < cLine)(I:Inv X pins σ H s)(g:oQ H a y v H')(ry:RelV y u)(rv:RelV v r)(h:∀s',Inv X pins σ H' s'->Q () s') :
  wpAny (model X.prog X.w) A (setItem (.ref a) u r) Q E s:=by
 rcases g with ⟨kvs,k,e,ey,l,eH⟩ | ⟨kvs,k,b,e,ey,eb,l,eH⟩
 ·subst ey eH;obtain⟨z,hd,vs,rel,dd⟩:=AO I.hok e;have hz:vs.length<=ka:=by rw[<-rel.length];exact z
  have hl:(putK kvs k v).length<=ka:=by have:=rF kvs k v;omega
  refine wpAny_setItem_pairs (hsz:=hz) (AN ry) dd λh' dd' hs=>h _ ?_
  have he:∃q,h'.get? a=some q:=let ⟨q,_,_,hq,_⟩:=dd';⟨q,hq⟩
  exact vq I (by rw[e];exact akA) hs he (EA hl hd (rel.put k rv) dd')
 ·subst ey eH;cases (show u=adm b from ry)
  obtain⟨z,hd,xs,rel,dd⟩:=aaj I.hok e;have hz:xs.length<=ka:=by rw[<-Paired.length rel];exact z
  have hl:(putK kvs k v).length<=ka:=by have:=rF kvs k v;omega
  refine wpAny_setItem_heap (hsz:=hz) (tupleKind_room_in1 hu) (Ez I.hok eb) dd λh' dd' hs=>h _ ?_
  obtain⟨q,es,ep,hq,h2,h3,h4,_,h5⟩:=dd';refine vq I (by rw[e];exact akA) hs ⟨q,hq⟩ ⟨hl,hd,_,(rel.put k eb rv).keeps λc ys ec=>?_,q,es,ep,hq,h2,h3,h4,h5⟩
  rw[aq (ZD ec e (λz=>nomatch z))]
  exact ec
end
section
variable{X:Cx}{pins:List (Addr×Obj)}{σ:St}{H:Hp}{s:Shared}{a:Addr}{kvs:List (Key×V)}{k:Key}{u:Value}{A:Around}{E:Value->Shared->Prop}
theorem ZC {Q:Unit->Shared->Prop}(I:Inv X pins σ H s)(e:H a=some (.dK kvs))(ry:RelV (kV k) u)(l:(gQ kvs k).isSome=true)(h:∀s',Inv X pins σ (upd H a (.dK (iL kvs k))) s'->Q () s') :
  wpAny (model X.prog X.w) A (delItem (.ref a) u) Q E s:=by
 obtain⟨z,hd,vs,rel,dd⟩:=AO I.hok e;refine wpAny_delItem_slot dd.typeIs (by decide) PySem.F.slot_dict_delitem
  (call_meetsIn PySem.F.slot_dict_delitem dd.typeIs PySem.F.entry_dict_delitem (PySem.F.args_dict_delitem_2 _ _) (meets_dict_delitem_pairs (cZ X.prog X.w) a (AN ry)) ⟨vs,dd,by rw[<-rel.length];exact z,by rw[<-(rel.val k).tF];exact l,λh' dd' hs=>h _ ?_⟩)
 have he:∃q,h'.get? a=some q:=let ⟨q,_,_,hq,_⟩:=dd';⟨q,hq⟩
 exact vq I (by rw[e];exact akA) hs he (EA (ajI (FY kvs k) z) hd (rel.drop k) dd')
theorem aak {v:V}{more:List Value}{Q:Value->Shared->Prop}(I:Inv X pins σ H s)(e:H a=some (.dK kvs))(ry:RelV (kV k) u)(l:gQ kvs k=some v)(hm:more=[]\/∃x,more=[x])
  (h:∀w' s',Inv X pins σ (upd H a (.dK (iL kvs k))) s'->RelV v w'->Q w' s'):wpAny (model X.prog X.w) A (call (.builtin "dict.pop") (.ref a::u::more)) Q E s:=by
 obtain⟨z,hd,vs,rel,dd⟩:=AO I.hok e;obtain⟨w',hw,rw'⟩:=oF.some_of (v:=v) (o:=valueAt vs k) (by rw[<-l];exact rel.val k)
 have hp:(keyPart u).isSome=true:=by
  cases k with
  |inl i=>obtain⟨t,q⟩:=(show ∃t,u=Value.int i t from ry);subst q;rfl
  |inr x=>obtain⟨t,q⟩:=(show ∃t,u=Value.str x t from ry);subst q;rfl
 have ha:argsOk "dict.pop" ⟨.ref a::u::more,[]⟩:=by
  rcases hm with q | ⟨x,q⟩
  ·subst q;exact PySem.F.args_dict_pop_2 _ _
  ·subst q;exact PySem.F.args_dict_pop_3 _ _ _
 refine call_meetsIn PySem.F.slot_dict_pop dd.typeIs PySem.F.entry_dict_pop ha (meets_dict_pop_there (cZ X.prog X.w) a (AN ry) more hm hp)
  ⟨vs,w',dd,by rw[<-rel.length];exact z,hw,λh' dd' hs=>h w' _ ?_ rw'⟩
 have he:∃q,h'.get? a=some q:=let ⟨q,_,_,hq,_⟩:=dd';⟨q,hq⟩
 exact vq I (by rw[e];exact akA) hs he (EA (ajI (FY kvs k) z) hd (rel.drop k) dd')
theorem aal {Q:Value->Shared->Prop}(I:Inv X pins σ H s)(e:Rd H a (.dK kvs))(h:∀t s',Inv X pins σ H s'->Q (.int kvs.length t) s'):wpAny (model X.prog X.w) A (call (.builtin "len") [.ref a]) Q E s:=by
 obtain⟨z,hd,vs,rel,dd⟩:=Dj I.hok e;refine call_len_dict hd dd (by rw[<-rel.length];rw[sizeLine_eq]at z;omega) ?_
 rw[<-rel.length];exact h _ _ (I.tok _)
end
def aam (i:Expr):Prop:=∀ov iv,subscripted i false ov iv=operate [ov,iv] (getItem ov iv)
theorem R4 {prog:rf}{w:World}{A:Around}{E:Value->Shared->Prop}{s:Shared}{env:Env}{value slice:Expr}{pos:Pos}{T id:String}{Q:Value->Shared->Prop}
  (hl:typeLookup (.type T) "__getitem__"=pure (some (.builtin id))) (hs:aam slice)
  (h:wpAny (model prog w) A (eval value env) (λo s₁=>wpAny (model prog w) A (eval slice env) (λi s₂=>s₂.TypeIs o T/\wpAny (model prog w) A (getItem o i) Q E s₂) E s₁) E s) :
  wpAny (model prog w) A (eval (.Subscript value slice pos) env) Q E s:=by
 refine Subscript_ (ajT h (λo s₁ h₁=>ajT h₁ (λi s₂ h₂=>?_) λ_ _ x=>x) λ_ _ x=>x)
 obtain⟨hT,h₂⟩:=h₂;unfold subscriptTail;refine fe ?_;rw[getitemInPython_of_ne hT.not_modules];refine fe (wpAny_specialOf hT hl ?_);have fin:wpAny (model prog w) A (subscripted slice false o i) (λr s₃=>wpAny (model prog w) A (letTemporaryGo value o r >>= λ_=>pure r) Q E s₃) E s₂:=by
  rw[hs o i];exact wpAny_operating (ajT h₂ (λr s₃ h₃=>fe (wpAny_letTemporaryGo (tm h₃))) λ_ _ x=>x)
 first
  |exact tm (fe fin)
  |exact fe (tm (fe fin))
  |exact fe fin
theorem F0 {X:Cx}{pins:List (Addr×Obj)}{σ:St}{H:Hp}{s:Shared}{a:Addr}{y:V}{o:Option V}(I:Inv X pins σ H s)(g:uo H a y o):s.TypeIs (.ref a) "dict":=by
 rcases g with ⟨kvs,k,e,_,_⟩ | ⟨kvs,k,b,e,_,_,_⟩
 ·obtain⟨_,_,vs,_,dd⟩:=Dj I.hok e;exact dd.typeIs
 ·obtain⟨_,_,xs,_,dd⟩:=FZ I.hok e;exact dd.typeIs
def aan (td ty:TE):TE:=λσ H Q=>td σ H λx H1=>ty σ H1 λy H2=>∃a v,x=.ref a/\uo H2 a y (some v)/\Q v H2
def R5 (ty td:TE):TE:=λσ H Q=>ty σ H λy H1=>td σ H1 λx H2=>∃a o,x=.ref a/\uo H2 a y o/\Q (.bl (!o.isSome)) H2
def aao (td ty tv:TE):TS:=λD σ H=>tv σ H λv H1=>td σ H1 λx H2=>ty σ H2 λy H3=>∃a H4,x=.ref a/\oQ H3 a y v H4/\D.nx σ H4
section
variable{X:Cx}{o i e value:Expr}{pos pos' ahn:Pos}{td ty tv:TE}
theorem aY (hu:X.A.units+1 < cLine)(ho:PE X o td)(hi:PE X i ty)(hs:aam i):PE X (.Subscript o i pos) (aan td ty):=by
 intro pins s σ H Q I h;refine R4 PySem.F.slot_dict_getitem.lookup hs (thn (ho pins s σ H _ I h) λu s1 ⟨x,H1,I1,rx,q1⟩=>thn (hi pins s1 σ H1 _ I1 q1) λiv s2 ⟨y,H2,I2,ry,a,v,ex,g,q2⟩=>?_)
 subst ex;obtain rfl:u=adm a:=rx;exact⟨F0 I2 g,M3 hu I2 g ry λw' s3 I3 rw'=>⟨v,H2,I3,rw',q2⟩⟩
theorem xg (hu:X.A.units+1 < cLine)(hi:PE X i ty)(ho:PE X o td):PC X .NotIn i o (R5 ty td):=by
 intro pins s σ H Q I h;refine thn (hi pins s σ H _ I h) λiv s1 ⟨y,H1,I1,ry,q1⟩=>thn (ho pins s1 σ H1 _ I1 q1) λu s2 ⟨x,H2,I2,rx,a,ov,ex,g,q2⟩=>?_
 subst ex;obtain rfl:u=adm a:=rx;exact R3 hu I2 g ry λs3 I3=>⟨.bl (!ov.isSome),H2,I3,rfl,q2⟩
theorem iw (hu:X.A.units+1 < cLine)(ho:PE X o td)(hi:PE X i ty)(hv:PE X value tv)(hs:swapsWith value (some (.Subscript o i pos')) pos.line X.env=pure false) :
  PS X (.Assign [.Subscript o i pos'] value pos) (aao td ty tv):=by
 intro pins s σ H D I h;refine wpAny_Assign_Subscript (thn (hv pins s σ H _ I h) λr s1 ⟨v,H1,I1,rv,q1⟩=>thn (ho pins s1 σ H1 _ I1 q1) λu s2 ⟨x,H2,I2,rx,q2⟩=>thn (hi pins s2 σ H2 _ I2 q2) λiv s3 ⟨y,H3,I3,ry,a,H4,ex,g,q3⟩=>?_) hs
 subst ex;obtain rfl:u=adm a:=rx;exact M4 hu I3 g ry rv λs4 I4=>⟨σ,H4,I4,q3⟩
end
theorem F2 {P:rf}{w:World}{H:Hp}(h:Heap)(hb:akY < h.objs.size):dU P w H (h.push { cls:=.type "dict",data:=.dict #[] }) h.objs.size (.dK []) :=
 ⟨akB _,beq_eq_false_iff_ne.mpr (aj2 (ajV hb)),[],.nil,Heap.DictOf.new h⟩
def VW:TE:=λ_ H Q=>∀p,H p=none->Q (.ref p) (upd H p (.dK []))
section
variable{X:Cx}{pos:Pos}
theorem oR:PE X (.Dict [] [] pos) VW:=λpins s σ H Q I h =>
 wpAny_Dict_empty ⟨.ref s.heap.objs.size,_,I.laid (a:=s.heap.objs.size) (o:=.dK []) (t':=s.toks) (λ_ _ q=>kf _ q) (kr _) (F2 s.heap I.big),rfl,h _ (I.hok.fresh (kr _))⟩
end
def JT:List (TE×TE)->St->Hp->(List (V×V)->Hp->Prop)->Prop
 |[],_,H,Q=>Q [] H
 | (tk,tv)::r,σ,H,Q=>tk σ H λx H1=>tv σ H1 λy H2=>JT r σ H2 λps H3=>Q ((x,y)::ps) H3
abbrev VV:List (V×V)->List (Value×Value)->Prop:=Paired λp q=>RelV p.1 q.1/\RelV p.2 q.2
def PPs (X:Cx)(pos:Pos)(keys:List (Option Expr))(values:List Expr)(trs:List (TE×TE)):Prop :=
 ∀(pins:List (Addr×Obj)) (s:Shared) (σ:St) (H:Hp) (Q:List (V×V)->Hp->Prop),Inv X pins σ H s->JT trs σ H Q ->
  wpAny (model X.prog X.w) X.A (evalPairs (pairTrees keys values X.env pos)) (λvs s'=>∃ps H',Inv X pins σ H' s'/\VV ps vs/\Q ps H') X.xe s
theorem R6 {X:Cx}{pos:Pos}:PPs X pos [] [] []:=λpins s σ H Q I h=>pairTrees_nil_walk ⟨[],H,I,.nil,h⟩
theorem oS {X:Cx}{pos:Pos}{k v:Expr}{ks:List (Option Expr)}{vs:List Expr}{tk tv:TE}{trs:List (TE×TE)}(hk:PE X k tk)(hv:PE X v tv)(hr:PPs X pos ks vs trs) :
  PPs X pos (some k::ks) (v::vs) ((tk,tv)::trs):=λpins s σ H Q I h =>
 pairTrees_cons_walk (thn (hk pins s σ H _ I h) λu s1 ⟨x,H1,I1,rx,q1⟩=>thn (hv pins s1 σ H1 _ I1 q1) λw2 s2 ⟨y,H2,I2,ry,q2⟩ =>
  thn (hr pins s2 σ H2 _ I2 q2) λws s3 ⟨ps,H3,I3,rel,q3⟩=>⟨(x,y)::ps,H3,I3,.cons ⟨rx,ry⟩ rel,q3⟩)
def xh (kvs more:List (Key×V)):List (Key×V):=more.foldl (λacc kv=>putK acc kv.1 kv.2) kvs
theorem KV.merge:∀ {more:List (Key×V)} {rs:List (Key×Value)} {kvs:List (Key×V)} {vs:List (Key×Value)},KV more rs->KV kvs vs->KV (xh kvs more) (merged vs rs):=by
 intro more rs kvs vs r;unfold KV at r
 induction r generalizing kvs vs with
 |nil=>intro q;exact q
 | @cons p q ps qs h t ih =>
  intro r0;have e:KV (putK kvs p.1 p.2) (stored vs q.1 q.2):=by
   have:=r0.put p.1 h.2;rw[<-h.1];exact this
  exact ih e
theorem ud:∀(more kvs:List (Key×V)),(xh kvs more).length<=kvs.length+more.length
 |[],kvs=>by show kvs.length<=kvs.length+0;omega
 |p::r,kvs=>by
  have h1:=ud r (putK kvs p.1 p.2);have h2:=rF kvs p.1 p.2;show (xh (putK kvs p.1 p.2) r).length<=_;rw[ajK];omega
theorem AQ {P:rf}{w:World}:∀ {kvs:List (Key×V)} {ws:List (Value×Value)},VV (kvs.map λkv=>(kV kv.1,kv.2)) ws->∃rs,Carries (cZ P w) ws rs/\KV kvs rs
 |[],_,r=>by rw[akj]at r;cases r;exact⟨[],akA,.nil⟩
 |p::kvs,_,r=>by
  rw[kj]at r;cases r with
  | @cons a b as bs h t =>
   obtain⟨rs,c,q⟩:=AQ (P:=P) (w:=w) t;obtain⟨b1,b2⟩:=b;exact⟨(p.1,b2)::rs,⟨AN h.1,rfl,c⟩,.cons ⟨rfl,h.2⟩ q⟩
def aap (trs:List (TE×TE)):TE:=λσ H Q=>∀p,H p=none->JT trs σ (upd H p (.dK [])) λps H2=>H2 p=some (.dK [])/\∃kvs:List (Key×V),ps=kvs.map (λkv=>(kV kv.1,kv.2))/\kvs.length<=15/\Q (.ref p) (upd H2 p (.dK (xh [] kvs)))
theorem R7 {X:Cx}{pos:Pos}{keys:List (Option Expr)}{values:List Expr}{trs:List (TE×TE)}(h:PPs X pos keys values trs)(VF:keys.all (·.isSome)=true)(hl:keys.length=values.length)(h0:keys≠[])
  (h15:keys.length<=15):PE X (.Dict keys values pos) (aap trs):=by
 intro pins s σ H Q I q;have hn:=I.hok.fresh (kr s.heap.objs.size);have I1:=I.laid (a:=s.heap.objs.size) (o:=.dK []) (h':=s.heap.push { cls:=.type "dict",data:=.dict #[] }) (t':=s.toks) (λ_ _ q=>kf _ q) (kr _) (F2 s.heap I.big)
 refine wpAny_Dict_walk (knd:=cZ X.prog X.w) VF hl h0 h15 (thn (h pins _ σ _ _ I1 (q _ hn)) λws s2 ⟨ps,H2,I2,rel,e,kvs,ep,lk,q2⟩=>?_)
 subst ep;obtain⟨rs,c,rk⟩:=AQ (P:=X.prog) (w:=X.w) rel;obtain⟨z,hd,vs0,r0,dd⟩:=AO I2.hok e;cases r0;refine⟨rs,c,dd,λh' dd' hs=>⟨.ref s.heap.objs.size,_,?_,rfl,q2⟩⟩
 have hz:(xh [] kvs).length<=ka:=by
  have h1:=ud kvs [];rw[ak9]at h1;rw[sizeLine_eq];omega
 have he:∃q,h'.get? s.heap.objs.size=some q:=let ⟨q,_,_,hq,_⟩:=dd';⟨q,hq⟩
 exact vq I2 (by rw[e];exact akA) hs he (EA hz hd (rk.merge .nil) dd')
structure M1 (X:Cx)(o:Expr)(m:Str)(apos:Pos)(e:Expr)(gA:Pos):Prop where
 base:attributeBase o m X.env (eval o X.env)=eval o X.env
 few:((backTo gA (ajJ [e] X.env)).all (λx=>!x.1) && (backToKw gA (keywordEach [] X.env)).all (λx=>x.1.isSome)
  && decide (([e]:List Expr).length+([]:List Keyword).length+(if ([]:List Keyword).isEmpty then 0 else 1) < 30))=true
 line:(apos.endLine == gA.line)=true
 trees:backTo gA (ajJ [e] X.env)=[(false,eval e X.env)]
structure M2 (X:Cx)(o:Expr)(m:Str)(apos:Pos)(e f:Expr)(gA:Pos):Prop where
 base:attributeBase o m X.env (eval o X.env)=eval o X.env
 few:((backTo gA (ajJ [e,f] X.env)).all (λx=>!x.1) && (backToKw gA (keywordEach [] X.env)).all (λx=>x.1.isSome)
  && decide (([e,f]:List Expr).length+([]:List Keyword).length+(if ([]:List Keyword).isEmpty then 0 else 1) < 30))=true
 line:(apos.endLine == gA.line)=true
 trees:backTo gA (ajJ [e,f] X.env)=[(false,eval e X.env),(false,eval f X.env)]
def IsD (H:Hp)(a:Addr):Prop:=(∃kvs,Rd H a (.dK kvs))\/∃kvs,Rd H a (.dT kvs)
theorem VX {X:Cx}{pins:List (Addr×Obj)}{σ:St}{H:Hp}{s:Shared}{a:Addr}(I:Inv X pins σ H s)(d:IsD H a) :
  s.TypeIs (.ref a) "dict"/\(∀b,adm a=.ref b->∃ob,s.heap.get? b=some ob/\ob.dict=none)/\(a == akY)=false:=by
 rcases d with ⟨kvs,e⟩ | ⟨kvs,e⟩
 ·obtain⟨_,hd,vs,_,dd⟩:=Dj I.hok e;refine⟨dd.typeIs,λb q=>?_,hd⟩
  cases q;obtain⟨ob,_,_,h1,h2,_⟩:=dd;exact⟨ob,h1,h2.2.1⟩
 ·obtain⟨_,hd,xs,_,dd⟩:=FZ I.hok e;refine⟨dd.typeIs,λb q=>?_,hd⟩
  cases q;obtain⟨ob,_,_,h1,h2,_⟩:=dd;exact⟨ob,h1,h2.2.1⟩
def VY (td ty:TE):TE:=λσ H Q=>td σ H λx H1=>∃a,x=.ref a/\IsD H1 a/\ty σ H1 λy H2=>∃kvs k v,H2 a=some (.dK kvs)/\y=kV k/\gQ kvs k=some v/\Q v (upd H2 a (.dK (iL kvs k)))
section
variable{X:Cx}{o e f:Expr}{apos gA:Pos}{td ty tx:TE}
theorem F3 (ho:PE X o td)(he:PE X e ty)(m:M1 X o "pop" apos e gA):PE X (.Call (.Attribute o "pop" apos) [e] [] gA) (VY td ty):=by
 intro pins s σ H Q I h;refine wpAny_Call_method m.base m.few m.line PySem.F.plainAttrs_dict PySem.F.slot_dict_pop PySem.F.type_dict_pop (thn (ho pins s σ H _ I h) λu s1 ⟨x,H1,I1,rx,a,ex,d,q1⟩=>?_)
 subst ex;obtain rfl:u=adm a:=rx;obtain⟨t1,t2,_⟩:=VX I1 d;refine⟨t1,t2,?_⟩;rw[m.trees];refine Calls.callWith_builtin rfl (Calls.evalArgs_plain (Calls.spliced_cons (thn (he pins s1 σ H1 _ I1 q1) λiv s2 ⟨y,H2,I2,ry,kvs,k,v,ea,ey,l,q2⟩=>Calls.spliced_nil ?_)))
 subst ey;exact aak I2 ea ry l (.inl rfl) λw' s3 I3 rw'=>⟨v,_,I3,rw',q2⟩
end
end L2
namespace L2
open PySem PySem.Spec PyProof.Rows
section
variable{X:Cx}
theorem Dk:lx X (.builtin "len") (λxs H Q=>∃a kvs,xs=[V.ref a]/\H a=some (.dK kvs)/\Q (.int kvs.length) H):=by
 intro pins s σ H xs us Q I r h;obtain⟨a,kvs,rfl,ha,q⟩:=h;obtain⟨u,rfl,ru⟩:=vals1 r;cases ru;exact aal I (.inl ha) λt s' I'=>⟨.int kvs.length,H,I',⟨t,rfl⟩,q⟩
end
end L2
set_option maxHeartbeats 1000000
namespace L2
open PySem PySem.Spec PyProof.Rows
theorem Room.u1 {k:Nat}{A:Around}(r:Room k A):A.units+1 < cLine:=by have:=r.un;omega
theorem R8 {X:Cx}{K:ba}{e:Expr}{f:Str}{pos:Pos}{ta:TE}(ek:X.K=K)(he:PE X e ta)(hb:attributeBase e f X.env (eval e X.env)=eval e X.env):PE X (.Attribute e f pos) (ZU K ta f):=by
 subst ek;exact bq he hb
theorem ints_of:∀(l:List Value) (ns:List Int),l.length=ns.length->(∀(j:Nat) (v:Value),l[j]?=some v->∃n t,ns[j]?=some n/\v=Value.int n t)->IntsAre l ns
 |[],[],_,_=>.nil
 |[],_::_,h,_=>nomatch h
 |_::_,[],h,_=>nomatch h
 |v::l,n::ns,h,g=>by
  obtain⟨n',t,e1,e2⟩:=g 0 v rfl;have e3:n=n':=by simpa using e1
  subst e3;subst e2;exact .cons n t (ints_of l ns (by simpa using h) λj v hv=>g (j+1) v (by simpa using hv))
theorem F4:∀ {vs:List Value} {ns:List Int},IntsAre vs ns->Vals (ns.map V.int) vs
 |_,_,.nil=>.nil
 |_,_,.cons n t h=>.cons ⟨t,rfl⟩ (F4 h)
theorem T4 {κ:Type}:∀ {kvs:List (κ×V)} {vs:List (κ×Value)},KV kvs vs->∀(j:Nat) (q:κ×Value),vs[j]?=some q->(kvs.map (·.1))[j]?=some q.1
 |_,_,.nil,j,q,h=>by simp at h
 |_,_,.cons a r,0,q,h=>by
  rw[aj8]at h;cases h;rw[kj,aj8,a.1]
 |_,_,.cons a r,j+1,q,h=>by
  have:=T4 r j q (by simpa using h)
  simpa using this
theorem R9 {P:rf}{w:World}{n:Int}{v:Value}(h:(cZ P w).is (km n) v=true):∃t,v=Value.int n t:=by
 rcases dN (k:=km n) (v:=v) (show Aw (km n) v=true from h) with ⟨i,t,e,rfl⟩ | ⟨x,t,e,rfl⟩
 ·cases e;exact⟨t,rfl⟩
 ·cases e
theorem qa {X:Cx}(hh:X.A.handled=none):lx X (.builtin "sorted") (λxs H Q=>∃a kvs ns,xs=[V.ref a]/\H a=some (.dK kvs)/\kvs.map (·.1)=ns.map km/\ns.length < 64 /\
  ∀l ns',ala ns' ns->ns'.Pairwise (·<=·)->H l=none->Q (.ref l) (upd H l (.lst (ns'.map V.int)))):=by
 intro pins s σ H xs us Q I r h;obtain⟨a,kvs,ns,rfl,ha,hk,h64,q⟩:=h;obtain⟨u,rfl,ru⟩:=vals1 r;cases ru;obtain⟨z,hd,vs,rel,dd⟩:=AO I.hok ha;obtain⟨ep,hat⟩:=dd.dictAt;have hlen:vs.length=ns.length:=by
  have e1:=congrArg List.length hk;simp only[cb]at e1;rw[<-rel.length];exact e1
 refine Calls.call_function_entry kind_sorted plain_sorted entry_sorted (args_sorted1 _) ?_;unfold Builtin.«sorted»;refine fe (m:=checkCount "sorted" 1 1 _) (tm ?_);refine fe (PySem.W.kdu_collect (A:=X.A.in1) (PySem.W.kdl_dict (knd:=cZ X.prog X.w) (kvs:=vs) (ep:=ep) hd) hh hat (by rw[<-rel.length];exact z) λh' tk acc kp RS=>?_)
 have hsz:acc.toList.length=ns.length:=by rw[ak5];exact RS.1.trans hlen
 have hI:IntsAre acc.toList ns:=ints_of _ _ hsz λj v hv=>by
  obtain⟨k,x,hx,hkv⟩:=RS.2 j v (by rw[<-Array.getElem?_toList];exact hv)
  have e:=T4 rel j _ hx;rw[hk,aj7]at e;cases en:ns[j]? with
  |none=>rw[en]at e;cases e
  |some n =>
   rw[en]at e;have e':km n=k:=by simpa using e
   subst e';obtain⟨t,rfl⟩:=R9 hkv;exact⟨n,t,rfl,rfl⟩
 refine fe (wpAny_newList ?_ (by rw[hsz];rw[sizeLine_eq];omega))
 have hoL:(h'.push (seqObj "list" acc.toList.toArray 0)).get? h'.objs.size=some (seqObj "list" acc.toList.toArray 0):=ajU _ rfl;refine fe (akw (wpAny_call_entry slot_list_sort ⟨_,hoL,rfl⟩ entry_list_sort (list_sort_tree hoL hI (by omega) λout ns' a1 a2 a3=>⟨_,rfl,?_⟩) (args_list_sort _)))
 refine tm ⟨_,rfl,?_⟩;obtain⟨e,he⟩:=sortedHeap_at (out:=out) hoL;have I1:Inv X pins σ H { s with heap:=h',toks:=tk }:=I.un (Un.kept kp) (I.hok.kept kp)
 refine⟨.ref h'.objs.size,_,I1.laid (t':=tk) (λb o hb=>?_) (kr _) (show dU X.prog X.w _ _ _ (.lst (ns'.map V.int)) from ⟨?_,_,e,F4 a1,?_⟩),rfl,q _ ns' a2 a3 (I1.hok.fresh (kr _))⟩
 ·have hb':h'.get? b=some o:=hb;have hlt:=si hb';rw[sortedHeap_old (ajV hlt) (by rw[size_push'];exact Nat.lt_succ_of_lt hlt)]
  exact kf _ hb'
 ·rw[cb,a2.length_eq,sizeLine_eq];omega
 ·rw[Array.toArray_toList];exact he
theorem xj:aku "sorted"=some (.builtin "sorted"):=by decide +kernel
theorem Sa {X:Cx}(hu:X.A.units+1 < cLine):OpR X (akG .NotEq) (λx y H Q=>∃a b kvs,x=.ref a/\y=.ref b/\H a=some (.dK kvs)/\H b=some (.dK [])/\Q (.bl (!kvs.isEmpty)) H):=by
 intro pins s σ H x y v u Q I rx ry h;obtain⟨a,b,kvs,rfl,rfl,ha,hb,q⟩:=h;cases rx;cases ry;obtain⟨_,h1,vs,r1,d1⟩:=AO I.hok ha;obtain⟨_,h2,ws,r2,d2⟩:=AO I.hok hb;cases r2;refine PySem.W.keq_ne (knd:=cZ X.prog X.w) (r:=true) h1 h2 d1 d2 (by omega) (λe=>?_) ⟨.bl _,H,I,?_,q⟩
 ·have:vs=[]:=List.length_eq_zero_iff.mp e;subst this;exact .nil
 ·have hl:=r1.length;cases kvs with
  |nil =>
   have:vs=[]:=List.length_eq_zero_iff.mp (by rw[<-hl];rfl)
   subst this;rfl
  |cons p r =>
   cases vs with
   |nil=>simp at hl
   |cons _ _=>rfl
theorem hide {P:Prop}(h:∀G:Prop,(P->G)->G):P:=h P id
theorem ixv {s:Option (Option V)}{p:Addr}{n:Int}{S:Addr->List V->Prop}{xs:List V}{z:V}{R:V->Prop}(h0:s=some (some (.ref p)))(h1:S p xs)(h2:atI xs n=some z)(h:R z):∃v,s=some (some v)/\∃q ys i w,v=.ref q/\V.int n=.int i/\S q ys/\atI ys i=some w/\R w :=
 ⟨_,h0,p,xs,n,z,rfl,rfl,h1,h2,h⟩
theorem fj {K:ba}{s:Option (Option V)}{H:Hp}{a C dx:Addr}{fs:List (Str×V)}{f:Str}{w:V}{R:V->Prop}(h0:s=some (some (.ref a)))(h1:H a=some (.ins C dx fs))(h2:Cls K C)(h3:dW K C f)(h4:fs.lookup f=some w)(h:R w) :
  ∃v,s=some (some v)/\∃a C dx fs w,v=.ref a/\H a=some (.ins C dx fs)/\Cls K C/\dW K C f/\fs.lookup f=some w/\R w:=⟨_,h0,a,C,dx,fs,w,rfl,h1,h2,h3,h4,h⟩
theorem dgv {s:Option (Option V)}{a:Addr}{v:V}{D:Addr->V->Prop}{R:V->Prop}(h0:s=some (some (.ref a)))(h1:D a v)(h:R v):∃x,s=some (some x)/\∃a v,x=.ref a/\D a v/\R v:=⟨_,h0,a,v,rfl,h1,h⟩
theorem mtv {s:Option (Option V)}{H:Hp}{a C dx:Addr}{fs:List (Str×V)}{m:Str}{R:V->Prop}(h0:s=some (some (.ref a)))(h1:H a=some (.ins C dx fs))(h2:fs.lookup m=none)(h:R (.ref a)) :
  ∃v,s=some (some v)/\∃a dx fs,v=.ref a/\H a=some (.ins C dx fs)/\fs.lookup m=none/\R v:=⟨_,h0,a,dx,fs,rfl,h1,h2,h⟩
theorem tsf {b:Bool}{P Q:Prop}(h:b=false)(q:Q):∃k,V.bl b=.bl k/\if k=true then P else Q:=⟨b,rfl,by rw[h];exact q⟩
theorem tst {b:Bool}{P Q:Prop}(h:b=true)(q:P):∃k,V.bl b=.bl k/\if k=true then P else Q:=⟨b,rfl,by rw[h];exact q⟩
end L2
set_option maxHeartbeats 1000000
namespace My
open PySem L2
seal PySem.wpAny
def top (i:Nat):Stmt:=PySem.Challenge.pw_moot_k13_whole_each_deed.main.body.getD i (.Pass ⟨0,0,0,0⟩)
abbrev fR:Stmt:=inClass (top 22) 1
theorem AR:aS ["self"] ["self"] (ah fR):=⟨rfl,rfl,rfl,by decide +kernel,rfl,by decide +kernel,by decide +kernel⟩
abbrev fS:Stmt:=inClass (top 23) 1
theorem AS:aS ["self"] ["self"] (ah fS):=⟨rfl,rfl,rfl,by decide +kernel,rfl,by decide +kernel,by decide +kernel⟩
abbrev iM:Stmt:=inClass (top 24) 1
theorem EB:aS ["self"] ["self"] (ah iM):=⟨rfl,rfl,rfl,by decide +kernel,rfl,by decide +kernel,by decide +kernel⟩
abbrev fU:Stmt:=inClass (top 25) 1
theorem AU:aS ["self"] ["self"] (ah fU):=⟨rfl,rfl,rfl,by decide +kernel,rfl,by decide +kernel,by decide +kernel⟩
abbrev gR:Stmt:=inClass (top 26) 0
theorem CB:aS ["self"] ["self"] (ah gR):=⟨rfl,rfl,rfl,by decide +kernel,rfl,by decide +kernel,by decide +kernel⟩
abbrev jE:Stmt:=inClass (top 27) 0
theorem F5:aS ["self"] ["self"] (ah jE):=⟨rfl,rfl,rfl,by decide +kernel,rfl,by decide +kernel,by decide +kernel⟩
abbrev iN:Stmt:=inClass (top 28) 0
theorem EC:aS ["self"] ["self"] (ah iN):=⟨rfl,rfl,rfl,by decide +kernel,rfl,by decide +kernel,by decide +kernel⟩
abbrev gS:Stmt:=inClass (top 29) 1
theorem CC:aS ["self"] ["self"] (ah gS):=⟨rfl,rfl,rfl,by decide +kernel,rfl,by decide +kernel,by decide +kernel⟩
abbrev fV:Stmt:=inClass (top 21) 1
theorem AV:aS ["self"] ["self"] (ah fV):=⟨rfl,rfl,rfl,by decide +kernel,rfl,by decide +kernel,by decide +kernel⟩
abbrev fW:Stmt:=inClass (top 21) 2
theorem AW:aS ["self"] ["self"] (ah fW):=⟨rfl,rfl,rfl,by decide +kernel,rfl,by decide +kernel,by decide +kernel⟩
abbrev gU:Stmt:=inClass (top 26) 1
theorem CD:aS ["self"] ["self"] (ah gU):=⟨rfl,rfl,rfl,by decide +kernel,rfl,by decide +kernel,by decide +kernel⟩
abbrev fX:Stmt:=inClass (top 21) 3
theorem AX:aS ["self"] ["self"] (ah fX):=⟨rfl,rfl,rfl,by decide +kernel,rfl,by decide +kernel,by decide +kernel⟩
abbrev fY:Stmt:=inClass (top 22) 2
theorem AY:aS ["self"] ["self"] (ah fY):=⟨rfl,rfl,rfl,by decide +kernel,rfl,by decide +kernel,by decide +kernel⟩
abbrev fZ:Stmt:=inClass (top 23) 2
theorem AZ:aS ["self"] ["self"] (ah fZ):=⟨rfl,rfl,rfl,by decide +kernel,rfl,by decide +kernel,by decide +kernel⟩
abbrev iO:Stmt:=inClass (top 24) 2
theorem ED:aS ["self"] ["self"] (ah iO):=⟨rfl,rfl,rfl,by decide +kernel,rfl,by decide +kernel,by decide +kernel⟩
abbrev f6:Stmt:=inClass (top 25) 2
theorem A0:aS ["self"] ["self"] (ah f6):=⟨rfl,rfl,rfl,by decide +kernel,rfl,by decide +kernel,by decide +kernel⟩
abbrev gW:Stmt:=inClass (top 29) 2
theorem CF:aS ["self"] ["self"] (ah gW):=⟨rfl,rfl,rfl,by decide +kernel,rfl,by decide +kernel,by decide +kernel⟩
abbrev f7:Stmt:=inClass (top 22) 0
theorem A1:aS ["self","text"] ["self","text"] (ah f7):=⟨rfl,rfl,rfl,by decide +kernel,rfl,by decide +kernel,by decide +kernel⟩
abbrev f9:Stmt:=inClass (top 23) 0
theorem A2:aS ["self","edit"] ["self","edit"] (ah f9):=⟨rfl,rfl,rfl,by decide +kernel,rfl,by decide +kernel,by decide +kernel⟩
abbrev iP:Stmt:=inClass (top 24) 0
theorem EE:aS ["self","edit"] ["self","edit"] (ah iP):=⟨rfl,rfl,rfl,by decide +kernel,rfl,by decide +kernel,by decide +kernel⟩
abbrev gb:Stmt:=inClass (top 25) 0
theorem A3:aS ["self","sitting"] ["self","sitting"] (ah gb):=⟨rfl,rfl,rfl,by decide +kernel,rfl,by decide +kernel,by decide +kernel⟩
abbrev gX:Stmt:=inClass (top 29) 0
theorem CG:aS ["self","clause"] ["self","clause"] (ah gX):=⟨rfl,rfl,rfl,by decide +kernel,rfl,by decide +kernel,by decide +kernel⟩
abbrev gf:Stmt:=inClass (top 4) 0
theorem A4:aS ["self","bar"] ["self","bar"] (ah gf):=⟨rfl,rfl,rfl,by decide +kernel,rfl,by decide +kernel,by decide +kernel⟩
abbrev ef:Stmt:=inClass (top 7) 0
theorem xl:aS ["self","sitting"] ["self","sitting"] (ah ef):=⟨rfl,rfl,rfl,by decide +kernel,rfl,by decide +kernel,by decide +kernel⟩
abbrev gg:Stmt:=inClass (top 11) 0
theorem A5:aS ["self","sitting"] ["self","sitting"] (ah gg):=⟨rfl,rfl,rfl,by decide +kernel,rfl,by decide +kernel,by decide +kernel⟩
abbrev eS:Stmt:=inClass (top 46) 0
theorem yR:aS ["self","seats"] ["self","seats"] (ah eS):=⟨rfl,rfl,rfl,by decide +kernel,rfl,by decide +kernel,by decide +kernel⟩
abbrev eT:Stmt:=inClass (top 46) 1
theorem qA:aS ["self","told","number"] ["self","told"] (ah eT):=⟨rfl,rfl,rfl,by decide +kernel,rfl,by decide +kernel,by decide +kernel⟩
abbrev eU:Stmt:=inClass (top 46) 2
theorem lh:aS ["self","ayes","noes","motion","word"] ["self","ayes","noes"] (ah eU):=⟨rfl,rfl,rfl,by decide +kernel,rfl,by decide +kernel,by decide +kernel⟩
abbrev eV:Stmt:=inClass (top 46) 3
theorem yS:aS ["self"] ["self"] (ah eV):=⟨rfl,rfl,rfl,by decide +kernel,rfl,by decide +kernel,by decide +kernel⟩
abbrev eW:Stmt:=inClass (top 46) 4
theorem qB:aS ["self","number","until"] ["self","number"] (ah eW):=⟨rfl,rfl,rfl,by decide +kernel,rfl,by decide +kernel,by decide +kernel⟩
abbrev dD:Stmt:=inClass (top 46) 6
theorem xm:aS ["self","aside"] ["self"] (ah dD):=⟨rfl,rfl,rfl,by decide +kernel,rfl,by decide +kernel,by decide +kernel⟩
abbrev ly:Scope:={ kind:=.function,names:=[(ar ".0",.local),(ar "number",.local),(ar "self",.free)],isGenerator:=false,isCoroutine:=false,more:=[] }
theorem uq:d9 ly (ah dD) "number" ["self","aside"] ["self","aside"]:=⟨rfl,rfl,by decide +kernel,by decide +kernel,rfl,by decide +kernel,by decide +kernel,by decide +kernel,by decide +kernel,rfl,by decide +kernel,by decide +kernel⟩
abbrev dO:Stmt:=inClass (top 46) 7
theorem vv:aS ["self","number"] ["self","number"] (ah dO):=⟨rfl,rfl,rfl,by decide +kernel,rfl,by decide +kernel,by decide +kernel⟩
abbrev cK:Stmt:=inClass (top 46) 12
theorem ur:aS ["self"] ["self"] (ah cK):=⟨rfl,rfl,rfl,by decide +kernel,rfl,by decide +kernel,by decide +kernel⟩
abbrev jw:Scope:={ kind:=.function,names:=[(ar ".0",.local),(ar "number",.local),(ar "self",.free)],isGenerator:=false,isCoroutine:=false,more:=[] }
theorem rG:d9 jw (ah cK) "number" ["self"] ["self"]:=⟨rfl,rfl,by decide +kernel,by decide +kernel,rfl,by decide +kernel,by decide +kernel,by decide +kernel,by decide +kernel,rfl,by decide +kernel,by decide +kernel⟩
abbrev cz:Stmt:=inClass (top 46) 13
theorem jx:aS ["self","number","waiting"] ["self","number"] (ah cz):=⟨rfl,rfl,rfl,by decide +kernel,rfl,by decide +kernel,by decide +kernel⟩
abbrev bB:Stmt:=inClass (top 46) 14
theorem cU:aS ["self","told","kind","pile"] ["self","told"] (ah bB):=⟨rfl,rfl,rfl,by decide +kernel,rfl,by decide +kernel,by decide +kernel⟩
abbrev bM:Stmt:=inClass (top 46) 15
theorem l9:aS ["self"] ["self"] (ah bM):=⟨rfl,rfl,rfl,by decide +kernel,rfl,by decide +kernel,by decide +kernel⟩
abbrev dP:Stmt:=inClass (top 46) 17
theorem vw:aS ["self","word"] ["self","word"] (ah dP):=⟨rfl,rfl,rfl,by decide +kernel,rfl,by decide +kernel,by decide +kernel⟩
abbrev b7:Stmt:=inClass (top 46) 18
theorem oU:aS ["self","deed"] ["self","deed"] (ah b7):=⟨rfl,rfl,rfl,by decide +kernel,rfl,by decide +kernel,by decide +kernel⟩
abbrev cP:Stmt:=inClass (top 46) 19
theorem kK:aS ["self","motion","kind"] ["self","motion"] (ah cP):=⟨rfl,rfl,rfl,by decide +kernel,rfl,by decide +kernel,by decide +kernel⟩
abbrev bR:Stmt:=inClass (top 46) 20
theorem ic:aS ["self","edit","number"] ["self","edit"] (ah bR):=⟨rfl,rfl,rfl,by decide +kernel,rfl,by decide +kernel,by decide +kernel⟩
abbrev bS:Stmt:=inClass (top 46) 21
theorem dc:aS ["self","edit","number","change","words"] ["self","edit"] (ah bS):=⟨rfl,rfl,rfl,by decide +kernel,rfl,by decide +kernel,by decide +kernel⟩
abbrev cQ:Stmt:=inClass (top 46) 22
theorem rH:aS ["self","until"] ["self","until"] (ah cQ):=⟨rfl,rfl,rfl,by decide +kernel,rfl,by decide +kernel,by decide +kernel⟩
abbrev xn:Stmt:=top 14
theorem EF:aS ["things","edit","places"] ["things","edit"] (ah xn):=⟨rfl,rfl,rfl,by decide +kernel,rfl,by decide +kernel,by decide +kernel⟩
abbrev gh:Stmt:=top 15
theorem A6:aS ["things","edit"] ["things","edit"] (ah gh):=⟨rfl,rfl,rfl,by decide +kernel,rfl,by decide +kernel,by decide +kernel⟩
abbrev xp:Stmt:=top 16
theorem Af:aS ["things","edit","kind","place","behind"] ["things","edit"] (ah xp):=⟨rfl,rfl,rfl,by decide +kernel,rfl,by decide +kernel,by decide +kernel⟩
abbrev jF:Stmt:=top 17
theorem F6:aS ["clause"] ["clause"] (ah jF):=⟨rfl,rfl,rfl,by decide +kernel,rfl,by decide +kernel,by decide +kernel⟩
abbrev iQ:Stmt:=top 18
theorem EG:aS ["words"] ["words"] (ah iQ):=⟨rfl,rfl,rfl,by decide +kernel,rfl,by decide +kernel,by decide +kernel⟩
abbrev iR:Stmt:=top 30
theorem lE:aS ["told","kind"] ["told"] (ah iR):=⟨rfl,rfl,rfl,by decide +kernel,rfl,by decide +kernel,by decide +kernel⟩
abbrev oV:Stmt:=top 33
theorem Dl:aS ["pile","closed","bar"] ["pile","closed"] (ah oV):=⟨rfl,rfl,rfl,by decide +kernel,rfl,by decide +kernel,by decide +kernel⟩
abbrev fD:Stmt:=top 34
theorem CH:aS ["pile"] ["pile"] (ah fD):=⟨rfl,rfl,rfl,by decide +kernel,rfl,by decide +kernel,by decide +kernel⟩
abbrev oW:Scope:={ kind:=.function,names:=[(ar ".0",.local),(ar "motion",.local)],isGenerator:=false,isCoroutine:=false,more:=[] }
theorem yT:d9 oW (ah fD) "motion" ["pile"] ["pile"]:=⟨rfl,rfl,by decide +kernel,by decide +kernel,rfl,by decide +kernel,by decide +kernel,by decide +kernel,by decide +kernel,rfl,by decide +kernel,by decide +kernel⟩
abbrev eh:Stmt:=top 35
theorem oX:aS ["pile","told"] ["pile"] (ah eh):=⟨rfl,rfl,rfl,by decide +kernel,rfl,by decide +kernel,by decide +kernel⟩
abbrev cR:Stmt:=top 36
theorem rJ:aS ["kind","pile"] ["kind","pile"] (ah cR):=⟨rfl,rfl,rfl,by decide +kernel,rfl,by decide +kernel,by decide +kernel⟩
abbrev cV:Stmt:=top 37
theorem lz:aS ["kind","pile","closed","bar"] ["kind","pile","closed"] (ah cV):=⟨rfl,rfl,rfl,by decide +kernel,rfl,by decide +kernel,by decide +kernel⟩
abbrev ei:Stmt:=top 39
theorem jG:aS ["text","words","clause"] ["text"] (ah ei):=⟨rfl,rfl,rfl,by decide +kernel,rfl,by decide +kernel,by decide +kernel⟩
abbrev et:Stmt:=top 40
theorem oY:aS ["edit","words"] ["edit"] (ah et):=⟨rfl,rfl,rfl,by decide +kernel,rfl,by decide +kernel,by decide +kernel⟩
abbrev dX:Stmt:=top 41
theorem qC:aS ["deed","kind"] ["deed"] (ah dX):=⟨rfl,rfl,rfl,by decide +kernel,rfl,by decide +kernel,by decide +kernel⟩
abbrev md:Scope:={ kind:=.function,names:=[(ar ".0",.local),(ar "number",.local),(ar "str",.globalImplicit)],isGenerator:=false,isCoroutine:=false,more:=[] }
theorem vx:d9 md (ah dX) "number" ["deed","kind"] ["deed","kind"]:=⟨rfl,rfl,by decide +kernel,by decide +kernel,rfl,by decide +kernel,by decide +kernel,by decide +kernel,by decide +kernel,rfl,by decide +kernel,by decide +kernel⟩
abbrev iS:Stmt:=top 42
theorem EH:aS ["deed"] ["deed"] (ah iS):=⟨rfl,rfl,rfl,by decide +kernel,rfl,by decide +kernel,by decide +kernel⟩
abbrev lQ:Stmt:=top 44
theorem JU:aS ["need","ayes","noes"] ["need","ayes","noes"] (ah lQ):=⟨rfl,rfl,rfl,by decide +kernel,rfl,by decide +kernel,by decide +kernel⟩
abbrev iT:Stmt:=top 48
theorem EI:aS ["_law_script","_law_k"] ["_law_script","_law_k"] (ah iT):=⟨rfl,rfl,rfl,by decide +kernel,rfl,by decide +kernel,by decide +kernel⟩
abbrev oZ:Stmt:=top 49
theorem o8:aS ["_law_cell","_law_signs","_law_word_here","_law_k"] ["_law_cell"] (ah oZ):=⟨rfl,rfl,rfl,by decide +kernel,rfl,by decide +kernel,by decide +kernel⟩
abbrev jH:Stmt:=top 50
theorem gC:aS ["_law_cell","_law_words_here","_law_number","_law_many","_law_k"] ["_law_cell"] (ah jH):=⟨rfl,rfl,rfl,by decide +kernel,rfl,by decide +kernel,by decide +kernel⟩
abbrev o9:Stmt:=top 51
theorem Dm:aS ["_law_cell","_law_size","_law_thing","_law_place"] ["_law_cell","_law_size","_law_thing"] (ah o9):=⟨rfl,rfl,rfl,by decide +kernel,rfl,by decide +kernel,by decide +kernel⟩
abbrev pb:Stmt:=top 52
theorem M5:aS ["_law_things","_law_edit_here"] ["_law_things","_law_edit_here"] (ah pb):=⟨rfl,rfl,rfl,by decide +kernel,rfl,by decide +kernel,by decide +kernel⟩
abbrev pd:Stmt:=top 53
theorem Dn:aS ["_law_things","_law_edit_here","_law_at"] ["_law_things","_law_edit_here"] (ah pd):=⟨rfl,rfl,rfl,by decide +kernel,rfl,by decide +kernel,by decide +kernel⟩
abbrev lR:Stmt:=top 54
theorem JV:aS ["_law_clause_here"] ["_law_clause_here"] (ah lR):=⟨rfl,rfl,rfl,by decide +kernel,rfl,by decide +kernel,by decide +kernel⟩
abbrev pe:Stmt:=top 55
theorem M6:aS ["_law_kind"] ["_law_kind"] (ah pe):=⟨rfl,rfl,rfl,by decide +kernel,rfl,by decide +kernel,by decide +kernel⟩
abbrev tG:Stmt:=top 56
theorem O8:aS [] [] (ah tG):=⟨rfl,rfl,rfl,by decide +kernel,rfl,by decide +kernel,by decide +kernel⟩
abbrev tH:Stmt:=top 57
theorem O9:aS ["_law_m","_law_number"] ["_law_m","_law_number"] (ah tH):=⟨rfl,rfl,rfl,by decide +kernel,rfl,by decide +kernel,by decide +kernel⟩
abbrev tI:Stmt:=top 58
theorem A7:aS ["_law_m","_law_bar_here"] ["_law_m"] (ah tI):=⟨rfl,rfl,rfl,by decide +kernel,rfl,by decide +kernel,by decide +kernel⟩
abbrev lS:Stmt:=top 59
theorem uu:aS ["_law_m","_law_motion","_law_kind","_law_top"] ["_law_m","_law_motion"] (ah lS):=⟨rfl,rfl,rfl,by decide +kernel,rfl,by decide +kernel,by decide +kernel⟩
abbrev pf:Stmt:=top 60
theorem jI:aS ["_law_m","_law_motion","_law_matter","_law_change","_law_word_here","_law_at","_law_clause_here","_law_until"] ["_law_m","_law_motion"] (ah pf):=⟨rfl,rfl,rfl,by decide +kernel,rfl,by decide +kernel,by decide +kernel⟩
abbrev lT:Stmt:=top 61
theorem A8:aS ["_law_m","_law_word_here","_law_number"] ["_law_m","_law_word_here"] (ah lT):=⟨rfl,rfl,rfl,by decide +kernel,rfl,by decide +kernel,by decide +kernel⟩
abbrev lU:Stmt:=top 62
theorem uv:aS ["_law_m","_law_ayes","_law_noes","_law_seats_here","_law_kept"] ["_law_m","_law_ayes","_law_noes","_law_seats_here"] (ah lU):=⟨rfl,rfl,rfl,by decide +kernel,rfl,by decide +kernel,by decide +kernel⟩
abbrev lV:Stmt:=top 63
theorem uw:aS ["_law_m","_law_number","_law_until","_law_pile"] ["_law_m","_law_number"] (ah lV):=⟨rfl,rfl,rfl,by decide +kernel,rfl,by decide +kernel,by decide +kernel⟩
abbrev tJ:Stmt:=top 64
theorem F7:aS ["_law_m","_law_deed_here","_law_seats_here","_law_lack"] ["_law_m","_law_deed_here","_law_seats_here"] (ah tJ):=⟨rfl,rfl,rfl,by decide +kernel,rfl,by decide +kernel,by decide +kernel⟩
abbrev lW:Stmt:=top 65
theorem ux:aS ["_law_m","_law_aside","_law_number"] ["_law_m"] (ah lW):=⟨rfl,rfl,rfl,by decide +kernel,rfl,by decide +kernel,by decide +kernel⟩
abbrev ph:Stmt:=top 66
theorem pj:aS ["_law_cell","_law_seats_here","_law_ayes","_law_noes"] ["_law_cell","_law_seats_here"] (ah ph):=⟨rfl,rfl,rfl,by decide +kernel,rfl,by decide +kernel,by decide +kernel⟩
abbrev jJ:Stmt:=top 67
theorem yq:aS ["_law_m","_law_way","_law_top"] ["_law_m","_law_way"] (ah jJ):=⟨rfl,rfl,rfl,by decide +kernel,rfl,by decide +kernel,by decide +kernel⟩
abbrev mf:Stmt:=top 68
theorem dQ:aS ["_law_m","_law_cell","_law_seats_here","_law_way","_law_more","_law_size","_law_clause_here","_law_bottom","_law_top","_law_many"] ["_law_m","_law_cell","_law_seats_here"] (ah mf):=⟨rfl,rfl,rfl,by decide +kernel,rfl,by decide +kernel,by decide +kernel⟩
abbrev vy:Scope:={ kind:=.function,names:=[(ar ".0",.local),(ar "_law_k",.local),(ar "_law_clause",.globalImplicit),(ar "_law_more",.free)],isGenerator:=false,isCoroutine:=false,more:=[] }
theorem F8:d9 vy (ah mf) "_law_k" ["_law_m","_law_cell","_law_seats_here","_law_way","_law_more","_law_size","_law_clause_here","_law_bottom","_law_top","_law_many"] ["_law_m","_law_cell","_law_seats_here","_law_way","_law_more","_law_size","_law_clause_here","_law_bottom","_law_top","_law_many"]:=⟨rfl,rfl,by decide +kernel,by decide +kernel,rfl,by decide +kernel,by decide +kernel,by decide +kernel,by decide +kernel,rfl,by decide +kernel,by decide +kernel⟩
abbrev lX:Stmt:=top 69
theorem cL:aS ["_law_chamber","_law_deed_here","_law_found","e"] ["_law_chamber","_law_deed_here"] (ah lX):=⟨rfl,rfl,rfl,by decide +kernel,rfl,by decide +kernel,by decide +kernel⟩
abbrev lY:Stmt:=top 70
theorem JW:aS ["_law_cell"] ["_law_cell"] (ah lY):=⟨rfl,rfl,rfl,by decide +kernel,rfl,by decide +kernel,by decide +kernel⟩
abbrev vz:Stmt:=top 71
theorem rK:aS ["_law_script","_law_seats_here","_law_chamber","_law_m","_law_cell","_law_deed_here","_law_due_here","_law_number"] ["_law_script"] (ah vz):=⟨rfl,rfl,rfl,by decide +kernel,rfl,by decide +kernel,by decide +kernel⟩
structure Adr where
 fits:Addr
 Ag:ki
 kL:Addr
 gD:ki
 laid:Addr
 vA:ki
 words_of:Addr
 fq:ki
 pq:Addr
 i7:ki
 lZ:Addr
 gY:ki
 A9:Addr
 pw:ki
 mh:Addr
 ie:ki
 kz:Addr
 gZ:ki
 gq:Addr
 ez:ki
 g0:Addr
 eL:ki
 kA:Addr
 g7:ki
 kB:Addr
 g8:ki
 lF:Addr
 ix:ki
 l4:Addr
 g9:ki
 Ah:Addr
 qb:ki
 tK:Addr
 lG:ki
 Ba:Addr
 pz:ki
 vB:Addr
 nj:ki
 EJ:Addr
 tL:ki
 EK:Addr
 tM:ki
 EL:Addr
 tN:ki
 tO:Addr
 jK:ki
 Bb:Addr
 pA:ki
 LZ:Addr
 vC:ki
 ue:Addr
 ig:ki
 F9:Addr
 rL:ki
 Ai:Addr
 qc:ki
 EM:Addr
 tP:ki
 vD:Addr
 mi:ki
 Aj:Addr
 qd:ki
 Ak:Addr
 qe:ki
 L3:Addr
 vE:ki
 Al:Addr
 qf:ki
 EN:Addr
 tQ:ki
 vF:Addr
 nq:ki
 EO:Addr
 tR:ki
 vG:Addr
 mj:ki
 Am:Addr
 qg:ki
 kD:Tok
 c0:Addr
 c1:Addr
 c2:Addr
 c3:Addr
 c4:Addr
 c5:Addr
 c6:Addr
 c7:Addr
 Cm:Addr
 tab:Addr
 VZ:Addr
 Pa:ki
 V0:Addr
 Pb:ki
 V1:Addr
 Pc:ki
 V2:Addr
 Pd:ki
 V3:Addr
 Pe:ki
 V4:Addr
 Pf:ki
 V5:Addr
 Pg:ki
 V6:Addr
 Ph:ki
 f_r:Addr
 Sb:ki
 f_n:Addr
 ER:ki
 V7:Addr
 Pj:ki
 f_t:Addr
 Pk:ki
 V8:Addr
 Pl:ki
 V9:Addr
 Pm:ki
 Wa:Addr
 Pn:ki
 Wb:Addr
 Po:ki
 Wc:Addr
 Pp:ki
 M7:Addr
 Dp:ki
 M8:Addr
 Dq:ki
 Pq:Addr
 Ga:ki
 Pr:Addr
 Gb:ki
 Pt:Addr
 Gd:ki
 ax:Addr
 cn:Addr
 iy:ki
 cq:Addr
 iz:ki
 cv:Addr
 iA:ki
 cw:Addr
 iB:ki
 cx:Addr
 iC:ki
 b6:Addr
 hG:ki
 bO:Addr
 gu:ki
 bG:Addr
 dY:ki
 bz:Addr
 d4:ki
 a8:Addr
 b8:ki
 bf:Addr
 bW:ki
 bH:Addr
 eA:ki
 bj:Addr
 cA:ki
 bC:Addr
 eB:ki
 br:Addr
 df:ki
 bt:Addr
 dg:ki
 bD:Addr
 eC:ki
 rM:Addr
 fE:Addr
 cT:Addr
 cW:Addr
 cX:Addr
 bX:Addr
 du:Addr
 dR:Addr
 dS:Addr
 dh:Addr
 qh:Addr
 rN:Addr
 pB:ki
 qi:Addr
 nr:ki
 vH:Addr
 tS:ki
def Adr.C (A:Adr):Nat->Addr
 | 0=>A.c0
 | 1=>A.c1
 | 2=>A.c2
 | 3=>A.c3
 | 4=>A.c4
 | 5=>A.c5
 | 6=>A.c6
 |_=>A.c7
def Adr.fk (A:Adr):Nat->Addr
 | 0=>A.VZ
 | 1=>A.V0
 | 2=>A.V1
 | 3=>A.V2
 | 4=>A.V3
 | 5=>A.V4
 | 6=>A.V5
 |_=>A.V6
def Adr.fkd (A:Adr):Nat->ki
 | 0=>A.Pa
 | 1=>A.Pb
 | 2=>A.Pc
 | 3=>A.Pd
 | 4=>A.Pe
 | 5=>A.Pf
 | 6=>A.Pg
 |_=>A.Ph
def Adr.fn (A:Adr):Nat->Addr
 | 0=>A.f_n
 | 1=>A.f_n
 | 2=>A.f_n
 | 3=>A.f_n
 | 4=>A.V7
 | 5=>A.f_n
 | 6=>A.f_n
 |_=>A.f_n
def Adr.fnd (A:Adr):Nat->ki
 | 0=>A.ER
 | 1=>A.ER
 | 2=>A.ER
 | 3=>A.ER
 | 4=>A.Pj
 | 5=>A.ER
 | 6=>A.ER
 |_=>A.ER
def Adr.ft (A:Adr):Nat->Addr
 | 0=>A.V8
 | 1=>A.V9
 | 2=>A.Wa
 | 3=>A.Wb
 | 4=>A.f_t
 | 5=>A.f_t
 | 6=>A.f_t
 |_=>A.Wc
def Adr.ftd (A:Adr):Nat->ki
 | 0=>A.Pl
 | 1=>A.Pm
 | 2=>A.Pn
 | 3=>A.Po
 | 4=>A.Pk
 | 5=>A.Pk
 | 6=>A.Pk
 |_=>A.Pp
def nm:Nat->Str
 | 0=>ar "matter"
 | 1=>ar "change"
 | 2=>ar "mend"
 | 3=>ar "put off"
 | 4=>ar "close"
 | 5=>ar "lay"
 | 6=>ar "rest"
 |_=>ar "point"
structure Txt (P:Params)(K:ba)(mg:Str->Option Value)(A:Adr):Prop where
 JX:Fun K "fits" "fits" xn A.fits A.Ag
 Pu:Binds K A.Ag ["things","edit"] []
 Pw:mg "fits"=some (.ref A.fits)
 ij:Fun K "require_fit" "require_fit" gh A.kL A.gD
 kF:Binds K A.gD ["things","edit"] []
 kG:mg "require_fit"=some (.ref A.kL)
 ES:Fun K "laid" "laid" xp A.laid A.vA
 JY:Binds K A.vA ["things","edit"] []
 JZ:mg "laid"=some (.ref A.laid)
 iF:Fun K "words_of" "words_of" jF A.words_of A.fq
 jL:Binds K A.fq ["clause"] []
 jM:mg "words_of"=some (.ref A.words_of)
 nv:Fun K "clause_of" "clause_of" iQ A.pq A.i7
 rO:Binds K A.i7 ["words"] []
 rP:mg "clause_of"=some (.ref A.pq)
 ny:Fun K "motion_of" "motion_of" iR A.lZ A.gY
 yt:Binds K A.gY ["told"] []
 yu:mg "motion_of"=some (.ref A.lZ)
 vI:Fun K "bar_of" "bar_of" oV A.A9 A.pw
 Bc:Binds K A.pw ["pile","closed"] []
 Bd:mg "bar_of"=some (.ref A.A9)
 lH:Fun K "has_matter" "has_matter" fD A.mh A.ie
 qj:Binds K A.ie ["pile"] []
 qk:mg "has_matter"=some (.ref A.mh)
 lj:Fun K "can_be_mended" "can_be_mended" eh A.kz A.gZ
 qD:Binds K A.gZ ["pile"] []
 qE:mg "can_be_mended"=some (.ref A.kz)
 hZ:Fun K "has_what_it_needs" "has_what_it_needs" cR A.gq A.ez
 lA:Binds K A.ez ["kind","pile"] []
 lB:mg "has_what_it_needs"=some (.ref A.gq)
 iG:Fun K "require_in_order" "require_in_order" cV A.g0 A.eL
 mq:Binds K A.eL ["kind","pile","closed"] []
 mr:mg "require_in_order"=some (.ref A.g0)
 ll:Fun K "words_of_text" "words_of_text" ei A.kA A.g7
 qF:Binds K A.g7 ["text"] []
 qG:mg "words_of_text"=some (.ref A.kA)
 lq:Fun K "words_of_edit" "words_of_edit" et A.kB A.g8
 qH:Binds K A.g8 ["edit"] []
 qI:mg "words_of_edit"=some (.ref A.kB)
 mw:Fun K "words_behind" "words_behind" dX A.lF A.ix
 rQ:Binds K A.ix ["deed"] []
 rR:mg "words_behind"=some (.ref A.lF)
 kM:Fun K "show_deed" "show_deed" iS A.l4 A.g9
 nz:Binds K A.g9 ["deed"] []
 nA:mg "show_deed"=some (.ref A.l4)
 xq:Fun K "is_kept" "is_kept" lQ A.Ah A.qb
 Dr:Binds K A.qb ["need","ayes","noes"] []
 Ds:mg "is_kept"=some (.ref A.Ah)
 rS:Fun K "_law_cell_at" "_law_cell_at" iT A.tK A.lG
 yw:Binds K A.lG ["_law_script","_law_k"] []
 yx:mg "_law_cell_at"=some (.ref A.tK)
 vJ:Fun K "_law_word" "_law_word" oZ A.Ba A.pz
 Be:Binds K A.pz ["_law_cell"] []
 Bf:mg "_law_word"=some (.ref A.Ba)
 mx:Fun K "_law_clause" "_law_clause" jH A.vB A.nj
 ql:Binds K A.nj ["_law_cell"] []
 qm:mg "_law_clause"=some (.ref A.vB)
 vK:Fun K "_law_edit" "_law_edit" o9 A.EJ A.tL
 Bg:Binds K A.tL ["_law_cell","_law_size","_law_thing"] []
 Bh:mg "_law_edit"=some (.ref A.EJ)
 vL:Fun K "_law_fits" "_law_fits" pb A.EK A.tM
 Bi:Binds K A.tM ["_law_things","_law_edit_here"] []
 Bj:mg "_law_fits"=some (.ref A.EK)
 vM:Fun K "_law_laid" "_law_laid" pd A.EL A.tN
 Bk:Binds K A.tN ["_law_things","_law_edit_here"] []
 Bl:mg "_law_laid"=some (.ref A.EL)
 pD:Fun K "_law_words" "_law_words" lR A.tO A.jK
 tT:Binds K A.jK ["_law_clause_here"] []
 tU:mg "_law_words"=some (.ref A.tO)
 vN:Fun K "_law_rank" "_law_rank" pe A.Bb A.pA
 Bm:Binds K A.pA ["_law_kind"] []
 Bn:mg "_law_rank"=some (.ref A.Bb)
 ET:Fun K "_law_new" "_law_new" tG A.LZ A.vC
 L4:Binds K A.vC [] []
 L5:mg "_law_new"=some (.ref A.LZ)
 iD:Fun K "_law_now" "_law_now" tH A.ue A.ig
 i8:Binds K A.ig ["_law_m","_law_number"] []
 i9:mg "_law_now"=some (.ref A.ue)
 vO:Fun K "_law_bar" "_law_bar" tI A.F9 A.rL
 An:Binds K A.rL ["_law_m"] []
 Ao:mg "_law_bar"=some (.ref A.F9)
 xr:Fun K "_law_lacks" "_law_lacks" lS A.Ai A.qc
 Dt:Binds K A.qc ["_law_m","_law_motion"] []
 Du:mg "_law_lacks"=some (.ref A.Ai)
 Bo:Fun K "_law_keep" "_law_keep" pf A.EM A.tP
 Ge:Binds K A.tP ["_law_m","_law_motion"] []
 Gf:mg "_law_keep"=some (.ref A.EM)
 tV:Fun K "_law_ended" "_law_ended" lT A.vD A.mi
 xt:Binds K A.mi ["_law_m","_law_word_here"] []
 xu:mg "_law_ended"=some (.ref A.vD)
 xw:Fun K "_law_voted" "_law_voted" lU A.Aj A.qd
 Dv:Binds K A.qd ["_law_m","_law_ayes","_law_noes","_law_seats_here"] []
 Dw:mg "_law_voted"=some (.ref A.Aj)
 xx:Fun K "_law_taken" "_law_taken" lV A.Ak A.qe
 Dx:Binds K A.qe ["_law_m","_law_number"] []
 Dy:mg "_law_taken"=some (.ref A.Ak)
 EU:Fun K "_law_due" "_law_due" tJ A.L3 A.vE
 L6:Binds K A.vE ["_law_m","_law_deed_here","_law_seats_here"] []
 L7:mg "_law_due"=some (.ref A.L3)
 xy:Fun K "_law_state" "_law_state" lW A.Al A.qf
 Dz:Binds K A.qf ["_law_m"] []
 DA:mg "_law_state"=some (.ref A.Al)
 Bp:Fun K "_law_vote" "_law_vote" ph A.EN A.tQ
 Gh:Binds K A.tQ ["_law_cell","_law_seats_here"] []
 Gi:mg "_law_vote"=some (.ref A.EN)
 uy:Fun K "_law_guided" "_law_guided" jJ A.vF A.nq
 Bq:Binds K A.nq ["_law_m","_law_way"] []
 Br:mg "_law_guided"=some (.ref A.vF)
 Bs:Fun K "_law_deed" "_law_deed" mf A.EO A.tR
 Gj:Binds K A.tR ["_law_m","_law_cell","_law_seats_here"] []
 Gk:mg "_law_deed"=some (.ref A.EO)
 xA:Fun K "_law_asked" "_law_asked" lX A.vG A.mj
 DB:Binds K A.mj ["_law_chamber","_law_deed_here"] []
 DC:mg "_law_asked"=some (.ref A.vG)
 xB:Fun K "_law_seats" "_law_seats" lY A.Am A.qg
 DD:Binds K A.qg ["_law_cell"] []
 DE:mg "_law_seats"=some (.ref A.Am)
 Aq:mg "range"=none
 my:mg "list"=none
 vP:mg "isinstance"=none
 pE:mg "len"=none
 Gm:mg "max"=none
 T5:mg "any"=none
 Px:mg "str"=none
 vQ:mg "sorted"=none
 Py:mg "int"=none
 Pz:mg "bool"=none
 EV:mg "ValueError"=none
 vR:mg "CLOSED_BAR"=some (.int 4 A.kD)
 cl:∀k,k < 8->Cls K (A.C k)
 vS:mg "Matter"=some (.ref (A.C 0))
 vT:mg "Change"=some (.ref (A.C 1))
 J0:mg "Mend"=some (.ref (A.C 2))
 Bt:mg "PutOff"=some (.ref (A.C 3))
 EW:mg "Close"=some (.ref (A.C 4))
 PB:mg "Lay"=some (.ref (A.C 5))
 J1:mg "Rest"=some (.ref (A.C 6))
 EX:mg "Point"=some (.ref (A.C 7))
 EY:mg "RANKS"=some (.ref A.tab)
 tb:aac P K A.tab
 rk:∀k,k < 8->∃t,eg K A.tab (nm k)=some (some (.int k t))
 nQ:∀k,k < 8->Meth K (A.C k) "kind" (A.fk k)
 nR:∀k,k < 8->Binds K (A.fkd k) ["self"] []
 PD:∀k,k < 8->Meth K (A.C k) "need" (A.fn k)
 PF:∀k,k < 8->Binds K (A.fnd k) ["self"] []
 J2:∀k,k < 8->Meth K (A.C k) "told" (A.ft k)
 J3:∀k,k < 8->Binds K (A.ftd k) ["self"] []
 PH:∀k,k < 8->Meth K (A.C k) "rank" A.f_r
 PK:∀k,k < 8->Binds K A.Sb ["self"] []
 aaq:Fun K "kind" "Matter.kind" fR A.VZ A.Pa
 aar:Fun K "kind" "Change.kind" fS A.V0 A.Pb
 aas:Fun K "kind" "Mend.kind" iM A.V1 A.Pc
 aat:Fun K "kind" "PutOff.kind" fU A.V2 A.Pd
 aau:Fun K "kind" "Close.kind" gR A.V3 A.Pe
 aav:Fun K "kind" "Lay.kind" jE A.V4 A.Pf
 aaw:Fun K "kind" "Rest.kind" iN A.V5 A.Pg
 aax:Fun K "kind" "Point.kind" gS A.V6 A.Ph
 F_r:Fun K "rank" "Motion.rank" fV A.f_r A.Sb
 F_n:Fun K "need" "Motion.need" fW A.f_n A.ER
 aay:Fun K "need" "Close.need" gU A.V7 A.Pj
 F_t:Fun K "told" "Motion.told" fX A.f_t A.Pk
 aaz:Fun K "told" "Matter.told" fY A.V8 A.Pl
 aaA:Fun K "told" "Change.told" fZ A.V9 A.Pm
 aaB:Fun K "told" "Mend.told" iO A.Wa A.Pn
 aaC:Fun K "told" "PutOff.told" f6 A.Wb A.Po
 aaD:Fun K "told" "Point.told" gW A.Wc A.Pp
 aaE:Fun K "__init__" "Matter.__init__" f7 A.M7 A.Dp
 aaF:Fun K "__init__" "Change.__init__" f9 A.M8 A.Dq
 aaG:Fun K "__init__" "Mend.__init__" iP A.Pq A.Ga
 aaH:Fun K "__init__" "PutOff.__init__" gb A.Pr A.Gb
 aaI:Fun K "__init__" "Point.__init__" gX A.Pt A.Gd
 vU:Mk K (A.C 0) A.M7
 Sd:Binds K A.Dp ["self","text"] []
 na0:dW K (A.C 0) "text"
 vV:Mk K (A.C 1) A.M8
 Se:Binds K A.Dq ["self","edit"] []
 na1:dW K (A.C 1) "edit"
 J4:Mk K (A.C 2) A.Pq
 We:Binds K A.Ga ["self","edit"] []
 na2:dW K (A.C 2) "edit"
 Bu:Mk K (A.C 3) A.Pr
 Wf:Binds K A.Gb ["self","sitting"] []
 na3:dW K (A.C 3) "sitting"
 EZ:Mk K (A.C 7) A.Pt
 Wg:Binds K A.Gd ["self","clause"] []
 na7:dW K (A.C 7) "clause"
 mkn:∀k,k=4\/k=5\/k=6->MkN K (A.C k)
 DF:mg "Chamber"=some (.ref A.ax)
 au:Cls K A.ax
 gF:Fun K "__init__" "Chamber.__init__" eS A.cn A.iy
 ja:Binds K A.iy ["self","seats"] []
 DG:Mk K A.ax A.cn
 gG:Fun K "move" "Chamber.move" eT A.cq A.iz
 jb:Binds K A.iz ["self","told"] []
 rT:Meth K A.ax "move" A.cq
 gH:Fun K "vote" "Chamber.vote" eU A.cv A.iA
 jc:Binds K A.iA ["self","ayes","noes"] []
 rV:Meth K A.ax "vote" A.cv
 gI:Fun K "drop" "Chamber.drop" eV A.cw A.iB
 jd:Binds K A.iB ["self"] []
 rW:Meth K A.ax "drop" A.cw
 gJ:Fun K "take" "Chamber.take" eW A.cx A.iC
 je:Binds K A.iC ["self","number"] []
 rX:Meth K A.ax "take" A.cx
 fO:Fun K "state" "Chamber.state" dD A.b6 A.hG
 fP:Binds K A.hG ["self"] []
 lu:Meth K A.ax "state" A.b6
 eX:Fun K "motion" "Chamber.motion" dO A.bO A.gu
 hJ:Binds K A.gu ["self","number"] []
 pF:Meth K A.ax "motion" A.bO
 eD:Fun K "pending" "Chamber.pending" cK A.bG A.dY
 eE:Binds K A.dY ["self"] []
 jf:Meth K A.ax "pending" A.bG
 dj:Fun K "told_aside" "Chamber.told_aside" cz A.bz A.d4
 eF:Binds K A.d4 ["self","number"] []
 kO:Meth K A.ax "told_aside" A.bz
 bL:Fun K "require_can_be_made" "Chamber.require_can_be_made" bB A.a8 A.b8
 cj:Binds K A.b8 ["self","told"] []
 fv:Meth K A.ax "require_can_be_made" A.a8
 cc:Fun K "require_pending" "Chamber.require_pending" bM A.bf A.bW
 cf:Binds K A.bW ["self"] []
 d7:Meth K A.ax "require_pending" A.bf
 eY:Fun K "decide" "Chamber.decide" dP A.bH A.eA
 eZ:Binds K A.eA ["self","word"] []
 jN:Meth K A.ax "decide" A.bH
 cM:Fun K "end_decision" "Chamber.end_decision" b7 A.bj A.cA
 cN:Binds K A.cA ["self","deed"] []
 fF:Meth K A.ax "end_decision" A.bj
 dF:Fun K "carry_out" "Chamber.carry_out" cP A.bC A.eB
 eM:Binds K A.eB ["self","motion"] []
 lC:Meth K A.ax "carry_out" A.bC
 cB:Fun K "lay_on_matter" "Chamber.lay_on_matter" bR A.br A.df
 dA:Binds K A.df ["self","edit"] []
 iU:Meth K A.ax "lay_on_matter" A.br
 cC:Fun K "lay_on_change" "Chamber.lay_on_change" bS A.bt A.dg
 dB:Binds K A.dg ["self","edit"] []
 iV:Meth K A.ax "lay_on_change" A.bt
 dG:Fun K "put_aside" "Chamber.put_aside" cQ A.bD A.eC
 dH:Binds K A.eC ["self","until"] []
 ia:Meth K A.ax "put_aside" A.bD
 jqv:dW K A.ax "seats"
 jq1:dW K A.ax "sitting"
 jq4:dW K A.ax "closed"
 jq2:dW K A.ax "made"
 jq0:dW K A.ax "pile"
 jq3:dW K A.ax "aside"
 jqc:dW K A.ax "decided"
 jqb:dW K A.ax "first_texts"
 jq5:dW K A.ax "edits_kept"
 jqd:dW K A.ax "rows"
 jg:mg "ChamberError"=some (.ref A.rM)
 E2:mg "NoFit"=some (.ref A.fE)
 vW:mg "Barred"=some (.ref A.cT)
 uz:mg "NoMatter"=some (.ref A.cW)
 uA:mg "NoChange"=some (.ref A.cX)
 uB:mg "NotLater"=some (.ref A.bX)
 xC:mg "Nothing"=some (.ref A.du)
 xD:mg "TooMany"=some (.ref A.dR)
 xE:mg "NoAside"=some (.ref A.dS)
 Bv:mg "NotYet"=some (.ref A.dh)
 Bw:mg "NoNumber"=some (.ref A.qh)
 iE:T2 K A.rM
 Gn:FW K A.fE
 jq19:de K (.ref A.fE) (.ref A.cT)=some false
 jqO:de K (.ref A.fE) (.ref A.cW)=some false
 jqP:de K (.ref A.fE) (.ref A.cX)=some false
 jq1j:de K (.ref A.fE) (.ref A.fE)=some true
 yy:FW K A.cW
 jqw:de K (.ref A.cW) (.ref A.cT)=some false
 jqf:de K (.ref A.cW) (.ref A.cW)=some true
 yz:FW K A.cX
 jqx:de K (.ref A.cX) (.ref A.cT)=some false
 jqg:de K (.ref A.cX) (.ref A.cW)=some false
 jqh:de K (.ref A.cX) (.ref A.cX)=some true
 Bx:FW K A.du
 jqQ:de K (.ref A.du) (.ref A.cT)=some false
 jqm:de K (.ref A.du) (.ref A.cW)=some false
 jqn:de K (.ref A.du) (.ref A.cX)=some false
 jqY:de K (.ref A.du) (.ref A.fE)=some false
 jqo:de K (.ref A.du) (.ref A.bX)=some false
 jqy:de K (.ref A.du) (.ref A.du)=some true
 By:FW K A.dR
 jqR:de K (.ref A.dR) (.ref A.cT)=some false
 jqp:de K (.ref A.dR) (.ref A.cW)=some false
 jqq:de K (.ref A.dR) (.ref A.cX)=some false
 jqZ:de K (.ref A.dR) (.ref A.fE)=some false
 jqr:de K (.ref A.dR) (.ref A.bX)=some false
 jqz:de K (.ref A.dR) (.ref A.du)=some false
 jqA:de K (.ref A.dR) (.ref A.dR)=some true
 Bz:FW K A.dS
 jqS:de K (.ref A.dS) (.ref A.cT)=some false
 jqs:de K (.ref A.dS) (.ref A.cW)=some false
 jqt:de K (.ref A.dS) (.ref A.cX)=some false
 jq10:de K (.ref A.dS) (.ref A.fE)=some false
 jqu:de K (.ref A.dS) (.ref A.bX)=some false
 jqB:de K (.ref A.dS) (.ref A.du)=some false
 jqC:de K (.ref A.dS) (.ref A.dR)=some false
 jqD:de K (.ref A.dS) (.ref A.dS)=some true
 yA:FW K A.qh
 mz:Fun K "__init__" "Barred.__init__" gf A.rN A.pB
 mB:Binds K A.pB ["self","bar"] []
 pG:Ex K A.cT A.rN "bar"
 DH:O6 K A.cT "bar"
 jq11:de K (.ref A.cT) (.ref A.cT)=some true
 jh:Fun K "__init__" "NotLater.__init__" ef A.qi A.nr
 lI:Binds K A.nr ["self","sitting"] []
 nB:Ex K A.bX A.qi "sitting"
 yB:O6 K A.bX "sitting"
 jqE:de K (.ref A.bX) (.ref A.cT)=some false
 jqi:de K (.ref A.bX) (.ref A.cW)=some false
 jqj:de K (.ref A.bX) (.ref A.cX)=some false
 jqT:de K (.ref A.bX) (.ref A.fE)=some false
 jqk:de K (.ref A.bX) (.ref A.bX)=some true
 mC:Fun K "__init__" "NotYet.__init__" gg A.vH A.tS
 qo:Binds K A.tS ["self","sitting"] []
 tW:Ex K A.dh A.vH "sitting"
 DI:O6 K A.dh "sitting"
 jq12:de K (.ref A.dh) (.ref A.cT)=some false
 jqF:de K (.ref A.dh) (.ref A.cW)=some false
 jqG:de K (.ref A.dh) (.ref A.cX)=some false
 jq1a:de K (.ref A.dh) (.ref A.fE)=some false
 jqH:de K (.ref A.dh) (.ref A.bX)=some false
 jqU:de K (.ref A.dh) (.ref A.du)=some false
 jqV:de K (.ref A.dh) (.ref A.dR)=some false
 jqW:de K (.ref A.dh) (.ref A.dS)=some false
 jq13:de K (.ref A.dh) (.ref A.dh)=some true
end My
set_option maxHeartbeats 1000000
namespace My
open PySem L2
seal PySem.wpAny
theorem sl (n:Nat)(h:n<=64:=by decide):n<=ka:=ajI h (by decide)
abbrev bl1:Str:=ar " "
def Asc (x:Str):Prop:=∀c∈x.cps.toList,c < 128
theorem Asc.ok {x:Str}(h:Asc x):ajZ x=true:=by
 unfold ajZ;rw[Array.all_eq_true];intro i hi;have:=h x.cps[i] (by simp)
 exact decide_eq_true (by omega)
theorem pH {sep:Str}(hs:Asc sep):∀ws:List Str,(∀w∈ws,Asc w)->Asc (sr sep ws)
 |[],_=>λc hc=>by
  have:c∈([]:List Nat):=hc;cases this
 |[x],h=>h x gn
 |x::y::r,h=>λc hc=>by
  have hc':c∈((x++sep)++sr sep (y::r)).cps.toList:=hc;rw[fB,fB,List.mem_append,List.mem_append]at hc';rcases hc' with (h1 | h1) | h1
  ·exact h x gn c h1
  ·exact hs c h1
  ·exact pH hs (y::r) (λw hw=>h w (kq _ hw)) c h1
structure Sh (n:Nat)(x:Str):Prop where
 asc:Asc x
 len:x.length<=n
structure Ed where
 k:Nat
 at_:Int
 th:Str
def kn:Nat->Str
 | 0=>ar "put"
 | 1=>ar "cut"
 |_=>ar "turn"
def gv (e:Ed):List V:=match e.k with
 | 0=>[.str (kn 0),.int e.at_,.str e.th]
 | 1=>[.str (kn 1),.int e.at_]
 |_=>[.str (kn 2),.int e.at_,.str e.th]
def edD (e:Ed):PyData:=match e.k with
 | 0=>.tuple [.str (kn 0),.int e.at_,.str e.th]
 | 1=>.tuple [.str (kn 1),.int e.at_]
 |_=>.tuple [.str (kn 2),.int e.at_,.str e.th]
structure qW (e:Ed):Prop where
 k3:e.k=0\/e.k=1\/e.k=2
 lo:-1000<=e.at_
 hi:e.at_<=1000
 th:Sh 100000 e.th
def gK (n:Nat)(e:Ed):Bool:=decide (0<=e.at_) && decide (e.at_ < (n:Int)+(if e.k=0 then 1 else 0))
def bI (xs:List Str)(e:Ed):List Str:=match e.k with
 | 0=>xs.take e.at_.toNat++e.th::xs.drop e.at_.toNat
 | 1=>xs.eraseIdx e.at_.toNat
 |_=>xs.set e.at_.toNat e.th
theorem nS (e:Ed):atI (gv e) 0=some (.str (kn e.k)):=by
 unfold gv;split
 ·rename_i h;rw[h];rfl
 ·rename_i h;rw[h];rfl
 ·rename_i h1 h2;have:kn e.k=kn 2:=by
   unfold kn;split
   ·rename_i h;exact absurd h h1
   ·rename_i h;exact absurd h h2
   ·rfl
  rw[this];rfl
theorem uC (e:Ed):atI (gv e) 1=some (.int e.at_):=by
 unfold gv;split <;> rfl
theorem uD {e:Ed}(h:e.k≠1):atI (gv e) 2=some (.str e.th):=by
 unfold gv;split
 ·rfl
 ·rename_i z;exact absurd z h
 ·rfl
theorem J5 (e:Ed){K:ba}{H:Hp}{t:Addr}(h:SqT K H t (gv e)):DV K H (edD e) (.ref t):=by
 unfold gv at h;unfold edD;split
 ·rename_i z;rw[z]at h;unfold DV;exact⟨t,_,rfl,h,by unfold DVs;exact⟨_,_,rfl,by unfold DV;rfl,by unfold DVs;exact⟨_,_,rfl,by unfold DV;rfl,by unfold DVs;exact⟨_,_,rfl,by unfold DV;rfl,by unfold DVs;rfl⟩⟩⟩⟩
 ·rename_i z;rw[z]at h;unfold DV;exact⟨t,_,rfl,h,by unfold DVs;exact⟨_,_,rfl,by unfold DV;rfl,by unfold DVs;exact⟨_,_,rfl,by unfold DV;rfl,by unfold DVs;rfl⟩⟩⟩
 ·rename_i z1 z2;split at h
  ·rename_i z;exact absurd z z1
  ·rename_i z;exact absurd z z2
  ·unfold DV;exact⟨t,_,rfl,h,by unfold DVs;exact⟨_,_,rfl,by unfold DV;rfl,by unfold DVs;exact⟨_,_,rfl,by unfold DV;rfl,by unfold DVs;exact⟨_,_,rfl,by unfold DV;rfl,by unfold DVs;rfl⟩⟩⟩⟩
theorem DJ {i:Int}(h0:-1000<=i)(h1:i<=1000):i.natAbs.log2 < 1920:=by
 have h:i.natAbs < 2 ^ 10:=by omega
 by_cases hz:i.natAbs=0
 ·rw[hz];decide
 ·exact Nat.lt_trans ((Nat.log2_lt hz).mpr h) (by decide)
theorem PL {e:Ed}(o:qW e):(edD e).showable=true/\(edD e).hasDict=false/\(edD e).depth<=60:=by
 have lg:=DJ o.lo o.hi;unfold edD;split <;> simp[PyData.showable,PyData.showableAll,PyData.hasDict,PyData.hasDictAll,akk,aj1,lg]
theorem Sf {i:Int}(h0:-1000<=i)(h1:i<=1000):(ar (toString i)).length<=1921:=by
 have h:=int_text_length_le (a:=i) (k:=1920) (by decide) (DJ h0 h1)
 have e:(ar (toString i)).length=(toString i).length:=by first | exact PySem.ofString_length _ | exact ofString_length _
 omega
theorem Sh.rep {n:Nat}{x:Str}(s:Sh n x):(reprText x).length<=10 * n+2:=by
 have h:=StrLaws.reprText_len x λc hc=>Nat.lt_trans (s.asc c hc) (by decide)
 have:=s.len;omega
theorem PM (k:Nat):Sh 4 (kn k):=by
 unfold kn;split <;> exact⟨by unfold Asc;decide +kernel,by decide +kernel⟩
theorem Sg {e:Ed}(o:qW e):(edD e).shown.length<=1100000:=by
 have a:=(PM 0).rep;have b:=(PM 1).rep;have c:=(PM 2).rep;have d:=o.th.rep;have i:=Sf o.lo o.hi;unfold edD;split
 ·have h:=tupleText_len_le [reprText (kn 0),ar (toString e.at_),reprText e.th];simp only[kj,akj,List.sum_cons,List.sum_nil,ajK,ak9]at h;show (tupleText [reprText (kn 0),ar (toString e.at_),reprText e.th]).length<=_;omega
 ·have h:=tupleText_len_le [reprText (kn 1),ar (toString e.at_)];simp only[kj,akj,List.sum_cons,List.sum_nil,ajK,ak9]at h;show (tupleText [reprText (kn 1),ar (toString e.at_)]).length<=_;omega
 ·have h:=tupleText_len_le [reprText (kn 2),ar (toString e.at_),reprText e.th];simp only[kj,akj,List.sum_cons,List.sum_nil,ajK,ak9]at h;show (tupleText [reprText (kn 2),ar (toString e.at_),reprText e.th]).length<=_;omega
theorem xF {e:Ed}(o:qW e):(V.str (kn e.k)=V.str (ar "put"))↔e.k=0:=by
 rcases o.k3 with h | h | h <;> rw[h] <;> decide +kernel
theorem uE {e:Ed}(o:qW e):(V.str (kn e.k)=V.str (ar "cut"))↔e.k=1:=by
 rcases o.k3 with h | h | h <;> rw[h] <;> decide +kernel
theorem L8 {e:Ed}(o:qW e):(V.str (kn e.k)=V.str (ar "turn"))↔e.k=2:=by
 rcases o.k3 with h | h | h <;> rw[h] <;> decide +kernel
def E3 (K:ba):Sp:=λvs H Q _=>∃(a t:Addr) (xs:List V) (e:Ed),vs=[.ref a,.ref t]/\SqL K H a xs/\SqT K H t (gv e)/\qW e/\Q (.bl (gK xs.length e)) H
def PN (A:Adr)(K:ba):Sp:=λvs H Q E=>∃(a t:Addr) (xs:List V) (e:Ed),vs=[.ref a,.ref t]/\SqL K H a xs/\SqT K H t (gv e)/\qW e/\(gK xs.length e=true->Q .non H)/\(gK xs.length e=false->E (.ref A.fE) none H)
def J6 (A:Adr)(K:ba):Sp:=λvs H Q E=>∃(a t:Addr) (xs:List Str) (e:Ed),vs=[.ref a,.ref t]/\SqL K H a (xs.map V.str)/\xs.length<=1000/\SqT K H t (gv e)/\qW e /\
 (gK xs.length e=true->∀p,H p=none->Q (.ref p) (upd H p (.lst ((bI xs e).map V.str))))/\(gK xs.length e=false->E (.ref A.fE) none H)
theorem BA {n:Nat}{e:Ed}:gK n e=true↔0<=e.at_/\e.at_ < (n:Int)+(if e.k=0 then 1 else 0):=by
 unfold gK;rw[akz,decide_eq_true_iff,decide_eq_true_iff]
section
variable{P:rf}{w:World}{K:ba}{mg:Str->Option Value}{base:Heap}{A:Adr}
theorem PQ {H H':Hp}{t:Addr}{xs:List V}(s:bA H H')(h:SqT K H t xs):SqT K H' t xs:=by
 rcases h with (h | ⟨o,h⟩) | h
 ·exact .inl (.inl (s _ _ h))
 ·exact .inl (.inr ⟨o,s _ _ h⟩)
 ·exact .inr h
theorem Si (T:Txt w.params K mg A):aJ P w K mg base CX0 1 A.fits A.Ag ["things","edit"] (E3 K):=by
 refine T.JX.ok EF (λvs H Q E h=>?_) (λcdv A' outer s H vs Q E hr h=>?_)
 ·obtain⟨a,t,xs,e,rfl,_⟩:=h;rfl
 ·obtain⟨a,t,xs,e,rfl,ha,ht,o,q⟩:=h;refine⟨_,(ai (aZ (i:=2) EF.nd rfl (wt rfl) (ck c8 (by rfl) T.pE lb (aa (pv 0) ag)))
 (ai (bb (aB bu (aT aU (pv 1) af (λ_ _=>rfl)) ao (aK _))
 (aj (aZ (i:=2) EF.nd rfl (wt rfl) (a6 dJ (pv 2) af)))
 aH)
 (aj (aI (AB vc rA af (aT aU (pv 1) af (λ_ _=>rfl)) (pv 2)))))),?_⟩
  refine⟨_,rfl,a,xs,rfl,.inl ha,?_⟩;refine ixv rfl ht (nS e) ⟨rfl,_,rfl,eQ (λz=>?_) (λz=>?_)⟩
  ·have hk:e.k=0:=(xF o).mp (of_decide_eq_true z);refine⟨_,rfl,_,_,rfl,rfl,?_⟩;unfold gK at q;rw[if_pos hk]at q;refine ixv rfl ht (uC e) ⟨_,_,rfl,rfl,_,rfl,eQ (λz1=>?_) (λz1=>?_)⟩
   ·have h1:0<=e.at_:=of_decide_eq_true z1;rw[decide_eq_true h1,Bool.true_and]at q;exact⟨_,rfl,_,_,rfl,rfl,q⟩
   ·have h1:¬0<=e.at_:=λy=>z1 (decide_eq_true y)
    rw[decide_eq_false h1,Bool.false_and]at q;exact q
  ·have hk:¬e.k=0:=λy=>z (decide_eq_true ((xF o).mpr y))
   unfold gK at q;rw[if_neg hk,Int.add_zero]at q;refine ixv rfl ht (uC e) ⟨_,_,rfl,rfl,_,rfl,eQ (λz1=>?_) (λz1=>?_)⟩
   ·have h1:0<=e.at_:=of_decide_eq_true z1;rw[decide_eq_true h1,Bool.true_and]at q;exact⟨_,rfl,_,_,rfl,rfl,q⟩
   ·have h1:¬0<=e.at_:=λy=>z1 (decide_eq_true y)
    rw[decide_eq_false h1,Bool.false_and]at q;exact q
theorem rY (T:Txt w.params K mg A):aJ P w K mg base (CXX P w) 2 A.kL A.gD ["things","edit"] (PN A K):=by
 have Wh:aJ P w K mg base CX0 1 A.fits A.Ag ["things","edit"] (E3 K):=Si T;refine T.ij.okX A6 (λvs H Q E h=>?_) (λcdv A' outer s H vs Q E hr h=>?_)
 ·obtain⟨a,t,xs,e,rfl,_⟩:=h;rfl
 ·obtain⟨a,t,xs,e,rfl,ha,ht,o,q1,q2⟩:=h;have Sj:=hr;have hgd:=hr.gd;have mD:=hr.units;refine⟨_,(bE (hX (rq (p6 (aW Wh Sj rfl T.Pw T.JX.kp T.Pu .nil a7 (aa (pv 0) (aa (pv 1) ag)))))
 (bE (jD T.Gn rfl rfl T.E2 (aa (aag hgd mD (pv 1)) ag)))
 (vn aH))),?_⟩
  refine⟨_,rfl,_,rfl,a,t,xs,e,rfl,ha,ht,o,_,rfl,?_⟩;cases hf:gK xs.length e with
  |true=>exact bw (q1 hf)
  |false =>
   refine hide λGg hGg=>?_
   obtain⟨s1,s2,s3⟩:=PL o;have s4:=Sg o;refine hGg ?_;refine dM ⟨_,rfl,t,edD e,rfl,J5 e ht,s1,s2,s3,ajI (Nat.add_le_add_right s4 _) (by decide +kernel),λz=>?_⟩
   exact⟨(sl 1),q2 hf⟩
theorem L9 (T:Txt w.params K mg A):aJ P w K mg base (CXX P w) 3 A.laid A.vA ["things","edit"] (J6 A K):=by
 have kH:aJ P w K mg base (CXX P w) 2 A.kL A.gD ["things","edit"] (PN A K):=rY T;refine T.ES.okX Af (λvs H Q E h=>?_) (λcdv A' outer s H vs Q E hr h=>?_)
 ·obtain⟨a,t,xs,e,rfl,_⟩:=h;rfl
 ·obtain⟨a,t,xs,e,rfl,ha,hz,ht,o,q1,q2⟩:=h;have ji:=hr;refine⟨_,(bc (l7 (vo kH ji rfl T.kG T.ij.kp T.kF (pax (aa (pv 0) (aa (pv 1) ag)))))
 (bc (psx (aZ (i:=2) Af.nd rfl (wt rfl) (aT aU (pv 1) af (λ_ _=>rfl))))
 (bc (psx (aZ (i:=3) Af.nd rfl (wt rfl) (aT aU (pv 1) af (λ_ _=>rfl))))
 (bc (psx (aZ (i:=4) Af.nd rfl (wt rfl) (dn c9 (by rfl) T.my kh (aa (pv 0) ag))))
 (bc (psx (bb (aB bu (pv 2) ao (aK _))
 (aj (bN (gB om PySem.F.slot_list_insert PySem.F.type_list_insert MY (pv 4) (aa (pv 3) (aa (aT aU (pv 1) af (λ_ _=>rfl)) ag)))))
 (aj (bb (aB bu (pv 2) ao (aK _))
 (aj (bN (gB om PySem.F.slot_list_pop PySem.F.type_list_pop OE (pv 4) (aa (pv 3) ag))))
 (aj (Ay (aT aU (pv 1) af (λ_ _=>rfl)) (Jt (pv 4) (pv 3) set_list)))))))
 (bE (psx (aI (pv 4))))))))),?_⟩
  refine⟨_,rfl,_,rfl,a,t,_,e,rfl,ha,ht,o,λhf=>?_,λhf=>q2 (by rw[cb]at hf;exact hf)⟩
  refine hide λGg hGg=>?_
  rw[cb]at hf;obtain⟨f0,f1⟩:=BA.mp hf;have q:=q1 hf;have lim:(1001:Nat) < ka:=by decide
  obtain⟨n,hn⟩:∃n:Nat,e.at_=(n:Int):=⟨e.at_.toNat,by omega⟩
  refine hGg ?_;refine ixv rfl ht (nS e) ?_;refine ixv rfl ht (uC e) ?_;refine⟨_,rfl,a,_,rfl,.inl ha,λp hp=>?_⟩
  have sp:bA H (upd H p (.lst (xs.map V.str))):=aC hp;have ht':=PQ sp ht;have q:=q p hp;rw[hn];rw[hn]at f1;refine⟨_,rfl,rfl,_,rfl,eQ (λz=>?_) (λz=>?_)⟩
  ·have hk:e.k=0:=(xF o).mp (of_decide_eq_true z);rw[if_pos hk]at f1;refine⟨_,rfl,.inl ⟨rfl,_,SqL.of ae⟩,_,rfl,ixv rfl ht' (uD (by omega)) ⟨p,_,_,n,_,rfl,rfl,rfl,ae,(by rw[cb];omega),(by rw[cb];omega),?_⟩⟩
   rw[nc];refine⟨_,rfl,?_⟩;have e1:(bI xs e).map V.str=(xs.map V.str).take n++V.str e.th::(xs.map V.str).drop n:=by
    unfold bI;rw[hk,hn];simp
   rw[e1]at q;exact q
  ·have hk0:¬e.k=0:=λy=>z (decide_eq_true ((xF o).mpr y))
   rw[if_neg hk0,Int.add_zero]at f1;have hlt:n < xs.length:=by omega
   refine⟨_,rfl,rfl,_,rfl,eQ (λz2=>?_) (λz2=>?_)⟩
   ·have hk:e.k=1:=(uE o).mp (of_decide_eq_true z2);refine⟨_,rfl,.inl ⟨rfl,_,SqL.of ae⟩,_,rfl,p,_,(n:Int),n,_,rfl,rfl,ae,by omega,by omega,?_,(by rw[wa (by rw[cb];exact hlt)]),?_⟩
    ·rw[cb];exact(Eh (by unfold ixN;rw[if_pos (by omega),if_pos (by omega)];rfl)).1
    ·rw[nc];refine⟨_,rfl,?_⟩;have e1:(bI xs e).map V.str=(xs.map V.str).eraseIdx n:=by
      unfold bI;rw[hk,hn];exact Dg V.str xs _
     rw[e1]at q;exact q
   ·have hk1:¬e.k=1:=λy=>z2 (decide_eq_true ((uE o).mpr y))
    have hk:e.k=2:=by have:=o.k3;omega
    refine ixv rfl ht' (uD (by omega)) ⟨_,rfl,_,rfl,p,_,(n:Int),n,rfl,rfl,ae,?_,?_⟩
    ·rw[cb];unfold ixN;rw[if_pos (by omega),if_pos (by omega)];rfl
    ·rw[nc];refine⟨_,rfl,?_⟩;have e1:(bI xs e).map V.str=(xs.map V.str).set n (V.str e.th):=by
      unfold bI;rw[hk,hn];simp[List.map_set]
     rw[e1]at q;exact q
end
mutual
theorem eqv_refl:∀d:PyData,d.canLay0=true->akZ d d=true
 | .none,_=>by simp[akZ]
 | .bool _,_=>by simp[akZ]
 | .int _,_=>by simp[akZ]
 | .str _,_=>by simp[akZ]
 | .list xs,h=>by simp only[akZ];exact eqvAll_refl xs (by simpa [ajN] using h)
 | .tuple xs,h=>by simp only[akZ];exact eqvAll_refl xs (by simpa [ajN] using h)
 | .dict _,h=>by simp[ajN]at h
theorem eqvAll_refl:∀xs:List PyData,me xs=true->PyData.eqvAll xs xs=true
 |[],_=>by simp[PyData.eqvAll]
 |x::xs,h=>by
  have h':x.canLay0=true/\me xs=true:=by simpa [me] using h
  simp only[PyData.eqvAll,eqv_refl x h'.1,eqvAll_refl xs h'.2,akb]
end
theorem yC:∀k,k < 8->ajZ (nm k)=true
 | 0,_=>by decide +kernel
 | 1,_=>by decide +kernel
 | 2,_=>by decide +kernel
 | 3,_=>by decide +kernel
 | 4,_=>by decide +kernel
 | 5,_=>by decide +kernel
 | 6,_=>by decide +kernel
 | 7,_=>by decide +kernel
 |n+8,h=>absurd h (by omega)
def nd (k:Nat):Str:=if k=4 then ar "two thirds" else ar "more"
def rowOf (k:Nat)(v:V):List V:=match k with
 | 4=>[.str (nm 4)]
 | 5=>[.str (nm 5)]
 | 6=>[.str (nm 6)]
 |k=>[.str (nm k),v]
def pI (k:Nat)(v:V):List (Str×V):=match k with
 | 0=>[(ar "text",v)]
 | 1=>[(ar "edit",v)]
 | 2=>[(ar "edit",v)]
 | 3=>[(ar "sitting",v)]
 | 4=>[]
 | 5=>[]
 | 6=>[]
 |_=>[(ar "clause",v)]
theorem Ma {m:Str}(h:m≠ar "text"/\m≠ar "edit"/\m≠ar "sitting"/\m≠ar "clause")(k:Nat)(v:V):(pI k v).lookup m=none:=by
 obtain⟨h1,h2,h3,h4⟩:=h;have b1:(m == ar "text")=false:=beq_eq_false_iff_ne.mpr h1;have b2:(m == ar "edit")=false:=beq_eq_false_iff_ne.mpr h2;have b3:(m == ar "sitting")=false:=beq_eq_false_iff_ne.mpr h3;have b4:(m == ar "clause")=false:=beq_eq_false_iff_ne.mpr h4;unfold pI;split <;> simp[akW,b1,b2,b3,b4]
theorem lJ (k:Nat)(v:V):(pI k v).lookup (ar "kind")=none:=Ma (by decide +kernel) k v
theorem Sk (k:Nat)(v:V):(pI k v).lookup (ar "rank")=none:=Ma (by decide +kernel) k v
theorem Sl (k:Nat)(v:V):(pI k v).lookup (ar "need")=none:=Ma (by decide +kernel) k v
theorem Mb (k:Nat)(v:V):(pI k v).lookup (ar "told")=none:=Ma (by decide +kernel) k v
def gj (k:Nat):Sp:=λvs H Q _=>∃m:Addr,vs=[.ref m]/\Q (.str (nm k)) H
def PR (A:Adr):Sp:=λvs H Q _=>∃(m:Addr) (k:Nat) (dx:Addr) (fs:List (Str×V)),k < 8/\vs=[.ref m]/\H m=some (.ins (A.C k) dx fs)/\fs.lookup (ar "kind")=none/\Q (.int k) H
def E4 (k:Nat):Sp:=λvs H Q _=>∃m:Addr,vs=[.ref m]/\Q (.str (nd k)) H
def Mc (A:Adr):Sp:=λvs H Q _=>∃(m:Addr) (k:Nat) (dx:Addr) (fs:List (Str×V)),k < 8/\vs=[.ref m]/\H m=some (.ins (A.C k) dx fs)/\fs.lookup (ar "kind")=none/\∀p,H p=none->Q (.ref p) (upd H p (.tup [.str (nm k)]))
def Ar (A:Adr)(k:Nat)(a:Str):Sp:=λvs H Q _=>∃(m dx:Addr) (fs:List (Str×V)) (v:V),vs=[.ref m]/\H m=some (.ins (A.C k) dx fs)/\fs.lookup (ar "kind")=none/\fs.lookup a=some v/\∀p,H p=none->Q (.ref p) (upd H p (.tup [.str (nm k),v]))
def J7 (A:Adr)(k:Nat):Sp:=λvs H Q _=>1<=k/\∃(m dx:Addr) (v:V),vs=[.ref m]/\H m=some (.ins (A.C k) dx (pI k v))/\∀p,H p=none->Q (.ref p) (upd H p (.tup (rowOf k v)))
def jO (A:Adr)(k:Nat):Sp:=λvs H Q _=>∃(m dx:Addr) (v:V),vs=[.ref m,v]/\H m=some (.ins (A.C k) dx [])/\Q .non (upd H m (.ins (A.C k) dx (pI k v)))
def Md (A:Adr)(K:ba):Sp:=λvs H Q _=>∃(m dx L:Addr) (xs:List V),vs=[.ref m]/\H m=some (.ins (A.C 0) dx (pI 0 (.ref L)))/\SqL K H L xs/\∀p q,H p=none->H q=none->p≠q->Q (.ref q) (upd (upd H p (.lst xs)) q (.tup [.str (nm 0),.ref p]))
def As (A:Adr)(K:ba):Sp:=λvs H Q _=>∃(m dx L:Addr) (xs:List V),vs=[.ref m,.ref L]/\H m=some (.ins (A.C 0) dx [])/\SqL K H L xs/\∀p,H p=none->Q .non (upd (upd H p (.lst xs)) m (.ins (A.C 0) dx (pI 0 (.ref p))))
def Me (A:Adr):Sp:=λvs H Q _=>∃(t:Addr) (k:Nat) (v:V),1<=k/\k < 8/\vs=[.ref t]/\H t=some (.tup (rowOf k v))/\∀m H',bA H H'->H m=none->(∃dx,H' m=some (.ins (A.C k) dx (pI k v)))->Q (.ref m) H'
def Gp (A:Adr)(K:ba):Sp:=λvs H Q _=>∃(t L:Addr) (xs:List V),vs=[.ref t]/\H t=some (.tup [.str (nm 0),.ref L])/\SqL K H L xs /\
 ∀m p H',bA H H'->H m=none->H p=none->H' p=some (.lst xs)->(∃dx,H' m=some (.ins (A.C 0) dx (pI 0 (.ref p))))->Q (.ref m) H'
section
variable{P:rf}{w:World}{K:ba}{mg:Str->Option Value}{base:Heap}{A:Adr}
theorem BB (T:Txt w.params K mg A):aJ P w K mg base CX0 1 A.VZ A.Pa ["self"] (gj 0):=by
 refine T.aaq.ok AR (λvs H Q E h=>?_) (λcdv A' outer s H vs Q E hr h=>?_)
 ·obtain⟨m,rfl,_⟩:=h;rfl
 ·obtain⟨m,rfl,q⟩:=h;exact⟨_,(aj (aI ao)),q⟩
theorem BC (T:Txt w.params K mg A):aJ P w K mg base CX0 1 A.V0 A.Pb ["self"] (gj 1):=by
 refine T.aar.ok AS (λvs H Q E h=>?_) (λcdv A' outer s H vs Q E hr h=>?_)
 ·obtain⟨m,rfl,_⟩:=h;rfl
 ·obtain⟨m,rfl,q⟩:=h;exact⟨_,(aj (aI ao)),q⟩
theorem E5 (T:Txt w.params K mg A):aJ P w K mg base CX0 1 A.V1 A.Pc ["self"] (gj 2):=by
 refine T.aas.ok EB (λvs H Q E h=>?_) (λcdv A' outer s H vs Q E hr h=>?_)
 ·obtain⟨m,rfl,_⟩:=h;rfl
 ·obtain⟨m,rfl,q⟩:=h;exact⟨_,(aj (aI ao)),q⟩
theorem BD (T:Txt w.params K mg A):aJ P w K mg base CX0 1 A.V2 A.Pd ["self"] (gj 3):=by
 refine T.aat.ok AU (λvs H Q E h=>?_) (λcdv A' outer s H vs Q E hr h=>?_)
 ·obtain⟨m,rfl,_⟩:=h;rfl
 ·obtain⟨m,rfl,q⟩:=h;exact⟨_,(aj (aI ao)),q⟩
theorem CI (T:Txt w.params K mg A):aJ P w K mg base CX0 1 A.V3 A.Pe ["self"] (gj 4):=by
 refine T.aau.ok CB (λvs H Q E h=>?_) (λcdv A' outer s H vs Q E hr h=>?_)
 ·obtain⟨m,rfl,_⟩:=h;rfl
 ·obtain⟨m,rfl,q⟩:=h;exact⟨_,(aj (aI ao)),q⟩
theorem Gq (T:Txt w.params K mg A):aJ P w K mg base CX0 1 A.V4 A.Pf ["self"] (gj 5):=by
 refine T.aav.ok F5 (λvs H Q E h=>?_) (λcdv A' outer s H vs Q E hr h=>?_)
 ·obtain⟨m,rfl,_⟩:=h;rfl
 ·obtain⟨m,rfl,q⟩:=h;exact⟨_,(aj (aI ao)),q⟩
theorem E6 (T:Txt w.params K mg A):aJ P w K mg base CX0 1 A.V5 A.Pg ["self"] (gj 6):=by
 refine T.aaw.ok EC (λvs H Q E h=>?_) (λcdv A' outer s H vs Q E hr h=>?_)
 ·obtain⟨m,rfl,_⟩:=h;rfl
 ·obtain⟨m,rfl,q⟩:=h;exact⟨_,(aj (aI ao)),q⟩
theorem CJ (T:Txt w.params K mg A):aJ P w K mg base CX0 1 A.V6 A.Ph ["self"] (gj 7):=by
 refine T.aax.ok CC (λvs H Q E h=>?_) (λcdv A' outer s H vs Q E hr h=>?_)
 ·obtain⟨m,rfl,_⟩:=h;rfl
 ·obtain⟨m,rfl,q⟩:=h;exact⟨_,(aj (aI ao)),q⟩
theorem lK (T:Txt w.params K mg A):∀k,k < 8->aJ P w K mg base CX0 1 (A.fk k) (A.fkd k) ["self"] (gj k)
 | 0,_=>BB T
 | 1,_=>BC T
 | 2,_=>E5 T
 | 3,_=>BD T
 | 4,_=>CI T
 | 5,_=>Gq T
 | 6,_=>E6 T
 | 7,_=>CJ T
 |n+8,h=>absurd h (by omega)
theorem Sm (T:Txt w.params K mg A):aJ P w K mg base CX0 2 A.f_r A.Sb ["self"] (PR A):=by
 have gL:∀k,k < 8->aJ P w K mg base CX0 1 (A.fk k) (A.fkd k) ["self"] (gj k):=lK T;refine T.F_r.ok AV (λvs H Q E h=>?_) (λcdv A' outer s H vs Q E hr h=>?_)
 ·obtain⟨m,k,dx,fs,_,rfl,_⟩:=h;rfl
 ·obtain⟨m,k,dx,fs,hk,rfl,hm,hl,q⟩:=h;have eG:=hr;obtain⟨t,ht⟩:=T.rk k hk;refine⟨_,(aj (aI (aT OO (Ec (v:=V.ref A.tab) rfl T.EY rfl) (gz (pv 0) (T.cl k hk) (T.nQ k hk) (gL k hk) eG (T.nR k hk) .nil a7) (λ_ _=>rfl)))),?_⟩
  exact⟨_,rfl,m,dx,fs,rfl,hm,hl,m,rfl,A.tab,nm k,.int k,_,rfl,rfl,T.tb,ht,⟨_,rfl⟩,q⟩
theorem xG (T:Txt w.params K mg A):aJ P w K mg base CX0 2 A.f_t A.Pk ["self"] (Mc A):=by
 have gL:∀k,k < 8->aJ P w K mg base CX0 1 (A.fk k) (A.fkd k) ["self"] (gj k):=lK T;refine T.F_t.ok AX (λvs H Q E h=>?_) (λcdv A' outer s H vs Q E hr h=>?_)
 ·obtain⟨m,k,dx,fs,_,rfl,_⟩:=h;rfl
 ·obtain⟨m,k,dx,fs,hk,rfl,hm,hl,q⟩:=h;have eG:=hr;refine⟨_,(aj (aI (bg (aa (gz (pv 0) (T.cl k hk) (T.nQ k hk) (gL k hk) eG (T.nR k hk) .nil a7) ag)))),?_⟩;exact⟨_,rfl,m,dx,fs,rfl,hm,hl,m,rfl,(sl 1),λp hp=>q p hp⟩
theorem BE (T:Txt w.params K mg A):aJ P w K mg base CX0 2 A.V9 A.Pm ["self"] (Ar A 1 "edit"):=by
 have gL:∀k,k < 8->aJ P w K mg base CX0 1 (A.fk k) (A.fkd k) ["self"] (gj k):=lK T;refine T.aaA.ok AZ (λvs H Q E h=>?_) (λcdv A' outer s H vs Q E hr h=>?_)
 ·obtain⟨m,dx,fs,v,rfl,_⟩:=h;rfl
 ·obtain⟨m,dx,fs,v,rfl,hm,hl,hv,q⟩:=h;have eG:=hr;obtain⟨k,hk,ek⟩:∃k,k < 8/\k=1:=⟨1,by decide,rfl⟩
  have hm':H m=some (.ins (A.C k) dx fs):=by rw[ek];exact hm
  refine⟨_,(aj (aI (bg (aa (gz (pv 0) (T.cl k hk) (T.nQ k hk) (gL k hk) eG (T.nR k hk) .nil a7) (aa (bq (pv 0) rfl) ag))))),?_⟩;subst ek;exact⟨_,rfl,m,dx,fs,rfl,hm,hl,m,rfl,_,rfl,m,A.C 1,dx,fs,v,rfl,hm,T.cl 1 hk,T.na1,hv,(sl 2),λp hp=>q p hp⟩
theorem mE (T:Txt w.params K mg A):aJ P w K mg base CX0 1 A.M8 A.Dq ["self","edit"] (jO A 1):=by
 refine T.aaF.ok A2 (λvs H Q E h=>?_) (λcdv A' outer s H vs Q E hr h=>?_)
 ·obtain⟨m,dx,v,rfl,_⟩:=h;rfl
 ·obtain⟨m,dx,v,rfl,hm,q⟩:=h;refine⟨_,(aj (eP (pv 0) (pv 1) rfl)),?_⟩;exact⟨_,rfl,_,rfl,m,A.C 1,dx,[],rfl,hm,T.cl 1 (by decide),T.na1,by decide,q⟩
theorem E7 (T:Txt w.params K mg A):aJ P w K mg base CX0 2 A.Wa A.Pn ["self"] (Ar A 2 "edit"):=by
 have gL:∀k,k < 8->aJ P w K mg base CX0 1 (A.fk k) (A.fkd k) ["self"] (gj k):=lK T;refine T.aaB.ok ED (λvs H Q E h=>?_) (λcdv A' outer s H vs Q E hr h=>?_)
 ·obtain⟨m,dx,fs,v,rfl,_⟩:=h;rfl
 ·obtain⟨m,dx,fs,v,rfl,hm,hl,hv,q⟩:=h;have eG:=hr;obtain⟨k,hk,ek⟩:∃k,k < 8/\k=2:=⟨2,by decide,rfl⟩
  have hm':H m=some (.ins (A.C k) dx fs):=by rw[ek];exact hm
  refine⟨_,(aj (aI (bg (aa (gz (pv 0) (T.cl k hk) (T.nQ k hk) (gL k hk) eG (T.nR k hk) .nil a7) (aa (bq (pv 0) rfl) ag))))),?_⟩;subst ek;exact⟨_,rfl,m,dx,fs,rfl,hm,hl,m,rfl,_,rfl,m,A.C 2,dx,fs,v,rfl,hm,T.cl 2 hk,T.na2,hv,(sl 2),λp hp=>q p hp⟩
theorem vX (T:Txt w.params K mg A):aJ P w K mg base CX0 1 A.Pq A.Ga ["self","edit"] (jO A 2):=by
 refine T.aaG.ok EE (λvs H Q E h=>?_) (λcdv A' outer s H vs Q E hr h=>?_)
 ·obtain⟨m,dx,v,rfl,_⟩:=h;rfl
 ·obtain⟨m,dx,v,rfl,hm,q⟩:=h;refine⟨_,(aj (eP (pv 0) (pv 1) rfl)),?_⟩;exact⟨_,rfl,_,rfl,m,A.C 2,dx,[],rfl,hm,T.cl 2 (by decide),T.na2,by decide,q⟩
theorem BF (T:Txt w.params K mg A):aJ P w K mg base CX0 2 A.Wb A.Po ["self"] (Ar A 3 "sitting"):=by
 have gL:∀k,k < 8->aJ P w K mg base CX0 1 (A.fk k) (A.fkd k) ["self"] (gj k):=lK T;refine T.aaC.ok A0 (λvs H Q E h=>?_) (λcdv A' outer s H vs Q E hr h=>?_)
 ·obtain⟨m,dx,fs,v,rfl,_⟩:=h;rfl
 ·obtain⟨m,dx,fs,v,rfl,hm,hl,hv,q⟩:=h;have eG:=hr;obtain⟨k,hk,ek⟩:∃k,k < 8/\k=3:=⟨3,by decide,rfl⟩
  have hm':H m=some (.ins (A.C k) dx fs):=by rw[ek];exact hm
  refine⟨_,(aj (aI (bg (aa (gz (pv 0) (T.cl k hk) (T.nQ k hk) (gL k hk) eG (T.nR k hk) .nil a7) (aa (bq (pv 0) rfl) ag))))),?_⟩;subst ek;exact⟨_,rfl,m,dx,fs,rfl,hm,hl,m,rfl,_,rfl,m,A.C 3,dx,fs,v,rfl,hm,T.cl 3 hk,T.na3,hv,(sl 2),λp hp=>q p hp⟩
theorem rZ (T:Txt w.params K mg A):aJ P w K mg base CX0 1 A.Pr A.Gb ["self","sitting"] (jO A 3):=by
 refine T.aaH.ok A3 (λvs H Q E h=>?_) (λcdv A' outer s H vs Q E hr h=>?_)
 ·obtain⟨m,dx,v,rfl,_⟩:=h;rfl
 ·obtain⟨m,dx,v,rfl,hm,q⟩:=h;refine⟨_,(aj (eP (pv 0) (pv 1) rfl)),?_⟩;exact⟨_,rfl,_,rfl,m,A.C 3,dx,[],rfl,hm,T.cl 3 (by decide),T.na3,by decide,q⟩
theorem CK (T:Txt w.params K mg A):aJ P w K mg base CX0 2 A.Wc A.Pp ["self"] (Ar A 7 "clause"):=by
 have gL:∀k,k < 8->aJ P w K mg base CX0 1 (A.fk k) (A.fkd k) ["self"] (gj k):=lK T;refine T.aaD.ok CF (λvs H Q E h=>?_) (λcdv A' outer s H vs Q E hr h=>?_)
 ·obtain⟨m,dx,fs,v,rfl,_⟩:=h;rfl
 ·obtain⟨m,dx,fs,v,rfl,hm,hl,hv,q⟩:=h;have eG:=hr;obtain⟨k,hk,ek⟩:∃k,k < 8/\k=7:=⟨7,by decide,rfl⟩
  have hm':H m=some (.ins (A.C k) dx fs):=by rw[ek];exact hm
  refine⟨_,(aj (aI (bg (aa (gz (pv 0) (T.cl k hk) (T.nQ k hk) (gL k hk) eG (T.nR k hk) .nil a7) (aa (bq (pv 0) rfl) ag))))),?_⟩;subst ek;exact⟨_,rfl,m,dx,fs,rfl,hm,hl,m,rfl,_,rfl,m,A.C 7,dx,fs,v,rfl,hm,T.cl 7 hk,T.na7,hv,(sl 2),λp hp=>q p hp⟩
theorem uf (T:Txt w.params K mg A):aJ P w K mg base CX0 1 A.Pt A.Gd ["self","clause"] (jO A 7):=by
 refine T.aaI.ok CG (λvs H Q E h=>?_) (λcdv A' outer s H vs Q E hr h=>?_)
 ·obtain⟨m,dx,v,rfl,_⟩:=h;rfl
 ·obtain⟨m,dx,v,rfl,hm,q⟩:=h;refine⟨_,(aj (eP (pv 0) (pv 1) rfl)),?_⟩;exact⟨_,rfl,_,rfl,m,A.C 7,dx,[],rfl,hm,T.cl 7 (by decide),T.na7,by decide,q⟩
theorem PU {k:Nat}{f:Addr}{fd:ki}{ps:List Str}{sp:Sp}(h:∀vs H Q E,¬sp vs H Q E):aJ P w K mg base CX0 k f fd ps sp :=
 ⟨λvs H Q E z=>(h vs H Q E z).elim,λ_ _ _ H _ _ vs Q E _ _ _ _ z=>(h vs H Q E z).elim⟩
theorem uF {k:Nat}(hk:k=4\/k=5\/k=6):∀vs H Q E,J7 A k vs H Q E->Mc A vs H Q E:=λvs H Q E ⟨_,m,dx,v,e,hm,q⟩ =>
 ⟨m,k,dx,pI k v,by omega,e,hm,lJ k v,λp hp=>by
  have:=q p hp;rcases hk with rfl | rfl | rfl <;> exact this⟩
theorem qp (T:Txt w.params K mg A):∀k,k < 8->aJ P w K mg base CX0 2 (A.ft k) (A.ftd k) ["self"] (J7 A k)
 | 0,_=>PU λvs H Q E h=>absurd h.1 (by decide)
 | 1,_=>(BE T).imp λvs H Q E ⟨_,m,dx,v,e,hm,q⟩=>⟨m,dx,_,v,e,hm,lJ 1 v,rfl,q⟩
 | 2,_=>(E7 T).imp λvs H Q E ⟨_,m,dx,v,e,hm,q⟩=>⟨m,dx,_,v,e,hm,lJ 2 v,rfl,q⟩
 | 3,_=>(BF T).imp λvs H Q E ⟨_,m,dx,v,e,hm,q⟩=>⟨m,dx,_,v,e,hm,lJ 3 v,rfl,q⟩
 | 4,_=>(xG T).imp (uF (.inl rfl))
 | 5,_=>(xG T).imp (uF (.inr (.inl rfl)))
 | 6,_=>(xG T).imp (uF (.inr (.inr rfl)))
 | 7,_=>(CK T).imp λvs H Q E ⟨_,m,dx,v,e,hm,q⟩=>⟨m,dx,_,v,e,hm,lJ 7 v,rfl,q⟩
 |n+8,h=>absurd h (by omega)
theorem BG (T:Txt w.params K mg A):aJ P w K mg base CX0 1 A.M7 A.Dp ["self","text"] (As A K):=by
 refine T.aaE.ok A1 (λvs H Q E h=>?_) (λcdv A' outer s H vs Q E hr h=>?_)
 ·obtain⟨m,dx,L,xs,rfl,_⟩:=h;rfl
 ·obtain⟨m,dx,L,xs,rfl,hm,hL,q⟩:=h;refine⟨_,(aj (eP (pv 0) (dn c9 (by rfl) T.my kh (aa (pv 1) ag)) rfl)),?_⟩
  refine⟨_,rfl,L,xs,rfl,.inl hL,λp hp=>?_⟩
  have nmp:m≠p:=aG hm hp;exact⟨_,rfl,m,A.C 0,dx,[],rfl,(aq nmp).trans hm,T.cl 0 (by decide),T.na0,by decide,q p hp⟩
theorem PV (T:Txt w.params K mg A):aJ P w K mg base CX0 2 A.V8 A.Pl ["self"] (Md A K):=by
 have gL:∀k,k < 8->aJ P w K mg base CX0 1 (A.fk k) (A.fkd k) ["self"] (gj k):=lK T;refine T.aaz.ok AY (λvs H Q E h=>?_) (λcdv A' outer s H vs Q E hr h=>?_)
 ·obtain⟨m,dx,L,xs,rfl,_⟩:=h;rfl
 ·obtain⟨m,dx,L,xs,rfl,hm,hL,q⟩:=h;have eG:=hr;obtain⟨k,hk,ek⟩:∃k,k < 8/\k=0:=⟨0,by decide,rfl⟩
  refine⟨_,(aj (aI (bg (aa (gz (pv 0) (T.cl k hk) (T.nQ k hk) (gL k hk) eG (T.nR k hk) .nil a7) (aa (dn c9 (by rfl) T.my kh (aa (bq (pv 0) rfl) ag)) ag))))),?_⟩
  subst ek;refine⟨_,rfl,m,dx,_,rfl,hm,lJ 0 _,m,rfl,_,rfl,m,A.C 0,dx,_,_,rfl,hm,T.cl 0 hk,T.na0,rfl,L,xs,rfl,.inl hL,λp hp=>⟨(sl 2),λq' hq'=>?_⟩⟩
  have npq:p≠q':=aG ae hq';have hq:H q'=none:=by rw[aq (aj2 npq)]at hq';exact hq'
  exact q p q' hp hq npq
theorem E8 (T:Txt w.params K mg A):aJ P w K mg base CX0 3 A.lZ A.gY ["told"] (Me A):=by
 have PX:aJ P w K mg base CX0 1 A.M7 A.Dp ["self","text"] (As A K):=BG T;have PY:aJ P w K mg base CX0 1 A.M8 A.Dq ["self","edit"] (jO A 1):=mE T;have Wi:aJ P w K mg base CX0 1 A.Pq A.Ga ["self","edit"] (jO A 2):=vX T;have Wj:aJ P w K mg base CX0 1 A.Pr A.Gb ["self","sitting"] (jO A 3):=rZ T;have Wk:aJ P w K mg base CX0 1 A.Pt A.Gd ["self","clause"] (jO A 7):=uf T;refine T.ny.ok lE (λvs H Q E h=>?_) (λcdv A' outer s H vs Q E hr h=>?_)
 ·obtain⟨t,k,v,_,_,rfl,_⟩:=h;rfl
 ·obtain⟨t,k,v,h1,h8,rfl,ht,q⟩:=h;have fG:=hr;refine⟨_,(ai (aZ (i:=1) lE.nd rfl (wt rfl) (aT aU (pv 0) af (λ_ _=>rfl)))
 (ai (bb (aB bu (pv 1) ao (aK _))
 (aj (aI (gP T.vU PX fG rfl T.vS T.Sd .nil a7 (aa (aT aU (pv 0) af (λ_ _=>rfl)) ag))))
 aH)
 (ai (bb (aB bu (pv 1) ao (aK _))
 (aj (aI (gP T.vV PY fG rfl T.vT T.Se .nil a7 (aa (aT aU (pv 0) af (λ_ _=>rfl)) ag))))
 aH)
 (ai (bb (aB bu (pv 1) ao (aK _))
 (aj (aI (gP T.J4 Wi fG rfl T.J0 T.We .nil a7 (aa (aT aU (pv 0) af (λ_ _=>rfl)) ag))))
 aH)
 (ai (bb (aB bu (pv 1) ao (aK _))
 (aj (aI (gP T.Bu Wj fG rfl T.Bt T.Wf .nil a7 (aa (aT aU (pv 0) af (λ_ _=>rfl)) ag))))
 aH)
 (ai (bb (aB bu (pv 1) ao (aK _))
 (aj (aI (oN (T.mkn 4 (by decide)) rfl T.EW)))
 aH)
 (ai (bb (aB bu (pv 1) ao (aK _))
 (aj (aI (oN (T.mkn 5 (by decide)) rfl T.PB)))
 aH)
 (ai (bb (aB bu (pv 1) ao (aK _))
 (aj (aI (oN (T.mkn 6 (by decide)) rfl T.J1)))
 aH)
 (aj (aI (gP T.EZ Wk fG rfl T.EX T.Wg .nil a7 (aa (aT aU (pv 0) af (λ_ _=>rfl)) ag)))))))))))),?_⟩
  have h0:atI (rowOf k v) 0=some (.str (nm k)):=by
   have hk:k=1\/k=2\/k=3\/k=4\/k=5\/k=6\/k=7:=by omega
   rcases hk with rfl | rfl | rfl | rfl | rfl | rfl | rfl <;> rfl
  refine ixv rfl (SqT.of ht) h0 ?_;have hk:k=1\/k=2\/k=3\/k=4\/k=5\/k=6\/k=7:=by omega
  rcases hk with rfl | rfl | rfl | rfl | rfl | rfl | rfl
  ·refine⟨_,rfl,rfl,tsf (by decide +kernel) ⟨_,rfl,rfl,tst (by decide +kernel) ?_⟩⟩
   exact⟨_,rfl,t,_,_,v,rfl,rfl,SqT.of ht,rfl,λm dx nm ndx ne=>⟨m,dx,v,rfl,ae,rfl,q m _ ((((bA.refl H).own ndx).own nm).own nm) nm ⟨dx,ae⟩⟩⟩
  ·refine⟨_,rfl,rfl,tsf (by decide +kernel) ⟨_,rfl,rfl,tsf (by decide +kernel) ⟨_,rfl,rfl,tst (by decide +kernel) ?_⟩⟩⟩
   exact⟨_,rfl,t,_,_,v,rfl,rfl,SqT.of ht,rfl,λm dx nm ndx ne=>⟨m,dx,v,rfl,ae,rfl,q m _ ((((bA.refl H).own ndx).own nm).own nm) nm ⟨dx,ae⟩⟩⟩
  ·refine⟨_,rfl,rfl,tsf (by decide +kernel) ⟨_,rfl,rfl,tsf (by decide +kernel) ⟨_,rfl,rfl,tsf (by decide +kernel) ⟨_,rfl,rfl,tst (by decide +kernel) ?_⟩⟩⟩⟩
   exact⟨_,rfl,t,_,_,v,rfl,rfl,SqT.of ht,rfl,λm dx nm ndx ne=>⟨m,dx,v,rfl,ae,rfl,q m _ ((((bA.refl H).own ndx).own nm).own nm) nm ⟨dx,ae⟩⟩⟩
  ·refine⟨_,rfl,rfl,tsf (by decide +kernel) ⟨_,rfl,rfl,tsf (by decide +kernel) ⟨_,rfl,rfl,tsf (by decide +kernel) ⟨_,rfl,rfl,tsf (by decide +kernel) ⟨_,rfl,rfl,tst (by decide +kernel) ?_⟩⟩⟩⟩⟩
   exactλm dx nm ndx ne=>q m _ (((bA.refl H).own ndx).own nm) nm ⟨dx,ae⟩
  ·refine⟨_,rfl,rfl,tsf (by decide +kernel) ⟨_,rfl,rfl,tsf (by decide +kernel) ⟨_,rfl,rfl,tsf (by decide +kernel) ⟨_,rfl,rfl,tsf (by decide +kernel) ⟨_,rfl,rfl,tsf (by decide +kernel) ⟨_,rfl,rfl,tst (by decide +kernel) ?_⟩⟩⟩⟩⟩⟩
   exactλm dx nm ndx ne=>q m _ (((bA.refl H).own ndx).own nm) nm ⟨dx,ae⟩
  ·refine⟨_,rfl,rfl,tsf (by decide +kernel) ⟨_,rfl,rfl,tsf (by decide +kernel) ⟨_,rfl,rfl,tsf (by decide +kernel) ⟨_,rfl,rfl,tsf (by decide +kernel) ⟨_,rfl,rfl,tsf (by decide +kernel) ⟨_,rfl,rfl,tsf (by decide +kernel) ⟨_,rfl,rfl,tst (by decide +kernel) ?_⟩⟩⟩⟩⟩⟩⟩
   exactλm dx nm ndx ne=>q m _ (((bA.refl H).own ndx).own nm) nm ⟨dx,ae⟩
  ·refine⟨_,rfl,rfl,tsf (by decide +kernel) ⟨_,rfl,rfl,tsf (by decide +kernel) ⟨_,rfl,rfl,tsf (by decide +kernel) ⟨_,rfl,rfl,tsf (by decide +kernel) ⟨_,rfl,rfl,tsf (by decide +kernel) ⟨_,rfl,rfl,tsf (by decide +kernel) ⟨_,rfl,rfl,tsf (by decide +kernel) ?_⟩⟩⟩⟩⟩⟩⟩
   exact⟨_,rfl,t,_,_,v,rfl,rfl,SqT.of ht,rfl,λm dx nm ndx ne=>⟨m,dx,v,rfl,ae,rfl,q m _ ((((bA.refl H).own ndx).own nm).own nm) nm ⟨dx,ae⟩⟩⟩
end
section
variable{P:rf}{w:World}{K:ba}{mg:Str->Option Value}{base:Heap}{A:Adr}
theorem CL (T:Txt w.params K mg A):aJ P w K mg base CX0 3 A.lZ A.gY ["told"] (Gp A K):=by
 have PX:aJ P w K mg base CX0 1 A.M7 A.Dp ["self","text"] (As A K):=BG T;have PY:aJ P w K mg base CX0 1 A.M8 A.Dq ["self","edit"] (jO A 1):=mE T;have Wi:aJ P w K mg base CX0 1 A.Pq A.Ga ["self","edit"] (jO A 2):=vX T;have Wj:aJ P w K mg base CX0 1 A.Pr A.Gb ["self","sitting"] (jO A 3):=rZ T;have Wk:aJ P w K mg base CX0 1 A.Pt A.Gd ["self","clause"] (jO A 7):=uf T;refine T.ny.ok lE (λvs H Q E h=>?_) (λcdv A' outer s H vs Q E hr h=>?_)
 ·obtain⟨t,L,xs,rfl,_⟩:=h;rfl
 ·obtain⟨t,L,xs,rfl,ht,hL,q⟩:=h;have fG:=hr;refine⟨_,(ai (aZ (i:=1) lE.nd rfl (wt rfl) (aT aU (pv 0) af (λ_ _=>rfl)))
 (ai (bb (aB bu (pv 1) ao (aK _))
 (aj (aI (gP T.vU PX fG rfl T.vS T.Sd .nil a7 (aa (aT aU (pv 0) af (λ_ _=>rfl)) ag))))
 aH)
 (ai (bb (aB bu (pv 1) ao (aK _))
 (aj (aI (gP T.vV PY fG rfl T.vT T.Se .nil a7 (aa (aT aU (pv 0) af (λ_ _=>rfl)) ag))))
 aH)
 (ai (bb (aB bu (pv 1) ao (aK _))
 (aj (aI (gP T.J4 Wi fG rfl T.J0 T.We .nil a7 (aa (aT aU (pv 0) af (λ_ _=>rfl)) ag))))
 aH)
 (ai (bb (aB bu (pv 1) ao (aK _))
 (aj (aI (gP T.Bu Wj fG rfl T.Bt T.Wf .nil a7 (aa (aT aU (pv 0) af (λ_ _=>rfl)) ag))))
 aH)
 (ai (bb (aB bu (pv 1) ao (aK _))
 (aj (aI (oN (T.mkn 4 (by decide)) rfl T.EW)))
 aH)
 (ai (bb (aB bu (pv 1) ao (aK _))
 (aj (aI (oN (T.mkn 5 (by decide)) rfl T.PB)))
 aH)
 (ai (bb (aB bu (pv 1) ao (aK _))
 (aj (aI (oN (T.mkn 6 (by decide)) rfl T.J1)))
 aH)
 (aj (aI (gP T.EZ Wk fG rfl T.EX T.Wg .nil a7 (aa (aT aU (pv 0) af (λ_ _=>rfl)) ag)))))))))))),?_⟩
  refine ixv rfl (SqT.of ht) rfl ?_;refine⟨_,rfl,rfl,tst (by decide +kernel) ?_⟩
  refine⟨_,rfl,t,_,_,.ref L,rfl,rfl,SqT.of ht,rfl,λm dx nm ndx ne=>⟨m,dx,L,xs,rfl,ae,(((bA.refl H).own ndx).own nm).seq hL,λp hp=>⟨rfl,?_⟩⟩⟩
  have s1:bA H (upd (upd H dx (.own m)) m (.ins (A.C 0) dx [])):=((bA.refl H).own ndx).own nm;have npm:p≠m:=λz=>by rw[z,ae]at hp;cases hp
  exact q m p _ ((s1.new hp).own nm) nm (s1.free hp) ((aq npm).trans ae) ⟨dx,ae⟩
end
abbrev Gr:Str:=ar "more"
def nC (n:Str)(a b:Int):Bool:=if a<=b then false else (decide (n=Gr) || decide (2 * b<=a))
def PZ:Sp:=λvs H Q _=>∃(n:Str) (a b:Int),vs=[.str n,.int a,.int b]/\Q (.bl (nC n a b)) H
section
variable{P:rf}{w:World}{K:ba}{mg:Str->Option Value}{base:Heap}{A:Adr}
theorem J8 (T:Txt w.params K mg A):aJ P w K mg base CX0 1 A.Ah A.qb ["need","ayes","noes"] PZ:=by
 refine T.xq.ok JU (λvs H Q E h=>?_) (λcdv A' outer s H vs Q E hr h=>?_)
 ·obtain⟨n,a,b,rfl,_⟩:=h;rfl
 ·obtain⟨n,a,b,rfl,q⟩:=h;refine⟨_,(ai (bb (aB vc (pv 1) (pv 2) (aK _))
 (aj (aI oH))
 aH)
 (aj (aI (ZH (ng bu (pv 0) ao (aK _)) (Js (ng TL (pv 1) (a6 wX af (pv 2)) (aK _))))))),?_⟩
  refine⟨_,rfl,_,rfl,_,_,rfl,rfl,_,rfl,eQ (λe=>?_) (λe=>?_)⟩
  ·have e':a<=b:=of_decide_eq_true e;rw[nC,if_pos e']at q;exact q
  ·have e':¬a<=b:=λz=>e (decide_eq_true z)
   rw[nC,if_neg e']at q;refine⟨_,rfl,rfl,_,rfl,eQ (λe2=>?_) (λe2=>?_)⟩
   ·have h2:n=Gr:=by injection of_decide_eq_true e2
    rw[decide_eq_true h2,Bool.true_or]at q;exact q
   ·have h2:¬n=Gr:=λz=>e2 (decide_eq_true (by rw[z]))
    rw[decide_eq_false h2,Bool.false_or]at q;exact⟨_,rfl,_,rfl,_,_,rfl,rfl,.inl ⟨by decide,by decide⟩,_,_,rfl,rfl,q⟩
end
end My
set_option maxHeartbeats 1000000
namespace My
open PySem L2
seal PySem.wpAny
namespace R
abbrev bl1:Str:=ar " "
abbrev em:Str:=ar ""
theorem nU:bl1=⟨#[32]⟩:=by decide +kernel
theorem T6:em=⟨#[]⟩:=by decide +kernel
def Sign (c:Nat):Prop:=33<=c/\c<=126/\c≠37
instance:DecidablePred Sign:=λc=>by unfold Sign;exact inferInstance
structure nX (x:Str):Prop where
 l1:1<=x.length
 l2:x.length<=20
 sgn:∀c∈x.cps.toList,Sign c
 ns:x≠ar "/"
def Asc (x:Str):Prop:=∀c∈x.cps.toList,c < 128
theorem Asc.ok {x:Str}(h:Asc x):ajZ x=true:=by
 unfold ajZ;rw[Array.all_eq_true];intro i hi;have:=h x.cps[i] (by simp)
 exact decide_eq_true (by omega)
theorem nX.asc {x:Str}(w:nX x):Asc x:=λc hc=>by have:=w.sgn c hc;unfold Sign at this;omega
theorem pH {sep:Str}(hs:Asc sep):∀ws:List Str,(∀w∈ws,Asc w)->Asc (sr sep ws)
 |[],_=>λc hc=>by
  have:c∈([]:List Nat):=hc;cases this
 |[x],h=>h x gn
 |x::y::r,h=>λc hc=>by
  have hc':c∈((x++sep)++sr sep (y::r)).cps.toList:=hc;rw[fB,fB,List.mem_append,List.mem_append]at hc';rcases hc' with (h1 | h1) | h1
  ·exact h x gn c h1
  ·exact hs c h1
  ·exact pH hs (y::r) (λw hw=>h w (kq _ hw)) c h1
abbrev aaJ:List Str:=[ar "-",ar "put",ar "/a",ar "0",ar "off",ar "//",ar "matter",ar "a"]
theorem P0 {x:Str}(h:decide (1<=x.length/\x.length<=20/\(∀c∈x.cps.toList,Sign c)/\x≠ar "/")=true):nX x:=by
 obtain⟨a,b,c,d⟩:=of_decide_eq_true h;exact⟨a,b,c,d⟩
theorem Wl:∀x∈aaJ,nX x:=by
 intro x hx;simp only[List.mem_cons,List.not_mem_nil,or_false]at hx;rcases hx with rfl | rfl | rfl | rfl | rfl | rfl | rfl | rfl <;> exact P0 (by decide +kernel)
structure Clause (n:Nat)(x:Str)(ws:List Str):Prop where
 eq:x=sr bl1 ws
 len:ws.length<=n
 wd:∀w∈ws,nX w
theorem Clause.asc {n:Nat}{x:Str}{ws:List Str}(c:Clause n x ws):Asc x:=by
 rw[c.eq];exact pH (by rw[nU];intro d hd;have:d=32:=(by simpa using hd);omega) ws λw hw=>(c.wd w hw).asc
theorem DK {ws:List Str}(h:∀w∈ws,nX w):(ws.map (·.length)).sum<=ws.length * 20:=StrLaws.sumLen_le ws λw hw=>(h w hw).l2
theorem Clause.size {n:Nat}{x:Str}{ws:List Str}(c:Clause n x ws):x.length<=n * 21:=by
 rw[c.eq,nU];have h1:=tD 32 ws;have h2:=DK c.wd;have h3:=c.len;omega
abbrev sl1:Str:=ar "/"
def num (i:Int):Str:=ar (toString i)
theorem Mf {i:Int}(h0:0<=i)(h1:i < 10 ^ 10):(num i).length<=10:=PyProof.Rows.toString_length_le h0 (by decide) h1
theorem Mg {i:Int}(h0:0<=i)(h1:i < 10 ^ 10):i.natAbs.log2 < 1920:=by
 have h:i.natAbs < 2 ^ 34:=by
  have:(10:Int) ^ 10<=2 ^ 34:=by decide
  omega
 by_cases hz:i.natAbs=0
 ·rw[hz];decide
 ·exact Nat.lt_trans ((Nat.log2_lt hz).mpr h) (by decide)
def bp (z:Str):List Str:=if z=em then [] else PySem.Txt.split z bl1
theorem nX.free {x:Str}(w:nX x):32∉x.cps.toList:=λz=>by have:=w.sgn _ z;unfold Sign at this;omega
theorem lL {ws:List Str}(h:∀w∈ws,nX w):bp (sr bl1 ws)=ws:=by
 cases ws with
 |nil=>exact if_pos (by rw[T6];rfl)
 |cons x r =>
  have l:=Cz (c:=32) (aj5 x r) λw hw=>(h w hw).l1
  have ne:¬sr bl1 (x::r)=em:=λe=>by
   rw[nU]at e;rw[e,T6]at l;exact absurd l (by decide)
  unfold bp;rw[if_neg ne,nU];exact JJ (aj5 x r) λw hw=>(h w hw).free
inductive fH where
 |mat (cs:List (List Str))
 |ed (m:Bool) (k:Nat) (i:Int) (ws:List Str)
 |pt (ws:List Str)
 |nums (kd:Str) (ns:List Int)
def kEd (m:Bool):Str:=if m then ar "mend" else ar "change"
def kn:Nat->Str
 | 0=>ar "put"
 | 1=>ar "cut"
 |_=>ar "turn"
def edR (k:Nat)(i:Int)(x:Str):List V:=if k=1 then [.str (kn 1),.int i] else [.str (kn k),.int i,.str x]
def jj:List (Str×Nat):=[(ar "put off",1),(ar "vote",2),(ar "take",1),(ar "close",0),(ar "lay",0),(ar "rest",0),(ar "drop",0)]
structure BH (n:Nat)(ws:List Str):Prop where
 len:ws.length<=n
 wd:∀w∈ws,nX w
def DOk:fH->Prop
 | .mat cs=>cs.length<=12/\∀ws∈cs,BH 12 ws
 | .ed m k i ws=>(k=0\/k=1\/k=2)/\(0<=i/\i < 10 ^ 10)/\BH 12 ws/\(m=true->ws.length=1)
 | .pt ws=>BH 12 ws
 | .nums kd ns=>(kd,ns.length)∈jj/\∀i∈ns,0<=i/\i < 10 ^ 10
def r6 (K:ba)(H:Hp):fH->Addr->Prop
 | .mat cs,t=>∃L,SqT K H t [.str (ar "matter"),.ref L]/\SqL K H L ((cs.map (sr bl1)).map V.str)
 | .ed m k i ws,t=>∃e,SqT K H t [.str (kEd m),.ref e]/\SqT K H e (edR k i (sr bl1 ws))
 | .pt ws,t=>SqT K H t [.str (ar "point"),.str (sr bl1 ws)]
 | .nums kd ns,t=>SqT K H t (.str kd::ns.map V.int)
theorem r6.same {K:ba}{H H':Hp}(s:bA H H'):∀ {d:fH} {t:Addr},r6 K H d t->r6 K H' d t
 | .mat _,_,⟨L,a,b⟩=>⟨L,bV s a,s.seq b⟩
 | .ed _ _ _ _,_,⟨e,a,b⟩=>⟨e,bV s a,bV s b⟩
 | .pt _,_,a=>bV s a
 | .nums _ _,_,a=>bV s a
def BI:fH->Str
 | .mat _=>ar "matter"
 | .ed m _ _ _=>kEd m
 | .pt _=>ar "point"
 | .nums kd _=>kd
def jk:fH->List Str
 | .mat cs=>cs.flatMap λws=>sl1::ws
 | .ed _ k i ws=>kn k::num i::(if k=1 then [] else ws)
 | .pt ws=>ws
 | .nums _ ns=>ns.map num
def r8 (d:fH):Str:=sr bl1 (BI d::jk d)
theorem Wm (k:Nat):(kn k).length<=4:=by
 unfold kn;split <;> decide +kernel
theorem Sn (m:Bool):(kEd m).length<=6:=by cases m <;> decide +kernel
theorem kd_len {kd:Str}{n:Nat}(h:(kd,n)∈jj):kd.length<=7/\n<=2:=by
 simp only[jj,List.mem_cons,List.not_mem_nil,or_false,Prod.mk.injEq]at h;rcases h with ⟨rfl,rfl⟩ | ⟨rfl,rfl⟩ | ⟨rfl,rfl⟩ | ⟨rfl,rfl⟩ | ⟨rfl,rfl⟩ | ⟨rfl,rfl⟩ | ⟨rfl,rfl⟩ <;> decide +kernel
theorem DL {d:fH}(o:DOk d):(jk d).length<=200/\(∀w∈jk d,w.length<=20)/\(BI d).length<=20:=by
 cases d with
 |mat cs =>
  obtain⟨o1,o2⟩:=o;refine⟨?_,λw hw=>?_,by show (ar "matter").length<=20;decide +kernel⟩
  ·show (cs.flatMap λws=>sl1::ws).length<=200
   have:∀l:List (List Str),(∀ws∈l,BH 12 ws)->(l.flatMap λws=>sl1::ws).length<=l.length * 13:=λl=>by
    induction l with
    |nil=>intro _;exact kr _
    |cons x l ih =>
     intro h;have h1:=(h x gn).len;have h2:=ih λw hw=>h w (kq _ hw)
     rw[List.flatMap_cons,ky,ajK,ajK];omega
   have:=this cs o2;omega
  ·obtain⟨ws,h1,h2⟩:=List.mem_flatMap.mp hw;rcases List.mem_cons.mp h2 with rfl | h2
   ·decide +kernel
   ·exact((o2 ws h1).wd w h2).l2
 |ed m k i ws =>
  obtain⟨o1,⟨i0,i1⟩,o3,_⟩:=o;have l:=o3.len;refine⟨?_,λw hw=>?_,?_⟩
  ·show (kn k::num i::(if k=1 then [] else ws)).length<=200
   split <;> simp <;> omega
  ·have hw':w∈kn k::num i::(if k=1 then [] else ws):=hw
   rcases List.mem_cons.mp hw' with rfl | hw'
   ·have:=Wm k;omega
   ·rcases List.mem_cons.mp hw' with rfl | hw'
    ·have:=Mf i0 i1;omega
    ·split at hw'
     ·cases hw'
     ·exact(o3.wd w hw').l2
  ·have:=Sn m;show (kEd m).length<=20;omega
 |pt ws=>exact⟨by have:=o.len;show ws.length<=200;omega,λw hw=>(o.wd w hw).l2,by show (ar "point").length<=20;decide +kernel⟩
 |nums kd ns =>
  obtain⟨o1,o2⟩:=o;have:=kd_len o1;refine⟨by show (ns.map num).length<=200;rw[cb];omega,λw hw=>?_,by show kd.length<=20;omega⟩
  obtain⟨i,hi,rfl⟩:=List.mem_map.mp hw;have:=Mf (o2 i hi).1 (o2 i hi).2;omega
def gi:Sp:=λvs H Q _=>∃z,vs=[.str z]/\z.length+2<=ka/\∀p,H p=none->Q (.ref p) (upd H p (.lst ((bp z).map V.str)))
def uG (K:ba):Sp:=λvs H Q _=>∃a ws,vs=[.ref a]/\SqL K H a (ws.map V.str)/\(ws.map (·.length)).sum+ws.length<=16777216/\Q (.str (sr bl1 ws)) H
def P1 (K:ba):Sp:=λvs H Q _=>∃(L:Addr) (cs:List (List Str)),vs=[.ref L]/\SqL K H L ((cs.map (sr bl1)).map V.str)/\DOk (.mat cs)/\∀p H',bA H H'->H p=none->H' p=some (.lst ((jk (.mat cs)).map V.str))->Q (.ref p) H'
def Mh (K:ba):Sp:=λvs H Q _=>∃(t:Addr) (m:Bool) (k:Nat) (i:Int) (ws:List Str),vs=[.ref t]/\SqT K H t (edR k i (sr bl1 ws))/\DOk (.ed m k i ws)/\∀p H',bA H H'->H p=none->H' p=some (.lst ((jk (.ed m k i ws)).map V.str))->Q (.ref p) H'
def Gs (K:ba):Sp:=λvs H Q _=>∃(t:Addr) (d:fH),vs=[.ref t]/\r6 K H d t/\DOk d/\∀p H',bA H H'->H p=none->H' p=some (.lst ((jk d).map V.str))->Q (.ref p) H'
def E9 (K:ba):Sp:=λvs H Q _=>∃(t:Addr) (d:fH),vs=[.ref t]/\r6 K H d t/\DOk d/\∀H',bA H H'->Q (.str (r8 d)) H'
theorem uE {k:Nat}(h:k=0\/k=1\/k=2):(V.str (kn k)=V.str (ar "cut"))↔k=1:=by
 rcases h with rfl | rfl | rfl <;> decide +kernel
theorem Mi (k:Nat)(i:Int)(x:Str):atI (edR k i x) 0=some (.str (kn k)):=by
 unfold edR;split
 ·rename_i h;rw[h];rfl
 ·rfl
theorem So (k:Nat)(i:Int)(x:Str):atI (edR k i x) 1=some (.int i):=by
 unfold edR;split <;> rfl
theorem Sq {k:Nat}(h:k≠1)(i:Int)(x:Str):atI (edR k i x) 2=some (.str x):=by
 unfold edR;rw[if_neg h];rfl
theorem uH {ws:List Str}(o:BH 12 ws):(sr bl1 ws).length<=300:=by
 have h1:=tD 32 ws;have h2:=DK o.wd;have h3:=o.len;rw[nU];omega
theorem aaK {kd:Str}{n:Nat}(h:(kd,n)∈jj):V.str kd≠V.str (ar "matter")/\V.str kd≠V.str (ar "change")/\V.str kd≠V.str (ar "mend")/\V.str kd≠V.str (ar "point"):=by
 simp only[jj,List.mem_cons,List.not_mem_nil,or_false,Prod.mk.injEq]at h;rcases h with ⟨rfl,rfl⟩ | ⟨rfl,rfl⟩ | ⟨rfl,rfl⟩ | ⟨rfl,rfl⟩ | ⟨rfl,rfl⟩ | ⟨rfl,rfl⟩ | ⟨rfl,rfl⟩ <;> decide +kernel
section
variable{K:ba}
theorem r6.at0 {H:Hp}{d:fH}{t:Addr}(h:r6 K H d t):∃xs,SqT K H t xs/\atI xs 0=some (.str (BI d)):=by
 cases d with
 |mat cs=>obtain⟨L,a,b⟩:=h;exact⟨_,a,rfl⟩
 |ed m k i ws=>obtain⟨e,a,b⟩:=h;exact⟨_,a,rfl⟩
 |pt ws=>exact⟨_,h,rfl⟩
 |nums kd ns=>exact⟨_,h,eu (j:=0) rfl⟩
end
section
variable{P:rf}{w:World}{K:ba}{mg:Str->Option Value}{base:Heap}{A:Adr}
theorem vY (T:Txt w.params K mg A):aJ P w K mg base CX0 1 A.pq A.i7 ["words"] (uG K):=by
 refine T.nv.ok EG (λvs H Q E h=>?_) (λcdv A' outer s H vs Q E hr h=>?_)
 ·obtain⟨a,ws,rfl,_⟩:=h;rfl
 ·obtain⟨a,ws,rfl,hq,hz,k⟩:=h;refine⟨_,(aj (aI (gB akU PySem.F.slot_str_join PySem.F.type_str_join Em ao (aa (pv 0) ag)))),?_⟩;exact⟨rfl,_,rfl,bl1,a,ws,rfl,rfl,hq,by rw[nU];show _+ws.length * 1<=_;omega,k⟩
end
section
variable{P:rf}{w:World}{K:ba}{mg:Str->Option Value}{base:Heap}{A:Adr}
theorem kP (T:Txt w.params K mg A):aJ P w K mg base CX0 1 A.words_of A.fq ["clause"] gi:=by
 refine T.iF.ok F6 (λvs H Q E h=>?_) (λcdv A' outer s H vs Q E hr h=>?_)
 ·obtain⟨z,rfl,_⟩:=h;rfl
 ·obtain⟨z,rfl,hz,k⟩:=h;refine⟨_,(ai (bb (aB bu (pv 0) ao (aK _))
 (aj (aI (bQ ag)))
 aH)
 (aj (aI (gB akU PySem.F.slot_str_split PySem.F.type_str_split FP (pv 0) (aa ao ag))))),?_⟩
  refine⟨_,rfl,rfl,_,rfl,eQ (λe=>?_) (λe=>?_)⟩
  ·have e':z=em:=by injection of_decide_eq_true e
   refine⟨akB _,λp hp=>?_⟩
   have:=k p hp;rw[bp,if_pos e']at this;exact this
  ·have e':¬z=em:=λq=>e (decide_eq_true (by rw[q]))
   refine⟨_,rfl,rfl,z,bl1,rfl,rfl,by rw[nU];rfl,hz,λp hp=>?_⟩
   have:=k p hp;rw[bp,if_neg e']at this;exact this
theorem xH (T:Txt w.params K mg A):aJ P w K mg base CX0 2 A.kA A.g7 ["text"] (P1 K):=by
 have fJ:aJ P w K mg base CX0 1 A.words_of A.fq ["clause"] gi:=kP T;refine T.ll.ok jG (λvs H Q E h=>?_) (λcdv A' outer s H vs Q E hr h=>?_)
 ·obtain⟨L,cs,rfl,_⟩:=h;rfl
 ·obtain⟨L,cs,rfl,hL,o,k⟩:=h;have eI:=hr;refine⟨_,(ai (aZ (i:=1) jG.nd rfl (wt rfl) (bQ ag))
 (ai (Az PassesOwn.never rfl (tq (pv 0)) (j9 (i:=2) jG.nd rfl (wt rfl))
 (ai (bN (gB om ajQ ajR dq (pv 1) (aa ao ag)))
 (aj (bN (gB om PySem.F.slot_list_extend PySem.F.type_list_extend C9 (pv 1) (aa (aW fJ eI rfl T.jM T.iF.kp T.jL .nil a7 (aa (pv 2) ag)) ag))))))
 (aj (aI (pv 1))))),?_⟩
  have lim:ka=16777216:=by decide
  refine⟨akB _,λW hW=>?_⟩
  refine⟨_,rfl,L,rfl,⟨_,(aC hW).seq hL⟩,?_⟩;refine AA (K:=K) (a:=L) (xs:=(cs.map (sr bl1)).map V.str) (λi σ H2=>∃v2:Option V,σ=[some (.ref L),some (.ref W),v2]/\bA H H2/\H2 W=some (.lst ((jk (.mat (cs.take i))).map V.str)))
   ⟨_,rfl,aC hW,ae⟩ (λi σ H2 _ ⟨_,_,s2,_⟩=>s2.seq hL) ?_ ?_
  ·rintro i y σ H2 hi ⟨v2,rfl,s2,h2⟩;rw[aj7,aj7]at hi;cases hc:cs[i]? with
   |none=>rw[hc]at hi;cases hi
   |some ws =>
    rw[hc]at hi;obtain rfl:V.str (sr bl1 ws)=y:=ajP hi;have ow:=o.2 ws (aka hc);have hcl:=uH ow;have hil:i < cs.length:=(List.getElem?_eq_some_iff.mp hc).1;have hb:(jk (.mat (cs.take i))).length<=200:=(DL (d:=.mat (cs.take i)) ⟨by rw[akm];have:=o.1;omega,λws hw=>o.2 ws (List.mem_of_mem_take hw)⟩).1
    refine⟨_,rfl,.inl ⟨rfl,_,SqL.of h2⟩,W,_,_,rfl,rfl,h2,(by rw[cb];omega),?_⟩
    refine⟨_,rfl,.inl ⟨rfl,_,SqL.of ae⟩,_,rfl,_,rfl,by omega,λp hp=>?_⟩
    rw[lL ow.wd];have nWp:W≠p:=aG ae hp;have wl:=ow.len;refine⟨W,p,_,_,rfl,rfl,(aq nWp).trans ae,ae,(by rw[ky,cb,cb];show _+1+_<=_;omega),?_⟩
    refine⟨_,rfl,((s2.own hW).new hp).own hW,?_⟩;rw[ae,List.take_succ,hc];show some (HO.lst _)=some (HO.lst (((cs.take i++[ws]).flatMap λws=>sl1::ws).map V.str))
    rw[List.flatMap_append];simp[jk]
  ·rintro σ H2 ⟨v2,rfl,s2,h2⟩;rw[cb,cb,ak7]at h2;exact⟨_,rfl,k W H2 s2 hW h2⟩
theorem xI (T:Txt w.params K mg A):aJ P w K mg base CX0 2 A.kB A.g8 ["edit"] (Mh K):=by
 have fJ:aJ P w K mg base CX0 1 A.words_of A.fq ["clause"] gi:=kP T;refine T.lq.ok oY (λvs H Q E h=>?_) (λcdv A' outer s H vs Q E hr h=>?_)
 ·obtain⟨t,m,k,i,ws,rfl,_⟩:=h;rfl
 ·obtain⟨t,m,k,i,ws,rfl,ht,⟨o1,⟨i0,i1⟩,o3,_⟩,q⟩:=h;have eI:=hr;refine⟨_,(ai (aZ (i:=1) oY.nd rfl (wt rfl) (bQ (aa (aT aU (pv 0) af (λ_ _=>rfl)) (aa (dn vd (by rfl) T.Px OH (aa (aT aU (pv 0) af (λ_ _=>rfl)) ag)) ag))))
 (ai (bb (aB C0 (aT aU (pv 0) af (λ_ _=>rfl)) ao (aK _))
 (aj (bN (gB om PySem.F.slot_list_extend PySem.F.type_list_extend C9 (pv 1) (aa (aW fJ eI rfl T.jM T.iF.kp T.jL .nil a7 (aa (aT aU (pv 0) af (λ_ _=>rfl)) ag)) ag))))
 aH)
 (aj (aI (pv 1))))),?_⟩
  have lim:ka=16777216:=by decide
  refine ixv rfl ht (Mi k i _) (ixv rfl ht (So k i _) ⟨_,rfl,Mg i0 i1,(sl 2),λW hW=>?_⟩)
  have s1:bA H (upd H W (.lst [V.str (kn k),V.str (num i)])):=aC hW;have hcl:=uH o3;refine ixv rfl (bV s1 ht) (Mi k i _) ⟨rfl,_,rfl,?_⟩
  by_cases hk:k=1
  ·rw[decide_eq_true ((uE o1).mpr hk)];refine bw ⟨_,rfl,q W _ s1 hW ?_⟩;show (upd H W (.lst [V.str (kn k),V.str (num i)])) W=some (.lst ((kn k::num i::(if k=1 then [] else ws)).map V.str))
   rw[ae,if_pos hk];rfl
  ·rw[decide_eq_false λz=>hk ((uE o1).mp z)]
   refine dM ⟨_,rfl,.inl ⟨rfl,_,SqL.of ae⟩,ixv rfl (bV s1 ht) (Sq hk i _) ⟨_,rfl,by omega,λp hp=>?_⟩⟩
   rw[lL o3.wd];have nWp:W≠p:=aG ae hp;have wl:=o3.len;refine⟨W,p,_,_,rfl,rfl,(aq nWp).trans ae,ae,(by rw[cb];show 2+_<=_;omega),_,rfl,q W _ ((s1.new hp).own hW) hW ?_⟩
   show (upd (upd (upd H W (.lst [V.str (kn k),V.str (num i)])) p (.lst (ws.map V.str))) W (.lst ([V.str (kn k),V.str (num i)]++ws.map V.str))) W=some (.lst ((kn k::num i::(if k=1 then [] else ws)).map V.str))
   rw[ae,if_neg hk];rfl
theorem yU (T:Txt w.params K mg A):aJ P w K mg base CX0 3 A.lF A.ix ["deed"] (Gs K):=by
 have fJ:aJ P w K mg base CX0 2 A.words_of A.fq ["clause"] gi:=(kP T).mono (by decide)
 have yV:aJ P w K mg base CX0 2 A.kA A.g7 ["text"] (P1 K):=xH T;have yW:aJ P w K mg base CX0 2 A.kB A.g8 ["edit"] (Mh K):=xI T;refine T.mw.ok qC (λvs H Q E h=>?_) (λcdv A' outer s H vs Q E hr h=>?_)
 ·obtain⟨t,d,rfl,_⟩:=h;rfl
 ·obtain⟨t,d,rfl,hd,o,q⟩:=h;have eI:=hr;have xJ:=hr;have xK:=hr;refine⟨_,(ai (aZ (i:=1) qC.nd rfl (wt rfl) (aT aU (pv 0) af (λ_ _=>rfl)))
 (ai (bb (aB bu (pv 1) ao (aK _))
 (aj (aI (aW yV xJ rfl T.qG T.ll.kp T.qF .nil a7 (aa (aT aU (pv 0) af (λ_ _=>rfl)) ag))))
 aH)
 (ai (bb (PW.pt (pw_or (aB bu (pv 1) ao (aK _)) (pw_or1 (aB bu (pv 1) ao (aK _)))))
 (aj (aI (aW yW xK rfl T.qI T.lq.kp T.qH .nil a7 (aa (aT aU (pv 0) af (λ_ _=>rfl)) ag))))
 aH)
 (ai (bb (aB bu (pv 1) ao (aK _))
 (aj (aI (aW fJ eI rfl T.jM T.iF.kp T.jL .nil a7 (aa (aT aU (pv 0) af (λ_ _=>rfl)) ag))))
 aH)
 (aj (aI (Ab (scope:=md) vx rfl (Vp (oK Vy (pv 0) (p8 af) vh)) (λ_ _ _ _ _=>(dn vd (by rfl) T.Px OH (aa (pv 0) ag)))))))))),?_⟩
  have lim:ka=16777216:=by decide
  cases d with
  |mat cs =>
   refine hide λGg hGg=>?_
   obtain⟨L,ht,hL⟩:=hd;refine hGg ?_;refine ixv rfl ht rfl ?_;refine⟨_,rfl,rfl,tst (decide_eq_true rfl) ?_⟩;exact ixv rfl ht rfl ⟨L,cs,rfl,hL,o,q⟩
  |ed m k i ws =>
   refine hide λGg hGg=>?_
   obtain⟨e,ht,he⟩:=hd;refine hGg ?_;refine ixv rfl ht rfl ?_;refine⟨_,rfl,rfl,tsf (decide_eq_false (by cases m <;> decide +kernel)) ?_⟩
   cases m with
   |false =>
    refine⟨_,rfl,rfl,tst (decide_eq_true rfl) ?_⟩;exact ixv rfl ht rfl ⟨e,false,k,i,ws,rfl,he,o,q⟩
   |true =>
    refine⟨_,rfl,rfl,tsf (decide_eq_false (by decide +kernel)) ?_⟩
    refine⟨_,rfl,rfl,tst (decide_eq_true rfl) ?_⟩;exact ixv rfl ht rfl ⟨e,true,k,i,ws,rfl,he,o,q⟩
  |pt ws =>
   have ht:=hd;refine ixv rfl ht rfl ?_;refine⟨_,rfl,rfl,tsf (decide_eq_false (by decide +kernel)) ?_⟩
   refine⟨_,rfl,rfl,tsf (decide_eq_false (by decide +kernel)) ?_⟩
   refine⟨_,rfl,rfl,tsf (decide_eq_false (by decide +kernel)) ?_⟩
   refine⟨_,rfl,rfl,tst (decide_eq_true rfl) ?_⟩;have hcl:=uH o;refine ixv rfl ht rfl ⟨_,rfl,by omega,λp hp=>q p _ (aC hp) hp ?_⟩
   rw[ae,lL o.wd];rfl
  |nums kd ns =>
   refine hide λGg hGg=>?_
   have ht:=hd;obtain⟨o1,o2⟩:=o;obtain⟨n1,n2,n3,n4⟩:=aaK o1;have kl:=(kd_len o1).2;refine hGg ?_;refine ixv rfl ht (eu (j:=0) rfl) ?_;refine⟨_,rfl,rfl,tsf (decide_eq_false n1) ?_⟩;refine⟨_,rfl,rfl,tsf (decide_eq_false n2) ?_⟩;refine⟨_,rfl,rfl,tsf (decide_eq_false n3) ?_⟩;refine⟨_,rfl,rfl,tsf (decide_eq_false n4) ?_⟩;refine⟨_,rfl,_,rfl,t,_,rfl,ht,λz=>?_,λp hp=>?_⟩
   ·have z1:=z.1;rw[show (1:Int)=((1:Nat):Int) from rfl,HT.vf,ajK]at z1
    omega
   ·rw[show (1:Int)=((1:Nat):Int) from rfl,AJ]
    show _;have hs1:bA H (upd H p (.tup (ns.map V.int))):=aC hp;have hpp:(upd H p (.tup (ns.map V.int))) p=some (.tup (ns.map V.int)):=ae;refine⟨p,rfl,⟨_,SqT.of hpp⟩,λD hD=>?_⟩
    have npD:p≠D:=aG hpp hD;refine OZ (K:=K) (a:=p) (xs:=ns.map V.int) (λi ys H3=>ys=(ns.take i).map (λn=>V.str (num n))/\H3=upd (upd H p (.tup (ns.map V.int))) D (.lst ys)) ⟨rfl,rfl⟩ (by rw[cb];omega) ?_ ?_ ?_
    ·rintro i ys H3 hi ⟨rfl,rfl⟩;rw[cb]at hi;exact⟨SqT.of ((aq npD).trans hpp),ae,by rw[cb,akm];omega⟩
    ·rintro i y ys H3 hi ⟨rfl,rfl⟩;rw[aj7]at hi;cases hc:ns[i]? with
     |none=>rw[hc]at hi;cases hi
     |some n =>
      refine hide λGg hGg=>?_
      rw[hc]at hi;obtain rfl:V.int n=y:=ajP hi;obtain⟨b0,b1⟩:=o2 n (aka hc);refine hGg ?_;refine⟨_,rfl,_,rfl,Mg b0 b1,?_⟩;refine ib.mk (by rw[cb];exact(List.getElem?_eq_some_iff.mp hc).1) ae ⟨?_,by rw[nc]⟩
      rw[List.take_succ,hc,kx];rfl
    ·rintro ys H3 ⟨rfl,rfl⟩;rw[cb,ak7];refine q D _ (hs1.new hD) (hs1.free hD) ?_;rw[ae];show some (HO.lst _)=some (HO.lst ((ns.map num).map V.str));rw[List.map_map];rfl
theorem qr (T:Txt w.params K mg A):aJ P w K mg base CX0 4 A.l4 A.g9 ["deed"] (E9 K):=by
 have r9:aJ P w K mg base CX0 3 A.pq A.i7 ["words"] (uG K):=(vY T).mono (by decide)
 have BJ:aJ P w K mg base CX0 3 A.lF A.ix ["deed"] (Gs K):=yU T;refine T.kM.ok EH (λvs H Q E h=>?_) (λcdv A' outer s H vs Q E hr h=>?_)
 ·obtain⟨t,d,rfl,_⟩:=h;rfl
 ·obtain⟨t,d,rfl,hd,o,q⟩:=h;have qt:=hr;have yX:=hr;refine⟨_,(aj (aI (aW r9 qt rfl T.rP T.nv.kp T.rO .nil a7 (aa (a6 Aa (bQ (aa (aT aU (pv 0) af (λ_ _=>rfl)) ag)) (aW BJ yX rfl T.rR T.mw.kp T.rQ .nil a7 (aa (pv 0) ag))) ag)))),?_⟩
  refine hide λGg hGg=>?_
  have lim:ka=16777216:=by decide
  obtain⟨b1,b2,b3⟩:=DL o;obtain⟨xs,hx,hx0⟩:=hd.at0;refine hGg ?_;refine ixv rfl hx hx0 ⟨(sl 1),λp hp=>?_⟩
  refine⟨_,rfl,t,d,rfl,hd.same (aC hp),o,λp2 H2 s2 hn2 h2=>?_⟩
  have hp2:H2 p=some (.lst [V.str (BI d)]):=s2 _ _ ae;refine⟨p,p2,_,_,rfl,rfl,hp2,h2,(by rw[cb];show 1+_<=_;omega),λp3 hp3=>?_⟩
  refine⟨p3,BI d::jk d,rfl,SqL.of (by rw[ae];rfl),?_,q _ (((aC hp).trans s2).new hp3)⟩
  have:=StrLaws.sumLen_le (B:=20) (BI d::jk d) (λw hw=>by
   rcases List.mem_cons.mp hw with rfl | hw
   ·exact b3
   ·exact b2 w hw)
  rw[ajK]at this ⊢;omega
end
end R
end My
set_option maxHeartbeats 1000000
namespace My
open PySem L2
seal PySem.wpAny
inductive Rl where
 |ob | made | aw | az | decided | firsts | kept | rows
 |e9 (n:Nat) | gM (n:Nat) | cY (n:Nat)
abbrev Col:=Addr->Option (Nat×Rl)
def dZ (i:Nat)(x:Option (Nat×Rl)):Prop:=∃r,x=some (i,r)
theorem BK {i j:Nat}(n:i≠j)(r:Rl):¬dZ j (some (i,r)):=λ⟨_,e⟩=>by cases e;exact n rfl
theorem aO {i:Nat}:¬dZ i none:=λ⟨_,e⟩=>by cases e
structure Step (W:Option (Nat×Rl)->Prop)(c c':Col)(H H':Hp):Prop where
 nn:¬W none
 keep:∀a v,H a=some v->¬W (c a)->H' a=some v
 there:∀a v,H a=some v->∃v',H' a=some v'
 col:∀a v,H a=some v->¬W (c a)->c' a=c a
section
variable{W W':Option (Nat×Rl)->Prop}{c c1 c2:Col}{H H' H1 H2:Hp}{a:Addr}{o:HO}
theorem Step.refl (n:¬W none):Step W c c H H:=⟨n,λ_ _ h _=>h,λ_ v h=>⟨v,h⟩,λ_ _ _ _=>rfl⟩
theorem Step.same (n:¬W none)(s:bA H H'):Step W c c H H':=⟨n,λa v h _=>s a v h,λa v h=>⟨v,s a v h⟩,λ_ _ _ _=>rfl⟩
theorem Step.mono (f:∀x,W x->W' x)(n:¬W' none)(s:Step W c c1 H H1):Step W' c c1 H H1 where
 nn:=n
 keep:=λa v h m=>s.keep a v h λz=>m (f _ z)
 there:=s.there
 col:=λa v h m=>s.col a v h λz=>m (f _ z)
theorem Step.trans (x:Step W c c1 H H1)(y:Step W c1 c2 H1 H2):Step W c c2 H H2 where
 nn:=x.nn
 keep:=λa v h n=>y.keep a v (x.keep a v h n) (by rw[x.col a v h n];exact n)
 there:=λa v h=>let ⟨v1,h1⟩:=x.there a v h;y.there a v1 h1
 col:=λa v h n=>(y.col a v (x.keep a v h n) (by rw[x.col a v h n];exact n)).trans (x.col a v h n)
theorem Step.upd (n:¬W none)(m:W (c a)):Step W c c H (L2.upd H a o) where
 nn:=n
 keep:=λb v h n=>by rw[aq (λz=>n (by rw[z];exact m))];exact h
 there:=λb v h=>by
  by_cases z:b=a
  ·rw[z];exact⟨o,ae⟩
  ·exact⟨v,by rw[aq z];exact h⟩
 col:=λ_ _ _ _=>rfl
def ay (c:Col)(a:Addr)(x:Option (Nat×Rl)):Col:=λb=>if b=a then x else c b
theorem aV {x:Option (Nat×Rl)}:ay c a x a=x:=if_pos rfl
theorem av {b:Addr}{x:Option (Nat×Rl)}(h:b≠a):ay c a x b=c b:=if_neg h
theorem Step.new {x:Option (Nat×Rl)}(n:¬W none)(h:H a=none):Step W c (ay c a x) H (L2.upd H a o) where
 nn:=n
 keep:=λb v e _=>aC h b v e
 there:=λb v e=>⟨v,aC h b v e⟩
 col:=λb v e _=>av (λz=>by rw[z,h]at e;cases e)
theorem Step.role {x:Option (Nat×Rl)}(n:¬W none)(m:W (c a)):Step W c (ay c a x) H H where
 nn:=n
 keep:=λ_ _ h _=>h
 there:=λ_ v h=>⟨v,h⟩
 col:=λb _ _ n=>av (λz=>n (by rw[z];exact m))
def d6 (c:Col)(H:Hp):Col:=λa=>if (H a).isSome then c a else none
theorem cS (h:H a=none):d6 c H a=none:=by unfold d6;rw[h];rfl
theorem Wn {v:HO}(h:H a=some v):d6 c H a=c a:=by unfold d6;rw[h];rfl
theorem Step.cl (n:¬W none)(s:bA H H'):Step W c (d6 c H) H H':=⟨n,λa v h _=>s a v h,λa v h=>⟨v,s a v h⟩,λ_ _ h _=>Wn h⟩
end
def Wr (i:Nat)(p:Rl->Bool)(x:Option (Nat×Rl)):Prop:=∃r,x=some (i,r)/\p r=true
section
variable{i:Nat}{p:Rl->Bool}{r:Rl}{c c':Col}{H H':Hp}{a:Addr}
theorem Wr.nn:¬Wr i p none:=λ⟨_,e,_⟩=>nomatch e
theorem Wr.no (h:p r=false):¬Wr i p (some (i,r)):=λ⟨_,e,z⟩=>by cases e;rw[h]at z;cases z
theorem Wr.yes (e:c a=some (i,r))(h:p r=true):Wr i p (c a):=⟨r,e,h⟩
theorem Step.il (s:Step (Wr i p) c c' H H'):Step (dZ i) c c' H H':=s.mono (λ_ ⟨r,e,_⟩=>⟨r,e⟩) aO
theorem mF {o:Addr}{v:HO}(h:p .ob=false)(s:Step (Wr i p) c c' H H')(h1:c o=some (i,.ob))(h2:H o=some v):c' o=some (i,.ob)/\H' o=some v:=by
 have hn:¬Wr i p (c o):=by rw[h1];exact Wr.no h
 exact⟨by rw[s.col o _ h2 hn];exact h1,s.keep _ _ h2 hn⟩
end
inductive Mn where
 |mat (tx:List Str) | chg (e:Ed) | mnd (e:Ed) | off (n:Int) | cls | lay | rst | pnt (z:Str)
def Mn.k:Mn->Nat
 | .mat _=>0 | .chg _=>1 | .mnd _=>2 | .off _=>3 | .cls=>4 | .lay=>5 | .rst=>6 | .pnt _=>7
theorem Mn.k8 (m:Mn):m.k < 8:=by cases m <;> simp only[Mn.k] <;> omega
def TupAt (c:Col)(H:Hp)(t:Addr)(xs:List V):Prop:=c t=none/\Rd H t (.tup xs)
theorem TupAt.sq {K:ba}{c:Col}{H:Hp}{t:Addr}{xs:List V}(h:TupAt c H t xs):SqT K H t xs:=.inl h.2
theorem TupAt.step {W:Option (Nat×Rl)->Prop}{c c':Col}{H H':Hp}{t:Addr}{xs:List V}(s:Step W c c' H H')(h:TupAt c H t xs):TupAt c' H' t xs:=by
 obtain⟨n,h⟩:=h;have hn:¬W (c t):=by rw[n];exact s.nn
 rcases h with h | ⟨o,h⟩
 ·exact⟨by rw[s.col t _ h hn];exact n,.inl (s.keep _ _ h hn)⟩
 ·exact⟨by rw[s.col t _ h hn];exact n,.inr ⟨o,s.keep _ _ h hn⟩⟩
def Mj (c:Col)(H:Hp)(p:Addr)(tx:List Str):Prop:=c p=none/\H p=some (.lst (tx.map V.str))
theorem Mj.step {W:Option (Nat×Rl)->Prop}{c c':Col}{H H':Hp}{p:Addr}{tx:List Str}(s:Step W c c' H H')(h:Mj c H p tx):Mj c' H' p tx :=
 have hn:¬W (c p):=by rw[h.1];exact s.nn
 ⟨by rw[s.col p _ h.2 hn];exact h.1,s.keep _ _ h.2 hn⟩
def Mn.Val (c:Col)(H:Hp):Mn->V->Prop
 | .mat tx,v=>∃p,v=.ref p/\Mj c H p tx
 | .chg e,v=>∃t,v=.ref t/\TupAt c H t (gv e)
 | .mnd e,v=>∃t,v=.ref t/\TupAt c H t (gv e)
 | .off n,v=>v=.int n
 | .pnt z,v=>v=.str z
 |_,_=>True
theorem Mn.Val.step {W:Option (Nat×Rl)->Prop}{c c':Col}{H H':Hp}(s:Step W c c' H H'):∀ {m:Mn} {v:V},m.Val c H v->m.Val c' H' v
 | .mat _,_,⟨p,e,h⟩=>⟨p,e,h.step s⟩
 | .chg _,_,⟨t,e,h⟩=>⟨t,e,h.step s⟩
 | .mnd _,_,⟨t,e,h⟩=>⟨t,e,h.step s⟩
 | .off _,_,h=>h
 | .pnt _,_,h=>h
 | .cls,_,_=>trivial
 | .lay,_,_=>trivial
 | .rst,_,_=>trivial
def mG (A:Adr)(c:Col)(H:Hp)(m:Mn)(o:Addr):Prop:=c o=none/\∃dx v,H o=some (.ins (A.C m.k) dx (pI m.k v))/\m.Val c H v
theorem mG.step {A:Adr}{W:Option (Nat×Rl)->Prop}{c c':Col}{H H':Hp}{m:Mn}{o:Addr}(s:Step W c c' H H')(h:mG A c H m o):mG A c' H' m o:=by
 obtain⟨n,dx,v,h,hv⟩:=h;have hn:¬W (c o):=by rw[n];exact s.nn
 exact⟨by rw[s.col o _ h hn];exact n,dx,v,s.keep _ _ h hn,hv.step s⟩
structure Ch where
 cJ:Int
 aN:Int
 closed:Bool
 made:List Mn
 aw:List Nat
 az:List (Nat×Int×List Nat)
 decided:List (Nat×Str)
 firsts:List (Nat×List Str)
 kept:List (Nat×List Ed)
 rows:List Str
def nV (n:Nat):V:=.int (n:Int)
def a9 (xs:List (Nat×V)):List (Key×V):=xs.map λp=>(km (p.1:Int),p.2)
inductive bJ {α β:Type}(R:α->β->Prop):List α->List β->Prop
 |nil:bJ R [] []
 |cons {a b as bs}:R a b->bJ R as bs->bJ R (a::as) (b::bs)
theorem bJ.imp {α β:Type}{R R':α->β->Prop}(f:∀a b,R a b->R' a b):∀ {as:List α} {bs:List β},bJ R as bs->bJ R' as bs
 |_,_,.nil=>.nil
 |_,_,.cons h t=>.cons (f _ _ h) (t.imp f)
def LstAt (i:Nat)(c:Col)(H:Hp)(r:Rl)(a:Addr)(xs:List V):Prop:=c a=some (i,r)/\H a=some (.lst xs)
def jy (i:Nat)(c:Col)(H:Hp)(r:Rl)(a:Addr)(xs:List (Nat×V)):Prop:=c a=some (i,r)/\H a=some (.dK (a9 xs))
def chF (v0 v1 v2 v3 v4 v5 v6 v7 v8 v9:V):List (Str×V):=[(ar "seats",v0),(ar "sitting",v1),(ar "closed",v2),(ar "made",v3),(ar "pile",v4),(ar "aside",v5),(ar "decided",v6),(ar "first_texts",v7),(ar "edits_kept",v8),(ar "rows",v9)]
abbrev Ml (i:Nat)(c:Col)(H:Hp)(x:Nat×Int×List Nat)(v:V):Prop:=∃t p,v=.ref t/\TupAt c H t [.int x.2.1,.ref p]/\LstAt i c H (.e9 x.1) p (x.2.2.map nV)
abbrev Fb (i:Nat)(c:Col)(H:Hp)(x:Nat×List Str)(v:V):Prop:=∃p,v=.ref p/\LstAt i c H (.cY x.1) p (x.2.map V.str)
abbrev Mm (i:Nat)(c:Col)(H:Hp)(x:Nat×List Ed)(v:V):Prop:=∃p ts,v=.ref p/\LstAt i c H (.gM x.1) p (ts.map V.ref)/\bJ (λe t=>TupAt c H t (gv e)) x.2 ts
structure ChX (A:Adr)(i:Nat)(c:Col)(H:Hp)(o:Addr)(st:Ch)(dx aM aP aA aD aF aE aR:Addr)(ms ds:List Addr)(ws fs es:List V):Prop where
 co:c o=some (i,.ob)
 ob:H o=some (.ins A.ax dx (chF (.int st.cJ) (.int st.aN) (.bl st.closed) (.ref aM) (.ref aP) (.ref aA) (.ref aD) (.ref aF) (.ref aE) (.ref aR)))
 made:jy i c H .made aM ((aj9 1 st.made.length).zip (ms.map V.ref))
 mot:bJ (λm p=>mG A c H m p) st.made ms
 aw:LstAt i c H .aw aP (st.aw.map nV)
 az:jy i c H .az aA ((st.az.map (·.1)).zip ws)
 wait:bJ (Ml i c H) st.az ws
 dec:LstAt i c H .decided aD (ds.map V.ref)
 lN:bJ (λ(x:Nat×Str) t=>TupAt c H t [nV x.1,.str x.2]) st.decided ds
 firsts:jy i c H .firsts aF ((st.firsts.map (·.1)).zip fs)
 first:bJ (Fb i c H) st.firsts fs
 kQ:jy i c H .kept aE ((st.kept.map (·.1)).zip es)
 kept:bJ (Mm i c H) st.kept es
 rows:LstAt i c H .rows aR (st.rows.map V.str)
structure fK (A:Adr)(i:Nat)(c:Col)(H:Hp)(o:Addr)(st:Ch):Prop where
 ex:∃(dx aM aP aA aD aF aE aR:Addr) (ms ds:List Addr) (ws fs es:List V),ChX A i c H o st dx aM aP aA aD aF aE aR ms ds ws fs es
theorem LstAt.keep {i:Nat}{W:Option (Nat×Rl)->Prop}{c c':Col}{H H':Hp}{r:Rl}{a:Addr}{xs:List V}(n:¬W (some (i,r)))(s:Step W c c' H H')(h:LstAt i c H r a xs):LstAt i c' H' r a xs:=by
 have hn:¬W (c a):=by rw[h.1];exact n
 exact⟨by rw[s.col a _ h.2 hn];exact h.1,s.keep _ _ h.2 hn⟩
theorem jy.keep {i:Nat}{W:Option (Nat×Rl)->Prop}{c c':Col}{H H':Hp}{r:Rl}{a:Addr}{xs:List (Nat×V)}(n:¬W (some (i,r)))(s:Step W c c' H H')(h:jy i c H r a xs):jy i c' H' r a xs:=by
 have hn:¬W (c a):=by rw[h.1];exact n
 exact⟨by rw[s.col a _ h.2 hn];exact h.1,s.keep _ _ h.2 hn⟩
section
variable{A:Adr}{i:Nat}{p:Rl->Bool}{r:Rl}{c c':Col}{H H':Hp}{a o:Addr}
theorem LstAt.kp {xs:List V}(h:p r=false)(s:Step (Wr i p) c c' H H')(z:LstAt i c H r a xs):LstAt i c' H' r a xs:=z.keep (Wr.no h) s
theorem jy.kp {xs:List (Nat×V)}(h:p r=false)(s:Step (Wr i p) c c' H H')(z:jy i c H r a xs):jy i c' H' r a xs:=z.keep (Wr.no h) s
theorem bJ.imp_mem {α β:Type}{R R':α->β->Prop}:∀ {as:List α} {bs:List β},(∀a∈as,∀b,R a b->R' a b)->bJ R as bs->bJ R' as bs
 |_,_,_,.nil=>.nil
 |_,_,f,.cons h t=>.cons (f _ gn _ h) (t.imp_mem λa m b=>f a (kq _ m) b)
theorem sf {as:List Mn}{ms:List Addr}{W:Option (Nat×Rl)->Prop}(s:Step W c c' H H')(z:bJ (λm p=>mG A c H m p) as ms):bJ (λm p=>mG A c' H' m p) as ms:=z.imp λ_ _ y=>y.step s
theorem jm {as:List (Nat×Str)}{ds:List Addr}{W:Option (Nat×Rl)->Prop}(s:Step W c c' H H')(z:bJ (λ(x:Nat×Str) t=>TupAt c H t [nV x.1,.str x.2]) as ds):bJ (λ(x:Nat×Str) t=>TupAt c' H' t [nV x.1,.str x.2]) as ds:=z.imp λ_ _ y=>y.step s
theorem kR {as:List (Nat×Int×List Nat)}{ws:List V}(h:∀x∈as,p (.e9 x.1)=false)(s:Step (Wr i p) c c' H H')(z:bJ (Ml i c H) as ws):bJ (Ml i c' H') as ws :=
 z.imp_mem λx m v ⟨t,q,e,z1,z2⟩=>⟨t,q,e,z1.step s,z2.kp (h x m) s⟩
theorem ug {as:List (Nat×List Str)}{ws:List V}(h:∀x∈as,p (.cY x.1)=false)(s:Step (Wr i p) c c' H H')(z:bJ (Fb i c H) as ws):bJ (Fb i c' H') as ws :=
 z.imp_mem λx m v ⟨q,e,z2⟩=>⟨q,e,z2.kp (h x m) s⟩
theorem vZ {as:List (Nat×List Ed)}{ws:List V}(h:∀x∈as,p (.gM x.1)=false)(s:Step (Wr i p) c c' H H')(z:bJ (Mm i c H) as ws):bJ (Mm i c' H') as ws :=
 z.imp_mem λx m v ⟨q,ts,e,z2,z3⟩=>⟨q,ts,e,z2.kp (h x m) s,z3.imp λ_ _ y=>y.step s⟩
end
theorem fK.other {A:Adr}{i j:Nat}(n:i≠j){c c':Col}{H H':Hp}{o:Addr}{st:Ch}(s:Step (dZ j) c c' H H')(h:fK A i c H o st):fK A i c' H' o st:=by
 obtain⟨dx,aM,aP,aA,aD,aF,aE,aR,ms,ds,ws,fs,es,h1,h2,h3,h4,h5,h6,h7,h8,h9,h10,h11,h12,h13,h14⟩:=h.ex;have no:=λr=>BK n r
 have hn:¬dZ j (c o):=by rw[h1];exact no _
 refine⟨dx,aM,aP,aA,aD,aF,aE,aR,ms,ds,ws,fs,es,by rw[s.col o _ h2 hn];exact h1,s.keep _ _ h2 hn,h3.keep (no _) s,h4.imp λ_ _ z=>z.step s,h5.keep (no _) s,h6.keep (no _) s,h7.imp ?_,h8.keep (no _) s,h9.imp λ_ _ z=>z.step s,
  h10.keep (no _) s,h11.imp ?_,h12.keep (no _) s,h13.imp ?_,h14.keep (no _) s⟩
 ·rintro x v ⟨t,p,e,z1,z2⟩;exact⟨t,p,e,z1.step s,z2.keep (no _) s⟩
 ·rintro x v ⟨p,e,z⟩;exact⟨p,e,z.keep (no _) s⟩
 ·rintro x v ⟨p,ts,e,z1,z2⟩;exact⟨p,ts,e,z1.keep (no _) s,z2.imp λ_ _ y=>y.step s⟩
end My
set_option maxHeartbeats 1000000
namespace My
open PySem L2
seal PySem.wpAny
section
variable{v0 v1 v2 v3 v4 v5 v6 v7 v8 v9 y:V}
theorem M9:(chF v0 v1 v2 v3 v4 v5 v6 v7 v8 v9).lookup (ar "seats")=some v0:=by simp only[chF,ako,show (ar "seats" == ar "seats")=true from by decide +kernel]
theorem iW:(chF v0 v1 v2 v3 v4 v5 v6 v7 v8 v9).lookup (ar "sitting")=some v1:=by simp only[chF,ako,show (ar "sitting" == ar "seats")=false from by decide +kernel,show (ar "sitting" == ar "sitting")=true from by decide +kernel]
theorem qu:(chF v0 v1 v2 v3 v4 v5 v6 v7 v8 v9).lookup (ar "closed")=some v2:=by simp only[chF,ako,show (ar "closed" == ar "seats")=false from by decide +kernel,show (ar "closed" == ar "sitting")=false from by decide +kernel,show (ar "closed" == ar "closed")=true from by decide +kernel]
theorem ip:(chF v0 v1 v2 v3 v4 v5 v6 v7 v8 v9).lookup (ar "made")=some v3:=by simp only[chF,ako,show (ar "made" == ar "seats")=false from by decide +kernel,show (ar "made" == ar "sitting")=false from by decide +kernel,show (ar "made" == ar "closed")=false from by decide +kernel,show (ar "made" == ar "made")=true from by decide +kernel]
theorem fb:(chF v0 v1 v2 v3 v4 v5 v6 v7 v8 v9).lookup (ar "pile")=some v4:=by simp only[chF,ako,show (ar "pile" == ar "seats")=false from by decide +kernel,show (ar "pile" == ar "sitting")=false from by decide +kernel,show (ar "pile" == ar "closed")=false from by decide +kernel,show (ar "pile" == ar "made")=false from by decide +kernel,show (ar "pile" == ar "pile")=true from by decide +kernel]
theorem jP:(chF v0 v1 v2 v3 v4 v5 v6 v7 v8 v9).lookup (ar "aside")=some v5:=by simp only[chF,ako,show (ar "aside" == ar "seats")=false from by decide +kernel,show (ar "aside" == ar "sitting")=false from by decide +kernel,show (ar "aside" == ar "closed")=false from by decide +kernel,show (ar "aside" == ar "made")=false from by decide +kernel,show (ar "aside" == ar "pile")=false from by decide +kernel,show (ar "aside" == ar "aside")=true from by decide +kernel]
theorem yD:(chF v0 v1 v2 v3 v4 v5 v6 v7 v8 v9).lookup (ar "decided")=some v6:=by simp only[chF,ako,show (ar "decided" == ar "seats")=false from by decide +kernel,show (ar "decided" == ar "sitting")=false from by decide +kernel,show (ar "decided" == ar "closed")=false from by decide +kernel,show (ar "decided" == ar "made")=false from by decide +kernel,show (ar "decided" == ar "pile")=false from by decide +kernel,show (ar "decided" == ar "aside")=false from by decide +kernel,show (ar "decided" == ar "decided")=true from by decide +kernel]
theorem yY:(chF v0 v1 v2 v3 v4 v5 v6 v7 v8 v9).lookup (ar "first_texts")=some v7:=by simp only[chF,ako,show (ar "first_texts" == ar "seats")=false from by decide +kernel,show (ar "first_texts" == ar "sitting")=false from by decide +kernel,show (ar "first_texts" == ar "closed")=false from by decide +kernel,show (ar "first_texts" == ar "made")=false from by decide +kernel,show (ar "first_texts" == ar "pile")=false from by decide +kernel,show (ar "first_texts" == ar "aside")=false from by decide +kernel,show (ar "first_texts" == ar "decided")=false from by decide +kernel,show (ar "first_texts" == ar "first_texts")=true from by decide +kernel]
theorem sg:(chF v0 v1 v2 v3 v4 v5 v6 v7 v8 v9).lookup (ar "edits_kept")=some v8:=by simp only[chF,ako,show (ar "edits_kept" == ar "seats")=false from by decide +kernel,show (ar "edits_kept" == ar "sitting")=false from by decide +kernel,show (ar "edits_kept" == ar "closed")=false from by decide +kernel,show (ar "edits_kept" == ar "made")=false from by decide +kernel,show (ar "edits_kept" == ar "pile")=false from by decide +kernel,show (ar "edits_kept" == ar "aside")=false from by decide +kernel,show (ar "edits_kept" == ar "decided")=false from by decide +kernel,show (ar "edits_kept" == ar "first_texts")=false from by decide +kernel,show (ar "edits_kept" == ar "edits_kept")=true from by decide +kernel]
theorem wb:(chF v0 v1 v2 v3 v4 v5 v6 v7 v8 v9).lookup (ar "rows")=some v9:=by simp only[chF,ako,show (ar "rows" == ar "seats")=false from by decide +kernel,show (ar "rows" == ar "sitting")=false from by decide +kernel,show (ar "rows" == ar "closed")=false from by decide +kernel,show (ar "rows" == ar "made")=false from by decide +kernel,show (ar "rows" == ar "pile")=false from by decide +kernel,show (ar "rows" == ar "aside")=false from by decide +kernel,show (ar "rows" == ar "decided")=false from by decide +kernel,show (ar "rows" == ar "first_texts")=false from by decide +kernel,show (ar "rows" == ar "edits_kept")=false from by decide +kernel,show (ar "rows" == ar "rows")=true from by decide +kernel]
theorem Gu:gx (ar "sitting") y (chF v0 v1 v2 v3 v4 v5 v6 v7 v8 v9)=chF v0 y v2 v3 v4 v5 v6 v7 v8 v9:=by
 unfold chF;simp only[gx];rw[if_neg (by decide +kernel),if_pos trivial]
theorem BL:gx (ar "closed") y (chF v0 v1 v2 v3 v4 v5 v6 v7 v8 v9)=chF v0 v1 y v3 v4 v5 v6 v7 v8 v9:=by
 unfold chF;simp only[gx];rw[if_neg (by decide +kernel),if_neg (by decide +kernel),if_pos trivial]
theorem Gv:gx (ar "pile") y (chF v0 v1 v2 v3 v4 v5 v6 v7 v8 v9)=chF v0 v1 v2 v3 y v5 v6 v7 v8 v9:=by
 unfold chF;simp only[gx];rw[if_neg (by decide +kernel),if_neg (by decide +kernel),if_neg (by decide +kernel),if_neg (by decide +kernel),if_pos trivial]
end
def xM (A:Adr)(i:Nat):Sp:=λvs H Q E=>∃(o:Addr) (c:Col) (st:Ch),vs=[.ref o]/\fK A i c H o st/\(st.aw≠[]->Q .non H)/\(st.aw=[]->E (.ref A.du) none H)
section
variable{P:rf}{w:World}{K:ba}{mg:Str->Option Value}{base:Heap}{A:Adr}
theorem mH (T:Txt w.params K mg A){i:Nat}:aJ P w K mg base (CXX P w) 1 A.bf A.bW ["self"] (xM A i):=by
 refine T.cc.okX l9 (λvs H Q E h=>?_) (λcdv A' outer s H vs Q E hr h=>?_)
 ·obtain⟨o,c,st,rfl,_⟩:=h;rfl
 ·obtain⟨o,c,st,rfl,hc,q1,q2⟩:=h;obtain⟨dx,aM,aP,aA,aD,aF,aE,aR,ms,ds,ws,fs,es,h1,h2,h3,h4,h5,h6,h7,h8,h9,h10,h11,h12,h13,h14⟩:=hc.ex;refine⟨_,(bE (hX (rq (rB (bq (pv 0) rfl) (λ_=>rfl)))
 (bE (jD T.Bx rfl rfl T.xC (aa ao ag)))
 (vn aH))),?_⟩
  refine fj rfl h2 T.au T.jq0 fb ?_;refine⟨_,.inl ⟨_,.inl (.inl h5.2),rfl⟩,?_⟩;cases e:st.aw with
  |nil=>exact dM ⟨by decide,q2 e⟩
  |cons x r=>exact bw (q1 (by rw[e];exact aj5 _ _))
end
end My
set_option maxHeartbeats 1000000
namespace My
open PySem L2
seal PySem.wpAny
theorem bJ.len {α β:Type}{R:α->β->Prop}:∀ {as:List α} {bs:List β},bJ R as bs->as.length=bs.length
 |_,_,.nil=>rfl
 |_,_,.cons _ t=>by rw[ajK,ajK,t.len]
theorem bJ.get {α β:Type}{R:α->β->Prop}:∀ {as:List α} {bs:List β} {i:Nat} {a:α},bJ R as bs->as[i]?=some a->∃b,bs[i]?=some b/\R a b
 |_,_,_,_,.nil,h=>by simp at h
 |_,_,0,_,.cons h t,e=>by
  rw[aj8]at e;cases e;exact⟨_,aj8,h⟩
 |_,_,i+1,_,.cons h t,e=>by
  rw[ake]at e;obtain⟨b,e1,e2⟩:=t.get e;exact⟨b,by rw[ake];exact e1,e2⟩
theorem BM:∀(ms:List Addr) (s k:Nat) {o:Addr},ms[k]?=some o->gQ (a9 ((aj9 s ms.length).zip (ms.map V.ref))) (km ((s+k:Nat):Int))=some (.ref o)
 |[],_,_,_,h=>by simp at h
 |m::ms,s,0,o,h=>by
  rw[aj8]at h;cases h;exact eR (p:=(km ((s:Nat):Int),V.ref m)) rfl
 |m::ms,s,k+1,o,h=>by
  rw[ake]at h;have ih:=BM ms (s+1) k h;have e:s+(k+1)=s+1+k:=by omega
  rw[e];refine(bP (p:=(km ((s:Nat):Int),V.ref m)) ?_).trans ih;intro z;have z':((s:Nat):Int)=((s+1+k:Nat):Int):=Sum.inl.inj z;omega
def Ch.mo (st:Ch)(n:Nat):Mn:=st.made.getD (n - 1) .cls
def dC (st:Ch)(n:Nat):Prop:=1<=n/\n<=st.made.length
def xN (A:Adr)(i:Nat):Sp:=λvs H Q _=>∃(o:Addr) (c:Col) (st:Ch),vs=[.ref o]/\fK A i c H o st/\(∀n∈st.aw,dC st n)/\st.aw.length<=1000 /\
 ∀R os,H R=none->bJ (λn m=>mG A c H (st.mo n) m) st.aw os->Q (.ref R) (upd H R (.lst (os.map V.ref)))
theorem Mo {A:Adr}{c:Col}{H:Hp}{st:Ch}{ms:List Addr}(h:bJ (λm p=>mG A c H m p) st.made ms):∀(ns:List Nat),(∀n∈ns,dC st n)->bJ (λn m=>mG A c H (st.mo n) m) ns (ns.map λn=>ms.getD (n - 1) 0)
 |[],_=>.nil
 |n::ns,g=>by
  have hn:=g n gn;have hlt:n - 1 < st.made.length:=by have:=hn.1;have:=hn.2;omega
  obtain⟨b,e1,e2⟩:=h.get (wa hlt);refine .cons ?_ (Mo h ns λn hn=>g n (kq _ hn))
  have e3:st.mo n=st.made[n - 1]:=by unfold Ch.mo;rw[ajO,wa hlt];rfl
  have e4:ms.getD (n - 1) 0=b:=by rw[ajO,e1];rfl
  show mG A c H (st.mo n) (ms.getD (n - 1) 0);rw[e3,e4];exact e2
section
variable{P:rf}{w:World}{K:ba}{mg:Str->Option Value}{base:Heap}{A:Adr}
theorem BN (T:Txt w.params K mg A){i:Nat}:aJ P w K mg base CX0 1 A.bG A.dY ["self"] (xN A i):=by
 refine T.eD.ok ur (λvs H Q E h=>?_) (λcdv A' outer s H vs Q E hr h=>?_)
 ·obtain⟨o,c,st,rfl,_⟩:=h;rfl
 ·obtain⟨o,c,st,rfl,hc,hp,hpl,q⟩:=h;obtain⟨dx,aM,aP,aA,aD,aF,aE,aR,ms,ds,ws,fs,es,h1,h2,h3,h4,h5,h6,h7,h8,h9,h10,h11,h12,h13,h14⟩:=hc.ex;have hu1:=hr.u1;refine⟨_,(aj (aI (Ab (scope:=jw) rG rfl (tq (bq (pv 0) rfl)) (λ_ _ _ _ _=>(aY hu1 (R8 (K:=K) rfl (pv 1) rfl) (pv 0) (λ_ _=>rfl)))))),?_⟩
  have ml:=h4.len;refine fj rfl h2 T.au T.jq0 fb ?_;have hB:SqL K H aP (st.aw.map nV):=SqL.of h5.2;refine⟨aP,rfl,⟨_,hB⟩,λR hR=>?_⟩
  have sR:∀ {o:HO},bA H (upd H R o):=aC hR;refine w9 (K:=K) (a:=aP) (xs:=st.aw.map nV) (λi ys H2=>ys=((st.aw.take i).map λn=>V.ref (ms.getD (n - 1) 0))/\H2=upd H R (.lst ys)) ⟨rfl,rfl⟩ (by rw[cb,sizeLine_eq];omega) ?_ ?_ ?_
  ·rintro i ys H2 hi ⟨rfl,rfl⟩;rw[cb]at hi;exact⟨sR.seq hB,ae,by rw[cb,akm];omega⟩
  ·rintro i y ys H2 hy ⟨rfl,rfl⟩;refine hide λGg hGg=>?_
   obtain⟨n,hn1,rfl⟩:∃n,st.aw[i]?=some n/\nV n=y:=by
    rw[aj7]at hy;cases ht:st.aw[i]? with
    |none=>rw[ht]at hy;cases hy
    |some t=>rw[ht]at hy;exact⟨t,rfl,ajP hy⟩
   have hn:=hp n (aka hn1);have hlt:n - 1 < ms.length:=by have:=hn.1;have:=hn.2;omega
   have hm:ms[n - 1]?=some (ms.getD (n - 1) 0):=by rw[ajO,wa hlt];rfl
   have hv:=BM ms 1 (n - 1) hm;rw[<-ml,show 1+(n - 1)=n by have:=hn.1;omega]at hv
   refine hGg ?_;refine fj rfl (sR _ _ h2) T.au T.jq2 ip ?_;refine⟨_,rfl,aM,_,rfl,.inl ⟨_,km (n:Int),.inl (sR _ _ h3.2),rfl,hv.symm⟩,?_⟩;refine ib.mk (List.getElem?_eq_some_iff.mp hy).1 ae ⟨?_,by rw[nc]⟩
   rw[List.take_succ,hn1,kx];rfl
  ·rintro ys H2 ⟨rfl,rfl⟩;rw[cb,ak7];have:=q R _ hR (Mo h4 st.aw hp);rw[List.map_map]at this;exact this
end
end My
set_option maxHeartbeats 1000000
namespace My
open PySem L2
seal PySem.wpAny
theorem bJ.snoc {α β:Type}{R:α->β->Prop}:∀ {as:List α} {bs:List β} {a:α} {b:β},bJ R as bs->R a b->bJ R (as++[a]) (bs++[b])
 |_,_,_,_,.nil,h=>.cons h .nil
 |_,_,_,_,.cons g t,h=>.cons g (t.snoc h)
def BO (A:Adr)(i:Nat):Sp:=λvs H Q _=>∃(o:Addr) (wd:Str) (c:Col) (st:Ch) (pre:List Nat) (n:Nat),vs=[.ref o,.str wd]/\fK A i c H o st/\st.aw=pre++[n]/\st.aw.length<=1000/\st.decided.length<=1000 /\
 ∀c' H',Step (dZ i) c c' H H'->fK A i c' H' o { st with aw:=pre,decided:=st.decided++[(n,wd)] }->Q .non H'
section
variable{P:rf}{w:World}{K:ba}{mg:Str->Option Value}{base:Heap}{A:Adr}
theorem DM (T:Txt w.params K mg A){i:Nat}:aJ P w K mg base CX0 1 A.bH A.eA ["self","word"] (BO A i):=by
 refine T.eY.ok vw (λvs H Q E h=>?_) (λcdv A' outer s H vs Q E hr h=>?_)
 ·obtain⟨o,wd,c,st,pre,n,rfl,_⟩:=h;rfl
 ·obtain⟨o,wd,c,st,pre,n,rfl,hc,hp,hpl,hdl,q⟩:=h;obtain⟨dx,aM,aP,aA,aD,aF,aE,aR,ms,ds,ws,fs,es,h1,h2,h3,h4,h5,h6,h7,h8,h9,h10,h11,h12,h13,h14⟩:=hc.ex;refine⟨_,(aj (bN (gB om ajQ ajR dq (bq (pv 0) rfl) (aa (bg (aa (Oz om PySem.F.slot_list_pop PySem.F.type_list_pop OD (bq (pv 0) rfl)) (aa (pv 1) ag))) ag)))),?_⟩;refine fj rfl h2 T.au T.jqc yD ?_;have hy:(st.aw.map nV)[(st.aw.map nV).length - 1]?=some (nV n):=by rw[hp];simp
  have hdr:(st.aw.map nV).dropLast=pre.map nV:=by rw[hp,kx];simp
  have nPD:aD≠aP:=λz=>by have:=h8.1;rw[z,h5.1]at this;cases this
  refine⟨.inl ⟨rfl,_,SqL.of h8.2⟩,fj rfl h2 T.au T.jq0 fb ?_⟩;refine⟨.inl ⟨rfl,_,SqL.of h5.2⟩,aP,_,_,rfl,rfl,h5.2,hy,_,rfl,(sl 2),λp hp0=>?_⟩
  have np:∀ {a:Addr} {v:HO},H a=some v->a≠p:=by
   intro a v e z;subst z
   by_cases y:a=aP
   ·subst y;rw[ae]at hp0;cases hp0
   ·rw[aq y,e]at hp0;cases hp0
  have nn:¬(λx=>x=some (i,Rl.aw)\/x=some (i,Rl.decided)) (none:Option (Nat×Rl)):=by rintro (z | z) <;> cases z
  refine⟨aD,_,_,rfl,rfl,(aq (np h8.2)).trans ((aq nPD).trans h8.2),?_,?_⟩
  ·rw[cb,<-h9.len,sizeLine_eq];omega
  have sp:Step (λx=>x=some (i,Rl.aw)\/x=some (i,Rl.decided)) c (ay c p none) H (upd (upd (upd H aP (.lst (st.aw.map nV).dropLast)) p (.tup [nV n,.str wd])) aD (.lst (ds.map V.ref++[.ref p]))) :=
   ((Step.upd nn (.inl h5.1)).trans (Step.new nn hp0)).trans (Step.upd nn (.inr (by rw[av (np h8.2)];exact h8.1)))
  have ht:TupAt (ay c p none) (upd (upd (upd H aP (.lst (st.aw.map nV).dropLast)) p (.tup [nV n,.str wd])) aD (.lst (ds.map V.ref++[.ref p]))) p [nV n,.str wd] :=
   ⟨aV,.inl ((aq (np h8.2).symm).trans ae)⟩
  have kp:LstAt i (ay c p none) (upd (upd (upd H aP (.lst (st.aw.map nV).dropLast)) p (.tup [nV n,.str wd])) aD (.lst (ds.map V.ref++[.ref p]))) .aw aP (pre.map nV) :=
   ⟨by rw[av (np h5.2)];exact h5.1,by rw[aq nPD.symm,aq (np h5.2),ae,hdr]⟩
  have kd:LstAt i (ay c p none) (upd (upd (upd H aP (.lst (st.aw.map nV).dropLast)) p (.tup [nV n,.str wd])) aD (.lst (ds.map V.ref++[.ref p]))) .decided aD ((ds++[p]).map V.ref) :=
   ⟨by rw[av (np h8.2)];exact h8.1,by rw[ae,kx];rfl⟩
  generalize upd (upd (upd H aP (.lst (st.aw.map nV).dropLast)) p (.tup [nV n,.str wd])) aD (.lst (ds.map V.ref++[.ref p]))=H' at sp ht kp kd ⊢;generalize ay c p none=c' at sp ht kp kd;have no:∀r,r≠Rl.aw->r≠Rl.decided->¬(λx=>x=some (i,Rl.aw)\/x=some (i,Rl.decided)) (some (i,r)):=λr y1 y2=>by
   rintro (z | z)
   ·cases z;exact y1 rfl
   ·cases z;exact y2 rfl
  have hno:=no .ob (λz=>nomatch z) (λz=>nomatch z)
  refine q c' H' (sp.mono (by rintro x (z | z) <;> exact⟨_,z⟩) aO) ⟨dx,aM,aP,aA,aD,aF,aE,aR,ms,ds++[p],ws,fs,es,by rw[sp.col o _ h2 (by rw[h1];exact hno)];exact h1,sp.keep _ _ h2 (by rw[h1];exact hno),
   h3.keep (no .made (λz=>nomatch z) (λz=>nomatch z)) sp,h4.imp λ_ _ z=>z.step sp,kp,h6.keep (no .az (λz=>nomatch z) (λz=>nomatch z)) sp,h7.imp ?_,kd,(h9.imp λ_ _ z=>z.step sp).snoc ht,
   h10.keep (no .firsts (λz=>nomatch z) (λz=>nomatch z)) sp,h11.imp ?_,h12.keep (no .kept (λz=>nomatch z) (λz=>nomatch z)) sp,h13.imp ?_,h14.keep (no .rows (λz=>nomatch z) (λz=>nomatch z)) sp⟩
  ·rintro x v ⟨t,a,e,z1,z2⟩;exact⟨t,a,e,z1.step sp,z2.keep (no (.e9 x.1) (λz=>nomatch z) (λz=>nomatch z)) sp⟩
  ·rintro x v ⟨a,e,z⟩;exact⟨a,e,z.keep (no (.cY x.1) (λz=>nomatch z) (λz=>nomatch z)) sp⟩
  ·rintro x v ⟨a,ts,e,z1,z2⟩;exact⟨a,ts,e,z1.keep (no (.gM x.1) (λz=>nomatch z) (λz=>nomatch z)) sp,z2.imp λ_ _ y=>y.step sp⟩
end
end My
set_option maxHeartbeats 1000000
namespace My
open PySem L2
seal PySem.wpAny
inductive Xc where
 |sj (b:Int) | mI | noChange | noFit | mJ (n:Int) | nothing | tooMany | tX | BP (n:Int) | pJ
def Xc.At (A:Adr)(H:Hp):Xc->Value->Option Addr->Prop
 | .sj b,C,d=>C=.ref A.cT/\∃a,d=some a/\H a=some (.xd [(ar "bar",.int b)])
 | .mI,C,d=>C=.ref A.cW/\d=none
 | .noChange,C,d=>C=.ref A.cX/\d=none
 | .noFit,C,d=>C=.ref A.fE/\d=none
 | .mJ n,C,d=>C=.ref A.bX/\∃a,d=some a/\H a=some (.xd [(ar "sitting",.int n)])
 | .nothing,C,d=>C=.ref A.du/\d=none
 | .tooMany,C,d=>C=.ref A.dR/\d=none
 | .tX,C,d=>C=.ref A.dS/\d=none
 | .BP n,C,d=>C=.ref A.dh/\∃a,d=some a/\H a=some (.xd [(ar "sitting",.int n)])
 | .pJ,C,d=>C=.ref A.qh/\d=none
def Xc.New (A:Adr)(H H':Hp)(x:Xc)(C:Value)(d:Option Addr):Prop:=x.At A H' C d/\∀a,d=some a->H a=none
theorem same_none {H H':Hp}(s:bA H H'){a:Addr}(h:H' a=none):H a=none:=by
 cases z:H a with
 |none=>rfl
 |some v=>rw[s _ _ z]at h;cases h
theorem l5 {i:Int}(h0:-10000000000 < i)(h1:i < 10000000000):i.natAbs.log2 < 1920:=by
 have h:i.natAbs < 2 ^ 34:=by
  have:(10000000000:Int)<=2 ^ 34:=by decide
  omega
 by_cases hz:i.natAbs=0
 ·rw[hz];decide
 ·exact Nat.lt_trans ((Nat.log2_lt hz).mpr h) (by decide)
theorem xO {i:Int}(h0:0<=i)(h1:i < 10000000000):(ar (toString i)).length<=20 :=
 ajI (PyProof.Rows.toString_length_le h0 (by decide:(1:Nat)<=11) (by show i < (10:Int) ^ 11;omega)) (by decide)
theorem pK {i:Int}(h0:0<=i)(h1:i < 10000000000):∃z,Eu (.int i) z/\z.length<=10000 :=
 ⟨_,.int (l5 (by omega) h1),ajI (xO h0 h1) (by decide)⟩
def qX (ms:List Mn):Int:=match ms.getLast? with
 |none=>-1
 |some m=>(m.k:Int)
def nY (cl:Bool)(ms:List Mn):Int:=if cl=true then (if (4:Int) > qX ms then 4 else qX ms) else qX ms
def t7 (ms:List Mn):Bool:=ms.any λm=>decide (m.k=0)
def fL (ms:List Mn):Bool:=match ms.getLast? with
 |some (.chg e)=>!decide (e.k=1)
 |_=>false
def sv (ms:List Mn)(k:Nat):Bool:=if k=2 then fL ms else if k=1\/k=3\/k=4\/k=5 then t7 ms else true
def sx (cl:Bool)(ms:List Mn)(k:Nat):Option Xc :=
 if (k:Int)<=nY cl ms then some (.sj (nY cl ms)) else if sv ms k=true then none else if t7 ms=true then some .noChange else some .mI
theorem P2 (ms:List Mn):-1<=qX ms/\qX ms < 8:=by
 unfold qX;split
 ·omega
 ·rename_i m _;have:=m.k8;omega
theorem BQ (cl:Bool)(ms:List Mn):-1<=nY cl ms/\nY cl ms < 8:=by
 have:=P2 ms;unfold nY;split
 ·split <;> omega
 ·omega
def wc (A:Adr)(K:ba)(c:Col)(H:Hp)(B:Addr)(ms:List Mn)(os:List Addr):Prop:=SqL K H B (os.map V.ref)/\bJ (λm p=>mG A c H m p) ms os
theorem mG.same {A:Adr}{c:Col}{H H':Hp}{m:Mn}{o:Addr}(s:bA H H')(h:mG A c H m o):mG A c H' m o:=h.step (Step.same (W:=λ_=>False) id s)
theorem wc.same {A:Adr}{K:ba}{c:Col}{H H':Hp}{B:Addr}{ms:List Mn}{os:List Addr}(s:bA H H')(h:wc A K c H B ms os):wc A K c H' B ms os:=⟨s.seq h.1,h.2.imp λ_ _ y=>y.same s⟩
def P4 (A:Adr)(K:ba):Sp:=λvs H Q _=>∃(B:Addr) (cl:Bool) (c:Col) (ms:List Mn) (os:List Addr),vs=[.ref B,.bl cl]/\wc A K c H B ms os/\Q (.int (nY cl ms)) H
def P5 (A:Adr)(K:ba):Sp:=λvs H Q _=>∃(B:Addr) (c:Col) (ms:List Mn) (os:List Addr),vs=[.ref B]/\wc A K c H B ms os/\ms.length<=1000/\∀H',bA H H'->Q (.bl (t7 ms)) H'
def P6 (A:Adr)(K:ba):Sp:=λvs H Q _=>∃(B:Addr) (c:Col) (ms:List Mn) (os:List Addr),vs=[.ref B]/\wc A K c H B ms os/\∀H',bA H H'->Q (.bl (fL ms)) H'
def Mp (A:Adr)(K:ba):Sp:=λvs H Q _=>∃(k:Nat) (B:Addr) (c:Col) (ms:List Mn) (os:List Addr),vs=[.str (nm k),.ref B]/\k < 8/\wc A K c H B ms os/\ms.length<=1000/\∀H',bA H H'->Q (.bl (sv ms k)) H'
def T7 (A:Adr)(K:ba):Sp:=λvs H Q E=>∃(k:Nat) (B:Addr) (cl:Bool) (c:Col) (ms:List Mn) (os:List Addr),vs=[.str (nm k),.ref B,.bl cl]/\k < 8/\wc A K c H B ms os/\ms.length<=1000 /\
 (sx cl ms k=none->∀H',bA H H'->Q .non H')/\∀x,sx cl ms k=some x->∀C d H',bA H H'->x.New A H H' C d->E C d H'
def Fc (A:Adr)(K:ba)(k:Nat):Sp:=λvs H Q E=>(k=0/\Md A K vs H Q E)\/J7 A k vs H Q E
theorem BR (pre:List Addr)(q:Addr):atI ((pre++[q]).map V.ref) (-1)=some (.ref q):=by
 rw[kx];exact i4 _ _
theorem BS:∀k,k < 8->decide (V.str (nm k)=V.str (ar "matter"))=decide (k=0):=by decide +kernel
theorem b9:∀k,k < 8->decide (V.str (nm k)=V.str (ar "change"))=decide (k=1):=by decide +kernel
theorem cg:∀k,k < 8->decide (V.str (nm k)=V.str (ar "mend"))=decide (k=2):=by decide +kernel
theorem gN:∀k,k < 8->decide (V.str (nm k)=V.str (ar "put off"))=decide (k=3):=by decide +kernel
theorem jn:∀k,k < 8->decide (V.str (nm k)=V.str (ar "close"))=decide (k=4):=by decide +kernel
theorem Fd:∀k,k < 8->decide (V.str (nm k)=V.str (ar "lay"))=decide (k=5):=by decide +kernel
theorem mK:∀k,k < 8->decide (V.str (nm k)=V.str (ar "rest"))=decide (k=6):=by decide +kernel
theorem d5:∀ {k:Nat} {v:V},atI (rowOf k v) 0=some (.str (nm k))
 | 0,_=>rfl
 | 1,_=>rfl
 | 2,_=>rfl
 | 3,_=>rfl
 | 4,_=>rfl
 | 5,_=>rfl
 | 6,_=>rfl
 | 7,_=>rfl
 |_+8,_=>rfl
theorem Fe:∀k,decide (V.str (kn k)=V.str (ar "cut"))=decide (k=1)
 | 0=>by decide +kernel
 | 1=>by decide +kernel
 |n+2=>by rw[decide_eq_false (show ¬n+2=1 by omega)];show decide (V.str (ar "turn")=_)=_;decide +kernel
theorem bJ.last {α β:Type}{R:α->β->Prop}{as:List α}{pre:List β}{b:β}(h:bJ R as (pre++[b])):∃as' a,as=as'++[a]/\bJ R as' pre/\R a b:=by
 induction pre generalizing as with
 |nil =>
  cases h with
  |cons h t=>cases t;exact⟨[],_,rfl,.nil,h⟩
 |cons x r ih =>
  cases h with
  |cons h t =>
   obtain⟨as',a,rfl,h1,h2⟩:=ih t;exact⟨_::as',a,rfl,.cons h h1,h2⟩
theorem pL (ms:List Mn)(m:Mn):qX (ms++[m])=(m.k:Int):=by unfold qX;rw[akp]
section
variable{P:rf}{w:World}{K:ba}{mg:Str->Option Value}{base:Heap}{A:Adr}
theorem yE (T:Txt w.params K mg A):aJ P w K mg base CX0 1 A.rN A.pB ["self","bar"] (CA A.cT "bar"):=by
 refine T.mz.ok A4 (λvs H Q E h=>?_) (λcdv A' outer s H vs Q E hr h=>?_)
 ·obtain⟨e,v,rfl,_⟩:=h;rfl
 ·obtain⟨e,v,rfl,hx,⟨z,fz,zl⟩,q⟩:=h;refine⟨_,(ai (bN (AM T.iE T.pG rfl T.jg (aa (pv 0) (aa (Dh (l8 (xc (pv 1) xb))) ag))))
 (aj (Ey T.pG (pv 0) (pv 1)))),?_⟩
  have sz:ka=16777216:=by decide
  have c5:(ar "barred by the bar ").length=18:=by decide +kernel
  have e5:(akc++ar "barred by the bar ":Str).length=18:=by decide +kernel
  refine⟨_,rfl,by rw[e5];omega,_,rfl,z,fz,by omega,by rw[len_app,e5];omega,by rw[len_app,e5];omega,e,_,rfl,hx,?_⟩
  exact⟨_,rfl,_,rfl,e,rfl,hx,λd hd=>q d hd⟩
theorem CM (T:Txt w.params K mg A):aJ P w K mg base CX0 1 A.qi A.nr ["self","sitting"] (CA A.bX "sitting"):=by
 refine T.jh.ok xl (λvs H Q E h=>?_) (λcdv A' outer s H vs Q E hr h=>?_)
 ·obtain⟨e,v,rfl,_⟩:=h;rfl
 ·obtain⟨e,v,rfl,hx,⟨z,fz,zl⟩,q⟩:=h;refine⟨_,(ai (bN (AM T.iE T.nB rfl T.jg (aa (pv 0) (aa (Dh (l8 (xc (pv 1) xb))) ag))))
 (aj (Ey T.nB (pv 0) (pv 1)))),?_⟩
  have sz:ka=16777216:=by decide
  have c5:(ar "not later than the sitting ").length=27:=by decide +kernel
  have e5:(akc++ar "not later than the sitting ":Str).length=27:=by decide +kernel
  refine⟨_,rfl,by rw[e5];omega,_,rfl,z,fz,by omega,by rw[len_app,e5];omega,by rw[len_app,e5];omega,e,_,rfl,hx,?_⟩
  exact⟨_,rfl,_,rfl,e,rfl,hx,λd hd=>q d hd⟩
theorem Gw (T:Txt w.params K mg A):aJ P w K mg base CX0 1 A.vH A.tS ["self","sitting"] (CA A.dh "sitting"):=by
 refine T.mC.ok A5 (λvs H Q E h=>?_) (λcdv A' outer s H vs Q E hr h=>?_)
 ·obtain⟨e,v,rfl,_⟩:=h;rfl
 ·obtain⟨e,v,rfl,hx,⟨z,fz,zl⟩,q⟩:=h;refine⟨_,(ai (bN (AM T.iE T.tW rfl T.jg (aa (pv 0) (aa (Dh (l8 (xc (pv 1) xb))) ag))))
 (aj (Ey T.tW (pv 0) (pv 1)))),?_⟩
  have sz:ka=16777216:=by decide
  have c5:(ar "aside until the sitting ").length=24:=by decide +kernel
  have e5:(akc++ar "aside until the sitting ":Str).length=24:=by decide +kernel
  refine⟨_,rfl,by rw[e5];omega,_,rfl,z,fz,by omega,by rw[len_app,e5];omega,by rw[len_app,e5];omega,e,_,rfl,hx,?_⟩
  exact⟨_,rfl,_,rfl,e,rfl,hx,λd hd=>q d hd⟩
theorem Gx (T:Txt w.params K mg A):∀k,k < 8->aJ P w K mg base CX0 2 (A.ft k) (A.ftd k) ["self"] (Fc A K k)
 | 0,_=>(PV T).imp λvs H Q E h=>h.elim (λz=>z.2) (λz=>absurd z.1 (by decide))
 | 1,h=>(qp T 1 h).imp λvs H Q E h=>h.elim (λz=>absurd z.1 (by decide)) id
 | 2,h=>(qp T 2 h).imp λvs H Q E h=>h.elim (λz=>absurd z.1 (by decide)) id
 | 3,h=>(qp T 3 h).imp λvs H Q E h=>h.elim (λz=>absurd z.1 (by decide)) id
 | 4,h=>(qp T 4 h).imp λvs H Q E h=>h.elim (λz=>absurd z.1 (by decide)) id
 | 5,h=>(qp T 5 h).imp λvs H Q E h=>h.elim (λz=>absurd z.1 (by decide)) id
 | 6,h=>(qp T 6 h).imp λvs H Q E h=>h.elim (λz=>absurd z.1 (by decide)) id
 | 7,h=>(qp T 7 h).imp λvs H Q E h=>h.elim (λz=>absurd z.1 (by decide)) id
 |n+8,h=>absurd h (by omega)
theorem DN (T:Txt w.params K mg A):aJ P w K mg base CX0 3 A.A9 A.pw ["pile","closed"] (P4 A K):=by
 have Wo:∀k,k < 8->aJ P w K mg base CX0 2 A.f_r A.Sb ["self"] (PR A):=λ_ _=>Sm T
 refine T.vI.ok Dl (λvs H Q E h=>?_) (λcdv A' outer s H vs Q E hr h=>?_)
 ·obtain⟨B,cl,c,ms,os,rfl,_⟩:=h;rfl
 ·obtain⟨B,cl,c,ms,os,rfl,⟨hB,ho⟩,q⟩:=h;have Sr:=hr;refine⟨_,(ai (aZ (i:=2) Dl.nd rfl (wt rfl) (FE (rB (pv 0) (λ_=>rfl)) (lP (n:=8) (Cf:=A.C) (aT bF (pv 0) (oJ jA af) (λ_ _=>rfl)) T.cl T.PH Wo Sr T.PK a7) (oJ jA af)))
 (ai (bb (p6 (pv 1))
 (aj (aI (ck (tw rfl) (by rfl) T.Gm El (aa (pv 2) (aa (Ec (v:=V.int 4) rfl T.vR ⟨_,rfl⟩) ag)))))
 aH)
 (aj (aI (pv 2))))),?_⟩
  unfold nY at q;rcases ajX os with h | ⟨pre,o,h⟩
  ·subst h;cases ho;refine⟨_,rfl,_,.inl ⟨_,hB,rfl⟩,bw ⟨_,rfl,?_⟩⟩;refine⟨_,rfl,_,rfl,?_⟩;cases cl with
   |true=>exact dM ⟨_,rfl,_,_,rfl,q⟩
   |false=>exact bw ⟨_,rfl,q⟩
  ·rw[ajY]at h;refine hide λGg hGg=>?_
   subst h;obtain⟨ms',m,rfl,_,_,dx,v,hm,_⟩:=ho.last;rw[pL]at q;refine hGg ?_;refine⟨_,rfl,_,.inl ⟨_,hB,rfl⟩,yo (by simp) ⟨_,rfl,_,rfl,B,_,_,_,rfl,rfl,hB,BR pre o,m.k,m.k8,o,dx,_,rfl,hm,Sk m.k v,o,m.k,dx,_,m.k8,rfl,hm,lJ m.k v,?_⟩⟩
   refine⟨_,rfl,_,rfl,?_⟩;cases cl with
   |true=>exact dM ⟨_,rfl,_,_,rfl,q⟩
   |false=>exact bw ⟨_,rfl,q⟩
theorem uh (T:Txt w.params K mg A):aJ P w K mg base CX0 2 A.mh A.ie ["pile"] (P5 A K):=by
 have gL:∀k,k < 8->aJ P w K mg base CX0 1 (A.fk k) (A.fkd k) ["self"] (gj k):=lK T;refine T.lH.ok CH (λvs H Q E h=>?_) (λcdv A' outer s H vs Q E hr h=>?_)
 ·obtain⟨B,c,ms,os,rfl,_⟩:=h;rfl
 ·obtain⟨B,c,ms,os,rfl,⟨hB,ho⟩,hl,q⟩:=h;have eG:=hr;refine⟨_,(aj (aI (ck (OP rfl) (by rfl) T.T5 VI (aa (Ab (scope:=oW) yT rfl (tq (pv 0)) (λ_ _ _ _ _=>(ng bu (lP (n:=8) (Cf:=A.C) (pv 0) T.cl T.nQ gL eG T.nR a7) ao (aK _)))) ag)))),?_⟩
  have lim:ka=16777216:=by decide
  have ol:=ho.len;refine⟨_,rfl,B,rfl,⟨_,hB⟩,λR hR=>?_⟩
  have sR:∀ {o:HO},bA H (upd H R o):=aC hR;refine w9 (K:=K) (a:=B) (xs:=os.map V.ref) (λi ys H2=>ys=(ms.take i).map (λm=>V.bl (decide (m.k=0)))/\H2=upd H R (.lst ys)) ⟨rfl,rfl⟩ (by rw[cb];omega) ?_ ?_ ?_
  ·rintro i ys H2 hi ⟨rfl,rfl⟩;rw[cb]at hi;exact⟨sR.seq hB,ae,by rw[cb,akm];omega⟩
  ·rintro i y ys H2 hy ⟨rfl,rfl⟩;refine hide λGg hGg=>?_
   have hi:i < ms.length:=by have:=(List.getElem?_eq_some_iff.mp hy).1;rw[cb]at this;omega
   obtain⟨o,ho1,_,dx,v,ho2,_⟩:=ho.get (wa hi);rw[aj7,ho1]at hy;cases hy;refine hGg ?_;refine⟨_,rfl,ms[i].k,ms[i].k8,o,dx,_,rfl,sR _ _ ho2,lJ _ v,o,rfl,rfl,?_⟩;rw[BS _ ms[i].k8];refine ib.mk (by rw[cb];omega) ae ⟨?_,by rw[nc]⟩
   rw[List.take_succ,wa hi,kx];rfl
  ·rintro ys H2 ⟨rfl,rfl⟩;rw[cb,<-ol,ak7];refine⟨R,ms.map (λm=>decide (m.k=0)),rfl,SqL.of (by rw[ae,List.map_map];rfl),?_⟩
   rw[List.any_map];exact q _ sR
theorem xP (T:Txt w.params K mg A):aJ P w K mg base CX0 3 A.kz A.gZ ["pile"] (P6 A K):=by
 have J9:∀k,k < 8->aJ P w K mg base CX0 2 (A.ft k) (A.ftd k) ["self"] (Fc A K k):=Gx T;refine T.lj.ok oX (λvs H Q E h=>?_) (λcdv A' outer s H vs Q E hr h=>?_)
 ·obtain⟨B,c,ms,os,rfl,_⟩:=h;rfl
 ·obtain⟨B,c,ms,os,rfl,⟨hB,ho⟩,q⟩:=h;have Ff:=hr;refine⟨_,(ai (bb (rq (rB (pv 0) (λ_=>rfl)))
 (aj (aI oH))
 aH)
 (ai (aZ (i:=1) oX.nd rfl (wt rfl) (lP (n:=8) (Cf:=A.C) (aT bF (pv 0) (oJ jA af) (λ_ _=>rfl)) T.cl T.J2 J9 Ff T.J3 a7))
 (aj (aI (Oi (ng bu (aT aU (pv 1) af (λ_ _=>rfl)) ao (aK _)) (Js (ng C0 (aT aU (aT aU (pv 1) af (λ_ _=>rfl)) af (λ_ _=>rfl)) ao (aK _)))))))),?_⟩
  rcases ajX os with h | ⟨pre,o,h⟩
  ·subst h;cases ho;refine⟨_,rfl,_,.inl ⟨_,hB,rfl⟩,dM ?_⟩;exact q H (bA.refl _)
  ·rw[ajY]at h;subst h;refine⟨_,rfl,_,.inl ⟨_,hB,rfl⟩,yp (by simp) ?_⟩
   refine hide λGg hGg=>?_
   obtain⟨ms',m,rfl,_,_,dx,v,hm,hv⟩:=ho.last;have gl:(ms'++[m]).getLast?=some m:=akp;unfold fL at q;rw[gl]at q;refine hGg ?_;refine⟨_,rfl,_,rfl,B,_,_,_,rfl,rfl,hB,BR pre o,m.k,m.k8,o,dx,_,rfl,hm,Mb m.k v,?_⟩
   by_cases h0:m.k=0
   ·obtain⟨tx,rfl⟩:∃tx,m=.mat tx:=by cases m <;> first | exact⟨_,rfl⟩ | exact absurd h0 (by simp[Mn.k])
    refine hide λGg hGg=>?_
    obtain⟨p,rfl,_,hp⟩:=hv;refine hGg ?_;refine .inl ⟨rfl,o,dx,p,tx.map V.str,rfl,hm,SqL.of hp,λp2 u hp2 hu npu=>?_⟩
    have nu:(upd H p2 (.lst (tx.map V.str))) u=none:=(aq (aj2 npu)).trans hu;refine ixv rfl (SqT.of ae) rfl ⟨rfl,_,rfl,?_⟩;rw[b9 0 (by decide)]
    exact bw (q _ ((aC hp2).new nu))
   ·refine .inr ⟨by omega,o,dx,v,rfl,hm,λu hu=>?_⟩
    have su:=aC (o:=.tup (rowOf m.k v)) hu;refine ixv rfl (SqT.of ae) d5 ⟨rfl,_,rfl,?_⟩;rw[b9 m.k m.k8]
    by_cases h1:m.k=1
    ·obtain⟨e,rfl⟩:∃e,m=.chg e:=by cases m <;> first | exact⟨_,rfl⟩ | exact absurd h1 (by simp[Mn.k])
     refine hide λGg hGg=>?_
     obtain⟨t,rfl,ht⟩:=hv;refine hGg ?_;refine yo (decide_eq_true rfl) (ixv rfl (SqT.of ae) rfl ⟨t,_,_,_,rfl,rfl,bV su ht.sq,nS e,rfl,?_⟩);rw[Fe];exact q _ su
    ·rw[decide_eq_false h1];have q':∀H',bA H H'->Q (.bl false) H':=by
      cases m with
      |chg e=>exact absurd rfl h1
      |_=>exact q
     exact bw (q' _ su)
theorem sy (T:Txt w.params K mg A):aJ P w K mg base CX0 4 A.gq A.ez ["kind","pile"] (Mp A K):=by
 have qv:aJ P w K mg base CX0 2 A.mh A.ie ["pile"] (P5 A K):=uh T;have yZ:aJ P w K mg base CX0 3 A.kz A.gZ ["pile"] (P6 A K):=xP T;refine T.hZ.ok rJ (λvs H Q E h=>?_) (λcdv A' outer s H vs Q E hr h=>?_)
 ·obtain⟨k,B,c,ms,os,rfl,_⟩:=h;rfl
 ·obtain⟨k,B,c,ms,os,rfl,k8,hp,hl,q⟩:=h;have nZ:Room 2 _:=hr.mono (by decide)
  have xQ:=hr;refine⟨_,(ai (bb (aB bu (pv 0) ao (aK _))
 (aj (aI (aW yZ xQ rfl T.qE T.lj.kp T.qD .nil a7 (aa (pv 1) ag))))
 aH)
 (ai (bb (aB w6 (pv 0) (bg (aa ao (aa ao (aa ao (aa ao ag))))) rfl)
 (aj (aI (aW qv nZ rfl T.qk T.lH.kp T.qj .nil a7 (aa (pv 1) ag))))
 aH)
 (aj (aI oH)))),?_⟩
  refine⟨_,rfl,rfl,_,rfl,?_⟩;rw[cg k k8];unfold sv at q
  by_cases h2:k=2
  ·rw[if_pos h2]at q;exact yo (decide_eq_true h2) ⟨_,rfl,B,c,ms,os,rfl,hp,q⟩
  ·rw[if_neg h2]at q;refine yp (decide_eq_false h2) ?_;refine⟨_,rfl,(sl 4),λt ht=>?_⟩
   have st:=aC (o:=.tup [V.str (ar "change"),V.str (ar "put off"),V.str (ar "close"),V.str (ar "lay")]) ht;refine⟨t,_,rfl,.inr (SqT.of ae),rfl,rfl,_,rfl,?_⟩;have ein:(if false=true then !inV (V.str (nm k)) [V.str (ar "change"),V.str (ar "put off"),V.str (ar "close"),V.str (ar "lay")] else inV (V.str (nm k)) [V.str (ar "change"),V.str (ar "put off"),V.str (ar "close"),V.str (ar "lay")])=decide (k=1\/k=3\/k=4\/k=5):=by
    have:∀k,k < 8->inV (V.str (nm k)) [V.str (ar "change"),V.str (ar "put off"),V.str (ar "close"),V.str (ar "lay")]=decide (k=1\/k=3\/k=4\/k=5):=by decide +kernel
    exact this k k8
   rw[ein]
   by_cases h3:k=1\/k=3\/k=4\/k=5
   ·rw[if_pos h3]at q;exact yo (decide_eq_true h3) ⟨_,rfl,B,c,ms,os,rfl,hp.same st,hl,λH' s'=>q H' (st.trans s')⟩
   ·rw[if_neg h3]at q;exact yp (decide_eq_false h3) (q _ st)
theorem t8 (T:Txt w.params K mg A):aJ P w K mg base (CXX P w) 5 A.g0 A.eL ["kind","pile","closed"] (T7 A K):=by
 have BU:aJ P w K mg base CX0 3 A.A9 A.pw ["pile","closed"] (P4 A K):=DN T;have qv:aJ P w K mg base CX0 2 A.mh A.ie ["pile"] (P5 A K):=uh T;have ua:aJ P w K mg base CX0 4 A.gq A.ez ["kind","pile"] (Mp A K):=sy T;have uI:aJ P w K mg base CX0 1 A.rN A.pB ["self","bar"] (CA A.cT "bar"):=yE T;refine T.iG.okX lz (λvs H Q E h=>?_) (λcdv A' outer s H vs Q E hr h=>?_)
 ·obtain⟨k,B,cl,c,ms,os,rfl,_⟩:=h;rfl
 ·obtain⟨k,B,cl,c,ms,os,rfl,k8,hp,hl,q,qx⟩:=h;have xR:Room 3 _:=hr.mono (by decide)
  have nZ:Room 2 _:=hr.mono (by decide)
  have sA:Room 4 _:=hr;have Na:Room 2 _:=hr.mono (by decide)
  refine⟨_,(bc (psx (aZ (i:=3) lz.nd rfl (wt rfl) (aW BU xR rfl T.Bd T.vI.kp T.Bc .nil a7 (aa (pv 1) (aa (pv 2) ag)))))
 (bc (hX (aB vc (aT OO (Ec (v:=V.ref A.tab) rfl T.EY rfl) (pv 0) (λ_ _=>rfl)) (pv 3) (aK _))
 (bE (p9 T.pG uI Na T.mB rfl rfl T.vW (aa (pv 3) ag)))
 (vn aH))
 (bE (hX (rq (p6 (aW ua sA rfl T.lB T.hZ.kp T.lA .nil a7 (aa (pv 0) (aa (pv 1) ag)))))
 (bc (hX (p6 (aW qv nZ rfl T.qk T.lH.kp T.qj .nil a7 (aa (pv 1) ag)))
 (bE (jD T.yz rfl rfl T.uA (aa ao ag)))
 (vn aH))
 (bE (jD T.yy rfl rfl T.uz (aa (Dh (xc (pv 0) (l8 xb))) ag))))
 (vn aH))))),?_⟩
  refine⟨_,rfl,_,rfl,B,cl,c,ms,os,rfl,hp,?_⟩;obtain⟨tk,htk⟩:=T.rk k k8;refine⟨_,rfl,A.tab,nm k,.int k,_,rfl,rfl,T.tb,htk,⟨_,rfl⟩,_,rfl,_,_,rfl,rfl,_,rfl,eQ (λe=>?_) (λe=>?_)⟩
  ·have e':(k:Int)<=nY cl ms:=of_decide_eq_true e;have hb:=BQ cl ms;refine⟨_,rfl,_,rfl,pK (by omega) (by omega),λd hd=>qx (.sj (nY cl ms)) (by unfold sx;rw[if_pos e']) _ _ _ (aC hd) ⟨⟨rfl,d,rfl,ae⟩,λ_ z=>by cases z;exact hd⟩⟩
  ·have e':¬(k:Int)<=nY cl ms:=λz=>e (decide_eq_true z)
   unfold sx at q qx;rw[if_neg e']at q qx;refine⟨_,rfl,_,rfl,k,B,c,ms,os,rfl,k8,hp,hl,λH' s'=>⟨_,rfl,?_⟩⟩
   cases hn:sv ms k with
   |true =>
    rw[hn,if_pos rfl]at q;exact bw (q rfl _ s')
   |false =>
    rw[hn,if_neg ku]at qx;refine dM ⟨_,rfl,B,c,ms,os,rfl,hp.same s',hl,λH2 s2=>⟨_,rfl,?_⟩⟩
    cases hm:t7 ms with
    |true =>
     rw[hm,if_pos rfl]at qx;exact dM ⟨by decide,qx _ rfl _ _ _ (s'.trans s2) ⟨⟨rfl,rfl⟩,λ_ z=>nomatch z⟩⟩
    |false =>
     rw[hm,if_neg ku]at qx;refine bw ⟨_,rfl,nm k,.str,?_,?_,?_⟩
     ·have:∀k,k < 8->(nm k).length<=10:=by decide +kernel
      exact ajI (this k k8) (by decide)
     ·have:∀k,k < 8->(akc++nm k:Str).length<=10:=by decide +kernel
      exact ajI (this k k8) (by decide)
     ·have:∀k,k < 8->((akc++nm k)++ar " needs a matter on the pile":Str).length<=100:=by decide +kernel
      have l:=ajI (this k k8) (show 100<=ka by decide)
      exact⟨l,l,(sl 1),qx _ rfl _ _ _ (s'.trans s2) ⟨⟨rfl,rfl⟩,λ_ z=>nomatch z⟩⟩
end
section
variable{P:rf}{w:World}{K:ba}{mg:Str->Option Value}{base:Heap}{A:Adr}
theorem jQ (T:Txt w.params K mg A):aJ P w K mg base CX0 1 A.f_n A.ER ["self"] (E4 0):=by
 refine T.F_n.ok AW (λvs H Q E h=>?_) (λcdv A' outer s H vs Q E hr h=>?_)
 ·obtain⟨m,rfl,_⟩:=h;rfl
 ·obtain⟨m,rfl,q⟩:=h;exact⟨_,(aj (aI ao)),q⟩
theorem Nb (T:Txt w.params K mg A):aJ P w K mg base CX0 1 A.V7 A.Pj ["self"] (E4 4):=by
 refine T.aay.ok CD (λvs H Q E h=>?_) (λcdv A' outer s H vs Q E hr h=>?_)
 ·obtain⟨m,rfl,_⟩:=h;rfl
 ·obtain⟨m,rfl,q⟩:=h;exact⟨_,(aj (aI ao)),q⟩
theorem Ss (T:Txt w.params K mg A):∀k,k < 8->aJ P w K mg base CX0 1 (A.fn k) (A.fnd k) ["self"] (E4 k)
 | 0,_=>jQ T
 | 1,_=>jQ T
 | 2,_=>jQ T
 | 3,_=>jQ T
 | 4,_=>Nb T
 | 5,_=>jQ T
 | 6,_=>jQ T
 | 7,_=>jQ T
 |n+8,h=>absurd h (by omega)
end
end My
set_option maxHeartbeats 1000000
namespace My
open PySem L2
seal PySem.wpAny
theorem lO {a b:Nat}:((km (a:Int):Key)=km (b:Int))↔a=b:=⟨λh=>by have:=Sum.inl.inj h;omega,λh=>by rw[h]⟩
theorem cO {k:Nat}{v:V}{ks:List Nat}{vs:List V}:a9 ((k::ks).zip (v::vs))=(km (k:Int),v)::a9 (ks.zip vs):=rfl
theorem mL {n:Nat}:∀ {ks:List Nat} {vs:List V},n∉ks->gQ (a9 (ks.zip vs)) (km (n:Int))=none
 |[],_,_=>rfl
 |_::_,[],_=>rfl
 |k::ks,v::vs,h=>by
  rw[cO,bP (λz=>h (by rw[lO.mp z];exact gn))]
  exact mL λz=>h (kq _ z)
theorem DO {n:Nat}{v:V}:∀ {ks:List Nat} {vs:List V} {j:Nat},ks.Nodup->ks[j]?=some n->vs[j]?=some v->gQ (a9 (ks.zip vs)) (km (n:Int))=some v
 |[],_,_,_,h,_=>by simp at h
 |_::_,[],_,_,_,h=>by simp at h
 |k::ks,u::vs,0,_,h,g=>by
  rw[aj8]at h g;cases h;cases g;exact eR rfl
 |k::ks,u::vs,j+1,nd,h,g=>by
  rw[ake]at h g;obtain⟨n1,n2⟩:=List.nodup_cons.mp nd;rw[cO,bP (λz=>n1 (by rw[lO.mp z];exact aka h))]
  exact DO n2 h g
theorem we {n:Nat}{v:V}:∀ {ks:List Nat} {vs:List V},n∉ks->(a9 (ks.zip vs)).map (λkv=>if kv.1=(km (n:Int):Key) then (kv.1,v) else kv)=a9 (ks.zip vs)
 |[],_,_=>rfl
 |_::_,[],_=>rfl
 |k::ks,u::vs,h=>by
  rw[cO,kj,we λz=>h (kq _ z),if_neg (λz=>h (by rw[lO.mp z];exact gn))]
theorem DQ {n:Nat}{v:V}:∀ {ks:List Nat} {vs:List V} {j:Nat},ks.Nodup->ks[j]?=some n->(a9 (ks.zip vs)).map (λkv=>if kv.1=(km (n:Int):Key) then (kv.1,v) else kv)=a9 (ks.zip (vs.set j v))
 |[],_,_,_,h=>by simp at h
 |k::ks,[],_,_,_=>by simp[a9]
 |k::ks,u::vs,0,nd,h=>by
  rw[aj8]at h;cases h;rw[cO,kj,we (List.nodup_cons.mp nd).1,if_pos rfl];rfl
 |k::ks,u::vs,j+1,nd,h=>by
  rw[ake]at h;obtain⟨n1,n2⟩:=List.nodup_cons.mp nd;rw[cO,kj,DQ n2 h,if_neg (λz=>n1 (by rw[lO.mp z];exact aka h))]
  rfl
theorem Nc {n:Nat}{v:V}{ks:List Nat}{vs:List V}{j:Nat}(nd:ks.Nodup)(h:ks[j]?=some n)(l:ks.length=vs.length):putK (a9 (ks.zip vs)) (km (n:Int)) v=a9 (ks.zip (vs.set j v)):=by
 have hj:j < vs.length:=by rw[<-l];exact(List.getElem?_eq_some_iff.mp h).1
 unfold putK;rw[rE,DO nd h (wa hj)];exact(if_pos rfl).trans (DQ nd h)
theorem pM {n:Nat}{v:V}{ks:List Nat}{vs:List V}(h:n∉ks)(l:ks.length=vs.length):putK (a9 (ks.zip vs)) (km (n:Int)) v=a9 ((ks++[n]).zip (vs++[v])):=by
 rw[O7 v (mL h),List.zip_append l];unfold a9;rw[kx];rfl
section
variable{β:Type}{R:Nat×β->V->Prop}
def at1 (n:Nat)(xs:List (Nat×β)):Option (Nat×β):=xs.find? λx=>decide (x.1=n)
theorem hU {n:Nat}{xs:List (Nat×β)}{x:Nat×β}(h:at1 n xs=some x):x.1=n/\x∈xs:=by
 unfold at1 at h;have:=List.find?_some h;exact⟨of_decide_eq_true this,List.mem_of_find?_eq_some h⟩
theorem sC {n:Nat}{xs:List (Nat×β)}(h:at1 n xs=none):n∉xs.map (·.1):=λz=>by
 obtain⟨x,hx,e⟩:=List.mem_map.mp z;have:=List.find?_eq_none.mp h x hx;exact this (decide_eq_true e)
theorem bJ.val {n:Nat}:∀ {xs:List (Nat×β)} {ws:List V} {x:Nat×β},bJ R xs ws->at1 n xs=some x->∃v,gQ (a9 ((xs.map (·.1)).zip ws)) (km (n:Int))=some v/\R x v
 |_,_,_,.nil,h=>nomatch h
 |y::xs,w::ws,x,.cons g t,h=>by
  unfold at1 at h;rw[akl]at h
  by_cases e:y.1=n
  ·rw[decide_eq_true e]at h;cases h;exact⟨w,by rw[kj,cO];exact eR (lO.mpr e),g⟩
  ·rw[decide_eq_false e]at h;obtain⟨v,h1,h2⟩:=bJ.val t h;exact⟨v,by rw[kj,cO,bP (λz=>e (lO.mp z))];exact h1,h2⟩
theorem bJ.drop {n:Nat}:∀ {xs:List (Nat×β)} {ws:List V},bJ R xs ws->∃ws',iL (a9 ((xs.map (·.1)).zip ws)) (km (n:Int))=a9 (((xs.filter λx=>decide (x.1≠n)).map (·.1)).zip ws')/\bJ R (xs.filter λx=>decide (x.1≠n)) ws'
 |_,_,.nil=>⟨[],rfl,.nil⟩
 |y::xs,w::ws,.cons g t=>by
  obtain⟨ws',h1,h2⟩:=bJ.drop (n:=n) t
  by_cases e:y.1=n
  ·refine⟨ws',?_,?_⟩
   ·rw[List.filter_cons_of_neg (by simp[e]),<-h1,kj,cO]
    unfold iL;rw[List.filter_cons_of_neg (by simp[e])]
   ·rw[List.filter_cons_of_neg (by simp[e])];exact h2
  ·refine⟨w::ws',?_,?_⟩
   ·rw[List.filter_cons_of_pos (by simp[e]),kj,kj,cO,cO,<-h1]
    unfold iL;have hne:(km (y.1:Int):Key)≠km (n:Int):=λz=>e (lO.mp z)
    rw[List.filter_cons_of_pos (by exact decide_eq_true hne)]
   ·rw[List.filter_cons_of_pos (by simp[e])];exact .cons g h2
theorem bJ.aaL {R':Nat×β->V->Prop}{n:Nat}{f:Nat×β->Nat×β}{v:V}(h1:∀x,x.1=n->R x v->R' (f x) v)(h2:∀x u,x.1≠n->R x u->R' x u):∀ {xs:List (Nat×β)} {ws:List V},bJ R xs ws->(xs.map (·.1)).Nodup->gQ (a9 ((xs.map (·.1)).zip ws)) (km (n:Int))=some v ->
  bJ R' (xs.map λx=>if x.1=n then f x else x) ws
 |_,_,.nil,_,h=>nomatch h
 |y::xs,w::ws,.cons g t,nd,h=>by
  rw[kj]at nd;obtain⟨n1,n2⟩:=List.nodup_cons.mp nd;rw[kj,cO]at h;rw[kj]
  by_cases e:y.1=n
  ·rw[eR (lO.mpr e)]at h;cases h;rw[if_pos e];refine .cons (h1 y e g) ?_;have hne:∀x∈xs,x.1≠n:=λx hx z=>n1 (by rw[e,<-z];exact List.mem_map_of_mem hx)
   have em:xs.map (λx=>if x.1=n then f x else x)=xs:=by
    have:xs.map (λx=>if x.1=n then f x else x)=xs.map id:=akS λx hx=>if_neg (hne x hx)
    rw[this,List.map_id]
   rw[em];exact t.imp_mem λx hx u=>h2 x u (hne x hx)
  ·rw[bP (λz=>e (lO.mp z))]at h
   rw[if_neg e];exact .cons (h2 y w e g) (bJ.aaL h1 h2 t n2 h)
end
theorem bJ.set {α β:Type}{R:α->β->Prop}:∀ {as:List α} {bs:List β} {a:α} {b:β} (j:Nat),bJ R as bs->R a b->bJ R (as.set j a) (bs.set j b)
 |_,_,_,_,_,.nil,_=>.nil
 |_,_,_,_,0,.cons _ t,h=>.cons h t
 |_,_,_,_,j+1,.cons g t,h=>.cons g (t.set j h)
def pOb:Rl->Bool | .ob=>true | _=>false
def T8:Rl->Bool | .rows=>true | _=>false
def Mq:Rl->Bool | .made=>true | _=>false
def T9:Rl->Bool | .aw=>true | _=>false
def Su:Rl->Bool | .ob=>true | .aw=>true | .az=>true | _=>false
def Mr (n:Nat):Rl->Bool | .gM m=>decide (m=n) | _=>false
def aaM:Rl->Bool | .firsts=>true | _=>false
def aaN:Rl->Bool | .kept=>true | _=>false
def Ms (n:Nat):Rl->Bool | .ob=>true | .az=>true | .e9 m=>decide (m=n) | _=>false
theorem d0 {i:Nat}{c:Col}{a b:Addr}{r r':Rl}(h:c a=some (i,r))(h':c b=some (i,r'))(n:r≠r'):a≠b:=λz=>by
 rw[z,h']at h;cases h;exact n rfl
section
variable{A:Adr}{i:Nat}{c c':Col}{H H':Hp}{o dx aM aP aA aD aF aE aR:Addr}{st:Ch}{ms ds:List Addr}{ws fs es:List V}
theorem ChX.free {W:Option (Nat×Rl)->Prop}(h:∀r,¬W (some (i,r)))(s:Step W c c' H H')(X:ChX A i c H o st dx aM aP aA aD aF aE aR ms ds ws fs es):ChX A i c' H' o st dx aM aP aA aD aF aE aR ms ds ws fs es:=by
 have hn:¬W (c o):=by rw[X.co];exact h _
 refine⟨by rw[s.col o _ X.ob hn];exact X.co,s.keep _ _ X.ob hn,X.made.keep (h _) s,sf s X.mot,X.aw.keep (h _) s,X.az.keep (h _) s,X.wait.imp ?_,X.dec.keep (h _) s,jm s X.lN,X.firsts.keep (h _) s,X.first.imp ?_,X.kQ.keep (h _) s,X.kept.imp ?_,X.rows.keep (h _) s⟩
 ·rintro x v ⟨t,p,e,z1,z2⟩;exact⟨t,p,e,z1.step s,z2.keep (h _) s⟩
 ·rintro x v ⟨p,e,z⟩;exact⟨p,e,z.keep (h _) s⟩
 ·rintro x v ⟨p,ts,e,z1,z2⟩;exact⟨p,ts,e,z1.keep (h _) s,z2.imp λ_ _ y=>y.step s⟩
theorem ChX.same (s:bA H H')(X:ChX A i c H o st dx aM aP aA aD aF aE aR ms ds ws fs es):ChX A i c H' o st dx aM aP aA aD aF aE aR ms ds ws fs es:=X.free (W:=λ_=>False) (λ_=>id) (Step.same id s)
theorem ChX.cl (s:bA H H')(X:ChX A i c H o st dx aM aP aA aD aF aE aR ms ds ws fs es):ChX A i (d6 c H) H' o st dx aM aP aA aD aF aE aR ms ds ws fs es:=X.free (W:=λ_=>False) (λ_=>id) (Step.cl id s)
theorem ChX.at (X:ChX A i c H o st dx aM aP aA aD aF aE aR ms ds ws fs es):fK A i c H o st:=⟨_,_,_,_,_,_,_,_,_,_,_,_,_,X⟩
theorem ChX.attr (X:ChX A i c H o st dx aM aP aA aD aF aE aR ms ds ws fs es)(n:Int)(b:Bool) :
  Step (Wr i pOb) c c H (upd H o (.ins A.ax dx (chF (.int st.cJ) (.int n) (.bl b) (.ref aM) (.ref aP) (.ref aA) (.ref aD) (.ref aF) (.ref aE) (.ref aR)))) /\
  ChX A i c (upd H o (.ins A.ax dx (chF (.int st.cJ) (.int n) (.bl b) (.ref aM) (.ref aP) (.ref aA) (.ref aD) (.ref aF) (.ref aE) (.ref aR)))) o { st with aN:=n,closed:=b } dx aM aP aA aD aF aE aR ms ds ws fs es:=by
 have s:Step (Wr i pOb) c c H (upd H o (.ins A.ax dx (chF (.int st.cJ) (.int n) (.bl b) (.ref aM) (.ref aP) (.ref aA) (.ref aD) (.ref aF) (.ref aE) (.ref aR)))):=Step.upd Wr.nn (Wr.yes X.co rfl);exact⟨s,X.co,ae,X.made.kp rfl s,sf s X.mot,X.aw.kp rfl s,X.az.kp rfl s,kR (λ_ _=>rfl) s X.wait,X.dec.kp rfl s,jm s X.lN,X.firsts.kp rfl s,ug (λ_ _=>rfl) s X.first,X.kQ.kp rfl s,vZ (λ_ _=>rfl) s X.kept,X.rows.kp rfl s⟩
theorem ChX.row (X:ChX A i c H o st dx aM aP aA aD aF aE aR ms ds ws fs es)(z:Str) :
  Step (Wr i T8) c c H (upd H aR (.lst (st.rows.map V.str++[.str z])))/\ChX A i c (upd H aR (.lst (st.rows.map V.str++[.str z]))) o { st with rows:=st.rows++[z] } dx aM aP aA aD aF aE aR ms ds ws fs es:=by
 have s:Step (Wr i T8) c c H (upd H aR (.lst (st.rows.map V.str++[.str z]))):=Step.upd Wr.nn (Wr.yes X.rows.1 rfl);have k:=mF rfl s X.co X.ob;exact⟨s,k.1,k.2,X.made.kp rfl s,sf s X.mot,X.aw.kp rfl s,X.az.kp rfl s,kR (λ_ _=>rfl) s X.wait,X.dec.kp rfl s,jm s X.lN,X.firsts.kp rfl s,ug (λ_ _=>rfl) s X.first,X.kQ.kp rfl s,vZ (λ_ _=>rfl) s X.kept,X.rows.1,by rw[ae,kx];rfl⟩
theorem ChX.push (X:ChX A i c H o st dx aM aP aA aD aF aE aR ms ds ws fs es)(n:Nat) :
  Step (Wr i T9) c c H (upd H aP (.lst (st.aw.map nV++[nV n])))/\ChX A i c (upd H aP (.lst (st.aw.map nV++[nV n]))) o { st with aw:=st.aw++[n] } dx aM aP aA aD aF aE aR ms ds ws fs es:=by
 have s:Step (Wr i T9) c c H (upd H aP (.lst (st.aw.map nV++[nV n]))):=Step.upd Wr.nn (Wr.yes X.aw.1 rfl);have k:=mF rfl s X.co X.ob;exact⟨s,k.1,k.2,X.made.kp rfl s,sf s X.mot,⟨X.aw.1,by rw[ae,kx];rfl⟩,X.az.kp rfl s,kR (λ_ _=>rfl) s X.wait,X.dec.kp rfl s,jm s X.lN,X.firsts.kp rfl s,ug (λ_ _=>rfl) s X.first,X.kQ.kp rfl s,vZ (λ_ _=>rfl) s X.kept,X.rows.kp rfl s⟩
theorem Gy {n k:Nat}(h1:1<=n)(h2:n<=k):(aj9 1 k)[n - 1]?=some n:=by
 rw[List.getElem?_range' (by omega)]
 congr 1
 omega
theorem ChX.Mt (X:ChX A i c H o st dx aM aP aA aD aF aE aR ms ds ws fs es){n:Nat}{m:Mn}{x:Addr}(hn:dC st n)(hm:mG A c H m x) :
  Step (Wr i Mq) c c H (upd H aM (.dK (putK (a9 ((aj9 1 st.made.length).zip (ms.map V.ref))) (km (n:Int)) (.ref x)))) /\
  ChX A i c (upd H aM (.dK (putK (a9 ((aj9 1 st.made.length).zip (ms.map V.ref))) (km (n:Int)) (.ref x)))) o { st with made:=st.made.set (n - 1) m } dx aM aP aA aD aF aE aR (ms.set (n - 1) x) ds ws fs es:=by
 have s:Step (Wr i Mq) c c H (upd H aM (.dK (putK (a9 ((aj9 1 st.made.length).zip (ms.map V.ref))) (km (n:Int)) (.ref x)))):=Step.upd Wr.nn (Wr.yes X.made.1 rfl);have k:=mF rfl s X.co X.ob;have ml:=X.mot.len;have e:=Nc (v:=.ref x) (List.nodup_range' (s:=1) (n:=st.made.length)) (Gy hn.1 hn.2) (vs:=ms.map V.ref) (by rw[akF,cb];exact ml)
 have hd:jy i c (upd H aM (.dK (putK (a9 ((aj9 1 st.made.length).zip (ms.map V.ref))) (km (n:Int)) (.ref x)))) .made aM ((aj9 1 (st.made.set (n - 1) m).length).zip ((ms.set (n - 1) x).map V.ref)) :=
  ⟨X.made.1,by rw[ae,e,aky,List.map_set]⟩
 exact⟨s,k.1,k.2,hd,(sf s X.mot).set _ (hm.step s),X.aw.kp rfl s,X.az.kp rfl s,kR (λ_ _=>rfl) s X.wait,X.dec.kp rfl s,jm s X.lN,X.firsts.kp rfl s,ug (λ_ _=>rfl) s X.first,X.kQ.kp rfl s,vZ (λ_ _=>rfl) s X.kept,X.rows.kp rfl s⟩
theorem ChX.Sv (X:ChX A i c H o st dx aM aP aA aD aF aE aR ms ds ws fs es){m:Mn}{x:Addr}(hm:mG A c H m x) :
  Step (Wr i Mq) c c H (upd H aM (.dK (putK (a9 ((aj9 1 st.made.length).zip (ms.map V.ref))) (km ((st.made.length+1:Nat):Int)) (.ref x)))) /\
  ChX A i c (upd H aM (.dK (putK (a9 ((aj9 1 st.made.length).zip (ms.map V.ref))) (km ((st.made.length+1:Nat):Int)) (.ref x)))) o { st with made:=st.made++[m] } dx aM aP aA aD aF aE aR (ms++[x]) ds ws fs es:=by
 have s:Step (Wr i Mq) c c H (upd H aM (.dK (putK (a9 ((aj9 1 st.made.length).zip (ms.map V.ref))) (km ((st.made.length+1:Nat):Int)) (.ref x)))):=Step.upd Wr.nn (Wr.yes X.made.1 rfl);have k:=mF rfl s X.co X.ob;have ml:=X.mot.len;have e:=pM (v:=.ref x) (n:=st.made.length+1) (ks:=aj9 1 st.made.length) (vs:=ms.map V.ref) (by rw[akK];omega) (by rw[akF,cb];exact ml)
 have hd:jy i c (upd H aM (.dK (putK (a9 ((aj9 1 st.made.length).zip (ms.map V.ref))) (km ((st.made.length+1:Nat):Int)) (.ref x)))) .made aM ((aj9 1 (st.made++[m]).length).zip ((ms++[x]).map V.ref)) :=
  ⟨X.made.1,by rw[ae,e,ky,ajW,List.range'_concat,kx,Nat.one_mul,Nat.add_comm 1];rfl⟩
 exact⟨s,k.1,k.2,hd,(sf s X.mot).snoc (hm.step s),X.aw.kp rfl s,X.az.kp rfl s,kR (λ_ _=>rfl) s X.wait,X.dec.kp rfl s,jm s X.lN,X.firsts.kp rfl s,ug (λ_ _=>rfl) s X.first,X.kQ.kp rfl s,vZ (λ_ _=>rfl) s X.kept,X.rows.kp rfl s⟩
def qY (n:Nat)(e:Ed)(xs:List (Nat×List Ed)):List (Nat×List Ed):=xs.map λx=>if x.1=n then (x.1,x.2++[e]) else x
theorem ChX.gk (X:ChX A i c H o st dx aM aP aA aD aF aE aR ms ds ws fs es){n:Nat}{x:Nat×List Ed}(hx:at1 n st.kept=some x):∃(p:Addr) (ts:List Addr),gQ (a9 ((st.kept.map (·.1)).zip es)) (km (n:Int))=some (.ref p)/\LstAt i c H (.gM n) p (ts.map V.ref)/\ts.length=x.2.length:=by
 obtain⟨v,h1,p,ts,rfl,h2,h3⟩:=X.kept.val hx;rw[(hU hx).1]at h2;exact⟨p,ts,h1,h2,h3.len.symm⟩
theorem ChX.Fg (X:ChX A i c H o st dx aM aP aA aD aF aE aR ms ds ws fs es){n:Nat}{e:Ed}{t p:Addr}{ts:List Addr}(hv:gQ (a9 ((st.kept.map (·.1)).zip es)) (km (n:Int))=some (.ref p))(hl:LstAt i c H (.gM n) p (ts.map V.ref))(nd:(st.kept.map (·.1)).Nodup)(ht:TupAt c H t (gv e)) :
  Step (Wr i (Mr n)) c c H (upd H p (.lst (ts.map V.ref++[.ref t])))/\ChX A i c (upd H p (.lst (ts.map V.ref++[.ref t]))) o { st with kept:=qY n e st.kept } dx aM aP aA aD aF aE aR ms ds ws fs es:=by
 have s:Step (Wr i (Mr n)) c c H (upd H p (.lst (ts.map V.ref++[.ref t]))):=Step.upd Wr.nn (Wr.yes hl.1 (decide_eq_true rfl));have k:=mF rfl s X.co X.ob;have ek:(qY n e st.kept).map (·.1)=st.kept.map (·.1):=by
  unfold qY;rw[List.map_map];refine akS λx _=>?_
  show (if x.1=n then (x.1,x.2++[e]) else x).1=x.1
  split <;> rfl
 refine⟨s,k.1,k.2,X.made.kp rfl s,sf s X.mot,X.aw.kp rfl s,X.az.kp rfl s,kR (λ_ _=>rfl) s X.wait,X.dec.kp rfl s,jm s X.lN,X.firsts.kp rfl s,ug (λ_ _=>rfl) s X.first,by show jy i c _ .kept aE (((qY n e st.kept).map (·.1)).zip es);rw[ek];exact X.kQ.kp rfl s,?_,X.rows.kp rfl s⟩
 refine bJ.aaL (f:=λx=>(x.1,x.2++[e])) (v:=.ref p) ?_ ?_ X.kept nd hv
 ·rintro x e1 ⟨q,us,e2,z1,z2⟩;cases e2;have e3:us.map V.ref=ts.map V.ref:=by
   have:=z1.2;rw[hl.2]at this;injection this with this
   injection this with this
   exact this.symm
  refine⟨p,us++[t],rfl,⟨z1.1,?_⟩,(z2.imp λ_ _ y=>y.step s).snoc (ht.step s)⟩
  rw[ae,<-e3,kx];rfl
 ·rintro x u e1 ⟨q,us,rfl,z1,z2⟩;exact⟨q,us,rfl,z1.kp (decide_eq_false e1) s,z2.imp λ_ _ y=>y.step s⟩
theorem ChX.P7 (X:ChX A i c H o st dx aM aP aA aD aF aE aR ms ds ws fs es){n:Nat}{tx:List Str}{p:Addr}(hp:H p=none)(hn:n∉st.firsts.map (·.1)) :
  Step (Wr i aaM) c (ay c p (some (i,.cY n))) H (upd (upd H p (.lst (tx.map V.str))) aF (.dK (putK (a9 ((st.firsts.map (·.1)).zip fs)) (km (n:Int)) (.ref p)))) /\
  ChX A i (ay c p (some (i,.cY n))) (upd (upd H p (.lst (tx.map V.str))) aF (.dK (putK (a9 ((st.firsts.map (·.1)).zip fs)) (km (n:Int)) (.ref p)))) o { st with firsts:=st.firsts++[(n,tx)] } dx aM aP aA aD aF aE aR ms ds ws (fs++[.ref p]) es:=by
 have np:∀ {a:Addr} {v:HO},H a=some v->a≠p:=λe=>aG e hp
 have s:Step (Wr i aaM) c (ay c p (some (i,.cY n))) H (upd (upd H p (.lst (tx.map V.str))) aF (.dK (putK (a9 ((st.firsts.map (·.1)).zip fs)) (km (n:Int)) (.ref p)))) :=
  (Step.new Wr.nn hp).trans (Step.upd Wr.nn ⟨.firsts,by rw[av (np X.firsts.2)];exact X.firsts.1,rfl⟩)
 have k:=mF rfl s X.co X.ob;have e:=pM (v:=.ref p) hn (vs:=fs) (by rw[cb];exact X.first.len)
 have hd:jy i (ay c p (some (i,.cY n))) (upd (upd H p (.lst (tx.map V.str))) aF (.dK (putK (a9 ((st.firsts.map (·.1)).zip fs)) (km (n:Int)) (.ref p)))) .firsts aF (((st.firsts++[(n,tx)]).map (·.1)).zip (fs++[.ref p])) :=
  ⟨by rw[av (np X.firsts.2)];exact X.firsts.1,by rw[ae,e,kx];rfl⟩
 have hl:Fb i (ay c p (some (i,.cY n))) (upd (upd H p (.lst (tx.map V.str))) aF (.dK (putK (a9 ((st.firsts.map (·.1)).zip fs)) (km (n:Int)) (.ref p)))) (n,tx) (.ref p) :=
  ⟨p,rfl,aV,(aq (np X.firsts.2).symm).trans ae⟩
 exact⟨s,k.1,k.2,X.made.kp rfl s,sf s X.mot,X.aw.kp rfl s,X.az.kp rfl s,kR (λ_ _=>rfl) s X.wait,X.dec.kp rfl s,jm s X.lN,hd,(ug (λ_ _=>rfl) s X.first).snoc hl,X.kQ.kp rfl s,vZ (λ_ _=>rfl) s X.kept,X.rows.kp rfl s⟩
theorem ChX.Sw (X:ChX A i c H o st dx aM aP aA aD aF aE aR ms ds ws fs es){n:Nat}{p:Addr}(hp:H p=none)(hn:n∉st.kept.map (·.1)) :
  Step (Wr i aaN) c (ay c p (some (i,.gM n))) H (upd (upd H p (.lst [])) aE (.dK (putK (a9 ((st.kept.map (·.1)).zip es)) (km (n:Int)) (.ref p)))) /\
  ChX A i (ay c p (some (i,.gM n))) (upd (upd H p (.lst [])) aE (.dK (putK (a9 ((st.kept.map (·.1)).zip es)) (km (n:Int)) (.ref p)))) o { st with kept:=st.kept++[(n,([]:List Ed))] } dx aM aP aA aD aF aE aR ms ds ws fs (es++[.ref p]):=by
 have np:∀ {a:Addr} {v:HO},H a=some v->a≠p:=λe=>aG e hp
 have s:Step (Wr i aaN) c (ay c p (some (i,.gM n))) H (upd (upd H p (.lst [])) aE (.dK (putK (a9 ((st.kept.map (·.1)).zip es)) (km (n:Int)) (.ref p)))) :=
  (Step.new Wr.nn hp).trans (Step.upd Wr.nn ⟨.kept,by rw[av (np X.kQ.2)];exact X.kQ.1,rfl⟩)
 have k:=mF rfl s X.co X.ob;have e:=pM (v:=.ref p) hn (vs:=es) (by rw[cb];exact X.kept.len)
 have hd:jy i (ay c p (some (i,.gM n))) (upd (upd H p (.lst [])) aE (.dK (putK (a9 ((st.kept.map (·.1)).zip es)) (km (n:Int)) (.ref p)))) .kept aE (((st.kept++[(n,([]:List Ed))]).map (·.1)).zip (es++[.ref p])) :=
  ⟨by rw[av (np X.kQ.2)];exact X.kQ.1,by rw[ae,e,kx];rfl⟩
 have hl:Mm i (ay c p (some (i,.gM n))) (upd (upd H p (.lst [])) aE (.dK (putK (a9 ((st.kept.map (·.1)).zip es)) (km (n:Int)) (.ref p)))) (n,[]) (.ref p) :=
  ⟨p,[],rfl,⟨aV,(aq (np X.kQ.2).symm).trans ae⟩,.nil⟩
 exact⟨s,k.1,k.2,X.made.kp rfl s,sf s X.mot,X.aw.kp rfl s,X.az.kp rfl s,kR (λ_ _=>rfl) s X.wait,X.dec.kp rfl s,jm s X.lN,X.firsts.kp rfl s,ug (λ_ _=>rfl) s X.first,hd,(vZ (λ_ _=>rfl) s X.kept).snoc hl,X.rows.kp rfl s⟩
def Ch.m9 (st:Ch)(n:Nat)(u:Int):Ch:={ st with aw:=[],az:=st.az++[(n,u,st.aw)] }
theorem ChX.m9 (X:ChX A i c H o st dx aM aP aA aD aF aE aR ms ds ws fs es){n:Nat}{u:Int}{t p:Addr}(ht:H t=none)(hp:H p=none)(ntp:p≠t)(hn:n∉st.az.map (·.1)) :
  ∃c',Step (Wr i Su) c c' H (upd (upd (upd (upd H t (.tup [.int u,.ref aP])) aA (.dK (putK (a9 ((st.az.map (·.1)).zip ws)) (km (n:Int)) (.ref t)))) p (.lst [])) o (.ins A.ax dx (chF (.int st.cJ) (.int st.aN) (.bl st.closed) (.ref aM) (.ref p) (.ref aA) (.ref aD) (.ref aF) (.ref aE) (.ref aR)))) /\
  ChX A i c' (upd (upd (upd (upd H t (.tup [.int u,.ref aP])) aA (.dK (putK (a9 ((st.az.map (·.1)).zip ws)) (km (n:Int)) (.ref t)))) p (.lst [])) o (.ins A.ax dx (chF (.int st.cJ) (.int st.aN) (.bl st.closed) (.ref aM) (.ref p) (.ref aA) (.ref aD) (.ref aF) (.ref aE) (.ref aR)))) o (st.m9 n u) dx aM p aA aD aF aE aR ms ds (ws++[.ref t]) fs es:=by
 have nt:∀ {a:Addr} {v:HO},H a=some v->a≠t:=λe=>aG e ht
 have np:∀ {a:Addr} {v:HO},H a=some v->a≠p:=λe=>aG e hp
 have oA:o≠aA:=d0 X.co X.az.1 (λz=>nomatch z)
 have oP:o≠aP:=d0 X.co X.aw.1 (λz=>nomatch z)
 have AP:aA≠aP:=d0 X.az.1 X.aw.1 (λz=>nomatch z)
 have e:=pM (v:=.ref t) hn (vs:=ws) (by rw[cb];exact X.wait.len)
 have hp2:(upd (upd H t (.tup [.int u,.ref aP])) aA (.dK (putK (a9 ((st.az.map (·.1)).zip ws)) (km (n:Int)) (.ref t)))) p=none:=by
  rw[aq (np X.az.2).symm,aq ntp];exact hp
 refine⟨ay (ay (ay c t none) p (some (i,.aw))) aP (some (i,.e9 n)),?_⟩;have s:Step (Wr i Su) c (ay (ay (ay c t none) p (some (i,.aw))) aP (some (i,.e9 n))) H (upd (upd (upd (upd H t (.tup [.int u,.ref aP])) aA (.dK (putK (a9 ((st.az.map (·.1)).zip ws)) (km (n:Int)) (.ref t)))) p (.lst [])) o (.ins A.ax dx (chF (.int st.cJ) (.int st.aN) (.bl st.closed) (.ref aM) (.ref p) (.ref aA) (.ref aD) (.ref aF) (.ref aE) (.ref aR)))):=by
  refine((((Step.new Wr.nn ht).trans (Step.upd Wr.nn ⟨.az,?_,rfl⟩)).trans (Step.new Wr.nn hp2)).trans (Step.upd Wr.nn ⟨.ob,?_,rfl⟩)).trans (Step.role Wr.nn ⟨.aw,?_,rfl⟩)
  ·rw[av (nt X.az.2)];exact X.az.1
  ·rw[av (np X.ob),av (nt X.ob)];exact X.co
  ·rw[av (np X.aw.2),av (nt X.aw.2)];exact X.aw.1
 have k1:ay (ay (ay c t none) p (some (i,.aw))) aP (some (i,.e9 n)) o=some (i,.ob):=by
  rw[av oP,av (np X.ob),av (nt X.ob)];exact X.co
 have hd:jy i (ay (ay (ay c t none) p (some (i,.aw))) aP (some (i,.e9 n))) (upd (upd (upd (upd H t (.tup [.int u,.ref aP])) aA (.dK (putK (a9 ((st.az.map (·.1)).zip ws)) (km (n:Int)) (.ref t)))) p (.lst [])) o (.ins A.ax dx (chF (.int st.cJ) (.int st.aN) (.bl st.closed) (.ref aM) (.ref p) (.ref aA) (.ref aD) (.ref aF) (.ref aE) (.ref aR)))) .az aA (((st.az++[(n,u,st.aw)]).map (·.1)).zip (ws++[.ref t])) :=
  ⟨by rw[av AP,av (np X.az.2),av (nt X.az.2)];exact X.az.1,by rw[aq oA.symm,aq (np X.az.2),ae,e,kx];rfl⟩
 have hl:LstAt i (ay (ay (ay c t none) p (some (i,.aw))) aP (some (i,.e9 n))) (upd (upd (upd (upd H t (.tup [.int u,.ref aP])) aA (.dK (putK (a9 ((st.az.map (·.1)).zip ws)) (km (n:Int)) (.ref t)))) p (.lst [])) o (.ins A.ax dx (chF (.int st.cJ) (.int st.aN) (.bl st.closed) (.ref aM) (.ref p) (.ref aA) (.ref aD) (.ref aF) (.ref aE) (.ref aR)))) (.e9 n) aP (st.aw.map nV) :=
  ⟨aV,by rw[aq oP.symm,aq (np X.aw.2),aq AP.symm,aq (nt X.aw.2)];exact X.aw.2⟩
 have hn':LstAt i (ay (ay (ay c t none) p (some (i,.aw))) aP (some (i,.e9 n))) (upd (upd (upd (upd H t (.tup [.int u,.ref aP])) aA (.dK (putK (a9 ((st.az.map (·.1)).zip ws)) (km (n:Int)) (.ref t)))) p (.lst [])) o (.ins A.ax dx (chF (.int st.cJ) (.int st.aN) (.bl st.closed) (.ref aM) (.ref p) (.ref aA) (.ref aD) (.ref aF) (.ref aE) (.ref aR)))) .aw p [] :=
  ⟨by rw[av (np X.aw.2).symm,aV],by rw[aq (np X.ob).symm,ae]⟩
 have htt:TupAt (ay (ay (ay c t none) p (some (i,.aw))) aP (some (i,.e9 n))) (upd (upd (upd (upd H t (.tup [.int u,.ref aP])) aA (.dK (putK (a9 ((st.az.map (·.1)).zip ws)) (km (n:Int)) (.ref t)))) p (.lst [])) o (.ins A.ax dx (chF (.int st.cJ) (.int st.aN) (.bl st.closed) (.ref aM) (.ref p) (.ref aA) (.ref aD) (.ref aF) (.ref aE) (.ref aR)))) t [.int u,.ref aP] :=
  ⟨by rw[av (nt X.aw.2).symm,av ntp.symm,aV],.inl (by rw[aq (nt X.ob).symm,aq ntp.symm,aq (nt X.az.2).symm,ae])⟩
 exact⟨s,k1,ae,X.made.kp rfl s,sf s X.mot,hn',hd,(kR (λ_ _=>rfl) s X.wait).snoc ⟨t,aP,rfl,htt,hl⟩,X.dec.kp rfl s,jm s X.lN,X.firsts.kp rfl s,ug (λ_ _=>rfl) s X.first,X.kQ.kp rfl s,vZ (λ_ _=>rfl) s X.kept,X.rows.kp rfl s⟩
def Ch.qJ (st:Ch)(n:Nat)(pl:List Nat):Ch:={ st with aw:=pl,az:=st.az.filter λx=>decide (x.1≠n) }
theorem ChX.waitOf (X:ChX A i c H o st dx aM aP aA aD aF aE aR ms ds ws fs es){n:Nat}{x:Nat×Int×List Nat}(hx:at1 n st.az=some x):∃t p,gQ (a9 ((st.az.map (·.1)).zip ws)) (km (n:Int))=some (.ref t)/\TupAt c H t [.int x.2.1,.ref p]/\LstAt i c H (.e9 n) p (x.2.2.map nV):=by
 obtain⟨v,h1,t,p,rfl,h2,h3⟩:=X.wait.val hx;rw[(hU hx).1]at h3;exact⟨t,p,h1,h2,h3⟩
theorem ChX.qJ (X:ChX A i c H o st dx aM aP aA aD aF aE aR ms ds ws fs es){n:Nat}{p:Addr}{pl:List Nat}(hl:LstAt i c H (.e9 n) p (pl.map nV)) :
  ∃c' ws',Step (Wr i (Ms n)) c c' H (upd (upd H aA (.dK (iL (a9 ((st.az.map (·.1)).zip ws)) (km (n:Int))))) o (.ins A.ax dx (chF (.int st.cJ) (.int st.aN) (.bl st.closed) (.ref aM) (.ref p) (.ref aA) (.ref aD) (.ref aF) (.ref aE) (.ref aR)))) /\
  ChX A i c' (upd (upd H aA (.dK (iL (a9 ((st.az.map (·.1)).zip ws)) (km (n:Int))))) o (.ins A.ax dx (chF (.int st.cJ) (.int st.aN) (.bl st.closed) (.ref aM) (.ref p) (.ref aA) (.ref aD) (.ref aF) (.ref aE) (.ref aR)))) o (st.qJ n pl) dx aM p aA aD aF aE aR ms ds ws' fs es:=by
 have oA:o≠aA:=d0 X.co X.az.1 (λz=>nomatch z)
 have op:o≠p:=d0 X.co hl.1 (λz=>nomatch z)
 have Ap:aA≠p:=d0 X.az.1 hl.1 (λz=>nomatch z)
 obtain⟨ws',e1,e2⟩:=X.wait.drop (n:=n);refine⟨ay c p (some (i,.aw)),ws',?_⟩;have s:Step (Wr i (Ms n)) c (ay c p (some (i,.aw))) H (upd (upd H aA (.dK (iL (a9 ((st.az.map (·.1)).zip ws)) (km (n:Int))))) o (.ins A.ax dx (chF (.int st.cJ) (.int st.aN) (.bl st.closed) (.ref aM) (.ref p) (.ref aA) (.ref aD) (.ref aF) (.ref aE) (.ref aR)))) :=
  ((Step.upd Wr.nn ⟨.az,X.az.1,rfl⟩).trans (Step.upd Wr.nn ⟨.ob,X.co,rfl⟩)).trans (Step.role Wr.nn ⟨.e9 n,hl.1,decide_eq_true rfl⟩)
 have k1:ay c p (some (i,.aw)) o=some (i,.ob):=by rw[av op];exact X.co
 have hd:jy i (ay c p (some (i,.aw))) (upd (upd H aA (.dK (iL (a9 ((st.az.map (·.1)).zip ws)) (km (n:Int))))) o (.ins A.ax dx (chF (.int st.cJ) (.int st.aN) (.bl st.closed) (.ref aM) (.ref p) (.ref aA) (.ref aD) (.ref aF) (.ref aE) (.ref aR)))) .az aA (((st.az.filter λx=>decide (x.1≠n)).map (·.1)).zip ws') :=
  ⟨by rw[av Ap];exact X.az.1,by rw[aq oA.symm,ae,e1]⟩
 have hpl:LstAt i (ay c p (some (i,.aw))) (upd (upd H aA (.dK (iL (a9 ((st.az.map (·.1)).zip ws)) (km (n:Int))))) o (.ins A.ax dx (chF (.int st.cJ) (.int st.aN) (.bl st.closed) (.ref aM) (.ref p) (.ref aA) (.ref aD) (.ref aF) (.ref aE) (.ref aR)))) .aw p (pl.map nV) :=
  ⟨aV,by rw[aq op.symm,aq Ap.symm];exact hl.2⟩
 exact⟨s,k1,ae,X.made.kp rfl s,sf s X.mot,hpl,hd,kR (λx hx=>decide_eq_false (of_decide_eq_true (List.mem_filter.mp hx).2)) s e2,X.dec.kp rfl s,jm s X.lN,X.firsts.kp rfl s,ug (λ_ _=>rfl) s X.first,X.kQ.kp rfl s,vZ (λ_ _=>rfl) s X.kept,X.rows.kp rfl s⟩
end
end My
set_option maxHeartbeats 1000000
namespace My
open PySem L2
seal PySem.wpAny
def xS (i:Nat)(c:Col)(H:Hp)(t:Addr)(xs:List V):Prop:=¬dZ i (c t)/\H t=some (.tup xs)
def Nd (i:Nat)(c:Col)(H:Hp)(t:Addr)(xs:List V):Prop:=¬dZ i (c t)/\H t=some (.lst xs)
def qK (i:Nat)(c:Col)(H:Hp):R.fH->Addr->Prop
 | .mat cs,t=>∃L,xS i c H t [.str (ar "matter"),.ref L]/\Nd i c H L ((cs.map (sr R.bl1)).map V.str)
 | .ed m k j ws,t=>∃e,xS i c H t [.str (R.kEd m),.ref e]/\TupAt c H e (R.edR k j (sr R.bl1 ws))
 | .pt ws,t=>xS i c H t [.str (ar "point"),.str (sr R.bl1 ws)]
 | .nums kd ns,t=>xS i c H t (.str kd::ns.map V.int)
section
variable{i:Nat}{c c':Col}{H H':Hp}{t:Addr}{xs:List V}
theorem xS.step (s:Step (dZ i) c c' H H')(h:xS i c H t xs):xS i c' H' t xs:=⟨by rw[s.col t _ h.2 h.1];exact h.1,s.keep _ _ h.2 h.1⟩
theorem Nd.step (s:Step (dZ i) c c' H H')(h:Nd i c H t xs):Nd i c' H' t xs:=⟨by rw[s.col t _ h.2 h.1];exact h.1,s.keep _ _ h.2 h.1⟩
theorem qK.step (s:Step (dZ i) c c' H H'):∀ {d:R.fH},qK i c H d t->qK i c' H' d t
 | .mat _,⟨L,a,b⟩=>⟨L,a.step s,b.step s⟩
 | .ed _ _ _ _,⟨e,a,b⟩=>⟨e,a.step s,b.step s⟩
 | .pt _,h=>xS.step s h
 | .nums _ _,h=>xS.step s h
theorem qK.at {K:ba}:∀ {d:R.fH},qK i c H d t->R.r6 K H d t
 | .mat _,⟨L,a,b⟩=>⟨L,SqT.of a.2,SqL.of b.2⟩
 | .ed _ _ _ _,⟨e,a,b⟩=>⟨e,SqT.of a.2,b.sq⟩
 | .pt _,h=>SqT.of h.2
 | .nums _ _,h=>SqT.of h.2
end
theorem Fh {k:Nat}{j:Int}{x:Str}(h:k=0\/k=1\/k=2):R.edR k j x=gv ⟨k,j,x⟩:=by
 rcases h with rfl | rfl | rfl <;> rfl
theorem gw {t1 t2:TS}{D:Ends}{σ:St}{H:Hp}(J:St->Hp->Prop)(h2:∀σ' H',J σ' H'->t2 D σ' H')(h1:∀N:St->Hp->Prop,(∀σ' H',J σ' H'->N σ' H')->t1 { D with nx:=N } σ H):ZJ t1 t2 D σ H:=h1 (t2 D) h2
def Ch.opened (st:Ch):Ch:={ st with closed:=if st.aw=[] then false else st.closed }
def Ch.uJ (st:Ch)(row:Str):Ch:={ st.opened with rows:=st.rows++[row] }
def P8 (A:Adr)(i:Nat):Sp:=λvs H Q _=>∃(o t:Addr) (c:Col) (st:Ch) (d:R.fH),vs=[.ref o,.ref t]/\fK A i c H o st/\qK i c H d t/\R.DOk d/\st.rows.length<=1000 /\
 ∀c' H',Step (dZ i) c c' H H'->fK A i c' H' o (st.uJ (R.r8 d))->Q .non H'
def P9 (A:Adr)(i:Nat):Sp:=λvs H Q _=>∃(o:Addr) (u:Int) (c:Col) (st:Ch) (n:Nat) (r:List Nat),vs=[.ref o,.int u]/\fK A i c H o st/\st.aw=n::r/\n∉st.az.map (·.1)/\st.az.length<=1000 /\
 ∀c' H',Step (dZ i) c c' H H'->fK A i c' H' o (st.m9 n u)->Q .non H'
def Ch.Qa (st:Ch)(n:Nat)(tx:List Str)(e:Ed):Ch:={ st with made:=st.made.set (n - 1) (.mat (bI tx e)),kept:=qY n e st.kept }
def Qb (A:Adr)(i:Nat):Sp:=λvs H Q _=>∃(o t:Addr) (c:Col) (st:Ch) (n:Nat) (r:List Nat) (tx:List Str) (e:Ed) (x:Nat×List Ed),vs=[.ref o,.ref t]/\fK A i c H o st/\st.aw=n::r/\dC st n/\st.mo n=.mat tx/\tx.length<=1000/\st.made.length<=1000 /\
 TupAt c H t (gv e)/\qW e/\gK tx.length e=true/\at1 n st.kept=some x/\x.2.length<=1000/\(st.kept.map (·.1)).Nodup /\
 ∀c' H',Step (dZ i) c c' H H'->fK A i c' H' o (st.Qa n tx e)->Q .non H'
def Ch.Qc (st:Ch)(n:Nat)(e:Ed)(ws:List Str):Ch:={ st with made:=st.made.set (n - 1) (.chg ⟨e.k,e.at_,sr R.bl1 ws⟩) }
def Qd (A:Adr)(i:Nat):Sp:=λvs H Q _=>∃(o t:Addr) (c:Col) (st:Ch) (n:Nat) (r:List Nat) (e f:Ed),vs=[.ref o,.ref t]/\fK A i c H o st/\st.aw=r++[n]/\dC st n/\st.mo n=.chg e/\e.k≠1/\qW e/\(R.bp e.th).length<=1000/\st.made.length<=1000 /\
 TupAt c H t (gv f)/\qW f/\gK (R.bp e.th).length f=true/\((bI (R.bp e.th) f).map (·.length)).sum+(bI (R.bp e.th) f).length<=16777216 /\
 ∀c' H',Step (dZ i) c c' H H'->fK A i c' H' o (st.Qc n e (bI (R.bp e.th) f))->Q .non H'
theorem ChX.Sx {A:Adr}{i:Nat}{c:Col}{H:Hp}{o dx aM aP aA aD aF aE aR:Addr}{st:Ch}{ms ds:List Addr}{ws fs es:List V}(X:ChX A i c H o st dx aM aP aA aD aF aE aR ms ds ws fs es){n:Nat}(hn:dC st n) :
  ∃x,gQ (a9 ((aj9 1 st.made.length).zip (ms.map V.ref))) (km (n:Int))=some (.ref x)/\mG A c H (st.mo n) x:=by
 have ml:=X.mot.len;have hlt:n - 1 < st.made.length:=by have:=hn.1;have:=hn.2;omega
 obtain⟨x,e1,e2⟩:=X.mot.get (wa hlt);have hv:=BM ms 1 (n - 1) e1;rw[<-ml,show 1+(n - 1)=n by have:=hn.1;omega]at hv
 have e3:st.mo n=st.made[n - 1]:=by unfold Ch.mo;rw[ajO,wa hlt];rfl
 exact⟨x,hv,by rw[e3];exact e2⟩
section
variable{P:rf}{w:World}{K:ba}{mg:Str->Option Value}{base:Heap}{A:Adr}
theorem qL (T:Txt w.params K mg A){i:Nat}:aJ P w K mg base CX0 5 A.bj A.cA ["self","deed"] (P8 A i):=by
 have kS:aJ P w K mg base CX0 4 A.l4 A.g9 ["deed"] (R.E9 K):=R.qr T;refine T.cM.ok oU (λvs H Q E h=>?_) (λcdv A' outer s H vs Q E hr h=>?_)
 ·obtain⟨o,t,c,st,d,rfl,_⟩:=h;rfl
 ·obtain⟨o,t,c,st,d,rfl,hc,hd,hk,hl,q⟩:=h;have jo:=hr;refine⟨_,(ai (bb (rq (rB (bq (pv 0) rfl) (λ_=>rfl)))
 (aj (eP (pv 0) oH rfl))
 aH)
 (aj (bN (gB om ajQ ajR dq (bq (pv 0) rfl) (aa (aW kS jo rfl T.nA T.kM.kp T.nz .nil a7 (aa (pv 1) ag)) ag))))),?_⟩
  have lim:ka=16777216:=by decide
  refine gw (λσ' H'=>σ'=[some (.ref o),some (.ref t)]/\Step (dZ i) c c H H'/\fK A i c H' o st.opened) ?r (λN nN=>?f)
  case f =>
   refine hide λGg hGg=>?_
   obtain⟨dx,aM,aP,aA,aD,aF,aE,aR,ms,ds,ws,fs,es,X⟩:=hc.ex;refine hGg ?_;refine fj rfl X.ob T.au T.jq0 fb ?_;refine⟨_,.inl ⟨_,.inl (.inl X.aw.2),rfl⟩,?_⟩;cases e:st.aw with
   |nil =>
    refine dM ⟨_,rfl,o,A.ax,dx,_,rfl,X.ob,T.au,T.jq4,(by show 10 < 1000;decide),?_⟩
    rw[BL];obtain⟨s1,X1⟩:=X.attr st.aN false;refine nN _ _ ⟨rfl,s1.il,?_⟩;have e1:st.opened={ st with aN:=st.aN,closed:=false }:=by unfold Ch.opened;rw[e,if_pos rfl]
    rw[e1];exact X1.at
   |cons x r =>
    refine bw (nN _ _ ⟨rfl,Step.refl aO,?_⟩);have e1:st.opened=st:=by unfold Ch.opened;rw[e,if_neg (aj5 _ _)];cases st;cases e;rfl
    rw[e1];exact hc
  case r =>
   rintro σ' H1 ⟨rfl,s1,hc1⟩;refine hide λGg hGg=>?_
   obtain⟨dx,aM,aP,aA,aD,aF,aE,aR,ms,ds,ws,fs,es,X⟩:=hc1.ex;refine hGg ?_;refine fj rfl X.ob T.au T.jqd wb ?_;refine⟨.inl ⟨rfl,_,SqL.of X.rows.2⟩,_,rfl,t,d,rfl,(hd.step s1).at,hk,λH2 s2=>?_⟩
   have X2:=X.same s2;obtain⟨s3,X3⟩:=X2.row (R.r8 d);refine⟨aR,_,_,rfl,rfl,X2.rows.2,by rw[cb];show st.rows.length < _;omega,?_⟩
   exact q c _ ((s1.trans (Step.same aO s2)).trans s3.il) X3.at
theorem Fi (T:Txt w.params K mg A){i:Nat}:aJ P w K mg base CX0 1 A.bD A.eC ["self","until"] (P9 A i):=by
 refine T.dG.ok rH (λvs H Q E h=>?_) (λcdv A' outer s H vs Q E hr h=>?_)
 ·obtain⟨o,u,c,st,n,r,rfl,_⟩:=h;rfl
 ·obtain⟨o,u,c,st,n,r,rfl,hc,hp,hn,hl,q⟩:=h;obtain⟨dx,aM,aP,aA,aD,aF,aE,aR,ms,ds,ws,fs,es,X⟩:=hc.ex;have hu1:=hr.u1;have lim:ka=16777216:=by decide
  refine⟨_,(ai (iw hu1 (bq (pv 0) rfl) (aT bF (bq (pv 0) rfl) af (λ_ _=>rfl)) (bg (aa (pv 1) (aa (bq (pv 0) rfl) ag))) rfl)
 (aj (eP (pv 0) (bQ ag) rfl))),?_⟩
  refine⟨_,rfl,fj rfl X.ob T.au T.jq0 fb ⟨(sl 2),λt ht=>?_⟩⟩
  have s1:=aC (o:=.tup [V.int u,.ref aP]) ht;refine fj rfl (s1 _ _ X.ob) T.au T.jq3 jP ?_;have h0:atI (st.aw.map nV) 0=some (nV n):=by rw[hp];exact eu (j:=0) rfl
  refine fj rfl (s1 _ _ X.ob) T.au T.jq0 fb ⟨aP,_,_,_,rfl,rfl,SqL.of (s1 _ _ X.aw.2),h0,?_⟩;refine⟨aA,_,rfl,oQ.k (k:=km (n:Int)) (s1 _ _ X.az.2) ?_,?_⟩
  ·unfold a9;rw[cb,akR,cb];omega
  have oA:o≠aA:=d0 X.co X.az.1 (λz=>nomatch z)
  refine⟨(sl 0),λp hp0=>?_⟩
  have npA:p≠aA:=λz=>by rw[z,ae]at hp0;cases hp0
  have npt:p≠t:=λz=>by rw[aq npA,z,ae]at hp0;cases hp0
  have hp1:H p=none:=by rw[aq npA,aq npt]at hp0;exact hp0
  have hob:(upd (upd (upd H t (.tup [V.int u,.ref aP])) aA (.dK (putK (a9 ((st.az.map (·.1)).zip ws)) (km (n:Int)) (.ref t)))) p (.lst [])) o=some (.ins A.ax dx (chF (.int st.cJ) (.int st.aN) (.bl st.closed) (.ref aM) (.ref aP) (.ref aA) (.ref aD) (.ref aF) (.ref aE) (.ref aR))):=by
   rw[aq (aG X.ob hp1),aq oA];exact s1 _ _ X.ob
  refine⟨_,rfl,o,A.ax,dx,_,rfl,hob,T.au,T.jq0,(by show 10 < 1000;decide),?_⟩
  rw[Gv];refine hide λGg hGg=>?_
  obtain⟨c',s2,X2⟩:=X.m9 (u:=u) ht hp1 npt hn;refine hGg ?_;exact q c' _ s2.il X2.at
theorem xT (T:Txt w.params K mg A){i:Nat}:aJ P w K mg base CX0 4 A.br A.df ["self","edit"] (Qb A i):=by
 have PX:aJ P w K mg base CX0 1 A.M7 A.Dp ["self","text"] (As A K):=BG T;have Ka:aJ P w K mg base (CXX P w) 3 A.laid A.vA ["things","edit"] (J6 A K):=L9 T;refine T.cB.ok ic (λvs H Q E h=>?_) (λcdv A' outer s H vs Q E hr h=>?_)
 ·obtain⟨o,t,c,st,n,r,tx,e,x,rfl,_⟩:=h;rfl
 ·obtain⟨o,t,c,st,n,r,tx,e,x,rfl,hc,hp,hn,hm,htx,hml,ht,he,hf,hx,hxl,hnd,q⟩:=h;obtain⟨dx,aM,aP,aA,aD,aF,aE,aR,ms,ds,ws,fs,es,X⟩:=hc.ex;have hu1:=hr.u1;have Fj:Room 3 _:=hr;have fG:Room 2 _:=hr.mono (by decide)
  have lim:ka=16777216:=by decide
  refine⟨_,(ai (aZ (i:=2) ic.nd rfl (wt rfl) (aT bF (bq (pv 0) rfl) af (λ_ _=>rfl)))
 (ai (iw hu1 (bq (pv 0) rfl) (pv 2) (gP T.vU PX fG rfl T.vS T.Sd .nil a7 (aa (aW Ka Fj rfl T.JZ T.ES.kp T.JY .nil JM (aa (bq (aY hu1 (bq (pv 0) rfl) (pv 2) (λ_ _=>rfl)) rfl) (aa (pv 1) ag))) ag)) rfl)
 (aj (bN (gB om ajQ ajR dq (aY hu1 (bq (pv 0) rfl) (pv 2) (λ_ _=>rfl)) (aa (pv 1) ag)))))),?_⟩
  refine hide λGg hGg=>?_
  have h0:atI (st.aw.map nV) 0=some (nV n):=by rw[hp];exact eu (j:=0) rfl
  obtain⟨m,hv,hmo⟩:=X.Sx hn;rw[hm]at hmo;obtain⟨_,dm,v,Wq,L,rfl,hL⟩:=hmo;refine hGg ?_;refine fj rfl X.ob T.au T.jq0 fb ⟨aP,_,_,_,rfl,rfl,SqL.of X.aw.2,h0,?_⟩;refine⟨_,rfl,o,A.ax,dx,_,.ref aM,rfl,X.ob,T.au,T.jq2,ip,_,rfl,aM,_,rfl,.inl ⟨_,km (n:Int),.inl X.made.2,rfl,hv.symm⟩,?_⟩;refine⟨m,A.C 0,dm,_,.ref L,rfl,Wq,T.cl 0 (by decide),T.na0,rfl,_,rfl,?_⟩
  refine⟨L,t,tx,e,rfl,SqL.of hL.2,htx,ht.sq,he,λ_ p hp0=>?_,λz=>by rw[hf]at z;cases z⟩
  refineλy dy hy hdy ndy=>?_
  refine⟨y,dy,p,(bI tx e).map V.str,rfl,ae,?_,λp2 hp2=>⟨rfl,?_⟩⟩
  ·exact(((aC hdy).new ((aq (aj2 ndy)).trans hy)).seq (SqL.of ae))
  have hy0:H y=none:=by
   by_cases z:y=p
   ·rw[z,ae]at hy;cases hy
   ·rw[aq z]at hy;exact hy
  have ahF:H dy=none:=by
   by_cases z:dy=p
   ·rw[z,ae]at hdy;cases hdy
   ·rw[aq z]at hdy;exact hdy
  have sm0:bA H (upd (upd (upd H p (.lst ((bI tx e).map V.str))) dy (.own y)) y (.ins (A.C 0) dy [])):=((aC hp0).own ahF).own hy0;have aaO:H p2=none:=by
   cases z:H p2 with
   |none=>rfl
   |some v=>rw[sm0 _ _ z]at hp2;cases hp2
  have sm:bA H (upd (upd (upd (upd (upd H p (.lst ((bI tx e).map V.str))) dy (.own y)) y (.ins (A.C 0) dy [])) p2 (.lst ((bI tx e).map V.str))) y (.ins (A.C 0) dy (pI 0 (.ref p2)))):=(sm0.own aaO).own hy0;have nyp:y≠p2:=λz=>by rw[<-z,ae]at hp2;cases hp2
  have X1:=X.cl sm;have hmn:mG A (d6 c H) (upd (upd (upd (upd (upd H p (.lst ((bI tx e).map V.str))) dy (.own y)) y (.ins (A.C 0) dy [])) p2 (.lst ((bI tx e).map V.str))) y (.ins (A.C 0) dy (pI 0 (.ref p2)))) (.mat (bI tx e)) y :=
   ⟨cS hy0,dy,.ref p2,ae,p2,rfl,cS aaO,(aq (aj2 nyp)).trans ae⟩
  have st1:Step (dZ i) c (d6 c H) H _:=Step.cl aO sm;have ht1:=ht.step st1;generalize upd (upd (upd (upd (upd H p (.lst ((bI tx e).map V.str))) dy (.own y)) y (.ins (A.C 0) dy [])) p2 (.lst ((bI tx e).map V.str))) y (.ins (A.C 0) dy (pI 0 (.ref p2)))=H1 at X1 hmn st1 ht1 ⊢;generalize d6 c H=c1 at X1 hmn st1 ht1;refine fj rfl X1.ob T.au T.jq2 ip ⟨_,rfl,aM,_,rfl,oQ.k (k:=km (n:Int)) X1.made.2 ?_,?_⟩
  ·unfold a9;rw[cb,akR,akF];omega
  obtain⟨s2,X2⟩:=X1.Mt hn hmn;have ht2:=ht1.step s2.il;generalize upd H1 aM (.dK (putK (a9 ((aj9 1 st.made.length).zip (ms.map V.ref))) (km (n:Int)) (.ref y)))=H2 at s2 X2 ht2 ⊢;refine hide λGg hGg=>?_
  obtain⟨pk,ts,hv2,hl2,tl⟩:=X2.gk hx;refine hGg ?_;refine⟨_,rfl,o,A.ax,dx,_,.ref aE,rfl,X2.ob,T.au,T.jq5,sg,_,rfl,aE,_,rfl,.inl ⟨_,km (n:Int),.inl X2.kQ.2,rfl,hv2.symm⟩,?_⟩;refine⟨.inl ⟨rfl,_,SqL.of hl2.2⟩,_,rfl,pk,_,_,rfl,rfl,hl2.2,by rw[cb];omega,?_⟩
  obtain⟨s3,X3⟩:=X2.Fg hv2 hl2 hnd ht2;exact q c1 _ ((st1.trans s2.il).trans s3.il) X3.at
theorem xU (T:Txt w.params K mg A){i:Nat}:aJ P w K mg base CX0 4 A.bt A.dg ["self","edit"] (Qd A i):=by
 have PY:aJ P w K mg base CX0 1 A.M8 A.Dq ["self","edit"] (jO A 1):=mE T;have Ka:aJ P w K mg base (CXX P w) 3 A.laid A.vA ["things","edit"] (J6 A K):=L9 T;have fJ:aJ P w K mg base CX0 1 A.words_of A.fq ["clause"] R.gi:=R.kP T;have r9:aJ P w K mg base CX0 1 A.pq A.i7 ["words"] (R.uG K):=R.vY T;refine T.cC.ok dc (λvs H Q E h=>?_) (λcdv A' outer s H vs Q E hr h=>?_)
 ·obtain⟨o,t,c,st,n,r,e,f,rfl,_⟩:=h;rfl
 ·obtain⟨o,t,c,st,n,r,e,f,rfl,hc,hp,hn,hm,hk1,heo,hwl,hml,ht,hfo,hf,hsz,q⟩:=h;obtain⟨dx,aM,aP,aA,aD,aF,aE,aR,ms,ds,ws,fs,es,X⟩:=hc.ex;have hu1:=hr.u1;have Fj:Room 3 _:=hr;have fG:Room 2 _:=hr.mono (by decide)
  have eI:Room 1 _:=hr.mono (by decide)
  have qt:Room 1 _:=hr.mono (by decide)
  have lim:ka=16777216:=by decide
  refine⟨_,(ai (aZ (i:=2) dc.nd rfl (wt rfl) (aT bF (bq (pv 0) rfl) (oJ jA af) (λ_ _=>rfl)))
 (ai (aZ (i:=3) dc.nd rfl (wt rfl) (bq (aY hu1 (bq (pv 0) rfl) (pv 2) (λ_ _=>rfl)) rfl))
 (ai (aZ (i:=4) dc.nd rfl (wt rfl) (aW Ka Fj rfl T.JZ T.ES.kp T.JY .nil JM (aa (aW fJ eI rfl T.jM T.iF.kp T.jL .nil a7 (aa (aT aU (pv 3) af (λ_ _=>rfl)) ag)) (aa (pv 1) ag))))
 (aj (iw hu1 (bq (pv 0) rfl) (pv 2) (gP T.vV PY fG rfl T.vT T.Se .nil a7 (aa (bg (aa (aT aU (pv 3) af (λ_ _=>rfl)) (aa (aT aU (pv 3) af (λ_ _=>rfl)) (aa (aW r9 qt rfl T.rP T.nv.kp T.rO .nil a7 (aa (pv 4) ag)) ag)))) ag)) rfl))))),?_⟩
  refine hide λGg hGg=>?_
  have h0:atI (st.aw.map nV) (-1)=some (nV n):=by rw[hp,kx];exact i4 _ _
  obtain⟨m,hv,hmo⟩:=X.Sx hn;rw[hm]at hmo;obtain⟨_,dm,v,Wq,te,rfl,hte⟩:=hmo;refine hGg ?_;refine⟨_,rfl,o,A.ax,dx,_,.ref aP,rfl,X.ob,T.au,T.jq0,fb,_,rfl,aP,_,_,_,rfl,rfl,SqL.of X.aw.2,h0,?_⟩;refine⟨_,rfl,o,A.ax,dx,_,.ref aM,rfl,X.ob,T.au,T.jq2,ip,_,rfl,aM,_,rfl,.inl ⟨_,km (n:Int),.inl X.made.2,rfl,hv.symm⟩,?_⟩;refine⟨m,A.C 1,dm,_,.ref te,rfl,Wq,T.cl 1 (by decide),T.na1,rfl,?_⟩
  have h2:=uD (e:=e) hk1;refine ixv rfl hte.sq h2 ⟨e.th,rfl,?_,λp1 hp1=>?_⟩
  ·have:=heo.th.len;omega
  have s1:=aC (o:=.lst ((R.bp e.th).map V.str)) hp1;refine⟨_,rfl,p1,t,R.bp e.th,f,rfl,SqL.of ae,hwl,bV s1 ht.sq,hfo,λ_ p2 hp2=>?_,λz=>by rw[hf]at z;cases z⟩
  have s2:=s1.new (o:=.lst ((bI (R.bp e.th) f).map V.str)) hp2;refine ixv rfl (bV s2 hte.sq) (nS e) (ixv rfl (bV s2 hte.sq) (uC e) ⟨_,rfl,p2,_,rfl,SqL.of ae,hsz,(sl 3),λtn htn=>?_⟩)
  have s3:=s2.new (o:=.tup [V.str (kn e.k),.int e.at_,.str (sr R.bl1 (bI (R.bp e.th) f))]) htn;refineλy dy hy hdy ndy=>?_
  refine⟨y,dy,.ref tn,rfl,ae,rfl,?_⟩;have hno:∀ {a:Addr},(upd (upd (upd H p1 (.lst ((R.bp e.th).map V.str))) p2 (.lst ((bI (R.bp e.th) f).map V.str))) tn (.tup [V.str (kn e.k),.int e.at_,.str (sr R.bl1 (bI (R.bp e.th) f))])) a=none->H a=none:=by
   intro a ha;cases z:H a with
   |none=>rfl
   |some v=>rw[s3 _ _ z]at ha;cases ha
  have nyt:y≠tn:=λz=>by rw[z,ae]at hy;cases hy
  have ndt:dy≠tn:=λz=>by rw[z,ae]at hdy;cases hdy
  have ahG:H tn=none:=by
   cases z:H tn with
   |none=>rfl
   |some v=>rw[s2 _ _ z]at htn;cases htn
  have sm:=((s3.own (o:=.own y) (hno hdy)).own (o:=.ins (A.C 1) dy []) (hno hy)).own (o:=.ins (A.C 1) dy (pI 1 (.ref tn))) (hno hy);have X1:=X.cl sm;have er:gv ⟨e.k,e.at_,sr R.bl1 (bI (R.bp e.th) f)⟩=[V.str (kn e.k),.int e.at_,.str (sr R.bl1 (bI (R.bp e.th) f))]:=by
   obtain⟨k,a,th⟩:=e;have h3:=heo.k3;dsimp only at h3 hk1 ⊢;rcases h3 with rfl | rfl | rfl
   ·rfl
   ·exact absurd rfl hk1
   ·rfl
  have hmn:=(⟨cS (hno hy),dy,.ref tn,ae,tn,rfl,cS ahG,.inl (by rw[aq (aj2 nyt),aq (aj2 nyt),aq (aj2 ndt),ae,er])⟩:mG A (d6 c H) (upd (upd (upd (upd (upd (upd H p1 (.lst ((R.bp e.th).map V.str))) p2 (.lst ((bI (R.bp e.th) f).map V.str))) tn (.tup [V.str (kn e.k),.int e.at_,.str (sr R.bl1 (bI (R.bp e.th) f))])) dy (.own y)) y (.ins (A.C 1) dy [])) y (.ins (A.C 1) dy (pI 1 (.ref tn)))) (.chg ⟨e.k,e.at_,sr R.bl1 (bI (R.bp e.th) f)⟩) y)
  have st1:Step (dZ i) c (d6 c H) H _:=Step.cl aO sm;generalize upd (upd (upd (upd (upd (upd H p1 (.lst ((R.bp e.th).map V.str))) p2 (.lst ((bI (R.bp e.th) f).map V.str))) tn (.tup [V.str (kn e.k),.int e.at_,.str (sr R.bl1 (bI (R.bp e.th) f))])) dy (.own y)) y (.ins (A.C 1) dy [])) y (.ins (A.C 1) dy (pI 1 (.ref tn)))=H1 at X1 hmn st1 ⊢;generalize d6 c H=c1 at X1 hmn st1;refine fj rfl X1.ob T.au T.jq2 ip ⟨_,rfl,aM,_,rfl,oQ.k (k:=km (n:Int)) X1.made.2 ?_,?_⟩
  ·unfold a9;rw[cb,akR,akF];omega
  obtain⟨s4,X2⟩:=X1.Mt hn hmn;exact q c1 _ (st1.trans s4.il) X2.at
end
end My
set_option maxHeartbeats 1000000
namespace My
open PySem L2
seal PySem.wpAny
def yF (below:List Mn):Mn->Prop
 | .mat _=>below=[]
 | .chg e=>∃tx,below=[.mat tx]/\gK tx.length e=true
 | .mnd f=>∃tx e,below=[.mat tx,.chg e]/\e.k≠1/\gK (R.bp e.th).length f=true
 | .off _=>(∃tx r,below=.mat tx::r)/\∀b∈below,b.k < 3
 | .cls=>(∃tx r,below=.mat tx::r)/\∀b∈below,b.k < 4
 | .lay=>(∃tx r,below=.mat tx::r)/\∀b∈below,b.k < 5
 | .rst=>∀b∈below,b.k < 6
 | .pnt _=>∀b∈below,b.k < 7
inductive PMs:List Mn->Prop
 |nil:PMs []
 |snoc {ms:List Mn} {m:Mn}:PMs ms->yF ms m->PMs (ms++[m])
theorem PMs.pop {ms:List Mn}{m:Mn}(h:PMs (ms++[m])):PMs ms/\yF ms m:=by
 generalize e:ms++[m]=l at h;cases h with
 |nil=>simp at e
 |snoc h1 h2 =>
  obtain⟨e1,e2⟩:=List.append_inj' e rfl;cases e2;subst e1;exact⟨h1,h2⟩
theorem yF.lt {below:List Mn}:∀ {m:Mn},yF below m->∀b∈below,b.k < m.k
 | .mat _,h,b,hb=>by rw[h]at hb;cases hb
 | .chg _,⟨tx,h,_⟩,b,hb=>by
  rw[h,akd]at hb;rw[hb];show 0 < 1;decide
 | .mnd _,⟨tx,e,h,_,_⟩,b,hb=>by
  rw[h]at hb;rcases List.mem_cons.mp hb with rfl | hb
  ·show 0 < 2;decide
  ·rw[akd]at hb;rw[hb];show 1 < 2;decide
 | .off _,h,b,hb=>h.2 b hb
 | .cls,h,b,hb=>h.2 b hb
 | .lay,h,b,hb=>h.2 b hb
 | .rst,h,b,hb=>h b hb
 | .pnt _,h,b,hb=>h b hb
theorem PMs.le_top {ms:List Mn}(h:PMs ms):∀b∈ms,(b.k:Int)<=qX ms:=by
 cases h with
 |nil=>intro b hb;cases hb
 |snoc h1 h2 =>
  intro b hb;rw[pL];rcases List.mem_append.mp hb with hb | hb
  ·have:=h2.lt b hb;omega
  ·rw[akd]at hb;rw[hb];exact Int.le_refl _
theorem PMs.Kb {ms:List Mn}(h:PMs ms):t7 ms=true->∃tx r,ms=.mat tx::r:=by
 induction h with
 |nil=>intro h;cases h
 | @snoc ms m h1 h2 ih =>
  intro h;unfold t7 at h ih;rw[List.any_append,Bool.or_eq_true]at h;rcases h with h | h
  ·obtain⟨tx,r,e⟩:=ih h;exact⟨tx,r++[m],by rw[e];rfl⟩
  ·cases m with
   |mat tx =>
    have:ms=[]:=h2;rw[this];exact⟨tx,[],rfl⟩
   |_=>simp[Mn.k]at h
theorem PMs.len {ms:List Mn}(h:PMs ms):(ms.length:Int)<=qX ms+1:=by
 induction h with
 |nil=>decide
 | @snoc ms m h1 h2 ih =>
  rw[pL,ky,ajW];have:qX ms < (m.k:Int):=by
   unfold qX;split
   ·omega
   ·rename_i b hb;have:=h2.lt b (List.mem_of_getLast? hb);omega
  omega
theorem PMs.Gz {ms:List Mn}(h:PMs ms):ms.length<=8:=by
 have:=h.len;have:=P2 ms;omega
theorem sD (cl:Bool)(ms:List Mn):qX ms<=nY cl ms:=by
 unfold nY;split
 ·split <;> omega
 ·exact Int.le_refl _
theorem wg {cl:Bool}{ms:List Mn}{k:Nat}(h:sx cl ms k=none):qX ms < (k:Int)/\sv ms k=true:=by
 have hb:=sD cl ms;unfold sx at h;split at h
 ·cases h
 ·split at h
  ·exact⟨by omega,by assumption⟩
  ·split at h <;> cases h
theorem BV {ms:List Mn}(h:qX ms < 0):ms=[]:=by
 rcases ajX ms with e | ⟨r,b,e⟩
 ·exact e
 ·rw[e,ajY,pL]at h;omega
def aaP (ms:List Mn):Mn->Prop
 | .chg e=>∀tx r,ms=.mat tx::r->gK tx.length e=true
 | .mnd f=>∀r e,ms=r++[.chg e]->gK (R.bp e.th).length f=true
 |_=>True
theorem pN {α:Type}{xs:List α}{x:α}(h:xs.getLast?=some x):∃r,xs=r++[x]:=by
 rcases ajX xs with e | ⟨r,b,e⟩
 ·rw[e]at h;cases h
 ·rw[ajY]at e;rw[e,akp]at h;cases h;exact⟨r,e⟩
theorem PMs.push {cl:Bool}{ms:List Mn}(h:PMs ms){m:Mn}(ho:sx cl ms m.k=none)(hf:aaP ms m):PMs (ms++[m]):=by
 obtain⟨h1,h2⟩:=wg ho;have lt:∀b∈ms,b.k < m.k:=λb hb=>by have:=h.le_top b hb;omega
 refine .snoc h ?_;cases m with
 |mat tx=>exact BV h1
 |chg e =>
  obtain⟨tx,r,e1⟩:=h.Kb h2;refine⟨tx,?_,hf tx r e1⟩;rcases ajX r with e2 | ⟨r',b,e2⟩
  ·rw[e1,e2]
  ·rw[ajY]at e2;have hb:b.k < 1:=lt b (by rw[e1,e2];simp)
   rw[e1,e2,<-List.cons_append]at h;have ht:=h.pop.2;cases b with
   |mat ty=>exact absurd ht (aj5 _ _)
   |_=>simp[Mn.k]at hb
 |mnd f =>
  have h3:fL ms=true:=h2;unfold fL at h3;split at h3
  ·rename_i e he;obtain⟨r,e1⟩:=pN he;rw[e1]at h;obtain⟨tx,e2,_⟩:=h.pop.2;refine⟨tx,e,by rw[e1,e2];rfl,?_,hf r e e1⟩
   intro z;rw[z]at h3;cases h3
  ·cases h3
 |off n=>exact⟨h.Kb h2,lt⟩
 |cls=>exact⟨h.Kb h2,lt⟩
 |lay=>exact⟨h.Kb h2,lt⟩
 |rst=>exact lt
 |pnt z=>exact lt
theorem Fl {st:Ch}{n:Nat}{m:Mn}(hn:dC st n){st':Ch}(h:st'.made=st.made.set (n - 1) m):st'.mo n=m:=by
 unfold Ch.mo;have:=hn.1;have:=hn.2;rw[h,ajO,akT (by omega)]
 rfl
theorem tY {st:Ch}{n k:Nat}{m:Mn}(hn:dC st n)(h1:1<=k)(ne:k≠n){st':Ch}(h:st'.made=st.made.set (n - 1) m):st'.mo k=st.mo k:=by
 unfold Ch.mo;have:=hn.1;rw[h,ajO,ak2 (by omega),<-ajO]
theorem Kc {st:Ch}{m:Mn}{st':Ch}(h:st'.made=st.made++[m]){k:Nat}(hk:dC st k):st'.mo k=st.mo k:=by
 unfold Ch.mo;have:=hk.1;have:=hk.2;rw[h,ajO,List.getElem?_append_left (by omega),<-ajO]
theorem Kd {st:Ch}{m:Mn}{st':Ch}(h:st'.made=st.made++[m]):st'.mo (st.made.length+1)=m:=by
 unfold Ch.mo;rw[h,ajO,Nat.add_sub_cancel,List.getElem?_append_right (kr _),Nat.sub_self];rfl
def EdB (N:Nat)(e:Ed):Prop:=(e.k=0\/e.k=1\/e.k=2)/\-1000<=e.at_/\e.at_<=1000/\∃ws,e.th=sr R.bl1 ws/\(∀w∈ws,R.nX w)/\ws.length<=N
def MOk (N:Nat):Mn->Prop
 | .mat tx=>tx.length<=12+N/\∀x∈tx,ajZ x=true
 | .chg e=>EdB (12+N) e
 | .mnd f=>EdB 1 f/\∃w,f.th=w/\R.nX w
 | .off u=>-10000000000 < u/\u < 10000000000
 | .pnt z=>ajZ z=true
 |_=>True
theorem EdB.mono {N M:Nat}(h:N<=M){e:Ed}(z:EdB N e):EdB M e:=by
 obtain⟨a,b,c,ws,d,f,g⟩:=z;exact⟨a,b,c,ws,d,f,ajI g h⟩
theorem MOk.mono {N M:Nat}(h:N<=M):∀ {m:Mn},MOk N m->MOk M m
 | .mat tx,z=>⟨ajI z.1 (by omega),z.2⟩
 | .chg e,z=>EdB.mono (by omega) z
 | .mnd f,z=>z
 | .off u,z=>z
 | .cls,_=>trivial
 | .lay,_=>trivial
 | .rst,_=>trivial
 | .pnt _,z=>z
def Ch.all (st:Ch):List Nat:=st.aw++(st.az.flatMap (·.2.2)++st.decided.map (·.1))
def Ch.wj (st:Ch):List Nat:=(aj9 1 st.made.length).filter λn=>decide ((st.mo n).k=0)
structure Inv (N:Nat)(st:Ch):Prop where
 lm:3 * st.made.length<=N
 lr:st.rows.length<=N
 ld:st.decided.length<=N
 la:st.az.length<=N
 lk:∀x∈st.kept,x.2.length<=N
 sit:1<=st.aN/\st.aN<=N+1
 mok:∀m∈st.made,MOk N m
 num:∀n∈st.all,dC st n
 nd:st.all.Nodup
 pil:PMs (st.aw.map st.mo)
 asd:∀x∈st.az,PMs (x.2.2.map st.mo)/\(∃r,x.2.2=x.1::r)/\-10000000000 < x.2.1/\x.2.1 < 10000000000
 kk:st.kept.map (·.1)=st.wj
 ff:st.firsts.map (·.1)=st.wj
 dw:∀x∈st.decided,ajZ x.2=true
theorem Inv.mono {N M:Nat}(h:N<=M){st:Ch}(I:Inv N st):Inv M st where
 lm:=ajI I.lm h
 lr:=ajI I.lr h
 ld:=ajI I.ld h
 la:=ajI I.la h
 lk:=λx hx=>ajI (I.lk x hx) h
 sit:=⟨I.sit.1,by have:=I.sit.2;omega⟩
 mok:=λm hm=>(I.mok m hm).mono h
 num:=I.num
 nd:=I.nd
 pil:=I.pil
 asd:=I.asd
 kk:=I.kk
 ff:=I.ff
 dw:=I.dw
theorem Inv.wk {N:Nat}{st:Ch}(I:Inv N st){n:Nat}(hn:dC st n):MOk N (st.mo n):=by
 have:=hn.1;have:=hn.2;have hlt:n - 1 < st.made.length:=by omega
 have e:st.mo n=st.made[n - 1]:=by unfold Ch.mo;rw[ajO,wa hlt];rfl
 rw[e];exact I.mok _ (List.getElem_mem hlt)
theorem Inv.bT {N:Nat}{st:Ch}(I:Inv N st):∀n∈st.aw,dC st n:=λn hn=>I.num n (akv _ hn)
theorem Inv.sE {N:Nat}{st:Ch}(I:Inv N st){x:Nat×Int×List Nat}(hx:x∈st.az):∀n∈x.2.2,dC st n:=λn hn =>
 I.num n (Lk _ (akv _ (List.mem_flatMap.mpr ⟨x,hx,hn⟩)))
theorem Inv.Mu {N:Nat}{st:Ch}(I:Inv N st){n:Nat}(hn:n∈st.aw){x:Nat×Int×List Nat}(hx:x∈st.az):n∉x.2.2:=λz =>
 (List.nodup_append.mp I.nd).2.2 n hn n (akv _ (List.mem_flatMap.mpr ⟨x,hx,z⟩)) rfl
theorem Inv.Fm {N:Nat}{st:Ch}(I:Inv N st){n:Nat}(hn:n∈st.aw):n∉st.az.map (·.1):=λz=>by
 obtain⟨x,hx,e⟩:=List.mem_map.mp z;obtain⟨r,er⟩:=(I.asd x hx).2.1;exact I.Mu hn hx (by rw[er,e];exact gn)
theorem Sy {st st':Ch}(hl:st'.made.length=st.made.length)(hk:∀n,dC st n->(st'.mo n).k=(st.mo n).k):st'.wj=st.wj:=by
 unfold Ch.wj;rw[hl];refine List.filter_congr λn hn=>?_
 rw[akK]at hn;rw[hk n ⟨hn.1,by omega⟩]
theorem Ke (st:Ch):st.wj.Nodup:=List.filter_sublist.nodup List.nodup_range'
theorem Inv.keptAt {N:Nat}{st:Ch}(I:Inv N st){n:Nat}(hn:dC st n)(hk:(st.mo n).k=0):∃x,at1 n st.kept=some x/\x.2.length<=N:=by
 cases e:at1 n st.kept with
 |some x=>exact⟨x,rfl,I.lk x (hU e).2⟩
 |none =>
  have h:=sC e;rw[I.kk]at h;have hr:n∈aj9 1 st.made.length:=by
   rw[akK];have:=hn.1;have:=hn.2;omega
  exact absurd (show n∈st.wj from List.mem_filter.mpr ⟨hr,by exact decide_eq_true hk⟩) h
def Ch.popped (st:Ch)(pre:List Nat)(n:Nat)(wd:Str):Ch:={ st with aw:=pre,decided:=st.decided++[(n,wd)] }
theorem Inv.pop {N:Nat}{st:Ch}(I:Inv N st){pre:List Nat}{n:Nat}(e:st.aw=pre++[n])(wd:Str)(hw:ajZ wd=true):Inv (N+1) (st.popped pre n wd)/\yF (pre.map st.mo) (st.mo n):=by
 have hp:=I.pil;rw[e,kx]at hp;obtain⟨p1,p2⟩:=PMs.pop hp;have perm:ala (st.popped pre n wd).all st.all:=by
  unfold Ch.all Ch.popped;rw[e,kx];have:ala (st.az.flatMap (·.2.2)++(st.decided.map (·.1)++[(n,wd)].map (·.1))) ([n]++(st.az.flatMap (·.2.2)++st.decided.map (·.1))):=by
   rw[<-akQ];exact List.perm_append_comm
  exact(List.Perm.append_left pre this).trans (by rw[akQ])
 refine⟨⟨aj0 I.lm,aj0 I.lr,?_,aj0 I.la,λx hx=>aj0 (I.lk x hx),⟨I.sit.1,by have:=I.sit.2;show st.aN<=_;omega⟩,λm hm=>(I.mok m hm).mono (by omega),λk hk=>I.num k (perm.mem_iff.mp hk),perm.nodup_iff.mpr I.nd,p1,I.asd,I.kk,I.ff,?_⟩,p2⟩
 ·show (st.decided++[(n,wd)]).length<=_;rw[ky,ajW];have:=I.ld;omega
 ·intro x hx;rcases List.mem_append.mp hx with h | h
  ·exact I.dw x h
  ·rw[akd]at h;rw[h];exact hw
theorem Inv.uJ {N:Nat}{st:Ch}(I:Inv N st)(z:Str):Inv (N+1) (st.uJ z):=by
 refine⟨aj0 I.lm,?_,aj0 I.ld,aj0 I.la,λx hx=>aj0 (I.lk x hx),⟨I.sit.1,by have:=I.sit.2;show st.aN<=_;omega⟩,λm hm=>(I.mok m hm).mono (by omega),I.num,I.nd,I.pil,I.asd,I.kk,I.ff,I.dw⟩
 show (st.rows++[z]).length<=_;rw[ky,ajW];have:=I.lr;omega
theorem Inv.Ua {N:Nat}{st:Ch}(I:Inv N st){n:Nat}{m:Mn}(hn:n∈st.aw)(hk:m.k=(st.mo n).k)(hm:MOk (N+1) m){kp:List (Nat×List Ed)}(ek:kp.map (·.1)=st.kept.map (·.1))(lk:∀x∈kp,x.2.length<=N+1)
  (hp:PMs (st.aw.map (Ch.mo { st with made:=st.made.set (n - 1) m,kept:=kp }))):Inv (N+1) { st with made:=st.made.set (n - 1) m,kept:=kp }:=by
 have hno:=I.bT n hn;have kinds:∀k,dC st k->(Ch.mo { st with made:=st.made.set (n - 1) m,kept:=kp } k).k=(st.mo k).k:=λk h=>by
  by_cases z:k=n
  ·subst z;rw[Fl hno rfl,hk]
  ·rw[tY hno h.1 z rfl]
 have em:Ch.wj { st with made:=st.made.set (n - 1) m,kept:=kp }=st.wj:=Sy (by show (st.made.set (n - 1) m).length=_;rw[aky]) kinds
 refine⟨?_,aj0 I.lr,aj0 I.ld,aj0 I.la,lk,⟨I.sit.1,by have:=I.sit.2;show st.aN<=_;omega⟩,?_,?_,I.nd,hp,?_,by rw[em,<-I.kk];exact ek,by rw[em];exact I.ff,I.dw⟩
 ·show 3 * (st.made.set (n - 1) m).length<=_;rw[aky];have:=I.lm;omega
 ·intro x hx;rcases List.mem_or_eq_of_mem_set hx with h | h
  ·exact(I.mok x h).mono (by omega)
  ·rw[h];exact hm
 ·intro k hk;have:=I.num k hk;exact⟨this.1,by show k<=(st.made.set (n - 1) m).length;rw[aky];exact this.2⟩
 ·intro x hx;obtain⟨h1,h2⟩:=I.asd x hx;refine⟨?_,h2⟩;have:x.2.2.map (Ch.mo { st with made:=st.made.set (n - 1) m,kept:=kp })=x.2.2.map st.mo:=akS λk hk =>
   tY hno (I.sE hx k hk).1 (λz=>I.Mu hn hx (by rw[<-z];exact hk)) rfl
  rw[this];exact h1
theorem Inv.m9 {N:Nat}{st:Ch}(I:Inv N st){n:Nat}{r:List Nat}(e:st.aw=n::r){u:Int}(h0:-10000000000 < u)(h1:u < 10000000000):Inv (N+1) (st.m9 n u):=by
 have perm:ala (st.m9 n u).all st.all:=by
  unfold Ch.all Ch.m9;rw[List.flatMap_append,List.nil_append];show ala ((st.az.flatMap (·.2.2)++[(n,u,st.aw)].flatMap (·.2.2))++st.decided.map (·.1)) _
  rw[show [(n,u,st.aw)].flatMap (·.2.2)=st.aw by simp,<-akQ]
  exact List.Perm.append_right _ List.perm_append_comm
 refine⟨aj0 I.lm,aj0 I.lr,aj0 I.ld,?_,λx hx=>aj0 (I.lk x hx),⟨I.sit.1,by have:=I.sit.2;show st.aN<=_;omega⟩,λm hm=>(I.mok m hm).mono (by omega),λk hk=>I.num k (perm.mem_iff.mp hk),perm.nodup_iff.mpr I.nd,.nil,?_,I.kk,I.ff,I.dw⟩
 ·show (st.az++[(n,u,st.aw)]).length<=_;rw[ky,ajW];have:=I.la;omega
 ·intro x hx;rcases List.mem_append.mp hx with hx | hx
  ·exact I.asd x hx
  ·rw[akd]at hx;subst hx;exact⟨I.pil,⟨r,e⟩,h0,h1⟩
def Ch.carry (st:Ch):Mn->Ch
 | .chg e=>match st.aw with
  |n::_=>(match st.mo n with
   | .mat tx=>st.Qa n tx e
   |_=>st)
  |[]=>st
 | .mnd f=>match st.aw.getLast? with
  |some n=>(match st.mo n with
   | .chg e=>st.Qc n e (bI (R.bp e.th) f)
   |_=>st)
  |none=>st
 | .off u=>match st.aw with
  |n::_=>st.m9 n u
  |[]=>st
 | .cls=>{ st with closed:=true }
 | .lay=>match st.aw with
  |n::_=>st.m9 n st.aN
  |[]=>st
 | .rst=>{ st with aN:=st.aN+1 }
 |_=>st
end My
set_option maxHeartbeats 1000000
namespace My
open PySem L2
seal PySem.wpAny
theorem tZ (xs:List Str)(e:Ed):(bI xs e).length<=xs.length+1:=by
 unfold bI;split
 ·rw[ky,ajK,akm,akV];omega
 ·exact aj0 (List.length_eraseIdx_le _ _)
 ·rw[aky];omega
theorem DR {xs:List Str}{e:Ed}{x:Str}(h:x∈bI xs e):x∈xs\/x=e.th:=by
 unfold bI at h;split at h
 ·rcases List.mem_append.mp h with h | h
  ·exact .inl (List.mem_of_mem_take h)
  ·rcases List.mem_cons.mp h with h | h
   ·exact .inr h
   ·exact .inl (List.mem_of_mem_drop h)
 ·exact .inl (List.mem_of_mem_eraseIdx h)
 ·exact List.mem_or_eq_of_mem_set h
theorem Sz {α β:Type}{f:α->β}{xs:List α}{y:β}(h:xs.map f=[y]):∃a,xs=[a]/\f a=y:=by
 cases xs with
 |nil=>cases h
 |cons a r =>
  cases r with
  |nil=>exact⟨a,rfl,by simpa using h⟩
  |cons b r=>simp at h
theorem Ws {α β:Type}{f:α->β}{xs:List α}{y z:β}(h:xs.map f=[y,z]):∃a b,xs=[a,b]/\f a=y/\f b=z:=by
 cases xs with
 |nil=>cases h
 |cons a r =>
  rw[kj]at h;obtain⟨b,rfl,e⟩:=Sz (List.cons.inj h).2;exact⟨a,b,rfl,(List.cons.inj h).1,e⟩
theorem Nf {α β:Type}{f:α->β}{xs:List α}{y:β}{r:List β}(h:xs.map f=y::r):∃a s,xs=a::s/\f a=y:=by
 cases xs with
 |nil=>cases h
 |cons a s=>exact⟨a,s,rfl,(List.cons.inj h).1⟩
theorem EdB.ok {N:Nat}{e:Ed}(h:EdB N e)(hN:N<=4000):qW e:=by
 obtain⟨a,b,c,ws,d,f,g⟩:=h;refine⟨a,b,c,?_,?_⟩
 ·rw[d];exact pH (λx hx=>by
   rw[show (R.bl1:Str).cps.toList=[32] by decide +kernel,akd]at hx
   omega) ws λw hw=>λx hx=>by have:=(f w hw).sgn x hx;unfold R.Sign at this;omega
 ·rw[d,R.nU];have h1:=tD 32 ws;have h2:=R.DK f;omega
theorem EdB.str {N:Nat}{e:Ed}(h:EdB N e):ajZ e.th=true:=by
 obtain⟨a,b,c,ws,d,f,g⟩:=h;rw[d];exact(pH (λx hx=>by
  rw[show (R.bl1:Str).cps.toList=[32] by decide +kernel,akd]at hx
  omega) ws λw hw=>λx hx=>by have:=(f w hw).sgn x hx;unfold R.Sign at this;omega).ok
theorem EdB.words {N:Nat}{e:Ed}(h:EdB N e):(∀w∈R.bp e.th,R.nX w)/\(R.bp e.th).length<=N:=by
 obtain⟨a,b,c,ws,d,f,g⟩:=h;rw[d,R.lL f];exact⟨f,g⟩
theorem uK {ws:List Str}{f:Ed}(h:∀w∈ws,R.nX w)(hf:R.nX f.th):∀w∈bI ws f,R.nX w:=λw hw=>by
 rcases DR hw with h1 | h1
 ·exact h w h1
 ·rw[h1];exact hf
theorem Ng (n:Nat)(e:Ed)(xs:List (Nat×List Ed)):(qY n e xs).map (·.1)=xs.map (·.1):=by
 unfold qY;rw[List.map_map];refine akS λx _=>?_
 show (if x.1=n then (x.1,x.2++[e]) else x).1=x.1
 split <;> rfl
theorem Qe {n N:Nat}{e:Ed}{xs:List (Nat×List Ed)}(h:∀x∈xs,x.2.length<=N):∀x∈qY n e xs,x.2.length<=N+1:=by
 intro x hx;obtain⟨y,hy,rfl⟩:=List.mem_map.mp hx;have:=h y hy;split
 ·show (y.2++[e]).length<=_;rw[ky,ajW];omega
 ·omega
theorem Inv.carry {N:Nat}{st:Ch}(I:Inv N st)(hN:N<=900){m:Mn}(ht:yF (st.aw.map st.mo) m)(hm:MOk N m):Inv (N+1) (st.carry m):=by
 have J:=I.mono (akH N);cases m with
 |mat tx=>exact J
 |pnt z=>exact J
 |chg e =>
  obtain⟨tx,h1,hf⟩:=ht;obtain⟨k,e1,e2⟩:=Sz h1;have hn:k∈st.aw:=by rw[e1];exact gn
  have htx:=I.wk (I.bT k hn);rw[e2]at htx;have e3:st.carry (.chg e)=st.Qa k tx e:=by unfold Ch.carry;rw[e1];dsimp only;rw[e2]
  rw[e3];refine I.Ua hn (by rw[e2];rfl) ?_ (Ng k e st.kept) (Qe I.lk) ?_
  ·have:=tZ tx e;have h3:tx.length<=12+N:=htx.1;refine⟨by omega,λx hx=>?_⟩
   rcases DR hx with h | h
   ·exact htx.2 x h
   ·rw[h];exact EdB.str hm
  ·rw[e1,kj,akj,Fl (I.bT k hn) rfl];exact PMs.snoc (ms:=[]) .nil rfl
 |mnd f =>
  obtain⟨tx,e,h1,hk,hf⟩:=ht;obtain⟨a,b,e1,e2,e3⟩:=Ws h1;have ha:a∈st.aw:=by rw[e1];exact gn
  have hb:b∈st.aw:=by rw[e1];exact kq _ gn
  have he:=I.wk (I.bT b hb);rw[e3]at he;have he':EdB (12+N) e:=he;obtain⟨w1,w2⟩:=he'.words;have e4:st.carry (.mnd f)=st.Qc b e (bI (R.bp e.th) f):=by unfold Ch.carry;rw[e1];show (match st.mo b with | .chg e=>_ | _=>st)=_;rw[e3];rfl
  rw[e4];obtain⟨_,w,hw,hw2⟩:=hm;refine I.Ua (kp:=st.kept) hb (by rw[e3];rfl) ?_ rfl (λx hx=>aj0 (I.lk x hx)) ?_
  ·refine⟨he'.1,he'.2.1,he'.2.2.1,_,rfl,uK w1 (by rw[hw];exact hw2),?_⟩
   have:=tZ (R.bp e.th) f;omega
  ·have ne:a≠b:=λz=>by rw[z,e3]at e2;cases e2
   have hp:=I.pil;rw[h1]at hp;obtain⟨tx',e5,e6⟩:=(PMs.pop (ms:=[.mat tx]) hp).2;cases e5;rw[e1,kj,kj,akj,Fl (I.bT b hb) rfl,tY (I.bT b hb) (I.bT a ha).1 ne rfl,e2];exact PMs.snoc (ms:=[.mat tx]) (PMs.snoc (ms:=[]) .nil rfl) ⟨tx,rfl,e6⟩
 |off u =>
  obtain⟨⟨tx,r,h1⟩,_⟩:=ht;obtain⟨k,s,e1,_⟩:=Nf h1;have e3:st.carry (.off u)=st.m9 k u:=by unfold Ch.carry;rw[e1]
  rw[e3];exact I.m9 e1 hm.1 hm.2
 |lay =>
  obtain⟨⟨tx,r,h1⟩,_⟩:=ht;obtain⟨k,s,e1,_⟩:=Nf h1;have e3:st.carry .lay=st.m9 k st.aN:=by unfold Ch.carry;rw[e1]
  rw[e3];have:=I.sit;exact I.m9 e1 (by omega) (by omega)
 |cls=>exact⟨J.lm,J.lr,J.ld,J.la,J.lk,J.sit,J.mok,J.num,J.nd,J.pil,J.asd,J.kk,J.ff,J.dw⟩
 |rst=>exact⟨J.lm,J.lr,J.ld,J.la,J.lk,⟨by have:=I.sit.1;show 1<=st.aN+1;omega,by have:=I.sit.2;show st.aN+1<=_;omega⟩,J.mok,J.num,J.nd,J.pil,J.asd,J.kk,J.ff,J.dw⟩
inductive Rs where
 |num (n:Nat) | txt (z:Str) | exc (x:Xc)
abbrev BW:Str:=ar "kept"
abbrev Ub:Str:=ar "lost"
abbrev kT:Str:=ar "dropped"
def qw (b:Bool):Str:=if b=true then BW else Ub
theorem Fn (b:Bool):ajZ (qw b)=true:=by
 unfold qw;split <;> decide +kernel
def mM (st:Ch)(a b:Int):Rs×Ch:=match st.aw.getLast? with
 |none=>(.exc .nothing,st)
 |some n=>if a+b > st.cJ then (.exc .tooMany,st) else
  (.txt (qw (nC (nd (st.mo n).k) a b)),(if nC (nd (st.mo n).k) a b=true then (st.popped st.aw.dropLast n (qw (nC (nd (st.mo n).k) a b))).carry (st.mo n) else st.popped st.aw.dropLast n (qw (nC (nd (st.mo n).k) a b))).uJ (R.r8 (.nums (ar "vote") [a,b])))
def nD (st:Ch):Rs×Ch:=match st.aw.getLast? with
 |none=>(.exc .nothing,st)
 |some n=>(.txt kT,(st.popped st.aw.dropLast n kT).uJ (R.r8 (.nums (ar "drop") [])))
def stepT (st:Ch)(n:Nat):Rs×Ch:=if st.aw=[] then (match at1 n st.az with
 |none=>(.exc .tX,st)
 |some x=>if st.aN < x.2.1 then (.exc (.BP x.2.1),st) else (.num n,{ st.qJ n x.2.2 with rows:=st.rows++[R.r8 (.nums (ar "take") [(n:Int)])] })) else (.exc (.sj (nY st.closed (st.aw.map st.mo))),st)
def jR (st:Ch):Mn->Option Xc
 | .chg e=>match st.aw.map st.mo with
  | .mat tx::_=>if gK tx.length e=true then none else some .noFit
  |_=>none
 | .mnd f=>match (st.aw.map st.mo).getLast? with
  |some (.chg e)=>if gK (R.bp e.th).length f=true then none else some .noFit
  |_=>none
 | .off u=>if u<=st.aN then some (.mJ st.aN) else none
 |_=>none
def iY (st:Ch)(m:Mn):Option Xc:=match sx st.closed (st.aw.map st.mo) m.k with
 |some x=>some x
 |none=>jR st m
def Ch.moved (st:Ch)(m:Mn)(row:Str):Ch:={ st with made:=st.made++[m],aw:=st.aw++[st.made.length+1],firsts:=(match m with | .mat tx=>st.firsts++[(st.made.length+1,tx)] | _=>st.firsts),kept:=(match m with | .mat _=>st.kept++[(st.made.length+1,([]:List Ed))] | _=>st.kept),rows:=st.rows++[row] }
def nF (st:Ch)(m:Mn)(row:Str):Rs×Ch:=match iY st m with
 |some x=>(.exc x,st)
 |none=>(.num (st.made.length+1),st.moved m row)
theorem Inv.moved {N:Nat}{st:Ch}(I:Inv N st){m:Mn}(hm:MOk N m)(hc:iY st m=none)(row:Str):Inv (N+3) (st.moved m row):=by
 have J:=I.mono (show N<=N+3 by omega)
 have ho:sx st.closed (st.aw.map st.mo) m.k=none/\jR st m=none:=by
  unfold iY at hc;split at hc
  ·cases hc
  ·exact⟨by assumption,hc⟩
 have hf:aaP (st.aw.map st.mo) m:=by
  have h:=ho.2;cases m with
  |chg e =>
   intro tx r e1;unfold jR at h;dsimp only at h;rw[e1]at h;dsimp only at h;split at h
   ·assumption
   ·cases h
  |mnd f =>
   intro r e e1;unfold jR at h;dsimp only at h;rw[e1,akp]at h;dsimp only at h;split at h
   ·assumption
   ·cases h
  |_=>trivial
 have em:(st.moved m row).made=st.made++[m]:=rfl;have old:∀ks:List Nat,(∀k∈ks,dC st k)->ks.map (st.moved m row).mo=ks.map st.mo:=λks h=>akS λk hk=>Kc em (h k hk)
 have nok:∀k,dC st k->dC (st.moved m row) k:=λk h=>⟨h.1,by show k<=(st.made++[m]).length;rw[ky];have:=h.2;omega⟩
 have perm:ala (st.moved m row).all ((st.made.length+1)::st.all):=by
  unfold Ch.all Ch.moved;rw[akQ];exact List.perm_middle
 have mt:(st.moved m row).wj=st.wj++(if m.k=0 then [st.made.length+1] else []):=by
  unfold Ch.wj;rw[em,ky,ajW,List.range'_concat,List.filter_append,Nat.one_mul,Nat.add_comm 1]
  congr 1
  ·refine List.filter_congr λk hk=>?_
   rw[akK]at hk;rw[Kc em ⟨hk.1,by omega⟩]
  ·rw[List.filter_cons,Kd em]
   by_cases z:m.k=0
   ·rw[if_pos (decide_eq_true z),if_pos z];rfl
   ·rw[if_neg (by rw[decide_eq_false z];decide),if_neg z];rfl
 refine⟨?_,?_,J.ld,J.la,?_,J.sit,?_,?_,?_,?_,?_,?_,?_,J.dw⟩
 ·show 3 * (st.made++[m]).length<=_;rw[ky,ajW];have:=I.lm;omega
 ·show (st.rows++[row]).length<=_;rw[ky,ajW];have:=I.lr;omega
 ·intro x hx;have hx':x∈(match m with | .mat _=>st.kept++[(st.made.length+1,([]:List Ed))] | _=>st.kept):=hx
  cases m with
  |mat tx =>
   rcases List.mem_append.mp hx' with h | h
   ·exact J.lk x h
   ·rw[akd]at h;rw[h];exact akB _
  |_=>exact J.lk x hx'
 ·intro x hx;rcases List.mem_append.mp (show x∈st.made++[m] from hx) with h | h
  ·exact J.mok x h
  ·rw[akd]at h;rw[h];exact hm.mono (by omega)
 ·intro k hk;rcases List.mem_cons.mp (perm.mem_iff.mp hk) with h | h
  ·rw[h];exact⟨by omega,by show _<=(st.made++[m]).length;rw[ky,ajW];omega⟩
  ·exact nok k (I.num k h)
 ·rw[perm.nodup_iff,List.nodup_cons];exact⟨λz=>by have:=(I.num _ z).2;omega,I.nd⟩
 ·show PMs ((st.aw++[st.made.length+1]).map (st.moved m row).mo);rw[kx,old st.aw I.bT,kj,akj,Kd em];exact I.pil.push ho.1 hf
 ·intro x hx;obtain⟨h1,h2⟩:=I.asd x hx;exact⟨by rw[old _ (I.sE hx)];exact h1,h2⟩
 ·rw[mt,<-I.kk];cases m with
  |mat tx=>show (st.kept++[(st.made.length+1,([]:List Ed))]).map (·.1)=_;rw[kx,if_pos (show (Mn.mat tx).k=0 from rfl)];rfl
  |_=>exact(ak1 _).symm
 ·rw[mt,<-I.ff];cases m with
  |mat tx=>show (st.firsts++[(st.made.length+1,tx)]).map (·.1)=_;rw[kx,if_pos (show (Mn.mat tx).k=0 from rfl)];rfl
  |_=>exact(ak1 _).symm
theorem DS {n:Nat}{x:Nat×Int×List Nat}:∀ {as:List (Nat×Int×List Nat)},(as.flatMap (·.2.2)).Nodup->(∀y∈as,∃r,y.2.2=y.1::r)->at1 n as=some x->ala (x.2.2++(as.filter λy=>decide (y.1≠n)).flatMap (·.2.2)) (as.flatMap (·.2.2))
 |[],_,_,h=>nomatch h
 |y::as,nd,hd,h=>by
  rw[List.flatMap_cons]at nd ⊢;obtain⟨n1,n2,n3⟩:=List.nodup_append.mp nd;unfold at1 at h;rw[akl]at h
  by_cases e:y.1=n
  ·rw[decide_eq_true e]at h;cases h;have:as.filter (λz=>decide (z.1≠n))=as:=by
    rw[List.filter_eq_self];intro z hz;refine decide_eq_true λq=>?_
    obtain⟨r,hr⟩:=hd z (kq _ hz);obtain⟨r',hr'⟩:=hd x gn;exact n3 n (by rw[hr',e];exact gn) n (List.mem_flatMap.mpr ⟨z,hz,by rw[hr,q];exact gn⟩) rfl
   rw[List.filter_cons_of_neg (by simp[e]),this]
  ·rw[decide_eq_false e]at h;have ih:=DS n2 (λz hz=>hd z (kq _ hz)) h
   rw[List.filter_cons_of_pos (by simp[e]),List.flatMap_cons,<-akQ]
   exact(List.Perm.append_right _ List.perm_append_comm).trans (by rw[akQ];exact List.Perm.append_left _ ih)
theorem Inv.qJ {N:Nat}{st:Ch}(I:Inv N st){n:Nat}{x:Nat×Int×List Nat}(hp:st.aw=[])(hx:at1 n st.az=some x)(row:Str):Inv (N+1) { st.qJ n x.2.2 with rows:=st.rows++[row] }:=by
 have J:=I.mono (akH N);have hm:=(hU hx).2;have nd:=I.nd;unfold Ch.all at nd;rw[hp,List.nil_append]at nd;have pm:=DS (List.nodup_append.mp nd).1 (λy hy=>(I.asd y hy).2.1) hx
 have perm:ala (Ch.all { st.qJ n x.2.2 with rows:=st.rows++[row] }) st.all:=by
  unfold Ch.all Ch.qJ;rw[hp,List.nil_append,<-akQ];exact List.Perm.append_right _ pm
 refine⟨J.lm,?_,J.ld,?_,J.lk,J.sit,J.mok,λk hk=>I.num k (perm.mem_iff.mp hk),perm.nodup_iff.mpr I.nd,(I.asd x hm).1,λy hy=>I.asd y (List.mem_filter.mp hy).1,I.kk,I.ff,I.dw⟩
 ·show (st.rows++[row]).length<=_;rw[ky,ajW];have:=I.lr;omega
 ·exact ajI (List.length_filter_le _ _) J.la
theorem Inv.mM {N:Nat}{st:Ch}(I:Inv N st)(hN:N<=800)(a b:Int):Inv (N+3) (mM st a b).2:=by
 unfold My.mM;split
 ·exact I.mono (by omega)
 ·rename_i n h;obtain⟨pre,e⟩:=pN h;split
  ·exact I.mono (by omega)
  ·have ed:st.aw.dropLast=pre:=by rw[e];exact akO
   obtain⟨I1,ht⟩:=I.pop e (qw (nC (My.nd (st.mo n).k) a b)) (Fn _);rw[ed];have hn:n∈st.aw:=by rw[e];simp
   split
   ·exact(I1.carry (by omega) ht ((I.wk (I.bT n hn)).mono (by omega))).uJ _
   ·exact(I1.uJ _).mono (by omega)
theorem Inv.nD {N:Nat}{st:Ch}(I:Inv N st):Inv (N+3) (nD st).2:=by
 unfold My.nD;split
 ·exact I.mono (by omega)
 ·rename_i n h;obtain⟨pre,e⟩:=pN h;have ed:st.aw.dropLast=pre:=by rw[e];exact akO
  rw[ed];exact((I.pop e kT (by decide +kernel)).1.uJ _).mono (by omega)
theorem Inv.stepT {N:Nat}{st:Ch}(I:Inv N st)(n:Nat):Inv (N+3) (stepT st n).2:=by
 unfold My.stepT;split
 ·split
  ·exact I.mono (by omega)
  ·split
   ·exact I.mono (by omega)
   ·exact(I.qJ (by assumption) (by assumption) _).mono (by omega)
 ·exact I.mono (by omega)
theorem Inv.nF {N:Nat}{st:Ch}(I:Inv N st){m:Mn}(hm:MOk N m)(row:Str):Inv (N+3) (nF st m row).2:=by
 unfold My.nF;split
 ·exact I.mono (by omega)
 ·exact I.moved hm (by assumption) row
theorem BX:∀(L:Nat) (l:List Nat),l.Nodup->(∀n∈l,1<=n/\n<=L)->l.length<=L
 | 0,l,_,h=>by
  cases l with
  |nil=>exact kr 0
  |cons x r=>have:=h x gn;omega
 |L+1,l,nd,h=>by
  by_cases m:L+1∈l
  ·have ih:=BX L (l.erase (L+1)) (nd.erase _) (λn hn=>by
    obtain⟨h1,h2⟩:=nd.mem_erase_iff.mp hn;have:=h n h2;omega)
   rw[List.length_erase_of_mem m]at ih;omega
  ·have ih:=BX L l nd (λn hn=>by
    have:=h n hn;have:n≠L+1:=λz=>m (by rw[<-z];exact hn)
    omega)
   omega
theorem GA:∀ {as:List (Nat×Int×List Nat)},(∀y∈as,∃r,y.2.2=y.1::r)->List.Sublist (as.map (·.1)) (as.flatMap (·.2.2))
 |[],_=>.slnil
 |y::as,h=>by
  obtain⟨r,hr⟩:=h y gn;rw[kj,List.flatMap_cons,hr,List.cons_append];exact .cons₂ _ ((GA λz hz=>h z (kq _ hz)).trans (List.sublist_append_right _ _))
theorem Inv.Wt {N:Nat}{st:Ch}(I:Inv N st):(st.az.map (·.1)).Nodup:=by
 have nd:=I.nd;unfold Ch.all at nd;exact(GA λy hy=>(I.asd y hy).2.1).nodup (List.nodup_append.mp (List.nodup_append.mp nd).2.1).1
theorem Inv.GB {N:Nat}{st:Ch}(I:Inv N st):st.az.length<=st.made.length:=by
 have h:=BX st.made.length (st.az.map (·.1)) I.Wt (λn hn=>by
  obtain⟨x,hx,e⟩:=List.mem_map.mp hn;obtain⟨r,hr⟩:=(I.asd x hx).2.1;exact I.sE hx n (by rw[hr,e];exact gn))
 rw[cb]at h;exact h
end My
set_option maxHeartbeats 1000000
namespace My
open PySem L2
seal PySem.wpAny
def Mv (A:Adr)(i:Nat)(c:Col)(H:Hp)(o:Addr):Rs×Ch->VK->XK->Prop
 | (.num n,st),Q,_=>∀c' H',Step (dZ i) c c' H H'->fK A i c' H' o st->Q (nV n) H'
 | (.txt z,st),Q,_=>∀c' H',Step (dZ i) c c' H H'->fK A i c' H' o st->Q (.str z) H'
 | (.exc x,st),_,E=>∀c' H' C d,Step (dZ i) c c' H H'->fK A i c' H' o st->x.At A H' C d->(∀a,d=some a->c' a=none)->E C d H'
def Mw:List Str:=[ar "seats",ar "sitting",ar "closed",ar "made",ar "pile",ar "aside",ar "decided",ar "first_texts",ar "edits_kept",ar "rows"]
theorem dE {m:Str}{v0 v1 v2 v3 v4 v5 v6 v7 v8 v9:V}(h:m∉Mw):(chF v0 v1 v2 v3 v4 v5 v6 v7 v8 v9).lookup m=none:=by
 unfold Mw at h;simp only[List.mem_cons,List.not_mem_nil,or_false,not_or]at h;obtain⟨h0,h1,h2,h3,h4,h5,h6,h7,h8,h9⟩:=h;unfold chF;simp only[ako,beq_eq_false_iff_ne.mpr h0,beq_eq_false_iff_ne.mpr h1,beq_eq_false_iff_ne.mpr h2,beq_eq_false_iff_ne.mpr h3,beq_eq_false_iff_ne.mpr h4,beq_eq_false_iff_ne.mpr h5,beq_eq_false_iff_ne.mpr h6,beq_eq_false_iff_ne.mpr h7,beq_eq_false_iff_ne.mpr h8,beq_eq_false_iff_ne.mpr h9]
def Mx (A:Adr)(i:Nat):Sp:=λvs H Q _=>∃(o mo:Addr) (c:Col) (st:Ch) (m:Mn) (N:Nat),vs=[.ref o,.ref mo]/\fK A i c H o st/\mG A c H m mo/\Inv N st/\N<=900/\yF (st.aw.map st.mo) m/\MOk N m /\
 ∀c' H',Step (dZ i) c c' H H'->fK A i c' H' o (st.carry m)->Q .non H'
def Qf (A:Adr)(i:Nat):Sp:=λvs H Q E=>∃(o:Addr) (a b:Int) (c:Col) (st:Ch) (N:Nat),vs=[.ref o,.int a,.int b]/\fK A i c H o st/\Inv N st/\N<=800/\(0<=a/\a < 10 ^ 10)/\(0<=b/\b < 10 ^ 10)/\Mv A i c H o (mM st a b) Q E
def Qg (A:Adr)(i:Nat):Sp:=λvs H Q E=>∃(o:Addr) (c:Col) (st:Ch) (N:Nat),vs=[.ref o]/\fK A i c H o st/\Inv N st/\N<=800/\Mv A i c H o (nD st) Q E
def Qh (A:Adr)(i:Nat):Sp:=λvs H Q E=>∃(o:Addr) (z:Int) (c:Col) (st:Ch) (N:Nat),vs=[.ref o,.int z]/\fK A i c H o st/\Inv N st/\N<=800/\-1<=z/\z < 10 ^ 10/\Mv A i c H o (stepT st z.toNat) Q E
theorem xV:∀ {ks:List Nat} {vs:List V},gQ (a9 (ks.zip vs)) (km (-1))=none
 |[],_=>rfl
 |_::_,[]=>rfl
 |k::ks,v::vs=>by
  rw[cO,bP (λz=>by have:=Sum.inl.inj z;omega)]
  exact xV
theorem Inv.no0 {N:Nat}{st:Ch}(I:Inv N st):at1 0 st.az=none:=by
 cases e:at1 0 st.az with
 |none=>rfl
 |some x =>
  obtain⟨h1,h2⟩:=hU e;obtain⟨r,hr⟩:=(I.asd x h2).2.1;have:=(I.sE h2 x.1 (by rw[hr];exact gn)).1
  omega
theorem Fo {i:Nat}{c:Col}{H:Hp}{t:Addr}{xs:List V}:xS i (ay c t none) (upd H t (.tup xs)) t xs:=⟨by rw[aV];exact aO,ae⟩
theorem wm {A:Adr}{c:Col}{H H':Hp}{f:Nat->Mn}(s:bA H H'):∀ {ns:List Nat} {os:List Addr},bJ (λn m=>mG A c H (f n) m) ns os->bJ (λm p=>mG A c H' m p) (ns.map f) os
 |_,_,.nil=>.nil
 |_,_,.cons h t=>.cons (h.same s) (wm s t)
theorem BY {kd:Str}{ns:List Int}(h:(kd,ns.length)∈R.jj)(hn:∀i∈ns,0<=i/\i < 10 ^ 10):R.DOk (.nums kd ns):=⟨h,hn⟩
section
variable{P:rf}{w:World}{K:ba}{mg:Str->Option Value}{base:Heap}{A:Adr}
theorem Fp (T:Txt w.params K mg A){i:Nat}:aJ P w K mg base CX0 5 A.bC A.eB ["self","motion"] (Mx A i):=by
 have gL:∀k,k < 8->aJ P w K mg base CX0 1 (A.fk k) (A.fkd k) ["self"] (gj k):=lK T;have pO:aJ P w K mg base CX0 4 A.br A.df ["self","edit"] (Qb A i):=xT T;have pP:aJ P w K mg base CX0 4 A.bt A.dg ["self","edit"] (Qd A i):=xU T;have lD:aJ P w K mg base CX0 1 A.bD A.eC ["self","until"] (P9 A i):=Fi T;refine T.dF.ok kK (λvs H Q E h=>?_) (λcdv A' outer s H vs Q E hr h=>?_)
 ·obtain⟨o,mo,c,st,m,N,rfl,_⟩:=h;rfl
 ·obtain⟨o,mo,c,st,m,N,rfl,hc,hmo,I,hN,wo,CN,q⟩:=h;obtain⟨dx,aM,aP,aA,aD,aF,aE,aR,ms,ds,ws,fs,es,X⟩:=hc.ex;have eG:Room 1 _:=hr.mono (by decide)
  have n5:Room 4 _:=hr;have n6:Room 4 _:=hr;have kU:Room 1 _:=hr.mono (by decide)
  refine⟨_,(ai (aZ (i:=2) kK.nd rfl (wt rfl) (lP (n:=8) (Cf:=A.C) (pv 1) T.cl T.nQ gL eG T.nR a7))
 (aj (bb (aB bu (pv 2) ao (aK _))
 (aj (bN (i3 (pv 0) T.au T.iU pO n5 T.dA .nil a7 (aa (bq (pv 1) rfl) ag))))
 (aj (bb (aB bu (pv 2) ao (aK _))
 (aj (bN (i3 (pv 0) T.au T.iV pP n6 T.dB .nil a7 (aa (bq (pv 1) rfl) ag))))
 (aj (bb (aB bu (pv 2) ao (aK _))
 (aj (bN (i3 (pv 0) T.au T.ia lD kU T.dH .nil a7 (aa (bq (pv 1) rfl) ag))))
 (aj (bb (aB bu (pv 2) ao (aK _))
 (aj (eP (pv 0) oH rfl))
 (aj (bb (aB bu (pv 2) ao (aK _))
 (aj (bN (i3 (pv 0) T.au T.ia lD kU T.dH .nil a7 (aa (bq (pv 0) rfl) ag))))
 (aj (bb (aB bu (pv 2) ao (aK _))
 (aj (eP (pv 0) (a6 dJ (bq (pv 0) rfl) af) rfl))
 aH))))))))))))),?_⟩
  refine hide λGg hGg=>?_
  obtain⟨hcn,dm,v,hm,hv⟩:=hmo;refine hGg ?_;refine⟨_,rfl,m.k,m.k8,mo,dm,_,rfl,hm,lJ m.k v,mo,rfl,?_⟩;have lM:=I.lm;cases m with
  |mat tx=>exact⟨_,rfl,rfl,tsf (b9 0 (by decide)) ⟨_,rfl,rfl,tsf (cg 0 (by decide)) ⟨_,rfl,rfl,tsf (gN 0 (by decide)) ⟨_,rfl,rfl,tsf (jn 0 (by decide)) ⟨_,rfl,rfl,tsf (Fd 0 (by decide)) ⟨_,rfl,rfl,tsf (mK 0 (by decide)) (q c H (Step.refl aO) hc)⟩⟩⟩⟩⟩⟩
  |pnt z=>exact⟨_,rfl,rfl,tsf (b9 7 (by decide)) ⟨_,rfl,rfl,tsf (cg 7 (by decide)) ⟨_,rfl,rfl,tsf (gN 7 (by decide)) ⟨_,rfl,rfl,tsf (jn 7 (by decide)) ⟨_,rfl,rfl,tsf (Fd 7 (by decide)) ⟨_,rfl,rfl,tsf (mK 7 (by decide)) (q c H (Step.refl aO) hc)⟩⟩⟩⟩⟩⟩
  |chg e =>
   refine⟨_,rfl,rfl,tst (b9 1 (by decide)) ?_⟩
   refine hide λGg hGg=>?_
   obtain⟨tx,h1,hf⟩:=wo;obtain⟨k,e1,e2⟩:=Sz h1;have hn:k∈st.aw:=by rw[e1];exact gn
   have hno:=I.bT k hn;have htx:=I.wk hno;rw[e2]at htx;have ahH:tx.length<=12+N:=htx.1;obtain⟨x,hx,hxl⟩:=I.keptAt hno (by rw[e2];rfl)
   have e3:st.carry (.chg e)=st.Qa k tx e:=by unfold Ch.carry;rw[e1];dsimp only;rw[e2]
   rw[e3]at q;have Qi:EdB (12+N) e:=CN;obtain⟨t,rfl,ht⟩:=hv;refine hGg ?_;refine mtv rfl X.ob (dE (by decide +kernel)) ⟨_,rfl,mo,A.C 1,dm,_,.ref t,rfl,hm,T.cl 1 (by decide),T.na1,rfl,?_⟩
   exact⟨o,t,c,st,k,[],tx,e,x,rfl,hc,e1,hno,e2,by omega,by omega,ht,Qi.ok (by omega),hf,hx,by omega,by rw[I.kk];exact Ke st,q⟩
  |mnd f =>
   refine⟨_,rfl,rfl,tsf (b9 2 (by decide)) ⟨_,rfl,rfl,tst (cg 2 (by decide)) ?_⟩⟩
   refine hide λGg hGg=>?_
   obtain⟨tx,e,h1,hk,hf⟩:=wo;obtain⟨a,b,e1,e2,e3⟩:=Ws h1;have hb:b∈st.aw:=by rw[e1];exact kq _ gn
   have hno:=I.bT b hb;have he:=I.wk hno;rw[e3]at he;have he':EdB (12+N) e:=he;obtain⟨w1,w2⟩:=he'.words;have e4:st.carry (.mnd f)=st.Qc b e (bI (R.bp e.th) f):=by unfold Ch.carry;rw[e1];show (match st.mo b with | .chg e=>_ | _=>st)=_;rw[e3];rfl
   rw[e4]at q;obtain⟨hf1,w0,hw0,hw1⟩:=CN;have l1:=tZ (R.bp e.th) f;have l2:=R.DK (uK w1 (by rw[hw0];exact hw1):∀w∈bI (R.bp e.th) f,R.nX w)
   obtain⟨t,rfl,ht⟩:=hv;refine hGg ?_;refine mtv rfl X.ob (dE (by decide +kernel)) ⟨_,rfl,mo,A.C 2,dm,_,.ref t,rfl,hm,T.cl 2 (by decide),T.na2,rfl,?_⟩
   exact⟨o,t,c,st,b,[a],e,f,rfl,hc,e1,hno,e3,hk,he'.ok (by omega),by omega,by omega,ht,hf1.ok (by omega),hf,by omega,q⟩
  |off u =>
   refine⟨_,rfl,rfl,tsf (b9 3 (by decide)) ⟨_,rfl,rfl,tsf (cg 3 (by decide)) ⟨_,rfl,rfl,tst (gN 3 (by decide)) ?_⟩⟩⟩
   refine hide λGg hGg=>?_
   obtain⟨⟨tx,r,h1⟩,_⟩:=wo;obtain⟨k,r',e1,_⟩:=Nf h1;have e3:st.carry (.off u)=st.m9 k u:=by unfold Ch.carry;rw[e1]
   rw[e3]at q;have hv':v=.int u:=hv;subst hv';have:=I.la;refine hGg ?_;refine mtv rfl X.ob (dE (by decide +kernel)) ⟨_,rfl,mo,A.C 3,dm,_,.int u,rfl,hm,T.cl 3 (by decide),T.na3,rfl,?_⟩
   exact⟨o,u,c,st,k,r',rfl,hc,e1,I.Fm (by rw[e1];exact gn),by omega,q⟩
  |cls =>
   refine⟨_,rfl,rfl,tsf (b9 4 (by decide)) ⟨_,rfl,rfl,tsf (cg 4 (by decide)) ⟨_,rfl,rfl,tsf (gN 4 (by decide)) ⟨_,rfl,rfl,tst (jn 4 (by decide)) ?_⟩⟩⟩⟩
   refine⟨_,rfl,o,A.ax,dx,_,rfl,X.ob,T.au,T.jq4,(by show 10 < 1000;decide),?_⟩
   rw[BL];obtain⟨s1,X1⟩:=X.attr st.aN true;exact q c _ s1.il X1.at
  |lay =>
   refine⟨_,rfl,rfl,tsf (b9 5 (by decide)) ⟨_,rfl,rfl,tsf (cg 5 (by decide)) ⟨_,rfl,rfl,tsf (gN 5 (by decide)) ⟨_,rfl,rfl,tsf (jn 5 (by decide)) ⟨_,rfl,rfl,tst (Fd 5 (by decide)) ?_⟩⟩⟩⟩⟩
   refine hide λGg hGg=>?_
   obtain⟨⟨tx,r,h1⟩,_⟩:=wo;obtain⟨k,r',e1,_⟩:=Nf h1;have e3:st.carry .lay=st.m9 k st.aN:=by unfold Ch.carry;rw[e1]
   rw[e3]at q;have:=I.la;refine hGg ?_;refine mtv rfl X.ob (dE (by decide +kernel)) (fj rfl X.ob T.au T.jq1 iW ?_)
   exact⟨o,st.aN,c,st,k,r',rfl,hc,e1,I.Fm (by rw[e1];exact gn),by omega,q⟩
  |rst =>
   refine⟨_,rfl,rfl,tsf (b9 6 (by decide)) ⟨_,rfl,rfl,tsf (cg 6 (by decide)) ⟨_,rfl,rfl,tsf (gN 6 (by decide)) ⟨_,rfl,rfl,tsf (jn 6 (by decide)) ⟨_,rfl,rfl,tsf (Fd 6 (by decide)) ⟨_,rfl,rfl,tst (mK 6 (by decide)) ?_⟩⟩⟩⟩⟩⟩
   refine fj rfl X.ob T.au T.jq1 iW ⟨_,_,rfl,rfl,_,rfl,o,A.ax,dx,_,rfl,X.ob,T.au,T.jq1,(by show 10 < 1000;decide),?_⟩
   rw[Gu];obtain⟨s1,X1⟩:=X.attr (st.aN+1) st.closed;exact q c _ s1.il X1.at
theorem SA (T:Txt w.params K mg A){i:Nat}:aJ P w K mg base (CXX P w) 6 A.cv A.iA ["self","ayes","noes"] (Qf A i):=by
 have d8:aJ P w K mg base (CXX P w) 1 A.bf A.bW ["self"] (xM A i):=mH T;have jS:aJ P w K mg base CX0 1 A.bH A.eA ["self","word"] (BO A i):=DM T;have ub:aJ P w K mg base CX0 5 A.bC A.eB ["self","motion"] (Mx A i):=Fp T;have fM:aJ P w K mg base CX0 5 A.bj A.cA ["self","deed"] (P8 A i):=qL T;have Nh:aJ P w K mg base CX0 1 A.Ah A.qb ["need","ayes","noes"] PZ:=J8 T;have Wu:∀k,k < 8->aJ P w K mg base CX0 1 (A.fn k) (A.fnd k) ["self"] (E4 k):=Ss T;refine T.gH.okX lh (λvs H Q E h=>?_) (λcdv A' outer s H vs Q E hr h=>?_)
 ·obtain⟨o,a,b,c,st,N,rfl,_⟩:=h;rfl
 ·obtain⟨o,a,b,c,st,N,rfl,hc,I,hN,ha,hb,q⟩:=h;obtain⟨dx,aM,aP,aA,aD,aF,aE,aR,ms,ds,ws,fs,es,X⟩:=hc.ex;have hu1:=hr.u1;have d3:Room 1 _:=hr.mono (by decide)
  have jq:Room 1 _:=hr.mono (by decide)
  have sF:Room 5 _:=hr;have fg:Room 5 _:=hr;have Kf:Room 1 _:=hr.mono (by decide)
  have SD:Room 1 _:=hr.mono (by decide)
  refine⟨_,(bc (l7 (xa (px (pv 0)) T.au T.d7 d8 d3 T.cf))
 (bc (hX (aB FF (a6 dJ (pv 1) (pv 2)) (bq (pv 0) rfl) (aK _))
 (bE (jD T.By rfl rfl T.xD (aa ao ag)))
 (vn aH))
 (bc (psx (aZ (i:=3) lh.nd rfl (wt rfl) (aY hu1 (bq (pv 0) rfl) (aT bF (bq (pv 0) rfl) (oJ jA af) (λ_ _=>rfl)) (λ_ _=>rfl))))
 (bc (psx (aZ (i:=4) lh.nd rfl (wt rfl) (FE (p6 (aW Nh Kf rfl T.Ds T.xq.kp T.Dr .nil a7 (aa (lP (n:=8) (Cf:=A.C) (pv 3) T.cl T.PD Wu SD T.PF a7) (aa (pv 1) (aa (pv 2) ag))))) ao ao)))
 (bc (psx (bN (i3 (pv 0) T.au T.jN jS jq T.eZ .nil a7 (aa (pv 4) ag))))
 (bc (psx (bb (aB bu (pv 4) ao (aK _))
 (aj (bN (i3 (pv 0) T.au T.lC ub sF T.eM .nil a7 (aa (pv 3) ag))))
 aH))
 (bc (psx (bN (i3 (pv 0) T.au T.fF fM fg T.cN .nil a7 (aa (bg (aa ao (aa (pv 1) (aa (pv 2) ag)))) ag))))
 (bE (psx (aI (pv 4))))))))))),?_⟩
  refine mtv rfl X.ob (dE (by decide +kernel)) ⟨o,c,st,rfl,hc,λhne=>?_,λhe=>?_⟩
  case refine_2 =>
   unfold mM at q;rw[he]at q;exact q c H _ _ (Step.refl aO) hc ⟨rfl,rfl⟩ (λ_ z=>nomatch z)
  refine hide λGg hGg=>?_
  obtain⟨pre,n,e⟩:∃pre n,st.aw=pre++[n]:=by
   rcases ajX st.aw with e | ⟨pre,n,e⟩
   ·exact absurd e hne
   ·exact⟨pre,n,by rw[e,ajY]⟩
  have gl:st.aw.getLast?=some n:=by rw[e];exact akp
  have ed:st.aw.dropLast=pre:=by rw[e];exact akO
  unfold mM at q;rw[gl]at q;dsimp only at q;rw[ed]at q;refine hGg ?_;refine⟨_,rfl,_,rfl,_,_,rfl,rfl,fj rfl X.ob T.au T.jqv M9 ⟨_,_,rfl,rfl,_,rfl,eQ (λz=>?_) (λz=>?_)⟩⟩
  ·have z':a+b > st.cJ:=of_decide_eq_true z;rw[if_pos z']at q;exact⟨by decide,q c H _ _ (Step.refl aO) hc ⟨rfl,rfl⟩ (λ_ z=>nomatch z)⟩
  refine hide λGg hGg=>?_
  have z':¬a+b > st.cJ:=λy=>z (decide_eq_true y)
  rw[if_neg z']at q;have hn:n∈st.aw:=by rw[e];simp
  have hno:=I.bT n hn;obtain⟨mo,hv,hmo⟩:=X.Sx hno;have hcp:=hmo;obtain⟨_,dm,v,hm,_⟩:=hmo;have h0:atI (st.aw.map nV) (-1)=some (nV n):=by rw[e,kx];exact i4 _ _
  refine hGg ?_;refine⟨_,rfl,o,A.ax,dx,_,.ref aM,rfl,X.ob,T.au,T.jq2,ip,_,rfl,o,A.ax,dx,_,.ref aP,rfl,X.ob,T.au,T.jq0,fb,_,rfl,aP,_,_,_,rfl,rfl,SqL.of X.aw.2,h0,aM,_,rfl,.inl ⟨_,km (n:Int),.inl X.made.2,rfl,hv.symm⟩,?_⟩;refine⟨_,rfl,(st.mo n).k,(st.mo n).k8,mo,dm,_,rfl,hm,Sl _ v,mo,rfl,_,rfl,_,rfl,nd (st.mo n).k,a,b,rfl,_,rfl,?_⟩;obtain⟨I1,wo⟩:=I.pop e (qw (nC (nd (st.mo n).k) a b)) (Fn _);have CN:=(I.wk hno).mono (akH N);have lp:=I.pil.Gz;rw[cb]at lp;have ld:=I.ld;have lr:=I.lr;have dk:R.DOk (.nums (ar "vote") [a,b]):=BY (by show (ar "vote",2)∈R.jj;decide +kernel) (by
   intro i hi;rcases List.mem_cons.mp hi with h | hi
   ·rw[h];exact ha
   ·rw[akd]at hi;rw[hi];exact hb)
  cases hk:nC (nd (st.mo n).k) a b with
  |true =>
   rw[hk]at q I1;rw[if_pos rfl]at q;refine dM (mtv rfl X.ob (dE (by decide +kernel)) ⟨_,rfl,o,BW,c,st,pre,n,rfl,hc,e,by omega,by omega,λc1 H1 s1 hc1=>?_⟩)
   refine hide λGg hGg=>?_
   obtain⟨dx1,aM1,aP1,aA1,aD1,aF1,aE1,aR1,ms1,ds1,ws1,fs1,es1,X1⟩:=hc1.ex;refine hGg ?_;refine⟨_,rfl,rfl,tst (by decide +kernel) (mtv rfl X1.ob (dE (by decide +kernel)) ⟨_,rfl,o,mo,c1,_,st.mo n,N+1,rfl,hc1,hcp.step s1,I1,by omega,wo,CN,λc2 H2 s2 hc2=>?_⟩)⟩
   refine hide λGg hGg=>?_
   obtain⟨dx2,aM2,aP2,aA2,aD2,aF2,aE2,aR2,ms2,ds2,ws2,fs2,es2,X2⟩:=hc2.ex;have I2:=I1.carry (by omega) wo CN
   refine hGg ?_;refine mtv rfl X2.ob (dE (by decide +kernel)) ⟨_,rfl,_,rfl,(sl 3),λt ht=>?_⟩
   have s3:Step (dZ i) c2 (ay c2 t none) H2 (upd H2 t (.tup [V.str (ar "vote"),.int a,.int b])):=Step.new aO ht;have X3:=X2.free (W:=λ_=>False) (λ_=>id) (Step.new (x:=none) (o:=.tup [V.str (ar "vote"),.int a,.int b]) id ht)
   have lr2:=I2.lr;refine⟨o,t,_,_,.nums (ar "vote") [a,b],rfl,X3.at,Fo,dk,ajI lr2 (by omega),λc4 H4 s4 hc4=>⟨_,rfl,?_⟩⟩
   exact q c4 H4 (((s1.trans s2).trans s3).trans s4) hc4
  |false =>
   rw[hk]at q I1;rw[if_neg ku]at q;refine bw (mtv rfl X.ob (dE (by decide +kernel)) ⟨_,rfl,o,Ub,c,st,pre,n,rfl,hc,e,by omega,by omega,λc1 H1 s1 hc1=>?_⟩)
   refine hide λGg hGg=>?_
   obtain⟨dx2,aM2,aP2,aA2,aD2,aF2,aE2,aR2,ms2,ds2,ws2,fs2,es2,X2⟩:=hc1.ex;refine hGg ?_;refine⟨_,rfl,rfl,tsf (by decide +kernel) ?_⟩
   refine mtv rfl X2.ob (dE (by decide +kernel)) ⟨_,rfl,_,rfl,(sl 3),λt ht=>?_⟩
   have s3:Step (dZ i) c1 (ay c1 t none) H1 (upd H1 t (.tup [V.str (ar "vote"),.int a,.int b])):=Step.new aO ht;have X3:=X2.free (W:=λ_=>False) (λ_=>id) (Step.new (x:=none) (o:=.tup [V.str (ar "vote"),.int a,.int b]) id ht)
   refine⟨o,t,_,_,.nums (ar "vote") [a,b],rfl,X3.at,Fo,dk,by show st.rows.length<=1000;omega,λc4 H4 s4 hc4=>⟨_,rfl,?_⟩⟩
   exact q c4 H4 ((s1.trans s3).trans s4) hc4
theorem SE (T:Txt w.params K mg A){i:Nat}:aJ P w K mg base (CXX P w) 6 A.cw A.iB ["self"] (Qg A i):=by
 have d8:aJ P w K mg base (CXX P w) 1 A.bf A.bW ["self"] (xM A i):=mH T;have jS:aJ P w K mg base CX0 1 A.bH A.eA ["self","word"] (BO A i):=DM T;have fM:aJ P w K mg base CX0 5 A.bj A.cA ["self","deed"] (P8 A i):=qL T;refine T.gI.okX yS (λvs H Q E h=>?_) (λcdv A' outer s H vs Q E hr h=>?_)
 ·obtain⟨o,c,st,N,rfl,_⟩:=h;rfl
 ·obtain⟨o,c,st,N,rfl,hc,I,hN,q⟩:=h;obtain⟨dx,aM,aP,aA,aD,aF,aE,aR,ms,ds,ws,fs,es,X⟩:=hc.ex;have d3:Room 1 _:=hr.mono (by decide)
  have jq:Room 1 _:=hr.mono (by decide)
  have fg:Room 5 _:=hr;refine⟨_,(bc (l7 (xa (px (pv 0)) T.au T.d7 d8 d3 T.cf))
 (bc (psx (bN (i3 (pv 0) T.au T.jN jS jq T.eZ .nil a7 (aa ao ag))))
 (bc (psx (bN (i3 (pv 0) T.au T.fF fM fg T.cN .nil a7 (aa (bg (aa ao ag)) ag))))
 (bE (psx (aI ao)))))),?_⟩
  refine mtv rfl X.ob (dE (by decide +kernel)) ⟨o,c,st,rfl,hc,λhne=>?_,λhe=>?_⟩
  case refine_2 =>
   unfold nD at q;rw[he]at q;exact q c H _ _ (Step.refl aO) hc ⟨rfl,rfl⟩ (λ_ z=>nomatch z)
  refine hide λGg hGg=>?_
  obtain⟨pre,n,e⟩:∃pre n,st.aw=pre++[n]:=by
   rcases ajX st.aw with e | ⟨pre,n,e⟩
   ·exact absurd e hne
   ·exact⟨pre,n,by rw[e,ajY]⟩
  have gl:st.aw.getLast?=some n:=by rw[e];exact akp
  have ed:st.aw.dropLast=pre:=by rw[e];exact akO
  unfold nD at q;rw[gl]at q;dsimp only at q;rw[ed]at q;have lp:=I.pil.Gz;rw[cb]at lp;have ld:=I.ld;have lr:=I.lr;refine hGg ?_;refine mtv rfl X.ob (dE (by decide +kernel)) ⟨o,kT,c,st,pre,n,rfl,hc,e,by omega,by omega,λc1 H1 s1 hc1=>?_⟩
  refine hide λGg hGg=>?_
  obtain⟨dx2,aM2,aP2,aA2,aD2,aF2,aE2,aR2,ms2,ds2,ws2,fs2,es2,X2⟩:=hc1.ex;refine hGg ?_;refine mtv rfl X2.ob (dE (by decide +kernel)) ⟨(sl 1),λt ht=>?_⟩
  have s3:Step (dZ i) c1 (ay c1 t none) H1 (upd H1 t (.tup [V.str (ar "drop")])):=Step.new aO ht;have X3:=X2.free (W:=λ_=>False) (λ_=>id) (Step.new (x:=none) (o:=.tup [V.str (ar "drop")]) id ht)
  refine⟨o,t,_,_,.nums (ar "drop") [],rfl,X3.at,Fo,BY (by decide +kernel) (λ_ h=>nomatch h),by show st.rows.length<=1000;omega,λc4 H4 s4 hc4=>?_⟩
  exact q c4 H4 ((s1.trans s3).trans s4) hc4
theorem SG (T:Txt w.params K mg A){i:Nat}:aJ P w K mg base (CXX P w) 6 A.cx A.iC ["self","number"] (Qh A i):=by
 have kS:aJ P w K mg base CX0 4 A.l4 A.g9 ["deed"] (R.E9 K):=R.qr T;have BU:aJ P w K mg base CX0 3 A.A9 A.pw ["pile","closed"] (P4 A K):=DN T;have jr:aJ P w K mg base CX0 1 A.bG A.dY ["self"] (xN A i):=BN T;have uI:aJ P w K mg base CX0 1 A.rN A.pB ["self","bar"] (CA A.cT "bar"):=yE T;have Kg:aJ P w K mg base CX0 1 A.vH A.tS ["self","sitting"] (CA A.dh "sitting"):=Gw T;refine T.gJ.okX qB (λvs H Q E h=>?_) (λcdv A' outer s H vs Q E hr h=>?_)
 ·obtain⟨o,z,c,st,N,rfl,_⟩:=h;rfl
 ·obtain⟨o,z,c,st,N,rfl,hc,I,hN,hz0,hz1,q⟩:=h;obtain⟨dx,aM,aP,aA,aD,aF,aE,aR,ms,ds,ws,fs,es,X⟩:=hc.ex;have hu1:=hr.u1;have hgd:=hr.gd;have jo:Room 4 _:=hr.mono (by decide)
  have xR:Room 3 _:=hr.mono (by decide)
  have iH:Room 1 _:=hr.mono (by decide)
  have Na:Room 2 _:=hr.mono (by decide)
  have lim:ka=16777216:=by decide
  refine⟨_,(bc (hX (rB (bq (pv 0) rfl) (λ_=>rfl))
 (bE (p9 T.pG uI Na T.mB rfl rfl T.vW (aa (aW BU xR rfl T.Bd T.vI.kp T.Bc .nil a7 (aa (gz (pv 0) T.au T.jf jr iH T.eE .nil a7) (aa (bq (pv 0) rfl) ag))) ag)))
 (vn aH))
 (bc (hX (Jr (xg hu1 (pv 1) (bq (pv 0) rfl)))
 (bE (jD T.Bz rfl rfl T.xE (aa (Dh (l8 (xc (pv 1) (l8 xb)))) ag)))
 (vn aH))
 (bc (psx (aZ (i:=2) qB.nd rfl (wt rfl) (aT aU (aY hu1 (bq (pv 0) rfl) (pv 1) (λ_ _=>rfl)) af (λ_ _=>rfl))))
 (bc (hX (aB rA (bq (pv 0) rfl) (pv 2) (aK _))
 (bE (p9 T.tW Kg Na T.qo rfl rfl T.Bv (aa (pv 2) ag)))
 (vn aH))
 (bc (psx (eP (pv 0) (aT Vz (F3 (bq (pv 0) rfl) (pv 1) ⟨rfl,rfl,rfl,rfl⟩) af (λ_ _=>rfl)) rfl))
 (bc (psx (bN (gB om ajQ ajR dq (bq (pv 0) rfl) (aa (aW kS jo rfl T.nA T.kM.kp T.nz .nil a7 (aa (bg (aa ao (aa (pv 1) ag))) ag)) ag))))
 (bE (psx (aI (pv 1)))))))))),?_⟩
  by_cases hz:z=-1
  ·subst hz;refine fj rfl X.ob T.au T.jq0 fb ⟨_,.inl ⟨_,.inl (.inl X.aw.2),rfl⟩,?_⟩;rw[show ((-1:Int).toNat)=0 from rfl]at q
   unfold stepT at q;cases e:st.aw with
   |cons k0 r0 =>
    rw[if_neg (by rw[e];exact aj5 _ _)]at q
    have lp:=I.pil.Gz;rw[cb]at lp;have hb:=BQ st.closed (st.aw.map st.mo);have hb0:0<=nY st.closed (st.aw.map st.mo):=Int.le_trans (by
     by_cases z:qX (st.aw.map st.mo) < 0
     ·have:=BV z;rw[e]at this;cases this
     ·omega) (sD _ _)
    refine dM (mtv rfl X.ob (dE (by decide +kernel)) ⟨o,c,st,rfl,hc,I.bT,by omega,λB os hB hos=>?_⟩)
    have sB:=aC (o:=.lst (os.map V.ref)) hB;refine fj rfl (sB _ _ X.ob) T.au T.jq4 qu ⟨B,st.closed,c,st.aw.map st.mo,os,rfl,⟨SqL.of ae,wm sB hos⟩,?_⟩;refine⟨_,rfl,pK (by omega) (by omega),λd hd=>?_⟩
    exact q (d6 c H) _ _ _ (Step.cl aO (sB.new hd)) (X.cl (sB.new hd)).at ⟨rfl,d,rfl,ae⟩ (λ_ z=>by cases z;exact cS (same_none sB hd))
   |nil =>
    rw[if_pos e,I.no0]at q;refine bw ?_;refine⟨_,rfl,fj rfl X.ob T.au T.jq3 jP ⟨aA,_,rfl,.inl ⟨_,km (-1),.inl X.az.2,rfl,rfl⟩,_,rfl,?_⟩⟩;rw[xV];have l1:(akc++ar "no matter of the number ":Str).length=24:=by decide +kernel
    have l2:(ar " is aside").length=9:=by decide +kernel
    have l3:(ar (toString (-1:Int))).length=2:=by decide +kernel
    refine dM ⟨by rw[l1];omega,_,rfl,_,.int (by decide),by rw[l3];omega,by rw[len_app,l1,l3];omega,by rw[len_app,len_app,l1,l2,l3];omega,by rw[len_app,len_app,l1,l2,l3];omega,(sl 1),?_⟩
    exact q c H _ _ (Step.refl aO) hc ⟨rfl,rfl⟩ (λ_ z=>nomatch z)
  refine hide λGg hGg=>?_
  obtain⟨n,rfl⟩:∃n:Nat,z=(n:Int):=⟨z.toNat,by omega⟩
  rw[Int.toNat_natCast]at q;have ajH:n < 10 ^ 10:=by
   have:(10:Nat) ^ 10=10000000000:=by decide
   have:(10:Int) ^ 10=10000000000:=by decide
   omega
  clear hz hz0 hz1;refine hGg ?_;refine fj rfl X.ob T.au T.jq0 fb ⟨_,.inl ⟨_,.inl (.inl X.aw.2),rfl⟩,?_⟩;unfold stepT at q;cases e:st.aw with
  |cons k0 r0 =>
   rw[if_neg (by rw[e];exact aj5 _ _)]at q
   have lp:=I.pil.Gz;rw[cb]at lp;have hb:=BQ st.closed (st.aw.map st.mo);have hb0:0<=nY st.closed (st.aw.map st.mo):=Int.le_trans (by
    by_cases z:qX (st.aw.map st.mo) < 0
    ·have:=BV z;rw[e]at this;cases this
    ·omega) (sD _ _)
   refine dM (mtv rfl X.ob (dE (by decide +kernel)) ⟨o,c,st,rfl,hc,I.bT,by omega,λB os hB hos=>?_⟩)
   have sB:=aC (o:=.lst (os.map V.ref)) hB;refine fj rfl (sB _ _ X.ob) T.au T.jq4 qu ⟨B,st.closed,c,st.aw.map st.mo,os,rfl,⟨SqL.of ae,wm sB hos⟩,?_⟩;refine⟨_,rfl,pK (by omega) (by omega),λd hd=>?_⟩
   exact q (d6 c H) _ _ _ (Step.cl aO (sB.new hd)) (X.cl (sB.new hd)).at ⟨rfl,d,rfl,ae⟩ (λ_ z=>by cases z;exact cS (same_none sB hd))
  |nil =>
   rw[if_pos e]at q;refine bw ?_;refine⟨_,rfl,fj rfl X.ob T.au T.jq3 jP ⟨aA,_,rfl,.inl ⟨_,km (n:Int),.inl X.az.2,rfl,rfl⟩,_,rfl,?_⟩⟩;cases hx:at1 n st.az with
   |none =>
    rw[hx]at q;rw[mL (sC hx)];have l1:(akc++ar "no matter of the number ":Str).length=24:=by decide +kernel
    have l2:(ar " is aside").length=9:=by decide +kernel
    have e10:(10:Nat) ^ 10=10000000000:=by decide
    have l3:(ar (toString (n:Int))).length<=20:=xO (by omega) (by omega)
    refine dM ⟨by rw[l1];omega,_,rfl,_,.int (l5 (by omega) (by omega)),by omega,by rw[len_app,l1];omega,by rw[len_app,len_app,l1,l2];omega,by rw[len_app,len_app,l1,l2];omega,(sl 1),?_⟩
    exact q c H _ _ (Step.refl aO) hc ⟨rfl,rfl⟩ (λ_ z=>nomatch z)
   |some x =>
    refine hide λGg hGg=>?_
    rw[hx]at q;dsimp only at q;obtain⟨t,p,hv,ht,hl⟩:=X.waitOf hx;refine hGg ?_;rw[hv];refine bw ?_;refine⟨_,rfl,o,A.ax,dx,_,.ref aA,rfl,X.ob,T.au,T.jq3,jP,_,rfl,aA,_,rfl,.inl ⟨_,km (n:Int),.inl X.az.2,rfl,hv.symm⟩,t,_,_,_,rfl,rfl,ht.sq,rfl,?_⟩;refine⟨_,rfl,o,A.ax,dx,_,.int st.aN,rfl,X.ob,T.au,T.jq1,iW,_,rfl,_,_,rfl,rfl,_,rfl,eQ (λz=>?_) (λz=>?_)⟩
    ·have z':st.aN < x.2.1:=of_decide_eq_true z;refine hide λGg hGg=>?_
     rw[if_pos z']at q;obtain⟨_,_,b1,b2⟩:=I.asd x (hU hx).2;refine hGg ?_;refine⟨_,rfl,_,rfl,pK (by have:=I.sit.1;omega) b2,λd hd=>?_⟩
     exact q (d6 c H) _ _ _ (Step.cl aO (aC hd)) (X.cl (aC hd)).at ⟨rfl,d,rfl,ae⟩ (λ_ z=>by cases z;exact cS hd)
    ·have z':¬st.aN < x.2.1:=λy=>z (decide_eq_true y)
     rw[if_neg z']at q;have nAt:t≠aA:=λy=>by have:=ht.1;rw[y,X.az.1]at this;cases this
     have ht':SqT K (upd H aA (.dK (iL (a9 ((st.az.map (·.1)).zip ws)) (km (n:Int))))) t [.int x.2.1,.ref p]:=by
      rcases ht.2 with h | ⟨u,h⟩
      ·exact .inl (.inl ((aq nAt).trans h))
      ·exact .inl (.inr ⟨u,(aq nAt).trans h⟩)
     have oA:o≠aA:=d0 X.co X.az.1 (λz=>nomatch z)
     refine fj rfl X.ob T.au T.jq3 jP ⟨aA,rfl,.inl ⟨_,.inl X.az.2⟩,_,rfl,_,km (n:Int),_,X.az.2,rfl,hv,.inr (.inl ⟨t,_,1,.ref p,rfl,rfl,ht',rfl,?_⟩)⟩;refine⟨_,rfl,o,A.ax,dx,_,rfl,(aq oA).trans X.ob,T.au,T.jq0,(by show 10 < 1000;decide),?_⟩
     rw[Gv];refine hide λGg hGg=>?_
     obtain⟨c1,ws1,s1,X1⟩:=X.qJ hl;refine hGg ?_;generalize upd (upd H aA (.dK (iL (a9 ((st.az.map (·.1)).zip ws)) (km (n:Int))))) o (.ins A.ax dx (chF (.int st.cJ) (.int st.aN) (.bl st.closed) (.ref aM) (.ref p) (.ref aA) (.ref aD) (.ref aF) (.ref aE) (.ref aR)))=H1 at s1 X1 ⊢
     have lr:=I.lr;have h10:(n:Int) < 10 ^ 10:=by
      have:(10:Nat) ^ 10=10000000000:=by decide
      have:(10:Int) ^ 10=10000000000:=by decide
      omega
     refine fj rfl X1.ob T.au T.jqd wb ⟨.inl ⟨rfl,_,SqL.of X1.rows.2⟩,_,rfl,(sl 2),λu hu=>?_⟩
     have s2:=aC (o:=.tup [V.str (ar "take"),nV n]) hu;refine⟨u,.nums (ar "take") [(n:Int)],rfl,SqT.of ae,BY (by show (ar "take",1)∈R.jj;decide +kernel) (by intro i hi;rw[akd]at hi;rw[hi];exact⟨by omega,h10⟩),λH2 s3=>?_⟩
     have X2:=X1.same (s2.trans s3);obtain⟨s4,X3⟩:=X2.row (R.r8 (.nums (ar "take") [(n:Int)]));refine⟨aR,_,_,rfl,rfl,X2.rows.2,by rw[cb];show st.rows.length < _;omega,_,rfl,?_⟩
     exact q c1 _ ((s1.il.trans (Step.same aO (s2.trans s3))).trans s4.il) X3.at
end
end My
set_option maxHeartbeats 1000000
namespace My
open PySem L2
seal PySem.wpAny
def eK:R.fH->Mn
 | .mat cs=>.mat (cs.map (sr R.bl1))
 | .ed m k j ws=>if m=true then .mnd ⟨k,j,sr R.bl1 ws⟩ else .chg ⟨k,j,sr R.bl1 ws⟩
 | .pt ws=>.pnt (sr R.bl1 ws)
 | .nums kd ns=>if kd=ar "put off" then .off (ns.getD 0 0) else if kd=ar "close" then .cls else if kd=ar "lay" then .lay else .rst
def nG:List (Str×Nat):=[(ar "put off",1),(ar "close",0),(ar "lay",0),(ar "rest",0)]
def Fq:R.fH->Prop
 | .mat cs=>cs.length<=12/\∀ws∈cs,R.BH 12 ws
 | .ed m k j ws=>(k=0\/k=1\/k=2)/\(-1000<=j/\j<=1000)/\R.BH 12 ws/\(m=true->ws.length=1)
 | .pt ws=>R.BH 12 ws
 | .nums kd ns=>(kd,ns.length)∈nG/\∀i∈ns,-10000000000 < i/\i < 10 ^ 10
theorem wq {kd:Str}{ns:List Int}(h:(kd,ns.length)∈nG):(∃u,kd=ar "put off"/\ns=[u])\/(kd=ar "close"/\ns=[])\/(kd=ar "lay"/\ns=[])\/(kd=ar "rest"/\ns=[]):=by
 unfold nG at h;simp only[List.mem_cons,List.not_mem_nil,or_false,Prod.mk.injEq]at h;rcases h with ⟨h1,h2⟩ | ⟨h1,h2⟩ | ⟨h1,h2⟩ | ⟨h1,h2⟩
 ·cases ns with
  |nil=>simp at h2
  |cons u r =>
   cases r with
   |nil=>exact .inl ⟨u,h1,rfl⟩
   |cons _ _=>simp at h2
 ·exact .inr (.inl ⟨h1,List.length_eq_zero_iff.mp h2⟩)
 ·exact .inr (.inr (.inl ⟨h1,List.length_eq_zero_iff.mp h2⟩))
 ·exact .inr (.inr (.inr ⟨h1,List.length_eq_zero_iff.mp h2⟩))
theorem GC {n:Nat}{ws:List Str}(h:R.BH n ws):ajZ (sr R.bl1 ws)=true:=(R.Clause.asc (n:=n) ⟨rfl,h.len,h.wd⟩).ok
theorem Kh {N:Nat}:∀ {d:R.fH},Fq d->MOk N (eK d)
 | .mat cs,h=>by
  refine⟨?_,?_⟩
  ·rw[cb];have:=h.1;omega
  ·intro x hx;obtain⟨ws,hw,rfl⟩:=List.mem_map.mp hx;exact GC (h.2 ws hw)
 | .ed m k j ws,h=>by
  obtain⟨h1,⟨h2,h3⟩,h4,h5⟩:=h;cases m with
  |true =>
   show EdB 1 ⟨k,j,sr R.bl1 ws⟩/\_;have hl:=h5 rfl
   match ws,hl,h4 with
   |[x],_,h4=>exact⟨⟨h1,h2,h3,[x],rfl,h4.wd,kr 1⟩,x,rfl,h4.wd x gn⟩
  |false =>
   show EdB (12+N) ⟨k,j,sr R.bl1 ws⟩;exact⟨h1,h2,h3,ws,rfl,h4.wd,by have:=h4.len;omega⟩
 | .pt ws,h=>GC h
 | .nums kd ns,h=>by
  obtain⟨h1,h2⟩:=h;rcases wq h1 with ⟨u,rfl,rfl⟩ | ⟨rfl,rfl⟩ | ⟨rfl,rfl⟩ | ⟨rfl,rfl⟩
  ·rw[eK,if_pos rfl];obtain⟨a,b⟩:=h2 u gn;have:(10:Int) ^ 10=10000000000:=by decide
   exact⟨a,by show u < _;omega⟩
  ·rw[eK,if_neg (by decide +kernel),if_pos rfl];trivial
  ·rw[eK,if_neg (by decide +kernel),if_neg (by decide +kernel),if_pos rfl];trivial
  ·rw[eK,if_neg (by decide +kernel),if_neg (by decide +kernel),if_neg (by decide +kernel)];trivial
theorem Uc {M:Nat}{e:Ed}(h:gK M e=true):0<=e.at_:=(BA.mp h).1
theorem Wv {N:Nat}{st:Ch}(I:Inv N st){d:R.fH}(h:Fq d)(hc:iY st (eK d)=none):R.DOk d:=by
 have ho:sx st.closed (st.aw.map st.mo) (eK d).k=none/\jR st (eK d)=none:=by
  unfold iY at hc;split at hc
  ·cases hc
  ·exact⟨by assumption,hc⟩
 obtain⟨h0,hf⟩:=ho;cases d with
 |mat cs=>exact h
 |pt ws=>exact h
 |ed m k j ws =>
  obtain⟨h1,⟨h2,h3⟩,h4,h5⟩:=h;have e10:(10:Int) ^ 10=10000000000:=by decide
  refine⟨h1,⟨?_,by omega⟩,h4,h5⟩
  cases m with
  |true =>
   rw[eK,if_pos rfl]at h0 hf;have h3:fL (st.aw.map st.mo)=true:=(wg h0).2;unfold fL at h3;split at h3
   ·rename_i e he;unfold jR at hf;dsimp only at hf;rw[he]at hf;dsimp only at hf;split at hf
    ·rename_i h6;exact Uc h6
    ·cases hf
   ·cases h3
  |false =>
   rw[eK,if_neg ku]at h0 hf;obtain⟨tx,r,e1⟩:=I.pil.Kb (wg h0).2;unfold jR at hf;dsimp only at hf;rw[e1]at hf;dsimp only at hf;split at hf
   ·rename_i h6;exact Uc h6
   ·cases hf
 |nums kd ns =>
  obtain⟨h1,h2⟩:=h;have s1:=I.sit.1;rcases wq h1 with ⟨u,rfl,rfl⟩ | ⟨rfl,rfl⟩ | ⟨rfl,rfl⟩ | ⟨rfl,rfl⟩
  ·rw[eK,if_pos rfl]at hf;refine⟨by show (ar "put off",1)∈R.jj;decide +kernel,λi hi=>?_⟩
   rw[akd]at hi;subst hi;unfold jR at hf;dsimp only at hf;split at hf
   ·cases hf
   ·rename_i h6;have h7:¬i<=st.aN:=h6;exact⟨by omega,(h2 i gn).2⟩
  ·exact⟨by decide +kernel,λ_ h=>nomatch h⟩
  ·exact⟨by decide +kernel,λ_ h=>nomatch h⟩
  ·exact⟨by decide +kernel,λ_ h=>nomatch h⟩
theorem wu {i:Nat}{c:Col}{H:Hp}{t:Addr}:∀ {d:R.fH},Fq d->qK i c H d t->∃v,xS i c H t (rowOf (eK d).k v)/\((eK d).k=0->∃L tx,v=.ref L/\eK d=.mat tx/\Nd i c H L (tx.map V.str))/\((eK d).k≠0->(eK d).Val c H v)
 | .mat cs,_,⟨L,a,b⟩=>⟨.ref L,a,λ_=>⟨L,_,rfl,rfl,b⟩,λz=>absurd rfl z⟩
 | .ed true k j ws,h,⟨e,a,b⟩=>⟨.ref e,a,λz=>(nomatch z),λ_=>⟨e,rfl,by rw[<-Fh h.1];exact b⟩⟩
 | .ed false k j ws,h,⟨e,a,b⟩=>⟨.ref e,a,λz=>(nomatch z),λ_=>⟨e,rfl,by rw[<-Fh h.1];exact b⟩⟩
 | .pt ws,_,a=>⟨.str (sr R.bl1 ws),a,λz=>(nomatch z),λ_=>rfl⟩
 | .nums kd ns,h,a=>by
  rcases wq h.1 with ⟨u,rfl,rfl⟩ | ⟨rfl,rfl⟩ | ⟨rfl,rfl⟩ | ⟨rfl,rfl⟩
  ·rw[eK,if_pos rfl];exact⟨.int u,a,λz=>(nomatch z),λ_=>rfl⟩
  ·rw[eK,if_neg (by decide +kernel),if_pos rfl]
   exact⟨.non,a,λz=>(nomatch z),λ_=>trivial⟩
  ·rw[eK,if_neg (by decide +kernel),if_neg (by decide +kernel),if_pos rfl]
   exact⟨.non,a,λz=>(nomatch z),λ_=>trivial⟩
  ·rw[eK,if_neg (by decide +kernel),if_neg (by decide +kernel),if_neg (by decide +kernel)]
   exact⟨.non,a,λz=>(nomatch z),λ_=>trivial⟩
def Ki (A:Adr)(K:ba):Sp:=λvs H Q E=>Me A vs H Q E\/Gp A K vs H Q E
def Ud (A:Adr)(i:Nat):Sp:=λvs H Q E=>∃(o t:Addr) (c:Col) (st:Ch) (N:Nat) (d:R.fH),vs=[.ref o,.ref t]/\fK A i c H o st/\Inv N st/\N<=800/\Fq d/\qK i c H d t /\
 (iY st (eK d)=none->∀H',bA H H'->Q .non H')/\∀x,iY st (eK d)=some x->∀C e H',bA H H'->x.New A H H' C e->E C e H'
def Qj (A:Adr)(i:Nat):Sp:=λvs H Q E=>∃(o t:Addr) (c:Col) (st:Ch) (N:Nat) (d:R.fH),vs=[.ref o,.ref t]/\fK A i c H o st/\Inv N st/\N<=800/\Fq d/\qK i c H d t/\Mv A i c H o (nF st (eK d) (R.r8 d)) Q E
theorem MOk.ed1 {N:Nat}{e:Ed}(h:MOk N (.chg e))(hN:N<=800):qW e:=EdB.ok h (by omega)
theorem MOk.ed2 {N:Nat}{e:Ed}(h:MOk N (.mnd e)):qW e:=EdB.ok h.1 (by decide)
section
variable{P:rf}{w:World}{K:ba}{mg:Str->Option Value}{base:Heap}{A:Adr}
theorem qy (T:Txt w.params K mg A){i:Nat}:aJ P w K mg base (CXX P w) 6 A.a8 A.b8 ["self","told"] (Ud A i):=by
 have jr:aJ P w K mg base CX0 1 A.bG A.dY ["self"] (xN A i):=BN T;have uL:aJ P w K mg base (CXX P w) 5 A.g0 A.eL ["kind","pile","closed"] (T7 A K):=t8 T;have kH:aJ P w K mg base (CXX P w) 2 A.kL A.gD ["things","edit"] (PN A K):=rY T;have fJ:aJ P w K mg base CX0 1 A.words_of A.fq ["clause"] R.gi:=R.kP T;have Fs:aJ P w K mg base CX0 1 A.qi A.nr ["self","sitting"] (CA A.bX "sitting"):=CM T;refine T.bL.okX cU (λvs H Q E h=>?_) (λcdv A' outer s H vs Q E hr h=>?_)
 ·obtain⟨o,t,c,st,N,d,rfl,_⟩:=h;rfl
 ·obtain⟨o,t,c,st,N,d,rfl,hc,I,hN,hd,hdc,q,qx⟩:=h;obtain⟨dx,aM,aP,aA,aD,aF,aE,aR,ms,ds,ws,fs,es,X⟩:=hc.ex;have hu1:=hr.u1;have iH:Room 1 _:=hr.mono (by decide)
  have uc:Room 5 _:=hr;have ji:Room 2 _:=hr.mono (by decide)
  have eI:Room 1 _:=hr.mono (by decide)
  have Na:Room 2 _:=hr.mono (by decide)
  refine⟨_,(bc (psx (aZ (i:=2) cU.nd rfl (wt rfl) (aT aU (pv 1) af (λ_ _=>rfl))))
 (bc (psx (aZ (i:=3) cU.nd rfl (wt rfl) (gz (pv 0) T.au T.jf jr iH T.eE .nil a7)))
 (bc (l7 (vo uL uc rfl T.mr T.iG.kp T.mq (pax (aa (pv 2) (aa (pv 3) (aa (bq (pv 0) rfl) ag))))))
 (bE (hX (aB bu (pv 2) ao (aK _))
 (bE (l7 (vo kH ji rfl T.kG T.ij.kp T.kF (pax (aa (bq (aT bF (pv 3) af (λ_ _=>rfl)) rfl) (aa (aT aU (pv 1) af (λ_ _=>rfl)) ag))))))
 (bE (hX (aB bu (pv 2) ao (aK _))
 (bE (l7 (vo kH ji rfl T.kG T.ij.kp T.kF (pax (aa (aW fJ eI rfl T.jM T.iF.kp T.jL .nil a7 (aa (aT aU (bq (aT bF (pv 3) (oJ jA af) (λ_ _=>rfl)) rfl) af (λ_ _=>rfl)) ag)) (aa (aT aU (pv 1) af (λ_ _=>rfl)) ag))))))
 (bE (hX (PW.pt (pw_and (aB bu (pv 2) ao (aK _)) (pw_and1 (aB vc (aT aU (pv 1) af (λ_ _=>rfl)) (bq (pv 0) rfl) (aK _)))))
 (bE (p9 T.nB Fs Na T.lI rfl rfl T.uB (aa (bq (pv 0) rfl) ag)))
 (vn aH)))))))))),?_⟩
  refine hide λGg hGg=>?_
  obtain⟨v,ht,hv0,hv1⟩:=wu hd hdc;have hmk:=Kh (N:=N) hd;refine hGg ?_;generalize eK d=m at ht hv0 hv1 hmk q qx;have lp:=I.pil.Gz;rw[cb]at lp;refine ixv rfl (SqT.of ht.2) d5 ?_;refine mtv rfl X.ob (dE (by decide +kernel)) ⟨o,c,st,rfl,hc,I.bT,by omega,λB os hB hos=>?_⟩
  have sB:=aC (o:=.lst (os.map V.ref)) hB;have hp:wc A K c (upd H B (.lst (os.map V.ref))) B (st.aw.map st.mo) os:=⟨SqL.of ae,wm sB hos⟩;generalize upd H B (.lst (os.map V.ref))=H1 at sB hp;refine⟨_,rfl,_,rfl,fj rfl (sB _ _ X.ob) T.au T.jq4 qu ⟨m.k,B,st.closed,c,st.aw.map st.mo,os,rfl,m.k8,hp,by rw[cb];omega,λho H2 s2=>?_,λx hx C e H2 s2 hat=>?_⟩⟩
  case refine_2=>exact qx x (by unfold iY;rw[hx]) C e H2 (sB.trans s2) ⟨hat.1,λa z=>same_none sB (hat.2 a z)⟩
  have ec:iY st m=jR st m:=by unfold iY;rw[ho]
  rw[ec]at q qx;have s12:=sB.trans s2;have hp2:=hp.same s2;obtain⟨h1,h2⟩:=wg ho;have X2:=X.same s12;have ht2:H2 t=some (.tup (rowOf m.k v)):=s12 _ _ ht.2;cases m with
  |mat tx=>exact⟨_,rfl,rfl,tsf (b9 0 (by decide)) ⟨_,rfl,rfl,tsf (cg 0 (by decide)) ⟨_,rfl,rfl,tsf (gN 0 (by decide)) (bw (q rfl H2 s12))⟩⟩⟩
  |pnt z=>exact⟨_,rfl,rfl,tsf (b9 7 (by decide)) ⟨_,rfl,rfl,tsf (cg 7 (by decide)) ⟨_,rfl,rfl,tsf (gN 7 (by decide)) (bw (q rfl H2 s12))⟩⟩⟩
  |cls=>exact⟨_,rfl,rfl,tsf (b9 4 (by decide)) ⟨_,rfl,rfl,tsf (cg 4 (by decide)) ⟨_,rfl,rfl,tsf (gN 4 (by decide)) (bw (q rfl H2 s12))⟩⟩⟩
  |lay=>exact⟨_,rfl,rfl,tsf (b9 5 (by decide)) ⟨_,rfl,rfl,tsf (cg 5 (by decide)) ⟨_,rfl,rfl,tsf (gN 5 (by decide)) (bw (q rfl H2 s12))⟩⟩⟩
  |rst=>exact⟨_,rfl,rfl,tsf (b9 6 (by decide)) ⟨_,rfl,rfl,tsf (cg 6 (by decide)) ⟨_,rfl,rfl,tsf (gN 6 (by decide)) (bw (q rfl H2 s12))⟩⟩⟩
  |chg e =>
   refine⟨_,rfl,rfl,tst (b9 1 (by decide)) ?_⟩
   refine hide λGg hGg=>?_
   obtain⟨tx,r,e1⟩:=I.pil.Kb h2;obtain⟨te,rfl,hte⟩:=hv1 (by simp[Mn.k])
   rw[e1]at hp2;obtain⟨hB2,ho2⟩:=hp2;refine hGg ?_;cases ho2 with
   | @cons _ ob _ bs hm ajD =>
    refine hide λGg hGg=>?_
    obtain⟨_,dm,v,hm2,L,rfl,hL⟩:=hm;refine hGg ?_;refine ixv rfl hB2 (eu (j:=0) rfl) ⟨ob,A.C 0,dm,_,.ref L,rfl,hm2,T.cl 0 (by decide),T.na0,rfl,ixv rfl (SqT.of ht2) rfl ?_⟩
    refine⟨L,te,tx.map V.str,e,rfl,SqL.of hL.2,bV s12 hte.sq,hmk.ed1 hN,λhf=>?_,λhf=>?_⟩
    ·rw[cb]at hf;refine q ?_ H2 s12;unfold jR;dsimp only;rw[e1];dsimp only;rw[if_pos hf]
    ·rw[cb]at hf;refine qx .noFit ?_ _ _ H2 s12 ⟨⟨rfl,rfl⟩,λ_ z=>nomatch z⟩
     unfold jR;dsimp only;rw[e1];dsimp only;rw[if_neg (by rw[hf];decide)]
  |mnd f =>
   refine⟨_,rfl,rfl,tsf (b9 2 (by decide)) ⟨_,rfl,rfl,tst (cg 2 (by decide)) ?_⟩⟩
   refine hide λGg hGg=>?_
   have h3:fL (st.aw.map st.mo)=true:=h2;unfold fL at h3;obtain⟨e,he,hk1⟩:∃e,(st.aw.map st.mo).getLast?=some (.chg e)/\e.k≠1:=by
    split at h3
    ·rename_i e he;exact⟨e,he,λz=>by rw[z]at h3;cases h3⟩
    ·cases h3
   obtain⟨r,e1⟩:=pN he;obtain⟨te,rfl,hte⟩:=hv1 (by simp[Mn.k])
   obtain⟨hB2,ho2⟩:=hp2;obtain⟨pre,ob,eo⟩:∃pre ob,os=pre++[ob]:=by
    have hl:=ho2.len;rw[e1,ky,ajW]at hl;rcases ajX os with e | ⟨pre,n,e⟩
    ·rw[e]at hl;simp at hl
    ·exact⟨pre,n,by rw[e,ajY]⟩
   subst eo;obtain⟨as',a,e3,_,hm⟩:=ho2.last;rw[e1]at e3;obtain⟨_,e4⟩:=List.append_inj' e3 rfl;cases e4;obtain⟨_,dm,v,hm2,tc,rfl,htc⟩:=hm;have hem:EdB (12+N) e:=by
    have Kj:Mn.chg e∈st.aw.map st.mo:=by rw[e1];simp
    obtain⟨k,hk,ek⟩:=List.mem_map.mp Kj;have:=I.wk (I.bT k hk);rw[ek]at this;exact this
   have heo:qW e:=hem.ok (by omega)
   refine hGg ?_;refine⟨_,rfl,_,rfl,B,_,_,_,rfl,rfl,hB2,BR pre ob,ob,A.C 1,dm,_,.ref tc,rfl,hm2,T.cl 1 (by decide),T.na1,rfl,tc,_,_,_,rfl,rfl,htc.sq,uD hk1,e.th,rfl,?_,λp1 hp1=>?_⟩
   ·have:=heo.th.len;have lim:ka=16777216:=by decide
    omega
   have s3:=aC (o:=.lst ((R.bp e.th).map V.str)) hp1;have s13:=s12.trans s3;refine ixv rfl (SqT.of (s3 _ _ ht2)) rfl ?_;refine⟨p1,te,(R.bp e.th).map V.str,f,rfl,SqL.of ae,bV s13 hte.sq,hmk.ed2,λhf=>?_,λhf=>?_⟩
   ·rw[cb]at hf;refine q ?_ _ s13;unfold jR;dsimp only;rw[he];dsimp only;rw[if_pos hf]
   ·rw[cb]at hf;refine qx .noFit ?_ _ _ _ s13 ⟨⟨rfl,rfl⟩,λ_ z=>nomatch z⟩
    unfold jR;dsimp only;rw[he];dsimp only;rw[if_neg (by rw[hf];decide)]
  |off u =>
   have hv':v=.int u:=hv1 (by simp[Mn.k])
   subst hv';refine⟨_,rfl,rfl,tsf (b9 3 (by decide)) ⟨_,rfl,rfl,tsf (cg 3 (by decide)) ⟨_,rfl,rfl,tst (gN 3 (by decide)) ?_⟩⟩⟩
   refine ixv rfl (SqT.of ht2) rfl (fj rfl X2.ob T.au T.jq1 iW ⟨_,_,rfl,rfl,_,rfl,eQ (λz=>?_) (λz=>?_)⟩)
   ·have z':u<=st.aN:=of_decide_eq_true z;have:=I.sit;refine fj rfl X2.ob T.au T.jq1 iW ⟨_,rfl,pK (by omega) (by omega),λd hd=>?_⟩
    refine qx (.mJ st.aN) ?_ _ _ _ (s12.new hd) ⟨⟨rfl,d,rfl,ae⟩,λ_ z=>by cases z;exact same_none s12 hd⟩
    unfold jR;dsimp only;rw[if_pos z']
   ·have z':¬u<=st.aN:=λy=>z (decide_eq_true y)
    refine q ?_ _ s12;unfold jR;dsimp only;rw[if_neg z']
end
end My
set_option maxHeartbeats 1000000
namespace My
open PySem L2
seal PySem.wpAny
section
variable{P:rf}{w:World}{K:ba}{mg:Str->Option Value}{base:Heap}{A:Adr}
theorem SH (T:Txt w.params K mg A):aJ P w K mg base CX0 3 A.lZ A.gY ["told"] (Ki A K):=aah (E8 T) (CL T)
theorem Qk {i:Nat}{c:Col}{H:Hp}{t:Addr}{m:Mn}{v:V}{Q:VK}{E:XK}(ht:xS i c H t (rowOf m.k v))(hv0:m.k=0->∃L tx,v=.ref L/\m=.mat tx/\Nd i c H L (tx.map V.str))(hv1:m.k≠0->m.Val c H v)
  (q:∀mo H',bA H H'->mG A (d6 c H) H' m mo->Q (.ref mo) H'):Ki A K [.ref t] H Q E:=by
 by_cases h0:m.k=0
 ·obtain⟨L,tx,rfl,rfl,hL⟩:=hv0 h0;refine .inr ⟨t,L,tx.map V.str,rfl,ht.2,SqL.of hL.2,λmo p H' s hm hp hp' hmo=>q mo H' s ?_⟩
  obtain⟨dx,hmo⟩:=hmo;exact⟨cS hm,dx,.ref p,hmo,p,rfl,cS hp,hp'⟩
 ·refine .inl ⟨t,m.k,v,by omega,m.k8,rfl,ht.2,λmo H' s hm hmo=>q mo H' s ?_⟩
  obtain⟨dx,hmo⟩:=hmo;exact⟨cS hm,dx,v,hmo,(hv1 h0).step (Step.cl (W:=λ_=>False) id s)⟩
theorem SI (T:Txt w.params K mg A){i:Nat}:aJ P w K mg base (CXX P w) 7 A.cq A.iz ["self","told"] (Qj A i):=by
 have kW:aJ P w K mg base (CXX P w) 6 A.a8 A.b8 ["self","told"] (Ud A i):=qy T;have GD:aJ P w K mg base CX0 3 A.lZ A.gY ["told"] (Ki A K):=SH T;have kS:aJ P w K mg base CX0 4 A.l4 A.g9 ["deed"] (R.E9 K):=R.qr T;refine T.gG.okX qA (λvs H Q E h=>?_) (λcdv A' outer s H vs Q E hr h=>?_)
 ·obtain⟨o,t,c,st,N,d,rfl,_⟩:=h;rfl
 ·obtain⟨o,t,c,st,N,d,rfl,hc,I,hN,hd,hdc,q⟩:=h;obtain⟨dx,aM,aP,aA,aD,aF,aE,aR,ms,ds,ws,fs,es,X⟩:=hc.ex;have hu1:=hr.u1;have jT:Room 6 _:=hr;have Ft:Room 3 _:=hr.mono (by decide)
  have jo:Room 4 _:=hr.mono (by decide)
  have lim:ka=16777216:=by decide
  refine⟨_,(bc (l7 (vp (px (pv 0)) T.au T.fv kW jT T.cj (pax (aa (pv 1) ag))))
 (bc (psx (aZ (i:=2) qA.nd rfl (wt rfl) (a6 dJ (ck Dk (by rfl) T.pE lb (aa (bq (pv 0) rfl) ag)) af)))
 (bc (psx (iw hu1 (bq (pv 0) rfl) (pv 2) (aW GD Ft rfl T.yu T.ny.kp T.yt .nil a7 (aa (pv 1) ag)) rfl))
 (bc (psx (bN (gB om ajQ ajR dq (bq (pv 0) rfl) (aa (pv 2) ag))))
 (bc (psx (bb (aB bu (aT aU (pv 1) af (λ_ _=>rfl)) ao (aK _))
 (ai (iw hu1 (bq (pv 0) rfl) (pv 2) (dn c9 (by rfl) T.my kh (aa (aT aU (pv 1) af (λ_ _=>rfl)) ag)) rfl)
 (aj (iw hu1 (bq (pv 0) rfl) (pv 2) (bQ ag) rfl)))
 aH))
 (bc (psx (bN (gB om ajQ ajR dq (bq (pv 0) rfl) (aa (aW kS jo rfl T.nA T.kM.kp T.nz .nil a7 (aa (pv 1) ag)) ag))))
 (bE (psx (aI (pv 2)))))))))),?_⟩
  unfold nF at q;refine mtv rfl X.ob (dE (by decide +kernel)) ⟨_,rfl,o,t,c,st,N,d,rfl,hc,I,hN,hd,hdc,λSJ H1 s1=>?_,λx hx C e H1 s1 hat=>?_⟩
  case refine_2 =>
   rw[hx]at q;exact q (d6 c H) H1 C e (Step.cl aO s1) (X.cl s1).at hat.1 (λa z=>cS (hat.2 a z))
  refine hide λGg hGg=>?_
  rw[SJ]at q;have aaQ:=Wv I hd SJ;have X1:=X.same s1;have st1:Step (dZ i) c c H H1:=Step.same aO s1;have Ww:=hdc.step st1;obtain⟨v,ht,hv0,hv1⟩:=wu hd Ww;obtain⟨m,em⟩:∃m,m=eK d:=⟨_,rfl⟩;rw[<-em]at ht hv0 hv1 q;have lm:=I.lm;have lr:=I.lr;have ml:=X1.mot.len;have lp:=I.pil.Gz;rw[cb]at lp;have el:(a9 ((aj9 1 st.made.length).zip (ms.map V.ref))).length=st.made.length:=by
   unfold a9;rw[cb,akR,akF,cb,<-ml,Nat.min_self]
  have en:(((a9 ((aj9 1 st.made.length).zip (ms.map V.ref))).length:Nat):Int)+1=((st.made.length+1:Nat):Int):=by rw[el];omega
  refine hGg ?_;refine fj rfl X1.ob T.au T.jq2 ip ⟨aM,_,rfl,X1.made.2,_,_,rfl,rfl,?_⟩;dsimp only[iZ];rw[en];refine⟨_,rfl,Qk ht hv0 hv1 λmo H2 s2 hmo=>?_⟩
  have X2:=X1.cl s2;have st2:Step (dZ i) c (d6 c H1) H1 H2:=Step.cl aO s2;refine fj rfl X2.ob T.au T.jq2 ip ⟨_,rfl,aM,_,rfl,oQ.k (k:=km ((st.made.length+1:Nat):Int)) X2.made.2 (by omega),?_⟩
  obtain⟨st3,X3⟩:=X2.Sv hmo;have Wx:=st2.trans st3.il;generalize upd H2 aM (.dK (putK (a9 ((aj9 1 st.made.length).zip (ms.map V.ref))) (km ((st.made.length+1:Nat):Int)) (.ref mo)))=H3 at Wx X3 ⊢;clear hmo st2 X2;generalize d6 c H1=c3 at Wx X3;refine fj rfl X3.ob T.au T.jq0 fb ⟨.inl ⟨rfl,_,SqL.of X3.aw.2⟩,_,rfl,aP,_,_,rfl,rfl,X3.aw.2,by rw[cb];show st.aw.length < _;omega,?_⟩
  obtain⟨st4,X4⟩:=X3.push (st.made.length+1);have aaR:=Wx.trans st4.il;have X4':ChX A i c3 (upd H3 aP (.lst (st.aw.map nV++[V.int ((st.made.length+1:Nat):Int)]))) o { st with made:=st.made++[m],aw:=st.aw++[st.made.length+1] } dx aM aP aA aD aF aE aR (ms++[mo]) ds ws fs es:=X4
  have DT:Step (dZ i) c c3 H1 (upd H3 aP (.lst (st.aw.map nV++[V.int ((st.made.length+1:Nat):Int)]))):=aaR;clear X4 aaR st4;generalize upd H3 aP (.lst (st.aw.map nV++[V.int ((st.made.length+1:Nat):Int)]))=H4 at X4' DT ⊢;have nf:st.made.length+1∉st.wj:=λz=>by
   have:=(List.mem_filter.mp z).1;rw[akK]at this;omega
  have ht4:=ht.step DT
  by_cases h0:m.k=0
  ·obtain⟨L,tx,rfl,rfl,hL⟩:=hv0 h0;have hL4:=hL.step DT;refine ixv rfl (SqT.of ht4.2) rfl ⟨rfl,tst (BS 0 (by decide)) ?_⟩
   refine ixv rfl (SqT.of ht4.2) rfl ⟨L,_,rfl,.inl (SqL.of hL4.2),λp hp=>?_⟩
   have lf:st.firsts.length=fs.length:=X4'.first.len;have lff:st.firsts.length<=st.made.length:=by
    have:=congrArg List.length I.ff;rw[cb]at this;rw[this];exact ajI (List.length_filter_le _ _) (by rw[akF];exact kr _)
   have lkk:st.kept.length<=st.made.length:=by
    have:=congrArg List.length I.kk;rw[cb]at this;rw[this];exact ajI (List.length_filter_le _ _) (by rw[akF];exact kr _)
   have sp:=aC (o:=.lst (tx.map V.str)) hp;refine fj rfl (sp _ _ X4'.ob) T.au T.jqb yY ⟨_,rfl,aF,_,rfl,oQ.k (k:=km ((st.made.length+1:Nat):Int)) (sp _ _ X4'.firsts.2) ?_,?_⟩
   ·unfold a9;rw[cb,akR,cb];show min st.firsts.length _ < _;omega
   obtain⟨st5,X5⟩:=X4'.P7 (tx:=tx) hp (n:=st.made.length+1) (by show _∉st.firsts.map (·.1);rw[I.ff];exact nf)
   have X5':ChX A i (ay c3 p (some (i,.cY (st.made.length+1)))) (upd (upd H4 p (.lst (tx.map V.str))) aF (.dK (putK (a9 ((st.firsts.map (·.1)).zip fs)) (km ((st.made.length+1:Nat):Int)) (.ref p)))) o { st with made:=st.made++[.mat tx],aw:=st.aw++[st.made.length+1],firsts:=st.firsts++[(st.made.length+1,tx)] } dx aM aP aA aD aF aE aR (ms++[mo]) ds ws (fs++[.ref p]) es:=X5
   have Wy:Step (dZ i) c (ay c3 p (some (i,.cY (st.made.length+1)))) H1 (upd (upd H4 p (.lst (tx.map V.str))) aF (.dK (putK (a9 ((st.firsts.map (·.1)).zip fs)) (km ((st.made.length+1:Nat):Int)) (.ref p)))):=DT.trans st5.il
   clear X5 st5;generalize ay c3 p (some (i,.cY (st.made.length+1)))=c5 at X5' Wy;generalize upd (upd H4 p (.lst (tx.map V.str))) aF (.dK (putK (a9 ((st.firsts.map (·.1)).zip fs)) (km ((st.made.length+1:Nat):Int)) (.ref p)))=H5 at X5' Wy ⊢
   refine⟨(sl 0),λp2 hp2=>?_⟩
   have sp2:=aC (o:=.lst []) hp2;refine fj rfl (sp2 _ _ X5'.ob) T.au T.jq5 sg ⟨_,rfl,aE,_,rfl,oQ.k (k:=km ((st.made.length+1:Nat):Int)) (sp2 _ _ X5'.kQ.2) ?_,?_⟩
   ·unfold a9;rw[cb,akR,cb];show min st.kept.length _ < _;omega
   obtain⟨st6,X6⟩:=X5'.Sw hp2 (n:=st.made.length+1) (by show _∉st.kept.map (·.1);rw[I.kk];exact nf)
   have aaS:=Wy.trans st6.il;have Wz:=Ww.step aaS;refine fj rfl X6.ob T.au T.jqd wb ⟨.inl ⟨rfl,_,SqL.of X6.rows.2⟩,_,rfl,t,d,rfl,Wz.at,aaQ,λH7 s7=>?_⟩
   have X7:=X6.same s7;obtain⟨st8,X8⟩:=X7.row (R.r8 d);refine⟨aR,_,_,rfl,rfl,X7.rows.2,by rw[cb];show st.rows.length < _;omega,_,rfl,?_⟩
   exact q _ _ (((st1.trans aaS).trans (Step.same aO s7)).trans st8.il) X8.at
  ·refine ixv rfl (SqT.of ht4.2) d5 ⟨rfl,tsf ((BS m.k m.k8).trans (decide_eq_false h0)) ?_⟩;have Wz:=Ww.step DT;refine fj rfl X4'.ob T.au T.jqd wb ⟨.inl ⟨rfl,_,SqL.of X4'.rows.2⟩,_,rfl,t,d,rfl,Wz.at,aaQ,λH7 s7=>?_⟩
   have X7:=X4'.same s7;obtain⟨st8,X8⟩:=X7.row (R.r8 d);refine⟨aR,_,_,rfl,rfl,X7.rows.2,by rw[cb];show st.rows.length < _;omega,_,rfl,?_⟩
   have e8:st.moved m (R.r8 d)={ st with made:=st.made++[m],aw:=st.aw++[st.made.length+1],rows:=st.rows++[R.r8 d] }:=by
    unfold Ch.moved;cases m with
    |mat tx=>exact absurd rfl h0
    |_=>rfl
   rw[e8]at q;exact q _ _ (((st1.trans DT).trans (Step.same aO s7)).trans st8.il) X8.at
end
end My
set_option maxHeartbeats 1000000
namespace My
open PySem L2
seal PySem.wpAny
def Mz (n:Int):Ch:=⟨n,1,false,[],[],[],[],[],[],[]⟩
def Ue (A:Adr):Sp:=λvs H Q _=>∃(o dx:Addr) (n:Int),vs=[.ref o,.int n]/\H o=some (.ins A.ax dx []) /\
 ∀H',(∀(i:Nat) (c:Col),∃c',(∀a v,H a=some v->a≠o->H' a=some v/\c' a=c a)/\fK A i c' H' o (Mz n))->Q .non H'
theorem iq {f:Str}{v:V}:∀ {fs:List (Str×V)},f∉fs.map (·.1)->gx f v fs=fs++[(f,v)]
 |[],_=>rfl
 | (g,x)::r,h=>by
  rw[gx,if_neg (λz=>h (by rw[<-z];exact gn)),iq λz=>h (kq _ z)]
  rfl
theorem nxt {H:Hp}{o a C dx:Addr}{fs fs':List (Str×V)}{v:HO}(ho:H o=some (.ins C dx fs))(ha:H a=none) :
  (upd (upd H a v) o (.ins C dx fs')) a=some v/\(upd (upd H a v) o (.ins C dx fs')) o=some (.ins C dx fs')/\a≠o/\∀b u,H b=some u->b≠o->(upd (upd H a v) o (.ins C dx fs')) b=some u/\b≠a:=by
 have na:a≠o:=(aG ho ha).symm;refine⟨(aq na).trans ae,ae,na,λb u hb hbo=>?_⟩
 have nb:b≠a:=aG hb ha;exact⟨(aq hbo).trans ((aq nb).trans hb),nb⟩
section
variable{P:rf}{w:World}{K:ba}{mg:Str->Option Value}{base:Heap}{A:Adr}
theorem WA (T:Txt w.params K mg A):aJ P w K mg base CX0 2 A.cn A.iy ["self","seats"] (Ue A):=by
 refine T.gF.ok yR (λvs H Q E h=>?_) (λcdv A' outer s H vs Q E hr h=>?_)
 ·obtain⟨o,dx,n,rfl,_⟩:=h;rfl
 ·obtain⟨o,dx,n,rfl,ho,q⟩:=h;refine⟨_,(ai (eP (pv 0) (pv 1) rfl)
 (ai (eP (pv 0) af rfl)
 (ai (eP (pv 0) oH rfl)
 (ai (eP (pv 0) oR rfl)
 (ai (eP (pv 0) (bQ ag) rfl)
 (ai (eP (pv 0) oR rfl)
 (ai (eP (pv 0) (bQ ag) rfl)
 (ai (eP (pv 0) oR rfl)
 (ai (eP (pv 0) oR rfl)
 (aj (eP (pv 0) (bQ ag) rfl))))))))))),?_⟩
  refine⟨_,rfl,_,rfl,o,A.ax,dx,_,rfl,ho,T.au,T.jqv,(by show 0 < 1000;decide),?_⟩
  refine⟨_,rfl,o,A.ax,dx,_,rfl,ae,T.au,T.jq1,(by show 1 < 1000;decide),?_⟩
  rw[nc];refine⟨_,rfl,o,A.ax,dx,_,rfl,ae,T.au,T.jq4,(by show 2 < 1000;decide),?_⟩
  rw[nc];have e0:gx (ar "closed") (V.bl false) (gx (ar "sitting") (V.int 1) (gx (ar "seats") (V.int n) []))=[(ar "seats",V.int n),(ar "sitting",V.int 1),(ar "closed",V.bl false)]:=by
   have f1:gx (ar "seats") (V.int n) []=[(ar "seats",V.int n)]:=rfl;have f2:gx (ar "sitting") (V.int 1) [(ar "seats",V.int n)]=[(ar "seats",V.int n),(ar "sitting",V.int 1)]:=iq (by show _∉[ar "seats"];decide +kernel)
   rw[f1,f2];exact iq (by show _∉[ar "seats",ar "sitting"];decide +kernel)
  rw[e0];have o0:(upd H o (.ins A.ax dx [(ar "seats",V.int n),(ar "sitting",V.int 1),(ar "closed",V.bl false)])) o=some (.ins A.ax dx [(ar "seats",V.int n),(ar "sitting",V.int 1),(ar "closed",V.bl false)]):=ae;have k0:∀b u,H b=some u->b≠o->(upd H o (.ins A.ax dx [(ar "seats",V.int n),(ar "sitting",V.int 1),(ar "closed",V.bl false)])) b=some u:=λb u hb hbo=>(aq hbo).trans hb
  generalize upd H o (.ins A.ax dx [(ar "seats",V.int n),(ar "sitting",V.int 1),(ar "closed",V.bl false)])=H0 at o0 k0 ⊢;refineλaM zaM=>?_
  have naM:o≠aM:=aG o0 zaM;refine⟨_,rfl,o,A.ax,dx,_,rfl,(aq naM).trans o0,T.au,T.jq2,(by show 3 < 1000;decide),?_⟩
  have e1:gx (ar "made") (V.ref aM) [(ar "seats",V.int n),(ar "sitting",V.int 1),(ar "closed",V.bl false)]=[(ar "seats",V.int n),(ar "sitting",V.int 1),(ar "closed",V.bl false),(ar "made",V.ref aM)]:=iq (by show _∉[ar "seats",ar "sitting",ar "closed"];decide +kernel)
  rw[e1];refine hide λGg hGg=>?_
  obtain⟨yaM,o1,_,waM⟩:=nxt (v:=.dK []) (fs':=[(ar "seats",V.int n),(ar "sitting",V.int 1),(ar "closed",V.bl false),(ar "made",V.ref aM)]) o0 zaM;have k1:=λb u (hb:H b=some u) (hbo:b≠o)=>waM b u (k0 b u hb hbo) hbo
  refine hGg ?_;generalize upd (upd H0 aM (.dK [])) o (.ins A.ax dx [(ar "seats",V.int n),(ar "sitting",V.int 1),(ar "closed",V.bl false),(ar "made",V.ref aM)])=H1 at o1 k1 waM yaM ⊢;clear waM;refine⟨(sl 0),λaP zaP=>?_⟩
  have naP:o≠aP:=aG o1 zaP;refine⟨_,rfl,o,A.ax,dx,_,rfl,(aq naP).trans o1,T.au,T.jq0,(by show 4 < 1000;decide),?_⟩
  have e2:gx (ar "pile") (V.ref aP) [(ar "seats",V.int n),(ar "sitting",V.int 1),(ar "closed",V.bl false),(ar "made",V.ref aM)]=[(ar "seats",V.int n),(ar "sitting",V.int 1),(ar "closed",V.bl false),(ar "made",V.ref aM),(ar "pile",V.ref aP)]:=iq (by show _∉[ar "seats",ar "sitting",ar "closed",ar "made"];decide +kernel)
  rw[e2];refine hide λGg hGg=>?_
  obtain⟨yaP,o2,_,waP⟩:=nxt (v:=.lst []) (fs':=[(ar "seats",V.int n),(ar "sitting",V.int 1),(ar "closed",V.bl false),(ar "made",V.ref aM),(ar "pile",V.ref aP)]) o1 zaP;obtain⟨yaM,aaT⟩:=waP _ _ yaM (aj2 naM);have k2:=λb u (hb:H b=some u) (hbo:b≠o)=>waP b u ((k1 b u hb hbo).1) hbo
  refine hGg ?_;generalize upd (upd H1 aP (.lst [])) o (.ins A.ax dx [(ar "seats",V.int n),(ar "sitting",V.int 1),(ar "closed",V.bl false),(ar "made",V.ref aM),(ar "pile",V.ref aP)])=H2 at o2 k2 waP yaM yaP ⊢;clear waP;refineλaA zaA=>?_
  have naA:o≠aA:=aG o2 zaA;refine⟨_,rfl,o,A.ax,dx,_,rfl,(aq naA).trans o2,T.au,T.jq3,(by show 5 < 1000;decide),?_⟩
  have e3:gx (ar "aside") (V.ref aA) [(ar "seats",V.int n),(ar "sitting",V.int 1),(ar "closed",V.bl false),(ar "made",V.ref aM),(ar "pile",V.ref aP)]=[(ar "seats",V.int n),(ar "sitting",V.int 1),(ar "closed",V.bl false),(ar "made",V.ref aM),(ar "pile",V.ref aP),(ar "aside",V.ref aA)]:=iq (by show _∉[ar "seats",ar "sitting",ar "closed",ar "made",ar "pile"];decide +kernel)
  rw[e3];refine hide λGg hGg=>?_
  obtain⟨yaA,o3,_,waA⟩:=nxt (v:=.dK []) (fs':=[(ar "seats",V.int n),(ar "sitting",V.int 1),(ar "closed",V.bl false),(ar "made",V.ref aM),(ar "pile",V.ref aP),(ar "aside",V.ref aA)]) o2 zaA;obtain⟨yaM,aaU⟩:=waA _ _ yaM (aj2 naM);obtain⟨yaP,aaV⟩:=waA _ _ yaP (aj2 naP);have k3:=λb u (hb:H b=some u) (hbo:b≠o)=>waA b u ((k2 b u hb hbo).1) hbo
  refine hGg ?_;generalize upd (upd H2 aA (.dK [])) o (.ins A.ax dx [(ar "seats",V.int n),(ar "sitting",V.int 1),(ar "closed",V.bl false),(ar "made",V.ref aM),(ar "pile",V.ref aP),(ar "aside",V.ref aA)])=H3 at o3 k3 waA yaM yaP yaA ⊢;clear waA;refine⟨(sl 0),λaD zaD=>?_⟩
  have naD:o≠aD:=aG o3 zaD;refine⟨_,rfl,o,A.ax,dx,_,rfl,(aq naD).trans o3,T.au,T.jqc,(by show 6 < 1000;decide),?_⟩
  have e4:gx (ar "decided") (V.ref aD) [(ar "seats",V.int n),(ar "sitting",V.int 1),(ar "closed",V.bl false),(ar "made",V.ref aM),(ar "pile",V.ref aP),(ar "aside",V.ref aA)]=[(ar "seats",V.int n),(ar "sitting",V.int 1),(ar "closed",V.bl false),(ar "made",V.ref aM),(ar "pile",V.ref aP),(ar "aside",V.ref aA),(ar "decided",V.ref aD)]:=iq (by show _∉[ar "seats",ar "sitting",ar "closed",ar "made",ar "pile",ar "aside"];decide +kernel)
  rw[e4];refine hide λGg hGg=>?_
  obtain⟨yaD,o4,_,waD⟩:=nxt (v:=.lst []) (fs':=[(ar "seats",V.int n),(ar "sitting",V.int 1),(ar "closed",V.bl false),(ar "made",V.ref aM),(ar "pile",V.ref aP),(ar "aside",V.ref aA),(ar "decided",V.ref aD)]) o3 zaD;obtain⟨yaM,aaW⟩:=waD _ _ yaM (aj2 naM);obtain⟨yaP,aaX⟩:=waD _ _ yaP (aj2 naP);obtain⟨yaA,aaY⟩:=waD _ _ yaA (aj2 naA);have k4:=λb u (hb:H b=some u) (hbo:b≠o)=>waD b u ((k3 b u hb hbo).1) hbo
  refine hGg ?_;generalize upd (upd H3 aD (.lst [])) o (.ins A.ax dx [(ar "seats",V.int n),(ar "sitting",V.int 1),(ar "closed",V.bl false),(ar "made",V.ref aM),(ar "pile",V.ref aP),(ar "aside",V.ref aA),(ar "decided",V.ref aD)])=H4 at o4 k4 waD yaM yaP yaA yaD ⊢;clear waD;refineλaF zaF=>?_
  have naF:o≠aF:=aG o4 zaF;refine⟨_,rfl,o,A.ax,dx,_,rfl,(aq naF).trans o4,T.au,T.jqb,(by show 7 < 1000;decide),?_⟩
  have e5:gx (ar "first_texts") (V.ref aF) [(ar "seats",V.int n),(ar "sitting",V.int 1),(ar "closed",V.bl false),(ar "made",V.ref aM),(ar "pile",V.ref aP),(ar "aside",V.ref aA),(ar "decided",V.ref aD)]=[(ar "seats",V.int n),(ar "sitting",V.int 1),(ar "closed",V.bl false),(ar "made",V.ref aM),(ar "pile",V.ref aP),(ar "aside",V.ref aA),(ar "decided",V.ref aD),(ar "first_texts",V.ref aF)]:=iq (by show _∉[ar "seats",ar "sitting",ar "closed",ar "made",ar "pile",ar "aside",ar "decided"];decide +kernel)
  rw[e5];refine hide λGg hGg=>?_
  obtain⟨yaF,o5,_,waF⟩:=nxt (v:=.dK []) (fs':=[(ar "seats",V.int n),(ar "sitting",V.int 1),(ar "closed",V.bl false),(ar "made",V.ref aM),(ar "pile",V.ref aP),(ar "aside",V.ref aA),(ar "decided",V.ref aD),(ar "first_texts",V.ref aF)]) o4 zaF;obtain⟨yaM,aaZ⟩:=waF _ _ yaM (aj2 naM);obtain⟨yaP,aa0⟩:=waF _ _ yaP (aj2 naP);obtain⟨yaA,aa1⟩:=waF _ _ yaA (aj2 naA);obtain⟨yaD,aa2⟩:=waF _ _ yaD (aj2 naD);have k5:=λb u (hb:H b=some u) (hbo:b≠o)=>waF b u ((k4 b u hb hbo).1) hbo
  refine hGg ?_;generalize upd (upd H4 aF (.dK [])) o (.ins A.ax dx [(ar "seats",V.int n),(ar "sitting",V.int 1),(ar "closed",V.bl false),(ar "made",V.ref aM),(ar "pile",V.ref aP),(ar "aside",V.ref aA),(ar "decided",V.ref aD),(ar "first_texts",V.ref aF)])=H5 at o5 k5 waF yaM yaP yaA yaD yaF ⊢;clear waF;refineλaE zaE=>?_
  have naE:o≠aE:=aG o5 zaE;refine⟨_,rfl,o,A.ax,dx,_,rfl,(aq naE).trans o5,T.au,T.jq5,(by show 8 < 1000;decide),?_⟩
  have e6:gx (ar "edits_kept") (V.ref aE) [(ar "seats",V.int n),(ar "sitting",V.int 1),(ar "closed",V.bl false),(ar "made",V.ref aM),(ar "pile",V.ref aP),(ar "aside",V.ref aA),(ar "decided",V.ref aD),(ar "first_texts",V.ref aF)]=[(ar "seats",V.int n),(ar "sitting",V.int 1),(ar "closed",V.bl false),(ar "made",V.ref aM),(ar "pile",V.ref aP),(ar "aside",V.ref aA),(ar "decided",V.ref aD),(ar "first_texts",V.ref aF),(ar "edits_kept",V.ref aE)]:=iq (by show _∉[ar "seats",ar "sitting",ar "closed",ar "made",ar "pile",ar "aside",ar "decided",ar "first_texts"];decide +kernel)
  rw[e6];refine hide λGg hGg=>?_
  obtain⟨yaE,o6,_,waE⟩:=nxt (v:=.dK []) (fs':=[(ar "seats",V.int n),(ar "sitting",V.int 1),(ar "closed",V.bl false),(ar "made",V.ref aM),(ar "pile",V.ref aP),(ar "aside",V.ref aA),(ar "decided",V.ref aD),(ar "first_texts",V.ref aF),(ar "edits_kept",V.ref aE)]) o5 zaE;obtain⟨yaM,aa3⟩:=waE _ _ yaM (aj2 naM);obtain⟨yaP,aa4⟩:=waE _ _ yaP (aj2 naP);obtain⟨yaA,aa5⟩:=waE _ _ yaA (aj2 naA);obtain⟨yaD,aa6⟩:=waE _ _ yaD (aj2 naD);obtain⟨yaF,aa7⟩:=waE _ _ yaF (aj2 naF);have k6:=λb u (hb:H b=some u) (hbo:b≠o)=>waE b u ((k5 b u hb hbo).1) hbo
  refine hGg ?_;generalize upd (upd H5 aE (.dK [])) o (.ins A.ax dx [(ar "seats",V.int n),(ar "sitting",V.int 1),(ar "closed",V.bl false),(ar "made",V.ref aM),(ar "pile",V.ref aP),(ar "aside",V.ref aA),(ar "decided",V.ref aD),(ar "first_texts",V.ref aF),(ar "edits_kept",V.ref aE)])=H6 at o6 k6 waE yaM yaP yaA yaD yaF yaE ⊢;clear waE;refine⟨(sl 0),λaR zaR=>?_⟩
  have naR:o≠aR:=aG o6 zaR;refine⟨_,rfl,o,A.ax,dx,_,rfl,(aq naR).trans o6,T.au,T.jqd,(by show 9 < 1000;decide),?_⟩
  have e7:gx (ar "rows") (V.ref aR) [(ar "seats",V.int n),(ar "sitting",V.int 1),(ar "closed",V.bl false),(ar "made",V.ref aM),(ar "pile",V.ref aP),(ar "aside",V.ref aA),(ar "decided",V.ref aD),(ar "first_texts",V.ref aF),(ar "edits_kept",V.ref aE)]=[(ar "seats",V.int n),(ar "sitting",V.int 1),(ar "closed",V.bl false),(ar "made",V.ref aM),(ar "pile",V.ref aP),(ar "aside",V.ref aA),(ar "decided",V.ref aD),(ar "first_texts",V.ref aF),(ar "edits_kept",V.ref aE),(ar "rows",V.ref aR)]:=iq (by show _∉[ar "seats",ar "sitting",ar "closed",ar "made",ar "pile",ar "aside",ar "decided",ar "first_texts",ar "edits_kept"];decide +kernel)
  rw[e7];refine hide λGg hGg=>?_
  obtain⟨yaR,o7,_,waR⟩:=nxt (v:=.lst []) (fs':=[(ar "seats",V.int n),(ar "sitting",V.int 1),(ar "closed",V.bl false),(ar "made",V.ref aM),(ar "pile",V.ref aP),(ar "aside",V.ref aA),(ar "decided",V.ref aD),(ar "first_texts",V.ref aF),(ar "edits_kept",V.ref aE),(ar "rows",V.ref aR)]) o6 zaR;obtain⟨yaM,aa8⟩:=waR _ _ yaM (aj2 naM);obtain⟨yaP,aa9⟩:=waR _ _ yaP (aj2 naP);obtain⟨yaA,aba⟩:=waR _ _ yaA (aj2 naA);obtain⟨yaD,abb⟩:=waR _ _ yaD (aj2 naD);obtain⟨yaF,abc⟩:=waR _ _ yaF (aj2 naF);obtain⟨yaE,abd⟩:=waR _ _ yaE (aj2 naE);have k7:=λb u (hb:H b=some u) (hbo:b≠o)=>waR b u ((k6 b u hb hbo).1) hbo
  refine hGg ?_;generalize upd (upd H6 aR (.lst [])) o (.ins A.ax dx [(ar "seats",V.int n),(ar "sitting",V.int 1),(ar "closed",V.bl false),(ar "made",V.ref aM),(ar "pile",V.ref aP),(ar "aside",V.ref aA),(ar "decided",V.ref aD),(ar "first_texts",V.ref aF),(ar "edits_kept",V.ref aE),(ar "rows",V.ref aR)])=H7 at o7 k7 waR yaM yaP yaA yaD yaF yaE yaR ⊢;clear waR;refine q H7 λi c=>⟨ay (ay (ay (ay (ay (ay (ay (ay c o (some (i,Rl.ob))) aM (some (i,Rl.made))) aP (some (i,Rl.aw))) aA (some (i,Rl.az))) aD (some (i,Rl.decided))) aF (some (i,Rl.firsts))) aE (some (i,Rl.kept))) aR (some (i,Rl.rows)),λb u hb hbo=>⟨(k7 b u hb hbo).1,?_⟩,⟨dx,aM,aP,aA,aD,aF,aE,aR,[],[],[],[],[],?_⟩⟩
  ·rw[av (k7 b u hb hbo).2,av (k6 b u hb hbo).2,av (k5 b u hb hbo).2,av (k4 b u hb hbo).2,av (k3 b u hb hbo).2,av (k2 b u hb hbo).2,av (k1 b u hb hbo).2,av hbo]
  ·exact⟨by rw[av naR,av naE,av naF,av naD,av naA,av naP,av naM,aV],o7,⟨by rw[av aa8,av aa3,av aaZ,av aaW,av aaU,av aaT,aV],yaM⟩,.nil,⟨by rw[av aa9,av aa4,av aa0,av aaX,av aaV,aV],yaP⟩,⟨by rw[av aba,av aa5,av aa1,av aaY,aV],yaA⟩,.nil,⟨by rw[av abb,av aa6,av aa2,aV],yaD⟩,.nil,⟨by rw[av abc,av aa7,aV],yaF⟩,.nil,⟨by rw[av abd,aV],yaE⟩,.nil,⟨by rw[aV],yaR⟩⟩
end
end My
set_option maxHeartbeats 1000000
namespace My
open PySem L2
seal PySem.wpAny
def abe (A:Adr)(i:Nat):Sp:=λvs H Q _=>∃(o:Addr) (n:Nat) (c:Col) (st:Ch) (x:Nat×Int×List Nat),vs=[.ref o,nV n]/\fK A i c H o st/\at1 n st.az=some x /\
 ∀l u H',H l=none->H u=none->bA H H'->H' l=some (.lst (x.2.2.map nV))->H' u=some (.tup [nV n,.int x.2.1,.ref l])->Q (.ref u) H'
def fw (ns:List Nat):PyData:=.list (ns.map λn:Nat=>.int (n:Int))
def asD (x:Nat×Int×List Nat):PyData:=.tuple [.int (x.1:Int),.int x.2.1,fw x.2.2]
def dcD (x:Nat×Str):PyData:=.tuple [.int (x.1:Int),.str x.2]
def xW (st:Ch)(n:Int):Nat×Int×List Nat:=(at1 n.toNat st.az).getD (0,0,[])
def stD (st:Ch)(ns:List Int):PyData:=.tuple [.int st.aN,.bool st.closed,fw st.aw,.list (ns.map λn=>asD (xW st n)),.list (st.decided.map dcD)]
def MA (A:Adr)(K:ba)(i:Nat):Sp:=λvs H Q _=>∃(o:Addr) (c:Col) (st:Ch),vs=[.ref o]/\fK A i c H o st/\st.az.length < 64/\st.aw.length<=1000/\st.decided.length<=1000 /\
 ∀(ns:List Int) (u:Addr) (H':Hp),ala ns (st.az.map λx=>(x.1:Int))->ns.Pairwise (·<=·)->bA H H'->DV K H' (stD st ns) (.ref u)->Q (.ref u) H'
def mnD:Mn->PyData
 | .mat tx=>.tuple [.str (nm 0),.list (tx.map alc)]
 | .chg e=>.tuple [.str (nm 1),edD e]
 | .mnd e=>.tuple [.str (nm 2),edD e]
 | .off u=>.tuple [.str (nm 3),.int u]
 | .cls=>.tuple [.str (nm 4)]
 | .lay=>.tuple [.str (nm 5)]
 | .rst=>.tuple [.str (nm 6)]
 | .pnt z=>.tuple [.str (nm 7),.str z]
def GF (A:Adr)(K:ba)(i:Nat):Sp:=λvs H Q E=>∃(o:Addr) (n:Nat) (c:Col) (st:Ch),vs=[.ref o,nV n]/\fK A i c H o st/\n < 10 ^ 10 /\
 (dC st n->∀u H',bA H H'->DV K H' (mnD (st.mo n)) (.ref u)->Q (.ref u) H')/\(¬dC st n->E (.ref A.qh) none H)
theorem MB {α:Type}{K:ba}{H:Hp}{f:α->PyData}{g:α->V}:∀ {xs:List α},(∀x∈xs,DV K H (f x) (g x))->DVs K H (xs.map f) (xs.map g)
 |[],_=>by unfold DVs;rfl
 |x::xs,h=>by
  rw[kj,kj];unfold DVs;exact⟨g x,xs.map g,rfl,h x gn,MB λy hy=>h y (kq _ hy)⟩
theorem js {K:ba}{H:Hp}{a:Addr}{ns:List Nat}(h:SqL K H a (ns.map nV)):DV K H (fw ns) (.ref a):=by
 unfold fw DV;exact⟨a,_,rfl,h,MB (f:=λn:Nat=>PyData.int (n:Int)) (g:=nV) λn _=>by unfold DV;rfl⟩
theorem bJ.dvs {α:Type}{K:ba}{H:Hp}{f:α->PyData}{R:α->V->Prop}(g:∀x v,R x v->DV K H (f x) v):∀ {xs:List α} {vs:List V},bJ R xs vs->DVs K H (xs.map f) vs
 |_,_,.nil=>by unfold DVs;rfl
 |_,_,.cons h t=>by
  rw[kj];unfold DVs;exact⟨_,_,rfl,g _ _ h,t.dvs g⟩
theorem bJ.mapR {α β γ:Type}{R:α->γ->Prop}{f:β->γ}:∀ {xs:List α} {ys:List β},bJ (λa b=>R a (f b)) xs ys->bJ R xs (ys.map f)
 |_,_,.nil=>.nil
 |_,_,.cons h t=>.cons h t.mapR
def y6 (H:Hp)(R:Addr)(x:Nat×Int×List Nat)(v:V):Prop:=∃u l,v=.ref u/\u≠R/\l≠R/\H u=some (.tup [nV x.1,.int x.2.1,.ref l])/\H l=some (.lst (x.2.2.map nV))
theorem y6.same {H H':Hp}{R:Addr}{x:Nat×Int×List Nat}{v:V}(s:bA H H'):y6 H R x v->y6 H' R x v
 |⟨u,l,e,h1,h2,h3,h4⟩=>⟨u,l,e,h1,h2,s _ _ h3,s _ _ h4⟩
theorem y6.upd {H:Hp}{R:Addr}{o:HO}{x:Nat×Int×List Nat}{v:V}:y6 H R x v->y6 (L2.upd H R o) R x v
 |⟨u,l,e,h1,h2,h3,h4⟩=>⟨u,l,e,h1,h2,(aq h1).trans h3,(aq h2).trans h4⟩
theorem y6.dv {K:ba}{H:Hp}{R:Addr}{x:Nat×Int×List Nat}{v:V}:y6 H R x v->DV K H (asD x) v
 |⟨u,l,e,h1,h2,h3,h4⟩=>by
  unfold asD DV;refine⟨u,_,e,SqT.of h3,?_⟩;unfold DVs;refine⟨_,_,rfl,by unfold DV;rfl,?_⟩
  unfold DVs;refine⟨_,_,rfl,by unfold DV;rfl,?_⟩
  unfold DVs;exact⟨_,_,rfl,js (SqL.of h4),by unfold DVs;rfl⟩
section
variable{P:rf}{w:World}{K:ba}{mg:Str->Option Value}{base:Heap}{A:Adr}
theorem CO (T:Txt w.params K mg A){i:Nat}:aJ P w K mg base CX0 1 A.bz A.d4 ["self","number"] (abe A i):=by
 refine T.dj.ok jx (λvs H Q E h=>?_) (λcdv A' outer s H vs Q E hr h=>?_)
 ·obtain⟨o,n,c,st,x,rfl,_⟩:=h;rfl
 ·obtain⟨o,n,c,st,x,rfl,hc,hx,q⟩:=h;obtain⟨dx,aM,aP,aA,aD,aF,aE,aR,ms,ds,ws,fs,es,X⟩:=hc.ex;have hu1:=hr.u1;refine⟨_,(ai (aZ (i:=2) jx.nd rfl (wt rfl) (aY hu1 (bq (pv 0) rfl) (pv 1) (λ_ _=>rfl)))
 (aj (aI (bg (aa (pv 1) (aa (aT aU (pv 2) af (λ_ _=>rfl)) (aa (dn c9 (by rfl) T.my kh (aa (aT aU (pv 2) af (λ_ _=>rfl)) ag)) ag))))))),?_⟩
  refine hide λGg hGg=>?_
  obtain⟨t,p,hv,ht,hl⟩:=X.waitOf hx;refine hGg ?_;refine⟨_,rfl,o,A.ax,dx,_,.ref aA,rfl,X.ob,T.au,T.jq3,jP,_,rfl,aA,_,rfl,.inl ⟨_,km (n:Int),.inl X.az.2,rfl,hv.symm⟩,?_⟩;refine⟨_,rfl,_,rfl,t,_,_,_,rfl,rfl,ht.sq,rfl,_,rfl,t,_,_,_,rfl,rfl,ht.sq,rfl,p,_,rfl,.inl (SqL.of hl.2),λl hl0=>⟨(sl 3),λu hu=>?_⟩⟩
  have nul:u≠l:=λz=>by rw[z,ae]at hu;cases hu
  have hu0:H u=none:=by rw[aq nul]at hu;exact hu
  exact q l u _ hl0 hu0 ((aC hl0).new hu) ((aq (aj2 nul)).trans ae) ae
theorem Ql (T:Txt w.params K mg A){i:Nat}:aJ P w K mg base CX0 2 A.b6 A.hG ["self"] (MA A K i):=by
 have sG:aJ P w K mg base CX0 1 A.bz A.d4 ["self","number"] (abe A i):=CO T;refine T.fO.ok xm (λvs H Q E h=>?_) (λcdv A' outer s H vs Q E hr h=>?_)
 ·obtain⟨o,c,st,rfl,_⟩:=h;rfl
 ·obtain⟨o,c,st,rfl,hc,hal,hpl,hdl,q⟩:=h;obtain⟨dx,aM,aP,aA,aD,aF,aE,aR,ms,ds,ws,fs,es,X⟩:=hc.ex;have qZ:Room 1 _:=hr;have lim:ka=16777216:=by decide
  refine⟨_,(ai (JK (i:=1) (scope:=ly) uq rfl rfl (wt rfl) (tq (ck (qa hr.hd) (by rfl) T.vQ xj (aa (bq (pv 0) rfl) ag))) (λ_ _ _ _ _=>(i3 (pv 1) T.au T.kO sG qZ T.eF .nil a7 (aa (pv 0) ag))))
 (aj (aI (bg (aa (bq (pv 0) rfl) (aa (bq (pv 0) rfl) (aa (dn c9 (by rfl) T.my kh (aa (bq (pv 0) rfl) ag)) (aa (pv 1) (aa (dn c9 (by rfl) T.my kh (aa (bq (pv 0) rfl) ag)) ag))))))))),?_⟩
  have wl:=X.wait.len;have MC:(a9 ((st.az.map (·.1)).zip ws)).map (·.1)=(st.az.map λx=>(x.1:Int)).map km:=by
   have:∀(as:List (Nat×Int×List Nat)) (ws:List V),as.length=ws.length->(a9 ((as.map (·.1)).zip ws)).map (·.1)=(as.map λx=>(x.1:Int)).map km:=by
    intro as
    induction as with
    |nil=>intro ws _;cases ws <;> rfl
    |cons a as ih =>
     intro ws h;cases ws with
     |nil=>cases h
     |cons w ws =>
      rw[kj,cO,kj,ih ws (by simpa using h)]
      rfl
   exact this _ _ wl
  refine fj rfl X.ob T.au T.jq3 jP ⟨aA,_,_,rfl,X.az.2,MC,by rw[cb];exact hal,λl0 ns pm so hl0=>?_⟩
  have nl:ns.length=st.az.length:=by rw[pm.length_eq,cb]
  have s0:=aC (o:=.lst (ns.map V.int)) hl0;have hB:SqL K (upd H l0 (.lst (ns.map V.int))) l0 (ns.map V.int):=SqL.of ae;generalize upd H l0 (.lst (ns.map V.int))=H1 at s0 hB ⊢;refine⟨l0,rfl,⟨_,hB⟩,λR hR=>?_⟩
  refine w9 (K:=K) (a:=l0) (xs:=ns.map V.int) (λj ys H2=>bA H1 H2/\H2 R=some (.lst ys)/\bJ (y6 H2 R) ((ns.take j).map (xW st)) ys) ⟨aC hR,ae,.nil⟩ (by rw[cb];omega) ?_ ?_ ?_
  ·rintro j ys H2 hj ⟨s2,hR2,ha⟩;refine⟨s2.seq hB,hR2,?_⟩;rw[<-ha.len,cb,akm];rw[cb]at hj;omega
  ·rintro j y ys H2 hy ⟨s2,hR2,ha⟩;refine hide λGg hGg=>?_
   obtain⟨n,hn1,rfl⟩:∃n,ns[j]?=some n/\V.int n=y:=by
    rw[aj7]at hy;cases ht:ns[j]? with
    |none=>rw[ht]at hy;cases hy
    |some t=>rw[ht]at hy;exact⟨t,rfl,ajP hy⟩
   have Kj:n∈st.az.map λx=>(x.1:Int):=pm.mem_iff.mp (aka hn1)
   obtain⟨x0,hx0,e0⟩:=List.mem_map.mp Kj;obtain⟨x,hx⟩:∃x,at1 x0.1 st.az=some x:=by
    cases z:at1 x0.1 st.az with
    |some x=>exact⟨x,rfl⟩
    |none=>exact absurd (List.mem_map_of_mem hx0) (sC z)
   have e0':((x0.1:Nat):Int)=n:=e0;subst e0';have X2:=X.same (s0.trans s2);have ea:xW st ((x0.1:Nat):Int)=x:=by unfold xW;rw[Int.toNat_natCast,hx];rfl
   refine hGg ?_;refine mtv rfl X2.ob (dE (by decide +kernel)) ⟨_,rfl,o,x0.1,c,st,x,rfl,X2.at,hx,λl u H3 hl hu s3 h1 h2=>?_⟩
   have hR3:=s3 _ _ hR2;refine ib.mk (List.getElem?_eq_some_iff.mp hy).1 hR3 ⟨(s2.trans s3).own hR,ae,?_⟩;rw[List.take_succ,hn1,kx];refine bJ.snoc (ha.imp λ_ _ z=>(z.same s3).upd) ?_
   rw[ea];refine y6.upd ⟨u,l,rfl,(λz=>by rw[z,hR2]at hu;cases hu),(λz=>by rw[z,hR2]at hl;cases hl),?_,h1⟩
   rw[(hU hx).1];exact h2
  ·rintro ys H2 ⟨s2,hR2,ha⟩;rw[cb,ak7]at ha;have s02:=s0.trans s2;have X2:=X.same s02;refine fj rfl X2.ob T.au T.jq1 iW (fj rfl X2.ob T.au T.jq4 qu (fj rfl X2.ob T.au T.jq0 fb ⟨aP,_,rfl,.inl (SqL.of X2.aw.2),λl1 hl1=>?_⟩))
   have s3:=aC (o:=.lst (st.aw.map nV)) hl1;have X3:=X2.same s3;refine⟨_,rfl,fj rfl X3.ob T.au T.jqc yD ⟨aD,_,rfl,.inl (SqL.of X3.dec.2),λl2 hl2=>⟨(sl 5),λu hu=>?_⟩⟩⟩
   have s4:=aC (o:=.lst (ds.map V.ref)) hl2;have s5:=aC (o:=.tup [V.int st.aN,.bl st.closed,.ref l1,.ref R,.ref l2]) hu;refine q ns u _ pm so (((s02.trans s3).trans s4).trans s5) ?_;have X5:=X3.same (s4.trans s5);unfold stD DV;refine⟨u,_,rfl,SqT.of ae,?_⟩;unfold DVs;refine⟨_,_,rfl,by unfold DV;rfl,?_⟩
   unfold DVs;refine⟨_,_,rfl,by unfold DV;rfl,?_⟩
   unfold DVs;refine⟨_,_,rfl,js (SqL.of ((s4.trans s5) _ _ ae)),?_⟩;unfold DVs;refine⟨_,_,rfl,?_,?_⟩
   ·unfold DV;refine⟨R,ys,rfl,SqL.of (((s3.trans s4).trans s5) _ _ hR2),?_⟩;rw[show (ns.map λn=>asD (xW st n))=(ns.map (xW st)).map asD by rw[List.map_map];rfl]
    exact bJ.dvs (λx v h=>h.dv) (ha.imp λ_ _ z=>z.same ((s3.trans s4).trans s5))
   ·unfold DVs;refine⟨_,_,rfl,?_,by unfold DVs;rfl⟩
    unfold DV;refine⟨l2,_,rfl,SqL.of (s5 _ _ ae),?_⟩;refine bJ.dvs (R:=λ(x:Nat×Str) v=>∃t,v=.ref t/\TupAt c _ t [nV x.1,.str x.2]) ?_ (bJ.mapR (X5.lN.imp λx t h=>⟨t,rfl,h⟩))
    rintro x v ⟨t,rfl,h⟩;unfold dcD DV;refine⟨t,_,rfl,h.sq,?_⟩;unfold DVs;refine⟨_,_,rfl,by unfold DV;rfl,?_⟩
    unfold DVs;exact⟨_,_,rfl,by unfold DV;rfl,by unfold DVs;rfl⟩
theorem Qm {c:Col}{H:Hp}{v:V}{t:Addr}:∀ {m:Mn},1<=m.k->m.Val c H v->SqT K H t (rowOf m.k v)->DV K H (mnD m) (.ref t)
 | .mat _,h,_,_=>absurd h (by simp[Mn.k])
 | .chg e,_,⟨te,ev,hte⟩,ht=>by
  subst ev;unfold mnD DV;refine⟨t,_,rfl,ht,?_⟩;unfold DVs;refine⟨_,_,rfl,by unfold DV;rfl,?_⟩
  unfold DVs;exact⟨_,_,rfl,J5 e hte.sq,by unfold DVs;rfl⟩
 | .mnd e,_,⟨te,ev,hte⟩,ht=>by
  subst ev;unfold mnD DV;refine⟨t,_,rfl,ht,?_⟩;unfold DVs;refine⟨_,_,rfl,by unfold DV;rfl,?_⟩
  unfold DVs;exact⟨_,_,rfl,J5 e hte.sq,by unfold DVs;rfl⟩
 | .off u,_,ev,ht=>by
  have ev':v=.int u:=ev;subst ev';unfold mnD DV;refine⟨t,_,rfl,ht,?_⟩;unfold DVs;refine⟨_,_,rfl,by unfold DV;rfl,?_⟩
  unfold DVs;exact⟨_,_,rfl,by unfold DV;rfl,by unfold DVs;rfl⟩
 | .pnt z,_,ev,ht=>by
  have ev':v=.str z:=ev;subst ev';unfold mnD DV;refine⟨t,_,rfl,ht,?_⟩;unfold DVs;refine⟨_,_,rfl,by unfold DV;rfl,?_⟩
  unfold DVs;exact⟨_,_,rfl,by unfold DV;rfl,by unfold DVs;rfl⟩
 | .cls,_,_,ht=>by
  unfold mnD DV;refine⟨t,_,rfl,ht,?_⟩;unfold DVs;exact⟨_,_,rfl,by unfold DV;rfl,by unfold DVs;rfl⟩
 | .lay,_,_,ht=>by
  unfold mnD DV;refine⟨t,_,rfl,ht,?_⟩;unfold DVs;exact⟨_,_,rfl,by unfold DV;rfl,by unfold DVs;rfl⟩
 | .rst,_,_,ht=>by
  unfold mnD DV;refine⟨t,_,rfl,ht,?_⟩;unfold DVs;exact⟨_,_,rfl,by unfold DV;rfl,by unfold DVs;rfl⟩
theorem Ni (T:Txt w.params K mg A){i:Nat}:aJ P w K mg base (CXX P w) 3 A.bO A.gu ["self","number"] (GF A K i):=by
 have J9:∀k,k < 8->aJ P w K mg base CX0 2 (A.ft k) (A.ftd k) ["self"] (Fc A K k):=Gx T;refine T.eX.okX vv (λvs H Q E h=>?_) (λcdv A' outer s H vs Q E hr h=>?_)
 ·obtain⟨o,n,c,st,rfl,_⟩:=h;rfl
 ·obtain⟨o,n,c,st,rfl,hc,h10,q,qx⟩:=h;obtain⟨dx,aM,aP,aA,aD,aF,aE,aR,ms,ds,ws,fs,es,X⟩:=hc.ex;have hu1:=hr.u1;have hgd:=hr.gd;have Ff:Room 2 _:=hr;have lim:ka=16777216:=by decide
  refine⟨_,(bc (hX (Jr (xg hu1 (pv 1) (bq (pv 0) rfl)))
 (bE (jD T.yA rfl rfl T.Bw (aa (Dh (l8 (xc (pv 1) xb))) ag)))
 (vn aH))
 (bE (psx (aI (lP (n:=8) (Cf:=A.C) (aY hu1 (bq (pv 0) rfl) (pv 1) (λ_ _=>rfl)) T.cl T.J2 J9 Ff T.J3 a7))))),?_⟩
  refine⟨_,rfl,fj rfl X.ob T.au T.jq2 ip ⟨aM,_,rfl,.inl ⟨_,km (n:Int),.inl X.made.2,rfl,rfl⟩,_,rfl,?_⟩⟩
  by_cases hn:dC st n
  ·obtain⟨mo,hv,hmo⟩:=X.Sx hn;have q:=q hn;rw[hv];refine bw ?_;refine hide λGg hGg=>?_
   obtain⟨_,dm,v,hm,hvv⟩:=hmo;refine hGg ?_;refine⟨_,rfl,o,A.ax,dx,_,.ref aM,rfl,X.ob,T.au,T.jq2,ip,_,rfl,aM,_,rfl,.inl ⟨_,km (n:Int),.inl X.made.2,rfl,hv.symm⟩,(st.mo n).k,(st.mo n).k8,mo,dm,_,rfl,hm,Mb _ v,?_⟩;generalize st.mo n=m at hm hvv q
   by_cases h0:m.k=0
   ·obtain⟨tx,rfl⟩:∃tx,m=.mat tx:=by cases m <;> first | exact⟨_,rfl⟩ | exact absurd h0 (by simp[Mn.k])
    refine hide λGg hGg=>?_
    obtain⟨p,rfl,hp⟩:=hvv;refine hGg ?_;refine .inl ⟨rfl,mo,dm,p,tx.map V.str,rfl,hm,SqL.of hp.2,λp2 u hp2 hu npu=>?_⟩
    have nu:(upd H p2 (.lst (tx.map V.str))) u=none:=(aq (aj2 npu)).trans hu;refine q u _ ((aC hp2).new nu) ?_;unfold mnD DV;refine⟨u,_,rfl,SqT.of ae,?_⟩;unfold DVs;refine⟨_,_,rfl,by unfold DV;rfl,?_⟩
    unfold DVs;exact⟨_,_,rfl,LS (SqL.of ((aq npu).trans ae)),by unfold DVs;rfl⟩
   ·refine .inr ⟨by omega,mo,dm,v,rfl,hm,λu hu=>?_⟩
    have su:=aC (o:=.tup (rowOf m.k v)) hu;exact q u _ su (Qm (by omega) (hvv.step (Step.same (W:=λ_=>False) id su)) (SqT.of ae))
  ·have hnm:n∉aj9 1 st.made.length:=λz=>by
    rw[akK]at z;exact hn ⟨z.1,by omega⟩
   rw[mL hnm];have l1:(akc++ar "no motion has the number ":Str).length=25:=by decide +kernel
   have e10:(10:Nat) ^ 10=10000000000:=by decide
   have l3:(ar (toString (n:Int))).length<=20:=xO (by omega) (by omega)
   refine dM ⟨by rw[l1];omega,_,rfl,_,.int (l5 (by omega) (by omega)),by omega,by rw[len_app,l1];omega,by rw[len_app,l1];omega,(sl 1),qx hn⟩
end
end My
set_option maxHeartbeats 1000000
namespace My
open PySem L2
seal PySem.wpAny
def fA (st:Ch):R.fH->Rs×Ch
 | .nums kd ns=>if kd=ar "vote" then mM st (ns.getD 0 0) (ns.getD 1 0) else if kd=ar "drop" then nD st else if kd=ar "take" then stepT st (ns.getD 0 0).toNat else nF st (eK (.nums kd ns)) (R.r8 (.nums kd ns))
 |d=>nF st (eK d) (R.r8 d)
inductive wy:R.fH->Prop
 |GG {a b:Int}:(0<=a/\a < 10 ^ 10)->(0<=b/\b < 10 ^ 10)->wy (.nums (ar "vote") [a,b])
 |drop:wy (.nums (ar "drop") [])
 |take {z:Int}:-1<=z->z < 10 ^ 10->wy (.nums (ar "take") [z])
 |move {d:R.fH}:Fq d->wy d
theorem jU {st:Ch}{a b:Int}:fA st (.nums (ar "vote") [a,b])=mM st a b:=by rw[fA,if_pos rfl];rfl
theorem jV {st:Ch}:fA st (.nums (ar "drop") [])=nD st:=by rw[fA,if_neg (by decide +kernel),if_pos rfl]
theorem jW {st:Ch}{z:Int}:fA st (.nums (ar "take") [z])=stepT st z.toNat:=by
 rw[fA,if_neg (by decide +kernel),if_neg (by decide +kernel),if_pos rfl]
 rfl
theorem jX {st:Ch}{d:R.fH}(h:Fq d):fA st d=nF st (eK d) (R.r8 d):=by
 cases d with
 |nums kd ns =>
  rcases wq h.1 with ⟨u,rfl,rfl⟩ | ⟨rfl,rfl⟩ | ⟨rfl,rfl⟩ | ⟨rfl,rfl⟩ <;> rw[fA,if_neg (by decide +kernel),if_neg (by decide +kernel),if_neg (by decide +kernel)]
 |_=>rfl
theorem Inv.fA {N:Nat}{st:Ch}(I:Inv N st)(hN:N<=800){d:R.fH}(h:wy d):Inv (N+3) (fA st d).2:=by
 cases h with
 |GG=>rw[jU];exact I.mM hN _ _
 |drop=>rw[jV];exact I.nD
 |take=>rw[jW];exact I.stepT _
 |move h=>rw[jX h];exact I.nF (Kh h) _
def abf:Xc->Prop
 | .sj b=>-10000000000 < b/\b < 10000000000
 | .mJ b=>-10000000000 < b/\b < 10000000000
 | .BP b=>-10000000000 < b/\b < 10000000000
 |_=>True
def abg:Rs->Prop
 | .txt z=>ajZ z=true
 | .exc x=>abf x
 |_=>True
theorem SK {N:Nat}{st:Ch}(I:Inv N st)(hN:N<=800){m:Mn}{x:Xc}(h:iY st m=some x):abf x:=by
 have hb:=BQ st.closed (st.aw.map st.mo);have hs:=I.sit;unfold iY at h;split at h
 ·rename_i y hy;cases h;unfold sx at hy;split at hy
  ·cases hy;exact⟨by omega,by omega⟩
  ·split at hy
   ·cases hy
   ·split at hy <;> cases hy <;> trivial
 ·unfold jR at h;split at h
  ·split at h
   ·split at h
    ·cases h
    ·cases h;trivial
   ·cases h
  ·split at h
   ·split at h
    ·cases h
    ·cases h;trivial
   ·cases h
  ·split at h
   ·cases h;exact⟨by omega,by omega⟩
   ·cases h
  ·cases h
theorem GH {N:Nat}{st:Ch}(I:Inv N st)(hN:N<=800){d:R.fH}(h:wy d):abg (fA st d).1:=by
 cases h with
 |GG =>
  rw[jU];unfold mM;split
  ·trivial
  ·split
   ·trivial
   ·show ajZ (qw _)=true;unfold qw;split <;> decide +kernel
 |drop =>
  rw[jV];unfold nD;split
  ·trivial
  ·show ajZ kT=true
   decide +kernel
 |take =>
  rw[jW];unfold stepT;split
  ·split
   ·trivial
   ·rename_i x hx;split
    ·exact(I.asd x (hU hx).2).2.2
    ·trivial
  ·have hb:=BQ st.closed (st.aw.map st.mo);exact⟨by omega,by omega⟩
 |move h =>
  rw[jX h];unfold nF;split
  ·rename_i x hx;exact SK I hN hx
  ·trivial
theorem qM {W:Option (Nat×Rl)->Prop}{c c':Col}{H H':Hp}(s:Step W c c' H H'){a:Addr}{v:HO}(h:c a=none)(hv:H a=some v):c' a=none/\H' a=some v:=by
 have hn:¬W (c a):=by rw[h];exact s.nn
 exact⟨by rw[s.col a _ hv hn];exact h,s.keep _ _ hv hn⟩
def mdF (v0 v1 v2 v3 v4 v5:V):List (Key×V):=[(tu (ar "sitting"),v0),(tu (ar "closed"),v1),(tu (ar "pile"),v2),(tu (ar "aside"),v3),(tu (ar "decided"),v4),(tu (ar "motions"),v5)]
theorem key_ne {a b:Str}(h:a≠b){v:V}:¬((tu a,v):Key×V).1=(tu b:Key):=λz=>h (Sum.inr.inj z)
theorem BZ {kvs:List (Key×V)}{k:Key}{v y:V}(h:gQ kvs k=some v):putK kvs k y=kvs.map (λkv=>if kv.1=k then (kv.1,y) else kv):=by
 unfold putK;rw[rE,h];exact if_pos rfl
section
variable{v0 v1 v2 v3 v4 v5 y:V}
theorem nH:gQ (mdF v0 v1 v2 v3 v4 v5) (tu (ar "sitting"))=some v0:=eR rfl
theorem B0:gQ (mdF v0 v1 v2 v3 v4 v5) (tu (ar "closed"))=some v1:=(bP (key_ne (by decide +kernel))).trans (eR rfl)
theorem sH:gQ (mdF v0 v1 v2 v3 v4 v5) (tu (ar "pile"))=some v2:=(bP (key_ne (by decide +kernel))).trans ((bP (key_ne (by decide +kernel))).trans (eR rfl))
theorem xX:gQ (mdF v0 v1 v2 v3 v4 v5) (tu (ar "aside"))=some v3:=(bP (key_ne (by decide +kernel))).trans ((bP (key_ne (by decide +kernel))).trans ((bP (key_ne (by decide +kernel))).trans (eR rfl)))
theorem yG:gQ (mdF v0 v1 v2 v3 v4 v5) (tu (ar "decided"))=some v4:=(bP (key_ne (by decide +kernel))).trans ((bP (key_ne (by decide +kernel))).trans ((bP (key_ne (by decide +kernel))).trans ((bP (key_ne (by decide +kernel))).trans (eR rfl))))
theorem yH:gQ (mdF v0 v1 v2 v3 v4 v5) (tu (ar "motions"))=some v5:=(bP (key_ne (by decide +kernel))).trans ((bP (key_ne (by decide +kernel))).trans ((bP (key_ne (by decide +kernel))).trans ((bP (key_ne (by decide +kernel))).trans ((bP (key_ne (by decide +kernel))).trans (eR rfl)))))
theorem GI:putK (mdF v0 v1 v2 v3 v4 v5) (tu (ar "sitting")) y=mdF y v1 v2 v3 v4 v5:=by
 rw[BZ nH];unfold mdF;simp only[kj,akj,if_neg (show ¬(tu (ar "closed"):Key)=tu (ar "sitting") by decide +kernel),if_neg (show ¬(tu (ar "pile"):Key)=tu (ar "sitting") by decide +kernel),if_neg (show ¬(tu (ar "aside"):Key)=tu (ar "sitting") by decide +kernel),if_neg (show ¬(tu (ar "decided"):Key)=tu (ar "sitting") by decide +kernel),if_neg (show ¬(tu (ar "motions"):Key)=tu (ar "sitting") by decide +kernel),if_true]
theorem B1:putK (mdF v0 v1 v2 v3 v4 v5) (tu (ar "closed")) y=mdF v0 y v2 v3 v4 v5:=by
 rw[BZ B0];unfold mdF;simp only[kj,akj,if_neg (show ¬(tu (ar "sitting"):Key)=tu (ar "closed") by decide +kernel),if_neg (show ¬(tu (ar "pile"):Key)=tu (ar "closed") by decide +kernel),if_neg (show ¬(tu (ar "aside"):Key)=tu (ar "closed") by decide +kernel),if_neg (show ¬(tu (ar "decided"):Key)=tu (ar "closed") by decide +kernel),if_neg (show ¬(tu (ar "motions"):Key)=tu (ar "closed") by decide +kernel),if_true]
theorem B2:putK (mdF v0 v1 v2 v3 v4 v5) (tu (ar "pile")) y=mdF v0 v1 y v3 v4 v5:=by
 rw[BZ sH];unfold mdF;simp only[kj,akj,if_neg (show ¬(tu (ar "sitting"):Key)=tu (ar "pile") by decide +kernel),if_neg (show ¬(tu (ar "closed"):Key)=tu (ar "pile") by decide +kernel),if_neg (show ¬(tu (ar "aside"):Key)=tu (ar "pile") by decide +kernel),if_neg (show ¬(tu (ar "decided"):Key)=tu (ar "pile") by decide +kernel),if_neg (show ¬(tu (ar "motions"):Key)=tu (ar "pile") by decide +kernel),if_true]
end
def MnT (c:Col)(H:Hp)(m:Mn)(t:Addr):Prop:=c t=none/\∃v,H t=some (.tup (rowOf m.k v))/\m.Val c H v
theorem MnT.step {W:Option (Nat×Rl)->Prop}{c c':Col}{H H':Hp}{m:Mn}{t:Addr}(s:Step W c c' H H')(h:MnT c H m t):MnT c' H' m t:=by
 obtain⟨n,v,h,hv⟩:=h;have hn:¬W (c t):=by rw[n];exact s.nn
 exact⟨by rw[s.col t _ h hn];exact n,v,s.keep _ _ h hn,hv.step s⟩
def gk (st:Ch)(n:Nat):List Ed:=((at1 n st.kept).map (·.2)).getD []
def B3 (st:Ch)(n:Nat):Option (List Str):=(at1 n st.firsts).map (·.2)
abbrev Ent:=Nat×Mn×List Ed×Option (List Str)
def hV (st:Ch)(n:Nat):Ent:=(n,st.mo n,gk st n,B3 st n)
def iI (st:Ch):List Ent:=(aj9 1 st.made.length).map (hV st)
abbrev WB (i:Nat)(c:Col)(H:Hp)(x:Ent)(v:V):Prop:=∃(p t1 t2 k:Addr) (ts:List Addr),v=.ref p/\LstAt i c H (.cY x.1) p [.ref t1,.ref t2,.ref k]/\MnT c H x.2.1 t1/\(∀tx,x.2.2.2=some tx->MnT c H (.mat tx) t2)/\LstAt i c H (.gM x.1) k (ts.map V.ref)/\bJ (λe t=>TupAt c H t (gv e)) x.2.2.1 ts
structure MdX (i:Nat)(c:Col)(H:Hp)(m:Addr)(st:Ch)(aP aA aD aM:Addr)(ds:List Addr)(ws es:List V):Prop where
 co:c m=some (i,.ob)
 ob:H m=some (.dK (mdF (.int st.aN) (.bl st.closed) (.ref aP) (.ref aA) (.ref aD) (.ref aM)))
 aw:LstAt i c H .aw aP (st.aw.map nV)
 az:jy i c H .az aA ((st.az.map (·.1)).zip ws)
 wait:bJ (Ml i c H) st.az ws
 dec:LstAt i c H .decided aD (ds.map V.ref)
 lN:bJ (λ(x:Nat×Str) t=>TupAt c H t [nV x.1,.str x.2]) st.decided ds
 kX:LstAt i c H .made aM es
 ent:bJ (WB i c H) (iI st) es
structure jt (i:Nat)(c:Col)(H:Hp)(m:Addr)(st:Ch):Prop where
 ex:∃(aP aA aD aM:Addr) (ds:List Addr) (ws es:List V),MdX i c H m st aP aA aD aM ds ws es
section
variable{i:Nat}{p:Rl->Bool}{c c':Col}{H H':Hp}{m aP aA aD aM:Addr}{st:Ch}{ds:List Addr}{ws es:List V}
theorem MdX.at (X:MdX i c H m st aP aA aD aM ds ws es):jt i c H m st:=⟨_,_,_,_,_,_,_,X⟩
theorem GJ {xs:List Ent}{vs:List V}(h1:∀x∈xs,p (.cY x.1)=false)(h2:∀x∈xs,p (.gM x.1)=false)(s:Step (Wr i p) c c' H H')(z:bJ (WB i c H) xs vs):bJ (WB i c' H') xs vs :=
 z.imp_mem λx m v ⟨q,t1,t2,k,ts,e,z1,z2,z3,z4,z5⟩=>⟨q,t1,t2,k,ts,e,z1.kp (h1 x m) s,z2.step s,λtx ht=>(z3 tx ht).step s,z4.kp (h2 x m) s,z5.imp λ_ _ y=>y.step s⟩
theorem MdX.free {W:Option (Nat×Rl)->Prop}(h:∀r,¬W (some (i,r)))(s:Step W c c' H H')(X:MdX i c H m st aP aA aD aM ds ws es):MdX i c' H' m st aP aA aD aM ds ws es:=by
 have hn:¬W (c m):=by rw[X.co];exact h _
 refine⟨by rw[s.col m _ X.ob hn];exact X.co,s.keep _ _ X.ob hn,X.aw.keep (h _) s,X.az.keep (h _) s,X.wait.imp ?_,X.dec.keep (h _) s,jm s X.lN,X.kX.keep (h _) s,X.ent.imp ?_⟩
 ·rintro x v ⟨t,p,e,z1,z2⟩;exact⟨t,p,e,z1.step s,z2.keep (h _) s⟩
 ·rintro x v ⟨q,t1,t2,k,ts,e,z1,z2,z3,z4,z5⟩;exact⟨q,t1,t2,k,ts,e,z1.keep (h _) s,z2.step s,λtx ht=>(z3 tx ht).step s,z4.keep (h _) s,z5.imp λ_ _ y=>y.step s⟩
theorem MdX.same (s:bA H H')(X:MdX i c H m st aP aA aD aM ds ws es):MdX i c H' m st aP aA aD aM ds ws es:=X.free (W:=λ_=>False) (λ_=>id) (Step.same id s)
theorem MdX.cl (s:bA H H')(X:MdX i c H m st aP aA aD aM ds ws es):MdX i (d6 c H) H' m st aP aA aD aM ds ws es:=X.free (W:=λ_=>False) (λ_=>id) (Step.cl id s)
theorem jt.free {W:Option (Nat×Rl)->Prop}(h:∀r,¬W (some (i,r)))(s:Step W c c' H H')(X:jt i c H m st):jt i c' H' m st:=by
 obtain⟨aP,aA,aD,aM,ds,ws,es,X⟩:=X.ex;exact(X.free h s).at
theorem MdX.attr (X:MdX i c H m st aP aA aD aM ds ws es)(n:Int)(b:Bool) :
  Step (Wr i pOb) c c H (upd H m (.dK (mdF (.int n) (.bl b) (.ref aP) (.ref aA) (.ref aD) (.ref aM))))/\MdX i c (upd H m (.dK (mdF (.int n) (.bl b) (.ref aP) (.ref aA) (.ref aD) (.ref aM)))) m { st with aN:=n,closed:=b } aP aA aD aM ds ws es:=by
 have s:Step (Wr i pOb) c c H (upd H m (.dK (mdF (.int n) (.bl b) (.ref aP) (.ref aA) (.ref aD) (.ref aM)))):=Step.upd Wr.nn (Wr.yes X.co rfl);exact⟨s,X.co,ae,X.aw.kp rfl s,X.az.kp rfl s,kR (λ_ _=>rfl) s X.wait,X.dec.kp rfl s,jm s X.lN,X.kX.kp rfl s,GJ (λ_ _=>rfl) (λ_ _=>rfl) s X.ent⟩
def abh:Rl->Bool | .aw=>true | .decided=>true | _=>false
theorem MdX.pop (X:MdX i c H m st aP aA aD aM ds ws es){pre:List Nat}{n:Nat}{t:Addr}{wd:Str}(ht:(upd H aP (.lst (pre.map nV))) t=none) :
  Step (Wr i abh) c (ay c t none) H (upd (upd (upd H aP (.lst (pre.map nV))) t (.tup [nV n,.str wd])) aD (.lst (ds.map V.ref++[.ref t]))) /\
  MdX i (ay c t none) (upd (upd (upd H aP (.lst (pre.map nV))) t (.tup [nV n,.str wd])) aD (.lst (ds.map V.ref++[.ref t]))) m (st.popped pre n wd) aP aA aD aM (ds++[t]) ws es:=by
 have nt:∀ {a:Addr} {v:HO},H a=some v->a≠t:=by
  intro a v e z;subst z
  by_cases y:a=aP
  ·subst y;rw[ae]at ht;cases ht
  ·rw[aq y,e]at ht;cases ht
 have nPD:aD≠aP:=d0 X.dec.1 X.aw.1 (λz=>nomatch z)
 have s:Step (Wr i abh) c (ay c t none) H (upd (upd (upd H aP (.lst (pre.map nV))) t (.tup [nV n,.str wd])) aD (.lst (ds.map V.ref++[.ref t]))) :=
  ((Step.upd Wr.nn (Wr.yes X.aw.1 rfl)).trans (Step.new Wr.nn ht)).trans (Step.upd Wr.nn ⟨.decided,by rw[av (nt X.dec.2)];exact X.dec.1,rfl⟩)
 have htt:TupAt (ay c t none) (upd (upd (upd H aP (.lst (pre.map nV))) t (.tup [nV n,.str wd])) aD (.lst (ds.map V.ref++[.ref t]))) t [nV n,.str wd]:=⟨aV,.inl ((aq (nt X.dec.2).symm).trans ae)⟩;have kp:LstAt i (ay c t none) (upd (upd (upd H aP (.lst (pre.map nV))) t (.tup [nV n,.str wd])) aD (.lst (ds.map V.ref++[.ref t]))) .aw aP (pre.map nV) :=
  ⟨by rw[av (nt X.aw.2)];exact X.aw.1,by rw[aq nPD.symm,aq (nt X.aw.2),ae]⟩
 have kd:LstAt i (ay c t none) (upd (upd (upd H aP (.lst (pre.map nV))) t (.tup [nV n,.str wd])) aD (.lst (ds.map V.ref++[.ref t]))) .decided aD ((ds++[t]).map V.ref) :=
  ⟨by rw[av (nt X.dec.2)];exact X.dec.1,by rw[ae,kx];rfl⟩
 have k:=mF rfl s X.co X.ob;exact⟨s,k.1,k.2,kp,X.az.kp rfl s,kR (λ_ _=>rfl) s X.wait,kd,(jm s X.lN).snoc htt,X.kX.kp rfl s,GJ (λ_ _=>rfl) (λ_ _=>rfl) s X.ent⟩
theorem MdX.gs (X:MdX i c H m st aP aA aD aM ds ws es):uo H m (V.str (ar "sitting")) (some (.int st.aN)):=.inl ⟨_,tu (ar "sitting"),.inl X.ob,rfl,nH.symm⟩
theorem MdX.gc (X:MdX i c H m st aP aA aD aM ds ws es):uo H m (V.str (ar "closed")) (some (.bl st.closed)):=.inl ⟨_,tu (ar "closed"),.inl X.ob,rfl,B0.symm⟩
theorem MdX.gp (X:MdX i c H m st aP aA aD aM ds ws es):uo H m (V.str (ar "pile")) (some (.ref aP)):=.inl ⟨_,tu (ar "pile"),.inl X.ob,rfl,sH.symm⟩
theorem MdX.ga (X:MdX i c H m st aP aA aD aM ds ws es):uo H m (V.str (ar "aside")) (some (.ref aA)):=.inl ⟨_,tu (ar "aside"),.inl X.ob,rfl,xX.symm⟩
theorem MdX.gd (X:MdX i c H m st aP aA aD aM ds ws es):uo H m (V.str (ar "decided")) (some (.ref aD)):=.inl ⟨_,tu (ar "decided"),.inl X.ob,rfl,yG.symm⟩
theorem MdX.gm (X:MdX i c H m st aP aA aD aM ds ws es):uo H m (V.str (ar "motions")) (some (.ref aM)):=.inl ⟨_,tu (ar "motions"),.inl X.ob,rfl,yH.symm⟩
end
end My
set_option maxHeartbeats 1000000
namespace My
open PySem L2
seal PySem.wpAny
theorem Qn (xs:List V)(k:Nat):gy xs none (some (k:Int))=xs.take k:=by
 unfold gy;rw[HT.vf,HT.FI,List.drop_zero,Nat.sub_zero,<-List.take_eq_take_min]
theorem SM {xs:List V}{lo hi:Option Int}{x:V}(h:x∈gy xs lo hi):x∈xs:=by
 unfold gy at h;exact List.mem_of_mem_drop (List.mem_of_mem_take h)
abbrev uM:Str:=ar "abcdefghijklmnopqrstuvwxyzAZ09-#./"
theorem Qo:uM.length=34:=by decide +kernel
theorem DU:uM.cps.toList.length=34:=by decide +kernel
theorem DW:∀c∈uM.cps.toList,R.Sign c:=by decide +kernel
theorem SN:∀c∈uM.cps.toList.take 33,c≠47:=by decide +kernel
theorem ahI {i:Int}(h0:0<=i)(h1:i < 34):∃c,atI uM.cps.toList i=some c/\R.Sign c:=by
 obtain⟨c,hc,hm⟩:=TU (xs:=uM.cps.toList) (i:=i) (n:=34) DU h0 (by omega)
 exact⟨c,hc,DW c hm⟩
theorem ahJ {i:Int}(h0:0<=i)(h1:i < 33):∃c,atI uM.cps.toList i=some c/\R.Sign c/\c≠47:=by
 obtain⟨n,rfl⟩:∃n:Nat,i=(n:Int):=⟨i.toNat,by omega⟩
 have hn:n < 33:=by omega
 have hl:=DU;have e:uM.cps.toList[n]?=some uM.cps.toList[n]:=wa (by omega)
 refine⟨_,eu e,DW _ (List.getElem_mem _),SN _ ?_⟩;have e2:(uM.cps.toList.take 33)[n]?=some uM.cps.toList[n]:=by rw[List.getElem?_take,if_pos hn];exact e
 exact aka e2
structure Wd (n:Nat)(x:Str):Prop where
 len:x.length<=n
 hd:∃d r,x.cps.toList=d::r/\d≠47
 sgn:∀c∈x.cps.toList,R.Sign c
theorem WC {c:Nat}(h:R.Sign c)(n:c≠47):Wd 1 ⟨#[c]⟩:=⟨kr 1,⟨c,[],rfl,n⟩,λd hd=>by
 have:d=c:=by simpa using hd
 rw[this];exact h⟩
theorem WD {x:Str}{n c:Nat}(w:Wd n x)(h:R.Sign c):Wd (n+1) (x++⟨#[c]⟩):=by
 obtain⟨d,r,e,hd⟩:=w.hd;refine⟨?_,⟨d,r++[c],?_,hd⟩,λy hy=>?_⟩
 ·have:=w.len;rw[len_app];show _+1<=_;omega
 ·rw[fB,e];rfl
 ·rw[fB,List.mem_append]at hy;rcases hy with hy | hy
  ·exact w.sgn y hy
  ·have:y=c:=by simpa using hy
   rw[this];exact h
theorem Wd.word {n:Nat}{x:Str}(w:Wd n x)(h:n<=20):R.nX x:=by
 obtain⟨d,r,e,hd⟩:=w.hd;have hl:x.cps.toList.length=x.length:=by rw[ak5];rfl
 refine⟨?_,ajI w.len h,w.sgn,λz=>?_⟩
 ·rw[<-hl,e];simp
 ·rw[z]at e;have:(ar "/").cps.toList=[47]:=by decide +kernel
  rw[this]at e;cases e;exact hd rfl
def B4:Sp:=λvs H Q _=>∃c:Int,vs=[.int c]/\∀x,R.nX x->Q (.str x) H
def B5:Sp:=λvs H Q _=>∃c:Int,vs=[.int c]/\∀(ws:List Str) (H':Hp),R.BH 12 ws->bA H H'->Q (.str (sr R.bl1 ws)) H'
def Qp (K:ba):Sp:=λvs H Q _=>∃(a:Addr) (ns:List Int) (k:Int),vs=[.ref a,.int k]/\SqL K H a (ns.map V.int)/\0<=k/\∀z:Int,Q (.int z) H
def GK:Sp:=λvs H Q _=>∃(c n:Int) (z:Str),vs=[.int c,.int n,.str z]/\0<=n/\n<=900/\∀(k:Nat) (j:Int) (t:Addr) (H':Hp),(k=0\/k=1\/k=2)->-1<=j->j<=1000->bA H H'->H t=none->H' t=some (.tup (R.edR k j z))->Q (.ref t) H'
def B6:Sp:=λvs H Q _=>∃k:Nat,k < 8/\vs=[.str (nm k)]/\∀H',bA H H'->Q (.int (k:Int)) H'
def Kk:List Str:=[ar "matter",ar "change",ar "mend",ar "put off",ar "close",ar "lay",ar "rest",ar "point"]
theorem Qq:∀k,k < 8->Kk[k]?=some (nm k)/\∀m,m < k->Kk[m]?≠some (nm k):=by decide +kernel
section
variable{P:rf}{w:World}{K:ba}{mg:Str->Option Value}{base:Heap}{A:Adr}
theorem Fu (T:Txt w.params K mg A):aJ P w K mg base CX0 1 A.tK A.lG ["_law_script","_law_k"] (Qp K):=by
 refine T.rS.ok EI (λvs H Q E h=>?_) (λcdv A' outer s H vs Q E hr h=>?_)
 ·obtain⟨a,ns,k,rfl,_⟩:=h;rfl
 ·obtain⟨a,ns,k,rfl,hS,h0,q⟩:=h;refine⟨_,(ai (bb (aB rA (pv 1) (ck c8 (by rfl) T.pE lb (aa (pv 0) ag)) (aK _))
 (aj (aI (aT bF (pv 0) (pv 1) (λ_ _=>rfl))))
 aH)
 (aj (aI af))),?_⟩
  refine⟨_,rfl,_,rfl,a,_,rfl,.inl hS,_,_,rfl,rfl,_,rfl,eQ (λe=>?_) (λ_=>q 0)⟩
  refine hide λGg hGg=>?_
  have e':k < ((ns.map V.int).length:Int):=of_decide_eq_true e;rw[cb]at e';obtain⟨c,hc,hm⟩:=TU (xs:=ns.map V.int) (i:=k) (n:=ns.length) (cb _) h0 e';obtain⟨z,_,rfl⟩:=List.mem_map.mp hm;refine hGg ?_;exact⟨_,rfl,_,rfl,a,_,_,_,rfl,rfl,hS,hc,q z⟩
theorem DX (T:Txt w.params K mg A):aJ P w K mg base CX0 1 A.Ba A.pz ["_law_cell"] B4:=by
 refine T.vJ.ok o8 (λvs H Q E h=>?_) (λcdv A' outer s H vs Q E hr h=>?_)
 ·obtain⟨c,rfl,_⟩:=h;rfl
 ·obtain⟨c,rfl,k⟩:=h;refine⟨_,(ai (aZ (i:=1) o8.nd rfl (wt rfl) ao)
 (ai (aZ (i:=2) o8.nd rfl (wt rfl) (aT JF (pv 1) (a6 bU (pv 0) af) (λ_ _=>rfl)))
 (ai (Az PassesOwn.never rfl (wW rfl T.Aq (aa (a6 bU (a6 cI (pv 0) af) af) ag)) (j9 (i:=3) o8.nd rfl (wt rfl))
 (aj (aZ (i:=2) o8.nd rfl (wt rfl) (a6 Jx (pv 2) (aT JF (pv 1) (a6 bU (a6 cI (pv 0) (a6 wX af (a6 dJ af (a6 wX af (pv 3))))) af) (λ_ _=>rfl))))))
 (aj (aI (pv 2)))))),?_⟩
  refine hide λGg hGg=>?_
  have s34:uM.length<=ka:=by rw[Qo];decide
  obtain⟨d,hd,hd',ahK⟩:=ahJ (i:=c % 33) (by omega) (by omega)
  refine hGg ?_;refine⟨_,rfl,_,rfl,_,_,rfl,rfl,(by show (0:Int) < 33;decide),uM,_,d,rfl,rfl,s34,hd,?_⟩
  refine⟨_,rfl,_,_,rfl,rfl,⟨by decide,by decide⟩,_,_,rfl,rfl,(by show (0:Int) < 3;decide),_,rfl,by omega,by omega,?_⟩
  refine CZ (lo:=0) (n:=(c / 33 % 3).toNat) (λi σ H'=>H'=H/\∃x kv,σ=[some (.int c),some (.str uM),some (.str x),kv]/\Wd (1+i) x) ⟨rfl,_,_,rfl,WC hd' ahK⟩ ?_ ?_
  ·rintro i σ H' hi ⟨rfl,x,kv,rfl,wx⟩;refine hide λGg hGg=>?_
   obtain⟨d2,hd2,ahL⟩:=ahI (i:=c / (99 * (1+33 * (0+(i:Int)))) % 34) (by omega) (by omega)
   refine hGg ?_;refine⟨_,rfl,_,rfl,_,rfl,_,rfl,_,_,rfl,rfl,.inl ⟨by decide,by decide⟩,_,_,rfl,rfl,_,_,rfl,rfl,.inl ⟨by decide,by decide⟩,_,_,rfl,rfl,⟨by omega,by omega⟩,_,_,rfl,rfl,(by show (0:Int) < 34;decide),uM,_,d2,rfl,rfl,s34,hd2,_,_,rfl,rfl,?_,rfl,_,_,rfl,?_⟩
   ·have:=wx.len;rw[show (⟨#[d2]⟩:Str).length=1 from rfl]
    have:i < 3:=by omega
    exact ajI (by omega:x.length+1<=10) (by decide)
   ·exact WD wx ahL
  ·rintro σ H' ⟨rfl,x,kv,rfl,wx⟩;exact⟨_,rfl,k x (wx.word (by omega))⟩
theorem GL (T:Txt w.params K mg A):aJ P w K mg base CX0 2 A.vB A.nj ["_law_cell"] B5:=by
 have B7:aJ P w K mg base CX0 1 A.Ba A.pz ["_law_cell"] B4:=DX T;refine T.mx.ok gC (λvs H Q E h=>?_) (λcdv A' outer s H vs Q E hr h=>?_)
 ·obtain⟨c,rfl,_⟩:=h;rfl
 ·obtain⟨c,rfl,k⟩:=h;have xY:=hr;refine⟨_,(ai (aZ (i:=1) gC.nd rfl (wt rfl) (bQ ag))
 (ai (aZ (i:=2) gC.nd rfl (wt rfl) (a6 dJ (a6 bU (pv 0) af) af))
 (ai (aZ (i:=3) gC.nd rfl (wt rfl) (a6 bU (pv 0) af))
 (ai (bb (aB bu (a6 bU (a6 cI (pv 0) af) af) af (aK _))
 (aj (aZ (i:=3) gC.nd rfl (wt rfl) (a6 dJ af (a6 bU (a6 cI (pv 0) af) af))))
 aH)
 (ai (Az PassesOwn.never rfl (wW rfl T.Aq (aa (pv 3) ag)) (j9 (i:=4) gC.nd rfl (wt rfl))
 (ai (aZ (i:=2) gC.nd rfl (wt rfl) (a6 bU (a6 wX (pv 2) af) af))
 (aj (bN (gB om ajQ ajR dq (pv 1) (aa (aW B7 xY rfl T.Bf T.vJ.kp T.Be .nil a7 (aa (a6 cI (pv 2) af) ag)) ag))))))
 (aj (aI (gB akU PySem.F.slot_str_join PySem.F.type_str_join Em ao (aa (pv 1) ag))))))))),?_⟩
  have sz:ka=16777216:=by decide
  refine⟨akB _,λW hW=>?_⟩
  refine⟨_,rfl,_,_,rfl,rfl,(by show (0:Int) < 4294967311;decide),_,_,rfl,rfl,?_⟩
  refine⟨_,rfl,_,_,rfl,rfl,(by show (0:Int) < 4;decide),?_⟩
  dsimp only[iZ];refine gw (λσ' H'=>H'=upd H W (.lst [])/\∃y:Int,σ'=[some (.int c),some (.ref W),some (.int (c % 4294967311+1)),some (.int y),none]/\0<=y/\y<=12) ?r (λN' nN=>?f)
  case f =>
   refine⟨_,rfl,_,_,rfl,rfl,⟨by decide,by decide⟩,_,_,rfl,rfl,(by show (0:Int) < 8;decide),rfl,_,rfl,eQ (λ_=>?_) (λ_=>?_)⟩
   ·refine⟨_,rfl,_,_,rfl,rfl,⟨by decide,by decide⟩,_,_,rfl,rfl,(by show (0:Int) < 9;decide),_,_,rfl,rfl,nN _ _ ⟨rfl,_,rfl,?_,?_⟩⟩
    ·omega
    ·omega
   ·exact nN _ _ ⟨rfl,_,rfl,by omega,by omega⟩
  case r =>
  rintro σ1 H1 ⟨rfl,y,rfl,y0,y1⟩;refine⟨_,rfl,_,rfl,by omega,by omega,?_⟩
  refine CZ (lo:=0) (n:=y.toNat) (λi σ H2=>∃(ws:List Str) (m:Int) (kv:Option V),σ=[some (.int c),some (.ref W),some (.int m),some (.int y),kv]/\0<=m/\m<=4294967311/\H2 W=some (.lst (ws.map V.str))/\ws.length=i/\(∀w∈ws,R.nX w)/\bA H H2)
   ⟨[],_,_,rfl,by omega,by omega,ae,rfl,(λz hz=>nomatch hz),aC hW⟩ ?_ ?_
  ·rintro i σ H2 hi ⟨ws,m,kv,rfl,m0,m1,h2,hl,hg,s2⟩;refine⟨_,rfl,_,_,rfl,rfl,.inl ⟨by omega,by omega⟩,_,_,rfl,rfl,(by show (0:Int) < 4294967311;decide),?_⟩
   refine⟨_,rfl,.inl ⟨rfl,_,SqL.of h2⟩,_,rfl,_,_,rfl,rfl,⟨by decide,by decide⟩,_,rfl,λx hx=>?_⟩
   refine⟨W,_,_,rfl,rfl,h2,(by rw[cb];omega),?_⟩
   refine⟨ws++[x],_,_,rfl,by omega,by omega,?_,?_,λz h=>?_,s2.own hW⟩
   ·rw[ae,kx];rfl
   ·rw[ky,hl];rfl
   ·rcases List.mem_append.mp h with h | h
    ·exact hg z h
    ·rw[List.mem_singleton.mp h];exact hx
  ·rintro σ H2 ⟨ws,m,kv,rfl,m0,m1,h2,hl,hg,s2⟩;have hs:=R.DK hg;refine⟨rfl,_,rfl,R.bl1,W,ws,rfl,rfl,SqL.of h2,(by rw[R.nU];show _+_ * 1<=_;omega),?_⟩
   exact k ws _ ⟨by omega,hg⟩ s2
theorem Nj (T:Txt w.params K mg A):aJ P w K mg base CX0 1 A.EJ A.tL ["_law_cell","_law_size","_law_thing"] GK:=by
 refine T.vK.ok Dm (λvs H Q E h=>?_) (λcdv A' outer s H vs Q E hr h=>?_)
 ·obtain⟨c,n,z,rfl,_⟩:=h;rfl
 ·obtain⟨c,n,z,rfl,n0,n1,q⟩:=h;refine⟨_,(ai (aZ (i:=3) Dm.nd rfl (wt rfl) (a6 nP (a6 bU (a6 cI (pv 0) af) (a6 dJ (pv 1) af)) af))
 (ai (bb (aB bu (a6 bU (pv 0) af) af (aK _))
 (aj (aI (bg (aa ao (aa (pv 3) ag)))))
 aH)
 (aj (aI (bg (aa (aT bF (bQ (aa ao (aa ao (aa ao ag)))) (a6 bU (pv 0) af) (λ_ _=>rfl)) (aa (pv 3) (aa (pv 2) ag)))))))),?_⟩
  refine⟨_,rfl,_,_,rfl,rfl,⟨by decide,by decide⟩,_,rfl,_,_,rfl,rfl,_,_,rfl,rfl,(by show (0:Int) < n+3;omega),_,_,rfl,rfl,?_⟩
  have j0:0<=c / 3 % (n+3):=akE _ (by omega)
  have j1:c / 3 % (n+3) < n+3:=akr _ (by omega)
  dsimp only[iZ];obtain⟨j,ej⟩:∃j,c / 3 % (n+3) - 1=j:=⟨_,rfl⟩;rw[ej];refine⟨_,rfl,_,_,rfl,rfl,(by show (0:Int) < 3;decide),rfl,_,rfl,eQ (λh=>?_) (λh=>?_)⟩
  ·refine⟨_,rfl,(sl 2),λt ht=>?_⟩
   exact q 1 j t _ (.inr (.inl rfl)) (by omega) (by omega) (aC ht) ht ae
  ·have h':¬c % 3=1:=λe=>h (decide_eq_true (by show V.int (c % 3)=V.int 1;rw[e]))
   refine⟨(sl 3),λp hp=>?_⟩
   refine hide λGg hGg=>?_
   have s1:=aC (o:=.lst [V.str (ar "put"),.str (ar ""),.str (ar "turn")]) hp;obtain⟨k,hk3,hk1,hk⟩:∃k:Nat,(k=0\/k=1\/k=2)/\k≠1/\atI [V.str (ar "put"),.str (ar ""),.str (ar "turn")] (c % 3)=some (.str (R.kn k)):=by
    have h3:c % 3=0\/c % 3=2:=by omega
    rcases h3 with e | e
    ·exact⟨0,.inl rfl,by decide,by rw[e];rfl⟩
    ·exact⟨2,.inr (.inr rfl),by decide,by rw[e];rfl⟩
   refine hGg ?_;refine⟨_,rfl,_,_,rfl,rfl,(by show (0:Int) < 3;decide),p,_,_,_,rfl,rfl,SqL.of ae,hk,_,rfl,_,rfl,(sl 3),λt ht=>?_⟩
   refine q k j t _ hk3 (by omega) (by omega) (s1.new ht) (same_none s1 ht) ?_
   rw[ae,R.edR,if_neg hk1]
theorem uN (T:Txt w.params K mg A):aJ P w K mg base CX0 1 A.tO A.jK ["_law_clause_here"] R.gi:=by
 refine T.pD.ok JV (λvs H Q E h=>?_) (λcdv A' outer s H vs Q E hr h=>?_)
 ·obtain⟨z,rfl,_⟩:=h;rfl
 ·obtain⟨z,rfl,hz,k⟩:=h;refine⟨_,(ai (bb (aB bu (pv 0) ao (aK _))
 (aj (aI (bQ ag)))
 aH)
 (aj (aI (gB akU PySem.F.slot_str_split PySem.F.type_str_split FP (pv 0) (aa ao ag))))),?_⟩
  refine⟨_,rfl,rfl,_,rfl,eQ (λe=>?_) (λe=>?_)⟩
  ·have e':z=R.em:=by injection of_decide_eq_true e
   refine⟨akB _,λp hp=>?_⟩
   have:=k p hp;rw[R.bp,if_pos e']at this;exact this
  ·have e':¬z=R.em:=λq=>e (decide_eq_true (by rw[q]))
   refine⟨_,rfl,rfl,z,R.bl1,rfl,rfl,by rw[R.nU];rfl,hz,λp hp=>?_⟩
   have:=k p hp;rw[R.bp,if_neg e']at this;exact this
theorem DY (T:Txt w.params K mg A):aJ P w K mg base CX0 1 A.Bb A.pA ["_law_kind"] B6:=by
 refine T.vN.ok M6 (λvs H Q E h=>?_) (λcdv A' outer s H vs Q E hr h=>?_)
 ·obtain⟨k,_,rfl,_⟩:=h;rfl
 ·obtain⟨k,k8,rfl,q⟩:=h;refine⟨_,(aj (aI (gB om PySem.F.slot_list_index PySem.F.type_list_index O0 (bQ (aa ao (aa ao (aa ao (aa ao (aa ao (aa ao (aa ao (aa ao ag))))))))) (aa (pv 0) ag)))),?_⟩;obtain⟨h1,h2⟩:=Qq k k8;refine⟨(sl 8),λp hp=>?_⟩
  refine⟨.inl ⟨rfl,_,SqL.of ae⟩,_,rfl,p,Kk,nm k,k,rfl,rfl,SqL.of ae,h1,h2,?_⟩;exact q _ (aC hp)
theorem Nk (T:Txt w.params K mg A):aJ P w K mg base CX0 1 A.EK A.tM ["_law_things","_law_edit_here"] (E3 K):=by
 refine T.vL.ok M5 (λvs H Q E h=>?_) (λcdv A' outer s H vs Q E hr h=>?_)
 ·obtain⟨a,t,xs,e,rfl,_⟩:=h;rfl
 ·obtain⟨a,t,xs,e,rfl,ha,ht,o,q⟩:=h;refine⟨_,(ai (bb (aB bu (aT aU (pv 1) af (λ_ _=>rfl)) ao (aK _))
 (aj (aI (AB vc vc af (aT aU (pv 1) af (λ_ _=>rfl)) (ck c8 (by rfl) T.pE lb (aa (pv 0) ag)))))
 aH)
 (aj (aI (AB vc rA af (aT aU (pv 1) af (λ_ _=>rfl)) (ck c8 (by rfl) T.pE lb (aa (pv 0) ag)))))),?_⟩
  unfold gK at q;refine ixv rfl ht (nS e) ⟨rfl,_,rfl,eQ (λz=>?_) (λz=>?_)⟩
  ·have hk:e.k=0:=(xF o).mp (of_decide_eq_true z);rw[if_pos hk]at q;refine ixv rfl ht (uC e) ⟨_,_,rfl,rfl,_,rfl,eQ (λz1=>?_) (λz1=>?_)⟩
   ·have h1:0<=e.at_:=of_decide_eq_true z1;rw[decide_eq_true h1,Bool.true_and]at q;refine⟨_,rfl,a,_,rfl,.inl ha,_,_,rfl,rfl,?_⟩;dsimp only;rw[show decide (e.at_<=(xs.length:Int))=decide (e.at_ < (xs.length:Int)+1) by simp only[decide_eq_decide];omega]
    exact q
   ·have h1:¬0<=e.at_:=λy=>z1 (decide_eq_true y)
    rw[decide_eq_false h1,Bool.false_and]at q;exact q
  ·have hk:¬e.k=0:=λy=>z (decide_eq_true ((xF o).mpr y))
   rw[if_neg hk,Int.add_zero]at q;refine ixv rfl ht (uC e) ⟨_,_,rfl,rfl,_,rfl,eQ (λz1=>?_) (λz1=>?_)⟩
   ·have h1:0<=e.at_:=of_decide_eq_true z1;rw[decide_eq_true h1,Bool.true_and]at q;exact⟨_,rfl,a,_,rfl,.inl ha,_,_,rfl,rfl,q⟩
   ·have h1:¬0<=e.at_:=λy=>z1 (decide_eq_true y)
    rw[decide_eq_false h1,Bool.false_and]at q;exact q
end
end My
set_option maxHeartbeats 1000000
namespace My
open PySem L2
seal PySem.wpAny
def GN (K:ba):Sp:=λvs H Q _=>∃(a t:Addr) (xs:List Str) (e:Ed),vs=[.ref a,.ref t]/\SqL K H a (xs.map V.str)/\xs.length<=1000/\SqT K H t (gv e)/\qW e/\gK xs.length e=true /\
 ∀p H',bA H H'->H p=none->H' p=some (.lst ((bI xs e).map V.str))->Q (.ref p) H'
def MD:Sp:=λvs H Q _=>vs=[]/\∀m H',(∀(i:Nat) (c:Col) (n:Int),∃c',Step (λ_=>False) c c' H H'/\jt i c' H' m (Mz n))->Q (.ref m) H'
def nI (i:Nat):Sp:=λvs H Q _=>∃(m:Addr) (n:Nat) (c:Col) (st:Ch),vs=[.ref m,nV n]/\jt i c H m st/\dC st n/\∀t,MnT c H (st.mo n) t->Q (.ref t) H
def Fv (i:Nat):Sp:=λvs H Q _=>∃(m:Addr) (c:Col) (st:Ch),vs=[.ref m]/\jt i c H m st/\(∀n∈st.aw,dC st n)/\∀H',bA H H'->Q (.int (nY st.closed (st.aw.map st.mo))) H'
theorem nJ (ns:List Nat):akZ (fw ns) (.list [])=ns.isEmpty:=by
 cases ns with
 |nil=>simp[fw,akZ,PyData.eqvAll]
 |cons n ns=>simp[fw,akZ,PyData.eqvAll]
theorem B8:∀ns:List Nat,aj1 (ns.map λn:Nat=>PyData.int (n:Int))<=1
 |[]=>by simp only[akj,aj1];omega
 |n::ns=>by
  have:=B8 ns;simp only[kj,aj1,akk];omega
theorem nK (ns:List Nat):SeqAt.shaped (fw ns)=true:=by
 have h1:(fw ns).canLay0=true:=by
  unfold fw;simp only[ajN]
  induction ns with
  |nil=>simp only[akj,me]
  |cons n ns ih=>simp only[kj,me,ajN,ih,akb]
 have h2:(fw ns).depth<=64:=by
  have:=B8 ns;unfold fw;simp only[akk];omega
 show ((fw ns).canLay0 && decide ((fw ns).depth<=64))=true;rw[h1,decide_eq_true h2];rfl
theorem sI:SeqAt.shaped (.list [])=true:=by rfl
theorem sJ {K:ba}{H:Hp}{p:Addr}(h:SqL K H p []):DV K H (.list []) (.ref p):=by
 unfold DV;exact⟨p,[],rfl,h,by unfold DVs;rfl⟩
theorem nL {st:Ch}{n:Nat}(hn:dC st n):(iI st)[n - 1]?=some (hV st n):=by
 unfold iI;rw[aj7,Gy hn.1 hn.2];rfl
theorem MnT.kind {c:Col}{H:Hp}{m:Mn}{t:Addr}(h:MnT c H m t):∃v,H t=some (.tup (rowOf m.k v)):=⟨_,h.2.choose_spec.1⟩
theorem WE {v0 v1 v2 v3 v4 v5:V}:xh [] (mdF v0 v1 v2 v3 v4 v5)=mdF v0 v1 v2 v3 v4 v5:=by kernel_rfl
section
variable{P:rf}{w:World}{K:ba}{mg:Str->Option Value}{base:Heap}{A:Adr}
theorem Nl (T:Txt w.params K mg A):aJ P w K mg base CX0 1 A.EL A.tN ["_law_things","_law_edit_here"] (GN K):=by
 refine T.vM.ok Dn (λvs H Q E h=>?_) (λcdv A' outer s H vs Q E hr h=>?_)
 ·obtain⟨a,t,xs,e,rfl,_⟩:=h;rfl
 ·obtain⟨a,t,xs,e,rfl,ha,hl,ht,o,hf,q⟩:=h;refine⟨_,(ai (aZ (i:=2) Dn.nd rfl (wt rfl) (aT aU (pv 1) af (λ_ _=>rfl)))
 (ai (bb (aB bu (aT aU (pv 1) af (λ_ _=>rfl)) ao (aK _))
 (aj (aI (a6 Aa (oK vi (pv 0) vh (p8 (pv 2))) (oK vi (pv 0) (p8 (a6 dJ (pv 2) af)) vh))))
 aH)
 (aj (aI (a6 Aa (a6 Aa (oK vi (pv 0) vh (p8 (pv 2))) (bQ (aa (aT aU (pv 1) af (λ_ _=>rfl)) ag))) (oK vi (pv 0) (p8 (a6 dJ (pv 2) (dn C1 (by rfl) T.Py OG (aa (ng bu (aT aU (pv 1) af (λ_ _=>rfl)) ao (aK _)) ag)))) vh)))))),?_⟩
  refine hide λGg hGg=>?_
  have sz:ka=16777216:=by decide
  obtain⟨f0,f1⟩:=BA.mp hf;obtain⟨n,hn⟩:∃n:Nat,e.at_=(n:Int):=⟨e.at_.toNat,by omega⟩
  refine hGg ?_;refine ixv rfl ht (uC e) ?_;rw[hn];rw[hn]at f1;have en:e.at_.toNat=n:=by rw[hn];rfl
  refine ixv rfl ht (nS e) ⟨rfl,_,rfl,eQ (λz=>?_) (λz=>?_)⟩
  ·have hk:e.k=1:=(uE o).mp (of_decide_eq_true z);refine⟨_,rfl,_,rfl,_,rfl,a,_,rfl,ha,λp1 hp1=>?_⟩
   have s1:=aC (o:=.lst (gy (xs.map V.str) none (some (n:Int)))) hp1;refine⟨_,rfl,_,rfl,_,_,rfl,rfl,_,rfl,a,_,rfl,s1.seq ha,λp2 hp2=>?_⟩
   have n12:p1≠p2:=aG ae hp2;have s2:=s1.new (o:=.lst (gy (xs.map V.str) (some ((n:Int)+1)) none)) hp2;have e1:gy (xs.map V.str) none (some (n:Int))=(xs.take n).map V.str:=by rw[Qn,List.map_take]
   have e2:gy (xs.map V.str) (some ((n:Int)+1)) none=(xs.drop (n+1)).map V.str:=by rw[show (n:Int)+1=((n+1:Nat):Int) by omega,AJ,List.map_drop]
   refine⟨p1,p2,_,_,rfl,rfl,(aq n12).trans ae,ae,?_,λp3 hp3=>?_⟩
   ·have h1:=iK (xs.map V.str) none (some (n:Int));have h2:=iK (xs.map V.str) (some ((n:Int)+1)) none;rw[cb]at h1 h2;show (gy (xs.map V.str) none (some (n:Int))).length+(gy (xs.map V.str) (some ((n:Int)+1)) none).length<=_;omega
   ·refine q p3 _ (s2.new hp3) (same_none s2 hp3) ?_;have el:(bI xs e).map V.str=gy (xs.map V.str) none (some (n:Int))++gy (xs.map V.str) (some ((n:Int)+1)) none:=by
     rw[e1,e2,<-kx];unfold bI;rw[hk,en];show (xs.eraseIdx n).map V.str=_;rw[List.eraseIdx_eq_take_drop_succ]
    rw[el];exact ae
  ·have hk:¬e.k=1:=λy=>z (decide_eq_true ((uE o).mpr y))
   refine⟨_,rfl,_,rfl,_,rfl,a,_,rfl,ha,λp1 hp1=>?_⟩
   have s1:=aC (o:=.lst (gy (xs.map V.str) none (some (n:Int)))) hp1;refine ixv rfl (bV s1 ht) (uD hk) ⟨(sl 1),λp2 hp2=>?_⟩
   have n12:p1≠p2:=aG ae hp2;have s2:=s1.new (o:=.lst [V.str e.th]) hp2;have h1:=iK (xs.map V.str) none (some (n:Int));rw[cb]at h1;refine⟨p1,p2,_,_,rfl,rfl,(aq n12).trans ae,ae,by show (gy (xs.map V.str) none (some (n:Int))).length+1<=_;omega,λp3 hp3=>?_⟩
   refine hide λGg hGg=>?_
   have s3:=s2.new (o:=.lst (gy (xs.map V.str) none (some (n:Int))++[V.str e.th])) hp3;obtain⟨b,hb,hb2⟩:∃b:Nat,(if decide (V.str (kn e.k)=V.str (ar "turn"))=true then (1:Int) else 0)=(b:Int)/\b=if e.k=2 then 1 else 0:=by
    by_cases h2:e.k=2
    ·exact⟨1,by rw[decide_eq_true ((L8 o).mpr h2)];rfl,by rw[if_pos h2]⟩
    ·exact⟨0,by rw[decide_eq_false (λy=>h2 ((L8 o).mp y))];rfl,by rw[if_neg h2]⟩
   refine hGg ?_;refine⟨_,rfl,_,rfl,ixv rfl (bV s3 ht) (nS e) ⟨rfl,.inr ⟨_,rfl,_,_,rfl,rfl,_,rfl,?_⟩⟩⟩;dsimp only;rw[hb,show (n:Int)+(b:Int)=((n+b:Nat):Int) by omega]
   refine⟨a,_,rfl,s3.seq ha,λp4 hp4=>?_⟩
   have n34:p3≠p4:=aG ae hp4;have s4:=s3.new (o:=.lst (gy (xs.map V.str) (some ((n+b:Nat):Int)) none)) hp4;have h2:=iK (xs.map V.str) (some ((n+b:Nat):Int)) none;rw[cb]at h2;refine⟨p3,p4,_,_,rfl,rfl,(aq n34).trans ae,ae,?_,λp5 hp5=>?_⟩
   ·show (gy (xs.map V.str) none (some (n:Int))++[V.str e.th]).length+(gy (xs.map V.str) (some ((n+b:Nat):Int)) none).length<=_;rw[ky,ajW];omega
   ·refine q p5 _ (s4.new hp5) (same_none s4 hp5) ?_;have el:(bI xs e).map V.str=gy (xs.map V.str) none (some (n:Int))++[V.str e.th]++gy (xs.map V.str) (some ((n+b:Nat):Int)) none:=by
     rw[Qn,AJ,<-List.map_take,<-List.map_drop];unfold bI;rcases o.k3 with h | h | h
     ·rw[h]at hb2 ⊢;rw[hb2,en];simp
     ·exact absurd h hk
     ·rw[h,if_neg (by decide)]at f1
      rw[h]at hb2 ⊢;rw[hb2,en];show (xs.set n e.th).map V.str=_;rw[List.set_eq_take_append_cons_drop,if_pos (by omega)]
      simp
    rw[el];exact ae
theorem mO (T:Txt w.params K mg A){i:Nat}:aJ P w K mg base CX0 1 A.ue A.ig ["_law_m","_law_number"] (nI i):=by
 refine T.iD.ok O9 (λvs H Q E h=>?_) (λcdv A' outer s H vs Q E hr h=>?_)
 ·obtain⟨m,n,c,st,rfl,_⟩:=h;rfl
 ·obtain⟨m,n,c,st,rfl,hm,hn,q⟩:=h;obtain⟨aP,aA,aD,aM,ds,ws,es,X⟩:=hm.ex;have hu1:=hr.u1;refine⟨_,(aj (aI (aT bF (aT bF (aY hu1 (pv 0) ao (λ_ _=>rfl)) (a6 nP (pv 1) af) (λ_ _=>rfl)) af (λ_ _=>rfl)))),?_⟩
  refine hide λGg hGg=>?_
  obtain⟨v,ev,p,t1,t2,k,ts,rfl,z1,z2,z3,z4,z5⟩:=X.ent.get (nL hn);have h1:=hn.1;have ea:atI es ((n:Int) - 1)=some (.ref p):=by
   rw[show (n:Int) - 1=((n - 1:Nat):Int) by omega]
   exact eu ev
  refine hGg ?_;refine dgv rfl X.gm ⟨_,rfl,_,_,rfl,rfl,aM,_,_,_,rfl,rfl,SqL.of X.kX.2,ea,p,_,_,_,rfl,rfl,SqL.of z1.2,rfl,?_⟩;exact q t1 z2
theorem GO (T:Txt w.params K mg A){i:Nat}:aJ P w K mg base CX0 2 A.F9 A.rL ["_law_m"] (Fv i):=by
 have B9:aJ P w K mg base CX0 1 A.Bb A.pA ["_law_kind"] B6:=DY T;have eN:aJ P w K mg base CX0 1 A.ue A.ig ["_law_m","_law_number"] (nI i):=mO T;refine T.vO.ok A7 (λvs H Q E h=>?_) (λcdv A' outer s H vs Q E hr h=>?_)
 ·obtain⟨m,c,st,rfl,_⟩:=h;rfl
 ·obtain⟨m,c,st,rfl,hm,hp,q⟩:=h;obtain⟨aP,aA,aD,aM,ds,ws,es,X⟩:=hm.ex;have hu1:=hr.u1;have mD:=hr.units;have xZ:=hr;have dI:=hr;refine⟨_,(ai (aZ (i:=1) A7.nd rfl (wt rfl) (oJ jA af))
 (ai (bb (aB (w8 mD) (aY hu1 (pv 0) ao (λ_ _=>rfl)) (bQ ag) (aK _))
 (aj (aZ (i:=1) A7.nd rfl (wt rfl) (aW B9 xZ rfl T.Bn T.vN.kp T.Bm .nil a7 (aa (aT aU (aW eN dI rfl T.i9 T.iD.kp T.i8 .nil a7 (aa (pv 0) (aa (aT bF (aY hu1 (pv 0) ao (λ_ _=>rfl)) (oJ jA af) (λ_ _=>rfl)) ag))) af (λ_ _=>rfl)) ag))))
 aH)
 (ai (bb (p6 (aY hu1 (pv 0) ao (λ_ _=>rfl)))
 (aj (aI (ck (tw rfl) (by rfl) T.Gm El (aa (pv 1) (aa af ag)))))
 aH)
 (aj (aI (pv 1)))))),?_⟩
  refine⟨_,rfl,?_⟩;dsimp only[iZ];refine gw (λσ' H'=>σ'=[some (.ref m),some (.int (qX (st.aw.map st.mo)))]/\bA H H') ?r (λN nN=>?f)
  case f =>
   refine dgv rfl X.gp ⟨(sl 0),λp hp0=>?_⟩
   have s1:=aC (o:=.lst []) hp0;refine⟨fw st.aw,.list [],js (SqL.of (s1 _ _ X.aw.2)),sJ (SqL.of ae),nK _,sI,_,rfl,?_⟩;rw[nJ];rcases ajX st.aw with e | ⟨pre,n,e⟩
   ·rw[e];exact bw (nN _ _ ⟨by rw[e];rfl,s1⟩)
   ·rw[ajY]at e;have X1:=X.same s1;have hn:=hp n (by rw[e];simp)
    have h0:atI (st.aw.map nV) (-1)=some (nV n):=by rw[e,kx];exact i4 _ _
    refine yo (by rw[e];simp) ?_
    refine⟨_,rfl,_,rfl,m,_,rfl,X1.gp,_,rfl,aP,_,_,_,rfl,rfl,SqL.of X1.aw.2,h0,m,n,c,st,rfl,X1.at,hn,λt ht=>?_⟩
    obtain⟨v,hv⟩:=ht.kind;refine⟨t,_,_,_,rfl,rfl,SqT.of hv,d5,(st.mo n).k,(st.mo n).k8,rfl,λH2 s2=>nN _ _ ⟨?_,s1.trans s2⟩⟩
    rw[e,kx,kj,akj,pL];rfl
  case r =>
   rintro σ' H1 ⟨rfl,s1⟩;have X1:=X.same s1;refine dgv rfl X1.gc ⟨_,rfl,?_⟩;have q:=q H1 s1;unfold nY at q;cases hcl:st.closed with
   |true =>
    rw[hcl]at q;exact dM ⟨_,rfl,_,_,rfl,q⟩
   |false =>
    rw[hcl]at q;exact bw ⟨_,rfl,q⟩
end
end My
set_option maxHeartbeats 1000000
namespace My
open PySem L2
seal PySem.wpAny
def xcC:Xc->Str×Int
 | .sj b=>(ar "bar",b)
 | .mI=>(ar "no matter",0)
 | .noChange=>(ar "no change",0)
 | .noFit=>(ar "no fit",0)
 | .mJ n=>(ar "not later",n)
 | .nothing=>(ar "nothing",0)
 | .tooMany=>(ar "too many",0)
 | .tX=>(ar "no aside",0)
 | .BP n=>(ar "not yet",n)
 | .pJ=>(ar "no number",0)
def ME (i:Nat):Sp:=λvs H Q _=>∃(m t:Addr) (c:Col) (st:Ch) (N:Nat) (d:R.fH),vs=[.ref m,.ref t]/\jt i c H m st/\Inv N st/\N<=800/\Fq d/\qK i c H d t /\
 (iY st (eK d)=none->∀H',bA H H'->Q .non H')/\∀x,iY st (eK d)=some x->∀u H',bA H H'->H u=none->H' u=some (.tup [.str (xcC x).1,.int (xcC x).2])->Q (.ref u) H'
theorem Kl {m:Mn}{r:List Mn}(h:PMs (m::r)):t7 (m::r)=decide (m.k=0):=by
 cases hm:t7 (m::r) with
 |true =>
  obtain⟨tx,r',e⟩:=h.Kb hm;cases e;rfl
 |false =>
  unfold t7 at hm;rw[List.any_cons,Bool.or_eq_false_iff]at hm;exact hm.1.symm
theorem Qr {ms:List Mn}(h:PMs ms)(hm:fL ms=true):t7 ms=true:=by
 unfold fL at hm;split at hm
 ·rename_i e he;obtain⟨r,e1⟩:=pN he;subst e1;obtain⟨tx,e2,_⟩:=h.pop.2;subst e2;rfl
 ·cases hm
section
variable{P:rf}{w:World}{K:ba}{mg:Str->Option Value}{base:Heap}{A:Adr}
theorem Km (T:Txt w.params K mg A){i:Nat}:aJ P w K mg base CX0 3 A.Ai A.qc ["_law_m","_law_motion"] (ME i):=by
 have B9:aJ P w K mg base CX0 1 A.Bb A.pA ["_law_kind"] B6:=DY T;have eN:aJ P w K mg base CX0 1 A.ue A.ig ["_law_m","_law_number"] (nI i):=mO T;have Au:aJ P w K mg base CX0 2 A.F9 A.rL ["_law_m"] (Fv i):=GO T;have GP:aJ P w K mg base CX0 1 A.EK A.tM ["_law_things","_law_edit_here"] (E3 K):=Nk T;have pQ:aJ P w K mg base CX0 1 A.tO A.jK ["_law_clause_here"] R.gi:=uN T;refine T.xr.ok uu (λvs H Q E h=>?_) (λcdv A' outer s H vs Q E hr h=>?_)
 ·obtain⟨m,t,c,st,N,d,rfl,_⟩:=h;rfl
 ·obtain⟨m,t,c,st,N,d,rfl,hm,I,hN,hd,hdc,q,qx⟩:=h;obtain⟨aP,aA,aD,aM,ds,ws,es,X⟩:=hm.ex;have hu1:=hr.u1;have mD:=hr.units;have xZ:Room 1 _:=hr.mono (by decide)
  have dI:Room 1 _:=hr.mono (by decide)
  have wz:Room 2 _:=hr;have DZ:Room 1 _:=hr.mono (by decide)
  have mP:Room 1 _:=hr.mono (by decide)
  refine⟨_,(ai (aZ (i:=2) uu.nd rfl (wt rfl) (aT aU (pv 1) af (λ_ _=>rfl)))
 (ai (bb (aB vc (aW B9 xZ rfl T.Bn T.vN.kp T.Bm .nil a7 (aa (pv 2) ag)) (aW Au wz rfl T.Ao T.vO.kp T.An .nil a7 (aa (pv 0) ag)) (aK _))
 (aj (aI (bg (aa ao (aa (aW Au wz rfl T.Ao T.vO.kp T.An .nil a7 (aa (pv 0) ag)) ag)))))
 aH)
 (ai (bb (aB w6 (pv 2) (bg (aa ao (aa ao (aa ao ag)))) rfl)
 (aj (aI Ea))
 aH)
 (ai (bb (PW.pt (pw_or (aB (AG mD) (aY hu1 (pv 0) ao (λ_ _=>rfl)) (bQ ag) (aK _)) (pw_or1 (aB C0 (aT aU (aW eN dI rfl T.i9 T.iD.kp T.i8 .nil a7 (aa (pv 0) (aa (aT bF (aY hu1 (pv 0) ao (λ_ _=>rfl)) af (λ_ _=>rfl)) ag))) af (λ_ _=>rfl)) ao (aK _)))))
 (aj (aI (bg (aa ao (aa af ag)))))
 aH)
 (ai (aZ (i:=3) uu.nd rfl (wt rfl) (aW eN dI rfl T.i9 T.iD.kp T.i8 .nil a7 (aa (pv 0) (aa (aT bF (aY hu1 (pv 0) ao (λ_ _=>rfl)) (oJ jA af) (λ_ _=>rfl)) ag))))
 (ai (bb (PW.pt (pw_and (aB bu (pv 2) ao (aK _)) (pw_and1 (PW.pt (pw_or (aB C0 (aT aU (pv 3) af (λ_ _=>rfl)) ao (aK _)) (pw_or1 (aB bu (aT aU (aT aU (pv 3) af (λ_ _=>rfl)) af (λ_ _=>rfl)) ao (aK _))))))))
 (aj (aI (bg (aa ao (aa af ag)))))
 aH)
 (ai (bb (PW.pt (pw_and (aB bu (pv 2) ao (aK _)) (pw_and1 (rq (p6 (aW GP DZ rfl T.Bj T.vL.kp T.Bi .nil a7 (aa (aW pQ mP rfl T.tU T.pD.kp T.tT .nil a7 (aa (aT aU (aT aU (pv 3) af (λ_ _=>rfl)) af (λ_ _=>rfl)) ag)) (aa (aT aU (pv 1) af (λ_ _=>rfl)) ag))))))))
 (aj (aI (bg (aa ao (aa af ag)))))
 aH)
 (ai (bb (PW.pt (pw_and (aB bu (pv 2) ao (aK _)) (pw_and1 (rq (p6 (aW GP DZ rfl T.Bj T.vL.kp T.Bi .nil a7 (aa (aT aU (aW eN dI rfl T.i9 T.iD.kp T.i8 .nil a7 (aa (pv 0) (aa (aT bF (aY hu1 (pv 0) ao (λ_ _=>rfl)) af (λ_ _=>rfl)) ag))) af (λ_ _=>rfl)) (aa (aT aU (pv 1) af (λ_ _=>rfl)) ag))))))))
 (aj (aI (bg (aa ao (aa af ag)))))
 aH)
 (ai (bb (PW.pt (pw_and (aB bu (pv 2) ao (aK _)) (pw_and1 (aB vc (aT aU (pv 1) af (λ_ _=>rfl)) (aY hu1 (pv 0) ao (λ_ _=>rfl)) (aK _)))))
 (aj (aI (bg (aa ao (aa (aY hu1 (pv 0) ao (λ_ _=>rfl)) ag)))))
 aH)
 (aj (aI Ea))))))))))),?_⟩
  refine hide λGg hGg=>?_
  obtain⟨v,ht,hv0,hv1⟩:=wu hd hdc;have hmk:=Kh (N:=N) hd;refine hGg ?_;generalize eK d=mn at ht hv0 hv1 hmk q qx;refine ixv rfl (SqT.of ht.2) d5 ?_;refine⟨_,rfl,mn.k,mn.k8,rfl,λH1 s1=>?_⟩
  refine⟨_,rfl,m,c,st,rfl,(X.same s1).at,I.bT,λH2 s2=>?_⟩
  have s12:=s1.trans s2;refine⟨_,_,rfl,rfl,_,rfl,eQ (λz=>?_) (λz=>?_)⟩
  ·have z':(mn.k:Int)<=nY st.closed (st.aw.map st.mo):=of_decide_eq_true z;refine⟨_,rfl,m,c,st,rfl,(X.same s12).at,I.bT,λH3 s3=>⟨(sl 2),λu hu=>?_⟩⟩
   refine qx (.sj (nY st.closed (st.aw.map st.mo))) (by unfold iY sx;rw[if_pos z']) u _ ((s12.trans s3).new hu) (same_none (s12.trans s3) hu) ae
  have z':¬(mn.k:Int)<=nY st.closed (st.aw.map st.mo):=λy=>z (decide_eq_true y)
  refine⟨_,rfl,(sl 3),λt3 ht3=>?_⟩
  have s3:=s12.new (o:=.tup [V.str (ar "matter"),V.str (ar "rest"),V.str (ar "point")]) ht3;refine⟨t3,_,rfl,.inr (SqT.of ae),rfl,rfl,_,rfl,?_⟩;have ein:(if false=true then !inV (V.str (nm mn.k)) [V.str (ar "matter"),V.str (ar "rest"),V.str (ar "point")] else inV (V.str (nm mn.k)) [V.str (ar "matter"),V.str (ar "rest"),V.str (ar "point")])=decide (mn.k=0\/mn.k=6\/mn.k=7):=by
   have:∀k,k < 8->inV (V.str (nm k)) [V.str (ar "matter"),V.str (ar "rest"),V.str (ar "point")]=decide (k=0\/k=6\/k=7):=by decide +kernel
   exact this _ mn.k8
  rw[ein];generalize upd H2 t3 (.tup [V.str (ar "matter"),V.str (ar "rest"),V.str (ar "point")])=H3 at s3 ⊢;clear ht3 ein s12 s2 s1 z
  by_cases Nm:mn.k=0\/mn.k=6\/mn.k=7
  ·refine yo (decide_eq_true Nm) (q ?_ H3 s3);have hn:sv (st.aw.map st.mo) mn.k=true:=by
    unfold sv;rw[if_neg (by omega),if_neg (by omega)]
   unfold iY sx;rw[if_neg z',if_pos hn];cases mn <;> first | rfl | (simp[Mn.k]at Nm)
  refine yp (decide_eq_false Nm) ?_;have X3:=X.same s3;refine dgv rfl X3.gp ⟨(sl 0),λp4 hp4=>?_⟩
  have s4:=s3.new (o:=.lst []) hp4;have X4:=X.same s4;refine⟨fw st.aw,.list [],js (SqL.of X4.aw.2),sJ (SqL.of ae),nK _,sI,_,rfl,?_⟩;rw[nJ];generalize upd H3 p4 (.lst [])=H4 at s4 X4 ⊢;clear hp4 X3 s3;have ht4:SqT K H4 t (rowOf mn.k v):=SqT.of (s4 _ _ ht.2);have nomat:t7 (st.aw.map st.mo)=false->iY st mn=some .mI:=λhh=>by
   have hn:sv (st.aw.map st.mo) mn.k=false:=by
    unfold sv
    by_cases h2:mn.k=2
    ·rw[if_pos h2];cases hmm:fL (st.aw.map st.mo) with
     |false=>rfl
     |true=>rw[Qr I.pil hmm]at hh;cases hh
    ·have:=mn.k8;rw[if_neg h2,if_pos (by omega),hh]
   unfold iY sx;rw[if_neg z',if_neg (by rw[hn];decide),if_neg (by rw[hh];decide)]
  have say:∀(x:Xc) (z:Str),iY st mn=some x->(xcC x).1=z->(xcC x).2=0->∀(Hn:Hp),bA H Hn->∀u,Hn u=none->Q (.ref u) (upd Hn u (.tup [.str z,.int 0])):=λx z hx hz h0 Hn sn u hu=>by
   subst hz;have:=qx x hx u _ (sn.new hu) (same_none sn hu) (ae (o:=.tup [.str (xcC x).1,.int (xcC x).2]));rw[h0]at this;exact this
  cases Ca:st.aw with
  |nil =>
   refine dM (dM ⟨(sl 2),λu hu=>?_⟩)
   exact say .mI _ (nomat (by rw[Ca];rfl)) rfl rfl H4 s4 u hu
  |cons b r =>
   refine bw ?_;have hb:dC st b:=I.bT b (by rw[Ca];exact gn)
   have h0:atI (st.aw.map nV) 0=some (nV b):=by rw[Ca];exact eu (j:=0) rfl
   refine⟨_,rfl,dgv rfl X4.gp ⟨aP,_,_,_,rfl,rfl,SqL.of X4.aw.2,h0,m,b,c,st,rfl,X4.at,hb,λtb htb=>?_⟩⟩
   obtain⟨vb,hvb⟩:=htb.kind;have hbm:t7 (st.aw.map st.mo)=decide ((st.mo b).k=0):=by
    have hp:=I.pil;rw[Ca,kj]at hp ⊢;exact Kl hp
   refine⟨tb,_,_,_,rfl,rfl,SqT.of hvb,d5,rfl,_,rfl,?_⟩;rw[BS _ (st.mo b).k8]
   by_cases hk0:(st.mo b).k=0
   case neg =>
    rw[decide_eq_false hk0]at hbm ⊢;refine dM ⟨(sl 2),λu hu=>?_⟩
    exact say .mI _ (nomat hbm) rfl rfl H4 s4 u hu
   rw[decide_eq_true hk0]at hbm ⊢;refine bw ?_;refine hide λGg hGg=>?_
   obtain⟨tx,etx⟩:∃tx,st.mo b=.mat tx:=by
    cases hmo:st.mo b with
    |mat tx=>exact⟨tx,rfl⟩
    |_=>rw[hmo]at hk0;simp[Mn.k]at hk0
   obtain⟨pre,n,Qs⟩:∃pre n,st.aw=pre++[n]:=by
    rcases ajX st.aw with e | ⟨pre,n,e⟩
    ·rw[e]at Ca;cases Ca
    ·exact⟨pre,n,by rw[e,ajY]⟩
   have hn:dC st n:=I.bT n (by rw[Qs];simp)
   have abi:atI (st.aw.map nV) (-1)=some (nV n):=by rw[Qs,kx];exact i4 _ _
   have etop:(st.aw.map st.mo).getLast?=some (st.mo n):=by rw[Qs,kx];exact akp
   have ahM:∃r',st.aw.map st.mo=.mat tx::r':=⟨r.map st.mo,by rw[Ca,kj,etx]⟩
   refine hGg ?_;refine⟨_,rfl,_,rfl,m,_,rfl,X4.gp,_,rfl,aP,_,_,_,rfl,rfl,SqL.of X4.aw.2,abi,m,n,c,st,rfl,X4.at,hn,λtt htt=>?_⟩
   refine hide λGg hGg=>?_
   obtain⟨_,vt,hvt,hvv⟩:=htt;have okn:sv (st.aw.map st.mo) mn.k=true->iY st mn=jR st mn:=λhh=>by
    unfold iY sx;rw[if_neg z',if_pos hh]
   refine hGg ?_;cases mn with
   |mat _=>exact absurd (.inl rfl) Nm
   |rst=>exact absurd (.inr (.inl rfl)) Nm
   |pnt _=>exact absurd (.inr (.inr rfl)) Nm
   |cls =>
    have hx:iY st .cls=none:=okn (by show t7 _=true;exact hbm)
    exact⟨_,rfl,rfl,tsf (cg 4 (by decide)) (bw ⟨_,rfl,rfl,tsf (cg 4 (by decide)) (bw ⟨_,rfl,rfl,tsf (b9 4 (by decide)) (bw ⟨_,rfl,rfl,tsf (gN 4 (by decide)) (bw (q hx H4 s4))⟩)⟩)⟩)⟩
   |lay =>
    have hx:iY st .lay=none:=okn (by show t7 _=true;exact hbm)
    exact⟨_,rfl,rfl,tsf (cg 5 (by decide)) (bw ⟨_,rfl,rfl,tsf (cg 5 (by decide)) (bw ⟨_,rfl,rfl,tsf (b9 5 (by decide)) (bw ⟨_,rfl,rfl,tsf (gN 5 (by decide)) (bw (q hx H4 s4))⟩)⟩)⟩)⟩
   |off u =>
    have hx:iY st (.off u)=jR st (.off u):=okn (by show t7 _=true;exact hbm)
    have hv':v=.int u:=hv1 (by simp[Mn.k])
    subst hv';refine⟨_,rfl,rfl,tsf (cg 3 (by decide)) (bw ⟨_,rfl,rfl,tsf (cg 3 (by decide)) (bw ⟨_,rfl,rfl,tsf (b9 3 (by decide)) (bw ⟨_,rfl,rfl,tst (gN 3 (by decide)) ?_⟩)⟩)⟩)⟩
    refine ixv rfl ht4 rfl (dgv rfl X4.gs ⟨_,_,rfl,rfl,_,rfl,eQ (λy=>?_) (λy=>?_)⟩)
    ·have y':u<=st.aN:=of_decide_eq_true y;refine dgv rfl X4.gs ⟨(sl 2),λu2 hu=>?_⟩
     exact qx (.mJ st.aN) (by rw[hx];unfold jR;dsimp only;rw[if_pos y']) u2 _ (s4.new hu) (same_none s4 hu) ae
    ·have y':¬u<=st.aN:=λz=>y (decide_eq_true z)
     exact q (by rw[hx];unfold jR;dsimp only;rw[if_neg y']) H4 s4
   |chg e =>
    refine hide λGg hGg=>?_
    have hx:iY st (.chg e)=jR st (.chg e):=okn (by show t7 _=true;exact hbm)
    obtain⟨te,rfl,hte⟩:=hv1 (by simp[Mn.k])
    obtain⟨r',er'⟩:=ahM;refine hGg ?_;refine⟨_,rfl,rfl,tsf (cg 1 (by decide)) (bw ⟨_,rfl,rfl,tsf (cg 1 (by decide)) (bw ⟨_,rfl,rfl,tst (b9 1 (by decide)) ?_⟩)⟩)⟩
    refine⟨_,rfl,dgv rfl X4.gp ⟨aP,_,_,_,rfl,rfl,SqL.of X4.aw.2,h0,m,b,c,st,rfl,X4.at,hb,λtb2 abj=>?_⟩⟩
    refine hide λGg hGg=>?_
    rw[etx]at abj;obtain⟨_,v2,hv2,L,rfl,hL⟩:=abj;refine hGg ?_;refine⟨tb2,_,_,_,rfl,rfl,SqT.of hv2,rfl,ixv rfl ht4 rfl ⟨L,te,_,e,rfl,SqL.of hL.2,bV s4 hte.sq,hmk.ed1 hN,_,rfl,?_⟩⟩;rw[cb];cases hf:gK tx.length e with
    |true=>exact bw ⟨_,rfl,rfl,tsf (gN 1 (by decide)) (bw (q (by rw[hx];unfold jR;dsimp only;rw[er'];dsimp only;rw[if_pos hf]) H4 s4))⟩
    |false =>
     refine dM ⟨(sl 2),λu hu=>?_⟩
     exact say .noFit _ (by rw[hx];unfold jR;dsimp only;rw[er'];dsimp only;rw[if_neg (by rw[hf];decide)]) rfl rfl H4 s4 u hu
   |mnd f =>
    refine hide λGg hGg=>?_
    obtain⟨te,rfl,hte⟩:=hv1 (by simp[Mn.k])
    refine hGg ?_;refine⟨_,rfl,rfl,tst (cg 2 (by decide)) (ixv rfl (SqT.of hvt) d5 ⟨rfl,_,rfl,?_⟩)⟩
    rw[b9 _ (st.mo n).k8];have GQ:fL (st.aw.map st.mo)=false->iY st (.mnd f)=some .noChange:=λhh=>by
     have hn:sv (st.aw.map st.mo) (Mn.mnd f).k=false:=(show fL (st.aw.map st.mo)=false from hh)
     unfold iY sx;rw[if_neg z',if_neg (by rw[hn];decide),if_pos (by rw[hbm])]
    by_cases h1:(st.mo n).k=1
    case neg =>
     rw[decide_eq_false h1];refine dM (dM ⟨(sl 2),λu hu=>?_⟩)
     refine say .noChange _ (GQ ?_) rfl rfl H4 s4 u hu;unfold fL;rw[etop];cases hmo:st.mo n with
     |chg e=>rw[hmo]at h1;exact absurd rfl h1
     |_=>rfl
    rw[decide_eq_true h1];refine hide λGg hGg=>?_
    obtain⟨e,emo⟩:∃e,st.mo n=.chg e:=by
     cases hmo:st.mo n with
     |chg e=>exact⟨e,rfl⟩
     |_=>rw[hmo]at h1;simp[Mn.k]at h1
    rw[emo]at hvt hvv etop;obtain⟨tc,rfl,htc⟩:=hvv;refine hGg ?_;refine bw (ixv rfl (SqT.of hvt) rfl ⟨tc,_,_,_,rfl,rfl,htc.sq,nS e,rfl,_,rfl,?_⟩);rw[Fe]
    by_cases hk1:e.k=1
    ·rw[decide_eq_true hk1];refine dM ⟨(sl 2),λu hu=>?_⟩
     refine say .noChange _ (GQ ?_) rfl rfl H4 s4 u hu;unfold fL;rw[etop];dsimp only;rw[decide_eq_true hk1];rfl
    ·rw[decide_eq_false hk1];have hmo:fL (st.aw.map st.mo)=true:=by
      unfold fL;rw[etop];dsimp only;rw[decide_eq_false hk1];rfl
     have hx:iY st (.mnd f)=jR st (.mnd f):=okn (show fL (st.aw.map st.mo)=true from hmo)
     have hem:EdB (12+N) e:=by
      have:=I.wk hn;rw[emo]at this;exact this
     have heo:qW e:=hem.ok (by omega)
     refine bw ⟨_,rfl,rfl,tst (cg 2 (by decide)) (ixv rfl (SqT.of hvt) rfl ⟨tc,_,_,_,rfl,rfl,htc.sq,uD hk1,e.th,rfl,?_,λp1 hp1=>?_⟩)⟩
     ·have:=heo.th.len;have lim:ka=16777216:=by decide
      omega
     have s5:=s4.new (o:=.lst ((R.bp e.th).map V.str)) hp1;have s45:=aC (o:=.lst ((R.bp e.th).map V.str)) hp1;refine ixv rfl (bV s45 ht4) rfl ⟨p1,te,_,f,rfl,SqL.of ae,bV s5 hte.sq,hmk.ed2,_,rfl,?_⟩;rw[cb];cases hf:gK (R.bp e.th).length f with
     |true=>exact bw ⟨_,rfl,rfl,tsf (b9 2 (by decide)) (bw ⟨_,rfl,rfl,tsf (gN 2 (by decide)) (bw (q (by rw[hx];unfold jR;dsimp only;rw[etop];dsimp only;rw[if_pos hf]) _ s5))⟩)⟩
     |false =>
      refine dM ⟨(sl 2),λu hu=>?_⟩
      exact say .noFit _ (by rw[hx];unfold jR;dsimp only;rw[etop];dsimp only;rw[if_neg (by rw[hf];decide)]) rfl rfl _ s5 u hu
end
end My
set_option maxHeartbeats 1000000
namespace My
open PySem L2
seal PySem.wpAny
theorem bJ.Qt {α β:Type}{R R':α->β->Prop}:∀ {as:List α} {bs:List β} {j:Nat} {a':α} {b:β},bJ R as bs->bs[j]?=some b->(∀k a b',k≠j->as[k]?=some a->R a b'->R' a b')->R' a' b->bJ R' (as.set j a') bs
 |_,_,_,_,_,.nil,h,_,_=>by simp at h
 |a::as,b0::bs,0,a',b,.cons h t,hb,hk,hn=>by
  rw[aj8]at hb;cases hb;refine .cons hn ?_;have:∀ {as:List α} {bs:List β} (s:Nat),(∀(k:Nat) a b',as[k]?=some a->R a b'->R' a b')->bJ R as bs->bJ R' as bs:=by
   intro as bs s f z
   induction z with
   |nil=>exact .nil
   |cons h1 t1 ih=>exact .cons (f 0 _ _ aj8 h1) (ih λk a b' e=>f (k+1) a b' (by rw[ake];exact e))
  exact this 0 (λk x y e=>hk (k+1) x y (by omega) (by rw[ake];exact e)) t
 |a::as,b0::bs,j+1,a',b,.cons h t,hb,hk,hn=>by
  rw[ake]at hb;exact .cons (hk 0 _ _ (by omega) aj8 h) (t.Qt hb (λk x y ne e=>hk (k+1) x y (by omega) (by rw[ake];exact e)) hn)
theorem mQ (st:Ch):(iI st).length=st.made.length:=by unfold iI;rw[cb,akF]
theorem GR {st:Ch}{j:Nat}{x:Ent}(h:(iI st)[j]?=some x):x=hV st (j+1)/\j < st.made.length:=by
 have hj:j < st.made.length:=by rw[<-mQ];exact(List.getElem?_eq_some_iff.mp h).1
 have e:=nL (st:=st) (n:=j+1) ⟨by omega,by omega⟩
 rw[Nat.add_sub_cancel]at e;rw[e]at h;exact⟨(ajP h).symm,hj⟩
theorem GS {st st':Ch}{n:Nat}(hl:st'.made.length=st.made.length)(hn:dC st n)(h:∀k,dC st k->k≠n->hV st' k=hV st k):iI st'=(iI st).set (n - 1) (hV st' n):=by
 refine List.ext_getElem? λj=>?_
 have h1:=hn.1;have h2:=hn.2
 by_cases hj:j < st.made.length
 ·have e:=nL (st:=st') (n:=j+1) ⟨by omega,by omega⟩
  rw[Nat.add_sub_cancel]at e;rw[e]
  by_cases z:j=n - 1
  ·subst z;rw[akT (by rw[mQ];omega),show n - 1+1=n by omega]
  ·rw[ak2 (λy=>z y.symm)]
   have e2:=nL (st:=st) (n:=j+1) ⟨by omega,by omega⟩
   rw[Nat.add_sub_cancel]at e2;rw[e2,h (j+1) ⟨by omega,by omega⟩ (by omega)]
 ·rw[List.getElem?_eq_none (by rw[mQ];omega),List.getElem?_eq_none (by rw[aky,mQ];omega)]
theorem Qu {st st':Ch}(hl:st'.made.length=st.made.length+1)(h:∀k,dC st k->hV st' k=hV st k):iI st'=iI st++[hV st' (st.made.length+1)]:=by
 unfold iI;rw[hl,List.range'_concat,kx,Nat.one_mul,Nat.add_comm 1]
 congr 1
 refine akS λk hk=>?_
 rw[akK]at hk;exact h k ⟨hk.1,by omega⟩
theorem Cb {n k:Nat}{e:Ed}:∀ {xs:List (Nat×List Ed)},at1 k (qY n e xs)=(at1 k xs).map λx=>if x.1=n then (x.1,x.2++[e]) else x
 |[]=>rfl
 |y::xs=>by
  have ih:=Cb (n:=n) (k:=k) (e:=e) (xs:=xs);unfold at1 qY at ih ⊢;rw[kj,akl,akl];have ek:(if y.1=n then (y.1,y.2++[e]) else y).1=y.1:=by split <;> rfl
  rw[ek]
  by_cases z:y.1=k
  ·rw[decide_eq_true z];rfl
  ·rw[decide_eq_false z];exact ih
theorem Qv {st:Ch}{n:Nat}{e:Ed}{x:Nat×List Ed}(h:at1 n st.kept=some x):gk { st with kept:=qY n e st.kept } n=gk st n++[e]:=by
 unfold gk;show ((at1 n (qY n e st.kept)).map (·.2)).getD []=_
 rw[Cb,h];have:=(hU h).1;show (if x.1=n then (x.1,x.2++[e]) else x).2=x.2++[e]
 rw[if_pos this]
theorem GU {st:Ch}{n k:Nat}{e:Ed}(ne:k≠n):gk { st with kept:=qY n e st.kept } k=gk st k:=by
 unfold gk;show ((at1 k (qY n e st.kept)).map (·.2)).getD []=_
 rw[Cb];cases h:at1 k st.kept with
 |none=>rfl
 |some x =>
  have:=(hU h).1;show (if x.1=n then (x.1,x.2++[e]) else x).2=x.2
  rw[if_neg (by rw[this];exact ne)]
def WG (n:Nat):Rl->Bool | .cY m=>decide (m=n) | _=>false
section
variable{i:Nat}{c c':Col}{H H':Hp}{m aP aA aD aM:Addr}{st:Ch}{ds:List Addr}{ws es:List V}
theorem MdX.Qw (X:MdX i c H m st aP aA aD aM ds ws es){n:Nat}(hn:dC st n){mn:Mn}{p t1 t2 k t':Addr}(he:es[n - 1]?=some (.ref p))(hp:LstAt i c H (.cY n) p [.ref t1,.ref t2,.ref k])(ht:MnT c H mn t') :
  Step (Wr i (WG n)) c c H (upd H p (.lst [.ref t',.ref t2,.ref k]))/\MdX i c (upd H p (.lst [.ref t',.ref t2,.ref k])) m { st with made:=st.made.set (n - 1) mn } aP aA aD aM ds ws es:=by
 have s:Step (Wr i (WG n)) c c H (upd H p (.lst [.ref t',.ref t2,.ref k])):=Step.upd Wr.nn (Wr.yes hp.1 (decide_eq_true rfl));have kk:=mF rfl s X.co X.ob;have ee:iI { st with made:=st.made.set (n - 1) mn }=(iI st).set (n - 1) (hV { st with made:=st.made.set (n - 1) mn } n) :=
  GS (by show (st.made.set (n - 1) mn).length=_;rw[aky]) hn λk hk ne=>by
   unfold hV;rw[tY hn hk.1 ne rfl];rfl
 refine⟨s,kk.1,kk.2,X.aw.kp rfl s,X.az.kp rfl s,kR (λ_ _=>rfl) s X.wait,X.dec.kp rfl s,jm s X.lN,X.kX.kp rfl s,?_⟩
 rw[ee];refine X.ent.Qt he (λj x b ne ex z=>?_) ?_
 ·obtain⟨e1,hj⟩:=GR ex;have hx:x.1≠n:=by rw[e1];show j+1≠n;omega
  obtain⟨q,t1,t2,k,ts,e,z1,z2,z3,z4,z5⟩:=z;exact⟨q,t1,t2,k,ts,e,z1.kp (decide_eq_false hx) s,z2.step s,λtx ht=>(z3 tx ht).step s,z4.kp rfl s,z5.imp λ_ _ y=>y.step s⟩
 ·obtain⟨v,ev,q,t1',t2',k',ts,e,z1,z2,z3,z4,z5⟩:=X.ent.get (nL hn);rw[he]at ev;cases ev;cases e;have hh:=z1.2;rw[hp.2]at hh;injection hh with hh
  injection hh with hh
  injection hh with h1 hh
  injection hh with h2 hh
  injection hh with h3 hh
  injection h2 with h2
  injection h3 with h3
  subst h2;subst h3;refine⟨p,t',t2,k,ts,rfl,⟨hp.1,ae⟩,?_,λtx ht=>(z3 tx ht).step s,z4.kp rfl s,z5.imp λ_ _ y=>y.step s⟩
  have:(hV { st with made:=st.made.set (n - 1) mn } n).2.1=mn:=Fl hn rfl
  rw[this];exact ht.step s
theorem MdX.Fg (X:MdX i c H m st aP aA aD aM ds ws es){n:Nat}(hn:dC st n){e:Ed}{x:Nat×List Ed}(hx:at1 n st.kept=some x){p t1 t2 k t:Addr}{ts:List Addr}(he:es[n - 1]?=some (.ref p))(hp:LstAt i c H (.cY n) p [.ref t1,.ref t2,.ref k])(hk:LstAt i c H (.gM n) k (ts.map V.ref))(ht:TupAt c H t (gv e)) :
  Step (Wr i (Mr n)) c c H (upd H k (.lst (ts.map V.ref++[.ref t])))/\MdX i c (upd H k (.lst (ts.map V.ref++[.ref t]))) m { st with kept:=qY n e st.kept } aP aA aD aM ds ws es:=by
 have s:Step (Wr i (Mr n)) c c H (upd H k (.lst (ts.map V.ref++[.ref t]))):=Step.upd Wr.nn (Wr.yes hk.1 (decide_eq_true rfl));have kk:=mF rfl s X.co X.ob;have ee:iI { st with kept:=qY n e st.kept }=(iI st).set (n - 1) (hV { st with kept:=qY n e st.kept } n) :=
  GS rfl hn λj hj ne=>by
   unfold hV;rw[GU ne];rfl
 refine⟨s,kk.1,kk.2,X.aw.kp rfl s,X.az.kp rfl s,kR (λ_ _=>rfl) s X.wait,X.dec.kp rfl s,jm s X.lN,X.kX.kp rfl s,?_⟩
 rw[ee];refine X.ent.Qt he (λj x b ne ex z=>?_) ?_
 ·obtain⟨e1,hj⟩:=GR ex;have hx:x.1≠n:=by rw[e1];show j+1≠n;omega
  obtain⟨q,t1,t2,k,ts,e,z1,z2,z3,z4,z5⟩:=z;exact⟨q,t1,t2,k,ts,e,z1.kp rfl s,z2.step s,λtx ht=>(z3 tx ht).step s,z4.kp (decide_eq_false hx) s,z5.imp λ_ _ y=>y.step s⟩
 ·obtain⟨v,ev,q,t1',t2',k',ts',e,z1,z2,z3,z4,z5⟩:=X.ent.get (nL hn);rw[he]at ev;cases ev;cases e;have hh:=z1.2;rw[hp.2]at hh;injection hh with hh
  injection hh with hh
  injection hh with h1 hh
  injection hh with h2 hh
  injection hh with h3 hh
  injection h1 with h1
  injection h2 with h2
  injection h3 with h3
  subst h1;subst h2;subst h3;have e3:ts'.map V.ref=ts.map V.ref:=by
   have:=z4.2;rw[hk.2]at this;injection this with this
   injection this with this
   exact this.symm
  refine⟨p,t1,t2,k,ts'++[t],rfl,z1.kp rfl s,z2.step s,λtx ht=>(z3 tx ht).step s,⟨z4.1,by rw[ae,<-e3,kx];rfl⟩,?_⟩
  show bJ _ (gk { st with kept:=qY n e st.kept } n) (ts'++[t])
  rw[Qv hx];exact(z5.imp λ_ _ y=>y.step s).snoc (ht.step s)
theorem MdX.m9 (X:MdX i c H m st aP aA aD aM ds ws es){n:Nat}{u:Int}{t p:Addr}(ht:H t=none)(hp:H p=none)(ntp:p≠t)(hn:n∉st.az.map (·.1)) :
  ∃c',Step (Wr i Su) c c' H (upd (upd (upd (upd H t (.tup [.int u,.ref aP])) aA (.dK (putK (a9 ((st.az.map (·.1)).zip ws)) (km (n:Int)) (.ref t)))) p (.lst [])) m (.dK (mdF (.int st.aN) (.bl st.closed) (.ref p) (.ref aA) (.ref aD) (.ref aM)))) /\
  MdX i c' (upd (upd (upd (upd H t (.tup [.int u,.ref aP])) aA (.dK (putK (a9 ((st.az.map (·.1)).zip ws)) (km (n:Int)) (.ref t)))) p (.lst [])) m (.dK (mdF (.int st.aN) (.bl st.closed) (.ref p) (.ref aA) (.ref aD) (.ref aM)))) m (st.m9 n u) p aA aD aM ds (ws++[.ref t]) es:=by
 have nt:∀ {a:Addr} {v:HO},H a=some v->a≠t:=λe=>aG e ht
 have np:∀ {a:Addr} {v:HO},H a=some v->a≠p:=λe=>aG e hp
 have oA:m≠aA:=d0 X.co X.az.1 (λz=>nomatch z)
 have oP:m≠aP:=d0 X.co X.aw.1 (λz=>nomatch z)
 have AP:aA≠aP:=d0 X.az.1 X.aw.1 (λz=>nomatch z)
 have e:=pM (v:=.ref t) hn (vs:=ws) (by rw[cb];exact X.wait.len)
 have hp2:(upd (upd H t (.tup [.int u,.ref aP])) aA (.dK (putK (a9 ((st.az.map (·.1)).zip ws)) (km (n:Int)) (.ref t)))) p=none:=by
  rw[aq (np X.az.2).symm,aq ntp];exact hp
 have x1:ay (ay c t none) p (some (i,.aw)) m=some (i,.ob):=by rw[av (np X.ob),av (nt X.ob)];exact X.co
 have x2:ay (ay c t none) p (some (i,.aw)) aP=some (i,.aw):=by rw[av (np X.aw.2),av (nt X.aw.2)];exact X.aw.1
 have x3:ay c t none aA=some (i,.az):=by rw[av (nt X.az.2)];exact X.az.1
 refine⟨ay (ay (ay c t none) p (some (i,.aw))) aP (some (i,.e9 n)),?_⟩;have s:Step (Wr i Su) c (ay (ay (ay c t none) p (some (i,.aw))) aP (some (i,.e9 n))) H (upd (upd (upd (upd H t (.tup [.int u,.ref aP])) aA (.dK (putK (a9 ((st.az.map (·.1)).zip ws)) (km (n:Int)) (.ref t)))) p (.lst [])) m (.dK (mdF (.int st.aN) (.bl st.closed) (.ref p) (.ref aA) (.ref aD) (.ref aM)))) :=
  ((((Step.new Wr.nn ht).trans (Step.upd Wr.nn ⟨.az,x3,rfl⟩)).trans (Step.new Wr.nn hp2)).trans (Step.upd Wr.nn ⟨.ob,x1,rfl⟩)).trans (Step.role Wr.nn ⟨.aw,x2,rfl⟩)
 have k1:ay (ay (ay c t none) p (some (i,.aw))) aP (some (i,.e9 n)) m=some (i,.ob):=by rw[av oP];exact x1
 have y1:ay (ay (ay c t none) p (some (i,.aw))) aP (some (i,.e9 n)) aA=some (i,.az):=by rw[av AP,av (np X.az.2)];exact x3
 have y2:ay (ay (ay c t none) p (some (i,.aw))) aP (some (i,.e9 n)) aP=some (i,.e9 n):=aV;have y3:ay (ay (ay c t none) p (some (i,.aw))) aP (some (i,.e9 n)) p=some (i,.aw):=by rw[av (np X.aw.2).symm,aV]
 have y4:ay (ay (ay c t none) p (some (i,.aw))) aP (some (i,.e9 n)) t=none:=by rw[av (nt X.aw.2).symm,av ntp.symm,aV]
 generalize ay (ay (ay c t none) p (some (i,.aw))) aP (some (i,.e9 n))=c3 at s k1 y1 y2 y3 y4 ⊢;have z1:(upd (upd (upd (upd H t (.tup [.int u,.ref aP])) aA (.dK (putK (a9 ((st.az.map (·.1)).zip ws)) (km (n:Int)) (.ref t)))) p (.lst [])) m (.dK (mdF (.int st.aN) (.bl st.closed) (.ref p) (.ref aA) (.ref aD) (.ref aM)))) aA=some (.dK (a9 (((st.az++[(n,u,st.aw)]).map (·.1)).zip (ws++[.ref t])))):=by rw[aq oA.symm,aq (np X.az.2),ae,e,kx];rfl
 have z2:(upd (upd (upd (upd H t (.tup [.int u,.ref aP])) aA (.dK (putK (a9 ((st.az.map (·.1)).zip ws)) (km (n:Int)) (.ref t)))) p (.lst [])) m (.dK (mdF (.int st.aN) (.bl st.closed) (.ref p) (.ref aA) (.ref aD) (.ref aM)))) aP=some (.lst (st.aw.map nV)):=by rw[aq oP.symm,aq (np X.aw.2),aq AP.symm,aq (nt X.aw.2)];exact X.aw.2
 have z3:(upd (upd (upd (upd H t (.tup [.int u,.ref aP])) aA (.dK (putK (a9 ((st.az.map (·.1)).zip ws)) (km (n:Int)) (.ref t)))) p (.lst [])) m (.dK (mdF (.int st.aN) (.bl st.closed) (.ref p) (.ref aA) (.ref aD) (.ref aM)))) p=some (.lst []):=by rw[aq (np X.ob).symm,ae]
 have z4:(upd (upd (upd (upd H t (.tup [.int u,.ref aP])) aA (.dK (putK (a9 ((st.az.map (·.1)).zip ws)) (km (n:Int)) (.ref t)))) p (.lst [])) m (.dK (mdF (.int st.aN) (.bl st.closed) (.ref p) (.ref aA) (.ref aD) (.ref aM)))) t=some (.tup [.int u,.ref aP]):=by rw[aq (nt X.ob).symm,aq ntp.symm,aq (nt X.az.2).symm,ae]
 have z5:(upd (upd (upd (upd H t (.tup [.int u,.ref aP])) aA (.dK (putK (a9 ((st.az.map (·.1)).zip ws)) (km (n:Int)) (.ref t)))) p (.lst [])) m (.dK (mdF (.int st.aN) (.bl st.closed) (.ref p) (.ref aA) (.ref aD) (.ref aM)))) m=some (.dK (mdF (.int st.aN) (.bl st.closed) (.ref p) (.ref aA) (.ref aD) (.ref aM))):=ae
 generalize upd (upd (upd (upd H t (.tup [.int u,.ref aP])) aA (.dK (putK (a9 ((st.az.map (·.1)).zip ws)) (km (n:Int)) (.ref t)))) p (.lst [])) m (.dK (mdF (.int st.aN) (.bl st.closed) (.ref p) (.ref aA) (.ref aD) (.ref aM)))=H5 at s z1 z2 z3 z4 z5 ⊢
 exact⟨s,k1,z5,⟨y3,z3⟩,⟨y1,z1⟩,(kR (λ_ _=>rfl) s X.wait).snoc ⟨t,aP,rfl,⟨y4,.inl z4⟩,y2,z2⟩,X.dec.kp rfl s,jm s X.lN,X.kX.kp rfl s,GJ (λ_ _=>rfl) (λ_ _=>rfl) s X.ent⟩
end
end My
set_option maxHeartbeats 1000000
namespace My
open PySem L2
seal PySem.wpAny
theorem Fw {β:Type}{k:Nat}{y:Nat×β}:∀ {xs:List (Nat×β)},at1 k (xs++[y])=(match at1 k xs with | some x=>some x | none=>if y.1=k then some y else none)
 |[]=>by
  unfold at1;rw[List.nil_append,akl,List.find?_nil]
  by_cases z:y.1=k
  ·rw[decide_eq_true z,if_pos z]
  ·rw[decide_eq_false z,if_neg z]
 |x::xs=>by
  have ih:=Fw (k:=k) (y:=y) (xs:=xs);unfold at1 at ih ⊢;rw[List.cons_append,akl,akl]
  by_cases z:x.1=k
  ·rw[decide_eq_true z]
  ·rw[decide_eq_false z];exact ih
theorem Kn {β:Type}{k:Nat}{xs:List (Nat×β)}(h:k∉xs.map (·.1)):at1 k xs=none:=by
 cases e:at1 k xs with
 |none=>rfl
 |some x =>
  obtain⟨h1,h2⟩:=hU e;exact absurd (List.mem_map.mpr ⟨x,h2,h1⟩) h
theorem Cc {β:Type}{k:Nat}{y:Nat×β}{xs:List (Nat×β)}(h:y.1≠k):at1 k (xs++[y])=at1 k xs:=by
 rw[Fw];cases at1 k xs with
 |some x=>rfl
 |none=>exact if_neg h
theorem yI {β:Type}{k:Nat}{z:β}{xs:List (Nat×β)}(h:k∉xs.map (·.1)):at1 k (xs++[(k,z)])=some (k,z):=by
 rw[Fw,Kn h];exact if_pos rfl
def abk:Rl->Bool | .made=>true | .aw=>true | _=>false
section
variable{i:Nat}{c c':Col}{H H':Hp}{m aP aA aD aM:Addr}{st:Ch}{ds:List Addr}{ws es:List V}
theorem SO {mn:Mn}{row:Str}{k:Nat}(hk:dC st k):hV (st.moved mn row) k=hV st k:=by
 have h2:=hk.2;have e1:(st.moved mn row).mo k=st.mo k:=Kc rfl hk;have e2:gk (st.moved mn row) k=gk st k:=by
  unfold gk;cases mn with
  |mat tx =>
   show ((at1 k (st.kept++[(st.made.length+1,([]:List Ed))])).map (·.2)).getD []=_
   rw[Cc (by show st.made.length+1≠k;omega)]
  |_=>rfl
 have e3:B3 (st.moved mn row) k=B3 st k:=by
  unfold B3;cases mn with
  |mat tx =>
   show (at1 k (st.firsts++[(st.made.length+1,tx)])).map (·.2)=_
   rw[Cc (by show st.made.length+1≠k;omega)]
  |_=>rfl
 unfold hV;rw[e1,e2,e3]
theorem SQ {mn:Mn}{row:Str}(hk:st.made.length+1∉st.kept.map (·.1))(hf:st.made.length+1∉st.firsts.map (·.1)):hV (st.moved mn row) (st.made.length+1)=(st.made.length+1,mn,[],(match mn with | .mat tx=>some tx | _=>none)):=by
 have e1:(st.moved mn row).mo (st.made.length+1)=mn:=Kd rfl;unfold hV;rw[e1];cases mn with
 |mat tx =>
  have e2:gk (st.moved (.mat tx) row) (st.made.length+1)=[]:=by
   unfold gk;show ((at1 (st.made.length+1) (st.kept++[(st.made.length+1,([]:List Ed))])).map (·.2)).getD []=_
   rw[yI hk];rfl
  have e3:B3 (st.moved (.mat tx) row) (st.made.length+1)=some tx:=by
   unfold B3;show (at1 (st.made.length+1) (st.firsts++[(st.made.length+1,tx)])).map (·.2)=_
   rw[yI hf];rfl
  rw[e2,e3]
 |_ =>
  unfold gk B3;show (_,_,((at1 (st.made.length+1) st.kept).map (·.2)).getD [],(at1 (st.made.length+1) st.firsts).map (·.2))=_
  rw[Kn hk,Kn hf];rfl
theorem MdX.moved (X:MdX i c H m st aP aA aD aM ds ws es){mn:Mn}{row:Str}{t k p:Addr}(hk:st.made.length+1∉st.kept.map (·.1))(hf:st.made.length+1∉st.firsts.map (·.1))(ht:MnT c H mn t)(nk:H k=none)(np:H p=none)(nkp:p≠k) :
  ∃c',Step (Wr i abk) c c' H (upd (upd (upd (upd H k (.lst [])) p (.lst [.ref t,.ref t,.ref k])) aM (.lst (es++[.ref p]))) aP (.lst (st.aw.map nV++[nV (st.made.length+1)]))) /\
  MdX i c' (upd (upd (upd (upd H k (.lst [])) p (.lst [.ref t,.ref t,.ref k])) aM (.lst (es++[.ref p]))) aP (.lst (st.aw.map nV++[nV (st.made.length+1)]))) m (st.moved mn row) aP aA aD aM ds ws (es++[.ref p]):=by
 have ak:∀ {a:Addr} {v:HO},H a=some v->a≠k:=λe=>aG e nk
 have ap:∀ {a:Addr} {v:HO},H a=some v->a≠p:=λe=>aG e np
 have MP:aM≠aP:=d0 X.kX.1 X.aw.1 (λz=>nomatch z)
 have hp2:(upd H k (.lst [])) p=none:=(aq nkp).trans np;have x1:ay (ay c k (some (i,.gM (st.made.length+1)))) p (some (i,.cY (st.made.length+1))) aM=some (i,.made):=by rw[av (ap X.kX.2),av (ak X.kX.2)];exact X.kX.1
 have x2:ay (ay c k (some (i,.gM (st.made.length+1)))) p (some (i,.cY (st.made.length+1))) aP=some (i,.aw):=by rw[av (ap X.aw.2),av (ak X.aw.2)];exact X.aw.1
 have x3:ay (ay c k (some (i,.gM (st.made.length+1)))) p (some (i,.cY (st.made.length+1))) p=some (i,.cY (st.made.length+1)):=aV;have x4:ay (ay c k (some (i,.gM (st.made.length+1)))) p (some (i,.cY (st.made.length+1))) k=some (i,.gM (st.made.length+1)):=by rw[av nkp.symm,aV]
 refine⟨ay (ay c k (some (i,.gM (st.made.length+1)))) p (some (i,.cY (st.made.length+1))),?_⟩;have s:Step (Wr i abk) c (ay (ay c k (some (i,.gM (st.made.length+1)))) p (some (i,.cY (st.made.length+1)))) H (upd (upd (upd (upd H k (.lst [])) p (.lst [.ref t,.ref t,.ref k])) aM (.lst (es++[.ref p]))) aP (.lst (st.aw.map nV++[nV (st.made.length+1)]))) :=
  (((Step.new Wr.nn nk).trans (Step.new Wr.nn hp2)).trans (Step.upd Wr.nn ⟨.made,x1,rfl⟩)).trans (Step.upd Wr.nn ⟨.aw,x2,rfl⟩)
 generalize ay (ay c k (some (i,.gM (st.made.length+1)))) p (some (i,.cY (st.made.length+1)))=c3 at s x1 x2 x3 x4 ⊢;have z1:(upd (upd (upd (upd H k (.lst [])) p (.lst [.ref t,.ref t,.ref k])) aM (.lst (es++[.ref p]))) aP (.lst (st.aw.map nV++[nV (st.made.length+1)]))) aM=some (.lst (es++[.ref p])):=by rw[aq MP,ae]
 have z2:(upd (upd (upd (upd H k (.lst [])) p (.lst [.ref t,.ref t,.ref k])) aM (.lst (es++[.ref p]))) aP (.lst (st.aw.map nV++[nV (st.made.length+1)]))) aP=some (.lst ((st.aw++[st.made.length+1]).map nV)):=by rw[ae,kx];rfl
 have z3:(upd (upd (upd (upd H k (.lst [])) p (.lst [.ref t,.ref t,.ref k])) aM (.lst (es++[.ref p]))) aP (.lst (st.aw.map nV++[nV (st.made.length+1)]))) p=some (.lst [.ref t,.ref t,.ref k]):=by rw[aq (ap X.aw.2).symm,aq (ap X.kX.2).symm,ae]
 have z4:(upd (upd (upd (upd H k (.lst [])) p (.lst [.ref t,.ref t,.ref k])) aM (.lst (es++[.ref p]))) aP (.lst (st.aw.map nV++[nV (st.made.length+1)]))) k=some (.lst []):=by rw[aq (ak X.aw.2).symm,aq (ak X.kX.2).symm,aq nkp.symm,ae]
 generalize upd (upd (upd (upd H k (.lst [])) p (.lst [.ref t,.ref t,.ref k])) aM (.lst (es++[.ref p]))) aP (.lst (st.aw.map nV++[nV (st.made.length+1)]))=H5 at s z1 z2 z3 z4 ⊢;have kk:=mF rfl s X.co X.ob;refine⟨s,kk.1,kk.2,⟨x2,z2⟩,X.az.kp rfl s,kR (λ_ _=>rfl) s X.wait,X.dec.kp rfl s,jm s X.lN,⟨x1,z1⟩,?_⟩
 rw[Qu (st:=st) (st':=st.moved mn row) (by show (st.made++[mn]).length=_;rw[ky];rfl) λj hj=>SO hj,SQ hk hf]
 refine(GJ (λ_ _=>rfl) (λ_ _=>rfl) s X.ent).snoc ⟨p,t,t,k,[],rfl,⟨x3,z3⟩,ht.step s,λtx e=>?_,⟨x4,z4⟩,.nil⟩
 cases mn with
 |mat ty =>
  have e':some ty=some tx:=e;cases e';exact ht.step s
 |_=>cases e
theorem MdX.waitOf (X:MdX i c H m st aP aA aD aM ds ws es){n:Nat}{x:Nat×Int×List Nat}(hx:at1 n st.az=some x):∃t p,gQ (a9 ((st.az.map (·.1)).zip ws)) (km (n:Int))=some (.ref t)/\TupAt c H t [.int x.2.1,.ref p]/\LstAt i c H (.e9 n) p (x.2.2.map nV):=by
 obtain⟨v,h1,t,p,rfl,h2,h3⟩:=X.wait.val hx;rw[(hU hx).1]at h3;exact⟨t,p,h1,h2,h3⟩
theorem MdX.qJ (X:MdX i c H m st aP aA aD aM ds ws es){n:Nat}{p:Addr}{pl:List Nat}(hl:LstAt i c H (.e9 n) p (pl.map nV)) :
  ∃c' ws',Step (Wr i (Ms n)) c c' H (upd (upd H aA (.dK (iL (a9 ((st.az.map (·.1)).zip ws)) (km (n:Int))))) m (.dK (mdF (.int st.aN) (.bl st.closed) (.ref p) (.ref aA) (.ref aD) (.ref aM)))) /\
  MdX i c' (upd (upd H aA (.dK (iL (a9 ((st.az.map (·.1)).zip ws)) (km (n:Int))))) m (.dK (mdF (.int st.aN) (.bl st.closed) (.ref p) (.ref aA) (.ref aD) (.ref aM)))) m (st.qJ n pl) p aA aD aM ds ws' es:=by
 have oA:m≠aA:=d0 X.co X.az.1 (λz=>nomatch z)
 have op:m≠p:=d0 X.co hl.1 (λz=>nomatch z)
 have Ap:aA≠p:=d0 X.az.1 hl.1 (λz=>nomatch z)
 obtain⟨ws',e1,e2⟩:=X.wait.drop (n:=n);refine⟨ay c p (some (i,.aw)),ws',?_⟩;have s:Step (Wr i (Ms n)) c (ay c p (some (i,.aw))) H (upd (upd H aA (.dK (iL (a9 ((st.az.map (·.1)).zip ws)) (km (n:Int))))) m (.dK (mdF (.int st.aN) (.bl st.closed) (.ref p) (.ref aA) (.ref aD) (.ref aM)))) :=
  ((Step.upd Wr.nn ⟨.az,X.az.1,rfl⟩).trans (Step.upd Wr.nn ⟨.ob,X.co,rfl⟩)).trans (Step.role Wr.nn ⟨.e9 n,hl.1,decide_eq_true rfl⟩)
 refine⟨s,by rw[av op];exact X.co,ae,⟨aV,by rw[aq op.symm,aq Ap.symm];exact hl.2⟩,⟨by rw[av Ap];exact X.az.1,by rw[aq oA.symm,ae,e1];rfl⟩,kR (λx hx=>decide_eq_false (of_decide_eq_true (List.mem_filter.mp hx).2)) s e2,X.dec.kp rfl s,jm s X.lN,X.kX.kp rfl s,GJ (λ_ _=>rfl) (λ_ _=>rfl) s X.ent⟩
end
end My
set_option maxHeartbeats 1000000
namespace My
open PySem L2
seal PySem.wpAny
def Qx (i:Nat):Sp:=λvs H Q _=>∃(m t:Addr) (c:Col) (st:Ch) (mn:Mn) (N:Nat),vs=[.ref m,.ref t]/\jt i c H m st/\MnT c H mn t/\Inv N st/\N<=900/\yF (st.aw.map st.mo) mn/\MOk N mn /\
 ∀c' H',Step (dZ i) c c' H H'->jt i c' H' m (st.carry mn)->Q .non H'
theorem in2:∀k,k < 8->(if false=true then !inV (V.str (nm k)) [V.str (ar "put off"),V.str (ar "lay")] else inV (V.str (nm k)) [V.str (ar "put off"),V.str (ar "lay")])=decide (k=3\/k=5):=by decide +kernel
section
variable{P:rf}{w:World}{K:ba}{mg:Str->Option Value}{base:Heap}{A:Adr}
set_option maxHeartbeats 4000000 in
theorem Nn (T:Txt w.params K mg A){i:Nat}:aJ P w K mg base CX0 2 A.EM A.tP ["_law_m","_law_motion"] (Qx i):=by
 have GV:aJ P w K mg base CX0 1 A.EL A.tN ["_law_things","_law_edit_here"] (GN K):=Nl T;have pQ:aJ P w K mg base CX0 1 A.tO A.jK ["_law_clause_here"] R.gi:=uN T;refine T.Bo.ok jI (λvs H Q E h=>?_) (λcdv A' outer s H vs Q E hr h=>?_)
 ·obtain⟨m,t,c,st,mn,N,rfl,_⟩:=h;rfl
 ·obtain⟨m,t,c,st,mn,N,rfl,hm,hmt,I,hN,wo,CN,q⟩:=h;obtain⟨aP,aA,aD,aM,ds,ws,es,X⟩:=hm.ex;have hu1:=hr.u1;have mD:=hr.units;have D0:=hr;have mP:=hr;have sz:ka=16777216:=by decide
  refine⟨_,(ai (bb (aB bu (aT aU (pv 1) af (λ_ _=>rfl)) ao (aK _))
 (ai (aZ (i:=2) jI.nd rfl (wt rfl) (aT bF (aY hu1 (pv 0) ao (λ_ _=>rfl)) (a6 nP (aT bF (aY hu1 (pv 0) ao (λ_ _=>rfl)) af (λ_ _=>rfl)) af) (λ_ _=>rfl)))
 (ai (Ay (bg (aa ao (aa (aW GV D0 rfl T.Bl T.vM.kp T.Bk .nil a7 (aa (aT aU (aT bF (pv 2) af (λ_ _=>rfl)) af (λ_ _=>rfl)) (aa (aT aU (pv 1) af (λ_ _=>rfl)) ag))) ag))) (Jt (pv 2) af set_list))
 (aj (bN (gB om ajQ ajR dq (aT bF (pv 2) af (λ_ _=>rfl)) (aa (aT aU (pv 1) af (λ_ _=>rfl)) ag))))))
 aH)
 (ai (bb (aB bu (aT aU (pv 1) af (λ_ _=>rfl)) ao (aK _))
 (ai (aZ (i:=3) jI.nd rfl (wt rfl) (aT bF (aY hu1 (pv 0) ao (λ_ _=>rfl)) (a6 nP (aT bF (aY hu1 (pv 0) ao (λ_ _=>rfl)) (oJ jA af) (λ_ _=>rfl)) af) (λ_ _=>rfl)))
 (ai (Ay (aT aU (aT bF (pv 3) af (λ_ _=>rfl)) af (λ_ _=>rfl)) (Ol rfl (rz (j9 (i:=4) jI.nd rfl (wt rfl)) (rz (j9 (i:=5) jI.nd rfl (wt rfl)) (rz (j9 (i:=6) jI.nd rfl (wt rfl)) LK)))))
 (aj (Ay (bg (aa ao (aa (bg (aa (pv 4) (aa (pv 5) (aa (gB akU PySem.F.slot_str_join PySem.F.type_str_join Em ao (aa (aW GV D0 rfl T.Bl T.vM.kp T.Bk .nil a7 (aa (aW pQ mP rfl T.tU T.pD.kp T.tT .nil a7 (aa (pv 6) ag)) (aa (aT aU (pv 1) af (λ_ _=>rfl)) ag))) ag)) ag)))) ag))) (Jt (pv 3) af set_list)))))
 aH)
 (ai (bb (aB bu (aT aU (pv 1) af (λ_ _=>rfl)) ao (aK _))
 (aj (iw hu1 (pv 0) ao oH rfl))
 aH)
 (ai (bb (aB bu (aT aU (pv 1) af (λ_ _=>rfl)) ao (aK _))
 (aj (iw hu1 (pv 0) ao (a6 dJ (aY hu1 (pv 0) ao (λ_ _=>rfl)) af) rfl))
 aH)
 (aj (bb (aB w6 (aT aU (pv 1) af (λ_ _=>rfl)) (bg (aa ao (aa ao ag))) rfl)
 (ai (aZ (i:=7) jI.nd rfl (wt rfl) (aT aU (a6 RJ (pv 1) (bg (aa (aY hu1 (pv 0) ao (λ_ _=>rfl)) ag))) af (λ_ _=>rfl)))
 (ai (iw hu1 (aY hu1 (pv 0) ao (λ_ _=>rfl)) (aT bF (aY hu1 (pv 0) ao (λ_ _=>rfl)) af (λ_ _=>rfl)) (bg (aa (pv 7) (aa (aY hu1 (pv 0) ao (λ_ _=>rfl)) ag))) rfl)
 (aj (iw hu1 (pv 0) ao (bQ ag) rfl))))
 aH)))))),?_⟩
  refine hide λGg hGg=>?_
  have WH:=hmt;obtain⟨ct,v,hvt,hvv⟩:=hmt;have ht:SqT K H t (rowOf mn.k v):=SqT.of hvt;have lM:=I.lm;have kc:∀ {v0 v1 v2 v3 v4 v5:V},(mdF v0 v1 v2 v3 v4 v5).length < ka:=by intros;show 6 < ka;decide
  refine hGg ?_;cases mn with
  |mat tx =>
   refine ixv rfl ht rfl ⟨rfl,tsf (b9 0 (by decide)) (ixv rfl ht rfl ⟨rfl,tsf (cg 0 (by decide)) (ixv rfl ht rfl ⟨rfl,tsf (jn 0 (by decide)) (ixv rfl ht rfl ⟨rfl,tsf (mK 0 (by decide)) (ixv rfl ht rfl ⟨(sl 2),λu hu=>⟨u,_,rfl,.inr (SqT.of ae),rfl,rfl,tsf (in2 0 (by decide)) ?_⟩⟩)⟩)⟩)⟩)⟩
   exact q c _ (Step.same aO (aC hu)) (X.same (aC hu)).at
  |pnt z =>
   refine ixv rfl ht rfl ⟨rfl,tsf (b9 7 (by decide)) (ixv rfl ht rfl ⟨rfl,tsf (cg 7 (by decide)) (ixv rfl ht rfl ⟨rfl,tsf (jn 7 (by decide)) (ixv rfl ht rfl ⟨rfl,tsf (mK 7 (by decide)) (ixv rfl ht rfl ⟨(sl 2),λu hu=>⟨u,_,rfl,.inr (SqT.of ae),rfl,rfl,tsf (in2 7 (by decide)) ?_⟩⟩)⟩)⟩)⟩)⟩
   exact q c _ (Step.same aO (aC hu)) (X.same (aC hu)).at
  |cls =>
   refine ixv rfl ht rfl ⟨rfl,tsf (b9 4 (by decide)) (ixv rfl ht rfl ⟨rfl,tsf (cg 4 (by decide)) (ixv rfl ht rfl ⟨rfl,tst (jn 4 (by decide)) ⟨_,rfl,m,_,rfl,oQ.k (k:=tu (ar "closed")) X.ob kc,?_⟩⟩)⟩)⟩
   rw[B1];refine hide λGg hGg=>?_
   obtain⟨s1,X1⟩:=X.attr st.aN true;have ht1:=SqT.of (K:=K) (WH.step s1.il).2.choose_spec.1;have ahN:=WH.step s1.il;obtain⟨_,v1,hv1,_⟩:=ahN;have ht1:SqT K (upd H m (.dK (mdF (.int st.aN) (.bl true) (.ref aP) (.ref aA) (.ref aD) (.ref aM)))) t (rowOf 4 v1):=SqT.of hv1;refine hGg ?_;generalize upd H m (.dK (mdF (.int st.aN) (.bl true) (.ref aP) (.ref aA) (.ref aD) (.ref aM)))=H1 at s1 X1 ht1 ⊢;refine ixv rfl ht1 rfl ⟨rfl,tsf (mK 4 (by decide)) (ixv rfl ht1 rfl ⟨(sl 2),λu hu=>⟨u,_,rfl,.inr (SqT.of ae),rfl,rfl,tsf (in2 4 (by decide)) ?_⟩⟩)⟩
   exact q c _ (s1.il.trans (Step.same aO (aC hu))) (X1.same (aC hu)).at
  |rst =>
   refine ixv rfl ht rfl ⟨rfl,tsf (b9 6 (by decide)) (ixv rfl ht rfl ⟨rfl,tsf (cg 6 (by decide)) (ixv rfl ht rfl ⟨rfl,tsf (jn 6 (by decide)) (ixv rfl ht rfl ⟨rfl,tst (mK 6 (by decide)) (dgv rfl X.gs ⟨_,_,rfl,rfl,_,rfl,m,_,rfl,oQ.k (k:=tu (ar "sitting")) X.ob kc,?_⟩)⟩)⟩)⟩)⟩
   rw[GI];refine hide λGg hGg=>?_
   obtain⟨s1,X1⟩:=X.attr (st.aN+1) st.closed;obtain⟨_,v1,hv1,_⟩:=WH.step s1.il;have ht1:SqT K (upd H m (.dK (mdF (.int (st.aN+1)) (.bl st.closed) (.ref aP) (.ref aA) (.ref aD) (.ref aM)))) t (rowOf 6 v1):=SqT.of hv1;refine hGg ?_;dsimp only;generalize upd H m (.dK (mdF (.int (st.aN+1)) (.bl st.closed) (.ref aP) (.ref aA) (.ref aD) (.ref aM)))=H1 at s1 X1 ht1 ⊢;refine ixv rfl ht1 rfl ⟨(sl 2),λu hu=>⟨u,_,rfl,.inr (SqT.of ae),rfl,rfl,tsf (in2 6 (by decide)) ?_⟩⟩
   exact q c _ (s1.il.trans (Step.same aO (aC hu))) (X1.same (aC hu)).at
  |chg e =>
   refine hide λGg hGg=>?_
   obtain⟨tx,h1,hf⟩:=wo;obtain⟨k,e1,e2⟩:=Sz h1;have hn:k∈st.aw:=by rw[e1];exact gn
   have hno:=I.bT k hn;have htx:=I.wk hno;rw[e2]at htx;have ahH:tx.length<=12+N:=htx.1;obtain⟨x,hx,hxl⟩:=I.keptAt hno (by rw[e2];rfl)
   have e3:st.carry (.chg e)=st.Qa k tx e:=by unfold Ch.carry;rw[e1];dsimp only;rw[e2]
   rw[e3]at q;have Qi:EdB (12+N) e:=CN;obtain⟨te,rfl,hte⟩:=hvv;have h0:atI (st.aw.map nV) 0=some (nV k):=by rw[e1];rfl
   have h11:=hno.1;obtain⟨w,ev,p,t1,t2,kk,ts,rfl,z1,z2,z3,z4,z5⟩:=X.ent.get (nL hno);have ea:atI es ((k:Int) - 1)=some (.ref p):=by
    rw[show (k:Int) - 1=((k - 1:Nat):Int) by omega]
    exact eu ev
   have z1':LstAt i c H (.cY k) p [.ref t1,.ref t2,.ref kk]:=z1;have z4':LstAt i c H (.gM k) kk (ts.map V.ref):=z4;have z2':MnT c H (.mat tx) t1:=by
    have:(hV st k).2.1=.mat tx:=e2;rw[this]at z2;exact z2
   obtain⟨_,v1,hv1,L,rfl,hL⟩:=z2';refine hGg ?_;refine ixv rfl ht rfl ⟨rfl,tst (b9 1 (by decide)) ?_⟩
   refine dgv rfl X.gm (dgv rfl X.gp ⟨aP,_,_,_,rfl,rfl,SqL.of X.aw.2,h0,_,_,rfl,rfl,aM,_,_,_,rfl,rfl,SqL.of X.kX.2,ea,?_⟩);refine ixv rfl (SqL.of z1'.2) rfl ⟨t1,_,_,_,rfl,rfl,SqT.of hv1,rfl,ixv rfl ht rfl ⟨L,te,tx,e,rfl,SqL.of hL.2,by omega,hte.sq,Qi.ok (by omega),hf,λpl H1 s1 npl hpl=>⟨(sl 2),λtn htn=>?_⟩⟩⟩
   have s2:=s1.new (o:=.tup [V.str (ar "matter"),.ref pl]) htn;have ntn:H tn=none:=same_none s1 htn;have ntp:pl≠tn:=aG hpl htn;have X2:=X.cl s2;have st2:Step (dZ i) c (d6 c H) H (upd H1 tn (.tup [V.str (ar "matter"),.ref pl])):=Step.cl aO s2;have hmn:MnT (d6 c H) (upd H1 tn (.tup [V.str (ar "matter"),.ref pl])) (.mat (bI tx e)) tn:=⟨cS ntn,.ref pl,ae,pl,rfl,cS npl,(aq ntp).trans hpl⟩;have w1:=z1'.keep (W:=λ_=>False) id (Step.cl id s2)
   have w4:=z4'.keep (W:=λ_=>False) id (Step.cl id s2)
   have WI:=hte.step st2;have hv2:=qM st2 ct hvt;generalize d6 c H=c2 at X2 st2 hmn w1 w4 WI hv2;generalize upd H1 tn (.tup [V.str (ar "matter"),.ref pl])=H2 at X2 st2 hmn w1 w4 WI hv2 ⊢;refine⟨_,rfl,p,_,0,0,rfl,rfl,w1.2,rfl,?_⟩;rw[show [V.ref t1,V.ref t2,V.ref kk].set 0 (V.ref tn)=[V.ref tn,V.ref t2,V.ref kk] from rfl]
   obtain⟨s3,X3⟩:=X2.Qw hno ev w1 hmn;have w1b:LstAt i c2 (upd H2 p (.lst [.ref tn,.ref t2,.ref kk])) (.cY k) p [.ref tn,.ref t2,.ref kk]:=⟨w1.1,ae⟩;have w4b:=w4.kp (p:=WG k) rfl s3;have abl:=WI.step s3.il;have hv3:=qM s3 hv2.1 hv2.2;have hkl:ts.length<=1000:=by
    have h1:=z5.len;have h2:(hV st k).2.2.1=x.2:=by show gk st k=x.2;unfold gk;rw[hx];rfl
    rw[h2]at h1;omega
   have ev3:es[k - 1]?=some (.ref p):=ev;generalize upd H2 p (.lst [.ref tn,.ref t2,.ref kk])=H3 at s3 X3 w1b w4b abl hv3 ⊢;refine ixv rfl (SqL.of w1b.2) rfl ⟨.inl ⟨rfl,_,SqL.of w4b.2⟩,ixv rfl (SqT.of hv3.2) rfl ⟨kk,_,_,rfl,rfl,w4b.2,by rw[cb];omega,?_⟩⟩
   obtain⟨s4,X4⟩:=X3.Fg (n:=k) (e:=e) (x:=x) ⟨hno.1,by show k<=(st.made.set _ _).length;rw[aky];exact hno.2⟩ hx ev3 w1b w4b abl
   have hv4:=qM s4 hv3.1 hv3.2;have fin:=((st2.trans s3.il).trans s4.il);generalize upd H3 kk (.lst (ts.map V.ref++[.ref te]))=H4 at s4 X4 hv4 fin ⊢;have ht4:SqT K H4 t (rowOf 1 (.ref te)):=SqT.of hv4.2;refine ixv rfl ht4 rfl ⟨rfl,tsf (cg 1 (by decide)) (ixv rfl ht4 rfl ⟨rfl,tsf (jn 1 (by decide)) (ixv rfl ht4 rfl ⟨rfl,tsf (mK 1 (by decide)) (ixv rfl ht4 rfl ⟨(sl 2),λu hu=>⟨u,_,rfl,.inr (SqT.of ae),rfl,rfl,tsf (in2 1 (by decide)) ?_⟩⟩)⟩)⟩)⟩
   exact q c2 _ (fin.trans (Step.same aO (aC hu))) (X4.same (aC hu)).at
  |mnd f =>
   refine hide λGg hGg=>?_
   obtain⟨tx,e,h1,hk,hf⟩:=wo;obtain⟨a,b,e1,e2,e3⟩:=Ws h1;have hb:b∈st.aw:=by rw[e1];exact kq _ gn
   have hno:=I.bT b hb;have he:=I.wk hno;rw[e3]at he;have he':EdB (12+N) e:=he;obtain⟨w1,w2⟩:=he'.words;have e4:st.carry (.mnd f)=st.Qc b e (bI (R.bp e.th) f):=by unfold Ch.carry;rw[e1];show (match st.mo b with | .chg e=>_ | _=>st)=_;rw[e3];rfl
   rw[e4]at q;obtain⟨hf1,w0,hw0,hw1⟩:=CN;have l1:=tZ (R.bp e.th) f;have l2:=R.DK (uK w1 (by rw[hw0];exact hw1):∀w∈bI (R.bp e.th) f,R.nX w)
   have heo:qW e:=he'.ok (by omega)
   obtain⟨te,rfl,hte⟩:=hvv;have h0:atI (st.aw.map nV) (-1)=some (nV b):=by rw[e1];exact i4 [nV a] (nV b)
   have h11:=hno.1;obtain⟨w,ev,p,t1,t2,kk,ts,rfl,z1,z2,z3,z4,z5⟩:=X.ent.get (nL hno);have ea:atI es ((b:Int) - 1)=some (.ref p):=by
    rw[show (b:Int) - 1=((b - 1:Nat):Int) by omega]
    exact eu ev
   have z1':LstAt i c H (.cY b) p [.ref t1,.ref t2,.ref kk]:=z1;have z2':MnT c H (.chg e) t1:=by
    have:(hV st b).2.1=.chg e:=e3;rw[this]at z2;exact z2
   obtain⟨_,v1,hv1,tc,rfl,htc⟩:=z2';have er:gv e=[V.str (kn e.k),.int e.at_,.str e.th]:=by
    obtain⟨k,a,th⟩:=e;have h3:=heo.k3;dsimp only at h3 hk ⊢;rcases h3 with rfl | rfl | rfl
    ·rfl
    ·exact absurd rfl hk
    ·rfl
   have ahO:SqT K H tc [V.str (kn e.k),.int e.at_,.str e.th]:=by rw[<-er];exact htc.sq
   refine hGg ?_;refine ixv rfl ht rfl ⟨rfl,tsf (b9 2 (by decide)) (ixv rfl ht rfl ⟨rfl,tst (cg 2 (by decide)) ?_⟩)⟩
   refine⟨_,rfl,m,_,rfl,X.gm,_,rfl,m,_,rfl,X.gp,_,rfl,aP,_,_,_,rfl,rfl,SqL.of X.aw.2,h0,_,_,rfl,rfl,aM,_,_,_,rfl,rfl,SqL.of X.kX.2,ea,?_⟩;refine⟨_,rfl,p,_,_,_,rfl,rfl,SqL.of z1'.2,rfl,t1,_,_,_,rfl,rfl,SqT.of hv1,rfl,tc,[V.str (kn e.k),.int e.at_,.str e.th],rfl,ahO,rfl,?_⟩;refine⟨_,_,rfl,_,_,rfl,_,_,rfl,rfl,?_⟩;refine⟨_,rfl,_,rfl,rfl,_,rfl,e.th,rfl,?_,λp1 hp1=>?_⟩
   ·have:=heo.th.len;omega
   have s1:=aC (o:=.lst ((R.bp e.th).map V.str)) hp1;have hb1:(R.bl1:Str).length=1:=by decide +kernel
   refine ixv rfl (bV s1 ht) rfl ⟨p1,te,R.bp e.th,f,rfl,SqL.of ae,by omega,bV s1 hte.sq,hf1.ok (by omega),hf,λpl H1 s2 npl hpl=>?_⟩
   have s12:=s1.trans s2;refine⟨R.bl1,pl,bI (R.bp e.th) f,rfl,rfl,SqL.of hpl,by rw[hb1];omega,(sl 3),λt3 ht3=>⟨(sl 2),λtn htn=>?_⟩⟩
   have s3:=s12.new (o:=.tup [V.str (kn e.k),.int e.at_,.str (sr R.bl1 (bI (R.bp e.th) f))]) ht3;have s4:=s3.new (o:=.tup [V.str (ar "change"),.ref t3]) htn;have nt3:H t3=none:=same_none s12 ht3;have ntn:H tn=none:=same_none s3 htn;have n3n:t3≠tn:=aG ae htn;have er2:gv ⟨e.k,e.at_,sr R.bl1 (bI (R.bp e.th) f)⟩=[V.str (kn e.k),.int e.at_,.str (sr R.bl1 (bI (R.bp e.th) f))]:=by
    obtain⟨k,a,th⟩:=e;have h3:=heo.k3;dsimp only at h3 hk ⊢;rcases h3 with rfl | rfl | rfl
    ·rfl
    ·exact absurd rfl hk
    ·rfl
   have X2:=X.cl s4;have st2:Step (dZ i) c (d6 c H) H _:=Step.cl aO s4;have hmn:MnT (d6 c H) (upd (upd H1 t3 (.tup [V.str (kn e.k),.int e.at_,.str (sr R.bl1 (bI (R.bp e.th) f))])) tn (.tup [V.str (ar "change"),.ref t3])) (.chg ⟨e.k,e.at_,sr R.bl1 (bI (R.bp e.th) f)⟩) tn :=
    ⟨cS ntn,.ref t3,ae,t3,rfl,cS nt3,.inl (by rw[aq n3n,ae,er2])⟩
   have w1:=z1'.keep (W:=λ_=>False) id (Step.cl id s4)
   have hv2:=qM st2 ct hvt;generalize d6 c H=c2 at X2 st2 hmn w1 hv2;generalize upd (upd H1 t3 (.tup [V.str (kn e.k),.int e.at_,.str (sr R.bl1 (bI (R.bp e.th) f))])) tn (.tup [V.str (ar "change"),.ref t3])=H2 at X2 st2 hmn w1 hv2 ⊢;refine⟨_,rfl,p,_,0,0,rfl,rfl,w1.2,rfl,?_⟩;rw[show [V.ref t1,V.ref t2,V.ref kk].set 0 (V.ref tn)=[V.ref tn,V.ref t2,V.ref kk] from rfl]
   obtain⟨s5,X3⟩:=X2.Qw hno ev w1 hmn;have hv3:=qM s5 hv2.1 hv2.2;have fin:=st2.trans s5.il;generalize upd H2 p (.lst [.ref tn,.ref t2,.ref kk])=H3 at s5 X3 hv3 fin ⊢;have ht3:SqT K H3 t (rowOf 2 (.ref te)):=SqT.of hv3.2;refine ixv rfl ht3 rfl ⟨rfl,tsf (jn 2 (by decide)) (ixv rfl ht3 rfl ⟨rfl,tsf (mK 2 (by decide)) (ixv rfl ht3 rfl ⟨(sl 2),λu hu=>⟨u,_,rfl,.inr (SqT.of ae),rfl,rfl,tsf (in2 2 (by decide)) ?_⟩⟩)⟩)⟩
   exact q c2 _ (fin.trans (Step.same aO (aC hu))) (X3.same (aC hu)).at
  |off u =>
   refine hide λGg hGg=>?_
   obtain⟨⟨tx,r,h1⟩,_⟩:=wo;obtain⟨k,r',e1,_⟩:=Nf h1;have e3:st.carry (.off u)=st.m9 k u:=by unfold Ch.carry;rw[e1]
   rw[e3]at q;have hv':v=.int u:=hvv;subst hv';have hla:=I.la;have hkn:=I.Fm (n:=k) (by rw[e1];exact gn)
   have h0:atI (st.aw.map nV) 0=some (nV k):=by rw[e1];exact eu (j:=0) rfl
   refine hGg ?_;refine ixv rfl ht rfl ⟨rfl,tsf (b9 3 (by decide)) (ixv rfl ht rfl ⟨rfl,tsf (cg 3 (by decide)) (ixv rfl ht rfl ⟨rfl,tsf (jn 3 (by decide)) (ixv rfl ht rfl ⟨rfl,tsf (mK 3 (by decide)) (ixv rfl ht rfl ⟨(sl 2),λu1 hu1=>⟨u1,_,rfl,.inr (SqT.of ae),rfl,rfl,tst (in2 3 (by decide)) ?_⟩⟩)⟩)⟩)⟩)⟩
   have s1:=aC (o:=.tup [V.str (ar "put off"),V.str (ar "lay")]) hu1;refine⟨_,rfl,dgv rfl (.inl ⟨_,tu (ar "sitting"),.inl (s1 _ _ X.ob),rfl,nH.symm⟩) ⟨(sl 1),λt2 ht2=>?_⟩⟩
   have s2:=s1.new (o:=.tup [V.int st.aN]) ht2;refine⟨t,t2,_,_,rfl,rfl,bV s2 ht,SqT.of ae,aj5 _ _,(sl 3),λz=>absurd z (aj5 _ _),λ_ t3 ht3=>?_⟩
   have s3:=s2.new (o:=.tup (rowOf 3 (.int u)++[V.int st.aN])) ht3;refine⟨t3,_,_,_,rfl,rfl,SqT.of ae,rfl,?_⟩;have X3:=X.same s3;refine⟨_,rfl,dgv rfl X3.gp ⟨(sl 2),λt4 ht4=>?_⟩⟩
   have oA:m≠aA:=d0 X.co X.az.1 (λz=>nomatch z)
   have s4:=aC (o:=.tup [V.int u,.ref aP]) ht4;refine dgv rfl (.inl ⟨_,tu (ar "aside"),.inl (s4 _ _ X3.ob),rfl,xX.symm⟩) (dgv rfl (.inl ⟨_,tu (ar "pile"),.inl (s4 _ _ X3.ob),rfl,sH.symm⟩) ⟨aP,_,_,_,rfl,rfl,SqL.of (s4 _ _ X3.aw.2),h0,aA,_,rfl,oQ.k (k:=km (k:Int)) (s4 _ _ X3.az.2) ?_,?_⟩)
   ·unfold a9;rw[cb,akR,cb];omega
   refine⟨(sl 0),λp5 hp5=>?_⟩
   refine hide λGg hGg=>?_
   have npA:p5≠aA:=λz=>by rw[z,ae]at hp5;cases hp5
   have npt:p5≠t4:=λz=>by rw[aq npA,z,ae]at hp5;cases hp5
   have hp1:=hp5;rw[aq npA,aq npt]at hp1;obtain⟨c',s6,X6⟩:=X3.m9 (u:=u) ht4 hp1 npt hkn;refine hGg ?_;refine⟨_,rfl,m,_,rfl,oQ.k (k:=tu (ar "pile")) ((aq (aG X3.ob hp1)).trans ((aq oA).trans (s4 _ _ X3.ob))) kc,?_⟩;rw[B2];exact q c' _ ((Step.same aO s3).trans s6.il) X6.at
  |lay =>
   refine hide λGg hGg=>?_
   obtain⟨⟨tx,r,h1⟩,_⟩:=wo;obtain⟨k,r',e1,_⟩:=Nf h1;have e3:st.carry .lay=st.m9 k st.aN:=by unfold Ch.carry;rw[e1]
   rw[e3]at q;have hla:=I.la;have hkn:=I.Fm (n:=k) (by rw[e1];exact gn)
   have h0:atI (st.aw.map nV) 0=some (nV k):=by rw[e1];exact eu (j:=0) rfl
   refine hGg ?_;refine ixv rfl ht rfl ⟨rfl,tsf (b9 5 (by decide)) (ixv rfl ht rfl ⟨rfl,tsf (cg 5 (by decide)) (ixv rfl ht rfl ⟨rfl,tsf (jn 5 (by decide)) (ixv rfl ht rfl ⟨rfl,tsf (mK 5 (by decide)) (ixv rfl ht rfl ⟨(sl 2),λu1 hu1=>⟨u1,_,rfl,.inr (SqT.of ae),rfl,rfl,tst (in2 5 (by decide)) ?_⟩⟩)⟩)⟩)⟩)⟩
   have s1:=aC (o:=.tup [V.str (ar "put off"),V.str (ar "lay")]) hu1;refine⟨_,rfl,dgv rfl (.inl ⟨_,tu (ar "sitting"),.inl (s1 _ _ X.ob),rfl,nH.symm⟩) ⟨(sl 1),λt2 ht2=>?_⟩⟩
   have s2:=s1.new (o:=.tup [V.int st.aN]) ht2;refine⟨t,t2,_,_,rfl,rfl,bV s2 ht,SqT.of ae,aj5 _ _,(sl 2),λz=>absurd z (aj5 _ _),λ_ t3 ht3=>?_⟩
   have s3:=s2.new (o:=.tup (rowOf 5 v++[V.int st.aN])) ht3;refine⟨t3,_,_,_,rfl,rfl,SqT.of ae,rfl,?_⟩;have X3:=X.same s3;refine⟨_,rfl,dgv rfl X3.gp ⟨(sl 2),λt4 ht4=>?_⟩⟩
   have oA:m≠aA:=d0 X.co X.az.1 (λz=>nomatch z)
   have s4:=aC (o:=.tup [V.int st.aN,.ref aP]) ht4;refine dgv rfl (.inl ⟨_,tu (ar "aside"),.inl (s4 _ _ X3.ob),rfl,xX.symm⟩) (dgv rfl (.inl ⟨_,tu (ar "pile"),.inl (s4 _ _ X3.ob),rfl,sH.symm⟩) ⟨aP,_,_,_,rfl,rfl,SqL.of (s4 _ _ X3.aw.2),h0,aA,_,rfl,oQ.k (k:=km (k:Int)) (s4 _ _ X3.az.2) ?_,?_⟩)
   ·unfold a9;rw[cb,akR,cb];omega
   refine⟨(sl 0),λp5 hp5=>?_⟩
   refine hide λGg hGg=>?_
   have npA:p5≠aA:=λz=>by rw[z,ae]at hp5;cases hp5
   have npt:p5≠t4:=λz=>by rw[aq npA,z,ae]at hp5;cases hp5
   have hp1:=hp5;rw[aq npA,aq npt]at hp1;obtain⟨c',s6,X6⟩:=X3.m9 (u:=st.aN) ht4 hp1 npt hkn;refine hGg ?_;refine⟨_,rfl,m,_,rfl,oQ.k (k:=tu (ar "pile")) ((aq (aG X3.ob hp1)).trans ((aq oA).trans (s4 _ _ X3.ob))) kc,?_⟩;rw[B2];exact q c' _ ((Step.same aO s3).trans s6.il) X6.at
end
end My
set_option maxHeartbeats 1000000
namespace My
open PySem L2
seal PySem.wpAny
def x5 (c:Col)(H:Hp)(t:Addr)(xs:List V):Prop:=c t=none/\H t=some (.tup xs)
def qN (c:Col)(H:Hp):R.fH->Addr->Prop
 | .mat cs,t=>∃L,x5 c H t [.str (ar "matter"),.ref L]/\c L=none/\H L=some (.lst ((cs.map (sr R.bl1)).map V.str))
 | .ed m k j ws,t=>∃e,x5 c H t [.str (R.kEd m),.ref e]/\TupAt c H e (R.edR k j (sr R.bl1 ws))
 | .pt ws,t=>x5 c H t [.str (ar "point"),.str (sr R.bl1 ws)]
 | .nums kd ns,t=>x5 c H t (.str kd::ns.map V.int)
theorem x5.c {i:Nat}{c:Col}{H:Hp}{t:Addr}{xs:List V}(h:x5 c H t xs):xS i c H t xs:=⟨by rw[h.1];exact aO,h.2⟩
theorem x5.step {W:Option (Nat×Rl)->Prop}{c c':Col}{H H':Hp}{t:Addr}{xs:List V}(s:Step W c c' H H')(h:x5 c H t xs):x5 c' H' t xs:=qM s h.1 h.2
theorem qN.step {W:Option (Nat×Rl)->Prop}{c c':Col}{H H':Hp}{t:Addr}(s:Step W c c' H H'):∀ {d:R.fH},qN c H d t->qN c' H' d t
 | .mat _,⟨L,a,b1,b2⟩=>⟨L,a.step s,qM s b1 b2⟩
 | .ed _ _ _ _,⟨e,a,b⟩=>⟨e,a.step s,b.step s⟩
 | .pt _,h=>x5.step s h
 | .nums _ _,h=>x5.step s h
theorem qN.c {i:Nat}{c:Col}{H:Hp}{t:Addr}:∀ {d:R.fH},qN c H d t->qK i c H d t
 | .mat _,⟨L,a,b1,b2⟩=>⟨L,a.c,by rw[b1];exact aO,b2⟩
 | .ed _ _ _ _,⟨e,a,b⟩=>⟨e,a.c,b⟩
 | .pt _,h=>x5.c h
 | .nums _ _,h=>x5.c h
theorem qN.kind {c:Col}{H:Hp}{t:Addr}:∀ {d:R.fH},qN c H d t->∃xs,H t=some (.tup (.str (R.BI d)::xs))
 | .mat _,⟨_,a,_⟩=>⟨_,a.2⟩
 | .ed _ _ _ _,⟨_,a,_⟩=>⟨_,a.2⟩
 | .pt _,h=>⟨_,h.2⟩
 | .nums _ _,h=>⟨_,h.2⟩
def Ch.ended (st:Ch)(pre:List Nat)(n:Nat)(wd:Str):Ch:=(if wd=BW then (st.popped pre n wd).carry (st.mo n) else st.popped pre n wd).opened
def Fx (i:Nat):Sp:=λvs H Q _=>∃(m:Addr) (wd:Str) (c:Col) (st:Ch) (N:Nat) (pre:List Nat) (n:Nat),vs=[.ref m,.str wd]/\jt i c H m st/\Inv N st/\N<=800/\st.aw=pre++[n]/\ajZ wd=true /\
 ∀c' H' u,Step (dZ i) c c' H H'->jt i c' H' m (st.ended pre n wd)->c' u=none->H' u=some (.tup [.str (ar "told"),.str wd])->Q (.ref u) H'
theorem jt.rows {i:Nat}{c:Col}{H:Hp}{m:Addr}{st:Ch}{r:List Str}(h:jt i c H m st):jt i c H m { st with rows:=r }:=by
 obtain⟨aP,aA,aD,aM,ds,ws,es,X⟩:=h.ex;exact⟨aP,aA,aD,aM,ds,ws,es,⟨X.co,X.ob,X.aw,X.az,X.wait,X.dec,X.lN,X.kX,X.ent⟩⟩
def rsT:Rs->List V
 | .num n=>[.str (ar "told"),nV n]
 | .txt z=>[.str (ar "told"),.str z]
 | .exc x=>[.str (xcC x).1,.int (xcC x).2]
def GW (i:Nat)(c:Col)(H:Hp)(m:Addr)(r:Rs×Ch)(Q:VK):Prop:=∀c' H' u,Step (dZ i) c c' H H'->jt i c' H' m r.2->c' u=none->H' u=some (.tup (rsT r.1))->Q (.ref u) H'
def MF (i:Nat):Sp:=λvs H Q _=>∃(m:Addr) (a b:Int) (c:Col) (st:Ch) (N:Nat),vs=[.ref m,.int a,.int b,.int st.cJ]/\jt i c H m st/\Inv N st/\N<=800/\(0<=a/\a < 10 ^ 10)/\(0<=b/\b < 10 ^ 10)/\GW i c H m (mM st a b) Q
def MG (i:Nat):Sp:=λvs H Q _=>∃(m:Addr) (z:Int) (c:Col) (st:Ch) (N:Nat),vs=[.ref m,.int z]/\jt i c H m st/\Inv N st/\N<=800/\-1<=z/\z < 10 ^ 10/\GW i c H m (stepT st z.toNat) Q
def Ug (i:Nat):Sp:=λvs H Q _=>∃(m t:Addr) (c:Col) (st:Ch) (N:Nat) (d:R.fH),vs=[.ref m,.ref t,.int st.cJ]/\jt i c H m st/\Inv N st/\N<=800/\wy d/\qN c H d t/\GW i c H m (fA st d) Q
theorem D1 {c:Col}{H:Hp}{u:Addr}{o:HO}{W:Option (Nat×Rl)->Prop}(n:¬W none)(hu:H u=none):Step W c (ay c u none) H (upd H u o)/\ay c u none u=none/\(upd H u o) u=some o:=⟨Step.new n hu,aV,ae⟩
section
variable{P:rf}{w:World}{K:ba}{mg:Str->Option Value}{base:Heap}{A:Adr}
theorem Cd (T:Txt w.params K mg A){i:Nat}:aJ P w K mg base CX0 3 A.vD A.mi ["_law_m","_law_word_here"] (Fx i):=by
 have eN:aJ P w K mg base CX0 1 A.ue A.ig ["_law_m","_law_number"] (nI i):=mO T;have Qy:aJ P w K mg base CX0 2 A.EM A.tP ["_law_m","_law_motion"] (Qx i):=Nn T;refine T.tV.ok A8 (λvs H Q E h=>?_) (λcdv A' outer s H vs Q E hr h=>?_)
 ·obtain⟨m,wd,c,st,N,pre,n,rfl,_⟩:=h;rfl
 ·obtain⟨m,wd,c,st,N,pre,n,rfl,hm,I,hN,e,hwd,q⟩:=h;obtain⟨aP,aA,aD,aM,ds,ws,es,X⟩:=hm.ex;have hu1:=hr.u1;have mD:=hr.units;have dI:Room 1 _:=hr.mono (by decide)
  have Np:Room 2 _:=hr;have sz:ka=16777216:=by decide
  have kc:∀ {v0 v1 v2 v3 v4 v5:V},(mdF v0 v1 v2 v3 v4 v5).length < ka:=by intros;show 6 < ka;decide
  refine⟨_,(ai (aZ (i:=2) A8.nd rfl (wt rfl) (Oz om PySem.F.slot_list_pop PySem.F.type_list_pop OD (aY hu1 (pv 0) ao (λ_ _=>rfl))))
 (ai (bN (gB om ajQ ajR dq (aY hu1 (pv 0) ao (λ_ _=>rfl)) (aa (bg (aa (pv 2) (aa (pv 1) ag))) ag)))
 (ai (bb (aB bu (pv 1) ao (aK _))
 (aj (bN (aW Qy Np rfl T.Gf T.Bo.kp T.Ge .nil a7 (aa (pv 0) (aa (aW eN dI rfl T.i9 T.iD.kp T.i8 .nil a7 (aa (pv 0) (aa (pv 2) ag))) ag)))))
 aH)
 (ai (bb (aB (AG mD) (aY hu1 (pv 0) ao (λ_ _=>rfl)) (bQ ag) (aK _))
 (aj (iw hu1 (pv 0) ao oH rfl))
 aH)
 (aj (aI (bg (aa ao (aa (pv 1) ag))))))))),?_⟩
  have hy:(st.aw.map nV)[(st.aw.map nV).length - 1]?=some (nV n):=by rw[e];simp
  have hdr:(st.aw.map nV).dropLast=pre.map nV:=by rw[e,kx];simp
  have oP:m≠aP:=d0 X.co X.aw.1 (λz=>nomatch z)
  have DP:aD≠aP:=d0 X.dec.1 X.aw.1 (λz=>nomatch z)
  have ld:=I.ld;refine dgv rfl X.gp ⟨.inl ⟨rfl,_,SqL.of X.aw.2⟩,aP,_,_,rfl,rfl,X.aw.2,hy,?_⟩;rw[hdr];refine dgv rfl (.inl ⟨_,tu (ar "decided"),.inl ((aq oP).trans X.ob),rfl,yG.symm⟩) ⟨.inl ⟨rfl,_,SqL.of ((aq DP).trans X.dec.2)⟩,_,rfl,_,rfl,(sl 2),λt ht=>?_⟩
  obtain⟨s1,X1⟩:=X.pop (n:=n) (wd:=wd) ht;have ntD:aD≠t:=λz=>by rw[<-z,aq DP,X.dec.2]at ht;cases ht
  refine⟨aD,_,_,rfl,rfl,(aq ntD).trans ((aq DP).trans X.dec.2),by rw[cb,<-X.lN.len];omega,?_⟩
  have st1:=s1.il;generalize ay c t none=c1 at X1 st1;dsimp only[iZ];generalize upd (upd (upd H aP (.lst (pre.map nV))) t (.tup [nV n,.str wd])) aD (.lst (ds.map V.ref++[.ref t]))=H1 at X1 st1 ⊢;clear s1 ht hy hdr;obtain⟨I1,wo⟩:=I.pop e wd hwd;have hn:n∈st.aw:=by rw[e];simp
  have hno:=I.bT n hn;have CN:=(I.wk hno).mono (akH N);refine gw (λσ' H'=>σ'=[some (.ref m),some (.str wd),some (nV n)]/\∃c',Step (dZ i) c c' H H'/\jt i c' H' m (if wd=BW then (st.popped pre n wd).carry (st.mo n) else st.popped pre n wd)) ?r (λN' nN=>?f)
  case f =>
   refine⟨_,rfl,rfl,_,rfl,?_⟩
   by_cases hk:wd=BW
   ·refine yo (decide_eq_true (by rw[hk])) ⟨_,rfl,_,rfl,_,rfl,m,n,c1,_,rfl,X1.at,hno,λtt htt=>?_⟩
    refine⟨m,tt,c1,st.popped pre n wd,st.mo n,N+1,rfl,X1.at,htt,I1,by omega,wo,CN,λc2 H2 s2 h2=>?_⟩
    refine nN _ _ ⟨rfl,c2,st1.trans s2,?_⟩;rw[if_pos hk];exact h2
   ·refine yp (decide_eq_false (λz=>hk (by injection z))) (nN _ _ ⟨rfl,c1,st1,?_⟩)
    rw[if_neg hk];exact X1.at
  case r =>
   rintro σ2 H2 ⟨rfl,c2,s2,h2⟩;unfold Ch.ended at q;generalize (if wd=BW then (st.popped pre n wd).carry (st.mo n) else st.popped pre n wd)=st2 at h2 q
   refine hide λGg hGg=>?_
   obtain⟨aP2,aA2,aD2,aM2,ds2,ws2,es2,X2⟩:=h2.ex;refine hGg ?_;refine gw (λσ' H'=>σ'=[some (.ref m),some (.str wd),some (nV n)]/\∃c',Step (dZ i) c c' H H'/\jt i c' H' m st2.opened) ?r2 (λN' nN=>?f2)
   case f2 =>
    refine dgv rfl X2.gp ⟨(sl 0),λp hp=>?_⟩
    have s3:=aC (o:=.lst []) hp;have X3:=X2.same s3;refine⟨fw st2.aw,.list [],js (SqL.of X3.aw.2),sJ (SqL.of ae),nK _,sI,_,rfl,?_⟩;rw[nJ];cases ep:st2.aw with
    |nil =>
     refine dM ⟨_,rfl,m,_,rfl,oQ.k (k:=tu (ar "closed")) X3.ob kc,?_⟩;rw[B1];obtain⟨s4,X4⟩:=X3.attr st2.aN false;refine nN _ _ ⟨rfl,c2,(s2.trans (Step.same aO s3)).trans s4.il,?_⟩;have e1:st2.opened={ st2 with aN:=st2.aN,closed:=false }:=by unfold Ch.opened;rw[ep,if_pos rfl]
     rw[e1];exact X4.at
    |cons x r =>
     refine bw (nN _ _ ⟨rfl,c2,s2.trans (Step.same aO s3),?_⟩);have e1:st2.opened=st2:=by unfold Ch.opened;rw[ep,if_neg (aj5 _ _)];cases st2;cases ep;rfl
     rw[e1];exact X3.at
   case r2 =>
    rintro σ3 H3 ⟨rfl,c3,s3,h3⟩;refine⟨_,rfl,(sl 2),λu hu=>?_⟩
    refine hide λGg hGg=>?_
    obtain⟨a1,a2,a3⟩:=D1 (c:=c3) (o:=.tup [V.str (ar "told"),.str wd]) aO hu;refine hGg ?_;exact q _ _ u (s3.trans a1) (h3.free (W:=λ_=>False) (λ_=>id) (D1 id hu).1) a2 a3
end
end My
set_option maxHeartbeats 1000000
namespace My
open PySem L2
seal PySem.wpAny
theorem SR (k:Nat)(a b:Int):nC (nd k) a b=(decide (a > b) && (!decide (k=4) || decide (a≥2 * b))):=by
 unfold nC nd
 by_cases h:a<=b
 ·rw[if_pos h,decide_eq_false (show ¬a > b by omega),Bool.false_and]
 ·rw[if_neg h,decide_eq_true (show a > b by omega),Bool.true_and]
  by_cases h4:k=4
  ·rw[if_pos h4,decide_eq_true h4,show decide (ar "two thirds"=Gr)=false by decide +kernel]
   rfl
  ·rw[if_neg h4,decide_eq_false h4,show decide (ar "more"=Gr)=true by decide +kernel]
   rfl
theorem MH (b:Bool):(qw b=BW)↔b=true:=by
 cases b with
 |true=>exact⟨λ_=>rfl,λ_=>rfl⟩
 |false=>exact⟨λz=>absurd z (by decide +kernel),λz=>nomatch z⟩
theorem Qz {st:Ch}{pre:List Nat}{n:Nat}{b:Bool}{z:Str}:(if b=true then (st.popped pre n (qw b)).carry (st.mo n) else st.popped pre n (qw b)).uJ z={ st.ended pre n (qw b) with rows:=(if b=true then (st.popped pre n (qw b)).carry (st.mo n) else st.popped pre n (qw b)).rows++[z] }:=by
 unfold Ch.uJ Ch.ended;cases b with
 |true=>rw[if_pos rfl,if_pos ((MH true).mpr rfl)]
 |false=>rw[if_neg ku,if_neg (λy=>absurd ((MH false).mp y) ku)]
section
variable{P:rf}{w:World}{K:ba}{mg:Str->Option Value}{base:Heap}{A:Adr}
theorem Ko (T:Txt w.params K mg A){i:Nat}:aJ P w K mg base CX0 4 A.Aj A.qd ["_law_m","_law_ayes","_law_noes","_law_seats_here"] (MF i):=by
 have eN:aJ P w K mg base CX0 1 A.ue A.ig ["_law_m","_law_number"] (nI i):=mO T;have x6:aJ P w K mg base CX0 3 A.vD A.mi ["_law_m","_law_word_here"] (Fx i):=Cd T;refine T.xw.ok uv (λvs H Q E h=>?_) (λcdv A' outer s H vs Q E hr h=>?_)
 ·obtain⟨m,a,b,c,st,N,rfl,_⟩:=h;rfl
 ·obtain⟨m,a,b,c,st,N,rfl,hm,I,hN,ha,hb,q⟩:=h;obtain⟨aP,aA,aD,aM,ds,ws,es,X⟩:=hm.ex;have hu1:=hr.u1;have mD:=hr.units;have dI:Room 1 _:=hr.mono (by decide)
  have uO:Room 3 _:=hr;refine⟨_,(ai (bb (aB (AG mD) (aY hu1 (pv 0) ao (λ_ _=>rfl)) (bQ ag) (aK _))
 (aj (aI (bg (aa ao (aa af ag)))))
 aH)
 (ai (bb (aB FF (a6 dJ (pv 1) (pv 2)) (pv 3) (aK _))
 (aj (aI (bg (aa ao (aa af ag)))))
 aH)
 (ai (aZ (i:=4) uv.nd rfl (wt rfl) (ng FF (pv 1) (pv 2) (aK _)))
 (ai (bb (aB bu (aT aU (aW eN dI rfl T.i9 T.iD.kp T.i8 .nil a7 (aa (pv 0) (aa (aT bF (aY hu1 (pv 0) ao (λ_ _=>rfl)) (oJ jA af) (λ_ _=>rfl)) ag))) af (λ_ _=>rfl)) ao (aK _))
 (aj (aZ (i:=4) uv.nd rfl (wt rfl) (Oi (pv 4) (Js (ng TL (pv 1) (a6 wX af (pv 2)) (aK _))))))
 aH)
 (aj (aI (aW x6 uO rfl T.xu T.tV.kp T.xt .nil a7 (aa (pv 0) (aa (aT bF (bQ (aa ao (aa ao ag))) (dn C1 (by rfl) T.Py OG (aa (pv 4) ag)) (λ_ _=>rfl)) ag))))))))),?_⟩
  unfold mM at q;refine dgv rfl X.gp ⟨(sl 0),λp hp=>?_⟩
  have s1:=aC (o:=.lst []) hp;have X1:=X.same s1;refine⟨fw st.aw,.list [],js (SqL.of X1.aw.2),sJ (SqL.of ae),nK _,sI,_,rfl,?_⟩;rw[nJ];generalize upd H p (.lst [])=H1 at s1 X1 ⊢;have say:∀(x:Xc) (st':Ch),st'=st->GW i c H m (.exc x,st') Q->(xcC x).2=0->∀u,H1 u=none->Q (.ref u) (upd H1 u (.tup [.str (xcC x).1,.int 0])):=λx st' est qq h0 u hu=>by
   subst est;have a1:Step (dZ i) c (ay c u none) H (upd H1 u (.tup [.str (xcC x).1,.int 0])):=(Step.same aO s1).trans (Step.new aO hu);refine qq (ay c u none) _ u a1 (X1.free (W:=λ_=>False) (λ_=>id) (Step.new id hu)).at aV ?_
   show (upd H1 u (.tup [.str (xcC x).1,.int 0])) u=some (.tup [.str (xcC x).1,.int (xcC x).2]);rw[h0];exact ae
  rcases ajX st.aw with e | ⟨pre,n,e⟩
  ·rw[e]at q ⊢;exact dM ⟨(sl 2),λu hu=>say .nothing st rfl q rfl u hu⟩
  ·rw[ajY]at e;have gl:st.aw.getLast?=some n:=by rw[e];exact akp
   have ed:st.aw.dropLast=pre:=by rw[e];exact akO
   rw[gl]at q;dsimp only at q;rw[ed]at q;refine yp (by rw[e];simp) ?_
   refine⟨_,rfl,_,rfl,_,_,rfl,rfl,_,rfl,_,_,rfl,rfl,_,rfl,eQ (λz=>?_) (λz=>?_)⟩
   ·have z':a+b > st.cJ:=of_decide_eq_true z;rw[if_pos z']at q;exact⟨(sl 2),λu hu=>say .tooMany st rfl q rfl u hu⟩
   ·have z':¬a+b > st.cJ:=λy=>z (decide_eq_true y)
    rw[if_neg z']at q;have hn:=I.bT n (by rw[e];simp)
    have h0:atI (st.aw.map nV) (-1)=some (nV n):=by rw[e,kx];exact i4 _ _
    refine⟨_,rfl,_,rfl,_,_,rfl,rfl,?_⟩;dsimp only[iZ];refine gw (λσ' H'=>σ'=[some (.ref m),some (.int a),some (.int b),some (.int st.cJ),some (.bl (nC (nd (st.mo n).k) a b))]/\H'=H1) ?r (λN' nN=>?f)
    case f =>
     refine⟨_,rfl,_,rfl,m,_,rfl,X1.gp,_,rfl,aP,_,_,_,rfl,rfl,SqL.of X1.aw.2,h0,m,n,c,st,rfl,X1.at,hn,λt ht=>?_⟩
     obtain⟨v,hv⟩:=ht.kind;refine⟨t,_,_,_,rfl,rfl,SqT.of hv,d5,rfl,_,rfl,?_⟩;rw[jn _ (st.mo n).k8];have ke:=SR (st.mo n).k a b
     by_cases h4:(st.mo n).k=4
     ·rw[decide_eq_true h4]at ke ⊢;refine dM ⟨_,rfl,_,rfl,?_⟩
      by_cases hab:a > b
      ·rw[decide_eq_true hab]at ke ⊢;refine dM ⟨_,rfl,_,rfl,_,_,rfl,rfl,.inl ⟨by decide,by decide⟩,_,_,rfl,rfl,nN _ _ ⟨?_,rfl⟩⟩
       rw[ke];rfl
      ·rw[decide_eq_false hab]at ke ⊢;refine bw (nN _ _ ⟨?_,rfl⟩);rw[ke];rfl
     ·rw[decide_eq_false h4]at ke ⊢;refine bw (nN _ _ ⟨?_,rfl⟩);rw[ke,Bool.not_false,Bool.true_or,Bool.and_true];rfl
    case r =>
     rintro σ2 H2 ⟨rfl,rfl⟩;generalize nC (nd (st.mo n).k) a b=kb at q;refine⟨_,rfl,(sl 2),λl hl=>?_⟩
     have s2:=aC (o:=.lst [V.str (ar "lost"),.str (ar "kept")]) hl;have hw:atI [V.str (ar "lost"),.str (ar "kept")] (if kb=true then 1 else 0)=some (.str (qw kb)):=by cases kb <;> rfl
     refine⟨_,rfl,.inr ⟨kb,rfl,l,_,_,_,rfl,rfl,SqL.of ae,hw,m,qw kb,c,st,N,pre,n,rfl,(X1.same s2).at,I,hN,e,Fn kb,λc' H' u s3 h3 cu hu=>?_⟩⟩
     refine q c' H' u ((Step.same aO (s1.trans s2)).trans s3) ?_ cu hu;show jt i c' H' m ((if kb=true then (st.popped pre n (qw kb)).carry (st.mo n) else st.popped pre n (qw kb)).uJ _)
     rw[Qz];exact h3.rows
theorem Kp (T:Txt w.params K mg A){i:Nat}:aJ P w K mg base CX0 3 A.Ak A.qe ["_law_m","_law_number"] (MG i):=by
 have Au:aJ P w K mg base CX0 2 A.F9 A.rL ["_law_m"] (Fv i):=GO T;refine T.xx.ok uw (λvs H Q E h=>?_) (λcdv A' outer s H vs Q E hr h=>?_)
 ·obtain⟨m,z,c,st,N,rfl,_⟩:=h;rfl
 ·obtain⟨m,z,c,st,N,rfl,hm,I,hN,hz0,hz1,q⟩:=h;obtain⟨aP,aA,aD,aM,ds,ws,es,X⟩:=hm.ex;have hu1:=hr.u1;have mD:=hr.units;have wz:Room 2 _:=hr;have kc:∀ {v0 v1 v2 v3 v4 v5:V},(mdF v0 v1 v2 v3 v4 v5).length < ka:=by intros;show 6 < ka;decide
  refine⟨_,(ai (bb (aB (w8 mD) (aY hu1 (pv 0) ao (λ_ _=>rfl)) (bQ ag) (aK _))
 (aj (aI (bg (aa ao (aa (aW Au wz rfl T.Ao T.vO.kp T.An .nil a7 (aa (pv 0) ag)) ag)))))
 aH)
 (ai (bb (Jr (xg hu1 (pv 1) (aY hu1 (pv 0) ao (λ_ _=>rfl))))
 (aj (aI (bg (aa ao (aa af ag)))))
 aH)
 (ai (Ay (aY hu1 (aY hu1 (pv 0) ao (λ_ _=>rfl)) (pv 1) (λ_ _=>rfl)) (Ol rfl (rz (j9 (i:=2) uw.nd rfl (wt rfl)) (rz (j9 (i:=3) uw.nd rfl (wt rfl)) LK))))
 (ai (bb (aB rA (aY hu1 (pv 0) ao (λ_ _=>rfl)) (pv 2) (aK _))
 (aj (aI (bg (aa ao (aa (pv 2) ag)))))
 aH)
 (ai (bN (F3 (aY hu1 (pv 0) ao (λ_ _=>rfl)) (pv 1) ⟨rfl,rfl,rfl,rfl⟩))
 (ai (iw hu1 (pv 0) ao (pv 3) rfl)
 (aj (aI (bg (aa ao (aa (pv 1) ag))))))))))),?_⟩
  unfold stepT at q;refine dgv rfl X.gp ⟨(sl 0),λp hp=>?_⟩
  have s1:=aC (o:=.lst []) hp;have X1:=X.same s1;refine⟨fw st.aw,.list [],js (SqL.of X1.aw.2),sJ (SqL.of ae),nK _,sI,_,rfl,?_⟩;rw[nJ];generalize upd H p (.lst [])=H1 at s1 X1 ⊢;cases e:st.aw with
  |cons k0 r0 =>
   rw[if_neg (by rw[e];exact aj5 _ _)]at q
   refine dM ⟨_,rfl,m,c,st,rfl,X1.at,I.bT,λH2 s2=>⟨(sl 2),λu hu=>?_⟩⟩
   have a1:Step (dZ i) c (ay c u none) H _:=(Step.same aO (s1.trans s2)).trans (Step.new (o:=.tup [V.str (ar "bar"),.int (nY st.closed (st.aw.map st.mo))]) aO hu);exact q (ay c u none) _ u a1 ((X1.same s2).free (W:=λ_=>False) (λ_=>id) (Step.new id hu)).at aV ae
  |nil =>
   rw[if_pos e]at q;refine bw ?_;have say:∀(x:Xc),GW i c H m (.exc x,st) Q->(xcC x).2=0->∀u,H1 u=none->Q (.ref u) (upd H1 u (.tup [.str (xcC x).1,.int 0])):=λx qq h0 u hu=>by
    have a1:Step (dZ i) c (ay c u none) H (upd H1 u (.tup [.str (xcC x).1,.int 0])):=(Step.same aO s1).trans (Step.new aO hu);refine qq (ay c u none) _ u a1 (X1.free (W:=λ_=>False) (λ_=>id) (Step.new id hu)).at aV ?_
    show (upd H1 u (.tup [.str (xcC x).1,.int 0])) u=some (.tup [.str (xcC x).1,.int (xcC x).2]);rw[h0];exact ae
   by_cases hz:z=-1
   ·subst hz;rw[show ((-1:Int).toNat)=0 from rfl,I.no0]at q
    refine⟨_,rfl,dgv rfl X1.ga ⟨aA,_,rfl,.inl ⟨_,km (-1),.inl X1.az.2,rfl,rfl⟩,_,rfl,?_⟩⟩;rw[xV];exact dM ⟨(sl 2),λu hu=>say .tX q rfl u hu⟩
   refine hide λGg hGg=>?_
   obtain⟨n,rfl⟩:∃n:Nat,z=(n:Int):=⟨z.toNat,by omega⟩
   rw[Int.toNat_natCast]at q;refine hGg ?_;refine⟨_,rfl,dgv rfl X1.ga ⟨aA,_,rfl,.inl ⟨_,km (n:Int),.inl X1.az.2,rfl,rfl⟩,_,rfl,?_⟩⟩;cases hx:at1 n st.az with
   |none =>
    rw[hx]at q;rw[mL (sC hx)];exact dM ⟨(sl 2),λu hu=>say .tX q rfl u hu⟩
   |some x =>
    refine hide λGg hGg=>?_
    rw[hx]at q;dsimp only at q;obtain⟨t,pl,hv,ht,hl⟩:=X1.waitOf hx;refine hGg ?_;rw[hv];refine bw ?_;refine⟨_,rfl,m,_,rfl,X1.ga,_,rfl,aA,_,rfl,.inl ⟨_,km (n:Int),.inl X1.az.2,rfl,hv.symm⟩,t,[V.int x.2.1,.ref pl],rfl,ht.sq,rfl,_,_,rfl,_,_,rfl,rfl,?_⟩;refine⟨_,rfl,m,_,rfl,X1.gs,_,rfl,_,_,rfl,rfl,_,rfl,eQ (λy=>?_) (λy=>?_)⟩
    ·have y':st.aN < x.2.1:=of_decide_eq_true y;rw[if_pos y']at q;refine⟨_,rfl,(sl 2),λu hu=>?_⟩
     have a1:Step (dZ i) c (ay c u none) H _:=(Step.same aO s1).trans (Step.new (o:=.tup [V.str (ar "not yet"),.int x.2.1]) aO hu);exact q (ay c u none) _ u a1 (X1.free (W:=λ_=>False) (λ_=>id) (Step.new id hu)).at aV ae
    ·have y':¬st.aN < x.2.1:=λz=>y (decide_eq_true z)
     rw[if_neg y']at q;have oA:m≠aA:=d0 X.co X.az.1 (λz=>nomatch z)
     refine dgv rfl X1.ga ⟨aA,rfl,.inl ⟨_,.inl X1.az.2⟩,_,rfl,_,km (n:Int),_,X1.az.2,rfl,hv,?_⟩;refine⟨_,rfl,_,rfl,m,_,rfl,oQ.k (k:=tu (ar "pile")) ((aq oA).trans X1.ob) kc,?_⟩;rw[B2];refine hide λGg hGg=>?_
     obtain⟨c2,ws2,s2,X2⟩:=X1.qJ hl;refine hGg ?_;generalize upd (upd H1 aA (.dK (iL (a9 ((st.az.map (·.1)).zip ws)) (km (n:Int))))) m (.dK (mdF (.int st.aN) (.bl st.closed) (.ref pl) (.ref aA) (.ref aD) (.ref aM)))=H2 at s2 X2 ⊢
     refine⟨_,rfl,(sl 2),λu hu=>?_⟩
     have a1:Step (dZ i) c (ay c2 u none) H _:=((Step.same aO s1).trans s2.il).trans (Step.new (o:=.tup [V.str (ar "told"),nV n]) aO hu);exact q (ay c2 u none) _ u a1 (X2.free (W:=λ_=>False) (λ_=>id) (Step.new id hu)).at.rows aV ae
end
end My
set_option maxHeartbeats 1000000
namespace My
open PySem L2
seal PySem.wpAny
theorem qN.mnt {c:Col}{H:Hp}{t:Addr}:∀ {d:R.fH},Fq d->qN c H d t->MnT c H (eK d) t
 | .mat cs,_,⟨L,a,b1,b2⟩=>⟨a.1,.ref L,a.2,L,rfl,b1,b2⟩
 | .ed true k j ws,h,⟨e,a,b⟩=>⟨a.1,.ref e,a.2,e,rfl,by rw[<-Fh h.1];exact b⟩
 | .ed false k j ws,h,⟨e,a,b⟩=>⟨a.1,.ref e,a.2,e,rfl,by rw[<-Fh h.1];exact b⟩
 | .pt ws,_,a=>⟨a.1,.str (sr R.bl1 ws),a.2,rfl⟩
 | .nums kd ns,h,a=>by
  rcases wq h.1 with ⟨u,rfl,rfl⟩ | ⟨rfl,rfl⟩ | ⟨rfl,rfl⟩ | ⟨rfl,rfl⟩
  ·rw[eK,if_pos rfl];exact⟨a.1,.int u,a.2,rfl⟩
  ·rw[eK,if_neg (by decide +kernel),if_pos rfl]
   exact⟨a.1,.non,a.2,trivial⟩
  ·rw[eK,if_neg (by decide +kernel),if_neg (by decide +kernel),if_pos rfl]
   exact⟨a.1,.non,a.2,trivial⟩
  ·rw[eK,if_neg (by decide +kernel),if_neg (by decide +kernel),if_neg (by decide +kernel)]
   exact⟨a.1,.non,a.2,trivial⟩
theorem QA:∀k,k < 8->decide (V.str (nm k)=V.str (ar "vote"))=false:=by decide +kernel
theorem QB:∀k,k < 8->decide (V.str (nm k)=V.str (ar "drop"))=false:=by decide +kernel
theorem QC:∀k,k < 8->decide (V.str (nm k)=V.str (ar "take"))=false:=by decide +kernel
theorem Kq {st:Ch}{pre:List Nat}{n:Nat}:st.ended pre n kT=(st.popped pre n kT).opened:=by
 unfold Ch.ended;rw[if_neg (by decide +kernel)]
section
variable{P:rf}{w:World}{K:ba}{mg:Str->Option Value}{base:Heap}{A:Adr}
theorem QD (T:Txt w.params K mg A){i:Nat}:aJ P w K mg base CX0 5 A.L3 A.vE ["_law_m","_law_deed_here","_law_seats_here"] (Ug i):=by
 have Nq:aJ P w K mg base CX0 4 A.Aj A.qd ["_law_m","_law_ayes","_law_noes","_law_seats_here"] (MF i):=Ko T;have Nr:aJ P w K mg base CX0 3 A.Ak A.qe ["_law_m","_law_number"] (MG i):=Kp T;have x6:aJ P w K mg base CX0 3 A.vD A.mi ["_law_m","_law_word_here"] (Fx i):=Cd T;have Nt:aJ P w K mg base CX0 3 A.Ai A.qc ["_law_m","_law_motion"] (ME i):=Km T;refine T.EU.ok F7 (λvs H Q E h=>?_) (λcdv A' outer s H vs Q E hr h=>?_)
 ·obtain⟨m,t,c,st,N,d,rfl,_⟩:=h;rfl
 ·obtain⟨m,t,c,st,N,d,rfl,hm,I,hN,hd,hz,q⟩:=h;obtain⟨aP,aA,aD,aM,ds,ws,es,X⟩:=hm.ex;have hu1:=hr.u1;have mD:=hr.units;have Kr:Room 4 _:=hr;have Ks:Room 3 _:=hr.mono (by decide)
  have uO:Room 3 _:=hr.mono (by decide)
  have Kt:Room 3 _:=hr.mono (by decide)
  have lim:ka=16777216:=by decide
  refine⟨_,(ai (bb (aB bu (aT aU (pv 1) af (λ_ _=>rfl)) ao (aK _))
 (aj (aI (aW Nq Kr rfl T.Dw T.xw.kp T.Dv .nil a7 (aa (pv 0) (aa (aT aU (pv 1) af (λ_ _=>rfl)) (aa (aT aU (pv 1) af (λ_ _=>rfl)) (aa (pv 2) ag)))))))
 aH)
 (ai (bb (aB bu (aT aU (pv 1) af (λ_ _=>rfl)) ao (aK _))
 (aj (aI (aW Nr Ks rfl T.Dy T.xx.kp T.Dx .nil a7 (aa (pv 0) (aa (aT aU (pv 1) af (λ_ _=>rfl)) ag)))))
 aH)
 (ai (bb (aB bu (aT aU (pv 1) af (λ_ _=>rfl)) ao (aK _))
 (ai (bb (aB (AG mD) (aY hu1 (pv 0) ao (λ_ _=>rfl)) (bQ ag) (aK _))
 (aj (aI (bg (aa ao (aa af ag)))))
 aH)
 (aj (aI (aW x6 uO rfl T.xu T.tV.kp T.xt .nil a7 (aa (pv 0) (aa ao ag))))))
 aH)
 (ai (aZ (i:=3) F7.nd rfl (wt rfl) (aW Nt Kt rfl T.Du T.xr.kp T.Dt .nil a7 (aa (pv 0) (aa (pv 1) ag))))
 (ai (bb (aB RE (pv 3) Ea (aK _))
 (aj (aI (pv 3)))
 aH)
 (ai (bN (gB om ajQ ajR dq (aY hu1 (pv 0) ao (λ_ _=>rfl)) (aa (bQ (aa (pv 1) (aa (pv 1) (aa (bQ ag) ag)))) ag)))
 (ai (bN (gB om ajQ ajR dq (aY hu1 (pv 0) ao (λ_ _=>rfl)) (aa (ck c8 (by rfl) T.pE lb (aa (aY hu1 (pv 0) ao (λ_ _=>rfl)) ag)) ag)))
 (aj (aI (bg (aa ao (aa (ck c8 (by rfl) T.pE lb (aa (aY hu1 (pv 0) ao (λ_ _=>rfl)) ag)) ag)))))))))))),?_⟩
  cases hd with
  | @GG a b ha hb =>
   rw[jU]at q;have ht:H t=some (.tup [.str (ar "vote"),.int a,.int b]):=hz.2;refine ixv rfl (SqT.of ht) rfl ⟨rfl,tst (decide_eq_true rfl) ?_⟩;exact⟨_,rfl,ixv rfl (SqT.of ht) rfl (ixv rfl (SqT.of ht) rfl ⟨_,rfl,m,a,b,c,st,N,rfl,hm,I,hN,ha,hb,q⟩)⟩
  |drop =>
   rw[jV]at q;have ht:H t=some (.tup [.str (ar "drop")]):=hz.2;refine ixv rfl (SqT.of ht) rfl ⟨rfl,tsf (by decide +kernel) ?_⟩
   refine ixv rfl (SqT.of ht) rfl ⟨rfl,tsf (by decide +kernel) ?_⟩
   refine ixv rfl (SqT.of ht) rfl ⟨rfl,tst (decide_eq_true rfl) ?_⟩;unfold nD at q;refine dgv rfl X.gp ⟨(sl 0),λp hp=>?_⟩
   have s1:=aC (o:=.lst []) hp;have X1:=X.same s1;refine⟨fw st.aw,.list [],js (SqL.of X1.aw.2),sJ (SqL.of ae),nK _,sI,_,rfl,?_⟩;rw[nJ];generalize upd H p (.lst [])=H1 at s1 X1 ⊢;rcases ajX st.aw with e | ⟨pre,n,e⟩
   ·rw[e]at q ⊢;refine dM ⟨(sl 2),λu hu=>?_⟩
    have a1:Step (dZ i) c (ay c u none) H (upd H1 u (.tup [.str (ar "nothing"),.int 0])):=(Step.same aO s1).trans (Step.new aO hu);exact q (ay c u none) _ u a1 (X1.free (W:=λ_=>False) (λ_=>id) (Step.new id hu)).at aV ae
   ·rw[ajY]at e;have gl:st.aw.getLast?=some n:=by rw[e];exact akp
    have ed:st.aw.dropLast=pre:=by rw[e];exact akO
    rw[gl]at q;dsimp only at q;rw[ed]at q;refine yp (by rw[e];simp) ?_
    refine⟨_,rfl,m,kT,c,st,N,pre,n,rfl,X1.at,I,hN,e,(by decide +kernel),λc' H' u s3 h3 cu hu=>?_⟩
    refine q c' H' u ((Step.same aO s1).trans s3) ?_ cu hu;rw[Kq]at h3;exact h3.rows
  | @take z h0 h1 =>
   rw[jW]at q;have ht:H t=some (.tup [.str (ar "take"),.int z]):=hz.2;refine ixv rfl (SqT.of ht) rfl ⟨rfl,tsf (by decide +kernel) ?_⟩
   refine ixv rfl (SqT.of ht) rfl ⟨rfl,tst (decide_eq_true rfl) ?_⟩;exact⟨_,rfl,ixv rfl (SqT.of ht) rfl ⟨m,z,c,st,N,rfl,hm,I,hN,h0,h1,q⟩⟩
  |move hd =>
   rw[jX hd]at q;have hmn:=hz.mnt hd;obtain⟨v,ht⟩:=hmn.kind;unfold nF at q;refine ixv rfl (SqT.of ht) d5 ⟨rfl,tsf (QA _ (eK d).k8) ?_⟩;refine ixv rfl (SqT.of ht) d5 ⟨rfl,tsf (QC _ (eK d).k8) ?_⟩;refine ixv rfl (SqT.of ht) d5 ⟨rfl,tsf (QB _ (eK d).k8) ?_⟩;refine⟨_,rfl,_,rfl,m,t,c,st,N,d,rfl,hm,I,hN,hd,hz.c,λSJ H1 s1=>?_,λx hx u H1 s1 nu hu=>?_⟩
   case refine_2 =>
    rw[hx]at q;exact⟨_,rfl,rfl,tst rfl ⟨_,rfl,q (d6 c H) H1 u (Step.cl aO s1) (X.cl s1).at (cS nu) hu⟩⟩
   rw[SJ]at q;dsimp only at q;refine⟨_,rfl,rfl,tsf rfl ?_⟩;have X1:=X.same s1;have ahP:MnT c H1 (eK d) t:=hmn.step (W:=λ_=>False) (Step.same id s1)
   have lm:=I.lm;have el:es.length=st.made.length:=by rw[<-X1.ent.len,mQ]
   have lp:=I.pil.Gz;rw[cb]at lp;have nf:st.made.length+1∉st.wj:=λz=>by
    have:=(List.mem_filter.mp z).1;rw[akK]at this;omega
   have MP:aM≠aP:=d0 X.kX.1 X.aw.1 (λz=>nomatch z)
   have oM:m≠aM:=d0 X.co X.kX.1 (λz=>nomatch z)
   refine dgv rfl X1.gm ⟨.inl ⟨rfl,_,SqL.of X1.kX.2⟩,_,rfl,_,rfl,(sl 0),λk hk=>⟨(sl 3),λp hp=>?_⟩⟩
   have npk:p≠k:=λz=>by rw[z,ae]at hp;cases hp
   have hp1:H1 p=none:=by rw[aq npk]at hp;exact hp
   have s2:=(aC (o:=.lst []) hk).new (o:=.lst [.ref t,.ref t,.ref k]) hp;have X2:=X1.same s2;refine⟨aM,es,.ref p,rfl,rfl,X2.kX.2,by omega,?_⟩
   refine hide λGg hGg=>?_
   obtain⟨c',s3,X3⟩:=X1.moved (row:=R.r8 d) (by rw[I.kk];exact nf) (by rw[I.ff];exact nf) ahP hk hp1 npk
   refine hGg ?_;generalize upd (upd H1 k (.lst [])) p (.lst [.ref t,.ref t,.ref k])=H2 at s2 X2 s3 X3 ⊢;have eln:(((es++[V.ref p]).length:Nat):Int)=((st.made.length+1:Nat):Int):=by rw[ky,el];rfl
   refine dgv rfl (.inl ⟨_,tu (ar "pile"),.inl ((aq oM).trans X2.ob),rfl,sH.symm⟩) ⟨.inl ⟨rfl,_,SqL.of ((aq MP.symm).trans X2.aw.2)⟩,dgv rfl (.inl ⟨_,tu (ar "motions"),.inl ((aq oM).trans X2.ob),rfl,yH.symm⟩) ⟨aM,_,rfl,.inl (SqL.of ae),?_⟩⟩;refine⟨aP,st.aw.map nV,nV (st.made.length+1),rfl,by rw[eln];rfl,(aq MP.symm).trans X2.aw.2,by rw[cb];omega,?_⟩
   generalize upd (upd H2 aM (.lst (es++[.ref p]))) aP (.lst (st.aw.map nV++[nV (st.made.length+1)]))=H3 at s3 X3 ⊢;refine dgv rfl X3.gm ⟨aM,_,rfl,.inl (SqL.of X3.kX.2),(sl 2),λu hu=>?_⟩
   rw[eln];have a1:Step (dZ i) c (ay c' u none) H (upd H3 u (.tup [V.str (ar "told"),nV (st.made.length+1)])):=((Step.same aO s1).trans s3.il).trans (Step.new aO hu);exact q (ay c' u none) _ u a1 (X3.free (W:=λ_=>False) (λ_=>id) (Step.new id hu)).at aV ae
theorem QE (T:Txt w.params K mg A):aJ P w K mg base CX0 1 A.LZ A.vC [] MD:=by
 refine T.ET.ok O8 (λvs H Q E h=>?_) (λcdv A' outer s H vs Q E hr h=>?_)
 ·obtain⟨rfl,_⟩:=h;rfl
 ·obtain⟨rfl,q⟩:=h;refine⟨_,(aj (aI (R7 (oS ao af (oS ao oH (oS ao (bQ ag) (oS ao oR (oS ao (bQ ag) (oS ao (bQ ag) R6)))))) rfl rfl (by decide) (by decide)))),?_⟩
  refineλm h0=>⟨(sl 0),λaP h1=>λaA h2=>⟨(sl 0),λaD h3=>⟨(sl 0),λaM h4=>?_⟩⟩⟩
  have s1:=aC (o:=.dK []) h0;have s2:=aC (o:=.lst []) h1;have s3:=aC (o:=.dK []) h2;have s4:=aC (o:=.lst []) h3;have s5:=aC (o:=.lst []) h4;have n1:=same_none s1 h1;have n2:=same_none (s1.trans s2) h2;have n3:=same_none ((s1.trans s2).trans s3) h3;have n4:=same_none (((s1.trans s2).trans s3).trans s4) h4;have m1:m≠aP:=aG ae h1;have m2:m≠aA:=aG (s2 _ _ ae) h2;have m3:m≠aD:=aG ((s2.trans s3) _ _ ae) h3;have m4:m≠aM:=aG (((s2.trans s3).trans s4) _ _ ae) h4;have p2:aP≠aA:=aG ae h2;have p3:aP≠aD:=aG (s3 _ _ ae) h3;have p4:aP≠aM:=aG ((s3.trans s4) _ _ ae) h4;have q3:aA≠aD:=aG ae h3;have q4:aA≠aM:=aG (s4 _ _ ae) h4;have r4:aD≠aM:=aG ae h4;refine⟨(((s2.trans s3).trans s4).trans s5) _ _ ae,mdF (.int 1) (.bl false) (.ref aP) (.ref aA) (.ref aD) (.ref aM),rfl,(by show 6<=15;decide),?_⟩
  rw[WE];refine q m _ λi c n=>⟨ay (ay (ay (ay (ay c m (some (i,.ob))) aP (some (i,.aw))) aA (some (i,.az))) aD (some (i,.decided))) aM (some (i,.made)),⟨id,?_,?_,?_⟩,aP,aA,aD,aM,[],[],[],?_⟩
  ·exactλa v e _=>(((((s1.trans s2).trans s3).trans s4).trans s5).own h0) a v e
  ·exactλa v e=>⟨v,(((((s1.trans s2).trans s3).trans s4).trans s5).own h0) a v e⟩
  ·intro a v e _;rw[av (aG e n4),av (aG e n3),av (aG e n2),av (aG e n1),av (aG e h0)]
  ·refine⟨?_,ae,⟨?_,?_⟩,⟨?_,?_⟩,.nil,⟨?_,?_⟩,.nil,⟨?_,?_⟩,.nil⟩
   ·rw[av m4,av m3,av m2,av m1,aV]
   ·rw[av p4,av p3,av p2,aV]
   ·rw[aq m1.symm,aq p4,aq p3,aq p2,ae];rfl
   ·rw[av q4,av q3,aV]
   ·rw[aq m2.symm,aq q4,aq q3,ae];rfl
   ·rw[av r4,aV]
   ·rw[aq m3.symm,aq r4,ae];rfl
   ·rw[aV]
   ·rw[aq m4.symm,ae]
end
end My
set_option maxHeartbeats 1000000
namespace My
open PySem L2
seal PySem.wpAny
def GX:Sp:=λvs H Q _=>∃(c n:Int),vs=[.int c,.int n]/\1<=n/\n<=1000000000/\∀(a b:Int) (t:Addr) (H':Hp),(0<=a/\a < 10 ^ 10)->(0<=b/\b < 10 ^ 10)->bA H H'->H t=none->H' t=some (.tup [.str (ar "vote"),.int a,.int b])->Q (.ref t) H'
def GY (i:Nat):Sp:=λvs H Q _=>∃(m:Addr) (z:Int) (c:Col) (st:Ch) (N:Nat),vs=[.ref m,.int z]/\jt i c H m st/\Inv N st/\∀(j:Int) (H':Hp),0<=j->j < 20->bA H H'->Q (.int j) H'
def GZ (i:Nat):Sp:=λvs H Q _=>∃(m:Addr) (z n:Int) (c:Col) (st:Ch) (N:Nat),vs=[.ref m,.int z,.int n]/\jt i c H m st/\Inv N st/\N<=191/\1<=n/\n<=1000000000 /\
 ∀(d:R.fH) (t:Addr) (H':Hp),wy d->qN (d6 c H) H' d t->bA H H'->Q (.ref t) H'
theorem SS {xs:List Int}{j:Int}(h0:0<=j)(h1:j < xs.length)(hx:∀x∈xs,0<=x/\x < 20):∃x:Int,atI (xs.map V.int) j=some (.int x)/\0<=x/\x < 20:=by
 obtain⟨k,rfl⟩:∃k:Nat,j=(k:Int):=⟨j.toNat,by omega⟩
 have hk:k < xs.length:=by omega
 refine⟨xs[k],?_,hx _ (List.getElem_mem hk)⟩;refine eu ?_;rw[aj7,wa hk];rfl
section
variable{P:rf}{w:World}{K:ba}{mg:Str->Option Value}{base:Heap}{A:Adr}
theorem Nu (T:Txt w.params K mg A):aJ P w K mg base CX0 1 A.EN A.tQ ["_law_cell","_law_seats_here"] GX:=by
 refine T.Bp.ok pj (λvs H Q E h=>?_) (λcdv A' outer s H vs Q E hr h=>?_)
 ·obtain⟨c,n,rfl,_⟩:=h;rfl
 ·obtain⟨c,n,rfl,n1,n2,q⟩:=h;refine⟨_,(ai (aZ (i:=2) pj.nd rfl (wt rfl) (a6 bU (pv 0) (a6 dJ (pv 1) af)))
 (ai (aZ (i:=3) pj.nd rfl (wt rfl) (a6 bU (a6 cI (pv 0) af) (a6 nP (a6 dJ (pv 1) af) (pv 2))))
 (ai (bb (aB bu (a6 bU (a6 cI (pv 0) af) af) af (aK _))
 (aj (aZ (i:=3) pj.nd rfl (wt rfl) (a6 nP (a6 dJ (a6 cI (pv 2) af) (a6 bU (a6 cI (pv 0) af) af)) af)))
 aH)
 (ai (bb (aB bu (a6 bU (a6 cI (pv 0) af) af) af (aK _))
 (aj (aZ (i:=3) pj.nd rfl (wt rfl) (a6 dJ (a6 nP (pv 1) (pv 2)) (a6 bU (a6 cI (pv 0) af) af))))
 aH)
 (aj (aI (bg (aa ao (aa (pv 2) (aa (ck (tw rfl) (by rfl) T.Gm El (aa af (aa (pv 3) ag))) ag)))))))))),?_⟩
  have a0:0<=c % (n+1):=akE _ (by omega)
  have a1:c % (n+1) < n+1:=akr _ (by omega)
  refine⟨_,rfl,_,rfl,_,_,rfl,rfl,_,_,rfl,rfl,(by show (0:Int) < n+1;omega),?_⟩
  dsimp only[iZ];generalize c % (n+1)=a at a0 a1 ⊢;refine⟨_,rfl,_,_,rfl,rfl,⟨by decide,by decide⟩,_,rfl,_,_,rfl,rfl,_,rfl,_,_,rfl,rfl,_,_,rfl,rfl,(by show (0:Int) < n+1 - a;omega),?_⟩
  dsimp only[iZ];have b0:0<=c / 7 % (n+1 - a):=akE _ (by omega)
  have b1:c / 7 % (n+1 - a) < n+1 - a:=akr _ (by omega)
  generalize c / 7 % (n+1 - a)=b at b0 b1 ⊢;refine gw (λσ' H'=>H'=H/\∃b:Int,σ'=[some (.int c),some (.int n),some (.int a),some (.int b)]/\-1<=b/\b < 10000000000) ?r (λN' nN=>?f)
  case f =>
   refine⟨_,rfl,_,_,rfl,rfl,⟨by decide,by decide⟩,_,_,rfl,rfl,(by show (0:Int) < 4;decide),rfl,_,rfl,eQ (λ_=>?_) (λ_=>?_)⟩
   ·refine⟨_,rfl,_,_,rfl,rfl,⟨by decide,by decide⟩,_,rfl,_,_,rfl,rfl,⟨by decide,by decide⟩,_,_,rfl,rfl,(by show (0:Int) < 3;decide),_,_,rfl,rfl,_,_,rfl,rfl,nN _ _ ⟨rfl,_,rfl,?_,?_⟩⟩
    ·omega
    ·omega
   ·exact nN _ _ ⟨rfl,b,rfl,by omega,by omega⟩
  case r =>
   rintro σ2 H2 ⟨rfl,b,rfl,c0,c1⟩;refine gw (λσ' H'=>H'=H2/\∃b:Int,σ'=[some (.int c),some (.int n),some (.int a),some (.int b)]/\-1<=b/\b < 10000000000) ?r (λN' nN=>?f)
   case f =>
    refine⟨_,rfl,_,_,rfl,rfl,⟨by decide,by decide⟩,_,_,rfl,rfl,(by show (0:Int) < 16;decide),rfl,_,rfl,eQ (λ_=>?_) (λ_=>?_)⟩
    ·refine⟨_,rfl,_,rfl,_,_,rfl,rfl,_,rfl,_,_,rfl,rfl,⟨by decide,by decide⟩,_,_,rfl,rfl,(by show (0:Int) < 2;decide),_,_,rfl,rfl,nN _ _ ⟨rfl,_,rfl,?_,?_⟩⟩
     ·omega
     ·omega
    ·exact nN _ _ ⟨rfl,b,rfl,by omega,by omega⟩
   case r =>
    rintro σ3 H3 ⟨rfl,b,rfl,c0,c1⟩;refine⟨_,rfl,_,rfl,_,_,rfl,(sl 3),λu hu=>?_⟩
    refine q a (if b > 0 then b else 0) u _ ⟨a0,by omega⟩ ⟨?_,?_⟩ (aC hu) hu ae
    ·split <;> omega
    ·split <;> omega
theorem G0 (T:Txt w.params K mg A){i:Nat}:aJ P w K mg base CX0 2 A.vF A.nq ["_law_m","_law_way"] (GY i):=by
 have eN:aJ P w K mg base CX0 1 A.ue A.ig ["_law_m","_law_number"] (nI i):=mO T;refine T.uy.ok yq (λvs H Q E h=>?_) (λcdv A' outer s H vs Q E hr h=>?_)
 ·obtain⟨m,z,c,st,N,rfl,_⟩:=h;rfl
 ·obtain⟨m,z,c,st,N,rfl,hm,I,q⟩:=h;obtain⟨aP,aA,aD,aM,ds,ws,es,X⟩:=hm.ex;have hu1:=hr.u1;have mD:=hr.units;have dI:Room 1 _:=hr;refine⟨_,(ai (bb (aB (AG mD) (aY hu1 (pv 0) ao (λ_ _=>rfl)) (bQ ag) (aK _))
 (aj (aI (aT bF (bQ (aa af (aa af (aa af (aa af (aa af ag)))))) (a6 bU (pv 1) af) (λ_ _=>rfl))))
 aH)
 (ai (aZ (i:=2) yq.nd rfl (wt rfl) (aW eN dI rfl T.i9 T.iD.kp T.i8 .nil a7 (aa (pv 0) (aa (aT bF (aY hu1 (pv 0) ao (λ_ _=>rfl)) (oJ jA af) (λ_ _=>rfl)) ag))))
 (ai (bb (aB bu (aT aU (pv 2) af (λ_ _=>rfl)) ao (aK _))
 (aj (aI (aT bF (bQ (aa af (aa af (aa af (aa af (aa af (aa af (aa af ag)))))))) (a6 bU (pv 1) af) (λ_ _=>rfl))))
 aH)
 (ai (bb (PW.pt (pw_and (aB bu (aT aU (pv 2) af (λ_ _=>rfl)) ao (aK _)) (pw_and1 (aB C0 (aT aU (aT aU (pv 2) af (λ_ _=>rfl)) af (λ_ _=>rfl)) ao (aK _)))))
 (aj (aI (aT bF (bQ (aa af (aa af (aa af (aa af (aa af ag)))))) (a6 bU (pv 1) af) (λ_ _=>rfl))))
 aH)
 (aj (aI (aT bF (bQ (aa af (aa af (aa af (aa af (aa af ag)))))) (a6 bU (pv 1) af) (λ_ _=>rfl)))))))),?_⟩
  have say:∀(xs:List Int) (k:Int) (H1:Hp) (p:Addr),bA H H1->H1 p=none->k=(xs.length:Int)->0 < k->(∀x∈xs,0<=x/\x < 20)->∀R:V->Hp->Prop,(∀x:Int,Q (.int x) (upd H1 p (.lst (xs.map V.int)))->R (.int x) (upd H1 p (.lst (xs.map V.int))))->∃x,atI (xs.map V.int) (z % k)=some x/\R x (upd H1 p (.lst (xs.map V.int))):=by
   intro xs k H1 p s1 hp ek hk hx R hR;obtain⟨x,h1,h2,h3⟩:=SS (j:=z % k) (akE _ (by omega)) (by rw[<-ek];exact akr _ hk) hx
   exact⟨_,h1,hR x (q x _ h2 h3 (s1.new hp))⟩
  refine dgv rfl X.gp ⟨(sl 0),λp hp=>?_⟩
  have s1:=aC (o:=.lst []) hp;have X1:=X.same s1;refine⟨fw st.aw,.list [],js (SqL.of X1.aw.2),sJ (SqL.of ae),nK _,sI,_,rfl,?_⟩;rw[nJ];generalize upd H p (.lst [])=H1 at s1 X1 ⊢;rcases ajX st.aw with e | ⟨pre,n,e⟩
  ·rw[e];refine dM ⟨(sl 5),λp2 hp2=>?_⟩
   refine hide λGg hGg=>?_
   obtain⟨x,h1,h2⟩:=say [0,1,18,10,0] 5 H1 p2 s1 hp2 rfl (by decide) (by decide) (λv H=>Q v H) (λ_ h=>h)
   refine hGg ?_;exact⟨_,rfl,_,_,rfl,rfl,(by show (0:Int) < 5;decide),p2,_,_,_,rfl,rfl,SqL.of ae,h1,h2⟩
  rw[ajY]at e;have hn:=I.bT n (by rw[e];simp)
  have h0:atI (st.aw.map nV) (-1)=some (nV n):=by rw[e,kx];exact i4 _ _
  refine yp (by rw[e];simp) ?_
  refine⟨_,rfl,_,rfl,m,_,rfl,X1.gp,_,rfl,aP,_,_,_,rfl,rfl,SqL.of X1.aw.2,h0,m,n,c,st,rfl,X1.at,hn,λt ht=>?_⟩
  refine hide λGg hGg=>?_
  obtain⟨_,v,hv,hvv⟩:=ht;refine hGg ?_;refine ixv rfl (SqT.of hv) d5 ⟨rfl,_,rfl,eQ (λ_=>?_) (λ_=>?_)⟩
  ·refine⟨(sl 7),λp2 hp2=>?_⟩
   refine hide λGg hGg=>?_
   obtain⟨x,h1,h2⟩:=say [2,3,4,12,7,9,8] 7 H1 p2 s1 hp2 rfl (by decide) (by decide) (λv H=>Q v H) (λ_ h=>h)
   refine hGg ?_;exact⟨_,rfl,_,_,rfl,rfl,(by show (0:Int) < 7;decide),p2,_,_,_,rfl,rfl,SqL.of ae,h1,h2⟩
  refine ixv rfl (SqT.of hv) d5 ⟨rfl,_,rfl,?_⟩;rw[b9 _ (st.mo n).k8]
  by_cases h1:(st.mo n).k=1
  case neg =>
   rw[decide_eq_false h1];refine bw (bw ⟨(sl 5),λp2 hp2=>?_⟩)
   refine hide λGg hGg=>?_
   obtain⟨x,h1,h2⟩:=say [12,13,12,14,15] 5 H1 p2 s1 hp2 rfl (by decide) (by decide) (λv H=>Q v H) (λ_ h=>h)
   refine hGg ?_;exact⟨_,rfl,_,_,rfl,rfl,(by show (0:Int) < 5;decide),p2,_,_,_,rfl,rfl,SqL.of ae,h1,h2⟩
  rw[decide_eq_true h1];refine hide λGg hGg=>?_
  obtain⟨e,emo⟩:∃e,st.mo n=.chg e:=by
   cases hmo:st.mo n with
   |chg e=>exact⟨e,rfl⟩
   |_=>rw[hmo]at h1;simp[Mn.k]at h1
  rw[emo]at hv hvv;obtain⟨tc,rfl,htc⟩:=hvv;refine hGg ?_;refine dM (ixv rfl (SqT.of hv) rfl ⟨tc,_,_,_,rfl,rfl,htc.sq,nS e,rfl,_,rfl,eQ (λ_=>?_) (λ_=>?_)⟩)
  ·refine⟨(sl 5),λp2 hp2=>?_⟩
   refine hide λGg hGg=>?_
   obtain⟨x,h1,h2⟩:=say [5,6,5,12,14] 5 H1 p2 s1 hp2 rfl (by decide) (by decide) (λv H=>Q v H) (λ_ h=>h)
   refine hGg ?_;exact⟨_,rfl,_,_,rfl,rfl,(by show (0:Int) < 5;decide),p2,_,_,_,rfl,rfl,SqL.of ae,h1,h2⟩
  ·refine⟨(sl 5),λp2 hp2=>?_⟩
   refine hide λGg hGg=>?_
   obtain⟨x,h1,h2⟩:=say [12,13,12,14,15] 5 H1 p2 s1 hp2 rfl (by decide) (by decide) (λv H=>Q v H) (λ_ h=>h)
   refine hGg ?_;exact⟨_,rfl,_,_,rfl,rfl,(by show (0:Int) < 5;decide),p2,_,_,_,rfl,rfl,SqL.of ae,h1,h2⟩
end
end My
set_option maxHeartbeats 1000000
namespace My
open PySem L2
seal PySem.wpAny
theorem abm {N:Nat}{e:Ed}(h:EdB (12+N) e)(hN:N<=800):e.th.length+2<=ka/\(R.bp e.th).length<=900:=by
 have lim:ka=16777216:=by decide
 have h1:=(h.ok (by omega)).th.len
 have h2:=h.words.2;exact⟨by omega,by omega⟩
theorem G1:∀(as:List (Nat×Int×List Nat)) (ws:List V),as.length=ws.length->(a9 ((as.map (·.1)).zip ws)).map (·.1)=(as.map λx=>(x.1:Int)).map km:=by
 intro as
 induction as with
 |nil=>intro ws _;cases ws <;> rfl
 |cons a as ih =>
  intro ws h;cases ws with
  |nil=>cases h
  |cons w ws =>
   rw[kj,cO,kj,ih ws (by simpa using h)]
   rfl
section
variable{P:rf}{w:World}{K:ba}{mg:Str->Option Value}{base:Heap}{A:Adr}
theorem Nv (T:Txt w.params K mg A){i:Nat}:aJ P w K mg base CX0 3 A.EO A.tR ["_law_m","_law_cell","_law_seats_here"] (GZ i):=by
 have eN:aJ P w K mg base CX0 1 A.ue A.ig ["_law_m","_law_number"] (nI i):=mO T;have Ku:aJ P w K mg base CX0 2 A.vF A.nq ["_law_m","_law_way"] (GY i):=G0 T;have uP:aJ P w K mg base CX0 2 A.vB A.nj ["_law_cell"] B5:=GL T;have B7:aJ P w K mg base CX0 1 A.Ba A.pz ["_law_cell"] B4:=DX T;have pQ:aJ P w K mg base CX0 1 A.tO A.jK ["_law_clause_here"] R.gi:=uN T;have G2:aJ P w K mg base CX0 1 A.EJ A.tL ["_law_cell","_law_size","_law_thing"] GK:=Nj T;have QF:aJ P w K mg base CX0 1 A.EN A.tQ ["_law_cell","_law_seats_here"] GX:=Nu T;refine T.Bs.ok dQ (λvs H Q E h=>?_) (λcdv A' outer s H vs Q E hr h=>?_)
 ·obtain⟨m,z,n,c,st,N,rfl,_⟩:=h;rfl
 ·obtain⟨m,z,n,c,st,N,rfl,hm,I,hN,n1,n2,q⟩:=h;obtain⟨aP,aA,aD,aM,ds,ws,es,X⟩:=hm.ex;have hu1:=hr.u1;have mD:=hr.units;have dI:Room 1 _:=hr.mono (by decide)
  have G3:Room 2 _:=hr;have sL:Room 2 _:=hr;have xY:Room 1 _:=hr.mono (by decide)
  have mP:Room 1 _:=hr.mono (by decide)
  have D2:Room 1 _:=hr.mono (by decide)
  have Nw:Room 1 _:=hr.mono (by decide)
  refine⟨_,(ai (aZ (i:=3) dQ.nd rfl (wt rfl) (a6 bU (pv 1) af))
 (ai (aZ (i:=4) dQ.nd rfl (Or.inr rfl) (a6 cI (pv 1) af))
 (ai (bb (aB FF (a6 bU (pv 4) af) af (aK _))
 (aj (aZ (i:=3) dQ.nd rfl (wt rfl) (aW Ku G3 rfl T.Br T.uy.kp T.Bq .nil a7 (aa (pv 0) (aa (pv 3) ag)))))
 aH)
 (ai (aZ (i:=4) dQ.nd rfl (Or.inr rfl) (a6 cI (pv 4) af))
 (ai (aZ (i:=5) dQ.nd rfl (wt rfl) af)
 (ai (aZ (i:=6) dQ.nd rfl (wt rfl) ao)
 (ai (bb (aB (w8 mD) (aY hu1 (pv 0) ao (λ_ _=>rfl)) (bQ ag) (aK _))
 (ai (aZ (i:=7) dQ.nd rfl (wt rfl) (aW eN dI rfl T.i9 T.iD.kp T.i8 .nil a7 (aa (pv 0) (aa (aT bF (aY hu1 (pv 0) ao (λ_ _=>rfl)) af (λ_ _=>rfl)) ag))))
 (ai (aZ (i:=8) dQ.nd rfl (wt rfl) (aW eN dI rfl T.i9 T.iD.kp T.i8 .nil a7 (aa (pv 0) (aa (aT bF (aY hu1 (pv 0) ao (λ_ _=>rfl)) (oJ jA af) (λ_ _=>rfl)) ag))))
 (ai (bb (aB bu (aT aU (pv 7) af (λ_ _=>rfl)) ao (aK _))
 (aj (aZ (i:=5) dQ.nd rfl (wt rfl) (ck c8 (by rfl) T.pE lb (aa (aT aU (pv 7) af (λ_ _=>rfl)) ag))))
 aH)
 (aj (bb (PW.pt (pw_and (aB bu (aT aU (pv 8) af (λ_ _=>rfl)) ao (aK _)) (pw_and1 (aB C0 (aT aU (aT aU (pv 8) af (λ_ _=>rfl)) af (λ_ _=>rfl)) ao (aK _)))))
 (aj (aZ (i:=6) dQ.nd rfl (wt rfl) (aT aU (aT aU (pv 8) af (λ_ _=>rfl)) af (λ_ _=>rfl))))
 aH)))))
 aH)
 (ai (bb (aB rA (pv 3) af (aK _))
 (ai (aZ (i:=9) dQ.nd rfl (wt rfl) (a6 bU (pv 4) af))
 (ai (bb (aB bu (a6 bU (a6 cI (pv 4) af) af) af (aK _))
 (aj (aZ (i:=9) dQ.nd rfl (wt rfl) (a6 dJ af (a6 bU (a6 cI (pv 4) af) af))))
 aH)
 (aj (aI (bg (aa ao (aa (Ab (scope:=vy) F8 rfl (wW rfl T.Aq (aa (pv 9) ag)) (λ_ _ _ _ _=>(aW uP sL rfl T.qm T.mx.kp T.ql .nil a7 (aa (a6 dJ (a6 cI (pv 5) af) (a6 wX af (pv 0))) ag)))) ag)))))))
 aH)
 (ai (bb (aB rA (pv 3) af (aK _))
 (aj (aI (bg (aa ao (aa (aW G2 D2 rfl T.Bh T.vK.kp T.Bg .nil a7 (aa (pv 4) (aa (pv 5) (aa (aW uP sL rfl T.qm T.mx.kp T.ql .nil a7 (aa (a6 cI (pv 4) af) ag)) ag)))) ag)))))
 aH)
 (ai (bb (aB rA (pv 3) af (aK _))
 (aj (aI (bg (aa ao (aa (aW G2 D2 rfl T.Bh T.vK.kp T.Bg .nil a7 (aa (pv 4) (aa (ck c8 (by rfl) T.pE lb (aa (aW pQ mP rfl T.tU T.pD.kp T.tT .nil a7 (aa (pv 6) ag)) ag)) (aa (aW B7 xY rfl T.Bf T.vJ.kp T.Be .nil a7 (aa (a6 cI (pv 4) af) ag)) ag)))) ag)))))
 aH)
 (ai (bb (aB bu (pv 3) af (aK _))
 (aj (aI (bg (aa ao (aa (ck (tw rfl) (by rfl) T.Gm El (aa af (aa (a6 nP (a6 dJ (aY hu1 (pv 0) ao (λ_ _=>rfl)) (a6 bU (pv 4) af)) af) ag))) ag)))))
 aH)
 (ai (bb (aB rA (pv 3) af (aK _))
 (aj (aI (aT bF (bQ (aa (bg (aa ao ag)) (aa (bg (aa ao ag)) (aa (bg (aa ao ag)) ag)))) (a6 nP (pv 3) af) (λ_ _=>rfl))))
 aH)
 (ai (bb (aB bu (pv 3) af (aK _))
 (aj (aI (bg (aa ao (aa (aW uP sL rfl T.qm T.mx.kp T.ql .nil a7 (aa (pv 4) ag)) ag)))))
 aH)
 (ai (bb (aB rA (pv 3) af (aK _))
 (aj (aI (bg (aa ao (aa (a6 dJ af (a6 bU (pv 4) (pv 2))) (aa af ag))))))
 aH)
 (ai (bb (aB rA (pv 3) af (aK _))
 (aj (aI (aW QF Nw rfl T.Gi T.Bp.kp T.Gh .nil a7 (aa (pv 4) (aa (pv 2) ag)))))
 aH)
 (ai (bb (aB bu (pv 3) af (aK _))
 (aj (aI (bg (aa ao ag))))
 aH)
 (ai (bb (PW.pt (pw_and (aB (Sa hu1) (aY hu1 (pv 0) ao (λ_ _=>rfl)) oR (aK _)) (pw_and1 (aB FF (a6 bU (pv 4) af) af (aK _)))))
 (aj (aI (bg (aa ao (aa (aT bF (ck (qa hr.hd) (by rfl) T.vQ xj (aa (aY hu1 (pv 0) ao (λ_ _=>rfl)) ag)) (a6 bU (a6 cI (pv 4) af) (ck Dk (by rfl) T.pE lb (aa (aY hu1 (pv 0) ao (λ_ _=>rfl)) ag))) (λ_ _=>rfl)) ag)))))
 aH)
 (aj (aI (bg (aa ao (aa (a6 nP (a6 bU (a6 cI (pv 4) af) (a6 dJ (ck c8 (by rfl) T.pE lb (aa (aY hu1 (pv 0) ao (λ_ _=>rfl)) ag)) af)) af) ag)))))))))))))))))))))),?_⟩
  have lim:ka=16777216:=by decide
  have e10:(10:Int) ^ 10=10000000000:=by decide
  refine⟨_,rfl,_,_,rfl,rfl,(by show (0:Int) < 20;decide),_,rfl,_,_,rfl,rfl,⟨by decide,by decide⟩,?_⟩
  dsimp only[iZ];have y0:0<=z % 20:=akE _ (by decide)
  have y1:z % 20 < 20:=akr _ (by decide)
  generalize z % 20=y at y0 y1 ⊢;generalize z / 20=x;refine gw (λσ' H'=>∃y:Int,σ'=[some (.ref m),some (.int z),some (.int n),some (.int y),some (.int x),none,none,none,none,none]/\0<=y/\y < 20/\bA H H') ?r1 (λN' nN=>?f1)
  case f1 =>
   refine⟨_,rfl,_,_,rfl,rfl,(by show (0:Int) < 3;decide),_,_,rfl,rfl,_,rfl,eQ (λ_=>?_) (λ_=>?_)⟩
   ·exact⟨_,rfl,_,rfl,m,y,c,st,N,rfl,hm,I,λj H1 j0 j1 s1=>nN _ _ ⟨j,rfl,j0,j1,s1⟩⟩
   ·exact nN _ _ ⟨y,rfl,y0,y1,λ_ _ h=>h⟩
  case r1 =>
  clear y0 y1;rintro σ1 H1 ⟨y,rfl,y0,y1,s1⟩;refine⟨_,rfl,_,_,rfl,rfl,⟨by decide,by decide⟩,?_⟩
  dsimp only[iZ];generalize x / 3=x;refine gw (λσ' H'=>σ'=[some (.ref m),some (.int z),some (.int n),some (.int y),some (.int x),some (.int 1),none,none,none,none]/\H'=H1) ?ra (λN' nN=>nN _ _ ⟨rfl,rfl⟩)
  case ra =>
  rintro σa Ha ⟨rfl,rfl⟩;refine gw (λσ' H'=>σ'=[some (.ref m),some (.int z),some (.int n),some (.int y),some (.int x),some (.int 1),some (.str (ar "")),none,none,none]/\H'=Ha) ?rb (λN' nN=>nN _ _ ⟨rfl,rfl⟩)
  case rb =>
  rintro σb H1 ⟨rfl,rfl⟩;refine gw (λσ' H'=>∃(k:Int) (cl:Str) (v7 v8:Option V),σ'=[some (.ref m),some (.int z),some (.int n),some (.int y),some (.int x),some (.int k),some (.str cl),v7,v8,none]/\0<=k/\k<=900/\cl.length+2<=ka/\(R.bp cl).length<=900/\bA H H') ?r2 (λN' nN=>?f2)
  case f2 =>
   have X1:=X.same s1;refine dgv rfl X1.gp ⟨(sl 0),λp hp=>?_⟩
   have s2:=s1.new (o:=.lst []) hp;have X2:=X.same s2;refine⟨fw st.aw,.list [],js (SqL.of X2.aw.2),sJ (SqL.of ae),nK _,sI,_,rfl,?_⟩;rw[nJ];generalize upd H1 p (.lst [])=H2 at s2 X2 ⊢;rcases ajX st.aw with e | ⟨pre,t,e⟩
   ·rw[e];exact bw (nN _ _ ⟨1,_,_,_,rfl,by decide,by decide,by decide +kernel,by decide +kernel,s2⟩)
   refine hide λGg hGg=>?_
   rw[ajY]at e;obtain⟨b,r,eb⟩:∃b r,st.aw=b::r:=by
    cases hp:st.aw with
    |nil=>rw[hp]at e;simp at e
    |cons b r=>exact⟨b,r,rfl⟩
   have hb:=I.bT b (by rw[eb];simp)
   have ht:=I.bT t (by rw[e];simp)
   have hA0:atI (st.aw.map nV) 0=some (nV b):=by rw[eb];exact eu (j:=0) rfl
   have hA1:atI (st.aw.map nV) (-1)=some (nV t):=by rw[e,kx];exact i4 _ _
   refine hGg ?_;refine yo (by rw[eb];rfl) ?_
   refine⟨_,rfl,dgv rfl X2.gp ⟨aP,_,_,_,rfl,rfl,SqL.of X2.aw.2,hA0,m,b,c,st,rfl,X2.at,hb,λtb htb=>?_⟩⟩
   refine⟨_,rfl,_,rfl,m,_,rfl,X2.gp,_,rfl,aP,_,_,_,rfl,rfl,SqL.of X2.aw.2,hA1,m,t,c,st,rfl,X2.at,ht,λtt htt=>?_⟩
   refine hide λGg hGg=>?_
   obtain⟨_,vb,hvb,abn⟩:=htb;obtain⟨_,vt,hvt,abo⟩:=htt;refine hGg ?_;dsimp only[iZ];refine gw (λσ' H'=>∃(k:Int),σ'=[some (.ref m),some (.int z),some (.int n),some (.int y),some (.int x),some (.int k),some (.str (ar "")),some (.ref tb),some (.ref tt),none]/\0<=k/\k<=900/\H'=H2) ?r3 (λN2 nN2=>?f3)
   case f3 =>
    refine ixv rfl (SqT.of hvb) d5 ⟨rfl,_,rfl,?_⟩;rw[BS _ (st.mo b).k8]
    by_cases h0:(st.mo b).k=0
    case neg =>
     rw[decide_eq_false h0];exact bw (nN2 _ _ ⟨1,rfl,by decide,by decide,rfl⟩)
    rw[decide_eq_true h0];refine hide λGg hGg=>?_
    have hmo:=I.wk hb;obtain⟨tx,etx⟩:∃tx,st.mo b=.mat tx:=by
     cases hmo:st.mo b with
     |mat tx=>exact⟨tx,rfl⟩
     |_=>rw[hmo]at h0;simp[Mn.k]at h0
    rw[etx]at hvb abn hmo;obtain⟨L,rfl,hL⟩:=abn;have hl:tx.length<=12+N:=hmo.1;refine hGg ?_;refine dM (ixv rfl (SqT.of hvb) rfl ⟨L,_,rfl,.inl (SqL.of hL.2),nN2 _ _ ⟨_,rfl,?_,?_,rfl⟩⟩)
    ·omega
    ·rw[cb];omega
   case r3 =>
   rintro σ3 H3 ⟨k,rfl,k0,k1,rfl⟩;refine ixv rfl (SqT.of hvt) d5 ⟨rfl,_,rfl,?_⟩;rw[b9 _ (st.mo t).k8]
   by_cases h1:(st.mo t).k=1
   case neg =>
    rw[decide_eq_false h1];exact bw (bw (nN _ _ ⟨k,_,_,_,rfl,k0,k1,by decide +kernel,by decide +kernel,s2⟩))
   rw[decide_eq_true h1];refine hide λGg hGg=>?_
   have hmo:=I.wk ht;obtain⟨e,emo⟩:∃e,st.mo t=.chg e:=by
    cases hmo:st.mo t with
    |chg e=>exact⟨e,rfl⟩
    |_=>rw[hmo]at h1;simp[Mn.k]at h1
   rw[emo]at hvt abo hmo;have ahQ:EdB (12+N) e:=hmo;obtain⟨tc,rfl,htc⟩:=abo;refine hGg ?_;refine dM (ixv rfl (SqT.of hvt) rfl ⟨tc,_,_,_,rfl,rfl,htc.sq,nS e,rfl,_,rfl,?_⟩);rw[Fe]
   by_cases hk1:e.k=1
   ·rw[decide_eq_true hk1];exact bw (nN _ _ ⟨k,_,_,_,rfl,k0,k1,by decide +kernel,by decide +kernel,s2⟩)
   ·rw[decide_eq_false hk1];obtain⟨z1,z2⟩:=abm ahQ (by omega)
    exact dM (ixv rfl (SqT.of hvt) rfl ⟨tc,_,_,_,rfl,rfl,htc.sq,uD hk1,nN _ _ ⟨k,_,_,_,rfl,k0,k1,z1,z2,s2⟩⟩)
  case r2 =>
  clear s1;rintro σ2 H2 ⟨k,cl,v7,v8,rfl,k0,k1,c1,c2,s2⟩;have X2:=X.same s2;have tup:∀(d:R.fH) (H3:Hp) (t:Addr) (xs:List V),wy d->bA H H3->H3 t=none->(qN (d6 c H) (upd H3 t (.tup xs)) d t)->Q (.ref t) (upd H3 t (.tup xs)):=λd H3 t xs o s3 ht dz=>q d t _ o dz (s3.new ht)
  have num:∀(kd:Str) (ns:List Int) (H3:Hp) (t:Addr),wy (.nums kd ns)->bA H H3->H3 t=none->Q (.ref t) (upd H3 t (.tup (.str kd::ns.map V.int))):=λkd ns H3 t o s3 ht=>tup _ H3 t _ o s3 ht ⟨cS (same_none s3 ht),ae⟩
  refine⟨_,rfl,_,_,rfl,rfl,_,rfl,eQ (λ_=>?_) (λg1=>?_)⟩
  ·refine⟨_,rfl,_,_,rfl,rfl,(by show (0:Int) < 5;decide),?_⟩
   dsimp only[iZ];refine gw (λσ' H'=>H2=H'/\∃a:Int,σ'=[some (.ref m),some (.int z),some (.int n),some (.int y),some (.int x),some (.int k),some (.str cl),v7,v8,some (.int a)]/\0<=a/\a<=12) ?rm (λN' nN=>?fm)
   case fm =>
    refine⟨_,rfl,_,_,rfl,rfl,⟨by decide,by decide⟩,_,_,rfl,rfl,(by show (0:Int) < 8;decide),rfl,_,rfl,eQ (λ_=>?_) (λ_=>?_)⟩
    ·refine⟨_,rfl,_,_,rfl,rfl,⟨by decide,by decide⟩,_,_,rfl,rfl,(by show (0:Int) < 8;decide),_,_,rfl,rfl,nN _ _ ⟨rfl,_,rfl,?_,?_⟩⟩
     ·omega
     ·omega
    ·exact nN _ _ ⟨rfl,_,rfl,by omega,by omega⟩
   case rm =>
   rintro σm H2' ⟨rfl,a,rfl,a0,a1⟩;refine⟨_,rfl,_,rfl,by omega,by omega,λW hW=>?_⟩
   dsimp only;generalize hm:a.toNat=mm;have m6:mm<=12:=by omega
   refine JL (lo:=0) (n:=mm) (λi ys H3=>∃cs:List (List Str),ys=(cs.map (sr R.bl1)).map V.str/\cs.length=i/\(∀x∈cs,R.BH 12 x)/\bA H2 H3/\H3 W=some (.lst ys))
    ⟨[],rfl,rfl,(λx hx=>nomatch hx),aC hW,ae⟩ (by omega) ?_ ?_ ?_
   ·rintro i ys H3 hi ⟨cs,rfl,hl,hg,s3,h3⟩;exact⟨h3,by rw[cb,cb];exact hl⟩
   ·rintro i ys H3 hi ⟨cs,rfl,hl,hg,s3,h3⟩;refine⟨_,rfl,_,_,rfl,rfl,⟨by decide,by decide⟩,_,rfl,_,_,rfl,rfl,.inl ⟨by decide,by decide⟩,_,_,rfl,rfl,_,rfl,λus H4 hus s4=>?_⟩
    refine ib.mk hi (s4 _ _ h3) ⟨cs++[us],by simp,by simp[hl],λe he=>?_,(s3.trans s4).own hW,ae⟩
    rcases List.mem_append.mp he with he | he
    ·exact hg e he
    ·rw[List.mem_singleton.mp he];exact hus
   ·rintro ys H3 ⟨cs,rfl,hl,hg,s3,h3⟩;refine⟨(sl 2),λt ht=>?_⟩
    have nW:W≠t:=aG h3 ht;refine tup (.mat cs) H3 t _ (.move ⟨by omega,hg⟩) (s2.trans s3) ht ⟨W,⟨cS (same_none (s2.trans s3) ht),ae⟩,cS (same_none s2 hW),(aq nW).trans h3⟩
  refine⟨_,rfl,_,_,rfl,rfl,_,rfl,eQ (λ_=>?_) (λg2=>?_)⟩
  ·refine⟨_,rfl,_,rfl,_,rfl,_,_,rfl,rfl,⟨by decide,by decide⟩,_,rfl,λus H3 hus s3=>?_⟩
   refine⟨_,k,_,rfl,k0,k1,λkk j e H4 hk j0 j1 s4 ne he=>⟨(sl 2),λt ht=>?_⟩⟩
   have s24:=s2.trans (s3.trans s4);have net:e≠t:=aG he ht;exact tup (.ed false kk j us) H4 t _ (.move ⟨hk,⟨by omega,by omega⟩,hus,λz=>nomatch z⟩) s24 ht ⟨e,⟨cS (same_none s24 ht),ae⟩,cS (same_none (s2.trans s3) ne),.inl ((aq net).trans he)⟩
  refine⟨_,rfl,_,_,rfl,rfl,_,rfl,eQ (λ_=>?_) (λg3=>?_)⟩
  ·refine⟨_,rfl,_,rfl,cl,rfl,c1,λp hp=>⟨p,_,rfl,.inl (SqL.of ae),_,rfl,_,_,rfl,rfl,⟨by decide,by decide⟩,_,rfl,λu hu=>?_⟩⟩
   have s3:=s2.new (o:=.lst ((R.bp cl).map V.str)) hp;refine⟨_,_,_,rfl,by omega,by rw[cb];omega,λkk j e H4 hk j0 j1 s4 ne he=>⟨(sl 2),λt ht=>?_⟩⟩
   have s24:=s3.trans s4;have net:e≠t:=aG he ht;have ju:sr R.bl1 [u]=u:=by rfl
   refine tup (.ed true kk j [u]) H4 t _ (.move ⟨hk,⟨by omega,by omega⟩,⟨(by show 1<=12;decide),λz hz=>by rw[List.mem_singleton.mp hz];exact hu⟩,λ_=>rfl⟩) s24 ht ⟨e,⟨cS (same_none s24 ht),ae⟩,cS (same_none s3 ne),.inl ((aq net).trans ?_)⟩
   rw[ju];exact he
  refine⟨_,rfl,rfl,_,rfl,eQ (λ_=>?_) (λg4=>?_)⟩
  ·refine dgv rfl X2.gs ⟨_,rfl,_,_,rfl,rfl,(by show (0:Int) < 4;decide),_,_,rfl,rfl,_,_,rfl,rfl,_,_,rfl,(sl 2),λt ht=>?_⟩
   have hs:=I.sit;have x0:0<=x % 4:=akE _ (by decide)
   have x1:x % 4 < 4:=akr _ (by decide)
   refine num (ar "put off") [if st.aN+x % 4 - 1 > 1 then st.aN+x % 4 - 1 else 1] H2 t (.move ⟨by unfold nG;simp,λi hi=>?_⟩) s2 ht
   rw[List.mem_singleton.mp hi,e10];split <;> omega
  refine⟨_,rfl,_,_,rfl,rfl,_,rfl,eQ (λg5=>?_) (λg5=>?_)⟩
  ·have y8:8<=y:=by
    have a1:¬y < 7:=λz=>g3 (decide_eq_true z)
    have a2:¬y=7:=λz=>g4 (decide_eq_true (by rw[z]))
    omega
   have y11:y < 11:=of_decide_eq_true g5;refine⟨(sl 1),λt1 h1=>⟨(sl 1),λt2 h2=>⟨(sl 1),λt3 h3=>⟨(sl 3),λp hp=>?_⟩⟩⟩⟩
   have s3:=s2.new (o:=.tup [V.str (ar "close")]) h1;have s4:=s3.new (o:=.tup [V.str (ar "lay")]) h2;have s5:=s4.new (o:=.tup [V.str (ar "rest")]) h3;have s6:=s5.new (o:=.lst [V.ref t1,.ref t2,.ref t3]) hp;have w2:=aC (o:=.tup [V.str (ar "lay")]) h2;have w3:=aC (o:=.tup [V.str (ar "rest")]) h3;have w4:=aC (o:=.lst [V.ref t1,.ref t2,.ref t3]) hp;have pick:y - 8=0\/y - 8=1\/y - 8=2:=by omega
   refine⟨_,rfl,_,_,rfl,rfl,?_⟩;dsimp only;have mk:∀kd,(kd,0)∈nG->wy (.nums kd []):=λkd h=>.move ⟨h,λi hi=>nomatch hi⟩
   rcases pick with e | e | e <;> rw[e]
   ·refine⟨p,_,_,_,rfl,rfl,SqL.of ae,rfl,q (.nums (ar "close") []) t1 _ (mk _ (by unfold nG;simp)) ⟨cS (same_none s2 h1),?_⟩ s6⟩
    exact((w2.trans w3).trans w4) _ _ ae
   ·refine⟨p,_,_,_,rfl,rfl,SqL.of ae,rfl,q (.nums (ar "lay") []) t2 _ (mk _ (by unfold nG;simp)) ⟨cS (same_none s3 h2),?_⟩ s6⟩
    exact(w3.trans w4) _ _ ae
   ·refine⟨p,_,_,_,rfl,rfl,SqL.of ae,rfl,q (.nums (ar "rest") []) t3 _ (mk _ (by unfold nG;simp)) ⟨cS (same_none s4 h3),?_⟩ s6⟩
    exact w4 _ _ ae
  refine⟨_,rfl,rfl,_,rfl,eQ (λ_=>?_) (λ_=>?_)⟩
  ·refine⟨_,rfl,_,rfl,λus H3 hus s3=>⟨(sl 2),λt ht=>?_⟩⟩
   exact tup (.pt us) H3 t _ (.move hus) (s2.trans s3) ht ⟨cS (same_none (s2.trans s3) ht),ae⟩
  refine⟨_,rfl,_,_,rfl,rfl,_,rfl,eQ (λ_=>?_) (λ_=>?_)⟩
  ·refine⟨_,rfl,_,rfl,_,_,rfl,rfl,(by show (0:Int) < n;omega),_,_,rfl,rfl,(sl 3),λt ht=>?_⟩
   have x0:0<=x % n:=akE _ (by omega)
   have x1:x % n < n:=akr _ (by omega)
   exact num (ar "vote") [1+x % n,0] H2 t (.GG ⟨by omega,by omega⟩ ⟨by decide,by decide⟩) s2 ht
  refine⟨_,rfl,_,_,rfl,rfl,_,rfl,eQ (λ_=>?_) (λ_=>?_)⟩
  ·refine⟨_,rfl,_,rfl,_,_,rfl,n1,n2,λa b t H3 ha hb s3 nt ht=>?_⟩
   exact q (.nums (ar "vote") [a,b]) t H3 (.GG ha hb) ⟨cS (same_none s2 nt),ht⟩ (s2.trans s3)
  refine⟨_,rfl,rfl,_,rfl,eQ (λ_=>?_) (λ_=>?_)⟩
  ·exact⟨(sl 1),λt ht=>num (ar "drop") [] H2 t .drop s2 ht⟩
  have lm:=I.lm;have al:=I.GB;have el:es.length=st.made.length:=by rw[<-X2.ent.len,mQ]
  refine dgv rfl X2.ga (λp hp=>?_)
  have s3:=s2.new (o:=.dK []) hp;have X3:=X.same s3;refine⟨aA,p,_,rfl,rfl,X3.az.2,ae,_,rfl,?_⟩;generalize upd H2 p (.dK [])=H3 at s3 X3 ⊢;have lst:∀(t:Addr),H3 t=none->Q (.ref t) (upd H3 t (.tup [V.str (ar "take"),.int (x / 4 % ((es.length:Int)+3) - 1)])):=λt ht=>by
   have x0:0<=x / 4 % ((es.length:Int)+3):=akE _ (by omega)
   have x1:x / 4 % ((es.length:Int)+3) < (es.length:Int)+3:=akr _ (by omega)
   exact num (ar "take") [x / 4 % ((es.length:Int)+3) - 1] H3 t (.take (by omega) (by omega)) s3 ht
  have wl:=X3.wait.len;have MC:=G1 st.az ws wl;have hlen:(a9 ((st.az.map (·.1)).zip ws)).length=st.az.length:=by
   have:=congrArg List.length MC;rw[cb,cb,cb]at this;exact this
  cases ea:(a9 ((st.az.map (·.1)).zip ws)).isEmpty with
  |true =>
   refine bw (bw ?_);exact⟨_,rfl,_,_,rfl,rfl,⟨by decide,by decide⟩,dgv rfl X3.gm ⟨aM,_,rfl,.inl (SqL.of X3.kX.2),_,_,rfl,rfl,_,_,rfl,rfl,(by show (0:Int) < (es.length:Int)+3;omega),_,_,rfl,rfl,(sl 2),lst⟩⟩
  |false =>
   refine dM ?_;refine⟨_,rfl,_,_,rfl,rfl,(by show (0:Int) < 4;decide),_,_,rfl,rfl,_,rfl,eQ (λ_=>?_) (λ_=>?_)⟩
   ·have a1:0 < st.az.length:=by
     rw[<-hlen];cases h:a9 ((st.az.map (·.1)).zip ws) with
     |nil=>rw[h]at ea;cases ea
     |cons _ _=>exact Nat.succ_pos _
    refine dgv rfl X3.ga ⟨aA,_,_,rfl,X3.az.2,MC,by rw[cb];omega,λl ns pm so hl=>?_⟩
    have nl:ns.length=st.az.length:=by rw[pm.length_eq,cb]
    have s4:=s3.new (o:=.lst (ns.map V.int)) hl;have X4:=X.same s4;have hB:SqL K (upd H3 l (.lst (ns.map V.int))) l (ns.map V.int):=SqL.of ae;generalize upd H3 l (.lst (ns.map V.int))=H4 at s4 X4 hB ⊢;refine hide λGg hGg=>?_
    have x0:0<=x / 4 % (st.az.length:Int):=akE _ (by omega)
    have x1:x / 4 % (st.az.length:Int) < (st.az.length:Int):=akr _ (by omega)
    obtain⟨j,ej⟩:∃j:Nat,x / 4 % (st.az.length:Int)=(j:Int):=⟨(x / 4 % (st.az.length:Int)).toNat,by omega⟩
    have hj:j < ns.length:=by omega
    have Kj:ns[j]∈st.az.map λx=>(x.1:Int):=pm.mem_iff.mp (List.getElem_mem hj)
    obtain⟨y0,hy0,e0⟩:=List.mem_map.mp Kj;obtain⟨yr,er⟩:=(I.asd y0 hy0).2.1;have hno:=I.sE hy0 y0.1 (by rw[er];exact gn)
    have e0':((y0.1:Nat):Int)=ns[j]:=e0;have at1:atI (ns.map V.int) (x / 4 % (st.az.length:Int))=some (.int ns[j]):=by
     rw[ej];exact eu (by rw[aj7,wa hj];rfl)
    refine hGg ?_;refine⟨_,rfl,_,_,rfl,rfl,⟨by decide,by decide⟩,dgv rfl X4.ga ⟨aA,_,rfl,X4.az.2,_,_,rfl,rfl,(by rw[hlen];show (0:Int) < _;omega),?_⟩⟩
    rw[hlen];refine⟨l,_,_,_,rfl,rfl,hB,at1,(sl 2),λt ht=>?_⟩
    have h1:=hno.1;have h2:=hno.2;exact num (ar "take") [ns[j]] H4 t (.take (by omega) (by omega)) s4 ht
   ·exact⟨_,rfl,_,_,rfl,rfl,⟨by decide,by decide⟩,dgv rfl X3.gm ⟨aM,_,rfl,.inl (SqL.of X3.kX.2),_,_,rfl,rfl,_,_,rfl,rfl,(by show (0:Int) < (es.length:Int)+3;omega),_,_,rfl,rfl,(sl 2),lst⟩⟩
end
end My
set_option maxHeartbeats 1000000
namespace My
open PySem L2
seal PySem.wpAny
theorem fK.free {A:Adr}{i:Nat}{W:Option (Nat×Rl)->Prop}{c c':Col}{H H':Hp}{o:Addr}{st:Ch}(h:∀r,¬W (some (i,r)))(s:Step W c c' H H')(hc:fK A i c H o st):fK A i c' H' o st:=by
 obtain⟨dx,aM,aP,aA,aD,aF,aE,aR,ms,ds,ws,fs,es,X⟩:=hc.ex;exact(X.free h s).at
def D3:Sp:=λvs H Q _=>∃c:Int,vs=[.int c]/\∀n:Int,1<=n->n<=1000000000->Q (.int n) H
section
variable{P:rf}{w:World}{K:ba}{mg:Str->Option Value}{base:Heap}{A:Adr}
theorem Kv (T:Txt w.params K mg A):aJ P w K mg base CX0 1 A.Am A.qg ["_law_cell"] D3:=by
 refine T.xB.ok JW (λvs H Q E h=>?_) (λcdv A' outer s H vs Q E hr h=>?_)
 ·obtain⟨c,rfl,_⟩:=h;rfl
 ·obtain⟨c,rfl,q⟩:=h;refine⟨_,(ai (bb (aB bu (a6 bU (pv 0) af) af (aK _))
 (aj (aI (a6 dJ af (a6 bU (a6 cI (pv 0) af) af))))
 aH)
 (aj (aI (a6 dJ af (a6 bU (a6 cI (pv 0) af) (a6 Vs af af)))))),?_⟩
  refine⟨_,rfl,_,_,rfl,rfl,(by show (0:Int) < 2;decide),rfl,_,rfl,eQ (λ_=>?_) (λ_=>?_)⟩
  ·refine⟨_,rfl,_,_,rfl,rfl,⟨by decide,by decide⟩,_,_,rfl,rfl,(by show (0:Int) < 9;decide),_,_,rfl,rfl,q _ ?_ ?_⟩ <;> omega
  ·have e:(10:Int) ^ (9:Int).toNat=1000000000:=by decide
   refine⟨_,rfl,_,_,rfl,rfl,⟨by decide,by decide⟩,_,_,rfl,rfl,⟨by decide,by decide,by decide⟩,_,_,rfl,rfl,(by rw[e];show (0:Int) < 1000000000;decide),_,_,rfl,rfl,q _ ?_ ?_⟩ <;> rw[e] <;> omega
end
end My
set_option maxHeartbeats 1000000
namespace My
open PySem L2
seal PySem.wpAny
theorem Ce {X:Cx}{K:ba}{e:Expr}{name:Str}{pos:Pos}{ta:TE}(ek:X.K=K)(he:PE X e ta)(hb:attributeBase e name X.env (eval e X.env)=eval e X.env):PE X (.Attribute e name pos)
  (λσ H Q=>ta σ H λx H1=>∃ea C d fs v,x=.ref ea/\H1 ea=some (xo ea (.ref C) (some d))/\H1 d=some (.xd fs)/\O6 K C name/\fs.lookup name=some v/\(∃z,Eu v z)/\Q v H1):=by
 subst ek;exact R1 he hb
theorem SU {st:Ch}{m:Mn}:iY st m≠some .pJ:=by
 intro h;unfold iY at h;split at h
 ·rename_i y hy;cases h;unfold sx at hy;split at hy
  ·cases hy
  ·split at hy
   ·cases hy
   ·split at hy <;> cases hy
 ·unfold jR at h;split at h
  ·split at h
   ·split at h <;> cases h
   ·cases h
  ·split at h
   ·split at h <;> cases h
   ·cases h
  ·split at h <;> cases h
  ·cases h
theorem QG {st:Ch}{d:R.fH}(h:wy d):(fA st d).1≠.exc .pJ:=by
 cases h with
 |GG =>
  rw[jU];unfold mM;split
  ·exactλz=>nomatch z
  ·split <;> exactλz=>nomatch z
 |drop =>
  rw[jV];unfold nD;split <;> exactλz=>nomatch z
 |take =>
  rw[jW];unfold stepT;split
  ·split
   ·exactλz=>nomatch z
   ·split <;> exactλz=>nomatch z
  ·exactλz=>nomatch z
 |move h =>
  rw[jX h];unfold nF;split
  ·rename_i x hx;intro z;have z':Rs.exc x=Rs.exc .pJ:=z;cases z';exact SU hx
  ·exactλz=>nomatch z
def Fy (A:Adr)(i:Nat):Sp:=λvs H Q _=>∃(o t:Addr) (c:Col) (st:Ch) (N:Nat) (d:R.fH),vs=[.ref o,.ref t]/\fK A i c H o st/\Inv N st/\N<=800/\wy d/\qK i c H d t /\
 ∀c' H' u,Step (dZ i) c c' H H'->fK A i c' H' o (fA st d).2->c' u=none->H' u=some (.tup (rsT (fA st d).1))->Q (.ref u) H'
theorem xe {K:ba}{C C' D:Value}{b:Bool}(e:C=C')(h:de K C' D=some b):de K C D=some b:=by rw[e];exact h
theorem xoe {H:Hp}{ea:Addr}{C C':Value}{e e':Option Addr}(h:C=C')(h':e=e'):upd H ea (xo ea C e) ea=some (xo ea C' e'):=by rw[h,h'];exact ae
theorem SV {tb:TSX}{th:THX}{D:Ends}{E:SXK}{σ:St}{H:Hp}(J:SXK->Prop)(hE:J (λσ' C e H'=>th D E σ' C e H'))(h:∀E1,J E1->tb D E1 σ H):OW tb th D E σ H:=h _ hE
theorem Nx {ts:TS}{t2:TSX}{D:Ends}{E:SXK}{σ:St}{H:Hp}(h:ts { D with nx:=t2 D E } σ H):LV (JN ts) t2 D E σ H:=h
theorem ahR {t1 t2:TSX}{D:Ends}{E:SXK}{σ:St}{H:Hp}(h:t1 { D with nx:=t2 D E } E σ H):LV t1 t2 D E σ H:=h
theorem abp {v:V}{i:Nat}{D:Ends}{σ:St}{H:Hp}(h:D.nx (σ.set i (some v)) H):RC (tC v) (iZ i) D σ H:=h
section
variable{P:rf}{w:World}{K:ba}{mg:Str->Option Value}{base:Heap}{A:Adr}
theorem G4 (T:Txt w.params K mg A){i:Nat}:aJ P w K mg base (CXX P w) 8 A.vG A.mj ["_law_chamber","_law_deed_here"] (Fy A i):=by
 have Cg:aJ P w K mg base (CXX P w) 6 A.cv A.iA ["self","ayes","noes"] (Qf A i):=SA T;have Ci:aJ P w K mg base (CXX P w) 6 A.cw A.iB ["self"] (Qg A i):=SE T;have Cj:aJ P w K mg base (CXX P w) 6 A.cx A.iC ["self","number"] (Qh A i):=SG T;have Ck:aJ P w K mg base (CXX P w) 7 A.cq A.iz ["self","told"] (Qj A i):=SI T;refine T.xA.okX cL (λvs H Q E h=>?_) (λcdv A' outer s H vs Q E hr h=>?_)
 ·obtain⟨o,t,c,st,N,d,rfl,_⟩:=h;rfl
 ·obtain⟨o,t,c,st,N,d,rfl,hc,I,hN,hd,hdc,q⟩:=h;obtain⟨dx,aM,aP,aA,aD,aF,aE,aR,ms,ds,ws,fs,es,X⟩:=hc.ex;have y7:Room 6 _:=hr.mono (by decide)
  have y9:Room 6 _:=hr.mono (by decide)
  have za:Room 6 _:=hr.mono (by decide)
  have zb:Room 7 _:=hr;refine⟨_,(bc (psx (aZ (i:=2) cL.nd rfl (wt rfl) Ea))
 (bc (RZ ⟨rfl,rfl⟩ (bc (hX (aB bu (aT aU (pv 1) af (λ_ _=>rfl)) ao (aK _))
 (bE (Ad (Ae (kJ (px ao) (kJ (vp (px (pv 0)) T.au T.rV Cg y7 T.jc (pax (aa (aT aU (pv 1) af (λ_ _=>rfl)) (aa (aT aU (pv 1) af (λ_ _=>rfl)) ag)))) Ac)))))
 (vn aH))
 (bc (hX (aB bu (aT aU (pv 1) af (λ_ _=>rfl)) ao (aK _))
 (bE (Ad (Ae (kJ (px ao) (kJ (xa (px (pv 0)) T.au T.rW Ci y9 T.jd) Ac)))))
 (vn aH))
 (bc (hX (aB bu (aT aU (pv 1) af (λ_ _=>rfl)) ao (aK _))
 (bE (Ad (Ae (kJ (px ao) (kJ (vp (px (pv 0)) T.au T.rX Cj za T.je (pax (aa (aT aU (pv 1) af (λ_ _=>rfl)) ag))) Ac)))))
 (vn aH))
 (bE (Ad (Ae (kJ (px ao) (kJ (vp (px (pv 0)) T.au T.rT Ck zb T.jb (pax (aa (pv 1) ag))) Ac))))))))
 (JP (i:=3) cL.nd rfl rfl rfl T.vW (λ_=>(aj (aZ (i:=2) cL.nd rfl (wt rfl) (bg (aa ao (aa (Ce (K:=K) rfl (pv 3) rfl) ag)))))) (oO rfl T.uz (λ_=>(aj (aZ (i:=2) cL.nd rfl (wt rfl) (bg (aa ao (aa af ag)))))) (oO rfl T.uA (λ_=>(aj (aZ (i:=2) cL.nd rfl (wt rfl) (bg (aa ao (aa af ag)))))) (oO rfl T.E2 (λ_=>(aj (aZ (i:=2) cL.nd rfl (wt rfl) (bg (aa ao (aa af ag)))))) (JP (i:=3) cL.nd rfl rfl rfl T.uB (λ_=>(aj (aZ (i:=2) cL.nd rfl (wt rfl) (bg (aa ao (aa (Ce (K:=K) rfl (pv 3) rfl) ag)))))) (oO rfl T.xC (λ_=>(aj (aZ (i:=2) cL.nd rfl (wt rfl) (bg (aa ao (aa af ag)))))) (oO rfl T.xD (λ_=>(aj (aZ (i:=2) cL.nd rfl (wt rfl) (bg (aa ao (aa af ag)))))) (oO rfl T.xE (λ_=>(aj (aZ (i:=2) cL.nd rfl (wt rfl) (bg (aa ao (aa af ag)))))) (JP (i:=3) cL.nd rfl rfl rfl T.Bv (λ_=>(aj (aZ (i:=2) cL.nd rfl (wt rfl) (bg (aa ao (aa (Ce (K:=K) rfl (pv 3) rfl) ag)))))) (RY ⟨rfl,rfl⟩)))))))))))
 (bE (psx (aI (pv 2)))))),?_⟩
  have fin:∀(c1:Col) (H1:Hp) (p:Addr),Step (dZ i) c c1 H H1->fK A i c1 H1 o (fA st d).2->H1 p=none->Q (.ref p) (upd H1 p (.tup (rsT (fA st d).1))):=λc1 H1 p s1 hc1 hp =>
   q (ay c1 p none) _ p (s1.trans (Step.new aO hp)) (hc1.free (W:=λ_=>False) (λ_=>id) (Step.new id hp)) aV ae
  clear q;have hok:=GH I hN hd;have hno:=QG (st:=st) hd;have lkb:∀b:Int,([(ar "bar",V.int b)]:List (Str×V)).lookup (ar "bar")=some (V.int b):=λb=>by rw[akW];rfl
  have lks:∀b:Int,([(ar "sitting",V.int b)]:List (Str×V)).lookup (ar "sitting")=some (V.int b):=λb=>by rw[akW];rfl
  refine Nx (abp ?_);dsimp only;refine ahR (SV (λE1=>∀(x:Xc) (c1:Col) (H1:Hp) (C:Value) (e:Option Addr),Step (dZ i) c c1 H H1->fK A i c1 H1 o (fA st d).2->(fA st d).1=.exc x->x.At A H1 C e->E1 [some (.ref o),some (.ref t),some .non,none] C e H1) ?hE (λE1 hE1=>?b))
  case hE =>
   intro x c1 H1 C e s1 hc1 ex hat;rw[ex]at fin hok;cases x with
   |sj b =>
    refine hide λGg hGg=>?_
    obtain⟨a,ee,ha⟩:=hat.2;refine hGg ?_;exact⟨true,xe hat.1 T.jq11,dM (λea hea=>⟨_,rfl,ea,A.cT,a,_,.int b,rfl,xoe hat.1 ee,(aq (aG ha hea)).trans ha,T.DH,lkb b,⟨_,.int (l5 hok.1 hok.2)⟩,(sl 2),λp hp=>⟨_,rfl,fin (ay c1 ea none) _ p (s1.trans (Step.new aO hea)) (hc1.free (W:=λ_=>False) (λ_=>id) (Step.new id hea)) hp⟩⟩)⟩
   |mI =>
    exact⟨false,xe hat.1 T.jqw,bw ⟨true,xe hat.1 T.jqf,dM (⟨(sl 2),λp hp=>⟨_,rfl,fin c1 H1 p s1 hc1 hp⟩⟩)⟩⟩
   |noChange =>
    exact⟨false,xe hat.1 T.jqx,bw ⟨false,xe hat.1 T.jqg,bw ⟨true,xe hat.1 T.jqh,dM (⟨(sl 2),λp hp=>⟨_,rfl,fin c1 H1 p s1 hc1 hp⟩⟩)⟩⟩⟩
   |noFit =>
    exact⟨false,xe hat.1 T.jq19,bw ⟨false,xe hat.1 T.jqO,bw ⟨false,xe hat.1 T.jqP,bw ⟨true,xe hat.1 T.jq1j,dM (⟨(sl 2),λp hp=>⟨_,rfl,fin c1 H1 p s1 hc1 hp⟩⟩)⟩⟩⟩⟩
   |mJ b =>
    refine hide λGg hGg=>?_
    obtain⟨a,ee,ha⟩:=hat.2;refine hGg ?_;exact⟨false,xe hat.1 T.jqE,bw ⟨false,xe hat.1 T.jqi,bw ⟨false,xe hat.1 T.jqj,bw ⟨false,xe hat.1 T.jqT,bw ⟨true,xe hat.1 T.jqk,dM (λea hea=>⟨_,rfl,ea,A.bX,a,_,.int b,rfl,xoe hat.1 ee,(aq (aG ha hea)).trans ha,T.yB,lks b,⟨_,.int (l5 hok.1 hok.2)⟩,(sl 2),λp hp=>⟨_,rfl,fin (ay c1 ea none) _ p (s1.trans (Step.new aO hea)) (hc1.free (W:=λ_=>False) (λ_=>id) (Step.new id hea)) hp⟩⟩)⟩⟩⟩⟩⟩
   |nothing =>
    exact⟨false,xe hat.1 T.jqQ,bw ⟨false,xe hat.1 T.jqm,bw ⟨false,xe hat.1 T.jqn,bw ⟨false,xe hat.1 T.jqY,bw ⟨false,xe hat.1 T.jqo,bw ⟨true,xe hat.1 T.jqy,dM (⟨(sl 2),λp hp=>⟨_,rfl,fin c1 H1 p s1 hc1 hp⟩⟩)⟩⟩⟩⟩⟩⟩
   |tooMany =>
    exact⟨false,xe hat.1 T.jqR,bw ⟨false,xe hat.1 T.jqp,bw ⟨false,xe hat.1 T.jqq,bw ⟨false,xe hat.1 T.jqZ,bw ⟨false,xe hat.1 T.jqr,bw ⟨false,xe hat.1 T.jqz,bw ⟨true,xe hat.1 T.jqA,dM (⟨(sl 2),λp hp=>⟨_,rfl,fin c1 H1 p s1 hc1 hp⟩⟩)⟩⟩⟩⟩⟩⟩⟩
   |tX =>
    exact⟨false,xe hat.1 T.jqS,bw ⟨false,xe hat.1 T.jqs,bw ⟨false,xe hat.1 T.jqt,bw ⟨false,xe hat.1 T.jq10,bw ⟨false,xe hat.1 T.jqu,bw ⟨false,xe hat.1 T.jqB,bw ⟨false,xe hat.1 T.jqC,bw ⟨true,xe hat.1 T.jqD,dM (⟨(sl 2),λp hp=>⟨_,rfl,fin c1 H1 p s1 hc1 hp⟩⟩)⟩⟩⟩⟩⟩⟩⟩⟩
   |BP b =>
    refine hide λGg hGg=>?_
    obtain⟨a,ee,ha⟩:=hat.2;refine hGg ?_;exact⟨false,xe hat.1 T.jq12,bw ⟨false,xe hat.1 T.jqF,bw ⟨false,xe hat.1 T.jqG,bw ⟨false,xe hat.1 T.jq1a,bw ⟨false,xe hat.1 T.jqH,bw ⟨false,xe hat.1 T.jqU,bw ⟨false,xe hat.1 T.jqV,bw ⟨false,xe hat.1 T.jqW,bw ⟨true,xe hat.1 T.jq13,dM (λea hea=>⟨_,rfl,ea,A.dh,a,_,.int b,rfl,xoe hat.1 ee,(aq (aG ha hea)).trans ha,T.DI,lks b,⟨_,.int (l5 hok.1 hok.2)⟩,(sl 2),λp hp=>⟨_,rfl,fin (ay c1 ea none) _ p (s1.trans (Step.new aO hea)) (hc1.free (W:=λ_=>False) (λ_=>id) (Step.new id hea)) hp⟩⟩)⟩⟩⟩⟩⟩⟩⟩⟩⟩
   |pJ=>exact absurd ex hno
  case b =>
  clear hok hno lkb lks;cases hd
  case' GG a b ha hb =>
   rw[jU]at fin hE1;have ht:SqT K H t [.str (ar "vote"),.int a,.int b]:=SqT.of hdc.2;refine ixv rfl ht rfl ⟨rfl,tst (by decide +kernel) ?_⟩
   refine mtv rfl X.ob (dE (by decide +kernel)) (ixv rfl ht rfl (ixv rfl ht rfl ⟨o,a,b,c,st,N,rfl,hc,I,hN,ha,hb,?_⟩))
   generalize mM st a b=rs at fin hE1 ⊢
  case' drop =>
   rw[jV]at fin hE1;have ht:SqT K H t [.str (ar "drop")]:=SqT.of hdc.2;refine ixv rfl ht rfl ⟨rfl,tsf (by decide +kernel) (ixv rfl ht rfl ⟨rfl,tst (by decide +kernel) ?_⟩)⟩
   refine mtv rfl X.ob (dE (by decide +kernel)) ⟨o,c,st,N,rfl,hc,I,hN,?_⟩
   generalize nD st=rs at fin hE1 ⊢
  case' take z h0 h1 =>
   rw[jW]at fin hE1;have ht:SqT K H t [.str (ar "take"),.int z]:=SqT.of hdc.2;refine ixv rfl ht rfl ⟨rfl,tsf (by decide +kernel) (ixv rfl ht rfl ⟨rfl,tsf (by decide +kernel) (ixv rfl ht rfl ⟨rfl,tst (by decide +kernel) ?_⟩)⟩)⟩
   refine mtv rfl X.ob (dE (by decide +kernel)) (ixv rfl ht rfl ⟨o,z,c,st,N,rfl,hc,I,hN,h0,h1,?_⟩)
   generalize stepT st z.toNat=rs at fin hE1 ⊢
  case' move hm =>
   refine hide λGg hGg=>?_
   rw[jX hm]at fin hE1;obtain⟨v,ht,_,_⟩:=wu hm hdc;have k8:=(eK d).k8;refine hGg ?_;refine ixv rfl (SqT.of ht.2) d5 ⟨rfl,tsf (QA _ k8) (ixv rfl (SqT.of ht.2) d5 ⟨rfl,tsf (QB _ k8) (ixv rfl (SqT.of ht.2) d5 ⟨rfl,tsf (QC _ k8) ?_⟩)⟩)⟩;refine mtv rfl X.ob (dE (by decide +kernel)) ⟨_,rfl,o,t,c,st,N,d,rfl,hc,I,hN,hm,hdc,?_⟩
   generalize nF st (eK d) (R.r8 d)=rs at fin hE1 ⊢
  all_goals
   obtain⟨r,st'⟩:=rs;cases r with
   |num n=>exactλc1 H1 s1 hc1=>⟨(sl 2),λp hp=>fin c1 H1 p s1 hc1 hp⟩
   |txt z=>exactλc1 H1 s1 hc1=>⟨(sl 2),λp hp=>fin c1 H1 p s1 hc1 hp⟩
   |exc x=>exactλc1 H1 C e s1 hc1 hat _=>hE1 x c1 H1 C e s1 hc1 rfl hat
theorem Kw (T:Txt w.params K mg A){i:Nat}:aJ P w K mg base CX0 8 A.vG A.mj ["_law_chamber","_law_deed_here"] (Fy A i) :=
 (G4 T).calm λ_ _ _ _ h=>h
end
end My
set_option maxHeartbeats 1000000
namespace My
open PySem L2
seal PySem.wpAny
mutual
theorem DV.same {K:ba}{H H':Hp}(s:bA H H'):∀(d:PyData) {x:V},DV K H d x->DV K H' d x
 | .none,_,h=>by unfold DV at h ⊢;exact h
 | .bool _,_,h=>by unfold DV at h ⊢;exact h
 | .int _,_,h=>by unfold DV at h ⊢;exact h
 | .str _,_,h=>by unfold DV at h ⊢;exact h
 | .list ds,_,h=>by
  unfold DV at h ⊢;obtain⟨a,xs,e,h1,h2⟩:=h;exact⟨a,xs,e,s.seq h1,DVs.same s ds h2⟩
 | .tuple ds,_,h=>by
  unfold DV at h ⊢;obtain⟨a,xs,e,h1,h2⟩:=h;exact⟨a,xs,e,bV s h1,DVs.same s ds h2⟩
 | .dict _,_,h=>by unfold DV at h;exact h.elim
theorem DVs.same {K:ba}{H H':Hp}(s:bA H H'):∀(ds:List PyData) {xs:List V},DVs K H ds xs->DVs K H' ds xs
 |[],_,h=>by unfold DVs at h ⊢;exact h
 |d::ds,_,h=>by
  unfold DVs at h ⊢;obtain⟨x,r,e,h1,h2⟩:=h;exact⟨x,r,e,DV.same s d h1,DVs.same s ds h2⟩
end
theorem t5 {d:PyData}(h1:d.canLay0=true)(h2:d.depth<=64):SeqAt.shaped d=true:=by
 show (d.canLay0 && decide (d.depth<=64))=true;rw[h1,decide_eq_true h2];rfl
theorem t6 {α:Type}{f:α->PyData}{k:Nat}(h:∀x,akk (f x)<=k):∀xs:List α,aj1 (xs.map f)<=k
 |[]=>by simp only[akj,aj1];omega
 |x::xs=>by
  have h1:=h x;have h2:=t6 h xs;simp only[kj,aj1];omega
theorem Av {α:Type}{f:α->PyData}:∀ {xs:List α},(∀x∈xs,(f x).canLay0=true)->me (xs.map f)=true
 |[],_=>by simp only[akj,me]
 |x::xs,h=>by
  simp only[kj,me,h x gn,Av λy hy=>h y (kq _ hy),akb]
theorem G5 (ns:List Nat):(fw ns).canLay0=true:=by
 unfold fw;simp only[ajN];exact Av λn _=>by simp only[ajN]
theorem G6 (ns:List Nat):(fw ns).depth<=2:=by
 unfold fw;have:=t6 (f:=λn:Nat=>PyData.int (n:Int)) (k:=0) (λn=>by simp only[akk];omega) ns
 simp only[akk];omega
theorem WJ (x:Nat×Int×List Nat):(asD x).canLay0=true:=by
 unfold asD;simp only[ajN,me,G5,akb]
theorem WK (x:Nat×Int×List Nat):(asD x).depth<=10:=by
 have:=G6 x.2.2;unfold asD;simp only[akk,aj1];omega
theorem WL (x:Nat×Str):(dcD x).depth<=10:=by
 unfold dcD;simp only[akk,aj1];omega
theorem Kx {N:Nat}{st:Ch}(I:Inv N st)(ns:List Int):(stD st ns).canLay0=true:=by
 have h1:me (ns.map λn=>asD (xW st n))=true:=Av λn _=>WJ _
 have h2:me (st.decided.map dcD)=true:=Av λx hx=>by
  unfold dcD;simp only[ajN,me,I.dw x hx,akb]
 unfold stD;simp only[ajN,me,G5,h1,h2,akb]
theorem QH (st:Ch)(ns:List Int):(stD st ns).depth<=64:=by
 have h0:=G6 st.aw;have h1:=t6 (f:=λn=>asD (xW st n)) (k:=10) (λn=>WK _) ns
 have h2:=t6 (f:=dcD) (k:=10) WL st.decided;unfold stD;simp only[akk,aj1];omega
theorem QI:∀k,ajZ (kn k)=true
 | 0=>by decide +kernel
 | 1=>by decide +kernel
 |_+2=>by show ajZ (ar "turn")=true;decide +kernel
theorem QJ {e:Ed}(h:ajZ e.th=true):(edD e).canLay0=true:=by
 have h0:=QI 0;have h1:=QI 1;have h2:=QI 2;unfold edD;split <;> simp only[ajN,me,h,h0,h1,h2,akb]
theorem QK (e:Ed):(edD e).depth<=10:=by
 unfold edD;split <;> simp only[akk,aj1] <;> omega
theorem QL {tx:List Str}(h:∀x∈tx,ajZ x=true):(PyData.list (tx.map alc)).canLay0=true:=by
 simp only[ajN];exact yn tx h
theorem QM (tx:List Str):(PyData.list (tx.map alc)).depth<=10:=by
 have:=AH tx;simp only[akk];omega
theorem QN {N:Nat}:∀ {m:Mn},MOk N m->(mnD m).canLay0=true
 | .mat tx,h=>by
  have h0:=yC 0 (by decide)
  have h1:=QL h.2;unfold mnD;simp only[ajN,me]at h1 ⊢;simp only[h0,h1,akb]
 | .chg e,h=>by
  have h0:=yC 1 (by decide)
  have h1:=QJ (EdB.str h);unfold mnD;simp only[ajN,me,h0,h1,akb]
 | .mnd e,h=>by
  have h0:=yC 2 (by decide)
  have h1:=QJ (EdB.str h.1);unfold mnD;simp only[ajN,me,h0,h1,akb]
 | .off u,_=>by
  have h0:=yC 3 (by decide)
  unfold mnD;simp only[ajN,me,h0,akb]
 | .cls,_=>by
  have h0:=yC 4 (by decide)
  unfold mnD;simp only[ajN,me,h0,akb]
 | .lay,_=>by
  have h0:=yC 5 (by decide)
  unfold mnD;simp only[ajN,me,h0,akb]
 | .rst,_=>by
  have h0:=yC 6 (by decide)
  unfold mnD;simp only[ajN,me,h0,akb]
 | .pnt z,h=>by
  have h0:=yC 7 (by decide)
  have h1:ajZ z=true:=h;unfold mnD;simp only[ajN,me,h0,h1,akb]
theorem WM (m:Mn):(mnD m).depth<=64:=by
 cases m with
 |mat tx =>
  have:=QM tx;unfold mnD;simp only[akk,aj1]at this ⊢;omega
 |chg e =>
  have:=QK e;unfold mnD;simp only[akk,aj1];omega
 |mnd e =>
  have:=QK e;unfold mnD;simp only[akk,aj1];omega
 |_=>unfold mnD;simp only[akk,aj1];omega
theorem yJ:∀ {xs ys:List Int},ala xs ys->xs.Pairwise (·<=·)->ys.Pairwise (·<=·)->xs=ys
 |[],ys,p,_,_=>(List.Perm.nil_eq p)
 |x::xs,[],p,_,_=>absurd p.length_eq (by simp)
 |x::xs,y::ys,p,hx,hy=>by
  obtain⟨x1,x2⟩:=List.pairwise_cons.mp hx;obtain⟨y1,y2⟩:=List.pairwise_cons.mp hy;have e:x=y:=by
   have a:x∈y::ys:=p.mem_iff.mp gn;have b:y∈x::xs:=p.mem_iff.mpr gn;rcases List.mem_cons.mp a with a | a
   ·exact a
   ·rcases List.mem_cons.mp b with b | b
    ·exact b.symm
    ·exact Int.le_antisymm (x1 y b) (y1 x a)
  subst e;rw[yJ (List.perm_cons x |>.mp p) x2 y2]
theorem MnT.dv {K:ba}{c:Col}{H:Hp}{m:Mn}{t:Addr}(h:MnT c H m t):DV K H (mnD m) (.ref t):=by
 obtain⟨_,v,ht,hv⟩:=h
 by_cases h0:m.k=0
 ·obtain⟨tx,rfl⟩:∃tx,m=.mat tx:=by cases m <;> first | exact⟨_,rfl⟩ | exact absurd h0 (by simp[Mn.k])
  obtain⟨p,rfl,hp⟩:=hv;unfold mnD DV;refine⟨t,_,rfl,SqT.of ht,?_⟩;unfold DVs;refine⟨_,_,rfl,by unfold DV;rfl,?_⟩
  unfold DVs;exact⟨_,_,rfl,LS (SqL.of hp.2),by unfold DVs;rfl⟩
 ·exact Qm (by omega) hv (SqT.of ht)
def rsP:Rs->PyData
 | .num n=>.tuple [.str (ar "told"),.int (n:Int)]
 | .txt z=>.tuple [.str (ar "told"),.str z]
 | .exc x=>.tuple [.str (xcC x).1,.int (xcC x).2]
theorem QO {K:ba}{H:Hp}{u:Addr}{r:Rs}(h:H u=some (.tup (rsT r))):DV K H (rsP r) (.ref u):=by
 cases r with
 |num n =>
  unfold rsP DV;refine⟨u,_,rfl,SqT.of h,?_⟩;unfold DVs;refine⟨_,_,rfl,by unfold DV;rfl,?_⟩
  unfold DVs;exact⟨_,_,rfl,by unfold DV;rfl,by unfold DVs;rfl⟩
 |txt z =>
  unfold rsP DV;refine⟨u,_,rfl,SqT.of h,?_⟩;unfold DVs;refine⟨_,_,rfl,by unfold DV;rfl,?_⟩
  unfold DVs;exact⟨_,_,rfl,by unfold DV;rfl,by unfold DVs;rfl⟩
 |exc x =>
  unfold rsP DV;refine⟨u,_,rfl,SqT.of h,?_⟩;unfold DVs;refine⟨_,_,rfl,by unfold DV;rfl,?_⟩
  unfold DVs;exact⟨_,_,rfl,by unfold DV;rfl,by unfold DVs;rfl⟩
theorem MI {r:Rs}(h:abg r):(rsP r).canLay0=true:=by
 have ht:ajZ (ar "told")=true:=by decide +kernel
 cases r with
 |num n=>unfold rsP;simp only[ajN,me,ht,akb]
 |txt z =>
  have h':ajZ z=true:=h;unfold rsP;simp only[ajN,me,ht,h',akb]
 |exc x =>
  have hx:ajZ (xcC x).1=true:=by cases x <;> (show ajZ (ar _)=true) <;> decide +kernel
  unfold rsP;simp only[ajN,me,hx,akb]
theorem SW (r:Rs):(rsP r).depth<=64:=by
 cases r <;> unfold rsP <;> simp only[akk,aj1] <;> omega
def G7 (K:ba)(i:Nat):Sp:=λvs H Q _=>∃(m:Addr) (c:Col) (st:Ch),vs=[.ref m]/\jt i c H m st/\st.az.length < 64 /\
 ∀(ns:List Int) (u:Addr) (H':Hp),ala ns (st.az.map λx=>(x.1:Int))->ns.Pairwise (·<=·)->bA H H'->DV K H' (stD st ns) (.ref u)->Q (.ref u) H'
section
variable{P:rf}{w:World}{K:ba}{mg:Str->Option Value}{base:Heap}{A:Adr}
theorem Ky (T:Txt w.params K mg A){i:Nat}:aJ P w K mg base CX0 1 A.Al A.qf ["_law_m"] (G7 K i):=by
 refine T.xy.ok ux (λvs H Q E h=>?_) (λcdv A' outer s H vs Q E hr h=>?_)
 ·obtain⟨m,c,st,rfl,_⟩:=h;rfl
 ·obtain⟨m,c,st,rfl,hm,hal,q⟩:=h;obtain⟨aP,aA,aD,aM,ds,ws,es,X⟩:=hm.ex;have hu1:=hr.u1;have lim:ka=16777216:=by decide
  refine⟨_,(ai (aZ (i:=1) ux.nd rfl (wt rfl) (bQ ag))
 (ai (Az PassesOwn.never rfl (tq (ck (qa hr.hd) (by rfl) T.vQ xj (aa (aY hu1 (pv 0) ao (λ_ _=>rfl)) ag))) (j9 (i:=2) ux.nd rfl (wt rfl))
 (aj (bN (gB om ajQ ajR dq (pv 1) (aa (bg (aa (pv 2) (aa (aT aU (aY hu1 (aY hu1 (pv 0) ao (λ_ _=>rfl)) (pv 2) (λ_ _=>rfl)) af (λ_ _=>rfl)) (aa (dn c9 (by rfl) T.my kh (aa (aT aU (aY hu1 (aY hu1 (pv 0) ao (λ_ _=>rfl)) (pv 2) (λ_ _=>rfl)) af (λ_ _=>rfl)) ag)) ag)))) ag)))))
 (aj (aI (bg (aa (aY hu1 (pv 0) ao (λ_ _=>rfl)) (aa (aY hu1 (pv 0) ao (λ_ _=>rfl)) (aa (dn c9 (by rfl) T.my kh (aa (aY hu1 (pv 0) ao (λ_ _=>rfl)) ag)) (aa (pv 1) (aa (dn c9 (by rfl) T.my kh (aa (aY hu1 (pv 0) ao (λ_ _=>rfl)) ag)) ag)))))))))),?_⟩
  refine⟨akB _,λR hR=>?_⟩
  have s0:=aC (o:=.lst []) hR;have X0:=X.same s0;refine dgv rfl X0.ga ⟨aA,_,_,rfl,X0.az.2,G1 st.az ws X.wait.len,by rw[cb];exact hal,λl ns pm so hl=>⟨l,rfl,⟨_,SqL.of ae⟩,?_⟩⟩
  have nl:ns.length=st.az.length:=by rw[pm.length_eq,cb]
  have nRl:R≠l:=aG ae hl;refine AA (K:=K) (a:=l) (xs:=ns.map V.int) (λj σ H2=>∃(ys:List V) (v2:Option V),σ=[some (.ref m),some (.ref R),v2]/\bA H H2/\H2 l=some (.lst (ns.map V.int))/\H2 R=some (.lst ys)/\bJ (y6 H2 R) ((ns.take j).map (xW st)) ys)
   ⟨[],_,rfl,s0.new hl,ae,(aq nRl).trans ae,.nil⟩ (λj σ H2 _ ⟨_,_,_,_,h,_⟩=>SqL.of h) ?_ ?_
  ·rintro j y σ H2 hy ⟨ys,v2,rfl,s2,hl2,hR2,ha⟩;refine hide λGg hGg=>?_
   obtain⟨n,hn1,rfl⟩:∃n,ns[j]?=some n/\V.int n=y:=by
    rw[aj7]at hy;cases ht:ns[j]? with
    |none=>rw[ht]at hy;cases hy
    |some t=>rw[ht]at hy;exact⟨t,rfl,ajP hy⟩
   have Kj:n∈st.az.map λx=>(x.1:Int):=pm.mem_iff.mp (aka hn1)
   obtain⟨x0,hx0,e0⟩:=List.mem_map.mp Kj;obtain⟨x,hx⟩:∃x,at1 x0.1 st.az=some x:=by
    cases z:at1 x0.1 st.az with
    |some x=>exact⟨x,rfl⟩
    |none=>exact absurd (List.mem_map_of_mem hx0) (sC z)
   have e0':((x0.1:Nat):Int)=n:=e0;subst e0';have X2:=X.same s2;have ea:xW st ((x0.1:Nat):Int)=x:=by unfold xW;rw[Int.toNat_natCast,hx];rfl
   obtain⟨t,p,hv,ht,hlp⟩:=X2.waitOf hx;have yl:ys.length<=64:=by
    rw[<-ha.len,cb,akm];omega
   refine hGg ?_;refine⟨_,rfl,.inl ⟨rfl,_,SqL.of hR2⟩,_,rfl,_,rfl,m,_,rfl,X2.ga,_,rfl,aA,_,rfl,.inl ⟨_,km (x0.1:Int),.inl X2.az.2,rfl,hv.symm⟩,t,_,_,_,rfl,rfl,ht.sq,rfl,?_⟩;refine⟨_,rfl,m,_,rfl,X2.ga,_,rfl,aA,_,rfl,.inl ⟨_,km (x0.1:Int),.inl X2.az.2,rfl,hv.symm⟩,t,_,_,_,rfl,rfl,ht.sq,rfl,p,_,rfl,.inl (SqL.of hlp.2),λl3 hl3=>⟨(sl 3),λu hu=>?_⟩⟩
   have s3:=(aC (o:=.lst (x.2.2.map nV)) hl3).new (o:=.tup [nV x0.1,.int x.2.1,.ref l3]) hu;have nul:u≠l3:=λz=>by rw[z,ae]at hu;cases hu
   have hu0:H2 u=none:=by rw[aq nul]at hu;exact hu
   have nuR:u≠R:=λz=>by rw[z,hR2]at hu0;cases hu0
   have nlR:l3≠R:=λz=>by rw[z,hR2]at hl3;cases hl3
   have hR3:=s3 _ _ hR2;refine⟨R,ys,.ref u,rfl,rfl,hR3,by omega,?_⟩
   have a1:y6 (upd (upd H2 l3 (.lst (x.2.2.map nV))) u (.tup [nV x0.1,.int x.2.1,.ref l3])) R x (.ref u):=by
    refine⟨u,l3,rfl,nuR,nlR,?_,(aq (aj2 nul)).trans ae⟩;rw[(hU hx).1];exact ae
   refine⟨ys++[.ref u],_,rfl,(s2.trans s3).own hR,(aq nRl.symm).trans (s3 _ _ hl2),ae,?_⟩;rw[List.take_succ,hn1,kx];refine bJ.snoc (ha.imp λ_ _ z=>(z.same s3).upd) ?_
   rw[ea];exact a1.upd
  ·rintro σ H2 ⟨ys,v2,rfl,s02,hl2,hR2,ha⟩;rw[cb,ak7]at ha;have X2:=X.same s02;refine dgv rfl X2.gs (dgv rfl X2.gc (dgv rfl X2.gp ⟨aP,_,rfl,.inl (SqL.of X2.aw.2),λl1 hl1=>?_⟩))
   have s3:=aC (o:=.lst (st.aw.map nV)) hl1;have X3:=X2.same s3;refine⟨_,rfl,dgv rfl X3.gd ⟨aD,_,rfl,.inl (SqL.of X3.dec.2),λl2 hl2=>⟨(sl 5),λu hu=>?_⟩⟩⟩
   have s4:=aC (o:=.lst (ds.map V.ref)) hl2;have s5:=aC (o:=.tup [V.int st.aN,.bl st.closed,.ref l1,.ref R,.ref l2]) hu;refine q ns u _ pm so (((s02.trans s3).trans s4).trans s5) ?_;have X5:=X3.same (s4.trans s5);unfold stD DV;refine⟨u,_,rfl,SqT.of ae,?_⟩;unfold DVs;refine⟨_,_,rfl,by unfold DV;rfl,?_⟩
   unfold DVs;refine⟨_,_,rfl,by unfold DV;rfl,?_⟩
   unfold DVs;refine⟨_,_,rfl,js (SqL.of ((s4.trans s5) _ _ ae)),?_⟩;unfold DVs;refine⟨_,_,rfl,?_,?_⟩
   ·unfold DV;refine⟨R,ys,rfl,SqL.of (((s3.trans s4).trans s5) _ _ hR2),?_⟩;rw[show (ns.map λn=>asD (xW st n))=(ns.map (xW st)).map asD by rw[List.map_map];rfl]
    exact bJ.dvs (λx v h=>h.dv) (ha.imp λ_ _ z=>z.same ((s3.trans s4).trans s5))
   ·unfold DVs;refine⟨_,_,rfl,?_,by unfold DVs;rfl⟩
    unfold DV;refine⟨l2,_,rfl,SqL.of (s5 _ _ ae),?_⟩;refine bJ.dvs (R:=λ(x:Nat×Str) v=>∃t,v=.ref t/\TupAt c _ t [nV x.1,.str x.2]) ?_ (bJ.mapR (X5.lN.imp λx t h=>⟨t,rfl,h⟩))
    rintro x v ⟨t,rfl,h⟩;unfold dcD DV;refine⟨t,_,rfl,h.sq,?_⟩;unfold DVs;refine⟨_,_,rfl,by unfold DV;rfl,?_⟩
    unfold DVs;exact⟨_,_,rfl,by unfold DV;rfl,by unfold DVs;rfl⟩
end
end My
set_option maxHeartbeats 1000000
namespace My
open PySem L2
seal PySem.wpAny
theorem SX (n:Int):Inv 0 (Mz n) :=
 ⟨kr 0,kr 0,kr 0,kr 0,(λ_ h=>nomatch h),⟨by show (1:Int)<=1;decide,by show (1:Int)<=_;decide⟩,(λ_ h=>nomatch h),(λ_ h=>nomatch h),List.nodup_nil,.nil,(λ_ h=>nomatch h),rfl,rfl,(λ_ h=>nomatch h)⟩
theorem SY (xs:List V):(gy xs (some 1) (some 63)).length<=62:=by
 unfold gy;rw[show (1:Int)=((1:Nat):Int) from rfl,show (63:Int)=((63:Nat):Int) from rfl,HT.vf,HT.vf,akm,akV]
 omega
theorem Ny {W:Option (Nat×Rl)->Prop}(n:¬W none){c c':Col}{H1 H2:Hp}{x dx:Addr}{o:HO}(hx:H1 x=none)(hdx:H1 dx=none)(hk:∀a v,(upd (upd H1 dx (.own x)) x o) a=some v->a≠x->H2 a=some v/\c' a=c a):Step W c c' H1 H2:=by
 have old:∀a v,H1 a=some v->H2 a=some v/\c' a=c a:=λa v h =>
  hk a v ((aq (aG h hx)).trans ((aq (aG h hdx)).trans h)) (aG h hx)
 exact⟨n,λa v h _=>(old a v h).1,λa v h=>⟨v,(old a v h).1⟩,λa v h _=>(old a v h).2⟩
theorem jt.other {i j:Nat}(n:i≠j){c c':Col}{H H':Hp}{m:Addr}{st:Ch}(s:Step (dZ j) c c' H H')(h:jt i c H m st):jt i c' H' m st:=h.free (λr=>BK n r) s
theorem G8 (st:Ch)(m:Mn):(st.carry m).cJ=st.cJ:=by
 unfold Ch.carry;split
 ·split
  ·split <;> rfl
  ·rfl
 ·split
  ·split <;> rfl
  ·rfl
 ·split <;> rfl
 ·rfl
 ·split <;> rfl
 ·rfl
 ·rfl
theorem wA (st:Ch):st.opened.cJ=st.cJ:=by unfold Ch.opened;rfl
theorem G9 {st:Ch}{d:R.fH}(h:wy d):(fA st d).2.cJ=st.cJ:=by
 cases h with
 |GG =>
  rw[jU];unfold mM;split
  ·rfl
  ·split
   ·rfl
   ·show ((if _ then _ else _:Ch).uJ _).cJ=_
    unfold Ch.uJ;rw[show ∀(x:Ch) (r:List Str),({ x.opened with rows:=r }:Ch).cJ=x.opened.cJ from λ_ _=>rfl,wA]
    split
    ·rw[G8];rfl
    ·rfl
 |drop =>
  rw[jV];unfold nD;split
  ·rfl
  ·show ((_:Ch).uJ _).cJ=_;unfold Ch.uJ;rw[show ∀(x:Ch) (r:List Str),({ x.opened with rows:=r }:Ch).cJ=x.opened.cJ from λ_ _=>rfl,wA]
   rfl
 |take =>
  rw[jW];unfold stepT;split
  ·split
   ·rfl
   ·split <;> rfl
  ·rfl
 |move h =>
  rw[jX h];unfold nF;split <;> rfl
theorem S0 {X:Cx}(hu:X.A.units+64 < cLine):OpR X (akG .NotEq) (λx y H Q=>∃a b xs,x=.ref a/\y=.ref b/\SqL X.K H a xs/\SqL X.K H b []/\Q (.bl (!xs.isEmpty)) H):=by
 intro pins s σ H x y v u Q I rx ry h;obtain⟨a,b,xs,rfl,rfl,ha,hb,q⟩:=h;cases xs with
 |nil =>
  have d1:DV X.K H (.list []) (.ref a):=by unfold DV;exact⟨a,[],rfl,ha,by unfold DVs;rfl⟩
  have d2:DV X.K H (.list []) (.ref b):=by unfold DV;exact⟨b,[],rfl,hb,by unfold DVs;rfl⟩
  obtain⟨as,r1⟩:=DV.reads I _ d1 rx;obtain⟨bs,r2⟩:=DV.reads I _ d2 ry;exact PyProof.Rows.ne_dataH r1 r2 rfl rfl hu ⟨.bl _,H,I,rfl,q⟩
 |cons x0 r0 =>
  cases rx;cases ry;obtain⟨i1,r1,p1,z1⟩:=I.list ha;obtain⟨i2,r2,p2,z2⟩:=I.list hb;have l1:=r1.length;have l2:=r2.length;exact PySem.EqBoolInt.of_rcne (PySem.SeqAt.RcNeAt.lists_lengths p1.isList p2.isList (by simp only[ko];rw[<-l1,<-l2];rfl) (by omega)) ⟨.bl _,H,I,rfl,q⟩
structure Base (A:Adr)(l o m:Addr)(cs:List V)(c:Col)(H:Hp)(st:Ch):Prop where
 cl:c l=none
 hl:H l=some (.lst cs)
 one:fK A 1 c H o st
 two:jt 2 c H m st
theorem Base.free {A:Adr}{l o m:Addr}{cs:List V}{c c':Col}{H H':Hp}{st:Ch}{W:Option (Nat×Rl)->Prop}(h1:∀r,¬W (some (1,r)))(h2:∀r,¬W (some (2,r)))(s:Step W c c' H H')(b:Base A l o m cs c H st):Base A l o m cs c' H' st :=
 ⟨(qM s b.cl b.hl).1,(qM s b.cl b.hl).2,b.one.free h1 s,b.two.free h2 s⟩
def MJ (K:ba):Sp:=λvs H Q _=>∃(a:Addr) (ns:List Int),vs=[.ref a]/\SqL K H a (ns.map V.int)/\ns.length<=63/\∀H',Q (.bl true) H'
theorem WN {K:ba}{H:Hp}{st:Ch}{ns:List Int}{u:Addr}(h:DV K H (stD st ns) (.ref u)):∃r,SqT K H u (.int st.aN::.bl st.closed::r):=by
 unfold stD DV at h;obtain⟨a,xs,e,hq,hs⟩:=h;cases e;unfold DVs at hs;obtain⟨x0,r0,rfl,h0,hs⟩:=hs;unfold DVs at hs;obtain⟨x1,r1,rfl,h1,hs⟩:=hs;unfold DV at h0 h1;subst h0;subst h1;exact⟨r1,hq⟩
section
variable{P:rf}{w:World}{K:ba}{mg:Str->Option Value}{base:Heap}{A:Adr}
set_option maxHeartbeats 20000000 in
theorem WO {f:Addr}{fd:ki}(F:Fun K "law" "law" vz f fd)(T:Txt w.params K mg A):aJ P w K mg base CX0 20 f fd ["_law_script"] (MJ K):=by
 have Hb:aJ P w K mg base CX0 1 A.tK A.lG ["_law_script","_law_k"] (Qp K):=Fu T;have Nz:aJ P w K mg base CX0 1 A.Am A.qg ["_law_cell"] D3:=Kv T;have S1:aJ P w K mg base CX0 1 A.LZ A.vC [] MD:=QE T;have QP:aJ P w K mg base CX0 3 A.EO A.tR ["_law_m","_law_cell","_law_seats_here"] (GZ 2):=Nv T;have S2:aJ P w K mg base CX0 5 A.L3 A.vE ["_law_m","_law_deed_here","_law_seats_here"] (Ug 2):=QD T;have NA:aJ P w K mg base CX0 8 A.vG A.mj ["_law_chamber","_law_deed_here"] (Fy A 1):=Kw T;have NB:aJ P w K mg base CX0 1 A.Al A.qf ["_law_m"] (G7 K 2):=Ky T;have eN:aJ P w K mg base CX0 1 A.ue A.ig ["_law_m","_law_number"] (nI 2):=mO T;have NC:aJ P w K mg base CX0 2 A.cn A.iy ["self","seats"] (Ue A):=WA T;have qO:aJ P w K mg base CX0 2 A.b6 A.hG ["self"] (MA A K 1):=Ql T;have x8:aJ P w K mg base (CXX P w) 3 A.bO A.gu ["self","number"] (GF A K 1):=Ni T;refine F.ok rK (λvs H Q E h=>?_) (λcdv A' outer s H vs Q E hr h=>?_)
 ·obtain⟨a,ns,rfl,_⟩:=h;rfl
 ·obtain⟨a,ns,rfl,hS,hlen,q⟩:=h;have Fz:Room 1 _:=hr.mono (by decide)
  have Kz:Room 1 _:=hr.mono (by decide)
  have QQ:Room 1 _:=hr.mono (by decide)
  have ND:Room 3 _:=hr.mono (by decide)
  have QR:Room 5 _:=hr.mono (by decide)
  have KA:Room 8 _:=hr.mono (by decide)
  have KC:Room 1 _:=hr.mono (by decide)
  have dI:Room 1 _:=hr.mono (by decide)
  have KD:Room 3 _:=hr.mono (by decide)
  have pR:Room 2 _:=hr.mono (by decide)
  have wB:Room 3 _:=hr.mono (by decide)
  have hu1:=hr.u1;have mD:=hr.units;refine⟨_,(ai (aZ (i:=1) rK.nd rfl (wt rfl) (aW Nz Kz rfl T.DE T.xB.kp T.DD .nil a7 (aa (aW Hb Fz rfl T.yx T.rS.kp T.yw .nil a7 (aa (pv 0) (aa af ag))) ag)))
 (ai (aZ (i:=2) rK.nd rfl (wt rfl) (gP T.DG NC KD rfl T.DF T.ja .nil a7 (aa (pv 1) ag)))
 (ai (aZ (i:=3) rK.nd rfl (wt rfl) (Ov S1 QQ rfl T.L5 T.ET.kp T.L4 .nil a7))
 (ai (Az PassesOwn.never rfl (tq (oK vi (pv 0) (p8 af) (p8 af))) (j9 (i:=4) rK.nd rfl (wt rfl))
 (ai (aZ (i:=5) rK.nd rfl (wt rfl) (aW QP ND rfl T.Gk T.Bs.kp T.Gj .nil a7 (aa (pv 3) (aa (pv 4) (aa (pv 1) ag)))))
 (ai (aZ (i:=6) rK.nd rfl (wt rfl) (aW S2 QR rfl T.L7 T.EU.kp T.L6 .nil a7 (aa (pv 3) (aa (pv 5) (aa (pv 1) ag)))))
 (ai (bb (PW.pt (pw_or (aB (w8 mD) (aW NA KA rfl T.DC T.xA.kp T.DB .nil a7 (aa (pv 2) (aa (pv 5) ag))) (pv 6) (aK _)) (pw_or1 (aB (w8 mD) (gz (pv 2) T.au T.lu qO pR T.fP .nil a7) (aW NB KC rfl T.DA T.xy.kp T.Dz .nil a7 (aa (pv 3) ag)) (aK _)))))
 (aj (aI oH))
 aH)
 (ai (bb (rq (p6 (ck OI (by rfl) T.vP Cy (aa (aT aU (gz (pv 2) T.au T.lu qO pR T.fP .nil a7) af (λ_ _=>rfl)) (aa (RB (v:=V.ty "bool") rfl T.Pz RP rfl) ag)))))
 (aj (aI oH))
 aH)
 (aj (bb (aB (S0 mD) (aY hu1 (pv 3) ao (λ_ _=>rfl)) (bQ ag) (aK _))
 (ai (aZ (i:=7) rK.nd rfl (wt rfl) (a6 dJ af (a6 bU (a6 cI (pv 4) af) (ck c8 (by rfl) T.pE lb (aa (aY hu1 (pv 3) ao (λ_ _=>rfl)) ag)))))
 (aj (bb (aB (w8 mD) (i3 (pv 2) T.au T.pF x8 wB T.hJ .nil JM (aa (pv 7) ag)) (aW eN dI rfl T.i9 T.iD.kp T.i8 .nil a7 (aa (pv 3) (aa (pv 7) ag))) (aK _))
 (aj (aI oH))
 aH)))
 aH)))))))
 (aj (aI oH)))))),?_⟩
  have sz:ka=16777216:=by decide
  refine⟨_,rfl,a,ns,0,rfl,hS,Int.le_refl _,λfi=>⟨fi,rfl,λn n1 n2=>?_⟩⟩
  dsimp only[iZ];refine⟨_,rfl,λo d1 ho1 hd1 ne1=>⟨o,d1,n,rfl,ae,λH2 h2=>⟨rfl,?_⟩⟩⟩
  refine hide λGg hGg=>?_
  obtain⟨c1,k1,ch1⟩:=h2 1 (λ_=>none)
  have st1:Step (λ_=>False) (λ_=>none) c1 H H2:=Ny id ho1 hd1 k1
  have sm1:bA H H2:=λa v h=>st1.keep a v h id
  have hS2:=sm1.seq hS;clear k1 ho1 hd1 ne1 h2;refine hGg ?_;refine⟨rfl,λm H3 h3=>?_⟩
  refine hide λGg hGg=>?_
  obtain⟨c2,st2,md2⟩:=h3 2 c1 n;have sm2:bA H2 H3:=λa v h=>st2.keep a v h id
  have hS3:=sm2.seq hS2;have ch2:=ch1.free (λ_=>id) st2
  clear h3 hS2 st1 st2 sm1 sm2 ch1;refine hGg ?_;refine⟨_,rfl,_,rfl,_,rfl,a,_,rfl,hS3,λl hl=>⟨l,rfl,⟨_,SqL.of ae⟩,?_⟩⟩
  have hcl:=SY (ns.map V.int);have isI:∀x∈gy (ns.map V.int) (some 1) (some 63),∃z,x=V.int z:=λx hx=>by
   obtain⟨z,_,e⟩:=List.mem_map.mp (SM hx);exact⟨z,e.symm⟩
  have st3:Step (λ_=>False) c2 (ay c2 l none) H3 (upd H3 l (.lst (gy (ns.map V.int) (some 1) (some 63)))):=Step.new id hl
  have b0:Base A l o m (gy (ns.map V.int) (some 1) (some 63)) (ay c2 l none) (upd H3 l (.lst (gy (ns.map V.int) (some 1) (some 63)))) (Mz n) :=
   ⟨aV,ae,ch2.free (λ_=>id) st3,md2.free (λ_=>id) st3⟩
  generalize upd H3 l (.lst (gy (ns.map V.int) (some 1) (some 63)))=H4 at b0 ⊢;generalize ay c2 l none=c4 at b0;clear st3 ch2 md2 hS3 hl;generalize gy (ns.map V.int) (some 1) (some 63)=cs at b0 hcl isI ⊢;refine AA (K:=K) (a:=l) (xs:=cs) (λj σ Hj=>∃(v4 v5 v6 v7:Option V),σ=[some (.ref a),some (.int n),some (.ref o),some (.ref m),v4,v5,v6,v7]/\∃(c:Col) (st:Ch),Base A l o m cs c Hj st/\Inv (3 * j) st/\st.cJ=n)
   ⟨_,_,_,_,rfl,c4,_,b0,SX n,rfl⟩ (λj σ Hj _ ⟨_,_,_,_,_,_,_,b,_⟩=>SqL.of b.hl) ?_ ?_
  ·rintro j y σ Hj hy ⟨v4,v5,v6,v7,rfl,c,st,b,I,es⟩;refine hide λGg hGg=>?_
   obtain⟨z,rfl⟩:=isI _ (aka hy);have jl:j < cs.length:=(List.getElem?_eq_some_iff.mp hy).1;have hN:3 * j<=800:=by omega
   refine hGg ?_;refine⟨_,rfl,_,rfl,_,rfl,m,z,n,c,st,3 * j,rfl,b.two,I,by omega,n1,n2,λd t H5 hd hz s5=>?_⟩
   have b5:=b.free (λ_=>id) (λ_=>id) (Step.cl (W:=λ_=>False) id s5)
   generalize d6 c Hj=c5 at hz b5;dsimp only[iZ];refine⟨_,rfl,_,rfl,_,rfl,m,t,c5,st,3 * j,d,(by rw[es];rfl),b5.two,I,hN,hd,hz,λc6 H6 u6 s6 md6 cu6 hu6=>?_⟩
   have abq:=b5.one.other (by decide) s6
   have kl6:=qM s6 b5.cl b5.hl;have hz6:=hz.step s6;clear s5 b5 hz s6;refine⟨_,rfl,_,rfl,o,t,c6,st,3 * j,d,rfl,abq,I,hN,hd,hz6.c,λc7 H7 u7 s7 ch7 cu7 hu7=>?_⟩
   have md7:=md6.other (by decide) s7
   have kl7:=qM s7 kl6.1 kl6.2;have ahS:=qM s7 cu6 hu6;clear abq kl6 hz6 s7 md6 cu6 hu6;have rok:=GH I hN hd;have I8:=I.fA hN hd;have es8:(fA st d).2.cJ=n:=(G9 hd).trans es;have sh:=t5 (MI rok) (SW (fA st d).1);refine⟨_,rfl,rsP (fA st d).1,rsP (fA st d).1,QO hu7,QO ahS.2,sh,sh,_,rfl,?_⟩;rw[eqv_refl _ (MI rok)];refine bw ?_;generalize (fA st d).2=st8 at ch7 md7 I8 es8;refine hide λGg hGg=>?_
   have al:=I8.GB;have l3:=I8.lm;have pl:=I8.pil.Gz;rw[cb]at pl;have dl:=I8.ld;obtain⟨dx1,aM1,aP1,aA1,aD1,aF1,aE1,aR1,ms1,ds1,ws1,fs1,es1,X1⟩:=ch7.ex;obtain⟨aP2,aA2,aD2,aM2,ds2,ws2,es2,X2⟩:=md7.ex;refine hGg ?_;refine mtv rfl X1.ob (dE (by decide +kernel)) ⟨o,c7,st8,rfl,X1.at,by omega,by omega,by omega,λns1 u1 H12 pm1 so1 s12 dv1=>?_⟩
   refine⟨_,rfl,m,c7,st8,rfl,(X2.same s12).at,by omega,λns2 u2 H13 pm2 so2 s13 dv2=>?_⟩
   have e12:ns1=ns2:=yJ (pm1.trans pm2.symm) so1 so2;subst e12;refine⟨stD _ ns1,stD _ ns1,DV.same s13 _ dv1,dv2,t5 (Kx I8 ns1) (QH _ ns1),t5 (Kx I8 ns1) (QH _ ns1),_,rfl,?_⟩;rw[eqv_refl _ (Kx I8 ns1)];refine bw ?_;have S3:=s12.trans s13;refine mtv rfl (S3 _ _ X1.ob) (dE (by decide +kernel)) ⟨o,c7,st8,rfl,(X1.same S3).at,by omega,by omega,by omega,λns3 u3 H14 pm3 so3 s14 dv3=>?_⟩
   obtain⟨r3,hq3⟩:=WN dv3;refine⟨u3,_,_,_,rfl,rfl,hq3,eu (j:=1) rfl,_,_,_,_,rfl,rfl,.bl _,rfl,_,rfl,bw ?_⟩;have MK:=S3.trans s14;have X1':=X1.same MK;have X2':=X2.same MK;have abr:=MK _ _ kl7.2;clear dv1 dv2 dv3 hq3 s12 s13 S3 s14 MK X1 X2;refine dgv rfl X2'.gm ⟨(sl 0),λp hp=>?_⟩
   have s15:=aC (o:=.lst []) hp;have X1p:=X1'.same s15;have X2p:=X2'.same s15;have WQ:=s15 _ _ abr;refine⟨aM2,p,es2,rfl,rfl,SqL.of X2p.kX.2,SqL.of ae,_,rfl,?_⟩;generalize upd H14 p (.lst [])=H15 at X1p X2p WQ ⊢;clear s15 hp X1' X2' abr;have el:es2.length=st8.made.length:=by rw[<-X2p.ent.len,mQ]
   cases ee:es2.isEmpty with
   |true =>
    refine bw ⟨_,_,_,_,rfl,c7,st8,⟨kl7.1,WQ,X1p.at,X2p.at⟩,I8,es8⟩
   |false =>
    have e0:0 < es2.length:=by
     cases es2 with
     |nil=>cases ee
     |cons _ _=>exact Nat.succ_pos _
    refine dM ⟨_,rfl,_,_,rfl,rfl,⟨by decide,by decide⟩,dgv rfl X2p.gm ⟨aM2,_,rfl,.inl (SqL.of X2p.kX.2),_,_,rfl,rfl,(by show (0:Int) < (es2.length:Int);omega),_,_,rfl,rfl,?_⟩⟩
    dsimp only[iZ];have x0:0<=z / 20 % (es2.length:Int):=akE _ (by omega)
    have x1:z / 20 % (es2.length:Int) < (es2.length:Int):=akr _ (by omega)
    obtain⟨k,ek⟩:∃k:Nat,1+z / 20 % (es2.length:Int)=(k:Int):=⟨(1+z / 20 % (es2.length:Int)).toNat,by omega⟩
    rw[ek];have hk:dC st8 k:=⟨by omega,by omega⟩
    refine mtv rfl X1p.ob (dE (by decide +kernel)) ⟨_,rfl,o,k,c7,st8,rfl,X1p.at,by omega,λ_ u8 H16 s16 dv8=>?_,λz=>absurd hk z⟩
    have X1q:=X1p.same s16;have X2q:=X2p.same s16;have ahT:=s16 _ _ WQ;refine⟨_,rfl,_,rfl,m,k,c7,st8,rfl,X2q.at,hk,λt9 ht9=>?_⟩
    have hmo:=I8.wk hk;have shm:=t5 (QN hmo) (WM (st8.mo k));refine⟨mnD _,mnD _,dv8,ht9.dv,shm,shm,_,rfl,?_⟩;rw[eqv_refl _ (QN hmo)];exact bw ⟨_,_,_,_,rfl,c7,st8,⟨kl7.1,ahT,X1q.at,X2q.at⟩,I8,es8⟩
  ·rintro σ Hj _;exact q Hj
end
end My
set_option maxHeartbeats 1000000
namespace My
open PySem L2
seal PySem.wpAny
set_option maxHeartbeats 0 in
theorem all_mk {l:PySem.W.OpenLaw}{w:World}{K:ba}{h:Heap}{mg:Str->Option Value}{P:Params}{fa f_1 f_2 f_3 f_4 f_5 f_6 f_7 f_8 f_9 S4 S5 S6 S7 S8 S9 Ta Tb Tc Td Te Tf Tg Th Ti Tj Tn To Tp Tq Tr Ts Tt Tu Tv Tw Tx Tz TB TC WR c0 c1 c2 c3 c4 c5 c6 c7 cm tb Hc Hd He Hf Hg Hh Hi Hk zc Cn Hl KG Hm Ho Hq Hr Hs Ht Hu Hv Hw Hx bh cn cq cv cw cx b6 bO bG bz a8 bf bH bj bC br bt bD bx eJ cD bY bZ bK cE cF cG cH iJ mR jv mS:Addr}(X:K.In h)(G:h.Ns gr mg)(hfa:mg "law"=some (.ref fa))(hP:w.params=P)
  {ahU ahV ahW ahX ahY ahZ ah0 ah1 ah2 ah3 ah4 ah5 ah6 ah7 ah8 ah9 aia aib abt abu abv abw abx aby abz abA abB abC abD abE abF abG abH abI abJ abK abL abM abN abO abP abQ abR abS abT abU abV abW abX abY abZ ab0 ab1 ab2 ab3 ab4 ab5 ab6 ab7 ab8 ab9 aca acb acd ace acf acg ach aci acj ack acn aco acp acq acr acs acu acv Uh WS WT WU WV WW WX WY WZ W0 W2 W3 W4 W5 W6 W7 W8 acw acx acy acz W9 Xa acA acB Xb Xd Xe Xf Xg Xh Xi Xj Xk Xl Xm Xn Xo Xp Xq Xr Xs Xt Xu Xv zd ze zf zg zh zi zj zk zm zo x9 ya wC wD uQ uR q0 q5 jY jZ mT mU wF wG pS pT sM sN n8 n9 oa oe sO sP Hy Hz CP CQ HA HB:Option Addr} {aic aid aie aif aih aii aij aik ail acC acD acE acF acG acH acI acJ acK acL acM acN acO acP acQ acR acS acT acU acV acW acX acY acZ ac8 ac9 ada adb ade adf adg Xw Xx Xy Xz XA XB XC XD adh adi XE adj XF XG XH XI XJ XM XN XO XQ XR zp zq zr zt zu yb wH uS q8 j2 mV wI pU sQ og oh sS HC CS HD:Array (Option Value)} {aim ain aio aip adk aiq air ais ait aiu adl aiv aiw aix aiy aiz adn aiA aiB aiC aiD aiE ado aiF aiG aiH aiI aiJ adp aiK aiL aiM aiN aiO adq aiP aiQ aiR aiS aiT ads aiU aiV aiW aiX aiY adt aiZ ai0 ai1 ai2 ai3 adu ai4 adv adw adx ady Ui adz adA adB adC adD Uj adE adF adG adH adI Uk adJ adK adL adM adN Ul adO adP adQ adR adS Um adT adU adV adW adX Uo adY adZ ad0 ad1 ad2 Up ad3 ad4 ad5 ad6 ad7 Uq ad8 ad9 aea aeb aec Ur aed aee aef aeg aeh Us aei aej aek ael aem Ut aen aeo aep aeq aer Uu aes aet aeu aev aew Uv aex aey aez aeA aeB Uw aeC aeD aeE aeF aeG Ux aeH aeI aeJ aeK aeL Uy aeM aeN aeO aeP aeQ Uz aeR aeS aeT aeU aeV UA aeW aeX aeY aeZ ae0 UB ae1 ae2 ae3 ae4 ae5 UC ae6 ae7 ae8 ae9 afa UD afb afc afd afe aff UE afg afh afi afj afk UG afl afm afn afo afp UH afq afr afs aft afu UI afv afw afx afy afz UJ afA afB afC afD afE UK afF afG afH afI afJ UL afK afL afM afN afO UM afP afQ afR afS afT UN afU afV UO UP UQ QS UR XS XT XU XW QT XX XY XZ X9 Ya QU Yb Yc Yd Ye Yf QV Yg Yh Yi Yj Yk QW Yl Ym Yn Yo Yp QX Yq Yr Ys Yt Yu QY Yv Yw Yx Yy Yz QZ YA YB YC YD YE Q0 YF afW afX afY afZ US af0 af1 af2 af3 af4 UT af5 YG YH YI YJ Q1 YK af6 af7 af8 af9 UU aga YL YM YN YO Q2 YQ YR YS YT YU Q3 YV YW YX YY YZ Q4 Y0 Y1 Y2 Y3 Y4 Q5 Y5 Y6 Y7 Y8 Y9 Q6 Za Zb Zc Zd Ze Q7 Zf Zg Zh Zi Zj Q8 Zk Zl Zm Zn Zo Q9 Zp Zq Zr Zs Zt Ra Zu Zv Zw Zx Zy Rb Zz zv zw zx zy qP zz zA zB zC zD qQ zE zF zG zH zI qR zJ zK zL zM zN qS zO zP zQ zR zS qT zT yc yd ye yf pV yg wJ wK wL wM nM wN uT uU uV uW mW uX q9 rg rh rj jz rn j3 j4 j5 j6 fh j7 mX mY mZ m5 gO m7 wO wQ wR wU nO wV pW pX pY pZ iX p0 sT sU sV sW kY sX oi oj oo oq ir ot ou oy oz oB iu oE sY sZ s9 tf kZ tj HE HF HG HI yK HJ CT CU CV CW ui CY HK HL HM HN yL HP:Value} {kD tr0 tr1 tr2 tr3 tr4 tr5 tr6 tr7:Tok} {est:Array akI} {nt:Nat} {FA:Addr} {Rc:Value} {Rf:Option Addr} {HQ:Array akI} {Rg:Nat} {Rh:Array (Option Value)} {m8:Addr} {zU:Value} {zV:Option Addr} {qU:Array akI} {zW:Nat} {zX:Array (Option Value)} {uY:Addr} {HR:Value} {HS:Option Addr} {yM:Array akI} {HU:Nat} {HV:Array (Option Value)} {uZ:Addr} {HW:Value} {HX:Option Addr} {yN:Array akI} {HY:Nat} {HZ:Array (Option Value)} {yh:Addr} {KH:Value} {KI:Option Addr} {Co:Array akI} {KJ:Nat} {KL:Array (Option Value)} {yi:Addr} {KN:Value} {KO:Option Addr} {Cp:Array akI} {KP:Nat} {KQ:Array (Option Value)} {yj:Addr} {KR:Value} {KS:Option Addr} {Cq:Array akI} {KU:Nat} {KW:Array (Option Value)} {u0:Addr} {H9:Value} {Ia:Option Addr} {yO:Array akI} {Ib:Nat} {Ic:Array (Option Value)} {Cr:Addr} {NF:Value} {NG:Option Addr} {D4:Array akI} {NH:Nat} {NI:Array (Option Value)} {u4:Addr} {Ie:Value} {Ig:Option Addr} {yP:Array akI} {Ih:Nat} {Ii:Array (Option Value)} {Cs:Addr} {NJ:Value} {NK:Option Addr} {D5:Array akI} {NL:Nat} {NM:Array (Option Value)} {Ri TF:Str} {Rj:List Value} {Rk:List Str} {Rm:List Value} {Rn:Bool} {Ro:Option Bool} {Rp:Option Addr} {Rq Rr Rt Ru Rv:Option Value} {Rw:Bool} {Ij KY:Str} {Ik:List Value} {Il:List Str} {Im:List Value} {Io:Bool} {Ip:Option Bool} {Iq:Option Addr} {Ir Iu Iv Iw Iy:Option Value} {Iz:Bool} {IA KZ:Str} {IB:List Value} {IC:List Str} {ID:List Value} {IE:Bool} {IF:Option Bool} {IG:Option Addr} {IH II IJ IK IL:Option Value} {IM:Bool} {K0 NN:Str} {K1:List Value} {K2:List Str} {K4:List Value} {K5:Bool} {K6:Option Bool} {K7:Option Addr} {K8 K9 La Lb Lc:Option Value} {Ld:Bool} {Le NO:Str} {Lf:List Value} {Lg:List Str} {Lh:List Value} {Li:Bool} {Lj:Option Bool} {Ll:Option Addr} {Lm Ln Lo Lp Lq:Option Value} {Lr:Bool} {Ls NP:Str} {Lu:List Value} {Lv:List Str} {Lw:List Value} {Lx:Bool} {Ly:Option Bool} {Lz:Option Addr} {LA LB LC LD LF:Option Value} {LG:Bool} {IP LH:Str} {IQ:List Value} {IS:List Str} {IT:List Value} {IU:Bool} {IV:Option Bool} {IW:Option Addr} {IZ I0 I9 Ja Jb:Option Value} {Jc:Bool} {NQ Rx:Str} {NR:List Value} {NS:List Str} {NT:List Value} {NU:Bool} {NV:Option Bool} {NW:Option Addr} {NX NY NZ N0 N1:Option Value}  {Jd LI:Str} {Je:List Value} {Jf:List Str} {Jg:List Value} {Jh:Bool} {Ji:Option Bool} {Jj:Option Addr} {Jk Jl Jm Jn Jo:Option Value}  {N3 Ry:Str} {N4:List Value} {N5:List Str} {N6:List Value} {N7:Bool} {N8:Option Bool} {N9:Option Addr} {Oa Ob Oc Od Oe:Option Value}  {Ct:Value} {zY:Option Addr} {qV:ClassData} {zZ:Array (Option Value)}
  (a_1:eg K gr "fits"=some (some (.ref f_1)))
  (l_1:K.lookup f_1=some ⟨aim,ahU,.func (fu "fits" "fits" (aQ xn) (aL xn) (ah xn) .none ain aio aip ahV adk aiq),aic⟩)
  (cc_1:di K adk "fits"=true)
  (kp_1:da K (.ref f_1)=true)
  (a_2:eg K gr "require_fit"=some (some (.ref f_2)))
  (l_2:K.lookup f_2=some ⟨air,ahW,.func (fu "require_fit" "require_fit" (aQ gh) (aL gh) (ah gh) .none ais ait aiu ahX adl aiv),aid⟩)
  (cc_2:di K adl "require_fit"=true)
  (kp_2:da K (.ref f_2)=true)
  (a_3:eg K gr "laid"=some (some (.ref f_3)))
  (l_3:K.lookup f_3=some ⟨aiw,ahY,.func (fu "laid" "laid" (aQ xp) (aL xp) (ah xp) .none aix aiy aiz ahZ adn aiA),aie⟩)
  (cc_3:di K adn "laid"=true)
  (kp_3:da K (.ref f_3)=true)
  (a_4:eg K gr "words_of"=some (some (.ref f_4)))
  (l_4:K.lookup f_4=some ⟨aiB,ah0,.func (fu "words_of" "words_of" (aQ jF) (aL jF) (ah jF) .none aiC aiD aiE ah1 ado aiF),aif⟩)
  (cc_4:di K ado "words_of"=true)
  (kp_4:da K (.ref f_4)=true)
  (a_5:eg K gr "clause_of"=some (some (.ref f_5)))
  (l_5:K.lookup f_5=some ⟨aiG,ah2,.func (fu "clause_of" "clause_of" (aQ iQ) (aL iQ) (ah iQ) .none aiH aiI aiJ ah3 adp aiK),aih⟩)
  (cc_5:di K adp "clause_of"=true)
  (kp_5:da K (.ref f_5)=true)
  (a_6:eg K gr "motion_of"=some (some (.ref f_6)))
  (l_6:K.lookup f_6=some ⟨aiL,ah4,.func (fu "motion_of" "motion_of" (aQ iR) (aL iR) (ah iR) .none aiM aiN aiO ah5 adq aiP),aii⟩)
  (cc_6:di K adq "motion_of"=true)
  (kp_6:da K (.ref f_6)=true)
  (a_7:eg K gr "bar_of"=some (some (.ref f_7)))
  (l_7:K.lookup f_7=some ⟨aiQ,ah6,.func (fu "bar_of" "bar_of" (aQ oV) (aL oV) (ah oV) .none aiR aiS aiT ah7 ads aiU),aij⟩)
  (cc_7:di K ads "bar_of"=true)
  (kp_7:da K (.ref f_7)=true)
  (a_8:eg K gr "has_matter"=some (some (.ref f_8)))
  (l_8:K.lookup f_8=some ⟨aiV,ah8,.func (fu "has_matter" "has_matter" (aQ fD) (aL fD) (ah fD) .none aiW aiX aiY ah9 adt aiZ),aik⟩)
  (cc_8:di K adt "has_matter"=true)
  (kp_8:da K (.ref f_8)=true)
  (a_9:eg K gr "can_be_mended"=some (some (.ref f_9)))
  (l_9:K.lookup f_9=some ⟨ai0,aia,.func (fu "can_be_mended" "can_be_mended" (aQ eh) (aL eh) (ah eh) .none ai1 ai2 ai3 aib adu ai4),ail⟩)
  (cc_9:di K adu "can_be_mended"=true)
  (kp_9:da K (.ref f_9)=true)
  (a_10:eg K gr "has_what_it_needs"=some (some (.ref S4)))
  (l_10:K.lookup S4=some ⟨adv,abt,.func (fu "has_what_it_needs" "has_what_it_needs" (aQ cR) (aL cR) (ah cR) .none adw adx ady abu Ui adz),acC⟩)
  (jq5M:di K Ui "has_what_it_needs"=true)
  (jq5N:da K (.ref S4)=true)
  (a_11:eg K gr "require_in_order"=some (some (.ref S5)))
  (l_11:K.lookup S5=some ⟨adA,abv,.func (fu "require_in_order" "require_in_order" (aQ cV) (aL cV) (ah cV) .none adB adC adD abw Uj adE),acD⟩)
  (jq5O:di K Uj "require_in_order"=true)
  (jq5P:da K (.ref S5)=true)
  (a_12:eg K gr "words_of_text"=some (some (.ref S6)))
  (l_12:K.lookup S6=some ⟨adF,abx,.func (fu "words_of_text" "words_of_text" (aQ ei) (aL ei) (ah ei) .none adG adH adI aby Uk adJ),acE⟩)
  (jq5Q:di K Uk "words_of_text"=true)
  (jq5R:da K (.ref S6)=true)
  (a_13:eg K gr "words_of_edit"=some (some (.ref S7)))
  (l_13:K.lookup S7=some ⟨adK,abz,.func (fu "words_of_edit" "words_of_edit" (aQ et) (aL et) (ah et) .none adL adM adN abA Ul adO),acF⟩)
  (jq5S:di K Ul "words_of_edit"=true)
  (jq5T:da K (.ref S7)=true)
  (a_14:eg K gr "words_behind"=some (some (.ref S8)))
  (l_14:K.lookup S8=some ⟨adP,abB,.func (fu "words_behind" "words_behind" (aQ dX) (aL dX) (ah dX) .none adQ adR adS abC Um adT),acG⟩)
  (jq5U:di K Um "words_behind"=true)
  (jq5V:da K (.ref S8)=true)
  (a_15:eg K gr "show_deed"=some (some (.ref S9)))
  (l_15:K.lookup S9=some ⟨adU,abD,.func (fu "show_deed" "show_deed" (aQ iS) (aL iS) (ah iS) .none adV adW adX abE Uo adY),acH⟩)
  (jq5W:di K Uo "show_deed"=true)
  (jq5X:da K (.ref S9)=true)
  (a_16:eg K gr "is_kept"=some (some (.ref Ta)))
  (l_16:K.lookup Ta=some ⟨adZ,abF,.func (fu "is_kept" "is_kept" (aQ lQ) (aL lQ) (ah lQ) .none ad0 ad1 ad2 abG Up ad3),acI⟩)
  (jq5Y:di K Up "is_kept"=true)
  (jq5Z:da K (.ref Ta)=true)
  (a_17:eg K gr "_law_cell_at"=some (some (.ref Tb)))
  (l_17:K.lookup Tb=some ⟨ad4,abH,.func (fu "_law_cell_at" "_law_cell_at" (aQ iT) (aL iT) (ah iT) .none ad5 ad6 ad7 abI Uq ad8),acJ⟩)
  (jq60:di K Uq "_law_cell_at"=true)
  (jq61:da K (.ref Tb)=true)
  (a_18:eg K gr "_law_word"=some (some (.ref Tc)))
  (l_18:K.lookup Tc=some ⟨ad9,abJ,.func (fu "_law_word" "_law_word" (aQ oZ) (aL oZ) (ah oZ) .none aea aeb aec abK Ur aed),acK⟩)
  (jq62:di K Ur "_law_word"=true)
  (jq63:da K (.ref Tc)=true)
  (a_19:eg K gr "_law_clause"=some (some (.ref Td)))
  (l_19:K.lookup Td=some ⟨aee,abL,.func (fu "_law_clause" "_law_clause" (aQ jH) (aL jH) (ah jH) .none aef aeg aeh abM Us aei),acL⟩)
  (jq64:di K Us "_law_clause"=true)
  (jq65:da K (.ref Td)=true)
  (a_20:eg K gr "_law_edit"=some (some (.ref Te)))
  (l_20:K.lookup Te=some ⟨aej,abN,.func (fu "_law_edit" "_law_edit" (aQ o9) (aL o9) (ah o9) .none aek ael aem abO Ut aen),acM⟩)
  (jq66:di K Ut "_law_edit"=true)
  (jq67:da K (.ref Te)=true)
  (a_21:eg K gr "_law_fits"=some (some (.ref Tf)))
  (l_21:K.lookup Tf=some ⟨aeo,abP,.func (fu "_law_fits" "_law_fits" (aQ pb) (aL pb) (ah pb) .none aep aeq aer abQ Uu aes),acN⟩)
  (jq68:di K Uu "_law_fits"=true)
  (jq69:da K (.ref Tf)=true)
  (a_22:eg K gr "_law_laid"=some (some (.ref Tg)))
  (l_22:K.lookup Tg=some ⟨aet,abR,.func (fu "_law_laid" "_law_laid" (aQ pd) (aL pd) (ah pd) .none aeu aev aew abS Uv aex),acO⟩)
  (jq6a:di K Uv "_law_laid"=true)
  (jq6b:da K (.ref Tg)=true)
  (a_23:eg K gr "_law_words"=some (some (.ref Th)))
  (l_23:K.lookup Th=some ⟨aey,abT,.func (fu "_law_words" "_law_words" (aQ lR) (aL lR) (ah lR) .none aez aeA aeB abU Uw aeC),acP⟩)
  (jq6c:di K Uw "_law_words"=true)
  (jq6d:da K (.ref Th)=true)
  (a_24:eg K gr "_law_rank"=some (some (.ref Ti)))
  (l_24:K.lookup Ti=some ⟨aeD,abV,.func (fu "_law_rank" "_law_rank" (aQ pe) (aL pe) (ah pe) .none aeE aeF aeG abW Ux aeH),acQ⟩)
  (jq6e:di K Ux "_law_rank"=true)
  (jq6f:da K (.ref Ti)=true)
  (a_25:eg K gr "_law_new"=some (some (.ref Tj)))
  (l_25:K.lookup Tj=some ⟨aeI,abX,.func (fu "_law_new" "_law_new" (aQ tG) (aL tG) (ah tG) .none aeJ aeK aeL abY Uy aeM),acR⟩)
  (jq6g:di K Uy "_law_new"=true)
  (jq6h:da K (.ref Tj)=true)
  (a_26:eg K gr "_law_now"=some (some (.ref Tn)))
  (l_26:K.lookup Tn=some ⟨aeN,abZ,.func (fu "_law_now" "_law_now" (aQ tH) (aL tH) (ah tH) .none aeO aeP aeQ ab0 Uz aeR),acS⟩)
  (jq6i:di K Uz "_law_now"=true)
  (jq6j:da K (.ref Tn)=true)
  (a_27:eg K gr "_law_bar"=some (some (.ref To)))
  (l_27:K.lookup To=some ⟨aeS,ab1,.func (fu "_law_bar" "_law_bar" (aQ tI) (aL tI) (ah tI) .none aeT aeU aeV ab2 UA aeW),acT⟩)
  (jq6k:di K UA "_law_bar"=true)
  (jq6l:da K (.ref To)=true)
  (a_28:eg K gr "_law_lacks"=some (some (.ref Tp)))
  (l_28:K.lookup Tp=some ⟨aeX,ab3,.func (fu "_law_lacks" "_law_lacks" (aQ lS) (aL lS) (ah lS) .none aeY aeZ ae0 ab4 UB ae1),acU⟩)
  (jq6m:di K UB "_law_lacks"=true)
  (jq6n:da K (.ref Tp)=true)
  (a_29:eg K gr "_law_keep"=some (some (.ref Tq)))
  (l_29:K.lookup Tq=some ⟨ae2,ab5,.func (fu "_law_keep" "_law_keep" (aQ pf) (aL pf) (ah pf) .none ae3 ae4 ae5 ab6 UC ae6),acV⟩)
  (jq6o:di K UC "_law_keep"=true)
  (jq6p:da K (.ref Tq)=true)
  (a_30:eg K gr "_law_ended"=some (some (.ref Tr)))
  (l_30:K.lookup Tr=some ⟨ae7,ab7,.func (fu "_law_ended" "_law_ended" (aQ lT) (aL lT) (ah lT) .none ae8 ae9 afa ab8 UD afb),acW⟩)
  (jq6q:di K UD "_law_ended"=true)
  (jq6r:da K (.ref Tr)=true)
  (a_31:eg K gr "_law_voted"=some (some (.ref Ts)))
  (l_31:K.lookup Ts=some ⟨afc,ab9,.func (fu "_law_voted" "_law_voted" (aQ lU) (aL lU) (ah lU) .none afd afe aff aca UE afg),acX⟩)
  (jq6s:di K UE "_law_voted"=true)
  (jq6t:da K (.ref Ts)=true)
  (a_32:eg K gr "_law_taken"=some (some (.ref Tt)))
  (l_32:K.lookup Tt=some ⟨afh,acb,.func (fu "_law_taken" "_law_taken" (aQ lV) (aL lV) (ah lV) .none afi afj afk acd UG afl),acY⟩)
  (jq6u:di K UG "_law_taken"=true)
  (jq6v:da K (.ref Tt)=true)
  (a_33:eg K gr "_law_due"=some (some (.ref Tu)))
  (l_33:K.lookup Tu=some ⟨afm,ace,.func (fu "_law_due" "_law_due" (aQ tJ) (aL tJ) (ah tJ) .none afn afo afp acf UH afq),acZ⟩)
  (jq6w:di K UH "_law_due"=true)
  (jq6x:da K (.ref Tu)=true)
  (a_34:eg K gr "_law_state"=some (some (.ref Tv)))
  (l_34:K.lookup Tv=some ⟨afr,acg,.func (fu "_law_state" "_law_state" (aQ lW) (aL lW) (ah lW) .none afs aft afu ach UI afv),ac8⟩)
  (jq6y:di K UI "_law_state"=true)
  (jq6z:da K (.ref Tv)=true)
  (a_35:eg K gr "_law_vote"=some (some (.ref Tw)))
  (l_35:K.lookup Tw=some ⟨afw,aci,.func (fu "_law_vote" "_law_vote" (aQ ph) (aL ph) (ah ph) .none afx afy afz acj UJ afA),ac9⟩)
  (jq6A:di K UJ "_law_vote"=true)
  (jq6B:da K (.ref Tw)=true)
  (a_36:eg K gr "_law_guided"=some (some (.ref Tx)))
  (l_36:K.lookup Tx=some ⟨afB,ack,.func (fu "_law_guided" "_law_guided" (aQ jJ) (aL jJ) (ah jJ) .none afC afD afE acn UK afF),ada⟩)
  (jq6C:di K UK "_law_guided"=true)
  (jq6D:da K (.ref Tx)=true)
  (a_37:eg K gr "_law_deed"=some (some (.ref Tz)))
  (l_37:K.lookup Tz=some ⟨afG,aco,.func (fu "_law_deed" "_law_deed" (aQ mf) (aL mf) (ah mf) .none afH afI afJ acp UL afK),adb⟩)
  (jq6E:di K UL "_law_deed"=true)
  (jq6F:da K (.ref Tz)=true)
  (a_38:eg K gr "_law_asked"=some (some (.ref TB)))
  (l_38:K.lookup TB=some ⟨afL,acq,.func (fu "_law_asked" "_law_asked" (aQ lX) (aL lX) (ah lX) .none afM afN afO acr UM afP),ade⟩)
  (jq6G:di K UM "_law_asked"=true)
  (jq6H:da K (.ref TB)=true)
  (a_39:eg K gr "_law_seats"=some (some (.ref TC)))
  (l_39:K.lookup TC=some ⟨afQ,acs,.func (fu "_law_seats" "_law_seats" (aQ lY) (aL lY) (ah lY) .none afR afS afT acu UN afU),adf⟩)
  (jq6I:di K UN "_law_seats"=true)
  (jq6J:da K (.ref TC)=true)
  (a_40:eg K gr "law"=some (some (.ref WR)))
  (l_40:K.lookup WR=some ⟨afV,acv,.func (fu "law" "law" (aQ vz) (aL vz) (ah vz) .none UO UP UQ Uh QS UR),adg⟩)
  (jq6K:di K QS "law"=true)
  (jq6L:da K (.ref WR)=true)
  (z1:eg K gr "range"=some none)
  (z2:eg K gr "list"=some none)
  (z3:eg K gr "isinstance"=some none)
  (z4:eg K gr "len"=some none)
  (z5:eg K gr "max"=some none)
  (z6:eg K gr "any"=some none)
  (z7:eg K gr "str"=some none)
  (z8:eg K gr "sorted"=some none)
  (z9:eg K gr "int"=some none)
  (z10:eg K gr "bool"=some none)
  (z11:eg K gr "ValueError"=some none)
  (jq2q:eg K gr "CLOSED_BAR"=some (some (.int 4 kD)))
  (ac0:eg K gr "Matter"=some (some (.ref c0)))
  (ac1:eg K gr "Change"=some (some (.ref c1)))
  (ac2:eg K gr "Mend"=some (some (.ref c2)))
  (ac3:eg K gr "PutOff"=some (some (.ref c3)))
  (ac4:eg K gr "Close"=some (some (.ref c4)))
  (ac5:eg K gr "Lay"=some (some (.ref c5)))
  (ac6:eg K gr "Rest"=some (some (.ref c6)))
  (ac7:eg K gr "Point"=some (some (.ref c7)))
  (acm:eg K gr "Motion"=some (some (.ref cm)))
  (atb:eg K gr "RANKS"=some (some (.ref tb)))
  (ltb:K.lookup tb=some ⟨.type "dict",none,.dict est nt,#[]⟩)
  (ktb:PySem.W.KeysLit P est.toList)
  (rk0:eg K tb (ar "matter")=some (some (.int 0 tr0)))
  (rk1:eg K tb (ar "change")=some (some (.int 1 tr1)))
  (rk2:eg K tb (ar "mend")=some (some (.int 2 tr2)))
  (rk3:eg K tb (ar "put off")=some (some (.int 3 tr3)))
  (rk4:eg K tb (ar "close")=some (some (.int 4 tr4)))
  (rk5:eg K tb (ar "lay")=some (some (.int 5 tr5)))
  (rk6:eg K tb (ar "rest")=some (some (.int 6 tr6)))
  (rk7:eg K tb (ar "point")=some (some (.int 7 tr7)))
  (pg0:akg K c0 akc=true)
  (hd0:aj4 K c0=true)
  (po0:akn K c0=true)
  (sa0:bo K (.ref c0) "__setattr__"=some (some (.builtin "object.__setattr__")))
  (mk0:aks K c0=true)
  (kc0:da K (.ref c0)=true)
  (pg1:akg K c1 akc=true)
  (hd1:aj4 K c1=true)
  (po1:akn K c1=true)
  (sa1:bo K (.ref c1) "__setattr__"=some (some (.builtin "object.__setattr__")))
  (mk1:aks K c1=true)
  (kc1:da K (.ref c1)=true)
  (pg2:akg K c2 akc=true)
  (hd2:aj4 K c2=true)
  (po2:akn K c2=true)
  (sa2:bo K (.ref c2) "__setattr__"=some (some (.builtin "object.__setattr__")))
  (mk2:aks K c2=true)
  (kc2:da K (.ref c2)=true)
  (pg3:akg K c3 akc=true)
  (hd3:aj4 K c3=true)
  (po3:akn K c3=true)
  (sa3:bo K (.ref c3) "__setattr__"=some (some (.builtin "object.__setattr__")))
  (mk3:aks K c3=true)
  (kc3:da K (.ref c3)=true)
  (pg4:akg K c4 akc=true)
  (hd4:aj4 K c4=true)
  (po4:akn K c4=true)
  (sa4:bo K (.ref c4) "__setattr__"=some (some (.builtin "object.__setattr__")))
  (mk4:aks K c4=true)
  (kc4:da K (.ref c4)=true)
  (pg5:akg K c5 akc=true)
  (hd5:aj4 K c5=true)
  (po5:akn K c5=true)
  (sa5:bo K (.ref c5) "__setattr__"=some (some (.builtin "object.__setattr__")))
  (mk5:aks K c5=true)
  (kc5:da K (.ref c5)=true)
  (pg6:akg K c6 akc=true)
  (hd6:aj4 K c6=true)
  (po6:akn K c6=true)
  (sa6:bo K (.ref c6) "__setattr__"=some (some (.builtin "object.__setattr__")))
  (mk6:aks K c6=true)
  (kc6:da K (.ref c6)=true)
  (pg7:akg K c7 akc=true)
  (hd7:aj4 K c7=true)
  (po7:akn K c7=true)
  (sa7:bo K (.ref c7) "__setattr__"=some (some (.builtin "object.__setattr__")))
  (mk7:aks K c7=true)
  (kc7:da K (.ref c7)=true)
  (jq4d:bo K (.ref c0) "kind"=some (some (.ref Hc)))
  (jq6M:K.lookup Hc=some ⟨XS,WS,.func (fu "kind" "Matter.kind" (aQ fR) (aL fR) (ah fR) .none XT XU XW WT QT XX),Xw⟩)
  (jq4N:di K QT "Matter.kind"=true)
  (jq4e:da K (.ref Hc)=true)
  (jq4O:ma K (.ref Hc)=true)
  (jq4f:bo K (.ref c1) "kind"=some (some (.ref Hd)))
  (jq6N:K.lookup Hd=some ⟨XY,WU,.func (fu "kind" "Change.kind" (aQ fS) (aL fS) (ah fS) .none XZ X9 Ya WV QU Yb),Xx⟩)
  (jq4P:di K QU "Change.kind"=true)
  (jq4g:da K (.ref Hd)=true)
  (jq4Q:ma K (.ref Hd)=true)
  (jq4h:bo K (.ref c2) "kind"=some (some (.ref He)))
  (jq6O:K.lookup He=some ⟨Yc,WW,.func (fu "kind" "Mend.kind" (aQ iM) (aL iM) (ah iM) .none Yd Ye Yf WX QV Yg),Xy⟩)
  (jq4R:di K QV "Mend.kind"=true)
  (jq4i:da K (.ref He)=true)
  (jq4S:ma K (.ref He)=true)
  (jq4j:bo K (.ref c3) "kind"=some (some (.ref Hf)))
  (jq6P:K.lookup Hf=some ⟨Yh,WY,.func (fu "kind" "PutOff.kind" (aQ fU) (aL fU) (ah fU) .none Yi Yj Yk WZ QW Yl),Xz⟩)
  (jq4T:di K QW "PutOff.kind"=true)
  (jq4k:da K (.ref Hf)=true)
  (jq4U:ma K (.ref Hf)=true)
  (jq4l:bo K (.ref c4) "kind"=some (some (.ref Hg)))
  (jq6Q:K.lookup Hg=some ⟨Ym,W0,.func (fu "kind" "Close.kind" (aQ gR) (aL gR) (ah gR) .none Yn Yo Yp W2 QX Yq),XA⟩)
  (jq4V:di K QX "Close.kind"=true)
  (jq4m:da K (.ref Hg)=true)
  (jq4W:ma K (.ref Hg)=true)
  (jq4n:bo K (.ref c5) "kind"=some (some (.ref Hh)))
  (jq6R:K.lookup Hh=some ⟨Yr,W3,.func (fu "kind" "Lay.kind" (aQ jE) (aL jE) (ah jE) .none Ys Yt Yu W4 QY Yv),XB⟩)
  (jq4X:di K QY "Lay.kind"=true)
  (jq4o:da K (.ref Hh)=true)
  (jq4Y:ma K (.ref Hh)=true)
  (jq4p:bo K (.ref c6) "kind"=some (some (.ref Hi)))
  (jq6S:K.lookup Hi=some ⟨Yw,W5,.func (fu "kind" "Rest.kind" (aQ iN) (aL iN) (ah iN) .none Yx Yy Yz W6 QZ YA),XC⟩)
  (jq4Z:di K QZ "Rest.kind"=true)
  (jq4q:da K (.ref Hi)=true)
  (jq50:ma K (.ref Hi)=true)
  (jq4r:bo K (.ref c7) "kind"=some (some (.ref Hk)))
  (jq6T:K.lookup Hk=some ⟨YB,W7,.func (fu "kind" "Point.kind" (aQ gS) (aL gS) (ah gS) .none YC YD YE W8 Q0 YF),XD⟩)
  (jq51:di K Q0 "Point.kind"=true)
  (jq4s:da K (.ref Hk)=true)
  (jq52:ma K (.ref Hk)=true)
  (jq53:bo K (.ref c0) "rank"=some (some (.ref zc)))
  (jq54:bo K (.ref c1) "rank"=some (some (.ref zc)))
  (jq55:bo K (.ref c2) "rank"=some (some (.ref zc)))
  (jq56:bo K (.ref c3) "rank"=some (some (.ref zc)))
  (jq57:bo K (.ref c4) "rank"=some (some (.ref zc)))
  (jq58:bo K (.ref c5) "rank"=some (some (.ref zc)))
  (jq59:bo K (.ref c6) "rank"=some (some (.ref zc)))
  (jq5a:bo K (.ref c7) "rank"=some (some (.ref zc)))
  (l_mr:K.lookup zc=some ⟨afW,acw,.func (fu "rank" "Motion.rank" (aQ fV) (aL fV) (ah fV) .none afX afY afZ acx US af0),adh⟩)
  (jq6U:di K US "Motion.rank"=true)
  (jq2v:da K (.ref zc)=true)
  (jq31:ma K (.ref zc)=true)
  (jq5b:bo K (.ref c0) "need"=some (some (.ref Cn)))
  (jq5c:bo K (.ref c1) "need"=some (some (.ref Cn)))
  (jq5d:bo K (.ref c2) "need"=some (some (.ref Cn)))
  (jq5e:bo K (.ref c3) "need"=some (some (.ref Cn)))
  (jq5f:bo K (.ref c5) "need"=some (some (.ref Cn)))
  (jq5g:bo K (.ref c6) "need"=some (some (.ref Cn)))
  (jq5h:bo K (.ref c7) "need"=some (some (.ref Cn)))
  (l_mn:K.lookup Cn=some ⟨af1,acy,.func (fu "need" "Motion.need" (aQ fW) (aL fW) (ah fW) .none af2 af3 af4 acz UT af5),adi⟩)
  (jq6V:di K UT "Motion.need"=true)
  (jq32:da K (.ref Cn)=true)
  (jq3t:ma K (.ref Cn)=true)
  (jq4t:bo K (.ref c4) "need"=some (some (.ref Hl)))
  (jq6W:K.lookup Hl=some ⟨YG,W9,.func (fu "need" "Close.need" (aQ gU) (aL gU) (ah gU) .none YH YI YJ Xa Q1 YK),XE⟩)
  (jq5i:di K Q1 "Close.need"=true)
  (jq4u:da K (.ref Hl)=true)
  (jq5j:ma K (.ref Hl)=true)
  (jq5k:bo K (.ref c4) "told"=some (some (.ref KG)))
  (jq5l:bo K (.ref c5) "told"=some (some (.ref KG)))
  (jq5m:bo K (.ref c6) "told"=some (some (.ref KG)))
  (l_mt:K.lookup KG=some ⟨af6,acA,.func (fu "told" "Motion.told" (aQ fX) (aL fX) (ah fX) .none af7 af8 af9 acB UU aga),adj⟩)
  (jq6X:di K UU "Motion.told"=true)
  (jq4b:da K (.ref KG)=true)
  (jq4K:ma K (.ref KG)=true)
  (jq4v:bo K (.ref c0) "told"=some (some (.ref Hm)))
  (jq6Y:K.lookup Hm=some ⟨YL,Xb,.func (fu "told" "Matter.told" (aQ fY) (aL fY) (ah fY) .none YM YN YO Xd Q2 YQ),XF⟩)
  (jq5n:di K Q2 "Matter.told"=true)
  (jq4w:da K (.ref Hm)=true)
  (jq5o:ma K (.ref Hm)=true)
  (jq4x:bo K (.ref c1) "told"=some (some (.ref Ho)))
  (jq6Z:K.lookup Ho=some ⟨YR,Xe,.func (fu "told" "Change.told" (aQ fZ) (aL fZ) (ah fZ) .none YS YT YU Xf Q3 YV),XG⟩)
  (jq5p:di K Q3 "Change.told"=true)
  (jq4y:da K (.ref Ho)=true)
  (jq5q:ma K (.ref Ho)=true)
  (jq4z:bo K (.ref c2) "told"=some (some (.ref Hq)))
  (jq70:K.lookup Hq=some ⟨YW,Xg,.func (fu "told" "Mend.told" (aQ iO) (aL iO) (ah iO) .none YX YY YZ Xh Q4 Y0),XH⟩)
  (jq5r:di K Q4 "Mend.told"=true)
  (jq4A:da K (.ref Hq)=true)
  (jq5s:ma K (.ref Hq)=true)
  (jq4B:bo K (.ref c3) "told"=some (some (.ref Hr)))
  (jq71:K.lookup Hr=some ⟨Y1,Xi,.func (fu "told" "PutOff.told" (aQ f6) (aL f6) (ah f6) .none Y2 Y3 Y4 Xj Q5 Y5),XI⟩)
  (jq5t:di K Q5 "PutOff.told"=true)
  (jq4C:da K (.ref Hr)=true)
  (jq5u:ma K (.ref Hr)=true)
  (jq4D:bo K (.ref c7) "told"=some (some (.ref Hs)))
  (jq72:K.lookup Hs=some ⟨Y6,Xk,.func (fu "told" "Point.told" (aQ gW) (aL gW) (ah gW) .none Y7 Y8 Y9 Xl Q6 Za),XJ⟩)
  (jq5v:di K Q6 "Point.told"=true)
  (jq4E:da K (.ref Hs)=true)
  (jq5w:ma K (.ref Hs)=true)
  (jq4F:bo K (.ref c0) "__init__"=some (some (.ref Ht)))
  (jq73:K.lookup Ht=some ⟨Zb,Xm,.func (fu "__init__" "Matter.__init__" (aQ f7) (aL f7) (ah f7) .none Zc Zd Ze Xn Q7 Zf),XM⟩)
  (jq5x:di K Q7 "Matter.__init__"=true)
  (jq5y:da K (.ref Ht)=true)
  (jq5z:ma K (.ref Ht)=true)
  (jq4G:bo K (.ref c1) "__init__"=some (some (.ref Hu)))
  (jq74:K.lookup Hu=some ⟨Zg,Xo,.func (fu "__init__" "Change.__init__" (aQ f9) (aL f9) (ah f9) .none Zh Zi Zj Xp Q8 Zk),XN⟩)
  (jq5A:di K Q8 "Change.__init__"=true)
  (jq5B:da K (.ref Hu)=true)
  (jq5C:ma K (.ref Hu)=true)
  (jq4H:bo K (.ref c2) "__init__"=some (some (.ref Hv)))
  (jq75:K.lookup Hv=some ⟨Zl,Xq,.func (fu "__init__" "Mend.__init__" (aQ iP) (aL iP) (ah iP) .none Zm Zn Zo Xr Q9 Zp),XO⟩)
  (jq5D:di K Q9 "Mend.__init__"=true)
  (jq5E:da K (.ref Hv)=true)
  (jq5F:ma K (.ref Hv)=true)
  (jq4I:bo K (.ref c3) "__init__"=some (some (.ref Hw)))
  (jq76:K.lookup Hw=some ⟨Zq,Xs,.func (fu "__init__" "PutOff.__init__" (aQ gb) (aL gb) (ah gb) .none Zr Zs Zt Xt Ra Zu),XQ⟩)
  (jq5G:di K Ra "PutOff.__init__"=true)
  (jq5H:da K (.ref Hw)=true)
  (jq5I:ma K (.ref Hw)=true)
  (jq4J:bo K (.ref c7) "__init__"=some (some (.ref Hx)))
  (jq77:K.lookup Hx=some ⟨Zv,Xu,.func (fu "__init__" "Point.__init__" (aQ gX) (aL gX) (ah gX) .none Zw Zx Zy Xv Rb Zz),XR⟩)
  (jq5J:di K Rb "Point.__init__"=true)
  (jq5K:da K (.ref Hx)=true)
  (jq5L:ma K (.ref Hx)=true)
  (na0:bo K (.ref c0) "text"=some none)
  (na1:bo K (.ref c1) "edit"=some none)
  (na2:bo K (.ref c2) "edit"=some none)
  (na3:bo K (.ref c3) "sitting"=some none)
  (na7:bo K (.ref c7) "clause"=some none)
  (ni4:bo K (.ref c4) "__init__"=some (some (.builtin "object.__init__")))
  (ni5:bo K (.ref c5) "__init__"=some (some (.builtin "object.__init__")))
  (ni6:bo K (.ref c6) "__init__"=some (some (.builtin "object.__init__")))
  (jq33:eg K gr "Chamber"=some (some (.ref bh)))
  (jq34:akg K bh akc=true)
  (jq35:aj4 K bh=true)
  (jq36:akn K bh=true)
  (jq37:bo K (.ref bh) "__setattr__"=some (some (.builtin "object.__setattr__")))
  (jq38:aks K bh=true)
  (jq39:da K (.ref bh)=true)
  (jq22:bo K (.ref bh) "__init__"=some (some (.ref cn)))
  (jq2k:K.lookup cn=some ⟨zv,zd,.func (fu "__init__" "Chamber.__init__" (aQ eS) (aL eS) (ah eS) .none zw zx zy ze qP zz),zp⟩)
  (jq23:di K qP "Chamber.__init__"=true)
  (jq24:da K (.ref cn)=true)
  (jq25:ma K (.ref cn)=true)
  (jq26:bo K (.ref bh) "move"=some (some (.ref cq)))
  (jq2l:K.lookup cq=some ⟨zA,zf,.func (fu "move" "Chamber.move" (aQ eT) (aL eT) (ah eT) .none zB zC zD zg qQ zE),zq⟩)
  (jq27:di K qQ "Chamber.move"=true)
  (jq1G:da K (.ref cq)=true)
  (jq28:ma K (.ref cq)=true)
  (jq29:bo K (.ref bh) "vote"=some (some (.ref cv)))
  (jq2m:K.lookup cv=some ⟨zF,zh,.func (fu "vote" "Chamber.vote" (aQ eU) (aL eU) (ah eU) .none zG zH zI zi qR zJ),zr⟩)
  (jq2a:di K qR "Chamber.vote"=true)
  (jq1H:da K (.ref cv)=true)
  (jq2b:ma K (.ref cv)=true)
  (jq2c:bo K (.ref bh) "drop"=some (some (.ref cw)))
  (jq2n:K.lookup cw=some ⟨zK,zj,.func (fu "drop" "Chamber.drop" (aQ eV) (aL eV) (ah eV) .none zL zM zN zk qS zO),zt⟩)
  (jq2d:di K qS "Chamber.drop"=true)
  (jq1I:da K (.ref cw)=true)
  (jq2e:ma K (.ref cw)=true)
  (jq2f:bo K (.ref bh) "take"=some (some (.ref cx)))
  (jq2o:K.lookup cx=some ⟨zP,zm,.func (fu "take" "Chamber.take" (aQ eW) (aL eW) (ah eW) .none zQ zR zS zo qT zT),zu⟩)
  (jq2g:di K qT "Chamber.take"=true)
  (jq1J:da K (.ref cx)=true)
  (jq2h:ma K (.ref cx)=true)
  (jq1U:bo K (.ref bh) "state"=some (some (.ref b6)))
  (jq2i:K.lookup b6=some ⟨yc,x9,.func (fu "state" "Chamber.state" (aQ dD) (aL dD) (ah dD) .none yd ye yf ya pV yg),yb⟩)
  (jq1V:di K pV "Chamber.state"=true)
  (jq1D:da K (.ref b6)=true)
  (jq1W:ma K (.ref b6)=true)
  (jq1N:bo K (.ref bh) "motion"=some (some (.ref bO)))
  (jq1X:K.lookup bO=some ⟨wJ,wC,.func (fu "motion" "Chamber.motion" (aQ dO) (aL dO) (ah dO) .none wK wL wM wD nM wN),wH⟩)
  (jq1O:di K nM "Chamber.motion"=true)
  (jq1u:da K (.ref bO)=true)
  (jq1P:ma K (.ref bO)=true)
  (jq1K:bo K (.ref bh) "pending"=some (some (.ref bG)))
  (jq1Q:K.lookup bG=some ⟨uT,uQ,.func (fu "pending" "Chamber.pending" (aQ cK) (aL cK) (ah cK) .none uU uV uW uR mW uX),uS⟩)
  (jq1L:di K mW "Chamber.pending"=true)
  (jq1p:da K (.ref bG)=true)
  (jq1M:ma K (.ref bG)=true)
  (jq1r:bo K (.ref bh) "told_aside"=some (some (.ref bz)))
  (jq1w:K.lookup bz=some ⟨q9,q0,.func (fu "told_aside" "Chamber.told_aside" (aQ cz) (aL cz) (ah cz) .none rg rh rj q5 jz rn),q8⟩)
  (jq1s:di K jz "Chamber.told_aside"=true)
  (jq17:da K (.ref bz)=true)
  (jq1t:ma K (.ref bz)=true)
  (jqI:bo K (.ref bh) "require_can_be_made"=some (some (.ref a8)))
  (jqN:K.lookup a8=some ⟨j3,jY,.func (fu "require_can_be_made" "Chamber.require_can_be_made" (aQ bB) (aL bB) (ah bB) .none j4 j5 j6 jZ fh j7),j2⟩)
  (jqJ:di K fh "Chamber.require_can_be_made"=true)
  (jqe:da K (.ref a8)=true)
  (jqK:ma K (.ref a8)=true)
  (jq14:bo K (.ref bh) "require_pending"=some (some (.ref bf)))
  (jq18:K.lookup bf=some ⟨mX,mT,.func (fu "require_pending" "Chamber.require_pending" (aQ bM) (aL bM) (ah bM) .none mY mZ m5 mU gO m7),mV⟩)
  (jq15:di K gO "Chamber.require_pending"=true)
  (jql:da K (.ref bf)=true)
  (jq16:ma K (.ref bf)=true)
  (jq1R:bo K (.ref bh) "decide"=some (some (.ref bH)))
  (jq1Y:K.lookup bH=some ⟨wO,wF,.func (fu "decide" "Chamber.decide" (aQ dP) (aL dP) (ah dP) .none wQ wR wU wG nO wV),wI⟩)
  (jq1S:di K nO "Chamber.decide"=true)
  (jq1v:da K (.ref bH)=true)
  (jq1T:ma K (.ref bH)=true)
  (jq1k:bo K (.ref bh) "end_decision"=some (some (.ref bj)))
  (jq1q:K.lookup bj=some ⟨pW,pS,.func (fu "end_decision" "Chamber.end_decision" (aQ b7) (aL b7) (ah b7) .none pX pY pZ pT iX p0),pU⟩)
  (jq1l:di K iX "Chamber.end_decision"=true)
  (jqX:da K (.ref bj)=true)
  (jq1m:ma K (.ref bj)=true)
  (jq1x:bo K (.ref bh) "carry_out"=some (some (.ref bC)))
  (jq1E:K.lookup bC=some ⟨sT,sM,.func (fu "carry_out" "Chamber.carry_out" (aQ cP) (aL cP) (ah cP) .none sU sV sW sN kY sX),sQ⟩)
  (jq1y:di K kY "Chamber.carry_out"=true)
  (jq1b:da K (.ref bC)=true)
  (jq1z:ma K (.ref bC)=true)
  (jq1d:bo K (.ref bh) "lay_on_matter"=some (some (.ref br)))
  (jq1n:K.lookup br=some ⟨oi,n8,.func (fu "lay_on_matter" "Chamber.lay_on_matter" (aQ bR) (aL bR) (ah bR) .none oj oo oq n9 ir ot),og⟩)
  (jq1e:di K ir "Chamber.lay_on_matter"=true)
  (jqL:da K (.ref br)=true)
  (jq1f:ma K (.ref br)=true)
  (jq1g:bo K (.ref bh) "lay_on_change"=some (some (.ref bt)))
  (jq1o:K.lookup bt=some ⟨ou,oa,.func (fu "lay_on_change" "Chamber.lay_on_change" (aQ bS) (aL bS) (ah bS) .none oy oz oB oe iu oE),oh⟩)
  (jq1h:di K iu "Chamber.lay_on_change"=true)
  (jqM:da K (.ref bt)=true)
  (jq1i:ma K (.ref bt)=true)
  (jq1A:bo K (.ref bh) "put_aside"=some (some (.ref bD)))
  (jq1F:K.lookup bD=some ⟨sY,sO,.func (fu "put_aside" "Chamber.put_aside" (aQ cQ) (aL cQ) (ah cQ) .none sZ s9 tf sP kZ tj),sS⟩)
  (jq1B:di K kZ "Chamber.put_aside"=true)
  (jq1c:da K (.ref bD)=true)
  (jq1C:ma K (.ref bD)=true)
  (jqv:bo K (.ref bh) "seats"=some none)
  (jq1:bo K (.ref bh) "sitting"=some none)
  (jq4:bo K (.ref bh) "closed"=some none)
  (jq2:bo K (.ref bh) "made"=some none)
  (jq0:bo K (.ref bh) "pile"=some none)
  (jq3:bo K (.ref bh) "aside"=some none)
  (jqc:bo K (.ref bh) "decided"=some none)
  (jqb:bo K (.ref bh) "first_texts"=some none)
  (jq5:bo K (.ref bh) "edits_kept"=some none)
  (jqd:bo K (.ref bh) "rows"=some none)
  (jq2j:eg K gr "ChamberError"=some (some (.ref bx)))
  (jq40:eg K gr "NoFit"=some (some (.ref eJ)))
  (jq3x:eg K gr "Barred"=some (some (.ref cD)))
  (jq2w:eg K gr "NoMatter"=some (some (.ref bY)))
  (jq2x:eg K gr "NoChange"=some (some (.ref bZ)))
  (jq2y:eg K gr "NotLater"=some (some (.ref bK)))
  (jq3a:eg K gr "Nothing"=some (some (.ref cE)))
  (jq3b:eg K gr "TooMany"=some (some (.ref cF)))
  (jq3c:eg K gr "NoAside"=some (some (.ref cG)))
  (jq3y:eg K gr "NotYet"=some (some (.ref cH)))
  (jq2z:eg K gr "NoNumber"=some (some (.ref iJ)))
  (jq41:K.lookup eJ=some (akh Ri TF eJ FA Rj (.ref bx::qz) Rw Rk Rm Rn Ro Rp Rq Rr Rt Ru Rv "ValueError.__new__"))
  (jq2A:K.lookup bY=some (akh Ij KY bY uY Ik (.ref bx::qz) Iz Il Im Io Ip Iq Ir Iu Iv Iw Iy "ValueError.__new__"))
  (jq2B:K.lookup bZ=some (akh IA KZ bZ uZ IB (.ref bx::qz) IM IC ID IE IF IG IH II IJ IK IL "ValueError.__new__"))
  (jq3d:K.lookup cE=some (akh K0 NN cE yh K1 (.ref bx::qz) Ld K2 K4 K5 K6 K7 K8 K9 La Lb Lc "ValueError.__new__"))
  (jq3e:K.lookup cF=some (akh Le NO cF yi Lf (.ref bx::qz) Lr Lg Lh Li Lj Ll Lm Ln Lo Lp Lq "ValueError.__new__"))
  (jq3f:K.lookup cG=some (akh Ls NP cG yj Lu (.ref bx::qz) LG Lv Lw Lx Ly Lz LA LB LC LD LF "ValueError.__new__"))
  (jq2C:K.lookup iJ=some (akh IP LH iJ u0 IQ (.ref bx::qz) Jc IS IT IU IV IW IZ I0 I9 Ja Jb "ValueError.__new__"))
  (jq3z:K.lookup cD=some (akh NQ Rx cD Cr NR (.ref bx::qz) true NS NT NU NV NW NX NY NZ N0 N1 "ValueError.__new__"))
  (jq2D:K.lookup bK=some (akh Jd LI bK u4 Je (.ref bx::qz) true Jf Jg Jh Ji Jj Jk Jl Jm Jn Jo "ValueError.__new__"))
  (jq3A:K.lookup cH=some (akh N3 Ry cH Cs N4 (.ref bx::qz) true N5 N6 N7 N8 N9 Oa Ob Oc Od Oe "ValueError.__new__"))
  (jq6:K.lookup bx=some ⟨Ct,zY,.cls qV,zZ⟩)
  (jq7:qV.ns=m8)
  (jq42:K.lookup FA=some ⟨Rc,Rf,.dict HQ Rg,Rh⟩)
  (jq43:strKeys HQ=true)
  (jq44:eg K FA "__init__"=some none)
  (jq8:K.lookup m8=some ⟨zU,zV,.dict qU zW,zX⟩)
  (jq9:strKeys qU=true)
  (jqa:eg K m8 "__init__"=some none)
  (jq2E:K.lookup uY=some ⟨HR,HS,.dict yM HU,HV⟩)
  (jq2F:strKeys yM=true)
  (jq2G:eg K uY "__init__"=some none)
  (jq2H:K.lookup uZ=some ⟨HW,HX,.dict yN HY,HZ⟩)
  (jq2I:strKeys yN=true)
  (jq2J:eg K uZ "__init__"=some none)
  (jq3g:K.lookup yh=some ⟨KH,KI,.dict Co KJ,KL⟩)
  (jq3h:strKeys Co=true)
  (jq3i:eg K yh "__init__"=some none)
  (jq3j:K.lookup yi=some ⟨KN,KO,.dict Cp KP,KQ⟩)
  (jq3k:strKeys Cp=true)
  (jq3l:eg K yi "__init__"=some none)
  (jq3m:K.lookup yj=some ⟨KR,KS,.dict Cq KU,KW⟩)
  (jq3n:strKeys Cq=true)
  (jq3o:eg K yj "__init__"=some none)
  (jq2K:K.lookup u0=some ⟨H9,Ia,.dict yO Ib,Ic⟩)
  (jq2L:strKeys yO=true)
  (jq2M:eg K u0 "__init__"=some none)
  (jq3B:K.lookup Cr=some ⟨NF,NG,.dict D4 NH,NI⟩)
  (jq3C:strKeys D4=true)
  (jq3D:eg K Cr "__init__"=some (some (.ref mR)))
  (jq2N:K.lookup u4=some ⟨Ie,Ig,.dict yP Ih,Ii⟩)
  (jq2O:strKeys yP=true)
  (jq2P:eg K u4 "__init__"=some (some (.ref jv)))
  (jq3E:K.lookup Cs=some ⟨NJ,NK,.dict D5 NL,NM⟩)
  (jq3F:strKeys D5=true)
  (jq3G:eg K Cs "__init__"=some (some (.ref mS)))
  (jq1Z:PySem.W.readsIn K bx (.type "type")=true)
  (jq20:PySem.W.specialIn K (.ref bx) "__getattribute__"=some (some (.builtin "type.__getattribute__")))
  (jq21:PySem.W.findCls K (.ref bx) (.type "type") "__init__"=some (.val (.builtin "ValueError.__init__")))
  (jq4L:bo K (.ref eJ) "__getattribute__"=some (some (.builtin "BaseException.__getattribute__")))
  (jq4c:bo K (.ref eJ) "__getattr__"=some none)
  (jq4M:akt K eJ (.type "BaseException")=some true)
  (jq19:de K (.ref eJ) (.ref cD)=some false)
  (jqO:de K (.ref eJ) (.ref bY)=some false)
  (jqP:de K (.ref eJ) (.ref bZ)=some false)
  (jq1j:de K (.ref eJ) (.ref eJ)=some true)
  (jq3R:bo K (.ref bY) "__getattribute__"=some (some (.builtin "BaseException.__getattribute__")))
  (jq3u:bo K (.ref bY) "__getattr__"=some none)
  (jq3S:akt K bY (.type "BaseException")=some true)
  (jqw:de K (.ref bY) (.ref cD)=some false)
  (jqf:de K (.ref bY) (.ref bY)=some true)
  (jq3T:bo K (.ref bZ) "__getattribute__"=some (some (.builtin "BaseException.__getattribute__")))
  (jq3v:bo K (.ref bZ) "__getattr__"=some none)
  (jq3U:akt K bZ (.type "BaseException")=some true)
  (jqx:de K (.ref bZ) (.ref cD)=some false)
  (jqg:de K (.ref bZ) (.ref bY)=some false)
  (jqh:de K (.ref bZ) (.ref bZ)=some true)
  (jq45:bo K (.ref cE) "__getattribute__"=some (some (.builtin "BaseException.__getattribute__")))
  (jq3V:bo K (.ref cE) "__getattr__"=some none)
  (jq46:akt K cE (.type "BaseException")=some true)
  (jqQ:de K (.ref cE) (.ref cD)=some false)
  (jqm:de K (.ref cE) (.ref bY)=some false)
  (jqn:de K (.ref cE) (.ref bZ)=some false)
  (jqY:de K (.ref cE) (.ref eJ)=some false)
  (jqo:de K (.ref cE) (.ref bK)=some false)
  (jqy:de K (.ref cE) (.ref cE)=some true)
  (jq47:bo K (.ref cF) "__getattribute__"=some (some (.builtin "BaseException.__getattribute__")))
  (jq3W:bo K (.ref cF) "__getattr__"=some none)
  (jq48:akt K cF (.type "BaseException")=some true)
  (jqR:de K (.ref cF) (.ref cD)=some false)
  (jqp:de K (.ref cF) (.ref bY)=some false)
  (jqq:de K (.ref cF) (.ref bZ)=some false)
  (jqZ:de K (.ref cF) (.ref eJ)=some false)
  (jqr:de K (.ref cF) (.ref bK)=some false)
  (jqz:de K (.ref cF) (.ref cE)=some false)
  (jqA:de K (.ref cF) (.ref cF)=some true)
  (jq49:bo K (.ref cG) "__getattribute__"=some (some (.builtin "BaseException.__getattribute__")))
  (jq3X:bo K (.ref cG) "__getattr__"=some none)
  (jq4a:akt K cG (.type "BaseException")=some true)
  (jqS:de K (.ref cG) (.ref cD)=some false)
  (jqs:de K (.ref cG) (.ref bY)=some false)
  (jqt:de K (.ref cG) (.ref bZ)=some false)
  (jq10:de K (.ref cG) (.ref eJ)=some false)
  (jqu:de K (.ref cG) (.ref bK)=some false)
  (jqB:de K (.ref cG) (.ref cE)=some false)
  (jqC:de K (.ref cG) (.ref cF)=some false)
  (jqD:de K (.ref cG) (.ref cG)=some true)
  (jq3Y:bo K (.ref iJ) "__getattribute__"=some (some (.builtin "BaseException.__getattribute__")))
  (jq3w:bo K (.ref iJ) "__getattr__"=some none)
  (jq3Z:akt K iJ (.type "BaseException")=some true)
  (jq3H:bo K (.ref cD) "__getattribute__"=some (some (.builtin "BaseException.__getattribute__")))
  (jq3p:bo K (.ref cD) "__getattr__"=some none)
  (jq3I:akt K cD (.type "BaseException")=some true)
  (jq3q:K.lookup mR=some ⟨HE,Hy,.func (fu "__init__" "Barred.__init__" (aQ gf) (aL gf) (ah gf) .none HF HG HI Hz yK HJ),HC⟩)
  (jq2Q:di K yK "Barred.__init__"=true)
  (jq2R:da K (.ref mR)=true)
  (jq3J:ma K (.ref mR)=true)
  (jq3K:bo K (.ref cD) "__setattr__"=some (some (.builtin "object.__setattr__")))
  (jq2Z:bo K (.ref cD) "bar"=some none)
  (jq3L:aj4 K cD=true)
  (jq11:de K (.ref cD) (.ref cD)=some true)
  (jq2S:bo K (.ref bK) "__getattribute__"=some (some (.builtin "BaseException.__getattribute__")))
  (jq2t:bo K (.ref bK) "__getattr__"=some none)
  (jq2T:akt K bK (.type "BaseException")=some true)
  (jq2u:K.lookup jv=some ⟨CT,CP,.func (fu "__init__" "NotLater.__init__" (aQ ef) (aL ef) (ah ef) .none CU CV CW CQ ui CY),CS⟩)
  (jq2r:di K ui "NotLater.__init__"=true)
  (jq2s:da K (.ref jv)=true)
  (jq2U:ma K (.ref jv)=true)
  (jq2V:bo K (.ref bK) "__setattr__"=some (some (.builtin "object.__setattr__")))
  (jq2p:bo K (.ref bK) "sitting"=some none)
  (jq2W:aj4 K bK=true)
  (jqE:de K (.ref bK) (.ref cD)=some false)
  (jqi:de K (.ref bK) (.ref bY)=some false)
  (jqj:de K (.ref bK) (.ref bZ)=some false)
  (jqT:de K (.ref bK) (.ref eJ)=some false)
  (jqk:de K (.ref bK) (.ref bK)=some true)
  (jq3M:bo K (.ref cH) "__getattribute__"=some (some (.builtin "BaseException.__getattribute__")))
  (jq3r:bo K (.ref cH) "__getattr__"=some none)
  (jq3N:akt K cH (.type "BaseException")=some true)
  (jq3s:K.lookup mS=some ⟨HK,HA,.func (fu "__init__" "NotYet.__init__" (aQ gg) (aL gg) (ah gg) .none HL HM HN HB yL HP),HD⟩)
  (jq2X:di K yL "NotYet.__init__"=true)
  (jq2Y:da K (.ref mS)=true)
  (jq3O:ma K (.ref mS)=true)
  (jq3P:bo K (.ref cH) "__setattr__"=some (some (.builtin "object.__setattr__")))
  (jq30:bo K (.ref cH) "sitting"=some none)
  (jq3Q:aj4 K cH=true)
  (jq12:de K (.ref cH) (.ref cD)=some false)
  (jqF:de K (.ref cH) (.ref bY)=some false)
  (jqG:de K (.ref cH) (.ref bZ)=some false)
  (jq1a:de K (.ref cH) (.ref eJ)=some false)
  (jqH:de K (.ref cH) (.ref bK)=some false)
  (jqU:de K (.ref cH) (.ref cE)=some false)
  (jqV:de K (.ref cH) (.ref cF)=some false)
  (jqW:de K (.ref cH) (.ref cG)=some false)
  (jq13:de K (.ref cH) (.ref cH)=some true) :
  ∃fd:ki,(∀(s:Shared) (v:Value),BindsTo s fd ⟨[v],[]⟩ [("_law_script",v)])/\∀base:Heap,K.In base->base.Ns gr mg->aJ l.prog w K mg base CX0 20 fa fd ["_law_script"] (MJ K):=by
 have e:=hfa.symm.trans (kg X G a_40);cases e;have F_1:=aX (st:=xn) l_1 cc_1 kp_1;have b_1:=F_1.binds (ps:=["things","edit"]) λ_ _ _ _ _ _ us hl=>match us,hl with | [_,_],_=>rfl
 have F_2:=aX (st:=gh) l_2 cc_2 kp_2;have b_2:=F_2.binds (ps:=["things","edit"]) λ_ _ _ _ _ _ us hl=>match us,hl with | [_,_],_=>rfl
 have F_3:=aX (st:=xp) l_3 cc_3 kp_3;have b_3:=F_3.binds (ps:=["things","edit"]) λ_ _ _ _ _ _ us hl=>match us,hl with | [_,_],_=>rfl
 have F_4:=aX (st:=jF) l_4 cc_4 kp_4;have b_4:=F_4.binds (ps:=["clause"]) λ_ _ _ _ _ _ us hl=>match us,hl with | [_],_=>rfl
 have F_5:=aX (st:=iQ) l_5 cc_5 kp_5;have b_5:=F_5.binds (ps:=["words"]) λ_ _ _ _ _ _ us hl=>match us,hl with | [_],_=>rfl
 have F_6:=aX (st:=iR) l_6 cc_6 kp_6;have b_6:=F_6.binds (ps:=["told"]) λ_ _ _ _ _ _ us hl=>match us,hl with | [_],_=>rfl
 have F_7:=aX (st:=oV) l_7 cc_7 kp_7;have b_7:=F_7.binds (ps:=["pile","closed"]) λ_ _ _ _ _ _ us hl=>match us,hl with | [_,_],_=>rfl
 have F_8:=aX (st:=fD) l_8 cc_8 kp_8;have b_8:=F_8.binds (ps:=["pile"]) λ_ _ _ _ _ _ us hl=>match us,hl with | [_],_=>rfl
 have F_9:=aX (st:=eh) l_9 cc_9 kp_9;have b_9:=F_9.binds (ps:=["pile"]) λ_ _ _ _ _ _ us hl=>match us,hl with | [_],_=>rfl
 have agb:=aX (st:=cR) l_10 jq5M jq5N;have ai5:=agb.binds (ps:=["kind","pile"]) λ_ _ _ _ _ _ us hl=>match us,hl with | [_,_],_=>rfl
 have agc:=aX (st:=cV) l_11 jq5O jq5P;have ai6:=agc.binds (ps:=["kind","pile","closed"]) λ_ _ _ _ _ _ us hl=>match us,hl with | [_,_,_],_=>rfl
 have agd:=aX (st:=ei) l_12 jq5Q jq5R;have ai7:=agd.binds (ps:=["text"]) λ_ _ _ _ _ _ us hl=>match us,hl with | [_],_=>rfl
 have age:=aX (st:=et) l_13 jq5S jq5T;have ai8:=age.binds (ps:=["edit"]) λ_ _ _ _ _ _ us hl=>match us,hl with | [_],_=>rfl
 have agf:=aX (st:=dX) l_14 jq5U jq5V;have ai9:=agf.binds (ps:=["deed"]) λ_ _ _ _ _ _ us hl=>match us,hl with | [_],_=>rfl
 have agg:=aX (st:=iS) l_15 jq5W jq5X;have aja:=agg.binds (ps:=["deed"]) λ_ _ _ _ _ _ us hl=>match us,hl with | [_],_=>rfl
 have agh:=aX (st:=lQ) l_16 jq5Y jq5Z;have ajb:=agh.binds (ps:=["need","ayes","noes"]) λ_ _ _ _ _ _ us hl=>match us,hl with | [_,_,_],_=>rfl
 have agi:=aX (st:=iT) l_17 jq60 jq61;have ajc:=agi.binds (ps:=["_law_script","_law_k"]) λ_ _ _ _ _ _ us hl=>match us,hl with | [_,_],_=>rfl
 have agj:=aX (st:=oZ) l_18 jq62 jq63;have ajd:=agj.binds (ps:=["_law_cell"]) λ_ _ _ _ _ _ us hl=>match us,hl with | [_],_=>rfl
 have agk:=aX (st:=jH) l_19 jq64 jq65;have aje:=agk.binds (ps:=["_law_cell"]) λ_ _ _ _ _ _ us hl=>match us,hl with | [_],_=>rfl
 have agl:=aX (st:=o9) l_20 jq66 jq67;have ajf:=agl.binds (ps:=["_law_cell","_law_size","_law_thing"]) λ_ _ _ _ _ _ us hl=>match us,hl with | [_,_,_],_=>rfl
 have agm:=aX (st:=pb) l_21 jq68 jq69;have ajg:=agm.binds (ps:=["_law_things","_law_edit_here"]) λ_ _ _ _ _ _ us hl=>match us,hl with | [_,_],_=>rfl
 have agn:=aX (st:=pd) l_22 jq6a jq6b;have ajh:=agn.binds (ps:=["_law_things","_law_edit_here"]) λ_ _ _ _ _ _ us hl=>match us,hl with | [_,_],_=>rfl
 have ago:=aX (st:=lR) l_23 jq6c jq6d;have aji:=ago.binds (ps:=["_law_clause_here"]) λ_ _ _ _ _ _ us hl=>match us,hl with | [_],_=>rfl
 have agp:=aX (st:=pe) l_24 jq6e jq6f;have ajj:=agp.binds (ps:=["_law_kind"]) λ_ _ _ _ _ _ us hl=>match us,hl with | [_],_=>rfl
 have agq:=aX (st:=tG) l_25 jq6g jq6h;have ajk:=agq.binds (ps:=[]) λ_ _ _ _ _ _ us hl=>match us,hl with | [],_=>rfl
 have agr:=aX (st:=tH) l_26 jq6i jq6j;have ajl:=agr.binds (ps:=["_law_m","_law_number"]) λ_ _ _ _ _ _ us hl=>match us,hl with | [_,_],_=>rfl
 have ags:=aX (st:=tI) l_27 jq6k jq6l;have ajm:=ags.binds (ps:=["_law_m"]) λ_ _ _ _ _ _ us hl=>match us,hl with | [_],_=>rfl
 have agt:=aX (st:=lS) l_28 jq6m jq6n;have ajn:=agt.binds (ps:=["_law_m","_law_motion"]) λ_ _ _ _ _ _ us hl=>match us,hl with | [_,_],_=>rfl
 have agu:=aX (st:=pf) l_29 jq6o jq6p;have ajo:=agu.binds (ps:=["_law_m","_law_motion"]) λ_ _ _ _ _ _ us hl=>match us,hl with | [_,_],_=>rfl
 have agv:=aX (st:=lT) l_30 jq6q jq6r;have ajp:=agv.binds (ps:=["_law_m","_law_word_here"]) λ_ _ _ _ _ _ us hl=>match us,hl with | [_,_],_=>rfl
 have agw:=aX (st:=lU) l_31 jq6s jq6t;have ajq:=agw.binds (ps:=["_law_m","_law_ayes","_law_noes","_law_seats_here"]) λ_ _ _ _ _ _ us hl=>match us,hl with | [_,_,_,_],_=>rfl
 have agx:=aX (st:=lV) l_32 jq6u jq6v;have ajr:=agx.binds (ps:=["_law_m","_law_number"]) λ_ _ _ _ _ _ us hl=>match us,hl with | [_,_],_=>rfl
 have agy:=aX (st:=tJ) l_33 jq6w jq6x;have ajs:=agy.binds (ps:=["_law_m","_law_deed_here","_law_seats_here"]) λ_ _ _ _ _ _ us hl=>match us,hl with | [_,_,_],_=>rfl
 have agz:=aX (st:=lW) l_34 jq6y jq6z;have ajt:=agz.binds (ps:=["_law_m"]) λ_ _ _ _ _ _ us hl=>match us,hl with | [_],_=>rfl
 have agA:=aX (st:=ph) l_35 jq6A jq6B;have aju:=agA.binds (ps:=["_law_cell","_law_seats_here"]) λ_ _ _ _ _ _ us hl=>match us,hl with | [_,_],_=>rfl
 have agB:=aX (st:=jJ) l_36 jq6C jq6D;have ajv:=agB.binds (ps:=["_law_m","_law_way"]) λ_ _ _ _ _ _ us hl=>match us,hl with | [_,_],_=>rfl
 have agC:=aX (st:=mf) l_37 jq6E jq6F;have ajw:=agC.binds (ps:=["_law_m","_law_cell","_law_seats_here"]) λ_ _ _ _ _ _ us hl=>match us,hl with | [_,_,_],_=>rfl
 have agD:=aX (st:=lX) l_38 jq6G jq6H;have ajx:=agD.binds (ps:=["_law_chamber","_law_deed_here"]) λ_ _ _ _ _ _ us hl=>match us,hl with | [_,_],_=>rfl
 have agE:=aX (st:=lY) l_39 jq6I jq6J;have ajy:=agE.binds (ps:=["_law_cell"]) λ_ _ _ _ _ _ us hl=>match us,hl with | [_],_=>rfl
 have ajz:=aX (st:=vz) l_40 jq6K jq6L;have UW:=aX (st:=fR) jq6M jq4N jq4e;have agF:=UW.binds (ps:=["self"]) λ_ _ _ _ _ _ us hl=>match us,hl with | [_],_=>rfl
 have UX:=aX (st:=fS) jq6N jq4P jq4g;have agG:=UX.binds (ps:=["self"]) λ_ _ _ _ _ _ us hl=>match us,hl with | [_],_=>rfl
 have UY:=aX (st:=iM) jq6O jq4R jq4i;have agH:=UY.binds (ps:=["self"]) λ_ _ _ _ _ _ us hl=>match us,hl with | [_],_=>rfl
 have UZ:=aX (st:=fU) jq6P jq4T jq4k;have agI:=UZ.binds (ps:=["self"]) λ_ _ _ _ _ _ us hl=>match us,hl with | [_],_=>rfl
 have U0:=aX (st:=gR) jq6Q jq4V jq4m;have agJ:=U0.binds (ps:=["self"]) λ_ _ _ _ _ _ us hl=>match us,hl with | [_],_=>rfl
 have U4:=aX (st:=jE) jq6R jq4X jq4o;have agK:=U4.binds (ps:=["self"]) λ_ _ _ _ _ _ us hl=>match us,hl with | [_],_=>rfl
 have U5:=aX (st:=iN) jq6S jq4Z jq4q;have agL:=U5.binds (ps:=["self"]) λ_ _ _ _ _ _ us hl=>match us,hl with | [_],_=>rfl
 have U6:=aX (st:=gS) jq6T jq51 jq4s;have agM:=U6.binds (ps:=["self"]) λ_ _ _ _ _ _ us hl=>match us,hl with | [_],_=>rfl
 have agN:=aX (st:=fV) l_mr jq6U jq2v;have ajA:=agN.binds (ps:=["self"]) λ_ _ _ _ _ _ us hl=>match us,hl with | [_],_=>rfl
 have agO:=aX (st:=fW) l_mn jq6V jq32;have LJ:=agO.binds (ps:=["self"]) λ_ _ _ _ _ _ us hl=>match us,hl with | [_],_=>rfl
 have U7:=aX (st:=gU) jq6W jq5i jq4u;have agP:=U7.binds (ps:=["self"]) λ_ _ _ _ _ _ us hl=>match us,hl with | [_],_=>rfl
 have agQ:=aX (st:=fX) l_mt jq6X jq4b;have ZA:=agQ.binds (ps:=["self"]) λ_ _ _ _ _ _ us hl=>match us,hl with | [_],_=>rfl
 have U8:=aX (st:=fY) jq6Y jq5n jq4w;have agR:=U8.binds (ps:=["self"]) λ_ _ _ _ _ _ us hl=>match us,hl with | [_],_=>rfl
 have U9:=aX (st:=fZ) jq6Z jq5p jq4y;have agS:=U9.binds (ps:=["self"]) λ_ _ _ _ _ _ us hl=>match us,hl with | [_],_=>rfl
 have Va:=aX (st:=iO) jq70 jq5r jq4A;have agT:=Va.binds (ps:=["self"]) λ_ _ _ _ _ _ us hl=>match us,hl with | [_],_=>rfl
 have Vb:=aX (st:=f6) jq71 jq5t jq4C;have agU:=Vb.binds (ps:=["self"]) λ_ _ _ _ _ _ us hl=>match us,hl with | [_],_=>rfl
 have Vc:=aX (st:=gW) jq72 jq5v jq4E;have agV:=Vc.binds (ps:=["self"]) λ_ _ _ _ _ _ us hl=>match us,hl with | [_],_=>rfl
 have Vd:=aX (st:=f7) jq73 jq5x jq5y;have agW:=Vd.binds (ps:=["self","text"]) λ_ _ _ _ _ _ us hl=>match us,hl with | [_,_],_=>rfl
 have Ve:=aX (st:=f9) jq74 jq5A jq5B;have agX:=Ve.binds (ps:=["self","edit"]) λ_ _ _ _ _ _ us hl=>match us,hl with | [_,_],_=>rfl
 have Vf:=aX (st:=iP) jq75 jq5D jq5E;have agY:=Vf.binds (ps:=["self","edit"]) λ_ _ _ _ _ _ us hl=>match us,hl with | [_,_],_=>rfl
 have Vg:=aX (st:=gb) jq76 jq5G jq5H;have agZ:=Vg.binds (ps:=["self","sitting"]) λ_ _ _ _ _ _ us hl=>match us,hl with | [_,_],_=>rfl
 have Vh:=aX (st:=gX) jq77 jq5J jq5K;have ag0:=Vh.binds (ps:=["self","clause"]) λ_ _ _ _ _ _ us hl=>match us,hl with | [_,_],_=>rfl
 have gF:=aX (st:=eS) jq2k jq23 jq24;have ja:=gF.binds (ps:=["self","seats"]) λ_ _ _ _ _ _ us hl=>match us,hl with | [_,_],_=>rfl
 have gG:=aX (st:=eT) jq2l jq27 jq1G;have jb:=gG.binds (ps:=["self","told"]) λ_ _ _ _ _ _ us hl=>match us,hl with | [_,_],_=>rfl
 have gH:=aX (st:=eU) jq2m jq2a jq1H;have jc:=gH.binds (ps:=["self","ayes","noes"]) λ_ _ _ _ _ _ us hl=>match us,hl with | [_,_,_],_=>rfl
 have gI:=aX (st:=eV) jq2n jq2d jq1I;have jd:=gI.binds (ps:=["self"]) λ_ _ _ _ _ _ us hl=>match us,hl with | [_],_=>rfl
 have gJ:=aX (st:=eW) jq2o jq2g jq1J;have je:=gJ.binds (ps:=["self","number"]) λ_ _ _ _ _ _ us hl=>match us,hl with | [_,_],_=>rfl
 have fO:=aX (st:=dD) jq2i jq1V jq1D;have fP:=fO.binds (ps:=["self"]) λ_ _ _ _ _ _ us hl=>match us,hl with | [_],_=>rfl
 have eX:=aX (st:=dO) jq1X jq1O jq1u;have hJ:=eX.binds (ps:=["self","number"]) λ_ _ _ _ _ _ us hl=>match us,hl with | [_,_],_=>rfl
 have eD:=aX (st:=cK) jq1Q jq1L jq1p;have eE:=eD.binds (ps:=["self"]) λ_ _ _ _ _ _ us hl=>match us,hl with | [_],_=>rfl
 have dj:=aX (st:=cz) jq1w jq1s jq17;have eF:=dj.binds (ps:=["self","number"]) λ_ _ _ _ _ _ us hl=>match us,hl with | [_,_],_=>rfl
 have bL:=aX (st:=bB) jqN jqJ jqe;have cj:=bL.binds (ps:=["self","told"]) λ_ _ _ _ _ _ us hl=>match us,hl with | [_,_],_=>rfl
 have cc:=aX (st:=bM) jq18 jq15 jql;have cf:=cc.binds (ps:=["self"]) λ_ _ _ _ _ _ us hl=>match us,hl with | [_],_=>rfl
 have eY:=aX (st:=dP) jq1Y jq1S jq1v;have eZ:=eY.binds (ps:=["self","word"]) λ_ _ _ _ _ _ us hl=>match us,hl with | [_,_],_=>rfl
 have cM:=aX (st:=b7) jq1q jq1l jqX;have cN:=cM.binds (ps:=["self","deed"]) λ_ _ _ _ _ _ us hl=>match us,hl with | [_,_],_=>rfl
 have dF:=aX (st:=cP) jq1E jq1y jq1b;have eM:=dF.binds (ps:=["self","motion"]) λ_ _ _ _ _ _ us hl=>match us,hl with | [_,_],_=>rfl
 have cB:=aX (st:=bR) jq1n jq1e jqL;have dA:=cB.binds (ps:=["self","edit"]) λ_ _ _ _ _ _ us hl=>match us,hl with | [_,_],_=>rfl
 have cC:=aX (st:=bS) jq1o jq1h jqM;have dB:=cC.binds (ps:=["self","edit"]) λ_ _ _ _ _ _ us hl=>match us,hl with | [_,_],_=>rfl
 have dG:=aX (st:=cQ) jq1F jq1B jq1c;have dH:=dG.binds (ps:=["self","until"]) λ_ _ _ _ _ _ us hl=>match us,hl with | [_,_],_=>rfl
 have mz:=aX (st:=gf) jq3q jq2Q jq2R;have mB:=mz.binds (ps:=["self","bar"]) λ_ _ _ _ _ _ us hl=>match us,hl with | [_,_],_=>rfl
 have jh:=aX (st:=ef) jq2u jq2r jq2s;have lI:=jh.binds (ps:=["self","sitting"]) λ_ _ _ _ _ _ us hl=>match us,hl with | [_,_],_=>rfl
 have mC:=aX (st:=gg) jq3s jq2X jq2Y;have qo:=mC.binds (ps:=["self","sitting"]) λ_ _ _ _ _ _ us hl=>match us,hl with | [_,_],_=>rfl
 have T:Txt P K mg ⟨f_1,_,f_2,_,f_3,_,f_4,_,f_5,_,f_6,_,f_7,_,f_8,_,f_9,_,S4,_,S5,_,S6,_,S7,_,S8,_,S9,_,Ta,_,Tb,_,Tc,_,Td,_,Te,_,Tf,_,Tg,_,Th,_,Ti,_,Tj,_,Tn,_,To,_,Tp,_,Tq,_,Tr,_,Ts,_,Tt,_,Tu,_,Tv,_,Tw,_,Tx,_,Tz,_,TB,_,TC,_,kD,c0,c1,c2,c3,c4,c5,c6,c7,cm,tb,Hc,_,Hd,_,He,_,Hf,_,Hg,_,Hh,_,Hi,_,Hk,_,zc,_,Cn,_,Hl,_,KG,_,Hm,_,Ho,_,Hq,_,Hr,_,Hs,_,Ht,_,Hu,_,Hv,_,Hw,_,Hx,_,bh,cn,_,cq,_,cv,_,cw,_,cx,_,b6,_,bO,_,bG,_,bz,_,a8,_,bf,_,bH,_,bj,_,bC,_,br,_,bt,_,bD,_,bx,eJ,cD,bY,bZ,bK,cE,cF,cG,cH,iJ,mR,_,jv,_,mS,_⟩:={
  JX:=F_1,
  Pu:=b_1,
  Pw:=kg X G a_1,
  ij:=F_2,
  kF:=b_2,
  kG:=kg X G a_2,
  ES:=F_3,
  JY:=b_3,
  JZ:=kg X G a_3,
  iF:=F_4,
  jL:=b_4,
  jM:=kg X G a_4,
  nv:=F_5,
  rO:=b_5,
  rP:=kg X G a_5,
  ny:=F_6,
  yt:=b_6,
  yu:=kg X G a_6,
  vI:=F_7,
  Bc:=b_7,
  Bd:=kg X G a_7,
  lH:=F_8,
  qj:=b_8,
  qk:=kg X G a_8,
  lj:=F_9,
  qD:=b_9,
  qE:=kg X G a_9,
  hZ:=agb,
  lA:=ai5,
  lB:=kg X G a_10,
  iG:=agc,
  mq:=ai6,
  mr:=kg X G a_11,
  ll:=agd,
  qF:=ai7,
  qG:=kg X G a_12,
  lq:=age,
  qH:=ai8,
  qI:=kg X G a_13,
  mw:=agf,
  rQ:=ai9,
  rR:=kg X G a_14,
  kM:=agg,
  nz:=aja,
  nA:=kg X G a_15,
  xq:=agh,
  Dr:=ajb,
  Ds:=kg X G a_16,
  rS:=agi,
  yw:=ajc,
  yx:=kg X G a_17,
  vJ:=agj,
  Be:=ajd,
  Bf:=kg X G a_18,
  mx:=agk,
  ql:=aje,
  qm:=kg X G a_19,
  vK:=agl,
  Bg:=ajf,
  Bh:=kg X G a_20,
  vL:=agm,
  Bi:=ajg,
  Bj:=kg X G a_21,
  vM:=agn,
  Bk:=ajh,
  Bl:=kg X G a_22,
  pD:=ago,
  tT:=aji,
  tU:=kg X G a_23,
  vN:=agp,
  Bm:=ajj,
  Bn:=kg X G a_24,
  ET:=agq,
  L4:=ajk,
  L5:=kg X G a_25,
  iD:=agr,
  i8:=ajl,
  i9:=kg X G a_26,
  vO:=ags,
  An:=ajm,
  Ao:=kg X G a_27,
  xr:=agt,
  Dt:=ajn,
  Du:=kg X G a_28,
  Bo:=agu,
  Ge:=ajo,
  Gf:=kg X G a_29,
  tV:=agv,
  xt:=ajp,
  xu:=kg X G a_30,
  xw:=agw,
  Dv:=ajq,
  Dw:=kg X G a_31,
  xx:=agx,
  Dx:=ajr,
  Dy:=kg X G a_32,
  EU:=agy,
  L6:=ajs,
  L7:=kg X G a_33,
  xy:=agz,
  Dz:=ajt,
  DA:=kg X G a_34,
  Bp:=agA,
  Gh:=aju,
  Gi:=kg X G a_35,
  uy:=agB,
  Bq:=ajv,
  Br:=kg X G a_36,
  Bs:=agC,
  Gj:=ajw,
  Gk:=kg X G a_37,
  xA:=agD,
  DB:=ajx,
  DC:=kg X G a_38,
  xB:=agE,
  DD:=ajy,
  DE:=kg X G a_39,
  Aq:=aki X G z1,
  my:=aki X G z2,
  vP:=aki X G z3,
  pE:=aki X G z4,
  Gm:=aki X G z5,
  T5:=aki X G z6,
  Px:=aki X G z7,
  vQ:=aki X G z8,
  Py:=aki X G z9,
  Pz:=aki X G z10,
  EV:=aki X G z11,
  vR:=kg X G jq2q,
  cl:=λk hk=>match k,hk with | 0,_=>⟨pg0,hd0,po0,sa0⟩ | 1,_=>⟨pg1,hd1,po1,sa1⟩ | 2,_=>⟨pg2,hd2,po2,sa2⟩ | 3,_=>⟨pg3,hd3,po3,sa3⟩ | 4,_=>⟨pg4,hd4,po4,sa4⟩ | 5,_=>⟨pg5,hd5,po5,sa5⟩ | 6,_=>⟨pg6,hd6,po6,sa6⟩ | 7,_=>⟨pg7,hd7,po7,sa7⟩ | n+8,h=>absurd h (by omega),
  vS:=kg X G ac0,
  vT:=kg X G ac1,
  J0:=kg X G ac2,
  Bt:=kg X G ac3,
  EW:=kg X G ac4,
  PB:=kg X G ac5,
  J1:=kg X G ac6,
  EX:=kg X G ac7,
  EY:=kg X G atb,
  tb:=⟨est,nt,ltb,ktb⟩,
  rk:=λk hk=>match k,hk with | 0,_=>⟨_,rk0⟩ | 1,_=>⟨_,rk1⟩ | 2,_=>⟨_,rk2⟩ | 3,_=>⟨_,rk3⟩ | 4,_=>⟨_,rk4⟩ | 5,_=>⟨_,rk5⟩ | 6,_=>⟨_,rk6⟩ | 7,_=>⟨_,rk7⟩ | n+8,h=>absurd h (by omega),
  nQ:=λk hk=>match k,hk with | 0,_=>⟨jq4d,jq4O,jq4e⟩ | 1,_=>⟨jq4f,jq4Q,jq4g⟩ | 2,_=>⟨jq4h,jq4S,jq4i⟩ | 3,_=>⟨jq4j,jq4U,jq4k⟩ | 4,_=>⟨jq4l,jq4W,jq4m⟩ | 5,_=>⟨jq4n,jq4Y,jq4o⟩ | 6,_=>⟨jq4p,jq50,jq4q⟩ | 7,_=>⟨jq4r,jq52,jq4s⟩ | n+8,h=>absurd h (by omega),
  nR:=λk hk=>match k,hk with | 0,_=>agF | 1,_=>agG | 2,_=>agH | 3,_=>agI | 4,_=>agJ | 5,_=>agK | 6,_=>agL | 7,_=>agM | n+8,h=>absurd h (by omega),
  PD:=λk hk=>match k,hk with | 0,_=>⟨jq5b,jq3t,jq32⟩ | 1,_=>⟨jq5c,jq3t,jq32⟩ | 2,_=>⟨jq5d,jq3t,jq32⟩ | 3,_=>⟨jq5e,jq3t,jq32⟩ | 4,_=>⟨jq4t,jq5j,jq4u⟩ | 5,_=>⟨jq5f,jq3t,jq32⟩ | 6,_=>⟨jq5g,jq3t,jq32⟩ | 7,_=>⟨jq5h,jq3t,jq32⟩ | n+8,h=>absurd h (by omega),
  PF:=λk hk=>match k,hk with | 0,_=>LJ | 1,_=>LJ | 2,_=>LJ | 3,_=>LJ | 4,_=>agP | 5,_=>LJ | 6,_=>LJ | 7,_=>LJ | n+8,h=>absurd h (by omega),
  J2:=λk hk=>match k,hk with | 0,_=>⟨jq4v,jq5o,jq4w⟩ | 1,_=>⟨jq4x,jq5q,jq4y⟩ | 2,_=>⟨jq4z,jq5s,jq4A⟩ | 3,_=>⟨jq4B,jq5u,jq4C⟩ | 4,_=>⟨jq5k,jq4K,jq4b⟩ | 5,_=>⟨jq5l,jq4K,jq4b⟩ | 6,_=>⟨jq5m,jq4K,jq4b⟩ | 7,_=>⟨jq4D,jq5w,jq4E⟩ | n+8,h=>absurd h (by omega),
  J3:=λk hk=>match k,hk with | 0,_=>agR | 1,_=>agS | 2,_=>agT | 3,_=>agU | 4,_=>ZA | 5,_=>ZA | 6,_=>ZA | 7,_=>agV | n+8,h=>absurd h (by omega),
  PH:=λk hk=>match k,hk with | 0,_=>⟨jq53,jq31,jq2v⟩ | 1,_=>⟨jq54,jq31,jq2v⟩ | 2,_=>⟨jq55,jq31,jq2v⟩ | 3,_=>⟨jq56,jq31,jq2v⟩ | 4,_=>⟨jq57,jq31,jq2v⟩ | 5,_=>⟨jq58,jq31,jq2v⟩ | 6,_=>⟨jq59,jq31,jq2v⟩ | 7,_=>⟨jq5a,jq31,jq2v⟩ | n+8,h=>absurd h (by omega),
  PK:=λ_ _=>ajA,
  aaq:=UW,
  aar:=UX,
  aas:=UY,
  aat:=UZ,
  aau:=U0,
  aav:=U4,
  aaw:=U5,
  aax:=U6,
  F_r:=agN,
  F_n:=agO,
  aay:=U7,
  F_t:=agQ,
  aaz:=U8,
  aaA:=U9,
  aaB:=Va,
  aaC:=Vb,
  aaD:=Vc,
  aaE:=Vd,
  aaF:=Ve,
  aaG:=Vf,
  aaH:=Vg,
  aaI:=Vh,
  vU:=⟨mk0,jq4F,jq5z,kc0⟩,
  Sd:=agW,
  na0:=na0,
  vV:=⟨mk1,jq4G,jq5C,kc1⟩,
  Se:=agX,
  na1:=na1,
  J4:=⟨mk2,jq4H,jq5F,kc2⟩,
  We:=agY,
  na2:=na2,
  Bu:=⟨mk3,jq4I,jq5I,kc3⟩,
  Wf:=agZ,
  na3:=na3,
  EZ:=⟨mk7,jq4J,jq5L,kc7⟩,
  Wg:=ag0,
  na7:=na7,
  mkn:=λk hk=>by
   rcases hk with rfl | rfl | rfl
   ·exact⟨mk4,ni4,kc4⟩
   ·exact⟨mk5,ni5,kc5⟩
   ·exact⟨mk6,ni6,kc6⟩,
  DF:=kg X G jq33,
  au:=⟨jq34,jq35,jq36,jq37⟩,
  gF:=gF,
  ja:=ja,
  DG:=⟨jq38,jq22,jq25,jq39⟩,
  gG:=gG,
  jb:=jb,
  rT:=⟨jq26,jq28,jq1G⟩,
  gH:=gH,
  jc:=jc,
  rV:=⟨jq29,jq2b,jq1H⟩,
  gI:=gI,
  jd:=jd,
  rW:=⟨jq2c,jq2e,jq1I⟩,
  gJ:=gJ,
  je:=je,
  rX:=⟨jq2f,jq2h,jq1J⟩,
  fO:=fO,
  fP:=fP,
  lu:=⟨jq1U,jq1W,jq1D⟩,
  eX:=eX,
  hJ:=hJ,
  pF:=⟨jq1N,jq1P,jq1u⟩,
  eD:=eD,
  eE:=eE,
  jf:=⟨jq1K,jq1M,jq1p⟩,
  dj:=dj,
  eF:=eF,
  kO:=⟨jq1r,jq1t,jq17⟩,
  bL:=bL,
  cj:=cj,
  fv:=⟨jqI,jqK,jqe⟩,
  cc:=cc,
  cf:=cf,
  d7:=⟨jq14,jq16,jql⟩,
  eY:=eY,
  eZ:=eZ,
  jN:=⟨jq1R,jq1T,jq1v⟩,
  cM:=cM,
  cN:=cN,
  fF:=⟨jq1k,jq1m,jqX⟩,
  dF:=dF,
  eM:=eM,
  lC:=⟨jq1x,jq1z,jq1b⟩,
  cB:=cB,
  dA:=dA,
  iU:=⟨jq1d,jq1f,jqL⟩,
  cC:=cC,
  dB:=dB,
  iV:=⟨jq1g,jq1i,jqM⟩,
  dG:=dG,
  dH:=dH,
  ia:=⟨jq1A,jq1C,jq1c⟩,
  jqv:=jqv,
  jq1:=jq1,
  jq4:=jq4,
  jq2:=jq2,
  jq0:=jq0,
  jq3:=jq3,
  jqc:=jqc,
  jqb:=jqb,
  jq5:=jq5,
  jqd:=jqd,
  jg:=kg X G jq2j,
  E2:=kg X G jq40,
  vW:=kg X G jq3x,
  uz:=kg X G jq2w,
  uA:=kg X G jq2x,
  uB:=kg X G jq2y,
  xC:=kg X G jq3a,
  xD:=kg X G jq3b,
  xE:=kg X G jq3c,
  Bv:=kg X G jq3y,
  Bw:=kg X G jq2z,
  iE:=⟨jq1Z,jq20,jq21⟩,
  Gn:=⟨⟨_,_,_,_,_,_,_,_,_,_,_,_,_,_,_,_,jq41,⟨⟨_,_,_,_,_,jq42,jq43⟩,jq44⟩,(i6.own jq6 (by rw[jq7];exact⟨⟨_,_,_,_,_,jq8,jq9⟩,jqa⟩) i6.base)⟩⟩,
  jq19:=jq19,
  jqO:=jqO,
  jqP:=jqP,
  jq1j:=jq1j,
  yy:=⟨⟨_,_,_,_,_,_,_,_,_,_,_,_,_,_,_,_,jq2A,⟨⟨_,_,_,_,_,jq2E,jq2F⟩,jq2G⟩,(i6.own jq6 (by rw[jq7];exact⟨⟨_,_,_,_,_,jq8,jq9⟩,jqa⟩) i6.base)⟩⟩,
  jqw:=jqw,
  jqf:=jqf,
  yz:=⟨⟨_,_,_,_,_,_,_,_,_,_,_,_,_,_,_,_,jq2B,⟨⟨_,_,_,_,_,jq2H,jq2I⟩,jq2J⟩,(i6.own jq6 (by rw[jq7];exact⟨⟨_,_,_,_,_,jq8,jq9⟩,jqa⟩) i6.base)⟩⟩,
  jqx:=jqx,
  jqg:=jqg,
  jqh:=jqh,
  Bx:=⟨⟨_,_,_,_,_,_,_,_,_,_,_,_,_,_,_,_,jq3d,⟨⟨_,_,_,_,_,jq3g,jq3h⟩,jq3i⟩,(i6.own jq6 (by rw[jq7];exact⟨⟨_,_,_,_,_,jq8,jq9⟩,jqa⟩) i6.base)⟩⟩,
  jqQ:=jqQ,
  jqm:=jqm,
  jqn:=jqn,
  jqY:=jqY,
  jqo:=jqo,
  jqy:=jqy,
  By:=⟨⟨_,_,_,_,_,_,_,_,_,_,_,_,_,_,_,_,jq3e,⟨⟨_,_,_,_,_,jq3j,jq3k⟩,jq3l⟩,(i6.own jq6 (by rw[jq7];exact⟨⟨_,_,_,_,_,jq8,jq9⟩,jqa⟩) i6.base)⟩⟩,
  jqR:=jqR,
  jqp:=jqp,
  jqq:=jqq,
  jqZ:=jqZ,
  jqr:=jqr,
  jqz:=jqz,
  jqA:=jqA,
  Bz:=⟨⟨_,_,_,_,_,_,_,_,_,_,_,_,_,_,_,_,jq3f,⟨⟨_,_,_,_,_,jq3m,jq3n⟩,jq3o⟩,(i6.own jq6 (by rw[jq7];exact⟨⟨_,_,_,_,_,jq8,jq9⟩,jqa⟩) i6.base)⟩⟩,
  jqS:=jqS,
  jqs:=jqs,
  jqt:=jqt,
  jq10:=jq10,
  jqu:=jqu,
  jqB:=jqB,
  jqC:=jqC,
  jqD:=jqD,
  yA:=⟨⟨_,_,_,_,_,_,_,_,_,_,_,_,_,_,_,_,jq2C,⟨⟨_,_,_,_,_,jq2K,jq2L⟩,jq2M⟩,(i6.own jq6 (by rw[jq7];exact⟨⟨_,_,_,_,_,jq8,jq9⟩,jqa⟩) i6.base)⟩⟩,
  mz:=mz,
  mB:=mB,
  pG:=⟨⟨_,_,_,_,_,_,_,_,_,_,_,_,_,_,_,_,jq3z,(i6.own jq6 (by rw[jq7];exact⟨⟨_,_,_,_,_,jq8,jq9⟩,jqa⟩) i6.base),rfl,⟨⟨_,_,_,_,_,jq3B,jq3C⟩,jq3D⟩⟩,jq3J,jq3K,jq2Z⟩,
  DH:=⟨⟨jq3H,jq3p,jq3I⟩,jq2Z,jq3L⟩,
  jq11:=jq11,
  jh:=jh,
  lI:=lI,
  nB:=⟨⟨_,_,_,_,_,_,_,_,_,_,_,_,_,_,_,_,jq2D,(i6.own jq6 (by rw[jq7];exact⟨⟨_,_,_,_,_,jq8,jq9⟩,jqa⟩) i6.base),rfl,⟨⟨_,_,_,_,_,jq2N,jq2O⟩,jq2P⟩⟩,jq2U,jq2V,jq2p⟩,
  yB:=⟨⟨jq2S,jq2t,jq2T⟩,jq2p,jq2W⟩,
  jqE:=jqE,
  jqi:=jqi,
  jqj:=jqj,
  jqT:=jqT,
  jqk:=jqk,
  mC:=mC,
  qo:=qo,
  tW:=⟨⟨_,_,_,_,_,_,_,_,_,_,_,_,_,_,_,_,jq3A,(i6.own jq6 (by rw[jq7];exact⟨⟨_,_,_,_,_,jq8,jq9⟩,jqa⟩) i6.base),rfl,⟨⟨_,_,_,_,_,jq3E,jq3F⟩,jq3G⟩⟩,jq3O,jq3P,jq30⟩,
  DI:=⟨⟨jq3M,jq3r,jq3N⟩,jq30,jq3Q⟩,
  jq12:=jq12,
  jqF:=jqF,
  jqG:=jqG,
  jq1a:=jq1a,
  jqH:=jqH,
  jqU:=jqU,
  jqV:=jqV,
  jqW:=jqW,
  jq13:=jq13 }
 subst hP;exact⟨fu "law" "law" (aQ vz) (aL vz) (ah vz) .none UO UP UQ Uh QS UR,λs v=>.of_eq rfl,λbase _ _=>WO ajz T⟩
theorem walk {l:PySem.W.OpenLaw}{q:rf}{loose:List Str}{XP:(Str->Option Value)->Heap->Prop}{YP:World->Heap->Prop}{d:DefRec}{K:Params->ba}(hn:l.most=some 63)(hdf:d.params.defaults=[])
  (hY:∀(w:World) (h:Heap),YP w h->(K w.params).In h)
  (F:∀(w:World) (mg:Str->Option Value) (fa:Addr) (h:Heap),(K w.params).In h->h.Ns gr mg->mg d.name=some (.ref fa) ->
   ∃fd:ki,(∀(s:Shared) (u:Value),BindsTo s fd ⟨[u],[]⟩ [("_law_script",u)])/\∀base:Heap,(K w.params).In base->base.Ns gr mg->aJ l.prog w (K w.params) mg base CX0 20 fa fd ["_law_script"] (MJ (K w.params))) :
  PySem.W.WalkO q loose XP YP l.row.toRowW d [] (λf vs=>PySem.call f vs) :=
 L2.RO (n:=63) (k:=20) (x:="_law_script") (CX:=λ_=>CX0) (sp:=λw=>MJ (K w.params)) hn (by decide) hdf ⟨rfl,by decide,by decide,rfl⟩ hY F (λ_ _ a ns hl _ hS=>⟨a,ns,rfl,hS,hl,λ_=>rfl⟩) λ_ _ _ _ _ z=>z
end My
structure PySem.W.Fast:Prop where
 (tw14374892142600916096
 tw6684391290749151844
 tw14216976992078568162
 tw4339369110578556249
 tw10067382712132391210
 tw851889902736538128
 tw16245203014971232274
 tw18099851717771637415
 tw6252940126284164308
 tw6209014532173560015
 tw7643628228414618393
 tw15697235215374976437
 tw11128970463250215806
 tw7690824054965587402
 tw10422053867856969587
 tw4077694620589034520
 tw11962330702109804937
 tw2809589445036917456
 tw1063395463655515709
 tw14024960886203454308
 tw5430642146138969286
 tw9667570251977159133
 tw15829771373002822614
 tw13602767510830890001
 tw14321792005647421180
 tw5165527898135682114
 tw1882374499305846056
 tw13940589982269439583
 tw2319554234824464041
 tw8469844346332727077
 tw7958106754250371620
 tw9602364536577906313
 tw18154165333254647553
 tw10896298805925884717
 tw1832408840018017605
 tw5057172132474487097
 tw11387101531202708341
 tw1024375549846416823
 tw17315530777076976944
 tw14490820851659628494
 tw179327174729027462
 tw12639310342443354416
 tw11610011586792165772
 tw225597009463037867
 tw16448572070464369934
 tw15071535899926618162
 tw8447207346750724983
 tw12291815329318544465
 tw10046948754875298348
 tw1783323967925343035
 tw2197717891719939209
 tw12135143795319816555
 tw17684458989948833354
 tw2167213290065532320
 tw17571107206796737062
 tw13133806005846624835
 tw3872665178924459726
 tw10421911578127252873
 tw5165421482730232222
 tw4627763243237120509
 tw17700777435810496840
 tw10532601410654865636
 tw7812825539172395556
 tw16578779615044187803
 tw5139618829327070507
 tw12999465749664436128
 tw18251393794414008197
 tw17087631574266079087
 tw13651920010293413353
 tw2788804877473014110
 tw8534444504730463450
 tw5297818488852992569
 tw5116284926450510945
 tw3140049114520901355
 tw6976907840581152645
 tw2518282577389370088
 tw12068554867592120800
 tw4860206943271662547
 tw16150631212853990553
 tw7893922359828330491
 tw2855489972809214616
 tw5627858274812976930
 tw15185671547927241653
 tw16477406526878144167
 tw14804313365417122137
 tw3116659880948740815
 tw14784395935096729136
 tw15089128993910548047
 tw13271244130163855823
 tw15456821091800894530
 tw13250923023874505484
 tw5921424557789695097
 tw13100604232465112814
 tw2258531962104368853
 tw9701335049753688984
 tw17187574566531398951
 tw7225307499818490089
 tw9227192490955491406
 tw5362891012417829227
 tw3470822111933049203
 tw10412840255813531754
 tw3451232825578569648
 tw4906088169359928299
 tw15365968996753660493
 tw7498772657954424175
 tw12428205873191011262
 tw4369719246415288916
 tw15575067483537484665
 tw8678257095106787041
 tw15748395371741462312
 tw9673494548348067362
 tw3911600611205481603
 tw4054950883827150247
 tw7479475495227247144
 tw5565714550280994747
 tw2455484814884138980
 tw9655155086722422044
 tw1560794756522063146
 tw686370903980387235
 tw2802091723062911034
 tw13636903657281001908
 tw9146647425238498531
 tw16616318656667806855
 tw3264824731237798341
 tw17637226489675357341
 tw1173831283709705380
 tw6588594402865580395
 tw6253701206388145633
 tw7276939047726590762
 tw14188403611025286085
 tw9228345741450859884
 tw10021215887580962373
 tw12975742401204166398
 tw3820997844502301723
 tw3929760165741617231
 tw18199039168864931400
 tw10309621954982249156
 tw17710159447691978779
 tw2007581854842795327
 tw5081088751441762082
 tw12953555982543060511
 tw17592554390954814763
 tw18411729210733146035
 tw1244160633719009845
 tw6334109322970306617
 tw1073345661363297301
 tw3008101020463728667
 tw10685643041161845441
 tw14398813467128756988
 tw6856743375538171011
 tw2759817972593543262
 tw7343675762942513897
 tw9370142899019283301
 tw6683143234635345870
 tw2536666516061671654
 tw6080344792561028233
 tw11309275723569033620
 tw6809041559319169732
 tw15302731597135040424
 tw14724650401806077872
 tw14019277319992712114
 tw11993905778469930788
 tw14632433543314007040
 tw17561153988033724179
 tw11771711119025862507
 tw11702380089676915055
 tw17792283257957504653
 tw756385433923619842
 tw12626714092200643071
 tw13057293535385257311
 tw16166454384660364634
 tw17257256715780288189
 tw17675303805507344840
 tw1918142701343024083
 tw4903338251718666514
 tw18044007653647739758
 tw1057146927584491733
 tw9638756323468660420
 tw8116776323673650311
 tw1812555860416291533
 tw16149012895626922596
 tw4043583753743799860
 tw11614037379800865217
 tw8523254840578264815
 tw14151913882126884634
 tw5562939937110560881
 tw12514607971490392720
 tw2161291367763920411
 tw4313680269383263730
 tw8770741508620139355
 tw17714626323579596778
 tw11108167285783704428
 tw6672079158303673944
 tw13008354006894395077
 tw7227282778721322832
 tw11145265189879979330
 tw4245928719910085060
 tw1536155231680059280
 tw3791392920491087002
 tw16899204431751630936
 tw606332699478213705
 tw6040351048004792352
 tw17478628106786504733
 tw13335777535138228747
 tw16910718559190929778
 tw16043392013941707166
 tw410606330149575869
 tw5433120270072070124
 tw3996357262758043623
 tw15857576172881558859
 tw3062124533416283583
 tw11197018163941513524
 tw8341999336295629415
 tw3889661151007278183
 tw16367363019410294417
 tw2150975113540182704
 tw5437671549211538766
 tw6700250173043581813
 tw10048669075631723662
 tw17775657179714231496
 tw2340349727675234430
 tw11049076695648878573
 tw2219212263993472851
 tw4777932477898307312
 tw14648275395410147716
 tw2099785600422584506
 tw14641599639678752470
 tw14565571306395122132
 tw1344258911125762084
 tw10796028411528791857
 tw12606996267334655206
 tw3740299353540324061
 tw5637019733465087517
 tw4805677625232983398
 tw13309809613577174362
 tw9466633042399747518
 tw17929114063888711021
 tw8154745714184583305
 tw13359317558119485196
 tw9487991176803187086
 tw12675074445588651117
 tw5105285643521905974
 tw4270992372418894283
 tw12412385357970958453
 tw14493324731677898681
 tw2169108254186644234
 tw9170070571842701337
 tw3276083274930236003
 tw10402519360700142333
 tw2515236898919062462
 tw12852862597982663061
 tw528308629327722201
 tw9019503986375475176
 tw14561543007072642994
 tw13595751640598091115
 tw12574163461921944688
 tw1584624106126509743
 tw4709164500062401154
 tw722870160834963847
 tw5346284138410523710
 tw1968819258090725845
 tw10747148363822488336
 tw13707042372928932822
 tw12143893621383089595
 tw10618173128631695988
 tw17313417453072165594
 tw5138976038068362955
 tw91188612796575227
 tw12868610247889127059
 tw798214368421954330
 tw17154650559967545605
 tw5560734776397106046
 tw11713341097420702003
 tw14439023336213517883
 tw14130632012307266684
 tw3552188779601993173
 tw12396378184508491961
 tw11361833953307471697
 tw2123816438408666165
 tw12122006273557609349
 tw16844258562555513120
 tw1187268180732722566
 tw13924221507699245604
 tw13057731037665381693
 tw18146891353019999684
 tw5997960648121992485
 tw7946451842730069564
 tw9545930832109652673
 tw14038569304141803986
 tw10053870416753351497
 tw7801351457982485543
 tw18440613404636956687
 tw825096002327224083
 tw4500612319630542575
 tw8152284784800597225
 tw13036689931932533254
 tw10444930607989582586
 tw4730020625400817292
 tw13541433241233785068
 tw14670384628478776644
 tw13595150509398492922
 tw8636425295554720540
 tw5350925858682807875
 tw7876104868814591180
 tw9528926242548503066
 tw14296794299960977
 tw7276846010063414115
 tw16365110495810872477
 tw2132302537662651592
 tw17710649792268608307
 tw5274463971150346756
 tw16212796446961028749
 tw528419752748669877
 tw5552335155257345499
 tw14751647968005641579
 tw17193173292919202997
 tw2077263887451211021
 tw11098330957655116325
 tw1381186227900719405
 tw738781716652110968
 tw12238231730338839657
 tw15103460096112286639
 tw16921080567739809048
 tw12522953579229143661
 tw8815548448208420452
 tw18428997395449290199
 tw8393664845312237456
 tw3058745586111355824
 tw12441829650687618341
 tw10926411436144511434
 tw8433539482802338303
 tw3804264353429123350
 tw8644566543078823503
 tw17560256452757870436
 tw16773643007056223538
 tw4261679619903151861
 tw15542458405411429698
 tw7930293516722650796
 tw11697787051011284841
 tw6651193257599482000
 tw12050842027264570641
 tw4626979267647001160
 tw10566394939984345081
 tw14543170665313597540
 tw1048970433479906191
 tw17488735329286548058
 tw177150775308892636
 tw10057716319952735741
 tw5902722632486583490
 tw5763975876754887214
 tw13392003151987468981
 tw10801116309177081330
 tw4652696885175009651
 tw9225170169660552090
 tw6322110262321211785
 tw10126803776050936910
 tw2280055250911420513
 tw9481493440568852756
 tw12837325415781834973
 tw5777141733249232709
 tw16040576737979507817
 tw3599142946107972377
 tw7971598528925186178
 tw16208142112967182471
 tw11457932564261598530
 tw8827376213871126572
 tw8012273097772612939
 tw10331640583262200007
 tw9056195027026484005
 tw18381938234582479383
 tw3525028193785261702
 tw16512620970173261776
 tw8793590404106482116
 tw7777965865063068425
 tw6270401136030853246
 tw6176081894674313650
 tw14225800248738396040
 tw10466215291713287492
 tw9428450838189641588
 tw3152904600784745409
 tw4770252175023166150
 tw2541833498640688650
 tw3112348837311671776
 tw546851100305548857
 tw7790437219266206411
 tw9770212267069162195
 tw1508330789381124914
 tw915165343238743098
 tw487261988794940848
 tw15098046912373270832
 tw144302291686036351
 tw6896421857927063806
 tw10779645854174581938
 tw10850354061478046396
 tw7147128970887509113
 tw3338694372865104534
 tw4578868295267322665
 tw5735203853912260462
 tw12371295973762226372
 tw9674482428598364912
 tw7727358725166903345
 tw5659552719576851551
 tw1830442357248196493
 tw15225304550645611821
 tw9365661709243740650
 tw13562396208371574498
 tw2834288306989343655
 tw2407872308635669473
 tw1850667651665545945
 tw11992652920463871748
 tw15315603446816421915
 tw1181196637061096211
 tw4487752968007539879
 tw18133118433390986152
 tw9479496237602547269
 tw2652564313228419503
 tw16891283284319766552
 tw5520865863774590931
 tw2356507209627506763
 tw17360546158302783770
 tw10214671033310569932
 tw14757483681526208722
 tw11939457549265878279
 tw125442998194792142
 tw13752764070204798987
 tw7806099108563954998
 tw16651033158779646643
 tw16958152087358459233
 tw12717704031730306322
 tw11387575132587654838
 tw4311481888421116712
 tw16034769640126839258
 tw4864561644290173369
 tw9983818514277792281
 tw5268269498327135629
 tw9999660267987311988
 tw16873140004510533026
 tw11610920441960254169
 tw3016450956186843892
 tw8975014049307351685
 tw16442851227714385251
 tw14184573438003563642
 tw11514190616547895019
 tw5126617325686524129
 tw1616197248921784107
 tw15281465735211708114
 tw6151769670417209482
 tw8068356992427537998
 tw9887468704693937533
 tw8553616825668309447
 tw8985537049168566288
 tw6463888981882670789
 tw4225306807973796195
 tw354415719986821150
 tw14670409235904461811
 tw4505413037443460236
 tw9078149201887429627
 tw3402034227905241286
 tw17241595416782253646
 tw17064410393262104374
 tw16766106099728285348
 tw1712361576782941478
 tw6562256131286694377
 tw11884910581224728618
 tw16432705729328594930
 tw5942296597364668710
 tw1176081193876733798
 tw15049361294549291873
 tw9394135502635051423
 tw11729375957193819838
 tw7977529431996975946
 tw4415472418410123315
 tw13363204510357800280
 tw11733360889060535496
 tw11794160220762725436
 tw12361774035963682028
 tw16296521665827681152
 tw3746092066414898678
 tw6938222312235484117
 tw833235159026757413
 tw3075413098301469252
 tw4802565921175084250
 tw4210242966807495717
 tw11981456145280674565
 tw10315562518759050406
 tw1931744065499771191
 tw2091870186920958116
 tw9783223042848180223
 tw439308370315111050
 tw1859005259077098021
 tw15559765385992730299
 tw5655363086762257762
 tw6486595790144832194
 tw4765125161700725602
 tw17865170876925207802
 tw15011754261133570330
 tw5226795648524988090
 tw6363123480340490811
 tw15435746630687396825
 tw12537483476275883083
 tw2739524114551094105
 tw9600163054952094224
 tw8761668601082167013
 tw1111422783528250425:True)
open PySem PySem.W PyProof.Rows
set_option maxRecDepth 100000 in
set_option maxHeartbeats 0 in
theorem PySem.Challenge.cw_moot_k13_whole_each_deed_holds : PySem.Challenge.rw_moot_k13_whole_each_deed.Holds := by
 w_on;o_law;k_head;(case hw=>w_witness2)
 k_fill;refine My.walk (l:=PySem.Challenge.rw_moot_k13_whole_each_deed) rfl rfl (λw h Y=>PySem.W.kIn_of Y) ?F
 case F =>
  intro w mg fa h KX G hmg;refine' My.all_mk KX G hmg rfl ?a_1 ?l_1 ?cc_1 ?kp_1 ?a_2 ?l_2 ?cc_2 ?kp_2 ?a_3 ?l_3 ?cc_3 ?kp_3 ?a_4 ?l_4 ?cc_4 ?kp_4 ?a_5 ?l_5 ?cc_5 ?kp_5 ?a_6 ?l_6 ?cc_6 ?kp_6 ?a_7 ?l_7 ?cc_7 ?kp_7 ?a_8 ?l_8 ?cc_8 ?kp_8 ?a_9 ?l_9 ?cc_9 ?kp_9 ?a_10 ?l_10 ?jq5M ?jq5N ?a_11 ?l_11 ?jq5O ?jq5P ?a_12 ?l_12 ?jq5Q ?jq5R ?a_13 ?l_13 ?jq5S ?jq5T ?a_14 ?l_14 ?jq5U ?jq5V ?a_15 ?l_15 ?jq5W ?jq5X ?a_16 ?l_16 ?jq5Y ?jq5Z ?a_17 ?l_17 ?jq60 ?jq61 ?a_18 ?l_18 ?jq62 ?jq63 ?a_19 ?l_19 ?jq64 ?jq65 ?a_20 ?l_20 ?jq66 ?jq67 ?a_21 ?l_21 ?jq68 ?jq69 ?a_22 ?l_22 ?jq6a ?jq6b ?a_23 ?l_23 ?jq6c ?jq6d ?a_24 ?l_24 ?jq6e ?jq6f ?a_25 ?l_25 ?jq6g ?jq6h ?a_26 ?l_26 ?jq6i ?jq6j ?a_27 ?l_27 ?jq6k ?jq6l ?a_28 ?l_28 ?jq6m ?jq6n ?a_29 ?l_29 ?jq6o ?jq6p ?a_30 ?l_30 ?jq6q ?jq6r ?a_31 ?l_31 ?jq6s ?jq6t ?a_32 ?l_32 ?jq6u ?jq6v ?a_33 ?l_33 ?jq6w ?jq6x ?a_34 ?l_34 ?jq6y ?jq6z ?a_35 ?l_35 ?jq6A ?jq6B ?a_36 ?l_36 ?jq6C ?jq6D ?a_37 ?l_37 ?jq6E ?jq6F ?a_38 ?l_38 ?jq6G ?jq6H ?a_39 ?l_39 ?jq6I ?jq6J ?a_40 ?l_40 ?jq6K ?jq6L ?z1 ?z2 ?z3 ?z4 ?z5 ?z6 ?z7 ?z8 ?z9 ?z10 ?z11 ?jq2q ?ac0 ?ac1 ?ac2 ?ac3 ?ac4 ?ac5 ?ac6 ?ac7 ?acm ?atb ?ltb ?ktb ?rk0 ?rk1 ?rk2 ?rk3 ?rk4 ?rk5 ?rk6 ?rk7 ?pg0 ?hd0 ?po0 ?sa0 ?mk0 ?kc0 ?pg1 ?hd1 ?po1 ?sa1 ?mk1 ?kc1 ?pg2 ?hd2 ?po2 ?sa2 ?mk2 ?kc2 ?pg3 ?hd3 ?po3 ?sa3 ?mk3 ?kc3 ?pg4 ?hd4 ?po4 ?sa4 ?mk4 ?kc4 ?pg5 ?hd5 ?po5 ?sa5 ?mk5 ?kc5 ?pg6 ?hd6 ?po6 ?sa6 ?mk6 ?kc6 ?pg7 ?hd7 ?po7 ?sa7 ?mk7 ?kc7 ?jq4d ?jq6M ?jq4N ?jq4e ?jq4O ?jq4f ?jq6N ?jq4P ?jq4g ?jq4Q ?jq4h ?jq6O ?jq4R ?jq4i ?jq4S ?jq4j ?jq6P ?jq4T ?jq4k ?jq4U ?jq4l ?jq6Q ?jq4V ?jq4m ?jq4W ?jq4n ?jq6R ?jq4X ?jq4o ?jq4Y ?jq4p ?jq6S ?jq4Z ?jq4q ?jq50 ?jq4r ?jq6T ?jq51 ?jq4s ?jq52 ?jq53 ?jq54 ?jq55 ?jq56 ?jq57 ?jq58 ?jq59 ?jq5a ?l_mr ?jq6U ?jq2v ?jq31 ?jq5b ?jq5c ?jq5d ?jq5e ?jq5f ?jq5g ?jq5h ?l_mn ?jq6V ?jq32 ?jq3t ?jq4t ?jq6W ?jq5i ?jq4u ?jq5j ?jq5k ?jq5l ?jq5m ?l_mt ?jq6X ?jq4b ?jq4K ?jq4v ?jq6Y ?jq5n ?jq4w ?jq5o ?jq4x ?jq6Z ?jq5p ?jq4y ?jq5q ?jq4z ?jq70 ?jq5r ?jq4A ?jq5s ?jq4B ?jq71 ?jq5t ?jq4C ?jq5u ?jq4D ?jq72 ?jq5v ?jq4E ?jq5w ?jq4F ?jq73 ?jq5x ?jq5y ?jq5z ?jq4G ?jq74 ?jq5A ?jq5B ?jq5C ?jq4H ?jq75 ?jq5D ?jq5E ?jq5F ?jq4I ?jq76 ?jq5G ?jq5H ?jq5I ?jq4J ?jq77 ?jq5J ?jq5K ?jq5L ?na0 ?na1 ?na2 ?na3 ?na7 ?ni4 ?ni5 ?ni6 ?jq33 ?jq34 ?jq35 ?jq36 ?jq37 ?jq38 ?jq39 ?jq22 ?jq2k ?jq23 ?jq24 ?jq25 ?jq26 ?jq2l ?jq27 ?jq1G ?jq28 ?jq29 ?jq2m ?jq2a ?jq1H ?jq2b ?jq2c ?jq2n ?jq2d ?jq1I ?jq2e ?jq2f ?jq2o ?jq2g ?jq1J ?jq2h ?jq1U ?jq2i ?jq1V ?jq1D ?jq1W ?jq1N ?jq1X ?jq1O ?jq1u ?jq1P ?jq1K ?jq1Q ?jq1L ?jq1p ?jq1M ?jq1r ?jq1w ?jq1s ?jq17 ?jq1t ?jqI ?jqN ?jqJ ?jqe ?jqK ?jq14 ?jq18 ?jq15 ?jql ?jq16 ?jq1R ?jq1Y ?jq1S ?jq1v ?jq1T ?jq1k ?jq1q ?jq1l ?jqX ?jq1m ?jq1x ?jq1E ?jq1y ?jq1b ?jq1z ?jq1d ?jq1n ?jq1e ?jqL ?jq1f ?jq1g ?jq1o ?jq1h ?jqM ?jq1i ?jq1A ?jq1F ?jq1B ?jq1c ?jq1C ?jqv ?jq1 ?jq4 ?jq2 ?jq0 ?jq3 ?jqc ?jqb ?jq5 ?jqd ?jq2j ?jq40 ?jq3x ?jq2w ?jq2x ?jq2y ?jq3a ?jq3b ?jq3c ?jq3y ?jq2z ?jq41 ?jq2A ?jq2B ?jq3d ?jq3e ?jq3f ?jq2C ?jq3z ?jq2D ?jq3A ?jq6 ?jq7 ?jq42 ?jq43 ?jq44 ?jq8 ?jq9 ?jqa ?jq2E ?jq2F ?jq2G ?jq2H ?jq2I ?jq2J ?jq3g ?jq3h ?jq3i ?jq3j ?jq3k ?jq3l ?jq3m ?jq3n ?jq3o ?jq2K ?jq2L ?jq2M ?jq3B ?jq3C ?jq3D ?jq2N ?jq2O ?jq2P ?jq3E ?jq3F ?jq3G ?jq1Z ?jq20 ?jq21 ?jq4L ?jq4c ?jq4M ?jq19 ?jqO ?jqP ?jq1j ?jq3R ?jq3u ?jq3S ?jqw ?jqf ?jq3T ?jq3v ?jq3U ?jqx ?jqg ?jqh ?jq45 ?jq3V ?jq46 ?jqQ ?jqm ?jqn ?jqY ?jqo ?jqy ?jq47 ?jq3W ?jq48 ?jqR ?jqp ?jqq ?jqZ ?jqr ?jqz ?jqA ?jq49 ?jq3X ?jq4a ?jqS ?jqs ?jqt ?jq10 ?jqu ?jqB ?jqC ?jqD ?jq3Y ?jq3w ?jq3Z ?jq3H ?jq3p ?jq3I ?jq3q ?jq2Q ?jq2R ?jq3J ?jq3K ?jq2Z ?jq3L ?jq11 ?jq2S ?jq2t ?jq2T ?jq2u ?jq2r ?jq2s ?jq2U ?jq2V ?jq2p ?jq2W ?jqE ?jqi ?jqj ?jqT ?jqk ?jq3M ?jq3r ?jq3N ?jq3s ?jq2X ?jq2Y ?jq3O ?jq3P ?jq30 ?jq3Q ?jq12 ?jqF ?jqG ?jq1a ?jqH ?jqU ?jqV ?jqW ?jq13
  (case a_1=>k_is)
  (case l_1=>k_is)
  (case cc_1=>k_is)
  (case kp_1=>k_is)
  (case a_2=>k_is)
  (case l_2=>k_is)
  (case cc_2=>k_is)
  (case kp_2=>k_is)
  (case a_3=>k_is)
  (case l_3=>k_is)
  (case cc_3=>k_is)
  (case kp_3=>k_is)
  (case a_4=>k_is)
  (case l_4=>k_is)
  (case cc_4=>k_is)
  (case kp_4=>k_is)
  (case a_5=>k_is)
  (case l_5=>k_is)
  (case cc_5=>k_is)
  (case kp_5=>k_is)
  (case a_6=>k_is)
  (case l_6=>k_is)
  (case cc_6=>k_is)
  (case kp_6=>k_is)
  (case a_7=>k_is)
  (case l_7=>k_is)
  (case cc_7=>k_is)
  (case kp_7=>k_is)
  (case a_8=>k_is)
  (case l_8=>k_is)
  (case cc_8=>k_is)
  (case kp_8=>k_is)
  (case a_9=>k_is)
  (case l_9=>k_is)
  (case cc_9=>k_is)
  (case kp_9=>k_is)
  (case a_10=>k_is)
  (case l_10=>k_is)
  (case jq5M=>k_is)
  (case jq5N=>k_is)
  (case a_11=>k_is)
  (case l_11=>k_is)
  (case jq5O=>k_is)
  (case jq5P=>k_is)
  (case a_12=>k_is)
  (case l_12=>k_is)
  (case jq5Q=>k_is)
  (case jq5R=>k_is)
  (case a_13=>k_is)
  (case l_13=>k_is)
  (case jq5S=>k_is)
  (case jq5T=>k_is)
  (case a_14=>k_is)
  (case l_14=>k_is)
  (case jq5U=>k_is)
  (case jq5V=>k_is)
  (case a_15=>k_is)
  (case l_15=>k_is)
  (case jq5W=>k_is)
  (case jq5X=>k_is)
  (case a_16=>k_is)
  (case l_16=>k_is)
  (case jq5Y=>k_is)
  (case jq5Z=>k_is)
  (case a_17=>k_is)
  (case l_17=>k_is)
  (case jq60=>k_is)
  (case jq61=>k_is)
  (case a_18=>k_is)
  (case l_18=>k_is)
  (case jq62=>k_is)
  (case jq63=>k_is)
  (case a_19=>k_is)
  (case l_19=>k_is)
  (case jq64=>k_is)
  (case jq65=>k_is)
  (case a_20=>k_is)
  (case l_20=>k_is)
  (case jq66=>k_is)
  (case jq67=>k_is)
  (case a_21=>k_is)
  (case l_21=>k_is)
  (case jq68=>k_is)
  (case jq69=>k_is)
  (case a_22=>k_is)
  (case l_22=>k_is)
  (case jq6a=>k_is)
  (case jq6b=>k_is)
  (case a_23=>k_is)
  (case l_23=>k_is)
  (case jq6c=>k_is)
  (case jq6d=>k_is)
  (case a_24=>k_is)
  (case l_24=>k_is)
  (case jq6e=>k_is)
  (case jq6f=>k_is)
  (case a_25=>k_is)
  (case l_25=>k_is)
  (case jq6g=>k_is)
  (case jq6h=>k_is)
  (case a_26=>k_is)
  (case l_26=>k_is)
  (case jq6i=>k_is)
  (case jq6j=>k_is)
  (case a_27=>k_is)
  (case l_27=>k_is)
  (case jq6k=>k_is)
  (case jq6l=>k_is)
  (case a_28=>k_is)
  (case l_28=>k_is)
  (case jq6m=>k_is)
  (case jq6n=>k_is)
  (case a_29=>k_is)
  (case l_29=>k_is)
  (case jq6o=>k_is)
  (case jq6p=>k_is)
  (case a_30=>k_is)
  (case l_30=>k_is)
  (case jq6q=>k_is)
  (case jq6r=>k_is)
  (case a_31=>k_is)
  (case l_31=>k_is)
  (case jq6s=>k_is)
  (case jq6t=>k_is)
  (case a_32=>k_is)
  (case l_32=>k_is)
  (case jq6u=>k_is)
  (case jq6v=>k_is)
  (case a_33=>k_is)
  (case l_33=>k_is)
  (case jq6w=>k_is)
  (case jq6x=>k_is)
  (case a_34=>k_is)
  (case l_34=>k_is)
  (case jq6y=>k_is)
  (case jq6z=>k_is)
  (case a_35=>k_is)
  (case l_35=>k_is)
  (case jq6A=>k_is)
  (case jq6B=>k_is)
  (case a_36=>k_is)
  (case l_36=>k_is)
  (case jq6C=>k_is)
  (case jq6D=>k_is)
  (case a_37=>k_is)
  (case l_37=>k_is)
  (case jq6E=>k_is)
  (case jq6F=>k_is)
  (case a_38=>k_is)
  (case l_38=>k_is)
  (case jq6G=>k_is)
  (case jq6H=>k_is)
  (case a_39=>k_is)
  (case l_39=>k_is)
  (case jq6I=>k_is)
  (case jq6J=>k_is)
  (case a_40=>k_is)
  (case l_40=>k_is)
  (case jq6K=>k_is)
  (case jq6L=>k_is)
  (case z1=>k_is)
  (case z2=>k_is)
  (case z3=>k_is)
  (case z4=>k_is)
  (case z5=>k_is)
  (case z6=>k_is)
  (case z7=>k_is)
  (case z8=>k_is)
  (case z9=>k_is)
  (case z10=>k_is)
  (case z11=>k_is)
  (case jq2q=>k_is)
  (case ac0=>k_is)
  (case ac1=>k_is)
  (case ac2=>k_is)
  (case ac3=>k_is)
  (case ac4=>k_is)
  (case ac5=>k_is)
  (case ac6=>k_is)
  (case ac7=>k_is)
  (case acm=>k_is)
  (case atb=>k_is)
  (case ltb=>k_is)
  (case ktb=>k_keys)
  (case rk0=>k_is)
  (case rk1=>k_is)
  (case rk2=>k_is)
  (case rk3=>k_is)
  (case rk4=>k_is)
  (case rk5=>k_is)
  (case rk6=>k_is)
  (case rk7=>k_is)
  (case pg0=>k_is)
  (case hd0=>k_is)
  (case po0=>k_is)
  (case sa0=>k_is)
  (case mk0=>k_is)
  (case kc0=>k_is)
  (case pg1=>k_is)
  (case hd1=>k_is)
  (case po1=>k_is)
  (case sa1=>k_is)
  (case mk1=>k_is)
  (case kc1=>k_is)
  (case pg2=>k_is)
  (case hd2=>k_is)
  (case po2=>k_is)
  (case sa2=>k_is)
  (case mk2=>k_is)
  (case kc2=>k_is)
  (case pg3=>k_is)
  (case hd3=>k_is)
  (case po3=>k_is)
  (case sa3=>k_is)
  (case mk3=>k_is)
  (case kc3=>k_is)
  (case pg4=>k_is)
  (case hd4=>k_is)
  (case po4=>k_is)
  (case sa4=>k_is)
  (case mk4=>k_is)
  (case kc4=>k_is)
  (case pg5=>k_is)
  (case hd5=>k_is)
  (case po5=>k_is)
  (case sa5=>k_is)
  (case mk5=>k_is)
  (case kc5=>k_is)
  (case pg6=>k_is)
  (case hd6=>k_is)
  (case po6=>k_is)
  (case sa6=>k_is)
  (case mk6=>k_is)
  (case kc6=>k_is)
  (case pg7=>k_is)
  (case hd7=>k_is)
  (case po7=>k_is)
  (case sa7=>k_is)
  (case mk7=>k_is)
  (case kc7=>k_is)
  (case jq4d=>k_is)
  (case jq6M=>k_is)
  (case jq4N=>k_is)
  (case jq4e=>k_is)
  (case jq4O=>k_is)
  (case jq4f=>k_is)
  (case jq6N=>k_is)
  (case jq4P=>k_is)
  (case jq4g=>k_is)
  (case jq4Q=>k_is)
  (case jq4h=>k_is)
  (case jq6O=>k_is)
  (case jq4R=>k_is)
  (case jq4i=>k_is)
  (case jq4S=>k_is)
  (case jq4j=>k_is)
  (case jq6P=>k_is)
  (case jq4T=>k_is)
  (case jq4k=>k_is)
  (case jq4U=>k_is)
  (case jq4l=>k_is)
  (case jq6Q=>k_is)
  (case jq4V=>k_is)
  (case jq4m=>k_is)
  (case jq4W=>k_is)
  (case jq4n=>k_is)
  (case jq6R=>k_is)
  (case jq4X=>k_is)
  (case jq4o=>k_is)
  (case jq4Y=>k_is)
  (case jq4p=>k_is)
  (case jq6S=>k_is)
  (case jq4Z=>k_is)
  (case jq4q=>k_is)
  (case jq50=>k_is)
  (case jq4r=>k_is)
  (case jq6T=>k_is)
  (case jq51=>k_is)
  (case jq4s=>k_is)
  (case jq52=>k_is)
  (case jq53=>k_is)
  (case jq54=>k_is)
  (case jq55=>k_is)
  (case jq56=>k_is)
  (case jq57=>k_is)
  (case jq58=>k_is)
  (case jq59=>k_is)
  (case jq5a=>k_is)
  (case l_mr=>k_is)
  (case jq6U=>k_is)
  (case jq2v=>k_is)
  (case jq31=>k_is)
  (case jq5b=>k_is)
  (case jq5c=>k_is)
  (case jq5d=>k_is)
  (case jq5e=>k_is)
  (case jq5f=>k_is)
  (case jq5g=>k_is)
  (case jq5h=>k_is)
  (case l_mn=>k_is)
  (case jq6V=>k_is)
  (case jq32=>k_is)
  (case jq3t=>k_is)
  (case jq4t=>k_is)
  (case jq6W=>k_is)
  (case jq5i=>k_is)
  (case jq4u=>k_is)
  (case jq5j=>k_is)
  (case jq5k=>k_is)
  (case jq5l=>k_is)
  (case jq5m=>k_is)
  (case l_mt=>k_is)
  (case jq6X=>k_is)
  (case jq4b=>k_is)
  (case jq4K=>k_is)
  (case jq4v=>k_is)
  (case jq6Y=>k_is)
  (case jq5n=>k_is)
  (case jq4w=>k_is)
  (case jq5o=>k_is)
  (case jq4x=>k_is)
  (case jq6Z=>k_is)
  (case jq5p=>k_is)
  (case jq4y=>k_is)
  (case jq5q=>k_is)
  (case jq4z=>k_is)
  (case jq70=>k_is)
  (case jq5r=>k_is)
  (case jq4A=>k_is)
  (case jq5s=>k_is)
  (case jq4B=>k_is)
  (case jq71=>k_is)
  (case jq5t=>k_is)
  (case jq4C=>k_is)
  (case jq5u=>k_is)
  (case jq4D=>k_is)
  (case jq72=>k_is)
  (case jq5v=>k_is)
  (case jq4E=>k_is)
  (case jq5w=>k_is)
  (case jq4F=>k_is)
  (case jq73=>k_is)
  (case jq5x=>k_is)
  (case jq5y=>k_is)
  (case jq5z=>k_is)
  (case jq4G=>k_is)
  (case jq74=>k_is)
  (case jq5A=>k_is)
  (case jq5B=>k_is)
  (case jq5C=>k_is)
  (case jq4H=>k_is)
  (case jq75=>k_is)
  (case jq5D=>k_is)
  (case jq5E=>k_is)
  (case jq5F=>k_is)
  (case jq4I=>k_is)
  (case jq76=>k_is)
  (case jq5G=>k_is)
  (case jq5H=>k_is)
  (case jq5I=>k_is)
  (case jq4J=>k_is)
  (case jq77=>k_is)
  (case jq5J=>k_is)
  (case jq5K=>k_is)
  (case jq5L=>k_is)
  (case na0=>k_is)
  (case na1=>k_is)
  (case na2=>k_is)
  (case na3=>k_is)
  (case na7=>k_is)
  (case ni4=>k_is)
  (case ni5=>k_is)
  (case ni6=>k_is)
  (case jq33=>k_is)
  (case jq34=>k_is)
  (case jq35=>k_is)
  (case jq36=>k_is)
  (case jq37=>k_is)
  (case jq38=>k_is)
  (case jq39=>k_is)
  (case jq22=>k_is)
  (case jq2k=>k_is)
  (case jq23=>k_is)
  (case jq24=>k_is)
  (case jq25=>k_is)
  (case jq26=>k_is)
  (case jq2l=>k_is)
  (case jq27=>k_is)
  (case jq1G=>k_is)
  (case jq28=>k_is)
  (case jq29=>k_is)
  (case jq2m=>k_is)
  (case jq2a=>k_is)
  (case jq1H=>k_is)
  (case jq2b=>k_is)
  (case jq2c=>k_is)
  (case jq2n=>k_is)
  (case jq2d=>k_is)
  (case jq1I=>k_is)
  (case jq2e=>k_is)
  (case jq2f=>k_is)
  (case jq2o=>k_is)
  (case jq2g=>k_is)
  (case jq1J=>k_is)
  (case jq2h=>k_is)
  (case jq1U=>k_is)
  (case jq2i=>k_is)
  (case jq1V=>k_is)
  (case jq1D=>k_is)
  (case jq1W=>k_is)
  (case jq1N=>k_is)
  (case jq1X=>k_is)
  (case jq1O=>k_is)
  (case jq1u=>k_is)
  (case jq1P=>k_is)
  (case jq1K=>k_is)
  (case jq1Q=>k_is)
  (case jq1L=>k_is)
  (case jq1p=>k_is)
  (case jq1M=>k_is)
  (case jq1r=>k_is)
  (case jq1w=>k_is)
  (case jq1s=>k_is)
  (case jq17=>k_is)
  (case jq1t=>k_is)
  (case jqI=>k_is)
  (case jqN=>k_is)
  (case jqJ=>k_is)
  (case jqe=>k_is)
  (case jqK=>k_is)
  (case jq14=>k_is)
  (case jq18=>k_is)
  (case jq15=>k_is)
  (case jql=>k_is)
  (case jq16=>k_is)
  (case jq1R=>k_is)
  (case jq1Y=>k_is)
  (case jq1S=>k_is)
  (case jq1v=>k_is)
  (case jq1T=>k_is)
  (case jq1k=>k_is)
  (case jq1q=>k_is)
  (case jq1l=>k_is)
  (case jqX=>k_is)
  (case jq1m=>k_is)
  (case jq1x=>k_is)
  (case jq1E=>k_is)
  (case jq1y=>k_is)
  (case jq1b=>k_is)
  (case jq1z=>k_is)
  (case jq1d=>k_is)
  (case jq1n=>k_is)
  (case jq1e=>k_is)
  (case jqL=>k_is)
  (case jq1f=>k_is)
  (case jq1g=>k_is)
  (case jq1o=>k_is)
  (case jq1h=>k_is)
  (case jqM=>k_is)
  (case jq1i=>k_is)
  (case jq1A=>k_is)
  (case jq1F=>k_is)
  (case jq1B=>k_is)
  (case jq1c=>k_is)
  (case jq1C=>k_is)
  (case jqv=>k_is)
  (case jq1=>k_is)
  (case jq4=>k_is)
  (case jq2=>k_is)
  (case jq0=>k_is)
  (case jq3=>k_is)
  (case jqc=>k_is)
  (case jqb=>k_is)
  (case jq5=>k_is)
  (case jqd=>k_is)
  (case jq2j=>k_is)
  (case jq40=>k_is)
  (case jq3x=>k_is)
  (case jq2w=>k_is)
  (case jq2x=>k_is)
  (case jq2y=>k_is)
  (case jq3a=>k_is)
  (case jq3b=>k_is)
  (case jq3c=>k_is)
  (case jq3y=>k_is)
  (case jq2z=>k_is)
  (case jq41=>k_is)
  (case jq2A=>k_is)
  (case jq2B=>k_is)
  (case jq3d=>k_is)
  (case jq3e=>k_is)
  (case jq3f=>k_is)
  (case jq2C=>k_is)
  (case jq3z=>k_is)
  (case jq2D=>k_is)
  (case jq3A=>k_is)
  (case jq6=>k_is)
  (case jq7=>rfl)
  (case jq42=>k_is)
  (case jq43=>with_unfolding_all rfl)
  (case jq44=>k_is)
  (case jq8=>k_is)
  (case jq9=>with_unfolding_all rfl)
  (case jqa=>k_is)
  (case jq2E=>k_is)
  (case jq2F=>with_unfolding_all rfl)
  (case jq2G=>k_is)
  (case jq2H=>k_is)
  (case jq2I=>with_unfolding_all rfl)
  (case jq2J=>k_is)
  (case jq3g=>k_is)
  (case jq3h=>with_unfolding_all rfl)
  (case jq3i=>k_is)
  (case jq3j=>k_is)
  (case jq3k=>with_unfolding_all rfl)
  (case jq3l=>k_is)
  (case jq3m=>k_is)
  (case jq3n=>with_unfolding_all rfl)
  (case jq3o=>k_is)
  (case jq2K=>k_is)
  (case jq2L=>with_unfolding_all rfl)
  (case jq2M=>k_is)
  (case jq3B=>k_is)
  (case jq3C=>with_unfolding_all rfl)
  (case jq3D=>k_is)
  (case jq2N=>k_is)
  (case jq2O=>with_unfolding_all rfl)
  (case jq2P=>k_is)
  (case jq3E=>k_is)
  (case jq3F=>with_unfolding_all rfl)
  (case jq3G=>k_is)
  (case jq1Z=>k_is)
  (case jq20=>k_is)
  (case jq21=>k_is)
  (case jq4L=>k_is)
  (case jq4c=>k_is)
  (case jq4M=>k_is)
  (case jq19=>kts_exm)
  (case jqO=>kts_exm)
  (case jqP=>kts_exm)
  (case jq1j=>kts_exm)
  (case jq3R=>k_is)
  (case jq3u=>k_is)
  (case jq3S=>k_is)
  (case jqw=>kts_exm)
  (case jqf=>kts_exm)
  (case jq3T=>k_is)
  (case jq3v=>k_is)
  (case jq3U=>k_is)
  (case jqx=>kts_exm)
  (case jqg=>kts_exm)
  (case jqh=>kts_exm)
  (case jq45=>k_is)
  (case jq3V=>k_is)
  (case jq46=>k_is)
  (case jqQ=>kts_exm)
  (case jqm=>kts_exm)
  (case jqn=>kts_exm)
  (case jqY=>kts_exm)
  (case jqo=>kts_exm)
  (case jqy=>kts_exm)
  (case jq47=>k_is)
  (case jq3W=>k_is)
  (case jq48=>k_is)
  (case jqR=>kts_exm)
  (case jqp=>kts_exm)
  (case jqq=>kts_exm)
  (case jqZ=>kts_exm)
  (case jqr=>kts_exm)
  (case jqz=>kts_exm)
  (case jqA=>kts_exm)
  (case jq49=>k_is)
  (case jq3X=>k_is)
  (case jq4a=>k_is)
  (case jqS=>kts_exm)
  (case jqs=>kts_exm)
  (case jqt=>kts_exm)
  (case jq10=>kts_exm)
  (case jqu=>kts_exm)
  (case jqB=>kts_exm)
  (case jqC=>kts_exm)
  (case jqD=>kts_exm)
  (case jq3Y=>k_is)
  (case jq3w=>k_is)
  (case jq3Z=>k_is)
  (case jq3H=>k_is)
  (case jq3p=>k_is)
  (case jq3I=>k_is)
  (case jq3q=>k_is)
  (case jq2Q=>k_is)
  (case jq2R=>k_is)
  (case jq3J=>k_is)
  (case jq3K=>k_is)
  (case jq2Z=>k_is)
  (case jq3L=>k_is)
  (case jq11=>kts_exm)
  (case jq2S=>k_is)
  (case jq2t=>k_is)
  (case jq2T=>k_is)
  (case jq2u=>k_is)
  (case jq2r=>k_is)
  (case jq2s=>k_is)
  (case jq2U=>k_is)
  (case jq2V=>k_is)
  (case jq2p=>k_is)
  (case jq2W=>k_is)
  (case jqE=>kts_exm)
  (case jqi=>kts_exm)
  (case jqj=>kts_exm)
  (case jqT=>kts_exm)
  (case jqk=>kts_exm)
  (case jq3M=>k_is)
  (case jq3r=>k_is)
  (case jq3N=>k_is)
  (case jq3s=>k_is)
  (case jq2X=>k_is)
  (case jq2Y=>k_is)
  (case jq3O=>k_is)
  (case jq3P=>k_is)
  (case jq30=>k_is)
  (case jq3Q=>k_is)
  (case jq12=>kts_exm)
  (case jqF=>kts_exm)
  (case jqG=>kts_exm)
  (case jq1a=>kts_exm)
  (case jqH=>kts_exm)
  (case jqU=>kts_exm)
  (case jqV=>kts_exm)
  (case jqW=>kts_exm)
  (case jq13=>kts_exm)
