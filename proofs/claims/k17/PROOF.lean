import PyProof.Rows.All
import Wide.All
import OpenK.AllK
import Wide.FinOn
import Lean
import PyProof.EqAt
import PyProof.EqKinds
import PyProof.TupleCall
import PySem.Challenge.RW_moot_k17_whole_what_waits_fits
set_option Elab.async false
set_option linter.all false
set_option maxRecDepth 100000
open PySem.Str renaming ofString → ar, join → sr, empty → aj6
open PySem.W renaming Frag → ba, findIn → cb, keepIn → da, codeIn → de, nsIn → di, fnOf → fe, mg_of → kf, isFn → ma, exmOne → ajP, emptyDict → aj4, hasDictIn → aj7, instObj → aj8, plainGet → aj9, plainOver → ake, mg_none_of → akj, makesIn → akk, methodCall_KW → akr, callWith_K0 → akU, callWith_K → akZ
open List renaming length_map → bo, mem_cons_self → fu, mem_append_right → ki, map_cons → kj, size_toArray → ko, map_append → kr, length_append → kx, mem_cons_of_mem → ky, getElem?_eq_getElem → wa, length_cons → ajH, getD_eq_getElem?_getD → ajN, mem_of_getElem? → ajQ, length_singleton → ajR, eq_nil_or_concat → ajS, concat_eq_append → ajT, getElem?_cons_zero → ajX, getElem?_map → aj0, cons_ne_nil → aj1, getElem?_cons_succ → aj2, mem_singleton → aj3, range' → aj5, find?_cons → aka, mem_append_left → akb, length_take → akd, lookup → akf, getLast?_concat → akg, map_nil → aki, dropLast_concat → akm, map_congr_left → akp, length_range' → aku, getElem?_append_right → akA, length_set → akC, length_replicate → akE, mem_range'_1 → akH, append_assoc → akI, length_zip → akJ, length_drop → akL, getElem?_append_left → akP, append_nil → akR, replicate → akW, take_succ → akX, take_length → akY, length_nil → ak0, Perm → ak3
open PySem renaming wpAny_bind → eg, mainGlobals → gn, sizeLine → ka, FuncData → kg, Program → me, wpAny_pure → si, wpAny_mono → wt, starEach → Lk, wpAny → ajG, Spec → ajO, excClassObj → akc, wpAny_standAt → ako, compareOp → akv, DictEntry → akx, bootBuiltins → akz, mem_of_lookup → akB, sysModules → akN
open PySem.Heap renaming get?_push_of_some → gr, lt_size → om, get?_push_size → ajM, get?_update_other → akh, get?_update_self → akF, size_push → akV
open Sum renaming inl → km, inr → tu
open Nat renaming le_refl → kq, le_trans → tm, lt_of_lt_of_le → ajI, ne_of_lt → ajK, le_succ_of_le → ajW, zero_le → akl, le_succ → akq, lt_irrefl → ak2
open Bool renaming false_ne_true → ku, and_eq_true → akw
open PySem.F renaming plainAttrs_list → rf, slot_list_append → ajU, type_list_append → ajV, plainAttrs_str → akK
open Or renaming inl → adm
open Option.some renaming inj → ajJ
open PySem.Value renaming ref → ajL, none → akM
open False renaming elim → ajY
open Ne renaming symm → ajZ
open Int renaming emod_lt_of_pos → akn, emod_nonneg → akD
open PySem.NameKind renaming free → aks
open PySem.PyData renaming strOk → akt
open PySem.Obj renaming mapFields → aky
open PySem.Builtin.Str renaming occurrences → akG
open True renaming intro → akO
open PySem.Builtin.Slice renaming slicePlaces → akQ
open PySem.Builtin.Tuple renaming tupleExact → akS
open Array renaming length_toList → akT
open PySem.PassesOwn renaming never → ak1
namespace L2
open PySem PySem.Spec PyProof.Rows
abbrev Key:=Sum Int Str
def AF:Key->Value->Bool
 | .inl k,v=>Value.isInt k v
 | .inr x,v=>Value.isStrOf x v
def ag1 (w:World):Key->Int
 | .inl k=>hashInt k
 | .inr x=>hashStr w x
theorem dj:∀ {k:Key} {v:Value},AF k v=true->(∃i t,k=km i/\v=Value.int i t)\/(∃x t,k=tu x/\v=Value.str x t)
 | .inl i,v,h=>by
  obtain⟨t,e⟩:=Value.isInt_shape (k:=i) (v:=v) h;exact .inl ⟨i,t,rfl,e⟩
 | .inr x,v,h=>by
  obtain⟨t,e⟩:=Value.isStrOf_shape (x:=x) (v:=v) h;exact .inr ⟨x,t,rfl,e⟩
theorem MS (i:Int)(t:Tok):AF (.inl i) (.int i t)=true:=by simp[AF,Value.isInt]
theorem MT (x:Str)(t:Tok):AF (.inr x) (.str x t)=true:=by simp[AF,Value.isStrOf]
theorem Vk (a b:Int):decide ((km a:Key)=km b)=(a == b):=by
 by_cases e:a=b
 ·subst e;simp
 ·have h:¬(km a:Key)=km b:=λq=>e (Sum.inl.inj q)
  rw[decide_eq_false h];exact(beq_eq_false_iff_ne.mpr e).symm
theorem Vl (a b:Str):decide ((tu a:Key)=tu b)=decide (a=b):=by
 by_cases e:a=b
 ·subst e;simp
 ·have h:¬(tu a:Key)=tu b:=λq=>e (Sum.inr.inj q)
  rw[decide_eq_false h,decide_eq_false e]
theorem Vm (a:Int)(b:Str):decide ((km a:Key)=tu b)=false:=decide_eq_false (λq=>nomatch q)
theorem Vn (a:Str)(b:Int):decide ((tu a:Key)=km b)=false:=decide_eq_false (λq=>nomatch q)
def cO (prog:me)(w:World):PySem.KeyKind prog w Key where
 is:=AF
 hash:=ag1 w
 inj:=λv a b ha hb=>by
  rcases dj ha with ⟨i,t,rfl,rfl⟩ | ⟨x,t,rfl,rfl⟩
  ·rcases dj hb with ⟨j,u,rfl,e⟩ | ⟨y,u,rfl,e⟩
   ·injection e with e1 _;rw[e1]
   ·exact nomatch e
  ·rcases dj hb with ⟨j,u,rfl,e⟩ | ⟨y,u,rfl,e⟩
   ·exact nomatch e
   ·injection e with e1 _;rw[e1]
 byValue:=λk v h=>by
  rcases dj h with ⟨i,t,rfl,rfl⟩ | ⟨x,t,rfl,rfl⟩ <;> rfl
 pyHash:=λhv h=>by
  rcases dj hv with ⟨i,t,rfl,rfl⟩ | ⟨x,t,rfl,rfl⟩
  ·exact wpAny_pyHash_int h
  ·exact wpAny_pyHash_str h
 eqBool:=λhu hv h=>by
  rcases dj hu with ⟨i,t,rfl,rfl⟩ | ⟨x,t,rfl,rfl⟩
  ·rcases dj hv with ⟨j,u,rfl,rfl⟩ | ⟨y,u,rfl,rfl⟩
   ·rw[Vk]at h;exact wpAny_eqBool_int h
   ·rw[Vm]at h;exact SeqAt.EqAt.int_str i t y u _ _ _ _ h
  ·rcases dj hv with ⟨j,u,rfl,rfl⟩ | ⟨y,u,rfl,rfl⟩
   ·rw[Vn]at h;exact SeqAt.EqAt.str_int x t j u _ _ _ _ h
   ·rw[Vl]at h;exact wpAny_eqBool_str h
 «strs»:=λk x t v h=>by
  rcases dj h with ⟨i,u,rfl,e⟩ | ⟨y,u,rfl,e⟩
  ·exact nomatch e
  ·injection e with e1 _
   subst e1;cases v <;> rfl
theorem FL (prog:me)(w:World)(i:Int)(t:Tok):(cO prog w).is (.inl i) (.int i t)=true:=MS i t
theorem FN (prog:me)(w:World)(x:Str)(t:Tok):(cO prog w).is (.inr x) (.str x t)=true:=MT x t
end L2
namespace L2
open PySem PySem.Spec PyProof.Rows
inductive V where
 |non | bl (b:Bool) | int (i:Int) | str (x:Str) | byt (b:Array UInt8) | flt (b:UInt64) | ref (a:Addr) | ty (n:String)
 deriving DecidableEq
def RelV:V->Value->Prop
 | .non,u=>u=akM
 | .bl b,u=>u=Value.bool b
 | .int i,u=>∃t,u=Value.int i t
 | .str x,u=>∃t,u=Value.str x t
 | .byt b,u=>∃t,u=Value.bytes b t
 | .flt b,u=>∃t,u=Value.float b t
 | .ref a,u=>u=ajL a
 | .ty n,u=>u=Value.type n
abbrev Vals:List V->List Value->Prop:=Paired RelV
theorem Vals.length {xs:List V}{us:List Value}(r:Vals xs us):xs.length=us.length:=Paired.length r
theorem Vals.get:∀ {xs:List V} {us:List Value} {i:Nat} {x:V},Vals xs us->xs[i]?=some x->∃u,us[i]?=some u/\RelV x u
 |_,_,_,_,.nil,e=>by simp at e
 |_,_,0,_,.cons r _,e=>by simp at e;subst e;exact⟨_,rfl,r⟩
 |_,_,i+1,x,.cons _ t,e=>by
  obtain⟨u,h1,h2⟩:=Vals.get (i:=i) (x:=x) t (by simpa using e)
  exact⟨u,by simpa using h1,h2⟩
theorem Vals.set {x:V}{u:Value}(r:RelV x u):∀ {xs:List V} {us:List Value} (i:Nat),Vals xs us->Vals (xs.set i x) (us.set i u)
 |_,_,_,.nil=>.nil
 |_,_,0,.cons _ t=>.cons r t
 |_,_,i+1,.cons q t=>.cons q (Vals.set r i t)
theorem Vals.append:∀ {xs ys:List V} {us ws:List Value},Vals xs us->Vals ys ws->Vals (xs++ys) (us++ws)
 |_,_,_,_,.nil,s=>s
 |_,_,_,_,.cons r t,s=>.cons r (Vals.append t s)
theorem Vals.take:∀ {xs:List V} {us:List Value} (n:Nat),Vals xs us->Vals (xs.take n) (us.take n)
 |_,_,0,_=>.nil
 |_,_,_+1,.nil=>.nil
 |_,_,n+1,.cons r t=>.cons r (Vals.take n t)
theorem Vals.drop:∀ {xs:List V} {us:List Value} (n:Nat),Vals xs us->Vals (xs.drop n) (us.drop n)
 |_,_,0,r=>r
 |_,_,_+1,.nil=>.nil
 |_,_,n+1,.cons _ t=>Vals.drop n t
theorem Vals.none_of:∀ {xs:List V} {us:List Value} {i:Nat},Vals xs us->xs[i]?=none->us[i]?=none:=λ{xs us i} r e=>by
 have h1:=r.length;have h2:xs.length<=i:=List.getElem?_eq_none_iff.mp e;exact List.getElem?_eq_none_iff.mpr (by omega)
def qi:Option V->Option Value->Prop
 |some v,some u=>RelV v u
 |none,none=>True
 |_,_=>False
def KV {κ:Type}:List (κ×V)->List (κ×Value)->Prop:=Paired λ(p:κ×V) (q:κ×Value)=>p.1=q.1/\RelV p.2 q.2
def kV:Key->V
 | .inl i=>.int i
 | .inr x=>.str x
inductive HO where
 |lst (xs:List V)
 |tup (xs:List V)
 |dK (kvs:List (Key×V)) | dT (kvs:List (List Key×V))
 |set (S:Int->Bool) (n:Nat)
 |ins (C dx:Addr) (fs:List (Str×V))
 |own (x:Addr)
 |xd (fs:List (Str×V))
 |met (f x:Addr)
 |rng (lo hi:Int)
 |frz (o:Obj) (u:HO)
 |tbl (ps:Array Value)
 |ext (φ:Heap->Prop)
abbrev Hp:=Addr->Option HO
def upd (H:Hp)(a:Addr)(o:HO):Hp:=λb=>if b=a then some o else H b
theorem ae {H:Hp}{a:Addr}{o:HO}:upd H a o a=some o:=by unfold upd;rw[if_pos rfl]
theorem av {H:Hp}{a b:Addr}{o:HO}(h:b≠a):upd H a o b=H b:=by unfold upd;rw[if_neg h]
theorem nc {H:Hp}{a:Addr}{o u:HO}:upd (upd H a o) a u=upd H a u:=by
 funext b;unfold upd;split <;> rfl
theorem ZA {H:Hp}{a b:Addr}{o u:HO}(h:H a=some o)(h':H b=some u)(d:o≠u):a≠b:=by
 intro e;subst e;rw[h]at h';exact d (ajJ h')
theorem aI {H:Hp}{a b:Addr}{o:HO}(h:H a=some o)(h':H b=none):a≠b:=by
 intro e;subst e;rw[h]at h';cases h'
section
variable(P:me)(w:World)
def fU (H:Hp)(h:Heap)(a:Addr):HO->Prop
 | .lst xs=>xs.length<=ka/\∃(its:List Value) (n:Nat),Vals xs its/\h.get? a=some { cls:=.type "list",data:=.seq its.toArray n }
 | .tup xs=>xs.length<=ka/\∃its:List Value,Vals xs its/\IsTup h a its.toArray
 | .dK kvs=>kvs.length<=ka/\(a == akN)=false/\∃vs,KV kvs vs/\h.DictOf (cO P w) a vs
 | .dT kvs=>kvs.length<=ka/\(a == akN)=false/\∃xs:List (List Key×Addr×Value),
   Paired (λ(p:List Key×V) (q:List Key×Addr×Value)=>p.1=q.1/\H q.2.1=some (.tup (p.1.map kV))/\RelV p.2 q.2.2) kvs xs /\
   ∃o es ep,h.get? a=some o/\o.ExactDict/\o.data=.dict es ep/\es.toList=xs.map (entryOfKey (tupleKind (cO P w)))/\(xs.map (·.1)).Nodup
 | .set S n=>h.SetOf (intKind P w) a S n
 | .ins C dx fs=>H dx=some (.own a)/\fs.length<=1000/\dx≠a/\h.get? a=some (aj8 C dx) /\
   ∃mA,h.Ns1 dx mA/\(∀f,qi (fs.lookup f) (mA f))/\PySem.Within mA (fs.map (·.1))
 | .own _=>∃o,h.get? a=some o
 | .xd fs=>∃mA,h.Ns1 a mA/\∀f,qi (fs.lookup f) (mA f)
 | .rng lo hi=>∃t u v,h.get? a=some { cls:=.type "range",data:=.fields #[.int lo t,.int hi u,.int 1 v] }
 | .frz o u=>h.get? a=some o/\fU H h a u
 | .tbl ps=>h.get? a=some { cls:=.none,data:=.fields ps }
 | .met f x=>h.get? a=some (PySem.W.methodObj (.ref f) (.ref x))
 | .ext φ=>φ h/\(∃o,h.get? a=some o)/\∀h1 h2:Heap,φ h1->(∀o,h1.get? a=some o->h2.get? a=some o)->φ h2
def HOk (H:Hp)(h:Heap):Prop:=∀a o,H a=some o->fU P w H h a o
end
section
variable{P:me}{w:World}{H H':Hp}{h h':Heap}{a:Addr}{o:HO}
theorem fU.lt (x:fU P w H h a o):a < h.objs.size:=by
 cases o with
 |lst xs=>obtain⟨_,_,_,_,e⟩:=x;exact om e
 |tup xs=>obtain⟨_,_,_,p⟩:=x;exact p.lt
 |dK kvs=>obtain⟨_,_,_,_,o,_,_,e,_⟩:=x;exact om e
 |dT kvs=>obtain⟨_,_,_,_,o,_,_,e,_⟩:=x;exact om e
 |set S n=>obtain⟨o,_,_,_,e,_⟩:=x;exact om e
 |ins C dx fs=>obtain⟨_,_,_,e,_⟩:=x;exact om e
 |own y=>obtain⟨_,e⟩:=x;exact om e
 |xd fs=>obtain⟨_,⟨_,_,_,e,_⟩,_⟩:=x;exact om e
 |rng lo hi=>obtain⟨_,_,_,e⟩:=x;exact om e
 |frz ob u=>obtain⟨e,_⟩:=x;exact om e
 |tbl ps=>exact om (show h.get? a=some _ from x)
 |met f y=>exact om (show h.get? a=some _ from x)
 |ext φ=>obtain⟨_,⟨_,e⟩,_⟩:=x;exact om e
theorem Paired.Vo {α β:Type}{F G:α->β->Prop}:∀ {l₁:List α} {l₂:List β},Paired F l₁ l₂->(∀a b,F a b->G a b)->Paired G l₁ l₂
 |_,_,.nil,_=>.nil
 |_,_,.cons r t,f=>.cons (f _ _ r) (Paired.Vo t f)
theorem fU.FO (x:fU P w H h a o)(k:∀b u,(b=a\/H b=some (.own a))->h.get? b=some u->h'.get? b=some u)
  (ho:∀b,H b=some (.own a)->H' b=some (.own a)) (ht:∀b xs,H b=some (.tup xs)->H' b=some (.tup xs)):fU P w H' h' a o:=by
 induction o with
 |lst xs=>obtain⟨z,its,n,r,e⟩:=x;exact⟨z,its,n,r,k _ _ (.inl rfl) e⟩
 |tup xs=>obtain⟨z,its,r,ob,e,c⟩:=x;exact⟨z,its,r,ob,k _ _ (.inl rfl) e,c⟩
 |dK kvs=>obtain⟨z,y,vs,r,ob,es,ep,e,c⟩:=x;exact⟨z,y,vs,r,ob,es,ep,k _ _ (.inl rfl) e,c⟩
 |dT kvs =>
  obtain⟨z,y,xs,r,ob,es,ep,e,c⟩:=x;exact⟨z,y,xs,Paired.Vo r λp q z=>⟨z.1,ht _ _ z.2.1,z.2.2⟩,ob,es,ep,k _ _ (.inl rfl) e,c⟩
 |set S n=>obtain⟨ob,es,ep,t,e,c⟩:=x;exact⟨ob,es,ep,t,k _ _ (.inl rfl) e,c⟩
 |ins C dx fs =>
  obtain⟨d,z,ne,e,mA,⟨od,es,ep,e2,c⟩,r⟩:=x;exact⟨ho _ d,z,ne,k _ _ (.inl rfl) e,mA,⟨od,es,ep,k _ _ (.inr d) e2,c⟩,r⟩
 |own y=>obtain⟨ob,e⟩:=x;exact⟨ob,k _ _ (.inl rfl) e⟩
 |xd fs=>obtain⟨mA,⟨od,es,ep,e,c⟩,r⟩:=x;exact⟨mA,⟨od,es,ep,k _ _ (.inl rfl) e,c⟩,r⟩
 |rng lo hi=>obtain⟨t,u,v,e⟩:=x;exact⟨t,u,v,k _ _ (.inl rfl) e⟩
 |frz ob u ih=>obtain⟨e,q⟩:=x;exact⟨k _ _ (.inl rfl) e,ih q⟩
 |tbl ps =>
  have e:h.get? a=some { cls:=.none,data:=.fields ps }:=x;show h'.get? a=some { cls:=.none,data:=.fields ps };exact k a _ (.inl rfl) e
 |met f y =>
  have e:h.get? a=some (PySem.W.methodObj (.ref f) (.ref y)):=x;show h'.get? a=some (PySem.W.methodObj (.ref f) (.ref y));exact k a _ (.inl rfl) e
 |ext φ=>obtain⟨p,⟨o,e⟩,st⟩:=x;exact⟨st _ _ p λo q=>k _ _ (.inl rfl) q,⟨o,k _ _ (.inl rfl) e⟩,st⟩
theorem HOk.lt (x:HOk P w H h)(e:H a=some o):a < h.objs.size:=(x a o e).lt
theorem HOk.fresh (x:HOk P w H h)(e:h.objs.size<=a):H a=none:=by
 cases q:H a with
 |none=>rfl
 |some u=>exact absurd (ajI (x.lt q) e) (ak2 _)
theorem HOk.kept (x:HOk P w H h)(k:∀b u,h.get? b=some u->h'.get? b=some u):HOk P w H h':=λa o e =>
 (x a o e).FO (λb u _ q=>k b u q) (λ_ q=>q) λ_ _ q=>q
theorem HOk.laid (x:HOk P w H h)(k:∀b u,h.get? b=some u->h'.get? b=some u)(hp:h.objs.size<=a)(new:fU P w (upd H a o) h' a o):HOk P w (upd H a o) h':=λb u e=>by
 have hn:=x.fresh hp
 by_cases hb:b=a
 ·subst hb;rw[ae]at e;cases e;exact new
 ·rw[av hb]at e;exact(x b u e).FO (λc v _ q=>k c v q) (λc q=>by rw[av (aI q hn)];exact q) λc xs q=>by rw[av (aI q hn)];exact q
end
def Rd (H:Hp)(a:Addr)(u:HO):Prop:=H a=some u\/∃o,H a=some (.frz o u)
theorem Rd.of {H:Hp}{a:Addr}{u:HO}(h:H a=some u):Rd H a u:=.inl h
theorem Rd.ok {P:me}{w:World}{H:Hp}{h:Heap}{a:Addr}{u:HO}(r:Rd H a u)(x:HOk P w H h):fU P w H h a u:=by
 rcases r with r | ⟨o,r⟩
 ·exact x a u r
 ·obtain⟨_,q⟩:=x a _ r;exact q
def Mut:Option HO->Prop
 |some (.lst _)=>True
 |some (.dK _)=>True
 |some (.dT _)=>True
 |some (.set _ _)=>True
 |some (.ins _ _ _)=>True
 |some (.ext _)=>True
 |_=>False
section
variable{P:me}{w:World}{H:Hp}{h h':Heap}{x e:Addr}{o':HO}
theorem HOk.write (ok:HOk P w H h)(mu:Mut (H x))(he:e=x\/H e=some (.own x))(k:∀b u,b≠e->h.get? b=some u->h'.get? b=some u)(heo:∃u,h'.get? e=some u)
  (new:fU P w (upd H x o') h' x o'):HOk P w (upd H x o') h':=λb u q=>by
 have ZC:∀c y,H c=some (.own y)->c≠x:=λc y r z=>by subst z;rw[r]at mu;exact mu
 have ag2:∀c xs,H c=some (.tup xs)->c≠x:=λc xs r z=>by subst z;rw[r]at mu;exact mu
 by_cases hb:b=x
 ·subst hb;rw[ae]at q;cases q;exact new
 ·rw[av hb]at q
  by_cases hbe:b=e
  ·have q':H b=some (.own x):=by
    rcases he with z | z
    ·exact absurd (hbe.trans z) hb
    ·rw[hbe];exact z
   rw[q]at q';cases q';obtain⟨v,hv⟩:=heo;exact⟨v,by rw[hbe];exact hv⟩
  ·refine(ok b u q).FO (λc v hc r=>k c v ?_ r) (λc r=>by rw[av (ZC c b r)];exact r) λc xs r=>by rw[av (ag2 c xs r)];exact r
   rcases hc with rfl | hc
   ·exact hbe
   ·rintro rfl;rcases he with z | z
    ·exact ZC c b hc z
    ·rw[hc]at z;cases z;exact hb rfl
end
structure Un (fs ex:List Addr)(H H':Hp)(h h':Heap):Prop where
 keep:∀b o,h.get? b=some o->H b=none->b∉fs->b∉ex->h'.get? b=some o
 slot:∀b o,h.get? b=some o->H b=none->b∈fs->b∉ex->∃sl,h'.get? b=some { o with slots:=sl }
 free:∀b o,h.get? b=some o->H b=none->b∉ex->H' b=none
 there:∀b o,h.get? b=some o->b∉ex->∃o',h'.get? b=some o'
 xm:∀b xs,H b=some (.tup xs)->H' b=some (.tup xs)
 vo:∀b o u,H b=some (.frz o u)->H' b=some (.frz o u)
 xn:∀b ps,H b=some (.tbl ps)->∃more,H' b=some (.tbl (ps++more))
section
variable{fs fs' ex ex':List Addr}{H H1 H2:Hp}{h h1 h2 h':Heap}{a x e:Addr}{o:HO}
theorem Un.any (u:Un fs ex H H1 h h1){b:Addr}{ob:Obj}(q:h.get? b=some ob)(n:H b=none)(hx:b∉ex):∃sl,h1.get? b=some { ob with slots:=sl }:=by
 by_cases hb:b∈fs
 ·exact u.slot b ob q n hb hx
 ·exact⟨ob.slots,u.keep b ob q n hb hx⟩
theorem Un.trans (a:Un fs ex H H1 h h1)(b:Un fs ex H1 H2 h1 h2):Un fs ex H H2 h h2 where
 keep:=λc ob q n hc hx=>b.keep c ob (a.keep c ob q n hc hx) (a.free c ob q n hx) hc hx
 slot:=λc ob q n hc hx=>by
  obtain⟨sl,e1⟩:=a.slot c ob q n hc hx;obtain⟨sl',e2⟩:=b.slot c _ e1 (a.free c ob q n hx) hc hx;exact⟨sl',e2⟩
 free:=λc ob q n hx=>by
  obtain⟨o',e1⟩:=a.there c ob q hx;exact b.free c o' e1 (a.free c ob q n hx) hx
 there:=λc ob q hx=>by
  obtain⟨o',e1⟩:=a.there c ob q hx;exact b.there c o' e1 hx
 xm:=λc xs q=>b.xm c xs (a.xm c xs q)
 vo:=λc ob xs q=>b.vo c ob xs (a.vo c ob xs q)
 xn:=λc ps q=>by
  obtain⟨m1,e1⟩:=a.xn c ps q;obtain⟨m2,e2⟩:=b.xn c _ e1;exact⟨m1++m2,by rw[e2,Array.append_assoc]⟩
theorem Un.kept (k:∀b u,h.get? b=some u->h'.get? b=some u):Un fs ex H H h h' :=
 ⟨λb ob q _ _ _=>k b ob q,λb ob q _ _ _=>⟨ob.slots,k b ob q⟩,λ_ _ _ n _=>n,λb ob q _=>⟨ob,k b ob q⟩,λ_ _ q=>q,λ_ _ _ q=>q,λ_ ps q=>⟨#[],by rw[q];simp⟩⟩
theorem Un.refl:Un fs ex H H h h:=Un.kept λ_ _ q=>q
theorem Un.laid (k:∀b u,h.get? b=some u->h'.get? b=some u)(hp:h.objs.size<=a)(hn:H a=none):Un fs ex H (upd H a o) h h' where
 keep:=λb u q _ _ _=>k b u q
 slot:=λb u q _ _ _=>⟨u.slots,k b u q⟩
 free:=λb u q n _=>by rw[av (ajK (ajI (om q) hp))];exact n
 there:=λb u q _=>⟨u,k b u q⟩
 xm:=λb xs q=>by rw[av (aI q hn)];exact q
 vo:=λb u xs q=>by rw[av (aI q hn)];exact q
 xn:=λb ps q=>⟨#[],by rw[av (aI q hn),q];simp⟩
theorem Un.write (mu:Mut (H x))(he:e=x\/H e=some (.own x))(k:∀b u,b≠e->h.get? b=some u->h'.get? b=some u)(heo:∃u,h'.get? e=some u):Un fs ex H (upd H x o) h h':=by
 have hx:∀b,H b=none->b≠x:=λb n z=>by subst z;rw[n]at mu;exact mu
 have hb:∀b,H b=none->b≠e:=λb n z=>by
  subst z;rcases he with r | r
  ·exact hx b n r
  ·rw[n]at r;cases r
 have hm:∀b u,H b=some u->¬Mut (some u)->b≠x:=λb u q nm z=>by subst z;rw[q]at mu;exact nm mu
 refine⟨λb u q n _ _=>k b u (hb b n) q,λb u q n _ _=>⟨u.slots,k b u (hb b n) q⟩,λb u q n _=>by rw[av (hx b n)];exact n,λb u q _=>?_,
  λb xs q=>by rw[av (hm b _ q λz=>z)];exact q,λb u xs q=>by rw[av (hm b _ q λz=>z)];exact q,λb ps q=>⟨#[],by rw[av (hm b _ q λz=>z),q];simp⟩⟩
 by_cases hbe:b=e
 ·subst hbe;exact heo
 ·exact⟨u,k b u hbe q⟩
theorem Un.mono (u:Un fs ex H H1 h h1)(hs:∀b∈fs,b∈fs')(hx:∀b∈ex,b∈ex'):Un fs' ex' H H1 h h1 :=
 ⟨λb ob q n hb he=>u.keep b ob q n (λz=>hb (hs b z)) λz=>he (hx b z),λ_ _ q n _ he=>u.any q n λz=>he (hx _ z),λb ob q n he=>u.free b ob q n λz=>he (hx b z),λb ob q he=>u.there b ob q λz=>he (hx b z),u.xm,u.vo,u.xn⟩
end
def trk (h:Heap)(H:Hp):List Addr:=(List.range h.objs.size).filter λa=>(H a).isSome
def Ef (h:Heap)(H:Hp):Heap:=PySem.W.hideAll h (trk h H)
theorem MU (h:Heap)(H:Hp):(Ef h H).objs.size=h.objs.size:=PySem.W.hideAll_size _ _
theorem Ov {h:Heap}{H:Hp}{b:Addr}{o:Obj}(e:h.get? b=some o)(n:H b=none):(Ef h H).get? b=some o :=
 PySem.W.hideAll_get _ e λhm=>by
  have q:(H b).isSome=true:=(List.mem_filter.mp hm).2;rw[n]at q;simp at q
theorem RC {h:Heap}{H:Hp}{b:Addr}{o:Obj}(e:(Ef h H).get? b=some o):h.get? b=some o/\H b=none:=by
 have e':h.get? b=some o:=PySem.W.of_hideAll (trk h H) e;refine⟨e',?_⟩;cases q:H b with
 |none=>rfl
 |some x =>
  have hm:b∈trk h H:=List.mem_filter.mpr ⟨List.mem_range.mpr (om e'),by simp[q]⟩
  have z:(Ef h H).get? b=none:=PySem.W.hideAll_none (trk h H) hm;rw[z]at e;cases e
def RD (g h:Heap)(L:Addr):List (Addr×Obj):=(List.range h.objs.size).filterMap λa=>if a=L\/(g.get? a).isSome=true then none else (h.get? a).map λo=>(a,o)
def rest (g h:Heap)(L d:Addr):List (Addr×Obj):=(RD g h L).filter λp=>decide (p.1≠d)
end L2
namespace L2
open PySem PySem.Spec PyProof.Rows
structure Mod (K:ba)(mg:Str->Option Value)(base:Heap):Prop where
 kin:K.In base
 glob:base.Ns gn mg
 blt:∃mb,base.Ns builtinsNs mb/\∀x:Str,x≠"__name__"->mb x=akz x
 nolimit:base.NoLimit
structure Cx where
 prog:me
 w:World
 K:ba
 mg:Str->Option Value
 base:Heap
 A:Around
 N:List Str
 s₀:Shared
 H₀:Hp
 env:Env
 outer:List Env
 stack:List Env
 ex:List Addr
 fn:Str->Bool
 calm:Bool
 pn:List (Addr×Obj)
 xe:Value->Shared->Prop
def frs (l:List Env):List Addr:=l.filterMap (·.frame)
abbrev Cx.fs (X:Cx):List Addr:=frs X.outer
def Vis (sc:Scope)(x:Str):Prop:=sc.names.lookup x=some .local\/sc.names.lookup x=some .cell\/sc.names.lookup x=some .free
def Loc (sc:Scope)(x:Str):Prop:=sc.names.lookup x=some .local\/sc.names.lookup x=some .cell
def Look (env:Env)(h:Heap)(m:Str->Option Value)(x:Str)(u:Value):Prop :=
 (env.kindOf x=some .local/\m x=some u)\/((env.kindOf x=some .cell\/env.kindOf x=some .free)/\∃c,env.cells.lookup x=some c/\h.IsCell c (some u))
structure Cx.Ok (X:Cx):Prop where
 mod:Mod X.K X.mg X.base
 kind:X.env.scope.kind=.function
 glob:X.env.globals=gn
 blt:X.env.builtins=builtinsNs
 above:X.s₀.heap.objs.size<=X.env.locals
 inj:∀x y c,X.env.cells.lookup x=some c->X.env.cells.lookup y=some c->x=y
 has:∀x,(X.env.kindOf x=some .cell\/X.env.kindOf x=some .free)->∃c,X.env.cells.lookup x=some c
 cab:∀x c,X.fn x=true->X.env.cells.lookup x=some c->X.s₀.heap.objs.size<=c
 hd:X.calm=true->X.A.handled=none
 frames:X.A.frames=some X.stack
 stk:X.stack=X.outer\/(X.stack=X.env::X.outer/\X.env.frame=some X.env.locals)
 exf:∀b∈X.ex,b≠X.env.locals/\∀x c,X.env.cells.lookup x=some c->c≠b
 bs:∀b o,X.base.get? b=some o->X.s₀.heap.get? b=some o/\X.H₀ b=none
 bsz:X.base.objs.size<=X.s₀.heap.objs.size
 Eg:∀b o,X.base.get? b=some o->b∉X.ex
 Eh:∀b∈X.ex,b∉X.fs
 uo:X.s₀.heap.FunFrames X.base X.outer
 frf:∀b∈X.fs,X.H₀ b=none
structure Inv (X:Cx)(pins:List (Addr×Obj))(σ:List (Option V))(H:Hp)(s:Shared):Prop where
 ok:X.Ok
 os:s.os=X.s₀.os
 bare:AllBare s.gens
 base:Un X.fs X.ex X.H₀ H X.s₀.heap s.heap
 loc:∃m,s.heap.Ns X.env.locals m/\∀(i:Nat) (x:Str) (v:V),X.N[i]?=some x->σ[i]?=some (some v)->Vis X.env.scope x->∃u,RelV v u/\Look X.env s.heap m x u
 cell:∀x c,X.env.cells.lookup x=some c->∃v,s.heap.IsCell c v
 free:H X.env.locals=none
 oE:∀x c,X.env.cells.lookup x=some c->H c=none
 pin:∀p∈X.pn++pins,s.heap.get? p.1=some p.2/\H p.1=none/\p.1≠X.env.locals/\p.1∉X.fs/\∀v,p.2.data≠.cell v
 hok:HOk X.prog X.w H s.heap
 len:σ.length=X.N.length
section
variable{X:Cx}{pins:List (Addr×Obj)}{σ:List (Option V)}{H H':Hp}{s:Shared}{h':Heap}
theorem Cx.Ok.ag3 (ok:X.Ok){b:Addr}{o:Obj}(e:X.base.get? b=some o):b∉X.fs:=λhb=>by
 have:=(ok.uo.mem hb).1;rw[e]at this;cases this
theorem Inv.bs (I:Inv X pins σ H s):∀b o,X.base.get? b=some o->s.heap.get? b=some o/\H b=none:=λb o e =>
 ⟨I.base.keep b o (I.ok.bs b o e).1 (I.ok.bs b o e).2 (I.ok.ag3 e) (I.ok.Eg b o e),I.base.free b o (I.ok.bs b o e).1 (I.ok.bs b o e).2 (I.ok.Eg b o e)⟩
theorem Inv.bk (I:Inv X pins σ H s):∀b o,X.base.get? b=some o->s.heap.get? b=some o:=λb o e=>(I.bs b o e).1
theorem Inv.mod (I:Inv X pins σ H s):Mod X.K X.mg X.base:=I.ok.mod
theorem Inv.kIn (I:Inv X pins σ H s):X.K.In s.heap:=I.ok.mod.kin.keeps I.bk
theorem Inv.nolimit (I:Inv X pins σ H s):s.heap.NoLimit:=I.ok.mod.nolimit.keeps I.bk
theorem Inv.fr (I:Inv X pins σ H s):∃m,Fr X.base X.env.locals s.heap m :=
 let ⟨m,hn,_⟩:=I.loc
 ⟨m,hn,I.bk,tm I.ok.bsz I.ok.above⟩
theorem Inv.lt (I:Inv X pins σ H s):X.env.locals < s.heap.objs.size:=let ⟨_,hn,_⟩:=I.loc;hn.lt
theorem Inv.sz (I:Inv X pins σ H s):X.s₀.heap.objs.size<=s.heap.objs.size:=tm I.ok.above (Nat.le_of_lt I.lt)
theorem Inv.ag4 (I:Inv X pins σ H s){a:Addr}(h:s.heap.objs.size<=a):a∉X.fs:=λhb=>by
 obtain⟨_,o,ho,_⟩:=I.ok.uo.mem hb;exact absurd (ajI (om ho) (tm I.sz h)) (ak2 _)
theorem Inv.cne (I:Inv X pins σ H s):∀x c,X.env.cells.lookup x=some c->c≠X.env.locals:=λx c e z=>by
 obtain⟨v,o,ho,hd⟩:=I.cell x c e;obtain⟨m,⟨o',es,ep,ho',hd',_⟩,_⟩:=I.loc;rw[z,ho']at ho;cases ho;rw[hd']at hd;cases hd
theorem Inv.uo (I:Inv X pins σ H s):s.heap.FunFrames X.base X.outer:=by
 have all:∀(l:List Env),(∀b∈frs l,b∈X.fs)->X.s₀.heap.FunFrames X.base l->s.heap.FunFrames X.base l:=by
  intro l
  induction l with
  |nil=>intro _ _;trivial
  |cons env r ih =>
   intro hs hl;obtain⟨hk,⟨L,o,hf,hn,ho,hd⟩,hr⟩:=hl;have hL:L∈X.fs:=hs L (by unfold frs;rw[List.filterMap_cons,hf];exact fu)
   obtain⟨sl,e⟩:=I.base.slot L o ho (I.ok.frf L hL) hL λz=>I.ok.Eh L z hL
   exact⟨hk,⟨L,_,hf,hn,e,hd⟩,ih (λb hb=>hs b (by unfold frs;rw[List.filterMap_cons,hf];exact ky _ hb)) hr⟩
 exact all X.outer (λ_ hb=>hb) I.ok.uo
theorem Inv.stack (I:Inv X pins σ H s):s.heap.FunFrames X.base X.stack:=by
 rcases I.ok.stk with e | ⟨e,hf⟩
 ·rw[e];exact I.uo
 ·rw[e];obtain⟨m,hn,_⟩:=I.loc;refine .cons (by rw[I.ok.kind];decide) hf hn ?_ I.uo
  exact Heap.get?_none_of_le (tm I.ok.bsz I.ok.above)
theorem Inv.AG (I:Inv X pins σ H s):∀b∈frs X.stack,b∈X.env.locals::X.fs:=λb hb=>by
 rcases I.ok.stk with e | ⟨e,hf⟩
 ·rw[e]at hb;exact ky _ hb
 ·rw[e]at hb;unfold frs at hb;rw[List.filterMap_cons,hf]at hb;exact hb
theorem Inv.Aj (I:Inv X pins σ H s):∀b∈frs X.stack,H b=none:=λb hb=>by
 rcases List.mem_cons.mp (I.AG b hb) with e | hb
 ·rw[e];exact I.free
 ·obtain⟨_,o,ho,_⟩:=I.ok.uo.mem hb;exact I.base.free b o ho (I.ok.frf b hb) λz=>I.ok.Eh b z hb
theorem Inv.step {g':Array GenState}{t':Nat}{d':Drawn}{ch:List Addr}(I:Inv X pins σ H s)
  (hch:∀b∈ch,(b∈X.ex\/X.s₀.heap.objs.size<=b)/\b≠X.env.locals/\(∀x c,X.env.cells.lookup x=some c->c≠b)/\∀p∈X.pn++pins,p.1≠b)
  (keep:∀b o,b≠X.env.locals->b∉X.fs->b∉ch->s.heap.get? b=some o->H b=none->h'.get? b=some o)
  (slot:∀b o,b≠X.env.locals->b∈X.fs->b∉ch->s.heap.get? b=some o->H b=none->∃sl,h'.get? b=some { o with slots:=sl }) (free:∀b o,b∉ch->s.heap.get? b=some o->H b=none->H' b=none)
  (there:∀b o,b∉ch->s.heap.get? b=some o->∃o',h'.get? b=some o')
  (xm:∀b xs,H b=some (.tup xs)->H' b=some (.tup xs)) (vo:∀b o u,H b=some (.frz o u)->H' b=some (.frz o u)) (xn:∀b ps,H b=some (.tbl ps)->∃more,H' b=some (.tbl (ps++more)))
  (ns:∀m,s.heap.Ns X.env.locals m->h'.Ns X.env.locals m) (hok:HOk X.prog X.w H' h') (hg:AllBare g') :
  Inv X pins σ H' { s with heap:=h',gens:=g',drawn:=d',toks:=t' }:=by
 have neL:∀b o,X.s₀.heap.get? b=some o->b≠X.env.locals:=λb o e=>ajK (ajI (om e) I.ok.above)
 have neC:∀b o,X.s₀.heap.get? b=some o->b∉X.ex->b∉ch:=λb o e hx hb=>by
  rcases (hch b hb).1 with z | z
  ·exact hx z
  ·exact absurd (ajI (om e) z) (ak2 _)
 have cellK:∀x c,X.env.cells.lookup x=some c->∀v,s.heap.IsCell c v->h'.IsCell c v:=λx c e v ⟨o,ho,hd⟩=>by
  have nch:c∉ch:=λz=>(hch c z).2.2.1 x c e rfl
  by_cases hc:c∈X.fs
  ·obtain⟨sl,q⟩:=slot c o (I.cne x c e) hc nch ho (I.oE x c e);exact⟨_,q,hd⟩
  ·exact⟨o,keep c o (I.cne x c e) hc nch ho (I.oE x c e),hd⟩
 refine⟨I.ok,I.os,hg,⟨λb o e n hb hx=>?_,λb o e n hb hx=>?_,λb o e n hx=>?_,λb o e hx=>?_,λb xs e=>xm b xs (I.base.xm b xs e),λb o xs e=>vo b o xs (I.base.vo b o xs e),λb ps e=>?_⟩,?_,λx c e=>?_,?_,λx c e=>?_,λp hp=>?_,hok,I.len⟩
 ·exact keep b o (neL b o e) hb (neC b o e hx) (I.base.keep b o e n hb hx) (I.base.free b o e n hx)
 ·obtain⟨sl,e1⟩:=I.base.slot b o e n hb hx;obtain⟨sl',e2⟩:=slot b _ (neL b o e) hb (neC b o e hx) e1 (I.base.free b o e n hx);exact⟨sl',e2⟩
 ·obtain⟨o',e1⟩:=I.base.there b o e hx;exact free b o' (neC b o e hx) e1 (I.base.free b o e n hx)
 ·obtain⟨o',e1⟩:=I.base.there b o e hx;exact there b o' (neC b o e hx) e1
 ·obtain⟨m1,e1⟩:=I.base.xn b ps e;obtain⟨m2,e2⟩:=xn b _ e1;exact⟨m1++m2,by rw[e2,Array.append_assoc]⟩
 ·obtain⟨m,hn,hl⟩:=I.loc;refine⟨m,ns m hn,λi x v e1 e2 e3=>?_⟩
  obtain⟨u,r,l⟩:=hl i x v e1 e2 e3;refine⟨u,r,?_⟩;rcases l with l | ⟨k,c,e,z⟩
  ·exact .inl l
  ·exact .inr ⟨k,c,e,cellK x c e _ z⟩
 ·obtain⟨v,z⟩:=I.cell x c e;exact⟨v,cellK x c e v z⟩
 ·obtain⟨m,⟨o,_,_,ho,_⟩,_⟩:=I.loc;exact free _ o (λz=>(hch _ z).2.1 rfl) ho I.free
 ·obtain⟨v,o,ho,hd⟩:=I.cell x c e;exact free c o (λz=>(hch c z).2.2.1 x c e rfl) ho (I.oE x c e)
 ·obtain⟨e,n,ne,nf,d⟩:=I.pin p hp;have nch:p.1∉ch:=λz=>(hch p.1 z).2.2.2 p hp rfl
  exact⟨keep p.1 p.2 ne nf nch e n,free p.1 p.2 nch e n,ne,nf,d⟩
theorem Inv.un {t':Nat}(I:Inv X pins σ H s)(u:Un X.fs [] H H' s.heap h')(hok:HOk X.prog X.w H' h'):Inv X pins σ H' { s with heap:=h',toks:=t' }:=by
 obtain⟨m,⟨o,es,ep,ho,r⟩,_⟩:=id I.loc;obtain⟨sl,hL⟩:=u.any ho I.free (by simp)
 exact I.step (g':=s.gens) (d':=s.drawn) (ch:=[]) (λ_ z=>nomatch z) (λb o _ hb _ e n=>u.keep b o e n hb (by simp)) (λb o _ hb _ e n=>u.slot b o e n hb (by simp)) (λb o _ e n=>u.free b o e n (by simp)) (λb o _ e=>u.there b o e (by simp)) u.xm u.vo u.xn (λm' hm=>by
  obtain⟨o',es',ep',ho',r'⟩:=hm;rw[ho]at ho';cases ho';exact⟨_,es',ep',hL,r'⟩) hok I.bare
theorem Inv.call {g':Array GenState}{t':Nat}{d':Drawn}{ch:List Addr}(I:Inv X pins σ H s)(u:Un (frs X.stack) ch H H' s.heap h')(hok:HOk X.prog X.w H' h')(hg:AllBare g')
  (hch:∀b∈ch,(b∈X.ex\/X.s₀.heap.objs.size<=b)/\b≠X.env.locals/\(∀x c,X.env.cells.lookup x=some c->c≠b)/\∀p∈X.pn++pins,p.1≠b) :
  Inv X pins σ H' { s with heap:=h',gens:=g',drawn:=d',toks:=t' }:=by
 obtain⟨m,⟨o,es,ep,ho,r⟩,_⟩:=id I.loc;obtain⟨sl,hL⟩:=u.any ho I.free λz=>(hch _ z).2.1 rfl
 exact I.step (ch:=ch) hch (λb o hL hb hc e n=>u.keep b o e n (λz=>(List.mem_cons.mp (I.AG b z)).elim hL hb) hc) (λb o _ _ hc e n=>u.any e n hc) (λb o hc e n=>u.free b o e n hc) (λb o hc e=>u.there b o e hc) u.xm u.vo u.xn (λm' hm=>by
  obtain⟨o',es',ep',ho',r'⟩:=hm;rw[ho]at ho';cases ho';exact⟨_,es',ep',hL,r'⟩) hok hg
theorem Inv.turned {t':Nat}{it:Addr}(I:Inv X pins σ H s)(k:∀b o,b≠it->s.heap.get? b=some o->h'.get? b=some o)(hn:H it=none)(hL:it≠X.env.locals)
  (h1:it∈X.ex\/X.s₀.heap.objs.size<=it) (h2:∀x c,X.env.cells.lookup x=some c->c≠it) (h3:∀p∈X.pn++pins,p.1≠it):Inv X pins σ H { s with heap:=h',toks:=t' }:=by
 have nit:∀b u,H b=some u->b≠it:=λb u e z=>by rw[z,hn]at e;cases e
 refine I.step (g':=s.gens) (d':=s.drawn) (ch:=[it]) (λb hb=>?_) (λb o _ _ hc e _=>k b o (λz=>hc (by simp[z])) e) (λb o _ _ hc e _=>⟨o.slots,k b o (λz=>hc (by simp[z])) e⟩) (λ_ _ _ _ n=>n)
  (λb o hc e=>⟨o,k b o (λz=>hc (by simp[z])) e⟩) (λ_ _ e=>e) (λ_ _ _ e=>e) (λb ps e=>⟨#[],by rw[e];simp⟩) (λm hm=>?_) (λb u e=>?_) I.bare
 ·have e:b=it:=by simpa using hb
  subst e;exact⟨h1,hL,h2,h3⟩
 ·obtain⟨o,es,ep,ho,r⟩:=hm;exact⟨o,es,ep,k _ o (ajZ hL) ho,r⟩
 ·refine(I.hok b u e).FO (λc v hc q=>k c v ?_ q) (λ_ q=>q) λ_ _ q=>q
  rcases hc with z | z
  ·rw[z];exact nit b u e
  ·exact nit c _ z
theorem Inv.tok (I:Inv X pins σ H s)(t:Nat):Inv X pins σ H { s with toks:=t }:=I.un (h':=s.heap) (t':=t) Un.refl I.hok
theorem Inv.kept {t':Nat}(I:Inv X pins σ H s)(k:∀b u,s.heap.get? b=some u->h'.get? b=some u):Inv X pins σ H { s with heap:=h',toks:=t' }:=I.un (Un.kept k) (I.hok.kept k)
theorem Inv.laid {a:Addr}{o:HO}{t':Nat}(I:Inv X pins σ H s)(k:∀b u,s.heap.get? b=some u->h'.get? b=some u)(hp:s.heap.objs.size<=a)(new:fU X.prog X.w (upd H a o) h' a o) :
  Inv X pins σ (upd H a o) { s with heap:=h',toks:=t' }:=I.un (Un.laid k hp (I.hok.fresh hp)) (I.hok.laid k hp new)
theorem Inv.write {x e:Addr}{o:HO}{t':Nat}(I:Inv X pins σ H s)(mu:Mut (H x))(he:e=x\/H e=some (.own x))(k:∀b u,b≠e->s.heap.get? b=some u->h'.get? b=some u)(heo:∃u,h'.get? e=some u)
  (new:fU X.prog X.w (upd H x o) h' x o):Inv X pins σ (upd H x o) { s with heap:=h',toks:=t' }:=I.un (Un.write mu he k heo) (I.hok.write mu he k heo new)
theorem Inv.Ak {TF:List (Addr×Obj)}(I:Inv X pins σ H s)(h:∀p∈TF,s.heap.get? p.1=some p.2/\H p.1=none/\p.1≠X.env.locals/\p.1∉X.fs/\∀v,p.2.data≠.cell v):Inv X TF σ H s :=
 ⟨I.ok,I.os,I.bare,I.base,I.loc,I.cell,I.free,I.oE,λp hp=>(List.mem_append.mp hp).elim (λz=>I.pin p (akb _ z)) (h p),I.hok,I.len⟩
theorem FP {N:List Str}(hN:N.Nodup){i j:Nat}{x:Str}(a:N[i]?=some x)(b:N[j]?=some x):i=j:=by
 obtain⟨h1,e1⟩:=List.getElem?_eq_some_iff.mp a;obtain⟨h2,e2⟩:=List.getElem?_eq_some_iff.mp b;exact(List.getElem_inj hN).mp (e1.trans e2.symm)
theorem MV {M:Model}{A:Around}{E:Value->Shared->Prop}{i:Nat}{x:Str}{v:V}{u:Value}{Q:Unit->Shared->Prop}(I:Inv X pins σ H s)(hN:X.N.Nodup)(hi:X.N[i]?=some x)(hx:Loc X.env.scope x)(r:RelV v u)
  (h:∀s',Inv X pins (σ.set i (some v)) H s'->(∃a,Heap.SameBut a s.heap s'.heap/\(a=X.env.locals\/X.env.cells.lookup x=some a))->Q () s') (hf:X.fn x=true\/X.env.scope.names.lookup x=some .local:=by first | exact .inl rfl | exact .inr rfl | assumption):wpAny M A (storeName X.env x u) Q E s:=by
 obtain⟨m,hn,hl⟩:=id I.loc;have ag5:(X.env.scope.kind == .class || (X.env.scope.kind == .module && X.env.locals != X.env.globals))=false:=by rw[I.ok.kind];rfl
 have hiσ:i < σ.length:=by rw[I.len];exact(List.getElem?_eq_some_iff.mp hi).1
 have cne:=I.cne;have tracked:∀ {a:Addr} {h':Heap},(∃o,s.heap.get? a=some o/\H a=none)->Heap.SameBut a s.heap h'->HOk X.prog X.w H h':=λ{a h'} ha hs b ob e=>by
  obtain⟨_,_,TH⟩:=ha;refine(I.hok b ob e).FO (λc w' hc q=>(hs.2 c ?_).trans q) (λ_ q=>q) λ_ _ q=>q
  rintro rfl;rcases hc with rfl | hc
  ·rw[TH]at e;cases e
  ·rw[TH]at hc;cases hc
 rcases hx with hk | hk
 ·refine wpAny_storeName_local hk hn (λh' hn' hs=>?_) ag5
  obtain⟨oL,_,_,hoL,_⟩:=id hn;refine h _ ⟨I.ok,I.os,I.bare,⟨λb o e n hb hx=>?_,λb o e n hb hx=>?_,I.base.free,λb o e hx=>?_,I.base.xm,I.base.vo,I.base.xn⟩,⟨_,hn',λj y v' e1 e2 e3=>?_⟩,λy c e=>?_,I.free,I.oE,λp hp=>?_,tracked ⟨oL,hoL,I.free⟩ hs,by simpa using I.len⟩ ⟨_,hs,.inl rfl⟩
  ·exact(hs.2 b (ajK (ajI (om e) I.ok.above))).trans (I.base.keep b o e n hb hx)
  ·obtain⟨sl,e1⟩:=I.base.slot b o e n hb hx;exact⟨sl,(hs.2 b (ajK (ajI (om e) I.ok.above))).trans e1⟩
  ·obtain⟨o',e1⟩:=I.base.there b o e hx;exact⟨o',(hs.2 b (ajK (ajI (om e) I.ok.above))).trans e1⟩
  ·by_cases hj:j=i
   ·subst hj;rw[hi]at e1;cases e1;rw[List.getElem?_set_self hiσ]at e2;cases e2;exact⟨u,r,.inl ⟨hk,by simp⟩⟩
   ·rw[List.getElem?_set_ne (ajZ hj)]at e2;obtain⟨u',r',q⟩:=hl j y v' e1 e2 e3;refine⟨u',r',?_⟩;rcases q with ⟨k,e⟩ | ⟨k,c,e,z⟩
    ·refine .inl ⟨k,?_⟩;have:y≠x:=λe=>hj (FP hN e1 (e▸hi))
     simp[this,e]
    ·exact .inr ⟨k,c,e,z.sameBut hs (cne y c e)⟩
  ·obtain⟨w',z⟩:=I.cell y c e;exact⟨w',z.sameBut hs (cne y c e)⟩
  ·obtain⟨e,n,ne,nf,d⟩:=I.pin p hp;exact⟨(hs.2 p.1 ne).trans e,n,ne,nf,d⟩
 ·have hfn:X.fn x=true:=by
   rcases hf with z | z
   ·exact z
   ·rw[z]at hk;cases hk
  obtain⟨c,hc⟩:=I.ok.has x (.inl hk);obtain⟨w',z⟩:=I.cell x c hc;refine wpAny_storeName_cell I.ok.kind hk hc z (λh' hc' hs=>?_)
  obtain⟨oc,hoc,ag6⟩:=id z;refine h { s with heap:=h' } ⟨I.ok,I.os,I.bare,⟨λb o e n hb hx=>?_,λb o e n hb hx=>?_,I.base.free,λb o e hx=>?_,I.base.xm,I.base.vo,I.base.xn⟩,⟨m,hn.sameBut hs (ajZ (cne x c hc)),λj y v' e1 e2 e3=>?_⟩,λy c' e=>?_,I.free,I.oE,λp hp=>?_,tracked ⟨oc,hoc,I.oE x c hc⟩ hs,by simpa using I.len⟩ ⟨c,hs,.inr hc⟩
  ·exact(hs.2 b (ajK (ajI (om e) (I.ok.cab x c hfn hc)))).trans (I.base.keep b o e n hb hx)
  ·obtain⟨sl,e1⟩:=I.base.slot b o e n hb hx;exact⟨sl,(hs.2 b (ajK (ajI (om e) (I.ok.cab x c hfn hc)))).trans e1⟩
  ·obtain⟨o',e1⟩:=I.base.there b o e hx;exact⟨o',(hs.2 b (ajK (ajI (om e) (I.ok.cab x c hfn hc)))).trans e1⟩
  ·by_cases hj:j=i
   ·subst hj;rw[hi]at e1;cases e1;rw[List.getElem?_set_self hiσ]at e2;cases e2;exact⟨u,r,.inr ⟨.inl hk,c,hc,hc'⟩⟩
   ·rw[List.getElem?_set_ne (ajZ hj)]at e2;obtain⟨u',r',q⟩:=hl j y v' e1 e2 e3;refine⟨u',r',?_⟩;rcases q with q | ⟨k,c',e,z'⟩
    ·exact .inl q
    ·refine .inr ⟨k,c',e,z'.sameBut hs ?_⟩;rintro rfl;exact hj (FP hN e1 (I.ok.inj _ _ _ e hc▸hi))
  ·by_cases hcc:c'=c
   ·subst hcc;exact⟨_,hc'⟩
   ·obtain⟨w2,z2⟩:=I.cell y c' e;exact⟨w2,z2.sameBut hs hcc⟩
  ·obtain⟨e,n,ne,nf,d⟩:=I.pin p hp;refine⟨(hs.2 p.1 ?_).trans e,n,ne,nf,d⟩;intro q;rw[q,hoc]at e;have q':oc=p.2:=ajJ e;exact d w' (by rw[<-q'];exact ag6)
theorem vp {M:Model}{A:Around}{E:Value->Shared->Prop}{i:Nat}{x:Str}{v:V}{u:Value}{Q:Unit->Shared->Prop}(I:Inv X pins σ H s)(hN:X.N.Nodup)(hi:X.N[i]?=some x)(hx:Loc X.env.scope x)(r:RelV v u)
  (h:∀s',Inv X pins (σ.set i (some v)) H s'->Q () s') (hf:X.fn x=true\/X.env.scope.names.lookup x=some .local:=by first | exact .inl rfl | exact .inr rfl | assumption):wpAny M A (storeName X.env x u) Q E s :=
 MV I hN hi hx r (λs' I' _=>h s' I') hf
theorem Inv.LY {s':Shared}{ch:List Addr}(I:Inv X pins σ H s)(ho:s'.os=s.os)(u:Un (frs X.stack) ch H H' s.heap s'.heap)(hok:HOk X.prog X.w H' s'.heap)(hg:AllBare s'.gens)
  (hch:∀b∈ch,(b∈X.ex\/X.s₀.heap.objs.size<=b)/\b≠X.env.locals/\(∀x c,X.env.cells.lookup x=some c->c≠b)/\∀p∈X.pn++pins,p.1≠b):Inv X pins σ H' s':=by
 obtain⟨h',g',d',t',o'⟩:=s';have e:o'=s.os:=ho;subst e;exact I.call (g':=g') (t':=t') (d':=d') u hok hg hch
end
abbrev XK:=Value->Option Addr->Hp->Prop
abbrev St:=List (Option V)
abbrev VK:=V->Hp->Prop
abbrev TE:=St->Hp->VK->Prop
abbrev TT:=St->Hp->(Bool->Hp->Prop)->Prop
abbrev TA:=St->Hp->(List V->Hp->Prop)->Prop
structure Ends where
 nx:St->Hp->Prop
 rt:VK
 bk:St->Hp->Prop:=λ_ _=>False
 ct:St->Hp->Prop:=λ_ _=>False
abbrev TS:=Ends->St->Hp->Prop
def EP (X:Cx)(pins:List (Addr×Obj))(σ:St)(Q:VK)(u:Value)(s':Shared):Prop:=∃v H',Inv X pins σ H' s'/\RelV v u/\Q v H'
def TP (X:Cx)(pins:List (Addr×Obj))(σ:St)(Q:Bool->Hp->Prop)(b:Bool)(s':Shared):Prop:=∃H',Inv X pins σ H' s'/\Q b H'
def AP (X:Cx)(pins:List (Addr×Obj))(σ:St)(Q:List V->Hp->Prop)(us:List Value)(s':Shared):Prop:=∃vs H',Inv X pins σ H' s'/\Vals vs us/\Q vs H'
def SP (X:Cx)(pins:List (Addr×Obj))(D:Ends)(f:Flow)(s':Shared):Prop :=
 match f with
 | .next=>∃σ' H',Inv X pins σ' H' s'/\D.nx σ' H'
 | .brk=>∃σ' H',Inv X pins σ' H' s'/\D.bk σ' H'
 | .cont=>∃σ' H',Inv X pins σ' H' s'/\D.ct σ' H'
 | .ret u=>∃v σ' H',Inv X pins σ' H' s'/\RelV v u/\D.rt v H'
def PE (X:Cx)(e:Expr)(t:TE):Prop :=
 ∀(pins:List (Addr×Obj)) (s:Shared) (σ:St) (H:Hp) (Q:VK),Inv X pins σ H s->t σ H Q->wpAny (model X.prog X.w) X.A (eval e X.env) (EP X pins σ Q) X.xe s
def PT (X:Cx)(e:Expr)(t:TT):Prop :=
 ∀(pins:List (Addr×Obj)) (s:Shared) (σ:St) (H:Hp) (Q:Bool->Hp->Prop),Inv X pins σ H s->t σ H Q->wpAny (model X.prog X.w) X.A (isTrue e X.env (eval e X.env)) (TP X pins σ Q) X.xe s
def PW (X:Cx)(e:Expr)(t:TT):Prop :=
 ∀(whole:Sem Value) (pins:List (Addr×Obj)) (s:Shared) (σ:St) (H:Hp) (Q:Bool->Hp->Prop),Inv X pins σ H s->t σ H Q->wpAny (model X.prog X.w) X.A (isTrue e X.env whole) (TP X pins σ Q) X.xe s
theorem PW.pt {X:Cx}{e:Expr}{t:TT}(h:PW X e t):PT X e t:=h _
def PA (X:Cx)(es:List Expr)(t:TA):Prop :=
 ∀(pos:Pos) (pins:List (Addr×Obj)) (s:Shared) (σ:St) (H:Hp) (Q:List V->Hp->Prop),Inv X pins σ H s->t σ H Q->wpAny (model X.prog X.w) X.A (spliced (backTo pos (Lk es X.env))) (AP X pins σ Q) X.xe s
def PS (X:Cx)(st:Stmt)(t:TS):Prop :=
 ∀(pins:List (Addr×Obj)) (s:Shared) (σ:St) (H:Hp) (D:Ends),Inv X pins σ H s->t D σ H->wpAny (model X.prog X.w) X.A (exec st X.env) (SP X pins D) X.xe s
def PSs (X:Cx)(st:List Stmt)(t:TS):Prop :=
 ∀(pins:List (Addr×Obj)) (s:Shared) (σ:St) (H:Hp) (D:Ends),Inv X pins σ H s->t D σ H->wpAny (model X.prog X.w) X.A (execs st X.env) (SP X pins D) X.xe s
theorem thn {α:Type}{t:Sem α}{Q Q':α->Shared->Prop}{M:Model}{A:Around}{E:Value->Shared->Prop}{s:Shared}(h:wpAny M A t Q E s)(hQ:∀a s,Q a s->Q' a s):wpAny M A t Q' E s:=wt h hQ λ_ _ x=>x
end L2
namespace L2
open PySem PySem.Spec PyProof.Rows
section
variable{X:Cx}
theorem bin {a b:Expr}{ta tb:TE}(ha:PE X a ta)(hb:PE X b tb){pins:List (Addr×Obj)}{s:Shared}{σ:St}{H:Hp}{R:V->V->Hp->Prop}(I:Inv X pins σ H s)(h:ta σ H λx H1=>tb σ H1 λy H2=>R x y H2)
  {α:Type} {Q:α->Shared->Prop} {f:Value->Value->Sem α}
  (hf:∀v u s2 x y H2,Inv X pins σ H2 s2->RelV x v->RelV y u->R x y H2->wpAny (model X.prog X.w) X.A (f v u) Q X.xe s2) :
  wpAny (model X.prog X.w) X.A (eval a X.env) (λv s₁=>wpAny (model X.prog X.w) X.A (eval b X.env) (λu s₂=>wpAny (model X.prog X.w) X.A (f v u) Q X.xe s₂) X.xe s₁) X.xe s:=by
 refine thn (ha pins s σ H _ I h) λv s1 ⟨x,H1,I1,r1,q1⟩=>?_
 refine thn (hb pins s1 σ H1 _ I1 q1) λu s2 ⟨y,H2,I2,r2,q2⟩=>?_
 exact hf v u s2 x y H2 I2 r1 r2 q2
def ZD (i:Nat):TE:=λσ H Q=>∃v,σ[i]?=some (some v)/\Q v H
def tC (v:V):TE:=λ_ H Q=>Q v H
theorem Vp {i:Nat}{x:Str}{pos:Pos}(hN:X.N[i]?=some x)(hv:Vis X.env.scope x)(hd:(x == ("__debug__":Str))=false:=by decide)(hcd:(x == ("__classdict__":Str))=false:=by decide):PE X (.Name x pos) (ZD i):=by
 intro pins s σ H Q I h;obtain⟨v,e,h⟩:=h;obtain⟨m,hn,hl⟩:=I.loc;obtain⟨u,r,l⟩:=hl i x v hN e hv;have fin:EP X pins σ Q u s:=⟨v,H,I,r,h⟩;rcases l with ⟨hk,hm⟩ | ⟨hk,c,hc,kX⟩
 ·exact wpAny_Name (wpAny_loadName_local I.ok.kind hk hn hm fin) hd
 ·rcases hk with hk | hk
  ·exact wpAny_Name (wpAny_loadName_cell I.ok.kind hk hc kX fin) hd
  ·exact wpAny_Name (wpAny_loadName_free I.ok.kind hk hc kX fin hcd) hd
theorem af {i j pos}:PE X (.Constant (.int i) j pos) (tC (.int i)):=λ_ _ _ H _ I h=>wpAny_Constant_int ⟨.int i,H,I.tok _,⟨_,rfl⟩,h⟩
theorem gb {b j pos}:PE X (.Constant (.bool b) j pos) (tC (.bl b)):=λ_ _ _ H _ I h=>Constant_bool ⟨.bl b,H,I,rfl,h⟩
theorem qj {j pos}:PE X (.Constant .none j pos) (tC .non):=λ_ _ _ H _ I h=>Constant_none ⟨.non,H,I,rfl,h⟩
theorem ao {x j pos}:PE X (.Constant (.str x) j pos) (tC (.str x)):=λ_ _ _ H _ I h=>Calls.Constant_str ⟨.str x,H,I.tok _,⟨_,rfl⟩,h⟩
def Gl (X:Cx)(x:Str):Prop:=X.env.kindOf x=some .globalImplicit
theorem jW {E:Value->Shared->Prop}{pins:List (Addr×Obj)}{s:Shared}{σ:St}{H:Hp}{x:Str}{u:Value}{pos:Pos}{Q:Value->Shared->Prop}(I:Inv X pins σ H s)(hg:Gl X x)(hm:X.mg x=some u)(h:Q u s)
  (hd:(x == ("__debug__":Str))=false:=by decide):wpAny (model X.prog X.w) X.A (eval (.Name x pos) X.env) Q E s :=
 Calls.Name_function_global I.ok.kind hg (Calls.loadGlobal_global (by rw[I.ok.glob];exact I.mod.glob.keeps I.bk) hm h) hd
theorem JB {E:Value->Shared->Prop}{pins:List (Addr×Obj)}{s:Shared}{σ:St}{H:Hp}{x:Str}{u:Value}{pos:Pos}{Q:Value->Shared->Prop}(I:Inv X pins σ H s)(hg:Gl X x)(hm:X.mg x=none)(hv:akz x=some u)(h:Q u s)
  (hn:x≠"__name__":=by decide) (hd:(x == ("__debug__":Str))=false:=by decide):wpAny (model X.prog X.w) X.A (eval (.Name x pos) X.env) Q E s:=by
 obtain⟨mb,h1,h2⟩:=I.mod.blt;exact Calls.Name_function_global I.ok.kind hg (Calls.loadGlobal_builtin (by rw[I.ok.glob];exact I.mod.glob.keeps I.bk) hm (by rw[I.ok.blt];exact h1.keeps I.bk) ((h2 x hn).trans hv) h) hd
theorem Ei {x:Str}{v:V}{u:Value}{pos:Pos}(hg:Gl X x)(hm:X.mg x=some u)(r:RelV v u)(hd:(x == ("__debug__":Str))=false:=by decide):PE X (.Name x pos) (tC v) :=
 λ_ _ _ H _ I h=>jW I hg hm ⟨v,H,I,r,h⟩ hd
variable{a b:Expr}{ta tb:TE}{pos:Pos}
def PC (X:Cx)(op:CmpOp)(a b:Expr)(t:TE):Prop :=
 ∀(pins:List (Addr×Obj)) (s:Shared) (σ:St) (H:Hp) (Q:VK),Inv X pins σ H s->t σ H Q ->
  wpAny (model X.prog X.w) X.A (eval a X.env) (λv s₁=>wpAny (model X.prog X.w) X.A (eval b X.env) (λu s₂=>wpAny (model X.prog X.w) X.A (akv op v u) (EP X pins σ Q) X.xe s₂) X.xe s₁) X.xe s
theorem Ow (b:Expr){op:CmpOp}(h:op≠.In)(h2:op≠.NotIn):behindInMarks op b=false:=by
 have e1:(op == CmpOp.In)=false:=by cases op <;> first | rfl | exact absurd rfl h
 have e2:(op == CmpOp.NotIn)=false:=by cases op <;> first | rfl | exact absurd rfl h2
 cases b <;> simp[behindInMarks,e1,e2]
def tB (t:TE):TT:=λσ H Q=>t σ H λx H1=>∃c,x=.bl c/\Q c H1
theorem JC {op:CmpOp}{t:TE}(h:PC X op a b t)(h1:behindInMarks op b=false:=by first | exact Ow _ (by decide) (by decide) | rfl):PT X (.Compare a [op] [b] pos) (tB t):=by
 intro pins s σ H Q I hw;refine wpAny_isTrue_Compare1 (thn (h pins s σ H _ I hw) λv s1 h1=>thn h1 λu s2 h2=>thn h2 λc s3 ⟨x,H1,I1,r1,q1⟩=>?_) h1
 obtain⟨d,rfl,q⟩:=q1;cases r1;exact wpAny_truthy_bool ⟨H1,I1,q⟩
theorem lX {e:Expr}{t:TE}(h:PE X e t)(he:∀whole,isTrue e X.env whole=(do let v <-whole;standAt e.pos;holding [v] (truthy v)):=by intro _;rfl):PT X e (tB t):=by
 intro pins s σ H Q I hw;refine isTrue_plain (thn (h pins s σ H _ I hw) λv s1 ⟨x,H1,I1,r1,q1⟩=>?_) (he _)
 obtain⟨d,rfl,q⟩:=q1;cases r1;exact wpAny_truthy_bool ⟨H1,I1,q⟩
variable{tA tB':TT}{rest:List Expr}
def ag7 (t u:TT):TT:=λσ H Q=>t σ H λc H1=>if c=true then u σ H1 Q else Q false H1
def tOr (t u:TT):TT:=λσ H Q=>t σ H λc H1=>if c=true then Q true H1 else u σ H1 Q
def ag8 (t:TT):TT:=λσ H Q=>t σ H λc H1=>Q (!c) H1
theorem pw_and1 (ha:PT X a tA):PW X (.BoolOp .And [a] pos) tA:=by
 intro wh pins s σ H Q I h;refine isTrue_and (thn (ha pins s σ H Q I h) λc s1 e=>?_)
 cases c with
 |true=>exact isTrue_and_nil e
 |false=>exact e
theorem pw_or1 (ha:PT X a tA):PW X (.BoolOp .Or [a] pos) tA:=by
 intro wh pins s σ H Q I h;refine isTrue_or (thn (ha pins s σ H Q I h) λc s1 e=>?_)
 cases c with
 |false=>exact isTrue_or_nil e
 |true=>exact e
theorem pw_and (ha:PT X a tA)(hb:PW X (.BoolOp .And (b::rest) pos) tB'):PW X (.BoolOp .And (a::b::rest) pos) (ag7 tA tB'):=by
 intro wh pins s σ H Q I h;refine isTrue_and (thn (ha pins s σ H _ I h) λc s1 ⟨H1,I1,q1⟩=>?_)
 cases c with
 |true=>exact hb wh pins s1 σ H1 Q I1 q1
 |false=>exact⟨H1,I1,q1⟩
theorem pw_or (ha:PT X a tA)(hb:PW X (.BoolOp .Or (b::rest) pos) tB'):PW X (.BoolOp .Or (a::b::rest) pos) (tOr tA tB'):=by
 intro wh pins s σ H Q I h;refine isTrue_or (thn (ha pins s σ H _ I h) λc s1 ⟨H1,I1,q1⟩=>?_)
 cases c with
 |true=>exact⟨H1,I1,q1⟩
 |false=>exact hb wh pins s1 σ H1 Q I1 q1
theorem qk (ha:PT X a tA):PT X (.UnaryOp .Not a pos) (ag8 tA):=by
 intro pins s σ H Q I h;exact isTrue_not (ha pins s σ H (λc H1=>Q (!c) H1) I h)
def ZE (ta tb:TE):TE:=λσ H Q=>ta σ H λx H1=>∃c,x=.bl c/\if c=true then tb σ H1 Q else Q (.bl false) H1
def ag9 (ta tb:TE):TE:=λσ H Q=>ta σ H λx H1=>∃c,x=.bl c/\if c=true then Q (.bl true) H1 else tb σ H1 Q
theorem Ej {op}{t:TE}(h:PE X a t):PE X (.BoolOp op [a] pos) t:=λpins s σ H Q I hw=>BoolOp_one (h pins s σ H Q I hw)
theorem Ek (ha:PE X a ta)(hb:PE X (.BoolOp .And (b::rest) pos) tb):PE X (.BoolOp .And (a::b::rest) pos) (ZE ta tb):=by
 intro pins s σ H Q I h;refine BoolOp_and (thn (ha pins s σ H _ I h) λv s1 ⟨x,H1,I1,r1,q1⟩=>?_)
 obtain⟨c,rfl,q1⟩:=q1;cases r1;refine wpAny_truthy_bool ?_;cases c with
 |true=>exact hb pins s1 σ H1 Q I1 q1
 |false=>exact⟨.bl false,H1,I1,rfl,q1⟩
theorem ZF (ha:PE X a ta)(hb:PE X (.BoolOp .Or (b::rest) pos) tb):PE X (.BoolOp .Or (a::b::rest) pos) (ag9 ta tb):=by
 intro pins s σ H Q I h;refine BoolOp_or (thn (ha pins s σ H _ I h) λv s1 ⟨x,H1,I1,r1,q1⟩=>?_)
 obtain⟨c,rfl,q1⟩:=q1;cases r1;refine wpAny_truthy_bool ?_;cases c with
 |false=>exact hb pins s1 σ H1 Q I1 q1
 |true=>exact⟨.bl true,H1,I1,rfl,q1⟩
def tIf (t:TT)(ta tb:TE):TE:=λσ H Q=>t σ H λc H1=>if c=true then ta σ H1 Q else tb σ H1 Q
theorem FQ {c:Expr}(hc:PT X c tA)(ha:PE X a ta)(hb:PE X b tb):PE X (.IfExp c a b pos) (tIf tA ta tb):=by
 intro pins s σ H Q I h;refine wpAny_IfExp (thn (hc pins s σ H _ I h) λd s1 ⟨H1,I1,q1⟩=>?_)
 cases d with
 |true=>exact ha pins s1 σ H1 Q I1 q1
 |false=>exact hb pins s1 σ H1 Q I1 q1
end
end L2
namespace L2
open PySem PySem.Spec PyProof.Rows
def SqL (K:ba)(H:Hp)(a:Addr)(xs:List V):Prop :=
 Rd H a (.lst xs) \/
  ∃(o:Obj) (its:Array Value) (n:Nat),K.lookup a=some o/\o.cls=.type "list"/\o.dict=none/\o.data=.seq its n/\its.size<=ka/\Vals xs its.toList
def SqT (K:ba)(H:Hp)(a:Addr)(xs:List V):Prop :=
 Rd H a (.tup xs) \/
  ∃(o:Obj) (its:Array Value) (n:Nat),K.lookup a=some o/\o.cls=.type "tuple"/\o.data=.seq its n/\its.size<=ka/\Vals xs its.toList
def aha:Value->Option V
 | .none=>some .non
 | .bool b=>some (.bl b)
 | .int i _=>some (.int i)
 | .str x _=>some (.str x)
 | .bytes b _=>some (.byt b)
 | .float b _=>some (.flt b)
 | .ref a=>some (.ref a)
 | .type n=>some (.ty n)
 |_=>none
theorem RelV.abs {x:V}{u:Value}(r:RelV x u):aha u=some x:=by
 cases x with
 |non=>cases r;rfl
 |bl _=>cases r;rfl
 |int _=>obtain⟨t,rfl⟩:=r;rfl
 |str _=>obtain⟨t,rfl⟩:=r;rfl
 |byt _=>obtain⟨t,rfl⟩:=r;rfl
 |flt _=>obtain⟨t,rfl⟩:=r;rfl
 |ref _=>cases r;rfl
 |ty _=>cases r;rfl
theorem RelV.inj {x y:V}{u:Value}(r:RelV x u)(q:RelV y u):x=y:=ajJ (r.abs.symm.trans q.abs)
theorem Vals.inj:∀ {xs ys:List V} {us:List Value},Vals xs us->Vals ys us->xs=ys
 |_,_,_,.nil,.nil=>rfl
 |_,_,_,.cons r t,.cons r' t'=>by rw[r.inj r',Vals.inj t t']
section
variable{X:Cx}{pins:List (Addr×Obj)}{σ:St}{H:Hp}{s:Shared}{a:Addr}{xs ys:List V}
theorem SqL.of {K:ba}(h:H a=some (.lst xs)):SqL K H a xs:=.inl (.inl h)
theorem SqT.of {K:ba}(h:H a=some (.tup xs)):SqT K H a xs:=.inl (.inl h)
theorem Inv.list (I:Inv X pins σ H s)(h:SqL X.K H a xs):∃its:List Value,Vals xs its/\PlainL s.heap a its.toArray/\xs.length<=ka:=by
 rcases h with h | ⟨o,its,n,hk,hc,hd,hs,hz,r⟩
 ·obtain⟨z,its,n,r,e⟩:=h.ok I.hok;exact⟨its,r,⟨_,n,e,rfl,rfl,rfl⟩,z⟩
 ·refine⟨its.toList,r,⟨o,n,I.kIn a o hk,hc,hd,by simpa using hs⟩,?_⟩
  have e:=r.length;simp only[akT]at e;omega
theorem Inv.tuple (I:Inv X pins σ H s)(h:SqT X.K H a xs):∃its:List Value,Vals xs its/\IsTup s.heap a its.toArray/\xs.length<=ka:=by
 rcases h with h | ⟨o,its,n,hk,hc,hs,hz,r⟩
 ·obtain⟨z,its,r,p⟩:=h.ok I.hok;exact⟨its,r,p,z⟩
 ·refine⟨its.toList,r,⟨o,I.kIn a o hk,hc,n,by simpa using hs⟩,?_⟩
  have e:=r.length;simp only[akT]at e;omega
theorem Inv.Ox (I:Inv X pins σ H s)(h:SqL X.K H a xs)(h':SqL X.K H a ys):xs=ys:=by
 obtain⟨its,r,⟨o,n,e,_,_,d⟩,_⟩:=I.list h;obtain⟨its',r',⟨o',n',e',_,_,d'⟩,_⟩:=I.list h';rw[e]at e';cases e';rw[d]at d';injection d' with d1 _
 have:its=its':=by simpa using congrArg Array.toList d1
 subst this;exact r.inj r'
theorem Inv.MW (I:Inv X pins σ H s)(h:SqT X.K H a xs)(h':SqT X.K H a ys):xs=ys:=by
 obtain⟨its,r,⟨o,e,_,n,d⟩,_⟩:=I.tuple h;obtain⟨its',r',⟨o',e',_,n',d'⟩,_⟩:=I.tuple h';rw[e]at e';cases e';rw[d]at d';injection d' with d1 _
 have:its=its':=by simpa using congrArg Array.toList d1
 subst this;exact r.inj r'
end
abbrev Cx.nM (X:Cx)(E:Value->Shared->Prop):Cx:={ X with xe:=E }
abbrev Cx.nox (X:Cx):Cx:=X.nM λ_ _=>False
theorem Cx.Ok.nM {X:Cx}(ok:X.Ok)(E:Value->Shared->Prop):(X.nM E).Ok :=
 ⟨ok.mod,ok.kind,ok.glob,ok.blt,ok.above,ok.inj,ok.has,ok.cab,ok.hd,ok.frames,ok.stk,ok.exf,ok.bs,ok.bsz,ok.Eg,ok.Eh,ok.uo,ok.frf⟩
theorem Cx.Ok.d5 {X:Cx}{E:Value->Shared->Prop}(ok:(X.nM E).Ok):X.Ok :=
 ⟨ok.mod,ok.kind,ok.glob,ok.blt,ok.above,ok.inj,ok.has,ok.cab,ok.hd,ok.frames,ok.stk,ok.exf,ok.bs,ok.bsz,ok.Eg,ok.Eh,ok.uo,ok.frf⟩
section
variable{X:Cx}{pins:List (Addr×Obj)}{σ:St}{H:Hp}{s:Shared}{E:Value->Shared->Prop}
theorem Inv.nM (I:Inv X pins σ H s)(E:Value->Shared->Prop):Inv (X.nM E) pins σ H s:=⟨I.ok.nM E,I.os,I.bare,I.base,I.loc,I.cell,I.free,I.oE,I.pin,I.hok,I.len⟩
theorem Inv.d5 (I:Inv (X.nM E) pins σ H s):Inv X pins σ H s:=⟨I.ok.d5,I.os,I.bare,I.base,I.loc,I.cell,I.free,I.oE,I.pin,I.hok,I.len⟩
theorem SP.d5 {D:Ends}{f:Flow}{s':Shared}(h:SP (X.nM E) pins D f s'):SP X pins D f s':=by
 cases f with
 |next=>obtain⟨σ',H',I,q⟩:=h;exact⟨σ',H',I.d5,q⟩
 |brk=>obtain⟨σ',H',I,q⟩:=h;exact⟨σ',H',I.d5,q⟩
 |cont=>obtain⟨σ',H',I,q⟩:=h;exact⟨σ',H',I.d5,q⟩
 |ret u=>obtain⟨v,σ',H',I,r,q⟩:=h;exact⟨v,σ',H',I.d5,r,q⟩
theorem PE.nox {e:Expr}{t:TE}(h:PE X.nox e t):PE X e t:=λpins s σ H Q I hw =>
 wt (h pins s σ H Q (I.nM _) hw) (λ_ _ ⟨v,H',I',r,q⟩=>⟨v,H',I'.d5,r,q⟩) λ_ _ z=>ajY z
theorem PT.nox {e:Expr}{t:TT}(h:PT X.nox e t):PT X e t:=λpins s σ H Q I hw =>
 wt (h pins s σ H Q (I.nM _) hw) (λ_ _ ⟨H',I',q⟩=>⟨H',I'.d5,q⟩) λ_ _ z=>ajY z
theorem PSs.nox {st:List Stmt}{t:TS}(h:PSs X.nox st t):PSs X st t:=λpins s σ H D I hw =>
 wt (h pins s σ H D (I.nM _) hw) (λ_ _ q=>q.d5) λ_ _ z=>ajY z
end
section
variable{X:Cx}{st:Stmt}{rest:List Stmt}{t u:TS}{e:Expr}{te:TE}{pos:Pos}
def ZG:TS:=λD σ H=>D.nx σ H
def ZH (t u:TS):TS:=λD σ H=>t { D with nx:=u D } σ H
theorem aH:PSs X [] ZG:=λ_ _ σ H _ I h=>wpAny_execs_nil ⟨σ,H,I,h⟩
theorem ai (h1:PS X st t)(h2:PSs X rest u):PSs X (st::rest) (ZH t u):=by
 intro pins s σ H D I h;refine wpAny_execs_cons (thn (h1 pins s σ H { D with nx:=u D } I h) λf s1 q=>?_)
 cases f with
 |next =>
  obtain⟨σ',H',I',q⟩:=q;exact h2 pins s1 σ' H' D I' q
 |ret v=>exact q
 |brk=>exact q
 |cont=>exact q
theorem aj (h1:PS X st t):PSs X [st] t:=by
 intro pins s σ H D I h;refine wpAny_execs_cons (thn (h1 pins s σ H D I h) λf s1 q=>?_)
 cases f with
 |next=>exact wpAny_execs_nil q
 |ret v=>exact q
 |brk=>exact q
 |cont=>exact q
theorem Inv.quiet {pins:List (Addr×Obj)}{σ:St}{H:Hp}{s:Shared}(I:Inv X pins σ H s):interactive X.env=false:=by simp[interactive,I.ok.kind]
def ZI (te:TE):TS:=λD σ H=>te σ H λ_ H1=>D.nx σ H1
theorem bJ (he:PE X e te)(hs:swapsWith e none pos.line X.env=pure false:=by rfl):PS X (.Expr e pos) (ZI te):=by
 intro pins s σ H D I h;exact wpAny_Expr_any (thn (he pins s σ H _ I h) λv s1 ⟨x,H1,I1,r1,q1⟩=>⟨σ,H1,I1,q1⟩) I.quiet hs
def ahb (te:TE):TS:=λD σ H=>te σ H D.rt
theorem aC (he:PE X e te):PS X (.Return (some e) pos) (ahb te):=by
 intro pins s σ H D I h;exact wpAny_Return_some (thn (he pins s σ H _ I h) λv s1 ⟨x,H1,I1,r1,q1⟩=>⟨x,σ,H1,I1,r1,q1⟩)
def ahc (c:TT)(t u:TS):TS:=λD σ H=>c σ H λb H1=>if b=true then t D σ H1 else u D σ H1
theorem a5 {c:Expr}{a b:List Stmt}{tc:TT}(hc:PT X c tc)(ha:PSs X a t)(hb:PSs X b u):PS X (.If c a b pos) (ahc tc t u):=by
 intro pins s σ H D I h;refine wpAny_If (thn (hc pins s σ H _ I h) λd s1 ⟨H1,I1,q1⟩=>?_)
 cases d with
 |true=>exact ha pins s1 σ H1 D I1 q1
 |false=>exact hb pins s1 σ H1 D I1 q1
end
abbrev TG:=V->St->Hp->(St->Hp->Prop)->Prop
abbrev TGs:=List V->St->Hp->(St->Hp->Prop)->Prop
def PG (X:Cx)(target:Expr)(t:TG):Prop :=
 ∀(pins:List (Addr×Obj)) (s:Shared) (σ:St) (H:Hp) (v:V) (u:Value) (Q:St->Hp->Prop),Inv X pins σ H s->RelV v u->t v σ H Q ->
  wpAny (model X.prog X.w) X.A (assign target X.env u) (λ_ s'=>∃σ' H',Inv X pins σ' H' s'/\Q σ' H') X.xe s
def PGs (X:Cx)(ts:List Expr)(t:TGs):Prop :=
 ∀(pins:List (Addr×Obj)) (s:Shared) (σ:St) (H:Hp) (vs:List V) (us:List Value) (Q:St->Hp->Prop),Inv X pins σ H s->Vals vs us->t vs σ H Q ->
  wpAny (model X.prog X.w) X.A (assignInOrder ((assignEach ts X.env).map (·.2)) us) (λ_ s'=>∃σ' H',Inv X pins σ' H' s'/\Q σ' H') X.xe s
abbrev Vq:=V->V->V->Hp->(Hp->Prop)->Prop
def ZJ (X:Cx)(t:Vq):Prop :=
 ∀(pins:List (Addr×Obj)) (s:Shared) (σ:St) (H:Hp) (o i v:V) (ov iv u:Value) (Q:Hp->Prop),Inv X pins σ H s->RelV o ov->RelV i iv->RelV v u->t o i v H Q ->
  wpAny (model X.prog X.w) X.A (setItem ov iv u) (λ_ s'=>∃H',Inv X pins σ H' s'/\Q H') X.xe s
section
variable{X:Cx}{pos:Pos}
def fj (i:Nat):TG:=λv σ H Q=>Q (σ.set i (some v)) H
theorem fV {i:Nat}{x:Str}(hN:X.N.Nodup)(hi:X.N[i]?=some x)(hx:Loc X.env.scope x)(hf:X.fn x=true\/X.env.scope.names.lookup x=some .local:=by first | exact .inl rfl | exact .inr rfl | assumption):PG X (.Name x pos) (fj i):=by
 intro pins s σ H v u Q I r h;exact wpAny_assign_Name (vp I hN hi hx r (λs' I'=>⟨_,H,I',h⟩) hf)
def ZK:TGs:=λvs σ H Q=>vs=[]/\Q σ H
def LZ (t:TG)(u:TGs):TGs:=λvs σ H Q=>∃v r,vs=v::r/\t v σ H λσ' H'=>u r σ' H' Q
theorem El:PGs X [] ZK:=by
 intro pins s σ H vs us Q I r h;obtain⟨e,h⟩:=h;subst e;cases r;exact assignInOrder_nil ⟨σ,H,I,h⟩
theorem j9 {e:Expr}{es:List Expr}{t:TG}{u:TGs}(h1:PG X e t)(h2:PGs X es u)
  (hs:(assignEach (e::es) X.env).map (·.2)=assign e X.env::(assignEach es X.env).map (·.2):=by rfl):PGs X (e::es) (LZ t u):=by
 intro pins s σ H vs us Q I r h;obtain⟨v,vr,e1,h⟩:=h;subst e1;cases r with
 |cons r rr =>
  rw[hs];refine assignInOrder_cons (thn (h1 pins s σ H _ _ _ I r h) λ_ s1 ⟨σ1,H1,I1,q1⟩=>?_)
  exact h2 pins s1 σ1 H1 _ _ Q I1 rr q1
def Vr (K:ba)(n:Nat)(t:TGs):TG:=λv σ H Q=>∃a xs,v=.ref a/\SqT K H a xs/\xs.length=n/\t xs σ H Q
theorem JD {es:List Expr}{k:Nat}{t:TGs}{n:Nat}(hc:X.calm=true)(h:PGs X es t)
  (hn:(assignEach es X.env).length=n:=by rfl) (hst:(assignEach es X.env).findIdx? (·.1)=none:=by rfl):PG X (.Tuple es k pos) (Vr X.K n t):=by
 intro pins s σ H v u Q I r hw;obtain⟨a,xs,e1,hq,hl,hw⟩:=hw;subst e1;cases r;obtain⟨its,rv,ht,hz⟩:=I.tuple hq;refine assign_Tuple_tuple (I.ok.hd hc) ht (by simp[hn,<-hl,rv.length]) hst λh' hx=>?_
 have I1:Inv X pins σ H { s with heap:=h' }:=I.kept (t':=s.toks) λb o e=>hx b o (ajK (om e)) e
 exact h pins _ σ H xs _ Q I1 (by simpa using rv) hw
def ahd (to ti:TE)(t:Vq):TG:=λv σ H Q=>to σ H λo H1=>ti σ H1 λi H2=>t o i v H2 λH3=>Q σ H3
theorem JE {o i:Expr}{to ti:TE}{t:Vq}(ho:PE X o to)(hi:PE X i ti)(hs:ZJ X t)
  (ha:∀v,assign (.Subscript o i pos) X.env v=(do
   let ov <-holding [v] (eval o X.env)
   let iv <-holding [v,ov] (eval i X.env)
   standAt pos
   holding [v,ov,iv] (setItem ov iv v)
   release [v,ov,iv] []):=by intro _;rfl):PG X (.Subscript o i pos) (ahd to ti t):=by
 intro pins s σ H v u Q I r h;rw[ha];refine eg (wpAny_holding (thn (ho pins s σ H _ I h) λov s1 ⟨x,H1,I1,r1,q1⟩=>?_))
 refine eg (wpAny_holding (thn (hi pins s1 σ H1 _ I1 q1) λiv s2 ⟨y,H2,I2,r2,q2⟩=>?_))
 refine eg (ako (eg (wpAny_holding (thn (hs pins s2 σ H2 x y v ov iv u _ I2 r1 r2 r q2) λ_ s3 ⟨H3,I3,q3⟩=>?_))))
 exact wpAny_release ⟨σ,H3,I3,q3⟩
def Vs (te:TE)(g:TG):TS:=λD σ H=>te σ H λx H1=>g x σ H1 D.nx
theorem AH {tg e:Expr}{te:TE}{g:TG}(he:PE X e te)(hg:PG X tg g)(hs:swapsWithSole [tg] e pos.line X.env=pure false:=by rfl)(hw:swappedStores [tg] e X.env=pure none:=by rfl)
  (h1:(assignEach [tg] X.env).map (·.2)=[assign tg X.env]:=by rfl):PS X (.Assign [tg] e pos) (Vs te g):=by
 intro pins s σ H D I h;refine wpAny_Assign_stores (thn (he pins s σ H _ I h) λv s1 ⟨x,H1,I1,r1,q1⟩=>?_) hs hw
 rw[h1];exact thn (hg pins s1 σ H1 x v _ I1 r1 q1) λ_ s2 q=>q
theorem a8 {i:Nat}{x:Str}{e:Expr}{te:TE}{pos':Pos}(hN:X.N.Nodup)(hi:X.N[i]?=some x)(hx:Loc X.env.scope x)(he:PE X e te)(hs:swapsWith e (some (.Name x pos')) pos.line X.env=pure false:=by rfl)(hf:X.fn x=true\/X.env.scope.names.lookup x=some .local:=by first | exact .inl rfl | exact .inr rfl | assumption) :
  PS X (.Assign [.Name x pos'] e pos) (Vs te (fj i)):=by
 intro pins s σ H D I h;refine wpAny_Assign_Name (thn (he pins s σ H _ I h) λv s1 ⟨y,H1,I1,r1,q1⟩=>?_) hs
 exact vp I1 hN hi hx r1 (λs2 I2=>⟨_,H1,I2,q1⟩) hf
end
structure It where
 go:Nat->Hp->Prop
 yld:Nat->Hp->V->Hp->Prop
 stop:Nat->Hp->Prop
def gB (X:Cx)(pins:List (Addr×Obj))(H:Hp)(b:Addr):Prop :=
 H b=none/\b≠X.env.locals/\b∉X.fs/\(b∈X.ex\/X.s₀.heap.objs.size<=b)/\(∀x c,X.env.cells.lookup x=some c->c≠b)/\∀p∈X.pn++pins,p.1≠b
theorem Inv.AI {X:Cx}{pins:List (Addr×Obj)}{σ:St}{H H':Hp}{s:Shared}{b:Addr}(I:Inv X pins σ H s)(hb:s.heap.objs.size<=b)(hn:H' b=none):gB X pins H' b:=by
 refine⟨hn,Nat.ne_of_gt (ajI I.lt hb),I.ag4 hb,.inr (tm I.sz hb),λx c e z=>?_,λp hp z=>?_⟩
 ·obtain⟨v,q⟩:=I.cell x c e;exact absurd (ajI q.lt (by rw[z];exact hb)) (ak2 _)
 ·exact absurd (ajI (om (I.pin p hp).1) (by rw[z];exact hb)) (ak2 _)
structure Turn (P:me)(w:World)(K:ba)(tg:Expr)(J:It)(fp:List Addr)(it:Addr)(tn:Nat->Heap->Prop):Prop where
 mem:it∈fp
 obj:∀i h,tn i h->∀b∈fp,∃o,h.get? b=some o/\∀v,o.data≠.cell v
 keep:∀i h h',tn i h->(∀b∈fp,∀o,h.get? b=some o->h'.get? b=some o)->tn i h'
 item:∀(X:Cx),X.prog=P->X.w=w->X.K=K->X.calm=true->∀(i:Nat) (pins:List (Addr×Obj)) (s:Shared) (σ:St) (H:Hp) (E:Value->Shared->Prop),Inv X pins σ H s->(∀b∈fp,gB X pins H b)->tn i s.heap->J.go i H ->
  wpAny (model P w) X.A (pyNext (.ref it)) (λr s1=>∃u,r=some u /\
   wpAny (model P w) X.A (letOwnedTupleGo tg (.ref it) u) (λ_ s2=>∃x H',Inv X pins σ H' s2/\RelV x u/\J.yld i H x H'/\tn (i+1) s2.heap/\∀b∈fp,H' b=none) E s1) E s
 done:∀(X:Cx),X.prog=P->X.w=w->X.K=K->X.calm=true->∀(i:Nat) (pins:List (Addr×Obj)) (s:Shared) (σ:St) (H:Hp) (E:Value->Shared->Prop),Inv X pins σ H s->(∀b∈fp,gB X pins H b)->tn i s.heap->J.stop i H ->
  wpAny (model P w) X.A (pyNext (.ref it)) (λr s1=>r=none/\Inv X pins σ H s1) E s
 self:∀(A:Around) (i:Nat) (s:Shared) (Q:Value->Shared->Prop) (E:Value->Shared->Prop),tn i s.heap->Q (.ref it) s->wpAny (model P w) A (pyIter (.ref it)) Q E s
abbrev TI:=St->Hp->(It->Hp->Prop)->Prop
def PIE (X:Cx)(pins:List (Addr×Obj))(σ:St)(tg:Expr)(R:It->Hp->Prop)(itv:Value)(s2:Shared):Prop :=
 ∃(it:Addr) (fp:List Addr) (tn:Nat->Heap->Prop) (J:It) (H':Hp),itv=.ref it/\Inv X pins σ H' s2/\Turn X.prog X.w X.K tg J fp it tn/\tn 0 s2.heap/\(∀b∈fp,gB X pins H' b)/\R J H'
def PI (X:Cx)(tg iter:Expr)(wi:TI):Prop :=
 ∀(pins:List (Addr×Obj)) (s:Shared) (σ:St) (H:Hp) (R:It->Hp->Prop),Inv X pins σ H s->wi σ H R ->
  wpAny (model X.prog X.w) X.A (eval iter X.env) (λv s1=>wpAny (model X.prog X.w) X.A (pyIter v) (PIE X pins σ tg R) X.xe s1) X.xe s
theorem Oy {M:Model}{A:Around}{E:Value->Shared->Prop}{s:Shared}{tg:Expr}{it:Addr}{u:Value}{o:Obj}{n:String}{vs:Array Value}{Q:Unit->Shared->Prop}(ho:s.heap.get? it=some o)(hc:o.cls=.type n)(hd:o.data=.fields vs)
    (hn:["enumerate","zip","dict_itemiterator","dict_reverseitemiterator","odict_iterator","itertools.zip_longest","itertools.pairwise"].contains n=false) (hQ:Q () s):wpAny M A (letOwnedTupleGo tg (.ref it) u) Q E s:=by
  unfold letOwnedTupleGo
  cases tg <;> first
    |exact si hQ
    | (cases u <;> first
        |exact si hQ
        | (refine eg (wpAny_load ho ?_)
           rw[hc,hd]
           show wpAny M A (if (["enumerate","zip","dict_itemiterator","dict_reverseitemiterator","odict_iterator","itertools.zip_longest","itertools.pairwise"].contains n && vs[0]? == some (rawInt _))=true then _ else _) Q E s
           rw[if_neg (by intro h;rw[hn,Bool.false_and]at h;cases h)]
           exact si hQ))
def Itl (K:ba)(a:Addr):It :=
 ⟨λi H=>∃xs x,SqL K H a xs/\xs[i]?=some x,λi H x H'=>H'=H/\∀xs,SqL K H a xs->xs[i]?=some x,λi H=>∃xs,SqL K H a xs/\xs.length<=i⟩
def Itt (K:ba)(a:Addr):It :=
 ⟨λi H=>∃xs x,SqT K H a xs/\xs[i]?=some x,λi H x H'=>H'=H/\∀xs,SqT K H a xs->xs[i]?=some x,λi H=>∃xs,SqT K H a xs/\xs.length<=i⟩
def Itr (lo:Int)(n:Nat):It:=⟨λi _=>i < n,λi H x H'=>H'=H/\x=.int (lo+i),λi _=>n<=i⟩
theorem MX {P:me}{w:World}{K:ba}{tg:Expr}(a it:Addr):Turn P w K tg (Itl K a) [it] it (λi h=>h.IsListIter it a i) where
 mem:=by simp
 obj:=λi h st b hb=>by
  have e:b=it:=by simpa using hb
  subst e;obtain⟨o,e,c,d⟩:=st;exact⟨o,e,λv z=>by rw[d]at z;cases z⟩
 keep:=λi h h' st k=>st.at λo e=>k it (by simp) o e
 item:=by
  intro X hP hw hK hc i pins s σ H E I hf st hg;subst hP hw hK;obtain⟨xs,x,hq,hx⟩:=hg;obtain⟨its,rv,p,hz⟩:=I.list hq;obtain⟨u,hu,ru⟩:=rv.get hx;obtain⟨f0,f1,f2,f3,f4,f5⟩:=hf it (by simp)
  refine wpAny_pyNext_list_item st p.isList (x:=u) (by simpa using hu) λh' st' sb=>?_
  have I1:Inv X pins σ H { s with heap:=h' }:=I.turned (t':=s.toks) (λb o hb e=>(sb.2 b hb).trans e) f0 f1 f3 f4 f5
  obtain⟨o,e,c,d⟩:=id st';exact⟨u,rfl,Oy (s:={ s with heap:=h' }) e c d (by decide) ⟨x,H,I1,ru,⟨rfl,λys hy=>by rw[I.Ox hy hq];exact hx⟩,st',λb hb=>(hf b hb).1⟩⟩
 done:=by
  intro X hP hw hK hc i pins s σ H E I hf st hg;subst hP hw hK;obtain⟨xs,hq,hx⟩:=hg;obtain⟨its,rv,p,hz⟩:=I.list hq;obtain⟨f0,f1,f2,f3,f4,f5⟩:=hf it (by simp)
  have hl:=rv.length;exact wpAny_pyNext_list_end (I.ok.hd hc) st p.isList (by simp;omega) λh' eb=>⟨rfl,I.turned (t':=s.toks) (λb o hb e=>eb b o hb e) f0 f1 f3 f4 f5⟩
 self:=λ_ _ _ _ _ st h=>wpAny_pyIter_listiter st h
theorem JF {P:me}{w:World}{K:ba}{tg:Expr}(a it:Addr):Turn P w K tg (Itt K a) [it] it (λi h=>h.IsTupleIter it a i) where
 mem:=by simp
 obj:=λi h st b hb=>by
  have e:b=it:=by simpa using hb
  subst e;obtain⟨o,e,c,d⟩:=st;exact⟨o,e,λv z=>by rw[d]at z;cases z⟩
 keep:=λi h h' st k=>st.at λo e=>k it (by simp) o e
 item:=by
  intro X hP hw hK hc i pins s σ H E I hf st hg;subst hP hw hK;obtain⟨xs,x,hq,hx⟩:=hg;obtain⟨its,rv,p,hz⟩:=I.tuple hq;obtain⟨u,hu,ru⟩:=rv.get hx;obtain⟨f0,f1,f2,f3,f4,f5⟩:=hf it (by simp)
  refine wpAny_pyNext_tuple_item st (show s.heap.IsTuple a its.toArray from p) (x:=u) (by simpa using hu) λh' st' sb=>?_
  have I1:Inv X pins σ H { s with heap:=h' }:=I.turned (t':=s.toks) (λb o hb e=>(sb.2 b hb).trans e) f0 f1 f3 f4 f5
  obtain⟨o,e,c,d⟩:=id st';exact⟨u,rfl,Oy (s:={ s with heap:=h' }) e c d (by decide) ⟨x,H,I1,ru,⟨rfl,λys hy=>by rw[I.MW hy hq];exact hx⟩,st',λb hb=>(hf b hb).1⟩⟩
 done:=by
  intro X hP hw hK hc i pins s σ H E I hf st hg;subst hP hw hK;obtain⟨xs,hq,hx⟩:=hg;obtain⟨its,rv,p,hz⟩:=I.tuple hq;obtain⟨f0,f1,f2,f3,f4,f5⟩:=hf it (by simp)
  have hl:=rv.length;exact wpAny_pyNext_tuple_end (I.ok.hd hc) st (show s.heap.IsTuple a its.toArray from p) (by simp;omega) λh' eb=>⟨rfl,I.turned (t':=s.toks) (λb o hb e=>eb b o hb e) f0 f1 f3 f4 f5⟩
 self:=λ_ _ _ _ _ st h=>wpAny_pyIter_tupleiter st h
theorem JG {P:me}{w:World}{K:ba}{tg:Expr}(it:Addr)(lo:Int)(n:Nat):Turn P w K tg (Itr lo n) [it] it (λi h=>IsRangeIter h it (lo+(i:Nat) * 1) ((n:Int) - (i:Nat)) 1) where
 mem:=by simp
 obj:=λi h st b hb=>by
  have e:b=it:=by simpa using hb
  subst e;exact⟨_,st,λv z=>by
   have z':Data.fields _=Data.cell v:=z;cases z'⟩
 keep:=λi h h' st k=>k it (by simp) _ st
 item:=by
  intro X hP hw hK hc i pins s σ H E I hf st hg;subst hP hw hK;obtain⟨f0,f1,f2,f3,f4,f5⟩:=hf it (by simp)
  have W:=Walks.range (prog:=X.prog) (w:=X.w) (I.ok.hd hc) it lo 1 n;refine W.item i s _ _ hg st λv h' tk hv st' kk=>?_
  obtain⟨t,rfl⟩:=hv;have I1:Inv X pins σ H { s with heap:=h',toks:=tk }:=I.turned (λb o hb e=>kk b o (by simpa using hb) e) f0 f1 f3 f4 f5
  refine⟨_,rfl,Oy (s:={ s with heap:=h',toks:=tk }) (n:="range_iterator") st' rfl rfl (by decide) ⟨.int (lo+i),H,I1,⟨t,?_⟩,⟨rfl,rfl⟩,st',λb hb=>(hf b hb).1⟩⟩
  rw[Int.mul_one]
 done:=by
  intro X hP hw hK hc i pins s σ H E I hf st hg;subst hP hw hK;obtain⟨f0,f1,f2,f3,f4,f5⟩:=hf it (by simp)
  exact wpAny_pyNext_range_end (I.ok.hd hc) st (by have:n<=i:=hg;omega) λh' eb=>⟨rfl,I.turned (t':=s.toks) (λb o hb e=>eb b o hb e) f0 f1 f3 f4 f5⟩
 self:=λ_ _ _ _ _ st h=>wpAny_pyIter_rangeiter st h
end L2
namespace L2
open PySem PySem.Spec PyProof.Rows
section
variable{X:Cx}{tg:Expr}
def ZL (K:ba)(tl:TE):TI:=λσ H R=>tl σ H λx H1=>∃a,x=.ref a/\(∃xs,SqL K H1 a xs)/\R (Itl K a) H1
def ahe (K:ba)(tl:TE):TI:=λσ H R=>tl σ H λx H1=>∃a,x=.ref a/\(∃xs,SqT K H1 a xs)/\R (Itt K a) H1
theorem ll {l:Expr}{tl:TE}(hl:PE X l tl):PI X tg l (ZL X.K tl):=by
 intro pins s σ H R I h;refine thn (hl pins s σ H _ I h) λv s1 ⟨x,H1,I1,r1,q1⟩=>?_
 obtain⟨a,e,⟨xs,hq⟩,q⟩:=q1;subst e;cases r1;obtain⟨its,rv,p,hz⟩:=I1.list hq;refine wpAny_pyIter_list p.isList ?_;refine⟨s1.heap.objs.size,[s1.heap.objs.size],_,_,H1,rfl,I1.kept (t':=s1.toks) λb o e=>gr _ e,MX a _,⟨_,ajM _ rfl,rfl,rfl⟩,λb hb=>?_,q⟩
 have e:b=s1.heap.objs.size:=by simpa using hb
 subst e;exact I1.AI (kq _) (I1.hok.fresh (kq _))
theorem Vt {l:Expr}{tl:TE}(hl:PE X l tl):PI X tg l (ahe X.K tl):=by
 intro pins s σ H R I h;refine thn (hl pins s σ H _ I h) λv s1 ⟨x,H1,I1,r1,q1⟩=>?_
 obtain⟨a,e,⟨xs,hq⟩,q⟩:=q1;subst e;cases r1;obtain⟨its,rv,p,hz⟩:=I1.tuple hq;refine wpAny_pyIter_tuple (show s1.heap.IsTuple a its.toArray from p) ?_
 refine⟨s1.heap.objs.size,[s1.heap.objs.size],_,_,H1,rfl,I1.kept (t':=s1.toks) λb o e=>gr _ e,JF a _,⟨_,ajM _ rfl,rfl,rfl⟩,λb hb=>?_,q⟩
 have e:b=s1.heap.objs.size:=by simpa using hb
 subst e;exact I1.AI (kq _) (I1.hok.fresh (kq _))
theorem Oz {pins:List (Addr×Obj)}{σ:St}{H:Hp}{s:Shared}{R:It->Hp->Prop}{E:Value->Shared->Prop}{lo hi:Int}{t u v:Tok}{tk:Nat}(I:Inv X pins σ H s)(h1:-(2 ^ 62)<=lo)(h2:lo < 2 ^ 62)(h3:-(2 ^ 62)<=hi)(h4:hi < 2 ^ 62)
  (q:R (Itr lo (hi - lo).toNat) H):wpAny (model X.prog X.w) X.A (pyIter (.ref s.heap.objs.size)) (PIE X pins σ tg R) E { s with heap:=s.heap.push { cls:=.type "range",data:=.fields #[.int lo t,.int hi u,.int 1 v] },toks:=tk }:=by
 refine wpAny_pyIter_range (IsRange.new ..) (small_one h1 h2 h3 h4) ?_;have I1:Inv X pins σ H { s with heap:=s.heap.push { cls:=.type "range",data:=.fields #[.int lo t,.int hi u,.int 1 v] },toks:=tk }:=I.kept λb o e=>gr _ e
 refine⟨(s.heap.push { cls:=.type "range",data:=.fields #[.int lo t,.int hi u,.int 1 v] }).objs.size,[(s.heap.push { cls:=.type "range",data:=.fields #[.int lo t,.int hi u,.int 1 v] }).objs.size],_,_,H,rfl,
  I1.kept (t':=tk) λb o e=>gr _ e,JG _ lo (hi - lo).toNat,?_,λb hb=>?_,q⟩
 ·have e1:lo+((0:Nat):Int) * 1=lo:=by simp
  have e2:(((hi - lo).toNat:Nat):Int) - ((0:Nat):Int)=Builtin.Range.rangeSize lo hi 1:=by rw[rangeSize_one];split <;> omega
  show IsRangeIter _ _ (lo+((0:Nat):Int) * 1) ((((hi - lo).toNat:Nat):Int) - ((0:Nat):Int)) 1;rw[e1,e2];exact ajM _ rfl
 ·have e:b=(s.heap.push { cls:=.type "range",data:=.fields #[.int lo t,.int hi u,.int 1 v] }).objs.size:=by simpa using hb
  subst e;exact I1.AI (kq _) (I1.hok.fresh (kq _))
def ZM (ta:TA):TI:=λσ H R=>ta σ H λvs H1=>∃j:Int,vs=[.int j]/\-(2 ^ 62)<=j/\j < 2 ^ 62/\R (Itr 0 j.toNat) H1
theorem xo {a:Expr}{ta:TA}{p pos:Pos}(hg:Gl X "range")(hm:X.mg "range"=none)(ha:PA X [a] ta)(hs:Lk [a] X.env=[(false,eval a X.env)]:=by rfl):PI X tg (.Call (.Name "range" p) [a] [] pos) (ZM ta):=by
 intro pins s σ H R I h;refine Call_ (JB I hg hm boot_range (PyProof.Rows.callWith_type1 (thn (ha pos pins s σ H _ I h) λus s1 ⟨vs,H1,I1,r1,q1⟩=>?_) hs rfl))
 obtain⟨j,e,q1,q2,q⟩:=q1;subst e;cases r1 with
 |cons r rr =>
  cases rr;obtain⟨t,rfl⟩:=r;exact call_range_1 (Oz I1 (by omega) (by omega) q1 q2 (by simpa using q))
def ahf (wi:TI)(g:TG)(tb:TS):TS:=λD σ H=>wi σ H λJ H1=>∃W:Nat->Nat->St->Hp->Prop,(∃m,W 0 m σ H1)/\∀i m σ H,W i m σ H ->
 (J.stop i H/\D.nx σ H)\/(J.go i H/\∃N:St->Hp->Prop,(∀σ' H',N σ' H'->∃m',m' < m/\W (i+1) m' σ' H')/\∀x H',J.yld i H x H'->g x σ H' λσ2 H2=>tb { D with nx:=N,ct:=N,bk:=D.nx } σ2 H2)
def Em (fp:List Addr)(h:Heap):List (Addr×Obj):=fp.filterMap λb=>(h.get? b).map λo=>(b,o)
theorem jo {fp:List Addr}{h:Heap}{b:Addr}{o:Obj}(hb:b∈fp)(e:h.get? b=some o):(b,o)∈Em fp h:=List.mem_filterMap.mpr ⟨b,hb,by rw[e];rfl⟩
theorem MY {fp:List Addr}{h:Heap}{p:Addr×Obj}(hp:p∈Em fp h):p.1∈fp/\h.get? p.1=some p.2:=by
 obtain⟨b,hb,e⟩:=List.mem_filterMap.mp hp;cases q:h.get? b with
 |none=>rw[q]at e;cases e
 |some o =>
  rw[q]at e;have e':(b,o)=p:=ajJ e;subst e';exact⟨hb,q⟩
theorem Inv.pinned {pins:List (Addr×Obj)}{σ:St}{H:Hp}{s:Shared}{fp:List Addr}(I:Inv X pins σ H s)(hf:∀b∈fp,gB X pins H b)(ho:∀b∈fp,∃o,s.heap.get? b=some o/\∀v,o.data≠.cell v):Inv X (pins++Em fp s.heap) σ H s :=
 I.Ak λp hp=>(List.mem_append.mp hp).elim (λz=>I.pin p (ki _ z)) λz=>by
  obtain⟨hb,e⟩:=MY z;obtain⟨f0,f1,f2,_⟩:=hf p.1 hb;obtain⟨o,e',d⟩:=ho p.1 hb;rw[e]at e';cases e';exact⟨e,f0,f1,f2,d⟩
theorem Inv.gY {pins pl:List (Addr×Obj)}{σ:St}{H:Hp}{s:Shared}(I:Inv X (pins++pl) σ H s):Inv X pins σ H s:=I.Ak λp hp=>I.pin p (ki _ (akb _ hp))
theorem xq {iter:Expr}{body:List Stmt}{wi:TI}{g:TG}{tb:TS}{pos:Pos}(hp:PassesOwn (model X.prog X.w) X.A X.env X.xe)(hc:X.calm=true)(hi:PI X tg iter wi)(hg:PG X tg g)(hb:PSs X body tb)
  (hs:∀x,foldedSetIterable iter X.env x=pure x:=by intro _;rfl):PS X (.For tg iter body [] pos) (ahf wi g tb):=by
 intro pins s σ H D I h;refine wpAny_For (thn (hi pins s σ H _ I h) λv s1 h1=>thn h1 λitv s2 h2=>?_) hs
 obtain⟨it,fp,tn,J,H2,e,I2,T,st2,f2,W,⟨m0,w0⟩,turn⟩:=h2;subst e;have stat:∀ {H':Hp},(∀b∈fp,H' b=none)->∀b∈fp,gB X pins H' b:=λhn b hb=>⟨hn b hb,(f2 b hb).2⟩
 refine codeAny_forLoop_any (λn s'=>∃i σ' H',Inv X pins σ' H' s'/\tn i s'.heap/\(∀b∈fp,H' b=none)/\W i n σ' H') ?_ m0 ⟨0,σ,H2,I2,st2,λb hb=>(f2 b hb).1,w0⟩
 rintro n s3 ⟨i,σ3,H3,I3,st3,fr3,w3⟩;rcases turn i n σ3 H3 w3 with ⟨stop,qn⟩ | ⟨go,N,hN,step⟩
 ·refine wpAny_passesOwn hp (thn (T.done X rfl rfl rfl hc i pins s3 σ3 H3 X.xe I3 (stat fr3) st3 stop) λr s4 ⟨hr,I4⟩=>?_)
  subst hr;exact wpAny_execs_nil ⟨σ3,H3,I4,qn⟩
 ·refine wpAny_passesOwn hp (thn (T.item X rfl rfl rfl hc i pins s3 σ3 H3 X.xe I3 (stat fr3) st3 go) λr s4 ⟨u,hr,h4⟩=>?_)
  subst hr;refine wpAny_passesOwn hp (thn h4 λ_ s5 ⟨x,H5,I5,r5,y5,st5,fr5⟩=>?_)
  have I5':=I5.pinned (stat fr5) (T.obj _ _ st5);refine wpAny_passesOwn hp (thn (hg _ s5 σ3 H5 x u _ I5' r5 (step x H5 y5)) λ_ s6 ⟨σ6,H6,I6,q6⟩=>?_)
  refine wpAny_passesOwn hp (thn (hb _ s6 σ6 H6 _ I6 q6) λf s7 q7=>?_)
  have again:∀ {σ7:St} {H7:Hp},Inv X (pins++Em fp s5.heap) σ7 H7 s7->N σ7 H7->∃m,m < n/\∃i σ' H',Inv X pins σ' H' s7/\tn i s7.heap/\(∀b∈fp,H' b=none)/\W i m σ' H':=λ{σ7 H7} I7 n7=>by
   obtain⟨m',hm,w7⟩:=hN σ7 H7 n7;refine⟨m',hm,i+1,σ7,H7,I7.gY,T.keep _ _ _ st5 λb hb o e=>(I7.pin (b,o) (ki _ (ki _ (jo hb e)))).1,λb hb=>?_,w7⟩
   obtain⟨o,e,d⟩:=T.obj _ _ st5 b hb;exact(I7.pin (b,o) (ki _ (ki _ (jo hb e)))).2.1
  cases f with
  |next=>obtain⟨σ7,H7,I7,n7⟩:=q7;exact again I7 n7
  |cont=>obtain⟨σ7,H7,I7,n7⟩:=q7;exact again I7 n7
  |brk=>obtain⟨σ7,H7,I7,q7⟩:=q7;exact⟨σ7,H7,I7.gY,q7⟩
  |ret v=>obtain⟨x7,σ7,H7,I7,r7,q7⟩:=q7;exact⟨x7,σ7,H7,I7.gY,r7,q7⟩
end
theorem vq {K:ba}{a:Addr}{xs:List V}{g:TG}{tb:TS}{D:Ends}{σ:St}{H:Hp}(Pv:Nat->St->Hp->Prop)(h0:Pv 0 σ H)(hl:∀i σ H,i<=xs.length->Pv i σ H->SqL K H a xs)
  (hs:∀i x σ H,xs[i]?=some x->Pv i σ H->g x σ H λσ2 H2=>tb { D with nx:=Pv (i+1),ct:=Pv (i+1),bk:=D.nx } σ2 H2) (hd:∀σ H,Pv xs.length σ H->D.nx σ H) :
  ∃W:Nat->Nat->St->Hp->Prop,(∃m,W 0 m σ H)/\∀i m σ H,W i m σ H ->
   ((Itl K a).stop i H/\D.nx σ H)\/((Itl K a).go i H/\∃N:St->Hp->Prop,(∀σ' H',N σ' H'->∃m',m' < m/\W (i+1) m' σ' H')/\∀x H',(Itl K a).yld i H x H'->g x σ H' λσ2 H2=>tb { D with nx:=N,ct:=N,bk:=D.nx } σ2 H2):=by
 refine⟨λi m σ H=>m=xs.length - i/\i<=xs.length/\Pv i σ H,⟨xs.length,by simp,akl _,h0⟩,?_⟩
 rintro i m σ H ⟨rfl,hi,p⟩;have q:=hl i σ H hi p
 by_cases hlt:i < xs.length
 ·refine .inr ⟨⟨xs,xs[i],q,by simp[hlt]⟩,Pv (i+1),λσ' H' p'=>⟨xs.length - (i+1),by omega,rfl,hlt,p'⟩,λx H' y=>?_⟩
  obtain⟨e,y⟩:=y;subst e;exact hs i x σ _ (y xs q) p
 ·have e:i=xs.length:=by omega
  subst e;exact .inl ⟨⟨xs,q,kq _⟩,hd σ H p⟩
theorem C7 {lo:Int}{n:Nat}{g:TG}{tb:TS}{D:Ends}{σ:St}{H:Hp}(Pv:Nat->St->Hp->Prop)(h0:Pv 0 σ H)
  (hs:∀i σ H,i < n->Pv i σ H->g (.int (lo+i)) σ H λσ2 H2=>tb { D with nx:=Pv (i+1),ct:=Pv (i+1),bk:=D.nx } σ2 H2) (hd:∀σ H,Pv n σ H->D.nx σ H) :
  ∃W:Nat->Nat->St->Hp->Prop,(∃m,W 0 m σ H)/\∀i m σ H,W i m σ H ->
   ((Itr lo n).stop i H/\D.nx σ H)\/((Itr lo n).go i H/\∃N:St->Hp->Prop,(∀σ' H',N σ' H'->∃m',m' < m/\W (i+1) m' σ' H')/\∀x H',(Itr lo n).yld i H x H'->g x σ H' λσ2 H2=>tb { D with nx:=N,ct:=N,bk:=D.nx } σ2 H2):=by
 refine⟨λi m σ H=>m=n - i/\i<=n/\Pv i σ H,⟨n,by simp,akl _,h0⟩,?_⟩
 rintro i m σ H ⟨rfl,hi,p⟩
 by_cases hlt:i < n
 ·refine .inr ⟨hlt,Pv (i+1),λσ' H' p'=>⟨n - (i+1),by omega,rfl,hlt,p'⟩,λx H' y=>?_⟩
  obtain⟨e,y⟩:=y;subst e y;exact hs i σ _ hlt p
 ·have e:i=n:=by omega
  subst e;exact .inl ⟨kq _,hd σ H p⟩
end L2
namespace L2
open PySem PySem.Spec PyProof.Rows
abbrev R2:=V->V->Hp->VK->Prop
def OpR (X:Cx)(f:Value->Value->Sem Value)(r:R2):Prop :=
 ∀(pins:List (Addr×Obj)) (s:Shared) (σ:St) (H:Hp) (x y:V) (v u:Value) (Q:VK),Inv X pins σ H s->RelV x v->RelV y u->r x y H Q ->
  wpAny (model X.prog X.w) X.A (f v u) (EP X pins σ Q) X.xe s
def UnR (X:Cx)(f:Value->Sem Value)(r:V->Hp->VK->Prop):Prop :=
 ∀(pins:List (Addr×Obj)) (s:Shared) (σ:St) (H:Hp) (x:V) (v:Value) (Q:VK),Inv X pins σ H s->RelV x v->r x H Q ->
  wpAny (model X.prog X.w) X.A (f v) (EP X pins σ Q) X.xe s
def lY (X:Cx)(f:Value)(r:List V->Hp->VK->Prop):Prop :=
 ∀(pins:List (Addr×Obj)) (s:Shared) (σ:St) (H:Hp) (xs:List V) (us:List Value) (Q:VK),Inv X pins σ H s->Vals xs us->r xs H Q ->
  wpAny (model X.prog X.w) X.A (call f us) (EP X pins σ Q) X.xe s
def ahg (X:Cx)(r:V->Hp->(Bool->Hp->Prop)->Prop):Prop :=
 ∀(pins:List (Addr×Obj)) (s:Shared) (σ:St) (H:Hp) (x:V) (v:Value) (Q:Bool->Hp->Prop),Inv X pins σ H s->RelV x v->r x H Q ->
  wpAny (model X.prog X.w) X.A (truthy v) (TP X pins σ Q) X.xe s
def tOp (r:R2)(ta tb:TE):TE:=λσ H Q=>ta σ H λx H1=>tb σ H1 λy H2=>r x y H2 Q
def tUn (r:V->Hp->VK->Prop)(ta:TE):TE:=λσ H Q=>ta σ H λx H1=>r x H1 Q
def rI (C:Int->Int->Prop)(g:Int->Int->V):R2:=λx y H Q=>∃i j,x=.int i/\y=.int j/\C i j/\Q (g i j) H
def rI0 (g:Int->Int->V):R2:=λx y H Q=>∃i j,x=.int i/\y=.int j/\Q (g i j) H
def rU (g:Int->V):V->Hp->VK->Prop:=λx H Q=>∃i,x=.int i/\Q (g i) H
section
variable{X:Cx}{a b c:Expr}{ta tb tc:TE}{pos:Pos}
theorem Vu (ha:PE X a ta)(hb:PE X b tb){pins:List (Addr×Obj)}{s:Shared}{σ:St}{H:Hp}{R:V->V->Hp->Prop}(I:Inv X pins σ H s)
  (h:ta σ H λx H1=>tb σ H1 λy H2=>R x y H2) {Q:Value->Shared->Prop} {f:Value->Value->Sem Value}
  (hf:∀v u s2 x y H2,Inv X pins σ H2 s2->RelV x v->RelV y u->R x y H2->wpAny (model X.prog X.w) X.A (f v u) Q X.xe s2) :
  wpAny (model X.prog X.w) X.A (eval a X.env) (λv s₁=>wpAny (model X.prog X.w) X.A (eval b X.env) (λu s₂=>wpAny (model X.prog X.w) X.A (f v u) Q X.xe s₂) X.xe s₁) X.xe s:=by
 refine thn (ha pins s σ H _ I h) λv s1 ⟨x,H1,I1,r1,q1⟩=>?_
 refine thn (hb pins s1 σ H1 _ I1 q1) λu s2 ⟨y,H2,I2,r2,q2⟩=>?_
 exact hf v u s2 x y H2 I2 r1 r2 q2
theorem a6 {op:Operator}{r:R2}(ho:OpR X (binaryOp op) r)(ha:PE X a ta)(hb:PE X b tb):PE X (.BinOp a op b pos) (tOp r ta tb):=by
 intro pins s σ H Q I h;exact wpAny_BinOp (Vu ha hb I h λv u s2 x y H2 I2 rx ry q=>ho pins s2 σ H2 x y v u Q I2 rx ry q)
theorem oF {op:UnaryOp}{r:V->Hp->VK->Prop}(ho:UnR X (unaryOp op) r)(ha:PE X a ta):PE X (.UnaryOp op a pos) (tUn r ta):=by
 intro pins s σ H Q I h;exact UnaryOp_ (thn (ha pins s σ H _ I h) λv s1 ⟨x,H1,I1,r1,q1⟩=>ho pins s1 σ H1 x v Q I1 r1 q1)
theorem opI {f:Value->Value->Sem Value}{C:Int->Int->Prop}{g:Int->Int->Int}
  (rule:∀(i j:Int) (t u:Tok) (s:Shared) (Q:Value->Shared->Prop) (E:Value->Shared->Prop),C i j->Q (.int (g i j) s.toks) { s with toks:=s.toks+1 }->wpAny (model X.prog X.w) X.A (f (.int i t) (.int j u)) Q E s) :
  OpR X f (rI C λi j=>.int (g i j)):=by
 intro pins s σ H x y v u Q I rx ry h;obtain⟨i,j,rfl,rfl,hc,q⟩:=h;obtain⟨t,rfl⟩:=rx;obtain⟨t',rfl⟩:=ry;exact rule i j t t' s _ _ hc ⟨.int (g i j),H,I.tok _,⟨_,rfl⟩,q⟩
theorem ZN {f:Value->Value->Sem Value}{g:Int->Int->Int}
  (rule:∀(i j:Int) (t u:Tok) (s:Shared) (Q:Value->Shared->Prop) (E:Value->Shared->Prop),Q (.int (g i j) s.toks) { s with toks:=s.toks+1 }->wpAny (model X.prog X.w) X.A (f (.int i t) (.int j u)) Q E s) :
  OpR X f (rI0 λi j=>.int (g i j)):=by
 intro pins s σ H x y v u Q I rx ry h;obtain⟨i,j,rfl,rfl,q⟩:=h;obtain⟨t,rfl⟩:=rx;obtain⟨t',rfl⟩:=ry;exact rule i j t t' s _ _ ⟨.int (g i j),H,I.tok _,⟨_,rfl⟩,q⟩
theorem RE {f:Value->Value->Sem Value}{g:Int->Int->Bool}
  (rule:∀(i j:Int) (t u:Tok) (s:Shared) (Q:Value->Shared->Prop) (E:Value->Shared->Prop),Q (.bool (g i j)) s->wpAny (model X.prog X.w) X.A (f (.int i t) (.int j u)) Q E s) :
  OpR X f (rI0 λi j=>.bl (g i j)):=by
 intro pins s σ H x y v u Q I rx ry h;obtain⟨i,j,rfl,rfl,q⟩:=h;obtain⟨t,rfl⟩:=rx;obtain⟨t',rfl⟩:=ry;exact rule i j t t' s _ _ ⟨.bl (g i j),H,I,rfl,q⟩
def ahh (i j:Int):Prop:=0 < j/\j < 1073741824
def ahi (i j:Int):Prop:=0<=j/\j<=1000000/\i.natAbs < 2 ^ 64
def Vv (i j:Int):Prop:=(-(2 ^ 64) < i/\i < 2 ^ 64)\/(-(2 ^ 64) < j/\j < 2 ^ 64)
theorem Vv.ok {i j:Int}(h:Vv i j):IntMulOk i j:=by
 rcases h with ⟨h1,h2⟩ | ⟨h1,h2⟩
 ·exact .of_left (intBits_le_64 h1 h2)
 ·exact .of_right (intBits_le_64 h1 h2)
theorem d6:OpR X (binaryOp .Add) (rI0 λi j=>.int (i+j)):=ZN λ_ _ _ _ _ _ _ q=>add_int q
theorem nO:OpR X (binaryOp .Sub) (rI0 λi j=>.int (i - j)):=ZN λ_ _ _ _ _ _ _ q=>sub_int q
theorem xr:OpR X (binaryOp .Mult) (rI Vv λi j=>.int (i * j)):=opI λ_ _ _ _ _ _ _ hc q=>mul_int q hc.ok
theorem dg:OpR X (binaryOp .FloorDiv) (rI ahh λi j=>.int (i / j)):=opI λi j _ _ _ _ _ hc q=>by
 have h1:(0:Int) < j:=hc.1;have h2:j < 1073741824:=hc.2;exact floordiv_int (by omega) (by rw[Int.fdiv_eq_ediv_of_nonneg i (by omega)];exact q) (.inl (PyProof.noPylong_small (by omega)))
theorem cy:OpR X (binaryOp .Mod) (rI (λ_ j=>0 < j) λi j=>.int (i % j)):=opI λi j _ _ _ _ _ hc q=>by
 have h1:(0:Int) < j:=hc;exact mod_int' (by omega) (by rw[Int.fmod_eq_emod_of_nonneg i (by omega)];exact q)
theorem Vw:OpR X (binaryOp .Pow) (rI ahi λi j=>.int (i ^ j.toNat)):=opI λ_ _ _ _ _ _ _ hc q=>pow_int_small hc.1 hc.2.1 hc.2.2 q
theorem unI {f:Value->Sem Value}{g:Int->Int}
  (rule:∀(i:Int) (t:Tok) (s:Shared) (Q:Value->Shared->Prop) (E:Value->Shared->Prop),Q (.int (g i) s.toks) { s with toks:=s.toks+1 }->wpAny (model X.prog X.w) X.A (f (.int i t)) Q E s) :
  UnR X f (rU λi=>.int (g i)):=by
 intro pins s σ H x v Q I rx h;obtain⟨i,rfl,q⟩:=h;obtain⟨t,rfl⟩:=rx;exact rule i t s _ _ ⟨.int (g i),H,I.tok _,⟨_,rfl⟩,q⟩
theorem jq:UnR X (unaryOp .USub) (rU λi=>.int (-i)):=unI λ_ _ _ _ _ q=>neg_int q
end
def ZO:V->V->Bool
 | .non,.non=>true | .non,.int _=>true | .int _,.non=>true | .non,.bl _=>true | .bl _,.non=>true | .non,.str _=>true | .str _,.non=>true
 | .int _,.int _=>true | .bl _,.bl _=>true | .str _,.str _=>true | .byt _,.byt _=>true
 | .int _,.str _=>true | .str _,.int _=>true | .bl _,.str _=>true | .str _,.bl _=>true
 |_,_=>false
def rEq:R2:=λx y H Q=>ZO x y=true/\Q (.bl (decide (x=y))) H
def rNe:R2:=λx y H Q=>ZO x y=true/\Q (.bl (!decide (x=y))) H
theorem L0 {i j:Int}:decide (V.int i=V.int j)=(i == j):=by
 rw[Bool.eq_iff_iff];simp
theorem OA {i j:Bool}:decide (V.bl i=V.bl j)=(i == j):=by
 rw[Bool.eq_iff_iff];simp
theorem L1 {i j:Str}:decide (V.str i=V.str j)=(i == j):=by
 rw[Bool.eq_iff_iff];simp
theorem L3 {i j:Array UInt8}:decide (V.byt i=V.byt j)=(i.toList == j.toList):=by
 rw[Bool.eq_iff_iff];cases i;cases j;simp
section
variable{X:Cx}{a b c:Expr}{ta tb tc:TE}{pos:Pos}
theorem b9 {pins:List (Addr×Obj)}{σ:St}{H:Hp}{s:Shared}{Q:VK}{k k':Bool}(I:Inv X pins σ H s)(q:Q (.bl k) H)(e:k=k'):EP X pins σ Q (.bool k') s:=by
 subst e;exact⟨.bl k,H,I,rfl,q⟩
theorem bu:OpR X (akv .Eq) rEq:=by
 intro pins s σ H x y v u Q I rx ry h;obtain⟨hs,q⟩:=h;cases x with
 |non =>
  cases rx;cases y with
  |non=>cases ry;exact PySem.EqNone.eq_none_none (b9 I q (by simp))
  |bl j=>cases ry;exact PySem.EqNone.eq_none_bool (b9 I q (by simp))
  |int j=>obtain⟨t',rfl⟩:=ry;exact PySem.EqNone.eq_none_int (b9 I q (by simp))
  |str j=>obtain⟨t',rfl⟩:=ry;exact PySem.EqNone.eq_none_str (b9 I q (by simp))
  |_=>exact absurd (show false=true from hs) ku
 |bl i =>
  cases rx;cases y with
  |non=>cases ry;exact PySem.EqNone.eq_bool_none (b9 I q (by simp))
  |bl j=>cases ry;exact eq_bool (b9 I q OA)
  |str j=>obtain⟨t',rfl⟩:=ry;exact PySem.EqMixed.eq_bool_str (b9 I q (by simp))
  |_=>exact absurd (show false=true from hs) ku
 |int i =>
  obtain⟨t,rfl⟩:=rx;cases y with
  |non=>cases ry;exact PySem.EqNone.eq_int_none (b9 I q (by simp))
  |int j=>obtain⟨t',rfl⟩:=ry;exact eq_int (b9 I q L0)
  |str j=>obtain⟨t',rfl⟩:=ry;exact PySem.EqMixed.eq_int_str (b9 I q (by simp))
  |_=>exact absurd (show false=true from hs) ku
 |str i =>
  obtain⟨t,rfl⟩:=rx;cases y with
  |non=>cases ry;exact PySem.EqNone.eq_str_none (b9 I q (by simp))
  |bl j=>cases ry;exact PySem.EqMixed.eq_str_bool (b9 I q (by simp))
  |int j=>obtain⟨t',rfl⟩:=ry;exact PySem.EqMixed.eq_str_int (b9 I q (by simp))
  |str j=>obtain⟨t',rfl⟩:=ry;exact eq_str (b9 I q L1)
  |_=>exact absurd (show false=true from hs) ku
 |byt i =>
  obtain⟨t,rfl⟩:=rx;cases y with
  |byt j=>obtain⟨t',rfl⟩:=ry;exact PySem.W.eq_bytes (b9 I q L3)
  |_=>exact absurd (show false=true from hs) ku
 |_=>cases y <;> exact absurd (show false=true from hs) ku
theorem vv:OpR X (akv .NotEq) rNe:=by
 intro pins s σ H x y v u Q I rx ry h;obtain⟨hs,q⟩:=h;cases x with
 |non =>
  cases rx;cases y with
  |non=>cases ry;exact PySem.EqNone.ne_none_none (b9 I q (by simp))
  |bl j=>cases ry;exact PySem.EqNone.ne_none_bool (b9 I q (by simp))
  |int j=>obtain⟨t',rfl⟩:=ry;exact PySem.EqNone.ne_none_int (b9 I q (by simp))
  |str j=>obtain⟨t',rfl⟩:=ry;exact PySem.EqNone.ne_none_str (b9 I q (by simp))
  |_=>exact absurd (show false=true from hs) ku
 |bl i =>
  cases rx;cases y with
  |non=>cases ry;exact PySem.EqNone.ne_bool_none (b9 I q (by simp))
  |bl j=>cases ry;exact ne_bool (b9 I q (congrArg not OA))
  |str j=>obtain⟨t',rfl⟩:=ry;exact PySem.EqMixed.ne_bool_str (b9 I q (by simp))
  |_=>exact absurd (show false=true from hs) ku
 |int i =>
  obtain⟨t,rfl⟩:=rx;cases y with
  |non=>cases ry;exact PySem.EqNone.ne_int_none (b9 I q (by simp))
  |int j=>obtain⟨t',rfl⟩:=ry;exact ne_int (b9 I q (congrArg not L0))
  |str j=>obtain⟨t',rfl⟩:=ry;exact PySem.EqMixed.ne_int_str (b9 I q (by simp))
  |_=>exact absurd (show false=true from hs) ku
 |str i =>
  obtain⟨t,rfl⟩:=rx;cases y with
  |non=>cases ry;exact PySem.EqNone.ne_str_none (b9 I q (by simp))
  |bl j=>cases ry;exact PySem.EqMixed.ne_str_bool (b9 I q (by simp))
  |int j=>obtain⟨t',rfl⟩:=ry;exact PySem.EqMixed.ne_str_int (b9 I q (by simp))
  |str j=>obtain⟨t',rfl⟩:=ry;exact ne_str (b9 I q (congrArg not L1))
  |_=>exact absurd (show false=true from hs) ku
 |byt i =>
  obtain⟨t,rfl⟩:=rx;cases y with
  |byt j=>obtain⟨t',rfl⟩:=ry;exact PySem.W.ne_bytes (b9 I q (congrArg not L3))
  |_=>exact absurd (show false=true from hs) ku
 |_=>cases y <;> exact absurd (show false=true from hs) ku
theorem rS:OpR X (akv .Lt) (rI0 λi j=>.bl (decide (i < j))):=RE λ_ _ _ _ _ _ _ q=>lt_int q
theorem vw:OpR X (akv .LtE) (rI0 λi j=>.bl (decide (i<=j))):=RE λ_ _ _ _ _ _ _ q=>le_int q
theorem FR:OpR X (akv .Gt) (rI0 λi j=>.bl (decide (j < i))):=RE λ_ _ _ _ _ _ _ q=>gt_int q
theorem OB:OpR X (akv .GtE) (rI0 λi j=>.bl (decide (j<=i))):=RE λ_ _ _ _ _ _ _ q=>ge_int q
theorem Vx:OpR X (akv .Is) (λx y H Q=>y=.non/\Q (.bl (decide (x=.non))) H):=by
 intro pins s σ H x y v u Q I rx ry h;obtain⟨rfl,q⟩:=h;cases ry;refine is_none_gen (b9 I q ?_);cases x <;> first
  | (cases rx;rfl)
  | (obtain⟨t,rfl⟩:=rx;rfl)
theorem En:OpR X (akv .IsNot) (λx y H Q=>y=.non/\Q (.bl (!decide (x=.non))) H):=by
 intro pins s σ H x y v u Q I rx ry h;obtain⟨rfl,q⟩:=h;cases ry;refine isnot_none_gen (b9 I q ?_);cases x <;> first
  | (cases rx;rfl)
  | (obtain⟨t,rfl⟩:=rx;rfl)
theorem OpR.or {f:Value->Value->Sem Value}{r r':R2}(h:OpR X f r)(h':OpR X f r'):OpR X f (λx y H Q=>r x y H Q\/r' x y H Q):=by
 intro pins s σ H x y v u Q I rx ry q;rcases q with q | q
 ·exact h pins s σ H x y v u Q I rx ry q
 ·exact h' pins s σ H x y v u Q I rx ry q
theorem aN (b:Expr){op:CmpOp}(h:op≠.In:=by decide)(h2:op≠.NotIn:=by decide):behindInMarks op b=false:=by
 have e1:(op == CmpOp.In)=false:=by cases op <;> first | rfl | exact absurd rfl h
 have e2:(op == CmpOp.NotIn)=false:=by cases op <;> first | rfl | exact absurd rfl h2
 cases b <;> simp[behindInMarks,e1,e2]
theorem jX {op:CmpOp}{r:R2}(ho:OpR X (akv op) r)(ha:PE X a ta)(hb:PE X b tb)(hm:behindInMarks op b=false):PE X (.Compare a [op] [b] pos) (tOp r ta tb):=by
 intro pins s σ H Q I h;exact wpAny_Compare1 (Vu ha hb I h λv u s2 x y H2 I2 rx ry q=>ho pins s2 σ H2 x y v u Q I2 rx ry q) hm
def ZP (t:TE):TT:=λσ H Q=>t σ H λx H'=>∃k,x=.bl k/\Q k H'
theorem ay {op:CmpOp}{r:R2}(ho:OpR X (akv op) r)(ha:PE X a ta)(hb:PE X b tb)(hm:behindInMarks op b=false):PT X (.Compare a [op] [b] pos) (ZP (tOp r ta tb)):=by
 intro pins s σ H Q I h;refine wpAny_isTrue_Compare1 (thn (ha pins s σ H _ I h) λv s1 ⟨x,H1,I1,r1,q1⟩=>thn (hb pins s1 σ H1 _ I1 q1) λu s2 ⟨y,H2,I2,r2,q2⟩ =>
  thn (ho pins s2 σ H2 x y v u _ I2 r1 r2 q2) λc s3 ⟨z,H3,I3,r3,k,e,q3⟩=>?_) hm
 subst e;cases r3;exact wpAny_truthy_bool ⟨H3,I3,q3⟩
def Vy (r r':R2)(ta tb tc:TE):TE:=λσ H Q=>ta σ H λx H1=>tb σ H1 λy H2=>r x y H2 λz H3=>∃k,z=.bl k /\
 (if k=true then tc σ H3 λw' H4=>r' y w' H4 Q else Q (.bl false) H3)
theorem AJ {op op':CmpOp}{r r':R2}(ho:OpR X (akv op) r)(ho':OpR X (akv op') r')(ha:PE X a ta)(hb:PE X b tb)(hc:PE X c tc)
  (hm:lastMarks [op,op'] [b,c]=false:=by with_unfolding_all rfl):PE X (.Compare a [op,op'] [b,c] pos) (Vy r r' ta tb tc):=by
 intro pins s σ H Q I h;refine Compare_chain (thn (ha pins s σ H _ I h) λv s1 ⟨x,H1,I1,r1,q1⟩=>chain_link (thn (hb pins s1 σ H1 _ I1 q1) λu s2 ⟨y,H2,I2,r2,q2⟩ =>
  thn (ho pins s2 σ H2 x y v u _ I2 r1 r2 q2) λd s3 ⟨z,H3,I3,r3,k,e,q3⟩=>?_)) hm
 subst e;cases r3;refine wpAny_truthy_bool ?_;cases k with
 |false=>exact ite_ff ⟨.bl false,H3,I3,rfl,q3⟩
 |true=>exact ite_tt (chain_last (thn (hc pins s3 σ H3 _ I3 q3) λw' s4 ⟨z',H4,I4,r4,q4⟩=>ho' pins s4 σ H4 y z' u w' Q I4 r2 r4 q4))
def ZQ (K:ba)(x:V)(H:Hp)(k:Bool):Prop :=
 match x with
 | .non=>k=false
 | .bl b=>k=b
 | .int i=>k=(i != 0)
 | .str y=>y.length<=ka/\k=((y.length:Int) != 0)
 | .byt y=>y.size<=ka/\k=((y.size:Int) != 0)
 | .ref p=>(∃xs,SqL K H p xs/\k=!xs.isEmpty)\/(∃xs,SqT K H p xs/\k=!xs.isEmpty)\/∃kvs,H p=some (.dK kvs)/\k=!kvs.isEmpty
 |_=>False
theorem JH {κ:Type}{kvs:List (κ×V)}{vs:List (κ×Value)}(r:KV kvs vs):(!vs.isEmpty)=!kvs.isEmpty:=by
 cases r <;> rfl
theorem AK {xs:List V}{its:List Value}(r:Vals xs its):(!its.toArray.isEmpty)=!xs.isEmpty:=by
 cases r <;> simp
theorem uF:(ka:Nat) < 2 ^ 63:=by rw[sizeLine_eq];decide
theorem Vz:ahg X (λx H Q=>∃k,ZQ X.K x H k/\Q k H):=by
 intro pins s σ H x v Q I rx h;obtain⟨k,e,q⟩:=h;have hl:=uF;have hs:ka=16777216:=sizeLine_eq;cases x with
 |non =>
  cases rx;have e':k=false:=e;subst e';exact truthy_none ⟨H,I,q⟩
 |bl b =>
  cases rx;have e':k=b:=e;subst e';exact wpAny_truthy_bool ⟨H,I,q⟩
 |int i =>
  obtain⟨t,rfl⟩:=rx;have e':k=(i != 0):=e;subst e';exact PySem.P.truthy_int ⟨H,I,q⟩
 |str y =>
  obtain⟨t,rfl⟩:=rx;obtain⟨hy,e'⟩:y.length<=ka/\k=((y.length:Int) != 0):=e;subst e';exact PySem.P.truthy_str (by omega) ⟨H,I.tok _,q⟩
 |byt y =>
  obtain⟨t,rfl⟩:=rx;obtain⟨hy,e'⟩:y.size<=ka/\k=((y.size:Int) != 0):=e;subst e';exact PySem.W.truthy_bytes (by omega) ⟨H,I.tok _,q⟩
 |ref p =>
  cases rx;have e':(∃xs,SqL X.K H p xs/\k=!xs.isEmpty)\/(∃xs,SqT X.K H p xs/\k=!xs.isEmpty)\/∃kvs,H p=some (.dK kvs)/\k=!kvs.isEmpty:=e;rcases e' with ⟨xs,hx,e'⟩ | ⟨xs,hx,e'⟩ | ⟨kvs,hx,e'⟩
  ·subst e';obtain⟨its,r,pl,hz⟩:=I.list hx;have hlen:=r.length;exact wpAny_truthy_list pl.isList (by simp only[ko];omega) ⟨H,I.tok _,by rw[AK r];exact q⟩
  ·subst e';obtain⟨its,r,pl,hz⟩:=I.tuple hx;have hlen:=r.length;exact truthy_tuple pl (by simp only[ko];omega) ⟨H,I.tok _,by rw[AK r];exact q⟩
  ·subst e';obtain⟨hz,hS,vs,r,m⟩:kvs.length<=ka/\(p == akN)=false/\∃vs,KV kvs vs/\s.heap.DictOf (cO X.prog X.w) p vs:=I.hok p _ hx;have hlen:kvs.length=vs.length:=Paired.length r;exact wpAny_truthy_dict hS m (by omega) ⟨H,I.tok _,by rw[JH r];exact q⟩
 |_=>exact(show False from e).elim
theorem rT (ha:PE X a ta)(he:∀whole,isTrue a X.env whole=(do let v <-whole;standAt a.pos;holding [v] (truthy v))) :
  PT X a (λσ H Q=>ta σ H λx H'=>∃k,ZQ X.K x H' k/\Q k H'):=by
 intro pins s σ H Q I h;exact isTrue_plain (thn (ha pins s σ H _ I h) λv s1 ⟨x,H1,I1,r1,q1⟩=>Vz pins s1 σ H1 x v Q I1 r1 q1) (he _)
theorem JI:OpR X (binaryOp .Add) (λx y H Q=>∃i j,x=.str i/\y=.str j/\i.length+j.length<=ka/\Q (.str (i++j)) H):=by
 intro pins s σ H x y v u Q I rx ry h;obtain⟨i,j,rfl,rfl,hz,q⟩:=h;obtain⟨t,rfl⟩:=rx;obtain⟨t',rfl⟩:=ry;exact add_str (λt' tk=>⟨.str (i++j),H,I.tok _,⟨_,rfl⟩,q⟩) hz
theorem vals1 {x:V}{us:List Value}(r:Vals [x] us):∃u,us=[u]/\RelV x u:=by
 cases r with
 |cons r1 r2=>cases r2;exact⟨_,rfl,r1⟩
theorem vals2 {x y:V}{us:List Value}(r:Vals [x,y] us):∃u w',us=[u,w']/\RelV x u/\RelV y w':=by
 cases r with
 |cons r1 r2 =>
  cases r2 with
  |cons r3 r4=>cases r4;exact⟨_,_,rfl,r1,r3⟩
theorem tT (hc:X.calm=true):lY X (.builtin "max") (λxs H Q=>∃i j,xs=[.int i,.int j]/\Q (.int (if j > i then j else i)) H):=by
 intro pins s σ H xs us Q I r h;obtain⟨i,j,rfl,q⟩:=h;obtain⟨u,w',rfl,⟨t,rfl⟩,⟨t',rfl⟩⟩:=vals2 r;refine max_two_ints (I.ok.hd hc) λh' tk k=>⟨_,H,I.kept k,?_,q⟩
 by_cases hj:j > i
 ·rw[if_pos hj,if_pos hj];exact⟨_,rfl⟩
 ·rw[if_neg hj,if_neg hj];exact⟨_,rfl⟩
theorem C8:lY X (.type "int") (λxs H Q=>(∃i,xs=[.int i]/\Q (.int i) H)\/∃k,xs=[.bl k]/\Q (.int (if k then 1 else 0)) H):=by
 intro pins s σ H xs us Q I r h;rcases h with ⟨i,rfl,q⟩ | ⟨k,rfl,q⟩
 ·obtain⟨u,rfl,t,rfl⟩:=vals1 r;exact call_int_int ⟨.int i,H,I,⟨_,rfl⟩,q⟩
 ·obtain⟨u,rfl,r1⟩:=vals1 r;cases r1;exact call_int_bool ⟨.int (if k then 1 else 0),H,I.tok _,⟨_,rfl⟩,q⟩
theorem vy:lY X (.type "str") (λxs H Q=>∃i,xs=[.int i]/\i.natAbs.log2 < 1920/\Q (.str (toString i)) H):=by
 intro pins s σ H xs us Q I r h;obtain⟨i,rfl,hz,q⟩:=h;obtain⟨u,rfl,t,rfl⟩:=vals1 r;exact PySem.P.str_of_int hz ⟨.str _,H,I.tok _,⟨_,rfl⟩,q⟩
end
end L2
namespace L2
open PySem PySem.Spec PyProof.Rows
structure JJ (h:Heap)(x dx C:Addr)(mA:Str->Option Value):Prop where
 obj:h.get? x=some (aj8 C dx)
 ns:h.Ns1 dx mA
 ne:dx≠x
theorem MZ {h:Heap}{dx:Addr}{mA:Str->Option Value}(n:h.Ns1 dx mA):∃od,h.get? dx=some od/\∀name,PySem.W.lookIn name od=some (mA name):=by
 obtain⟨o,es,ep,ho,hd,hk,_,hm⟩:=n;refine⟨o,ho,λname=>?_⟩
 have e:=hm name;unfold nsFind findBy at e;rw[<-Array.find?_toList]at e;unfold PySem.W.lookIn;rw[hd];dsimp only;split
 ·rename_i y q;rw[q]at e;exact congrArg some e
 ·rename_i q;rw[q]at e;have a:es.toList.any (·.refKey)=false:=by
   rw[List.any_eq_false];intro y hy;obtain⟨z,t,ahj⟩:=hk y (Array.mem_toList_iff.mp hy);simp[DictEntry.refKey,ahj]
  have a':¬es.toList.any (·.refKey)=true:=by rw[a];exact ku
  rw[if_neg a'];exact congrArg some e
theorem JJ.look {h:Heap}{x dx C:Addr}{mA:Str->Option Value}(I:JJ h x dx C mA):∃od,PySem.W.InstAt h x (aj8 C dx) C (some od)/\∀name,PySem.W.lookIn name od=some (mA name) :=
 let ⟨od,ho,hl⟩:=MZ I.ns
 ⟨od,⟨I.obj,rfl,rfl,ho⟩,hl⟩
section
variable{prog:me}{w:World}{A:Around}{E:Value->Shared->Prop}{s:Shared}{K:ba}{x dx C f:Addr}{mA:Str->Option Value}{name:Str}{v:Value}
theorem get_map {expr:Bool}{Q:Value->Shared->Prop}(X:K.In s.heap)(I:JJ s.heap x dx C mA)(hg:aj9 K C name=true)(hh:aj7 K C=true)
  (ha:cb K (.ref C) name=some none) (hv:mA name=some v) (hv':PySem.W.handedIn v=true) (h:Q v { s with toks:=s.toks+1 }) :
  wpAny (model prog w) A (getAttr (.ref x) name expr) Q E s:=by
 obtain⟨od,J,hl⟩:=I.look;exact PySem.W.get_value X J (PySem.W.plainGet_of hg).1 (PySem.W.findObj_own hh ha rfl (by rw[hl,hv])) hv' h
theorem OC {pl:Sem Bool}{Q:Value×List Value->Shared->Prop}(X:K.In s.heap)(I:JJ s.heap x dx C mA)(hg:aj9 K C name=true)
  (hf:cb K (.ref C) name=some (some (.ref f))) (ht:ma K (.ref f)=true) (hv:mA name=none) (h:Q (.ref f,[.ref x]) s) :
  wpAny (model prog w) A (getMethod (.ref x) name pl) Q E s:=by
 obtain⟨od,J,hl⟩:=I.look;exact PySem.W.method_fn X J (PySem.W.plainGet_of hg).1 (PySem.W.plainGet_of hg).2 hf (beq_iff_eq.mp ht) (by show (PySem.W.lookIn name od).map (·.isSome)=some false;rw[hl,hv];rfl) h
theorem RF {ns:List Str}{Q:Unit->Shared->Prop}(X:K.In s.heap)(I:JJ s.heap x dx C mA)
  (hs:cb K (.ref C) "__setattr__"=some (some (.builtin "object.__setattr__"))) (hp:ake K C=true) (ht:PySem.W.takerIn K C name=some none) (hh:aj7 K C=true)
  (hw:PySem.Within mA ns) (hsz:ns.length<=ka)
  (h:∀h',JJ h' x dx C (λy=>if y=name then some v else mA y)->Heap.SameBut dx s.heap h'->Q () { s with heap:=h',toks:=s.toks+2 }) :
  wpAny (model prog w) A (setAttr (.ref x) name v) Q E s:=by
 obtain⟨od,J,hl⟩:=I.look;refine PySem.W.set_plain X J hs (PySem.W.osa_open (s:={ s with toks:=s.toks+1 }) (r:=none) X J hp ht λb=>?_)
 obtain⟨cd,hc,hd'⟩:=PySem.W.any_some hh;have hx:s.heap.get? x=some ⟨.ref C,some dx,.plain,#[]⟩:=I.obj;refine eg (si (eg (eg (wpAny_loadPart hx (eg (PySem.W.Looks.here (s:={ s with toks:=s.toks+1 }) (PySem.W.looks_clsIn X hc) ?_))))))
 rw[hd'];refine si (a:=some dx) (eg (si (eg ?_)));refine wpAny_nsSet1 (s:={ s with toks:=s.toks+1 }) I.ns λh' hn2 hs2=>?_
 obtain⟨oD,esD,epD,hoD,hdD,hcD⟩:=hn2.count (PySem.Within.cons name v hw);refine eg (wpAny_lookBehind hoD (by rw[hdD];exact pastItsLine_dict (tm hcD (by rw[ajH];omega))) ?_)
 exact si (h _ ⟨(hs2.2 _ (ajZ I.ne)).trans I.obj,hn2,I.ne⟩ hs2)
theorem OD {R:Result->Shared->Prop}{vs:List Value}{kw:List (Str×Value)}(X:K.In s.heap)(hm:akk K C=true)
  (hi:cb K (.ref C) "__init__"=some (some (.ref f))) (hf:PySem.W.typeIn K (.ref f)=some (.type "function"))
  (h:codeAny (model prog w) (A.under (.builtin "type.__call__" ⟨.ref C::vs,kw⟩)) (.call (.ref f) ⟨.ref (s.heap.objs.size+1)::vs,kw⟩) (PySem.W.InitBack (s.heap.objs.size+1) R)
   { s with heap:=(s.heap.push aj4).push (aj8 C s.heap.objs.size) }) :
  codeAny (model prog w) A (.call (.ref C) ⟨vs,kw⟩) R s:=by
 obtain⟨hh,g,d,t,os⟩:=s;exact PySem.W.make_core (PySem.W.makes_of X hm) (PySem.W.looks_findIn X hi) (λself=>PySem.W.bind_fn X self hf) (.inl rfl) h
end
def f7 (f:Str)(v:V):List (Str×V)->List (Str×V)
 |[]=>[(f,v)]
 | (g,x)::r=>if g=f then (g,v)::r else (g,x)::f7 f v r
theorem yB (f g:Str)(v:V):∀fs:List (Str×V),(f7 f v fs).lookup g=if g=f then some v else fs.lookup g
 |[]=>by
  show akf g [(f,v)]=_
  by_cases h:g=f
  ·have hb:(g == f)=true:=beq_iff_eq.mpr h;simp only[akf,hb,if_pos h]
  ·have hb:(g == f)=false:=beq_eq_false_iff_ne.mpr h;simp only[akf,hb,if_neg h]
 | (k,x)::r=>by
  have ih:=yB f g v r;rw[show f7 f v ((k,x)::r)=(if k=f then (k,v)::r else (k,x)::f7 f v r) from rfl]
  by_cases hk:k=f
  ·rw[if_pos hk]
   by_cases h:g=k
   ·have hb:(g == k)=true:=beq_iff_eq.mpr h;simp only[akf,hb,if_pos (h.trans hk)]
   ·have hb:(g == k)=false:=beq_eq_false_iff_ne.mpr h;simp only[akf,hb,if_neg (λe:g=f=>h (e.trans hk.symm))]
  ·rw[if_neg hk]
   by_cases h:g=k
   ·have hb:(g == k)=true:=beq_iff_eq.mpr h;simp only[akf,hb,if_neg (λe:g=f=>hk (h.symm.trans e))]
   ·have hb:(g == k)=false:=beq_eq_false_iff_ne.mpr h;simp only[akf,hb];exact ih
theorem xt (f:Str)(v:V):∀fs:List (Str×V),f∈(f7 f v fs).map (·.1)/\∀g,g∈fs.map (·.1)->g∈(f7 f v fs).map (·.1)
 |[]=>⟨by simp[f7],λg h=>by simp at h⟩
 | (k,x)::r=>by
  obtain⟨i1,i2⟩:=xt f v r;rw[show f7 f v ((k,x)::r)=(if k=f then (k,v)::r else (k,x)::f7 f v r) from rfl]
  by_cases hk:k=f
  ·rw[if_pos hk];subst hk;exact⟨by simp,λg h=>by simpa using h⟩
  ·rw[if_neg hk];refine⟨?_,λg h=>?_⟩
   ·rw[kj];exact ky _ i1
   ·rw[kj]at h ⊢;rcases List.mem_cons.mp h with e | e
    ·exact List.mem_cons.mpr (.inl e)
    ·exact ky _ (i2 g e)
theorem yC (f:Str)(v:V):∀fs:List (Str×V),(f7 f v fs).length<=fs.length+1
 |[]=>by simp[f7]
 | (k,x)::r=>by
  have ih:=yC f v r;rw[show f7 f v ((k,x)::r)=(if k=f then (k,v)::r else (k,x)::f7 f v r) from rfl]
  by_cases hk:k=f
  ·rw[if_pos hk,ajH,ajH];omega
  ·rw[if_neg hk,ajH,ajH];omega
theorem qi.some_of {v:V}{o:Option Value}(r:qi (some v) o):∃u,o=some u/\RelV v u:=by
 cases o with
 |none=>exact(show False from r).elim
 |some u=>exact⟨u,rfl,r⟩
theorem qi.none_of {o:Option Value}(r:qi none o):o=none:=by
 cases o with
 |none=>rfl
 |some u=>exact(show False from r).elim
theorem M0 {v:V}{u:Value}(r:RelV v u):PySem.W.handedIn u=true:=by
 cases v with
 |non=>cases (show u=akM from r);rfl
 |bl b=>cases (show u=Value.bool b from r);rfl
 |int i=>obtain⟨t,e⟩:=(show ∃t,u=Value.int i t from r);cases e;rfl
 |str x=>obtain⟨t,e⟩:=(show ∃t,u=Value.str x t from r);cases e;rfl
 |byt b=>obtain⟨t,e⟩:=(show ∃t,u=Value.bytes b t from r);cases e;rfl
 |flt b=>obtain⟨t,e⟩:=(show ∃t,u=Value.float b t from r);cases e;rfl
 |ref a=>cases (show u=ajL a from r);rfl
 |ty n=>cases (show u=Value.type n from r);rfl
section
variable{P:me}{w:World}{H H':Hp}{h h':Heap}{a C dx:Addr}{fs fs':List (Str×V)}
theorem Eo (hok:HOk P w H h)(e:H a=some (.ins C dx fs)):∃mA,JJ h a dx C mA/\(∀f,qi (fs.lookup f) (mA f))/\PySem.Within mA (fs.map (·.1))/\fs.length<=1000/\H dx=some (.own a):=by
 obtain⟨d,z,ne,ob,mA,n,r,q⟩:=(show fU P w H h a (.ins C dx fs) from hok a _ e)
 exact⟨mA,⟨ob,n,ne⟩,r,q,z,d⟩
end
structure Cls (K:ba)(C:Addr):Prop where
 pg:aj9 K C aj6=true
 hd:aj7 K C=true
 po:ake K C=true
 sa:cb K (.ref C) "__setattr__"=some (some (.builtin "object.__setattr__"))
theorem Cls.get {K:ba}{C:Addr}(c:Cls K C)(f:Str):aj9 K C f=true:=c.pg
def dA (K:ba)(C:Addr)(f:Str):Prop:=cb K (.ref C) f=some none
theorem dA.ZR {K:ba}{C:Addr}{f:Str}(n:dA K C f):PySem.W.takerIn K C f=some none:=by
 unfold PySem.W.takerIn;rw[show cb K (.ref C) f=some none from n]
 rfl
structure Con (K:ba)(C:Addr)(f:Str)(v:V)(u:Value):Prop where
 at_:cb K (.ref C) f=some (some u)
 rel:RelV v u
 get:PySem.W.specialIn K u "__get__"=some none
 cp:PySem.W.copiedNames.contains f=false
structure Meth (K:ba)(C:Addr)(m:Str)(f:Addr):Prop where
 at_:cb K (.ref C) m=some (some (.ref f))
 fn:ma K (.ref f)=true
 kp:da K (.ref f)=true
section
variable{X:Cx}{pins:List (Addr×Obj)}{σ:St}{H:Hp}{s:Shared}{a C dx:Addr}{fs:List (Str×V)}{f:Str}{v:V}{A:Around}{E:Value->Shared->Prop}
theorem JK {b:Bool}{Q:Value->Shared->Prop}(I:Inv X pins σ H s)(e:H a=some (.ins C dx fs))(c:Cls X.K C)(n:dA X.K C f)(l:fs.lookup f=some v)
  (h:∀u s',Inv X pins σ H s'->RelV v u->Q u s'):wpAny (model X.prog X.w) A (getAttr (.ref a) f b) Q E s:=by
 obtain⟨mA,O,r,_,_,_⟩:=Eo I.hok e;obtain⟨u,hu,ru⟩:=qi.some_of (v:=v) (o:=mA f) (by rw[<-l];exact r f)
 exact get_map I.kIn O (c.get f) c.hd n hu (M0 ru) (h u _ (I.tok _) ru)
theorem jr {m:Str}{g:Addr}{pl:Sem Bool}{Q:Value×List Value->Shared->Prop}(I:Inv X pins σ H s)(e:H a=some (.ins C dx fs))(c:Cls X.K C)(k:Meth X.K C m g)(l:fs.lookup m=none)
  (h:Q (.ref g,[.ref a]) s):wpAny (model X.prog X.w) A (getMethod (.ref a) m pl) Q E s:=by
 obtain⟨mA,O,r,_,_,_⟩:=Eo I.hok e;have hn:mA m=none:=qi.none_of (by rw[<-l];exact r m)
 exact OC I.kIn O (c.get m) k.at_ k.fn hn h
theorem JL {y:V}{u:Value}{Q:Unit->Shared->Prop}(I:Inv X pins σ H s)(e:H a=some (.ins C dx fs))(c:Cls X.K C)(n:dA X.K C f)(hl:fs.length < 1000)(ry:RelV y u)
  (h:∀s',Inv X pins σ (upd H a (.ins C dx (f7 f y fs))) s'->Q () s'):wpAny (model X.prog X.w) A (setAttr (.ref a) f u) Q E s:=by
 obtain⟨mA,O,r,wi,_,ho⟩:=Eo I.hok e;have hz:(fs.map (·.1)).length<=ka:=by rw[bo,sizeLine_eq];omega
 refine RF I.kIn O c.sa c.po n.ZR c.hd wi hz λh' O' sb=>h _ ?_
 have hd:∃o,h'.get? dx=some o:=let ⟨o,_,_,e',_⟩:=O'.ns;⟨o,e'⟩
 refine I.write (x:=a) (e:=dx) (by rw[e];exact akO) (.inr ho) (λb q hb z=>(sb.2 b hb).trans z) hd ?_
 refine⟨by rw[av O.ne];exact ho,?_,O.ne,O'.obj,_,O'.ns,λg=>?_,λg hg=>?_⟩
 ·have:=yC f y fs;omega
 ·show qi ((f7 f y fs).lookup g) (if g=f then some u else mA g)
  rw[yB]
  by_cases q:g=f
  ·rw[if_pos q,if_pos q];exact ry
  ·rw[if_neg q,if_neg q];exact r g
 ·by_cases q:g=f
  ·rw[q];exact(xt f y fs).1
  ·refine(xt f y fs).2 g (wi g λz=>hg ?_)
   show (if g=f then some u else mA g)=none
   rw[if_neg q];exact z
theorem Inv.made (I:Inv X pins σ H s):Inv X pins σ (upd (upd H s.heap.objs.size (.own (s.heap.objs.size+1))) (s.heap.objs.size+1) (.ins C s.heap.objs.size []))
  { s with heap:=(s.heap.push aj4).push (aj8 C s.heap.objs.size) }:=by
 have e1:(s.heap.push aj4).get? s.heap.objs.size=some aj4:=ajM s.heap rfl;have e2:((s.heap.push aj4).push (aj8 C s.heap.objs.size)).get? (s.heap.objs.size+1)=some (aj8 C s.heap.objs.size):=by
  have:=ajM (s.heap.push aj4) (o:=aj8 C s.heap.objs.size) rfl
  rwa [akV]at this
 have e3:(s.heap.push aj4).Ns s.heap.objs.size (λ_=>none):=⟨aj4,#[],_,e1,rfl,(λe he=>absurd he (by simp)),λ_=>rfl⟩
 have I1:=I.laid (a:=s.heap.objs.size) (o:=.own (s.heap.objs.size+1)) (h':=s.heap.push aj4) (t':=s.toks) (λb u q=>gr _ q) (kq _) ⟨_,e1⟩
 refine I1.laid (a:=s.heap.objs.size+1) (o:=.ins C s.heap.objs.size []) (t':=s.toks) (λb u q=>gr _ q) (Nat.le_of_eq (akV _ _)) ?_
 have ne:s.heap.objs.size≠s.heap.objs.size+1:=ajK (Nat.lt_succ_self _);refine⟨by rw[av ne,ae],akl _,ne,e2,λ_=>none,(Heap.Ns1.of_empty e3).at λo q=>gr _ q,λ_=>akO,λy hy=>absurd rfl hy⟩
theorem RG {prog:me}{w:World}{env:Env}{e:Expr}{f:Str}{pos:Pos}{s:Shared}{Q:Value->Shared->Prop}(hb:attributeBase e f env (eval e env)=eval e env)
  (h:wpAny (model prog w) A (eval e env) (λo s₁=>wpAny (model prog w) A (getAttr o f true) Q E s₁) E s):wpAny (model prog w) A (eval (.Attribute e f pos) env) Q E s :=
 Attribute_any_ h (by rw[arm_eval_Attribute,hb])
end
def ZS (K:ba)(ta:TE)(f:Str):TE:=λσ H Q=>ta σ H λx H1=>∃a C dx fs v,x=.ref a/\H1 a=some (.ins C dx fs)/\Cls K C/\dA K C f/\fs.lookup f=some v/\Q v H1
def ahk (K:ba)(ta tv:TE)(f:Str):TS:=λD σ H=>tv σ H λy H1=>ta σ H1 λx H2=>∃a C dx fs,x=.ref a/\H2 a=some (.ins C dx fs)/\Cls K C/\dA K C f/\fs.length < 1000 /\
 D.nx σ (upd H2 a (.ins C dx (f7 f y fs)))
section
variable{X:Cx}{o e value:Expr}{f:Str}{pos pos' ahl:Pos}{ta tv:TE}
theorem bj (he:PE X e ta)(hb:attributeBase e f X.env (eval e X.env)=eval e X.env):PE X (.Attribute e f pos) (ZS X.K ta f):=by
 intro pins s σ H Q I h;refine RG hb (thn (he pins s σ H _ I h) λu s1 ⟨x,H1,I1,rx,a,C,dx,fs,v,ex,ea,c,n,l,q⟩=>?_)
 subst ex;obtain rfl:u=ajL a:=rx;exact JK I1 ea c n l λu' s2 I2 ru=>⟨v,H1,I2,ru,q⟩
theorem ef (ha:PE X o ta)(hv:PE X value tv)(hs:swapsWith value (some (.Attribute o f pos')) pos.line X.env=pure false):PS X (.Assign [.Attribute o f pos'] value pos) (ahk X.K ta tv f):=by
 intro pins s σ H D I h;refine plainObj_wpAny_Assign_Attribute (thn (hv pins s σ H _ I h) λu s1 ⟨y,H1,I1,ry,q⟩=>thn (ha pins s1 σ H1 _ I1 q) λov s2 ⟨x,H2,I2,rx,a,C,dx,fs,ex,ea,c,n,l,q2⟩=>?_) hs
 subst ex;obtain rfl:ov=ajL a:=rx;exact JL I2 ea c n l ry λs3 I3=>⟨σ,_,I3,q2⟩
theorem TK {pl:Sem Bool}{m:Str}{apos:Pos}{args:List Expr}{pins:List (Addr×Obj)}{s:Shared}{σ:St}{H:Hp}{Q:Value->Shared->Prop}{te:TE}(he:PE X e te)(I:Inv X pins σ H s)
  (h:te σ H λx H1=>∃a C dx fs g,x=.ref a/\H1 a=some (.ins C dx fs)/\Cls X.K C/\Meth X.K C m g/\fs.lookup m=none /\
   ∀s1,Inv X pins σ H1 s1->wpAny (model X.prog X.w) X.A (callWith pos (.ref g) [.ref a] (backTo pos (Lk args X.env)) (backToKw pos (keywordEach [] X.env))) Q X.xe s1)
  (ht:eval (.Call (.Attribute e m apos) args [] pos) X.env=(do
   let ov <-eval e X.env
   standAt apos.atName
   let (f,first) <-holding [ov] (getMethod ov m pl)
   callWith pos f first (backTo pos (Lk args X.env)) (backToKw pos (keywordEach [] X.env)))) :
  wpAny (model X.prog X.w) X.A (eval (.Call (.Attribute e m apos) args [] pos) X.env) Q X.xe s:=by
 refine akr (pl:=pl) (thn (he pins s σ H _ I h) λu s1 ⟨x,H1,I1,rx,a,C,dx,fs,g,ex,ea,c,k,l,q⟩=>?_) ht
 subst ex;obtain rfl:u=ajL a:=rx;exact jr I1 ea c k l (q s1 I1)
end
section
variable{X:Cx}{pins:List (Addr×Obj)}{σ:St}{H:Hp}{s:Shared}{A:Around}{E:Value->Shared->Prop}{Q:Value->Shared->Prop}{c:Value}{b:Bool}
inductive AL (K:ba)(H:Hp):V->Value->Prop where
 |non:AL K H .non (.type "NoneType")
 |bl (x:Bool):AL K H (.bl x) (.type "bool")
 |int (i:Int):AL K H (.int i) (.type "int")
 |str (x:Str):AL K H (.str x) (.type "str")
 |flt (x:UInt64):AL K H (.flt x) (.type "float")
 |lst {a:Addr} {xs:List V} (e:H a=some (.lst xs)):AL K H (.ref a) (.type "list")
 |frz {a:Addr} {o:Obj} {xs:List V} (e:H a=some (.frz o (.lst xs))):AL K H (.ref a) (.type "list")
 |tup {a:Addr} {xs:List V} (e:H a=some (.tup xs)):AL K H (.ref a) (.type "tuple")
 |dK {a:Addr} {kvs:List (Key×V)} (e:H a=some (.dK kvs)):AL K H (.ref a) (.type "dict")
 |dT {a:Addr} {kvs:List (List Key×V)} (e:H a=some (.dT kvs)):AL K H (.ref a) (.type "dict")
 |ins {a C dx:Addr} {fs:List (Str×V)} (e:H a=some (.ins C dx fs)) (cl:Cls K C) (ha:cb K (.ref C) "__class__"=some (some (.builtin "object.__class__")))
   (hn:PySem.W.specialIn K (.builtin "object.__class__") "__get__"=some (some (.builtin "getset_descriptor.__get__"))) (htk:PySem.W.takesIn K (.builtin "object.__class__")=some true)
   (hm:PySem.W.mroIn K C (.type "object")=some true):AL K H (.ref a) (.ref C)
end
end L2
namespace L2
open PySem PySem.Spec PyProof.Rows
structure Room (k:Nat)(A:Around):Prop where
 hd:A.handled=none
 dp:A.depth+3 * k+5 < recursionLimit
 un:A.units+16 * k+200 < cLine
 gd:A.guards=some []
theorem Room.mono {j k:Nat}{A:Around}(r:Room k A)(h:j<=k):Room j A:=⟨r.hd,by have:=r.dp;omega,by have:=r.un;omega,r.gd⟩
theorem Room.deeper {k:Nat}{A:Around}(r:Room (k+1) A)(env:Env):Room k (A.deeper env) :=
 ⟨r.hd,by have:=r.dp;show A.depth+1+3 * k+5 < _;omega,by have:=r.un;show A.units+3+16 * k+200 < _;omega,r.gd⟩
theorem Room.in1 {k:Nat}{A:Around}(r:Room (k+1) A):Room k A.in1 :=
 ⟨r.hd,by have:=r.dp;show A.depth+3 * k+5 < _;omega,by have:=r.un;show A.units+1+16 * k+200 < _;omega,r.gd⟩
theorem JM {A:Around}{C:Addr}{us:List Value}{kw:List (Str×Value)}:(A.under (.builtin "type.__call__" ⟨.ref C::us,kw⟩)).depth=A.depth+1:=by
 first | rfl | simp[Around.under,Code.weight,Code.isCreation,Code.isGuard,Code.isCaller,Code.frames,Code.isFrame,guardIds]
theorem JN {A:Around}{C:Addr}{us:List Value}{kw:List (Str×Value)}:(A.under (.builtin "type.__call__" ⟨.ref C::us,kw⟩)).units=A.units+1:=by
 first | rfl | simp[Around.under,Code.cUnits,Code.frames,Code.isFrame]
theorem Room.make {k:Nat}{A:Around}(r:Room (k+1) A)(C:Addr)(us:List Value)(kw:List (Str×Value)):Room k (A.under (.builtin "type.__call__" ⟨.ref C::us,kw⟩)) :=
 ⟨r.hd,by have:=r.dp;rw[JM];omega,by have:=r.un;rw[JN];omega,by
  have g:=r.gd
  first | exact g | simp[Around.under,Code.guards,Code.isGuard,guardIds,pushGuards,g]⟩
theorem Room.depth {k:Nat}{A:Around}(r:Room k A):A.depth < recursionLimit:=by have:=r.dp;omega
theorem Room.units {k:Nat}{A:Around}(r:Room k A):A.units+64 < cLine:=by have:=r.un;omega
def VA:TA:=λ_ H Q=>Q [] H
def ZT (ta:TE)(tr:TA):TA:=λσ H Q=>ta σ H λx H1=>tr σ H1 λxs H2=>Q (x::xs) H2
section
variable{X:Cx}{e:Expr}{es:List Expr}{te:TE}{t:TA}{pos:Pos}
theorem ah:PA X [] VA:=λ_ _ _ _ H Q I h=>Calls.spliced_nil ⟨[],H,I,.nil,h⟩
theorem aa (ha:PE X e te)(hr:PA X es t)(hs:Lk (e::es) X.env=(false,eval e X.env)::Lk es X.env:=by rfl):PA X (e::es) (ZT te t):=by
 intro pos pins s σ H Q I h;rw[hs];show wpAny _ _ (spliced ((false,eval e X.env)::backTo pos (Lk es X.env))) _ _ s;refine Calls.spliced_cons (thn (ha pins s σ H _ I h) λu s1 ⟨x,H1,I1,r1,q1⟩=>?_)
 exact thn (hr pos pins s1 σ H1 _ I1 q1) λus s2 ⟨xs,H2,I2,r2,q2⟩=>⟨x::xs,H2,I2,.cons r1 r2,q2⟩
def ahm (t:TA):TE:=λσ H Q=>t σ H λxs H1=>xs.length<=ka/\∀p,H1 p=none->Q (.ref p) (upd H1 p (.tup xs))
def ahn (t:TA):TE:=λσ H Q=>t σ H λxs H1=>xs.length<=ka/\∀p,H1 p=none->Q (.ref p) (upd H1 p (.lst xs))
theorem bt {x1}(h:PA X es t):PE X (.Tuple es x1 pos) (ahm t):=by
 intro pins s σ H Q I hq;refine wpAny_Tuple_spliced (thn (h pos pins s σ H _ I hq) λus s1 ⟨xs,H1,I1,r,z,q⟩=>⟨by rw[<-r.length];exact z,?_⟩)
 have hf:H1 s1.heap.objs.size=none:=I1.hok.fresh (kq _);refine⟨.ref s1.heap.objs.size,upd H1 s1.heap.objs.size (.tup xs),I1.laid (t':=s1.toks) (λb u e=>gr _ e) (kq _) ?_,rfl,q _ hf⟩
 exact⟨z,us,r,⟨_,ajM _ rfl,rfl,_,rfl⟩⟩
theorem bR (h:PA X es t):PE X (.List es pos) (ahn t):=by
 intro pins s σ H Q I hq;refine wpAny_List_spliced (thn (h pos pins s σ H _ I hq) λus s1 ⟨xs,H1,I1,r,z,q⟩=>⟨by rw[<-r.length];exact z,?_⟩)
 have hf:H1 s1.heap.objs.size=none:=I1.hok.fresh (kq _);refine⟨.ref s1.heap.objs.size,upd H1 s1.heap.objs.size (.lst xs),I1.laid (t':=s1.toks) (λb u e=>gr _ e) (kq _) ?_,rfl,q _ hf⟩
 exact⟨z,us,0,r,ajM _ rfl⟩
end
abbrev Sp:=List V->Hp->VK->XK->Prop
abbrev CXT:=List Env->Hp->Shared->XK->Value->Shared->Prop
structure CF (P:me)(w:World)(K:ba)(mg:Str->Option Value)(base:Heap)(A:Around)(outer:List Env)(s:Shared)(H:Hp):Prop where
 frames:A.frames=some outer
 mod:Mod K mg base
 bs:∀b o,base.get? b=some o->s.heap.get? b=some o/\H b=none
 bsz:base.objs.size<=s.heap.objs.size
 uo:s.heap.FunFrames base outer
 frf:∀b∈frs outer,H b=none
 hok:HOk P w H s.heap
 bare:AllBare s.gens
def CE (outer:List Env)(P:me)(w:World)(H:Hp)(s:Shared)(Q:VK)(u:Value)(s':Shared):Prop :=
 ∃v H',s'.os=s.os/\AllBare s'.gens/\Un (frs outer) [] H H' s.heap s'.heap/\HOk P w H' s'.heap/\RelV v u/\Q v H'
def CR (CX:CXT)(outer:List Env)(P:me)(w:World)(H:Hp)(s:Shared)(Q:VK)(E:XK)(r:Result)(s':Shared):Prop :=
 match r with
 | .ok (.ret u)=>CE outer P w H s Q u s'
 | .ok _=>False
 | .error e=>CX outer H s E e s'
structure aK (P:me)(w:World)(K:ba)(mg:Str->Option Value)(base:Heap)(CX:CXT)(k:Nat)(f:Addr)(fd:kg)(ps:List Str)(sp:Sp):Prop where
 len:∀vs H Q E,sp vs H Q E->vs.length=ps.length
 run:∀(A:Around) (outer:List Env) (s:Shared) (H:Hp) (args:Args) (us:List Value) (vs:List V) (Q:VK) (E:XK),Room k A->CF P w K mg base A outer s H->BindsTo s fd args (ps.zip us)->Vals vs us->sp vs H Q E ->
  codeAny (model P w) A (.call (.ref f) args) (CR CX outer P w H s Q E) s
theorem aK.mono {P:me}{w:World}{K:ba}{mg:Str->Option Value}{base:Heap}{CX:CXT}{j k:Nat}{f:Addr}{fd:kg}{ps:List Str}{sp:Sp}(F:aK P w K mg base CX j f fd ps sp)(h:j<=k) :
  aK P w K mg base CX k f fd ps sp:=⟨F.len,λA outer s H args us vs Q E hr=>F.run A outer s H args us vs Q E (hr.mono h)⟩
theorem aK.imp {P:me}{w:World}{K:ba}{mg:Str->Option Value}{base:Heap}{CX:CXT}{k:Nat}{f:Addr}{fd:kg}{ps:List Str}{sp sp':Sp}(F:aK P w K mg base CX k f fd ps sp)
  (h:∀vs H Q E,sp' vs H Q E->sp vs H Q E):aK P w K mg base CX k f fd ps sp' :=
 ⟨λvs H Q E q=>F.len vs H Q E (h _ _ _ _ q),λA outer s H args us vs Q E hr he hb hv hs=>F.run A outer s H args us vs Q E hr he hb hv (h _ _ _ _ hs)⟩
theorem CF.make {P:me}{w:World}{K:ba}{mg:Str->Option Value}{base:Heap}{A:Around}{outer:List Env}{s:Shared}{H:Hp}(e:CF P w K mg base A outer s H)(C:Addr)(us:List Value)(kw:List (Str×Value)) :
  CF P w K mg base (A.under (.builtin "type.__call__" ⟨.ref C::us,kw⟩)) outer s H:=⟨by first | exact e.frames | (simpa [Around.under,Code.envs,Code.isFrame,pushEnvs] using e.frames),e.mod,e.bs,e.bsz,e.uo,e.frf,e.hok,e.bare⟩
theorem CF.in1 {P:me}{w:World}{K:ba}{mg:Str->Option Value}{base:Heap}{A:Around}{outer:List Env}{s:Shared}{H:Hp}(e:CF P w K mg base A outer s H) :
  CF P w K mg base A.in1 outer s H:=⟨e.frames,e.mod,e.bs,e.bsz,e.uo,e.frf,e.hok,e.bare⟩
section
variable{X:Cx}{pins:List (Addr×Obj)}{σ:St}{H:Hp}{s s':Shared}
theorem Inv.RH (I:Inv X pins σ H s):CF X.prog X.w X.K X.mg X.base X.A X.stack s H :=
 ⟨I.ok.frames,I.ok.mod,I.bs,tm I.ok.bsz I.sz,I.stack,I.Aj,I.hok,I.bare⟩
theorem Inv.after {Q:VK}{u:Value}(I:Inv X pins σ H s)(h:CE X.stack X.prog X.w H s Q u s'):EP X pins σ Q u s':=by
 obtain⟨v,H',os,bare,un,hok,r,q⟩:=h;obtain⟨hh,g,d,t,os'⟩:=s';obtain rfl:os'=s.os:=os;exact⟨v,H',I.call (h':=hh) (g':=g) (d':=d) (t':=t) (ch:=[]) un hok bare (λb z=>absurd z (by simp)),r,q⟩
end
def TL (sp:Sp)(dvs:List V)(E:XK)(t:TA):TE:=λσ H Q=>t σ H λvs H1=>sp (vs++dvs) H1 Q E
def TM (C:Addr)(m:Str)(sp:Sp)(dvs:List V)(E:XK)(ta:TE)(t:TA):TE:=λσ H Q=>ta σ H λx H1=>∃a dx fs,x=.ref a/\H1 a=some (.ins C dx fs)/\fs.lookup m=none /\
 t σ H1 λvs H2=>sp (x::(vs++dvs)) H2 Q E
def ZU (C:Addr)(sp:Sp)(dvs:List V)(E:XK)(t:TA):TE:=λσ H Q=>t σ H λvs H1=>∀x dx,H1 x=none->H1 dx=none->dx≠x ->
 sp (.ref x::(vs++dvs)) (upd (upd H1 dx (.own x)) x (.ins C dx [])) (λv H2=>v=.non/\Q (.ref x) H2) E
def Binds (K:ba)(fd:kg)(ps:List Str)(ds:List Value):Prop :=
 ∀(s:Shared) (us:List Value),K.In s.heap->(us++ds).length=ps.length->BindsTo s fd ⟨us,[]⟩ (ps.zip (us++ds))
theorem Binds.all {K:ba}{fd:kg}{ps:List Str}(h:∀us:List Value,us.length=ps.length->bindArgs fd ⟨us,[]⟩=pure (ps.zip us)):Binds K fd ps []:=λs us _ hl=>by
 rw[akR]at hl ⊢;exact .of_eq (h us hl)
def Passes (CX:CXT)(X:Cx)(E:XK):Prop:=∀(pins:List (Addr×Obj)) (σ:St) (H:Hp) (s:Shared) (e:Value) (s':Shared),Inv X pins σ H s->CX X.stack H s E e s'->X.xe e s'
section
variable{X:Cx}{CX:CXT}{k:Nat}{f C:Addr}{fd:kg}{ps:List Str}{sp:Sp}{dvs:List V}{ds:List Value}{E:XK}{x m:Str}{p pos apos:Pos}{e o:Expr}{es:List Expr}{ta:TE}{t:TA}
theorem AM {pins:List (Addr×Obj)}{σ:St}{H:Hp}{s:Shared}{Q:VK}{us:List Value}{vs:List V}(F:aK X.prog X.w X.K X.mg X.base CX k f fd ps sp)(hr:Room k X.A)(hb:Binds X.K fd ps ds)(hd:Vals dvs ds)(hx:Passes CX X E)
  (I:Inv X pins σ H s) (r:Vals vs us) (h:sp (vs++dvs) H Q E):wpAny (model X.prog X.w) X.A (call (.ref f) us) (EP X pins σ Q) X.xe s:=by
 have r2:Vals (vs++dvs) (us++ds):=r.append hd;have hl:(us++ds).length=ps.length:=by rw[<-r2.length];exact F.len _ _ _ _ h
 refine wpAny_call (codeAny_mono (F.run X.A X.stack s H ⟨us,[]⟩ (us++ds) (vs++dvs) Q E hr I.RH (hb s us I.kIn hl) r2 h) λr s' hq=>?_)
 cases r with
 |error e=>exact hx pins σ H s e s' I hq
 |ok fl =>
  cases fl with
  |ret u=>exact I.after hq
  |next=>exact ajY hq
  |brk=>exact ajY hq
  |cont=>exact ajY hq
theorem aV (F:aK X.prog X.w X.K X.mg X.base CX k f fd ps sp)(hr:Room k X.A)(hg:Gl X x)(hm:X.mg x=some (.ref f))(hk:da X.K (.ref f)=true)(hb:Binds X.K fd ps ds)(hd:Vals dvs ds)(hx:Passes CX X E)
  (ha:PA X (e::es) t) (hdb:(x == ("__debug__":Str))=false:=by decide) (he:Lk (e::es) X.env=(false,eval e X.env)::Lk es X.env:=by rfl) (hpl:(backTo pos (Lk es X.env)).any (·.1)=false:=by rfl) :
  PE X (.Call (.Name x p) (e::es) [] pos) (TL sp dvs E t):=by
 intro pins s σ H Q I h;refine wpAny_Call_Name_kw (jW I hg hm ?_ hdb);refine akZ (h₀:=X.base) I.ok.mod.kin hk (thn (ha pos pins s σ H _ I h) λus s1 ⟨vs,H1,I1,r,q⟩=>⟨I1.kIn,?_⟩) he hpl
 exact AM F hr hb hd hx I1 r q
theorem OE (F:aK X.prog X.w X.K X.mg X.base CX k f fd ps sp)(hr:Room k X.A)(hg:Gl X x)(hm:X.mg x=some (.ref f))(hk:da X.K (.ref f)=true)(hb:Binds X.K fd ps ds)(hd:Vals dvs ds)(hx:Passes CX X E)
  (hdb:(x == ("__debug__":Str))=false:=by decide):PE X (.Call (.Name x p) [] [] pos) (TL sp dvs E VA):=by
 intro pins s σ H Q I h;refine wpAny_Call_Name_kw (jW I hg hm ?_ hdb);exact akU I.kIn hk (AM (us:=[]) F hr hb hd hx I .nil h)
theorem hX {pl:Sem Bool}(he:PE X o ta)(c:Cls X.K C)(hm:Meth X.K C m f)(F:aK X.prog X.w X.K X.mg X.base CX k f fd ps sp)(hr:Room k X.A)(hb:Binds X.K fd ps ds)(hd:Vals dvs ds)(hx:Passes CX X E)(ha:PA X (e::es) t)
  (hst:Lk (e::es) X.env=(false,eval e X.env)::Lk es X.env:=by rfl) (hpl:(backTo pos (Lk es X.env)).any (·.1)=false:=by rfl)
  (ht:eval (.Call (.Attribute o m apos) (e::es) [] pos) X.env=(do
   let ov <-eval o X.env
   standAt apos.atName
   let (f,first) <-holding [ov] (getMethod ov m pl)
   callWith pos f first (backTo pos (Lk (e::es) X.env)) (backToKw pos (keywordEach [] X.env))):=by rfl) :
  PE X (.Call (.Attribute o m apos) (e::es) [] pos) (TM C m sp dvs E ta t):=by
 intro pins s σ H Q I h;refine akr (pl:=pl) (thn (he pins s σ H _ I h) λu s1 ⟨x,H1,I1,rx,a,dx,fs,ex,ea,l,q⟩=>?_) ht
 subst ex;obtain rfl:u=ajL a:=rx;refine jr I1 ea c hm l ?_;refine akZ (first:=[.ref a]) (h₀:=X.base) I.ok.mod.kin hm.kp (thn (ha pos pins s1 σ H1 _ I1 q) λus s2 ⟨vs,H2,I2,r,q2⟩=>⟨I2.kIn,?_⟩) hst hpl
 exact AM (us:=.ref a::us) (vs:=.ref a::vs) F hr hb hd hx I2 (.cons rfl r) q2
theorem gZ {pl:Sem Bool}(he:PE X o ta)(c:Cls X.K C)(hm:Meth X.K C m f)(F:aK X.prog X.w X.K X.mg X.base CX k f fd ps sp)(hr:Room k X.A)(hb:Binds X.K fd ps ds)(hd:Vals dvs ds)(hx:Passes CX X E)
  (ht:eval (.Call (.Attribute o m apos) [] [] pos) X.env=(do
   let ov <-eval o X.env
   standAt apos.atName
   let (f,first) <-holding [ov] (getMethod ov m pl)
   callWith pos f first (backTo pos (Lk [] X.env)) (backToKw pos (keywordEach [] X.env))):=by rfl) :
  PE X (.Call (.Attribute o m apos) [] [] pos) (TM C m sp dvs E ta VA):=by
 intro pins s σ H Q I h;refine akr (pl:=pl) (thn (he pins s σ H _ I h) λu s1 ⟨x,H1,I1,rx,a,dx,fs,ex,ea,l,q⟩=>?_) ht
 subst ex;obtain rfl:u=ajL a:=rx;refine jr I1 ea c hm l ?_;exact akU (first:=[.ref a]) I1.kIn hm.kp (AM (us:=[.ref a]) (vs:=[.ref a]) F hr hb hd hx I1 (.cons rfl .nil) q)
structure Mk (K:ba)(C f:Addr):Prop where
 makes:akk K C=true
 init:cb K (.ref C) "__init__"=some (some (.ref f))
 fn:ma K (.ref f)=true
 kp:da K (.ref C)=true
theorem OF {pins:List (Addr×Obj)}{σ:St}{H:Hp}{s:Shared}{Q:VK}{us:List Value}{vs:List V}(M:Mk X.K C f)(F:aK X.prog X.w X.K X.mg X.base CX k f fd ps sp)(hr:Room (k+1) X.A)(hb:Binds X.K fd ps ds)(hd:Vals dvs ds)
  (hx:Passes CX X E) (I:Inv X pins σ H s) (r:Vals vs us)
  (h:∀x dx,H x=none->H dx=none->dx≠x->sp (.ref x::(vs++dvs)) (upd (upd H dx (.own x)) x (.ins C dx [])) (λv H2=>v=.non/\Q (.ref x) H2) E) :
  wpAny (model X.prog X.w) X.A (call (.ref C) us) (EP X pins σ Q) X.xe s:=by
 have hq:=h (s.heap.objs.size+1) s.heap.objs.size (I.hok.fresh (akq _)) (I.hok.fresh (kq _)) (ajK (Nat.lt_succ_self _));have I2:=Inv.made (C:=C) I;have r2:Vals (V.ref (s.heap.objs.size+1)::(vs++dvs)) (ajL (s.heap.objs.size+1)::(us++ds)):=.cons rfl (r.append hd);have hl:(ajL (s.heap.objs.size+1)::us++ds).length=ps.length:=by
  have e:=r2.length;rw[F.len _ _ _ _ hq]at e;exact e.symm
 refine wpAny_call (OD (f:=f) I.kIn M.makes M.init (beq_iff_eq.mp M.fn) (codeAny_mono (F.run _ X.stack _ _ ⟨ajL (s.heap.objs.size+1)::us,[]⟩ (ajL (s.heap.objs.size+1)::(us++ds)) _ _ E (hr.make C us [])
  (I2.RH.make C us []) (hb _ (ajL (s.heap.objs.size+1)::us) I2.kIn hl) r2 hq) λr s' hq'=>?_))
 cases r with
 |error e=>exact hx pins σ _ _ e s' I2 hq'
 |ok fl =>
  cases fl with
  |ret u =>
   obtain⟨v,H',I3,rv,ev,q3⟩:=I2.after hq';subst ev;exact⟨rv,⟨V.ref (s.heap.objs.size+1),H',I3,rfl,q3⟩⟩
  |next=>exact ajY hq'
  |brk=>exact ajY hq'
  |cont=>exact ajY hq'
theorem gC (M:Mk X.K C f)(F:aK X.prog X.w X.K X.mg X.base CX k f fd ps sp)(hr:Room (k+1) X.A)(hg:Gl X x)(hm:X.mg x=some (.ref C))(hb:Binds X.K fd ps ds)(hd:Vals dvs ds)(hx:Passes CX X E)
  (ha:PA X (e::es) t) (hdb:(x == ("__debug__":Str))=false:=by decide) (he:Lk (e::es) X.env=(false,eval e X.env)::Lk es X.env:=by rfl) (hpl:(backTo pos (Lk es X.env)).any (·.1)=false:=by rfl) :
  PE X (.Call (.Name x p) (e::es) [] pos) (ZU C sp dvs E t):=by
 intro pins s σ H Q I h;refine wpAny_Call_Name_kw (jW I hg hm ?_ hdb);refine akZ (h₀:=X.base) I.ok.mod.kin M.kp (thn (ha pos pins s σ H _ I h) λus s1 ⟨vs,H1,I1,r,q⟩=>⟨I1.kIn,?_⟩) he hpl
 exact OF M F hr hb hd hx I1 r q
end
section
variable{X:Cx}{CX:CXT}{k:Nat}{f C:Addr}{fd:kg}{ps ks:List Str}{sp:Sp}{E:XK}{x m:Str}{p pos apos ajB:Pos}{e o:Expr}{es:List Expr}{kws:List Keyword}{te ta:TE}{t tk:TA}{nm:Option Str}
structure aho (K:ba)(fd:kg)(ps ks:List Str)(g:List Value->List Value->List Value)(gV:List V->List V->List V):Prop where
 to:∀(s:Shared) (us ws:List Value),K.In s.heap->(g us ws).length=ps.length->BindsTo s fd ⟨us,ks.zip ws⟩ (ps.zip (g us ws))
 rel:∀ {vs:List V} {us:List Value} {zs:List V} {ws:List Value},Vals vs us->Vals zs ws->Vals (gV vs zs) (g us ws)
variable{g:List Value->List Value->List Value}{gV:List V->List V->List V}
end
structure aT (N P:List Str)(sc:Scope):Prop where
 kind:sc.kind=.function
 co:sc.isCoroutine=false
 gen:sc.isGenerator=false
 nd:N.Nodup
 pre:N.take P.length=P
 par:∀x∈P,sc.names.lookup x=some .local\/sc.names.lookup x=some .cell
 VB:∀y∈sc.names,y.2≠.free
theorem C9 {kindOf:Str->Option NameKind}{x:Str}:∀ {binds:List (Str×Value)} {m:Str->Option Value},(∀v,(x,v)∉binds)->bindL kindOf binds m x=m x
 |[],_,_=>rfl
 | (n,v)::r,m,h=>by
  unfold bindL;rw[C9 λw hw=>h w (ky _ hw)]
  split
  ·have:x≠n:=by rintro rfl;exact h v fu
   simp[this]
  ·rfl
theorem Dc {kindOf:Str->Option NameKind}{x:Str}:∀ {binds:List (Str×Value)} {m:Str->Option Value},(∀v,(x,v)∉binds)->bindC kindOf binds m x=m x
 |[],_,_=>rfl
 | (n,v)::r,m,h=>by
  unfold bindC;rw[Dc λw hw=>h w (ky _ hw)]
  split
  ·rfl
  ·have:x≠n:=by rintro rfl;exact h v fu
   simp[this]
theorem De {kindOf:Str->Option NameKind}{x:Str}{v:Value}:∀ {P:List Str} {vs:List Value} {i:Nat} {m:Str->Option Value},P.Nodup->P[i]?=some x->vs[i]?=some v->kindOf x=some .local ->
  bindL kindOf (P.zip vs) m x=some v
 |[],_,_,_,_,h,_,_=>by simp at h
 |_::_,[],_,_,_,_,h,_=>by simp at h
 |p::P,w::vs,0,m,nd,h1,h2,hk=>by
  simp at h1 h2;subst h1;subst h2;show bindL kindOf ((p,w)::P.zip vs) m p=_;unfold bindL;rw[C9 λv hv=>(List.nodup_cons.mp nd).1 (List.of_mem_zip hv).1,if_pos hk]
  simp
 |p::P,w::vs,i+1,m,nd,h1,h2,hk=>by
  show bindL kindOf ((p,w)::P.zip vs) m x=_;unfold bindL;exact De (i:=i) (List.nodup_cons.mp nd).2 (by simpa using h1) (by simpa using h2) hk
theorem Df {kindOf:Str->Option NameKind}{x:Str}{v:Value}:∀ {P:List Str} {vs:List Value} {i:Nat} {m:Str->Option Value},P.Nodup->P[i]?=some x->vs[i]?=some v->kindOf x≠some .local ->
  bindC kindOf (P.zip vs) m x=some v
 |[],_,_,_,_,h,_,_=>by simp at h
 |_::_,[],_,_,_,_,h,_=>by simp at h
 |p::P,w::vs,0,m,nd,h1,h2,hk=>by
  simp at h1 h2;subst h1;subst h2;show bindC kindOf ((p,w)::P.zip vs) m p=_;unfold bindC;rw[Dc λv hv=>(List.nodup_cons.mp nd).1 (List.of_mem_zip hv).1,if_neg hk]
  simp
 |p::P,w::vs,i+1,m,nd,h1,h2,hk=>by
  show bindC kindOf ((p,w)::P.zip vs) m x=_;unfold bindC;exact Df (i:=i) (List.nodup_cons.mp nd).2 (by simpa using h1) (by simpa using h2) hk
def start (N:List Str)(vs:List V):St:=vs.map some++akW (N.length - vs.length) none
def vz (CX:CXT)(P:me)(w:World)(K:ba)(mg:Str->Option Value)(base:Heap)(N:List Str)(qual:Str)(scope:Scope)(f:Addr)(cd:Value)(A:Around)(outer:List Env)(s:Shared)(H:Hp)(E:XK):Cx where
 prog:=P
 w:=w
 K:=K
 mg:=mg
 base:=base
 A:=A.deeper (envOfC qual scope s.heap.objs.size f cd)
 N:=N
 s₀:=s
 H₀:=H
 env:=envOfC qual scope s.heap.objs.size f cd
 outer:=outer
 stack:=envOfC qual scope s.heap.objs.size f cd::outer
 ex:=[]
 calm:=true
 fn:=λ_=>true
 pn:=[]
 xe:=λe s'=>wpAny (model P w) (A.deeper (envOfC qual scope s.heap.objs.size f cd)) (leaving (envOfC qual scope s.heap.objs.size f cd) e) (λ_ s''=>CX outer H s E e s'') (λe' s''=>CX outer H s E e' s'') s'
theorem FT {sc:Scope}{n:Nat}{x:Str}(h:sc.names.lookup x=some .cell):∃c,(cellsFrom n sc.names []).lookup x=some c:=by
 have q:=PySem.W.cellsFrom_some sc.names n [] (.inl h);exact Option.isSome_iff_exists.mp q
theorem M3 {CX:CXT}{P:me}{w:World}{K:ba}{mg:Str->Option Value}{base:Heap}{N ps:List Str}{qual:Str}{scope:Scope}{f:Addr}{cd:Value}{A:Around}{outer:List Env}{s s1:Shared}{H:Hp}{E:XK}{us:List Value}{vs:List V}
  (S:aT N ps scope) (hd:A.handled=none) (e0:CF P w K mg base A outer s H) (hl:vs.length=ps.length) (r:Vals vs us)
  (x:InCallC s s.heap.objs.size (bindL (envOfC qual scope s.heap.objs.size f cd).kindOf (ps.zip us) λ_=>none) (cellsFrom (s.heap.objs.size+1) scope.names []) (bindC (envOfC qual scope s.heap.objs.size f cd).kindOf (ps.zip us) λ_=>none) s1) :
  Inv (vz CX P w K mg base N qual scope f cd A outer s H E) [] (start N vs) H s1:=by
 have hpl:ps.length<=N.length:=by have:=congrArg List.length S.pre;rw[akd]at this;omega
 obtain⟨h1,tk,rfl,hk⟩:=x.done;have noA:∀b:Addr,b∉(vz CX P w K mg base N qual scope f cd A outer s H E).ex:=λb z=>absurd (show b∈([]:List Addr) from z) (by simp)
 refine⟨⟨e0.mod,S.kind,rfl,rfl,kq _,λy z c h1 h2=>?_,λy hy=>?_,λy c _ h=>?_,λ_=>hd,Around.frames_deeper e0.frames,.inr ⟨rfl,rfl⟩,λb z=>absurd z (noA b),e0.bs,e0.bsz,λb _ _=>noA b,λb z=>absurd z (noA b),e0.uo,e0.frf⟩,
  rfl,e0.bare,Un.kept hk,⟨_,x.toInCall.ns,λi y v h1 h2 h3=>?_⟩,λy c h=>⟨_,x.cell y c h⟩,e0.hok.fresh (kq _),λy c h=>?_,λp hp=>absurd (show p∈([]:List (Addr×Obj)) from hp) (by simp),e0.hok.kept hk,?_⟩
 ·exact name_of_addr x.apart (akB h1) (akB h2)
 ·have hy:scope.names.lookup y=some .cell\/scope.names.lookup y=some .free:=hy;rcases hy with hy | hy
  ·exact FT hy
  ·exact absurd rfl (S.VB _ (akB hy))
 ·exact Nat.le_of_lt (x.above y c (akB h))
 ·have hi:i < vs.length:=by
   unfold start at h2
   by_cases hi:i < vs.length
   ·exact hi
   ·rw[akA (by simpa using hi)]at h2
    rw[List.getElem?_replicate]at h2;split at h2 <;> cases h2
  have ha:vs[i]?=some v:=by
   unfold start at h2;rw[akP (by simpa using hi),aj0]at h2
   cases e:vs[i]? with
   |none=>rw[e]at h2;cases h2
   |some a=>rw[e]at h2;cases h2;rfl
  obtain⟨u,hu,rv⟩:=r.get ha;have hp:ps[i]?=some y:=by
   rw[<-S.pre,List.getElem?_take_of_lt (by omega)];exact h1
  have ndP:ps.Nodup:=by rw[<-S.pre];exact S.nd.sublist (List.take_sublist _ _)
  refine⟨u,rv,?_⟩;rcases S.par y (ajQ hp) with k | k
  ·exact .inl ⟨k,De ndP hp hu k⟩
  ·obtain⟨c,e⟩:=FT (n:=s.heap.objs.size+1) k;refine .inr ⟨.inl k,c,e,?_⟩;have q:=x.cell y c e;rw[Df ndP hp hu (by show scope.names.lookup y≠_;rw[k];decide)]at q
   exact q
 ·exact e0.hok.fresh (Nat.le_of_lt (x.above y c (akB h)))
 ·unfold start;show _=N.length;rw[kx,bo,akE];omega
theorem TN {CX:CXT}{P:me}{w:World}{K:ba}{mg:Str->Option Value}{base:Heap}{k:Nat}{f:Addr}{name qual:Str}{params:Arguments}{body:List Stmt}{scope:Scope}{dV kV doc pm cdv ct oc:Value}{an od:Option Addr}
  {osl:Array (Option Value)} {N ps:List Str} {sp:Sp} (lk:K.lookup f=some ⟨oc,od,.func (fe name qual params body scope dV kV doc pm an cdv ct),osl⟩) (hcd:de K cdv qual=true) (S:aT N ps scope)
  (len:∀vs H Q E,sp vs H Q E->vs.length=ps.length)
  (FU:∀(A:Around) (outer:List Env) (s:Shared) (H:Hp) (vs:List V) (Q:VK) (E:XK),Room k (A.deeper (envOfC qual scope s.heap.objs.size f cdv))->sp vs H Q E ->
   ∃t,PSs (vz CX P w K mg base N qual scope f cdv A outer s H E) body t/\t { nx:=λ_ H'=>Q .non H',rt:=Q } (start N vs) H) :
  aK P w K mg base CX (k+1) f (fe name qual params body scope dV kV doc pm an cdv ct) ps sp:=by
 refine⟨len,λA outer s H args us vs Q E hr e0 hb r hsp=>?_⟩
 have hl:=len _ _ _ _ hsp;have KX:K.In s.heap:=e0.mod.kin.keeps λb o e=>(e0.bs b o e).1
 have lim:s.heap.NoLimit:=e0.mod.nolimit.keeps λb o e=>(e0.bs b o e).1
 have ZV:∀y∈ps.zip us,scope.names.lookup y.1=some .local\/(scope.names.lookup y.1=some .cell/\((cellsFrom (s.heap.objs.size+1) scope.names []).lookup y.1).isSome=true):=λ⟨n,v⟩ hy=>by
  rcases S.par n (List.of_mem_zip hy).1 with q | q
  ·exact .inl q
  ·exact .inr ⟨q,PySem.W.cellsFrom_some _ _ _ (.inl q)⟩
 refine codeAny_call_function hr.depth (KX _ _ lk) rfl S.co S.gen rfl (PySem.W.codeRec_of KX hcd) (hb _ _ _ _ ?_);refine wpAny_newFunctionEnv_cells S.kind ZV λenv he s1 x=>?_
 subst he;refine⟨lim.keeps x.toInCall.keep,codeAny_func ?_⟩;obtain⟨t,ht,hq⟩:=FU A outer s H vs Q E (hr.deeper _) hsp;have I:Inv (vz CX P w K mg base N qual scope f cdv A outer s H E) [] (start N vs) H s1:=M3 S hr.hd e0 hl r x;refine wt (ht [] s1 (start N vs) H _ I hq) (λfl s' hs=>?_) λe s' hs=>hs
 have fin:∀ {σ':St} {H':Hp} {v:V} {u:Value},Inv (vz CX P w K mg base N qual scope f cdv A outer s H E) [] σ' H' s'->RelV v u->Q v H'->CE outer P w H s Q u s' :=
  λ{σ' H' v u} J rv q=>⟨v,H',J.os,J.bare,J.base,J.hok,rv,q⟩
 cases fl with
 |ret u =>
  obtain⟨v,σ',H',J,rv,q⟩:=hs;exact fin J rv q
 |next =>
  obtain⟨σ',H',J,q⟩:=hs;exact fin (v:=V.non) (u:=akM) J rfl q
 |brk =>
  obtain⟨_,_,_,q⟩:=hs;exact ajY q
 |cont =>
  obtain⟨_,_,_,q⟩:=hs;exact ajY q
end L2
namespace L2
open PySem PySem.Spec PyProof.Rows
section
variable{X:Cx}{x:Str}{p pos:Pos}{e:Expr}{es:List Expr}{t:TA}{id T:String}{r:List V->Hp->VK->Prop}
def tCB (r:List V->Hp->VK->Prop)(t:TA):TE:=λσ H Q=>t σ H λvs H1=>r vs H1 Q
theorem cI (hc:lY X (.builtin id) r)(hg:Gl X x)(hm:X.mg x=none)(hv:akz x=some (.builtin id))(ha:PA X (e::es) t)(hn:x≠"__name__":=by decide)(hdb:(x == ("__debug__":Str))=false:=by decide)
  (he:Lk (e::es) X.env=(false,eval e X.env)::Lk es X.env:=by rfl) (hpl:(backTo pos (Lk es X.env)).any (·.1)=false:=by rfl):PE X (.Call (.Name x p) (e::es) [] pos) (tCB r t):=by
 intro pins s σ H Q I h;refine wpAny_Call_Name_kw (JB I hg hm hv ?_ hn hdb);exact PyProof.Rows.callWith_builtin1 (thn (ha pos pins s σ H _ I h) λus s1 ⟨vs,H1,I1,r1,q1⟩=>hc pins s1 σ H1 vs us Q I1 r1 q1) he hpl
theorem eh (hc:lY X (.type T) r)(hg:Gl X x)(hm:X.mg x=none)(hv:akz x=some (.type T))(ha:PA X (e::es) t)(hn:x≠"__name__":=by decide)(hdb:(x == ("__debug__":Str))=false:=by decide)
  (he:Lk (e::es) X.env=(false,eval e X.env)::Lk es X.env:=by rfl) (hpl:(backTo pos (Lk es X.env)).any (·.1)=false:=by rfl):PE X (.Call (.Name x p) (e::es) [] pos) (tCB r t):=by
 intro pins s σ H Q I h;refine wpAny_Call_Name_kw (JB I hg hm hv ?_ hn hdb);exact PyProof.Rows.callWith_type1 (thn (ha pos pins s σ H _ I h) λus s1 ⟨vs,H1,I1,r1,q1⟩=>hc pins s1 σ H1 vs us Q I1 r1 q1) he hpl
end
end L2
namespace HT
open PySem PyProof.Rows
section
open PySem.SeqAt
open PySem.AutoSeq1 (wpAny_loadPart')
open PySem.MeetsSeq PySem.MeetsSeq2 PySem.MeetsSeq3
end
section
variable{prog:me}{w:World}{A:Around}{E:Value->Shared->Prop}{s:Shared}
theorem RI {t b:Addr}{vs ws:List Value}{Q:Value->Shared->Prop}(ht:IsTup s.heap t vs.toArray)(hb:IsTup s.heap b ws.toArray)(hv:vs≠[])
  (h1:ws=[]->Q (.ref t) s) (h2:ws≠[]->Q (.ref s.heap.objs.size) { s with heap:=s.heap.push { cls:=.type "tuple",data:=.seq (vs++ws).toArray } })
  (hsz:vs.length+ws.length<=ka):wpAny (model prog w) A (binaryOp .Add (.ref t) (.ref b)) Q E s:=by
 obtain⟨⟨cls,dd,data,sl⟩,ho,hc,n,hd⟩:=id ht;obtain⟨⟨ajC,dd2,data2,sl2⟩,ho2,hc2,n2,hd2⟩:=id hb;simp only at hc hd hc2 hd2;subst hc hd hc2 hd2;have e:vs.toArray++ws.toArray=(vs++ws).toArray:=by simp
 by_cases hw:ws=[]
 ·exact concat_meets ⟨_,ho,rfl⟩ ⟨_,ho2,rfl⟩ noFill_tuple_add seq_tuple_add PySem.F.slot_tuple_add PySem.F.entry_tuple_add (PySem.F.args_tuple_add_2 _ _)
   (tuple_addW1 t b vs.toArray ws.toArray n n2 dd dd2 sl sl2 (by simpa using hv) (by simp[hw])) ⟨ho,ho2,h1 hw⟩
 ·refine concat_meets ⟨_,ho,rfl⟩ ⟨_,ho2,rfl⟩ noFill_tuple_add seq_tuple_add PySem.F.slot_tuple_add PySem.F.entry_tuple_add (PySem.F.args_tuple_add_2 _ _)
   (tuple_addW2 t b vs.toArray ws.toArray n n2 dd dd2 sl sl2 (by simpa using hv) (by simpa using hw) (by rw[ko,ko];exact hsz)) ⟨ho,ho2,?_⟩
  rw[e];exact h2 hw
def sIx (n d:Nat):Option Int->Nat
 |none=>d
 |some v=>if v < 0 then (v+(n:Int)).toNat else min v.toNat n
theorem FV (n d:Nat):sIx n d none=d:=rfl
theorem vA (n d k:Nat):sIx n d (some (k:Int))=min k n:=by
 show (if (k:Int) < 0 then ((k:Int)+(n:Int)).toNat else min (k:Int).toNat n)=min k n
 rw[if_neg (by omega),Int.toNat_natCast]
theorem VC (n d:Nat)(hd:d<=n)(o:Option Int):sIx n d o<=n:=by
 cases o with
 |none=>exact hd
 |some v =>
  show (if v < 0 then (v+(n:Int)).toNat else min v.toNat n)<=n
  by_cases hv:v < 0
  ·rw[if_pos hv];omega
  ·rw[if_neg hv];exact Nat.min_le_right _ _
theorem L4 (v:Int)(n d:Nat):(if v < 0 then max (v+(n:Int)) 0 else min v (n:Int))=((sIx n d (some v):Nat):Int):=by
 show (if v < 0 then max (v+(n:Int)) 0 else min v (n:Int))=(((if v < 0 then (v+(n:Int)).toNat else min v.toNat n):Nat):Int)
 by_cases hv:v < 0
 ·simp only[if_pos hv];omega
 ·simp only[if_neg hv];omega
theorem JO (lo hi:Option Int)(n:Nat):Builtin.Slice.sliceAdjust lo hi 1 (n:Int)=(((sIx n 0 lo:Nat):Int),((sIx n n hi:Nat):Int)):=by
 have h1:¬((1:Int) < 0):=by omega
 unfold Builtin.Slice.sliceAdjust;simp only[h1,if_false];refine Prod.ext ?_ ?_
 ·cases lo with
  |none=>rfl
  |some v=>exact L4 v n 0
 ·cases hi with
  |none=>rfl
  |some v=>exact L4 v n n
theorem JP (i j:Nat):akQ (i:Int) (j:Int) 1=j - i:=by
 unfold akQ;have h1:(1:Int) > 0:=by omega
 simp only[h1,if_true,Int.ediv_one];split <;> omega
theorem AN {v:Value}{o:Option Int}{Q:Option Int->Shared->Prop}(p:IsPart v o)(h:Q o s):wpAny (model prog w) A (Builtin.Slice.slicePartIndex v) Q E s:=by
 cases p with
 |none=>exact slicePart_none h
 |int i t=>exact slicePart_int h
theorem xu {sl:Addr}{vl vu:Value}{lo hi:Option Int}{n:Nat}{Q:Int×Int×Nat->Shared->Prop}(hs:s.heap.IsSliceOf sl vl vu .none)(pl:IsPart vl lo)(pu:IsPart vu hi)
  (h:Q (((sIx n 0 lo:Nat):Int),1,sIx n n hi - sIx n 0 lo) s):wpAny (model prog w) A (Builtin.Slice.sliceApplied (.ref sl) (pure (n:Int))) Q E s:=by
 obtain⟨os,hos,hcs,hds⟩:=id hs;unfold Builtin.Slice.sliceApplied Builtin.Slice.sliceFields;refine eg (eg (wpAny_field hos hds (x:=vl) rfl (eg (wpAny_field hos hds (x:=vu) rfl (eg (wpAny_field hos hds (x:=.none) rfl (si ?_)))))));refine eg (slicePart_none ?_);show wpAny _ _ (if ((1:Int) == 0)=true then _ else _) _ _ s
 rw[if_neg (by decide)]
 refine eg (AN pl (eg (AN pu (eg (si ?_)))));show wpAny _ _ (match Builtin.Slice.sliceAdjust lo hi 1 (n:Int) with | (lo,hi)=>pure (lo,(1:Int),akQ lo hi 1)) _ _ s
 rw[JO lo hi n];show wpAny _ _ (pure (((sIx n 0 lo:Nat):Int),(1:Int),akQ ((sIx n 0 lo:Nat):Int) ((sIx n n hi:Nat):Int) 1)) _ _ s;rw[JP];exact si h
theorem OG (xs:Array Value)(i k:Nat):((List.range k).filterMap λ(m:Nat)=>xs[((i:Int)+(m:Int) * 1).toNat]?).toArray=((xs.toList.drop i).take k).toArray:=by
 have e:(λ(m:Nat)=>xs[((i:Int)+(m:Int) * 1).toNat]?)=λm=>xs[i+m]?:=by
  funext m
  have:((i:Int)+(m:Int) * 1).toNat=i+m:=by omega
  rw[this]
 rw[e];have:=pick_run xs i k;rw[List.filterMap_map]at this;have e2:((λx=>xs[x]?)∘λx=>i+x)=λm=>xs[i+m]?:=rfl
 rw[e2]at this;rw[this]
theorem vB {t sl:Addr}{items:Array Value}{vl vu:Value}{lo hi:Option Int}{Q:Value->Shared->Prop}(ht:IsTup s.heap t items)(hs:s.heap.IsSliceOf sl vl vu .none)(pl:IsPart vl lo)(pu:IsPart vu hi)
  (hw:¬(sIx items.size 0 lo=0/\sIx items.size items.size hi=items.size))
  (h:Q (.ref s.heap.objs.size) { s with heap:=s.heap.push { cls:=.type "tuple",data:=.seq ((items.toList.drop (sIx items.size 0 lo)).take (sIx items.size items.size hi - sIx items.size 0 lo)).toArray } })
  (hsz:items.size<=ka):wpAny (model prog w) A (getItem (.ref t) (.ref sl)) Q E s:=by
 have L5:sizeOk (.seq ((items.toList.drop (sIx items.size 0 lo)).take (sIx items.size items.size hi - sIx items.size 0 lo)).toArray):=by
  show ((items.toList.drop (sIx items.size 0 lo)).take (sIx items.size items.size hi - sIx items.size 0 lo)).toArray.size<=ka;rw[ko,akd,akL,akT];omega
 have hj:sIx items.size items.size hi<=items.size:=VC _ _ (kq _) hi;obtain⟨os,hos,hcs,hds⟩:=id hs;have hTs:s.TypeIs (.ref sl) "slice":=⟨os,hos,hcs⟩;unfold getItem
 try with_reducible refine wpAny_holding ?_
 first | refine eg (si ?_) | skip
 refine eg (wpAny_sequenceKey ht.typeIs (by decide) ?_)
 refine eg (wpAny_callSpecial?_slot (name:=ar "__getitem__") ht.typeIs PyProof.Rows.slot_tuple_getitem
  (wpAny_call_entry PyProof.Rows.slot_tuple_getitem ht.typeIs entry_tuple_getitem ?_ (args_tuple_getitem _ _)))
 show wpAny _ _ (Builtin.Tuple.tupleItemsOf (.ref t) >>= _) _ _ s;refine eg (tupleItemsOf_ ht ?_);refine eg (wpAny_typeOf hTs ?_);rw[if_pos (by decide)]
 refine eg (xu hs pl pu ?_);have hno:¬((((sIx items.size 0 lo:Nat):Int) == 0 && (1:Int) == 1 && (sIx items.size items.size hi - sIx items.size 0 lo) == items.size)=true):=by
  intro q;rw[akw,akw]at q;have q1:((sIx items.size 0 lo:Nat):Int)=0:=eq_of_beq q.1.1;have q2:sIx items.size items.size hi - sIx items.size 0 lo=items.size:=eq_of_beq q.2;exact hw ⟨by omega,by omega⟩
 show wpAny _ _ (if (((sIx items.size 0 lo:Nat):Int) == 0 && (1:Int) == 1 && (sIx items.size items.size hi - sIx items.size 0 lo) == items.size)=true then _ else _) _ _ s
 rw[if_neg hno,OG]
 first
  |exact eg (m:=akS _) (wpAny_newObj_type (si ⟨_,rfl,si h⟩) L5)
  |exact eg (m:=akS _) (wpAny_newObj_type (eg (si (si ⟨_,rfl,si h⟩))) L5)
  |exact eg (eg (m:=akS _) (wpAny_newObj_type (si (si ⟨_,rfl,si h⟩)) L5))
  |exact eg (eg (m:=akS _) (wpAny_newObj_type (si ⟨_,rfl,si h⟩) L5))
end
end HT
namespace L2
open PySem PySem.Spec PyProof.Rows
abbrev TO:=St->Hp->(Option Int->Hp->Prop)->Prop
def PO (X:Cx)(e:Option Expr)(t:TO):Prop :=
 ∀(pins:List (Addr×Obj)) (s:Shared) (σ:St) (H:Hp) (Q:Option Int->Hp->Prop),Inv X pins σ H s->t σ H Q ->
  wpAny (model X.prog X.w) X.A (evalPart e X.env) (λu s'=>∃o H',Inv X pins σ H' s'/\IsPart u o/\Q o H') X.xe s
def RJ:TO:=λ_ H Q=>Q none H
def ZW (t:TE):TO:=λσ H Q=>t σ H λx H1=>∃i,x=.int i/\Q (some i) H1
section
variable{X:Cx}{e:Expr}{te:TE}{lo hi:Option Expr}{tl th:TO}{pos p2:Pos}
theorem vC:PO X none RJ:=by
 intro pins s σ H Q I h;rw[evalPart_none];exact si ⟨none,H,I,.none,h⟩
theorem ql (h:PE X e te):PO X (some e) (ZW te):=by
 intro pins s σ H Q I hw;rw[evalPart_some];refine thn (h pins s σ H _ I hw) λu s1 ⟨x,H1,I1,r1,q1⟩=>?_
 obtain⟨i,rfl,q⟩:=q1;obtain⟨t,rfl⟩:=r1;exact⟨some i,H1,I1,.int i t,q⟩
def SlR (X:Cx)(r:V->Option Int->Option Int->Hp->VK->Prop):Prop :=
 ∀(pins:List (Addr×Obj)) (s:Shared) (σ:St) (H:Hp) (x:V) (v vl vu:Value) (lo hi:Option Int) (sl:Addr) (Q:VK),Inv X pins σ H s->RelV x v->s.heap.IsSliceOf sl vl vu .none->IsPart vl lo->IsPart vu hi->r x lo hi H Q ->
  ∃T id,typeLookup (.type T) "__getitem__"=pure (some (.builtin id))/\s.TypeIs v T/\wpAny (model X.prog X.w) X.A (getItem v (.ref sl)) (EP X pins σ Q) X.xe s
theorem SlR.or {r r':V->Option Int->Option Int->Hp->VK->Prop}(h:SlR X r)(h':SlR X r'):SlR X (λx lo hi H Q=>r x lo hi H Q\/r' x lo hi H Q):=by
 intro pins s σ H x v vl vu lo hi sl Q I rx hs pl pu q;rcases q with q | q
 ·exact h pins s σ H x v vl vu lo hi sl Q I rx hs pl pu q
 ·exact h' pins s σ H x v vl vu lo hi sl Q I rx hs pl pu q
def tSl (r:V->Option Int->Option Int->Hp->VK->Prop)(te:TE)(tl th:TO):TE:=λσ H Q=>te σ H λx H1=>tl σ H1 λl H2=>th σ H2 λu H3=>r x l u H3 Q
theorem oG {r:V->Option Int->Option Int->Hp->VK->Prop}(hr:SlR X r)(he:PE X e te)(hl:PO X lo tl)(hu:PO X hi th):PE X (.Subscript e (.Slice lo hi none p2) pos) (tSl r te tl th):=by
 intro pins s σ H Q I h;refine Subscript_ (thn (he pins s σ H _ I h) λv s1 ⟨x,H1,I1,r1,q1⟩=>?_)
 refine wpAny_Slice (thn (hl pins s1 σ H1 _ I1 q1) λvl s2 ⟨l,H2,I2,pl,q2⟩=>thn (hu pins s2 σ H2 _ I2 q2) λvu s3 ⟨u,H3,I3,pu,q3⟩=>?_)
 rw[evalPart_none];refine si ?_;have I4:Inv X pins σ H3 { s3 with heap:=s3.heap.push { cls:=.type "slice",data:=.fields #[vl,vu,.none] } }:=I3.kept (t':=s3.toks) λb ob q=>gr _ q
 obtain⟨T,id,hT,ht,hg⟩:=hr pins { s3 with heap:=s3.heap.push { cls:=.type "slice",data:=.fields #[vl,vu,.none] } } σ H3 x v vl vu l u s3.heap.objs.size Q I4 r1 (Heap.IsSliceOf.new ..) pl pu q3
 show wpAny (model X.prog X.w) X.A (subscriptTail e (.Slice lo hi none p2) v (.ref s3.heap.objs.size)) (EP X pins σ Q) X.xe { s3 with heap:=s3.heap.push { cls:=.type "slice",data:=.fields #[vl,vu,.none] } }
 exact tail_any (ops:=[.ref s3.heap.objs.size,v]) ht hT hg (by with_unfolding_all rfl)
def f9 (xs:List V)(lo hi:Option Int):List V:=(xs.drop (HT.sIx xs.length 0 lo)).take (HT.sIx xs.length xs.length hi - HT.sIx xs.length 0 lo)
theorem iB (xs:List V)(lo hi:Option Int):(f9 xs lo hi).length<=xs.length:=by
 unfold f9;rw[akd,akL];omega
def ahp (K:ba):V->Option Int->Option Int->Hp->VK->Prop:=λx lo hi H Q=>∃a xs,x=.ref a/\SqT K H a xs /\
 ¬(HT.sIx xs.length 0 lo=0/\HT.sIx xs.length xs.length hi=xs.length)/\∀p,H p=none->Q (.ref p) (upd H p (.tup (f9 xs lo hi)))
theorem VD:SlR X (ahp X.K):=by
 intro pins s σ H x v vl vu lo hi sl Q I rx hs pl pu h;obtain⟨a,xs,rfl,hx,hw,q⟩:=h;cases rx;obtain⟨its,r,ht,hz⟩:=I.tuple hx;have hlen:its.toArray.size=xs.length:=by rw[ko];exact r.length.symm
 refine⟨"tuple",_,PyProof.Rows.slot_tuple_getitem.lookup,ht.typeIs,?_⟩;refine HT.vB ht hs pl pu (by rw[hlen];exact hw) ?_ (by rw[hlen];exact hz)
 rw[hlen];refine⟨.ref s.heap.objs.size,_,I.laid (t':=s.toks) (o:=.tup (f9 xs lo hi)) (λb ob q=>gr _ q) (kq _) ?_,rfl,q _ (I.hok.fresh (kq _))⟩
 exact⟨tm (iB xs lo hi) hz,_,(r.drop (HT.sIx xs.length 0 lo)).take (HT.sIx xs.length xs.length hi - HT.sIx xs.length 0 lo),IsTup.new _ _⟩
def ZX (K:ba):R2:=λx y H Q=>∃a b xs ys,x=.ref a/\y=.ref b/\SqT K H a xs/\SqT K H b ys/\xs≠[]/\xs.length+ys.length<=ka /\
 (ys=[]->Q (.ref a) H)/\(ys≠[]->∀p,H p=none->Q (.ref p) (upd H p (.tup (xs++ys))))
theorem Vals.Ep {xs:List V}{us:List Value}(r:Vals xs us):us=[]↔xs=[]:=by
 cases r with
 |nil=>simp
 |cons _ _=>simp
theorem RK:OpR X (binaryOp .Add) (ZX X.K):=by
 intro pins s σ H x y v u Q I rx ry h;obtain⟨a,b,xs,ys,rfl,rfl,ha,hb,hx,hz,q1,q2⟩:=h;cases rx;cases ry;obtain⟨its,r1,p1,_⟩:=I.tuple ha;obtain⟨FW,r2,p2,_⟩:=I.tuple hb;refine HT.RI p1 p2 (λz=>hx (r1.Ep.mp z)) (λz=>⟨.ref a,H,I,rfl,q1 (r2.Ep.mp z)⟩) (λz=>?_) (by rw[<-r1.length,<-r2.length];exact hz)
 refine⟨.ref s.heap.objs.size,_,I.laid (t':=s.toks) (o:=.tup (xs++ys)) (λb ob q=>gr _ q) (kq _) ?_,rfl,q2 (λw=>z (r2.Ep.mpr w)) _ (I.hok.fresh (kq _))⟩
 exact⟨by rw[kx];exact hz,_,r1.append r2,IsTup.new _ _⟩
end
end L2
namespace L2
open PySem PySem.Spec PyProof.Rows
def ixN (n:Nat)(i:Int):Option Nat:=if 0<=i then (if i < n then some i.toNat else none) else if -(n:Int)<=i then some (i+n).toNat else none
def atI {α:Type}(xs:List α)(i:Int):Option α:=(ixN xs.length i).bind λj=>xs[j]?
theorem Er {n:Nat}{i:Int}{j:Nat}(h:ixN n i=some j):seqIndex? i n=some j/\j < n/\-(n:Int)<=i/\i < n:=by
 unfold ixN at h
 by_cases h0:0<=i
 ·rw[if_pos h0]at h
  by_cases h1:i < n
  ·rw[if_pos h1]at h;have e:i.toNat=j:=ajJ h;exact⟨by rw[seqIndex_of h0 h1,e],by omega,by omega,h1⟩
  ·rw[if_neg h1]at h;cases h
 ·rw[if_neg h0]at h
  by_cases h1:-(n:Int)<=i
  ·rw[if_pos h1]at h;have e:(i+n).toNat=j:=ajJ h;exact⟨by rw[seqIndex_neg (by omega) h1,e],by omega,h1,by omega⟩
  ·rw[if_neg h1]at h;cases h
theorem Es {α:Type}{xs:List α}{i:Int}{v:α}(h:atI xs i=some v):∃j,seqIndex? i xs.length=some j/\xs[j]?=some v/\j < xs.length/\-(xs.length:Int)<=i/\i < xs.length:=by
 unfold atI at h;cases e:ixN xs.length i with
 |none=>rw[e]at h;cases h
 |some j =>
  rw[e]at h;obtain⟨h1,h2,h3,h4⟩:=Er e;exact⟨j,h1,h,h2,h3,h4⟩
theorem dF {α:Type}{xs:List α}{j:Nat}{v:α}(h:xs[j]?=some v):atI xs (j:Int)=some v:=by
 have hj:j < xs.length:=(List.getElem?_eq_some_iff.mp h).1;have e:ixN xs.length (j:Int)=some j:=by
  unfold ixN;rw[if_pos (by omega),if_pos (by omega)];simp
 unfold atI;rw[e];exact h
theorem iQ {α:Type}(xs:List α)(v:α):atI (xs++[v]) (-1)=some v:=by
 have hl:(xs++[v]).length=xs.length+1:=by simp
 have e:ixN (xs++[v]).length (-1)=some xs.length:=by
  unfold ixN;rw[hl,if_neg (by decide),if_pos (by omega)]
  congr 1
  omega
 unfold atI;rw[e];show (xs++[v])[xs.length]?=some v;simp
def RL (b:Expr):Prop:=∀o i,subscripted b false o i=operate [o,i] (getItem o i)
def IxR (X:Cx)(r:R2):Prop :=
 ∀(value slice:Expr) (pins:List (Addr×Obj)) (s:Shared) (σ:St) (H:Hp) (x y:V) (v u:Value) (Q:VK),Inv X pins σ H s->RelV x v->RelV y u->r x y H Q ->
  subscripted slice false v u=operate [v,u] (getItem v u)->wpAny (model X.prog X.w) X.A (subscriptTail value slice v u) (EP X pins σ Q) X.xe s
def MtR (X:Cx)(id:String)(r:V->List V->Hp->VK->Prop):Prop :=
 ∀(pins:List (Addr×Obj)) (s:Shared) (σ:St) (H:Hp) (x:V) (xs:List V) (v:Value) (us:List Value) (Q:VK),Inv X pins σ H s->RelV x v->Vals xs us->r x xs H Q ->
  wpAny (model X.prog X.w) X.A (call (.builtin id) (v::us)) (EP X pins σ Q) X.xe s
section
variable{X:Cx}{a b:Expr}{ta tb:TE}{pos:Pos}
theorem IxR.or {r r':R2}(h:IxR X r)(h':IxR X r'):IxR X (λx y H Q=>r x y H Q\/r' x y H Q):=by
 intro value slice pins s σ H x y v u Q I rx ry q hs;rcases q with q | q
 ·exact h value slice pins s σ H x y v u Q I rx ry q hs
 ·exact h' value slice pins s σ H x y v u Q I rx ry q hs
theorem MtR.or {id:String}{r r':V->List V->Hp->VK->Prop}(h:MtR X id r)(h':MtR X id r'):MtR X id (λx xs H Q=>r x xs H Q\/r' x xs H Q):=by
 intro pins s σ H x xs v us Q I rx rs q;rcases q with q | q
 ·exact h pins s σ H x xs v us Q I rx rs q
 ·exact h' pins s σ H x xs v us Q I rx rs q
theorem aJ {r:R2}(hr:IxR X r)(ha:PE X a ta)(hb:PE X b tb)(hs:RL b):PE X (.Subscript a b pos) (tOp r ta tb):=by
 intro pins s σ H Q I h;exact Subscript_ (Vu ha hb I h λv u s2 x y H2 I2 rx ry q=>hr a b pins s2 σ H2 x y v u Q I2 rx ry q (hs _ _))
def ZY (K:ba):R2:=λx y H Q=>∃p xs i v,x=.ref p/\y=.int i/\SqL K H p xs/\atI xs i=some v/\Q v H
def ZZ (K:ba):R2:=λx y H Q=>∃p xs i v,x=.ref p/\y=.int i/\SqT K H p xs/\atI xs i=some v/\Q v H
def Z0:R2:=λx y H Q=>∃z i c,x=.str z/\y=.int i/\z.length<=ka/\atI z.cps.toList i=some c/\Q (.str ⟨#[c]⟩) H
theorem bz:IxR X (ZY X.K):=by
 intro value slice pins s σ H x y v u Q I rx ry h hs;obtain⟨p,xs,i,z,rfl,rfl,hq,he,q⟩:=h;cases rx;obtain⟨t,rfl⟩:=ry;obtain⟨its,r,pl,hz⟩:=I.list hq;obtain⟨j,h1,h2,h3,h4,h5⟩:=Es he;obtain⟨w,ew,rw'⟩:=r.get h2;have hl:=r.length;have hn:=uF;have fin:EP X pins σ Q w s:=⟨z,H,I,rw',q⟩
 by_cases h0:0<=i
 ·have hj:i.toNat=j:=by
   rw[seqIndex_of h0 h5]at h1;exact ajJ h1
  exact item_listR pl.isList h0 (by omega) (by rw[hj];simpa using ew) fin hs
 ·have hj:(i+(its.toArray.size:Int)).toNat=j:=by
   rw[seqIndex_neg (by omega) h4]at h1
   rw[ko,<-hl];exact ajJ h1
  exact subscriptTail_builtinR (x:=w) pl.isList.typeIs slot_list_getitem.lookup
   (wpAny_getItem_list_neg (Q:=λr s'=>r=w/\EP X pins σ Q r s') pl.isList (by omega) (by rw[ko] <;> omega) (by omega) (by rw[hj];simpa using ew) ⟨rfl,fin⟩) hs
theorem aL:IxR X (ZZ X.K):=by
 intro value slice pins s σ H x y v u Q I rx ry h hs;obtain⟨p,xs,i,z,rfl,rfl,hq,he,q⟩:=h;cases rx;obtain⟨t,rfl⟩:=ry;obtain⟨its,r,pl,hz⟩:=I.tuple hq;obtain⟨j,h1,h2,h3,h4,h5⟩:=Es he;obtain⟨w,ew,rw'⟩:=r.get h2;have hl:=r.length;have hn:=uF;have fin:EP X pins σ Q w s:=⟨z,H,I,rw',q⟩;exact subscriptTail_builtinR (x:=w) pl.typeIs slot_tuple_getitem.lookup
  (getItem_tuple (j:=j) (Q:=λr s'=>r=w/\EP X pins σ Q r s') pl (by omega) (by omega) (by rw[ko,<-hl];exact h1) (by simpa using ew) ⟨rfl,fin⟩) hs
theorem JQ:IxR X Z0:=by
 intro value slice pins s σ H x y v u Q I rx ry h hs;obtain⟨z,i,c,rfl,rfl,hz,he,q⟩:=h;obtain⟨t,rfl⟩:=rx;obtain⟨t',rfl⟩:=ry;obtain⟨j,h1,h2,h3,h4,h5⟩:=Es he;have hl:z.cps.toList.length=z.length:=by simp[Str.length]
 rw[hl]at h1 h4 h5;have hn:=uF;exact tail_any (typeIs_str s z t) slot_str_getitem.lookup (getItem_str (c:=c) (by
  have e1:decide (i < -(2 ^ 63:Int))=false:=decide_eq_false (by omega)
  have e2:decide (i≥2 ^ 63)=false:=decide_eq_false (by omega)
  rw[e1,e2,Bool.or_false]) (by rw[h1];simpa using h2) ⟨.str ⟨#[c]⟩,H,I.tok _,⟨_,rfl⟩,q⟩) hs
def rIx (K:ba):R2:=λx y H Q=>ZY K x y H Q\/ZZ K x y H Q\/Z0 x y H Q
theorem VE:IxR X (rIx X.K):=bz.or (aL.or JQ)
theorem JR (its:List Value)(n j:Nat)(u:Value):Obj.mapSeq (·.setIfInBounds j u) { cls:=.type "list",data:=.seq its.toArray n }={ cls:=.type "list",data:=.seq (its.set j u).toArray n }:=by
 simp[Obj.mapSeq]
theorem Inv.lst {pins:List (Addr×Obj)}{σ:St}{H:Hp}{s:Shared}{p:Addr}{xs:List V}(I:Inv X pins σ H s)(h:H p=some (.lst xs)) :
  ∃(its:List Value) (n:Nat),Vals xs its/\s.heap.get? p=some { cls:=.type "list",data:=.seq its.toArray n }/\xs.length<=ka:=by
 obtain⟨z,its,n,r,e⟩:=I.hok p _ h;exact⟨its,n,r,e,z⟩
theorem Inv.VF {pins:List (Addr×Obj)}{σ:St}{H:Hp}{s:Shared}{p:Addr}{xs ys:List V}{its its':List Value}{n n':Nat}{f:Obj->Obj}(I:Inv X pins σ H s)(h:H p=some (.lst xs))
  (ho:s.heap.get? p=some { cls:=.type "list",data:=.seq its.toArray n }) (hf:f { cls:=.type "list",data:=.seq its.toArray n }={ cls:=.type "list",data:=.seq its'.toArray n' }) (r:Vals ys its') (hz:ys.length<=ka) (t:Nat) :
  Inv X pins σ (upd H p (.lst ys)) { s with heap:=s.heap.update p f,toks:=t }:=by
 have e:(s.heap.update p f).get? p=some { cls:=.type "list",data:=.seq its'.toArray n' }:=by
  rw[akF f ho (by rw[hf] <;> rfl),hf]
 refine I.write (x:=p) (e:=p) (by rw[h];trivial) (.inl rfl) (λb u hb q=>(akh _ _ (ajZ hb)).trans q) ⟨_,e⟩ ?_
 exact⟨hz,its',n',r,e⟩
def Z1:V->V->V->Hp->(Hp->Prop)->Prop:=λo i v H Q=>∃p xs k j,o=.ref p/\i=.int k/\H p=some (.lst xs)/\ixN xs.length k=some j/\Q (upd H p (.lst (xs.set j v)))
theorem set_list:ZJ X Z1:=by
 intro pins s σ H o i v ov iv u Q I ro ri rv h;obtain⟨p,xs,k,j,rfl,rfl,hp,hj,q⟩:=h;cases ro;obtain⟨t,rfl⟩:=ri;obtain⟨its,n,r,ho,hz⟩:=I.lst hp;obtain⟨h1,h2,h3,h4⟩:=Er hj;have hl:=r.length;have hn:=uF;have I':Inv X pins σ (upd H p (.lst (xs.set j v))) { s with heap:=s.heap.update p (Obj.mapSeq (·.setIfInBounds j u)) } :=
  I.VF hp ho (JR its n j u) (r.set rv j) (by rw[akC];exact hz) s.toks
 by_cases h0:0<=k
 ·have hk:k.toNat=j:=by
   rw[seqIndex_of h0 h4]at h1;exact ajJ h1
  exact PySem.W.ki_setAt ho h0 (by omega) (by rw[ko,<-hl];exact h4) (by rw[hk];exact⟨_,I',q⟩)
 ·have hk:(k+(its.toArray.size:Int)).toNat=j:=by
   rw[seqIndex_neg (by omega) h3]at h1
   rw[ko,<-hl];exact ajJ h1
  exact PySem.W.ki_setBack ho (by omega) (by rw[ko,<-hl];exact h3) (by omega) (by rw[hk];exact⟨_,I',q⟩)
theorem Et (lo hi:Option Int)(n:Nat):(sliceBounds lo hi none n).1=((HT.sIx n 0 lo:Nat):Int)/\(sliceBounds lo hi none n).2.1=((HT.sIx n n hi:Nat):Int)/\(sliceBounds lo hi none n).2.2=1:=by
 refine⟨?_,?_,rfl⟩
 ·cases lo with
  |none=>simp[sliceBounds,HT.sIx]
  |some i =>
   simp only[sliceBounds,HT.sIx,Option.getD_none,show (1:Int) > 0 by decide,if_true]
   by_cases h:i < 0
   ·simp only[h,if_true] <;> omega
   ·simp only[h,if_false] <;> omega
 ·cases hi with
  |none=>simp[sliceBounds,HT.sIx]
  |some i =>
   simp only[sliceBounds,HT.sIx,Option.getD_none,show (1:Int) > 0 by decide,if_true]
   by_cases h:i < 0
   ·simp only[h,if_true] <;> omega
   ·simp only[h,if_false] <;> omega
theorem CG (its:List Value)(lo hi:Option Int):slicePick its.toArray lo hi none=((its.drop (HT.sIx its.length 0 lo)).take (HT.sIx its.length its.length hi - HT.sIx its.length 0 lo)).toArray:=by
 obtain⟨h1,h2,h3⟩:=Et lo hi its.toArray.size;unfold slicePick;rw[h1,h2,h3];simp only[sliceRange_one,pick_run,ko] <;> rfl
def ahq (K:ba):V->Option Int->Option Int->Hp->VK->Prop:=λx lo hi H Q=>∃a xs,x=.ref a/\SqL K H a xs/\∀p,H p=none->Q (.ref p) (upd H p (.lst (f9 xs lo hi)))
theorem vD:SlR X (ahq X.K):=by
 intro pins s σ H x v vl vu lo hi sl Q I rx hs pl pu h;obtain⟨a,xs,rfl,hx,q⟩:=h;cases rx;obtain⟨its,r,ht,hz⟩:=I.list hx;have hlen:=r.length;refine⟨"list",_,slot_list_getitem.lookup,ht.isList.typeIs,?_⟩;refine wpAny_getItem_list_slice ht.isList hs pl pu .none (by simp) ?_ (by rw[ko] <;> omega)
 rw[CG,<-hlen];refine⟨.ref s.heap.objs.size,_,I.laid (t':=s.toks) (o:=.lst (f9 xs lo hi)) (λb ob q=>gr _ q) (kq _) ?_,rfl,q _ (I.hok.fresh (kq _))⟩
 exact⟨tm (iB xs lo hi) hz,_,0,(r.drop (HT.sIx xs.length 0 lo)).take (HT.sIx xs.length xs.length hi - HT.sIx xs.length 0 lo),ajM _ rfl⟩
def vE:V->Bool
 | .non=>true
 | .bl _=>true
 | .int _=>true
 | .str _=>true
 |_=>false
def eqV:V->V->Bool
 | .non,.non=>true
 | .bl a,.bl b=>a == b
 | .bl a,.int b=>(if a then 1 else 0) == b
 | .int a,.bl b=>a == (if b then 1 else 0)
 | .int a,.int b=>a == b
 | .str a,.str b=>a == b
 |_,_=>false
theorem VG {A:Around}{s:Shared}{y x:V}{u v:Value}(ry:RelV y u)(rx:RelV x v)(fy:vE y=true)(fx:vE x=true):SeqAt.EqAt A s u v (eqV y x):=by
 cases y with
 |non =>
  cases ry;cases x with
  |non=>cases rx;exact SeqAt.EqAt.same _
  |bl b=>cases rx;exact SeqAt.EqAt.none_bool b
  |int b=>obtain⟨t,rfl⟩:=rx;exact SeqAt.EqAt.none_int b t
  |str b=>obtain⟨t,rfl⟩:=rx;exact SeqAt.EqAt.none_str b t
  |_=>exact absurd (show false=true from fx) ku
 |bl a =>
  cases ry;cases x with
  |non=>cases rx;exact SeqAt.EqAt.bool_none a
  |bl b=>cases rx;exact SeqAt.EqAt.bool_bool a b
  |int b=>obtain⟨t,rfl⟩:=rx;exact SeqAt.EqAt.bool_int a b t
  |str b=>obtain⟨t,rfl⟩:=rx;exact SeqAt.EqAt.bool_str a b t
  |_=>exact absurd (show false=true from fx) ku
 |int a =>
  obtain⟨t',rfl⟩:=ry;cases x with
  |non=>cases rx;exact SeqAt.EqAt.int_none a t'
  |bl b=>cases rx;exact SeqAt.EqAt.int_bool a t' b
  |int b=>obtain⟨t,rfl⟩:=rx;exact SeqAt.EqAt.int_int a t' b t
  |str b=>obtain⟨t,rfl⟩:=rx;exact SeqAt.EqAt.int_str a t' b t
  |_=>exact absurd (show false=true from fx) ku
 |str a =>
  obtain⟨t',rfl⟩:=ry;cases x with
  |non=>cases rx;exact SeqAt.EqAt.str_none a t'
  |bl b=>cases rx;exact SeqAt.EqAt.str_bool a t' b
  |int b=>obtain⟨t,rfl⟩:=rx;exact SeqAt.EqAt.str_int a t' b t
  |str b=>obtain⟨t,rfl⟩:=rx;exact SeqAt.EqAt.str_str a t' b t
  |_=>exact absurd (show false=true from fx) ku
 |_=>exact absurd (show false=true from fy) ku
def eqU (x:V)(u:Value):Bool:=match u with
 | .none=>eqV .non x
 | .bool b=>eqV (.bl b) x
 | .int i _=>eqV (.int i) x
 | .str z _=>eqV (.str z) x
 |_=>false
theorem JS {x y:V}{u:Value}(r:RelV y u)(f:vE y=true):eqU x u=eqV y x:=by
 cases y with
 |non=>cases r;rfl
 |bl b=>cases r;rfl
 |int i=>obtain⟨t,rfl⟩:=r;rfl
 |str z=>obtain⟨t,rfl⟩:=r;rfl
 |_=>exact absurd (show false=true from f) ku
theorem Eu {x:V}:∀ {xs:List V} {us:List Value},Vals xs us->xs.all vE=true->us.any (eqU x)=xs.any λy=>eqV y x
 |_,_,.nil,_=>rfl
 |y::xs,u::us,.cons r t,f=>by
  rw[List.all_cons,akw]at f;rw[List.any_cons,List.any_cons,JS r f.1,Eu t f.2]
theorem vF {A:Around}{s:Shared}{x:V}{v:Value}(rx:RelV x v)(fx:vE x=true):∀ {xs:List V} {us:List Value},Vals xs us->xs.all vE=true->∀u∈us,SeqAt.EqAt A s u v (eqU x u)
 |_,_,.nil,_=>λu hu=>by cases hu
 |y::xs,u::us,.cons r t,f=>λu' hu=>by
  rw[List.all_cons,akw]at f;rcases List.mem_cons.mp hu with rfl | hu
  ·rw[JS r f.1];exact VG r rx f.1 fx
  ·exact vF rx fx t f.2 u' hu
def inV (x:V)(xs:List V):Bool:=xs.any λy=>eqV y x
def rIn (K:ba)(neg:Bool):R2:=λx y H Q=>∃p xs,y=.ref p/\(SqL K H p xs\/SqT K H p xs)/\vE x=true/\xs.all vE=true/\Q (.bl (if neg then !inV x xs else inV x xs)) H
theorem tU:OpR X (akv .In) (rIn X.K false):=by
 intro pins s σ H x y v u Q I rx ry h;obtain⟨p,xs,rfl,hq,fx,fs,q⟩:=h;cases ry;rcases hq with hq | hq
 ·obtain⟨its,r,pl,hz⟩:=I.list hq;refine SeqAt.in_listAt (eqU x) pl.isList (λw hw=>vF rx fx r fs w (by simpa using hw)) ⟨.bl _,H,I,rfl,?_⟩
  rw[show its.toArray.any (eqU x)=its.any (eqU x) by simp,Eu r fs]
  exact q
 ·obtain⟨its,r,pl,hz⟩:=I.tuple hq;refine SeqAt.in_tupleAt (eqU x) pl (λw hw=>vF rx fx r fs w (by simpa using hw)) ⟨.bl _,H,I,rfl,?_⟩
  rw[show its.toArray.any (eqU x)=its.any (eqU x) by simp,Eu r fs]
  exact q
theorem dh:lY X (.builtin "len") (λxs H Q=>∃p ys,xs=[.ref p]/\(SqL X.K H p ys\/SqT X.K H p ys)/\Q (.int ys.length) H):=by
 intro pins s σ H xs us Q I r h;obtain⟨p,ys,rfl,hq,q⟩:=h;obtain⟨u,rfl,rx⟩:=vals1 r;cases rx;have hn:=uF;rcases hq with hq | hq
 ·obtain⟨its,r',pl,hz⟩:=I.list hq;have hlen:=r'.length;exact Calls.call_len_list pl.isList (by simp only[ko] <;> omega) ⟨.int ys.length,H,I.tok _,⟨s.toks+1,by rw[ko,hlen]⟩,q⟩
 ·obtain⟨its,r',pl,hz⟩:=I.tuple hq;have hlen:=r'.length;exact len_tuple pl (by simp only[ko] <;> omega) ⟨.int ys.length,H,I.tok _,⟨s.toks+1,by rw[ko,hlen]⟩,q⟩
theorem lY.or {f:Value}{r r':List V->Hp->VK->Prop}(h:lY X f r)(h':lY X f r'):lY X f (λxs H Q=>r xs H Q\/r' xs H Q):=by
 intro pins s σ H xs us Q I rs q;rcases q with q | q
 ·exact h pins s σ H xs us Q I rs q
 ·exact h' pins s σ H xs us Q I rs q
theorem eT:lY X (.type "list") (λxs H Q=>∃p ys,xs=[.ref p]/\(SqL X.K H p ys\/SqT X.K H p ys)/\∀l,H l=none->Q (.ref l) (upd H l (.lst ys))):=by
 intro pins s σ H xs us Q I r h;obtain⟨p,ys,rfl,hq,q⟩:=h;obtain⟨u,rfl,rx⟩:=vals1 r;cases rx;have fin:∀(its:List Value),Vals ys its->ys.length<=ka->∀(h':Heap) (c':Nat),(∀b o',s.heap.get? b=some o'->h'.get? b=some o') ->
   h'.get? s.heap.objs.size=some { cls:=.type "list",dict:=none,data:=.seq its.toArray c',slots:=#[] }->EP X pins σ Q (.ref s.heap.objs.size) { s with heap:=h' }:=λits r' hz h' c' kp e =>
  ⟨.ref s.heap.objs.size,_,I.laid (t':=s.toks) kp (kq _) (show fU X.prog X.w _ h' _ (.lst ys) from ⟨hz,its,c',r',e⟩),rfl,q _ (I.hok.fresh (kq _))⟩
 rcases hq with hq | hq
 ·obtain⟨its,r',pl,hz⟩:=I.list hq;have hlen:=r'.length;obtain⟨o,ho,hc,n,hd⟩:=pl.isList;exact call_list_seq p (.inl rfl) ho hc hd (λh' c' kp e=>fin its r' hz h' c' kp e) (by simp only[ko] <;> omega)
 ·obtain⟨its,r',pl,hz⟩:=I.tuple hq;have hlen:=r'.length;obtain⟨o,ho,hc,n,hd⟩:=pl;exact call_list_seq p (.inr rfl) ho hc hd (λh' c' kp e=>fin its r' hz h' c' kp e) (by simp only[ko] <;> omega)
def tyV (K:ba)(T:String)(x:V)(H:Hp):Prop:=match x with
 | .str _=>T="str"
 | .int _=>T="int"
 | .ref p=>(T="list"/\∃xs,SqL K H p xs)\/(T="tuple"/\∃o,K.lookup p=some o/\o.cls=.type "tuple"/\o.dict=none) \/
   (T="dict"/\((∃kvs,H p=some (.dK kvs))\/∃kvs,H p=some (.dT kvs)))\/(T="set"/\∃S n,H p=some (.set S n))
 |_=>False
theorem OH {pins:List (Addr×Obj)}{σ:St}{H:Hp}{s:Shared}{T:String}{x:V}{v:Value}(I:Inv X pins σ H s)(r:RelV x v)(ty:tyV X.K T x H) :
  s.TypeIs v T/\∀a,v=.ref a->∃ob,s.heap.get? a=some ob/\ob.dict=none:=by
 cases x with
 |str z =>
  obtain⟨t,rfl⟩:=r;cases (show T="str" from ty)
  exact⟨typeIs_str s z t,λ_ e=>nomatch e⟩
 |int i =>
  obtain⟨t,rfl⟩:=r;cases (show T="int" from ty)
  exact⟨typeIs_int s i t,λ_ e=>nomatch e⟩
 |ref p =>
  cases r;rcases ty with ⟨rfl,xs,hq⟩ | ⟨rfl,o,hk,hc,hd⟩ | ⟨rfl,hk⟩ | ⟨rfl,S,n,hk⟩
  ·obtain⟨its,_,pl,_⟩:=I.list hq;refine⟨pl.isList.typeIs,λa e=>?_⟩
   cases e;obtain⟨o,n,e,c,hd,_⟩:=pl;exact⟨o,e,hd⟩
  ·refine⟨⟨o,I.kIn p o hk,hc⟩,λa e=>?_⟩
   cases e;exact⟨o,I.kIn _ o hk,hd⟩
  ·have z:∃o,s.heap.get? p=some o/\o.ExactDict:=by
    rcases hk with ⟨kvs,hk⟩ | ⟨kvs,hk⟩
    ·obtain⟨_,_,_,_,o,_,_,e,ex,_⟩:=I.hok p _ hk;exact⟨o,e,ex⟩
    ·obtain⟨_,_,_,_,o,_,_,e,ex,_⟩:=I.hok p _ hk;exact⟨o,e,ex⟩
   obtain⟨o,e,ex⟩:=z;refine⟨⟨o,e,ex.1⟩,λa e2=>?_⟩
   cases e2;exact⟨o,e,ex.2.1⟩
  ·obtain⟨o,_,_,_,e,ex,_⟩:=I.hok p _ hk;refine⟨⟨o,e,ex.1⟩,λa e2=>?_⟩
   cases e2;exact⟨o,e,ex.2.1⟩
 |_=>exact ajY ty
def ahr (K:ba)(T:String)(r:V->List V->Hp->VK->Prop)(to:TE):TE:=λσ H Q=>to σ H λx H1=>tyV K T x H1/\r x [] H1 Q
def tBM (K:ba)(T:String)(r:V->List V->Hp->VK->Prop)(to:TE)(t:TA):TE:=λσ H Q=>to σ H λx H1=>tyV K T x H1/\t σ H1 λxs H2=>r x xs H2 Q
variable{o e:Expr}{es:List Expr}{to:TE}{t:TA}{name:Str}{apos gf:Pos}{T id:String}{r:V->List V->Hp->VK->Prop}
theorem OI (pa:PlainAttrs T)(slot:Slot T name id)(hty:typeOf (.builtin id)=pure (.type "method_descriptor"))(hm:MtR X id r)(ho:PE X o to)
  (FX:attributeBase o name X.env (eval o X.env)=eval o X.env:=by rfl) (OJ:(apos.endLine == gf.line)=true:=by rfl):PE X (.Call (.Attribute o name apos) [] [] gf) (ahr X.K T r to):=by
 intro pins s σ H Q I h;refine wpAny_Call_method0_late FX OJ (thn (ho pins s σ H _ I h) λv s1 ⟨x,H1,I1,r1,ty,q1⟩=>?_)
 obtain⟨h1,h2⟩:=OH I1 r1 ty;exact⟨T,id,pa,slot,hty,h1,h2,Calls.callWith_builtin rfl (PySem.evalArgs_none (hm pins s1 σ H1 x [] v [] Q I1 r1 .nil q1))⟩
theorem gR (pa:PlainAttrs T)(slot:Slot T name id)(hty:typeOf (.builtin id)=pure (.type "method_descriptor"))(hm:MtR X id r)(ho:PE X o to)(ha:PA X (e::es) t)
  (FX:attributeBase o name X.env (eval o X.env)=eval o X.env:=by rfl)
  (ahs:((backTo gf (Lk (e::es) X.env)).all (λx=>!x.1) && (backToKw gf (keywordEach [] X.env)).all (λx=>x.1.isSome)
   && decide ((e::es).length+([]:List Keyword).length+(if ([]:List Keyword).isEmpty then 0 else 1) < 30))=true:=by rfl)
  (OJ:(apos.endLine == gf.line)=true:=by rfl) (hs:Lk (e::es) X.env=(false,eval e X.env)::Lk es X.env:=by rfl) (VH:(backTo gf (Lk es X.env)).any (·.1)=false:=by rfl) :
  PE X (.Call (.Attribute o name apos) (e::es) [] gf) (tBM X.K T r to t):=by
 intro pins s σ H Q I h;refine wpAny_Call_method_late FX ahs OJ rfl (thn (ho pins s σ H _ I h) λv s1 ⟨x,H1,I1,r1,ty,q1⟩=>?_)
 obtain⟨h1,h2⟩:=OH I1 r1 ty;refine⟨T,id,pa,slot,hty,h1,h2,?_⟩;have hA:=ha gf pins s1 σ H1 _ I1 q1;rw[hs]at hA ⊢;refine Calls.callWith_builtin (by show (false || (backTo gf (Lk es X.env)).any (·.1))=false;rw[VH] <;> rfl) (Calls.evalArgs_plain ?_)
 exact thn hA λus s2 ⟨vs,H2,I2,r2,q2⟩=>hm pins s2 σ H2 x vs v us Q I2 r1 r2 q2
end
end L2
namespace L2
open PySem PySem.Spec PyProof.Rows
def MtM (X:Cx)(id:String)(r:V->List V->Hp->VK->Prop):Prop :=
 ∀(pins:List (Addr×Obj)) (s:Shared) (σ:St) (H:Hp) (x:V) (xs:List V) (v:Value) (us:List Value) (Q:VK),Inv X pins σ H s->RelV x v->Vals xs us->r x xs H Q ->
  wpAny (model X.prog X.w) X.A (call (.builtin id) (v::us)) (EP X pins σ Q) X.xe s
theorem Vals.one:∀ {x:V} {us:List Value},Vals [x] us->∃u,us=[u]/\RelV x u
 |_,_,.cons r .nil=>⟨_,rfl,r⟩
theorem Vals.two:∀ {x y:V} {us:List Value},Vals [x,y] us->∃u v,us=[u,v]/\RelV x u/\RelV y v
 |_,_,_,.cons r (.cons q .nil)=>⟨_,_,rfl,r,q⟩
theorem Vals.zero:∀ {us:List Value},Vals [] us->us=[]
 |_,.nil=>rfl
theorem Vals.dropLast {xs:List V}{us:List Value}(h:Vals xs us):Vals xs.dropLast us.dropLast:=by
 induction h with
 |nil=>exact .nil
 |cons r t ih =>
  cases t with
  |nil=>exact .nil
  |cons q t'=>exact .cons r ih
theorem Vals.eraseIdx:∀ {xs:List V} {us:List Value} (i:Nat),Vals xs us->Vals (xs.eraseIdx i) (us.eraseIdx i)
 |_,_,_,.nil=>.nil
 |_,_,0,.cons _ t=>t
 |_,_,i+1,.cons r t=>.cons r (Vals.eraseIdx i t)
theorem Vals.rep {xs:List V}{us:List Value}(h:Vals xs us):∀k:Nat,Vals (akW k xs).flatten (akW k us).flatten
 | 0=>.nil
 |k+1=>by
  rw[List.replicate_succ,List.replicate_succ,List.flatten_cons,List.flatten_cons];exact Vals.append h (Vals.rep h k)
theorem JT {α:Type}(l:List α):l.eraseIdx (l.length - 1)=l.dropLast:=by
 induction l with
 |nil=>rfl
 |cons a r ih =>
  cases r with
  |nil=>rfl
  |cons b r =>
   have e:(a::b::r).length - 1=((b::r).length - 1)+1:=by
    have h1:(a::b::r).length=r.length+2:=rfl;have h2:(b::r).length=r.length+1:=rfl;omega
   rw[e,List.eraseIdx_cons_succ,ih]
   all_goals rfl
theorem Dg {α:Type}:∀(l:List α) (i:Nat),(l.eraseIdx i).length<=l.length
 |[],_=>kq _
 |_::_,0=>akq _
 |_::r,i+1=>Nat.succ_le_succ (Dg r i)
section
variable{X:Cx}{pins:List (Addr×Obj)}{σ:St}{H:Hp}{s:Shared}{l b:Addr}{xs ys zs:List V}
theorem Inv.OK {its its':List Value}{n:Nat}{f:Array Value->Array Value}{t':Nat}(I:Inv X pins σ H s)(hH:H l=some (.lst xs))
  (e:s.heap.get? l=some { cls:=.type "list",data:=.seq its.toArray n }) (hf:f its.toArray=its'.toArray) (hv:Vals ys its') (hz:ys.length<=ka) :
  Inv X pins σ (upd H l (.lst ys)) { s with heap:=s.heap.update l (Obj.mapSeq f),toks:=t' }:=by
 have q:=PySem.IsL.update e f;rw[hf]at q;refine I.write (x:=l) (e:=l) (by rw[hH];exact trivial) (.inl rfl) (λb' u hb hu=>(akh s.heap (Obj.mapSeq f) (ajZ hb)).trans hu) ⟨_,q⟩ ?_
 exact⟨hz,its',_,hv,q⟩
theorem Inv.Z2 {its:List Value}{t':Nat}(I:Inv X pins σ H s)(hv:Vals ys its)(hz:ys.length<=ka) :
  Inv X pins σ (upd H s.heap.objs.size (.lst ys)) { s with heap:=s.heap.push { cls:=.type "list",data:=.seq its.toArray },toks:=t' } :=
 I.laid (λ_ _ q=>gr _ q) (kq _) ⟨hz,its,0,hv,ajM _ rfl⟩
theorem Inv.fresh (I:Inv X pins σ H s):H s.heap.objs.size=none:=I.hok.fresh (kq _)
theorem Inv.FY (I:Inv X pins σ H s)(hH:H l=some (.lst xs)):xs.length<=ka/\∃(its:List Value) (n:Nat),Vals xs its/\xs.length=its.length/\s.heap.get? l=some { cls:=.type "list",data:=.seq its.toArray n }:=by
 obtain⟨z,its,n,r,e⟩:=I.hok l _ hH;exact⟨z,its,n,r,r.length,e⟩
theorem OL {n:Nat}(h:n<=ka):Builtin.List.listTooLong n=false:=by
 unfold Builtin.List.listTooLong;exact decide_eq_false (by omega)
end
section
variable{X:Cx}
def RM:V->List V->Hp->VK->Prop:=λx vs H Q=>∃l xs y,x=.ref l/\vs=[y]/\H l=some (.lst xs)/\xs.length < ka/\Q .non (upd H l (.lst (xs++[y])))
theorem cU:MtM X "list.append" RM:=by
 intro pins s σ H x vs v us Q I rx rv h;obtain⟨l,xs,y,rfl,rfl,hH,hz,q⟩:=h;cases rx;obtain⟨u,rfl,ru⟩:=rv.one;obtain⟨z,its,n,r,hl,e⟩:=I.FY hH;refine call_meets F.slot_list_append ⟨_,e,rfl⟩ F.entry_list_append (F.args_list_append_2 _ _) (PySem.list_append l its.toArray n u (by rw[ko];omega)) ⟨e,?_⟩
 refine⟨.non,_,I.OK (its':=its++[u]) hH e (by simp) (r.append (.cons ru .nil)) ?_,rfl,q⟩
 rw[kx,ajR];omega
def RN:V->List V->Hp->VK->Prop:=λx vs H Q=>∃l b xs zs,x=.ref l/\vs=[.ref b]/\H l=some (.lst xs)/\H b=some (.lst zs)/\xs.length+zs.length<=ka/\Q .non (upd H l (.lst (xs++zs)))
theorem Dh:MtM X "list.extend" RN:=by
 intro pins s σ H x vs v us Q I rx rv h;obtain⟨l,b,xs,zs,rfl,rfl,hH,hB,hz,q⟩:=h;cases rx;obtain⟨u,rfl,ru⟩:=rv.one;cases ru;obtain⟨z,its,n,r,hl,e⟩:=I.FY hH;obtain⟨z2,FW,n2,r2,hl2,e2⟩:=I.FY hB;have hsz:its.toArray.size+FW.toArray.size<=ka:=by rw[ko,ko];omega
 have Z3:¬(!its.toArray.isEmpty && Builtin.List.listTooLong (its.toArray.size+FW.toArray.size))=true:=by
  rw[OL hsz,Bool.and_false];exact ku
 refine call_meets F.slot_list_extend ⟨_,e,rfl⟩ F.entry_list_extend (F.args_list_extend_2 _ _)
  (AutoSeq1.list_extend_list_list_0 l its.toArray n b FW.toArray n2 Z3 (by rw[ko];omega) (by omega)) ⟨e,e2,?_⟩
 refine⟨.non,_,I.OK (its':=its++FW) hH e (by simp) (r.append r2) ?_,rfl,q⟩
 rw[kx];omega
def aht:V->List V->Hp->VK->Prop:=λx vs H Q=>∃l xs y,x=.ref l/\vs=[]/\H l=some (.lst xs)/\xs[xs.length - 1]?=some y/\Q y (upd H l (.lst xs.dropLast))
theorem OM:MtM X "list.pop" aht:=by
 intro pins s σ H x vs v us Q I rx rv h;obtain⟨l,xs,y,rfl,rfl,hH,hy,q⟩:=h;cases rx;have hus:=rv.zero;subst hus;obtain⟨z,its,n,r,hl,e⟩:=I.FY hH;obtain⟨u,hu,ru⟩:=r.get hy;have hy':its.toArray[its.toArray.size - 1]?=some u:=by
  show its.toArray[its.length - 1]?=some u;rw[<-Array.getElem?_toList,<-hl];exact hu
 refine call_meets F.slot_list_pop ⟨_,e,rfl⟩ F.entry_list_pop (F.args_list_pop_1 _) (MeetsSeq.list_pop_last l its.toArray n u hy' (by rw[ko];omega)) ⟨e,?_⟩
 refine⟨y,_,I.OK (its':=its.dropLast) hH e ?_ r.dropLast ?_,ru,q⟩
 ·show its.toArray.eraseIdxIfInBounds (its.toArray.size - 1)=its.dropLast.toArray;rw[ko,List.eraseIdxIfInBounds_toArray,JT]
 ·rw[List.length_dropLast];omega
def VI:V->List V->Hp->VK->Prop:=λx vs H Q=>∃l xs i k y,x=.ref l/\vs=[.int i]/\H l=some (.lst xs)/\-(2 ^ 63)<=i/\i < 2 ^ 63/\seqIndex? i xs.length=some k/\xs[k]?=some y/\Q y (upd H l (.lst (xs.eraseIdx k)))
theorem ON:MtM X "list.pop" VI:=by
 intro pins s σ H x vs v us Q I rx rv h;obtain⟨l,xs,i,k,y,rfl,rfl,hH,h1,h2,hk,hy,q⟩:=h;cases rx;obtain⟨u,rfl,ru⟩:=rv.one;obtain⟨t,rfl⟩:=ru;obtain⟨z,its,n,r,hl,e⟩:=I.FY hH;obtain⟨w,hw,rw'⟩:=r.get hy;refine call_meets F.slot_list_pop ⟨_,e,rfl⟩ F.entry_list_pop (F.args_list_pop_2 _ _)
  (MeetsSeq.list_pop_at l its.toArray n i t k w (fitsIndex_both h1 h2) (by rw[ko,<-hl];exact hk) (by rw[<-Array.getElem?_toList];exact hw) (by rw[ko];omega)) ⟨e,?_⟩
 refine⟨y,_,I.OK (its':=its.eraseIdx k) hH e ?_ (r.eraseIdx k) ?_,rw',q⟩
 ·show its.toArray.eraseIdxIfInBounds k=(its.eraseIdx k).toArray;rw[List.eraseIdxIfInBounds_toArray]
 ·have:=Dg xs k;omega
def ahu:R2:=λx y H Q=>∃l b xs zs,x=.ref l/\y=.ref b/\H l=some (.lst xs)/\H b=some (.lst zs)/\xs.length+zs.length<=ka/\∀p,H p=none->Q (.ref p) (upd H p (.lst (xs++zs)))
theorem VJ:OpR X (binaryOp .Add) ahu:=by
 intro pins s σ H x y v u Q I rx ry h;obtain⟨l,b,xs,zs,rfl,rfl,hH,hB,hz,q⟩:=h;cases rx;cases ry;obtain⟨z,its,n,r,hl,e⟩:=I.FY hH;obtain⟨z2,FW,n2,r2,hl2,e2⟩:=I.FY hB;refine PySem.P.add_list e e2 ?_ (by rw[ko,ko];omega)
 have ea:its.toArray++FW.toArray=(its++FW).toArray:=by simp
 rw[ea];exact⟨.ref _,_,I.Z2 (t':=s.toks) (r.append r2) (by rw[kx];omega),rfl,q _ I.fresh⟩
end
end L2
namespace Att
open PySem PySem.W PySem.Calls PyProof.Rows
theorem yZ {P:Params}{h:Heap}:∀(ns:List Int) (vs:List Value),WellAll P h vs (ns.map WData.int)->IntsAre vs ns:=by
 intro ns
 induction ns with
 |nil =>
  intro vs w;rw[aki]at w;cases w;exact .nil
 |cons n ns ih =>
  intro vs w;rw[kj]at w;cases w with
  |cons a b =>
   cases a;exact .cons _ _ (ih _ b)
theorem M4 {l:OpenLaw}{n:Nat}(hn:l.most=some n){P:Params}{h:Heap}{args:List WData}{vals:List Value}
  (RO:l.row.toRowW.claim.pre args=true) (hwl:WellAll P h vals args) :
  ∃a vs ns,vals=[ajL a]/\args=[WData.list (ns.map WData.int)]/\h.get? a=some { cls:=.type "list",data:=.seq vs.toArray }/\IntsAre vs ns/\ns.length<=n:=by
 have hsh:WShape.hasAll [] args [.list .int]=true:=(pre_splitW RO).1;have hc:l.pre.holds [] { args:=args }=true:=(pre_splitW RO).2;obtain⟨d,r,rfl,h1,h2⟩:=hasAllW_cons hsh;obtain rfl:=hasAllW_nil h2;obtain⟨xs,rfl,h3⟩:=hasW_list h1;obtain⟨ns,rfl⟩:=items_int h3;have hlen:ns.length<=n:=by
  unfold OpenLaw.pre at hc;have h4:(WTm.not (.lt (.lit (.int (n:Int))) (.len (.arg 0)))).holds [] { args:=[.list (ns.map .int)] }=true:=by
   have h4:=(holds_andW hc).1;rw[hn]at h4;exact h4
  have h5:=condW_of h4 (w_not (w_lt w_lit (w_len_list (w_arg rfl))));rw[bo]at h5;refine Nat.le_of_not_lt λq=>?_
  have q':(n:Int) < ((ns.length:Nat):Int):=by omega
  first
   | (rw[decide_eq_true q']at h5;exact absurd h5 (by decide))
   | (simp at h5;omega)
 cases hwl with
 |cons w1 w2 =>
  cases w2;cases w1 with
  |list ho VL=>exact⟨_,_,ns,rfl,rfl,ho,yZ ns _ VL,hlen⟩
theorem M5 (l:OpenLaw)(args:List WData):l.row.toRowW.claim.post args (.bool true) args=true :=
 postW_of (r:=l.row.toRowW) (X:=(true == true))
  (show WShape.has [] (.bool true) .bool=true by first | rfl | decide | simp[WShape.has,WShape.arms,WShape.armsAll])
  (show (WTm.eq .res (.lit (.bool true))).value [] { args:=args,res:=some (.bool true),after:=args }=some (.bool (true == true)) from w_eq_bool (w_res rfl) w_lit) rfl
theorem FZ {l:OpenLaw}{n:Nat}{q:me}{loose:List Str}{XP:(Str->Option Value)->Heap->Prop}{YP:World->Heap->Prop}{d:DefRec}
  (hn:l.most=some n) (hdf:d.params.defaults=[])
  (call:∀(w:World) (s₀ s₁:Shared) (mg mb:Str->Option Value) (fa:Addr) (o:Obj) (pm cd doc:Value) (a:Addr) (vs:List Value) (ns:List Int),
   Ground q loose [] XP w s₀ mg mb s₁.heap->YP w s₁.heap ->
   s₁.heap.get? fa=some o->o.data=.func (docDef d.name d.params d.body d.scope pm cd doc)->s₁.heap.CodeRec cd d.name->mg d.name=some (.ref fa) ->
   s₁.heap.get? a=some { cls:=.type "list",data:=.seq vs.toArray }->IntsAre vs ns->ns.length<=n->s₁.gens=#[] ->
   codeAny (model l.prog w) callerA (.call (.ref fa) ⟨[.ref a],[]⟩) (λr s'=>r=.ok (.ret (.bool true))/\OldK s₁.heap s'.heap/\s'.os=s₁.os/\AllBare s'.gens) s₁) :
  WalkO q loose XP YP l.row.toRowW d [] (λf vs=>PySem.call f vs):=by
 intro w s₀ s₁ mg mb G Y fa o pm cd doc dV kV ho hd hcd hD hmg hg args vals as RO ajD hrd hwl hlo;obtain rfl:dV=.none:=Dflts.none hD hdf;obtain rfl:kV=.none:=Dflts.noKw hD;obtain⟨a,vs,ns,rfl,rfl,VM,hints,hlen⟩:=M4 hn RO hwl;refine enter_call (codeAny_mono (call w s₀ s₁ mg mb fa o pm cd doc a vs ns G Y ho (fd_plain hd) hcd hmg VM hints hlen hg) λr s' hq=>?_)
 obtain⟨rfl,h2,h3,h4⟩:=hq;exact⟨.inl ⟨.bool true,.bool true,[],rfl,λ_=>rfl,.bool true,M5 l _,λ_=>⟨List.Pairwise.nil,λ_ hm=>(nomatch hm)⟩⟩,h2,h3,h4⟩
section
variable{prog:me}{w:World}{A:Around}{E:Value->Shared->Prop}{s:Shared}{K:Frag}
def ledger (h:Heap)(L d:Addr):List (Addr×Obj):=(List.range h.objs.size).filterMap λa=>if a=L\/a=d then none else (h.get? a).map λo=>(a,o)
end
end Att
namespace L2
open PySem PySem.Spec PyProof.Rows
theorem Di:∀ {vs:List Value} {ns:List Int},IntsAre vs ns->Vals (ns.map V.int) vs
 |_,_,.nil=>.nil
 |_,_,.cons n t h=>.cons ⟨t,rfl⟩ (Di h)
def VN (H:Hp):Prop:=∀b,H b=none\/∃o xs,H b=some (.frz o (.lst xs))
theorem OO {P:me}{w:World}{K:ba}{mg mb:Str->Option Value}{CX:CXT}{k:Nat}{fa a:Addr}{fd:kg}{x:Str}{sp:Sp}{s₁:Shared}{vs:List Value}{ns:List Int}
  (KX:K.In s₁.heap) (hns:s₁.heap.Ns gn mg) (hb:s₁.heap.Ns builtinsNs mb) (hbb:∀x:Str,x≠"__name__"->mb x=akz x) (ahv:s₁.heap.NoLimit) (hg:s₁.gens=#[])
  (ha:s₁.heap.get? a=some { cls:=.type "list",data:=.seq vs.toArray }) (hi:IntsAre vs ns) (hl:ns.length<=ka) (hr:Room k callerA)
  (F:∀base:Heap,K.In base->base.Ns gn mg->aK P w K mg base CX k fa fd [x] sp) (Z4:∀(s:Shared) (u:Value),BindsTo s fd ⟨[u],[]⟩ [(x,u)])
  (hsp:∀H:Hp,VN H->SqL K H a (ns.map V.int)->sp [.ref a] H (λv _=>v=.bl true) λ_ _ _=>False)
  (hCX:∀H e s',CX [] H s₁ (λ_ _ _=>False) e s'->False) :
  codeAny (model P w) callerA (.call (.ref fa) ⟨[.ref a],[]⟩) (λr s'=>r=.ok (.ret (.bool true))/\OldK s₁.heap s'.heap/\s'.os=s₁.os/\AllBare s'.gens) s₁:=by
 have rv:=Di hi;have ahw:=hi.length;have core:∀H:Hp,VN H->SqL K H a (ns.map V.int)->HOk P w H s₁.heap->(∀b,H b≠none->b=a)->(H a≠none->K.lookup a=none) ->
   codeAny (model P w) callerA (.call (.ref fa) ⟨[.ref a],[]⟩) (λr s'=>r=.ok (.ret (.bool true))/\OldK s₁.heap s'.heap/\s'.os=s₁.os/\AllBare s'.gens) s₁:=by
  intro H hO hS hok hA hK;have L6:∀ {b:Addr} {o:Obj},s₁.heap.get? b=some o->H b=none->(Ef s₁.heap H).get? b=some o:=λe n=>Ov e n
  have noA:∀ {b:Addr} {o:Obj} {es:Array akx} {ep:Nat},s₁.heap.get? b=some o->o.data=.dict es ep->H b=none:=λ{b o es ep} e d=>by
   cases q:H b with
   |none=>rfl
   |some u =>
    have e':b=a:=hA b (by rw[q];simp)
    subst e';rw[ha]at e;cases e;have d':Data.seq vs.toArray _=Data.dict es ep:=d;cases d'
  have nsK:∀ {b:Addr} {m:Str->Option Value},s₁.heap.Ns b m->(Ef s₁.heap H).Ns b m:=λ{b m} ⟨o,es,ep,e,d,r⟩=>⟨o,es,ep,L6 e (noA e d),d,r⟩
  have hKb:K.In (Ef s₁.heap H):=λb o e=>L6 (KX b o e) (by
   cases q:H b with
   |none=>rfl
   |some u =>
    have e':b=a:=hA b (by rw[q];simp)
    subst e';rw[hK (by rw[q];simp)]at e;cases e)
  have hM:Mod K mg (Ef s₁.heap H):=⟨hKb,nsK hns,⟨mb,nsK hb,hbb⟩,let ⟨mc,h1,h2⟩:=ahv;⟨mc,nsK h1,h2⟩⟩
  have e0:CF P w K mg (Ef s₁.heap H) callerA [] s₁ H:=⟨rfl,hM,λb o e=>RC e,Nat.le_of_eq (MU _ _),trivial,λb hb=>absurd (show b∈([]:List Addr) from hb) (by simp),hok,.of_eq hg⟩
  refine codeAny_mono ((F _ hKb (nsK hns)).run callerA [] s₁ H ⟨[.ref a],[]⟩ [.ref a] [.ref a] _ _ hr e0 (Z4 s₁ (.ref a)) (.cons rfl .nil) (hsp H hO hS)) λr s' h=>?_
  cases r with
  |error e=>exact(hCX H e s' h).elim
  |ok fl =>
   cases fl with
   |next=>exact ajY h
   |brk=>exact ajY h
   |cont=>exact ajY h
   |ret u =>
    obtain⟨v,H',os,bare,un,ahx,r',q⟩:=h;have q':v=.bl true:=q;subst q';obtain rfl:u=Value.bool true:=r';refine⟨rfl,OldK.of_keep λb o e=>?_,os,bare⟩
    cases q:H b with
    |none=>exact un.keep b o e q (by intro z;exact absurd (show b∈([]:List Addr) from z) (by simp)) (by simp)
    |some u =>
     rcases hO b with z | ⟨ob,xs,z⟩
     ·rw[q]at z;cases z
     ·have z2:=un.vo b ob _ z;obtain⟨e1,_⟩:=hok b _ z;obtain⟨e2,_⟩:=ahx b _ z2;rw[e]at e1;cases e1;exact e2
 cases hk:K.lookup a with
 |some o =>
  have e:=KX a o hk;rw[ha]at e;cases e;refine core (λ_=>none) (λ_=>.inl rfl) (.inr ⟨_,vs.toArray,_,hk,rfl,rfl,rfl,by rw[ko,ahw];exact hl,by simpa using rv⟩) (λb u z=>by have z':(none:Option HO)=some u:=z;cases z') (λb z=>absurd rfl z) λz=>absurd rfl z
 |none =>
  refine core (λb=>if b=a then some (.frz { cls:=.type "list",data:=.seq vs.toArray } (.lst (ns.map V.int))) else none) (λb=>?_) (.inl (.inr ⟨{ cls:=.type "list",data:=.seq vs.toArray },if_pos rfl⟩)) (λb u z=>?_) (λb z=>?_) λ_=>hk
  ·by_cases hb:b=a
   ·exact .inr ⟨_,_,if_pos hb⟩
   ·exact .inl (if_neg hb)
  ·by_cases hb:b=a
   ·have z':=(if_pos hb).symm.trans z;cases z';subst hb;exact⟨ha,by rw[bo];exact hl,vs,_,rv,ha⟩
   ·have z':=(if_neg hb).symm.trans z;cases z'
  ·by_cases hb:b=a
   ·exact hb
   ·exact absurd (if_neg hb) z
end L2
namespace L2
open PySem PySem.Spec PyProof.Rows
theorem RP {l:PySem.W.OpenLaw}{n k:Nat}{q:me}{loose:List Str}{XP:(Str->Option Value)->Heap->Prop}{YP:World->Heap->Prop}{d:DefRec}{K:Params->ba}{CX:World->CXT}{sp:World->Sp}{x:Str}
  (hn:l.most=some n) (hn2:n<=ka) (hdf:d.params.defaults=[]) (hr:Room k callerA)
  (hY:∀(w:World) (h:Heap),YP w h->(K w.params).In h)
  (F:∀(w:World) (mg:Str->Option Value) (fa:Addr) (h:Heap),(K w.params).In h->h.Ns gn mg->mg d.name=some (.ref fa) ->
   ∃fd:kg,(∀(s:Shared) (u:Value),BindsTo s fd ⟨[u],[]⟩ [(x,u)]) /\
    ∀base:Heap,(K w.params).In base->base.Ns gn mg->aK l.prog w (K w.params) mg base (CX w) k fa fd [x] (sp w))
  (hsp:∀(w:World) (H:Hp) (a:Addr) (ns:List Int),ns.length<=n->VN H->SqL (K w.params) H a (ns.map V.int)->sp w [.ref a] H (λv _=>v=.bl true) λ_ _ _=>False)
  (hCX:∀(w:World) (H:Hp) (s:Shared) (e:Value) (s':Shared),CX w [] H s (λ_ _ _=>False) e s'->False) :
  PySem.W.WalkO q loose XP YP l.row.toRowW d [] (λf vs=>PySem.call f vs):=by
 refine Att.FZ hn hdf λw s₀ s₁ mg mb fa o pm cd doc a vs ns G Y ho hd hcd hmg VM hints hlen hg=>?_
 have KX:=hY w _ Y;obtain⟨fd,hb,hF⟩:=F w mg fa _ KX G.T.g hmg;exact OO KX G.T.g G.T.b G.T.builtins G.T.nolimit hg VM hints (tm hlen hn2) hr hF hb (λH hO hS=>hsp w H a ns hlen hO hS) λH e s'=>hCX w H s₁ e s'
end L2
namespace L2
open PySem PySem.Spec PyProof.Rows
def inClass (s:Stmt)(j:Nat):Stmt:=match s with
 | .ClassDef _ _ _ body _ _ _ _ _ _ _=>body.getD j (.Pass ⟨0,0,0,0⟩)
 |_=>.Pass ⟨0,0,0,0⟩
def aS (s:Stmt):Arguments:=match s with
 | .FunctionDef _ a _ _ _ _ _ _ _ _=>a
 |_=>{ posonlyargs:=[],args:=[],vararg:=none,kwonlyargs:=[],kw_defaults:=[],kwarg:=none,defaults:=[] }
def aO (s:Stmt):List Stmt:=match s with
 | .FunctionDef _ _ b _ _ _ _ _ _ _=>b
 |_=>[]
def ag (s:Stmt):Scope:=match s with
 | .FunctionDef _ _ _ _ _ _ sc _ _ _=>sc
 |_=>{ kind:=.function,names:=[],isGenerator:=false,isCoroutine:=false }
abbrev CX0:CXT:=λ_ _ _ _ _ _=>False
abbrev E0:XK:=λ_ _ _=>False
theorem aY {X:Cx}:Passes CX0 X E0:=λ_ _ _ _ _ _ _ h=>h.elim
structure Fun (K:ba)(x qual:Str)(st:Stmt)(f:Addr)(fd:kg):Prop where
 ex:∃(oc:Value) (od:Option Addr) (kV doc pm:Value) (an:Option Addr) (cdv ct:Value) (osl:Array (Option Value)),
  fd=fe x qual (aS st) (aO st) (ag st) .none kV doc pm an cdv ct/\K.lookup f=some ⟨oc,od,.func fd,osl⟩/\de K cdv qual=true
 kp:da K (.ref f)=true
section
variable{P:me}{w:World}{K:ba}{mg:Str->Option Value}{base:Heap}
theorem Fun.ok {x qual:Str}{st:Stmt}{f:Addr}{fd:kg}{N ps:List Str}{k:Nat}{sp:Sp}(F:Fun K x qual st f fd)(S:aT N ps (ag st))(len:∀vs H Q E,sp vs H Q E->vs.length=ps.length)
  (FU:∀(cdv:Value) (A:Around) (outer:List Env) (s:Shared) (H:Hp) (vs:List V) (Q:VK) (E:XK),Room k (A.deeper (envOfC qual (ag st) s.heap.objs.size f cdv))->sp vs H Q E ->
   ∃t,PSs (vz CX0 P w K mg base N qual (ag st) f cdv A outer s H E).nox (aO st) t/\t { nx:=λ_ H'=>Q .non H',rt:=Q } (start N vs) H):aK P w K mg base CX0 (k+1) f fd ps sp:=by
 obtain⟨oc,od,kV,doc,pm,an,cdv,ct,osl,rfl,lk,hcd⟩:=F.ex;refine TN lk hcd S len λA outer s H vs Q E hr hsp=>?_
 obtain⟨t,h,q⟩:=FU cdv A outer s H vs Q E hr hsp;exact⟨t,h.nox,q⟩
theorem Fun.binds {x qual:Str}{st:Stmt}{f:Addr}{fd:kg}{ps:List Str}(F:Fun K x qual st f fd)
  (h:∀(kV doc pm:Value) (an:Option Addr) (cdv ct:Value) (us:List Value),us.length=ps.length->bindArgs (fe x qual (aS st) (aO st) (ag st) .none kV doc pm an cdv ct) ⟨us,[]⟩=pure (ps.zip us)):Binds K fd ps []:=by
 obtain⟨oc,od,kV,doc,pm,an,cdv,ct,osl,rfl,lk,hcd⟩:=F.ex;exact .all (h kV doc pm an cdv ct)
theorem aX {x qual:Str}{st:Stmt}{f:Addr}{oc:Value}{od an:Option Addr}{osl:Array (Option Value)}{kV doc pm cdv ct:Value}(l:K.lookup f=some ⟨oc,od,.func (fe x qual (aS st) (aO st) (ag st) .none kV doc pm an cdv ct),osl⟩)
  (c:de K cdv qual=true) (k:da K (.ref f)=true):Fun K x qual st f (fe x qual (aS st) (aO st) (ag st) .none kV doc pm an cdv ct):=⟨⟨oc,od,kV,doc,pm,an,cdv,ct,osl,rfl,l,c⟩,k⟩
end
section
variable{X:Cx}
theorem pv (i:Nat){x:Str}{pos:Pos}(hN:X.N[i]?=some x:=by rfl)(hv:Vis X.env.scope x:=by first | exact adm rfl | exact Or.inr (adm rfl) | exact Or.inr (Or.inr rfl))(hd:(x == ("__debug__":Str))=false:=by decide)
  (hcd:(x == ("__classdict__":Str))=false:=by decide):PE X (.Name x pos) (ZD i):=Vp hN hv hd hcd
end
theorem bX {A B:Prop}(h:B):if false=true then A else B:=by
 rw[if_neg ku];exact h
theorem dP {A B:Prop}(h:A):if true=true then A else B:=by
 rw[if_pos rfl];exact h
theorem eU {c A B:Prop}[Decidable c](h1:c->A)(h2:¬c->B):if c then A else B:=by
 by_cases h:c
 ·rw[if_pos h];exact h1 h
 ·rw[if_neg h];exact h2 h
def br (H H':Hp):Prop:=∀b o,H b=some o->H' b=some o
theorem br.refl (H:Hp):br H H:=λ_ _ h=>h
theorem br.trans {H H1 H2:Hp}(a:br H H1)(b:br H1 H2):br H H2:=λc o h=>b c o (a c o h)
theorem br.free {H H':Hp}(e:br H H'){l:Addr}(h:H' l=Option.none):H l=Option.none:=by
 cases q:H l with
 |none=>rfl
 |some o =>
  rw[e l o q]at h;cases h
theorem br.seq {K:ba}{H H':Hp}{a:Addr}{xs:List V}(e:br H H')(h:SqL K H a xs):SqL K H' a xs:=by
 rcases h with (h | ⟨o,h⟩) | h
 ·exact .inl (.inl (e _ _ h))
 ·exact .inl (.inr ⟨o,e _ _ h⟩)
 ·exact .inr h
end L2
set_option maxHeartbeats 4000000
namespace L2
open PySem PySem.Spec PyProof.Rows
theorem lZ:akz "len"=some (.builtin "len"):=by decide +kernel
theorem Ew:akz "max"=some (.builtin "max"):=by decide +kernel
theorem VO:akz "any"=some (.builtin "any"):=by decide +kernel
theorem OP:akz "int"=some (.type "int"):=by decide +kernel
theorem OQ:akz "str"=some (.type "str"):=by decide +kernel
theorem qm:akz "list"=some (.type "list"):=by decide +kernel
mutual
def DV (K:ba)(H:Hp):PyData->V->Prop
 | .none,x=>x=.non
 | .bool b,x=>x=.bl b
 | .int i,x=>x=.int i
 | .str y,x=>x=.str y
 | .list ds,x=>∃a xs,x=.ref a/\SqL K H a xs/\DVs K H ds xs
 | .tuple ds,x=>∃a xs,x=.ref a/\SqT K H a xs/\DVs K H ds xs
 | .dict _,_=>False
def DVs (K:ba)(H:Hp):List PyData->List V->Prop
 |[],xs=>xs=[]
 |d::ds,xs=>∃x r,xs=x::r/\DV K H d x/\DVs K H ds r
end
section
variable{X:Cx}{pins:List (Addr×Obj)}{σ:St}{H:Hp}{s:Shared}
mutual
theorem DV.reads (I:Inv X pins σ H s):∀(d:PyData) {x:V} {u:Value},DV X.K H d x->RelV x u->∃as,Reads s.heap u d as
 | .none,_,_,h,r=>by
  have h':=h;unfold DV at h';subst h';cases r;exact⟨_,.none⟩
 | .bool b,_,_,h,r=>by
  have h':=h;unfold DV at h';subst h';cases r;exact⟨_,.bool b⟩
 | .int i,_,_,h,r=>by
  have h':=h;unfold DV at h';subst h';obtain⟨t,rfl⟩:=r;exact⟨_,.int i t⟩
 | .str y,_,_,h,r=>by
  have h':=h;unfold DV at h';subst h';obtain⟨t,rfl⟩:=r;exact⟨_,.str y t⟩
 | .list ds,_,_,h,r=>by
  have h':=h;unfold DV at h';obtain⟨a,xs,rfl,hq,hs⟩:=h';cases r;obtain⟨its,rv,⟨o,n,e,c,_,dt⟩,_⟩:=I.list hq;obtain⟨as,q⟩:=DVs.reads I ds hs rv;exact⟨_,.list e c dt (by simpa using q)⟩
 | .tuple ds,_,_,h,r=>by
  have h':=h;unfold DV at h';obtain⟨a,xs,rfl,hq,hs⟩:=h';cases r;obtain⟨its,rv,⟨o,e,c,n,dt⟩,_⟩:=I.tuple hq;obtain⟨as,q⟩:=DVs.reads I ds hs rv;exact⟨_,.tuple e c dt (by simpa using q)⟩
 | .dict _,_,_,h,_=>by
  have h':=h;unfold DV at h';exact h'.elim
theorem DVs.reads (I:Inv X pins σ H s):∀(ds:List PyData) {xs:List V} {us:List Value},DVs X.K H ds xs->Vals xs us->∃as,ReadsAll s.heap us ds as
 |[],_,_,h,r=>by
  have h':=h;unfold DVs at h';subst h';cases r;exact⟨_,.nil⟩
 |d::ds,_,_,h,r=>by
  have h':=h;unfold DVs at h';obtain⟨x,q,rfl,h1,h2⟩:=h';cases r with
  |cons r1 r2 =>
   obtain⟨as,e1⟩:=DV.reads I d h1 r1;obtain⟨bs,e2⟩:=DVs.reads I ds h2 r2;exact⟨_,.cons e1 e2⟩
end
def ahy (K:ba):R2:=λx y H Q=>∃d e,DV K H d x/\DV K H e y/\SeqAt.shaped d=true/\SeqAt.shaped e=true/\Q (.bl (PyData.eqv d e)) H
def ahz (K:ba):R2:=λx y H Q=>∃d e,DV K H d x/\DV K H e y/\SeqAt.shaped d=true/\SeqAt.shaped e=true/\Q (.bl (!PyData.eqv d e)) H
theorem xw (hu:X.A.units+64 < cLine):OpR X (akv .Eq) (ahy X.K):=by
 intro pins s σ H x y v u Q I rx ry h;obtain⟨d,e,hd,he,sd,se,q⟩:=h;obtain⟨as,r1⟩:=DV.reads I d hd rx;obtain⟨bs,r2⟩:=DV.reads I e he ry;exact eq_dataH r1 r2 sd se hu ⟨.bl _,H,I,rfl,q⟩
theorem JU (hu:X.A.units+64 < cLine):OpR X (akv .NotEq) (ahz X.K):=by
 intro pins s σ H x y v u Q I rx ry h;obtain⟨d,e,hd,he,sd,se,q⟩:=h;obtain⟨as,r1⟩:=DV.reads I d hd rx;obtain⟨bs,r2⟩:=DV.reads I e he ry;exact ne_dataH r1 r2 sd se hu ⟨.bl _,H,I,rfl,q⟩
end
theorem AO:∀ {ys:List Str} {us:List Value},Vals (ys.map V.str) us->StrsAre us ys
 |[],_,.nil=>.nil
 |y::ys,_,.cons r t=>by
  obtain⟨tk,rfl⟩:=r;exact .cons y tk (AO t)
theorem rV:∀l:List (Str×Tok),Vals ((l.map (·.1)).map V.str) (strValues l)
 |[]=>.nil
 |p::l=>.cons ⟨p.2,rfl⟩ (rV l)
section
variable{X:Cx}
def rJoin (K:ba):V->List V->Hp->VK->Prop:=λx vs H Q=>∃sep a ys,x=.str sep/\vs=[.ref a]/\SqL K H a (ys.map V.str)/\(ys.map (·.length)).sum+ys.length * sep.length<=16777216/\Q (.str (sr sep ys)) H
theorem Ex:MtR X "str.join" (rJoin X.K):=by
 intro pins s σ H x vs v us Q I rx rv h;obtain⟨sep,a,ys,rfl,rfl,hq,hz,q⟩:=h;obtain⟨t,rfl⟩:=rx;obtain⟨u,rfl,ru⟩:=rv.one;cases ru;obtain⟨its,r,pl,_⟩:=I.list hq;refine join_list pl.isList (AO (by simpa using r)) hz λt' k=>?_
 rw[show Txt.join sep ys=sr sep ys from StrLaws.glued_eq_join sep ys]
 exact⟨.str _,H,I.tok _,⟨_,rfl⟩,q⟩
def VP:V->List V->Hp->VK->Prop:=λx vs H Q=>∃z y,x=.str z/\vs=[.str y]/\(y.length == 0)=false/\z.length+2<=ka/\∀p,H p=none->Q (.ref p) (upd H p (.lst ((Txt.split z y).map V.str)))
theorem F0:MtR X "str.split" VP:=by
 intro pins s σ H x vs v us Q I rx rv h;obtain⟨x,y,rfl,rfl,hy,hsz,q⟩:=h;obtain⟨t,rfl⟩:=rx;obtain⟨_,rfl,u,rfl⟩:=rv.one;have hn:(Builtin.Str.partsBetween x (akG x y 0 x.length (x.length+1)) y.length).length<=ka:=by
  have e1:=StrLaws.occ_length_le x y 0 x.length (x.length+1);rw[length_partsBetween];omega
 have fin:∀(l:List (Str×Tok)) (tk:Nat),l.map (·.1)=Txt.split x y->(Txt.split x y).length<=ka ->
   EP X pins σ Q (.ref s.heap.objs.size) { s with heap:=s.heap.push { cls:=.type "list",data:=.seq (strValues l).toArray },toks:=tk }:=λl tk e hz=>by
  refine⟨.ref _,_,I.Z2 (t':=tk) (ys:=(Txt.split x y).map V.str) (by rw[<-e];exact rV l) (by rw[bo];exact hz),rfl,q _ I.fresh⟩
 have Z5:1<=ka:=by omega
 cases h1:(decide (x.length < y.length) || decide (Builtin.Str.strKind x < Builtin.Str.strKind y))
 ·cases hf:(akG x y 0 x.length (x.length+1)).isEmpty
  ·refine call_meets F.slot_str_split (typeIs_str _ _ _) F.entry_str_split (F.args_str_split_2 _ _) (meets_str_split_sep x y t u h1 hy hf (by omega) hn) ?_
   have e:Txt.split x y=Builtin.Str.partsBetween x (akG x y 0 x.length (x.length+1)) y.length:=(if_neg (ne_true_of_eq_false h1)).trans (if_neg (ne_true_of_eq_false hf));show wants (EP X pins σ Q) X.xe _ { s with toks:=_,heap:=s.heap.push { cls:=.type "list",data:=.seq (strsFrom s.toks (Builtin.Str.partsBetween x (akG x y 0 x.length (x.length+1)) y.length)).toArray } }
   rw[strsFrom_eq];exact fin (numbered s.toks _) _ ((numbered_texts _ _).trans e.symm) (by rw[e];exact hn)
  ·have e:Txt.split x y=[x]:=(if_neg (ne_true_of_eq_false h1)).trans (if_pos hf);exact call_meets F.slot_str_split (typeIs_str _ _ _) F.entry_str_split (F.args_str_split_2 _ _) (meets_str_split_not_found x y t u h1 hy hf)
    (fin [(x,t)] s.toks e.symm (by rw[e];exact Z5))
 ·have e:Txt.split x y=[x]:=if_pos h1;exact call_meets F.slot_str_split (typeIs_str _ _ _) F.entry_str_split (F.args_str_split_2 _ _) (meets_str_split_cannot_occur x y t u h1)
   (fin [(x,t)] s.toks e.symm (by rw[e];exact Z5))
end
section
variable{X:Cx}
theorem vG:OpR X (binaryOp .Add) (λx y H Q=>∃l b xs zs,x=.ref l/\y=.ref b/\H l=some (.lst xs)/\H b=some (.lst zs)/\xs.length+zs.length<=ka/\∀p,H p=none->Q (.ref p) (upd H p (.lst (xs++zs)))):=VJ
end
theorem eV (a b:Str):(a++b).cps.toList=a.cps.toList++b.cps.toList:=by
 show (a.cps++b.cps).toList=_;simp
theorem F2 (c:Nat):∀(a b p q:List Nat),c∉a->c∉b->a++c::p=b++c::q->a=b/\p=q
 |[],[],p,q,_,_,e=>by simpa using e
 |[],y::b,p,q,_,hb,e=>by
  have e':c::p=y::(b++c::q):=e;injection e' with e1 _
  exact absurd (by rw[e1];exact fu) hb
 |x::a,[],p,q,ha,_,e=>by
  have e':x::(a++c::p)=c::q:=e;injection e' with e1 _
  exact absurd (by rw[<-e1];exact fu) ha
 |x::a,y::b,p,q,ha,hb,e=>by
  have e':x::(a++c::p)=y::(b++c::q):=e;injection e' with e1 e2
  obtain⟨h1,h2⟩:=F2 c a b p q (λh=>ha (ky _ h)) (λh=>hb (ky _ h)) e2
  exact⟨by rw[e1,h1],h2⟩
theorem Ey {a b:Str}(h:a.cps.toList=b.cps.toList):a=b:=by
 cases a;cases b;have:=Array.toList_inj.mp h;subst this;rfl
theorem js (c:Nat)(x y:Str)(r:List Str):(sr ⟨#[c]⟩ (x::y::r)).cps.toList=x.cps.toList++c::(sr ⟨#[c]⟩ (y::r)).cps.toList:=by
 show ((x++⟨#[c]⟩)++sr ⟨#[c]⟩ (y::r)).cps.toList=_;rw[eV,eV];simp
theorem F3 (c:Nat):∀(vs ws:List Str),vs≠[]->ws≠[]->(∀v∈vs,c∉v.cps.toList)->(∀w∈ws,c∉w.cps.toList)->sr ⟨#[c]⟩ vs=sr ⟨#[c]⟩ ws->vs=ws
 |[],_,h,_,_,_,_=>absurd rfl h
 |_,[],_,h,_,_,_=>absurd rfl h
 |[x],[y],_,_,_,_,e=>by rw[show x=y from e]
 |[x],y::z::r,_,_,hv,_,e=>by
  have e1:=congrArg (λt:Str=>t.cps.toList) e
  have e2:x.cps.toList=y.cps.toList++c::(sr ⟨#[c]⟩ (z::r)).cps.toList:=e1.trans (js c y z r);exact absurd (by rw[e2];exact ki _ fu) (hv x fu)
 |x::z::r,[y],_,_,_,hw,e=>by
  have e1:=congrArg (λt:Str=>t.cps.toList) e
  have e2:x.cps.toList++c::(sr ⟨#[c]⟩ (z::r)).cps.toList=y.cps.toList:=(js c x z r).symm.trans e1;exact absurd (by rw[<-e2];exact ki _ fu) (hw y fu)
 |x::x2::r,y::y2::q,_,_,hv,hw,e=>by
  have e1:=congrArg (λt:Str=>t.cps.toList) e
  have e2:=(js c x x2 r).symm.trans (e1.trans (js c y y2 q));obtain⟨h1,h2⟩:=F2 c _ _ _ _ (hv x fu) (hw y fu) e2;have h3:=F3 c (x2::r) (y2::q) (aj1 _ _) (aj1 _ _) (λv h=>hv v (ky _ h)) (λw h=>hw w (ky _ h)) (Ey h2)
  rw[Ey h1,h3]
theorem OR (x y:Str):Txt.split x y≠[]:=by
 unfold Txt.split;split
 ·exact aj1 _ _
 ·split
  ·exact aj1 _ _
  ·rw[StrLaws.partsBetween_eq];intro h;have:=congrArg List.length h;revert this;cases (akG x y 0 x.length (x.length+1)) <;> simp[StrLaws.partsFrom]
theorem JV {c:Nat}{ws:List Str}(h0:ws≠[])(h:∀w∈ws,c∉w.cps.toList):Txt.split (sr ⟨#[c]⟩ ws) ⟨#[c]⟩=ws :=
 F3 c _ _ (OR _ _) h0 (StrLaws.split_free _ c) h (StrLaws.join_split _ _)
theorem tV (c:Nat):∀ws:List Str,(sr ⟨#[c]⟩ ws).length<=(ws.map (·.length)).sum+ws.length
 |[]=>akl _
 |[x]=>by show x.length<=_;simp
 |x::y::r=>by
  have ih:=tV c (y::r);have e:(sr ⟨#[c]⟩ (x::y::r)).length=x.length+1+(sr ⟨#[c]⟩ (y::r)).length:=by
   have:=congrArg List.length (js c x y r);rw[kx,ajH]at this;have l1:∀z:Str,z.cps.toList.length=z.length:=λz=>by simp[Str.length]
   rw[l1,l1,l1]at this;omega
  simp only[kj,List.sum_cons,ajH]at ih ⊢;omega
theorem CH {c:Nat}:∀ {ws:List Str},ws≠[]->(∀w∈ws,1<=w.length)->1<=(sr ⟨#[c]⟩ ws).length
 |[],h,_=>absurd rfl h
 |[x],_,h=>h x fu
 |x::y::r,_,h=>by
  have h1:=h x fu;have:=congrArg List.length (js c x y r);rw[kx]at this;have l1:∀z:Str,z.cps.toList.length=z.length:=λz=>by simp[Str.length]
  rw[l1,l1]at this;omega
theorem yD {b:Bool}{A B:Prop}(hb:b=true)(h:A):if b=true then A else B:=by
 subst hb;exact dP h
theorem yE {b:Bool}{A B:Prop}(hb:b=false)(h:B):if b=true then A else B:=by
 subst hb;exact bX h
theorem aG {H:Hp}{p:Addr}{o:HO}(h:H p=none):br H (upd H p o):=λb u e=>by
 rw[av (aI e h)];exact e
theorem br.own {H H':Hp}{p:Addr}{o:HO}(s:br H H')(h:H p=none):br H (upd H' p o):=λb u e=>by
 rw[av (aI e h)];exact s b u e
theorem br.new {H H':Hp}{p:Addr}{o:HO}(s:br H H')(h:H' p=none):br H (upd H' p o):=s.trans (aG h)
theorem br.nn {H H':Hp}(s:br H H'){p:Addr}{o:HO}(h:H p=none)(e:H' p=some o){b:Addr}{u:HO}(eb:H b=some u):b≠p:=aI eb h
theorem AQ (xs:List V)(k:Nat):f9 xs (some (k:Int)) none=xs.drop k:=by
 unfold f9;rw[HT.vA,HT.FV]
 by_cases h:k<=xs.length
 ·rw[Nat.min_eq_left h];exact List.take_of_length_le (by rw[akL];exact kq _)
 ·have h':xs.length<=k:=by omega
  rw[Nat.min_eq_right h',List.drop_of_length_le h',List.drop_of_length_le (kq _)];simp
theorem TQ {α:Type}{xs:List α}{i:Int}{n:Nat}(hn:xs.length=n)(h0:0<=i)(h1:i < n):∃c,atI xs i=some c/\c∈xs:=by
 have hi:i.toNat < xs.length:=by omega
 have e:((i.toNat:Nat):Int)=i:=by omega
 refine⟨xs[i.toNat],?_,List.getElem_mem hi⟩;have q:=dF (wa hi);rw[e]at q;exact q
end L2
namespace L2
open PySem PySem.Spec PyProof.Rows
def cJ (scope outer:Scope):Scope :=
 { scope with names:=scope.names.map λ(n,k)=>if (k == .free && outer.kind == .function && outer.names.lookup n == some .cell) then (n,.cell) else (n,k) }
structure dn (scope outer:Scope)(x:Str)(N M:List Str):Prop where
 kind:scope.kind=.function
 OS:outer.kind=.function
 AR:∀y∈scope.names,y.2≠.cell
 names:∀y∈scope.names,y.2=.local->scope.names.lookup y.1=some .local
 hx:scope.names.lookup x=some .local
 free:∀y∈scope.names,y.2=.free->outer.names.lookup y.1=some .cell
 nl:∀n∈M,(cJ scope outer).names.lookup n≠some .local
 ndM:M.Nodup
 nd:N.Nodup
 len:M.length=N.length
 rel:∀i:Nat,i < N.length->M[i]?=N[i]?\/M[i]?=some aj6
 em:(cJ scope outer).names.lookup aj6=none
theorem dn.mem {scope outer:Scope}{x:Str}{N M:List Str}(S:dn scope outer x N M){n:Str}{k:NameKind}(h:(cJ scope outer).names.lookup n=some k)(hk:k=.cell\/k=.free) :
  k=.cell/\(n,aks)∈scope.names/\outer.names.lookup n=some .cell:=by
 obtain⟨⟨n',k'⟩,hm,e⟩:=List.mem_map.mp (akB h);dsimp only at e
 by_cases hc:(k' == aks && outer.kind == .function && outer.names.lookup n' == some .cell)=true
 ·rw[if_pos hc]at e;injection e with e1 e2
  subst e1 e2;rw[akw,akw]at hc;have hk':k'=.free:=beq_iff_eq.mp hc.1.1;subst hk';exact⟨rfl,hm,beq_iff_eq.mp hc.2⟩
 ·rw[if_neg hc]at e;injection e with e1 e2
  subst e1 e2;rcases hk with z | z
  ·exact absurd z (S.AR _ hm)
  ·subst z
   exfalso
   refine hc ?_;rw[S.free _ hm rfl,S.OS];rfl
theorem Ez {env:Env}{f:Str×NameKind->List (Str×Addr)->Sem (ForInStep (List (Str×Addr)))}
  (h1:∀n k r,k≠aks->f (n,k) r=pure (.yield r)) (h2:∀n r c,env.cells.lookup n=some c->f (n,.free) r=pure (.yield ((n,c)::r))) :
  ∀(ns:List (Str×NameKind)) (acc:List (Str×Addr)),(∀y∈ns,y.2=.free->∃c,env.cells.lookup y.1=some c)->(∀n c,acc.lookup n=some c->env.cells.lookup n=some c) ->
   ∃cl,(forIn ns acc f:Sem (List (Str×Addr)))=pure cl/\(∀n c,cl.lookup n=some c->env.cells.lookup n=some c)/\(∀n c,acc.lookup n=some c->(cl.lookup n).isSome=true)/\∀y∈ns,y.2=.free->(cl.lookup y.1).isSome=true
 |[],acc,_,ha=>⟨acc,by simp,ha,λn c e=>by rw[e];rfl,λy hy=>nomatch hy⟩
 | (n,k)::ns,acc,hn,ha=>by
  by_cases hk:k=aks
  ·subst hk;obtain⟨c,hc⟩:=hn (n,.free) fu rfl;have ha':∀m d,((n,c)::acc).lookup m=some d->env.cells.lookup m=some d:=λm d e=>by
    rw[List.lookup_cons]at e;split at e
    ·rename_i hb;have:m=n:=beq_iff_eq.mp hb;subst this;rw[<-ajJ e];exact hc
    ·exact ha m d e
   obtain⟨cl,e,p1,p2,p3⟩:=Ez h1 h2 ns ((n,c)::acc) (λy hy=>hn y (ky _ hy)) ha'
   have hnn:(cl.lookup n).isSome=true:=p2 n c (by simp[List.lookup_cons])
   refine⟨cl,?_,p1,λm d em=>?_,λy hy hf=>?_⟩
   ·rw[List.forIn_cons,h2 n acc c hc,pure_bind];exact e
   ·by_cases hm:m=n
    ·subst hm;exact hnn
    ·exact p2 m d (by rw[List.lookup_cons,show (m == n)=false from beq_eq_false_iff_ne.mpr hm];exact em)
   ·rcases List.mem_cons.mp hy with rfl | hy
    ·exact hnn
    ·exact p3 y hy hf
  ·obtain⟨cl,e,p1,p2,p3⟩:=Ez h1 h2 ns acc (λy hy=>hn y (ky _ hy)) ha
   refine⟨cl,?_,p1,p2,λy hy hf=>?_⟩
   ·rw[List.forIn_cons,h1 n k acc hk,pure_bind];exact e
   ·rcases List.mem_cons.mp hy with rfl | hy
    ·exact absurd hf hk
    ·exact p3 y hy hf
theorem xx {scope:Scope}{env:Env}(h:∀y∈scope.names,y.2=.free->∃c,env.cells.lookup y.1=some c) :
  ∃cl,closureFor scope env=pure cl/\(∀n c,cl.lookup n=some c->env.cells.lookup n=some c)/\∀y∈scope.names,y.2=.free->(cl.lookup y.1).isSome=true:=by
 unfold closureFor;obtain⟨cl,e,p1,_,p3⟩:=Ez (env:=env) (f:=λx r=>match x with | (name,kind)=>if (kind == aks)=true then do let a <-cellOf env name;pure (.yield ((name,a)::r)) else pure (.yield r))
  (λn k r hk=>by
   have:(k == aks)=false:=beq_eq_false_iff_ne.mpr hk;simp only[this,Bool.false_eq_true,if_false])
  (λn r c hc=>by
   simp only[beq_self_eq_true,if_true];unfold cellOf;rw[hc];rw[pure_bind])
  scope.names [] h (λn c e=>by simp at e)
 refine⟨cl,?_,p1,p3⟩;have e':=congrArg (λz:Sem (List (Str×Addr))=>z >>= λcs=>pure cs) e
 simp only[pure_bind]at e';exact e'
def iR (X:Cx)(x:Str)(M:List Str)(scope:Scope)(cl:List (Str×Addr))(C:Addr)(s:Shared)(H:Hp)(fp:List Addr):Cx :=
 { X with N:=x::M,s₀:=s,H₀:=H,env:=compEnvC scope cl C X.env,outer:=X.stack,ex:=fp,fn:=λ_=>false,pn:=[],xe:=λ_ _=>False }
def vH (J:It)(te:TE)(σ:St)(D:Addr)(H1:Hp)(Q:VK):Prop:=∃W:Nat->Nat->List V->Hp->Prop,(∃m,W 0 m [] (upd H1 D (.lst [])))/\∀i m ys H2,W i m ys H2 ->
 H2 D=some (.lst ys)/\((J.stop i H2/\Q (.ref D) H2)\/(J.go i H2/\ys.length < ka/\∀x H3,J.yld i H2 x H3->te (some x::σ) H3 λy H4=>H4 D=some (.lst ys)/\∃m',m' < m/\W (i+1) m' (ys++[y]) (upd H4 D (.lst (ys++[y])))))
def OT (wi:TI)(te:TE):TE:=λσ H Q=>wi σ H λJ H1=>∀D,H1 D=none->vH J te σ D H1 Q
section
variable{X:Cx}{pins:List (Addr×Obj)}{σ:St}{H:Hp}{s:Shared}{elt iter:Expr}{x:Str}{px pos:Pos}{scope:Scope}{wi:TI}{te:TE}{Q:VK}{M:List Str}
theorem RQ {cl:List (Str×Addr)}{C:Addr}{fp:List Addr}(S:dn scope X.env.scope x X.N M)(I:Inv X pins σ H s)(hC:s.heap.objs.size<=C)(p1:∀n c,cl.lookup n=some c->X.env.cells.lookup n=some c)
  (p3:∀y∈scope.names,y.2=.free->(cl.lookup y.1).isSome=true) (f2:∀b∈fp,gB X pins H b) (fo:∀b∈fp,b < s.heap.objs.size):(iR X x M scope cl C s H fp).Ok where
 mod:=I.ok.mod
 kind:=S.kind
 glob:=I.ok.glob
 blt:=I.ok.blt
 above:=hC
 inj:=λy z c h1 h2=>I.ok.inj y z c (p1 y c h1) (p1 z c h2)
 has:=λy hy=>by
  have hy':(cJ scope X.env.scope).names.lookup y=some .cell\/(cJ scope X.env.scope).names.lookup y=some .free:=hy;have hm:(y,aks)∈scope.names:=by
   rcases hy' with z | z
   ·exact(S.mem z (.inl rfl)).2.1
   ·exact(S.mem z (.inr rfl)).2.1
  exact Option.isSome_iff_exists.mp (p3 _ hm rfl)
 cab:=λy c h=>absurd h ku
 hd:=I.ok.hd
 frames:=I.ok.frames
 stk:=.inl rfl
 exf:=λb hb=>⟨ajK (ajI (fo b hb) hC),λy c e=>(f2 b hb).2.2.2.2.1 y c (p1 y c e)⟩
 bs:=I.bs
 bsz:=tm I.ok.bsz I.sz
 Eg:=λb o e hb=>by
  rcases (f2 b hb).2.2.2.1 with z | z
  ·exact I.ok.Eg b o e z
  ·exact absurd (ajI (om (I.ok.bs b o e).1) z) (ak2 _)
 Eh:=λb hb z=>by
  rcases List.mem_cons.mp (I.AG b z) with e | e
  ·exact(f2 b hb).2.1 e
  ·exact(f2 b hb).2.2.1 e
 uo:=I.stack
 frf:=I.Aj
theorem OU {cl:List (Str×Addr)}{C D:Addr}{fp:List Addr}{h₁:Heap}{tk:Nat}{m:Str->Option Value}(S:dn scope X.env.scope x X.N M)(I:Inv X pins σ H s)(hC:s.heap.objs.size<=C)(hD:s.heap.objs.size<=D)(hDC:D≠C)
  (p1:∀n c,cl.lookup n=some c->X.env.cells.lookup n=some c)
  (p3:∀y∈scope.names,y.2=.free->(cl.lookup y.1).isSome=true) (f2:∀b∈fp,gB X pins H b) (fo:∀b∈fp,b < s.heap.objs.size)
  (old:∀b o,s.heap.get? b=some o->h₁.get? b=some o) (hn:h₁.Ns C m) (hl:h₁.get? D=some { cls:=.type "list",data:=.seq ([]:List Value).toArray }) :
  Inv (iR X x M scope cl C s H fp) [] (none::σ) (upd H D (.lst [])) { s with heap:=h₁,toks:=tk }:=by
 have cellK:∀c v,s.heap.IsCell c v->h₁.IsCell c v:=λc v ⟨o,e,d⟩=>⟨o,old c o e,d⟩
 refine⟨RQ S I hC p1 p3 f2 fo,rfl,I.bare,Un.laid old hD (I.hok.fresh hD),⟨m,hn,λi n v h1 h2 h3=>?_⟩,λy c e=>?_,?_,λy c e=>?_,λp hp=>absurd (show p∈([]:List (Addr×Obj)) from hp) (by simp),I.hok.laid old hD ⟨akl _,[],0,.nil,hl⟩,?_⟩
 ·cases i with
  |zero =>
   have h2':(none:Option V)=some v:=by simpa using h2
   cases h2'
  |succ i =>
   have h0':M[i]?=some n:=by simpa [iR] using h1
   have h2':σ[i]?=some (some v):=by simpa using h2
   have h3':(cJ scope X.env.scope).names.lookup n=some .local\/(cJ scope X.env.scope).names.lookup n=some .cell\/(cJ scope X.env.scope).names.lookup n=some .free:=h3;have kX:(cJ scope X.env.scope).names.lookup n=some .cell/\(n,aks)∈scope.names/\X.env.scope.names.lookup n=some .cell:=by
    rcases h3' with z | z | z
    ·exact absurd z (S.nl n (ajQ h0'))
    ·exact⟨z,(S.mem z (.inl rfl)).2⟩
    ·exact absurd (S.mem z (.inr rfl)).1 (by decide)
   have h1':X.N[i]?=some n:=by
    have hi:i < X.N.length:=by rw[<-S.len];exact(List.getElem?_eq_some_iff.mp h0').1
    rcases S.rel i hi with z | z
    ·rw[<-z];exact h0'
    ·rw[h0']at z;have e:n=aj6:=ajJ z;rw[e,S.em]at kX;cases kX.1
   obtain⟨m0,hn0,hl0⟩:=I.loc;obtain⟨u,r,l⟩:=hl0 i n v h1' h2' (.inr (.inl kX.2.2));refine⟨u,r,.inr ⟨.inl kX.1,?_⟩⟩;obtain⟨c,hc⟩:=Option.isSome_iff_exists.mp (p3 _ kX.2.1 rfl);refine⟨c,hc,?_⟩;rcases l with ⟨k,_⟩ | ⟨_,c',hc',z⟩
   ·have k':X.env.scope.names.lookup n=some .local:=k;rw[kX.2.2]at k';cases k'
   ·rw[p1 n c hc]at hc';cases hc';exact cellK c _ z
 ·obtain⟨v,z⟩:=I.cell y c (p1 y c e);exact⟨v,cellK c v z⟩
 ·show (upd H D (.lst [])) C=none;rw[av (ajZ hDC)];exact I.hok.fresh hC
 ·obtain⟨v,z⟩:=I.cell y c (p1 y c e);rw[av (ajK (ajI z.lt hD))];exact I.oE y c (p1 y c e)
 ·show (none::σ).length=(x::M).length;rw[ajH,ajH,I.len,S.len]
theorem Dj {cl:List (Str×Addr)}{RR:Value->Addr->Result->Shared->Prop}(S:dn scope X.env.scope x X.N M)(hc:X.calm=true)(hi:PI X (.Name x px) iter wi)
  (he:∀cl C s H fp,PE (iR X x M scope cl C s H fp) elt te) (I:Inv X pins σ H s) (h:OT wi te σ H Q)
  (p1:∀n c,cl.lookup n=some c->X.env.cells.lookup n=some c) (p3:∀y∈scope.names,y.2=.free->(cl.lookup y.1).isSome=true)
  (hRR:∀D C H' s' o m,Inv X (pins++[(C,o)]) σ H' s'->s'.heap.get? C=some o->s'.heap.Ns C m->X.s₀.heap.objs.size<=C->(∀y c,X.env.cells.lookup y=some c->c≠C)->(∀p∈X.pn++pins,p.1≠C)->Q (.ref D) H'->RR (.ref D) C (.ok .next) s') :
  wpAny (model X.prog X.w) X.A (eval iter X.env) (λxv s₁=>wpAny (model X.prog X.w) X.A (pyIter xv) (λit s₂=>wpAny (model X.prog X.w) X.A (newList []) (λacc s₃ =>
   wpAny (model X.prog X.w) X.A (newFunctionEnv scope X.env.globals cl [] X.env.qual none .none (some X.env)) (λEA s₄ =>
    codeAny (model X.prog X.w) X.A (.compStart (.ListComp elt [⟨.Name x px,iter,[],0⟩] scope pos) 0 it acc { EA with scope:=relabel scope X.env }) (RR acc EA.locals) s₄) X.xe s₃) X.xe s₂) X.xe s₁) X.xe s:=by
 refine thn (hi pins s σ H _ I h) λv s1 h1=>thn h1 λitv s2 h2=>?_
 obtain⟨it,fp,tn,J,H2,rfl,I2,T,st2,f2,q⟩:=h2;refine wpAny_newObj_type (wpAny_newFunctionEnv S.AR (by intro y hy;simp at hy) (λh₁ hns₁ hsb₁=>?_) S.kind)
 dsimp only at hns₁ hsb₁ ⊢;generalize hHH:s2.heap.push { cls:=.type "list",dict:=none,data:=.seq ([]:List Value).toArray }=HH at hns₁ hsb₁ ⊢;have hCs:HH.objs.size=s2.heap.objs.size+1:=by rw[<-hHH,akV]
 have hDC:s2.heap.objs.size≠HH.objs.size:=by rw[hCs];exact ajK (Nat.lt_succ_self _)
 have OV:s2.heap.objs.size<=HH.objs.size:=by rw[hCs];exact akq _
 have below:∀b,b < s2.heap.objs.size->b≠HH.objs.size:=λb hb=>by rw[hCs];exact ajK (Nat.lt_succ_of_lt hb)
 have old:∀b o,s2.heap.get? b=some o->h₁.get? b=some o:=λb o e=>hsb₁.extBut b o (below b (om e)) (gr _ (hHH▸gr _ e))
 have M6:h₁.get? s2.heap.objs.size=some { cls:=.type "list",data:=.seq ([]:List Value).toArray }:=hsb₁.extBut _ _ hDC (gr _ (hHH▸ajM _ rfl));have fo:∀b∈fp,b < s2.heap.objs.size:=λb hb=>by
  obtain⟨o,e,_⟩:=T.obj _ _ st2 b hb;exact om e
 have IY:=OU (tk:=s2.toks+([]:List (Str×Value)).length) S I2 OV (kq _) hDC p1 p3 f2 fo old hns₁ M6;have st1:tn 0 h₁:=T.keep _ _ _ st2 λb _ o e=>old b o e
 obtain⟨W,⟨m0,w0⟩,turn⟩:=q _ (I2.hok.fresh (kq _));generalize hC:HH.objs.size=C at *;generalize hDD:s2.heap.objs.size=D at *;have ndY:(iR X x M scope cl C s2 H2 fp).N.Nodup:=by
  refine List.nodup_cons.mpr ⟨λhm=>S.nl x hm (lookup_relabel_local S.hx),S.ndM⟩
 have stat:∀ {H':Hp},(∀b∈fp,H' b=none)->∀b∈fp,gB (iR X x M scope cl C s2 H2 fp) [] H' b:=λhn b hb =>
  ⟨hn b hb,below b (fo b hb),IY.ok.Eh b hb,.inl hb,λy c e=>(f2 b hb).2.2.2.2.1 y c (p1 y c e),λp hp=>absurd (show p∈([]:List (Addr×Obj)) from hp) (by simp)⟩
 have loop:codeAny (model X.prog X.w) X.A (.compLoop (.ListComp elt [⟨.Name x px,iter,[],0⟩] scope pos) 0 (.ref it) (.ref D) (compEnvC scope cl C X.env)) (RR (.ref D) C) { s2 with heap:=h₁,toks:=s2.toks+([]:List (Str×Value)).length }:=by
  refine codeAny_compLoop_tests (λn s'=>∃i v0 ys H',Inv (iR X x M scope cl C s2 H2 fp) [] (v0::σ) H' s'/\tn i s'.heap/\(∀b∈fp,H' b=none)/\W i n ys H') ?_ m0 ⟨0,none,[],_,IY,st1,λb hb=>?_,w0⟩
  ·rintro n s3 ⟨i,v0,ys,H3,I3,st3,fr3,w3⟩;obtain⟨hDl,hw⟩:=turn i n ys H3 w3;rcases hw with ⟨stop,qn⟩ | ⟨go,hsz,step⟩
   ·refine thn (T.done (iR X x M scope cl C s2 H2 fp) rfl rfl rfl hc i [] s3 _ H3 _ I3 (stat fr3) st3 stop) λr s4 ⟨hr,I4⟩=>?_
    subst hr;obtain⟨m4,hn4,_⟩:=I4.loc;obtain⟨oC,es4,ep4,e4,r4⟩:=id hn4;have M7:s2.heap.objs.size<=C:=by rw[hDD];exact OV
    have IX:Inv X pins σ H3 s4:=I2.LY (ch:=fp) I4.os I4.base I4.hok I4.bare λb hb=>⟨(f2 b hb).2.2.2.1,(f2 b hb).2.1,(f2 b hb).2.2.2.2.1,(f2 b hb).2.2.2.2.2⟩
    have fC:=I2.AI (H':=H3) M7 I4.free;have IX2:Inv X (pins++[(C,oC)]) σ H3 s4:=IX.Ak λp hp=>(List.mem_append.mp hp).elim (λz=>IX.pin p (ki _ z)) λz=>by
     have e:p=(C,oC):=by simpa using z
     subst e;exact⟨e4,fC.1,fC.2.1,fC.2.2.1,λv z=>by rw[r4.1]at z;cases z⟩
    exact hRR D C H3 s4 oC m4 IX2 e4 hn4 (tm I2.sz M7) fC.2.2.2.2.1 fC.2.2.2.2.2 qn
   ·refine thn (T.item (iR X x M scope cl C s2 H2 fp) rfl rfl rfl hc i [] s3 _ H3 _ I3 (stat fr3) st3 go) λr s4 ⟨u,hr,h4⟩=>?_
    subst hr;have e0:∀k:Sem Unit,(letOwnedTupleGo (.Name x px) (.ref it) u >>= λ_=>k)=k:=λk=>by
     rw[show letOwnedTupleGo (.Name x px) (.ref it) u=pure () from rfl,pure_bind]
    show wpAny _ _ (assign (.Name x px) (compEnvC scope cl C X.env) u) _ _ s4;rw[<-e0 (assign (.Name x px) (compEnvC scope cl C X.env) u)];refine eg (thn h4 λ_ s5 ⟨xv,H5,I5,r5,y5,st5,fr5⟩=>?_)
    have I5':=I5.pinned (stat fr5) (T.obj _ _ st5);have hxl:(iR X x M scope cl C s2 H2 fp).env.scope.names.lookup x=some .local:=lookup_relabel_local S.hx;refine wpAny_assign_Name (vp (X:=iR X x M scope cl C s2 H2 fp) (i:=0) I5' ndY rfl (adm hxl) r5 (λs6 I6=>?_) (.inr hxl))
    refine wpAny_tests_nil ?_;rw[if_pos rfl];refine wt (he cl C s2 H2 fp _ s6 _ H5 _ I6 (step xv H5 y5)) (λy s7 ⟨yv,H7,I7,r7,hD7,m',hm',w7⟩=>?_) (λ_ _ f=>f.elim)
    refine wt (cU (X:=iR X x M scope cl C s2 H2 fp) _ s7 _ H7 (.ref D) [yv] (.ref D) [y] (λ_ H8=>H8=upd H7 D (.lst (ys++[yv]))) I7 rfl (.cons r7 .nil) ⟨D,ys,yv,rfl,rfl,hD7,hsz,rfl⟩)
     (λ_ s8 ⟨_,H8,I8,_,e8⟩=>?_) (λ_ _ f=>f.elim)
    subst e8;refine⟨m',hm',i+1,some xv,ys++[yv],_,I8.gY,T.keep _ _ _ st5 λb hb o e=>(I8.pin (b,o) (ki _ (ki _ (jo hb e)))).1,λb hb=>?_,w7⟩
    obtain⟨o,e,d⟩:=T.obj _ _ st5 b hb;exact(I8.pin (b,o) (ki _ (ki _ (jo hb e)))).2.1
  ·show (upd H2 D (.lst [])) b=none;rw[av (ajK (fo b hb))];exact(f2 b hb).1
 exact codeAny_compStart_list loop (T.self _ 0 _ _ _ st1 loop)
theorem vI (S:dn scope X.env.scope x X.N M)(hc:X.calm=true)(hi:PI X (.Name x px) iter wi)(he:∀cl C s H fp,PE (iR X x M scope cl C s H fp) elt te)
  (hs:∀x,foldedSetIterable iter X.env x=pure x:=by intro _;rfl):PE X (.ListComp elt [⟨.Name x px,iter,[],0⟩] scope pos) (OT wi te):=by
 intro pins s σ H Q I h;obtain⟨cl,F4,p1,p3⟩:=xx (scope:=scope) (env:=X.env) (λy hy hf=>I.ok.has y.1 (.inl (S.free y hy hf)))
 rw[eval_ListComp];refine wpAny_comprehension_free (use:=none) rfl hs F4 S.kind S.names (Dj (RR:=λacc C=>compPost (model X.prog X.w) X.A X.xe none (EP X pins σ Q) acc C) S hc hi he I h p1 p3 ?_)
 intro D C H' s' o m I' e hn h0 h1 h2 q;refine⟨m,hn,λh' hs'=>?_⟩
 have pC:=I'.pin (C,o) (ki _ (ki _ (by simp)))
 have IX:Inv X pins σ H' s':=I'.gY;exact⟨.ref D,H',IX.turned (t':=s'.toks) (λb ob hb e=>(hs'.2 b hb).trans e) pC.2.1 pC.2.2.1 (.inr h0) h1 h2,rfl,q⟩
theorem JW {i:Nat}{y:Str}{py Z6:Pos}(S:dn scope X.env.scope x X.N M)(hc:X.calm=true)(hj:X.N[i]?=some y)(hy:Loc X.env.scope y)(hi:PI X (.Name x px) iter wi)(he:∀cl C s H fp,PE (iR X x M scope cl C s H fp) elt te)
  (hsw:swapsWith (.ListComp elt [⟨.Name x px,iter,[],0⟩] scope pos) (some (.Name y py)) Z6.line X.env=pure true:=by rfl)
  (hf:X.fn y=true\/X.env.scope.names.lookup y=some .local:=by first | exact .inl rfl | exact .inr rfl | assumption)
  (hs:∀x,foldedSetIterable iter X.env x=pure x:=by intro _;rfl):PS X (.Assign [.Name y py] (.ListComp elt [⟨.Name x px,iter,[],0⟩] scope pos) Z6) (Vs (OT wi te) (fj i)):=by
 intro pins s σ H D I h;obtain⟨cl,F4,p1,p3⟩:=xx (scope:=scope) (env:=X.env) (λy hy hf=>I.ok.has y.1 (.inl (S.free y hy hf)))
 rw[exec_Assign_Name_used _ _ _ _ hsw];refine eg (ako (eg ?_));show wpAny _ _ (do let _ <-comprehension (.ListComp elt [⟨.Name x px,iter,[],0⟩] scope pos) scope X.env _ (newList []) false (eval iter X.env) (some (assign (.Name y py) X.env))) _ _ s
 refine eg (wt (wpAny_comprehension_free (use:=some (assign (.Name y py) X.env)) (Q:=λ_ s'=>SP X pins D .next s') rfl hs F4 S.kind S.names
  (Dj (RR:=λacc C=>compPost (model X.prog X.w) X.A X.xe (some (assign (.Name y py) X.env)) (λ_ s'=>SP X pins D .next s') acc C) S hc hi he I h p1 p3 ?_)) (λ_ s' hq=>si (si hq)) λ_ _ e=>e)
 intro Dd C H' s' o m I' e hn h0 h1 h2 q;show wpAny _ _ (assign (.Name y py) X.env (.ref Dd)) _ _ s';refine wpAny_assign_Name (vp I' S.nd hj hy (v:=.ref Dd) rfl (λs'' I''=>?_) hf)
 have pC:=I''.pin (C,o) (ki _ (ki _ (by simp)))
 obtain⟨o',es,ep,e0,r⟩:=hn;rw[e]at e0;cases e0;have IX:Inv X pins _ H' s'':=I''.gY;refine⟨m,⟨o,es,ep,pC.1,r⟩,λh' hs'=>?_⟩
 exact⟨_,H',IX.turned (t':=s''.toks) (λb ob hb e=>(hs'.2 b hb).trans e) pC.2.1 pC.2.2.1 (.inr h0) h1 h2,q⟩
def ei (D:Addr)(n:Nat)(Pv:Nat->List V->Hp->Prop)(i:Nat)(ys:List V):VK:=λy H4=>H4 D=some (.lst ys)/\∃m',m' < n - i/\m'=n - (i+1)/\i+1<=n/\Pv (i+1) (ys++[y]) (upd H4 D (.lst (ys++[y])))
theorem ei.mk {D:Addr}{n:Nat}{Pv:Nat->List V->Hp->Prop}{i:Nat}{ys:List V}{y:V}{H4:Hp}(hi:i < n)(h1:H4 D=some (.lst ys))(h2:Pv (i+1) (ys++[y]) (upd H4 D (.lst (ys++[y])))):ei D n Pv i ys y H4 :=
 ⟨h1,n - (i+1),by omega,rfl,hi,h2⟩
theorem tW {K:ba}{a D:Addr}{xs:List V}{te:TE}{Q:VK}{σ:St}{H1:Hp}(Pv:Nat->List V->Hp->Prop)(h0:Pv 0 [] (upd H1 D (.lst [])))(hz:xs.length<=ka)
  (hl:∀i ys H2,i<=xs.length->Pv i ys H2->SqL K H2 a xs/\H2 D=some (.lst ys)/\ys.length=i)
  (hs:∀i x ys H2,xs[i]?=some x->Pv i ys H2->te (some x::σ) H2 (ei D xs.length Pv i ys)) (hd:∀ys H2,Pv xs.length ys H2->Q (.ref D) H2) :
  vH (Itl K a) te σ D H1 Q:=by
 refine⟨λi m ys H=>m=xs.length - i/\i<=xs.length/\Pv i ys H,⟨xs.length,by simp,akl _,h0⟩,?_⟩
 rintro i m ys H2 ⟨rfl,hi,p⟩;obtain⟨q,q2,q3⟩:=hl i ys H2 hi p;refine⟨q2,?_⟩
 by_cases hlt:i < xs.length
 ·refine .inr ⟨⟨xs,xs[i],q,by simp[hlt]⟩,by omega,λx H3 y=>?_⟩
  obtain⟨e,y⟩:=y;subst e;exact hs i x ys _ (y xs q) p
 ·have e:i=xs.length:=by omega
  subst e;exact .inl ⟨⟨xs,q,kq _⟩,hd ys H2 p⟩
theorem JX {lo:Int}{n:Nat}{D:Addr}{te:TE}{Q:VK}{σ:St}{H1:Hp}(Pv:Nat->List V->Hp->Prop)(h0:Pv 0 [] (upd H1 D (.lst [])))(hz:n<=ka)
  (hl:∀i ys H2,i<=n->Pv i ys H2->H2 D=some (.lst ys)/\ys.length=i)
  (hs:∀i ys H2,i < n->Pv i ys H2->te (some (.int (lo+i))::σ) H2 (ei D n Pv i ys)) (hd:∀ys H2,Pv n ys H2->Q (.ref D) H2) :
  vH (Itr lo n) te σ D H1 Q:=by
 refine⟨λi m ys H=>m=n - i/\i<=n/\Pv i ys H,⟨n,by simp,akl _,h0⟩,?_⟩
 rintro i m ys H2 ⟨rfl,hi,p⟩;obtain⟨q2,q3⟩:=hl i ys H2 hi p;refine⟨q2,?_⟩
 by_cases hlt:i < n
 ·refine .inr ⟨hlt,by omega,λx H3 y=>?_⟩
  obtain⟨e,y⟩:=y;subst e y;exact hs i ys _ hlt p
 ·have e:i=n:=by omega
  subst e;exact .inl ⟨kq _,hd ys H2 p⟩
end
end L2
namespace L2
open PySem PySem.Spec PyProof.Rows
structure MkN (K:ba)(C:Addr):Prop where
 makes:akk K C=true
 init:cb K (.ref C) "__init__"=some (some (.builtin "object.__init__"))
 kp:da K (.ref C)=true
def VQ (C:Addr):TE:=λ_ H Q=>∀x dx,H x=none->H dx=none->dx≠x->Q (.ref x) (upd (upd H dx (.own x)) x (.ins C dx []))
section
variable{X:Cx}{C:Addr}{x:Str}{p pos:Pos}
theorem oH (M:MkN X.K C)(hg:Gl X x)(hm:X.mg x=some (.ref C))(hdb:(x == ("__debug__":Str))=false:=by decide):PE X (.Call (.Name x p) [] [] pos) (VQ C):=by
 intro pins s σ H Q I h;refine wpAny_Call_Name_kw (jW I hg hm ?_ hdb);refine akU I.kIn M.kp (wpAny_call ?_);have I2:=Inv.made (C:=C) I;have q:=h (s.heap.objs.size+1) s.heap.objs.size (I.hok.fresh (akq _)) (I.hok.fresh (kq _)) (ajK (Nat.lt_succ_self _));have fin:EP X pins σ Q (.ref (s.heap.objs.size+1)) { s with heap:=(s.heap.push aj4).push (aj8 C s.heap.objs.size) }:=⟨.ref _,_,I2,rfl,q⟩
 have X1:=I.kIn;have e2:((s.heap.push aj4).push (aj8 C s.heap.objs.size)).get? (s.heap.objs.size+1)=some (aj8 C s.heap.objs.size):=by
  have:=ajM (s.heap.push aj4) (o:=aj8 C s.heap.objs.size) rfl
  rwa [akV]at this
 clear I2 q h I;obtain⟨hh,g,d,t,os⟩:=s;have Y:=PySem.W.makes_of (M:=model X.prog X.w) X1 M.makes;refine PySem.W.make_core Y (PySem.W.looks_findIn X1 M.init) (λself=>PySem.W.Looks.of_pure (PySem.W.oi_bind self)) (.inr ⟨rfl,rfl⟩) ?_
 have t1:PySem.W.Looks (model X.prog X.w) ((hh.push aj4).push (aj8 C hh.objs.size)) (typeOf (.ref (hh.objs.size+1))) (.ref C):=(PySem.W.Looks.ld e2).andThen .now;have t2:PySem.W.Looks (model X.prog X.w) ((hh.push aj4).push (aj8 C hh.objs.size)) (isInstance (.ref (hh.objs.size+1)) (.type "object")) true:=t1.andThen (Y.top.keeps λb o e=>gr _ (gr _ e))
 refine codeAny_call_builtin PySem.W.oi_plain PySem.W.entry_oi (@PySem.W.check_slot (model X.prog X.w) _ _ _ "object.__init__" "object" "__init__" (.ref (hh.objs.size+1)) [] [] _ PySem.W.oi_kind PySem.W.oi_split t2 (PySem.W.oi_args (.ref (hh.objs.size+1))) ?_);show wpAny _ _ (Builtin.«object.__init__» ⟨[.ref (hh.objs.size+1)],[]⟩) _ _ _;rw[PySem.W.oi_run];exact si (And.intro rfl fin)
end
structure Z7 (P:Params)(K:ba)(a:Addr):Prop where
 ex:∃es n,K.lookup a=some ⟨.type "dict",none,.dict es n,#[]⟩/\PySem.W.KeysLit P es.toList
section
variable{X:Cx}
theorem OW:IxR X (λx y H Q=>∃a z v u,x=.ref a/\y=.str z/\Z7 X.w.params X.K a/\di X.K a z=some (some u)/\RelV v u/\Q v H):=by
 intro value slice pins s σ H x y v u Q I rx ry h hs;obtain⟨a,z,w',u',rfl,rfl,⟨es,n,hl,hk⟩,e,r,q⟩:=h;cases rx;obtain⟨t,rfl⟩:=ry;have hm:=PySem.W.mapOf_K (prog:=X.prog) I.kIn hl hk;exact tail_any hm.typeIs slot_dict_getitem.lookup (wpAny_getItem_of (strKind_is X.prog X.w z t) hm (PySem.W.find_K hl e) ⟨w',H,I.tok _,r,q⟩) hs
end
end L2
namespace L2
open PySem PySem.Spec PyProof.Rows
theorem RS (bs:List Bool):(List.range bs.length).any (λi=>bs.getD i false)=bs.any id:=by
 have e:(List.range bs.length).map (λi=>bs.getD i false)=bs:=by
  apply List.ext_getElem
  ·simp
  ·intro i h1 h2;simp[h2]
 calc _=((List.range bs.length).map (λi=>bs.getD i false)).any id:=by rw[List.any_map];rfl
  _=_:=by rw[e]
theorem F5:∀ {bs:List Bool} {us:List Value},Vals (bs.map V.bl) us->us=bs.map Value.bool
 |[],_,.nil=>rfl
 |b::bs,_,.cons r t=>by
  cases r;rw[F5 t];rfl
section
variable{X:Cx}
theorem OX (hc:X.calm=true):lY X (.builtin "any") (λxs H Q=>∃(p:Addr) (bs:List Bool),xs=[.ref p]/\SqL X.K H p (bs.map V.bl)/\Q (.bl (bs.any id)) H):=by
 intro pins s σ H xs us Q I r h;obtain⟨p,bs,rfl,hq,q⟩:=h;obtain⟨u,rfl,rx⟩:=vals1 r;cases rx;obtain⟨its,rv,pl,hz⟩:=I.list hq;obtain rfl:=F5 rv;refine call_any_walk (wpAny_pyIter_list pl.isList ?_);obtain⟨o,n,e,_⟩:=id pl;have hlt:p < s.heap.objs.size:=om e;refine⟨s.heap.objs.size,_,_,_,_,_,λi=>bs.getD i false,rfl,Walks.list (A:=X.A.in1) (show X.A.in1.handled=none from I.ok.hd hc) s.heap.objs.size p (ajK hlt) (bs.map Value.bool).toArray,⟨⟨_,ajM _ rfl,rfl,rfl⟩,pl.isList.at λo e=>gr _ e⟩,?_,λh' tk kk=>?_⟩
 ·intro i v s' Q' E' hv q';have hv':v=Value.bool (bs.getD i false):=by
   have h2:(bs.map Value.bool)[i]?=some v:=by simpa using hv
   rw[aj0]at h2;cases hb:bs[i]? with
   |none=>rw[hb]at h2;cases h2
   |some b =>
    rw[hb]at h2;rw[ajN,hb];exact(ajJ h2).symm
  rw[hv'];exact wpAny_truthy_bool q'
 ·have I1:Inv X pins σ H { s with heap:=h',toks:=tk }:=I.kept λb o e=>kk b o (by simp;exact ajK (om e)) (gr _ e)
  refine⟨.bl _,H,I1,rfl,?_⟩;have e1:(bs.map Value.bool).toArray.size=bs.length:=by simp
  rw[e1,RS];exact q
end
end L2
set_option maxHeartbeats 4000000
namespace L2
open PySem PySem.Spec PyProof.Rows
def Z8 (X:Cx)(pins:List (Addr×Obj))(H:Hp)(h:Heap)(e:Addr)(vs:Array Value):Option Value->Prop
 |none=>vs[1]?=some .none
 |some m=>∃(T:Addr) (oT:Obj) (ts:Array Value),vs[1]?=some (.ref T)/\T≠e/\gB X pins H T/\h.get? T=some oT/\oT.data=.fields ts/\ts[3]?=some m
structure XAt (X:Cx)(pins:List (Addr×Obj))(H:Hp)(h:Heap)(e:Addr)(cls:Value)(xd:Option Addr)(m:Option Value):Prop where
 ok:gB X pins H e
 ex:∃(sl:Array (Option Value)) (vs:Array Value),h.get? e=some ⟨cls,xd,.fields vs,sl⟩/\1 < vs.size/\Z8 X pins H h e vs m
def MOk (_:Cx)(m:Option Value):Prop:=m=none\/m=some .none\/∃v,m=some v
def XP (X:Cx)(pins:List (Addr×Obj))(σ:St)(E:XK)(e:Value)(s':Shared):Prop :=
 ∃(ea:Addr) (cls:Value) (xd:Option Addr) (m:Option Value) (H':Hp),e=.ref ea/\Inv X pins σ H' s'/\XAt X pins H' s'.heap ea cls xd m/\MOk X m/\E cls xd H'
abbrev SXK:=St->XK
def XPS (X:Cx)(pins:List (Addr×Obj))(E:SXK)(e:Value)(s':Shared):Prop:=∃σ',XP X pins σ' (E σ') e s'
structure Fr1 (X:Cx):Prop where
 stk:X.stack=X.env::X.outer
 fr:X.env.frame=some X.env.locals
section
variable{X:Cx}{pins:List (Addr×Obj)}{σ:St}{H H':Hp}{s:Shared}{e:Addr}{cls:Value}{xd:Option Addr}{m:Option Value}
theorem gB.ahA {b:Addr}(I:Inv X pins σ H s)(f:gB X pins H' b):b∉frs X.stack:=λz=>by
 rcases List.mem_cons.mp (I.AG b z) with q | q
 ·exact f.2.1 q
 ·exact f.2.2.1 q
theorem gB.drop {pl:List (Addr×Obj)}{b:Addr}(f:gB X (pins++pl) H b):gB X pins H b :=
 ⟨f.1,f.2.1,f.2.2.1,f.2.2.2.1,f.2.2.2.2.1,λp hp=>f.2.2.2.2.2 p ((List.mem_append.mp hp).elim (λz=>akb _ z) λz=>ki _ (akb _ z))⟩
theorem gB.clear {b:Addr}(f:gB X pins H b):gB X [] H b :=
 ⟨f.1,f.2.1,f.2.2.1,f.2.2.2.1,f.2.2.2.2.1,λp hp=>f.2.2.2.2.2 p ((List.mem_append.mp hp).elim (λz=>akb _ z) λz=>nomatch z)⟩
theorem XAt.drop {pl:List (Addr×Obj)}{h:Heap}(x:XAt X (pins++pl) H h e cls xd m):XAt X pins H h e cls xd m:=by
 obtain⟨ok,sl,vs,he,hz,hm⟩:=x;refine⟨ok.drop,sl,vs,he,hz,?_⟩;cases m with
 |none=>exact hm
 |some m=>obtain⟨T,oT,ts,a,b,c,d⟩:=hm;exact⟨T,oT,ts,a,b,c.drop,d⟩
theorem XAt.clear {h:Heap}(x:XAt X pins H h e cls xd m):XAt X [] H h e cls xd m:=by
 obtain⟨ok,sl,vs,he,hz,hm⟩:=x;refine⟨ok.clear,sl,vs,he,hz,?_⟩;cases m with
 |none=>exact hm
 |some m=>obtain⟨T,oT,ts,a,b,c,d⟩:=hm;exact⟨T,oT,ts,a,b,c.clear,d⟩
theorem XP.drop {pl:List (Addr×Obj)}{E:XK}{v:Value}(x:XP X (pins++pl) σ E v s):XP X pins σ E v s:=by
 obtain⟨ea,cls,xd,m,H',rfl,I,hx,hm,q⟩:=x;exact⟨ea,cls,xd,m,H',rfl,I.gY,hx.drop,hm,q⟩
theorem VR {h':Heap}(I:Inv X pins σ H s)(he:gB X pins H e)(k1:∀b o,b∉frs X.stack->b≠e->s.heap.get? b=some o->h'.get? b=some o)
  (k2:∀b o,b≠e->s.heap.get? b=some o->∃sl,h'.get? b=some { o with slots:=sl }):Un (frs X.stack) [e] H H s.heap h'/\HOk X.prog X.w H h':=by
 refine⟨⟨λb o q _ hb hx=>k1 b o hb (by simpa using hx) q,λb o q _ _ hx=>k2 b o (by simpa using hx) q,λb o _ n _=>n,λb o q hx=>?_,λ_ _ q=>q,λ_ _ _ q=>q,λ_ ps q=>⟨#[],by rw[q];simp⟩⟩,λa o q=>?_⟩
 ·obtain⟨sl,z⟩:=k2 b o (by simpa using hx) q
  exact⟨_,z⟩
 ·refine(I.hok a o q).FO (λb u hb r=>k1 b u (λz=>?_) (λz=>?_) r) (λ_ z=>z) (λ_ _ z=>z)
  ·have n:=I.Aj b z;rcases hb with rfl | hb
   ·rw[q]at n;cases n
   ·rw[hb]at n;cases n
  ·have n:=he.1;rw[<-z]at n;rcases hb with rfl | hb
   ·rw[q]at n;cases n
   ·rw[hb]at n;cases n
theorem RT {h':Heap}(I:Inv X pins σ H s)(he:gB X pins H e)(k1:∀b o,b∉frs X.stack->b≠e->s.heap.get? b=some o->h'.get? b=some o)
  (k2:∀b o,b≠e->s.heap.get? b=some o->∃sl,h'.get? b=some { o with slots:=sl }):Inv X pins σ H { s with heap:=h' }:=by
 obtain⟨u,ok⟩:=VR I he k1 k2;refine I.call (g':=s.gens) (t':=s.toks) (d':=s.drawn) u ok I.bare λb hb=>?_
 obtain rfl:b=e:=by simpa using hb
 exact⟨he.2.2.2.1,he.2.1,he.2.2.2.2.1,he.2.2.2.2.2⟩
theorem L7 {M:Model}{A:Around}{E:Value->Shared->Prop}{head:Value}{RU:Bool}{sl:Array (Option Value)}{vs:Array Value}{Q:Unit->Shared->Prop}(F:Fr1 X)(hA:A.frames=some X.stack)(I:Inv X pins σ H s)(ok:gB X pins H e)
  (he:s.heap.get? e=some ⟨cls,xd,.fields vs,sl⟩) (hz:1 < vs.size) (h:∀s',Inv X pins σ H s'->XAt X pins H s'.heap e cls xd (some (rawInt X.env.locals))->Q () s') :
  wpAny M A (do let a <-frameOf X.env;let pl <-entryPlaceOf X.env.locals RU;let b <-EntryCells.newEntry head a .none (rawInt X.env.locals) .none pl;setField (.ref e) 1 b) Q E s:=by
 have nE:e∉frs X.stack:=ok.ahA I;have fs:=I.stack;rw[F.stk]at hA fs nE;refine eg (wpAny_frameOf_fun hA fs F.fr λh₁ so=>?_)
 refine eg (wpAny_entryPlaceOf λpl hpl=>?_)
 unfold EntryCells.newEntry newFields;refine eg (wpAny_newObj_type ?_ (hpl.sizeOk5 _ _ _ _ _));generalize ht:([head,.ref X.env.locals,.none,rawInt X.env.locals,.none]++(if pl.isEmpty then akW 6 akM else pl)).toArray=ts
 have t3:ts[3]?=some (rawInt X.env.locals):=by rw[<-ht];simp
 have e1:h₁.get? e=some ⟨cls,xd,.fields vs,sl⟩:=(so.2.1 e nE).trans he;have e2:=gr (h:=h₁) { cls:=.type "traceback",dict:=none,data:=.fields ts } e1;refine wpAny_setField e2 rfl hz ?_;have sz:h₁.objs.size=s.heap.objs.size:=so.1;have nT:h₁.objs.size≠e:=Nat.ne_of_gt (om e1);have k0:∀b o,b≠e->h₁.get? b=some o->((h₁.push { cls:=.type "traceback",dict:=none,data:=.fields ts }).update e (aky (·.setIfInBounds 1 (ajL h₁.objs.size)))).get? b=some o:=λb o hb q =>
  (akh _ _ (ajZ hb)).trans (gr _ q)
 have I':=RT (h':=(h₁.push { cls:=.type "traceback",dict:=none,data:=.fields ts }).update e (aky (·.setIfInBounds 1 (ajL h₁.objs.size)))) I ok
  (λb o hb hbe q=>k0 b o hbe ((so.2.1 b (by rw[<-F.stk];exact hb)).trans q)) (λb o hbe q=>by obtain⟨sl,z⟩:=so.2.2 b o q;exact⟨sl,k0 b _ hbe z⟩)
 have fT:gB X pins H h₁.objs.size:=I.AI (by rw[sz];exact kq _) (by rw[sz];exact I.fresh)
 have gE:((h₁.push { cls:=.type "traceback",dict:=none,data:=.fields ts }).update e (aky (·.setIfInBounds 1 (ajL h₁.objs.size)))).get? e=some ⟨cls,xd,.fields (vs.setIfInBounds 1 (ajL h₁.objs.size)),sl⟩ :=
  akF (aky (·.setIfInBounds 1 (ajL h₁.objs.size))) e2 rfl
 have gT:((h₁.push { cls:=.type "traceback",dict:=none,data:=.fields ts }).update e (aky (·.setIfInBounds 1 (ajL h₁.objs.size)))).get? h₁.objs.size=some { cls:=.type "traceback",dict:=none,data:=.fields ts } :=
  (akh _ _ (ajZ nT)).trans (ajM h₁ rfl)
 exact h _ I' ⟨ok,sl,_,gE,by simpa using hz,h₁.objs.size,_,ts,by simp[hz],nT,fT,gT,rfl,t3⟩
theorem rW {M:Model}{A:Around}{E:Value->Shared->Prop}{f:Option Addr}{mv:Value}{Q:Unit->Shared->Prop}(I:Inv X pins σ H s)(x:XAt X pins H s.heap e cls xd (some mv))
  (h:∀s',Inv X pins σ H s'->XAt X pins H s'.heap e cls xd (some (f.elim .none λb=>rawInt b))->Q () s'):wpAny M A (setFlight (.ref e) f) Q E s:=by
 obtain⟨ok,sl,vs,he,hz,T,oT,ts,h1,nT,fT,hT,hd,h3⟩:=x;unfold setFlight;refine eg (wpAny_field he rfl h1 ?_);rw[if_pos (show (ajL T != akM)=true by simp)]
 have z3:3 < ts.size:=(Array.getElem?_eq_some_iff.mp h3).1;refine wpAny_setField hT hd z3 ?_;have other:∀b,b≠T->(s.heap.update T (aky (·.setIfInBounds 3 (f.elim akM λb=>rawInt b)))).get? b=s.heap.get? b:=λb hb=>akh _ _ (ajZ hb)
 have I':=I.turned (t':=s.toks) (h':=s.heap.update T (aky (·.setIfInBounds 3 (f.elim akM λb=>rawInt b)))) (λb o hb q=>(other b hb).trans q) fT.1 fT.2.1 fT.2.2.2.1 fT.2.2.2.2.1 fT.2.2.2.2.2
 exact h _ I' ⟨ok,sl,vs,(other e (ajZ nT)).trans he,hz,T,_,_,h1,nT,fT,akF _ hT (Obj.isFreed_of_fields (Obj.data_mapFields hd _)),Obj.data_mapFields hd _,by simp[z3]⟩
theorem JY {M:Model}{A:Around}{E:Value->Shared->Prop}{Q:Unit->Shared->Prop}(F:Fr1 X)(hA:A.frames=some X.stack)(I:Inv X pins σ H s)(x:XAt X pins H s.heap e cls xd m)(hm:MOk X m)
  (h:∀s',Inv X pins σ H s'->XAt X pins H s'.heap e cls xd (some (rawInt X.env.locals))->Q () s'):wpAny M A (noteFrame (.ref e) X.env) Q E s:=by
 obtain⟨ok,sl,vs,he,hz,hv⟩:=x;unfold noteFrame;simp only[F.fr];cases m with
 |none =>
  refine eg (wpAny_field he rfl hv ?_);rw[if_neg (by decide)]
  exact L7 F hA I ok he hz h
 |some mv =>
  obtain⟨T,oT,ts,h1,nT,fT,hT,hd,h3⟩:=hv;refine eg (wpAny_field he rfl h1 ?_);rw[if_pos (show (ajL T != akM)=true by simp)]
  refine eg (wpAny_field hT hd h3 ?_)
  by_cases hmv:mv=rawInt X.env.locals
  ·subst hmv;rw[if_pos (show (rawInt X.env.locals == rawInt X.env.locals)=true by simp)]
   exact si (h s I ⟨ok,sl,vs,he,hz,T,oT,ts,h1,nT,fT,hT,hd,h3⟩)
  ·rw[if_neg (show ¬(mv == rawInt X.env.locals)=true from λz=>hmv (beq_iff_eq.mp z))]
   have z3:3 < ts.size:=(Array.getElem?_eq_some_iff.mp h3).1;refine eg (wpAny_setField hT hd z3 ?_);have other:∀b,b≠T->(s.heap.update T (aky (·.setIfInBounds 3 akM))).get? b=s.heap.get? b:=λb hb=>akh _ _ (ajZ hb)
   have I':=I.turned (t':=s.toks) (h':=s.heap.update T (aky (·.setIfInBounds 3 akM))) (λb o hb q=>(other b hb).trans q) fT.1 fT.2.1 fT.2.2.2.1 fT.2.2.2.2.1 fT.2.2.2.2.2
   exact L7 F hA I' ok ((other e (ajZ nT)).trans he) hz h
end
abbrev CXX (P:me)(w:World):CXT:=λouter H s E e s'=>∃(ea T:Addr) (cls:Value) (xd:Option Addr) (H':Hp),e=.ref ea/\s'.os=s.os/\AllBare s'.gens/\Un (frs outer) [] H H' s.heap s'.heap/\HOk P w H' s'.heap /\
 (H' ea=none/\s.heap.objs.size<=ea)/\(H' T=none/\s.heap.objs.size<=T)/\T≠ea /\
 (∃(sl:Array (Option Value)) (vs:Array Value) (oT:Obj) (ts:Array Value),s'.heap.get? ea=some ⟨cls,xd,.fields vs,sl⟩/\1 < vs.size/\vs[1]?=some (.ref T)/\s'.heap.get? T=some oT/\oT.data=.fields ts/\ts[3]?=some .none)/\E cls xd H'
section
variable{X:Cx}{pins:List (Addr×Obj)}{σ:St}{H:Hp}{s s':Shared}
theorem VS {E:XK}{e:Value}(I:Inv X pins σ H s)(h:CXX X.prog X.w X.stack H s E e s'):XP X pins σ E e s':=by
 obtain⟨ea,T,cls,xd,H',rfl,os,bare,un,hok,⟨e1,e2⟩,⟨t1,t2⟩,ne,⟨sl,vs,oT,ts,g1,g2,g3,g4,g5,g6⟩,q⟩:=h;have I':Inv X pins σ H' s':=I.LY (ch:=[]) os un hok bare λb z=>absurd z (by simp)
 exact⟨ea,cls,xd,some .none,H',rfl,I',⟨I.AI e2 e1,sl,vs,g1,g2,T,oT,ts,g3,ne,I.AI t2 t1,g4,g5,g6⟩,.inr (.inl rfl),q⟩
theorem EB:Passes (CXX X.prog X.w) X E0:=λ_ _ _ _ _ _ _ ⟨_,_,_,_,_,_,_,_,_,_,_,_,_,_,z⟩=>z.elim
end
section
variable{P:me}{w:World}{K:ba}{mg:Str->Option Value}{base:Heap}{k:Nat}{f:Addr}{fd:kg}{ps:List Str}{sp:Sp}
theorem aK.calm (F:aK P w K mg base (CXX P w) k f fd ps sp)(h:∀vs H Q E,sp vs H Q E->sp vs H Q E0):aK P w K mg base CX0 k f fd ps sp:=by
 refine⟨F.len,λA outer s H args us vs Q E hr he hb hv hs=>codeAny_mono (F.run A outer s H args us vs Q E0 hr he hb hv (h _ _ _ _ hs)) λr s' q=>?_⟩
 cases r with
 |error e=>obtain⟨_,_,_,_,_,_,_,_,_,_,_,_,_,_,z⟩:=q;exact z.elim
 |ok fl=>cases fl <;> exact q
theorem RV {N:List Str}{qual:Str}{scope:Scope}{cd:Value}{A:Around}{outer:List Env}{s s':Shared}{H:Hp}{E:XK}{e:Value}{pins:List (Addr×Obj)}
  (h:XPS (vz (CXX P w) P w K mg base N qual scope f cd A outer s H E) pins (λ_=>E) e s'):(vz (CXX P w) P w K mg base N qual scope f cd A outer s H E).xe e s':=by
 obtain⟨σ',ea,cls,xd,m,H',rfl,I,hx,hm,q⟩:=h;have fr:(vz (CXX P w) P w K mg base N qual scope f cd A outer s H E).A.frames=some (vz (CXX P w) P w K mg base N qual scope f cd A outer s H E).stack:=I.ok.frames;have F1:Fr1 (vz (CXX P w) P w K mg base N qual scope f cd A outer s H E):=⟨rfl,rfl⟩;show wpAny _ _ (leaving (vz (CXX P w) P w K mg base N qual scope f cd A outer s H E).env (.ref ea)) _ _ s';unfold leaving;refine eg (JY F1 fr I hx hm λs1 I1 x1=>rW I1 x1 λs2 I2 x2=>?_)
 obtain⟨ok,sl,vs,he,hz,T,oT,ts,h1,nT,fT,hT,hd,h3⟩:=x2;have old:∀ {b:Addr},gB (vz (CXX P w) P w K mg base N qual scope f cd A outer s H E) pins H' b->s.heap.objs.size<=b:=λ{b} z=>by
  rcases z.2.2.2.1 with y | y
  ·exact absurd (show b∈([]:List Addr) from y) (by simp)
  ·exact y
 exact⟨ea,T,cls,xd,H',rfl,I2.os,I2.bare,I2.base,I2.hok,⟨ok.1,old ok⟩,⟨fT.1,old fT⟩,nT,⟨sl,vs,oT,ts,he,hz,h1,hT,hd,h3⟩,q⟩
end
abbrev TEX:=St->Hp->VK->XK->Prop
abbrev TAX:=St->Hp->(List V->Hp->Prop)->XK->Prop
abbrev TSX:=Ends->SXK->St->Hp->Prop
def PEX (X:Cx)(e:Expr)(t:TEX):Prop :=
 ∀(pins:List (Addr×Obj)) (s:Shared) (σ:St) (H:Hp) (Q:VK) (E:XK),Inv X pins σ H s->t σ H Q E->wpAny (model X.prog X.w) X.A (eval e X.env) (EP X pins σ Q) (XP X pins σ E) s
def PAX (X:Cx)(es:List Expr)(t:TAX):Prop :=
 ∀(pos:Pos) (pins:List (Addr×Obj)) (s:Shared) (σ:St) (H:Hp) (Q:List V->Hp->Prop) (E:XK),Inv X pins σ H s->t σ H Q E->wpAny (model X.prog X.w) X.A (spliced (backTo pos (Lk es X.env))) (AP X pins σ Q) (XP X pins σ E) s
def PSX (X:Cx)(st:Stmt)(t:TSX):Prop :=
 ∀(pins:List (Addr×Obj)) (s:Shared) (σ:St) (H:Hp) (D:Ends) (E:SXK),Inv X pins σ H s->t D E σ H->wpAny (model X.prog X.w) X.A (exec st X.env) (SP X pins D) (XPS X pins E) s
def F6 (X:Cx)(st:List Stmt)(t:TSX):Prop :=
 ∀(pins:List (Addr×Obj)) (s:Shared) (σ:St) (H:Hp) (D:Ends) (E:SXK),Inv X pins σ H s->t D E σ H->wpAny (model X.prog X.w) X.A (execs st X.env) (SP X pins D) (XPS X pins E) s
def VT (te:TE):TEX:=λσ H Q _=>te σ H Q
def VU (ta:TA):TAX:=λσ H Q _=>ta σ H Q
def OY (ts:TS):TSX:=λD _ σ H=>ts D σ H
def OZ (t1:TEX)(t2:TAX):TAX:=λσ H Q E=>t1 σ H (λx H1=>t2 σ H1 (λxs H2=>Q (x::xs) H2) E) E
def TR (t1 t2:TSX):TSX:=λD E σ H=>t1 { D with nx:=t2 D E } E σ H
def Z9 (tc:TT)(t1 t2:TSX):TSX:=λD E σ H=>tc σ H λd H1=>if d=true then t1 D E σ H1 else t2 D E σ H1
def O0 (t:TEX):TSX:=λD E σ H=>t σ H (λ_ H1=>D.nx σ H1) (E σ)
def TU (t:TEX):TSX:=λD E σ H=>t σ H D.rt (E σ)
def O1 (t:TAX)(sp:Sp):TEX:=λσ H Q E=>t σ H (λvs H1=>sp vs H1 Q E) E
def O2 (C:Addr)(m:Str)(ta:TEX)(t:TAX)(sp:Sp):TEX:=λσ H Q E=>ta σ H (λx H1=>∃a dx fs,x=.ref a/\H1 a=some (.ins C dx fs)/\fs.lookup m=none/\t σ H1 (λvs H2=>sp (x::vs) H2 Q E) E) E
def L8 (C:Addr)(m:Str)(ta:TEX)(sp:Sp):TEX:=λσ H Q E=>ta σ H (λx H1=>∃a dx fs,x=.ref a/\H1 a=some (.ins C dx fs)/\fs.lookup m=none/\sp [x] H1 Q E) E
section
variable{X:Cx}{e:Expr}{es:List Expr}{st:Stmt}{sts:List Stmt}{te:TE}{ta:TA}{ts:TS}{pos:Pos}
theorem EP.d5 {pins:List (Addr×Obj)}{σ:St}{Q:VK}{u:Value}{s':Shared}{W:Value->Shared->Prop}(h:EP (X.nM W) pins σ Q u s'):EP X pins σ Q u s':=by
 obtain⟨v,H',I,r,q⟩:=h;exact⟨v,H',I.d5,r,q⟩
theorem px (h:PE X.nox e te):PEX X e (VT te):=λpins s σ H Q _ I hw =>
 wt (h pins s σ H Q (I.nM _) hw) (λ_ _ q=>q.d5) λ_ _ z=>ajY z
theorem pax (h:PA X.nox es ta):PAX X es (VU ta):=λpos pins s σ H Q _ I hw =>
 wt (h pos pins s σ H Q (I.nM _) hw) (λ_ _ ⟨vs,H',I',r,q⟩=>⟨vs,H',I'.d5,r,q⟩) λ_ _ z=>ajY z
theorem psx (h:PS X.nox st ts):PSX X st (OY ts):=λpins s σ H D _ I hw =>
 wt (h pins s σ H D (I.nM _) hw) (λ_ _ q=>q.d5) λ_ _ z=>ajY z
theorem vJ (h:PSs X.nox sts ts):F6 X sts (OY ts):=λpins s σ H D _ I hw =>
 wt (h pins s σ H D (I.nM _) hw) (λ_ _ q=>q.d5) λ_ _ z=>ajY z
theorem Al:PAX X [] (λ_ H Q _=>Q [] H):=λ_ _ _ _ H Q _ I h=>Calls.spliced_nil ⟨[],H,I,.nil,h⟩
theorem kh {t1:TEX}{t2:TAX}(ha:PEX X e t1)(hr:PAX X es t2)(hs:Lk (e::es) X.env=(false,eval e X.env)::Lk es X.env:=by rfl) :
  PAX X (e::es) (OZ t1 t2):=by
 intro pos pins s σ H Q E I h;unfold OZ at h;rw[hs];refine Calls.spliced_cons (wt (ha pins s σ H _ E I h) (λu s1 ⟨x,H1,I1,r1,q1⟩=>?_) λ_ _ z=>z)
 exact wt (hr pos pins s1 σ H1 _ E I1 q1) (λus s2 ⟨xs,H2,I2,r2,q2⟩=>⟨x::xs,H2,I2,.cons r1 r2,q2⟩) λ_ _ z=>z
theorem a9 {t1 t2:TSX}(h1:PSX X st t1)(h2:F6 X sts t2):F6 X (st::sts) (TR t1 t2):=by
 intro pins s σ H D E I h;unfold TR at h;refine wpAny_execs_cons (thn (h1 pins s σ H { D with nx:=t2 D E } E I h) λf s1 q=>?_)
 cases f with
 |next =>
  obtain⟨σ',H',I',q⟩:=q;exact h2 pins s1 σ' H' D E I' q
 |ret v=>exact q
 |brk=>exact q
 |cont=>exact q
theorem bD {t1:TSX}(h1:PSX X st t1):F6 X [st] t1:=by
 intro pins s σ H D E I h;refine wpAny_execs_cons (thn (h1 pins s σ H D E I h) λf s1 q=>?_)
 cases f with
 |next=>exact wpAny_execs_nil q
 |ret v=>exact q
 |brk=>exact q
 |cont=>exact q
theorem gU {c:Expr}{a b:List Stmt}{tc:TT}{t1 t2:TSX}(hc:PT X.nox c tc)(ha:F6 X a t1)(hb:F6 X b t2):PSX X (.If c a b pos) (Z9 tc t1 t2):=by
 intro pins s σ H D E I h;unfold Z9 at h;refine wpAny_If (wt (hc pins s σ H _ (I.nM _) h) (λd s1 ⟨H1,I1,q1⟩=>?_) λ_ _ z=>ajY z)
 cases d with
 |true=>exact ha pins s1 σ H1 D E I1.d5 q1
 |false=>exact hb pins s1 σ H1 D E I1.d5 q1
theorem l4 {t:TEX}(he:PEX X e t)(hs:swapsWith e none pos.line X.env=pure false:=by rfl):PSX X (.Expr e pos) (O0 t):=by
 intro pins s σ H D E I h;unfold O0 at h;exact wpAny_Expr_any (wt (he pins s σ H _ _ I h) (λv s1 ⟨x,H1,I1,r1,q1⟩=>⟨σ,H1,I1,q1⟩) λ_ _ z=>⟨σ,z⟩) I.quiet hs
theorem Am {t:TEX}(he:PEX X e t):PSX X (.Return (some e) pos) (TU t):=by
 intro pins s σ H D E I h;unfold TU at h;exact wpAny_Return_some (wt (he pins s σ H _ _ I h) (λv s1 ⟨x,H1,I1,r1,q1⟩=>⟨x,σ,H1,I1,r1,q1⟩) λ_ _ z=>⟨σ,z⟩)
end
section
variable{X:Cx}{k:Nat}{f C:Addr}{fd:kg}{ps:List Str}{sp:Sp}{x m:Str}{p pos apos:Pos}{e o:Expr}{es:List Expr}{t:TAX}
theorem EC {pins:List (Addr×Obj)}{σ:St}{H:Hp}{s:Shared}{Q:VK}{E:XK}{us:List Value}{vs:List V}(F:aK X.prog X.w X.K X.mg X.base (CXX X.prog X.w) k f fd ps sp)(hr:Room k X.A)(hb:Binds X.K fd ps [])
  (I:Inv X pins σ H s) (r:Vals vs us) (h:sp vs H Q E):wpAny (model X.prog X.w) X.A (call (.ref f) us) (EP X pins σ Q) (XP X pins σ E) s:=by
 have hl:(us++[]).length=ps.length:=by rw[akR,<-r.length];exact F.len _ _ _ _ h
 have b:=hb s us I.kIn hl;rw[akR]at b;refine wpAny_call (codeAny_mono (F.run X.A X.stack s H ⟨us,[]⟩ us vs Q E hr I.RH b r h) λr s' hq=>?_)
 cases r with
 |error e=>exact VS I hq
 |ok fl =>
  cases fl with
  |ret u=>exact I.after hq
  |next=>exact ajY hq
  |brk=>exact ajY hq
  |cont=>exact ajY hq
theorem vK (F:aK X.prog X.w X.K X.mg X.base (CXX X.prog X.w) k f fd ps sp)(hr:Room k X.A)(hg:Gl X x)(hm:X.mg x=some (.ref f))(hk:da X.K (.ref f)=true)(hb:Binds X.K fd ps [])(ha:PAX X (e::es) t)
  (hdb:(x == ("__debug__":Str))=false:=by decide) (he:Lk (e::es) X.env=(false,eval e X.env)::Lk es X.env:=by rfl) (hpl:(backTo pos (Lk es X.env)).any (·.1)=false:=by rfl) :
  PEX X (.Call (.Name x p) (e::es) [] pos) (O1 t sp):=by
 intro pins s σ H Q E I h;unfold O1 at h;refine wpAny_Call_Name_kw (jW I hg hm ?_ hdb);exact akZ (h₀:=X.base) I.ok.mod.kin hk (thn (ha pos pins s σ H _ E I h) λus s1 ⟨vs,H1,I1,r,q⟩=>⟨I1.kIn,EC F hr hb I1 r q⟩) he hpl
theorem vL {pl:Sem Bool}{ta:TEX}(he:PEX X o ta)(c:Cls X.K C)(hm:Meth X.K C m f)(F:aK X.prog X.w X.K X.mg X.base (CXX X.prog X.w) k f fd ps sp)(hr:Room k X.A)(hb:Binds X.K fd ps [])(ha:PAX X (e::es) t)
  (hst:Lk (e::es) X.env=(false,eval e X.env)::Lk es X.env:=by rfl) (hpl:(backTo pos (Lk es X.env)).any (·.1)=false:=by rfl)
  (ht:eval (.Call (.Attribute o m apos) (e::es) [] pos) X.env=(do
   let ov <-eval o X.env
   standAt apos.atName
   let (f,first) <-holding [ov] (getMethod ov m pl)
   callWith pos f first (backTo pos (Lk (e::es) X.env)) (backToKw pos (keywordEach [] X.env))):=by rfl) :
  PEX X (.Call (.Attribute o m apos) (e::es) [] pos) (O2 C m ta t sp):=by
 intro pins s σ H Q E I h;unfold O2 at h;refine akr (pl:=pl) (thn (he pins s σ H _ E I h) λu s1 ⟨x,H1,I1,rx,a,dx,fs,ex,ea,l,q⟩=>?_) ht
 subst ex;obtain rfl:u=ajL a:=rx;refine jr I1 ea c hm l ?_;exact akZ (first:=[.ref a]) (h₀:=X.base) I.ok.mod.kin hm.kp (thn (ha pos pins s1 σ H1 _ E I1 q) λus s2 ⟨vs,H2,I2,r,q2⟩=>⟨I2.kIn,EC (us:=.ref a::us) (vs:=.ref a::vs) F hr hb I2 (.cons rfl r) q2⟩) hst hpl
theorem xy {pl:Sem Bool}{ta:TEX}(he:PEX X o ta)(c:Cls X.K C)(hm:Meth X.K C m f)(F:aK X.prog X.w X.K X.mg X.base (CXX X.prog X.w) k f fd ps sp)(hr:Room k X.A)(hb:Binds X.K fd ps [])
  (ht:eval (.Call (.Attribute o m apos) [] [] pos) X.env=(do
   let ov <-eval o X.env
   standAt apos.atName
   let (f,first) <-holding [ov] (getMethod ov m pl)
   callWith pos f first (backTo pos (Lk [] X.env)) (backToKw pos (keywordEach [] X.env))):=by rfl) :
  PEX X (.Call (.Attribute o m apos) [] [] pos) (L8 C m ta sp):=by
 intro pins s σ H Q E I h;unfold L8 at h;refine akr (pl:=pl) (thn (he pins s σ H _ E I h) λu s1 ⟨x,H1,I1,rx,a,dx,fs,ex,ea,l,q⟩=>?_) ht
 subst ex;obtain rfl:u=ajL a:=rx;refine jr I1 ea c hm l ?_;exact akU (first:=[.ref a]) I1.kIn hm.kp (EC (us:=[.ref a]) (vs:=[.ref a]) F hr hb I1 (.cons rfl .nil) q)
end
section
variable{P:me}{w:World}{K:ba}{mg:Str->Option Value}{base:Heap}
theorem Fun.okX {x qual:Str}{st:Stmt}{f:Addr}{fd:kg}{N ps:List Str}{k:Nat}{sp:Sp}(F:Fun K x qual st f fd)(S:aT N ps (ag st))(len:∀vs H Q E,sp vs H Q E->vs.length=ps.length)
  (FU:∀(cdv:Value) (A:Around) (outer:List Env) (s:Shared) (H:Hp) (vs:List V) (Q:VK) (E:XK),Room k (A.deeper (envOfC qual (ag st) s.heap.objs.size f cdv))->sp vs H Q E ->
   ∃t,F6 (vz (CXX P w) P w K mg base N qual (ag st) f cdv A outer s H E) (aO st) t/\t { nx:=λ_ H'=>Q .non H',rt:=Q } (λ_=>E) (start N vs) H):aK P w K mg base (CXX P w) (k+1) f fd ps sp:=by
 obtain⟨oc,od,kV,doc,pm,an,cdv,ct,osl,rfl,lk,hcd⟩:=F.ex;refine TN lk hcd S len λA outer s H vs Q E hr hsp=>?_
 obtain⟨t,h,q⟩:=FU cdv A outer s H vs Q E hr hsp;exact⟨λD σ H=>t D (λ_=>E) σ H,λpins s1 σ H1 D I hw=>wt (h pins s1 σ H1 D _ I hw) (λ_ _ z=>z) λ_ _ z=>RV z,q⟩
end
end L2
set_option maxHeartbeats 4000000
namespace L2
open PySem PySem.Spec PyProof.Rows
abbrev hcx (X:Cx)(e:Addr):Cx:={ X with A:=X.A.mark (some (.ref e)),calm:=false,xe:=λ_ _=>False }
section
variable{X:Cx}{pins:List (Addr×Obj)}{σ:St}{H:Hp}{s:Shared}{e:Addr}{cls:Value}{xd:Option Addr}{m:Option Value}
theorem O3 (I:Inv X pins σ H s)(e:Addr):Inv (hcx X e) pins σ H s :=
 ⟨⟨I.ok.mod,I.ok.kind,I.ok.glob,I.ok.blt,I.ok.above,I.ok.inj,I.ok.has,I.ok.cab,λz=>absurd (show false=true from z) ku,I.ok.frames,I.ok.stk,I.ok.exf,I.ok.bs,I.ok.bsz,I.ok.Eg,I.ok.Eh,I.ok.uo,I.ok.frf⟩,I.os,I.bare,I.base,I.loc,I.cell,I.free,I.oE,I.pin,I.hok,I.len⟩
theorem An (ok:X.Ok)(I:Inv (hcx X e) pins σ H s):Inv X pins σ H s:=⟨ok,I.os,I.bare,I.base,I.loc,I.cell,I.free,I.oE,I.pin,I.hok,I.len⟩
end
abbrev THX:=Ends->SXK->St->XK
def TX (K:ba)(C:Addr)(ts:TS)(tr:THX):THX:=λD E σ cls xd H=>∃b,ajP K cls (.ref C)=some b/\if b=true then ts D σ H else tr D E σ cls xd H
def TY (tb:TSX)(th:THX):TSX:=λD E σ H=>tb D (λσ' cls xd H'=>th D E σ' cls xd H') σ H
def PHX (X:Cx)(hs:List ExceptHandler)(t:THX):Prop :=
 ∀(pins:List (Addr×Obj)) (s:Shared) (σ:St) (H:Hp) (D:Ends) (E:SXK) (ea:Addr) (cls:Value) (xd:Option Addr),Inv X pins σ H s->XAt X pins H s.heap ea cls xd (some .none)->t D E σ cls xd H ->
  wpAny (model X.prog X.w) X.A (handleBy (.ref ea) X.env hs) (SP X pins D) (XPS X pins E) s
section
variable{X:Cx}{x n:Str}{C:Addr}{np pos:Pos}{b₀:Stmt}{TZ:List Stmt}{rest:List ExceptHandler}{ts:TS}{tr:THX}
theorem RW (F:Fr1 X):PHX X [] (λ_ E σ cls xd H=>E σ cls xd H):=by
 intro pins s σ H D E ea cls xd I hx h;refine wpAny_handleBy_nil ?_;unfold PySem.passOn;obtain⟨ok,sl,vs,he,hz,T,oT,ts,h1,r⟩:=id hx;refine eg (wpAny_field he rfl h1 ?_);rw[if_neg (show ¬((ajL T == akM)=true) by simp)]
 have step:wpAny (model X.prog X.w) X.A (do setFlight (.ref ea) X.env.frame;throw (.ref ea):Sem Flow) (SP X pins D) (XPS X pins E) s :=
  eg (rW I hx λs2 I2 x2=>wpAny_throw ⟨σ,ea,cls,xd,_,H,rfl,I2,x2,by rw[F.fr];exact .inr (.inr ⟨_,rfl⟩),h⟩)
 first
  |exact step
  |exact eg (si step)
theorem aaa {pins:List (Addr×Obj)}{s:Shared}{σ:St}{H:Hp}{ea:Addr}{cls:Value}{xd:Option Addr}{b:Bool}{E:Value->Shared->Prop}{R:Bool->Shared->Prop}(I:Inv X pins σ H s)(hx:XAt X pins H s.heap ea cls xd (some .none))
  (hg:Gl X x) (hm:X.mg x=some (.ref C)) (eb:ajP X.K cls (.ref C)=some b) (h:R b s) (hd:(x == ("__debug__":Str))=false:=by decide) :
  wpAny (model X.prog X.w) (X.A.mark (some (.ref ea))) (eval (.Name x np) X.env) (λc s₁=>wpAny (model X.prog X.w) (X.A.mark (some (.ref ea))) (excMatches (.ref ea) c) R E s₁) E s:=by
 obtain⟨_,sl,vs,he,_⟩:=hx;refine jW (O3 I ea) hg hm ?_ hd;have lt:PySem.W.Looks (model X.prog X.w) s.heap (typeOf (.ref ea)) cls:=(PySem.W.Looks.ld he).andThen .now;exact PySem.W.exm_one I.kIn lt eb _ _ _ s (λ_ _ q=>q) h
theorem O4 (hg:Gl X x)(hm:X.mg x=some (.ref C))(hs:∀e,PSs (hcx X e) (b₀::TZ) ts)(hr:PHX X rest tr)(hd:(x == ("__debug__":Str))=false:=by decide) :
  PHX X (.ExceptHandler (some (.Name x np)) none (b₀::TZ) pos::rest) (TX X.K C ts tr):=by
 intro pins s σ H D E ea cls xd I hx h;unfold TX at h;obtain⟨b,eb,h⟩:=h;refine wpAny_handleBy_cons (codeAny_handlers_test (aaa I hx hg hm eb ?_ hd)) (by intro q;cases q)
 cases b with
 |true =>
  refine codeAny_handlers_suite (rW I hx λs1 I1 x1=>?_)
  refine wt (hs ea pins s1 σ H D (O3 I1 ea) h) (λf s2 q=>?_) λ_ _ z=>ajY z
  cases f with
  |next=>obtain⟨σ',H',I',q⟩:=q;exact⟨σ',H',An I.ok I',q⟩
  |brk=>obtain⟨σ',H',I',q⟩:=q;exact⟨σ',H',An I.ok I',q⟩
  |cont=>obtain⟨σ',H',I',q⟩:=q;exact⟨σ',H',An I.ok I',q⟩
  |ret u=>obtain⟨v,σ',H',I',r,q⟩:=q;exact⟨v,σ',H',An I.ok I',r,q⟩
 |false=>exact hr pins s σ H D E ea cls xd I hx h
theorem RX {body:List Stmt}{h₀:ExceptHandler}{hs:List ExceptHandler}{tb:TSX}{th:THX}(F:Fr1 X)(hb:F6 X body tb)(hh:PHX X (h₀::hs) th) :
  PSX X (.Try body (h₀::hs) [] [] pos) (TY tb th):=by
 intro pins s σ H D E I h;unfold TY at h;refine wpAny_Try_except (wt (hb pins s σ H D _ I h) (λf s1 q=>?_) (λv s1 q=>?_))
 ·cases f with
  |next=>exact wpAny_execs_nil q
  |ret v=>exact q
  |brk=>exact q
  |cont=>exact q
 ·obtain⟨σ',ea,cls,xd,m,H',rfl,I1,hx,hm,q⟩:=q;exact JY F I1.ok.frames I1 hx hm λs2 I2 x2=>rW I2 x2 λs3 I3 x3=>hh pins s3 σ' H' D E ea cls xd I3 x3 q
end
structure GaX (K:ba)(C:Addr):Prop where
 ga:cb K (.ref C) "__getattribute__"=some (some (.builtin "BaseException.__getattribute__"))
 hk:cb K (.ref C) "__getattr__"=some none
 mb:PySem.W.mroIn K C (.type "BaseException")=some true
structure ajy (K:ba)(C:Addr):Prop where
 ga:GaX K C
 cd:(PySem.W.clsIn K C).isSome=true
 ha:cb K (.ref C) "__class__"=some (some (.builtin "object.__class__"))
 hn:PySem.W.specialIn K (.builtin "object.__class__") "__get__"=some (some (.builtin "getset_descriptor.__get__"))
 htk:PySem.W.takesIn K (.builtin "object.__class__")=some true
 hm:PySem.W.mroIn K C (.type "object")=some true
end L2
set_option maxHeartbeats 4000000
namespace L2
open PySem PySem.Spec PyProof.Rows
section
variable{prog:me}{w:World}{A:Around}{E:Value->Shared->Prop}{h:Heap}{g:Array GenState}{d:Drawn}{t:Nat}{os:OsState}
variable{nm q:Str}{C N:Addr}{bs bm bmB:List Value}{hdct:Bool}{sn:List Str}{sub:List Value}{ab:Bool}{col:Option Bool}{dd:Option Addr}{k0 k1 k2 k3 k5:Option Value}{B nid iid:String}
abbrev ng (h:Heap)(C:Addr)(us:List Value):Heap:=(h.push { cls:=.type "tuple",data:=.seq us.toArray }).push ⟨.ref C,none,.fields #[.ref h.objs.size,.none,.none,.none,.bool false,.none],#[]⟩
theorem fv {us:List Value}{b:Addr}{o:Obj}(e:h.get? b=some o):(ng h C us).get? b=some o:=gr _ (gr _ e)
theorem AS {us:List Value}:(ng h C us).get? (h.objs.size+1)=some ⟨.ref C,none,.fields #[.ref h.objs.size,.none,.none,.none,.bool false,.none],#[]⟩:=by
 have:=ajM (h.push { cls:=.type "tuple",data:=.seq us.toArray }) (o:=⟨.ref C,none,.fields #[.ref h.objs.size,.none,.none,.none,.bool false,.none],#[]⟩) rfl
 rwa [akV]at this
theorem JZ (F:ExcBaseFacts B nid iid bmB)(T:OwnTail h bmB bm){mN:Str->Option Value}{us:List Value}{Q:Fin->Shared->Prop}
  (kC:h.get? C=some (akc nm q C N bs bm hdct sn sub ab col dd k0 k1 k2 k3 k5 nid)) (kN:h.Ns N mN) (kI:mN "__init__"=none) (hz:us.length<=ka)
  (hq:∀h',(∀b o,h.get? b=some o->h'.get? b=some o)->(∃tp,h'.get? (h.objs.size+1)=some ⟨.ref C,none,.fields #[.ref tp,.none,.none,.none,.bool false,.none],#[]⟩)->Q (.done (.ret (.ref (h.objs.size+1)))) ⟨h',g,d,t,os⟩) :
  wpAny (model prog w) A (Builtin.«type.__call__» ⟨.ref C::us,[]⟩) Q E ⟨h,g,d,t,os⟩:=by
 repeat (first | with_reducible refine wpAny_loadPart_at kC ?_ | with_reducible refine wpAny_madeBy_exc kC ?_ | wp_step)
 refine codeAny_call_builtin_code (Code.quiet_builtin _ F.quiet) (wpAny_check_new_subT F T kC (codeAny_exc_new_subT F T kC ?_ hz));show wpAny _ _ _ _ _ _;have kC1:(ng h C us).get? C=_:=fv kC;have kN1:(ng h C us).Ns N mN:=kN.keeps λb o e=>fv e
 have T1:OwnTail (ng h C us) bmB bm:=T.keeps λb o e=>fv e
 have kE:=AS (h:=h) (C:=C) (us:=us);have self:(ajL C::bm).contains (.ref C)=true:=by simp
 unfold isInstance
 repeat (first | with_reducible refine wpAny_loadPart_at kE ?_ | (with_reducible refine wpAny_isSubtype_exc kC1 ?_;rw[self]) | wp_step)
 show wpAny _ _ (typeLookup (.ref C) _) _ _ _;refine wpAny_typeLookup_tail kC1 kN1 T1 F.mroIs F.init.lookup ?_;rw[kI];refine wpAny_holding (eg (wpAny_of_eq (F.init.bind _) ?_));refine eg (wpAny_call (codeAny_call_builtin F.init.plain F.initEntry (wpAny_check_init_subT F T1 kC1 kE rfl ?_)))
 wp_walk
 refine hq _ (λb o e=>?_) ⟨h.objs.size+2,?_⟩
 ·rw[akh _ _ (Nat.ne_of_gt (Nat.lt_succ_of_lt (om e)))];exact gr _ (fv e)
 ·refine(akF _ (gr _ kE) rfl).trans ?_;simp only[akV];rfl
theorem M8 (F:ExcBaseFacts B nid iid bmB)(T:OwnTail h bmB bm){mN:Str->Option Value}{us:List Value}{Q:Value->Shared->Prop}
  (kC:h.get? C=some (akc nm q C N bs bm hdct sn sub ab col dd k0 k1 k2 k3 k5 nid)) (kN:h.Ns N mN) (kI:mN "__init__"=none) (hz:us.length<=ka)
  (hq:∀h',(∀b o,h.get? b=some o->h'.get? b=some o)->(∃tp,h'.get? (h.objs.size+1)=some ⟨.ref C,none,.fields #[.ref tp,.none,.none,.none,.bool false,.none],#[]⟩)->Q (.ref (h.objs.size+1)) ⟨h',g,d,t,os⟩) :
  wpAny (model prog w) A (call (.ref C) us) Q E ⟨h,g,d,t,os⟩:=by
 have l1:=tc_lookup;have l2:=tc_bind (.ref C);have ty:(⟨h,g,d,t,os⟩:Shared).TypeIs (.ref C) "type":=⟨_,kC,rfl⟩;refine wpAny_call (codeAny_of_tree ?_);show wpAny _ _ (callAny (.ref C) _) _ _ _
 repeat (any_goals (first | assumption | with_reducible refine wpAny_loadPart_at kC ?_ | wp_step))
 refine⟨rfl,codeAny_call_builtin_at (Code.quiet_builtin _ (by decide +kernel)) entry_typeCall (wpAny_check_type_call_sub kC (JZ F T kC kN kI hz λh' k e=>?_))⟩
 exact hq h' k e
theorem tX {M:Model}{env:Env}{s:Shared}{x:Sem Value}{Q:Flow->Shared->Prop}(FX:bm.contains (.type "BaseException")=true)(hh:A.handled=none)
  (hx:wpAny M A x (λv s₁=>∃(e:Addr) (xd:Option Addr) (a0:Value) (sl:Array (Option Value)),v=.ref e/\s₁.heap.get? C=some (akc nm q C N bs bm hdct sn sub ab col dd k0 k1 k2 k3 k5 nid) /\
   s₁.heap.get? e=some ⟨.ref C,xd,.fields #[a0,.none,.none,.none,.bool false,.none],sl⟩/\E (.ref e) s₁) E s):wpAny M A (raiseStmt env (some x) none) Q E s:=by
 have top:(ajL C::bm).contains (.type "BaseException")=true:=by rw[List.contains_cons,FX,Bool.or_true]
 unfold raiseStmt;refine eg (wt hx (λv s₁ h₁=>?_) λ_ _ z=>z)
 obtain⟨e,xd,a0,sl,rfl,kC,kE,fin⟩:=h₁;obtain⟨hp,g',d',tk,os'⟩:=s₁
 repeat (first | with_reducible refine wpAny_loadPart_at kE ?_ | with_reducible refine wpAny_loadPart_at kC ?_ | (with_reducible refine wpAny_isSubtype_exc kC ?_;rw[top]) | wp_step)
 exact wpAny_raiseNew_none hh fin
end
abbrev qT:List Value:=[.type "ValueError",.type "Exception",.type "BaseException",.type "object"]
def strKeys (es:Array akx):Bool:=es.toList.all λe=>match e.key with | .str _ _=>true | _=>false
structure ED (K:ba)(N:Addr):Prop where
 ex:∃(c:Value) (dd:Option Addr) (es:Array akx) (n:Nat) (sl:Array (Option Value)),K.lookup N=some ⟨c,dd,.dict es n,sl⟩/\strKeys es=true
 no:di K N "__init__"=some none
theorem ED.ns {K:ba}{N:Addr}(x:ED K N){h:Heap}(X:K.In h):∃mN,h.Ns N mN/\mN "__init__"=none:=by
 obtain⟨⟨c,dd,es,n,sl,l,sk⟩,no⟩:=x;have ns:h.Ns N (nsFind es):=⟨_,es,n,X _ _ l,rfl,λe he=>by
  have z:=List.all_eq_true.mp sk e (Array.mem_toList_iff.mpr he);cases hk:e.key with
  |str y t=>exact⟨y,t,rfl⟩
  |_=>rw[hk]at z;exact absurd z ku,λ_=>rfl⟩
 refine⟨_,ns,?_⟩;unfold di at no;rw[l]at no;dsimp only at no;unfold nsFind findBy;rw[<-Array.find?_toList];cases hf:es.toList.find? (λe=>e.key.isStr "__init__") with
 |none=>rfl
 |some e=>rw[hf]at no;cases no
inductive iS (K:ba):List Value->Prop
 |base:iS K qT
 |own {D:Addr} {c0:Value} {dd:Option Addr} {cd:ClassData} {sl:Array (Option Value)} {tl:List Value}:K.lookup D=some ⟨c0,dd,.cls cd,sl⟩->ED K cd.ns->iS K tl->iS K (.ref D::tl)
theorem iS.tail {K:ba}{bm:List Value}(x:iS K bm){h:Heap}(X:K.In h):OwnTail h qT bm:=by
 induction x with
 |base=>exact .base
 |own l n _ ih =>
  obtain⟨mA,a,b⟩:=n.ns X;exact .own (X _ _ l) a b ih
structure F7 (K:ba)(C:Addr):Prop where
 ex:∃(nm q:Str) (N:Addr) (bs bm:List Value) (hdct:Bool) (sn:List Str) (sub:List Value) (ab:Bool) (col:Option Bool) (dd:Option Addr) (k0 k1 k2 k3 k5:Option Value),
  K.lookup C=some (akc nm q C N bs bm hdct sn sub ab col dd k0 k1 k2 k3 k5 "ValueError.__new__")/\ED K N/\iS K bm
section
variable{X:Cx}{x:Str}{C:Addr}{np gf pos:Pos}{e₀:Expr}{rest:List Expr}{ta:TA}
theorem jt (ek:F7 X.K C)(hc:X.calm=true)(hg:Gl X x)(hm:X.mg x=some (.ref C))(ha:PA X.nox (e₀::rest) ta)(hdb:(x == ("__debug__":Str))=false:=by decide)
  (he:Lk (e₀::rest) X.env=(false,eval e₀ X.env)::Lk rest X.env:=by rfl) (hpl:(backTo gf (Lk rest X.env)).any (·.1)=false:=by rfl) :
  PSX X (.Raise (some (.Call (.Name x np) (e₀::rest) [] gf)) none pos) (λ_ E σ H=>ta σ H λvs H1=>vs.length<=ka/\E σ (.ref C) none H1):=by
 intro pins s σ H D E I h;obtain⟨nm,q,N,bs,bm,hdct,sn,sub,ab,col,dd,k0,k1,k2,k3,k5,l,n,T⟩:=ek.ex;have go:wpAny (model X.prog X.w) X.A (eval (.Call (.Name x np) (e₀::rest) [] gf) X.env) (λv s₁=>∃(e:Addr) (xd:Option Addr) (a0:Value) (sl:Array (Option Value)),v=.ref e/\s₁.heap.get? C=some (akc nm q C N bs bm hdct sn sub ab col dd k0 k1 k2 k3 k5 "ValueError.__new__") /\
   s₁.heap.get? e=some ⟨.ref C,xd,.fields #[a0,.none,.none,.none,.bool false,.none],sl⟩/\XPS X pins E (.ref e) s₁) (XPS X pins E) s:=by
  refine wpAny_Call_Name_kw (jW I hg hm ?_ hdb);unfold callWith;rw[he];refine eg (wpAny_holding (Calls.evalArgs_plain ?_));have ha':=ha gf pins s σ H _ (I.nM _) h;rw[show X.nox.env=X.env from rfl,he]at ha'
  refine wt ha' (λus s₁ ⟨vs,H1,I1,r,hz,q1⟩=>eg (ako ?_)) λ_ _ z=>ajY z
  have I1':=I1.d5;have kC:=I1'.kIn _ _ l;obtain⟨mN,kN,kI⟩:=n.ns I1'.kIn;have T1:=T.tail I1'.kIn;have pl:(backTo gf ((false,eval e₀ X.env)::Lk rest X.env)).any (·.1)=false:=by
   show (false || (backTo gf (Lk rest X.env)).any (·.1))=false
   rw[hpl];rfl
  obtain⟨hp,g',d',tk,os'⟩:=s₁;simp only[pl];refine eg (wpAny_keeperOf_exc kC ?_);refine eg (M8 (F:=PySem.F.excBase_ValueError) T1 kC kN kI (by rw[List.nil_append,<-r.length];exact hz) λh' k ⟨tp,ke⟩=>eg (wpAny_holding (wpAny_point (si ?_))))
  have I2:Inv X pins σ H1 ⟨h',g',d',tk,os'⟩:=I1'.kept (t':=tk) k;refine⟨_,none,_,#[],rfl,k _ _ kC,ke,σ,_,_,none,none,H1,rfl,I2,⟨I1'.AI (akq _) (I1'.hok.fresh (akq _)),_,_,ke,(by show 1 < 6;decide),rfl⟩,.inl rfl,q1⟩
 rw[arm_exec_Raise];have hb:bm.contains (.type "BaseException")=true:=(T.tail I.kIn).hasType (b:=true) (by decide +kernel)
 first
  |exact eg (ako (tX (C:=C) (nm:=nm) (q:=q) (N:=N) (bs:=bs) (bm:=bm) (hdct:=hdct) (sn:=sn) (sub:=sub) (ab:=ab) (col:=col) (dd:=dd) (k0:=k0) (k1:=k1) (k2:=k2) (k3:=k3) (k5:=k5) hb (I.ok.hd hc) (eg (wt go (λv s₃ h₃=>eg (ako (si h₃))) λ_ _ z=>z))))
  | (simp only[evalOpt,Option.map];exact eg (ako (tX (C:=C) (nm:=nm) (q:=q) (N:=N) (bs:=bs) (bm:=bm) (hdct:=hdct) (sn:=sn) (sub:=sub) (ab:=ab) (col:=col) (dd:=dd) (k0:=k0) (k1:=k1) (k2:=k2) (k3:=k3) (k5:=k5) hb (I.ok.hd hc) (eg (wt go (λv s₃ h₃=>eg (ako (si h₃))) λ_ _ z=>z)))))
end
end L2
set_option maxHeartbeats 4000000
namespace L2
open PySem PySem.Spec PyProof.Rows
theorem Dk {α β:Type}(f:α->β):∀(xs:List α) (n:Nat),(xs.eraseIdx n).map f=(xs.map f).eraseIdx n
 |[],_=>rfl
 |_::_,0=>rfl
 |x::xs,n+1=>by
  show f x::(xs.eraseIdx n).map f=f x::(xs.map f).eraseIdx n;rw[Dk f xs n]
section
variable{X:Cx}{pos:Pos}
theorem Vals.insert {xs:List V}{us:List Value}(r:Vals xs us){y:V}{u:Value}(ry:RelV y u)(k:Nat):Vals (xs.take k++y::xs.drop k) (us.take k++u::us.drop k):=(r.take k).append (.cons ry (r.drop k))
def RY:V->List V->Hp->VK->Prop:=λx vs H Q=>∃(l:Addr) (xs:List V) (i:Int) (k:Nat) (y:V),x=.ref l/\vs=[.int i,y]/\i=(k:Int)/\H l=some (.lst xs)/\k<=xs.length/\xs.length < ka/\Q .non (upd H l (.lst (xs.take k++y::xs.drop k)))
theorem M9:MtM X "list.insert" RY:=by
 intro pins s σ H x vs v us Q I rx rv h;obtain⟨l,xs,i,k,y,rfl,rfl,hi,hH,hk,hz,q⟩:=h;cases rx;obtain⟨u1,u2,rfl,r1,r2⟩:=rv.two;obtain⟨t,rfl⟩:=r1;obtain⟨z,its,n,r,hl,e⟩:=I.FY hH;have lim:ka=16777216:=by decide
 have a2:its.toArray.size<=ka:=by rw[ko];omega
 have b:Builtin.List.listFitsIndex i=true:=fitsIndex_both (by omega) (by omega)
 have nb:¬(!Builtin.List.listFitsIndex i)=true:=by rw[b];decide
 refine call_meets F.slot_list_insert ⟨_,e,rfl⟩ F.entry_list_insert (F.args_list_insert_3 _ _ _) (AutoSeq1.list_insert_list_int_val_1 l its.toArray n i t u2 nb a2) ⟨e,?_⟩;refine⟨.non,_,I.OK (its':=its.take k++u2::its.drop k) hH e ?_ (r.insert r2 k) ?_,rfl,q⟩
 ·show (its.toArray.extract 0 (if i < 0 then (i+(its.toArray.size:Int)).toNat else min i.toNat its.toArray.size)).push u2++its.toArray.extract (if i < 0 then (i+(its.toArray.size:Int)).toNat else min i.toNat its.toArray.size)=_
  have e1:(if i < 0 then (i+(its.toArray.size:Int)).toNat else min i.toNat its.toArray.size)=k:=by
   rw[ko,if_neg (by omega)]
   omega
  rw[e1];apply Array.toList_inj.mp;simp;exact List.take_of_length_le (by rw[akL];omega)
 ·rw[kx,ajH,akd,akL];omega
end
section
variable{X:Cx}{e:Expr}{te:TE}{y:Str}{j:Nat}{p1 p2 pos:Pos}
def tFR (K:ba)(te:TE)(y:Str):TE:=λσ H Q=>te σ H λx H1=>∃(a:Addr) (d:PyData),x=.ref a/\DV K H1 d x/\d.showable=true/\d.hasDict=false/\d.depth<=60/\d.shown.length+y.length<=ka/\∀z:Str,Q (.str z) H1
theorem len_app (a b:Str):(a++b).length=a.length+b.length:=by
 show (a.cps++b.cps).size=_;simp[Str.length]
theorem aab (hg:X.A.guards=some [])(hu:X.A.units+64 < cLine)(he:PE X e te):PE X (.JoinedStr [.FormattedValue e 114 none p1,.Constant (.str y) j p2] pos) (tFR X.K te y):=by
 intro pins s σ H Q I h;refine wpAny_JoinedStr ?_;show Joins _ _ _ [eval (.FormattedValue e 114 none p1) X.env,eval (.Constant (.str y) j p2) X.env] _ _ _;refine wpAny_FormattedValue_repr (thn (he pins s σ H _ I h) λv s1 ⟨x,H1,I1,r1,a,d,e1,hd,sh,nd,dp,sz,q⟩=>?_)
 subst e1;obtain rfl:v=ajL a:=r1;obtain⟨as,rd⟩:=DV.reads I1 d hd rfl;refine pyReprObj_of_reads (h₀:=s1.heap) rd sh (λz=>absurd z (by rw[nd];decide)) hg (by omega) (λ_ _ z=>z) (λh' u tk hk=>?_) (by omega)
 have I2:Inv X pins σ H1 { s1 with heap:=h',toks:=tk }:=I1.kept hk
 have emp:(aj6++d.shown:Str)=d.shown:=by
  apply Ey;rw[eV];rfl
 have go:∀(t:Tok) (s2:Shared),Inv X pins σ H1 s2->∃z t',Value.str d.shown t=.str z t'/\(aj6++z).length<=ka/\Joins (model X.prog X.w) X.A X.xe [eval (.Constant (.str y) j p2) X.env] (aj6++z) (λout s₁=>out.length<=ka/\EP X pins σ Q (.str out s₁.toks) { s₁ with toks:=s₁.toks+1 }) s2:=λt s2 I3=>by
  refine⟨_,_,rfl,by rw[emp];omega,Calls.Constant_str ⟨y,_,rfl,?_,?_⟩⟩
  ·rw[emp,len_app];omega
  ·refine⟨by rw[emp,len_app];omega,.str _,H1,(I3.tok _).tok _,⟨_,rfl⟩,q _⟩
 exact wpAny_formatField_str (go _ _ I2) (go _ _ (I2.tok _)) (by omega)
end
theorem O5 {K:ba}{a D:Addr}{xs:List V}{te:TE}{Q:VK}{σ:St}{H1:Hp}(Pv:Nat->List V->Hp->Prop)(h0:Pv 0 [] (upd H1 D (.lst [])))(hz:xs.length<=ka)
  (hl:∀i ys H2,i<=xs.length->Pv i ys H2->SqT K H2 a xs/\H2 D=some (.lst ys)/\ys.length=i)
  (hs:∀i x ys H2,xs[i]?=some x->Pv i ys H2->te (some x::σ) H2 (ei D xs.length Pv i ys)) (hd:∀ys H2,Pv xs.length ys H2->Q (.ref D) H2) :
  vH (Itt K a) te σ D H1 Q:=by
 refine⟨λi m ys H=>m=xs.length - i/\i<=xs.length/\Pv i ys H,⟨xs.length,by simp,akl _,h0⟩,?_⟩
 rintro i m ys H2 ⟨rfl,hi,p⟩;obtain⟨q,q2,q3⟩:=hl i ys H2 hi p;refine⟨q2,?_⟩
 by_cases hlt:i < xs.length
 ·refine .inr ⟨⟨xs,xs[i],q,by simp[hlt]⟩,by omega,λx H3 y=>?_⟩
  obtain⟨e,y⟩:=y;subst e;exact hs i x ys _ (y xs q) p
 ·have e:i=xs.length:=by omega
  subst e;exact .inl ⟨⟨xs,q,kq _⟩,hd ys H2 p⟩
theorem bw {K:ba}{H H':Hp}{t:Addr}{xs:List V}(s:br H H')(h:SqT K H t xs):SqT K H' t xs:=by
 rcases h with (h | ⟨o,h⟩) | h
 ·exact .inl (.inl (s _ _ h))
 ·exact .inl (.inr ⟨o,s _ _ h⟩)
 ·exact .inr h
end L2
set_option maxHeartbeats 4000000
set_option maxHeartbeats 4000000
namespace L2
open PySem PySem.Spec PySem.Calls PyProof.Rows
def VW (n:Nat)(Cf:Nat->Addr)(m:Str)(spf:Nat->Sp)(E:XK)(ta:TE):TE:=λσ H Q=>ta σ H λx H1=>∃k,k < n/\∃a dx fs,x=.ref a/\H1 a=some (.ins (Cf k) dx fs)/\fs.lookup m=none/\spf k [x] H1 Q E
section
variable{X:Cx}{o:Expr}{ta:TE}{m:Str}{apos pos:Pos}{n:Nat}{Cf ff:Nat->Addr}{fdf:Nat->kg}{spf:Nat->Sp}{kk:Nat}{ps:List Str}{CX:CXT}{E:XK}
theorem lJ {pl:Sem Bool}(he:PE X o ta)(c:∀k,k < n->Cls X.K (Cf k))(hm:∀k,k < n->Meth X.K (Cf k) m (ff k))(F:∀k,k < n->aK X.prog X.w X.K X.mg X.base CX kk (ff k) (fdf k) ps (spf k))(hr:Room kk X.A)(hb:∀k,k < n->Binds X.K (fdf k) ps [])
  (hx:Passes CX X E)
  (ht:eval (.Call (.Attribute o m apos) [] [] pos) X.env=(do
   let ov <-eval o X.env
   standAt apos.atName
   let (f,first) <-holding [ov] (getMethod ov m pl)
   callWith pos f first (backTo pos (Lk [] X.env)) (backToKw pos (keywordEach [] X.env))):=by rfl) :
  PE X (.Call (.Attribute o m apos) [] [] pos) (VW n Cf m spf E ta):=by
 intro pins s σ H Q I h;refine akr (pl:=pl) (thn (he pins s σ H _ I h) λu s1 ⟨x,H1,I1,rx,k,hk,a,dx,fs,ex,ea,l,q⟩=>?_) ht
 subst ex;obtain rfl:u=ajL a:=rx;refine jr I1 ea (c k hk) (hm k hk) l ?_;exact akU (first:=[.ref a]) I1.kIn (hm k hk).kp (AM (us:=[.ref a]) (vs:=[.ref a]) (dvs:=[]) (F k hk) hr (hb k hk) .nil hx I1 (.cons rfl .nil) q)
theorem aac {P:me}{w:World}{K:ba}{mg:Str->Option Value}{base:Heap}{CX:CXT}{k:Nat}{f:Addr}{fd:kg}{ps:List Str}{sp sp':Sp}(F:aK P w K mg base CX k f fd ps sp)(G:aK P w K mg base CX k f fd ps sp') :
  aK P w K mg base CX k f fd ps (λvs H Q E=>sp vs H Q E\/sp' vs H Q E) :=
 ⟨λvs H Q E z=>z.elim (F.len vs H Q E) (G.len vs H Q E),λa b c H d e vs Q E p q r s z=>z.elim (F.run a b c H d e vs Q E p q r s) (G.run a b c H d e vs Q E p q r s)⟩
end
section
variable{X:Cx}
def VX (K:ba):V->List V->Hp->VK->Prop:=λx vs H Q=>∃(l:Addr) (ws:List Str) (z:Str) (j:Nat),x=.ref l/\vs=[.str z]/\SqL K H l (ws.map V.str)/\ws[j]?=some z/\(∀m,m < j->ws[m]?≠some z)/\Q (.int j) H
theorem O6:MtR X "list.index" (VX X.K):=by
 intro pins s σ H x vs v us Q I rx rv h;obtain⟨l,ws,z,j,rfl,rfl,hq,hj,hno,q⟩:=h;cases rx;obtain⟨u,rfl,t,rfl⟩:=vals1 rv;obtain⟨its,r,pl,hz⟩:=I.list hq;have hlen:=r.length;rw[bo]at hlen;obtain⟨⟨cls,dd,data,sl⟩,ho,hc,n,hd⟩:=pl.isList;simp only at hc hd;subst hc hd;have flat:(ws.map V.str).all vE=true:=by
  rw[List.all_eq_true];intro y hy;obtain⟨w,_,rfl⟩:=List.mem_map.mp hy;rfl
 have at_:∀(i:Nat) (h:i < its.toArray.size),∃w,ws[i]?=some w/\eqU (.str z) its.toArray[i]=(w == z):=λi h=>by
  have h':i < ws.length:=by rw[ko]at h;omega
  refine⟨ws[i],wa h',?_⟩;obtain⟨u,hu,ru⟩:=Vals.get r (show (ws.map V.str)[i]?=some (V.str ws[i]) by rw[aj0,wa h'];rfl)
  have e:its.toArray[i]=u:=by
   rw[wa (by rw[ko]at h;exact h)]at hu
   simpa using ajJ hu
  rw[e,JS ru rfl];rfl
 have jl:j < ws.length:=(List.getElem?_eq_some_iff.mp hj).1;have hn:=uF;have hsz:ws.length<=ka:=by rw[bo]at hz;exact hz
 refine call_meets PySem.F.slot_list_index ⟨_,ho,rfl⟩ PySem.F.entry_list_index (PySem.F.args_list_index_2 _ _) (SeqAt.list_indexAt l its.toArray n dd sl (.str z t) (eqU (.str z)) j (by rw[ko];omega) (by rw[sizeLine_eq]at hsz;omega) ?_ ?_) ⟨ho,λy hy=>vF (x:=.str z) (v:=.str z t) ⟨t,rfl⟩ rfl r flat y (by simpa using hy),?_⟩
 ·obtain⟨w,h1,h2⟩:=at_ j (by rw[ko];omega)
  rw[h2];obtain rfl:=ajJ (h1.symm.trans hj);exact beq_self_eq_true _
 ·intro m hm hmj;obtain⟨w,h1,h2⟩:=at_ m hm;rw[h2];exact beq_eq_false_iff_ne.mpr λe=>hno m hmj (by rw[h1,e])
 ·exact⟨.int j,H,I.tok _,⟨_,rfl⟩,q⟩
end
end L2
set_option maxHeartbeats 4000000
set_option maxHeartbeats 4000000
namespace L2
open PySem PySem.Spec PySem.Calls PyProof.Rows
def KeysAre:List akx->List Str->Prop
 |[],ns=>ns=[]
 |e::r,ns=>∃x xs t,ns=x::xs/\e.key=.str x t/\KeysAre r xs
structure L9 (P:Params)(K:ba)(a:Addr)(ns:List Str):Prop where
 ex:∃es n,K.lookup a=some ⟨.type "dict",none,.dict es n,#[]⟩/\PySem.W.KeysLit P es.toList/\KeysAre es.toList ns
 nd:ns.Nodup
 lo:(a == akN)=false
theorem J0 {prog:me}{w:World}:∀(es:List akx) (ns:List Str),PySem.W.KeysLit w.params es->KeysAre es ns->∃kvs:List (Str×Value),Pairs (strKind prog w) es kvs/\kvs.map (·.1)=ns:=by
 intro es
 induction es with
 |nil =>
  intro ns _ h;have h':ns=[]:=h;subst h';exact⟨[],by first | exact .nil | exact trivial | exact rfl | constructor,rfl⟩
 |cons e r ih =>
  rintro ns ⟨⟨x,t,e1,e2⟩,hk⟩ ⟨y,ys,t',rfl,e3,hr⟩;obtain⟨kvs,h1,h2⟩:=ih ys hk hr;rw[e1]at e3;injection e3 with e4 _
  subst e4;exact⟨(x,e.val)::kvs,.cons (by rw[e1];exact strKind_is prog w x t) rfl h1,by rw[kj,h2]⟩
theorem L9.at {prog:me}{w:World}{K:ba}{a:Addr}{ns:List Str}(T:L9 w.params K a ns):∃(kvs:List (Str×Value)) (n:Nat),kvs.map (·.1)=ns/\∀h:Heap,K.In h->h.DictAt (strKind prog w) a kvs n:=by
 obtain⟨es,n,hl,hk,ha⟩:=T.ex;obtain⟨kvs,h1,h2⟩:=J0 (prog:=prog) es.toList ns hk ha;refine⟨kvs,n,h2,λh X=>⟨_,es,X _ _ hl,⟨rfl,rfl,rfl⟩,rfl,λe he=>?_,h1,by rw[h2];exact T.nd⟩⟩
 obtain⟨x,t,e1,e2⟩:=hk.all e (Array.mem_toList_iff.mpr he);exact⟨x,by rw[e1];exact strKind_is prog w x t,e2⟩
def F8 (n:Nat)(Pv:Nat->List V->Hp->Prop)(i:Nat)(ys:List V)(H4:Hp):Prop:=∃m',m' < n - i/\m'=n - (i+1)/\i+1<=n/\Pv (i+1) ys H4
theorem F8.mk {n:Nat}{Pv:Nat->List V->Hp->Prop}{i:Nat}{ys:List V}{H4:Hp}(hi:i < n)(h:Pv (i+1) ys H4):F8 n Pv i ys H4:=⟨n - (i+1),by omega,rfl,hi,h⟩
end L2
set_option maxHeartbeats 4000000
namespace L2
open PySem PySem.Spec PyProof.Rows
inductive VY:List Expr->List Str->Prop
 |nil:VY [] []
 |cons {x:Str} {j:_} {p:Pos} {es:List Expr} {ss:List Str}:VY es ss->VY (.Constant (.str x) j p::es) (x::ss)
end L2
set_option maxHeartbeats 4000000
namespace L2
open PySem PySem.Spec PyProof.Rows
structure iq (scope outer:Scope)(xs N M:List Str):Prop where
 kind:scope.kind=.function
 OS:outer.kind=.function
 AR:∀y∈scope.names,y.2≠.cell
 names:∀y∈scope.names,y.2=.local->scope.names.lookup y.1=some .local
 hx:∀x∈xs,scope.names.lookup x=some .local
 free:∀y∈scope.names,y.2=.free->outer.names.lookup y.1=some .cell
 nl:∀n∈M,(cJ scope outer).names.lookup n≠some .local
 nd2:(xs++M).Nodup
 nd:N.Nodup
 len:M.length=N.length
 rel:∀i:Nat,i < N.length->M[i]?=N[i]?\/M[i]?=some aj6
 em:(cJ scope outer).names.lookup aj6=none
theorem iq.mem {scope outer:Scope}{xs:List Str}{N M:List Str}(S:iq scope outer xs N M){n:Str}{k:NameKind}(h:(cJ scope outer).names.lookup n=some k)(hk:k=.cell\/k=.free) :
  k=.cell/\(n,aks)∈scope.names/\outer.names.lookup n=some .cell:=by
 obtain⟨⟨n',k'⟩,hm,e⟩:=List.mem_map.mp (akB h);dsimp only at e
 by_cases hc:(k' == aks && outer.kind == .function && outer.names.lookup n' == some .cell)=true
 ·rw[if_pos hc]at e;injection e with e1 e2
  subst e1 e2;rw[akw,akw]at hc;have hk':k'=.free:=beq_iff_eq.mp hc.1.1;subst hk';exact⟨rfl,hm,beq_iff_eq.mp hc.2⟩
 ·rw[if_neg hc]at e;injection e with e1 e2
  subst e1 e2;rcases hk with z | z
  ·exact absurd z (S.AR _ hm)
  ·subst z
   exfalso
   refine hc ?_;rw[S.free _ hm rfl,S.OS];rfl
def fW (X:Cx)(xs M:List Str)(scope:Scope)(cl:List (Str×Addr))(C:Addr)(s:Shared)(H:Hp)(fp:List Addr):Cx :=
 { X with N:=xs++M,s₀:=s,H₀:=H,env:=compEnvC scope cl C X.env,outer:=X.stack,ex:=fp,fn:=λ_=>false,pn:=[],xe:=λ_ _=>False }
def Dl (n:Nat)(J:It)(g:TG)(te:TEX)(σ:St)(D:Addr)(H1:Hp)(Q:VK)(E:XK):Prop:=∃W:Nat->Nat->List V->Hp->Prop,(∃m,W 0 m [] (upd H1 D (.lst [])))/\∀i m ys H2,W i m ys H2 ->
 H2 D=some (.lst ys)/\((J.stop i H2/\Q (.ref D) H2)\/(J.go i H2/\ys.length < ka/\∀x H3,J.yld i H2 x H3->∀vs:St,vs.length=n->g x (vs++σ) H3 λσ' H4=>∃ws:St,ws.length=n/\σ'=ws++σ /\
  te σ' H4 (λy H5=>H5 D=some (.lst ys)/\∃m',m' < m/\W (i+1) m' (ys++[y]) (upd H5 D (.lst (ys++[y])))) E))
def O7 (n:Nat)(wi:TI)(g:TG)(te:TEX):TEX:=λσ H Q E=>wi σ H λJ H1=>∀D,H1 D=none->Dl n J g te σ D H1 Q E
section
variable{prog:me}{w:World}{A:Around}{R:Result->Shared->Prop}{s:Shared}
theorem J1 {elt target iter:Expr}{scope:Scope}{pos:Pos}{it acc:Value}{env:Env}(I:Nat->Shared->Prop)
  (turn:∀n s,I n s->wpAny (model prog w) A (pyNext it) (λr s₁=>match r with
   |none=>R (.ok .next) s₁
   |some v=>wpAny (model prog w) A (letOwnedTupleGo target it v) (λ_ s₀=>wpAny (model prog w) A (assign target env v) (λ_ s₂ =>
     wpAny (model prog w) A (eval elt env) (λx s₄ =>
       wpAny (model prog w) A (call (.builtin "list.append") [acc,x]) (λ_ s₅=>∃m,m < n/\I m s₅) (notedBy (model prog w) A env λe s'=>R (.error e) s') s₄) (notedBy (model prog w) A env λe s'=>R (.error e) s') s₂)
      (notedBy (model prog w) A env λe s'=>R (.error e) s') s₀) (notedBy (model prog w) A env λe s'=>R (.error e) s') s₁) (notedBy (model prog w) A env λe s'=>R (.error e) s') s)
  (n:Nat) (h:I n s) :
  codeAny (model prog w) A (.compLoop (.ListComp elt [⟨target,iter,[],0⟩] scope pos) 0 it acc env) R s:=by
 refine codeAny_loop rfl I (λn s hI=>?_) n h
 show wpAny _ A ((compTurn (.ListComp elt [⟨target,iter,[],0⟩] scope pos) 0 it acc env).onRaise (λx=>do noteFrame x env;theTreesLotGoes x)) _ _ s
 refine wpAny_noted ?_;rw[compTurn_list];refine eg (ako (eg (wt (turn n s hI) (λr s₁ h₁=>?_) λ_ _ h'=>h')))
 cases r with
 |none=>exact si h₁
 |some v =>
  refine eg (wt h₁ (λ_ s₀ h₀=>?_) λ_ _ h'=>h')
  refine eg (wt h₀ (λ_ s₂ h₂=>eg (wpAny_tests_nil ?_)) λ_ _ h'=>h')
  exact eg (eg (wt h₂ (λx s₄ h₄=>eg (wt h₄ (λ_ s₅ h₅=>si (si ⟨rfl,h₅⟩)) λ_ _ h'=>h')) λ_ _ h'=>h'))
end
section
variable{X:Cx}{pins:List (Addr×Obj)}{σ:St}{H:Hp}{s:Shared}{elt iter tg:Expr}{xs:List Str}{px pos:Pos}{scope:Scope}{wi:TI}{te:TEX}{g:TG}{Q:VK}{E:XK}{M:List Str}
theorem O8 {cl:List (Str×Addr)}{C:Addr}{fp:List Addr}(S:iq scope X.env.scope xs X.N M)(I:Inv X pins σ H s)(hC:s.heap.objs.size<=C)(p1:∀n c,cl.lookup n=some c->X.env.cells.lookup n=some c)
  (p3:∀y∈scope.names,y.2=.free->(cl.lookup y.1).isSome=true) (f2:∀b∈fp,gB X pins H b) (fo:∀b∈fp,b < s.heap.objs.size):(fW X xs M scope cl C s H fp).Ok where
 mod:=I.ok.mod
 kind:=S.kind
 glob:=I.ok.glob
 blt:=I.ok.blt
 above:=hC
 inj:=λy z c h1 h2=>I.ok.inj y z c (p1 y c h1) (p1 z c h2)
 has:=λy hy=>by
  have hy':(cJ scope X.env.scope).names.lookup y=some .cell\/(cJ scope X.env.scope).names.lookup y=some .free:=hy;have hm:(y,aks)∈scope.names:=by
   rcases hy' with z | z
   ·exact(S.mem z (.inl rfl)).2.1
   ·exact(S.mem z (.inr rfl)).2.1
  exact Option.isSome_iff_exists.mp (p3 _ hm rfl)
 cab:=λy c h=>absurd h ku
 hd:=I.ok.hd
 frames:=I.ok.frames
 stk:=.inl rfl
 exf:=λb hb=>⟨ajK (ajI (fo b hb) hC),λy c e=>(f2 b hb).2.2.2.2.1 y c (p1 y c e)⟩
 bs:=I.bs
 bsz:=tm I.ok.bsz I.sz
 Eg:=λb o e hb=>by
  rcases (f2 b hb).2.2.2.1 with z | z
  ·exact I.ok.Eg b o e z
  ·exact absurd (ajI (om (I.ok.bs b o e).1) z) (ak2 _)
 Eh:=λb hb z=>by
  rcases List.mem_cons.mp (I.AG b z) with e | e
  ·exact(f2 b hb).2.1 e
  ·exact(f2 b hb).2.2.1 e
 uo:=I.stack
 frf:=I.Aj
theorem Na {cl:List (Str×Addr)}{C D:Addr}{fp:List Addr}{h₁:Heap}{tk:Nat}{m:Str->Option Value}(S:iq scope X.env.scope xs X.N M)(I:Inv X pins σ H s)(hC:s.heap.objs.size<=C)(hD:s.heap.objs.size<=D)(hDC:D≠C)
  (p1:∀n c,cl.lookup n=some c->X.env.cells.lookup n=some c)
  (p3:∀y∈scope.names,y.2=.free->(cl.lookup y.1).isSome=true) (f2:∀b∈fp,gB X pins H b) (fo:∀b∈fp,b < s.heap.objs.size)
  (old:∀b o,s.heap.get? b=some o->h₁.get? b=some o) (hn:h₁.Ns C m) (hl:h₁.get? D=some { cls:=.type "list",data:=.seq ([]:List Value).toArray }) :
  Inv (fW X xs M scope cl C s H fp) [] (akW xs.length none++σ) (upd H D (.lst [])) { s with heap:=h₁,toks:=tk }:=by
 have cellK:∀c v,s.heap.IsCell c v->h₁.IsCell c v:=λc v ⟨o,e,d⟩=>⟨o,old c o e,d⟩
 refine⟨O8 S I hC p1 p3 f2 fo,rfl,I.bare,Un.laid old hD (I.hok.fresh hD),⟨m,hn,λi n v h1 h2 h3=>?_⟩,λy c e=>?_,?_,λy c e=>?_,λp hp=>absurd (show p∈([]:List (Addr×Obj)) from hp) (by simp),I.hok.laid old hD ⟨akl _,[],0,.nil,hl⟩,?_⟩
 ·have h1':(xs++M)[i]?=some n:=h1
  by_cases hi:i < xs.length
  ·rw[akP (by rw[akE];exact hi),List.getElem?_replicate,if_pos hi]at h2
   cases h2
  ·rw[akA (by omega)]at h1'
   rw[akA (by rw[akE];omega),akE]at h2
   generalize i - xs.length=i at h1' h2;have h3':(cJ scope X.env.scope).names.lookup n=some .local\/(cJ scope X.env.scope).names.lookup n=some .cell\/(cJ scope X.env.scope).names.lookup n=some .free:=h3;have kX:(cJ scope X.env.scope).names.lookup n=some .cell/\(n,aks)∈scope.names/\X.env.scope.names.lookup n=some .cell:=by
    rcases h3' with z | z | z
    ·exact absurd z (S.nl n (ajQ h1'))
    ·exact⟨z,(S.mem z (.inl rfl)).2⟩
    ·exact absurd (S.mem z (.inr rfl)).1 (by decide)
   have ahB:X.N[i]?=some n:=by
    have hi:i < X.N.length:=by rw[<-S.len];exact(List.getElem?_eq_some_iff.mp h1').1
    rcases S.rel i hi with z | z
    ·rw[<-z];exact h1'
    ·rw[h1']at z;have e:n=aj6:=ajJ z;rw[e,S.em]at kX;cases kX.1
   obtain⟨m0,hn0,hl0⟩:=I.loc;obtain⟨u,r,l⟩:=hl0 i n v ahB h2 (.inr (.inl kX.2.2));refine⟨u,r,.inr ⟨.inl kX.1,?_⟩⟩;obtain⟨c,hc⟩:=Option.isSome_iff_exists.mp (p3 _ kX.2.1 rfl);refine⟨c,hc,?_⟩;rcases l with ⟨k,_⟩ | ⟨_,c',hc',z⟩
   ·have k':X.env.scope.names.lookup n=some .local:=k;rw[kX.2.2]at k';cases k'
   ·rw[p1 n c hc]at hc';cases hc';exact cellK c _ z
 ·obtain⟨v,z⟩:=I.cell y c (p1 y c e);exact⟨v,cellK c v z⟩
 ·show (upd H D (.lst [])) C=none;rw[av (ajZ hDC)];exact I.hok.fresh hC
 ·obtain⟨v,z⟩:=I.cell y c (p1 y c e);rw[av (ajK (ajI z.lt hD))];exact I.oE y c (p1 y c e)
 ·show (akW xs.length none++σ).length=(xs++M).length;rw[kx,kx,akE,I.len,S.len]
def XPC (X:Cx)(pins:List (Addr×Obj))(σ:St)(E:XK)(C:Addr)(ea:Addr)(s':Shared):Prop :=
 ∃(cls:Value) (xd:Option Addr) (m:Value) (H':Hp) (o:Obj),Inv X (pins++[(C,o)]) σ H' s'/\(∃mC,s'.heap.Ns C mC)/\X.s₀.heap.objs.size<=C/\(∀y c,X.env.cells.lookup y=some c->c≠C)/\(∀p∈X.pn++pins,p.1≠C)/\XAt X (pins++[(C,o)]) H' s'.heap ea cls xd (some m)/\E cls xd H'
theorem J2 {cl:List (Str×Addr)}{RR:Value->Addr->Result->Shared->Prop}{xe:Value->Shared->Prop}(F1:Fr1 X)(S:iq scope X.env.scope xs X.N M)(hc:X.calm=true)(hi:PI X.nox tg iter wi)
  (hg:∀cl C s H fp,PG (fW X xs M scope cl C s H fp) tg g)
  (he:∀cl C s H fp,PEX (fW X xs M scope cl C s H fp) elt te) (I:Inv X pins σ H s) (h:O7 xs.length wi g te σ H Q E)
  (p1:∀n c,cl.lookup n=some c->X.env.cells.lookup n=some c) (p3:∀y∈scope.names,y.2=.free->(cl.lookup y.1).isSome=true)
  (hRR:∀D C H' s' o m,Inv X (pins++[(C,o)]) σ H' s'->s'.heap.get? C=some o->s'.heap.Ns C m->X.s₀.heap.objs.size<=C->(∀y c,X.env.cells.lookup y=some c->c≠C)->(∀p∈X.pn++pins,p.1≠C)->Q (.ref D) H'->RR (.ref D) C (.ok .next) s')
  (hRX:∀D C ea s',XPC X pins σ E C ea s'->RR (.ref D) C (.error (.ref ea)) s') :
  wpAny (model X.prog X.w) X.A (eval iter X.env) (λxv s₁=>wpAny (model X.prog X.w) X.A (pyIter xv) (λit s₂=>wpAny (model X.prog X.w) X.A (newList []) (λacc s₃ =>
   wpAny (model X.prog X.w) X.A (newFunctionEnv scope X.env.globals cl [] X.env.qual none .none (some X.env)) (λEA s₄ =>
    codeAny (model X.prog X.w) X.A (.compStart (.ListComp elt [⟨tg,iter,[],0⟩] scope pos) 0 it acc { EA with scope:=relabel scope X.env }) (RR acc EA.locals) s₄) xe s₃) xe s₂) xe s₁) xe s:=by
 refine wt (hi pins s σ H _ (I.nM _) h) (λv s1 h1=>wt h1 (λitv s2 h2=>?_) λ_ _ z=>ajY z) λ_ _ z=>ajY z
 obtain⟨it,fp,tn,J,H2,rfl,I2',T,st2,f2',q⟩:=h2;have I2:Inv X pins σ H2 s2:=I2'.d5;have f2:∀b∈fp,gB X pins H2 b:=f2';refine wpAny_newObj_type (wpAny_newFunctionEnv S.AR (by intro y hy;simp at hy) (λh₁ hns₁ hsb₁=>?_) S.kind)
 dsimp only at hns₁ hsb₁ ⊢;generalize hHH:s2.heap.push { cls:=.type "list",dict:=none,data:=.seq ([]:List Value).toArray }=HH at hns₁ hsb₁ ⊢;have hCs:HH.objs.size=s2.heap.objs.size+1:=by rw[<-hHH,akV]
 have hDC:s2.heap.objs.size≠HH.objs.size:=by rw[hCs];exact ajK (Nat.lt_succ_self _)
 have OV:s2.heap.objs.size<=HH.objs.size:=by rw[hCs];exact akq _
 have below:∀b,b < s2.heap.objs.size->b≠HH.objs.size:=λb hb=>by rw[hCs];exact ajK (Nat.lt_succ_of_lt hb)
 have old:∀b o,s2.heap.get? b=some o->h₁.get? b=some o:=λb o e=>hsb₁.extBut b o (below b (om e)) (gr _ (hHH▸gr _ e))
 have M6:h₁.get? s2.heap.objs.size=some { cls:=.type "list",data:=.seq ([]:List Value).toArray }:=hsb₁.extBut _ _ hDC (gr _ (hHH▸ajM _ rfl));have fo:∀b∈fp,b < s2.heap.objs.size:=λb hb=>by
  obtain⟨o,e,_⟩:=T.obj _ _ st2 b hb;exact om e
 have IY:=Na (tk:=s2.toks+([]:List (Str×Value)).length) S I2 OV (kq _) hDC p1 p3 f2 fo old hns₁ M6;have st1:tn 0 h₁:=T.keep _ _ _ st2 λb _ o e=>old b o e
 obtain⟨W,⟨m0,w0⟩,turn⟩:=q _ (I2.hok.fresh (kq _));generalize hC:HH.objs.size=C at *;generalize hDD:s2.heap.objs.size=D at *;have M7:s2.heap.objs.size<=C:=by rw[hDD];exact OV
 have stat:∀ {H':Hp},(∀b∈fp,H' b=none)->∀b∈fp,gB (fW X xs M scope cl C s2 H2 fp) [] H' b:=λhn b hb =>
  ⟨hn b hb,below b (fo b hb),IY.ok.Eh b hb,.inl hb,λy c e=>(f2 b hb).2.2.2.2.1 y c (p1 y c e),λp hp=>absurd (show p∈([]:List (Addr×Obj)) from hp) (by simp)⟩
 have out:∀ {H':Hp} {s':Shared} {σ':St} {pl:List (Addr×Obj)},Inv (fW X xs M scope cl C s2 H2 fp) pl σ' H' s'->∃oC mC,Inv X (pins++[(C,oC)]) σ H' s'/\s'.heap.get? C=some oC/\s'.heap.Ns C mC/\gB X pins H' C:=λ{H' s' σ' pl} I4=>by
  obtain⟨m4,hn4,_⟩:=I4.loc;obtain⟨oC,es4,ep4,e4,r4⟩:=id hn4;have IX:Inv X pins σ H' s':=I2.LY (ch:=fp) I4.os I4.base I4.hok I4.bare λb hb=>⟨(f2 b hb).2.2.2.1,(f2 b hb).2.1,(f2 b hb).2.2.2.2.1,(f2 b hb).2.2.2.2.2⟩
  have fC:=I2.AI (H':=H') M7 I4.free;have IX2:Inv X (pins++[(C,oC)]) σ H' s':=IX.Ak λp hp=>(List.mem_append.mp hp).elim (λz=>IX.pin p (ki _ z)) λz=>by
   have e:p=(C,oC):=by simpa using z
   subst e;exact⟨e4,fC.1,fC.2.1,fC.2.2.1,λv z=>by rw[r4.1]at z;cases z⟩
  exact⟨oC,m4,IX2,e4,hn4,fC⟩
 have exo:∀ {e:Value} {s':Shared} {σ':St} {pl:List (Addr×Obj)},XP (fW X xs M scope cl C s2 H2 fp) pl σ' E e s'->notedBy (model X.prog X.w) X.A (compEnvC scope cl C X.env) (λe s''=>RR (.ref D) C (.error e) s'') e s':=λ{e s' σ' pl} xp=>by
  obtain⟨ea,cls,xd,m,H',rfl,I4,hx,_,qe⟩:=xp;obtain⟨oC,mC,IX2,e4,hn4,fC⟩:=out I4;have fpx:∀ {b:Addr},gB (fW X xs M scope cl C s2 H2 fp) pl H' b->gB X (pins++[(C,oC)]) H' b:=λ{b} z=>by
   have base:gB X pins H' b:=by
    rcases z.2.2.2.1 with y | y
    ·exact⟨z.1,(f2 b y).2⟩
    ·exact I2.AI y z.1
   refine⟨base.1,base.2.1,base.2.2.1,base.2.2.2.1,base.2.2.2.2.1,λp hp=>?_⟩
   rcases List.mem_append.mp hp with y | y
   ·exact base.2.2.2.2.2 p (akb _ y)
   ·rcases List.mem_append.mp y with y | y
    ·exact base.2.2.2.2.2 p (ki _ y)
    ·have e:p=(C,oC):=by simpa using y
     subst e;exactλe=>z.2.1 e.symm
  have hx':XAt X (pins++[(C,oC)]) H' s'.heap ea cls xd m:=by
   obtain⟨ok,sl,vs,he',hz,hm⟩:=hx;refine⟨fpx ok,sl,vs,he',hz,?_⟩;cases m with
   |none=>exact hm
   |some m=>obtain⟨T',oT,ts,a,b,c,d⟩:=hm;exact⟨T',oT,ts,a,b,fpx c,d⟩
  have hmk:MOk X m:=by cases m with | none=>exact .inl rfl | some m=>exact .inr (.inr ⟨m,rfl⟩)
  show wpAny _ _ (noteFrame (.ref ea) X.env) _ _ s';refine JY F1 IX2.ok.frames IX2 hx' hmk λs5 I5 x5=>?_
  refine hRX D C ea s5 ⟨cls,xd,_,H',oC,I5,?_,tm I2.sz M7,fC.2.2.2.2.1,fC.2.2.2.2.2,x5,qe⟩;have pC:=I5.pin (C,oC) (ki _ (ki _ (by simp)))
  obtain⟨o',es,ep,e0,r⟩:=hn4;rw[e4]at e0;cases e0;exact⟨mC,oC,es,ep,pC.1,r⟩
 have loop:codeAny (model X.prog X.w) X.A (.compLoop (.ListComp elt [⟨tg,iter,[],0⟩] scope pos) 0 (.ref it) (.ref D) (compEnvC scope cl C X.env)) (RR (.ref D) C) { s2 with heap:=h₁,toks:=s2.toks+([]:List (Str×Value)).length }:=by
  refine J1 (λn s'=>∃i vs ys H',Inv (fW X xs M scope cl C s2 H2 fp) [] (vs++σ) H' s'/\vs.length=xs.length/\tn i s'.heap/\(∀b∈fp,H' b=none)/\W i n ys H') ?_ m0 ⟨0,akW xs.length none,[],_,IY,akE,st1,λb hb=>?_,w0⟩
  ·rintro n s3 ⟨i,vs,ys,H3,I3,hvs,st3,fr3,w3⟩;obtain⟨hDl,hw⟩:=turn i n ys H3 w3;rcases hw with ⟨stop,qn⟩ | ⟨go,hsz,step⟩
   ·refine thn (T.done (fW X xs M scope cl C s2 H2 fp) rfl rfl rfl hc i [] s3 _ H3 _ I3 (stat fr3) st3 stop) λr s4 ⟨hr,I4⟩=>?_
    subst hr;obtain⟨oC,m4,IX2,e4,hn4,fC⟩:=out I4;exact hRR D C H3 s4 oC m4 IX2 e4 hn4 (tm I2.sz M7) fC.2.2.2.2.1 fC.2.2.2.2.2 qn
   ·refine thn (T.item (fW X xs M scope cl C s2 H2 fp) rfl rfl rfl hc i [] s3 _ H3 _ I3 (stat fr3) st3 go) λr s4 ⟨u,hr,h4⟩=>?_
    subst hr;refine thn h4 λ_ s5 ⟨xv,H5,I5,r5,y5,st5,fr5⟩=>?_
    have I5':=I5.pinned (stat fr5) (T.obj _ _ st5);refine wt (hg cl C s2 H2 fp _ s5 _ H5 xv u _ I5' r5 (step xv H5 y5 vs hvs)) (λ_ s6 ⟨σ6,H6,I6,ws,hws,e6,q6⟩=>?_) (λ_ _ f=>f.elim)
    subst e6;refine wt (he cl C s2 H2 fp _ s6 _ H6 _ E I6 q6) (λy s7 ⟨yv,H7,I7,r7,hD7,m',hm',w7⟩=>?_) (λ_ _ f=>exo f)
    refine wt (cU (X:=fW X xs M scope cl C s2 H2 fp) _ s7 _ H7 (.ref D) [yv] (.ref D) [y] (λ_ H8=>H8=upd H7 D (.lst (ys++[yv]))) I7 rfl (.cons r7 .nil) ⟨D,ys,yv,rfl,rfl,hD7,hsz,rfl⟩)
     (λ_ s8 ⟨_,H8,I8,_,e8⟩=>?_) (λ_ _ f=>f.elim)
    subst e8;refine⟨m',hm',i+1,ws,ys++[yv],_,I8.gY,hws,T.keep _ _ _ st5 λb hb o e=>(I8.pin (b,o) (ki _ (ki _ (jo hb e)))).1,λb hb=>?_,w7⟩
    obtain⟨o,e,d⟩:=T.obj _ _ st5 b hb;exact(I8.pin (b,o) (ki _ (ki _ (jo hb e)))).2.1
  ·show (upd H2 D (.lst [])) b=none;rw[av (ajK (fo b hb))];exact(f2 b hb).1
 exact codeAny_compStart_list loop (T.self _ 0 _ _ _ st1 loop)
theorem RZ {C ea:Addr}{s':Shared}{h':Heap}{EA:Env}{α:Type}{w1:String}{Q':α->Shared->Prop}(x:XPC X pins σ E C ea s')(hs':Heap.SameBut C s'.heap h') :
  wpAny (model X.prog X.w) X.A (passOn w1 (.ref ea) EA:Sem α) Q' (XP X pins σ E) { s' with heap:=h' }:=by
 obtain⟨cls,xd,m,H',o,I5,⟨mC,hn⟩,h0,h1,h2,hx,qe⟩:=x;have pC:=I5.pin (C,o) (ki _ (ki _ (by simp)))
 have IX:Inv X pins σ H' s':=I5.gY;have I6:Inv X pins σ H' { s' with heap:=h' }:=IX.turned (t':=s'.toks) (λb ob hb e=>(hs'.2 b hb).trans e) pC.2.1 pC.2.2.1 (.inr h0) h1 h2
 have ne:∀ {b:Addr},gB X (pins++[(C,o)]) H' b->b≠C:=λ{b} z e=>z.2.2.2.2.2 (C,o) (ki _ (ki _ (by simp))) e.symm
 obtain⟨ok,sl,vs,he,hz,T,oT,ts,a1,nT,fT,hT,hd,h3⟩:=hx;have x6:XAt X pins H' h' ea cls xd (some m):=⟨ok.drop,sl,vs,(hs'.2 ea (ne ok)).trans he,hz,T,oT,ts,a1,nT,fT.drop,(hs'.2 T (ne fT)).trans hT,hd,h3⟩;unfold PySem.passOn;refine eg (wpAny_field (s:={ s' with heap:=h' }) ((hs'.2 ea (ne ok)).trans he) rfl a1 ?_)
 rw[if_neg (show ¬((ajL T == akM)=true) by simp)]
 have step:wpAny (model X.prog X.w) X.A (do setFlight (.ref ea) EA.frame;throw (.ref ea):Sem α) Q' (XP X pins σ E) { s' with heap:=h' } :=
  eg (rW I6 x6 λs2 I2 x2=>wpAny_throw ⟨ea,cls,xd,_,H',rfl,I2,x2,.inr (.inr ⟨_,rfl⟩),qe⟩)
 first
  |exact step
  |exact eg (si step)
theorem PEX.pe {e:Expr}{t:TEX}(h:PEX X e t):PE X e (λσ H Q=>t σ H Q E0):=λpins s σ H Q I hw =>
 wt (h pins s σ H Q E0 I hw) (λ_ _ z=>z) λ_ _ ⟨_,_,_,_,_,_,_,_,_,z⟩=>z.elim
theorem O9 (F1:Fr1 X)(S:iq scope X.env.scope xs X.N M)(hc:X.calm=true)(hi:PI X.nox tg iter wi)(hg:∀cl C s H fp,PG (fW X xs M scope cl C s H fp) tg g)
  (he:∀cl C s H fp,PEX (fW X xs M scope cl C s H fp) elt te)
  (hs:∀x,foldedSetIterable iter X.env x=pure x:=by intro _;rfl):PEX X (.ListComp elt [⟨tg,iter,[],0⟩] scope pos) (O7 xs.length wi g te):=by
 intro pins s σ H Q E I h;obtain⟨cl,F4,p1,p3⟩:=xx (scope:=scope) (env:=X.env) (λy hy hf=>I.ok.has y.1 (.inl (S.free y hy hf)))
 rw[eval_ListComp];refine wpAny_comprehension_free (use:=none) rfl hs F4 S.kind S.names (J2 (RR:=λacc C=>compPost (model X.prog X.w) X.A (XP X pins σ E) none (EP X pins σ Q) acc C) F1 S hc hi hg he I h p1 p3 ?_ ?_)
 ·intro D C H' s' o m I' e hn h0 h1 h2 q;refine⟨m,hn,λh' hs'=>?_⟩
  have pC:=I'.pin (C,o) (ki _ (ki _ (by simp)))
  have IX:Inv X pins σ H' s':=I'.gY;exact⟨.ref D,H',IX.turned (t':=s'.toks) (λb ob hb e=>(hs'.2 b hb).trans e) pC.2.1 pC.2.2.1 (.inr h0) h1 h2,rfl,q⟩
 ·intro D C ea s' x;obtain⟨_,_,_,_,_,_,⟨mC,hn⟩,_⟩:=id x;exact⟨mC,hn,λh' hs' EA _=>RZ x hs'⟩
end
theorem R0 {X:Cx}{K:ba}{es:List Expr}{k:Nat}{t:TGs}{n:Nat}{pos:Pos}(ek:X.K=K)(hc:X.calm=true)(h:PGs X es t)
  (hn:(assignEach es X.env).length=n:=by rfl) (hst:(assignEach es X.env).findIdx? (·.1)=none:=by rfl):PG X (.Tuple es k pos) (Vr K n t):=by
 subst ek;exact JD hc h hn hst
def aad (t:TAX):TEX:=λσ H Q E=>t σ H (λxs H1=>xs.length<=ka/\∀p,H1 p=none->Q (.ref p) (upd H1 p (.tup xs))) E
theorem Ao {X:Cx}{es:List Expr}{t:TAX}{x1:_}{pos:Pos}(h:PAX X es t):PEX X (.Tuple es x1 pos) (aad t):=by
 intro pins s σ H Q E I hq;refine wpAny_Tuple_spliced (thn (h pos pins s σ H _ E I hq) λus s1 ⟨xs,H1,I1,r,z,q⟩=>⟨by rw[<-r.length];exact z,?_⟩)
 have hf:H1 s1.heap.objs.size=none:=I1.hok.fresh (kq _);refine⟨.ref s1.heap.objs.size,upd H1 s1.heap.objs.size (.tup xs),I1.laid (t':=s1.toks) (λb u e=>gr _ e) (kq _) ?_,rfl,q _ hf⟩
 exact⟨z,us,r,⟨_,ajM _ rfl,rfl,_,rfl⟩⟩
end L2
set_option maxHeartbeats 4000000
namespace L2
open PySem PySem.Spec PyProof.Rows
abbrev TJ:=St->Hp->Str->(Str->Hp->Prop)->Prop
def PJ (X:Cx)(es:List Expr)(t:TJ):Prop :=
 ∀(pins:List (Addr×Obj)) (s:Shared) (σ:St) (H:Hp) (acc:Str) (Q:Str->Hp->Prop),Inv X pins σ H s->t σ H acc Q ->
  Joins (model X.prog X.w) X.A X.xe (evalEach es X.env) acc (λout s1=>∃H1,Inv X pins σ H1 s1/\out.length<=ka/\Q out H1) s
theorem Joins.mono {M:Model}{A:Around}{E:Value->Shared->Prop}{Q Q':Str->Shared->Prop}(hQ:∀o s,Q o s->Q' o s):∀ {ps:List (Sem Value)} {acc:Str} {s:Shared},Joins M A E ps acc Q s->Joins M A E ps acc Q' s
 |[],_,_,h=>hQ _ _ h
 |_::_,_,_,h=>wt h (λ_ _ ⟨y,t,e,l,r⟩=>⟨y,t,e,l,Joins.mono hQ r⟩) λ_ _ z=>z
inductive J3:V->Str->Prop
 |int {i:Int}:i.natAbs.log2 < 1920->J3 (.int i) (toString i)
 |str {x:Str}:J3 (.str x) x
section
variable{X:Cx}{e:Expr}{es:List Expr}{te:TE}{t:TJ}{y:Str}{j:Nat}{p1 p2 pos:Pos}
theorem xA:PJ X [] (λ_ H acc Q=>acc.length<=ka/\Q acc H):=λ_ _ _ H _ _ I h=>⟨H,I,h.1,h.2⟩
theorem l5 (h:PJ X es t):PJ X (.Constant (.str y) j p1::es) (λσ H acc Q=>(acc++y).length<=ka/\t σ H (acc++y) Q):=by
 intro pins s σ H acc Q I hw;show wpAny _ _ (eval (.Constant (.str y) j p1) X.env) _ _ s;exact Calls.Constant_str ⟨y,_,rfl,hw.1,h pins _ σ H _ Q (I.tok _) hw.2⟩
theorem xB (he:PE X e te)(h:PJ X es t):PJ X (.FormattedValue e (-1) none p1::es) (λσ H acc Q=>te σ H λx H1=>∃z,J3 x z/\z.length<=ka/\(acc++z).length<=ka/\t σ H1 (acc++z) Q):=by
 intro pins s σ H acc Q I hw;show wpAny _ _ (eval (.FormattedValue e (-1) none p1) X.env) _ _ s;refine wpAny_FormattedValue_plain (thn (he pins s σ H _ I hw) λv s1 ⟨x,H1,I1,r1,z,fz,l1,l2,q⟩=>?_)
 cases fz with
 |int hl =>
  obtain⟨tk,rfl⟩:=r1;exact wpAny_formatField_int hl ⟨_,_,rfl,l2,h pins _ σ H1 _ Q ((I1.tok _).tok _) q⟩
 |str =>
  obtain⟨tk,rfl⟩:=r1;exact wpAny_formatField_str ⟨_,_,rfl,l2,h pins _ σ H1 _ Q I1 q⟩ ⟨_,_,rfl,l2,h pins _ σ H1 _ Q (I1.tok _) q⟩ l1
theorem Dm {e₂:Expr}(h:PJ X (e::e₂::es) t):PE X (.JoinedStr (e::e₂::es) pos) (λσ H Q=>t σ H aj6 λz H1=>Q (.str z) H1):=by
 intro pins s σ H Q I hw;refine wpAny_JoinedStr ?_;have:=h pins s σ H aj6 _ I hw;refine Joins.mono ?_ this;rintro out s1 ⟨H1,I1,l,q⟩;exact⟨l,.str out,H1,I1.tok _,⟨_,rfl⟩,q⟩
end
def xi (a C:Addr)(xd:Option Addr):HO:=.ext λh=>∃a0:Addr,h.get? a=some ⟨.ref C,xd,.fields #[.ref a0,.none,.none,.none,.bool false,.none],#[]⟩
section
variable{P:me}{w:World}{H:Hp}{h:Heap}{a C:Addr}{xd:Option Addr}
theorem Pa {a0:Addr}(e:h.get? a=some ⟨.ref C,xd,.fields #[.ref a0,.none,.none,.none,.bool false,.none],#[]⟩):fU P w H h a (xi a C xd) :=
 ⟨⟨a0,e⟩,⟨_,e⟩,λ_ _ ⟨b,z⟩ k=>⟨b,k _ z⟩⟩
theorem Pb (x:fU P w H h a (xi a C xd)):∃a0:Addr,h.get? a=some ⟨.ref C,xd,.fields #[.ref a0,.none,.none,.none,.bool false,.none],#[]⟩:=x.1
end
structure T2 (K:ba)(D:Addr):Prop where
 rd:PySem.W.readsIn K D (.type "type")=true
 sp:PySem.W.specialIn K (.ref D) "__getattribute__"=some (some (.builtin "type.__getattribute__"))
 fc:PySem.W.findCls K (.ref D) (.type "type") "__init__"=some (.val (.builtin "ValueError.__init__"))
structure EE (K:ba)(N f:Addr):Prop where
 ex:∃(c:Value) (dd:Option Addr) (es:Array akx) (n:Nat) (sl:Array (Option Value)),K.lookup N=some ⟨c,dd,.dict es n,sl⟩/\strKeys es=true
 at_:di K N "__init__"=some (some (.ref f))
theorem EE.ns {K:ba}{N f:Addr}(x:EE K N f){h:Heap}(X:K.In h):∃mN,h.Ns N mN/\mN "__init__"=some (.ref f):=by
 obtain⟨⟨c,dd,es,n,sl,l,sk⟩,no⟩:=x;have ns:h.Ns N (nsFind es):=⟨_,es,n,X _ _ l,rfl,λe he=>by
  have z:=List.all_eq_true.mp sk e (Array.mem_toList_iff.mpr he);cases hk:e.key with
  |str y t=>exact⟨y,t,rfl⟩
  |_=>rw[hk]at z;exact absurd z ku,λ_=>rfl⟩
 refine⟨_,ns,?_⟩;unfold di at no;rw[l]at no;dsimp only at no;unfold nsFind findBy;rw[<-Array.find?_toList];cases hf:es.toList.find? (λe=>e.key.isStr "__init__") with
 |none =>
  rw[hf]at no;dsimp only at no
  by_cases q:es.toList.any (·.refKey)=true
  ·rw[if_pos q]at no;cases no
  ·rw[if_neg q]at no;cases no
 |some e=>rw[hf]at no;exact ajJ no
structure EF (K:ba)(C f:Addr)(name:Str):Prop where
 ex:∃(nm q:Str) (N:Addr) (bs bm:List Value) (hdct:Bool) (sn:List Str) (sub:List Value) (ab:Bool) (col:Option Bool) (dd:Option Addr) (k0 k1 k2 k3 k5:Option Value),
  K.lookup C=some (akc nm q C N bs bm hdct sn sub ab col dd k0 k1 k2 k3 k5 "ValueError.__new__")/\iS K bm/\hdct=true/\EE K N f
 fn:ma K (.ref f)=true
 sa:cb K (.ref C) "__setattr__"=some (some (.builtin "object.__setattr__"))
 na:cb K (.ref C) name=some none
section
variable{X:Cx}{pins:List (Addr×Obj)}{σ:St}{H:Hp}{s:Shared}{C f:Addr}{name:Str}
theorem iS.pass {K:ba}{bm:List Value}(x:iS K bm)(self:Value):refuseLoop self "__setattr__" bm=pure ():=by
 induction x with
 |base=>exact PySem.F.store_ValueError.passes self
 |own _ _ _ ih=>rw[refuseLoop_ref];exact ih
theorem J4 {xk:EF X.K C f name}:lY X (.builtin "ValueError.__init__") (λxs H Q=>∃ea v,xs=[.ref ea,v]/\H ea=some (xi ea C none)/\Q .non H):=by
 intro pins s σ H xs us Q I r h;obtain⟨ea,v,rfl,hx,q⟩:=h;obtain⟨nm,qn,N,bs,bm,hdct,sn,sub,ab,col,dd,k0,k1,k2,k3,k5,l,T,hd,hi⟩:=xk.ex;obtain⟨u,u2,rfl,rx,rv⟩:=vals2 r;cases rx;obtain⟨a0,e⟩:=Pb (P:=X.prog) (w:=X.w) (I.hok _ _ hx);have kC:=I.kIn _ _ l;have T1:=T.tail I.kIn;have F:=PySem.F.excBase_ValueError;have ha:X.A.handled=X.A.handled:=rfl;obtain⟨hp,g,d,tk,os⟩:=s;dsimp only at e kC T1;refine wpAny_call (codeAny_call_builtin F.init.plain F.initEntry (wpAny_check_init_subT F T1 kC e rfl ?_))
 wp_walk
 have hE:ea≠hp.objs.size:=ajK (om e);have e1:(hp.push { cls:=.type "tuple",data:=.seq #[u2] }).get? ea=_:=gr _ e;have k:∀b o,b≠ea->hp.get? b=some o->((hp.push { cls:=.type "tuple",data:=.seq #[u2] }).update ea (aky λx=>x.setIfInBounds 0 (.ref hp.objs.size))).get? b=some o:=λb o hb q =>
  (akh _ _ (ajZ hb)).trans (gr _ q)
 have e2:((hp.push { cls:=.type "tuple",data:=.seq #[u2] }).update ea (aky λx=>x.setIfInBounds 0 (.ref hp.objs.size))).get? ea=some ⟨.ref C,none,.fields #[.ref hp.objs.size,.none,.none,.none,.bool false,.none],#[]⟩:=akF _ e1 rfl
 have un:upd H ea (xi ea C none)=H:=by
  funext b
  by_cases z:b=ea
  ·rw[z,ae,hx]
  ·rw[av z]
 have I2:=I.write (x:=ea) (e:=ea) (o:=xi ea C none) (t':=tk) (by rw[hx];exact akO) (.inl rfl) k ⟨_,e2⟩ (Pa e2)
 rw[un]at I2;exact⟨.non,H,I2,rfl,q⟩
end
end L2
set_option maxHeartbeats 4000000
namespace L2
open PySem PySem.Spec PyProof.Rows PySem.Builtin PySem.Builtin.ObjectAttr
section
variable{prog:me}{w:World}{A:Around}{E:Value->Shared->Prop}{K:ba}{x C f:Addr}{name:Str}{v:Value}
theorem Pc {s:Shared}{vs:Array Value}{sl:Array (Option Value)}{Q:Unit->Shared->Prop}(X:K.In s.heap)(xk:EF K C f name)(hx:s.heap.get? x=some ⟨.ref C,none,.fields vs,sl⟩)
  (h:∀h' tk,h'.get? x=some ⟨.ref C,some s.heap.objs.size,.fields vs,sl⟩->h'.Ns1 s.heap.objs.size (λy=>if y=name then some v else none)->(∀b o,b≠x->s.heap.get? b=some o->h'.get? b=some o) ->
   Q () { s with heap:=h',toks:=tk }):wpAny (model prog w) A (setAttr (.ref x) name v) Q E s:=by
 obtain⟨nm,qn,N,bs,bm,hdct,sn,sub,ab,col,dd,k0,k1,k2,k3,k5,l,T,hd,hi⟩:=xk.ex;subst hd;obtain⟨hp,g,d,tk,os⟩:=s;dsimp only at hx h X;have J:PySem.W.InstAt hp x ⟨.ref C,none,.fields vs,sl⟩ C none:=⟨hx,rfl,rfl,trivial⟩;have SF:=PySem.F.store_object;have kC:=X _ _ l;have hT:=T.tail X;have hob:(ajL C::bm).contains (.type "object")=true:=by rw[List.contains_cons,hT.hasType (b:=true) (by decide +kernel),Bool.or_true]
 have pass:refuseLoop (.ref x) "__setattr__" (.ref C::bm)=pure ():=by rw[refuseLoop_ref];exact T.pass _
 refine PySem.W.set_plain X J xk.sa ?_;have sb:PySem.W.Looks (model prog w) hp (isInstance (.ref x) (.type "object")) true:=J.type.andThen (PySem.W.looks_mroIn X (by unfold PySem.W.mroIn PySem.W.clsIn;rw[l];simpa using hob))
 refine codeAny_call_builtin SF.slot.plain SF.entry (@PySem.W.check_slot (model prog w) _ _ ⟨hp,g,d,tk+1,os⟩ "object.__setattr__" "object" "__setattr__" (.ref x) [.str name tk,v] [] _ SF.kind SF.split sb (SF.args (.ref x) (.str name tk) v) ?_);have hm:PySem.W.Looks (model prog w) hp (mroOf (.ref C)) (.ref C::bm):=(PySem.W.looks_clsIn X (by unfold PySem.W.clsIn;rw[l])).andThen .now
 rw[PySem.W.osa_eq,refuse_eq];refine eg (eg ((J.type (M:=model prog w)).at (eg (hm.at ?_))));rw[pass];refine si (eg ((J.type (M:=model prog w)).at (eg ((PySem.W.looks_findIn X xk.na).at (eg ((show PySem.W.Looks (model prog w) hp (storeTaker? none) none from .now).at ?_))))))
 have hxs:x≠hp.objs.size:=ajK (om hx);obtain⟨cd,hcl,hdd⟩:∃cd,PySem.W.clsIn K C=some cd/\cd.hasDict=true:=⟨_,by unfold PySem.W.clsIn;rw[l],rfl⟩
 refine eg (si (eg (eg (wpAny_loadPart hx (eg ((PySem.W.looks_clsIn X hcl).at ?_))))));rw[hdd];have hx₁:(hp.push { cls:=.type "dict",data:=.dict #[] }).get? x=some _:=gr _ hx;refine eg (wpAny_alloc' ?_);refine eg (wpAny_update' hx₁ ?_);refine si ?_;have hgd:((hp.push { cls:=.type "dict",data:=.dict #[] }).update x λo=>{ cls:=o.cls,dict:=some hp.objs.size,data:=o.data,slots:=o.slots }).get? hp.objs.size
   = some { cls:=.type "dict",data:=.dict #[] } :=
  (Heap.get?_update_ne _ _ _ _ hxs.symm).trans (Heap.get?_push_at rfl rfl)
 have hnd:((hp.push { cls:=.type "dict",data:=.dict #[] }).update x λo=>{ cls:=o.cls,dict:=some hp.objs.size,data:=o.data,slots:=o.slots }).Ns hp.objs.size (λ_=>none) :=
  ⟨_,#[],_,hgd,rfl,λe he=>absurd he (by simp),λ_=>rfl⟩
 show wpAny _ _ (storeInDict hp.objs.size (.str name tk) name v) _ _ _;unfold storeInDict newKeyGuard;refine eg (si (eg (wpAny_nsSet1 (Heap.Ns1.of_empty hnd) λh' hn' hs=>?_)))
 obtain⟨oD,esD,epD,hoD,hdD,hcD⟩:=hn'.count (Within.cons name v Within.nil);refine eg (wpAny_lookBehind hoD (by rw[hdD];exact pastItsLine_dict (tm hcD (by rw[ajH,ak0,sizeLine_eq];omega))) ?_)
 refine si (h h' _ ?_ hn' λb ob hbx hb=>(hs.2 b (ajK (om hb))).trans ((Heap.get?_update_ne _ _ _ _ hbx).trans (gr _ hb)))
 exact(hs.2 x hxs).trans (akF _ hx₁ rfl)
end
end L2
set_option maxHeartbeats 4000000
namespace L2
open PySem PySem.Spec PyProof.Rows
section
variable{prog:me}{w:World}{A:Around}{E:Value->Shared->Prop}{h:Heap}{g:Array GenState}{d:Drawn}{t:Nat}{os:OsState}
variable{nm q:Str}{C N fI:Addr}{bs bm bmB:List Value}{hdct:Bool}{sn:List Str}{sub:List Value}{ab:Bool}{col:Option Bool}{dd:Option Addr}{k0 k1 k2 k3 k5:Option Value}{B nid iid:String}{K:ba}
theorem Nb (X:K.In h)(F:ExcBaseFacts B nid iid bmB)(T:OwnTail h bmB bm){mN:Str->Option Value}{us:List Value}{Q:Fin->Shared->Prop}
  (kC:h.get? C=some (akc nm q C N bs bm hdct sn sub ab col dd k0 k1 k2 k3 k5 nid)) (kN:h.Ns N mN) (kI:mN "__init__"=some (.ref fI)) (hf:PySem.W.typeIn K (.ref fI)=some (.type "function")) (hz:us.length<=ka)
  (hq:wpAny (model prog w) A (call (.ref fI) (.ref (h.objs.size+1)::us)) (λr s'=>r=.none/\Q (.done (.ret (.ref (h.objs.size+1)))) s') E ⟨ng h C us,g,d,t,os⟩) :
  wpAny (model prog w) A (Builtin.«type.__call__» ⟨.ref C::us,[]⟩) Q E ⟨h,g,d,t,os⟩:=by
 repeat (first | with_reducible refine wpAny_loadPart_at kC ?_ | with_reducible refine wpAny_madeBy_exc kC ?_ | wp_step)
 refine codeAny_call_builtin_code (Code.quiet_builtin _ F.quiet) (wpAny_check_new_subT F T kC (codeAny_exc_new_subT F T kC ?_ hz));show wpAny _ _ _ _ _ _;have kC1:(ng h C us).get? C=_:=fv kC;have kN1:(ng h C us).Ns N mN:=kN.keeps λb o e=>fv e
 have X1:K.In (ng h C us):=X.keeps λb o e=>fv e
 have T1:OwnTail (ng h C us) bmB bm:=T.keeps λb o e=>fv e
 have kE:=AS (h:=h) (C:=C) (us:=us);have self:(ajL C::bm).contains (.ref C)=true:=by simp
 unfold isInstance
 repeat (first | with_reducible refine wpAny_loadPart_at kE ?_ | (with_reducible refine wpAny_isSubtype_exc kC1 ?_;rw[self]) | wp_step)
 show wpAny _ _ (typeLookup (.ref C) _) _ _ _;refine wpAny_typeLookup_tail kC1 kN1 T1 F.mroIs F.init.lookup ?_;rw[kI];refine wpAny_holding (eg ((PySem.W.bind_fn X1 (.ref (h.objs.size+1)) hf).at ?_));refine eg (wt hq (λr s' hr=>?_) λ_ _ z=>z)
 obtain⟨rfl,hQ⟩:=hr
 wp_walk
 exact hQ
theorem Pd (X:K.In h)(F:ExcBaseFacts B nid iid bmB)(T:OwnTail h bmB bm){mN:Str->Option Value}{us:List Value}{Q:Value->Shared->Prop}
  (kC:h.get? C=some (akc nm q C N bs bm hdct sn sub ab col dd k0 k1 k2 k3 k5 nid)) (kN:h.Ns N mN) (kI:mN "__init__"=some (.ref fI)) (hf:PySem.W.typeIn K (.ref fI)=some (.type "function")) (hz:us.length<=ka)
  (hq:wpAny (model prog w) (A.under (.builtin "type.__call__" ⟨.ref C::us,[]⟩)) (call (.ref fI) (.ref (h.objs.size+1)::us)) (λr s'=>r=.none/\Q (.ref (h.objs.size+1)) s') E ⟨ng h C us,g,d,t,os⟩) :
  wpAny (model prog w) A (call (.ref C) us) Q E ⟨h,g,d,t,os⟩:=by
 have l1:=tc_lookup;have l2:=tc_bind (.ref C);have ty:(⟨h,g,d,t,os⟩:Shared).TypeIs (.ref C) "type":=⟨_,kC,rfl⟩;refine wpAny_call (codeAny_of_tree ?_);show wpAny _ _ (callAny (.ref C) _) _ _ _
 repeat (any_goals (first | assumption | with_reducible refine wpAny_loadPart_at kC ?_ | wp_step))
 exact⟨rfl,codeAny_call_builtin_at (Code.quiet_builtin _ (by decide +kernel)) entry_typeCall (wpAny_check_type_call_sub kC (Nb X F T kC kN kI hf hz hq))⟩
end
def CI (C:Addr)(name:Str):Sp:=λvs H Q _=>∃(e:Addr) (v:V),vs=[.ref e,v]/\H e=some (xi e C none)/\(∃z,J3 v z/\z.length<=10000)/\∀d,H d=none->Q .non (upd (upd H d (.xd [(name,v)])) e (xi e C (some d)))
section
variable{X:Cx}{pins:List (Addr×Obj)}{σ:St}{H:Hp}{s:Shared}{C f:Addr}{name x:Str}{fd:kg}{ps:List Str}{k:Nat}{np gf pos:Pos}{e₀:Expr}{ta:TA}
theorem Nc {E:Value->Shared->Prop}{v:V}{u:Value}{Q:Value->Shared->Prop}(xk:EF X.K C f name)(F:aK X.prog X.w X.K X.mg X.base CX0 k f fd ps (CI C name))(hr:Room (k+1) X.A)(hb:Binds X.K fd ps [])(I:Inv X pins σ H s)(r:RelV v u)
  (hv:∃z,J3 v z/\z.length<=10000)
  (h:∀(e d:Addr) (a0:Value) (s':Shared),H d=none->Inv X pins σ (upd H d (.xd [(name,v)])) s'->gB X pins (upd H d (.xd [(name,v)])) e->s'.heap.get? e=some ⟨.ref C,some d,.fields #[a0,.none,.none,.none,.bool false,.none],#[]⟩->Q (.ref e) s') :
  wpAny (model X.prog X.w) X.A (call (.ref C) [u]) Q E s:=by
 obtain⟨nm,qn,N,bs,bm,hdct,sn,sub,ab,col,dd,k0,k1,k2,k3,k5,l,T,hd,hi⟩:=xk.ex;obtain⟨mN,kN,kI⟩:=hi.ns I.kIn;have fre:=I.hok.fresh (kq _);obtain⟨hp,g,dr,tk,os⟩:=s;have ne:H (hp.objs.size+1)=none:=I.hok.fresh (akq _);have I2:Inv X pins σ (upd H (hp.objs.size+1) (xi (hp.objs.size+1) C none)) ⟨ng hp C [u],g,dr,tk,os⟩ :=
  I.laid (h':=ng hp C [u]) (t':=tk) (λb o q=>fv q) (akq _) (Pa AS)
 have r2:Vals [V.ref (hp.objs.size+1),v] [ajL (hp.objs.size+1),u]:=.cons rfl (.cons r .nil);have hsp:CI C name [V.ref (hp.objs.size+1),v] (upd H (hp.objs.size+1) (xi (hp.objs.size+1) C none))
   (λv' H'=>v'=.non/\∃d,H d=none/\d≠hp.objs.size+1/\H'=upd (upd (upd H (hp.objs.size+1) (xi (hp.objs.size+1) C none)) d (.xd [(name,v)])) (hp.objs.size+1) (xi (hp.objs.size+1) C (some d))) E0:=by
  refine⟨_,v,rfl,ae,hv,λd hd=>⟨rfl,d,?_,?_,rfl⟩⟩
  ·by_cases z:d=hp.objs.size+1
   ·rw[z,ae]at hd;cases hd
   ·rwa [av z]at hd
  ·intro z;rw[z,ae]at hd;cases hd
 have hl:[ajL (hp.objs.size+1),u].length=ps.length:=by rw[<-r2.length];exact F.len _ _ _ _ hsp
 refine Pd I.kIn (F:=PySem.F.excBase_ValueError) (T.tail I.kIn) (I.kIn _ _ l) kN kI (beq_iff_eq.mp xk.fn) (show 1<=ka by decide) (wpAny_call (codeAny_mono (F.run _ X.stack _ _ ⟨[ajL (hp.objs.size+1),u],[]⟩ _ _ _ E0 (hr.make C [u] [])
  (I2.RH.make C [u] []) (hb _ [ajL (hp.objs.size+1),u] I2.kIn (by rw[akR];exact hl)) (by rw[akR];exact r2) hsp) λrr s' hq=>?_))
 cases rr with
 |error e=>exact hq.elim
 |ok fl =>
  cases fl with
  |ret u' =>
   obtain⟨v',H',os',bare,un,hok,rv,rfl,d,hd1,hd2,rfl⟩:=hq;cases rv;refine⟨rfl,?_⟩;have HeE:∀ {o:HO},upd (upd (upd H (hp.objs.size+1) (xi (hp.objs.size+1) C none)) d (.xd [(name,v)])) (hp.objs.size+1) o (hp.objs.size+1)=some o:=ae;have Hne:∀b,b≠hp.objs.size+1->upd (upd (upd H (hp.objs.size+1) (xi (hp.objs.size+1) C none)) d (.xd [(name,v)])) (hp.objs.size+1) (xi (hp.objs.size+1) C (some d)) b=upd H d (.xd [(name,v)]) b:=λb hb=>by
    rw[av hb]
    by_cases z:b=d
    ·rw[z,ae,ae]
    ·rw[av z,av z,av hb]
   have He2:upd H d (.xd [(name,v)]) (hp.objs.size+1)=none:=by rw[av (ajZ hd2)];exact ne
   have U1:Un (frs X.stack) [] H (upd H (hp.objs.size+1) (xi (hp.objs.size+1) C none)) hp (ng hp C [u]):=Un.laid (λb o q=>fv q) (akq _) ne
   have U2:=U1.trans un;have lt:∀b o,hp.get? b=some o->b≠hp.objs.size+1:=λb o q=>ajK (Nat.lt_succ_of_lt (om q))
   have U3:Un (frs X.stack) [] H (upd H d (.xd [(name,v)])) hp s'.heap:=by
    refine⟨U2.keep,U2.slot,λb o q n hx=>?_,U2.there,λb xs q=>?_,λb o u q=>?_,λb p q=>?_⟩
    ·have z:=U2.free b o q n hx
     rwa [Hne b (lt b o q)]at z
    ·have z:=U2.xm b xs q
     rwa [Hne b (λe=>by rw[e,ne]at q;cases q)]at z
    ·have z:=U2.vo b o u q
     rwa [Hne b (λe=>by rw[e,ne]at q;cases q)]at z
    ·obtain⟨m,z⟩:=U2.xn b p q;rw[Hne b (λe=>by rw[e,ne]at q;cases q)]at z
     exact⟨m,z⟩
   have K3:HOk X.prog X.w (upd H d (.xd [(name,v)])) s'.heap:=λa o q=>by
    have ha:a≠hp.objs.size+1:=λe=>by rw[e,He2]at q;cases q
    refine(hok a o (by rw[Hne a ha];exact q)).FO (λb u _ z=>z) (λb z=>?_) (λb xs z=>?_)
    ·rwa [Hne b (λe=>by rw[e,HeE]at z;cases z)]at z
    ·rwa [Hne b (λe=>by rw[e,HeE]at z;cases z)]at z
   obtain⟨a0,ea⟩:=Pb (P:=X.prog) (w:=X.w) (hok _ _ HeE);have I3:Inv X pins σ (upd H d (.xd [(name,v)])) s':=I.LY (ch:=[]) os' U3 K3 bare λb z=>absurd z (by simp)
   exact h _ d (.ref a0) s' hd1 I3 (I.AI (akq _) He2) ea
  |next=>exact ajY hq
  |brk=>exact ajY hq
  |cont=>exact ajY hq
theorem qo (xk:EF X.K C f name)(F:aK X.prog X.w X.K X.mg X.base CX0 k f fd ps (CI C name))(hr:Room (k+1) X.A)(hb:Binds X.K fd ps [])(hc:X.calm=true)(hg:Gl X x)(hm:X.mg x=some (.ref C))(ha:PA X.nox [e₀] ta)
  (hdb:(x == ("__debug__":Str))=false:=by decide) (he:Lk [e₀] X.env=[(false,eval e₀ X.env)]:=by rfl) :
  PSX X (.Raise (some (.Call (.Name x np) [e₀] [] gf)) none pos) (λ_ E σ H=>ta σ H λvs H1=>∃v,vs=[v]/\(∃z,J3 v z/\z.length<=10000)/\∀d,H1 d=none->E σ (.ref C) (some d) (upd H1 d (.xd [(name,v)]))):=by
 intro pins s σ H D E I h;obtain⟨nm,q,N,bs,bm,hdct,sn,sub,ab,col,dd,k0,k1,k2,k3,k5,l,T,hd,hi⟩:=xk.ex;have go:wpAny (model X.prog X.w) X.A (eval (.Call (.Name x np) [e₀] [] gf) X.env) (λv s₁=>∃(e:Addr) (xd:Option Addr) (a0:Value) (sl:Array (Option Value)),v=.ref e/\s₁.heap.get? C=some (akc nm q C N bs bm hdct sn sub ab col dd k0 k1 k2 k3 k5 "ValueError.__new__") /\
   s₁.heap.get? e=some ⟨.ref C,xd,.fields #[a0,.none,.none,.none,.bool false,.none],sl⟩/\XPS X pins E (.ref e) s₁) (XPS X pins E) s:=by
  refine wpAny_Call_Name_kw (jW I hg hm ?_ hdb);unfold callWith;rw[he];refine eg (wpAny_holding (Calls.evalArgs_plain ?_));have ha':=ha gf pins s σ H _ (I.nM _) h;rw[show X.nox.env=X.env from rfl,he]at ha'
  refine wt ha' (λus s₁ ⟨vs,H1,I1,r,v,hvs,hv,q1⟩=>eg (ako ?_)) λ_ _ z=>ajY z
  subst hvs;obtain⟨u,rfl,rv⟩:=Vals.one r;have I1':=I1.d5;have kC:=I1'.kIn _ _ l;have pl:(backTo gf [(false,eval e₀ X.env)]).any (·.1)=false:=rfl
  have fin:wpAny (model X.prog X.w) X.A (call (.ref C) ([]++[u])) (λr s'=>∃(e:Addr) (xd:Option Addr) (a0:Value) (sl:Array (Option Value)),r=.ref e/\s'.heap.get? C=some (akc nm q C N bs bm hdct sn sub ab col dd k0 k1 k2 k3 k5 "ValueError.__new__") /\
   s'.heap.get? e=some ⟨.ref C,xd,.fields #[a0,.none,.none,.none,.bool false,.none],sl⟩/\XPS X pins E (.ref e) s') (XPS X pins E) s₁:=by
   refine Nc xk F hr hb I1' rv hv λe d a0 s' hd1 I2 fp ke=>?_
   exact⟨e,some d,a0,#[],rfl,I2.kIn _ _ l,ke,σ,e,.ref C,some d,none,_,rfl,I2,⟨fp,_,_,ke,(by show 1 < 6;decide),rfl⟩,.inl rfl,q1 d hd1⟩
  obtain⟨hp,g',d',tk,os'⟩:=s₁;simp only[pl];refine eg (wpAny_keeperOf_exc kC ?_);exact eg (wt fin (λv s2 z=>eg (wpAny_holding (wpAny_point (si z)))) λ_ _ z=>z)
 rw[arm_exec_Raise];have hbx:bm.contains (.type "BaseException")=true:=(T.tail I.kIn).hasType (b:=true) (by decide +kernel)
 first
  |exact eg (ako (tX (C:=C) (nm:=nm) (q:=q) (N:=N) (bs:=bs) (bm:=bm) (hdct:=hdct) (sn:=sn) (sub:=sub) (ab:=ab) (col:=col) (dd:=dd) (k0:=k0) (k1:=k1) (k2:=k2) (k3:=k3) (k5:=k5) hbx (I.ok.hd hc) (eg (wt go (λv s₃ h₃=>eg (ako (si h₃))) λ_ _ z=>z))))
  | (simp only[evalOpt,Option.map];exact eg (ako (tX (C:=C) (nm:=nm) (q:=q) (N:=N) (bs:=bs) (bm:=bm) (hdct:=hdct) (sn:=sn) (sub:=sub) (ab:=ab) (col:=col) (dd:=dd) (k0:=k0) (k1:=k1) (k2:=k2) (k3:=k3) (k5:=k5) hbx (I.ok.hd hc) (eg (wt go (λv s₃ h₃=>eg (ako (si h₃))) λ_ _ z=>z)))))
end
end L2
set_option maxHeartbeats 4000000
namespace L2
open PySem PySem.Spec PyProof.Rows
section
variable{X:Cx}{pins:List (Addr×Obj)}{σ:St}{H:Hp}{s:Shared}{C D f:Addr}{name x:Str}{np apos gf pos pos':Pos}{o e value:Expr}{ta tv:TE}{t:TA}
theorem AU {pl:Sem Bool}(ik:T2 X.K D)(xk:EF X.K C f name)(hg:Gl X x)(hm:X.mg x=some (.ref D))(ha:PA X [o,e] t)(hdb:(x == ("__debug__":Str))=false:=by decide)
  (hst:Lk [o,e] X.env=(false,eval o X.env)::Lk [e] X.env:=by rfl) (hpl:(backTo pos (Lk [e] X.env)).any (·.1)=false:=by rfl)
  (ht:eval (.Call (.Attribute (.Name x np) "__init__" apos) [o,e] [] pos) X.env=(do
   let ov <-eval (.Name x np) X.env
   standAt apos.atName
   let (f,first) <-holding [ov] (getMethod ov "__init__" pl)
   callWith pos f first (backTo pos (Lk [o,e] X.env)) (backToKw pos (keywordEach [] X.env))):=by rfl) :
  PE X (.Call (.Attribute (.Name x np) "__init__" apos) [o,e] [] pos) (λσ H Q=>t σ H λvs H1=>∃ea v,vs=[.ref ea,v]/\H1 ea=some (xi ea C none)/\Q .non H1):=by
 intro pins s σ H Q I h;refine akr (pl:=pl) (jW I hg hm ?_ hdb) ht;refine PySem.W.method_cls I.kIn ik.sp (PySem.W.cls_value I.kIn ik.rd ik.fc (by decide +kernel) ?_)
 show wpAny _ _ (callWith pos (.builtin "ValueError.__init__") [] (backTo pos (Lk [o,e] X.env)) []) _ _ _;exact PyProof.Rows.callWith_builtin1 (thn (ha pos pins _ σ H _ (I.tok _) h) λus s1 ⟨vs,H1,I1,r1,ea,v,hv,hx,q⟩=>J4 (xk:=xk) pins s1 σ H1 vs us Q I1 r1 ⟨ea,v,hv,hx,q⟩) hst hpl
theorem EG (xk:EF X.K C f name)(ha:PE X o ta)(hv:PE X value tv)(hs:swapsWith value (some (.Attribute o name pos')) pos.line X.env=pure false:=by rfl):PS X (.Assign [.Attribute o name pos'] value pos)
  (λD σ H=>tv σ H λy H1=>ta σ H1 λx H2=>∃ea,x=.ref ea/\H2 ea=some (xi ea C none)/\∀d,H2 d=none->D.nx σ (upd (upd H2 d (.xd [(name,y)])) ea (xi ea C (some d)))):=by
 intro pins s σ H D I h;refine plainObj_wpAny_Assign_Attribute (thn (hv pins s σ H _ I h) λu s1 ⟨y,H1,I1,ry,q⟩=>thn (ha pins s1 σ H1 _ I1 q) λov s2 ⟨x,H2,I2,rx,ea,ex,hx,q2⟩=>?_) hs
 subst ex;obtain rfl:ov=ajL ea:=rx;obtain⟨a0,e0⟩:=Pb (P:=X.prog) (w:=X.w) (I2.hok _ _ hx);have fr:H2 s2.heap.objs.size=none:=I2.hok.fresh (kq _);refine Pc I2.kIn xk e0 λh' tk hx' ns kk=>⟨σ,_,?_,q2 _ fr⟩
 have hde:ea≠s2.heap.objs.size:=aI hx fr;have old:∀b,b≠ea->b≠s2.heap.objs.size->upd (upd H2 s2.heap.objs.size (.xd [(name,y)])) ea (xi ea C (some s2.heap.objs.size)) b=H2 b:=λb h1 h2=>by rw[av h1,av h2]
 have lt:∀b ob,s2.heap.get? b=some ob->b≠s2.heap.objs.size:=λb ob q=>ajK (om q)
 have nx:∀b,H2 b=none->b≠ea:=λb n z=>by rw[z,hx]at n;cases n
 have ns':∀b {o:HO},H2 b=some o->b≠s2.heap.objs.size:=λb _ n z=>by rw[z,fr]at n;cases n
 refine I2.un (t':=tk) ⟨λb ob q n _ _=>kk b ob (nx b n) q,λb ob q n _ _=>⟨ob.slots,kk b ob (nx b n) q⟩,λb ob q n _=>by rw[old b (nx b n) (lt b ob q)];exact n,λb ob q _=>?_,λb xs q=>?_,λb ob u q=>?_,λb ps q=>?_⟩ λa ob q=>?_
 ·by_cases z:b=ea
  ·exact⟨_,by rw[z];exact hx'⟩
  ·exact⟨ob,kk b ob z q⟩
 ·rw[old b (λz=>by rw[z,hx]at q;cases q) (ns' b q)];exact q
 ·rw[old b (λz=>by rw[z,hx]at q;cases q) (ns' b q)];exact q
 ·exact⟨#[],by rw[old b (λz=>by rw[z,hx]at q;cases q) (ns' b q),q];simp⟩
 ·by_cases z:a=ea
  ·subst z;rw[ae]at q;cases q;exact Pa hx'
  ·rw[av z]at q
   by_cases z2:a=s2.heap.objs.size
   ·rw[z2,ae]at q;cases q;refine⟨_,by rw[z2];exact ns,λg=>?_⟩
    rw[List.lookup_cons]
    by_cases hg:g=name
    ·rw[if_pos hg,show (g == name)=true from beq_iff_eq.mpr hg];exact ry
    ·rw[if_neg hg,show (g == name)=false from beq_eq_false_iff_ne.mpr hg];exact akO
   ·rw[av z2]at q;refine(I2.hok a ob q).FO (λb u hb r=>kk b u ?_ r) (λb r=>?_) (λb xs r=>?_)
    ·rintro rfl;rcases hb with hb | hb
     ·exact z hb.symm
     ·rw[hx]at hb;cases hb
    ·rw[old b (λz=>by rw[z,hx]at r;cases r) (ns' b r)];exact r
    ·rw[old b (λz=>by rw[z,hx]at r;cases r) (ns' b r)];exact r
structure ajE (K:ba)(C:Addr)(name:Str):Prop where
 ga:GaX K C
 na:cb K (.ref C) name=some none
 hd:aj7 K C=true
end
end L2
set_option maxHeartbeats 4000000
namespace L2
open PySem PySem.Spec PyProof.Rows
section
variable{κ:Type}[DecidableEq κ]
def gD (kvs:List (κ×V))(k:κ):Option V:=(kvs.find? λkv=>decide (kv.1=k)).map (·.2)
def putK (kvs:List (κ×V))(k:κ)(v:V):List (κ×V) :=
 if (kvs.any λkv=>decide (kv.1=k))=true then kvs.map (λkv=>if kv.1=k then (kv.1,v) else kv) else kvs++[(k,v)]
def iC (kvs:List (κ×V))(k:κ):List (κ×V):=kvs.filter λkv=>decide (kv.1≠k)
theorem et {p:κ×V}{r:List (κ×V)}{k:κ}(e:p.1=k):gD (p::r) k=some p.2:=by simp[gD,aka,e]
theorem bQ {p:κ×V}{r:List (κ×V)}{k:κ}(e:¬p.1=k):gD (p::r) k=gD r k:=by simp[gD,aka,e]
theorem rX (k:κ):∀kvs:List (κ×V),(kvs.any λkv=>decide (kv.1=k))=(gD kvs k).isSome
 |[]=>rfl
 |p::r=>by
  rw[List.any_cons]
  by_cases e:p.1=k
  ·simp only[et e,decide_eq_true e,Bool.true_or,Option.isSome_some]
  ·rw[bQ e,decide_eq_false e,Bool.false_or];exact rX k r
theorem rY (kvs:List (κ×V))(k:κ)(v:V):(putK kvs k v).length<=kvs.length+1:=by
 unfold putK;split
 ·rw[bo];omega
 ·rw[kx,ajH,ak0];omega
theorem Pe {kvs:List (κ×V)}{k:κ}(v:V)(h:gD kvs k=none):putK kvs k v=kvs++[(k,v)]:=by
 unfold putK;rw[rX,h];exact if_neg (by decide)
theorem qi.tY {o:Option V}{u:Option Value}(r:qi o u):o.isSome=u.isSome:=by
 cases o with
 |none=>cases u with
  |none=>rfl
  |some _=>exact(show False from r).elim
 |some _=>cases u with
  |none=>exact(show False from r).elim
  |some _=>rfl
theorem qi.getD {o:Option V}{u:Option Value}{d:V}{d':Value}(r:qi o u)(rd:RelV d d'):RelV (o.getD d) (u.getD d'):=by
 cases o with
 |none=>cases u with
  |none=>exact rd
  |some _=>exact(show False from r).elim
 |some _=>cases u with
  |none=>exact(show False from r).elim
  |some _=>exact r
theorem KV.val {kvs:List (κ×V)}{vs:List (κ×Value)}(r:KV kvs vs)(k:κ):qi (gD kvs k) (valueAt vs k):=by
 unfold KV at r
 induction r with
 |nil=>exact akO
 | @cons p q ps qs h t ih =>
  obtain⟨h1,h2⟩:=h
  by_cases e:p.1=k
  ·have e':q.1=k:=h1.symm.trans e;have b:valueAt (q::qs) k=some q.2:=by simp[valueAt,aka,e']
   rw[et e,b];exact h2
  ·have e':¬q.1=k:=λz=>e (h1.trans z)
   have b:valueAt (q::qs) k=valueAt qs k:=by simp[valueAt,aka,e']
   rw[bQ e,b];exact ih
theorem KV.any {kvs:List (κ×V)}{vs:List (κ×Value)}(r:KV kvs vs)(k:κ):(kvs.any λkv=>decide (kv.1=k))=vs.any λkv=>decide (kv.1=k):=by
 unfold KV at r
 induction r with
 |nil=>rfl
 |cons h t ih=>rw[List.any_cons,List.any_cons,ih,h.1]
theorem KV.VZ {kvs:List (κ×V)}{vs:List (κ×Value)}(r:KV kvs vs)(k:κ){y:V}{u:Value}(ry:RelV y u) :
  KV (kvs.map λkv=>if kv.1=k then (kv.1,y) else kv) (vs.map λkv=>if kv.1=k then (kv.1,u) else kv):=by
 unfold KV at r ⊢
 induction r with
 |nil=>exact .nil
 | @cons p q ps qs h t ih =>
  rw[kj,kj];refine .cons ?_ ih;obtain⟨h1,h2⟩:=h
  by_cases e:p.1=k
  ·rw[if_pos e,if_pos (h1.symm.trans e)];exact⟨h1,ry⟩
  ·rw[if_neg e,if_neg (λz=>e (h1.trans z))];exact⟨h1,h2⟩
theorem KV.put {kvs:List (κ×V)}{vs:List (κ×Value)}(r:KV kvs vs)(k:κ){y:V}{u:Value}(ry:RelV y u):KV (putK kvs k y) (stored vs k u):=by
 unfold putK stored;rw[r.any k]
 by_cases e:(vs.any λkv=>decide (kv.1=k))=true
 ·rw[if_pos e,if_pos e];exact r.VZ k ry
 ·rw[if_neg e,if_neg e];exact Paired.snoc r ⟨rfl,ry⟩
theorem KV.drop {kvs:List (κ×V)}{vs:List (κ×Value)}(r:KV kvs vs)(k:κ):KV (iC kvs k) (without vs k):=by
 unfold KV at r ⊢;unfold iC without
 induction r with
 |nil=>exact .nil
 | @cons p q ps qs h t ih =>
  obtain⟨h1,h2⟩:=h;rw[List.filter_cons,List.filter_cons]
  by_cases e:p.1=k
  ·have a:¬decide (p.1≠k)=true:=by simp[e]
   have b:¬decide (q.1≠k)=true:=by simp[h1.symm.trans e]
   rw[if_neg a,if_neg b];exact ih
  ·have e':¬q.1=k:=λz=>e (h1.trans z)
   have a:decide (p.1≠k)=true:=by simp[e]
   have b:decide (q.1≠k)=true:=by simp[e']
   rw[if_pos a,if_pos b];exact .cons ⟨h1,h2⟩ ih
theorem KV.keys {kvs:List (κ×V)}{vs:List (κ×Value)}(r:KV kvs vs):kvs.map (·.1)=vs.map (·.1):=by
 unfold KV at r
 induction r with
 |nil=>rfl
 |cons h t ih=>rw[kj,kj,ih,h.1]
theorem KV.length {kvs:List (κ×V)}{vs:List (κ×Value)}(r:KV kvs vs):kvs.length=vs.length:=Paired.length r
theorem F9 (kvs:List (κ×V))(k:κ):(iC kvs k).length<=kvs.length:=List.length_filter_le _ _
end
theorem AV {P:me}{w:World}{k:Key}{u:Value}(r:RelV (kV k) u):(cO P w).is k u=true:=by
 cases k with
 |inl i=>obtain⟨t,e⟩:=(show ∃t,u=Value.int i t from r);subst e;exact FL P w i t
 |inr x=>obtain⟨t,e⟩:=(show ∃t,u=Value.str x t from r);subst e;exact FN P w x t
theorem Dn {P:me}{w:World}:∀ {ks:List Key} {us:List Value},Vals (ks.map kV) us->ItemsAre (cO P w) ks us
 |[],_,r=>by rw[aki]at r;cases r;exact .nil
 |k::ks,_,r=>by
  rw[kj]at r;cases r with
  |cons h t=>exact .cons (AV h) (Dn t)
abbrev KT (H:Hp):List (List Key×V)->List (List Key×Addr×Value)->Prop:=Paired λp q=>p.1=q.1/\H q.2.1=some (.tup (p.1.map kV))/\RelV p.2 q.2.2
theorem KT.val {H:Hp}{kvs:List (List Key×V)}{xs:List (List Key×Addr×Value)}(r:KT H kvs xs)(k:List Key):qi (gD kvs k) ((atKey xs k).map (·.2)):=by
 induction r with
 |nil=>exact akO
 | @cons p q ps qs h t ih =>
  obtain⟨h1,_,h2⟩:=h
  by_cases e:p.1=k
  ·have e':q.1=k:=h1.symm.trans e;have b:atKey (q::qs) k=some q.2:=by simp[atKey,aka,e']
   rw[et e,b];exact h2
  ·have e':¬q.1=k:=λz=>e (h1.trans z)
   have b:atKey (q::qs) k=atKey qs k:=by simp[atKey,aka,e']
   rw[bQ e,b];exact ih
theorem KT.VZ {H:Hp}{kvs:List (List Key×V)}{xs:List (List Key×Addr×Value)}(r:KT H kvs xs)(k:List Key){y:V}{u:Value}(ry:RelV y u) :
  KT H (kvs.map λkv=>if kv.1=k then (kv.1,y) else kv) (xs.map (putAt k u)):=by
 induction r with
 |nil=>exact .nil
 | @cons p q ps qs h t ih =>
  rw[kj,kj];refine .cons ?_ ih;obtain⟨h1,h2,h3⟩:=h;unfold putAt
  by_cases e:p.1=k
  ·rw[if_pos e,if_pos (h1.symm.trans e)];exact⟨h1,h2,ry⟩
  ·rw[if_neg e,if_neg (λz=>e (h1.trans z))];exact⟨h1,h2,h3⟩
theorem KT.put {H:Hp}{kvs:List (List Key×V)}{xs:List (List Key×Addr×Value)}(r:KT H kvs xs)(k:List Key){b:Addr}{y:V}{u:Value}(hb:H b=some (.tup (k.map kV)))(ry:RelV y u) :
  KT H (putK kvs k y) (storedH xs k b u):=by
 have e:(kvs.any λkv=>decide (kv.1=k))=(atKey xs k).isSome:=by
  rw[rX,(r.val k).tY,Option.isSome_map]
 unfold putK storedH;rw[e]
 by_cases q:(atKey xs k).isSome=true
 ·rw[if_pos q,if_pos q];exact r.VZ k ry
 ·rw[if_neg q,if_neg q];exact Paired.snoc r ⟨rfl,hb,ry⟩
theorem KT.keeps {H H':Hp}{kvs:List (List Key×V)}{xs:List (List Key×Addr×Value)}(r:KT H kvs xs)(ht:∀b ys,H b=some (.tup ys)->H' b=some (.tup ys)):KT H' kvs xs :=
 Paired.Vo r λ_ _ z=>⟨z.1,ht _ _ z.2.1,z.2.2⟩
section
variable{P:me}{w:World}{H:Hp}{h:Heap}{a:Addr}
theorem T3 {u:HO}(ok:HOk P w H h)(e:Rd H a u):fU P w H h a u:=e.ok ok
theorem Dp {kvs:List (Key×V)}(ok:HOk P w H h)(e:Rd H a (.dK kvs)):kvs.length<=ka/\(a == akN)=false/\∃vs,KV kvs vs/\h.DictOf (cO P w) a vs :=
 show fU P w H h a (.dK kvs) from T3 ok e
theorem AW {kvs:List (Key×V)}(ok:HOk P w H h)(e:H a=some (.dK kvs)):kvs.length<=ka/\(a == akN)=false/\∃vs,KV kvs vs/\h.DictOf (cO P w) a vs:=Dp ok (.inl e)
theorem EH {ks:List Key}(ok:HOk P w H h)(e:H a=some (.tup (ks.map kV))):(tupleKind (cO P w)).is h ks a:=by
 obtain⟨_,its,r,o,h1,h2,n,h3⟩:=(show fU P w H h a (.tup (ks.map kV)) from ok a _ e)
 exact⟨o,its.toArray,n,h1,h2,h3,by simpa using Dn r⟩
theorem Ga {kvs:List (List Key×V)}(ok:HOk P w H h)(e:Rd H a (.dT kvs)):kvs.length<=ka/\(a == akN)=false /\
  ∃xs,KT H kvs xs/\h.DictOfH (tupleKind (cO P w)) a xs:=by
 obtain⟨z,y,xs,r,o,es,ep,h1,h2,h3,h4,h5⟩:=(show fU P w H h a (.dT kvs) from T3 ok e)
 refine⟨z,y,xs,r,o,es,ep,h1,h2,h3,h4,λx hx=>?_,h5⟩
 have all:∀ {l:List (List Key×V)} {m:List (List Key×Addr×Value)},KT H l m->∀x∈m,(tupleKind (cO P w)).is h x.1 x.2.1:=by
  intro l m q
  induction q with
  |nil=>intro x hx;exact nomatch hx
  | @cons p q ps qs hq t ih =>
   intro x hx;rcases List.mem_cons.mp hx with e | hx
   ·subst e;exact EH ok (by rw[<-hq.1];exact hq.2.1)
   ·exact ih x hx
 exact all r x hx
theorem aae {kvs:List (List Key×V)}(ok:HOk P w H h)(e:H a=some (.dT kvs)):kvs.length<=ka/\(a == akN)=false /\
  ∃xs,KT H kvs xs/\h.DictOfH (tupleKind (cO P w)) a xs:=Ga ok (.inl e)
end
def uG (H:Hp)(a:Addr)(y:V)(r:Option V):Prop :=
 (∃kvs k,Rd H a (.dK kvs)/\y=kV k/\r=gD kvs k)\/∃kvs k b,Rd H a (.dT kvs)/\y=.ref b/\H b=some (.tup (k.map kV))/\r=gD kvs k
def oI (H:Hp)(a:Addr)(y v:V)(H':Hp):Prop :=
 (∃kvs k,H a=some (.dK kvs)/\y=kV k/\kvs.length < ka/\H'=upd H a (.dK (putK kvs k v))) \/
 ∃kvs k b,H a=some (.dT kvs)/\y=.ref b/\H b=some (.tup (k.map kV))/\kvs.length < ka/\H'=upd H a (.dT (putK kvs k v))
theorem uG.k {H:Hp}{a:Addr}{kvs:List (Key×V)}{k:Key}(e:H a=some (.dK kvs)):uG H a (kV k) (gD kvs k):=.inl ⟨kvs,k,.inl e,rfl,rfl⟩
theorem uG.t {H:Hp}{a b:Addr}{kvs:List (List Key×V)}{k:List Key}(e:H a=some (.dT kvs))(eb:H b=some (.tup (k.map kV))):uG H a (.ref b) (gD kvs k):=.inr ⟨kvs,k,b,.inl e,rfl,eb,rfl⟩
theorem oI.k {H:Hp}{a:Addr}{kvs:List (Key×V)}{k:Key}{v:V}(e:H a=some (.dK kvs))(hl:kvs.length < ka):oI H a (kV k) v (upd H a (.dK (putK kvs k v))):=.inl ⟨kvs,k,e,rfl,hl,rfl⟩
theorem oI.t {H:Hp}{a b:Addr}{kvs:List (List Key×V)}{k:List Key}{v:V}(e:H a=some (.dT kvs))(eb:H b=some (.tup (k.map kV)))(hl:kvs.length < ka) :
  oI H a (.ref b) v (upd H a (.dT (putK kvs k v))):=.inr ⟨kvs,k,b,e,rfl,eb,hl,rfl⟩
section
variable{X:Cx}{pins:List (Addr×Obj)}{σ:St}{H:Hp}{s:Shared}{a:Addr}{y v:V}{u r:Value}{o:Option V}{A:Around}{E:Value->Shared->Prop}
theorem Inv.big (I:Inv X pins σ H s):akN < s.heap.objs.size:=by
 have h:gn < s.heap.objs.size:=(I.mod.glob.keeps I.bk).lt;exact Nat.lt_trans (by decide) h
theorem Nd {Q:Value->Shared->Prop}(hu:A.units+1 < cLine)(I:Inv X pins σ H s)(g:uG H a y (some v))(ry:RelV y u)(h:∀w' s',Inv X pins σ H s'->RelV v w'->Q w' s') :
  wpAny (model X.prog X.w) A (getItem (.ref a) u) Q E s:=by
 rcases g with ⟨kvs,k,e,ey,l⟩ | ⟨kvs,k,b,e,ey,eb,l⟩
 ·subst ey;obtain⟨z,hd,vs,rel,dd⟩:=Dp I.hok e;obtain⟨w',hw,rw'⟩:=qi.some_of (v:=v) (o:=valueAt vs k) (by rw[l];exact rel.val k)
  exact wpAny_getItem_of (AV ry) dd.mapOf hw (h w' _ (I.tok _) rw')
 ·subst ey;cases (show u=ajL b from ry)
  obtain⟨z,hd,xs,rel,dd⟩:=Ga I.hok e;obtain⟨w',hw,rw'⟩:=qi.some_of (v:=v) (o:=(atKey xs k).map (·.2)) (by rw[l];exact rel.val k)
  obtain⟨p,hp,hp2⟩:=Option.map_eq_some_iff.mp hw;refine wpAny_getItem_heap (tupleKind_room_in1 hu) (EH I.hok eb) dd hp ?_;rw[hp2];exact h w' _ (I.tok _) rw'
theorem R1 {Q:Value->Shared->Prop}(hu:A.units+1 < cLine)(I:Inv X pins σ H s)(g:uG H a y o)(ry:RelV y u)(h:∀s',Inv X pins σ H s'->Q (.bool (!o.isSome)) s') :
  wpAny (model X.prog X.w) A (akv .NotIn u (.ref a)) Q E s:=by
 rcases g with ⟨kvs,k,e,ey,l⟩ | ⟨kvs,k,b,e,ey,eb,l⟩
 ·subst ey;obtain⟨z,hd,vs,rel,dd⟩:=Dp I.hok e;refine wpAny_notIn_of (AV ry) hd dd.mapOf ?_;rw[<-(rel.val k).tY,<-l];exact h _ (I.tok _)
 ·subst ey;cases (show u=ajL b from ry)
  obtain⟨z,hd,xs,rel,dd⟩:=Ga I.hok e;refine wpAny_notIn_heap (tupleKind_room_in1 hu) (EH I.hok eb) hd dd ?_;have q:=(rel.val k).tY;rw[Option.isSome_map]at q;rw[<-q,<-l];exact h _ (I.tok _)
theorem vM {h':Heap}{t':Nat}{ob:HO}(I:Inv X pins σ H s)(mu:Mut (H a))(hs:Heap.SameBut a s.heap h')(he:∃q,h'.get? a=some q)(new:fU X.prog X.w (upd H a ob) h' a ob) :
  Inv X pins σ (upd H a ob) { s with heap:=h',toks:=t' } :=
 I.write (x:=a) (e:=a) mu (.inl rfl) (λb q hb z=>(hs.2 b hb).trans z) he new
theorem EI {P:me}{w:World}{H':Hp}{h':Heap}{kvs:List (Key×V)}{vs:List (Key×Value)}(z:kvs.length<=ka)(hd:(a == akN)=false)(rel:KV kvs vs)(dd:h'.DictOf (cO P w) a vs) :
  fU P w H' h' a (.dK kvs):=⟨z,hd,vs,rel,dd⟩
theorem Nf {H':Hp}{Q:Unit->Shared->Prop}(hu:A.units+1 < cLine)(I:Inv X pins σ H s)(g:oI H a y v H')(ry:RelV y u)(rv:RelV v r)(h:∀s',Inv X pins σ H' s'->Q () s') :
  wpAny (model X.prog X.w) A (setItem (.ref a) u r) Q E s:=by
 rcases g with ⟨kvs,k,e,ey,l,eH⟩ | ⟨kvs,k,b,e,ey,eb,l,eH⟩
 ·subst ey eH;obtain⟨z,hd,vs,rel,dd⟩:=AW I.hok e;have hz:vs.length<=ka:=by rw[<-rel.length];exact z
  have hl:(putK kvs k v).length<=ka:=by have:=rY kvs k v;omega
  refine wpAny_setItem_pairs (hsz:=hz) (AV ry) dd λh' dd' hs=>h _ ?_
  have he:∃q,h'.get? a=some q:=let ⟨q,_,_,hq,_⟩:=dd';⟨q,hq⟩
  exact vM I (by rw[e];exact akO) hs he (EI hl hd (rel.put k rv) dd')
 ·subst ey eH;cases (show u=ajL b from ry)
  obtain⟨z,hd,xs,rel,dd⟩:=aae I.hok e;have hz:xs.length<=ka:=by rw[<-Paired.length rel];exact z
  have hl:(putK kvs k v).length<=ka:=by have:=rY kvs k v;omega
  refine wpAny_setItem_heap (hsz:=hz) (tupleKind_room_in1 hu) (EH I.hok eb) dd λh' dd' hs=>h _ ?_
  obtain⟨q,es,ep,hq,h2,h3,h4,_,h5⟩:=dd';refine vM I (by rw[e];exact akO) hs ⟨q,hq⟩ ⟨hl,hd,_,(rel.put k eb rv).keeps λc ys ec=>?_,q,es,ep,hq,h2,h3,h4,h5⟩
  rw[av (ZA ec e (λz=>nomatch z))]
  exact ec
end
section
variable{X:Cx}{pins:List (Addr×Obj)}{σ:St}{H:Hp}{s:Shared}{a:Addr}{kvs:List (Key×V)}{k:Key}{u:Value}{A:Around}{E:Value->Shared->Prop}
theorem Zz {Q:Unit->Shared->Prop}(I:Inv X pins σ H s)(e:H a=some (.dK kvs))(ry:RelV (kV k) u)(l:(gD kvs k).isSome=true)(h:∀s',Inv X pins σ (upd H a (.dK (iC kvs k))) s'->Q () s') :
  wpAny (model X.prog X.w) A (delItem (.ref a) u) Q E s:=by
 obtain⟨z,hd,vs,rel,dd⟩:=AW I.hok e;refine wpAny_delItem_slot dd.typeIs (by decide) PySem.F.slot_dict_delitem
  (call_meetsIn PySem.F.slot_dict_delitem dd.typeIs PySem.F.entry_dict_delitem (PySem.F.args_dict_delitem_2 _ _) (meets_dict_delitem_pairs (cO X.prog X.w) a (AV ry)) ⟨vs,dd,by rw[<-rel.length];exact z,by rw[<-(rel.val k).tY];exact l,λh' dd' hs=>h _ ?_⟩)
 have he:∃q,h'.get? a=some q:=let ⟨q,_,_,hq,_⟩:=dd';⟨q,hq⟩
 exact vM I (by rw[e];exact akO) hs he (EI (tm (F9 kvs k) z) hd (rel.drop k) dd')
theorem aaf {v:V}{more:List Value}{Q:Value->Shared->Prop}(I:Inv X pins σ H s)(e:H a=some (.dK kvs))(ry:RelV (kV k) u)(l:gD kvs k=some v)(hm:more=[]\/∃x,more=[x])
  (h:∀w' s',Inv X pins σ (upd H a (.dK (iC kvs k))) s'->RelV v w'->Q w' s'):wpAny (model X.prog X.w) A (call (.builtin "dict.pop") (.ref a::u::more)) Q E s:=by
 obtain⟨z,hd,vs,rel,dd⟩:=AW I.hok e;obtain⟨w',hw,rw'⟩:=qi.some_of (v:=v) (o:=valueAt vs k) (by rw[<-l];exact rel.val k)
 have hp:(keyPart u).isSome=true:=by
  cases k with
  |inl i=>obtain⟨t,q⟩:=(show ∃t,u=Value.int i t from ry);subst q;rfl
  |inr x=>obtain⟨t,q⟩:=(show ∃t,u=Value.str x t from ry);subst q;rfl
 have ha:argsOk "dict.pop" ⟨.ref a::u::more,[]⟩:=by
  rcases hm with q | ⟨x,q⟩
  ·subst q;exact PySem.F.args_dict_pop_2 _ _
  ·subst q;exact PySem.F.args_dict_pop_3 _ _ _
 refine call_meetsIn PySem.F.slot_dict_pop dd.typeIs PySem.F.entry_dict_pop ha (meets_dict_pop_there (cO X.prog X.w) a (AV ry) more hm hp)
  ⟨vs,w',dd,by rw[<-rel.length];exact z,hw,λh' dd' hs=>h w' _ ?_ rw'⟩
 have he:∃q,h'.get? a=some q:=let ⟨q,_,_,hq,_⟩:=dd';⟨q,hq⟩
 exact vM I (by rw[e];exact akO) hs he (EI (tm (F9 kvs k) z) hd (rel.drop k) dd')
theorem aag {Q:Value->Shared->Prop}(I:Inv X pins σ H s)(e:Rd H a (.dK kvs))(h:∀t s',Inv X pins σ H s'->Q (.int kvs.length t) s'):wpAny (model X.prog X.w) A (call (.builtin "len") [.ref a]) Q E s:=by
 obtain⟨z,hd,vs,rel,dd⟩:=Dp I.hok e;refine call_len_dict hd dd (by rw[<-rel.length];rw[sizeLine_eq]at z;omega) ?_
 rw[<-rel.length];exact h _ _ (I.tok _)
end
def aah (i:Expr):Prop:=∀ov iv,subscripted i false ov iv=operate [ov,iv] (getItem ov iv)
theorem R3 {prog:me}{w:World}{A:Around}{E:Value->Shared->Prop}{s:Shared}{env:Env}{value slice:Expr}{pos:Pos}{T id:String}{Q:Value->Shared->Prop}
  (hl:typeLookup (.type T) "__getitem__"=pure (some (.builtin id))) (hs:aah slice)
  (h:wpAny (model prog w) A (eval value env) (λo s₁=>wpAny (model prog w) A (eval slice env) (λi s₂=>s₂.TypeIs o T/\wpAny (model prog w) A (getItem o i) Q E s₂) E s₁) E s) :
  wpAny (model prog w) A (eval (.Subscript value slice pos) env) Q E s:=by
 refine Subscript_ (wt h (λo s₁ h₁=>wt h₁ (λi s₂ h₂=>?_) λ_ _ x=>x) λ_ _ x=>x)
 obtain⟨hT,h₂⟩:=h₂;unfold subscriptTail;refine eg ?_;rw[getitemInPython_of_ne hT.not_modules];refine eg (wpAny_specialOf hT hl ?_);have fin:wpAny (model prog w) A (subscripted slice false o i) (λr s₃=>wpAny (model prog w) A (letTemporaryGo value o r >>= λ_=>pure r) Q E s₃) E s₂:=by
  rw[hs o i];exact wpAny_operating (wt h₂ (λr s₃ h₃=>eg (wpAny_letTemporaryGo (si h₃))) λ_ _ x=>x)
 first
  |exact si (eg fin)
  |exact eg (si (eg fin))
  |exact eg fin
theorem Gb {X:Cx}{pins:List (Addr×Obj)}{σ:St}{H:Hp}{s:Shared}{a:Addr}{y:V}{o:Option V}(I:Inv X pins σ H s)(g:uG H a y o):s.TypeIs (.ref a) "dict":=by
 rcases g with ⟨kvs,k,e,_,_⟩ | ⟨kvs,k,b,e,_,_,_⟩
 ·obtain⟨_,_,vs,_,dd⟩:=Dp I.hok e;exact dd.typeIs
 ·obtain⟨_,_,xs,_,dd⟩:=Ga I.hok e;exact dd.typeIs
def aai (td ty:TE):TE:=λσ H Q=>td σ H λx H1=>ty σ H1 λy H2=>∃a v,x=.ref a/\uG H2 a y (some v)/\Q v H2
def R4 (ty td:TE):TE:=λσ H Q=>ty σ H λy H1=>td σ H1 λx H2=>∃a o,x=.ref a/\uG H2 a y o/\Q (.bl (!o.isSome)) H2
def aaj (td ty tv:TE):TS:=λD σ H=>tv σ H λv H1=>td σ H1 λx H2=>ty σ H2 λy H3=>∃a H4,x=.ref a/\oI H3 a y v H4/\D.nx σ H4
section
variable{X:Cx}{o i e value:Expr}{pos pos' ahl:Pos}{td ty tv:TE}
theorem bc (hu:X.A.units+1 < cLine)(ho:PE X o td)(hi:PE X i ty)(hs:aah i):PE X (.Subscript o i pos) (aai td ty):=by
 intro pins s σ H Q I h;refine R3 PySem.F.slot_dict_getitem.lookup hs (thn (ho pins s σ H _ I h) λu s1 ⟨x,H1,I1,rx,q1⟩=>thn (hi pins s1 σ H1 _ I1 q1) λiv s2 ⟨y,H2,I2,ry,a,v,ex,g,q2⟩=>?_)
 subst ex;obtain rfl:u=ajL a:=rx;exact⟨Gb I2 g,Nd hu I2 g ry λw' s3 I3 rw'=>⟨v,H2,I3,rw',q2⟩⟩
theorem xC (hu:X.A.units+1 < cLine)(hi:PE X i ty)(ho:PE X o td):PC X .NotIn i o (R4 ty td):=by
 intro pins s σ H Q I h;refine thn (hi pins s σ H _ I h) λiv s1 ⟨y,H1,I1,ry,q1⟩=>thn (ho pins s1 σ H1 _ I1 q1) λu s2 ⟨x,H2,I2,rx,a,ov,ex,g,q2⟩=>?_
 subst ex;obtain rfl:u=ajL a:=rx;exact R1 hu I2 g ry λs3 I3=>⟨.bl (!ov.isSome),H2,I3,rfl,q2⟩
theorem hZ (hu:X.A.units+1 < cLine)(ho:PE X o td)(hi:PE X i ty)(hv:PE X value tv)(hs:swapsWith value (some (.Subscript o i pos')) pos.line X.env=pure false) :
  PS X (.Assign [.Subscript o i pos'] value pos) (aaj td ty tv):=by
 intro pins s σ H D I h;refine wpAny_Assign_Subscript (thn (hv pins s σ H _ I h) λr s1 ⟨v,H1,I1,rv,q1⟩=>thn (ho pins s1 σ H1 _ I1 q1) λu s2 ⟨x,H2,I2,rx,q2⟩=>thn (hi pins s2 σ H2 _ I2 q2) λiv s3 ⟨y,H3,I3,ry,a,H4,ex,g,q3⟩=>?_) hs
 subst ex;obtain rfl:u=ajL a:=rx;exact Nf hu I3 g ry rv λs4 I4=>⟨σ,H4,I4,q3⟩
end
theorem Gd {P:me}{w:World}{H:Hp}(h:Heap)(hb:akN < h.objs.size):fU P w H (h.push { cls:=.type "dict",data:=.dict #[] }) h.objs.size (.dK []) :=
 ⟨akl _,beq_eq_false_iff_ne.mpr (ajZ (ajK hb)),[],.nil,Heap.DictOf.new h⟩
def V0:TE:=λ_ H Q=>∀p,H p=none->Q (.ref p) (upd H p (.dK []))
section
variable{X:Cx}{pos:Pos}
theorem oJ:PE X (.Dict [] [] pos) V0:=λpins s σ H Q I h =>
 wpAny_Dict_empty ⟨.ref s.heap.objs.size,_,I.laid (a:=s.heap.objs.size) (o:=.dK []) (t':=s.toks) (λ_ _ q=>gr _ q) (kq _) (Gd s.heap I.big),rfl,h _ (I.hok.fresh (kq _))⟩
end
def J5:List (TE×TE)->St->Hp->(List (V×V)->Hp->Prop)->Prop
 |[],_,H,Q=>Q [] H
 | (tk,tv)::r,σ,H,Q=>tk σ H λx H1=>tv σ H1 λy H2=>J5 r σ H2 λps H3=>Q ((x,y)::ps) H3
abbrev VV:List (V×V)->List (Value×Value)->Prop:=Paired λp q=>RelV p.1 q.1/\RelV p.2 q.2
def PPs (X:Cx)(pos:Pos)(keys:List (Option Expr))(values:List Expr)(trs:List (TE×TE)):Prop :=
 ∀(pins:List (Addr×Obj)) (s:Shared) (σ:St) (H:Hp) (Q:List (V×V)->Hp->Prop),Inv X pins σ H s->J5 trs σ H Q ->
  wpAny (model X.prog X.w) X.A (evalPairs (pairTrees keys values X.env pos)) (λvs s'=>∃ps H',Inv X pins σ H' s'/\VV ps vs/\Q ps H') X.xe s
theorem R5 {X:Cx}{pos:Pos}:PPs X pos [] [] []:=λpins s σ H Q I h=>pairTrees_nil_walk ⟨[],H,I,.nil,h⟩
theorem oK {X:Cx}{pos:Pos}{k v:Expr}{ks:List (Option Expr)}{vs:List Expr}{tk tv:TE}{trs:List (TE×TE)}(hk:PE X k tk)(hv:PE X v tv)(hr:PPs X pos ks vs trs) :
  PPs X pos (some k::ks) (v::vs) ((tk,tv)::trs):=λpins s σ H Q I h =>
 pairTrees_cons_walk (thn (hk pins s σ H _ I h) λu s1 ⟨x,H1,I1,rx,q1⟩=>thn (hv pins s1 σ H1 _ I1 q1) λw2 s2 ⟨y,H2,I2,ry,q2⟩ =>
  thn (hr pins s2 σ H2 _ I2 q2) λws s3 ⟨ps,H3,I3,rel,q3⟩=>⟨(x,y)::ps,H3,I3,.cons ⟨rx,ry⟩ rel,q3⟩)
def xD (kvs more:List (Key×V)):List (Key×V):=more.foldl (λacc kv=>putK acc kv.1 kv.2) kvs
theorem KV.merge:∀ {more:List (Key×V)} {rs:List (Key×Value)} {kvs:List (Key×V)} {vs:List (Key×Value)},KV more rs->KV kvs vs->KV (xD kvs more) (merged vs rs):=by
 intro more rs kvs vs r;unfold KV at r
 induction r generalizing kvs vs with
 |nil=>intro q;exact q
 | @cons p q ps qs h t ih =>
  intro r0;have e:KV (putK kvs p.1 p.2) (stored vs q.1 q.2):=by
   have:=r0.put p.1 h.2;rw[<-h.1];exact this
  exact ih e
theorem uy:∀(more kvs:List (Key×V)),(xD kvs more).length<=kvs.length+more.length
 |[],kvs=>by show kvs.length<=kvs.length+0;omega
 |p::r,kvs=>by
  have h1:=uy r (putK kvs p.1 p.2);have h2:=rY kvs p.1 p.2;show (xD (putK kvs p.1 p.2) r).length<=_;rw[ajH];omega
theorem AX {P:me}{w:World}:∀ {kvs:List (Key×V)} {ws:List (Value×Value)},VV (kvs.map λkv=>(kV kv.1,kv.2)) ws->∃rs,Carries (cO P w) ws rs/\KV kvs rs
 |[],_,r=>by rw[aki]at r;cases r;exact⟨[],akO,.nil⟩
 |p::kvs,_,r=>by
  rw[kj]at r;cases r with
  | @cons a b as bs h t =>
   obtain⟨rs,c,q⟩:=AX (P:=P) (w:=w) t;obtain⟨b1,b2⟩:=b;exact⟨(p.1,b2)::rs,⟨AV h.1,rfl,c⟩,.cons ⟨rfl,h.2⟩ q⟩
def aak (trs:List (TE×TE)):TE:=λσ H Q=>∀p,H p=none->J5 trs σ (upd H p (.dK [])) λps H2=>H2 p=some (.dK [])/\∃kvs:List (Key×V),ps=kvs.map (λkv=>(kV kv.1,kv.2))/\kvs.length<=15/\Q (.ref p) (upd H2 p (.dK (xD [] kvs)))
theorem R6 {X:Cx}{pos:Pos}{keys:List (Option Expr)}{values:List Expr}{trs:List (TE×TE)}(h:PPs X pos keys values trs)(VL:keys.all (·.isSome)=true)(hl:keys.length=values.length)(h0:keys≠[])
  (h15:keys.length<=15):PE X (.Dict keys values pos) (aak trs):=by
 intro pins s σ H Q I q;have hn:=I.hok.fresh (kq s.heap.objs.size);have I1:=I.laid (a:=s.heap.objs.size) (o:=.dK []) (h':=s.heap.push { cls:=.type "dict",data:=.dict #[] }) (t':=s.toks) (λ_ _ q=>gr _ q) (kq _) (Gd s.heap I.big)
 refine wpAny_Dict_walk (knd:=cO X.prog X.w) VL hl h0 h15 (thn (h pins _ σ _ _ I1 (q _ hn)) λws s2 ⟨ps,H2,I2,rel,e,kvs,ep,lk,q2⟩=>?_)
 subst ep;obtain⟨rs,c,rk⟩:=AX (P:=X.prog) (w:=X.w) rel;obtain⟨z,hd,vs0,r0,dd⟩:=AW I2.hok e;cases r0;refine⟨rs,c,dd,λh' dd' hs=>⟨.ref s.heap.objs.size,_,?_,rfl,q2⟩⟩
 have hz:(xD [] kvs).length<=ka:=by
  have h1:=uy kvs [];rw[ak0]at h1;rw[sizeLine_eq];omega
 have he:∃q,h'.get? s.heap.objs.size=some q:=let ⟨q,_,_,hq,_⟩:=dd';⟨q,hq⟩
 exact vM I2 (by rw[e];exact akO) hs he (EI hz hd (rk.merge .nil) dd')
structure M1 (X:Cx)(o:Expr)(m:Str)(apos:Pos)(e:Expr)(gf:Pos):Prop where
 base:attributeBase o m X.env (eval o X.env)=eval o X.env
 few:((backTo gf (Lk [e] X.env)).all (λx=>!x.1) && (backToKw gf (keywordEach [] X.env)).all (λx=>x.1.isSome)
  && decide (([e]:List Expr).length+([]:List Keyword).length+(if ([]:List Keyword).isEmpty then 0 else 1) < 30))=true
 line:(apos.endLine == gf.line)=true
 trees:backTo gf (Lk [e] X.env)=[(false,eval e X.env)]
structure M2 (X:Cx)(o:Expr)(m:Str)(apos:Pos)(e f:Expr)(gf:Pos):Prop where
 base:attributeBase o m X.env (eval o X.env)=eval o X.env
 few:((backTo gf (Lk [e,f] X.env)).all (λx=>!x.1) && (backToKw gf (keywordEach [] X.env)).all (λx=>x.1.isSome)
  && decide (([e,f]:List Expr).length+([]:List Keyword).length+(if ([]:List Keyword).isEmpty then 0 else 1) < 30))=true
 line:(apos.endLine == gf.line)=true
 trees:backTo gf (Lk [e,f] X.env)=[(false,eval e X.env),(false,eval f X.env)]
def IsD (H:Hp)(a:Addr):Prop:=(∃kvs,Rd H a (.dK kvs))\/∃kvs,Rd H a (.dT kvs)
theorem V1 {X:Cx}{pins:List (Addr×Obj)}{σ:St}{H:Hp}{s:Shared}{a:Addr}(I:Inv X pins σ H s)(d:IsD H a) :
  s.TypeIs (.ref a) "dict"/\(∀b,ajL a=.ref b->∃ob,s.heap.get? b=some ob/\ob.dict=none)/\(a == akN)=false:=by
 rcases d with ⟨kvs,e⟩ | ⟨kvs,e⟩
 ·obtain⟨_,hd,vs,_,dd⟩:=Dp I.hok e;refine⟨dd.typeIs,λb q=>?_,hd⟩
  cases q;obtain⟨ob,_,_,h1,h2,_⟩:=dd;exact⟨ob,h1,h2.2.1⟩
 ·obtain⟨_,hd,xs,_,dd⟩:=Ga I.hok e;refine⟨dd.typeIs,λb q=>?_,hd⟩
  cases q;obtain⟨ob,_,_,h1,h2,_⟩:=dd;exact⟨ob,h1,h2.2.1⟩
def V2 (td ty:TE):TE:=λσ H Q=>td σ H λx H1=>∃a,x=.ref a/\IsD H1 a/\ty σ H1 λy H2=>∃kvs k v,H2 a=some (.dK kvs)/\y=kV k/\gD kvs k=some v/\Q v (upd H2 a (.dK (iC kvs k)))
section
variable{X:Cx}{o e f:Expr}{apos gf:Pos}{td ty tx:TE}
theorem Ge (ho:PE X o td)(he:PE X e ty)(m:M1 X o "pop" apos e gf):PE X (.Call (.Attribute o "pop" apos) [e] [] gf) (V2 td ty):=by
 intro pins s σ H Q I h;refine wpAny_Call_method m.base m.few m.line PySem.F.plainAttrs_dict PySem.F.slot_dict_pop PySem.F.type_dict_pop (thn (ho pins s σ H _ I h) λu s1 ⟨x,H1,I1,rx,a,ex,d,q1⟩=>?_)
 subst ex;obtain rfl:u=ajL a:=rx;obtain⟨t1,t2,_⟩:=V1 I1 d;refine⟨t1,t2,?_⟩;rw[m.trees];refine Calls.callWith_builtin rfl (Calls.evalArgs_plain (Calls.spliced_cons (thn (he pins s1 σ H1 _ I1 q1) λiv s2 ⟨y,H2,I2,ry,kvs,k,v,ea,ey,l,q2⟩=>Calls.spliced_nil ?_)))
 subst ey;exact aaf I2 ea ry l (.inl rfl) λw' s3 I3 rw'=>⟨v,_,I3,rw',q2⟩
end
end L2
namespace L2
open PySem PySem.Spec PyProof.Rows
section
variable{X:Cx}
theorem Dq:lY X (.builtin "len") (λxs H Q=>∃a kvs,xs=[V.ref a]/\H a=some (.dK kvs)/\Q (.int kvs.length) H):=by
 intro pins s σ H xs us Q I r h;obtain⟨a,kvs,rfl,ha,q⟩:=h;obtain⟨u,rfl,ru⟩:=vals1 r;cases ru;exact aag I (.inl ha) λt s' I'=>⟨.int kvs.length,H,I',⟨t,rfl⟩,q⟩
end
end L2
set_option maxHeartbeats 1000000
namespace L2
open PySem PySem.Spec PyProof.Rows
theorem Room.u1 {k:Nat}{A:Around}(r:Room k A):A.units+1 < cLine:=by have:=r.un;omega
theorem R7 {X:Cx}{K:ba}{e:Expr}{f:Str}{pos:Pos}{ta:TE}(ek:X.K=K)(he:PE X e ta)(hb:attributeBase e f X.env (eval e X.env)=eval e X.env):PE X (.Attribute e f pos) (ZS K ta f):=by
 subst ek;exact bj he hb
theorem ints_of:∀(l:List Value) (ns:List Int),l.length=ns.length->(∀(j:Nat) (v:Value),l[j]?=some v->∃n t,ns[j]?=some n/\v=Value.int n t)->IntsAre l ns
 |[],[],_,_=>.nil
 |[],_::_,h,_=>nomatch h
 |_::_,[],h,_=>nomatch h
 |v::l,n::ns,h,g=>by
  obtain⟨n',t,e1,e2⟩:=g 0 v rfl;have e3:n=n':=by simpa using e1
  subst e3;subst e2;exact .cons n t (ints_of l ns (by simpa using h) λj v hv=>g (j+1) v (by simpa using hv))
theorem Gf:∀ {vs:List Value} {ns:List Int},IntsAre vs ns->Vals (ns.map V.int) vs
 |_,_,.nil=>.nil
 |_,_,.cons n t h=>.cons ⟨t,rfl⟩ (Gf h)
theorem T4 {κ:Type}:∀ {kvs:List (κ×V)} {vs:List (κ×Value)},KV kvs vs->∀(j:Nat) (q:κ×Value),vs[j]?=some q->(kvs.map (·.1))[j]?=some q.1
 |_,_,.nil,j,q,h=>by simp at h
 |_,_,.cons a r,0,q,h=>by
  rw[ajX]at h;cases h;rw[kj,ajX,a.1]
 |_,_,.cons a r,j+1,q,h=>by
  have:=T4 r j q (by simpa using h)
  simpa using this
theorem R8 {P:me}{w:World}{n:Int}{v:Value}(h:(cO P w).is (km n) v=true):∃t,v=Value.int n t:=by
 rcases dj (k:=km n) (v:=v) (show AF (km n) v=true from h) with ⟨i,t,e,rfl⟩ | ⟨x,t,e,rfl⟩
 ·cases e;exact⟨t,rfl⟩
 ·cases e
theorem vN {X:Cx}(hh:X.A.handled=none):lY X (.builtin "sorted") (λxs H Q=>∃a kvs ns,xs=[V.ref a]/\H a=some (.dK kvs)/\kvs.map (·.1)=ns.map km/\ns.length < 64 /\
  ∀l ns',ak3 ns' ns->ns'.Pairwise (·<=·)->H l=none->Q (.ref l) (upd H l (.lst (ns'.map V.int)))):=by
 intro pins s σ H xs us Q I r h;obtain⟨a,kvs,ns,rfl,ha,hk,h64,q⟩:=h;obtain⟨u,rfl,ru⟩:=vals1 r;cases ru;obtain⟨z,hd,vs,rel,dd⟩:=AW I.hok ha;obtain⟨ep,hat⟩:=dd.dictAt;have hlen:vs.length=ns.length:=by
  have e1:=congrArg List.length hk;simp only[bo]at e1;rw[<-rel.length];exact e1
 refine Calls.call_function_entry kind_sorted plain_sorted entry_sorted (args_sorted1 _) ?_;unfold Builtin.«sorted»;refine eg (m:=checkCount "sorted" 1 1 _) (si ?_);refine eg (PySem.W.kdu_collect (A:=X.A.in1) (PySem.W.kdl_dict (knd:=cO X.prog X.w) (kvs:=vs) (ep:=ep) hd) hh hat (by rw[<-rel.length];exact z) λh' tk acc kp M6=>?_)
 have hsz:acc.toList.length=ns.length:=by rw[akT];exact M6.1.trans hlen
 have hI:IntsAre acc.toList ns:=ints_of _ _ hsz λj v hv=>by
  obtain⟨k,x,hx,hkv⟩:=M6.2 j v (by rw[<-Array.getElem?_toList];exact hv)
  have e:=T4 rel j _ hx;rw[hk,aj0]at e;cases en:ns[j]? with
  |none=>rw[en]at e;cases e
  |some n =>
   rw[en]at e;have e':km n=k:=by simpa using e
   subst e';obtain⟨t,rfl⟩:=R8 hkv;exact⟨n,t,rfl,rfl⟩
 refine eg (wpAny_newList ?_ (by rw[hsz];rw[sizeLine_eq];omega))
 have hoL:(h'.push (seqObj "list" acc.toList.toArray 0)).get? h'.objs.size=some (seqObj "list" acc.toList.toArray 0):=ajM _ rfl;refine eg (wpAny_holding (wpAny_call_entry slot_list_sort ⟨_,hoL,rfl⟩ entry_list_sort (list_sort_tree hoL hI (by omega) λout ns' a1 a2 a3=>⟨_,rfl,?_⟩) (args_list_sort _)))
 refine si ⟨_,rfl,?_⟩;obtain⟨e,he⟩:=sortedHeap_at (out:=out) hoL;have I1:Inv X pins σ H { s with heap:=h',toks:=tk }:=I.un (Un.kept kp) (I.hok.kept kp)
 refine⟨.ref h'.objs.size,_,I1.laid (t':=tk) (λb o hb=>?_) (kq _) (show fU X.prog X.w _ _ _ (.lst (ns'.map V.int)) from ⟨?_,_,e,Gf a1,?_⟩),rfl,q _ ns' a2 a3 (I1.hok.fresh (kq _))⟩
 ·have hb':h'.get? b=some o:=hb;have hlt:=om hb';rw[sortedHeap_old (ajK hlt) (by rw[size_push'];exact Nat.lt_succ_of_lt hlt)]
  exact gr _ hb'
 ·rw[bo,a2.length_eq,sizeLine_eq];omega
 ·rw[Array.toArray_toList];exact he
theorem Dr:akz "sorted"=some (.builtin "sorted"):=by decide +kernel
theorem R9 {X:Cx}(hu:X.A.units+1 < cLine):OpR X (akv .NotEq) (λx y H Q=>∃a b kvs,x=.ref a/\y=.ref b/\H a=some (.dK kvs)/\H b=some (.dK [])/\Q (.bl (!kvs.isEmpty)) H):=by
 intro pins s σ H x y v u Q I rx ry h;obtain⟨a,b,kvs,rfl,rfl,ha,hb,q⟩:=h;cases rx;cases ry;obtain⟨_,h1,vs,r1,d1⟩:=AW I.hok ha;obtain⟨_,h2,ws,r2,d2⟩:=AW I.hok hb;cases r2;refine PySem.W.keq_ne (knd:=cO X.prog X.w) (r:=true) h1 h2 d1 d2 (by omega) (λe=>?_) ⟨.bl _,H,I,?_,q⟩
 ·have:vs=[]:=List.length_eq_zero_iff.mp e;subst this;exact .nil
 ·have hl:=r1.length;cases kvs with
  |nil =>
   have:vs=[]:=List.length_eq_zero_iff.mp (by rw[<-hl];rfl)
   subst this;rfl
  |cons p r =>
   cases vs with
   |nil=>simp at hl
   |cons _ _=>rfl
theorem hide {P:Prop}(h:∀G:Prop,(P->G)->G):P:=h P id
theorem ixv {s:Option (Option V)}{p:Addr}{n:Int}{S:Addr->List V->Prop}{xs:List V}{z:V}{R:V->Prop}(h0:s=some (some (.ref p)))(h1:S p xs)(h2:atI xs n=some z)(h:R z):∃v,s=some (some v)/\∃q ys i w,v=.ref q/\V.int n=.int i/\S q ys/\atI ys i=some w/\R w :=
 ⟨_,h0,p,xs,n,z,rfl,rfl,h1,h2,h⟩
theorem eQ {K:ba}{s:Option (Option V)}{H:Hp}{a C dx:Addr}{fs:List (Str×V)}{f:Str}{w:V}{R:V->Prop}(h0:s=some (some (.ref a)))(h1:H a=some (.ins C dx fs))(h2:Cls K C)(h3:dA K C f)(h4:fs.lookup f=some w)(h:R w) :
  ∃v,s=some (some v)/\∃a C dx fs w,v=.ref a/\H a=some (.ins C dx fs)/\Cls K C/\dA K C f/\fs.lookup f=some w/\R w:=⟨_,h0,a,C,dx,fs,w,rfl,h1,h2,h3,h4,h⟩
theorem dgv {s:Option (Option V)}{a:Addr}{v:V}{D:Addr->V->Prop}{R:V->Prop}(h0:s=some (some (.ref a)))(h1:D a v)(h:R v):∃x,s=some (some x)/\∃a v,x=.ref a/\D a v/\R v:=⟨_,h0,a,v,rfl,h1,h⟩
theorem mtv {s:Option (Option V)}{H:Hp}{a C dx:Addr}{fs:List (Str×V)}{m:Str}{R:V->Prop}(h0:s=some (some (.ref a)))(h1:H a=some (.ins C dx fs))(h2:fs.lookup m=none)(h:R (.ref a)) :
  ∃v,s=some (some v)/\∃a dx fs,v=.ref a/\H a=some (.ins C dx fs)/\fs.lookup m=none/\R v:=⟨_,h0,a,dx,fs,rfl,h1,h2,h⟩
theorem tsf {b:Bool}{P Q:Prop}(h:b=false)(q:Q):∃k,V.bl b=.bl k/\if k=true then P else Q:=⟨b,rfl,by rw[h];exact q⟩
theorem tst {b:Bool}{P Q:Prop}(h:b=true)(q:P):∃k,V.bl b=.bl k/\if k=true then P else Q:=⟨b,rfl,by rw[h];exact q⟩
end L2
set_option maxHeartbeats 1000000
namespace My
open PySem L2
seal PySem.wpAny
def top (i:Nat):Stmt:=PySem.Challenge.pw_moot_k17_whole_what_waits_fits.main.body.getD i (.Pass ⟨0,0,0,0⟩)
abbrev fw:Stmt:=inClass (top 22) 1
theorem AY:aT ["self"] ["self"] (ag fw):=⟨rfl,rfl,rfl,by decide +kernel,rfl,by decide +kernel,by decide +kernel⟩
abbrev fA:Stmt:=inClass (top 23) 1
theorem AZ:aT ["self"] ["self"] (ag fA):=⟨rfl,rfl,rfl,by decide +kernel,rfl,by decide +kernel,by decide +kernel⟩
abbrev iD:Stmt:=inClass (top 24) 1
theorem EJ:aT ["self"] ["self"] (ag iD):=⟨rfl,rfl,rfl,by decide +kernel,rfl,by decide +kernel,by decide +kernel⟩
abbrev fB:Stmt:=inClass (top 25) 1
theorem A0:aT ["self"] ["self"] (ag fB):=⟨rfl,rfl,rfl,by decide +kernel,rfl,by decide +kernel,by decide +kernel⟩
abbrev gF:Stmt:=inClass (top 26) 0
theorem CJ:aT ["self"] ["self"] (ag gF):=⟨rfl,rfl,rfl,by decide +kernel,rfl,by decide +kernel,by decide +kernel⟩
abbrev jv:Stmt:=inClass (top 27) 0
theorem Gh:aT ["self"] ["self"] (ag jv):=⟨rfl,rfl,rfl,by decide +kernel,rfl,by decide +kernel,by decide +kernel⟩
abbrev iE:Stmt:=inClass (top 28) 0
theorem EK:aT ["self"] ["self"] (ag iE):=⟨rfl,rfl,rfl,by decide +kernel,rfl,by decide +kernel,by decide +kernel⟩
abbrev gG:Stmt:=inClass (top 29) 1
theorem CK:aT ["self"] ["self"] (ag gG):=⟨rfl,rfl,rfl,by decide +kernel,rfl,by decide +kernel,by decide +kernel⟩
abbrev fD:Stmt:=inClass (top 21) 1
theorem A1:aT ["self"] ["self"] (ag fD):=⟨rfl,rfl,rfl,by decide +kernel,rfl,by decide +kernel,by decide +kernel⟩
abbrev fE:Stmt:=inClass (top 21) 2
theorem A2:aT ["self"] ["self"] (ag fE):=⟨rfl,rfl,rfl,by decide +kernel,rfl,by decide +kernel,by decide +kernel⟩
abbrev gH:Stmt:=inClass (top 26) 1
theorem CL:aT ["self"] ["self"] (ag gH):=⟨rfl,rfl,rfl,by decide +kernel,rfl,by decide +kernel,by decide +kernel⟩
abbrev fF:Stmt:=inClass (top 21) 3
theorem A3:aT ["self"] ["self"] (ag fF):=⟨rfl,rfl,rfl,by decide +kernel,rfl,by decide +kernel,by decide +kernel⟩
abbrev fG:Stmt:=inClass (top 22) 2
theorem A4:aT ["self"] ["self"] (ag fG):=⟨rfl,rfl,rfl,by decide +kernel,rfl,by decide +kernel,by decide +kernel⟩
abbrev fH:Stmt:=inClass (top 23) 2
theorem A5:aT ["self"] ["self"] (ag fH):=⟨rfl,rfl,rfl,by decide +kernel,rfl,by decide +kernel,by decide +kernel⟩
abbrev iF:Stmt:=inClass (top 24) 2
theorem EL:aT ["self"] ["self"] (ag iF):=⟨rfl,rfl,rfl,by decide +kernel,rfl,by decide +kernel,by decide +kernel⟩
abbrev fJ:Stmt:=inClass (top 25) 2
theorem A6:aT ["self"] ["self"] (ag fJ):=⟨rfl,rfl,rfl,by decide +kernel,rfl,by decide +kernel,by decide +kernel⟩
abbrev gI:Stmt:=inClass (top 29) 2
theorem CM:aT ["self"] ["self"] (ag gI):=⟨rfl,rfl,rfl,by decide +kernel,rfl,by decide +kernel,by decide +kernel⟩
abbrev fK:Stmt:=inClass (top 22) 0
theorem A7:aT ["self","text"] ["self","text"] (ag fK):=⟨rfl,rfl,rfl,by decide +kernel,rfl,by decide +kernel,by decide +kernel⟩
abbrev fL:Stmt:=inClass (top 23) 0
theorem A8:aT ["self","edit"] ["self","edit"] (ag fL):=⟨rfl,rfl,rfl,by decide +kernel,rfl,by decide +kernel,by decide +kernel⟩
abbrev iG:Stmt:=inClass (top 24) 0
theorem EM:aT ["self","edit"] ["self","edit"] (ag iG):=⟨rfl,rfl,rfl,by decide +kernel,rfl,by decide +kernel,by decide +kernel⟩
abbrev fM:Stmt:=inClass (top 25) 0
theorem A9:aT ["self","sitting"] ["self","sitting"] (ag fM):=⟨rfl,rfl,rfl,by decide +kernel,rfl,by decide +kernel,by decide +kernel⟩
abbrev gJ:Stmt:=inClass (top 29) 0
theorem CN:aT ["self","clause"] ["self","clause"] (ag gJ):=⟨rfl,rfl,rfl,by decide +kernel,rfl,by decide +kernel,by decide +kernel⟩
abbrev fN:Stmt:=inClass (top 4) 0
theorem Ba:aT ["self","bar"] ["self","bar"] (ag fN):=⟨rfl,rfl,rfl,by decide +kernel,rfl,by decide +kernel,by decide +kernel⟩
abbrev dJ:Stmt:=inClass (top 7) 0
theorem xE:aT ["self","sitting"] ["self","sitting"] (ag dJ):=⟨rfl,rfl,rfl,by decide +kernel,rfl,by decide +kernel,by decide +kernel⟩
abbrev fO:Stmt:=inClass (top 11) 0
theorem Bb:aT ["self","sitting"] ["self","sitting"] (ag fO):=⟨rfl,rfl,rfl,by decide +kernel,rfl,by decide +kernel,by decide +kernel⟩
abbrev eu:Stmt:=inClass (top 46) 0
theorem y6:aT ["self","seats"] ["self","seats"] (ag eu):=⟨rfl,rfl,rfl,by decide +kernel,rfl,by decide +kernel,by decide +kernel⟩
abbrev eA:Stmt:=inClass (top 46) 1
theorem qU:aT ["self","told","number"] ["self","told"] (ag eA):=⟨rfl,rfl,rfl,by decide +kernel,rfl,by decide +kernel,by decide +kernel⟩
abbrev eB:Stmt:=inClass (top 46) 2
theorem kR:aT ["self","ayes","noes","motion","word"] ["self","ayes","noes"] (ag eB):=⟨rfl,rfl,rfl,by decide +kernel,rfl,by decide +kernel,by decide +kernel⟩
abbrev eC:Stmt:=inClass (top 46) 3
theorem y7:aT ["self"] ["self"] (ag eC):=⟨rfl,rfl,rfl,by decide +kernel,rfl,by decide +kernel,by decide +kernel⟩
abbrev eD:Stmt:=inClass (top 46) 4
theorem qV:aT ["self","number","until"] ["self","number"] (ag eD):=⟨rfl,rfl,rfl,by decide +kernel,rfl,by decide +kernel,by decide +kernel⟩
abbrev cY:Stmt:=inClass (top 46) 6
theorem xF:aT ["self","aside"] ["self"] (ag cY):=⟨rfl,rfl,rfl,by decide +kernel,rfl,by decide +kernel,by decide +kernel⟩
abbrev kY:Scope:={ kind:=.function,names:=[(ar ".0",.local),(ar "number",.local),(ar "self",.free)],isGenerator:=false,isCoroutine:=false,more:=[] }
theorem uH:dn kY (ag cY) "number" ["self","aside"] ["self","aside"]:=⟨rfl,rfl,by decide +kernel,by decide +kernel,rfl,by decide +kernel,by decide +kernel,by decide +kernel,by decide +kernel,rfl,by decide +kernel,by decide +kernel⟩
abbrev dq:Stmt:=inClass (top 46) 7
theorem vO:aT ["self","number"] ["self","number"] (ag dq):=⟨rfl,rfl,rfl,by decide +kernel,rfl,by decide +kernel,by decide +kernel⟩
abbrev cA:Stmt:=inClass (top 46) 12
theorem uI:aT ["self"] ["self"] (ag cA):=⟨rfl,rfl,rfl,by decide +kernel,rfl,by decide +kernel,by decide +kernel⟩
abbrev jj:Scope:={ kind:=.function,names:=[(ar ".0",.local),(ar "number",.local),(ar "self",.free)],isGenerator:=false,isCoroutine:=false,more:=[] }
theorem rZ:dn jj (ag cA) "number" ["self"] ["self"]:=⟨rfl,rfl,by decide +kernel,by decide +kernel,rfl,by decide +kernel,by decide +kernel,by decide +kernel,by decide +kernel,rfl,by decide +kernel,by decide +kernel⟩
abbrev cn:Stmt:=inClass (top 46) 13
theorem jk:aT ["self","number","waiting"] ["self","number"] (ag cn):=⟨rfl,rfl,rfl,by decide +kernel,rfl,by decide +kernel,by decide +kernel⟩
abbrev bA:Stmt:=inClass (top 46) 14
theorem cK:aT ["self","told","kind","pile"] ["self","told"] (ag bA):=⟨rfl,rfl,rfl,by decide +kernel,rfl,by decide +kernel,by decide +kernel⟩
abbrev bM:Stmt:=inClass (top 46) 15
theorem l6:aT ["self"] ["self"] (ag bM):=⟨rfl,rfl,rfl,by decide +kernel,rfl,by decide +kernel,by decide +kernel⟩
abbrev du:Stmt:=inClass (top 46) 17
theorem vP:aT ["self","word"] ["self","word"] (ag du):=⟨rfl,rfl,rfl,by decide +kernel,rfl,by decide +kernel,by decide +kernel⟩
abbrev bY:Stmt:=inClass (top 46) 18
theorem oN:aT ["self","deed"] ["self","deed"] (ag bY):=⟨rfl,rfl,rfl,by decide +kernel,rfl,by decide +kernel,by decide +kernel⟩
abbrev cF:Stmt:=inClass (top 46) 19
theorem kz:aT ["self","motion","kind"] ["self","motion"] (ag cF):=⟨rfl,rfl,rfl,by decide +kernel,rfl,by decide +kernel,by decide +kernel⟩
abbrev bS:Stmt:=inClass (top 46) 20
theorem g0:aT ["self","edit","number"] ["self","edit"] (ag bS):=⟨rfl,rfl,rfl,by decide +kernel,rfl,by decide +kernel,by decide +kernel⟩
abbrev bT:Stmt:=inClass (top 46) 21
theorem cP:aT ["self","edit","number","change","words"] ["self","edit"] (ag bT):=⟨rfl,rfl,rfl,by decide +kernel,rfl,by decide +kernel,by decide +kernel⟩
abbrev cG:Stmt:=inClass (top 46) 22
theorem r6:aT ["self","until"] ["self","until"] (ag cG):=⟨rfl,rfl,rfl,by decide +kernel,rfl,by decide +kernel,by decide +kernel⟩
abbrev xG:Stmt:=top 14
theorem EN:aT ["things","edit","places"] ["things","edit"] (ag xG):=⟨rfl,rfl,rfl,by decide +kernel,rfl,by decide +kernel,by decide +kernel⟩
abbrev fP:Stmt:=top 15
theorem Bc:aT ["things","edit"] ["things","edit"] (ag fP):=⟨rfl,rfl,rfl,by decide +kernel,rfl,by decide +kernel,by decide +kernel⟩
abbrev xH:Stmt:=top 16
theorem Aq:aT ["things","edit","kind","place","behind"] ["things","edit"] (ag xH):=⟨rfl,rfl,rfl,by decide +kernel,rfl,by decide +kernel,by decide +kernel⟩
abbrev jw:Stmt:=top 17
theorem Gi:aT ["clause"] ["clause"] (ag jw):=⟨rfl,rfl,rfl,by decide +kernel,rfl,by decide +kernel,by decide +kernel⟩
abbrev iH:Stmt:=top 18
theorem EO:aT ["words"] ["words"] (ag iH):=⟨rfl,rfl,rfl,by decide +kernel,rfl,by decide +kernel,by decide +kernel⟩
abbrev iI:Stmt:=top 30
theorem lq:aT ["told","kind"] ["told"] (ag iI):=⟨rfl,rfl,rfl,by decide +kernel,rfl,by decide +kernel,by decide +kernel⟩
abbrev oO:Stmt:=top 33
theorem Ds:aT ["pile","closed","bar"] ["pile","closed"] (ag oO):=⟨rfl,rfl,rfl,by decide +kernel,rfl,by decide +kernel,by decide +kernel⟩
abbrev eW:Stmt:=top 34
theorem CO:aT ["pile"] ["pile"] (ag eW):=⟨rfl,rfl,rfl,by decide +kernel,rfl,by decide +kernel,by decide +kernel⟩
abbrev oQ:Scope:={ kind:=.function,names:=[(ar ".0",.local),(ar "motion",.local)],isGenerator:=false,isCoroutine:=false,more:=[] }
theorem y9:dn oQ (ag eW) "motion" ["pile"] ["pile"]:=⟨rfl,rfl,by decide +kernel,by decide +kernel,rfl,by decide +kernel,by decide +kernel,by decide +kernel,by decide +kernel,rfl,by decide +kernel,by decide +kernel⟩
abbrev dM:Stmt:=top 35
theorem oR:aT ["pile","told"] ["pile"] (ag dM):=⟨rfl,rfl,rfl,by decide +kernel,rfl,by decide +kernel,by decide +kernel⟩
abbrev cH:Stmt:=top 36
theorem r8:aT ["kind","pile"] ["kind","pile"] (ag cH):=⟨rfl,rfl,rfl,by decide +kernel,rfl,by decide +kernel,by decide +kernel⟩
abbrev cL:Stmt:=top 37
theorem kZ:aT ["kind","pile","closed","bar"] ["kind","pile","closed"] (ag cL):=⟨rfl,rfl,rfl,by decide +kernel,rfl,by decide +kernel,by decide +kernel⟩
abbrev dN:Stmt:=top 39
theorem jx:aT ["text","words","clause"] ["text"] (ag dN):=⟨rfl,rfl,rfl,by decide +kernel,rfl,by decide +kernel,by decide +kernel⟩
abbrev dO:Stmt:=top 40
theorem oS:aT ["edit","words"] ["edit"] (ag dO):=⟨rfl,rfl,rfl,by decide +kernel,rfl,by decide +kernel,by decide +kernel⟩
abbrev dB:Stmt:=top 41
theorem qW:aT ["deed","kind"] ["deed"] (ag dB):=⟨rfl,rfl,rfl,by decide +kernel,rfl,by decide +kernel,by decide +kernel⟩
abbrev l7:Scope:={ kind:=.function,names:=[(ar ".0",.local),(ar "number",.local),(ar "str",.globalImplicit)],isGenerator:=false,isCoroutine:=false,more:=[] }
theorem vQ:dn l7 (ag dB) "number" ["deed","kind"] ["deed","kind"]:=⟨rfl,rfl,by decide +kernel,by decide +kernel,rfl,by decide +kernel,by decide +kernel,by decide +kernel,by decide +kernel,rfl,by decide +kernel,by decide +kernel⟩
abbrev iJ:Stmt:=top 42
theorem ER:aT ["deed"] ["deed"] (ag iJ):=⟨rfl,rfl,rfl,by decide +kernel,rfl,by decide +kernel,by decide +kernel⟩
abbrev lK:Stmt:=top 44
theorem J6:aT ["need","ayes","noes"] ["need","ayes","noes"] (ag lK):=⟨rfl,rfl,rfl,by decide +kernel,rfl,by decide +kernel,by decide +kernel⟩
abbrev iK:Stmt:=top 48
theorem ES:aT ["_law_script","_law_k"] ["_law_script","_law_k"] (ag iK):=⟨rfl,rfl,rfl,by decide +kernel,rfl,by decide +kernel,by decide +kernel⟩
abbrev oU:Stmt:=top 49
theorem oV:aT ["_law_cell","_law_signs","_law_word_here","_law_k"] ["_law_cell"] (ag oU):=⟨rfl,rfl,rfl,by decide +kernel,rfl,by decide +kernel,by decide +kernel⟩
abbrev jy:Stmt:=top 50
theorem kA:aT ["_law_cell","_law_words_here","_law_number","_law_k"] ["_law_cell"] (ag jy):=⟨rfl,rfl,rfl,by decide +kernel,rfl,by decide +kernel,by decide +kernel⟩
abbrev oW:Stmt:=top 51
theorem Dt:aT ["_law_cell","_law_size","_law_thing","_law_place"] ["_law_cell","_law_size","_law_thing"] (ag oW):=⟨rfl,rfl,rfl,by decide +kernel,rfl,by decide +kernel,by decide +kernel⟩
abbrev oX:Stmt:=top 52
theorem Ng:aT ["_law_things","_law_edit_here"] ["_law_things","_law_edit_here"] (ag oX):=⟨rfl,rfl,rfl,by decide +kernel,rfl,by decide +kernel,by decide +kernel⟩
abbrev oY:Stmt:=top 53
theorem Du:aT ["_law_things","_law_edit_here","_law_at"] ["_law_things","_law_edit_here"] (ag oY):=⟨rfl,rfl,rfl,by decide +kernel,rfl,by decide +kernel,by decide +kernel⟩
abbrev lL:Stmt:=top 54
theorem J7:aT ["_law_clause_here"] ["_law_clause_here"] (ag lL):=⟨rfl,rfl,rfl,by decide +kernel,rfl,by decide +kernel,by decide +kernel⟩
abbrev oZ:Stmt:=top 55
theorem Nh:aT ["_law_kind"] ["_law_kind"] (ag oZ):=⟨rfl,rfl,rfl,by decide +kernel,rfl,by decide +kernel,by decide +kernel⟩
abbrev tZ:Stmt:=top 56
theorem Pf:aT [] [] (ag tZ):=⟨rfl,rfl,rfl,by decide +kernel,rfl,by decide +kernel,by decide +kernel⟩
abbrev t5:Stmt:=top 57
theorem Pg:aT ["_law_m","_law_number"] ["_law_m","_law_number"] (ag t5):=⟨rfl,rfl,rfl,by decide +kernel,rfl,by decide +kernel,by decide +kernel⟩
abbrev t6:Stmt:=top 58
theorem Bd:aT ["_law_m","_law_bar_here"] ["_law_m"] (ag t6):=⟨rfl,rfl,rfl,by decide +kernel,rfl,by decide +kernel,by decide +kernel⟩
abbrev lN:Stmt:=top 59
theorem uJ:aT ["_law_m","_law_motion","_law_kind","_law_top"] ["_law_m","_law_motion"] (ag lN):=⟨rfl,rfl,rfl,by decide +kernel,rfl,by decide +kernel,by decide +kernel⟩
abbrev o8:Stmt:=top 60
theorem jz:aT ["_law_m","_law_motion","_law_matter","_law_change","_law_word_here","_law_at","_law_clause_here","_law_until"] ["_law_m","_law_motion"] (ag o8):=⟨rfl,rfl,rfl,by decide +kernel,rfl,by decide +kernel,by decide +kernel⟩
abbrev lO:Stmt:=top 61
theorem Be:aT ["_law_m","_law_word_here","_law_number"] ["_law_m","_law_word_here"] (ag lO):=⟨rfl,rfl,rfl,by decide +kernel,rfl,by decide +kernel,by decide +kernel⟩
abbrev lP:Stmt:=top 62
theorem uK:aT ["_law_m","_law_ayes","_law_noes","_law_seats_here","_law_kept"] ["_law_m","_law_ayes","_law_noes","_law_seats_here"] (ag lP):=⟨rfl,rfl,rfl,by decide +kernel,rfl,by decide +kernel,by decide +kernel⟩
abbrev lQ:Stmt:=top 63
theorem uL:aT ["_law_m","_law_number","_law_until","_law_pile"] ["_law_m","_law_number"] (ag lQ):=⟨rfl,rfl,rfl,by decide +kernel,rfl,by decide +kernel,by decide +kernel⟩
abbrev t7:Stmt:=top 64
theorem Gj:aT ["_law_m","_law_deed_here","_law_seats_here","_law_lack"] ["_law_m","_law_deed_here","_law_seats_here"] (ag t7):=⟨rfl,rfl,rfl,by decide +kernel,rfl,by decide +kernel,by decide +kernel⟩
abbrev o9:Stmt:=top 66
theorem pb:aT ["_law_cell","_law_seats_here","_law_ayes","_law_noes"] ["_law_cell","_law_seats_here"] (ag o9):=⟨rfl,rfl,rfl,by decide +kernel,rfl,by decide +kernel,by decide +kernel⟩
abbrev jA:Stmt:=top 67
theorem yF:aT ["_law_m","_law_way","_law_top"] ["_law_m","_law_way"] (ag jA):=⟨rfl,rfl,rfl,by decide +kernel,rfl,by decide +kernel,by decide +kernel⟩
abbrev l8:Stmt:=top 68
theorem eE:aT ["_law_m","_law_cell","_law_seats_here","_law_way","_law_more","_law_size","_law_clause_here","_law_bottom","_law_top"] ["_law_m","_law_cell","_law_seats_here"] (ag l8):=⟨rfl,rfl,rfl,by decide +kernel,rfl,by decide +kernel,by decide +kernel⟩
abbrev vR:Scope:={ kind:=.function,names:=[(ar ".0",.local),(ar "_law_k",.local),(ar "_law_clause",.globalImplicit),(ar "_law_more",.free)],isGenerator:=false,isCoroutine:=false,more:=[] }
theorem Gk:dn vR (ag l8) "_law_k" ["_law_m","_law_cell","_law_seats_here","_law_way","_law_more","_law_size","_law_clause_here","_law_bottom","_law_top"] ["_law_m","_law_cell","_law_seats_here","_law_way","_law_more","_law_size","_law_clause_here","_law_bottom","_law_top"]:=⟨rfl,rfl,by decide +kernel,by decide +kernel,rfl,by decide +kernel,by decide +kernel,by decide +kernel,by decide +kernel,rfl,by decide +kernel,by decide +kernel⟩
abbrev pd:Stmt:=top 69
theorem xI:aT ["_law_chamber","_law_deed_here","_law_found"] ["_law_chamber","_law_deed_here"] (ag pd):=⟨rfl,rfl,rfl,by decide +kernel,rfl,by decide +kernel,by decide +kernel⟩
abbrev lR:Stmt:=top 70
theorem J8:aT ["_law_cell"] ["_law_cell"] (ag lR):=⟨rfl,rfl,rfl,by decide +kernel,rfl,by decide +kernel,by decide +kernel⟩
abbrev jB:Stmt:=top 71
theorem Gm:aT ["_law_below","_law_one"] ["_law_below","_law_one"] (ag jB):=⟨rfl,rfl,rfl,by decide +kernel,rfl,by decide +kernel,by decide +kernel⟩
abbrev fQ:Stmt:=top 72
theorem iT:aT ["_law_told","_law_below","_law_one"] ["_law_told"] (ag fQ):=⟨rfl,rfl,rfl,by decide +kernel,rfl,by decide +kernel,by decide +kernel⟩
abbrev r9:Stmt:=top 73
theorem qp:aT ["_law_script","_law_seats_here","_law_chamber","_law_m","_law_cell","_law_deed_here","_law_state_here","_law_piles","_law_pile"] ["_law_script"] (ag r9):=⟨rfl,rfl,rfl,by decide +kernel,rfl,by decide +kernel,by decide +kernel⟩
abbrev Dv:Scope:={ kind:=.function,names:=[(ar ".0",.local),(ar "_law_number",.local),(ar "_law_until",.local),(ar "_law_pile",.local)],isGenerator:=false,isCoroutine:=false,more:=[] }
theorem vS:iq Dv (ag r9) ["_law_number","_law_until","_law_pile"] ["_law_script","_law_seats_here","_law_chamber","_law_m","_law_cell","_law_deed_here","_law_state_here","_law_piles","_law_pile"] ["_law_script","_law_seats_here","_law_chamber","_law_m","_law_cell","_law_deed_here","_law_state_here","_law_piles",""]:=⟨rfl,rfl,by decide +kernel,by decide +kernel,by decide +kernel,by decide +kernel,by decide +kernel,by decide +kernel,by decide +kernel,rfl,by decide +kernel,by decide +kernel⟩
abbrev Dw:Scope:={ kind:=.function,names:=[(ar ".0",.local),(ar "_law_number",.local),(ar "_law_chamber",.free)],isGenerator:=false,isCoroutine:=false,more:=[] }
theorem Ph:dn Dw (ag r9) "_law_number" ["_law_script","_law_seats_here","_law_chamber","_law_m","_law_cell","_law_deed_here","_law_state_here","_law_piles","_law_pile"] ["_law_script","_law_seats_here","_law_chamber","_law_m","_law_cell","_law_deed_here","_law_state_here","_law_piles","_law_pile"]:=⟨rfl,rfl,by decide +kernel,by decide +kernel,rfl,by decide +kernel,by decide +kernel,by decide +kernel,by decide +kernel,rfl,by decide +kernel,by decide +kernel⟩
structure Adr where
 fits:Addr
 Ar:kg
 kB:Addr
 gg:kg
 laid:Addr
 vT:kg
 words_of:Addr
 eR:kg
 pf:Addr
 iU:kg
 lS:Addr
 gK:kg
 Bf:Addr
 ph:kg
 l9:Addr
 g7:kg
 jY:Addr
 gL:kg
 fX:Addr
 dQ:kg
 gM:Addr
 d7:kg
 jZ:Addr
 gN:kg
 j2:Addr
 gO:kg
 lu:Addr
 ia:kg
 lT:Addr
 gP:kg
 As:Addr
 qr:kg
 t8:Addr
 lx:kg
 Bg:Addr
 pj:kg
 vU:Addr
 nh:kg
 ET:Addr
 t9:kg
 Bh:Addr
 pq:kg
 EU:Addr
 ua:kg
 qt:Addr
 ir:kg
 xJ:Addr
 lU:kg
 Ma:Addr
 vV:kg
 vW:Addr
 iV:kg
 Gn:Addr
 sf:kg
 Au:Addr
 qu:kg
 EV:Addr
 ub:kg
 vX:Addr
 md:kg
 Av:Addr
 qv:kg
 Aw:Addr
 qw:kg
 Mb:Addr
 vY:kg
 EW:Addr
 uc:kg
 vZ:Addr
 ni:kg
 EX:Addr
 ud:kg
 Bi:Addr
 pw:kg
 Ax:Addr
 qy:kg
 wb:Addr
 nj:kg
 nq:Addr
 iW:kg
 j3:Tok
 c0:Addr
 c1:Addr
 c2:Addr
 c3:Addr
 c4:Addr
 c5:Addr
 c6:Addr
 c7:Addr
 Cm:Addr
 tab:Addr
 V3:Addr
 Pj:kg
 V4:Addr
 Pk:kg
 V5:Addr
 Pl:kg
 V6:Addr
 Pm:kg
 V7:Addr
 Pn:kg
 V8:Addr
 Po:kg
 V9:Addr
 Pp:kg
 Wa:Addr
 Pq:kg
 f_r:Addr
 Sa:kg
 f_n:Addr
 EY:kg
 Wb:Addr
 Pr:kg
 f_t:Addr
 Pt:kg
 Wc:Addr
 Pu:kg
 We:Addr
 Pw:kg
 Wf:Addr
 Px:kg
 Wg:Addr
 Py:kg
 Wh:Addr
 Pz:kg
 Ni:Addr
 Dx:kg
 Nj:Addr
 Dy:kg
 PB:Addr
 Gp:kg
 PD:Addr
 Gq:kg
 PF:Addr
 Gr:kg
 ax:Addr
 cc:Addr
 ib:kg
 cf:Addr
 ic:kg
 cg:Addr
 ie:kg
 cj:Addr
 ig:kg
 ck:Addr
 ij:kg
 bW:Addr
 gQ:kg
 bN:Addr
 fY:kg
 bF:Addr
 dC:kg
 bx:Addr
 dG:kg
 a4:Addr
 bZ:kg
 bb:Addr
 bU:kg
 bG:Addr
 dR:kg
 bh:Addr
 cq:kg
 bB:Addr
 dS:kg
 bp:Addr
 cQ:kg
 bq:Addr
 cS:kg
 bC:Addr
 dU:kg
 bH:Addr
 ue:Addr
 mf:Addr
 qz:Addr
 qA:Addr
 jC:Addr
 pz:Addr
 uf:Addr
 ug:Addr
 pA:Addr
 qB:Addr
 sg:Addr
 pB:kg
 qC:Addr
 nr:kg
 wc:Addr
 uh:kg
def Adr.C (A:Adr):Nat->Addr
 | 0=>A.c0
 | 1=>A.c1
 | 2=>A.c2
 | 3=>A.c3
 | 4=>A.c4
 | 5=>A.c5
 | 6=>A.c6
 |_=>A.c7
def Adr.fk (A:Adr):Nat->Addr
 | 0=>A.V3
 | 1=>A.V4
 | 2=>A.V5
 | 3=>A.V6
 | 4=>A.V7
 | 5=>A.V8
 | 6=>A.V9
 |_=>A.Wa
def Adr.fkd (A:Adr):Nat->kg
 | 0=>A.Pj
 | 1=>A.Pk
 | 2=>A.Pl
 | 3=>A.Pm
 | 4=>A.Pn
 | 5=>A.Po
 | 6=>A.Pp
 |_=>A.Pq
def Adr.fn (A:Adr):Nat->Addr
 | 0=>A.f_n
 | 1=>A.f_n
 | 2=>A.f_n
 | 3=>A.f_n
 | 4=>A.Wb
 | 5=>A.f_n
 | 6=>A.f_n
 |_=>A.f_n
def Adr.fnd (A:Adr):Nat->kg
 | 0=>A.EY
 | 1=>A.EY
 | 2=>A.EY
 | 3=>A.EY
 | 4=>A.Pr
 | 5=>A.EY
 | 6=>A.EY
 |_=>A.EY
def Adr.ft (A:Adr):Nat->Addr
 | 0=>A.Wc
 | 1=>A.We
 | 2=>A.Wf
 | 3=>A.Wg
 | 4=>A.f_t
 | 5=>A.f_t
 | 6=>A.f_t
 |_=>A.Wh
def Adr.ftd (A:Adr):Nat->kg
 | 0=>A.Pu
 | 1=>A.Pw
 | 2=>A.Px
 | 3=>A.Py
 | 4=>A.Pt
 | 5=>A.Pt
 | 6=>A.Pt
 |_=>A.Pz
def nm:Nat->Str
 | 0=>ar "matter"
 | 1=>ar "change"
 | 2=>ar "mend"
 | 3=>ar "put off"
 | 4=>ar "close"
 | 5=>ar "lay"
 | 6=>ar "rest"
 |_=>ar "point"
structure Txt (P:Params)(K:ba)(mg:Str->Option Value)(A:Adr):Prop where
 J9:Fun K "fits" "fits" xG A.fits A.Ar
 PH:Binds K A.Ar ["things","edit"] []
 PK:mg "fits"=some (.ref A.fits)
 g8:Fun K "require_fit" "require_fit" fP A.kB A.gg
 j4:Binds K A.gg ["things","edit"] []
 j5:mg "require_fit"=some (.ref A.kB)
 EZ:Fun K "laid" "laid" xH A.laid A.vT
 Ka:Binds K A.vT ["things","edit"] []
 Kb:mg "laid"=some (.ref A.laid)
 iu:Fun K "words_of" "words_of" jw A.words_of A.eR
 jD:Binds K A.eR ["clause"] []
 jE:mg "words_of"=some (.ref A.words_of)
 nv:Fun K "clause_of" "clause_of" iH A.pf A.iU
 sj:Binds K A.iU ["words"] []
 sv:mg "clause_of"=some (.ref A.pf)
 ny:Fun K "motion_of" "motion_of" iI A.lS A.gK
 yG:Binds K A.gK ["told"] []
 yH:mg "motion_of"=some (.ref A.lS)
 we:Fun K "bar_of" "bar_of" oO A.Bf A.ph
 Bj:Binds K A.ph ["pile","closed"] []
 Bk:mg "bar_of"=some (.ref A.Bf)
 ly:Fun K "has_matter" "has_matter" eW A.l9 A.g7
 qD:Binds K A.g7 ["pile"] []
 qE:mg "has_matter"=some (.ref A.l9)
 kS:Fun K "can_be_mended" "can_be_mended" dM A.jY A.gL
 qX:Binds K A.gL ["pile"] []
 qY:mg "can_be_mended"=some (.ref A.jY)
 gW:Fun K "has_what_it_needs" "has_what_it_needs" cH A.fX A.dQ
 k9:Binds K A.dQ ["kind","pile"] []
 lb:mg "has_what_it_needs"=some (.ref A.fX)
 iw:Fun K "require_in_order" "require_in_order" cL A.gM A.d7
 mh:Binds K A.d7 ["kind","pile","closed"] []
 mi:mg "require_in_order"=some (.ref A.gM)
 kT:Fun K "words_of_text" "words_of_text" dN A.jZ A.gN
 qZ:Binds K A.gN ["text"] []
 q0:mg "words_of_text"=some (.ref A.jZ)
 kU:Fun K "words_of_edit" "words_of_edit" dO A.j2 A.gO
 q5:Binds K A.gO ["edit"] []
 q8:mg "words_of_edit"=some (.ref A.j2)
 mj:Fun K "words_behind" "words_behind" dB A.lu A.ia
 sx:Binds K A.ia ["deed"] []
 sy:mg "words_behind"=some (.ref A.lu)
 kD:Fun K "show_deed" "show_deed" iJ A.lT A.gP
 nz:Binds K A.gP ["deed"] []
 nA:mg "show_deed"=some (.ref A.lT)
 xK:Fun K "is_kept" "is_kept" lK A.As A.qr
 Dz:Binds K A.qr ["need","ayes","noes"] []
 DA:mg "is_kept"=some (.ref A.As)
 sA:Fun K "_law_cell_at" "_law_cell_at" iK A.t8 A.lx
 yI:Binds K A.lx ["_law_script","_law_k"] []
 yJ:mg "_law_cell_at"=some (.ref A.t8)
 wg:Fun K "_law_word" "_law_word" oU A.Bg A.pj
 Bl:Binds K A.pj ["_law_cell"] []
 Bm:mg "_law_word"=some (.ref A.Bg)
 mq:Fun K "_law_clause" "_law_clause" jy A.vU A.nh
 qF:Binds K A.nh ["_law_cell"] []
 qG:mg "_law_clause"=some (.ref A.vU)
 wj:Fun K "_law_edit" "_law_edit" oW A.ET A.t9
 Bn:Binds K A.t9 ["_law_cell","_law_size","_law_thing"] []
 Bo:mg "_law_edit"=some (.ref A.ET)
 pD:Fun K "_law_fits" "_law_fits" oX A.Bh A.pq
 sC:Binds K A.pq ["_law_things","_law_edit_here"] []
 sD:mg "_law_fits"=some (.ref A.Bh)
 wk:Fun K "_law_laid" "_law_laid" oY A.EU A.ua
 Bp:Binds K A.ua ["_law_things","_law_edit_here"] []
 Bq:mg "_law_laid"=some (.ref A.EU)
 lV:Fun K "_law_words" "_law_words" lL A.qt A.ir
 pE:Binds K A.ir ["_law_clause_here"] []
 pF:mg "_law_words"=some (.ref A.qt)
 pG:Fun K "_law_rank" "_law_rank" oZ A.xJ A.lU
 sE:Binds K A.lU ["_law_kind"] []
 sF:mg "_law_rank"=some (.ref A.xJ)
 E1:Fun K "_law_new" "_law_new" tZ A.Ma A.vV
 Mc:Binds K A.vV [] []
 Md:mg "_law_new"=some (.ref A.Ma)
 iX:Fun K "_law_now" "_law_now" t5 A.vW A.iV
 j6:Binds K A.iV ["_law_m","_law_number"] []
 j7:mg "_law_now"=some (.ref A.vW)
 wm:Fun K "_law_bar" "_law_bar" t6 A.Gn A.sf
 Ay:Binds K A.sf ["_law_m"] []
 Az:mg "_law_bar"=some (.ref A.Gn)
 xM:Fun K "_law_lacks" "_law_lacks" lN A.Au A.qu
 DB:Binds K A.qu ["_law_m","_law_motion"] []
 DC:mg "_law_lacks"=some (.ref A.Au)
 Br:Fun K "_law_keep" "_law_keep" o8 A.EV A.ub
 Gs:Binds K A.ub ["_law_m","_law_motion"] []
 Gu:mg "_law_keep"=some (.ref A.EV)
 ui:Fun K "_law_ended" "_law_ended" lO A.vX A.md
 xN:Binds K A.md ["_law_m","_law_word_here"] []
 xO:mg "_law_ended"=some (.ref A.vX)
 xP:Fun K "_law_voted" "_law_voted" lP A.Av A.qv
 DD:Binds K A.qv ["_law_m","_law_ayes","_law_noes","_law_seats_here"] []
 DE:mg "_law_voted"=some (.ref A.Av)
 xQ:Fun K "_law_taken" "_law_taken" lQ A.Aw A.qw
 DF:Binds K A.qw ["_law_m","_law_number"] []
 DG:mg "_law_taken"=some (.ref A.Aw)
 E2:Fun K "_law_due" "_law_due" t7 A.Mb A.vY
 Me:Binds K A.vY ["_law_m","_law_deed_here","_law_seats_here"] []
 Mf:mg "_law_due"=some (.ref A.Mb)
 Bs:Fun K "_law_vote" "_law_vote" o9 A.EW A.uc
 Gv:Binds K A.uc ["_law_cell","_law_seats_here"] []
 Gw:mg "_law_vote"=some (.ref A.EW)
 uM:Fun K "_law_guided" "_law_guided" jA A.vZ A.ni
 Bt:Binds K A.ni ["_law_m","_law_way"] []
 Bu:mg "_law_guided"=some (.ref A.vZ)
 Bv:Fun K "_law_deed" "_law_deed" l8 A.EX A.ud
 Gx:Binds K A.ud ["_law_m","_law_cell","_law_seats_here"] []
 Gy:mg "_law_deed"=some (.ref A.EX)
 Bw:Fun K "_law_done" "_law_done" pd A.Bi A.pw
 Gz:Binds K A.pw ["_law_chamber","_law_deed_here"] []
 GA:mg "_law_done"=some (.ref A.Bi)
 xR:Fun K "_law_seats" "_law_seats" lR A.Ax A.qy
 DH:Binds K A.qy ["_law_cell"] []
 DI:mg "_law_seats"=some (.ref A.Ax)
 uN:Fun K "_law_stands" "_law_stands" jB A.wb A.nj
 Bx:Binds K A.nj ["_law_below","_law_one"] []
 By:mg "_law_stands"=some (.ref A.wb)
 nP:Fun K "_law_pile_good" "_law_pile_good" fQ A.nq A.iW
 uz:Binds K A.iW ["_law_told"] []
 uA:mg "_law_pile_good"=some (.ref A.nq)
 AA:mg "range"=none
 sG:mg "list"=none
 E3:mg "isinstance"=none
 q9:mg "len"=none
 GB:mg "max"=none
 T5:mg "any"=none
 PL:mg "str"=none
 Bz:mg "sorted"=none
 PM:mg "int"=none
 E4:mg "ValueError"=none
 wo:mg "CLOSED_BAR"=some (.int 4 A.j3)
 cl:∀k,k < 8->Cls K (A.C k)
 wq:mg "Matter"=some (.ref (A.C 0))
 wu:mg "Change"=some (.ref (A.C 1))
 Kc:mg "Mend"=some (.ref (A.C 2))
 BA:mg "PutOff"=some (.ref (A.C 3))
 E5:mg "Close"=some (.ref (A.C 4))
 PN:mg "Lay"=some (.ref (A.C 5))
 Kd:mg "Rest"=some (.ref (A.C 6))
 E6:mg "Point"=some (.ref (A.C 7))
 E7:mg "RANKS"=some (.ref A.tab)
 tb:Z7 P K A.tab
 rk:∀k,k < 8->∃t,di K A.tab (nm k)=some (some (.int k t))
 nQ:∀k,k < 8->Meth K (A.C k) "kind" (A.fk k)
 nR:∀k,k < 8->Binds K (A.fkd k) ["self"] []
 PQ:∀k,k < 8->Meth K (A.C k) "need" (A.fn k)
 PR:∀k,k < 8->Binds K (A.fnd k) ["self"] []
 Ke:∀k,k < 8->Meth K (A.C k) "told" (A.ft k)
 Kf:∀k,k < 8->Binds K (A.ftd k) ["self"] []
 PU:∀k,k < 8->Meth K (A.C k) "rank" A.f_r
 PV:∀k,k < 8->Binds K A.Sa ["self"] []
 aal:Fun K "kind" "Matter.kind" fw A.V3 A.Pj
 aam:Fun K "kind" "Change.kind" fA A.V4 A.Pk
 aan:Fun K "kind" "Mend.kind" iD A.V5 A.Pl
 aao:Fun K "kind" "PutOff.kind" fB A.V6 A.Pm
 aap:Fun K "kind" "Close.kind" gF A.V7 A.Pn
 aaq:Fun K "kind" "Lay.kind" jv A.V8 A.Po
 aar:Fun K "kind" "Rest.kind" iE A.V9 A.Pp
 aas:Fun K "kind" "Point.kind" gG A.Wa A.Pq
 F_r:Fun K "rank" "Motion.rank" fD A.f_r A.Sa
 F_n:Fun K "need" "Motion.need" fE A.f_n A.EY
 aat:Fun K "need" "Close.need" gH A.Wb A.Pr
 F_t:Fun K "told" "Motion.told" fF A.f_t A.Pt
 aau:Fun K "told" "Matter.told" fG A.Wc A.Pu
 aav:Fun K "told" "Change.told" fH A.We A.Pw
 aaw:Fun K "told" "Mend.told" iF A.Wf A.Px
 aax:Fun K "told" "PutOff.told" fJ A.Wg A.Py
 aay:Fun K "told" "Point.told" gI A.Wh A.Pz
 aaz:Fun K "__init__" "Matter.__init__" fK A.Ni A.Dx
 aaA:Fun K "__init__" "Change.__init__" fL A.Nj A.Dy
 aaB:Fun K "__init__" "Mend.__init__" iG A.PB A.Gp
 aaC:Fun K "__init__" "PutOff.__init__" fM A.PD A.Gq
 aaD:Fun K "__init__" "Point.__init__" gJ A.PF A.Gr
 wy:Mk K (A.C 0) A.Ni
 Sb:Binds K A.Dx ["self","text"] []
 na0:dA K (A.C 0) "text"
 wz:Mk K (A.C 1) A.Nj
 Sd:Binds K A.Dy ["self","edit"] []
 na1:dA K (A.C 1) "edit"
 Kg:Mk K (A.C 2) A.PB
 Wi:Binds K A.Gp ["self","edit"] []
 na2:dA K (A.C 2) "edit"
 BB:Mk K (A.C 3) A.PD
 Wj:Binds K A.Gq ["self","sitting"] []
 na3:dA K (A.C 3) "sitting"
 E8:Mk K (A.C 7) A.PF
 Wk:Binds K A.Gr ["self","clause"] []
 na7:dA K (A.C 7) "clause"
 mkn:∀k,k=4\/k=5\/k=6->MkN K (A.C k)
 DJ:mg "Chamber"=some (.ref A.ax)
 aq:Cls K A.ax
 gh:Fun K "__init__" "Chamber.__init__" eu A.cc A.ib
 iY:Binds K A.ib ["self","seats"] []
 DK:Mk K A.ax A.cc
 gi:Fun K "move" "Chamber.move" eA A.cf A.ic
 iZ:Binds K A.ic ["self","told"] []
 sH:Meth K A.ax "move" A.cf
 gj:Fun K "vote" "Chamber.vote" eB A.cg A.ie
 i3:Binds K A.ie ["self","ayes","noes"] []
 sI:Meth K A.ax "vote" A.cg
 gk:Fun K "drop" "Chamber.drop" eC A.cj A.ig
 i4:Binds K A.ig ["self"] []
 sJ:Meth K A.ax "drop" A.cj
 gq:Fun K "take" "Chamber.take" eD A.ck A.ij
 i5:Binds K A.ij ["self","number"] []
 sL:Meth K A.ax "take" A.ck
 fm:Fun K "state" "Chamber.state" cY A.bW A.gQ
 il:Binds K A.gQ ["self"] []
 rg:Meth K A.ax "state" A.bW
 eF:Fun K "motion" "Chamber.motion" dq A.bN A.fY
 eG:Binds K A.fY ["self","number"] []
 jF:Meth K A.ax "motion" A.bN
 dW:Fun K "pending" "Chamber.pending" cA A.bF A.dC
 dX:Binds K A.dC ["self"] []
 i6:Meth K A.ax "pending" A.bF
 cT:Fun K "told_aside" "Chamber.told_aside" cn A.bx A.dG
 dY:Binds K A.dG ["self","number"] []
 kF:Meth K A.ax "told_aside" A.bx
 bL:Fun K "require_can_be_made" "Chamber.require_can_be_made" bA A.a4 A.bZ
 b8:Binds K A.bZ ["self","told"] []
 eS:Meth K A.ax "require_can_be_made" A.a4
 b6:Fun K "require_pending" "Chamber.require_pending" bM A.bb A.bU
 b7:Binds K A.bU ["self"] []
 dH:Meth K A.ax "require_pending" A.bb
 eI:Fun K "decide" "Chamber.decide" du A.bG A.dR
 eJ:Binds K A.dR ["self","word"] []
 jG:Meth K A.ax "decide" A.bG
 cB:Fun K "end_decision" "Chamber.end_decision" bY A.bh A.cq
 cC:Binds K A.cq ["self","deed"] []
 eX:Meth K A.ax "end_decision" A.bh
 c8:Fun K "carry_out" "Chamber.carry_out" cF A.bB A.dS
 d8:Binds K A.dS ["self","motion"] []
 lh:Meth K A.ax "carry_out" A.bB
 cv:Fun K "lay_on_matter" "Chamber.lay_on_matter" bS A.bp A.cQ
 cV:Binds K A.cQ ["self","edit"] []
 iL:Meth K A.ax "lay_on_matter" A.bp
 cw:Fun K "lay_on_change" "Chamber.lay_on_change" bT A.bq A.cS
 cW:Binds K A.cS ["self","edit"] []
 iM:Meth K A.ax "lay_on_change" A.bq
 dc:Fun K "put_aside" "Chamber.put_aside" cG A.bC A.dU
 df:Binds K A.dU ["self","until"] []
 gX:Meth K A.ax "put_aside" A.bC
 jqq:dA K A.ax "seats"
 jq1:dA K A.ax "sitting"
 jq4:dA K A.ax "closed"
 jq2:dA K A.ax "made"
 jq0:dA K A.ax "pile"
 jq3:dA K A.ax "aside"
 jqj:dA K A.ax "decided"
 jqb:dA K A.ax "first_texts"
 jq5:dA K A.ax "edits_kept"
 jqk:dA K A.ax "rows"
 gu:mg "ChamberError"=some (.ref A.bH)
 Mg:mg "NoFit"=some (.ref A.ue)
 BC:mg "Barred"=some (.ref A.mf)
 BD:mg "NoMatter"=some (.ref A.qz)
 BE:mg "NoChange"=some (.ref A.qA)
 BF:mg "NotLater"=some (.ref A.jC)
 DL:mg "Nothing"=some (.ref A.pz)
 DM:mg "TooMany"=some (.ref A.uf)
 DN:mg "NoAside"=some (.ref A.ug)
 GC:mg "NotYet"=some (.ref A.pA)
 BG:mg "NoNumber"=some (.ref A.qB)
 ip:T2 K A.bH
 GD:F7 K A.ue
 jqo:ajP K (.ref A.ue) (.ref A.bH)=some true
 yK:F7 K A.qz
 jqc:ajP K (.ref A.qz) (.ref A.bH)=some true
 yL:F7 K A.qA
 jqd:ajP K (.ref A.qA) (.ref A.bH)=some true
 BH:F7 K A.pz
 jqg:ajP K (.ref A.pz) (.ref A.bH)=some true
 BI:F7 K A.uf
 jqh:ajP K (.ref A.uf) (.ref A.bH)=some true
 BJ:F7 K A.ug
 jqi:ajP K (.ref A.ug) (.ref A.bH)=some true
 yM:F7 K A.qB
 jqe:ajP K (.ref A.qB) (.ref A.bH)=some true
 mr:Fun K "__init__" "Barred.__init__" fN A.sg A.pB
 mw:Binds K A.pB ["self","bar"] []
 pH:EF K A.mf A.sg "bar"
 jql:ajP K (.ref A.mf) (.ref A.bH)=some true
 i7:Fun K "__init__" "NotLater.__init__" dJ A.qC A.nr
 lz:Binds K A.nr ["self","sitting"] []
 nB:EF K A.jC A.qC "sitting"
 jqf:ajP K (.ref A.jC) (.ref A.bH)=some true
 mx:Fun K "__init__" "NotYet.__init__" fO A.wc A.uh
 qH:Binds K A.uh ["self","sitting"] []
 uj:EF K A.pA A.wc "sitting"
 jqm:ajP K (.ref A.pA) (.ref A.bH)=some true
end My
set_option maxHeartbeats 1000000
namespace My
open PySem L2
seal PySem.wpAny
theorem sl (n:Nat)(h:n<=64:=by decide):n<=ka:=tm h (by decide)
abbrev bl1:Str:=ar " "
def Asc (x:Str):Prop:=∀c∈x.cps.toList,c < 128
theorem Asc.ok {x:Str}(h:Asc x):akt x=true:=by
 unfold akt;rw[Array.all_eq_true];intro i hi;have:=h x.cps[i] (by simp)
 exact decide_eq_true (by omega)
theorem pI {sep:Str}(hs:Asc sep):∀ws:List Str,(∀w∈ws,Asc w)->Asc (sr sep ws)
 |[],_=>λc hc=>by
  have:c∈([]:List Nat):=hc;cases this
 |[x],h=>h x fu
 |x::y::r,h=>λc hc=>by
  have hc':c∈((x++sep)++sr sep (y::r)).cps.toList:=hc;rw[eV,eV,List.mem_append,List.mem_append]at hc';rcases hc' with (h1 | h1) | h1
  ·exact h x fu c h1
  ·exact hs c h1
  ·exact pI hs (y::r) (λw hw=>h w (ky _ hw)) c h1
structure Sh (n:Nat)(x:Str):Prop where
 asc:Asc x
 len:x.length<=n
structure Ed where
 k:Nat
 at_:Int
 th:Str
def kn:Nat->Str
 | 0=>ar "put"
 | 1=>ar "cut"
 |_=>ar "turn"
def eK (e:Ed):List V:=match e.k with
 | 0=>[.str (kn 0),.int e.at_,.str e.th]
 | 1=>[.str (kn 1),.int e.at_]
 |_=>[.str (kn 2),.int e.at_,.str e.th]
def edD (e:Ed):PyData:=match e.k with
 | 0=>.tuple [.str (kn 0),.int e.at_,.str e.th]
 | 1=>.tuple [.str (kn 1),.int e.at_]
 |_=>.tuple [.str (kn 2),.int e.at_,.str e.th]
structure rE (e:Ed):Prop where
 k3:e.k=0\/e.k=1\/e.k=2
 lo:-1000<=e.at_
 hi:e.at_<=1000
 th:Sh 100000 e.th
def gv (n:Nat)(e:Ed):Bool:=decide (0<=e.at_) && decide (e.at_ < (n:Int)+(if e.k=0 then 1 else 0))
def bE (xs:List Str)(e:Ed):List Str:=match e.k with
 | 0=>xs.take e.at_.toNat++e.th::xs.drop e.at_.toNat
 | 1=>xs.eraseIdx e.at_.toNat
 |_=>xs.set e.at_.toNat e.th
theorem nS (e:Ed):atI (eK e) 0=some (.str (kn e.k)):=by
 unfold eK;split
 ·rename_i h;rw[h];rfl
 ·rename_i h;rw[h];rfl
 ·rename_i h1 h2;have:kn e.k=kn 2:=by
   unfold kn;split
   ·rename_i h;exact absurd h h1
   ·rename_i h;exact absurd h h2
   ·rfl
  rw[this];rfl
theorem uO (e:Ed):atI (eK e) 1=some (.int e.at_):=by
 unfold eK;split <;> rfl
theorem uP {e:Ed}(h:e.k≠1):atI (eK e) 2=some (.str e.th):=by
 unfold eK;split
 ·rfl
 ·rename_i z;exact absurd z h
 ·rfl
theorem Wl (e:Ed){K:ba}{H:Hp}{t:Addr}(h:SqT K H t (eK e)):DV K H (edD e) (.ref t):=by
 unfold eK at h;unfold edD;split
 ·rename_i z;rw[z]at h;unfold DV;exact⟨t,_,rfl,h,by unfold DVs;exact⟨_,_,rfl,by unfold DV;rfl,by unfold DVs;exact⟨_,_,rfl,by unfold DV;rfl,by unfold DVs;exact⟨_,_,rfl,by unfold DV;rfl,by unfold DVs;rfl⟩⟩⟩⟩
 ·rename_i z;rw[z]at h;unfold DV;exact⟨t,_,rfl,h,by unfold DVs;exact⟨_,_,rfl,by unfold DV;rfl,by unfold DVs;exact⟨_,_,rfl,by unfold DV;rfl,by unfold DVs;rfl⟩⟩⟩
 ·rename_i z1 z2;split at h
  ·rename_i z;exact absurd z z1
  ·rename_i z;exact absurd z z2
  ·unfold DV;exact⟨t,_,rfl,h,by unfold DVs;exact⟨_,_,rfl,by unfold DV;rfl,by unfold DVs;exact⟨_,_,rfl,by unfold DV;rfl,by unfold DVs;exact⟨_,_,rfl,by unfold DV;rfl,by unfold DVs;rfl⟩⟩⟩⟩
theorem DO {i:Int}(h0:-1000<=i)(h1:i<=1000):i.natAbs.log2 < 1920:=by
 have h:i.natAbs < 2 ^ 10:=by omega
 by_cases hz:i.natAbs=0
 ·rw[hz];decide
 ·exact Nat.lt_trans ((Nat.log2_lt hz).mpr h) (by decide)
theorem PX {e:Ed}(o:rE e):(edD e).showable=true/\(edD e).hasDict=false/\(edD e).depth<=60:=by
 have lg:=DO o.lo o.hi;unfold edD;split <;> simp[PyData.showable,PyData.showableAll,PyData.hasDict,PyData.hasDictAll,PyData.depth,PyData.depthAll,lg]
theorem Se {i:Int}(h0:-1000<=i)(h1:i<=1000):(ar (toString i)).length<=1921:=by
 have h:=int_text_length_le (a:=i) (k:=1920) (by decide) (DO h0 h1)
 have e:(ar (toString i)).length=(toString i).length:=by first | exact PySem.ofString_length _ | exact ofString_length _
 omega
theorem Sh.rep {n:Nat}{x:Str}(s:Sh n x):(reprText x).length<=10 * n+2:=by
 have h:=StrLaws.reprText_len x λc hc=>Nat.lt_trans (s.asc c hc) (by decide)
 have:=s.len;omega
theorem PY (k:Nat):Sh 4 (kn k):=by
 unfold kn;split <;> exact⟨by unfold Asc;decide +kernel,by decide +kernel⟩
theorem Sf {e:Ed}(o:rE e):(edD e).shown.length<=1100000:=by
 have a:=(PY 0).rep;have b:=(PY 1).rep;have c:=(PY 2).rep;have d:=o.th.rep;have i:=Se o.lo o.hi;unfold edD;split
 ·have h:=tupleText_len_le [reprText (kn 0),ar (toString e.at_),reprText e.th];simp only[kj,aki,List.sum_cons,List.sum_nil,ajH,ak0]at h;show (tupleText [reprText (kn 0),ar (toString e.at_),reprText e.th]).length<=_;omega
 ·have h:=tupleText_len_le [reprText (kn 1),ar (toString e.at_)];simp only[kj,aki,List.sum_cons,List.sum_nil,ajH,ak0]at h;show (tupleText [reprText (kn 1),ar (toString e.at_)]).length<=_;omega
 ·have h:=tupleText_len_le [reprText (kn 2),ar (toString e.at_),reprText e.th];simp only[kj,aki,List.sum_cons,List.sum_nil,ajH,ak0]at h;show (tupleText [reprText (kn 2),ar (toString e.at_),reprText e.th]).length<=_;omega
theorem xS {e:Ed}(o:rE e):(V.str (kn e.k)=V.str (ar "put"))↔e.k=0:=by
 rcases o.k3 with h | h | h <;> rw[h] <;> decide +kernel
theorem uQ {e:Ed}(o:rE e):(V.str (kn e.k)=V.str (ar "cut"))↔e.k=1:=by
 rcases o.k3 with h | h | h <;> rw[h] <;> decide +kernel
theorem Mh {e:Ed}(o:rE e):(V.str (kn e.k)=V.str (ar "turn"))↔e.k=2:=by
 rcases o.k3 with h | h | h <;> rw[h] <;> decide +kernel
def BK (K:ba):Sp:=λvs H Q _=>∃(a t:Addr) (xs:List V) (e:Ed),vs=[.ref a,.ref t]/\SqL K H a xs/\SqT K H t (eK e)/\rE e/\Q (.bl (gv xs.length e)) H
def PZ (A:Adr)(K:ba):Sp:=λvs H Q E=>∃(a t:Addr) (xs:List V) (e:Ed),vs=[.ref a,.ref t]/\SqL K H a xs/\SqT K H t (eK e)/\rE e/\(gv xs.length e=true->Q .non H)/\(gv xs.length e=false->E (.ref A.ue) none H)
def Kh (A:Adr)(K:ba):Sp:=λvs H Q E=>∃(a t:Addr) (xs:List Str) (e:Ed),vs=[.ref a,.ref t]/\SqL K H a (xs.map V.str)/\xs.length<=1000/\SqT K H t (eK e)/\rE e /\
 (gv xs.length e=true->∀p,H p=none->Q (.ref p) (upd H p (.lst ((bE xs e).map V.str))))/\(gv xs.length e=false->E (.ref A.ue) none H)
theorem BL {n:Nat}{e:Ed}:gv n e=true↔0<=e.at_/\e.at_ < (n:Int)+(if e.k=0 then 1 else 0):=by
 unfold gv;rw[akw,decide_eq_true_iff,decide_eq_true_iff]
section
variable{P:me}{w:World}{K:ba}{mg:Str->Option Value}{base:Heap}{A:Adr}
theorem P0 {H H':Hp}{t:Addr}{xs:List V}(s:br H H')(h:SqT K H t xs):SqT K H' t xs:=by
 rcases h with (h | ⟨o,h⟩) | h
 ·exact .inl (.inl (s _ _ h))
 ·exact .inl (.inr ⟨o,s _ _ h⟩)
 ·exact .inr h
theorem Sg (T:Txt w.params K mg A):aK P w K mg base CX0 1 A.fits A.Ar ["things","edit"] (BK K):=by
 refine T.J9.ok EN (λvs H Q E h=>?_) (λcdv A' outer s H vs Q E hr h=>?_)
 ·obtain⟨a,t,xs,e,rfl,_⟩:=h;rfl
 ·obtain⟨a,t,xs,e,rfl,ha,ht,o,q⟩:=h;refine⟨_,(ai (a8 (i:=2) EN.nd rfl (adm rfl) (cI dh (by rfl) T.q9 lZ (aa (pv 0) ah)))
 (ai (a5 (ay bu (aJ aL (pv 1) af (λ_ _=>rfl)) ao (aN _))
 (aj (a8 (i:=2) EN.nd rfl (adm rfl) (a6 d6 (pv 2) af)))
 aH)
 (aj (aC (AJ vw rS af (aJ aL (pv 1) af (λ_ _=>rfl)) (pv 2)))))),?_⟩
  refine⟨_,rfl,a,xs,rfl,.inl ha,?_⟩;refine ixv rfl ht (nS e) ⟨rfl,_,rfl,eU (λz=>?_) (λz=>?_)⟩
  ·have hk:e.k=0:=(xS o).mp (of_decide_eq_true z);refine⟨_,rfl,_,_,rfl,rfl,?_⟩;unfold gv at q;rw[if_pos hk]at q;refine ixv rfl ht (uO e) ⟨_,_,rfl,rfl,_,rfl,eU (λz1=>?_) (λz1=>?_)⟩
   ·have h1:0<=e.at_:=of_decide_eq_true z1;rw[decide_eq_true h1,Bool.true_and]at q;exact⟨_,rfl,_,_,rfl,rfl,q⟩
   ·have h1:¬0<=e.at_:=λy=>z1 (decide_eq_true y)
    rw[decide_eq_false h1,Bool.false_and]at q;exact q
  ·have hk:¬e.k=0:=λy=>z (decide_eq_true ((xS o).mpr y))
   unfold gv at q;rw[if_neg hk,Int.add_zero]at q;refine ixv rfl ht (uO e) ⟨_,_,rfl,rfl,_,rfl,eU (λz1=>?_) (λz1=>?_)⟩
   ·have h1:0<=e.at_:=of_decide_eq_true z1;rw[decide_eq_true h1,Bool.true_and]at q;exact⟨_,rfl,_,_,rfl,rfl,q⟩
   ·have h1:¬0<=e.at_:=λy=>z1 (decide_eq_true y)
    rw[decide_eq_false h1,Bool.false_and]at q;exact q
theorem sM (T:Txt w.params K mg A):aK P w K mg base (CXX P w) 2 A.kB A.gg ["things","edit"] (PZ A K):=by
 have Wm:aK P w K mg base CX0 1 A.fits A.Ar ["things","edit"] (BK K):=Sg T;refine T.g8.okX Bc (λvs H Q E h=>?_) (λcdv A' outer s H vs Q E hr h=>?_)
 ·obtain⟨a,t,xs,e,rfl,_⟩:=h;rfl
 ·obtain⟨a,t,xs,e,rfl,ha,ht,o,q1,q2⟩:=h;have Si:=hr;have hgd:=hr.gd;have pJ:=hr.units;refine⟨_,(bD (gU (qk (lX (aV Wm Si rfl T.PK T.J9.kp T.PH .nil aY (aa (pv 0) (aa (pv 1) ah)))))
 (bD (jt T.GD rfl rfl T.Mg (aa (aab hgd pJ (pv 1)) ah)))
 (vJ aH))),?_⟩
  refine⟨_,rfl,_,rfl,a,t,xs,e,rfl,ha,ht,o,_,rfl,?_⟩;cases hf:gv xs.length e with
  |true=>exact bX (q1 hf)
  |false =>
   refine hide λGg hGg=>?_
   obtain⟨s1,s2,s3⟩:=PX o;have s4:=Sf o;refine hGg ?_;refine dP ⟨_,rfl,t,edD e,rfl,Wl e ht,s1,s2,s3,tm (Nat.add_le_add_right s4 _) (by decide +kernel),λz=>?_⟩
   exact⟨(sl 1),q2 hf⟩
theorem Mi (T:Txt w.params K mg A):aK P w K mg base (CXX P w) 3 A.laid A.vT ["things","edit"] (Kh A K):=by
 have j8:aK P w K mg base (CXX P w) 2 A.kB A.gg ["things","edit"] (PZ A K):=sM T;refine T.EZ.okX Aq (λvs H Q E h=>?_) (λcdv A' outer s H vs Q E hr h=>?_)
 ·obtain⟨a,t,xs,e,rfl,_⟩:=h;rfl
 ·obtain⟨a,t,xs,e,rfl,ha,hz,ht,o,q1,q2⟩:=h;have i8:=hr;refine⟨_,(a9 (l4 (vK j8 i8 rfl T.j5 T.g8.kp T.j4 (pax (aa (pv 0) (aa (pv 1) ah)))))
 (a9 (psx (a8 (i:=2) Aq.nd rfl (adm rfl) (aJ aL (pv 1) af (λ_ _=>rfl))))
 (a9 (psx (a8 (i:=3) Aq.nd rfl (adm rfl) (aJ aL (pv 1) af (λ_ _=>rfl))))
 (a9 (psx (a8 (i:=4) Aq.nd rfl (adm rfl) (eh eT (by rfl) T.sG qm (aa (pv 0) ah))))
 (a9 (psx (a5 (ay bu (pv 2) ao (aN _))
 (aj (bJ (gR rf PySem.F.slot_list_insert PySem.F.type_list_insert M9 (pv 4) (aa (pv 3) (aa (aJ aL (pv 1) af (λ_ _=>rfl)) ah)))))
 (aj (a5 (ay bu (pv 2) ao (aN _))
 (aj (bJ (gR rf PySem.F.slot_list_pop PySem.F.type_list_pop ON (pv 4) (aa (pv 3) ah))))
 (aj (AH (aJ aL (pv 1) af (λ_ _=>rfl)) (JE (pv 4) (pv 3) set_list)))))))
 (bD (psx (aC (pv 4))))))))),?_⟩
  refine⟨_,rfl,_,rfl,a,t,_,e,rfl,ha,ht,o,λhf=>?_,λhf=>q2 (by rw[bo]at hf;exact hf)⟩
  refine hide λGg hGg=>?_
  rw[bo]at hf;obtain⟨f0,f1⟩:=BL.mp hf;have q:=q1 hf;have lim:(1001:Nat) < ka:=by decide
  obtain⟨n,hn⟩:∃n:Nat,e.at_=(n:Int):=⟨e.at_.toNat,by omega⟩
  refine hGg ?_;refine ixv rfl ht (nS e) ?_;refine ixv rfl ht (uO e) ?_;refine⟨_,rfl,a,_,rfl,.inl ha,λp hp=>?_⟩
  have sp:br H (upd H p (.lst (xs.map V.str))):=aG hp;have ht':=P0 sp ht;have q:=q p hp;rw[hn];rw[hn]at f1;refine⟨_,rfl,rfl,_,rfl,eU (λz=>?_) (λz=>?_)⟩
  ·have hk:e.k=0:=(xS o).mp (of_decide_eq_true z);rw[if_pos hk]at f1;refine⟨_,rfl,.inl ⟨rfl,_,SqL.of ae⟩,_,rfl,ixv rfl ht' (uP (by omega)) ⟨p,_,_,n,_,rfl,rfl,rfl,ae,(by rw[bo];omega),(by rw[bo];omega),?_⟩⟩
   rw[nc];refine⟨_,rfl,?_⟩;have e1:(bE xs e).map V.str=(xs.map V.str).take n++V.str e.th::(xs.map V.str).drop n:=by
    unfold bE;rw[hk,hn];simp
   rw[e1]at q;exact q
  ·have hk0:¬e.k=0:=λy=>z (decide_eq_true ((xS o).mpr y))
   rw[if_neg hk0,Int.add_zero]at f1;have hlt:n < xs.length:=by omega
   refine⟨_,rfl,rfl,_,rfl,eU (λz2=>?_) (λz2=>?_)⟩
   ·have hk:e.k=1:=(uQ o).mp (of_decide_eq_true z2);refine⟨_,rfl,.inl ⟨rfl,_,SqL.of ae⟩,_,rfl,p,_,(n:Int),n,_,rfl,rfl,ae,by omega,by omega,?_,(by rw[wa (by rw[bo];exact hlt)]),?_⟩
    ·rw[bo];exact(Er (by unfold ixN;rw[if_pos (by omega),if_pos (by omega)];rfl)).1
    ·rw[nc];refine⟨_,rfl,?_⟩;have e1:(bE xs e).map V.str=(xs.map V.str).eraseIdx n:=by
      unfold bE;rw[hk,hn];exact Dk V.str xs _
     rw[e1]at q;exact q
   ·have hk1:¬e.k=1:=λy=>z2 (decide_eq_true ((uQ o).mpr y))
    have hk:e.k=2:=by have:=o.k3;omega
    refine ixv rfl ht' (uP (by omega)) ⟨_,rfl,_,rfl,p,_,(n:Int),n,rfl,rfl,ae,?_,?_⟩
    ·rw[bo];unfold ixN;rw[if_pos (by omega),if_pos (by omega)];rfl
    ·rw[nc];refine⟨_,rfl,?_⟩;have e1:(bE xs e).map V.str=(xs.map V.str).set n (V.str e.th):=by
      unfold bE;rw[hk,hn];simp[List.map_set]
     rw[e1]at q;exact q
end
theorem ajz:∀k,k < 8->akt (nm k)=true
 | 0,_=>by decide +kernel
 | 1,_=>by decide +kernel
 | 2,_=>by decide +kernel
 | 3,_=>by decide +kernel
 | 4,_=>by decide +kernel
 | 5,_=>by decide +kernel
 | 6,_=>by decide +kernel
 | 7,_=>by decide +kernel
 |n+8,h=>absurd h (by omega)
def nd (k:Nat):Str:=if k=4 then ar "two thirds" else ar "more"
def rowOf (k:Nat)(v:V):List V:=match k with
 | 4=>[.str (nm 4)]
 | 5=>[.str (nm 5)]
 | 6=>[.str (nm 6)]
 |k=>[.str (nm k),v]
def pK (k:Nat)(v:V):List (Str×V):=match k with
 | 0=>[(ar "text",v)]
 | 1=>[(ar "edit",v)]
 | 2=>[(ar "edit",v)]
 | 3=>[(ar "sitting",v)]
 | 4=>[]
 | 5=>[]
 | 6=>[]
 |_=>[(ar "clause",v)]
theorem Mj {m:Str}(h:m≠ar "text"/\m≠ar "edit"/\m≠ar "sitting"/\m≠ar "clause")(k:Nat)(v:V):(pK k v).lookup m=none:=by
 obtain⟨h1,h2,h3,h4⟩:=h;have b1:(m == ar "text")=false:=beq_eq_false_iff_ne.mpr h1;have b2:(m == ar "edit")=false:=beq_eq_false_iff_ne.mpr h2;have b3:(m == ar "sitting")=false:=beq_eq_false_iff_ne.mpr h3;have b4:(m == ar "clause")=false:=beq_eq_false_iff_ne.mpr h4;unfold pK;split <;> simp[List.lookup_cons,b1,b2,b3,b4]
theorem lA (k:Nat)(v:V):(pK k v).lookup (ar "kind")=none:=Mj (by decide +kernel) k v
theorem Sj (k:Nat)(v:V):(pK k v).lookup (ar "rank")=none:=Mj (by decide +kernel) k v
theorem Sk (k:Nat)(v:V):(pK k v).lookup (ar "need")=none:=Mj (by decide +kernel) k v
theorem Ml (k:Nat)(v:V):(pK k v).lookup (ar "told")=none:=Mj (by decide +kernel) k v
def fR (k:Nat):Sp:=λvs H Q _=>∃m:Addr,vs=[.ref m]/\Q (.str (nm k)) H
def P1 (A:Adr):Sp:=λvs H Q _=>∃(m:Addr) (k:Nat) (dx:Addr) (fs:List (Str×V)),k < 8/\vs=[.ref m]/\H m=some (.ins (A.C k) dx fs)/\fs.lookup (ar "kind")=none/\Q (.int k) H
def E9 (k:Nat):Sp:=λvs H Q _=>∃m:Addr,vs=[.ref m]/\Q (.str (nd k)) H
def Mm (A:Adr):Sp:=λvs H Q _=>∃(m:Addr) (k:Nat) (dx:Addr) (fs:List (Str×V)),k < 8/\vs=[.ref m]/\H m=some (.ins (A.C k) dx fs)/\fs.lookup (ar "kind")=none/\∀p,H p=none->Q (.ref p) (upd H p (.tup [.str (nm k)]))
def AB (A:Adr)(k:Nat)(a:Str):Sp:=λvs H Q _=>∃(m dx:Addr) (fs:List (Str×V)) (v:V),vs=[.ref m]/\H m=some (.ins (A.C k) dx fs)/\fs.lookup (ar "kind")=none/\fs.lookup a=some v/\∀p,H p=none->Q (.ref p) (upd H p (.tup [.str (nm k),v]))
def Ki (A:Adr)(k:Nat):Sp:=λvs H Q _=>1<=k/\∃(m dx:Addr) (v:V),vs=[.ref m]/\H m=some (.ins (A.C k) dx (pK k v))/\∀p,H p=none->Q (.ref p) (upd H p (.tup (rowOf k v)))
def jH (A:Adr)(k:Nat):Sp:=λvs H Q _=>∃(m dx:Addr) (v:V),vs=[.ref m,v]/\H m=some (.ins (A.C k) dx [])/\Q .non (upd H m (.ins (A.C k) dx (pK k v)))
def Mo (A:Adr)(K:ba):Sp:=λvs H Q _=>∃(m dx L:Addr) (xs:List V),vs=[.ref m]/\H m=some (.ins (A.C 0) dx (pK 0 (.ref L)))/\SqL K H L xs/\∀p q,H p=none->H q=none->p≠q->Q (.ref q) (upd (upd H p (.lst xs)) q (.tup [.str (nm 0),.ref p]))
def AD (A:Adr)(K:ba):Sp:=λvs H Q _=>∃(m dx L:Addr) (xs:List V),vs=[.ref m,.ref L]/\H m=some (.ins (A.C 0) dx [])/\SqL K H L xs/\∀p,H p=none->Q .non (upd (upd H p (.lst xs)) m (.ins (A.C 0) dx (pK 0 (.ref p))))
def Mp (A:Adr):Sp:=λvs H Q _=>∃(t:Addr) (k:Nat) (v:V),1<=k/\k < 8/\vs=[.ref t]/\H t=some (.tup (rowOf k v))/\∀m H',br H H'->H m=none->(∃dx,H' m=some (.ins (A.C k) dx (pK k v)))->Q (.ref m) H'
def GF (A:Adr)(K:ba):Sp:=λvs H Q _=>∃(t L:Addr) (xs:List V),vs=[.ref t]/\H t=some (.tup [.str (nm 0),.ref L])/\SqL K H L xs /\
 ∀m p H',br H H'->H m=none->H p=none->H' p=some (.lst xs)->(∃dx,H' m=some (.ins (A.C 0) dx (pK 0 (.ref p))))->Q (.ref m) H'
section
variable{P:me}{w:World}{K:ba}{mg:Str->Option Value}{base:Heap}{A:Adr}
theorem BM (T:Txt w.params K mg A):aK P w K mg base CX0 1 A.V3 A.Pj ["self"] (fR 0):=by
 refine T.aal.ok AY (λvs H Q E h=>?_) (λcdv A' outer s H vs Q E hr h=>?_)
 ·obtain⟨m,rfl,_⟩:=h;rfl
 ·obtain⟨m,rfl,q⟩:=h;exact⟨_,(aj (aC ao)),q⟩
theorem BN (T:Txt w.params K mg A):aK P w K mg base CX0 1 A.V4 A.Pk ["self"] (fR 1):=by
 refine T.aam.ok AZ (λvs H Q E h=>?_) (λcdv A' outer s H vs Q E hr h=>?_)
 ·obtain⟨m,rfl,_⟩:=h;rfl
 ·obtain⟨m,rfl,q⟩:=h;exact⟨_,(aj (aC ao)),q⟩
theorem Fb (T:Txt w.params K mg A):aK P w K mg base CX0 1 A.V5 A.Pl ["self"] (fR 2):=by
 refine T.aan.ok EJ (λvs H Q E h=>?_) (λcdv A' outer s H vs Q E hr h=>?_)
 ·obtain⟨m,rfl,_⟩:=h;rfl
 ·obtain⟨m,rfl,q⟩:=h;exact⟨_,(aj (aC ao)),q⟩
theorem BO (T:Txt w.params K mg A):aK P w K mg base CX0 1 A.V6 A.Pm ["self"] (fR 3):=by
 refine T.aao.ok A0 (λvs H Q E h=>?_) (λcdv A' outer s H vs Q E hr h=>?_)
 ·obtain⟨m,rfl,_⟩:=h;rfl
 ·obtain⟨m,rfl,q⟩:=h;exact⟨_,(aj (aC ao)),q⟩
theorem CP (T:Txt w.params K mg A):aK P w K mg base CX0 1 A.V7 A.Pn ["self"] (fR 4):=by
 refine T.aap.ok CJ (λvs H Q E h=>?_) (λcdv A' outer s H vs Q E hr h=>?_)
 ·obtain⟨m,rfl,_⟩:=h;rfl
 ·obtain⟨m,rfl,q⟩:=h;exact⟨_,(aj (aC ao)),q⟩
theorem GG (T:Txt w.params K mg A):aK P w K mg base CX0 1 A.V8 A.Po ["self"] (fR 5):=by
 refine T.aaq.ok Gh (λvs H Q E h=>?_) (λcdv A' outer s H vs Q E hr h=>?_)
 ·obtain⟨m,rfl,_⟩:=h;rfl
 ·obtain⟨m,rfl,q⟩:=h;exact⟨_,(aj (aC ao)),q⟩
theorem Fc (T:Txt w.params K mg A):aK P w K mg base CX0 1 A.V9 A.Pp ["self"] (fR 6):=by
 refine T.aar.ok EK (λvs H Q E h=>?_) (λcdv A' outer s H vs Q E hr h=>?_)
 ·obtain⟨m,rfl,_⟩:=h;rfl
 ·obtain⟨m,rfl,q⟩:=h;exact⟨_,(aj (aC ao)),q⟩
theorem CQ (T:Txt w.params K mg A):aK P w K mg base CX0 1 A.Wa A.Pq ["self"] (fR 7):=by
 refine T.aas.ok CK (λvs H Q E h=>?_) (λcdv A' outer s H vs Q E hr h=>?_)
 ·obtain⟨m,rfl,_⟩:=h;rfl
 ·obtain⟨m,rfl,q⟩:=h;exact⟨_,(aj (aC ao)),q⟩
theorem lB (T:Txt w.params K mg A):∀k,k < 8->aK P w K mg base CX0 1 (A.fk k) (A.fkd k) ["self"] (fR k)
 | 0,_=>BM T
 | 1,_=>BN T
 | 2,_=>Fb T
 | 3,_=>BO T
 | 4,_=>CP T
 | 5,_=>GG T
 | 6,_=>Fc T
 | 7,_=>CQ T
 |n+8,h=>absurd h (by omega)
theorem Sl (T:Txt w.params K mg A):aK P w K mg base CX0 2 A.f_r A.Sa ["self"] (P1 A):=by
 have gw:∀k,k < 8->aK P w K mg base CX0 1 (A.fk k) (A.fkd k) ["self"] (fR k):=lB T;refine T.F_r.ok A1 (λvs H Q E h=>?_) (λcdv A' outer s H vs Q E hr h=>?_)
 ·obtain⟨m,k,dx,fs,_,rfl,_⟩:=h;rfl
 ·obtain⟨m,k,dx,fs,hk,rfl,hm,hl,q⟩:=h;have dZ:=hr;obtain⟨t,ht⟩:=T.rk k hk;refine⟨_,(aj (aC (aJ OW (Ei (v:=V.ref A.tab) rfl T.E7 rfl) (gZ (pv 0) (T.cl k hk) (T.nQ k hk) (gw k hk) dZ (T.nR k hk) .nil aY) (λ_ _=>rfl)))),?_⟩
  exact⟨_,rfl,m,dx,fs,rfl,hm,hl,m,rfl,A.tab,nm k,.int k,_,rfl,rfl,T.tb,ht,⟨_,rfl⟩,q⟩
theorem xT (T:Txt w.params K mg A):aK P w K mg base CX0 2 A.f_t A.Pt ["self"] (Mm A):=by
 have gw:∀k,k < 8->aK P w K mg base CX0 1 (A.fk k) (A.fkd k) ["self"] (fR k):=lB T;refine T.F_t.ok A3 (λvs H Q E h=>?_) (λcdv A' outer s H vs Q E hr h=>?_)
 ·obtain⟨m,k,dx,fs,_,rfl,_⟩:=h;rfl
 ·obtain⟨m,k,dx,fs,hk,rfl,hm,hl,q⟩:=h;have dZ:=hr;refine⟨_,(aj (aC (bt (aa (gZ (pv 0) (T.cl k hk) (T.nQ k hk) (gw k hk) dZ (T.nR k hk) .nil aY) ah)))),?_⟩;exact⟨_,rfl,m,dx,fs,rfl,hm,hl,m,rfl,(sl 1),λp hp=>q p hp⟩
theorem BP (T:Txt w.params K mg A):aK P w K mg base CX0 2 A.We A.Pw ["self"] (AB A 1 "edit"):=by
 have gw:∀k,k < 8->aK P w K mg base CX0 1 (A.fk k) (A.fkd k) ["self"] (fR k):=lB T;refine T.aav.ok A5 (λvs H Q E h=>?_) (λcdv A' outer s H vs Q E hr h=>?_)
 ·obtain⟨m,dx,fs,v,rfl,_⟩:=h;rfl
 ·obtain⟨m,dx,fs,v,rfl,hm,hl,hv,q⟩:=h;have dZ:=hr;obtain⟨k,hk,ek⟩:∃k,k < 8/\k=1:=⟨1,by decide,rfl⟩
  have hm':H m=some (.ins (A.C k) dx fs):=by rw[ek];exact hm
  refine⟨_,(aj (aC (bt (aa (gZ (pv 0) (T.cl k hk) (T.nQ k hk) (gw k hk) dZ (T.nR k hk) .nil aY) (aa (bj (pv 0) rfl) ah))))),?_⟩;subst ek;exact⟨_,rfl,m,dx,fs,rfl,hm,hl,m,rfl,_,rfl,m,A.C 1,dx,fs,v,rfl,hm,T.cl 1 hk,T.na1,hv,(sl 2),λp hp=>q p hp⟩
theorem my (T:Txt w.params K mg A):aK P w K mg base CX0 1 A.Nj A.Dy ["self","edit"] (jH A 1):=by
 refine T.aaA.ok A8 (λvs H Q E h=>?_) (λcdv A' outer s H vs Q E hr h=>?_)
 ·obtain⟨m,dx,v,rfl,_⟩:=h;rfl
 ·obtain⟨m,dx,v,rfl,hm,q⟩:=h;refine⟨_,(aj (ef (pv 0) (pv 1) rfl)),?_⟩;exact⟨_,rfl,_,rfl,m,A.C 1,dx,[],rfl,hm,T.cl 1 (by decide),T.na1,by decide,q⟩
theorem Fd (T:Txt w.params K mg A):aK P w K mg base CX0 2 A.Wf A.Px ["self"] (AB A 2 "edit"):=by
 have gw:∀k,k < 8->aK P w K mg base CX0 1 (A.fk k) (A.fkd k) ["self"] (fR k):=lB T;refine T.aaw.ok EL (λvs H Q E h=>?_) (λcdv A' outer s H vs Q E hr h=>?_)
 ·obtain⟨m,dx,fs,v,rfl,_⟩:=h;rfl
 ·obtain⟨m,dx,fs,v,rfl,hm,hl,hv,q⟩:=h;have dZ:=hr;obtain⟨k,hk,ek⟩:∃k,k < 8/\k=2:=⟨2,by decide,rfl⟩
  have hm':H m=some (.ins (A.C k) dx fs):=by rw[ek];exact hm
  refine⟨_,(aj (aC (bt (aa (gZ (pv 0) (T.cl k hk) (T.nQ k hk) (gw k hk) dZ (T.nR k hk) .nil aY) (aa (bj (pv 0) rfl) ah))))),?_⟩;subst ek;exact⟨_,rfl,m,dx,fs,rfl,hm,hl,m,rfl,_,rfl,m,A.C 2,dx,fs,v,rfl,hm,T.cl 2 hk,T.na2,hv,(sl 2),λp hp=>q p hp⟩
theorem wA (T:Txt w.params K mg A):aK P w K mg base CX0 1 A.PB A.Gp ["self","edit"] (jH A 2):=by
 refine T.aaB.ok EM (λvs H Q E h=>?_) (λcdv A' outer s H vs Q E hr h=>?_)
 ·obtain⟨m,dx,v,rfl,_⟩:=h;rfl
 ·obtain⟨m,dx,v,rfl,hm,q⟩:=h;refine⟨_,(aj (ef (pv 0) (pv 1) rfl)),?_⟩;exact⟨_,rfl,_,rfl,m,A.C 2,dx,[],rfl,hm,T.cl 2 (by decide),T.na2,by decide,q⟩
theorem BQ (T:Txt w.params K mg A):aK P w K mg base CX0 2 A.Wg A.Py ["self"] (AB A 3 "sitting"):=by
 have gw:∀k,k < 8->aK P w K mg base CX0 1 (A.fk k) (A.fkd k) ["self"] (fR k):=lB T;refine T.aax.ok A6 (λvs H Q E h=>?_) (λcdv A' outer s H vs Q E hr h=>?_)
 ·obtain⟨m,dx,fs,v,rfl,_⟩:=h;rfl
 ·obtain⟨m,dx,fs,v,rfl,hm,hl,hv,q⟩:=h;have dZ:=hr;obtain⟨k,hk,ek⟩:∃k,k < 8/\k=3:=⟨3,by decide,rfl⟩
  have hm':H m=some (.ins (A.C k) dx fs):=by rw[ek];exact hm
  refine⟨_,(aj (aC (bt (aa (gZ (pv 0) (T.cl k hk) (T.nQ k hk) (gw k hk) dZ (T.nR k hk) .nil aY) (aa (bj (pv 0) rfl) ah))))),?_⟩;subst ek;exact⟨_,rfl,m,dx,fs,rfl,hm,hl,m,rfl,_,rfl,m,A.C 3,dx,fs,v,rfl,hm,T.cl 3 hk,T.na3,hv,(sl 2),λp hp=>q p hp⟩
theorem sN (T:Txt w.params K mg A):aK P w K mg base CX0 1 A.PD A.Gq ["self","sitting"] (jH A 3):=by
 refine T.aaC.ok A9 (λvs H Q E h=>?_) (λcdv A' outer s H vs Q E hr h=>?_)
 ·obtain⟨m,dx,v,rfl,_⟩:=h;rfl
 ·obtain⟨m,dx,v,rfl,hm,q⟩:=h;refine⟨_,(aj (ef (pv 0) (pv 1) rfl)),?_⟩;exact⟨_,rfl,_,rfl,m,A.C 3,dx,[],rfl,hm,T.cl 3 (by decide),T.na3,by decide,q⟩
theorem CS (T:Txt w.params K mg A):aK P w K mg base CX0 2 A.Wh A.Pz ["self"] (AB A 7 "clause"):=by
 have gw:∀k,k < 8->aK P w K mg base CX0 1 (A.fk k) (A.fkd k) ["self"] (fR k):=lB T;refine T.aay.ok CM (λvs H Q E h=>?_) (λcdv A' outer s H vs Q E hr h=>?_)
 ·obtain⟨m,dx,fs,v,rfl,_⟩:=h;rfl
 ·obtain⟨m,dx,fs,v,rfl,hm,hl,hv,q⟩:=h;have dZ:=hr;obtain⟨k,hk,ek⟩:∃k,k < 8/\k=7:=⟨7,by decide,rfl⟩
  have hm':H m=some (.ins (A.C k) dx fs):=by rw[ek];exact hm
  refine⟨_,(aj (aC (bt (aa (gZ (pv 0) (T.cl k hk) (T.nQ k hk) (gw k hk) dZ (T.nR k hk) .nil aY) (aa (bj (pv 0) rfl) ah))))),?_⟩;subst ek;exact⟨_,rfl,m,dx,fs,rfl,hm,hl,m,rfl,_,rfl,m,A.C 7,dx,fs,v,rfl,hm,T.cl 7 hk,T.na7,hv,(sl 2),λp hp=>q p hp⟩
theorem uB (T:Txt w.params K mg A):aK P w K mg base CX0 1 A.PF A.Gr ["self","clause"] (jH A 7):=by
 refine T.aaD.ok CN (λvs H Q E h=>?_) (λcdv A' outer s H vs Q E hr h=>?_)
 ·obtain⟨m,dx,v,rfl,_⟩:=h;rfl
 ·obtain⟨m,dx,v,rfl,hm,q⟩:=h;refine⟨_,(aj (ef (pv 0) (pv 1) rfl)),?_⟩;exact⟨_,rfl,_,rfl,m,A.C 7,dx,[],rfl,hm,T.cl 7 (by decide),T.na7,by decide,q⟩
theorem P2 {k:Nat}{f:Addr}{fd:kg}{ps:List Str}{sp:Sp}(h:∀vs H Q E,¬sp vs H Q E):aK P w K mg base CX0 k f fd ps sp :=
 ⟨λvs H Q E z=>(h vs H Q E z).elim,λ_ _ _ H _ _ vs Q E _ _ _ _ z=>(h vs H Q E z).elim⟩
theorem uR {k:Nat}(hk:k=4\/k=5\/k=6):∀vs H Q E,Ki A k vs H Q E->Mm A vs H Q E:=λvs H Q E ⟨_,m,dx,v,e,hm,q⟩ =>
 ⟨m,k,dx,pK k v,by omega,e,hm,lA k v,λp hp=>by
  have:=q p hp;rcases hk with rfl | rfl | rfl <;> exact this⟩
theorem qI (T:Txt w.params K mg A):∀k,k < 8->aK P w K mg base CX0 2 (A.ft k) (A.ftd k) ["self"] (Ki A k)
 | 0,_=>P2 λvs H Q E h=>absurd h.1 (by decide)
 | 1,_=>(BP T).imp λvs H Q E ⟨_,m,dx,v,e,hm,q⟩=>⟨m,dx,_,v,e,hm,lA 1 v,rfl,q⟩
 | 2,_=>(Fd T).imp λvs H Q E ⟨_,m,dx,v,e,hm,q⟩=>⟨m,dx,_,v,e,hm,lA 2 v,rfl,q⟩
 | 3,_=>(BQ T).imp λvs H Q E ⟨_,m,dx,v,e,hm,q⟩=>⟨m,dx,_,v,e,hm,lA 3 v,rfl,q⟩
 | 4,_=>(xT T).imp (uR (.inl rfl))
 | 5,_=>(xT T).imp (uR (.inr (.inl rfl)))
 | 6,_=>(xT T).imp (uR (.inr (.inr rfl)))
 | 7,_=>(CS T).imp λvs H Q E ⟨_,m,dx,v,e,hm,q⟩=>⟨m,dx,_,v,e,hm,lA 7 v,rfl,q⟩
 |n+8,h=>absurd h (by omega)
theorem BR (T:Txt w.params K mg A):aK P w K mg base CX0 1 A.Ni A.Dx ["self","text"] (AD A K):=by
 refine T.aaz.ok A7 (λvs H Q E h=>?_) (λcdv A' outer s H vs Q E hr h=>?_)
 ·obtain⟨m,dx,L,xs,rfl,_⟩:=h;rfl
 ·obtain⟨m,dx,L,xs,rfl,hm,hL,q⟩:=h;refine⟨_,(aj (ef (pv 0) (eh eT (by rfl) T.sG qm (aa (pv 1) ah)) rfl)),?_⟩
  refine⟨_,rfl,L,xs,rfl,.inl hL,λp hp=>?_⟩
  have nmp:m≠p:=aI hm hp;exact⟨_,rfl,m,A.C 0,dx,[],rfl,(av nmp).trans hm,T.cl 0 (by decide),T.na0,by decide,q p hp⟩
theorem P4 (T:Txt w.params K mg A):aK P w K mg base CX0 2 A.Wc A.Pu ["self"] (Mo A K):=by
 have gw:∀k,k < 8->aK P w K mg base CX0 1 (A.fk k) (A.fkd k) ["self"] (fR k):=lB T;refine T.aau.ok A4 (λvs H Q E h=>?_) (λcdv A' outer s H vs Q E hr h=>?_)
 ·obtain⟨m,dx,L,xs,rfl,_⟩:=h;rfl
 ·obtain⟨m,dx,L,xs,rfl,hm,hL,q⟩:=h;have dZ:=hr;obtain⟨k,hk,ek⟩:∃k,k < 8/\k=0:=⟨0,by decide,rfl⟩
  refine⟨_,(aj (aC (bt (aa (gZ (pv 0) (T.cl k hk) (T.nQ k hk) (gw k hk) dZ (T.nR k hk) .nil aY) (aa (eh eT (by rfl) T.sG qm (aa (bj (pv 0) rfl) ah)) ah))))),?_⟩
  subst ek;refine⟨_,rfl,m,dx,_,rfl,hm,lA 0 _,m,rfl,_,rfl,m,A.C 0,dx,_,_,rfl,hm,T.cl 0 hk,T.na0,rfl,L,xs,rfl,.inl hL,λp hp=>⟨(sl 2),λq' hq'=>?_⟩⟩
  have npq:p≠q':=aI ae hq';have hq:H q'=none:=by rw[av (ajZ npq)]at hq';exact hq'
  exact q p q' hp hq npq
theorem Fe (T:Txt w.params K mg A):aK P w K mg base CX0 3 A.lS A.gK ["told"] (Mp A):=by
 have P5:aK P w K mg base CX0 1 A.Ni A.Dx ["self","text"] (AD A K):=BR T;have P6:aK P w K mg base CX0 1 A.Nj A.Dy ["self","edit"] (jH A 1):=my T;have Wn:aK P w K mg base CX0 1 A.PB A.Gp ["self","edit"] (jH A 2):=wA T;have Wo:aK P w K mg base CX0 1 A.PD A.Gq ["self","sitting"] (jH A 3):=sN T;have Wq:aK P w K mg base CX0 1 A.PF A.Gr ["self","clause"] (jH A 7):=uB T;refine T.ny.ok lq (λvs H Q E h=>?_) (λcdv A' outer s H vs Q E hr h=>?_)
 ·obtain⟨t,k,v,_,_,rfl,_⟩:=h;rfl
 ·obtain⟨t,k,v,h1,h8,rfl,ht,q⟩:=h;have eY:=hr;refine⟨_,(ai (a8 (i:=1) lq.nd rfl (adm rfl) (aJ aL (pv 0) af (λ_ _=>rfl)))
 (ai (a5 (ay bu (pv 1) ao (aN _))
 (aj (aC (gC T.wy P5 eY rfl T.wq T.Sb .nil aY (aa (aJ aL (pv 0) af (λ_ _=>rfl)) ah))))
 aH)
 (ai (a5 (ay bu (pv 1) ao (aN _))
 (aj (aC (gC T.wz P6 eY rfl T.wu T.Sd .nil aY (aa (aJ aL (pv 0) af (λ_ _=>rfl)) ah))))
 aH)
 (ai (a5 (ay bu (pv 1) ao (aN _))
 (aj (aC (gC T.Kg Wn eY rfl T.Kc T.Wi .nil aY (aa (aJ aL (pv 0) af (λ_ _=>rfl)) ah))))
 aH)
 (ai (a5 (ay bu (pv 1) ao (aN _))
 (aj (aC (gC T.BB Wo eY rfl T.BA T.Wj .nil aY (aa (aJ aL (pv 0) af (λ_ _=>rfl)) ah))))
 aH)
 (ai (a5 (ay bu (pv 1) ao (aN _))
 (aj (aC (oH (T.mkn 4 (by decide)) rfl T.E5)))
 aH)
 (ai (a5 (ay bu (pv 1) ao (aN _))
 (aj (aC (oH (T.mkn 5 (by decide)) rfl T.PN)))
 aH)
 (ai (a5 (ay bu (pv 1) ao (aN _))
 (aj (aC (oH (T.mkn 6 (by decide)) rfl T.Kd)))
 aH)
 (aj (aC (gC T.E8 Wq eY rfl T.E6 T.Wk .nil aY (aa (aJ aL (pv 0) af (λ_ _=>rfl)) ah)))))))))))),?_⟩
  have h0:atI (rowOf k v) 0=some (.str (nm k)):=by
   have hk:k=1\/k=2\/k=3\/k=4\/k=5\/k=6\/k=7:=by omega
   rcases hk with rfl | rfl | rfl | rfl | rfl | rfl | rfl <;> rfl
  refine ixv rfl (SqT.of ht) h0 ?_;have hk:k=1\/k=2\/k=3\/k=4\/k=5\/k=6\/k=7:=by omega
  rcases hk with rfl | rfl | rfl | rfl | rfl | rfl | rfl
  ·refine⟨_,rfl,rfl,tsf (by decide +kernel) ⟨_,rfl,rfl,tst (by decide +kernel) ?_⟩⟩
   exact⟨_,rfl,t,_,_,v,rfl,rfl,SqT.of ht,rfl,λm dx nm ndx ne=>⟨m,dx,v,rfl,ae,rfl,q m _ ((((br.refl H).own ndx).own nm).own nm) nm ⟨dx,ae⟩⟩⟩
  ·refine⟨_,rfl,rfl,tsf (by decide +kernel) ⟨_,rfl,rfl,tsf (by decide +kernel) ⟨_,rfl,rfl,tst (by decide +kernel) ?_⟩⟩⟩
   exact⟨_,rfl,t,_,_,v,rfl,rfl,SqT.of ht,rfl,λm dx nm ndx ne=>⟨m,dx,v,rfl,ae,rfl,q m _ ((((br.refl H).own ndx).own nm).own nm) nm ⟨dx,ae⟩⟩⟩
  ·refine⟨_,rfl,rfl,tsf (by decide +kernel) ⟨_,rfl,rfl,tsf (by decide +kernel) ⟨_,rfl,rfl,tsf (by decide +kernel) ⟨_,rfl,rfl,tst (by decide +kernel) ?_⟩⟩⟩⟩
   exact⟨_,rfl,t,_,_,v,rfl,rfl,SqT.of ht,rfl,λm dx nm ndx ne=>⟨m,dx,v,rfl,ae,rfl,q m _ ((((br.refl H).own ndx).own nm).own nm) nm ⟨dx,ae⟩⟩⟩
  ·refine⟨_,rfl,rfl,tsf (by decide +kernel) ⟨_,rfl,rfl,tsf (by decide +kernel) ⟨_,rfl,rfl,tsf (by decide +kernel) ⟨_,rfl,rfl,tsf (by decide +kernel) ⟨_,rfl,rfl,tst (by decide +kernel) ?_⟩⟩⟩⟩⟩
   exactλm dx nm ndx ne=>q m _ (((br.refl H).own ndx).own nm) nm ⟨dx,ae⟩
  ·refine⟨_,rfl,rfl,tsf (by decide +kernel) ⟨_,rfl,rfl,tsf (by decide +kernel) ⟨_,rfl,rfl,tsf (by decide +kernel) ⟨_,rfl,rfl,tsf (by decide +kernel) ⟨_,rfl,rfl,tsf (by decide +kernel) ⟨_,rfl,rfl,tst (by decide +kernel) ?_⟩⟩⟩⟩⟩⟩
   exactλm dx nm ndx ne=>q m _ (((br.refl H).own ndx).own nm) nm ⟨dx,ae⟩
  ·refine⟨_,rfl,rfl,tsf (by decide +kernel) ⟨_,rfl,rfl,tsf (by decide +kernel) ⟨_,rfl,rfl,tsf (by decide +kernel) ⟨_,rfl,rfl,tsf (by decide +kernel) ⟨_,rfl,rfl,tsf (by decide +kernel) ⟨_,rfl,rfl,tsf (by decide +kernel) ⟨_,rfl,rfl,tst (by decide +kernel) ?_⟩⟩⟩⟩⟩⟩⟩
   exactλm dx nm ndx ne=>q m _ (((br.refl H).own ndx).own nm) nm ⟨dx,ae⟩
  ·refine⟨_,rfl,rfl,tsf (by decide +kernel) ⟨_,rfl,rfl,tsf (by decide +kernel) ⟨_,rfl,rfl,tsf (by decide +kernel) ⟨_,rfl,rfl,tsf (by decide +kernel) ⟨_,rfl,rfl,tsf (by decide +kernel) ⟨_,rfl,rfl,tsf (by decide +kernel) ⟨_,rfl,rfl,tsf (by decide +kernel) ?_⟩⟩⟩⟩⟩⟩⟩
   exact⟨_,rfl,t,_,_,v,rfl,rfl,SqT.of ht,rfl,λm dx nm ndx ne=>⟨m,dx,v,rfl,ae,rfl,q m _ ((((br.refl H).own ndx).own nm).own nm) nm ⟨dx,ae⟩⟩⟩
end
section
variable{P:me}{w:World}{K:ba}{mg:Str->Option Value}{base:Heap}{A:Adr}
theorem CT (T:Txt w.params K mg A):aK P w K mg base CX0 3 A.lS A.gK ["told"] (GF A K):=by
 have P5:aK P w K mg base CX0 1 A.Ni A.Dx ["self","text"] (AD A K):=BR T;have P6:aK P w K mg base CX0 1 A.Nj A.Dy ["self","edit"] (jH A 1):=my T;have Wn:aK P w K mg base CX0 1 A.PB A.Gp ["self","edit"] (jH A 2):=wA T;have Wo:aK P w K mg base CX0 1 A.PD A.Gq ["self","sitting"] (jH A 3):=sN T;have Wq:aK P w K mg base CX0 1 A.PF A.Gr ["self","clause"] (jH A 7):=uB T;refine T.ny.ok lq (λvs H Q E h=>?_) (λcdv A' outer s H vs Q E hr h=>?_)
 ·obtain⟨t,L,xs,rfl,_⟩:=h;rfl
 ·obtain⟨t,L,xs,rfl,ht,hL,q⟩:=h;have eY:=hr;refine⟨_,(ai (a8 (i:=1) lq.nd rfl (adm rfl) (aJ aL (pv 0) af (λ_ _=>rfl)))
 (ai (a5 (ay bu (pv 1) ao (aN _))
 (aj (aC (gC T.wy P5 eY rfl T.wq T.Sb .nil aY (aa (aJ aL (pv 0) af (λ_ _=>rfl)) ah))))
 aH)
 (ai (a5 (ay bu (pv 1) ao (aN _))
 (aj (aC (gC T.wz P6 eY rfl T.wu T.Sd .nil aY (aa (aJ aL (pv 0) af (λ_ _=>rfl)) ah))))
 aH)
 (ai (a5 (ay bu (pv 1) ao (aN _))
 (aj (aC (gC T.Kg Wn eY rfl T.Kc T.Wi .nil aY (aa (aJ aL (pv 0) af (λ_ _=>rfl)) ah))))
 aH)
 (ai (a5 (ay bu (pv 1) ao (aN _))
 (aj (aC (gC T.BB Wo eY rfl T.BA T.Wj .nil aY (aa (aJ aL (pv 0) af (λ_ _=>rfl)) ah))))
 aH)
 (ai (a5 (ay bu (pv 1) ao (aN _))
 (aj (aC (oH (T.mkn 4 (by decide)) rfl T.E5)))
 aH)
 (ai (a5 (ay bu (pv 1) ao (aN _))
 (aj (aC (oH (T.mkn 5 (by decide)) rfl T.PN)))
 aH)
 (ai (a5 (ay bu (pv 1) ao (aN _))
 (aj (aC (oH (T.mkn 6 (by decide)) rfl T.Kd)))
 aH)
 (aj (aC (gC T.E8 Wq eY rfl T.E6 T.Wk .nil aY (aa (aJ aL (pv 0) af (λ_ _=>rfl)) ah)))))))))))),?_⟩
  refine ixv rfl (SqT.of ht) rfl ?_;refine⟨_,rfl,rfl,tst (by decide +kernel) ?_⟩
  refine⟨_,rfl,t,_,_,.ref L,rfl,rfl,SqT.of ht,rfl,λm dx nm ndx ne=>⟨m,dx,L,xs,rfl,ae,(((br.refl H).own ndx).own nm).seq hL,λp hp=>⟨rfl,?_⟩⟩⟩
  have s1:br H (upd (upd H dx (.own m)) m (.ins (A.C 0) dx [])):=((br.refl H).own ndx).own nm;have npm:p≠m:=λz=>by rw[z,ae]at hp;cases hp
  exact q m p _ ((s1.new hp).own nm) nm (s1.free hp) ((av npm).trans ae) ⟨dx,ae⟩
end
abbrev GH:Str:=ar "more"
def nC (n:Str)(a b:Int):Bool:=if a<=b then false else (decide (n=GH) || decide (2 * b<=a))
def P7:Sp:=λvs H Q _=>∃(n:Str) (a b:Int),vs=[.str n,.int a,.int b]/\Q (.bl (nC n a b)) H
section
variable{P:me}{w:World}{K:ba}{mg:Str->Option Value}{base:Heap}{A:Adr}
theorem Kj (T:Txt w.params K mg A):aK P w K mg base CX0 1 A.As A.qr ["need","ayes","noes"] P7:=by
 refine T.xK.ok J6 (λvs H Q E h=>?_) (λcdv A' outer s H vs Q E hr h=>?_)
 ·obtain⟨n,a,b,rfl,_⟩:=h;rfl
 ·obtain⟨n,a,b,rfl,q⟩:=h;refine⟨_,(ai (a5 (ay vw (pv 1) (pv 2) (aN _))
 (aj (aC gb))
 aH)
 (aj (aC (ZF (jX bu (pv 0) ao (aN _)) (Ej (jX OB (pv 1) (a6 xr af (pv 2)) (aN _))))))),?_⟩
  refine⟨_,rfl,_,rfl,_,_,rfl,rfl,_,rfl,eU (λe=>?_) (λe=>?_)⟩
  ·have e':a<=b:=of_decide_eq_true e;rw[nC,if_pos e']at q;exact q
  ·have e':¬a<=b:=λz=>e (decide_eq_true z)
   rw[nC,if_neg e']at q;refine⟨_,rfl,rfl,_,rfl,eU (λe2=>?_) (λe2=>?_)⟩
   ·have h2:n=GH:=by injection of_decide_eq_true e2
    rw[decide_eq_true h2,Bool.true_or]at q;exact q
   ·have h2:¬n=GH:=λz=>e2 (decide_eq_true (by rw[z]))
    rw[decide_eq_false h2,Bool.false_or]at q;exact⟨_,rfl,_,rfl,_,_,rfl,rfl,.inl ⟨by decide,by decide⟩,_,_,rfl,rfl,q⟩
end
end My
set_option maxHeartbeats 1000000
namespace My
open PySem L2
seal PySem.wpAny
namespace R
abbrev bl1:Str:=ar " "
abbrev em:Str:=ar ""
theorem nU:bl1=⟨#[32]⟩:=by decide +kernel
theorem T6:em=⟨#[]⟩:=by decide +kernel
def Sign (c:Nat):Prop:=33<=c/\c<=126/\c≠37
instance:DecidablePred Sign:=λc=>by unfold Sign;exact inferInstance
structure nX (x:Str):Prop where
 l1:1<=x.length
 l2:x.length<=20
 sgn:∀c∈x.cps.toList,Sign c
 ns:x≠ar "/"
def Asc (x:Str):Prop:=∀c∈x.cps.toList,c < 128
theorem Asc.ok {x:Str}(h:Asc x):akt x=true:=by
 unfold akt;rw[Array.all_eq_true];intro i hi;have:=h x.cps[i] (by simp)
 exact decide_eq_true (by omega)
theorem nX.asc {x:Str}(w:nX x):Asc x:=λc hc=>by have:=w.sgn c hc;unfold Sign at this;omega
theorem pI {sep:Str}(hs:Asc sep):∀ws:List Str,(∀w∈ws,Asc w)->Asc (sr sep ws)
 |[],_=>λc hc=>by
  have:c∈([]:List Nat):=hc;cases this
 |[x],h=>h x fu
 |x::y::r,h=>λc hc=>by
  have hc':c∈((x++sep)++sr sep (y::r)).cps.toList:=hc;rw[eV,eV,List.mem_append,List.mem_append]at hc';rcases hc' with (h1 | h1) | h1
  ·exact h x fu c h1
  ·exact hs c h1
  ·exact pI hs (y::r) (λw hw=>h w (ky _ hw)) c h1
abbrev aaE:List Str:=[ar "-",ar "put",ar "/a",ar "0",ar "off",ar "//",ar "matter",ar "a"]
theorem P8 {x:Str}(h:decide (1<=x.length/\x.length<=20/\(∀c∈x.cps.toList,Sign c)/\x≠ar "/")=true):nX x:=by
 obtain⟨a,b,c,d⟩:=of_decide_eq_true h;exact⟨a,b,c,d⟩
theorem Ws:∀x∈aaE,nX x:=by
 intro x hx;simp only[List.mem_cons,List.not_mem_nil,or_false]at hx;rcases hx with rfl | rfl | rfl | rfl | rfl | rfl | rfl | rfl <;> exact P8 (by decide +kernel)
structure Clause (n:Nat)(x:Str)(ws:List Str):Prop where
 eq:x=sr bl1 ws
 len:ws.length<=n
 wd:∀w∈ws,nX w
theorem Clause.asc {n:Nat}{x:Str}{ws:List Str}(c:Clause n x ws):Asc x:=by
 rw[c.eq];exact pI (by rw[nU];intro d hd;have:d=32:=(by simpa using hd);omega) ws λw hw=>(c.wd w hw).asc
theorem DQ {ws:List Str}(h:∀w∈ws,nX w):(ws.map (·.length)).sum<=ws.length * 20:=StrLaws.sumLen_le ws λw hw=>(h w hw).l2
theorem Clause.size {n:Nat}{x:Str}{ws:List Str}(c:Clause n x ws):x.length<=n * 21:=by
 rw[c.eq,nU];have h1:=tV 32 ws;have h2:=DQ c.wd;have h3:=c.len;omega
abbrev sl1:Str:=ar "/"
def num (i:Int):Str:=ar (toString i)
theorem Mq {i:Int}(h0:0<=i)(h1:i < 10 ^ 10):(num i).length<=10:=PyProof.Rows.toString_length_le h0 (by decide) h1
theorem Mr {i:Int}(h0:0<=i)(h1:i < 10 ^ 10):i.natAbs.log2 < 1920:=by
 have h:i.natAbs < 2 ^ 34:=by
  have:(10:Int) ^ 10<=2 ^ 34:=by decide
  omega
 by_cases hz:i.natAbs=0
 ·rw[hz];decide
 ·exact Nat.lt_trans ((Nat.log2_lt hz).mpr h) (by decide)
def bf (z:Str):List Str:=if z=em then [] else PySem.Txt.split z bl1
theorem nX.free {x:Str}(w:nX x):32∉x.cps.toList:=λz=>by have:=w.sgn _ z;unfold Sign at this;omega
theorem lC {ws:List Str}(h:∀w∈ws,nX w):bf (sr bl1 ws)=ws:=by
 cases ws with
 |nil=>exact if_pos (by rw[T6];rfl)
 |cons x r =>
  have l:=CH (c:=32) (aj1 x r) λw hw=>(h w hw).l1
  have ne:¬sr bl1 (x::r)=em:=λe=>by
   rw[nU]at e;rw[e,T6]at l;exact absurd l (by decide)
  unfold bf;rw[if_neg ne,nU];exact JV (aj1 x r) λw hw=>(h w hw).free
inductive fq where
 |mat (cs:List (List Str))
 |ed (m:Bool) (k:Nat) (i:Int) (ws:List Str)
 |pt (ws:List Str)
 |nums (kd:Str) (ns:List Int)
def kEd (m:Bool):Str:=if m then ar "mend" else ar "change"
def kn:Nat->Str
 | 0=>ar "put"
 | 1=>ar "cut"
 |_=>ar "turn"
def edR (k:Nat)(i:Int)(x:Str):List V:=if k=1 then [.str (kn 1),.int i] else [.str (kn k),.int i,.str x]
def i9:List (Str×Nat):=[(ar "put off",1),(ar "vote",2),(ar "take",1),(ar "close",0),(ar "lay",0),(ar "rest",0),(ar "drop",0)]
structure BS (n:Nat)(ws:List Str):Prop where
 len:ws.length<=n
 wd:∀w∈ws,nX w
def DOk:fq->Prop
 | .mat cs=>cs.length<=12/\∀ws∈cs,BS 12 ws
 | .ed m k i ws=>(k=0\/k=1\/k=2)/\(0<=i/\i < 10 ^ 10)/\BS 12 ws/\(m=true->ws.length=1)
 | .pt ws=>BS 12 ws
 | .nums kd ns=>(kd,ns.length)∈i9/\∀i∈ns,0<=i/\i < 10 ^ 10
def sO (K:ba)(H:Hp):fq->Addr->Prop
 | .mat cs,t=>∃L,SqT K H t [.str (ar "matter"),.ref L]/\SqL K H L ((cs.map (sr bl1)).map V.str)
 | .ed m k i ws,t=>∃e,SqT K H t [.str (kEd m),.ref e]/\SqT K H e (edR k i (sr bl1 ws))
 | .pt ws,t=>SqT K H t [.str (ar "point"),.str (sr bl1 ws)]
 | .nums kd ns,t=>SqT K H t (.str kd::ns.map V.int)
theorem sO.same {K:ba}{H H':Hp}(s:br H H'):∀ {d:fq} {t:Addr},sO K H d t->sO K H' d t
 | .mat _,_,⟨L,a,b⟩=>⟨L,bw s a,s.seq b⟩
 | .ed _ _ _ _,_,⟨e,a,b⟩=>⟨e,bw s a,bw s b⟩
 | .pt _,_,a=>bw s a
 | .nums _ _,_,a=>bw s a
def BU:fq->Str
 | .mat _=>ar "matter"
 | .ed m _ _ _=>kEd m
 | .pt _=>ar "point"
 | .nums kd _=>kd
def ja:fq->List Str
 | .mat cs=>cs.flatMap λws=>sl1::ws
 | .ed _ k i ws=>kn k::num i::(if k=1 then [] else ws)
 | .pt ws=>ws
 | .nums _ ns=>ns.map num
def rF (d:fq):Str:=sr bl1 (BU d::ja d)
theorem Wt (k:Nat):(kn k).length<=4:=by
 unfold kn;split <;> decide +kernel
theorem Sm (m:Bool):(kEd m).length<=6:=by cases m <;> decide +kernel
theorem kd_len {kd:Str}{n:Nat}(h:(kd,n)∈i9):kd.length<=7/\n<=2:=by
 simp only[i9,List.mem_cons,List.not_mem_nil,or_false,Prod.mk.injEq]at h;rcases h with ⟨rfl,rfl⟩ | ⟨rfl,rfl⟩ | ⟨rfl,rfl⟩ | ⟨rfl,rfl⟩ | ⟨rfl,rfl⟩ | ⟨rfl,rfl⟩ | ⟨rfl,rfl⟩ <;> decide +kernel
theorem DR {d:fq}(o:DOk d):(ja d).length<=200/\(∀w∈ja d,w.length<=20)/\(BU d).length<=20:=by
 cases d with
 |mat cs =>
  obtain⟨o1,o2⟩:=o;refine⟨?_,λw hw=>?_,by show (ar "matter").length<=20;decide +kernel⟩
  ·show (cs.flatMap λws=>sl1::ws).length<=200
   have:∀l:List (List Str),(∀ws∈l,BS 12 ws)->(l.flatMap λws=>sl1::ws).length<=l.length * 13:=λl=>by
    induction l with
    |nil=>intro _;exact kq _
    |cons x l ih =>
     intro h;have h1:=(h x fu).len;have h2:=ih λw hw=>h w (ky _ hw)
     rw[List.flatMap_cons,kx,ajH,ajH];omega
   have:=this cs o2;omega
  ·obtain⟨ws,h1,h2⟩:=List.mem_flatMap.mp hw;rcases List.mem_cons.mp h2 with rfl | h2
   ·decide +kernel
   ·exact((o2 ws h1).wd w h2).l2
 |ed m k i ws =>
  obtain⟨o1,⟨i0,i1⟩,o3,_⟩:=o;have l:=o3.len;refine⟨?_,λw hw=>?_,?_⟩
  ·show (kn k::num i::(if k=1 then [] else ws)).length<=200
   split <;> simp <;> omega
  ·have hw':w∈kn k::num i::(if k=1 then [] else ws):=hw
   rcases List.mem_cons.mp hw' with rfl | hw'
   ·have:=Wt k;omega
   ·rcases List.mem_cons.mp hw' with rfl | hw'
    ·have:=Mq i0 i1;omega
    ·split at hw'
     ·cases hw'
     ·exact(o3.wd w hw').l2
  ·have:=Sm m;show (kEd m).length<=20;omega
 |pt ws=>exact⟨by have:=o.len;show ws.length<=200;omega,λw hw=>(o.wd w hw).l2,by show (ar "point").length<=20;decide +kernel⟩
 |nums kd ns =>
  obtain⟨o1,o2⟩:=o;have:=kd_len o1;refine⟨by show (ns.map num).length<=200;rw[bo];omega,λw hw=>?_,by show kd.length<=20;omega⟩
  obtain⟨i,hi,rfl⟩:=List.mem_map.mp hw;have:=Mq (o2 i hi).1 (o2 i hi).2;omega
def eL:Sp:=λvs H Q _=>∃z,vs=[.str z]/\z.length+2<=ka/\∀p,H p=none->Q (.ref p) (upd H p (.lst ((bf z).map V.str)))
def uS (K:ba):Sp:=λvs H Q _=>∃a ws,vs=[.ref a]/\SqL K H a (ws.map V.str)/\(ws.map (·.length)).sum+ws.length<=16777216/\Q (.str (sr bl1 ws)) H
def P9 (K:ba):Sp:=λvs H Q _=>∃(L:Addr) (cs:List (List Str)),vs=[.ref L]/\SqL K H L ((cs.map (sr bl1)).map V.str)/\DOk (.mat cs)/\∀p H',br H H'->H p=none->H' p=some (.lst ((ja (.mat cs)).map V.str))->Q (.ref p) H'
def Ms (K:ba):Sp:=λvs H Q _=>∃(t:Addr) (m:Bool) (k:Nat) (i:Int) (ws:List Str),vs=[.ref t]/\SqT K H t (edR k i (sr bl1 ws))/\DOk (.ed m k i ws)/\∀p H',br H H'->H p=none->H' p=some (.lst ((ja (.ed m k i ws)).map V.str))->Q (.ref p) H'
def GI (K:ba):Sp:=λvs H Q _=>∃(t:Addr) (d:fq),vs=[.ref t]/\sO K H d t/\DOk d/\∀p H',br H H'->H p=none->H' p=some (.lst ((ja d).map V.str))->Q (.ref p) H'
def Ff (K:ba):Sp:=λvs H Q _=>∃(t:Addr) (d:fq),vs=[.ref t]/\sO K H d t/\DOk d/\∀H',br H H'->Q (.str (rF d)) H'
theorem uQ {k:Nat}(h:k=0\/k=1\/k=2):(V.str (kn k)=V.str (ar "cut"))↔k=1:=by
 rcases h with rfl | rfl | rfl <;> decide +kernel
theorem Mt (k:Nat)(i:Int)(x:Str):atI (edR k i x) 0=some (.str (kn k)):=by
 unfold edR;split
 ·rename_i h;rw[h];rfl
 ·rfl
theorem Sn (k:Nat)(i:Int)(x:Str):atI (edR k i x) 1=some (.int i):=by
 unfold edR;split <;> rfl
theorem So {k:Nat}(h:k≠1)(i:Int)(x:Str):atI (edR k i x) 2=some (.str x):=by
 unfold edR;rw[if_neg h];rfl
theorem uT {ws:List Str}(o:BS 12 ws):(sr bl1 ws).length<=300:=by
 have h1:=tV 32 ws;have h2:=DQ o.wd;have h3:=o.len;rw[nU];omega
theorem aaF {kd:Str}{n:Nat}(h:(kd,n)∈i9):V.str kd≠V.str (ar "matter")/\V.str kd≠V.str (ar "change")/\V.str kd≠V.str (ar "mend")/\V.str kd≠V.str (ar "point"):=by
 simp only[i9,List.mem_cons,List.not_mem_nil,or_false,Prod.mk.injEq]at h;rcases h with ⟨rfl,rfl⟩ | ⟨rfl,rfl⟩ | ⟨rfl,rfl⟩ | ⟨rfl,rfl⟩ | ⟨rfl,rfl⟩ | ⟨rfl,rfl⟩ | ⟨rfl,rfl⟩ <;> decide +kernel
section
variable{K:ba}
theorem sO.at0 {H:Hp}{d:fq}{t:Addr}(h:sO K H d t):∃xs,SqT K H t xs/\atI xs 0=some (.str (BU d)):=by
 cases d with
 |mat cs=>obtain⟨L,a,b⟩:=h;exact⟨_,a,rfl⟩
 |ed m k i ws=>obtain⟨e,a,b⟩:=h;exact⟨_,a,rfl⟩
 |pt ws=>exact⟨_,h,rfl⟩
 |nums kd ns=>exact⟨_,h,dF (j:=0) rfl⟩
end
section
variable{P:me}{w:World}{K:ba}{mg:Str->Option Value}{base:Heap}{A:Adr}
theorem wB (T:Txt w.params K mg A):aK P w K mg base CX0 1 A.pf A.iU ["words"] (uS K):=by
 refine T.nv.ok EO (λvs H Q E h=>?_) (λcdv A' outer s H vs Q E hr h=>?_)
 ·obtain⟨a,ws,rfl,_⟩:=h;rfl
 ·obtain⟨a,ws,rfl,hq,hz,k⟩:=h;refine⟨_,(aj (aC (gR akK PySem.F.slot_str_join PySem.F.type_str_join Ex ao (aa (pv 0) ah)))),?_⟩;exact⟨rfl,_,rfl,bl1,a,ws,rfl,rfl,hq,by rw[nU];show _+ws.length * 1<=_;omega,k⟩
end
section
variable{P:me}{w:World}{K:ba}{mg:Str->Option Value}{base:Heap}{A:Adr}
theorem kG (T:Txt w.params K mg A):aK P w K mg base CX0 1 A.words_of A.eR ["clause"] eL:=by
 refine T.iu.ok Gi (λvs H Q E h=>?_) (λcdv A' outer s H vs Q E hr h=>?_)
 ·obtain⟨z,rfl,_⟩:=h;rfl
 ·obtain⟨z,rfl,hz,k⟩:=h;refine⟨_,(ai (a5 (ay bu (pv 0) ao (aN _))
 (aj (aC (bR ah)))
 aH)
 (aj (aC (gR akK PySem.F.slot_str_split PySem.F.type_str_split F0 (pv 0) (aa ao ah))))),?_⟩
  refine⟨_,rfl,rfl,_,rfl,eU (λe=>?_) (λe=>?_)⟩
  ·have e':z=em:=by injection of_decide_eq_true e
   refine⟨akl _,λp hp=>?_⟩
   have:=k p hp;rw[bf,if_pos e']at this;exact this
  ·have e':¬z=em:=λq=>e (decide_eq_true (by rw[q]))
   refine⟨_,rfl,rfl,z,bl1,rfl,rfl,by rw[nU];rfl,hz,λp hp=>?_⟩
   have:=k p hp;rw[bf,if_neg e']at this;exact this
theorem xU (T:Txt w.params K mg A):aK P w K mg base CX0 2 A.jZ A.gN ["text"] (P9 K):=by
 have eZ:aK P w K mg base CX0 1 A.words_of A.eR ["clause"] eL:=kG T;refine T.kT.ok jx (λvs H Q E h=>?_) (λcdv A' outer s H vs Q E hr h=>?_)
 ·obtain⟨L,cs,rfl,_⟩:=h;rfl
 ·obtain⟨L,cs,rfl,hL,o,k⟩:=h;have d0:=hr;refine⟨_,(ai (a8 (i:=1) jx.nd rfl (adm rfl) (bR ah))
 (ai (xq ak1 rfl (ll (pv 0)) (fV (i:=2) jx.nd rfl (adm rfl))
 (ai (bJ (gR rf ajU ajV cU (pv 1) (aa ao ah)))
 (aj (bJ (gR rf PySem.F.slot_list_extend PySem.F.type_list_extend Dh (pv 1) (aa (aV eZ d0 rfl T.jE T.iu.kp T.jD .nil aY (aa (pv 2) ah)) ah))))))
 (aj (aC (pv 1))))),?_⟩
  have lim:ka=16777216:=by decide
  refine⟨akl _,λW hW=>?_⟩
  refine⟨_,rfl,L,rfl,⟨_,(aG hW).seq hL⟩,?_⟩;refine vq (K:=K) (a:=L) (xs:=(cs.map (sr bl1)).map V.str) (λi σ H2=>∃v2:Option V,σ=[some (.ref L),some (.ref W),v2]/\br H H2/\H2 W=some (.lst ((ja (.mat (cs.take i))).map V.str)))
   ⟨_,rfl,aG hW,ae⟩ (λi σ H2 _ ⟨_,_,s2,_⟩=>s2.seq hL) ?_ ?_
  ·rintro i y σ H2 hi ⟨v2,rfl,s2,h2⟩;rw[aj0,aj0]at hi;cases hc:cs[i]? with
   |none=>rw[hc]at hi;cases hi
   |some ws =>
    rw[hc]at hi;obtain rfl:V.str (sr bl1 ws)=y:=ajJ hi;have ow:=o.2 ws (ajQ hc);have hcl:=uT ow;have hil:i < cs.length:=(List.getElem?_eq_some_iff.mp hc).1;have hb:(ja (.mat (cs.take i))).length<=200:=(DR (d:=.mat (cs.take i)) ⟨by rw[akd];have:=o.1;omega,λws hw=>o.2 ws (List.mem_of_mem_take hw)⟩).1
    refine⟨_,rfl,.inl ⟨rfl,_,SqL.of h2⟩,W,_,_,rfl,rfl,h2,(by rw[bo];omega),?_⟩
    refine⟨_,rfl,.inl ⟨rfl,_,SqL.of ae⟩,_,rfl,_,rfl,by omega,λp hp=>?_⟩
    rw[lC ow.wd];have nWp:W≠p:=aI ae hp;have wl:=ow.len;refine⟨W,p,_,_,rfl,rfl,(av nWp).trans ae,ae,(by rw[kx,bo,bo];show _+1+_<=_;omega),?_⟩
    refine⟨_,rfl,((s2.own hW).new hp).own hW,?_⟩;rw[ae,akX,hc];show some (HO.lst _)=some (HO.lst (((cs.take i++[ws]).flatMap λws=>sl1::ws).map V.str))
    rw[List.flatMap_append];simp[ja]
  ·rintro σ H2 ⟨v2,rfl,s2,h2⟩;rw[bo,bo,akY]at h2;exact⟨_,rfl,k W H2 s2 hW h2⟩
theorem xV (T:Txt w.params K mg A):aK P w K mg base CX0 2 A.j2 A.gO ["edit"] (Ms K):=by
 have eZ:aK P w K mg base CX0 1 A.words_of A.eR ["clause"] eL:=kG T;refine T.kU.ok oS (λvs H Q E h=>?_) (λcdv A' outer s H vs Q E hr h=>?_)
 ·obtain⟨t,m,k,i,ws,rfl,_⟩:=h;rfl
 ·obtain⟨t,m,k,i,ws,rfl,ht,⟨o1,⟨i0,i1⟩,o3,_⟩,q⟩:=h;have d0:=hr;refine⟨_,(ai (a8 (i:=1) oS.nd rfl (adm rfl) (bR (aa (aJ aL (pv 0) af (λ_ _=>rfl)) (aa (eh vy (by rfl) T.PL OQ (aa (aJ aL (pv 0) af (λ_ _=>rfl)) ah)) ah))))
 (ai (a5 (ay vv (aJ aL (pv 0) af (λ_ _=>rfl)) ao (aN _))
 (aj (bJ (gR rf PySem.F.slot_list_extend PySem.F.type_list_extend Dh (pv 1) (aa (aV eZ d0 rfl T.jE T.iu.kp T.jD .nil aY (aa (aJ aL (pv 0) af (λ_ _=>rfl)) ah)) ah))))
 aH)
 (aj (aC (pv 1))))),?_⟩
  have lim:ka=16777216:=by decide
  refine ixv rfl ht (Mt k i _) (ixv rfl ht (Sn k i _) ⟨_,rfl,Mr i0 i1,(sl 2),λW hW=>?_⟩)
  have s1:br H (upd H W (.lst [V.str (kn k),V.str (num i)])):=aG hW;have hcl:=uT o3;refine ixv rfl (bw s1 ht) (Mt k i _) ⟨rfl,_,rfl,?_⟩
  by_cases hk:k=1
  ·rw[decide_eq_true ((uQ o1).mpr hk)];refine bX ⟨_,rfl,q W _ s1 hW ?_⟩;show (upd H W (.lst [V.str (kn k),V.str (num i)])) W=some (.lst ((kn k::num i::(if k=1 then [] else ws)).map V.str))
   rw[ae,if_pos hk];rfl
  ·rw[decide_eq_false λz=>hk ((uQ o1).mp z)]
   refine dP ⟨_,rfl,.inl ⟨rfl,_,SqL.of ae⟩,ixv rfl (bw s1 ht) (So hk i _) ⟨_,rfl,by omega,λp hp=>?_⟩⟩
   rw[lC o3.wd];have nWp:W≠p:=aI ae hp;have wl:=o3.len;refine⟨W,p,_,_,rfl,rfl,(av nWp).trans ae,ae,(by rw[bo];show 2+_<=_;omega),_,rfl,q W _ ((s1.new hp).own hW) hW ?_⟩
   show (upd (upd (upd H W (.lst [V.str (kn k),V.str (num i)])) p (.lst (ws.map V.str))) W (.lst ([V.str (kn k),V.str (num i)]++ws.map V.str))) W=some (.lst ((kn k::num i::(if k=1 then [] else ws)).map V.str))
   rw[ae,if_neg hk];rfl
theorem za (T:Txt w.params K mg A):aK P w K mg base CX0 3 A.lu A.ia ["deed"] (GI K):=by
 have eZ:aK P w K mg base CX0 2 A.words_of A.eR ["clause"] eL:=(kG T).mono (by decide)
 have zc:aK P w K mg base CX0 2 A.jZ A.gN ["text"] (P9 K):=xU T;have zd:aK P w K mg base CX0 2 A.j2 A.gO ["edit"] (Ms K):=xV T;refine T.mj.ok qW (λvs H Q E h=>?_) (λcdv A' outer s H vs Q E hr h=>?_)
 ·obtain⟨t,d,rfl,_⟩:=h;rfl
 ·obtain⟨t,d,rfl,hd,o,q⟩:=h;have d0:=hr;have xW:=hr;have xX:=hr;refine⟨_,(ai (a8 (i:=1) qW.nd rfl (adm rfl) (aJ aL (pv 0) af (λ_ _=>rfl)))
 (ai (a5 (ay bu (pv 1) ao (aN _))
 (aj (aC (aV zc xW rfl T.q0 T.kT.kp T.qZ .nil aY (aa (aJ aL (pv 0) af (λ_ _=>rfl)) ah))))
 aH)
 (ai (a5 (PW.pt (pw_or (ay bu (pv 1) ao (aN _)) (pw_or1 (ay bu (pv 1) ao (aN _)))))
 (aj (aC (aV zd xX rfl T.q8 T.kU.kp T.q5 .nil aY (aa (aJ aL (pv 0) af (λ_ _=>rfl)) ah))))
 aH)
 (ai (a5 (ay bu (pv 1) ao (aN _))
 (aj (aC (aV eZ d0 rfl T.jE T.iu.kp T.jD .nil aY (aa (aJ aL (pv 0) af (λ_ _=>rfl)) ah))))
 aH)
 (aj (aC (vI (scope:=l7) vQ rfl (Vt (oG VD (pv 0) (ql af) vC)) (λ_ _ _ _ _=>(eh vy (by rfl) T.PL OQ (aa (pv 0) ah)))))))))),?_⟩
  have lim:ka=16777216:=by decide
  cases d with
  |mat cs =>
   refine hide λGg hGg=>?_
   obtain⟨L,ht,hL⟩:=hd;refine hGg ?_;refine ixv rfl ht rfl ?_;refine⟨_,rfl,rfl,tst (decide_eq_true rfl) ?_⟩;exact ixv rfl ht rfl ⟨L,cs,rfl,hL,o,q⟩
  |ed m k i ws =>
   refine hide λGg hGg=>?_
   obtain⟨e,ht,he⟩:=hd;refine hGg ?_;refine ixv rfl ht rfl ?_;refine⟨_,rfl,rfl,tsf (decide_eq_false (by cases m <;> decide +kernel)) ?_⟩
   cases m with
   |false =>
    refine⟨_,rfl,rfl,tst (decide_eq_true rfl) ?_⟩;exact ixv rfl ht rfl ⟨e,false,k,i,ws,rfl,he,o,q⟩
   |true =>
    refine⟨_,rfl,rfl,tsf (decide_eq_false (by decide +kernel)) ?_⟩
    refine⟨_,rfl,rfl,tst (decide_eq_true rfl) ?_⟩;exact ixv rfl ht rfl ⟨e,true,k,i,ws,rfl,he,o,q⟩
  |pt ws =>
   have ht:=hd;refine ixv rfl ht rfl ?_;refine⟨_,rfl,rfl,tsf (decide_eq_false (by decide +kernel)) ?_⟩
   refine⟨_,rfl,rfl,tsf (decide_eq_false (by decide +kernel)) ?_⟩
   refine⟨_,rfl,rfl,tsf (decide_eq_false (by decide +kernel)) ?_⟩
   refine⟨_,rfl,rfl,tst (decide_eq_true rfl) ?_⟩;have hcl:=uT o;refine ixv rfl ht rfl ⟨_,rfl,by omega,λp hp=>q p _ (aG hp) hp ?_⟩
   rw[ae,lC o.wd];rfl
  |nums kd ns =>
   refine hide λGg hGg=>?_
   have ht:=hd;obtain⟨o1,o2⟩:=o;obtain⟨n1,n2,n3,n4⟩:=aaF o1;have kl:=(kd_len o1).2;refine hGg ?_;refine ixv rfl ht (dF (j:=0) rfl) ?_;refine⟨_,rfl,rfl,tsf (decide_eq_false n1) ?_⟩;refine⟨_,rfl,rfl,tsf (decide_eq_false n2) ?_⟩;refine⟨_,rfl,rfl,tsf (decide_eq_false n3) ?_⟩;refine⟨_,rfl,rfl,tsf (decide_eq_false n4) ?_⟩;refine⟨_,rfl,_,rfl,t,_,rfl,ht,λz=>?_,λp hp=>?_⟩
   ·have z1:=z.1;rw[show (1:Int)=((1:Nat):Int) from rfl,HT.vA,ajH]at z1
    omega
   ·rw[show (1:Int)=((1:Nat):Int) from rfl,AQ]
    show _;have hs1:br H (upd H p (.tup (ns.map V.int))):=aG hp;have hpp:(upd H p (.tup (ns.map V.int))) p=some (.tup (ns.map V.int)):=ae;refine⟨p,rfl,⟨_,SqT.of hpp⟩,λD hD=>?_⟩
    have npD:p≠D:=aI hpp hD;refine O5 (K:=K) (a:=p) (xs:=ns.map V.int) (λi ys H3=>ys=(ns.take i).map (λn=>V.str (num n))/\H3=upd (upd H p (.tup (ns.map V.int))) D (.lst ys)) ⟨rfl,rfl⟩ (by rw[bo];omega) ?_ ?_ ?_
    ·rintro i ys H3 hi ⟨rfl,rfl⟩;rw[bo]at hi;exact⟨SqT.of ((av npD).trans hpp),ae,by rw[bo,akd];omega⟩
    ·rintro i y ys H3 hi ⟨rfl,rfl⟩;rw[aj0]at hi;cases hc:ns[i]? with
     |none=>rw[hc]at hi;cases hi
     |some n =>
      refine hide λGg hGg=>?_
      rw[hc]at hi;obtain rfl:V.int n=y:=ajJ hi;obtain⟨b0,b1⟩:=o2 n (ajQ hc);refine hGg ?_;refine⟨_,rfl,_,rfl,Mr b0 b1,?_⟩;refine ei.mk (by rw[bo];exact(List.getElem?_eq_some_iff.mp hc).1) ae ⟨?_,by rw[nc]⟩
      rw[akX,hc,kr];rfl
    ·rintro ys H3 ⟨rfl,rfl⟩;rw[bo,akY];refine q D _ (hs1.new hD) (hs1.free hD) ?_;rw[ae];show some (HO.lst _)=some (HO.lst ((ns.map num).map V.str));rw[List.map_map];rfl
theorem qJ (T:Txt w.params K mg A):aK P w K mg base CX0 4 A.lT A.gP ["deed"] (Ff K):=by
 have sP:aK P w K mg base CX0 3 A.pf A.iU ["words"] (uS K):=(wB T).mono (by decide)
 have BV:aK P w K mg base CX0 3 A.lu A.ia ["deed"] (GI K):=za T;refine T.kD.ok ER (λvs H Q E h=>?_) (λcdv A' outer s H vs Q E hr h=>?_)
 ·obtain⟨t,d,rfl,_⟩:=h;rfl
 ·obtain⟨t,d,rfl,hd,o,q⟩:=h;have qK:=hr;have ze:=hr;refine⟨_,(aj (aC (aV sP qK rfl T.sv T.nv.kp T.sj .nil aY (aa (a6 vG (bR (aa (aJ aL (pv 0) af (λ_ _=>rfl)) ah)) (aV BV ze rfl T.sy T.mj.kp T.sx .nil aY (aa (pv 0) ah))) ah)))),?_⟩
  refine hide λGg hGg=>?_
  have lim:ka=16777216:=by decide
  obtain⟨b1,b2,b3⟩:=DR o;obtain⟨xs,hx,hx0⟩:=hd.at0;refine hGg ?_;refine ixv rfl hx hx0 ⟨(sl 1),λp hp=>?_⟩
  refine⟨_,rfl,t,d,rfl,hd.same (aG hp),o,λp2 H2 s2 hn2 h2=>?_⟩
  have hp2:H2 p=some (.lst [V.str (BU d)]):=s2 _ _ ae;refine⟨p,p2,_,_,rfl,rfl,hp2,h2,(by rw[bo];show 1+_<=_;omega),λp3 hp3=>?_⟩
  refine⟨p3,BU d::ja d,rfl,SqL.of (by rw[ae];rfl),?_,q _ (((aG hp).trans s2).new hp3)⟩
  have:=StrLaws.sumLen_le (B:=20) (BU d::ja d) (λw hw=>by
   rcases List.mem_cons.mp hw with rfl | hw
   ·exact b3
   ·exact b2 w hw)
  rw[ajH]at this ⊢;omega
end
end R
end My
set_option maxHeartbeats 1000000
namespace My
open PySem L2
seal PySem.wpAny
inductive Rl where
 |ob | made | au | aB | decided | firsts | kept | rows
 |eM (n:Nat) | gx (n:Nat) | cM (n:Nat)
abbrev Col:=Addr->Option (Nat×Rl)
def dv (i:Nat)(x:Option (Nat×Rl)):Prop:=∃r,x=some (i,r)
theorem uU {i j:Nat}(n:i≠j)(r:Rl):¬dv j (some (i,r)):=λ⟨_,e⟩=>by cases e;exact n rfl
theorem aU {i:Nat}:¬dv i none:=λ⟨_,e⟩=>by cases e
structure Step (W:Option (Nat×Rl)->Prop)(c c':Col)(H H':Hp):Prop where
 nn:¬W none
 keep:∀a v,H a=some v->¬W (c a)->H' a=some v
 there:∀a v,H a=some v->∃v',H' a=some v'
 col:∀a v,H a=some v->¬W (c a)->c' a=c a
section
variable{W W':Option (Nat×Rl)->Prop}{c c1 c2:Col}{H H' H1 H2:Hp}{a:Addr}{o:HO}
theorem Step.refl (n:¬W none):Step W c c H H:=⟨n,λ_ _ h _=>h,λ_ v h=>⟨v,h⟩,λ_ _ _ _=>rfl⟩
theorem Step.same (n:¬W none)(s:br H H'):Step W c c H H':=⟨n,λa v h _=>s a v h,λa v h=>⟨v,s a v h⟩,λ_ _ _ _=>rfl⟩
theorem Step.mono (f:∀x,W x->W' x)(n:¬W' none)(s:Step W c c1 H H1):Step W' c c1 H H1 where
 nn:=n
 keep:=λa v h m=>s.keep a v h λz=>m (f _ z)
 there:=s.there
 col:=λa v h m=>s.col a v h λz=>m (f _ z)
theorem Step.trans (x:Step W c c1 H H1)(y:Step W c1 c2 H1 H2):Step W c c2 H H2 where
 nn:=x.nn
 keep:=λa v h n=>y.keep a v (x.keep a v h n) (by rw[x.col a v h n];exact n)
 there:=λa v h=>let ⟨v1,h1⟩:=x.there a v h;y.there a v1 h1
 col:=λa v h n=>(y.col a v (x.keep a v h n) (by rw[x.col a v h n];exact n)).trans (x.col a v h n)
theorem Step.upd (n:¬W none)(m:W (c a)):Step W c c H (L2.upd H a o) where
 nn:=n
 keep:=λb v h n=>by rw[av (λz=>n (by rw[z];exact m))];exact h
 there:=λb v h=>by
  by_cases z:b=a
  ·rw[z];exact⟨o,ae⟩
  ·exact⟨v,by rw[av z];exact h⟩
 col:=λ_ _ _ _=>rfl
def az (c:Col)(a:Addr)(x:Option (Nat×Rl)):Col:=λb=>if b=a then x else c b
theorem aW {x:Option (Nat×Rl)}:az c a x a=x:=if_pos rfl
theorem aw {b:Addr}{x:Option (Nat×Rl)}(h:b≠a):az c a x b=c b:=if_neg h
theorem Step.new {x:Option (Nat×Rl)}(n:¬W none)(h:H a=none):Step W c (az c a x) H (L2.upd H a o) where
 nn:=n
 keep:=λb v e _=>aG h b v e
 there:=λb v e=>⟨v,aG h b v e⟩
 col:=λb v e _=>aw (λz=>by rw[z,h]at e;cases e)
theorem Step.role {x:Option (Nat×Rl)}(n:¬W none)(m:W (c a)):Step W c (az c a x) H H where
 nn:=n
 keep:=λ_ _ h _=>h
 there:=λ_ v h=>⟨v,h⟩
 col:=λb _ _ n=>aw (λz=>n (by rw[z];exact m))
def cx (c:Col)(H:Hp):Col:=λa=>if (H a).isSome then c a else none
theorem bO (h:H a=none):cx c H a=none:=by unfold cx;rw[h];rfl
theorem Qa {v:HO}(h:H a=some v):cx c H a=c a:=by unfold cx;rw[h];rfl
theorem Step.cl (n:¬W none)(s:br H H'):Step W c (cx c H) H H':=⟨n,λa v h _=>s a v h,λa v h=>⟨v,s a v h⟩,λ_ _ h _=>Qa h⟩
end
def Wr (i:Nat)(p:Rl->Bool)(x:Option (Nat×Rl)):Prop:=∃r,x=some (i,r)/\p r=true
section
variable{i:Nat}{p:Rl->Bool}{r:Rl}{c c':Col}{H H':Hp}{a:Addr}
theorem Wr.nn:¬Wr i p none:=λ⟨_,e,_⟩=>nomatch e
theorem Wr.no (h:p r=false):¬Wr i p (some (i,r)):=λ⟨_,e,z⟩=>by cases e;rw[h]at z;cases z
theorem Wr.yes (e:c a=some (i,r))(h:p r=true):Wr i p (c a):=⟨r,e,h⟩
theorem Step.g9 (s:Step (Wr i p) c c' H H'):Step (dv i) c c' H H':=s.mono (λ_ ⟨r,e,_⟩=>⟨r,e⟩) aU
theorem mz {o:Addr}{v:HO}(h:p .ob=false)(s:Step (Wr i p) c c' H H')(h1:c o=some (i,.ob))(h2:H o=some v):c' o=some (i,.ob)/\H' o=some v:=by
 have hn:¬Wr i p (c o):=by rw[h1];exact Wr.no h
 exact⟨by rw[s.col o _ h2 hn];exact h1,s.keep _ _ h2 hn⟩
end
inductive Mn where
 |mat (tx:List Str) | chg (e:Ed) | mnd (e:Ed) | off (n:Int) | cls | lay | rst | pnt (z:Str)
def Mn.k:Mn->Nat
 | .mat _=>0 | .chg _=>1 | .mnd _=>2 | .off _=>3 | .cls=>4 | .lay=>5 | .rst=>6 | .pnt _=>7
theorem Mn.k8 (m:Mn):m.k < 8:=by cases m <;> simp only[Mn.k] <;> omega
def TupAt (c:Col)(H:Hp)(t:Addr)(xs:List V):Prop:=c t=none/\Rd H t (.tup xs)
theorem TupAt.sq {K:ba}{c:Col}{H:Hp}{t:Addr}{xs:List V}(h:TupAt c H t xs):SqT K H t xs:=.inl h.2
theorem TupAt.step {W:Option (Nat×Rl)->Prop}{c c':Col}{H H':Hp}{t:Addr}{xs:List V}(s:Step W c c' H H')(h:TupAt c H t xs):TupAt c' H' t xs:=by
 obtain⟨n,h⟩:=h;have hn:¬W (c t):=by rw[n];exact s.nn
 rcases h with h | ⟨o,h⟩
 ·exact⟨by rw[s.col t _ h hn];exact n,.inl (s.keep _ _ h hn)⟩
 ·exact⟨by rw[s.col t _ h hn];exact n,.inr ⟨o,s.keep _ _ h hn⟩⟩
def Mu (c:Col)(H:Hp)(p:Addr)(tx:List Str):Prop:=c p=none/\H p=some (.lst (tx.map V.str))
theorem Mu.step {W:Option (Nat×Rl)->Prop}{c c':Col}{H H':Hp}{p:Addr}{tx:List Str}(s:Step W c c' H H')(h:Mu c H p tx):Mu c' H' p tx :=
 have hn:¬W (c p):=by rw[h.1];exact s.nn
 ⟨by rw[s.col p _ h.2 hn];exact h.1,s.keep _ _ h.2 hn⟩
def Mn.Val (c:Col)(H:Hp):Mn->V->Prop
 | .mat tx,v=>∃p,v=.ref p/\Mu c H p tx
 | .chg e,v=>∃t,v=.ref t/\TupAt c H t (eK e)
 | .mnd e,v=>∃t,v=.ref t/\TupAt c H t (eK e)
 | .off n,v=>v=.int n
 | .pnt z,v=>v=.str z
 |_,_=>True
theorem Mn.Val.step {W:Option (Nat×Rl)->Prop}{c c':Col}{H H':Hp}(s:Step W c c' H H'):∀ {m:Mn} {v:V},m.Val c H v->m.Val c' H' v
 | .mat _,_,⟨p,e,h⟩=>⟨p,e,h.step s⟩
 | .chg _,_,⟨t,e,h⟩=>⟨t,e,h.step s⟩
 | .mnd _,_,⟨t,e,h⟩=>⟨t,e,h.step s⟩
 | .off _,_,h=>h
 | .pnt _,_,h=>h
 | .cls,_,_=>trivial
 | .lay,_,_=>trivial
 | .rst,_,_=>trivial
def mB (A:Adr)(c:Col)(H:Hp)(m:Mn)(o:Addr):Prop:=c o=none/\∃dx v,H o=some (.ins (A.C m.k) dx (pK m.k v))/\m.Val c H v
theorem mB.step {A:Adr}{W:Option (Nat×Rl)->Prop}{c c':Col}{H H':Hp}{m:Mn}{o:Addr}(s:Step W c c' H H')(h:mB A c H m o):mB A c' H' m o:=by
 obtain⟨n,dx,v,h,hv⟩:=h;have hn:¬W (c o):=by rw[n];exact s.nn
 exact⟨by rw[s.col o _ h hn];exact n,dx,v,s.keep _ _ h hn,hv.step s⟩
structure Ch where
 cz:Int
 aQ:Int
 closed:Bool
 made:List Mn
 au:List Nat
 aB:List (Nat×Int×List Nat)
 decided:List (Nat×Str)
 firsts:List (Nat×List Str)
 kept:List (Nat×List Ed)
 rows:List Str
def nV (n:Nat):V:=.int (n:Int)
def a7 (xs:List (Nat×V)):List (Key×V):=xs.map λp=>(km (p.1:Int),p.2)
inductive bI {α β:Type}(R:α->β->Prop):List α->List β->Prop
 |nil:bI R [] []
 |cons {a b as bs}:R a b->bI R as bs->bI R (a::as) (b::bs)
theorem bI.imp {α β:Type}{R R':α->β->Prop}(f:∀a b,R a b->R' a b):∀ {as:List α} {bs:List β},bI R as bs->bI R' as bs
 |_,_,.nil=>.nil
 |_,_,.cons h t=>.cons (f _ _ h) (t.imp f)
def LstAt (i:Nat)(c:Col)(H:Hp)(r:Rl)(a:Addr)(xs:List V):Prop:=c a=some (i,r)/\H a=some (.lst xs)
def jm (i:Nat)(c:Col)(H:Hp)(r:Rl)(a:Addr)(xs:List (Nat×V)):Prop:=c a=some (i,r)/\H a=some (.dK (a7 xs))
def chF (v0 v1 v2 v3 v4 v5 v6 v7 v8 v9:V):List (Str×V):=[(ar "seats",v0),(ar "sitting",v1),(ar "closed",v2),(ar "made",v3),(ar "pile",v4),(ar "aside",v5),(ar "decided",v6),(ar "first_texts",v7),(ar "edits_kept",v8),(ar "rows",v9)]
abbrev Mv (i:Nat)(c:Col)(H:Hp)(x:Nat×Int×List Nat)(v:V):Prop:=∃t p,v=.ref t/\TupAt c H t [.int x.2.1,.ref p]/\LstAt i c H (.eM x.1) p (x.2.2.map nV)
abbrev Fg (i:Nat)(c:Col)(H:Hp)(x:Nat×List Str)(v:V):Prop:=∃p,v=.ref p/\LstAt i c H (.cM x.1) p (x.2.map V.str)
abbrev Mw (i:Nat)(c:Col)(H:Hp)(x:Nat×List Ed)(v:V):Prop:=∃p ts,v=.ref p/\LstAt i c H (.gx x.1) p (ts.map V.ref)/\bI (λe t=>TupAt c H t (eK e)) x.2 ts
structure ChX (A:Adr)(i:Nat)(c:Col)(H:Hp)(o:Addr)(st:Ch)(dx aM aP aA aD aF aE aR:Addr)(ms ds:List Addr)(ws fs es:List V):Prop where
 co:c o=some (i,.ob)
 ob:H o=some (.ins A.ax dx (chF (.int st.cz) (.int st.aQ) (.bl st.closed) (.ref aM) (.ref aP) (.ref aA) (.ref aD) (.ref aF) (.ref aE) (.ref aR)))
 made:jm i c H .made aM ((aj5 1 st.made.length).zip (ms.map V.ref))
 mot:bI (λm p=>mB A c H m p) st.made ms
 au:LstAt i c H .au aP (st.au.map nV)
 aB:jm i c H .aB aA ((st.aB.map (·.1)).zip ws)
 wait:bI (Mv i c H) st.aB ws
 dec:LstAt i c H .decided aD (ds.map V.ref)
 mD:bI (λ(x:Nat×Str) t=>TupAt c H t [nV x.1,.str x.2]) st.decided ds
 firsts:jm i c H .firsts aF ((st.firsts.map (·.1)).zip fs)
 first:bI (Fg i c H) st.firsts fs
 kH:jm i c H .kept aE ((st.kept.map (·.1)).zip es)
 kept:bI (Mw i c H) st.kept es
 rows:LstAt i c H .rows aR (st.rows.map V.str)
structure fb (A:Adr)(i:Nat)(c:Col)(H:Hp)(o:Addr)(st:Ch):Prop where
 ex:∃(dx aM aP aA aD aF aE aR:Addr) (ms ds:List Addr) (ws fs es:List V),ChX A i c H o st dx aM aP aA aD aF aE aR ms ds ws fs es
theorem LstAt.keep {i:Nat}{W:Option (Nat×Rl)->Prop}{c c':Col}{H H':Hp}{r:Rl}{a:Addr}{xs:List V}(n:¬W (some (i,r)))(s:Step W c c' H H')(h:LstAt i c H r a xs):LstAt i c' H' r a xs:=by
 have hn:¬W (c a):=by rw[h.1];exact n
 exact⟨by rw[s.col a _ h.2 hn];exact h.1,s.keep _ _ h.2 hn⟩
theorem jm.keep {i:Nat}{W:Option (Nat×Rl)->Prop}{c c':Col}{H H':Hp}{r:Rl}{a:Addr}{xs:List (Nat×V)}(n:¬W (some (i,r)))(s:Step W c c' H H')(h:jm i c H r a xs):jm i c' H' r a xs:=by
 have hn:¬W (c a):=by rw[h.1];exact n
 exact⟨by rw[s.col a _ h.2 hn];exact h.1,s.keep _ _ h.2 hn⟩
section
variable{A:Adr}{i:Nat}{p:Rl->Bool}{r:Rl}{c c':Col}{H H':Hp}{a o:Addr}
theorem LstAt.kp {xs:List V}(h:p r=false)(s:Step (Wr i p) c c' H H')(z:LstAt i c H r a xs):LstAt i c' H' r a xs:=z.keep (Wr.no h) s
theorem jm.kp {xs:List (Nat×V)}(h:p r=false)(s:Step (Wr i p) c c' H H')(z:jm i c H r a xs):jm i c' H' r a xs:=z.keep (Wr.no h) s
theorem bI.imp_mem {α β:Type}{R R':α->β->Prop}:∀ {as:List α} {bs:List β},(∀a∈as,∀b,R a b->R' a b)->bI R as bs->bI R' as bs
 |_,_,_,.nil=>.nil
 |_,_,f,.cons h t=>.cons (f _ fu _ h) (t.imp_mem λa m b=>f a (ky _ m) b)
theorem sQ {as:List Mn}{ms:List Addr}{W:Option (Nat×Rl)->Prop}(s:Step W c c' H H')(z:bI (λm p=>mB A c H m p) as ms):bI (λm p=>mB A c' H' m p) as ms:=z.imp λ_ _ y=>y.step s
theorem jb {as:List (Nat×Str)}{ds:List Addr}{W:Option (Nat×Rl)->Prop}(s:Step W c c' H H')(z:bI (λ(x:Nat×Str) t=>TupAt c H t [nV x.1,.str x.2]) as ds):bI (λ(x:Nat×Str) t=>TupAt c' H' t [nV x.1,.str x.2]) as ds:=z.imp λ_ _ y=>y.step s
theorem kJ {as:List (Nat×Int×List Nat)}{ws:List V}(h:∀x∈as,p (.eM x.1)=false)(s:Step (Wr i p) c c' H H')(z:bI (Mv i c H) as ws):bI (Mv i c' H') as ws :=
 z.imp_mem λx m v ⟨t,q,e,z1,z2⟩=>⟨t,q,e,z1.step s,z2.kp (h x m) s⟩
theorem uC {as:List (Nat×List Str)}{ws:List V}(h:∀x∈as,p (.cM x.1)=false)(s:Step (Wr i p) c c' H H')(z:bI (Fg i c H) as ws):bI (Fg i c' H') as ws :=
 z.imp_mem λx m v ⟨q,e,z2⟩=>⟨q,e,z2.kp (h x m) s⟩
theorem wC {as:List (Nat×List Ed)}{ws:List V}(h:∀x∈as,p (.gx x.1)=false)(s:Step (Wr i p) c c' H H')(z:bI (Mw i c H) as ws):bI (Mw i c' H') as ws :=
 z.imp_mem λx m v ⟨q,ts,e,z2,z3⟩=>⟨q,ts,e,z2.kp (h x m) s,z3.imp λ_ _ y=>y.step s⟩
end
theorem fb.other {A:Adr}{i j:Nat}(n:i≠j){c c':Col}{H H':Hp}{o:Addr}{st:Ch}(s:Step (dv j) c c' H H')(h:fb A i c H o st):fb A i c' H' o st:=by
 obtain⟨dx,aM,aP,aA,aD,aF,aE,aR,ms,ds,ws,fs,es,h1,h2,h3,h4,h5,h6,h7,h8,h9,h10,h11,h12,h13,h14⟩:=h.ex;have no:=λr=>uU n r
 have hn:¬dv j (c o):=by rw[h1];exact no _
 refine⟨dx,aM,aP,aA,aD,aF,aE,aR,ms,ds,ws,fs,es,by rw[s.col o _ h2 hn];exact h1,s.keep _ _ h2 hn,h3.keep (no _) s,h4.imp λ_ _ z=>z.step s,h5.keep (no _) s,h6.keep (no _) s,h7.imp ?_,h8.keep (no _) s,h9.imp λ_ _ z=>z.step s,
  h10.keep (no _) s,h11.imp ?_,h12.keep (no _) s,h13.imp ?_,h14.keep (no _) s⟩
 ·rintro x v ⟨t,p,e,z1,z2⟩;exact⟨t,p,e,z1.step s,z2.keep (no _) s⟩
 ·rintro x v ⟨p,e,z⟩;exact⟨p,e,z.keep (no _) s⟩
 ·rintro x v ⟨p,ts,e,z1,z2⟩;exact⟨p,ts,e,z1.keep (no _) s,z2.imp λ_ _ y=>y.step s⟩
end My
set_option maxHeartbeats 1000000
namespace My
open PySem L2
seal PySem.wpAny
section
variable{v0 v1 v2 v3 v4 v5 v6 v7 v8 v9 y:V}
theorem Nk:(chF v0 v1 v2 v3 v4 v5 v6 v7 v8 v9).lookup (ar "seats")=some v0:=by simp only[chF,akf,show (ar "seats" == ar "seats")=true from by decide +kernel]
theorem iN:(chF v0 v1 v2 v3 v4 v5 v6 v7 v8 v9).lookup (ar "sitting")=some v1:=by simp only[chF,akf,show (ar "sitting" == ar "seats")=false from by decide +kernel,show (ar "sitting" == ar "sitting")=true from by decide +kernel]
theorem qL:(chF v0 v1 v2 v3 v4 v5 v6 v7 v8 v9).lookup (ar "closed")=some v2:=by simp only[chF,akf,show (ar "closed" == ar "seats")=false from by decide +kernel,show (ar "closed" == ar "sitting")=false from by decide +kernel,show (ar "closed" == ar "closed")=true from by decide +kernel]
theorem hG:(chF v0 v1 v2 v3 v4 v5 v6 v7 v8 v9).lookup (ar "made")=some v3:=by simp only[chF,akf,show (ar "made" == ar "seats")=false from by decide +kernel,show (ar "made" == ar "sitting")=false from by decide +kernel,show (ar "made" == ar "closed")=false from by decide +kernel,show (ar "made" == ar "made")=true from by decide +kernel]
theorem eN:(chF v0 v1 v2 v3 v4 v5 v6 v7 v8 v9).lookup (ar "pile")=some v4:=by simp only[chF,akf,show (ar "pile" == ar "seats")=false from by decide +kernel,show (ar "pile" == ar "sitting")=false from by decide +kernel,show (ar "pile" == ar "closed")=false from by decide +kernel,show (ar "pile" == ar "made")=false from by decide +kernel,show (ar "pile" == ar "pile")=true from by decide +kernel]
theorem jI:(chF v0 v1 v2 v3 v4 v5 v6 v7 v8 v9).lookup (ar "aside")=some v5:=by simp only[chF,akf,show (ar "aside" == ar "seats")=false from by decide +kernel,show (ar "aside" == ar "sitting")=false from by decide +kernel,show (ar "aside" == ar "closed")=false from by decide +kernel,show (ar "aside" == ar "made")=false from by decide +kernel,show (ar "aside" == ar "pile")=false from by decide +kernel,show (ar "aside" == ar "aside")=true from by decide +kernel]
theorem yN:(chF v0 v1 v2 v3 v4 v5 v6 v7 v8 v9).lookup (ar "decided")=some v6:=by simp only[chF,akf,show (ar "decided" == ar "seats")=false from by decide +kernel,show (ar "decided" == ar "sitting")=false from by decide +kernel,show (ar "decided" == ar "closed")=false from by decide +kernel,show (ar "decided" == ar "made")=false from by decide +kernel,show (ar "decided" == ar "pile")=false from by decide +kernel,show (ar "decided" == ar "aside")=false from by decide +kernel,show (ar "decided" == ar "decided")=true from by decide +kernel]
theorem zf:(chF v0 v1 v2 v3 v4 v5 v6 v7 v8 v9).lookup (ar "first_texts")=some v7:=by simp only[chF,akf,show (ar "first_texts" == ar "seats")=false from by decide +kernel,show (ar "first_texts" == ar "sitting")=false from by decide +kernel,show (ar "first_texts" == ar "closed")=false from by decide +kernel,show (ar "first_texts" == ar "made")=false from by decide +kernel,show (ar "first_texts" == ar "pile")=false from by decide +kernel,show (ar "first_texts" == ar "aside")=false from by decide +kernel,show (ar "first_texts" == ar "decided")=false from by decide +kernel,show (ar "first_texts" == ar "first_texts")=true from by decide +kernel]
theorem sS:(chF v0 v1 v2 v3 v4 v5 v6 v7 v8 v9).lookup (ar "edits_kept")=some v8:=by simp only[chF,akf,show (ar "edits_kept" == ar "seats")=false from by decide +kernel,show (ar "edits_kept" == ar "sitting")=false from by decide +kernel,show (ar "edits_kept" == ar "closed")=false from by decide +kernel,show (ar "edits_kept" == ar "made")=false from by decide +kernel,show (ar "edits_kept" == ar "pile")=false from by decide +kernel,show (ar "edits_kept" == ar "aside")=false from by decide +kernel,show (ar "edits_kept" == ar "decided")=false from by decide +kernel,show (ar "edits_kept" == ar "first_texts")=false from by decide +kernel,show (ar "edits_kept" == ar "edits_kept")=true from by decide +kernel]
theorem wD:(chF v0 v1 v2 v3 v4 v5 v6 v7 v8 v9).lookup (ar "rows")=some v9:=by simp only[chF,akf,show (ar "rows" == ar "seats")=false from by decide +kernel,show (ar "rows" == ar "sitting")=false from by decide +kernel,show (ar "rows" == ar "closed")=false from by decide +kernel,show (ar "rows" == ar "made")=false from by decide +kernel,show (ar "rows" == ar "pile")=false from by decide +kernel,show (ar "rows" == ar "aside")=false from by decide +kernel,show (ar "rows" == ar "decided")=false from by decide +kernel,show (ar "rows" == ar "first_texts")=false from by decide +kernel,show (ar "rows" == ar "edits_kept")=false from by decide +kernel,show (ar "rows" == ar "rows")=true from by decide +kernel]
theorem GJ:f7 (ar "sitting") y (chF v0 v1 v2 v3 v4 v5 v6 v7 v8 v9)=chF v0 y v2 v3 v4 v5 v6 v7 v8 v9:=by
 unfold chF;simp only[f7];rw[if_neg (by decide +kernel),if_pos trivial]
theorem BW:f7 (ar "closed") y (chF v0 v1 v2 v3 v4 v5 v6 v7 v8 v9)=chF v0 v1 y v3 v4 v5 v6 v7 v8 v9:=by
 unfold chF;simp only[f7];rw[if_neg (by decide +kernel),if_neg (by decide +kernel),if_pos trivial]
theorem GK:f7 (ar "pile") y (chF v0 v1 v2 v3 v4 v5 v6 v7 v8 v9)=chF v0 v1 v2 v3 y v5 v6 v7 v8 v9:=by
 unfold chF;simp only[f7];rw[if_neg (by decide +kernel),if_neg (by decide +kernel),if_neg (by decide +kernel),if_neg (by decide +kernel),if_pos trivial]
end
def xY (A:Adr)(i:Nat):Sp:=λvs H Q E=>∃(o:Addr) (c:Col) (st:Ch),vs=[.ref o]/\fb A i c H o st/\(st.au≠[]->Q .non H)/\(st.au=[]->E (.ref A.pz) none H)
section
variable{P:me}{w:World}{K:ba}{mg:Str->Option Value}{base:Heap}{A:Adr}
theorem mE (T:Txt w.params K mg A){i:Nat}:aK P w K mg base (CXX P w) 1 A.bb A.bU ["self"] (xY A i):=by
 refine T.b6.okX l6 (λvs H Q E h=>?_) (λcdv A' outer s H vs Q E hr h=>?_)
 ·obtain⟨o,c,st,rfl,_⟩:=h;rfl
 ·obtain⟨o,c,st,rfl,hc,q1,q2⟩:=h;obtain⟨dx,aM,aP,aA,aD,aF,aE,aR,ms,ds,ws,fs,es,h1,h2,h3,h4,h5,h6,h7,h8,h9,h10,h11,h12,h13,h14⟩:=hc.ex;refine⟨_,(bD (gU (qk (rT (bj (pv 0) rfl) (λ_=>rfl)))
 (bD (jt T.BH rfl rfl T.DL (aa ao ah)))
 (vJ aH))),?_⟩
  refine eQ rfl h2 T.aq T.jq0 eN ?_;refine⟨_,.inl ⟨_,.inl (.inl h5.2),rfl⟩,?_⟩;cases e:st.au with
  |nil=>exact dP ⟨by decide,q2 e⟩
  |cons x r=>exact bX (q1 (by rw[e];exact aj1 _ _))
end
end My
set_option maxHeartbeats 1000000
namespace My
open PySem L2
seal PySem.wpAny
theorem bI.len {α β:Type}{R:α->β->Prop}:∀ {as:List α} {bs:List β},bI R as bs->as.length=bs.length
 |_,_,.nil=>rfl
 |_,_,.cons _ t=>by rw[ajH,ajH,t.len]
theorem bI.get {α β:Type}{R:α->β->Prop}:∀ {as:List α} {bs:List β} {i:Nat} {a:α},bI R as bs->as[i]?=some a->∃b,bs[i]?=some b/\R a b
 |_,_,_,_,.nil,h=>by simp at h
 |_,_,0,_,.cons h t,e=>by
  rw[ajX]at e;cases e;exact⟨_,ajX,h⟩
 |_,_,i+1,_,.cons h t,e=>by
  rw[aj2]at e;obtain⟨b,e1,e2⟩:=t.get e;exact⟨b,by rw[aj2];exact e1,e2⟩
theorem BX:∀(ms:List Addr) (s k:Nat) {o:Addr},ms[k]?=some o->gD (a7 ((aj5 s ms.length).zip (ms.map V.ref))) (km ((s+k:Nat):Int))=some (.ref o)
 |[],_,_,_,h=>by simp at h
 |m::ms,s,0,o,h=>by
  rw[ajX]at h;cases h;exact et (p:=(km ((s:Nat):Int),V.ref m)) rfl
 |m::ms,s,k+1,o,h=>by
  rw[aj2]at h;have ih:=BX ms (s+1) k h;have e:s+(k+1)=s+1+k:=by omega
  rw[e];refine(bQ (p:=(km ((s:Nat):Int),V.ref m)) ?_).trans ih;intro z;have z':((s:Nat):Int)=((s+1+k:Nat):Int):=Sum.inl.inj z;omega
def Ch.mo (st:Ch)(n:Nat):Mn:=st.made.getD (n - 1) .cls
def cX (st:Ch)(n:Nat):Prop:=1<=n/\n<=st.made.length
def xZ (A:Adr)(i:Nat):Sp:=λvs H Q _=>∃(o:Addr) (c:Col) (st:Ch),vs=[.ref o]/\fb A i c H o st/\(∀n∈st.au,cX st n)/\st.au.length<=1000 /\
 ∀R os,H R=none->bI (λn m=>mB A c H (st.mo n) m) st.au os->Q (.ref R) (upd H R (.lst (os.map V.ref)))
theorem Mx {A:Adr}{c:Col}{H:Hp}{st:Ch}{ms:List Addr}(h:bI (λm p=>mB A c H m p) st.made ms):∀(ns:List Nat),(∀n∈ns,cX st n)->bI (λn m=>mB A c H (st.mo n) m) ns (ns.map λn=>ms.getD (n - 1) 0)
 |[],_=>.nil
 |n::ns,g=>by
  have hn:=g n fu;have hlt:n - 1 < st.made.length:=by have:=hn.1;have:=hn.2;omega
  obtain⟨b,e1,e2⟩:=h.get (wa hlt);refine .cons ?_ (Mx h ns λn hn=>g n (ky _ hn))
  have e3:st.mo n=st.made[n - 1]:=by unfold Ch.mo;rw[ajN,wa hlt];rfl
  have e4:ms.getD (n - 1) 0=b:=by rw[ajN,e1];rfl
  show mB A c H (st.mo n) (ms.getD (n - 1) 0);rw[e3,e4];exact e2
section
variable{P:me}{w:World}{K:ba}{mg:Str->Option Value}{base:Heap}{A:Adr}
theorem BY (T:Txt w.params K mg A){i:Nat}:aK P w K mg base CX0 1 A.bF A.dC ["self"] (xZ A i):=by
 refine T.dW.ok uI (λvs H Q E h=>?_) (λcdv A' outer s H vs Q E hr h=>?_)
 ·obtain⟨o,c,st,rfl,_⟩:=h;rfl
 ·obtain⟨o,c,st,rfl,hc,hp,hpl,q⟩:=h;obtain⟨dx,aM,aP,aA,aD,aF,aE,aR,ms,ds,ws,fs,es,h1,h2,h3,h4,h5,h6,h7,h8,h9,h10,h11,h12,h13,h14⟩:=hc.ex;have hu1:=hr.u1;refine⟨_,(aj (aC (vI (scope:=jj) rZ rfl (ll (bj (pv 0) rfl)) (λ_ _ _ _ _=>(bc hu1 (R7 (K:=K) rfl (pv 1) rfl) (pv 0) (λ_ _=>rfl)))))),?_⟩
  have ml:=h4.len;refine eQ rfl h2 T.aq T.jq0 eN ?_;have hB:SqL K H aP (st.au.map nV):=SqL.of h5.2;refine⟨aP,rfl,⟨_,hB⟩,λR hR=>?_⟩
  have sR:∀ {o:HO},br H (upd H R o):=aG hR;refine tW (K:=K) (a:=aP) (xs:=st.au.map nV) (λi ys H2=>ys=((st.au.take i).map λn=>V.ref (ms.getD (n - 1) 0))/\H2=upd H R (.lst ys)) ⟨rfl,rfl⟩ (by rw[bo,sizeLine_eq];omega) ?_ ?_ ?_
  ·rintro i ys H2 hi ⟨rfl,rfl⟩;rw[bo]at hi;exact⟨sR.seq hB,ae,by rw[bo,akd];omega⟩
  ·rintro i y ys H2 hy ⟨rfl,rfl⟩;refine hide λGg hGg=>?_
   obtain⟨n,hn1,rfl⟩:∃n,st.au[i]?=some n/\nV n=y:=by
    rw[aj0]at hy;cases ht:st.au[i]? with
    |none=>rw[ht]at hy;cases hy
    |some t=>rw[ht]at hy;exact⟨t,rfl,ajJ hy⟩
   have hn:=hp n (ajQ hn1);have hlt:n - 1 < ms.length:=by have:=hn.1;have:=hn.2;omega
   have hm:ms[n - 1]?=some (ms.getD (n - 1) 0):=by rw[ajN,wa hlt];rfl
   have hv:=BX ms 1 (n - 1) hm;rw[<-ml,show 1+(n - 1)=n by have:=hn.1;omega]at hv
   refine hGg ?_;refine eQ rfl (sR _ _ h2) T.aq T.jq2 hG ?_;refine⟨_,rfl,aM,_,rfl,.inl ⟨_,km (n:Int),.inl (sR _ _ h3.2),rfl,hv.symm⟩,?_⟩;refine ei.mk (List.getElem?_eq_some_iff.mp hy).1 ae ⟨?_,by rw[nc]⟩
   rw[akX,hn1,kr];rfl
  ·rintro ys H2 ⟨rfl,rfl⟩;rw[bo,akY];have:=q R _ hR (Mx h4 st.au hp);rw[List.map_map]at this;exact this
end
end My
set_option maxHeartbeats 1000000
namespace My
open PySem L2
seal PySem.wpAny
theorem bI.snoc {α β:Type}{R:α->β->Prop}:∀ {as:List α} {bs:List β} {a:α} {b:β},bI R as bs->R a b->bI R (as++[a]) (bs++[b])
 |_,_,_,_,.nil,h=>.cons h .nil
 |_,_,_,_,.cons g t,h=>.cons g (t.snoc h)
def BZ (A:Adr)(i:Nat):Sp:=λvs H Q _=>∃(o:Addr) (wd:Str) (c:Col) (st:Ch) (pre:List Nat) (n:Nat),vs=[.ref o,.str wd]/\fb A i c H o st/\st.au=pre++[n]/\st.au.length<=1000/\st.decided.length<=1000 /\
 ∀c' H',Step (dv i) c c' H H'->fb A i c' H' o { st with au:=pre,decided:=st.decided++[(n,wd)] }->Q .non H'
section
variable{P:me}{w:World}{K:ba}{mg:Str->Option Value}{base:Heap}{A:Adr}
theorem DS (T:Txt w.params K mg A){i:Nat}:aK P w K mg base CX0 1 A.bG A.dR ["self","word"] (BZ A i):=by
 refine T.eI.ok vP (λvs H Q E h=>?_) (λcdv A' outer s H vs Q E hr h=>?_)
 ·obtain⟨o,wd,c,st,pre,n,rfl,_⟩:=h;rfl
 ·obtain⟨o,wd,c,st,pre,n,rfl,hc,hp,hpl,hdl,q⟩:=h;obtain⟨dx,aM,aP,aA,aD,aF,aE,aR,ms,ds,ws,fs,es,h1,h2,h3,h4,h5,h6,h7,h8,h9,h10,h11,h12,h13,h14⟩:=hc.ex;refine⟨_,(aj (bJ (gR rf ajU ajV cU (bj (pv 0) rfl) (aa (bt (aa (OI rf PySem.F.slot_list_pop PySem.F.type_list_pop OM (bj (pv 0) rfl)) (aa (pv 1) ah))) ah)))),?_⟩;refine eQ rfl h2 T.aq T.jqj yN ?_;have hy:(st.au.map nV)[(st.au.map nV).length - 1]?=some (nV n):=by rw[hp];simp
  have hdr:(st.au.map nV).dropLast=pre.map nV:=by rw[hp,kr];simp
  have nPD:aD≠aP:=λz=>by have:=h8.1;rw[z,h5.1]at this;cases this
  refine⟨.inl ⟨rfl,_,SqL.of h8.2⟩,eQ rfl h2 T.aq T.jq0 eN ?_⟩;refine⟨.inl ⟨rfl,_,SqL.of h5.2⟩,aP,_,_,rfl,rfl,h5.2,hy,_,rfl,(sl 2),λp hp0=>?_⟩
  have np:∀ {a:Addr} {v:HO},H a=some v->a≠p:=by
   intro a v e z;subst z
   by_cases y:a=aP
   ·subst y;rw[ae]at hp0;cases hp0
   ·rw[av y,e]at hp0;cases hp0
  have nn:¬(λx=>x=some (i,Rl.au)\/x=some (i,Rl.decided)) (none:Option (Nat×Rl)):=by rintro (z | z) <;> cases z
  refine⟨aD,_,_,rfl,rfl,(av (np h8.2)).trans ((av nPD).trans h8.2),?_,?_⟩
  ·rw[bo,<-h9.len,sizeLine_eq];omega
  have sp:Step (λx=>x=some (i,Rl.au)\/x=some (i,Rl.decided)) c (az c p none) H (upd (upd (upd H aP (.lst (st.au.map nV).dropLast)) p (.tup [nV n,.str wd])) aD (.lst (ds.map V.ref++[.ref p]))) :=
   ((Step.upd nn (.inl h5.1)).trans (Step.new nn hp0)).trans (Step.upd nn (.inr (by rw[aw (np h8.2)];exact h8.1)))
  have ht:TupAt (az c p none) (upd (upd (upd H aP (.lst (st.au.map nV).dropLast)) p (.tup [nV n,.str wd])) aD (.lst (ds.map V.ref++[.ref p]))) p [nV n,.str wd] :=
   ⟨aW,.inl ((av (np h8.2).symm).trans ae)⟩
  have kp:LstAt i (az c p none) (upd (upd (upd H aP (.lst (st.au.map nV).dropLast)) p (.tup [nV n,.str wd])) aD (.lst (ds.map V.ref++[.ref p]))) .au aP (pre.map nV) :=
   ⟨by rw[aw (np h5.2)];exact h5.1,by rw[av nPD.symm,av (np h5.2),ae,hdr]⟩
  have kd:LstAt i (az c p none) (upd (upd (upd H aP (.lst (st.au.map nV).dropLast)) p (.tup [nV n,.str wd])) aD (.lst (ds.map V.ref++[.ref p]))) .decided aD ((ds++[p]).map V.ref) :=
   ⟨by rw[aw (np h8.2)];exact h8.1,by rw[ae,kr];rfl⟩
  generalize upd (upd (upd H aP (.lst (st.au.map nV).dropLast)) p (.tup [nV n,.str wd])) aD (.lst (ds.map V.ref++[.ref p]))=H' at sp ht kp kd ⊢;generalize az c p none=c' at sp ht kp kd;have no:∀r,r≠Rl.au->r≠Rl.decided->¬(λx=>x=some (i,Rl.au)\/x=some (i,Rl.decided)) (some (i,r)):=λr y1 y2=>by
   rintro (z | z)
   ·cases z;exact y1 rfl
   ·cases z;exact y2 rfl
  have hno:=no .ob (λz=>nomatch z) (λz=>nomatch z)
  refine q c' H' (sp.mono (by rintro x (z | z) <;> exact⟨_,z⟩) aU) ⟨dx,aM,aP,aA,aD,aF,aE,aR,ms,ds++[p],ws,fs,es,by rw[sp.col o _ h2 (by rw[h1];exact hno)];exact h1,sp.keep _ _ h2 (by rw[h1];exact hno),
   h3.keep (no .made (λz=>nomatch z) (λz=>nomatch z)) sp,h4.imp λ_ _ z=>z.step sp,kp,h6.keep (no .aB (λz=>nomatch z) (λz=>nomatch z)) sp,h7.imp ?_,kd,(h9.imp λ_ _ z=>z.step sp).snoc ht,
   h10.keep (no .firsts (λz=>nomatch z) (λz=>nomatch z)) sp,h11.imp ?_,h12.keep (no .kept (λz=>nomatch z) (λz=>nomatch z)) sp,h13.imp ?_,h14.keep (no .rows (λz=>nomatch z) (λz=>nomatch z)) sp⟩
  ·rintro x v ⟨t,a,e,z1,z2⟩;exact⟨t,a,e,z1.step sp,z2.keep (no (.eM x.1) (λz=>nomatch z) (λz=>nomatch z)) sp⟩
  ·rintro x v ⟨a,e,z⟩;exact⟨a,e,z.keep (no (.cM x.1) (λz=>nomatch z) (λz=>nomatch z)) sp⟩
  ·rintro x v ⟨a,ts,e,z1,z2⟩;exact⟨a,ts,e,z1.keep (no (.gx x.1) (λz=>nomatch z) (λz=>nomatch z)) sp,z2.imp λ_ _ y=>y.step sp⟩
end
end My
set_option maxHeartbeats 1000000
namespace My
open PySem L2
seal PySem.wpAny
inductive Xc where
 |uV (b:Int) | mF | noChange | noFit | pL (n:Int) | nothing | tooMany | uk | Fh (n:Int) | B0
def Xc.At (A:Adr)(H:Hp):Xc->Value->Option Addr->Prop
 | .uV b,C,d=>C=.ref A.mf/\∃a,d=some a/\H a=some (.xd [(ar "bar",.int b)])
 | .mF,C,d=>C=.ref A.qz/\d=none
 | .noChange,C,d=>C=.ref A.qA/\d=none
 | .noFit,C,d=>C=.ref A.ue/\d=none
 | .pL n,C,d=>C=.ref A.jC/\∃a,d=some a/\H a=some (.xd [(ar "sitting",.int n)])
 | .nothing,C,d=>C=.ref A.pz/\d=none
 | .tooMany,C,d=>C=.ref A.uf/\d=none
 | .uk,C,d=>C=.ref A.ug/\d=none
 | .Fh n,C,d=>C=.ref A.pA/\∃a,d=some a/\H a=some (.xd [(ar "sitting",.int n)])
 | .B0,C,d=>C=.ref A.qB/\d=none
def Xc.New (A:Adr)(H H':Hp)(x:Xc)(C:Value)(d:Option Addr):Prop:=x.At A H' C d/\∀a,d=some a->H a=none
theorem same_none {H H':Hp}(s:br H H'){a:Addr}(h:H' a=none):H a=none:=by
 cases z:H a with
 |none=>rfl
 |some v=>rw[s _ _ z]at h;cases h
theorem DT {i:Int}(h0:-10000000000 < i)(h1:i < 10000000000):i.natAbs.log2 < 1920:=by
 have h:i.natAbs < 2 ^ 34:=by
  have:(10000000000:Int)<=2 ^ 34:=by decide
  omega
 by_cases hz:i.natAbs=0
 ·rw[hz];decide
 ·exact Nat.lt_trans ((Nat.log2_lt hz).mpr h) (by decide)
theorem DU {i:Int}(h0:0<=i)(h1:i < 10000000000):(ar (toString i)).length<=20 :=
 tm (PyProof.Rows.toString_length_le h0 (by decide:(1:Nat)<=11) (by show i < (10:Int) ^ 11;omega)) (by decide)
theorem pM {i:Int}(h0:0<=i)(h1:i < 10000000000):∃z,J3 (.int i) z/\z.length<=10000 :=
 ⟨_,.int (DT (by omega) h1),tm (DU h0 h1) (by decide)⟩
def rG (ms:List Mn):Int:=match ms.getLast? with
 |none=>-1
 |some m=>(m.k:Int)
def nY (cl:Bool)(ms:List Mn):Int:=if cl=true then (if (4:Int) > rG ms then 4 else rG ms) else rG ms
def uq (ms:List Mn):Bool:=ms.any λm=>decide (m.k=0)
def fg (ms:List Mn):Bool:=match ms.getLast? with
 |some (.chg e)=>!decide (e.k=1)
 |_=>false
def sT (ms:List Mn)(k:Nat):Bool:=if k=2 then fg ms else if k=1\/k=3\/k=4\/k=5 then uq ms else true
def uW (cl:Bool)(ms:List Mn)(k:Nat):Option Xc :=
 if (k:Int)<=nY cl ms then some (.uV (nY cl ms)) else if sT ms k=true then none else if uq ms=true then some .noChange else some .mF
theorem Qb (ms:List Mn):-1<=rG ms/\rG ms < 8:=by
 unfold rG;split
 ·omega
 ·rename_i m _;have:=m.k8;omega
theorem Kk (cl:Bool)(ms:List Mn):-1<=nY cl ms/\nY cl ms < 8:=by
 have:=Qb ms;unfold nY;split
 ·split <;> omega
 ·omega
def wF (A:Adr)(K:ba)(c:Col)(H:Hp)(B:Addr)(ms:List Mn)(os:List Addr):Prop:=SqL K H B (os.map V.ref)/\bI (λm p=>mB A c H m p) ms os
theorem mB.same {A:Adr}{c:Col}{H H':Hp}{m:Mn}{o:Addr}(s:br H H')(h:mB A c H m o):mB A c H' m o:=h.step (Step.same (W:=λ_=>False) id s)
theorem wF.same {A:Adr}{K:ba}{c:Col}{H H':Hp}{B:Addr}{ms:List Mn}{os:List Addr}(s:br H H')(h:wF A K c H B ms os):wF A K c H' B ms os:=⟨s.seq h.1,h.2.imp λ_ _ y=>y.same s⟩
def Qc (A:Adr)(K:ba):Sp:=λvs H Q _=>∃(B:Addr) (cl:Bool) (c:Col) (ms:List Mn) (os:List Addr),vs=[.ref B,.bl cl]/\wF A K c H B ms os/\Q (.int (nY cl ms)) H
def Qd (A:Adr)(K:ba):Sp:=λvs H Q _=>∃(B:Addr) (c:Col) (ms:List Mn) (os:List Addr),vs=[.ref B]/\wF A K c H B ms os/\ms.length<=1000/\∀H',br H H'->Q (.bl (uq ms)) H'
def Qe (A:Adr)(K:ba):Sp:=λvs H Q _=>∃(B:Addr) (c:Col) (ms:List Mn) (os:List Addr),vs=[.ref B]/\wF A K c H B ms os/\∀H',br H H'->Q (.bl (fg ms)) H'
def Mz (A:Adr)(K:ba):Sp:=λvs H Q _=>∃(k:Nat) (B:Addr) (c:Col) (ms:List Mn) (os:List Addr),vs=[.str (nm k),.ref B]/\k < 8/\wF A K c H B ms os/\ms.length<=1000/\∀H',br H H'->Q (.bl (sT ms k)) H'
def T7 (A:Adr)(K:ba):Sp:=λvs H Q E=>∃(k:Nat) (B:Addr) (cl:Bool) (c:Col) (ms:List Mn) (os:List Addr),vs=[.str (nm k),.ref B,.bl cl]/\k < 8/\wF A K c H B ms os/\ms.length<=1000 /\
 (uW cl ms k=none->∀H',br H H'->Q .non H')/\∀x,uW cl ms k=some x->∀C d H',br H H'->x.New A H H' C d->E C d H'
def Fi (A:Adr)(K:ba)(k:Nat):Sp:=λvs H Q E=>(k=0/\Mo A K vs H Q E)\/Ki A k vs H Q E
theorem B1 (pre:List Addr)(q:Addr):atI ((pre++[q]).map V.ref) (-1)=some (.ref q):=by
 rw[kr];exact iQ _ _
theorem sU:∀k,k < 8->decide (V.str (nm k)=V.str (ar "matter"))=decide (k=0):=by decide +kernel
theorem bP:∀k,k < 8->decide (V.str (nm k)=V.str (ar "change"))=decide (k=1):=by decide +kernel
theorem bV:∀k,k < 8->decide (V.str (nm k)=V.str (ar "mend"))=decide (k=2):=by decide +kernel
theorem gy:∀k,k < 8->decide (V.str (nm k)=V.str (ar "put off"))=decide (k=3):=by decide +kernel
theorem jc:∀k,k < 8->decide (V.str (nm k)=V.str (ar "close"))=decide (k=4):=by decide +kernel
theorem Fj:∀k,k < 8->decide (V.str (nm k)=V.str (ar "lay"))=decide (k=5):=by decide +kernel
theorem mG:∀k,k < 8->decide (V.str (nm k)=V.str (ar "rest"))=decide (k=6):=by decide +kernel
theorem cE:∀ {k:Nat} {v:V},atI (rowOf k v) 0=some (.str (nm k))
 | 0,_=>rfl
 | 1,_=>rfl
 | 2,_=>rfl
 | 3,_=>rfl
 | 4,_=>rfl
 | 5,_=>rfl
 | 6,_=>rfl
 | 7,_=>rfl
 |_+8,_=>rfl
theorem Fl:∀k,decide (V.str (kn k)=V.str (ar "cut"))=decide (k=1)
 | 0=>by decide +kernel
 | 1=>by decide +kernel
 |n+2=>by rw[decide_eq_false (show ¬n+2=1 by omega)];show decide (V.str (ar "turn")=_)=_;decide +kernel
theorem bI.last {α β:Type}{R:α->β->Prop}{as:List α}{pre:List β}{b:β}(h:bI R as (pre++[b])):∃as' a,as=as'++[a]/\bI R as' pre/\R a b:=by
 induction pre generalizing as with
 |nil =>
  cases h with
  |cons h t=>cases t;exact⟨[],_,rfl,.nil,h⟩
 |cons x r ih =>
  cases h with
  |cons h t =>
   obtain⟨as',a,rfl,h1,h2⟩:=ih t;exact⟨_::as',a,rfl,.cons h h1,h2⟩
theorem pN (ms:List Mn)(m:Mn):rG (ms++[m])=(m.k:Int):=by unfold rG;rw[akg]
section
variable{P:me}{w:World}{K:ba}{mg:Str->Option Value}{base:Heap}{A:Adr}
theorem yO (T:Txt w.params K mg A):aK P w K mg base CX0 1 A.sg A.pB ["self","bar"] (CI A.mf "bar"):=by
 refine T.mr.ok Ba (λvs H Q E h=>?_) (λcdv A' outer s H vs Q E hr h=>?_)
 ·obtain⟨e,v,rfl,_⟩:=h;rfl
 ·obtain⟨e,v,rfl,hx,⟨z,fz,zl⟩,q⟩:=h;refine⟨_,(ai (bJ (AU T.ip T.pH rfl T.gu (aa (pv 0) (aa (Dm (l5 (xB (pv 1) xA))) ah))))
 (aj (EG T.pH (pv 0) (pv 1)))),?_⟩
  have sz:ka=16777216:=by decide
  have c5:(ar "barred by the bar ").length=18:=by decide +kernel
  have e5:(aj6++ar "barred by the bar ":Str).length=18:=by decide +kernel
  refine⟨_,rfl,by rw[e5];omega,_,rfl,z,fz,by omega,by rw[len_app,e5];omega,by rw[len_app,e5];omega,e,_,rfl,hx,?_⟩
  exact⟨_,rfl,_,rfl,e,rfl,hx,λd hd=>q d hd⟩
theorem CU (T:Txt w.params K mg A):aK P w K mg base CX0 1 A.qC A.nr ["self","sitting"] (CI A.jC "sitting"):=by
 refine T.i7.ok xE (λvs H Q E h=>?_) (λcdv A' outer s H vs Q E hr h=>?_)
 ·obtain⟨e,v,rfl,_⟩:=h;rfl
 ·obtain⟨e,v,rfl,hx,⟨z,fz,zl⟩,q⟩:=h;refine⟨_,(ai (bJ (AU T.ip T.nB rfl T.gu (aa (pv 0) (aa (Dm (l5 (xB (pv 1) xA))) ah))))
 (aj (EG T.nB (pv 0) (pv 1)))),?_⟩
  have sz:ka=16777216:=by decide
  have c5:(ar "not later than the sitting ").length=27:=by decide +kernel
  have e5:(aj6++ar "not later than the sitting ":Str).length=27:=by decide +kernel
  refine⟨_,rfl,by rw[e5];omega,_,rfl,z,fz,by omega,by rw[len_app,e5];omega,by rw[len_app,e5];omega,e,_,rfl,hx,?_⟩
  exact⟨_,rfl,_,rfl,e,rfl,hx,λd hd=>q d hd⟩
theorem GL (T:Txt w.params K mg A):aK P w K mg base CX0 1 A.wc A.uh ["self","sitting"] (CI A.pA "sitting"):=by
 refine T.mx.ok Bb (λvs H Q E h=>?_) (λcdv A' outer s H vs Q E hr h=>?_)
 ·obtain⟨e,v,rfl,_⟩:=h;rfl
 ·obtain⟨e,v,rfl,hx,⟨z,fz,zl⟩,q⟩:=h;refine⟨_,(ai (bJ (AU T.ip T.uj rfl T.gu (aa (pv 0) (aa (Dm (l5 (xB (pv 1) xA))) ah))))
 (aj (EG T.uj (pv 0) (pv 1)))),?_⟩
  have sz:ka=16777216:=by decide
  have c5:(ar "aside until the sitting ").length=24:=by decide +kernel
  have e5:(aj6++ar "aside until the sitting ":Str).length=24:=by decide +kernel
  refine⟨_,rfl,by rw[e5];omega,_,rfl,z,fz,by omega,by rw[len_app,e5];omega,by rw[len_app,e5];omega,e,_,rfl,hx,?_⟩
  exact⟨_,rfl,_,rfl,e,rfl,hx,λd hd=>q d hd⟩
theorem GN (T:Txt w.params K mg A):∀k,k < 8->aK P w K mg base CX0 2 (A.ft k) (A.ftd k) ["self"] (Fi A K k)
 | 0,_=>(P4 T).imp λvs H Q E h=>h.elim (λz=>z.2) (λz=>absurd z.1 (by decide))
 | 1,h=>(qI T 1 h).imp λvs H Q E h=>h.elim (λz=>absurd z.1 (by decide)) id
 | 2,h=>(qI T 2 h).imp λvs H Q E h=>h.elim (λz=>absurd z.1 (by decide)) id
 | 3,h=>(qI T 3 h).imp λvs H Q E h=>h.elim (λz=>absurd z.1 (by decide)) id
 | 4,h=>(qI T 4 h).imp λvs H Q E h=>h.elim (λz=>absurd z.1 (by decide)) id
 | 5,h=>(qI T 5 h).imp λvs H Q E h=>h.elim (λz=>absurd z.1 (by decide)) id
 | 6,h=>(qI T 6 h).imp λvs H Q E h=>h.elim (λz=>absurd z.1 (by decide)) id
 | 7,h=>(qI T 7 h).imp λvs H Q E h=>h.elim (λz=>absurd z.1 (by decide)) id
 |n+8,h=>absurd h (by omega)
theorem DW (T:Txt w.params K mg A):aK P w K mg base CX0 3 A.Bf A.ph ["pile","closed"] (Qc A K):=by
 have Wu:∀k,k < 8->aK P w K mg base CX0 2 A.f_r A.Sa ["self"] (P1 A):=λ_ _=>Sl T
 refine T.we.ok Ds (λvs H Q E h=>?_) (λcdv A' outer s H vs Q E hr h=>?_)
 ·obtain⟨B,cl,c,ms,os,rfl,_⟩:=h;rfl
 ·obtain⟨B,cl,c,ms,os,rfl,⟨hB,ho⟩,q⟩:=h;have Sq:=hr;refine⟨_,(ai (a8 (i:=2) Ds.nd rfl (adm rfl) (FQ (rT (pv 0) (λ_=>rfl)) (lJ (n:=8) (Cf:=A.C) (aJ bz (pv 0) (oF jq af) (λ_ _=>rfl)) T.cl T.PU Wu Sq T.PV aY) (oF jq af)))
 (ai (a5 (lX (pv 1))
 (aj (aC (cI (tT rfl) (by rfl) T.GB Ew (aa (pv 2) (aa (Ei (v:=V.int 4) rfl T.wo ⟨_,rfl⟩) ah)))))
 aH)
 (aj (aC (pv 2))))),?_⟩
  unfold nY at q;rcases ajS os with h | ⟨pre,o,h⟩
  ·subst h;cases ho;refine⟨_,rfl,_,.inl ⟨_,hB,rfl⟩,bX ⟨_,rfl,?_⟩⟩;refine⟨_,rfl,_,rfl,?_⟩;cases cl with
   |true=>exact dP ⟨_,rfl,_,_,rfl,q⟩
   |false=>exact bX ⟨_,rfl,q⟩
  ·rw[ajT]at h;refine hide λGg hGg=>?_
   subst h;obtain⟨ms',m,rfl,_,_,dx,v,hm,_⟩:=ho.last;rw[pN]at q;refine hGg ?_;refine⟨_,rfl,_,.inl ⟨_,hB,rfl⟩,yD (by simp) ⟨_,rfl,_,rfl,B,_,_,_,rfl,rfl,hB,B1 pre o,m.k,m.k8,o,dx,_,rfl,hm,Sj m.k v,o,m.k,dx,_,m.k8,rfl,hm,lA m.k v,?_⟩⟩
   refine⟨_,rfl,_,rfl,?_⟩;cases cl with
   |true=>exact dP ⟨_,rfl,_,_,rfl,q⟩
   |false=>exact bX ⟨_,rfl,q⟩
theorem uD (T:Txt w.params K mg A):aK P w K mg base CX0 2 A.l9 A.g7 ["pile"] (Qd A K):=by
 have gw:∀k,k < 8->aK P w K mg base CX0 1 (A.fk k) (A.fkd k) ["self"] (fR k):=lB T;refine T.ly.ok CO (λvs H Q E h=>?_) (λcdv A' outer s H vs Q E hr h=>?_)
 ·obtain⟨B,c,ms,os,rfl,_⟩:=h;rfl
 ·obtain⟨B,c,ms,os,rfl,⟨hB,ho⟩,hl,q⟩:=h;have dZ:=hr;refine⟨_,(aj (aC (cI (OX rfl) (by rfl) T.T5 VO (aa (vI (scope:=oQ) y9 rfl (ll (pv 0)) (λ_ _ _ _ _=>(jX bu (lJ (n:=8) (Cf:=A.C) (pv 0) T.cl T.nQ gw dZ T.nR aY) ao (aN _)))) ah)))),?_⟩
  have lim:ka=16777216:=by decide
  have ol:=ho.len;refine⟨_,rfl,B,rfl,⟨_,hB⟩,λR hR=>?_⟩
  have sR:∀ {o:HO},br H (upd H R o):=aG hR;refine tW (K:=K) (a:=B) (xs:=os.map V.ref) (λi ys H2=>ys=(ms.take i).map (λm=>V.bl (decide (m.k=0)))/\H2=upd H R (.lst ys)) ⟨rfl,rfl⟩ (by rw[bo];omega) ?_ ?_ ?_
  ·rintro i ys H2 hi ⟨rfl,rfl⟩;rw[bo]at hi;exact⟨sR.seq hB,ae,by rw[bo,akd];omega⟩
  ·rintro i y ys H2 hy ⟨rfl,rfl⟩;refine hide λGg hGg=>?_
   have hi:i < ms.length:=by have:=(List.getElem?_eq_some_iff.mp hy).1;rw[bo]at this;omega
   obtain⟨o,ho1,_,dx,v,ho2,_⟩:=ho.get (wa hi);rw[aj0,ho1]at hy;cases hy;refine hGg ?_;refine⟨_,rfl,ms[i].k,ms[i].k8,o,dx,_,rfl,sR _ _ ho2,lA _ v,o,rfl,rfl,?_⟩;rw[sU _ ms[i].k8];refine ei.mk (by rw[bo];omega) ae ⟨?_,by rw[nc]⟩
   rw[akX,wa hi,kr];rfl
  ·rintro ys H2 ⟨rfl,rfl⟩;rw[bo,<-ol,akY];refine⟨R,ms.map (λm=>decide (m.k=0)),rfl,SqL.of (by rw[ae,List.map_map];rfl),?_⟩
   rw[List.any_map];exact q _ sR
theorem x8 (T:Txt w.params K mg A):aK P w K mg base CX0 3 A.jY A.gL ["pile"] (Qe A K):=by
 have Kl:∀k,k < 8->aK P w K mg base CX0 2 (A.ft k) (A.ftd k) ["self"] (Fi A K k):=GN T;refine T.kS.ok oR (λvs H Q E h=>?_) (λcdv A' outer s H vs Q E hr h=>?_)
 ·obtain⟨B,c,ms,os,rfl,_⟩:=h;rfl
 ·obtain⟨B,c,ms,os,rfl,⟨hB,ho⟩,q⟩:=h;have Fm:=hr;refine⟨_,(ai (a5 (qk (rT (pv 0) (λ_=>rfl)))
 (aj (aC gb))
 aH)
 (ai (a8 (i:=1) oR.nd rfl (adm rfl) (lJ (n:=8) (Cf:=A.C) (aJ bz (pv 0) (oF jq af) (λ_ _=>rfl)) T.cl T.Ke Kl Fm T.Kf aY))
 (aj (aC (Ek (jX bu (aJ aL (pv 1) af (λ_ _=>rfl)) ao (aN _)) (Ej (jX vv (aJ aL (aJ aL (pv 1) af (λ_ _=>rfl)) af (λ_ _=>rfl)) ao (aN _)))))))),?_⟩
  rcases ajS os with h | ⟨pre,o,h⟩
  ·subst h;cases ho;refine⟨_,rfl,_,.inl ⟨_,hB,rfl⟩,dP ?_⟩;exact q H (br.refl _)
  ·rw[ajT]at h;subst h;refine⟨_,rfl,_,.inl ⟨_,hB,rfl⟩,yE (by simp) ?_⟩
   refine hide λGg hGg=>?_
   obtain⟨ms',m,rfl,_,_,dx,v,hm,hv⟩:=ho.last;have gl:(ms'++[m]).getLast?=some m:=akg;unfold fg at q;rw[gl]at q;refine hGg ?_;refine⟨_,rfl,_,rfl,B,_,_,_,rfl,rfl,hB,B1 pre o,m.k,m.k8,o,dx,_,rfl,hm,Ml m.k v,?_⟩
   by_cases h0:m.k=0
   ·obtain⟨tx,rfl⟩:∃tx,m=.mat tx:=by cases m <;> first | exact⟨_,rfl⟩ | exact absurd h0 (by simp[Mn.k])
    refine hide λGg hGg=>?_
    obtain⟨p,rfl,_,hp⟩:=hv;refine hGg ?_;refine .inl ⟨rfl,o,dx,p,tx.map V.str,rfl,hm,SqL.of hp,λp2 u hp2 hu npu=>?_⟩
    have nu:(upd H p2 (.lst (tx.map V.str))) u=none:=(av (ajZ npu)).trans hu;refine ixv rfl (SqT.of ae) rfl ⟨rfl,_,rfl,?_⟩;rw[bP 0 (by decide)]
    exact bX (q _ ((aG hp2).new nu))
   ·refine .inr ⟨by omega,o,dx,v,rfl,hm,λu hu=>?_⟩
    have su:=aG (o:=.tup (rowOf m.k v)) hu;refine ixv rfl (SqT.of ae) cE ⟨rfl,_,rfl,?_⟩;rw[bP m.k m.k8]
    by_cases h1:m.k=1
    ·obtain⟨e,rfl⟩:∃e,m=.chg e:=by cases m <;> first | exact⟨_,rfl⟩ | exact absurd h1 (by simp[Mn.k])
     refine hide λGg hGg=>?_
     obtain⟨t,rfl,ht⟩:=hv;refine hGg ?_;refine yD (decide_eq_true rfl) (ixv rfl (SqT.of ae) rfl ⟨t,_,_,_,rfl,rfl,bw su ht.sq,nS e,rfl,?_⟩);rw[Fl];exact q _ su
    ·rw[decide_eq_false h1];have q':∀H',br H H'->Q (.bl false) H':=by
      cases m with
      |chg e=>exact absurd rfl h1
      |_=>exact q
     exact bX (q' _ su)
theorem sV (T:Txt w.params K mg A):aK P w K mg base CX0 4 A.fX A.dQ ["kind","pile"] (Mz A K):=by
 have qM:aK P w K mg base CX0 2 A.l9 A.g7 ["pile"] (Qd A K):=uD T;have zg:aK P w K mg base CX0 3 A.jY A.gL ["pile"] (Qe A K):=x8 T;refine T.gW.ok r8 (λvs H Q E h=>?_) (λcdv A' outer s H vs Q E hr h=>?_)
 ·obtain⟨k,B,c,ms,os,rfl,_⟩:=h;rfl
 ·obtain⟨k,B,c,ms,os,rfl,k8,hp,hl,q⟩:=h;have nZ:Room 2 _:=hr.mono (by decide)
  have x9:=hr;refine⟨_,(ai (a5 (ay bu (pv 0) ao (aN _))
 (aj (aC (aV zg x9 rfl T.qY T.kS.kp T.qX .nil aY (aa (pv 1) ah))))
 aH)
 (ai (a5 (ay tU (pv 0) (bt (aa ao (aa ao (aa ao (aa ao ah))))) rfl)
 (aj (aC (aV qM nZ rfl T.qE T.ly.kp T.qD .nil aY (aa (pv 1) ah))))
 aH)
 (aj (aC gb)))),?_⟩
  refine⟨_,rfl,rfl,_,rfl,?_⟩;rw[bV k k8];unfold sT at q
  by_cases h2:k=2
  ·rw[if_pos h2]at q;exact yD (decide_eq_true h2) ⟨_,rfl,B,c,ms,os,rfl,hp,q⟩
  ·rw[if_neg h2]at q;refine yE (decide_eq_false h2) ?_;refine⟨_,rfl,(sl 4),λt ht=>?_⟩
   have st:=aG (o:=.tup [V.str (ar "change"),V.str (ar "put off"),V.str (ar "close"),V.str (ar "lay")]) ht;refine⟨t,_,rfl,.inr (SqT.of ae),rfl,rfl,_,rfl,?_⟩;have ein:(if false=true then !inV (V.str (nm k)) [V.str (ar "change"),V.str (ar "put off"),V.str (ar "close"),V.str (ar "lay")] else inV (V.str (nm k)) [V.str (ar "change"),V.str (ar "put off"),V.str (ar "close"),V.str (ar "lay")])=decide (k=1\/k=3\/k=4\/k=5):=by
    have:∀k,k < 8->inV (V.str (nm k)) [V.str (ar "change"),V.str (ar "put off"),V.str (ar "close"),V.str (ar "lay")]=decide (k=1\/k=3\/k=4\/k=5):=by decide +kernel
    exact this k k8
   rw[ein]
   by_cases h3:k=1\/k=3\/k=4\/k=5
   ·rw[if_pos h3]at q;exact yD (decide_eq_true h3) ⟨_,rfl,B,c,ms,os,rfl,hp.same st,hl,λH' s'=>q H' (st.trans s')⟩
   ·rw[if_neg h3]at q;exact yE (decide_eq_false h3) (q _ st)
theorem ur (T:Txt w.params K mg A):aK P w K mg base (CXX P w) 5 A.gM A.d7 ["kind","pile","closed"] (T7 A K):=by
 have B2:aK P w K mg base CX0 3 A.Bf A.ph ["pile","closed"] (Qc A K):=DW T;have qM:aK P w K mg base CX0 2 A.l9 A.g7 ["pile"] (Qd A K):=uD T;have uu:aK P w K mg base CX0 4 A.fX A.dQ ["kind","pile"] (Mz A K):=sV T;have uX:aK P w K mg base CX0 1 A.sg A.pB ["self","bar"] (CI A.mf "bar"):=yO T;refine T.iw.okX kZ (λvs H Q E h=>?_) (λcdv A' outer s H vs Q E hr h=>?_)
 ·obtain⟨k,B,cl,c,ms,os,rfl,_⟩:=h;rfl
 ·obtain⟨k,B,cl,c,ms,os,rfl,k8,hp,hl,q,qx⟩:=h;have ya:Room 3 _:=hr.mono (by decide)
  have nZ:Room 2 _:=hr.mono (by decide)
  have sW:Room 4 _:=hr;have Nl:Room 2 _:=hr.mono (by decide)
  refine⟨_,(a9 (psx (a8 (i:=3) kZ.nd rfl (adm rfl) (aV B2 ya rfl T.Bk T.we.kp T.Bj .nil aY (aa (pv 1) (aa (pv 2) ah)))))
 (a9 (gU (ay vw (aJ OW (Ei (v:=V.ref A.tab) rfl T.E7 rfl) (pv 0) (λ_ _=>rfl)) (pv 3) (aN _))
 (bD (qo T.pH uX Nl T.mw rfl rfl T.BC (aa (pv 3) ah)))
 (vJ aH))
 (bD (gU (qk (lX (aV uu sW rfl T.lb T.gW.kp T.k9 .nil aY (aa (pv 0) (aa (pv 1) ah)))))
 (a9 (gU (lX (aV qM nZ rfl T.qE T.ly.kp T.qD .nil aY (aa (pv 1) ah)))
 (bD (jt T.yL rfl rfl T.BE (aa ao ah)))
 (vJ aH))
 (bD (jt T.yK rfl rfl T.BD (aa (Dm (xB (pv 0) (l5 xA))) ah))))
 (vJ aH))))),?_⟩
  refine⟨_,rfl,_,rfl,B,cl,c,ms,os,rfl,hp,?_⟩;obtain⟨tk,htk⟩:=T.rk k k8;refine⟨_,rfl,A.tab,nm k,.int k,_,rfl,rfl,T.tb,htk,⟨_,rfl⟩,_,rfl,_,_,rfl,rfl,_,rfl,eU (λe=>?_) (λe=>?_)⟩
  ·have e':(k:Int)<=nY cl ms:=of_decide_eq_true e;have hb:=Kk cl ms;refine⟨_,rfl,_,rfl,pM (by omega) (by omega),λd hd=>qx (.uV (nY cl ms)) (by unfold uW;rw[if_pos e']) _ _ _ (aG hd) ⟨⟨rfl,d,rfl,ae⟩,λ_ z=>by cases z;exact hd⟩⟩
  ·have e':¬(k:Int)<=nY cl ms:=λz=>e (decide_eq_true z)
   unfold uW at q qx;rw[if_neg e']at q qx;refine⟨_,rfl,_,rfl,k,B,c,ms,os,rfl,k8,hp,hl,λH' s'=>⟨_,rfl,?_⟩⟩
   cases hn:sT ms k with
   |true =>
    rw[hn,if_pos rfl]at q;exact bX (q rfl _ s')
   |false =>
    rw[hn,if_neg ku]at qx;refine dP ⟨_,rfl,B,c,ms,os,rfl,hp.same s',hl,λH2 s2=>⟨_,rfl,?_⟩⟩
    cases hm:uq ms with
    |true =>
     rw[hm,if_pos rfl]at qx;exact dP ⟨by decide,qx _ rfl _ _ _ (s'.trans s2) ⟨⟨rfl,rfl⟩,λ_ z=>nomatch z⟩⟩
    |false =>
     rw[hm,if_neg ku]at qx;refine bX ⟨_,rfl,nm k,.str,?_,?_,?_⟩
     ·have:∀k,k < 8->(nm k).length<=10:=by decide +kernel
      exact tm (this k k8) (by decide)
     ·have:∀k,k < 8->(aj6++nm k:Str).length<=10:=by decide +kernel
      exact tm (this k k8) (by decide)
     ·have:∀k,k < 8->((aj6++nm k)++ar " needs a matter on the pile":Str).length<=100:=by decide +kernel
      have l:=tm (this k k8) (show 100<=ka by decide)
      exact⟨l,l,(sl 1),qx _ rfl _ _ _ (s'.trans s2) ⟨⟨rfl,rfl⟩,λ_ z=>nomatch z⟩⟩
end
section
variable{P:me}{w:World}{K:ba}{mg:Str->Option Value}{base:Heap}{A:Adr}
theorem jJ (T:Txt w.params K mg A):aK P w K mg base CX0 1 A.f_n A.EY ["self"] (E9 0):=by
 refine T.F_n.ok A2 (λvs H Q E h=>?_) (λcdv A' outer s H vs Q E hr h=>?_)
 ·obtain⟨m,rfl,_⟩:=h;rfl
 ·obtain⟨m,rfl,q⟩:=h;exact⟨_,(aj (aC ao)),q⟩
theorem Nm (T:Txt w.params K mg A):aK P w K mg base CX0 1 A.Wb A.Pr ["self"] (E9 4):=by
 refine T.aat.ok CL (λvs H Q E h=>?_) (λcdv A' outer s H vs Q E hr h=>?_)
 ·obtain⟨m,rfl,_⟩:=h;rfl
 ·obtain⟨m,rfl,q⟩:=h;exact⟨_,(aj (aC ao)),q⟩
theorem Sr (T:Txt w.params K mg A):∀k,k < 8->aK P w K mg base CX0 1 (A.fn k) (A.fnd k) ["self"] (E9 k)
 | 0,_=>jJ T
 | 1,_=>jJ T
 | 2,_=>jJ T
 | 3,_=>jJ T
 | 4,_=>Nm T
 | 5,_=>jJ T
 | 6,_=>jJ T
 | 7,_=>jJ T
 |n+8,h=>absurd h (by omega)
end
end My
set_option maxHeartbeats 1000000
namespace My
open PySem L2
seal PySem.wpAny
theorem lD {a b:Nat}:((km (a:Int):Key)=km (b:Int))↔a=b:=⟨λh=>by have:=Sum.inl.inj h;omega,λh=>by rw[h]⟩
theorem cN {k:Nat}{v:V}{ks:List Nat}{vs:List V}:a7 ((k::ks).zip (v::vs))=(km (k:Int),v)::a7 (ks.zip vs):=rfl
theorem qN {n:Nat}:∀ {ks:List Nat} {vs:List V},n∉ks->gD (a7 (ks.zip vs)) (km (n:Int))=none
 |[],_,_=>rfl
 |_::_,[],_=>rfl
 |k::ks,v::vs,h=>by
  rw[cN,bQ (λz=>h (by rw[lD.mp z];exact fu))]
  exact qN λz=>h (ky _ z)
theorem DX {n:Nat}{v:V}:∀ {ks:List Nat} {vs:List V} {j:Nat},ks.Nodup->ks[j]?=some n->vs[j]?=some v->gD (a7 (ks.zip vs)) (km (n:Int))=some v
 |[],_,_,_,h,_=>by simp at h
 |_::_,[],_,_,_,h=>by simp at h
 |k::ks,u::vs,0,_,h,g=>by
  rw[ajX]at h g;cases h;cases g;exact et rfl
 |k::ks,u::vs,j+1,nd,h,g=>by
  rw[aj2]at h g;obtain⟨n1,n2⟩:=List.nodup_cons.mp nd;rw[cN,bQ (λz=>n1 (by rw[lD.mp z];exact ajQ h))]
  exact DX n2 h g
theorem wG {n:Nat}{v:V}:∀ {ks:List Nat} {vs:List V},n∉ks->(a7 (ks.zip vs)).map (λkv=>if kv.1=(km (n:Int):Key) then (kv.1,v) else kv)=a7 (ks.zip vs)
 |[],_,_=>rfl
 |_::_,[],_=>rfl
 |k::ks,u::vs,h=>by
  rw[cN,kj,wG λz=>h (ky _ z),if_neg (λz=>h (by rw[lD.mp z];exact fu))]
theorem DY {n:Nat}{v:V}:∀ {ks:List Nat} {vs:List V} {j:Nat},ks.Nodup->ks[j]?=some n->(a7 (ks.zip vs)).map (λkv=>if kv.1=(km (n:Int):Key) then (kv.1,v) else kv)=a7 (ks.zip (vs.set j v))
 |[],_,_,_,h=>by simp at h
 |k::ks,[],_,_,_=>by simp[a7]
 |k::ks,u::vs,0,nd,h=>by
  rw[ajX]at h;cases h;rw[cN,kj,wG (List.nodup_cons.mp nd).1,if_pos rfl];rfl
 |k::ks,u::vs,j+1,nd,h=>by
  rw[aj2]at h;obtain⟨n1,n2⟩:=List.nodup_cons.mp nd;rw[cN,kj,DY n2 h,if_neg (λz=>n1 (by rw[lD.mp z];exact ajQ h))]
  rfl
theorem Nn {n:Nat}{v:V}{ks:List Nat}{vs:List V}{j:Nat}(nd:ks.Nodup)(h:ks[j]?=some n)(l:ks.length=vs.length):putK (a7 (ks.zip vs)) (km (n:Int)) v=a7 (ks.zip (vs.set j v)):=by
 have hj:j < vs.length:=by rw[<-l];exact(List.getElem?_eq_some_iff.mp h).1
 unfold putK;rw[rX,DX nd h (wa hj)];exact(if_pos rfl).trans (DY nd h)
theorem pO {n:Nat}{v:V}{ks:List Nat}{vs:List V}(h:n∉ks)(l:ks.length=vs.length):putK (a7 (ks.zip vs)) (km (n:Int)) v=a7 ((ks++[n]).zip (vs++[v])):=by
 rw[Pe v (qN h),List.zip_append l];unfold a7;rw[kr];rfl
section
variable{β:Type}{R:Nat×β->V->Prop}
def at1 (n:Nat)(xs:List (Nat×β)):Option (Nat×β):=xs.find? λx=>decide (x.1=n)
theorem jd {n:Nat}{xs:List (Nat×β)}{x:Nat×β}(h:at1 n xs=some x):x.1=n/\x∈xs:=by
 unfold at1 at h;have:=List.find?_some h;exact⟨of_decide_eq_true this,List.mem_of_find?_eq_some h⟩
theorem wH {n:Nat}{xs:List (Nat×β)}(h:at1 n xs=none):n∉xs.map (·.1):=λz=>by
 obtain⟨x,hx,e⟩:=List.mem_map.mp z;have:=List.find?_eq_none.mp h x hx;exact this (decide_eq_true e)
theorem bI.val {n:Nat}:∀ {xs:List (Nat×β)} {ws:List V} {x:Nat×β},bI R xs ws->at1 n xs=some x->∃v,gD (a7 ((xs.map (·.1)).zip ws)) (km (n:Int))=some v/\R x v
 |_,_,_,.nil,h=>nomatch h
 |y::xs,w::ws,x,.cons g t,h=>by
  unfold at1 at h;rw[aka]at h
  by_cases e:y.1=n
  ·rw[decide_eq_true e]at h;cases h;exact⟨w,by rw[kj,cN];exact et (lD.mpr e),g⟩
  ·rw[decide_eq_false e]at h;obtain⟨v,h1,h2⟩:=bI.val t h;exact⟨v,by rw[kj,cN,bQ (λz=>e (lD.mp z))];exact h1,h2⟩
theorem bI.drop {n:Nat}:∀ {xs:List (Nat×β)} {ws:List V},bI R xs ws->∃ws',iC (a7 ((xs.map (·.1)).zip ws)) (km (n:Int))=a7 (((xs.filter λx=>decide (x.1≠n)).map (·.1)).zip ws')/\bI R (xs.filter λx=>decide (x.1≠n)) ws'
 |_,_,.nil=>⟨[],rfl,.nil⟩
 |y::xs,w::ws,.cons g t=>by
  obtain⟨ws',h1,h2⟩:=bI.drop (n:=n) t
  by_cases e:y.1=n
  ·refine⟨ws',?_,?_⟩
   ·rw[List.filter_cons_of_neg (by simp[e]),<-h1,kj,cN]
    unfold iC;rw[List.filter_cons_of_neg (by simp[e])]
   ·rw[List.filter_cons_of_neg (by simp[e])];exact h2
  ·refine⟨w::ws',?_,?_⟩
   ·rw[List.filter_cons_of_pos (by simp[e]),kj,kj,cN,cN,<-h1]
    unfold iC;have hne:(km (y.1:Int):Key)≠km (n:Int):=λz=>e (lD.mp z)
    rw[List.filter_cons_of_pos (by exact decide_eq_true hne)]
   ·rw[List.filter_cons_of_pos (by simp[e])];exact .cons g h2
theorem bI.aaG {R':Nat×β->V->Prop}{n:Nat}{f:Nat×β->Nat×β}{v:V}(h1:∀x,x.1=n->R x v->R' (f x) v)(h2:∀x u,x.1≠n->R x u->R' x u):∀ {xs:List (Nat×β)} {ws:List V},bI R xs ws->(xs.map (·.1)).Nodup->gD (a7 ((xs.map (·.1)).zip ws)) (km (n:Int))=some v ->
  bI R' (xs.map λx=>if x.1=n then f x else x) ws
 |_,_,.nil,_,h=>nomatch h
 |y::xs,w::ws,.cons g t,nd,h=>by
  rw[kj]at nd;obtain⟨n1,n2⟩:=List.nodup_cons.mp nd;rw[kj,cN]at h;rw[kj]
  by_cases e:y.1=n
  ·rw[et (lD.mpr e)]at h;cases h;rw[if_pos e];refine .cons (h1 y e g) ?_;have hne:∀x∈xs,x.1≠n:=λx hx z=>n1 (by rw[e,<-z];exact List.mem_map_of_mem hx)
   have em:xs.map (λx=>if x.1=n then f x else x)=xs:=by
    have:xs.map (λx=>if x.1=n then f x else x)=xs.map id:=akp λx hx=>if_neg (hne x hx)
    rw[this,List.map_id]
   rw[em];exact t.imp_mem λx hx u=>h2 x u (hne x hx)
  ·rw[bQ (λz=>e (lD.mp z))]at h
   rw[if_neg e];exact .cons (h2 y w e g) (bI.aaG h1 h2 t n2 h)
end
theorem bI.set {α β:Type}{R:α->β->Prop}:∀ {as:List α} {bs:List β} {a:α} {b:β} (j:Nat),bI R as bs->R a b->bI R (as.set j a) (bs.set j b)
 |_,_,_,_,_,.nil,_=>.nil
 |_,_,_,_,0,.cons _ t,h=>.cons h t
 |_,_,_,_,j+1,.cons g t,h=>.cons g (t.set j h)
def pOb:Rl->Bool | .ob=>true | _=>false
def T8:Rl->Bool | .rows=>true | _=>false
def MA:Rl->Bool | .made=>true | _=>false
def T9:Rl->Bool | .au=>true | _=>false
def Ss:Rl->Bool | .ob=>true | .au=>true | .aB=>true | _=>false
def MB (n:Nat):Rl->Bool | .gx m=>decide (m=n) | _=>false
def aaH:Rl->Bool | .firsts=>true | _=>false
def aaI:Rl->Bool | .kept=>true | _=>false
def MC (n:Nat):Rl->Bool | .ob=>true | .aB=>true | .eM m=>decide (m=n) | _=>false
theorem dD {i:Nat}{c:Col}{a b:Addr}{r r':Rl}(h:c a=some (i,r))(h':c b=some (i,r'))(n:r≠r'):a≠b:=λz=>by
 rw[z,h']at h;cases h;exact n rfl
section
variable{A:Adr}{i:Nat}{c c':Col}{H H':Hp}{o dx aM aP aA aD aF aE aR:Addr}{st:Ch}{ms ds:List Addr}{ws fs es:List V}
theorem ChX.free {W:Option (Nat×Rl)->Prop}(h:∀r,¬W (some (i,r)))(s:Step W c c' H H')(X:ChX A i c H o st dx aM aP aA aD aF aE aR ms ds ws fs es):ChX A i c' H' o st dx aM aP aA aD aF aE aR ms ds ws fs es:=by
 have hn:¬W (c o):=by rw[X.co];exact h _
 refine⟨by rw[s.col o _ X.ob hn];exact X.co,s.keep _ _ X.ob hn,X.made.keep (h _) s,sQ s X.mot,X.au.keep (h _) s,X.aB.keep (h _) s,X.wait.imp ?_,X.dec.keep (h _) s,jb s X.mD,X.firsts.keep (h _) s,X.first.imp ?_,X.kH.keep (h _) s,X.kept.imp ?_,X.rows.keep (h _) s⟩
 ·rintro x v ⟨t,p,e,z1,z2⟩;exact⟨t,p,e,z1.step s,z2.keep (h _) s⟩
 ·rintro x v ⟨p,e,z⟩;exact⟨p,e,z.keep (h _) s⟩
 ·rintro x v ⟨p,ts,e,z1,z2⟩;exact⟨p,ts,e,z1.keep (h _) s,z2.imp λ_ _ y=>y.step s⟩
theorem ChX.same (s:br H H')(X:ChX A i c H o st dx aM aP aA aD aF aE aR ms ds ws fs es):ChX A i c H' o st dx aM aP aA aD aF aE aR ms ds ws fs es:=X.free (W:=λ_=>False) (λ_=>id) (Step.same id s)
theorem ChX.cl (s:br H H')(X:ChX A i c H o st dx aM aP aA aD aF aE aR ms ds ws fs es):ChX A i (cx c H) H' o st dx aM aP aA aD aF aE aR ms ds ws fs es:=X.free (W:=λ_=>False) (λ_=>id) (Step.cl id s)
theorem ChX.at (X:ChX A i c H o st dx aM aP aA aD aF aE aR ms ds ws fs es):fb A i c H o st:=⟨_,_,_,_,_,_,_,_,_,_,_,_,_,X⟩
theorem ChX.attr (X:ChX A i c H o st dx aM aP aA aD aF aE aR ms ds ws fs es)(n:Int)(b:Bool) :
  Step (Wr i pOb) c c H (upd H o (.ins A.ax dx (chF (.int st.cz) (.int n) (.bl b) (.ref aM) (.ref aP) (.ref aA) (.ref aD) (.ref aF) (.ref aE) (.ref aR)))) /\
  ChX A i c (upd H o (.ins A.ax dx (chF (.int st.cz) (.int n) (.bl b) (.ref aM) (.ref aP) (.ref aA) (.ref aD) (.ref aF) (.ref aE) (.ref aR)))) o { st with aQ:=n,closed:=b } dx aM aP aA aD aF aE aR ms ds ws fs es:=by
 have s:Step (Wr i pOb) c c H (upd H o (.ins A.ax dx (chF (.int st.cz) (.int n) (.bl b) (.ref aM) (.ref aP) (.ref aA) (.ref aD) (.ref aF) (.ref aE) (.ref aR)))):=Step.upd Wr.nn (Wr.yes X.co rfl);exact⟨s,X.co,ae,X.made.kp rfl s,sQ s X.mot,X.au.kp rfl s,X.aB.kp rfl s,kJ (λ_ _=>rfl) s X.wait,X.dec.kp rfl s,jb s X.mD,X.firsts.kp rfl s,uC (λ_ _=>rfl) s X.first,X.kH.kp rfl s,wC (λ_ _=>rfl) s X.kept,X.rows.kp rfl s⟩
theorem ChX.row (X:ChX A i c H o st dx aM aP aA aD aF aE aR ms ds ws fs es)(z:Str) :
  Step (Wr i T8) c c H (upd H aR (.lst (st.rows.map V.str++[.str z])))/\ChX A i c (upd H aR (.lst (st.rows.map V.str++[.str z]))) o { st with rows:=st.rows++[z] } dx aM aP aA aD aF aE aR ms ds ws fs es:=by
 have s:Step (Wr i T8) c c H (upd H aR (.lst (st.rows.map V.str++[.str z]))):=Step.upd Wr.nn (Wr.yes X.rows.1 rfl);have k:=mz rfl s X.co X.ob;exact⟨s,k.1,k.2,X.made.kp rfl s,sQ s X.mot,X.au.kp rfl s,X.aB.kp rfl s,kJ (λ_ _=>rfl) s X.wait,X.dec.kp rfl s,jb s X.mD,X.firsts.kp rfl s,uC (λ_ _=>rfl) s X.first,X.kH.kp rfl s,wC (λ_ _=>rfl) s X.kept,X.rows.1,by rw[ae,kr];rfl⟩
theorem ChX.push (X:ChX A i c H o st dx aM aP aA aD aF aE aR ms ds ws fs es)(n:Nat) :
  Step (Wr i T9) c c H (upd H aP (.lst (st.au.map nV++[nV n])))/\ChX A i c (upd H aP (.lst (st.au.map nV++[nV n]))) o { st with au:=st.au++[n] } dx aM aP aA aD aF aE aR ms ds ws fs es:=by
 have s:Step (Wr i T9) c c H (upd H aP (.lst (st.au.map nV++[nV n]))):=Step.upd Wr.nn (Wr.yes X.au.1 rfl);have k:=mz rfl s X.co X.ob;exact⟨s,k.1,k.2,X.made.kp rfl s,sQ s X.mot,⟨X.au.1,by rw[ae,kr];rfl⟩,X.aB.kp rfl s,kJ (λ_ _=>rfl) s X.wait,X.dec.kp rfl s,jb s X.mD,X.firsts.kp rfl s,uC (λ_ _=>rfl) s X.first,X.kH.kp rfl s,wC (λ_ _=>rfl) s X.kept,X.rows.kp rfl s⟩
theorem GO {n k:Nat}(h1:1<=n)(h2:n<=k):(aj5 1 k)[n - 1]?=some n:=by
 rw[List.getElem?_range' (by omega)]
 congr 1
 omega
theorem ChX.MD (X:ChX A i c H o st dx aM aP aA aD aF aE aR ms ds ws fs es){n:Nat}{m:Mn}{x:Addr}(hn:cX st n)(hm:mB A c H m x) :
  Step (Wr i MA) c c H (upd H aM (.dK (putK (a7 ((aj5 1 st.made.length).zip (ms.map V.ref))) (km (n:Int)) (.ref x)))) /\
  ChX A i c (upd H aM (.dK (putK (a7 ((aj5 1 st.made.length).zip (ms.map V.ref))) (km (n:Int)) (.ref x)))) o { st with made:=st.made.set (n - 1) m } dx aM aP aA aD aF aE aR (ms.set (n - 1) x) ds ws fs es:=by
 have s:Step (Wr i MA) c c H (upd H aM (.dK (putK (a7 ((aj5 1 st.made.length).zip (ms.map V.ref))) (km (n:Int)) (.ref x)))):=Step.upd Wr.nn (Wr.yes X.made.1 rfl);have k:=mz rfl s X.co X.ob;have ml:=X.mot.len;have e:=Nn (v:=.ref x) (List.nodup_range' (s:=1) (n:=st.made.length)) (GO hn.1 hn.2) (vs:=ms.map V.ref) (by rw[aku,bo];exact ml)
 have hd:jm i c (upd H aM (.dK (putK (a7 ((aj5 1 st.made.length).zip (ms.map V.ref))) (km (n:Int)) (.ref x)))) .made aM ((aj5 1 (st.made.set (n - 1) m).length).zip ((ms.set (n - 1) x).map V.ref)) :=
  ⟨X.made.1,by rw[ae,e,akC,List.map_set]⟩
 exact⟨s,k.1,k.2,hd,(sQ s X.mot).set _ (hm.step s),X.au.kp rfl s,X.aB.kp rfl s,kJ (λ_ _=>rfl) s X.wait,X.dec.kp rfl s,jb s X.mD,X.firsts.kp rfl s,uC (λ_ _=>rfl) s X.first,X.kH.kp rfl s,wC (λ_ _=>rfl) s X.kept,X.rows.kp rfl s⟩
theorem ChX.Su (X:ChX A i c H o st dx aM aP aA aD aF aE aR ms ds ws fs es){m:Mn}{x:Addr}(hm:mB A c H m x) :
  Step (Wr i MA) c c H (upd H aM (.dK (putK (a7 ((aj5 1 st.made.length).zip (ms.map V.ref))) (km ((st.made.length+1:Nat):Int)) (.ref x)))) /\
  ChX A i c (upd H aM (.dK (putK (a7 ((aj5 1 st.made.length).zip (ms.map V.ref))) (km ((st.made.length+1:Nat):Int)) (.ref x)))) o { st with made:=st.made++[m] } dx aM aP aA aD aF aE aR (ms++[x]) ds ws fs es:=by
 have s:Step (Wr i MA) c c H (upd H aM (.dK (putK (a7 ((aj5 1 st.made.length).zip (ms.map V.ref))) (km ((st.made.length+1:Nat):Int)) (.ref x)))):=Step.upd Wr.nn (Wr.yes X.made.1 rfl);have k:=mz rfl s X.co X.ob;have ml:=X.mot.len;have e:=pO (v:=.ref x) (n:=st.made.length+1) (ks:=aj5 1 st.made.length) (vs:=ms.map V.ref) (by rw[akH];omega) (by rw[aku,bo];exact ml)
 have hd:jm i c (upd H aM (.dK (putK (a7 ((aj5 1 st.made.length).zip (ms.map V.ref))) (km ((st.made.length+1:Nat):Int)) (.ref x)))) .made aM ((aj5 1 (st.made++[m]).length).zip ((ms++[x]).map V.ref)) :=
  ⟨X.made.1,by rw[ae,e,kx,ajR,List.range'_concat,kr,Nat.one_mul,Nat.add_comm 1];rfl⟩
 exact⟨s,k.1,k.2,hd,(sQ s X.mot).snoc (hm.step s),X.au.kp rfl s,X.aB.kp rfl s,kJ (λ_ _=>rfl) s X.wait,X.dec.kp rfl s,jb s X.mD,X.firsts.kp rfl s,uC (λ_ _=>rfl) s X.first,X.kH.kp rfl s,wC (λ_ _=>rfl) s X.kept,X.rows.kp rfl s⟩
def rH (n:Nat)(e:Ed)(xs:List (Nat×List Ed)):List (Nat×List Ed):=xs.map λx=>if x.1=n then (x.1,x.2++[e]) else x
theorem ChX.fS (X:ChX A i c H o st dx aM aP aA aD aF aE aR ms ds ws fs es){n:Nat}{x:Nat×List Ed}(hx:at1 n st.kept=some x):∃(p:Addr) (ts:List Addr),gD (a7 ((st.kept.map (·.1)).zip es)) (km (n:Int))=some (.ref p)/\LstAt i c H (.gx n) p (ts.map V.ref)/\ts.length=x.2.length:=by
 obtain⟨v,h1,p,ts,rfl,h2,h3⟩:=X.kept.val hx;rw[(jd hx).1]at h2;exact⟨p,ts,h1,h2,h3.len.symm⟩
theorem ChX.Fn (X:ChX A i c H o st dx aM aP aA aD aF aE aR ms ds ws fs es){n:Nat}{e:Ed}{t p:Addr}{ts:List Addr}(hv:gD (a7 ((st.kept.map (·.1)).zip es)) (km (n:Int))=some (.ref p))(hl:LstAt i c H (.gx n) p (ts.map V.ref))(nd:(st.kept.map (·.1)).Nodup)(ht:TupAt c H t (eK e)) :
  Step (Wr i (MB n)) c c H (upd H p (.lst (ts.map V.ref++[.ref t])))/\ChX A i c (upd H p (.lst (ts.map V.ref++[.ref t]))) o { st with kept:=rH n e st.kept } dx aM aP aA aD aF aE aR ms ds ws fs es:=by
 have s:Step (Wr i (MB n)) c c H (upd H p (.lst (ts.map V.ref++[.ref t]))):=Step.upd Wr.nn (Wr.yes hl.1 (decide_eq_true rfl));have k:=mz rfl s X.co X.ob;have ek:(rH n e st.kept).map (·.1)=st.kept.map (·.1):=by
  unfold rH;rw[List.map_map];refine akp λx _=>?_
  show (if x.1=n then (x.1,x.2++[e]) else x).1=x.1
  split <;> rfl
 refine⟨s,k.1,k.2,X.made.kp rfl s,sQ s X.mot,X.au.kp rfl s,X.aB.kp rfl s,kJ (λ_ _=>rfl) s X.wait,X.dec.kp rfl s,jb s X.mD,X.firsts.kp rfl s,uC (λ_ _=>rfl) s X.first,by show jm i c _ .kept aE (((rH n e st.kept).map (·.1)).zip es);rw[ek];exact X.kH.kp rfl s,?_,X.rows.kp rfl s⟩
 refine bI.aaG (f:=λx=>(x.1,x.2++[e])) (v:=.ref p) ?_ ?_ X.kept nd hv
 ·rintro x e1 ⟨q,us,e2,z1,z2⟩;cases e2;have e3:us.map V.ref=ts.map V.ref:=by
   have:=z1.2;rw[hl.2]at this;injection this with this
   injection this with this
   exact this.symm
  refine⟨p,us++[t],rfl,⟨z1.1,?_⟩,(z2.imp λ_ _ y=>y.step s).snoc (ht.step s)⟩
  rw[ae,<-e3,kr];rfl
 ·rintro x u e1 ⟨q,us,rfl,z1,z2⟩;exact⟨q,us,rfl,z1.kp (decide_eq_false e1) s,z2.imp λ_ _ y=>y.step s⟩
theorem ChX.Qf (X:ChX A i c H o st dx aM aP aA aD aF aE aR ms ds ws fs es){n:Nat}{tx:List Str}{p:Addr}(hp:H p=none)(hn:n∉st.firsts.map (·.1)) :
  Step (Wr i aaH) c (az c p (some (i,.cM n))) H (upd (upd H p (.lst (tx.map V.str))) aF (.dK (putK (a7 ((st.firsts.map (·.1)).zip fs)) (km (n:Int)) (.ref p)))) /\
  ChX A i (az c p (some (i,.cM n))) (upd (upd H p (.lst (tx.map V.str))) aF (.dK (putK (a7 ((st.firsts.map (·.1)).zip fs)) (km (n:Int)) (.ref p)))) o { st with firsts:=st.firsts++[(n,tx)] } dx aM aP aA aD aF aE aR ms ds ws (fs++[.ref p]) es:=by
 have np:∀ {a:Addr} {v:HO},H a=some v->a≠p:=λe=>aI e hp
 have s:Step (Wr i aaH) c (az c p (some (i,.cM n))) H (upd (upd H p (.lst (tx.map V.str))) aF (.dK (putK (a7 ((st.firsts.map (·.1)).zip fs)) (km (n:Int)) (.ref p)))) :=
  (Step.new Wr.nn hp).trans (Step.upd Wr.nn ⟨.firsts,by rw[aw (np X.firsts.2)];exact X.firsts.1,rfl⟩)
 have k:=mz rfl s X.co X.ob;have e:=pO (v:=.ref p) hn (vs:=fs) (by rw[bo];exact X.first.len)
 have hd:jm i (az c p (some (i,.cM n))) (upd (upd H p (.lst (tx.map V.str))) aF (.dK (putK (a7 ((st.firsts.map (·.1)).zip fs)) (km (n:Int)) (.ref p)))) .firsts aF (((st.firsts++[(n,tx)]).map (·.1)).zip (fs++[.ref p])) :=
  ⟨by rw[aw (np X.firsts.2)];exact X.firsts.1,by rw[ae,e,kr];rfl⟩
 have hl:Fg i (az c p (some (i,.cM n))) (upd (upd H p (.lst (tx.map V.str))) aF (.dK (putK (a7 ((st.firsts.map (·.1)).zip fs)) (km (n:Int)) (.ref p)))) (n,tx) (.ref p) :=
  ⟨p,rfl,aW,(av (np X.firsts.2).symm).trans ae⟩
 exact⟨s,k.1,k.2,X.made.kp rfl s,sQ s X.mot,X.au.kp rfl s,X.aB.kp rfl s,kJ (λ_ _=>rfl) s X.wait,X.dec.kp rfl s,jb s X.mD,hd,(uC (λ_ _=>rfl) s X.first).snoc hl,X.kH.kp rfl s,wC (λ_ _=>rfl) s X.kept,X.rows.kp rfl s⟩
theorem ChX.Sv (X:ChX A i c H o st dx aM aP aA aD aF aE aR ms ds ws fs es){n:Nat}{p:Addr}(hp:H p=none)(hn:n∉st.kept.map (·.1)) :
  Step (Wr i aaI) c (az c p (some (i,.gx n))) H (upd (upd H p (.lst [])) aE (.dK (putK (a7 ((st.kept.map (·.1)).zip es)) (km (n:Int)) (.ref p)))) /\
  ChX A i (az c p (some (i,.gx n))) (upd (upd H p (.lst [])) aE (.dK (putK (a7 ((st.kept.map (·.1)).zip es)) (km (n:Int)) (.ref p)))) o { st with kept:=st.kept++[(n,([]:List Ed))] } dx aM aP aA aD aF aE aR ms ds ws fs (es++[.ref p]):=by
 have np:∀ {a:Addr} {v:HO},H a=some v->a≠p:=λe=>aI e hp
 have s:Step (Wr i aaI) c (az c p (some (i,.gx n))) H (upd (upd H p (.lst [])) aE (.dK (putK (a7 ((st.kept.map (·.1)).zip es)) (km (n:Int)) (.ref p)))) :=
  (Step.new Wr.nn hp).trans (Step.upd Wr.nn ⟨.kept,by rw[aw (np X.kH.2)];exact X.kH.1,rfl⟩)
 have k:=mz rfl s X.co X.ob;have e:=pO (v:=.ref p) hn (vs:=es) (by rw[bo];exact X.kept.len)
 have hd:jm i (az c p (some (i,.gx n))) (upd (upd H p (.lst [])) aE (.dK (putK (a7 ((st.kept.map (·.1)).zip es)) (km (n:Int)) (.ref p)))) .kept aE (((st.kept++[(n,([]:List Ed))]).map (·.1)).zip (es++[.ref p])) :=
  ⟨by rw[aw (np X.kH.2)];exact X.kH.1,by rw[ae,e,kr];rfl⟩
 have hl:Mw i (az c p (some (i,.gx n))) (upd (upd H p (.lst [])) aE (.dK (putK (a7 ((st.kept.map (·.1)).zip es)) (km (n:Int)) (.ref p)))) (n,[]) (.ref p) :=
  ⟨p,[],rfl,⟨aW,(av (np X.kH.2).symm).trans ae⟩,.nil⟩
 exact⟨s,k.1,k.2,X.made.kp rfl s,sQ s X.mot,X.au.kp rfl s,X.aB.kp rfl s,kJ (λ_ _=>rfl) s X.wait,X.dec.kp rfl s,jb s X.mD,X.firsts.kp rfl s,uC (λ_ _=>rfl) s X.first,hd,(wC (λ_ _=>rfl) s X.kept).snoc hl,X.rows.kp rfl s⟩
def Ch.lE (st:Ch)(n:Nat)(u:Int):Ch:={ st with au:=[],aB:=st.aB++[(n,u,st.au)] }
theorem ChX.lE (X:ChX A i c H o st dx aM aP aA aD aF aE aR ms ds ws fs es){n:Nat}{u:Int}{t p:Addr}(ht:H t=none)(hp:H p=none)(ntp:p≠t)(hn:n∉st.aB.map (·.1)) :
  ∃c',Step (Wr i Ss) c c' H (upd (upd (upd (upd H t (.tup [.int u,.ref aP])) aA (.dK (putK (a7 ((st.aB.map (·.1)).zip ws)) (km (n:Int)) (.ref t)))) p (.lst [])) o (.ins A.ax dx (chF (.int st.cz) (.int st.aQ) (.bl st.closed) (.ref aM) (.ref p) (.ref aA) (.ref aD) (.ref aF) (.ref aE) (.ref aR)))) /\
  ChX A i c' (upd (upd (upd (upd H t (.tup [.int u,.ref aP])) aA (.dK (putK (a7 ((st.aB.map (·.1)).zip ws)) (km (n:Int)) (.ref t)))) p (.lst [])) o (.ins A.ax dx (chF (.int st.cz) (.int st.aQ) (.bl st.closed) (.ref aM) (.ref p) (.ref aA) (.ref aD) (.ref aF) (.ref aE) (.ref aR)))) o (st.lE n u) dx aM p aA aD aF aE aR ms ds (ws++[.ref t]) fs es:=by
 have nt:∀ {a:Addr} {v:HO},H a=some v->a≠t:=λe=>aI e ht
 have np:∀ {a:Addr} {v:HO},H a=some v->a≠p:=λe=>aI e hp
 have oA:o≠aA:=dD X.co X.aB.1 (λz=>nomatch z)
 have oP:o≠aP:=dD X.co X.au.1 (λz=>nomatch z)
 have AP:aA≠aP:=dD X.aB.1 X.au.1 (λz=>nomatch z)
 have e:=pO (v:=.ref t) hn (vs:=ws) (by rw[bo];exact X.wait.len)
 have hp2:(upd (upd H t (.tup [.int u,.ref aP])) aA (.dK (putK (a7 ((st.aB.map (·.1)).zip ws)) (km (n:Int)) (.ref t)))) p=none:=by
  rw[av (np X.aB.2).symm,av ntp];exact hp
 refine⟨az (az (az c t none) p (some (i,.au))) aP (some (i,.eM n)),?_⟩;have s:Step (Wr i Ss) c (az (az (az c t none) p (some (i,.au))) aP (some (i,.eM n))) H (upd (upd (upd (upd H t (.tup [.int u,.ref aP])) aA (.dK (putK (a7 ((st.aB.map (·.1)).zip ws)) (km (n:Int)) (.ref t)))) p (.lst [])) o (.ins A.ax dx (chF (.int st.cz) (.int st.aQ) (.bl st.closed) (.ref aM) (.ref p) (.ref aA) (.ref aD) (.ref aF) (.ref aE) (.ref aR)))):=by
  refine((((Step.new Wr.nn ht).trans (Step.upd Wr.nn ⟨.aB,?_,rfl⟩)).trans (Step.new Wr.nn hp2)).trans (Step.upd Wr.nn ⟨.ob,?_,rfl⟩)).trans (Step.role Wr.nn ⟨.au,?_,rfl⟩)
  ·rw[aw (nt X.aB.2)];exact X.aB.1
  ·rw[aw (np X.ob),aw (nt X.ob)];exact X.co
  ·rw[aw (np X.au.2),aw (nt X.au.2)];exact X.au.1
 have k1:az (az (az c t none) p (some (i,.au))) aP (some (i,.eM n)) o=some (i,.ob):=by
  rw[aw oP,aw (np X.ob),aw (nt X.ob)];exact X.co
 have hd:jm i (az (az (az c t none) p (some (i,.au))) aP (some (i,.eM n))) (upd (upd (upd (upd H t (.tup [.int u,.ref aP])) aA (.dK (putK (a7 ((st.aB.map (·.1)).zip ws)) (km (n:Int)) (.ref t)))) p (.lst [])) o (.ins A.ax dx (chF (.int st.cz) (.int st.aQ) (.bl st.closed) (.ref aM) (.ref p) (.ref aA) (.ref aD) (.ref aF) (.ref aE) (.ref aR)))) .aB aA (((st.aB++[(n,u,st.au)]).map (·.1)).zip (ws++[.ref t])) :=
  ⟨by rw[aw AP,aw (np X.aB.2),aw (nt X.aB.2)];exact X.aB.1,by rw[av oA.symm,av (np X.aB.2),ae,e,kr];rfl⟩
 have hl:LstAt i (az (az (az c t none) p (some (i,.au))) aP (some (i,.eM n))) (upd (upd (upd (upd H t (.tup [.int u,.ref aP])) aA (.dK (putK (a7 ((st.aB.map (·.1)).zip ws)) (km (n:Int)) (.ref t)))) p (.lst [])) o (.ins A.ax dx (chF (.int st.cz) (.int st.aQ) (.bl st.closed) (.ref aM) (.ref p) (.ref aA) (.ref aD) (.ref aF) (.ref aE) (.ref aR)))) (.eM n) aP (st.au.map nV) :=
  ⟨aW,by rw[av oP.symm,av (np X.au.2),av AP.symm,av (nt X.au.2)];exact X.au.2⟩
 have hn':LstAt i (az (az (az c t none) p (some (i,.au))) aP (some (i,.eM n))) (upd (upd (upd (upd H t (.tup [.int u,.ref aP])) aA (.dK (putK (a7 ((st.aB.map (·.1)).zip ws)) (km (n:Int)) (.ref t)))) p (.lst [])) o (.ins A.ax dx (chF (.int st.cz) (.int st.aQ) (.bl st.closed) (.ref aM) (.ref p) (.ref aA) (.ref aD) (.ref aF) (.ref aE) (.ref aR)))) .au p [] :=
  ⟨by rw[aw (np X.au.2).symm,aW],by rw[av (np X.ob).symm,ae]⟩
 have htt:TupAt (az (az (az c t none) p (some (i,.au))) aP (some (i,.eM n))) (upd (upd (upd (upd H t (.tup [.int u,.ref aP])) aA (.dK (putK (a7 ((st.aB.map (·.1)).zip ws)) (km (n:Int)) (.ref t)))) p (.lst [])) o (.ins A.ax dx (chF (.int st.cz) (.int st.aQ) (.bl st.closed) (.ref aM) (.ref p) (.ref aA) (.ref aD) (.ref aF) (.ref aE) (.ref aR)))) t [.int u,.ref aP] :=
  ⟨by rw[aw (nt X.au.2).symm,aw ntp.symm,aW],.inl (by rw[av (nt X.ob).symm,av ntp.symm,av (nt X.aB.2).symm,ae])⟩
 exact⟨s,k1,ae,X.made.kp rfl s,sQ s X.mot,hn',hd,(kJ (λ_ _=>rfl) s X.wait).snoc ⟨t,aP,rfl,htt,hl⟩,X.dec.kp rfl s,jb s X.mD,X.firsts.kp rfl s,uC (λ_ _=>rfl) s X.first,X.kH.kp rfl s,wC (λ_ _=>rfl) s X.kept,X.rows.kp rfl s⟩
def Ch.rh (st:Ch)(n:Nat)(pl:List Nat):Ch:={ st with au:=pl,aB:=st.aB.filter λx=>decide (x.1≠n) }
theorem ChX.waitOf (X:ChX A i c H o st dx aM aP aA aD aF aE aR ms ds ws fs es){n:Nat}{x:Nat×Int×List Nat}(hx:at1 n st.aB=some x):∃t p,gD (a7 ((st.aB.map (·.1)).zip ws)) (km (n:Int))=some (.ref t)/\TupAt c H t [.int x.2.1,.ref p]/\LstAt i c H (.eM n) p (x.2.2.map nV):=by
 obtain⟨v,h1,t,p,rfl,h2,h3⟩:=X.wait.val hx;rw[(jd hx).1]at h3;exact⟨t,p,h1,h2,h3⟩
theorem ChX.rh (X:ChX A i c H o st dx aM aP aA aD aF aE aR ms ds ws fs es){n:Nat}{p:Addr}{pl:List Nat}(hl:LstAt i c H (.eM n) p (pl.map nV)) :
  ∃c' ws',Step (Wr i (MC n)) c c' H (upd (upd H aA (.dK (iC (a7 ((st.aB.map (·.1)).zip ws)) (km (n:Int))))) o (.ins A.ax dx (chF (.int st.cz) (.int st.aQ) (.bl st.closed) (.ref aM) (.ref p) (.ref aA) (.ref aD) (.ref aF) (.ref aE) (.ref aR)))) /\
  ChX A i c' (upd (upd H aA (.dK (iC (a7 ((st.aB.map (·.1)).zip ws)) (km (n:Int))))) o (.ins A.ax dx (chF (.int st.cz) (.int st.aQ) (.bl st.closed) (.ref aM) (.ref p) (.ref aA) (.ref aD) (.ref aF) (.ref aE) (.ref aR)))) o (st.rh n pl) dx aM p aA aD aF aE aR ms ds ws' fs es:=by
 have oA:o≠aA:=dD X.co X.aB.1 (λz=>nomatch z)
 have op:o≠p:=dD X.co hl.1 (λz=>nomatch z)
 have Ap:aA≠p:=dD X.aB.1 hl.1 (λz=>nomatch z)
 obtain⟨ws',e1,e2⟩:=X.wait.drop (n:=n);refine⟨az c p (some (i,.au)),ws',?_⟩;have s:Step (Wr i (MC n)) c (az c p (some (i,.au))) H (upd (upd H aA (.dK (iC (a7 ((st.aB.map (·.1)).zip ws)) (km (n:Int))))) o (.ins A.ax dx (chF (.int st.cz) (.int st.aQ) (.bl st.closed) (.ref aM) (.ref p) (.ref aA) (.ref aD) (.ref aF) (.ref aE) (.ref aR)))) :=
  ((Step.upd Wr.nn ⟨.aB,X.aB.1,rfl⟩).trans (Step.upd Wr.nn ⟨.ob,X.co,rfl⟩)).trans (Step.role Wr.nn ⟨.eM n,hl.1,decide_eq_true rfl⟩)
 have k1:az c p (some (i,.au)) o=some (i,.ob):=by rw[aw op];exact X.co
 have hd:jm i (az c p (some (i,.au))) (upd (upd H aA (.dK (iC (a7 ((st.aB.map (·.1)).zip ws)) (km (n:Int))))) o (.ins A.ax dx (chF (.int st.cz) (.int st.aQ) (.bl st.closed) (.ref aM) (.ref p) (.ref aA) (.ref aD) (.ref aF) (.ref aE) (.ref aR)))) .aB aA (((st.aB.filter λx=>decide (x.1≠n)).map (·.1)).zip ws') :=
  ⟨by rw[aw Ap];exact X.aB.1,by rw[av oA.symm,ae,e1]⟩
 have hpl:LstAt i (az c p (some (i,.au))) (upd (upd H aA (.dK (iC (a7 ((st.aB.map (·.1)).zip ws)) (km (n:Int))))) o (.ins A.ax dx (chF (.int st.cz) (.int st.aQ) (.bl st.closed) (.ref aM) (.ref p) (.ref aA) (.ref aD) (.ref aF) (.ref aE) (.ref aR)))) .au p (pl.map nV) :=
  ⟨aW,by rw[av op.symm,av Ap.symm];exact hl.2⟩
 exact⟨s,k1,ae,X.made.kp rfl s,sQ s X.mot,hpl,hd,kJ (λx hx=>decide_eq_false (of_decide_eq_true (List.mem_filter.mp hx).2)) s e2,X.dec.kp rfl s,jb s X.mD,X.firsts.kp rfl s,uC (λ_ _=>rfl) s X.first,X.kH.kp rfl s,wC (λ_ _=>rfl) s X.kept,X.rows.kp rfl s⟩
end
end My
set_option maxHeartbeats 1000000
namespace My
open PySem L2
seal PySem.wpAny
def yb (i:Nat)(c:Col)(H:Hp)(t:Addr)(xs:List V):Prop:=¬dv i (c t)/\H t=some (.tup xs)
def Np (i:Nat)(c:Col)(H:Hp)(t:Addr)(xs:List V):Prop:=¬dv i (c t)/\H t=some (.lst xs)
def rj (i:Nat)(c:Col)(H:Hp):R.fq->Addr->Prop
 | .mat cs,t=>∃L,yb i c H t [.str (ar "matter"),.ref L]/\Np i c H L ((cs.map (sr R.bl1)).map V.str)
 | .ed m k j ws,t=>∃e,yb i c H t [.str (R.kEd m),.ref e]/\TupAt c H e (R.edR k j (sr R.bl1 ws))
 | .pt ws,t=>yb i c H t [.str (ar "point"),.str (sr R.bl1 ws)]
 | .nums kd ns,t=>yb i c H t (.str kd::ns.map V.int)
section
variable{i:Nat}{c c':Col}{H H':Hp}{t:Addr}{xs:List V}
theorem yb.step (s:Step (dv i) c c' H H')(h:yb i c H t xs):yb i c' H' t xs:=⟨by rw[s.col t _ h.2 h.1];exact h.1,s.keep _ _ h.2 h.1⟩
theorem Np.step (s:Step (dv i) c c' H H')(h:Np i c H t xs):Np i c' H' t xs:=⟨by rw[s.col t _ h.2 h.1];exact h.1,s.keep _ _ h.2 h.1⟩
theorem rj.step (s:Step (dv i) c c' H H'):∀ {d:R.fq},rj i c H d t->rj i c' H' d t
 | .mat _,⟨L,a,b⟩=>⟨L,a.step s,b.step s⟩
 | .ed _ _ _ _,⟨e,a,b⟩=>⟨e,a.step s,b.step s⟩
 | .pt _,h=>yb.step s h
 | .nums _ _,h=>yb.step s h
theorem rj.at {K:ba}:∀ {d:R.fq},rj i c H d t->R.sO K H d t
 | .mat _,⟨L,a,b⟩=>⟨L,SqT.of a.2,SqL.of b.2⟩
 | .ed _ _ _ _,⟨e,a,b⟩=>⟨e,SqT.of a.2,b.sq⟩
 | .pt _,h=>SqT.of h.2
 | .nums _ _,h=>SqT.of h.2
end
theorem Fo {k:Nat}{j:Int}{x:Str}(h:k=0\/k=1\/k=2):R.edR k j x=eK ⟨k,j,x⟩:=by
 rcases h with rfl | rfl | rfl <;> rfl
theorem d9 {t1 t2:TS}{D:Ends}{σ:St}{H:Hp}(J:St->Hp->Prop)(h2:∀σ' H',J σ' H'->t2 D σ' H')(h1:∀N:St->Hp->Prop,(∀σ' H',J σ' H'->N σ' H')->t1 { D with nx:=N } σ H):ZH t1 t2 D σ H:=h1 (t2 D) h2
def Ch.opened (st:Ch):Ch:={ st with closed:=if st.au=[] then false else st.closed }
def Ch.uv (st:Ch)(row:Str):Ch:={ st.opened with rows:=st.rows++[row] }
def Qg (A:Adr)(i:Nat):Sp:=λvs H Q _=>∃(o t:Addr) (c:Col) (st:Ch) (d:R.fq),vs=[.ref o,.ref t]/\fb A i c H o st/\rj i c H d t/\R.DOk d/\st.rows.length<=1000 /\
 ∀c' H',Step (dv i) c c' H H'->fb A i c' H' o (st.uv (R.rF d))->Q .non H'
def Qh (A:Adr)(i:Nat):Sp:=λvs H Q _=>∃(o:Addr) (u:Int) (c:Col) (st:Ch) (n:Nat) (r:List Nat),vs=[.ref o,.int u]/\fb A i c H o st/\st.au=n::r/\n∉st.aB.map (·.1)/\st.aB.length<=1000 /\
 ∀c' H',Step (dv i) c c' H H'->fb A i c' H' o (st.lE n u)->Q .non H'
def Ch.Nq (st:Ch)(n:Nat)(tx:List Str)(e:Ed):Ch:={ st with made:=st.made.set (n - 1) (.mat (bE tx e)),kept:=rH n e st.kept }
def Qi (A:Adr)(i:Nat):Sp:=λvs H Q _=>∃(o t:Addr) (c:Col) (st:Ch) (n:Nat) (r:List Nat) (tx:List Str) (e:Ed) (x:Nat×List Ed),vs=[.ref o,.ref t]/\fb A i c H o st/\st.au=n::r/\cX st n/\st.mo n=.mat tx/\tx.length<=1000/\st.made.length<=1000 /\
 TupAt c H t (eK e)/\rE e/\gv tx.length e=true/\at1 n st.kept=some x/\x.2.length<=1000/\(st.kept.map (·.1)).Nodup /\
 ∀c' H',Step (dv i) c c' H H'->fb A i c' H' o (st.Nq n tx e)->Q .non H'
def Ch.Fp (st:Ch)(n:Nat)(e:Ed)(ws:List Str):Ch:={ st with made:=st.made.set (n - 1) (.chg ⟨e.k,e.at_,sr R.bl1 ws⟩) }
def Qj (A:Adr)(i:Nat):Sp:=λvs H Q _=>∃(o t:Addr) (c:Col) (st:Ch) (n:Nat) (r:List Nat) (e f:Ed),vs=[.ref o,.ref t]/\fb A i c H o st/\st.au=r++[n]/\cX st n/\st.mo n=.chg e/\e.k≠1/\rE e/\(R.bf e.th).length<=1000/\st.made.length<=1000 /\
 TupAt c H t (eK f)/\rE f/\gv (R.bf e.th).length f=true/\((bE (R.bf e.th) f).map (·.length)).sum+(bE (R.bf e.th) f).length<=16777216 /\
 ∀c' H',Step (dv i) c c' H H'->fb A i c' H' o (st.Fp n e (bE (R.bf e.th) f))->Q .non H'
theorem ChX.Sw {A:Adr}{i:Nat}{c:Col}{H:Hp}{o dx aM aP aA aD aF aE aR:Addr}{st:Ch}{ms ds:List Addr}{ws fs es:List V}(X:ChX A i c H o st dx aM aP aA aD aF aE aR ms ds ws fs es){n:Nat}(hn:cX st n) :
  ∃x,gD (a7 ((aj5 1 st.made.length).zip (ms.map V.ref))) (km (n:Int))=some (.ref x)/\mB A c H (st.mo n) x:=by
 have ml:=X.mot.len;have hlt:n - 1 < st.made.length:=by have:=hn.1;have:=hn.2;omega
 obtain⟨x,e1,e2⟩:=X.mot.get (wa hlt);have hv:=BX ms 1 (n - 1) e1;rw[<-ml,show 1+(n - 1)=n by have:=hn.1;omega]at hv
 have e3:st.mo n=st.made[n - 1]:=by unfold Ch.mo;rw[ajN,wa hlt];rfl
 exact⟨x,hv,by rw[e3];exact e2⟩
section
variable{P:me}{w:World}{K:ba}{mg:Str->Option Value}{base:Heap}{A:Adr}
theorem rl (T:Txt w.params K mg A){i:Nat}:aK P w K mg base CX0 5 A.bh A.cq ["self","deed"] (Qg A i):=by
 have kK:aK P w K mg base CX0 4 A.lT A.gP ["deed"] (R.Ff K):=R.qJ T;refine T.cB.ok oN (λvs H Q E h=>?_) (λcdv A' outer s H vs Q E hr h=>?_)
 ·obtain⟨o,t,c,st,d,rfl,_⟩:=h;rfl
 ·obtain⟨o,t,c,st,d,rfl,hc,hd,hk,hl,q⟩:=h;have je:=hr;refine⟨_,(ai (a5 (qk (rT (bj (pv 0) rfl) (λ_=>rfl)))
 (aj (ef (pv 0) gb rfl))
 aH)
 (aj (bJ (gR rf ajU ajV cU (bj (pv 0) rfl) (aa (aV kK je rfl T.nA T.kD.kp T.nz .nil aY (aa (pv 1) ah)) ah))))),?_⟩
  have lim:ka=16777216:=by decide
  refine d9 (λσ' H'=>σ'=[some (.ref o),some (.ref t)]/\Step (dv i) c c H H'/\fb A i c H' o st.opened) ?r (λN nN=>?f)
  case f =>
   refine hide λGg hGg=>?_
   obtain⟨dx,aM,aP,aA,aD,aF,aE,aR,ms,ds,ws,fs,es,X⟩:=hc.ex;refine hGg ?_;refine eQ rfl X.ob T.aq T.jq0 eN ?_;refine⟨_,.inl ⟨_,.inl (.inl X.au.2),rfl⟩,?_⟩;cases e:st.au with
   |nil =>
    refine dP ⟨_,rfl,o,A.ax,dx,_,rfl,X.ob,T.aq,T.jq4,(by show 10 < 1000;decide),?_⟩
    rw[BW];obtain⟨s1,X1⟩:=X.attr st.aQ false;refine nN _ _ ⟨rfl,s1.g9,?_⟩;have e1:st.opened={ st with aQ:=st.aQ,closed:=false }:=by unfold Ch.opened;rw[e,if_pos rfl]
    rw[e1];exact X1.at
   |cons x r =>
    refine bX (nN _ _ ⟨rfl,Step.refl aU,?_⟩);have e1:st.opened=st:=by unfold Ch.opened;rw[e,if_neg (aj1 _ _)];cases st;cases e;rfl
    rw[e1];exact hc
  case r =>
   rintro σ' H1 ⟨rfl,s1,hc1⟩;refine hide λGg hGg=>?_
   obtain⟨dx,aM,aP,aA,aD,aF,aE,aR,ms,ds,ws,fs,es,X⟩:=hc1.ex;refine hGg ?_;refine eQ rfl X.ob T.aq T.jqk wD ?_;refine⟨.inl ⟨rfl,_,SqL.of X.rows.2⟩,_,rfl,t,d,rfl,(hd.step s1).at,hk,λH2 s2=>?_⟩
   have X2:=X.same s2;obtain⟨s3,X3⟩:=X2.row (R.rF d);refine⟨aR,_,_,rfl,rfl,X2.rows.2,by rw[bo];show st.rows.length < _;omega,?_⟩
   exact q c _ ((s1.trans (Step.same aU s2)).trans s3.g9) X3.at
theorem Fq (T:Txt w.params K mg A){i:Nat}:aK P w K mg base CX0 1 A.bC A.dU ["self","until"] (Qh A i):=by
 refine T.dc.ok r6 (λvs H Q E h=>?_) (λcdv A' outer s H vs Q E hr h=>?_)
 ·obtain⟨o,u,c,st,n,r,rfl,_⟩:=h;rfl
 ·obtain⟨o,u,c,st,n,r,rfl,hc,hp,hn,hl,q⟩:=h;obtain⟨dx,aM,aP,aA,aD,aF,aE,aR,ms,ds,ws,fs,es,X⟩:=hc.ex;have hu1:=hr.u1;have lim:ka=16777216:=by decide
  refine⟨_,(ai (hZ hu1 (bj (pv 0) rfl) (aJ bz (bj (pv 0) rfl) af (λ_ _=>rfl)) (bt (aa (pv 1) (aa (bj (pv 0) rfl) ah))) rfl)
 (aj (ef (pv 0) (bR ah) rfl))),?_⟩
  refine⟨_,rfl,eQ rfl X.ob T.aq T.jq0 eN ⟨(sl 2),λt ht=>?_⟩⟩
  have s1:=aG (o:=.tup [V.int u,.ref aP]) ht;refine eQ rfl (s1 _ _ X.ob) T.aq T.jq3 jI ?_;have h0:atI (st.au.map nV) 0=some (nV n):=by rw[hp];exact dF (j:=0) rfl
  refine eQ rfl (s1 _ _ X.ob) T.aq T.jq0 eN ⟨aP,_,_,_,rfl,rfl,SqL.of (s1 _ _ X.au.2),h0,?_⟩;refine⟨aA,_,rfl,oI.k (k:=km (n:Int)) (s1 _ _ X.aB.2) ?_,?_⟩
  ·unfold a7;rw[bo,akJ,bo];omega
  have oA:o≠aA:=dD X.co X.aB.1 (λz=>nomatch z)
  refine⟨(sl 0),λp hp0=>?_⟩
  have npA:p≠aA:=λz=>by rw[z,ae]at hp0;cases hp0
  have npt:p≠t:=λz=>by rw[av npA,z,ae]at hp0;cases hp0
  have hp1:H p=none:=by rw[av npA,av npt]at hp0;exact hp0
  have hob:(upd (upd (upd H t (.tup [V.int u,.ref aP])) aA (.dK (putK (a7 ((st.aB.map (·.1)).zip ws)) (km (n:Int)) (.ref t)))) p (.lst [])) o=some (.ins A.ax dx (chF (.int st.cz) (.int st.aQ) (.bl st.closed) (.ref aM) (.ref aP) (.ref aA) (.ref aD) (.ref aF) (.ref aE) (.ref aR))):=by
   rw[av (aI X.ob hp1),av oA];exact s1 _ _ X.ob
  refine⟨_,rfl,o,A.ax,dx,_,rfl,hob,T.aq,T.jq0,(by show 10 < 1000;decide),?_⟩
  rw[GK];refine hide λGg hGg=>?_
  obtain⟨c',s2,X2⟩:=X.lE (u:=u) ht hp1 npt hn;refine hGg ?_;exact q c' _ s2.g9 X2.at
theorem yc (T:Txt w.params K mg A){i:Nat}:aK P w K mg base CX0 4 A.bp A.cQ ["self","edit"] (Qi A i):=by
 have P5:aK P w K mg base CX0 1 A.Ni A.Dx ["self","text"] (AD A K):=BR T;have Km:aK P w K mg base (CXX P w) 3 A.laid A.vT ["things","edit"] (Kh A K):=Mi T;refine T.cv.ok g0 (λvs H Q E h=>?_) (λcdv A' outer s H vs Q E hr h=>?_)
 ·obtain⟨o,t,c,st,n,r,tx,e,x,rfl,_⟩:=h;rfl
 ·obtain⟨o,t,c,st,n,r,tx,e,x,rfl,hc,hp,hn,hm,htx,hml,ht,he,hf,hx,hxl,hnd,q⟩:=h;obtain⟨dx,aM,aP,aA,aD,aF,aE,aR,ms,ds,ws,fs,es,X⟩:=hc.ex;have hu1:=hr.u1;have Fs:Room 3 _:=hr;have eY:Room 2 _:=hr.mono (by decide)
  have lim:ka=16777216:=by decide
  refine⟨_,(ai (a8 (i:=2) g0.nd rfl (adm rfl) (aJ bz (bj (pv 0) rfl) af (λ_ _=>rfl)))
 (ai (hZ hu1 (bj (pv 0) rfl) (pv 2) (gC T.wy P5 eY rfl T.wq T.Sb .nil aY (aa (aV Km Fs rfl T.Kb T.EZ.kp T.Ka .nil EB (aa (bj (bc hu1 (bj (pv 0) rfl) (pv 2) (λ_ _=>rfl)) rfl) (aa (pv 1) ah))) ah)) rfl)
 (aj (bJ (gR rf ajU ajV cU (bc hu1 (bj (pv 0) rfl) (pv 2) (λ_ _=>rfl)) (aa (pv 1) ah)))))),?_⟩
  refine hide λGg hGg=>?_
  have h0:atI (st.au.map nV) 0=some (nV n):=by rw[hp];exact dF (j:=0) rfl
  obtain⟨m,hv,hmo⟩:=X.Sw hn;rw[hm]at hmo;obtain⟨_,dm,v,Wv,L,rfl,hL⟩:=hmo;refine hGg ?_;refine eQ rfl X.ob T.aq T.jq0 eN ⟨aP,_,_,_,rfl,rfl,SqL.of X.au.2,h0,?_⟩;refine⟨_,rfl,o,A.ax,dx,_,.ref aM,rfl,X.ob,T.aq,T.jq2,hG,_,rfl,aM,_,rfl,.inl ⟨_,km (n:Int),.inl X.made.2,rfl,hv.symm⟩,?_⟩;refine⟨m,A.C 0,dm,_,.ref L,rfl,Wv,T.cl 0 (by decide),T.na0,rfl,_,rfl,?_⟩
  refine⟨L,t,tx,e,rfl,SqL.of hL.2,htx,ht.sq,he,λ_ p hp0=>?_,λz=>by rw[hf]at z;cases z⟩
  refineλy dy hy hdy ndy=>?_
  refine⟨y,dy,p,(bE tx e).map V.str,rfl,ae,?_,λp2 hp2=>⟨rfl,?_⟩⟩
  ·exact(((aG hdy).new ((av (ajZ ndy)).trans hy)).seq (SqL.of ae))
  have hy0:H y=none:=by
   by_cases z:y=p
   ·rw[z,ae]at hy;cases hy
   ·rw[av z]at hy;exact hy
  have ahC:H dy=none:=by
   by_cases z:dy=p
   ·rw[z,ae]at hdy;cases hdy
   ·rw[av z]at hdy;exact hdy
  have sm0:br H (upd (upd (upd H p (.lst ((bE tx e).map V.str))) dy (.own y)) y (.ins (A.C 0) dy [])):=((aG hp0).own ahC).own hy0;have aaJ:H p2=none:=by
   cases z:H p2 with
   |none=>rfl
   |some v=>rw[sm0 _ _ z]at hp2;cases hp2
  have sm:br H (upd (upd (upd (upd (upd H p (.lst ((bE tx e).map V.str))) dy (.own y)) y (.ins (A.C 0) dy [])) p2 (.lst ((bE tx e).map V.str))) y (.ins (A.C 0) dy (pK 0 (.ref p2)))):=(sm0.own aaJ).own hy0;have nyp:y≠p2:=λz=>by rw[<-z,ae]at hp2;cases hp2
  have X1:=X.cl sm;have hmn:mB A (cx c H) (upd (upd (upd (upd (upd H p (.lst ((bE tx e).map V.str))) dy (.own y)) y (.ins (A.C 0) dy [])) p2 (.lst ((bE tx e).map V.str))) y (.ins (A.C 0) dy (pK 0 (.ref p2)))) (.mat (bE tx e)) y :=
   ⟨bO hy0,dy,.ref p2,ae,p2,rfl,bO aaJ,(av (ajZ nyp)).trans ae⟩
  have st1:Step (dv i) c (cx c H) H _:=Step.cl aU sm;have ht1:=ht.step st1;generalize upd (upd (upd (upd (upd H p (.lst ((bE tx e).map V.str))) dy (.own y)) y (.ins (A.C 0) dy [])) p2 (.lst ((bE tx e).map V.str))) y (.ins (A.C 0) dy (pK 0 (.ref p2)))=H1 at X1 hmn st1 ht1 ⊢;generalize cx c H=c1 at X1 hmn st1 ht1;refine eQ rfl X1.ob T.aq T.jq2 hG ⟨_,rfl,aM,_,rfl,oI.k (k:=km (n:Int)) X1.made.2 ?_,?_⟩
  ·unfold a7;rw[bo,akJ,aku];omega
  obtain⟨s2,X2⟩:=X1.MD hn hmn;have ht2:=ht1.step s2.g9;generalize upd H1 aM (.dK (putK (a7 ((aj5 1 st.made.length).zip (ms.map V.ref))) (km (n:Int)) (.ref y)))=H2 at s2 X2 ht2 ⊢;refine hide λGg hGg=>?_
  obtain⟨pk,ts,hv2,hl2,tl⟩:=X2.fS hx;refine hGg ?_;refine⟨_,rfl,o,A.ax,dx,_,.ref aE,rfl,X2.ob,T.aq,T.jq5,sS,_,rfl,aE,_,rfl,.inl ⟨_,km (n:Int),.inl X2.kH.2,rfl,hv2.symm⟩,?_⟩;refine⟨.inl ⟨rfl,_,SqL.of hl2.2⟩,_,rfl,pk,_,_,rfl,rfl,hl2.2,by rw[bo];omega,?_⟩
  obtain⟨s3,X3⟩:=X2.Fn hv2 hl2 hnd ht2;exact q c1 _ ((st1.trans s2.g9).trans s3.g9) X3.at
theorem yd (T:Txt w.params K mg A){i:Nat}:aK P w K mg base CX0 4 A.bq A.cS ["self","edit"] (Qj A i):=by
 have P6:aK P w K mg base CX0 1 A.Nj A.Dy ["self","edit"] (jH A 1):=my T;have Km:aK P w K mg base (CXX P w) 3 A.laid A.vT ["things","edit"] (Kh A K):=Mi T;have eZ:aK P w K mg base CX0 1 A.words_of A.eR ["clause"] R.eL:=R.kG T;have sP:aK P w K mg base CX0 1 A.pf A.iU ["words"] (R.uS K):=R.wB T;refine T.cw.ok cP (λvs H Q E h=>?_) (λcdv A' outer s H vs Q E hr h=>?_)
 ·obtain⟨o,t,c,st,n,r,e,f,rfl,_⟩:=h;rfl
 ·obtain⟨o,t,c,st,n,r,e,f,rfl,hc,hp,hn,hm,hk1,heo,hwl,hml,ht,hfo,hf,hsz,q⟩:=h;obtain⟨dx,aM,aP,aA,aD,aF,aE,aR,ms,ds,ws,fs,es,X⟩:=hc.ex;have hu1:=hr.u1;have Fs:Room 3 _:=hr;have eY:Room 2 _:=hr.mono (by decide)
  have d0:Room 1 _:=hr.mono (by decide)
  have qK:Room 1 _:=hr.mono (by decide)
  have lim:ka=16777216:=by decide
  refine⟨_,(ai (a8 (i:=2) cP.nd rfl (adm rfl) (aJ bz (bj (pv 0) rfl) (oF jq af) (λ_ _=>rfl)))
 (ai (a8 (i:=3) cP.nd rfl (adm rfl) (bj (bc hu1 (bj (pv 0) rfl) (pv 2) (λ_ _=>rfl)) rfl))
 (ai (a8 (i:=4) cP.nd rfl (adm rfl) (aV Km Fs rfl T.Kb T.EZ.kp T.Ka .nil EB (aa (aV eZ d0 rfl T.jE T.iu.kp T.jD .nil aY (aa (aJ aL (pv 3) af (λ_ _=>rfl)) ah)) (aa (pv 1) ah))))
 (aj (hZ hu1 (bj (pv 0) rfl) (pv 2) (gC T.wz P6 eY rfl T.wu T.Sd .nil aY (aa (bt (aa (aJ aL (pv 3) af (λ_ _=>rfl)) (aa (aJ aL (pv 3) af (λ_ _=>rfl)) (aa (aV sP qK rfl T.sv T.nv.kp T.sj .nil aY (aa (pv 4) ah)) ah)))) ah)) rfl))))),?_⟩
  refine hide λGg hGg=>?_
  have h0:atI (st.au.map nV) (-1)=some (nV n):=by rw[hp,kr];exact iQ _ _
  obtain⟨m,hv,hmo⟩:=X.Sw hn;rw[hm]at hmo;obtain⟨_,dm,v,Wv,te,rfl,hte⟩:=hmo;refine hGg ?_;refine⟨_,rfl,o,A.ax,dx,_,.ref aP,rfl,X.ob,T.aq,T.jq0,eN,_,rfl,aP,_,_,_,rfl,rfl,SqL.of X.au.2,h0,?_⟩;refine⟨_,rfl,o,A.ax,dx,_,.ref aM,rfl,X.ob,T.aq,T.jq2,hG,_,rfl,aM,_,rfl,.inl ⟨_,km (n:Int),.inl X.made.2,rfl,hv.symm⟩,?_⟩;refine⟨m,A.C 1,dm,_,.ref te,rfl,Wv,T.cl 1 (by decide),T.na1,rfl,?_⟩
  have h2:=uP (e:=e) hk1;refine ixv rfl hte.sq h2 ⟨e.th,rfl,?_,λp1 hp1=>?_⟩
  ·have:=heo.th.len;omega
  have s1:=aG (o:=.lst ((R.bf e.th).map V.str)) hp1;refine⟨_,rfl,p1,t,R.bf e.th,f,rfl,SqL.of ae,hwl,bw s1 ht.sq,hfo,λ_ p2 hp2=>?_,λz=>by rw[hf]at z;cases z⟩
  have s2:=s1.new (o:=.lst ((bE (R.bf e.th) f).map V.str)) hp2;refine ixv rfl (bw s2 hte.sq) (nS e) (ixv rfl (bw s2 hte.sq) (uO e) ⟨_,rfl,p2,_,rfl,SqL.of ae,hsz,(sl 3),λtn htn=>?_⟩)
  have s3:=s2.new (o:=.tup [V.str (kn e.k),.int e.at_,.str (sr R.bl1 (bE (R.bf e.th) f))]) htn;refineλy dy hy hdy ndy=>?_
  refine⟨y,dy,.ref tn,rfl,ae,rfl,?_⟩;have hno:∀ {a:Addr},(upd (upd (upd H p1 (.lst ((R.bf e.th).map V.str))) p2 (.lst ((bE (R.bf e.th) f).map V.str))) tn (.tup [V.str (kn e.k),.int e.at_,.str (sr R.bl1 (bE (R.bf e.th) f))])) a=none->H a=none:=by
   intro a ha;cases z:H a with
   |none=>rfl
   |some v=>rw[s3 _ _ z]at ha;cases ha
  have nyt:y≠tn:=λz=>by rw[z,ae]at hy;cases hy
  have ndt:dy≠tn:=λz=>by rw[z,ae]at hdy;cases hdy
  have ahD:H tn=none:=by
   cases z:H tn with
   |none=>rfl
   |some v=>rw[s2 _ _ z]at htn;cases htn
  have sm:=((s3.own (o:=.own y) (hno hdy)).own (o:=.ins (A.C 1) dy []) (hno hy)).own (o:=.ins (A.C 1) dy (pK 1 (.ref tn))) (hno hy);have X1:=X.cl sm;have er:eK ⟨e.k,e.at_,sr R.bl1 (bE (R.bf e.th) f)⟩=[V.str (kn e.k),.int e.at_,.str (sr R.bl1 (bE (R.bf e.th) f))]:=by
   obtain⟨k,a,th⟩:=e;have h3:=heo.k3;dsimp only at h3 hk1 ⊢;rcases h3 with rfl | rfl | rfl
   ·rfl
   ·exact absurd rfl hk1
   ·rfl
  have hmn:=(⟨bO (hno hy),dy,.ref tn,ae,tn,rfl,bO ahD,.inl (by rw[av (ajZ nyt),av (ajZ nyt),av (ajZ ndt),ae,er])⟩:mB A (cx c H) (upd (upd (upd (upd (upd (upd H p1 (.lst ((R.bf e.th).map V.str))) p2 (.lst ((bE (R.bf e.th) f).map V.str))) tn (.tup [V.str (kn e.k),.int e.at_,.str (sr R.bl1 (bE (R.bf e.th) f))])) dy (.own y)) y (.ins (A.C 1) dy [])) y (.ins (A.C 1) dy (pK 1 (.ref tn)))) (.chg ⟨e.k,e.at_,sr R.bl1 (bE (R.bf e.th) f)⟩) y)
  have st1:Step (dv i) c (cx c H) H _:=Step.cl aU sm;generalize upd (upd (upd (upd (upd (upd H p1 (.lst ((R.bf e.th).map V.str))) p2 (.lst ((bE (R.bf e.th) f).map V.str))) tn (.tup [V.str (kn e.k),.int e.at_,.str (sr R.bl1 (bE (R.bf e.th) f))])) dy (.own y)) y (.ins (A.C 1) dy [])) y (.ins (A.C 1) dy (pK 1 (.ref tn)))=H1 at X1 hmn st1 ⊢;generalize cx c H=c1 at X1 hmn st1;refine eQ rfl X1.ob T.aq T.jq2 hG ⟨_,rfl,aM,_,rfl,oI.k (k:=km (n:Int)) X1.made.2 ?_,?_⟩
  ·unfold a7;rw[bo,akJ,aku];omega
  obtain⟨s4,X2⟩:=X1.MD hn hmn;exact q c1 _ (st1.trans s4.g9) X2.at
end
end My
set_option maxHeartbeats 1000000
namespace My
open PySem L2
seal PySem.wpAny
def rm (below:List Mn):Mn->Prop
 | .mat _=>below=[]
 | .chg e=>∃tx,below=[.mat tx]/\gv tx.length e=true
 | .mnd f=>∃tx e,below=[.mat tx,.chg e]/\e.k≠1/\gv (R.bf e.th).length f=true
 | .off _=>(∃tx r,below=.mat tx::r)/\∀b∈below,b.k < 3
 | .cls=>(∃tx r,below=.mat tx::r)/\∀b∈below,b.k < 4
 | .lay=>(∃tx r,below=.mat tx::r)/\∀b∈below,b.k < 5
 | .rst=>∀b∈below,b.k < 6
 | .pnt _=>∀b∈below,b.k < 7
inductive PMs:List Mn->Prop
 |nil:PMs []
 |snoc {ms:List Mn} {m:Mn}:PMs ms->rm ms m->PMs (ms++[m])
theorem PMs.pop {ms:List Mn}{m:Mn}(h:PMs (ms++[m])):PMs ms/\rm ms m:=by
 generalize e:ms++[m]=l at h;cases h with
 |nil=>simp at e
 |snoc h1 h2 =>
  obtain⟨e1,e2⟩:=List.append_inj' e rfl;cases e2;subst e1;exact⟨h1,h2⟩
theorem rm.lt {below:List Mn}:∀ {m:Mn},rm below m->∀b∈below,b.k < m.k
 | .mat _,h,b,hb=>by rw[h]at hb;cases hb
 | .chg _,⟨tx,h,_⟩,b,hb=>by
  rw[h,aj3]at hb;rw[hb];show 0 < 1;decide
 | .mnd _,⟨tx,e,h,_,_⟩,b,hb=>by
  rw[h]at hb;rcases List.mem_cons.mp hb with rfl | hb
  ·show 0 < 2;decide
  ·rw[aj3]at hb;rw[hb];show 1 < 2;decide
 | .off _,h,b,hb=>h.2 b hb
 | .cls,h,b,hb=>h.2 b hb
 | .lay,h,b,hb=>h.2 b hb
 | .rst,h,b,hb=>h b hb
 | .pnt _,h,b,hb=>h b hb
theorem PMs.le_top {ms:List Mn}(h:PMs ms):∀b∈ms,(b.k:Int)<=rG ms:=by
 cases h with
 |nil=>intro b hb;cases hb
 |snoc h1 h2 =>
  intro b hb;rw[pN];rcases List.mem_append.mp hb with hb | hb
  ·have:=h2.lt b hb;omega
  ·rw[aj3]at hb;rw[hb];exact Int.le_refl _
theorem PMs.Kn {ms:List Mn}(h:PMs ms):uq ms=true->∃tx r,ms=.mat tx::r:=by
 induction h with
 |nil=>intro h;cases h
 | @snoc ms m h1 h2 ih =>
  intro h;unfold uq at h ih;rw[List.any_append,Bool.or_eq_true]at h;rcases h with h | h
  ·obtain⟨tx,r,e⟩:=ih h;exact⟨tx,r++[m],by rw[e];rfl⟩
  ·cases m with
   |mat tx =>
    have:ms=[]:=h2;rw[this];exact⟨tx,[],rfl⟩
   |_=>simp[Mn.k]at h
theorem PMs.len {ms:List Mn}(h:PMs ms):(ms.length:Int)<=rG ms+1:=by
 induction h with
 |nil=>decide
 | @snoc ms m h1 h2 ih =>
  rw[pN,kx,ajR];have:rG ms < (m.k:Int):=by
   unfold rG;split
   ·omega
   ·rename_i b hb;have:=h2.lt b (List.mem_of_getLast? hb);omega
  omega
theorem PMs.GP {ms:List Mn}(h:PMs ms):ms.length<=8:=by
 have:=h.len;have:=Qb ms;omega
theorem sX (cl:Bool)(ms:List Mn):rG ms<=nY cl ms:=by
 unfold nY;split
 ·split <;> omega
 ·exact Int.le_refl _
theorem wI {cl:Bool}{ms:List Mn}{k:Nat}(h:uW cl ms k=none):rG ms < (k:Int)/\sT ms k=true:=by
 have hb:=sX cl ms;unfold uW at h;split at h
 ·cases h
 ·split at h
  ·exact⟨by omega,by assumption⟩
  ·split at h <;> cases h
theorem B3 {ms:List Mn}(h:rG ms < 0):ms=[]:=by
 rcases ajS ms with e | ⟨r,b,e⟩
 ·exact e
 ·rw[e,ajT,pN]at h;omega
def aaK (ms:List Mn):Mn->Prop
 | .chg e=>∀tx r,ms=.mat tx::r->gv tx.length e=true
 | .mnd f=>∀r e,ms=r++[.chg e]->gv (R.bf e.th).length f=true
 |_=>True
theorem jK {α:Type}{xs:List α}{x:α}(h:xs.getLast?=some x):∃r,xs=r++[x]:=by
 rcases ajS xs with e | ⟨r,b,e⟩
 ·rw[e]at h;cases h
 ·rw[ajT]at e;rw[e,akg]at h;cases h;exact⟨r,e⟩
theorem PMs.push {cl:Bool}{ms:List Mn}(h:PMs ms){m:Mn}(ho:uW cl ms m.k=none)(hf:aaK ms m):PMs (ms++[m]):=by
 obtain⟨h1,h2⟩:=wI ho;have lt:∀b∈ms,b.k < m.k:=λb hb=>by have:=h.le_top b hb;omega
 refine .snoc h ?_;cases m with
 |mat tx=>exact B3 h1
 |chg e =>
  obtain⟨tx,r,e1⟩:=h.Kn h2;refine⟨tx,?_,hf tx r e1⟩;rcases ajS r with e2 | ⟨r',b,e2⟩
  ·rw[e1,e2]
  ·rw[ajT]at e2;have hb:b.k < 1:=lt b (by rw[e1,e2];simp)
   rw[e1,e2,<-List.cons_append]at h;have ht:=h.pop.2;cases b with
   |mat ty=>exact absurd ht (aj1 _ _)
   |_=>simp[Mn.k]at hb
 |mnd f =>
  have h3:fg ms=true:=h2;unfold fg at h3;split at h3
  ·rename_i e he;obtain⟨r,e1⟩:=jK he;rw[e1]at h;obtain⟨tx,e2,_⟩:=h.pop.2;refine⟨tx,e,by rw[e1,e2];rfl,?_,hf r e e1⟩
   intro z;rw[z]at h3;cases h3
  ·cases h3
 |off n=>exact⟨h.Kn h2,lt⟩
 |cls=>exact⟨h.Kn h2,lt⟩
 |lay=>exact⟨h.Kn h2,lt⟩
 |rst=>exact lt
 |pnt z=>exact lt
theorem B4 {st:Ch}{n:Nat}{m:Mn}(hn:cX st n){st':Ch}(h:st'.made=st.made.set (n - 1) m):st'.mo n=m:=by
 unfold Ch.mo;have:=hn.1;have:=hn.2;rw[h,ajN,List.getElem?_set_self (by omega)]
 rfl
theorem pP {st:Ch}{n k:Nat}{m:Mn}(hn:cX st n)(h1:1<=k)(ne:k≠n){st':Ch}(h:st'.made=st.made.set (n - 1) m):st'.mo k=st.mo k:=by
 unfold Ch.mo;have:=hn.1;rw[h,ajN,List.getElem?_set_ne (by omega),<-ajN]
theorem Ft {st:Ch}{m:Mn}{st':Ch}(h:st'.made=st.made++[m]){k:Nat}(hk:cX st k):st'.mo k=st.mo k:=by
 unfold Ch.mo;have:=hk.1;have:=hk.2;rw[h,ajN,akP (by omega),<-ajN]
theorem Ko {st:Ch}{m:Mn}{st':Ch}(h:st'.made=st.made++[m]):st'.mo (st.made.length+1)=m:=by
 unfold Ch.mo;rw[h,ajN,Nat.add_sub_cancel,akA (kq _),Nat.sub_self];rfl
def EdB (N:Nat)(e:Ed):Prop:=(e.k=0\/e.k=1\/e.k=2)/\-1000<=e.at_/\e.at_<=1000/\∃ws,e.th=sr R.bl1 ws/\(∀w∈ws,R.nX w)/\ws.length<=N
def MOk (N:Nat):Mn->Prop
 | .mat tx=>tx.length<=12+N/\∀x∈tx,akt x=true
 | .chg e=>EdB (12+N) e
 | .mnd f=>EdB 1 f/\∃w,f.th=w/\R.nX w
 | .off u=>-10000000000 < u/\u < 10000000000
 | .pnt z=>akt z=true
 |_=>True
theorem EdB.mono {N M:Nat}(h:N<=M){e:Ed}(z:EdB N e):EdB M e:=by
 obtain⟨a,b,c,ws,d,f,g⟩:=z;exact⟨a,b,c,ws,d,f,tm g h⟩
theorem MOk.mono {N M:Nat}(h:N<=M):∀ {m:Mn},MOk N m->MOk M m
 | .mat tx,z=>⟨tm z.1 (by omega),z.2⟩
 | .chg e,z=>EdB.mono (by omega) z
 | .mnd f,z=>z
 | .off u,z=>z
 | .cls,_=>trivial
 | .lay,_=>trivial
 | .rst,_=>trivial
 | .pnt _,z=>z
def Ch.all (st:Ch):List Nat:=st.au++(st.aB.flatMap (·.2.2)++st.decided.map (·.1))
def Ch.wJ (st:Ch):List Nat:=(aj5 1 st.made.length).filter λn=>decide ((st.mo n).k=0)
structure Inv (N:Nat)(st:Ch):Prop where
 lm:3 * st.made.length<=N
 lr:st.rows.length<=N
 ld:st.decided.length<=N
 la:st.aB.length<=N
 lk:∀x∈st.kept,x.2.length<=N
 sit:1<=st.aQ/\st.aQ<=N+1
 mok:∀m∈st.made,MOk N m
 num:∀n∈st.all,cX st n
 nd:st.all.Nodup
 pil:PMs (st.au.map st.mo)
 asd:∀x∈st.aB,PMs (x.2.2.map st.mo)/\(∃r,x.2.2=x.1::r)/\-10000000000 < x.2.1/\x.2.1 < 10000000000
 kk:st.kept.map (·.1)=st.wJ
 ff:st.firsts.map (·.1)=st.wJ
 dw:∀x∈st.decided,akt x.2=true
theorem Inv.mono {N M:Nat}(h:N<=M){st:Ch}(I:Inv N st):Inv M st where
 lm:=tm I.lm h
 lr:=tm I.lr h
 ld:=tm I.ld h
 la:=tm I.la h
 lk:=λx hx=>tm (I.lk x hx) h
 sit:=⟨I.sit.1,by have:=I.sit.2;omega⟩
 mok:=λm hm=>(I.mok m hm).mono h
 num:=I.num
 nd:=I.nd
 pil:=I.pil
 asd:=I.asd
 kk:=I.kk
 ff:=I.ff
 dw:=I.dw
theorem Inv.wK {N:Nat}{st:Ch}(I:Inv N st){n:Nat}(hn:cX st n):MOk N (st.mo n):=by
 have:=hn.1;have:=hn.2;have hlt:n - 1 < st.made.length:=by omega
 have e:st.mo n=st.made[n - 1]:=by unfold Ch.mo;rw[ajN,wa hlt];rfl
 rw[e];exact I.mok _ (List.getElem_mem hlt)
theorem Inv.bK {N:Nat}{st:Ch}(I:Inv N st):∀n∈st.au,cX st n:=λn hn=>I.num n (akb _ hn)
theorem Inv.pQ {N:Nat}{st:Ch}(I:Inv N st){x:Nat×Int×List Nat}(hx:x∈st.aB):∀n∈x.2.2,cX st n:=λn hn =>
 I.num n (ki _ (akb _ (List.mem_flatMap.mpr ⟨x,hx,hn⟩)))
theorem Inv.ME {N:Nat}{st:Ch}(I:Inv N st){n:Nat}(hn:n∈st.au){x:Nat×Int×List Nat}(hx:x∈st.aB):n∉x.2.2:=λz =>
 (List.nodup_append.mp I.nd).2.2 n hn n (akb _ (List.mem_flatMap.mpr ⟨x,hx,z⟩)) rfl
theorem Inv.Fu {N:Nat}{st:Ch}(I:Inv N st){n:Nat}(hn:n∈st.au):n∉st.aB.map (·.1):=λz=>by
 obtain⟨x,hx,e⟩:=List.mem_map.mp z;obtain⟨r,er⟩:=(I.asd x hx).2.1;exact I.ME hn hx (by rw[er,e];exact fu)
theorem Sx {st st':Ch}(hl:st'.made.length=st.made.length)(hk:∀n,cX st n->(st'.mo n).k=(st.mo n).k):st'.wJ=st.wJ:=by
 unfold Ch.wJ;rw[hl];refine List.filter_congr λn hn=>?_
 rw[akH]at hn;rw[hk n ⟨hn.1,by omega⟩]
theorem Kp (st:Ch):st.wJ.Nodup:=List.filter_sublist.nodup List.nodup_range'
theorem Inv.keptAt {N:Nat}{st:Ch}(I:Inv N st){n:Nat}(hn:cX st n)(hk:(st.mo n).k=0):∃x,at1 n st.kept=some x/\x.2.length<=N:=by
 cases e:at1 n st.kept with
 |some x=>exact⟨x,rfl,I.lk x (jd e).2⟩
 |none =>
  have h:=wH e;rw[I.kk]at h;have hr:n∈aj5 1 st.made.length:=by
   rw[akH];have:=hn.1;have:=hn.2;omega
  exact absurd (show n∈st.wJ from List.mem_filter.mpr ⟨hr,by exact decide_eq_true hk⟩) h
def Ch.popped (st:Ch)(pre:List Nat)(n:Nat)(wd:Str):Ch:={ st with au:=pre,decided:=st.decided++[(n,wd)] }
theorem Inv.pop {N:Nat}{st:Ch}(I:Inv N st){pre:List Nat}{n:Nat}(e:st.au=pre++[n])(wd:Str)(hw:akt wd=true):Inv (N+1) (st.popped pre n wd)/\rm (pre.map st.mo) (st.mo n):=by
 have hp:=I.pil;rw[e,kr]at hp;obtain⟨p1,p2⟩:=PMs.pop hp;have perm:ak3 (st.popped pre n wd).all st.all:=by
  unfold Ch.all Ch.popped;rw[e,kr];have:ak3 (st.aB.flatMap (·.2.2)++(st.decided.map (·.1)++[(n,wd)].map (·.1))) ([n]++(st.aB.flatMap (·.2.2)++st.decided.map (·.1))):=by
   rw[<-akI];exact List.perm_append_comm
  exact(List.Perm.append_left pre this).trans (by rw[akI])
 refine⟨⟨ajW I.lm,ajW I.lr,?_,ajW I.la,λx hx=>ajW (I.lk x hx),⟨I.sit.1,by have:=I.sit.2;show st.aQ<=_;omega⟩,λm hm=>(I.mok m hm).mono (by omega),λk hk=>I.num k (perm.mem_iff.mp hk),perm.nodup_iff.mpr I.nd,p1,I.asd,I.kk,I.ff,?_⟩,p2⟩
 ·show (st.decided++[(n,wd)]).length<=_;rw[kx,ajR];have:=I.ld;omega
 ·intro x hx;rcases List.mem_append.mp hx with h | h
  ·exact I.dw x h
  ·rw[aj3]at h;rw[h];exact hw
theorem Inv.uv {N:Nat}{st:Ch}(I:Inv N st)(z:Str):Inv (N+1) (st.uv z):=by
 refine⟨ajW I.lm,?_,ajW I.ld,ajW I.la,λx hx=>ajW (I.lk x hx),⟨I.sit.1,by have:=I.sit.2;show st.aQ<=_;omega⟩,λm hm=>(I.mok m hm).mono (by omega),I.num,I.nd,I.pil,I.asd,I.kk,I.ff,I.dw⟩
 show (st.rows++[z]).length<=_;rw[kx,ajR];have:=I.lr;omega
theorem Inv.Ua {N:Nat}{st:Ch}(I:Inv N st){n:Nat}{m:Mn}(hn:n∈st.au)(hk:m.k=(st.mo n).k)(hm:MOk (N+1) m){kp:List (Nat×List Ed)}(ek:kp.map (·.1)=st.kept.map (·.1))(lk:∀x∈kp,x.2.length<=N+1)
  (hp:PMs (st.au.map (Ch.mo { st with made:=st.made.set (n - 1) m,kept:=kp }))):Inv (N+1) { st with made:=st.made.set (n - 1) m,kept:=kp }:=by
 have hno:=I.bK n hn;have kinds:∀k,cX st k->(Ch.mo { st with made:=st.made.set (n - 1) m,kept:=kp } k).k=(st.mo k).k:=λk h=>by
  by_cases z:k=n
  ·subst z;rw[B4 hno rfl,hk]
  ·rw[pP hno h.1 z rfl]
 have em:Ch.wJ { st with made:=st.made.set (n - 1) m,kept:=kp }=st.wJ:=Sx (by show (st.made.set (n - 1) m).length=_;rw[akC]) kinds
 refine⟨?_,ajW I.lr,ajW I.ld,ajW I.la,lk,⟨I.sit.1,by have:=I.sit.2;show st.aQ<=_;omega⟩,?_,?_,I.nd,hp,?_,by rw[em,<-I.kk];exact ek,by rw[em];exact I.ff,I.dw⟩
 ·show 3 * (st.made.set (n - 1) m).length<=_;rw[akC];have:=I.lm;omega
 ·intro x hx;rcases List.mem_or_eq_of_mem_set hx with h | h
  ·exact(I.mok x h).mono (by omega)
  ·rw[h];exact hm
 ·intro k hk;have:=I.num k hk;exact⟨this.1,by show k<=(st.made.set (n - 1) m).length;rw[akC];exact this.2⟩
 ·intro x hx;obtain⟨h1,h2⟩:=I.asd x hx;refine⟨?_,h2⟩;have:x.2.2.map (Ch.mo { st with made:=st.made.set (n - 1) m,kept:=kp })=x.2.2.map st.mo:=akp λk hk =>
   pP hno (I.pQ hx k hk).1 (λz=>I.ME hn hx (by rw[<-z];exact hk)) rfl
  rw[this];exact h1
theorem Inv.lE {N:Nat}{st:Ch}(I:Inv N st){n:Nat}{r:List Nat}(e:st.au=n::r){u:Int}(h0:-10000000000 < u)(h1:u < 10000000000):Inv (N+1) (st.lE n u):=by
 have perm:ak3 (st.lE n u).all st.all:=by
  unfold Ch.all Ch.lE;rw[List.flatMap_append,List.nil_append];show ak3 ((st.aB.flatMap (·.2.2)++[(n,u,st.au)].flatMap (·.2.2))++st.decided.map (·.1)) _
  rw[show [(n,u,st.au)].flatMap (·.2.2)=st.au by simp,<-akI]
  exact List.Perm.append_right _ List.perm_append_comm
 refine⟨ajW I.lm,ajW I.lr,ajW I.ld,?_,λx hx=>ajW (I.lk x hx),⟨I.sit.1,by have:=I.sit.2;show st.aQ<=_;omega⟩,λm hm=>(I.mok m hm).mono (by omega),λk hk=>I.num k (perm.mem_iff.mp hk),perm.nodup_iff.mpr I.nd,.nil,?_,I.kk,I.ff,I.dw⟩
 ·show (st.aB++[(n,u,st.au)]).length<=_;rw[kx,ajR];have:=I.la;omega
 ·intro x hx;rcases List.mem_append.mp hx with hx | hx
  ·exact I.asd x hx
  ·rw[aj3]at hx;subst hx;exact⟨I.pil,⟨r,e⟩,h0,h1⟩
def Ch.carry (st:Ch):Mn->Ch
 | .chg e=>match st.au with
  |n::_=>(match st.mo n with
   | .mat tx=>st.Nq n tx e
   |_=>st)
  |[]=>st
 | .mnd f=>match st.au.getLast? with
  |some n=>(match st.mo n with
   | .chg e=>st.Fp n e (bE (R.bf e.th) f)
   |_=>st)
  |none=>st
 | .off u=>match st.au with
  |n::_=>st.lE n u
  |[]=>st
 | .cls=>{ st with closed:=true }
 | .lay=>match st.au with
  |n::_=>st.lE n st.aQ
  |[]=>st
 | .rst=>{ st with aQ:=st.aQ+1 }
 |_=>st
end My
set_option maxHeartbeats 1000000
namespace My
open PySem L2
seal PySem.wpAny
theorem um (xs:List Str)(e:Ed):(bE xs e).length<=xs.length+1:=by
 unfold bE;split
 ·rw[kx,ajH,akd,akL];omega
 ·exact ajW (List.length_eraseIdx_le _ _)
 ·rw[akC];omega
theorem DZ {xs:List Str}{e:Ed}{x:Str}(h:x∈bE xs e):x∈xs\/x=e.th:=by
 unfold bE at h;split at h
 ·rcases List.mem_append.mp h with h | h
  ·exact .inl (List.mem_of_mem_take h)
  ·rcases List.mem_cons.mp h with h | h
   ·exact .inr h
   ·exact .inl (List.mem_of_mem_drop h)
 ·exact .inl (List.mem_of_mem_eraseIdx h)
 ·exact List.mem_or_eq_of_mem_set h
theorem Qk {α β:Type}{f:α->β}{xs:List α}{y:β}(h:xs.map f=[y]):∃a,xs=[a]/\f a=y:=by
 cases xs with
 |nil=>cases h
 |cons a r =>
  cases r with
  |nil=>exact⟨a,rfl,by simpa using h⟩
  |cons b r=>simp at h
theorem Sy {α β:Type}{f:α->β}{xs:List α}{y z:β}(h:xs.map f=[y,z]):∃a b,xs=[a,b]/\f a=y/\f b=z:=by
 cases xs with
 |nil=>cases h
 |cons a r =>
  rw[kj]at h;obtain⟨b,rfl,e⟩:=Qk (List.cons.inj h).2;exact⟨a,b,rfl,(List.cons.inj h).1,e⟩
theorem Fv {α β:Type}{f:α->β}{xs:List α}{y:β}{r:List β}(h:xs.map f=y::r):∃a s,xs=a::s/\f a=y:=by
 cases xs with
 |nil=>cases h
 |cons a s=>exact⟨a,s,rfl,(List.cons.inj h).1⟩
theorem EdB.ok {N:Nat}{e:Ed}(h:EdB N e)(hN:N<=4000):rE e:=by
 obtain⟨a,b,c,ws,d,f,g⟩:=h;refine⟨a,b,c,?_,?_⟩
 ·rw[d];exact pI (λx hx=>by
   rw[show (R.bl1:Str).cps.toList=[32] by decide +kernel,aj3]at hx
   omega) ws λw hw=>λx hx=>by have:=(f w hw).sgn x hx;unfold R.Sign at this;omega
 ·rw[d,R.nU];have h1:=tV 32 ws;have h2:=R.DQ f;omega
theorem EdB.str {N:Nat}{e:Ed}(h:EdB N e):akt e.th=true:=by
 obtain⟨a,b,c,ws,d,f,g⟩:=h;rw[d];exact(pI (λx hx=>by
  rw[show (R.bl1:Str).cps.toList=[32] by decide +kernel,aj3]at hx
  omega) ws λw hw=>λx hx=>by have:=(f w hw).sgn x hx;unfold R.Sign at this;omega).ok
theorem EdB.words {N:Nat}{e:Ed}(h:EdB N e):(∀w∈R.bf e.th,R.nX w)/\(R.bf e.th).length<=N:=by
 obtain⟨a,b,c,ws,d,f,g⟩:=h;rw[d,R.lC f];exact⟨f,g⟩
theorem uY {ws:List Str}{f:Ed}(h:∀w∈ws,R.nX w)(hf:R.nX f.th):∀w∈bE ws f,R.nX w:=λw hw=>by
 rcases DZ hw with h1 | h1
 ·exact h w h1
 ·rw[h1];exact hf
theorem Nr (n:Nat)(e:Ed)(xs:List (Nat×List Ed)):(rH n e xs).map (·.1)=xs.map (·.1):=by
 unfold rH;rw[List.map_map];refine akp λx _=>?_
 show (if x.1=n then (x.1,x.2++[e]) else x).1=x.1
 split <;> rfl
theorem Ql {n N:Nat}{e:Ed}{xs:List (Nat×List Ed)}(h:∀x∈xs,x.2.length<=N):∀x∈rH n e xs,x.2.length<=N+1:=by
 intro x hx;obtain⟨y,hy,rfl⟩:=List.mem_map.mp hx;have:=h y hy;split
 ·show (y.2++[e]).length<=_;rw[kx,ajR];omega
 ·omega
theorem Inv.carry {N:Nat}{st:Ch}(I:Inv N st)(hN:N<=900){m:Mn}(ht:rm (st.au.map st.mo) m)(hm:MOk N m):Inv (N+1) (st.carry m):=by
 have J:=I.mono (akq N);cases m with
 |mat tx=>exact J
 |pnt z=>exact J
 |chg e =>
  obtain⟨tx,h1,hf⟩:=ht;obtain⟨k,e1,e2⟩:=Qk h1;have hn:k∈st.au:=by rw[e1];exact fu
  have htx:=I.wK (I.bK k hn);rw[e2]at htx;have e3:st.carry (.chg e)=st.Nq k tx e:=by unfold Ch.carry;rw[e1];dsimp only;rw[e2]
  rw[e3];refine I.Ua hn (by rw[e2];rfl) ?_ (Nr k e st.kept) (Ql I.lk) ?_
  ·have:=um tx e;have h3:tx.length<=12+N:=htx.1;refine⟨by omega,λx hx=>?_⟩
   rcases DZ hx with h | h
   ·exact htx.2 x h
   ·rw[h];exact EdB.str hm
  ·rw[e1,kj,aki,B4 (I.bK k hn) rfl];exact PMs.snoc (ms:=[]) .nil rfl
 |mnd f =>
  obtain⟨tx,e,h1,hk,hf⟩:=ht;obtain⟨a,b,e1,e2,e3⟩:=Sy h1;have ha:a∈st.au:=by rw[e1];exact fu
  have hb:b∈st.au:=by rw[e1];exact ky _ fu
  have he:=I.wK (I.bK b hb);rw[e3]at he;have he':EdB (12+N) e:=he;obtain⟨w1,w2⟩:=he'.words;have e4:st.carry (.mnd f)=st.Fp b e (bE (R.bf e.th) f):=by unfold Ch.carry;rw[e1];show (match st.mo b with | .chg e=>_ | _=>st)=_;rw[e3];rfl
  rw[e4];obtain⟨_,w,hw,hw2⟩:=hm;refine I.Ua (kp:=st.kept) hb (by rw[e3];rfl) ?_ rfl (λx hx=>ajW (I.lk x hx)) ?_
  ·refine⟨he'.1,he'.2.1,he'.2.2.1,_,rfl,uY w1 (by rw[hw];exact hw2),?_⟩
   have:=um (R.bf e.th) f;omega
  ·have ne:a≠b:=λz=>by rw[z,e3]at e2;cases e2
   have hp:=I.pil;rw[h1]at hp;obtain⟨tx',e5,e6⟩:=(PMs.pop (ms:=[.mat tx]) hp).2;cases e5;rw[e1,kj,kj,aki,B4 (I.bK b hb) rfl,pP (I.bK b hb) (I.bK a ha).1 ne rfl,e2];exact PMs.snoc (ms:=[.mat tx]) (PMs.snoc (ms:=[]) .nil rfl) ⟨tx,rfl,e6⟩
 |off u =>
  obtain⟨⟨tx,r,h1⟩,_⟩:=ht;obtain⟨k,s,e1,_⟩:=Fv h1;have e3:st.carry (.off u)=st.lE k u:=by unfold Ch.carry;rw[e1]
  rw[e3];exact I.lE e1 hm.1 hm.2
 |lay =>
  obtain⟨⟨tx,r,h1⟩,_⟩:=ht;obtain⟨k,s,e1,_⟩:=Fv h1;have e3:st.carry .lay=st.lE k st.aQ:=by unfold Ch.carry;rw[e1]
  rw[e3];have:=I.sit;exact I.lE e1 (by omega) (by omega)
 |cls=>exact⟨J.lm,J.lr,J.ld,J.la,J.lk,J.sit,J.mok,J.num,J.nd,J.pil,J.asd,J.kk,J.ff,J.dw⟩
 |rst=>exact⟨J.lm,J.lr,J.ld,J.la,J.lk,⟨by have:=I.sit.1;show 1<=st.aQ+1;omega,by have:=I.sit.2;show st.aQ+1<=_;omega⟩,J.mok,J.num,J.nd,J.pil,J.asd,J.kk,J.ff,J.dw⟩
inductive Rs where
 |num (n:Nat) | txt (z:Str) | exc (x:Xc)
abbrev yP:Str:=ar "kept"
abbrev Ub:Str:=ar "lost"
abbrev mH:Str:=ar "dropped"
def sY (b:Bool):Str:=if b=true then yP else Ub
theorem Fw (b:Bool):akt (sY b)=true:=by
 unfold sY;split <;> decide +kernel
def nF (st:Ch)(a b:Int):Rs×Ch:=match st.au.getLast? with
 |none=>(.exc .nothing,st)
 |some n=>if a+b > st.cz then (.exc .tooMany,st) else
  (.txt (sY (nC (nd (st.mo n).k) a b)),(if nC (nd (st.mo n).k) a b=true then (st.popped st.au.dropLast n (sY (nC (nd (st.mo n).k) a b))).carry (st.mo n) else st.popped st.au.dropLast n (sY (nC (nd (st.mo n).k) a b))).uv (R.rF (.nums (ar "vote") [a,b])))
def pR (st:Ch):Rs×Ch:=match st.au.getLast? with
 |none=>(.exc .nothing,st)
 |some n=>(.txt mH,(st.popped st.au.dropLast n mH).uv (R.rF (.nums (ar "drop") [])))
def stepT (st:Ch)(n:Nat):Rs×Ch:=if st.au=[] then (match at1 n st.aB with
 |none=>(.exc .uk,st)
 |some x=>if st.aQ < x.2.1 then (.exc (.Fh x.2.1),st) else (.num n,{ st.rh n x.2.2 with rows:=st.rows++[R.rF (.nums (ar "take") [(n:Int)])] })) else (.exc (.uV (nY st.closed (st.au.map st.mo))),st)
def kW (st:Ch):Mn->Option Xc
 | .chg e=>match st.au.map st.mo with
  | .mat tx::_=>if gv tx.length e=true then none else some .noFit
  |_=>none
 | .mnd f=>match (st.au.map st.mo).getLast? with
  |some (.chg e)=>if gv (R.bf e.th).length f=true then none else some .noFit
  |_=>none
 | .off u=>if u<=st.aQ then some (.pL st.aQ) else none
 |_=>none
def kL (st:Ch)(m:Mn):Option Xc:=match uW st.closed (st.au.map st.mo) m.k with
 |some x=>some x
 |none=>kW st m
def Ch.moved (st:Ch)(m:Mn)(row:Str):Ch:={ st with made:=st.made++[m],au:=st.au++[st.made.length+1],firsts:=(match m with | .mat tx=>st.firsts++[(st.made.length+1,tx)] | _=>st.firsts),kept:=(match m with | .mat _=>st.kept++[(st.made.length+1,([]:List Ed))] | _=>st.kept),rows:=st.rows++[row] }
def pS (st:Ch)(m:Mn)(row:Str):Rs×Ch:=match kL st m with
 |some x=>(.exc x,st)
 |none=>(.num (st.made.length+1),st.moved m row)
theorem Inv.moved {N:Nat}{st:Ch}(I:Inv N st){m:Mn}(hm:MOk N m)(hc:kL st m=none)(row:Str):Inv (N+3) (st.moved m row):=by
 have J:=I.mono (show N<=N+3 by omega)
 have ho:uW st.closed (st.au.map st.mo) m.k=none/\kW st m=none:=by
  unfold kL at hc;split at hc
  ·cases hc
  ·exact⟨by assumption,hc⟩
 have hf:aaK (st.au.map st.mo) m:=by
  have h:=ho.2;cases m with
  |chg e =>
   intro tx r e1;unfold kW at h;dsimp only at h;rw[e1]at h;dsimp only at h;split at h
   ·assumption
   ·cases h
  |mnd f =>
   intro r e e1;unfold kW at h;dsimp only at h;rw[e1,akg]at h;dsimp only at h;split at h
   ·assumption
   ·cases h
  |_=>trivial
 have em:(st.moved m row).made=st.made++[m]:=rfl;have old:∀ks:List Nat,(∀k∈ks,cX st k)->ks.map (st.moved m row).mo=ks.map st.mo:=λks h=>akp λk hk=>Ft em (h k hk)
 have nok:∀k,cX st k->cX (st.moved m row) k:=λk h=>⟨h.1,by show k<=(st.made++[m]).length;rw[kx];have:=h.2;omega⟩
 have perm:ak3 (st.moved m row).all ((st.made.length+1)::st.all):=by
  unfold Ch.all Ch.moved;rw[akI];exact List.perm_middle
 have mt:(st.moved m row).wJ=st.wJ++(if m.k=0 then [st.made.length+1] else []):=by
  unfold Ch.wJ;rw[em,kx,ajR,List.range'_concat,List.filter_append,Nat.one_mul,Nat.add_comm 1]
  congr 1
  ·refine List.filter_congr λk hk=>?_
   rw[akH]at hk;rw[Ft em ⟨hk.1,by omega⟩]
  ·rw[List.filter_cons,Ko em]
   by_cases z:m.k=0
   ·rw[if_pos (decide_eq_true z),if_pos z];rfl
   ·rw[if_neg (by rw[decide_eq_false z];decide),if_neg z];rfl
 refine⟨?_,?_,J.ld,J.la,?_,J.sit,?_,?_,?_,?_,?_,?_,?_,J.dw⟩
 ·show 3 * (st.made++[m]).length<=_;rw[kx,ajR];have:=I.lm;omega
 ·show (st.rows++[row]).length<=_;rw[kx,ajR];have:=I.lr;omega
 ·intro x hx;have hx':x∈(match m with | .mat _=>st.kept++[(st.made.length+1,([]:List Ed))] | _=>st.kept):=hx
  cases m with
  |mat tx =>
   rcases List.mem_append.mp hx' with h | h
   ·exact J.lk x h
   ·rw[aj3]at h;rw[h];exact akl _
  |_=>exact J.lk x hx'
 ·intro x hx;rcases List.mem_append.mp (show x∈st.made++[m] from hx) with h | h
  ·exact J.mok x h
  ·rw[aj3]at h;rw[h];exact hm.mono (by omega)
 ·intro k hk;rcases List.mem_cons.mp (perm.mem_iff.mp hk) with h | h
  ·rw[h];exact⟨by omega,by show _<=(st.made++[m]).length;rw[kx,ajR];omega⟩
  ·exact nok k (I.num k h)
 ·rw[perm.nodup_iff,List.nodup_cons];exact⟨λz=>by have:=(I.num _ z).2;omega,I.nd⟩
 ·show PMs ((st.au++[st.made.length+1]).map (st.moved m row).mo);rw[kr,old st.au I.bK,kj,aki,Ko em];exact I.pil.push ho.1 hf
 ·intro x hx;obtain⟨h1,h2⟩:=I.asd x hx;exact⟨by rw[old _ (I.pQ hx)];exact h1,h2⟩
 ·rw[mt,<-I.kk];cases m with
  |mat tx=>show (st.kept++[(st.made.length+1,([]:List Ed))]).map (·.1)=_;rw[kr,if_pos (show (Mn.mat tx).k=0 from rfl)];rfl
  |_=>exact(akR _).symm
 ·rw[mt,<-I.ff];cases m with
  |mat tx=>show (st.firsts++[(st.made.length+1,tx)]).map (·.1)=_;rw[kr,if_pos (show (Mn.mat tx).k=0 from rfl)];rfl
  |_=>exact(akR _).symm
theorem D0 {n:Nat}{x:Nat×Int×List Nat}:∀ {as:List (Nat×Int×List Nat)},(as.flatMap (·.2.2)).Nodup->(∀y∈as,∃r,y.2.2=y.1::r)->at1 n as=some x->ak3 (x.2.2++(as.filter λy=>decide (y.1≠n)).flatMap (·.2.2)) (as.flatMap (·.2.2))
 |[],_,_,h=>nomatch h
 |y::as,nd,hd,h=>by
  rw[List.flatMap_cons]at nd ⊢;obtain⟨n1,n2,n3⟩:=List.nodup_append.mp nd;unfold at1 at h;rw[aka]at h
  by_cases e:y.1=n
  ·rw[decide_eq_true e]at h;cases h;have:as.filter (λz=>decide (z.1≠n))=as:=by
    rw[List.filter_eq_self];intro z hz;refine decide_eq_true λq=>?_
    obtain⟨r,hr⟩:=hd z (ky _ hz);obtain⟨r',hr'⟩:=hd x fu;exact n3 n (by rw[hr',e];exact fu) n (List.mem_flatMap.mpr ⟨z,hz,by rw[hr,q];exact fu⟩) rfl
   rw[List.filter_cons_of_neg (by simp[e]),this]
  ·rw[decide_eq_false e]at h;have ih:=D0 n2 (λz hz=>hd z (ky _ hz)) h
   rw[List.filter_cons_of_pos (by simp[e]),List.flatMap_cons,<-akI]
   exact(List.Perm.append_right _ List.perm_append_comm).trans (by rw[akI];exact List.Perm.append_left _ ih)
theorem Inv.rh {N:Nat}{st:Ch}(I:Inv N st){n:Nat}{x:Nat×Int×List Nat}(hp:st.au=[])(hx:at1 n st.aB=some x)(row:Str):Inv (N+1) { st.rh n x.2.2 with rows:=st.rows++[row] }:=by
 have J:=I.mono (akq N);have hm:=(jd hx).2;have nd:=I.nd;unfold Ch.all at nd;rw[hp,List.nil_append]at nd;have pm:=D0 (List.nodup_append.mp nd).1 (λy hy=>(I.asd y hy).2.1) hx
 have perm:ak3 (Ch.all { st.rh n x.2.2 with rows:=st.rows++[row] }) st.all:=by
  unfold Ch.all Ch.rh;rw[hp,List.nil_append,<-akI];exact List.Perm.append_right _ pm
 refine⟨J.lm,?_,J.ld,?_,J.lk,J.sit,J.mok,λk hk=>I.num k (perm.mem_iff.mp hk),perm.nodup_iff.mpr I.nd,(I.asd x hm).1,λy hy=>I.asd y (List.mem_filter.mp hy).1,I.kk,I.ff,I.dw⟩
 ·show (st.rows++[row]).length<=_;rw[kx,ajR];have:=I.lr;omega
 ·exact tm (List.length_filter_le _ _) J.la
theorem Inv.nF {N:Nat}{st:Ch}(I:Inv N st)(hN:N<=800)(a b:Int):Inv (N+3) (nF st a b).2:=by
 unfold My.nF;split
 ·exact I.mono (by omega)
 ·rename_i n h;obtain⟨pre,e⟩:=jK h;split
  ·exact I.mono (by omega)
  ·have ed:st.au.dropLast=pre:=by rw[e];exact akm
   obtain⟨I1,ht⟩:=I.pop e (sY (nC (My.nd (st.mo n).k) a b)) (Fw _);rw[ed];have hn:n∈st.au:=by rw[e];simp
   split
   ·exact(I1.carry (by omega) ht ((I.wK (I.bK n hn)).mono (by omega))).uv _
   ·exact(I1.uv _).mono (by omega)
theorem Inv.pR {N:Nat}{st:Ch}(I:Inv N st):Inv (N+3) (pR st).2:=by
 unfold My.pR;split
 ·exact I.mono (by omega)
 ·rename_i n h;obtain⟨pre,e⟩:=jK h;have ed:st.au.dropLast=pre:=by rw[e];exact akm
  rw[ed];exact((I.pop e mH (by decide +kernel)).1.uv _).mono (by omega)
theorem Inv.stepT {N:Nat}{st:Ch}(I:Inv N st)(n:Nat):Inv (N+3) (stepT st n).2:=by
 unfold My.stepT;split
 ·split
  ·exact I.mono (by omega)
  ·split
   ·exact I.mono (by omega)
   ·exact(I.rh (by assumption) (by assumption) _).mono (by omega)
 ·exact I.mono (by omega)
theorem Inv.pS {N:Nat}{st:Ch}(I:Inv N st){m:Mn}(hm:MOk N m)(row:Str):Inv (N+3) (pS st m row).2:=by
 unfold My.pS;split
 ·exact I.mono (by omega)
 ·exact I.moved hm (by assumption) row
theorem B5:∀(L:Nat) (l:List Nat),l.Nodup->(∀n∈l,1<=n/\n<=L)->l.length<=L
 | 0,l,_,h=>by
  cases l with
  |nil=>exact kq 0
  |cons x r=>have:=h x fu;omega
 |L+1,l,nd,h=>by
  by_cases m:L+1∈l
  ·have ih:=B5 L (l.erase (L+1)) (nd.erase _) (λn hn=>by
    obtain⟨h1,h2⟩:=nd.mem_erase_iff.mp hn;have:=h n h2;omega)
   rw[List.length_erase_of_mem m]at ih;omega
  ·have ih:=B5 L l nd (λn hn=>by
    have:=h n hn;have:n≠L+1:=λz=>m (by rw[<-z];exact hn)
    omega)
   omega
theorem GQ:∀ {as:List (Nat×Int×List Nat)},(∀y∈as,∃r,y.2.2=y.1::r)->List.Sublist (as.map (·.1)) (as.flatMap (·.2.2))
 |[],_=>.slnil
 |y::as,h=>by
  obtain⟨r,hr⟩:=h y fu;rw[kj,List.flatMap_cons,hr,List.cons_append];exact .cons₂ _ ((GQ λz hz=>h z (ky _ hz)).trans (List.sublist_append_right _ _))
theorem Inv.Qm {N:Nat}{st:Ch}(I:Inv N st):(st.aB.map (·.1)).Nodup:=by
 have nd:=I.nd;unfold Ch.all at nd;exact(GQ λy hy=>(I.asd y hy).2.1).nodup (List.nodup_append.mp (List.nodup_append.mp nd).2.1).1
theorem Inv.GR {N:Nat}{st:Ch}(I:Inv N st):st.aB.length<=st.made.length:=by
 have h:=B5 st.made.length (st.aB.map (·.1)) I.Qm (λn hn=>by
  obtain⟨x,hx,e⟩:=List.mem_map.mp hn;obtain⟨r,hr⟩:=(I.asd x hx).2.1;exact I.pQ hx n (by rw[hr,e];exact fu))
 rw[bo]at h;exact h
end My
set_option maxHeartbeats 1000000
namespace My
open PySem L2
seal PySem.wpAny
def MF (A:Adr)(i:Nat)(c:Col)(H:Hp)(o:Addr):Rs×Ch->VK->XK->Prop
 | (.num n,st),Q,_=>∀c' H',Step (dv i) c c' H H'->fb A i c' H' o st->Q (nV n) H'
 | (.txt z,st),Q,_=>∀c' H',Step (dv i) c c' H H'->fb A i c' H' o st->Q (.str z) H'
 | (.exc x,st),_,E=>∀c' H' C d,Step (dv i) c c' H H'->fb A i c' H' o st->x.At A H' C d->(∀a,d=some a->c' a=none)->E C d H'
def MG:List Str:=[ar "seats",ar "sitting",ar "closed",ar "made",ar "pile",ar "aside",ar "decided",ar "first_texts",ar "edits_kept",ar "rows"]
theorem cZ {m:Str}{v0 v1 v2 v3 v4 v5 v6 v7 v8 v9:V}(h:m∉MG):(chF v0 v1 v2 v3 v4 v5 v6 v7 v8 v9).lookup m=none:=by
 unfold MG at h;simp only[List.mem_cons,List.not_mem_nil,or_false,not_or]at h;obtain⟨h0,h1,h2,h3,h4,h5,h6,h7,h8,h9⟩:=h;unfold chF;simp only[akf,beq_eq_false_iff_ne.mpr h0,beq_eq_false_iff_ne.mpr h1,beq_eq_false_iff_ne.mpr h2,beq_eq_false_iff_ne.mpr h3,beq_eq_false_iff_ne.mpr h4,beq_eq_false_iff_ne.mpr h5,beq_eq_false_iff_ne.mpr h6,beq_eq_false_iff_ne.mpr h7,beq_eq_false_iff_ne.mpr h8,beq_eq_false_iff_ne.mpr h9]
def MH (A:Adr)(i:Nat):Sp:=λvs H Q _=>∃(o mo:Addr) (c:Col) (st:Ch) (m:Mn) (N:Nat),vs=[.ref o,.ref mo]/\fb A i c H o st/\mB A c H m mo/\Inv N st/\N<=900/\rm (st.au.map st.mo) m/\MOk N m /\
 ∀c' H',Step (dv i) c c' H H'->fb A i c' H' o (st.carry m)->Q .non H'
def Qn (A:Adr)(i:Nat):Sp:=λvs H Q E=>∃(o:Addr) (a b:Int) (c:Col) (st:Ch) (N:Nat),vs=[.ref o,.int a,.int b]/\fb A i c H o st/\Inv N st/\N<=800/\(0<=a/\a < 10 ^ 10)/\(0<=b/\b < 10 ^ 10)/\MF A i c H o (nF st a b) Q E
def Qo (A:Adr)(i:Nat):Sp:=λvs H Q E=>∃(o:Addr) (c:Col) (st:Ch) (N:Nat),vs=[.ref o]/\fb A i c H o st/\Inv N st/\N<=800/\MF A i c H o (pR st) Q E
def Qp (A:Adr)(i:Nat):Sp:=λvs H Q E=>∃(o:Addr) (z:Int) (c:Col) (st:Ch) (N:Nat),vs=[.ref o,.int z]/\fb A i c H o st/\Inv N st/\N<=800/\-1<=z/\z < 10 ^ 10/\MF A i c H o (stepT st z.toNat) Q E
theorem ye:∀ {ks:List Nat} {vs:List V},gD (a7 (ks.zip vs)) (km (-1))=none
 |[],_=>rfl
 |_::_,[]=>rfl
 |k::ks,v::vs=>by
  rw[cN,bQ (λz=>by have:=Sum.inl.inj z;omega)]
  exact ye
theorem Inv.no0 {N:Nat}{st:Ch}(I:Inv N st):at1 0 st.aB=none:=by
 cases e:at1 0 st.aB with
 |none=>rfl
 |some x =>
  obtain⟨h1,h2⟩:=jd e;obtain⟨r,hr⟩:=(I.asd x h2).2.1;have:=(I.pQ h2 x.1 (by rw[hr];exact fu)).1
  omega
theorem Fx {i:Nat}{c:Col}{H:Hp}{t:Addr}{xs:List V}:yb i (az c t none) (upd H t (.tup xs)) t xs:=⟨by rw[aW];exact aU,ae⟩
theorem wL {A:Adr}{c:Col}{H H':Hp}{f:Nat->Mn}(s:br H H'):∀ {ns:List Nat} {os:List Addr},bI (λn m=>mB A c H (f n) m) ns os->bI (λm p=>mB A c H' m p) (ns.map f) os
 |_,_,.nil=>.nil
 |_,_,.cons h t=>.cons (h.same s) (wL s t)
theorem B6 {kd:Str}{ns:List Int}(h:(kd,ns.length)∈R.i9)(hn:∀i∈ns,0<=i/\i < 10 ^ 10):R.DOk (.nums kd ns):=⟨h,hn⟩
section
variable{P:me}{w:World}{K:ba}{mg:Str->Option Value}{base:Heap}{A:Adr}
theorem Fy (T:Txt w.params K mg A){i:Nat}:aK P w K mg base CX0 5 A.bB A.dS ["self","motion"] (MH A i):=by
 have gw:∀k,k < 8->aK P w K mg base CX0 1 (A.fk k) (A.fkd k) ["self"] (fR k):=lB T;have pT:aK P w K mg base CX0 4 A.bp A.cQ ["self","edit"] (Qi A i):=yc T;have pU:aK P w K mg base CX0 4 A.bq A.cS ["self","edit"] (Qj A i):=yd T;have lj:aK P w K mg base CX0 1 A.bC A.dU ["self","until"] (Qh A i):=Fq T;refine T.c8.ok kz (λvs H Q E h=>?_) (λcdv A' outer s H vs Q E hr h=>?_)
 ·obtain⟨o,mo,c,st,m,N,rfl,_⟩:=h;rfl
 ·obtain⟨o,mo,c,st,m,N,rfl,hc,hmo,I,hN,wM,CV,q⟩:=h;obtain⟨dx,aM,aP,aA,aD,aF,aE,aR,ms,ds,ws,fs,es,X⟩:=hc.ex;have dZ:Room 1 _:=hr.mono (by decide)
  have n5:Room 4 _:=hr;have n6:Room 4 _:=hr;have kM:Room 1 _:=hr.mono (by decide)
  refine⟨_,(ai (a8 (i:=2) kz.nd rfl (adm rfl) (lJ (n:=8) (Cf:=A.C) (pv 1) T.cl T.nQ gw dZ T.nR aY))
 (aj (a5 (ay bu (pv 2) ao (aN _))
 (aj (bJ (hX (pv 0) T.aq T.iL pT n5 T.cV .nil aY (aa (bj (pv 1) rfl) ah))))
 (aj (a5 (ay bu (pv 2) ao (aN _))
 (aj (bJ (hX (pv 0) T.aq T.iM pU n6 T.cW .nil aY (aa (bj (pv 1) rfl) ah))))
 (aj (a5 (ay bu (pv 2) ao (aN _))
 (aj (bJ (hX (pv 0) T.aq T.gX lj kM T.df .nil aY (aa (bj (pv 1) rfl) ah))))
 (aj (a5 (ay bu (pv 2) ao (aN _))
 (aj (ef (pv 0) gb rfl))
 (aj (a5 (ay bu (pv 2) ao (aN _))
 (aj (bJ (hX (pv 0) T.aq T.gX lj kM T.df .nil aY (aa (bj (pv 0) rfl) ah))))
 (aj (a5 (ay bu (pv 2) ao (aN _))
 (aj (ef (pv 0) (a6 d6 (bj (pv 0) rfl) af) rfl))
 aH))))))))))))),?_⟩
  refine hide λGg hGg=>?_
  obtain⟨hcn,dm,v,hm,hv⟩:=hmo;refine hGg ?_;refine⟨_,rfl,m.k,m.k8,mo,dm,_,rfl,hm,lA m.k v,mo,rfl,?_⟩;have lM:=I.lm;cases m with
  |mat tx=>exact⟨_,rfl,rfl,tsf (bP 0 (by decide)) ⟨_,rfl,rfl,tsf (bV 0 (by decide)) ⟨_,rfl,rfl,tsf (gy 0 (by decide)) ⟨_,rfl,rfl,tsf (jc 0 (by decide)) ⟨_,rfl,rfl,tsf (Fj 0 (by decide)) ⟨_,rfl,rfl,tsf (mG 0 (by decide)) (q c H (Step.refl aU) hc)⟩⟩⟩⟩⟩⟩
  |pnt z=>exact⟨_,rfl,rfl,tsf (bP 7 (by decide)) ⟨_,rfl,rfl,tsf (bV 7 (by decide)) ⟨_,rfl,rfl,tsf (gy 7 (by decide)) ⟨_,rfl,rfl,tsf (jc 7 (by decide)) ⟨_,rfl,rfl,tsf (Fj 7 (by decide)) ⟨_,rfl,rfl,tsf (mG 7 (by decide)) (q c H (Step.refl aU) hc)⟩⟩⟩⟩⟩⟩
  |chg e =>
   refine⟨_,rfl,rfl,tst (bP 1 (by decide)) ?_⟩
   refine hide λGg hGg=>?_
   obtain⟨tx,h1,hf⟩:=wM;obtain⟨k,e1,e2⟩:=Qk h1;have hn:k∈st.au:=by rw[e1];exact fu
   have hno:=I.bK k hn;have htx:=I.wK hno;rw[e2]at htx;have ahE:tx.length<=12+N:=htx.1;obtain⟨x,hx,hxl⟩:=I.keptAt hno (by rw[e2];rfl)
   have e3:st.carry (.chg e)=st.Nq k tx e:=by unfold Ch.carry;rw[e1];dsimp only;rw[e2]
   rw[e3]at q;have Qq:EdB (12+N) e:=CV;obtain⟨t,rfl,ht⟩:=hv;refine hGg ?_;refine mtv rfl X.ob (cZ (by decide +kernel)) ⟨_,rfl,mo,A.C 1,dm,_,.ref t,rfl,hm,T.cl 1 (by decide),T.na1,rfl,?_⟩
   exact⟨o,t,c,st,k,[],tx,e,x,rfl,hc,e1,hno,e2,by omega,by omega,ht,Qq.ok (by omega),hf,hx,by omega,by rw[I.kk];exact Kp st,q⟩
  |mnd f =>
   refine⟨_,rfl,rfl,tsf (bP 2 (by decide)) ⟨_,rfl,rfl,tst (bV 2 (by decide)) ?_⟩⟩
   refine hide λGg hGg=>?_
   obtain⟨tx,e,h1,hk,hf⟩:=wM;obtain⟨a,b,e1,e2,e3⟩:=Sy h1;have hb:b∈st.au:=by rw[e1];exact ky _ fu
   have hno:=I.bK b hb;have he:=I.wK hno;rw[e3]at he;have he':EdB (12+N) e:=he;obtain⟨w1,w2⟩:=he'.words;have e4:st.carry (.mnd f)=st.Fp b e (bE (R.bf e.th) f):=by unfold Ch.carry;rw[e1];show (match st.mo b with | .chg e=>_ | _=>st)=_;rw[e3];rfl
   rw[e4]at q;obtain⟨hf1,w0,hw0,hw1⟩:=CV;have l1:=um (R.bf e.th) f;have l2:=R.DQ (uY w1 (by rw[hw0];exact hw1):∀w∈bE (R.bf e.th) f,R.nX w)
   obtain⟨t,rfl,ht⟩:=hv;refine hGg ?_;refine mtv rfl X.ob (cZ (by decide +kernel)) ⟨_,rfl,mo,A.C 2,dm,_,.ref t,rfl,hm,T.cl 2 (by decide),T.na2,rfl,?_⟩
   exact⟨o,t,c,st,b,[a],e,f,rfl,hc,e1,hno,e3,hk,he'.ok (by omega),by omega,by omega,ht,hf1.ok (by omega),hf,by omega,q⟩
  |off u =>
   refine⟨_,rfl,rfl,tsf (bP 3 (by decide)) ⟨_,rfl,rfl,tsf (bV 3 (by decide)) ⟨_,rfl,rfl,tst (gy 3 (by decide)) ?_⟩⟩⟩
   refine hide λGg hGg=>?_
   obtain⟨⟨tx,r,h1⟩,_⟩:=wM;obtain⟨k,r',e1,_⟩:=Fv h1;have e3:st.carry (.off u)=st.lE k u:=by unfold Ch.carry;rw[e1]
   rw[e3]at q;have hv':v=.int u:=hv;subst hv';have:=I.la;refine hGg ?_;refine mtv rfl X.ob (cZ (by decide +kernel)) ⟨_,rfl,mo,A.C 3,dm,_,.int u,rfl,hm,T.cl 3 (by decide),T.na3,rfl,?_⟩
   exact⟨o,u,c,st,k,r',rfl,hc,e1,I.Fu (by rw[e1];exact fu),by omega,q⟩
  |cls =>
   refine⟨_,rfl,rfl,tsf (bP 4 (by decide)) ⟨_,rfl,rfl,tsf (bV 4 (by decide)) ⟨_,rfl,rfl,tsf (gy 4 (by decide)) ⟨_,rfl,rfl,tst (jc 4 (by decide)) ?_⟩⟩⟩⟩
   refine⟨_,rfl,o,A.ax,dx,_,rfl,X.ob,T.aq,T.jq4,(by show 10 < 1000;decide),?_⟩
   rw[BW];obtain⟨s1,X1⟩:=X.attr st.aQ true;exact q c _ s1.g9 X1.at
  |lay =>
   refine⟨_,rfl,rfl,tsf (bP 5 (by decide)) ⟨_,rfl,rfl,tsf (bV 5 (by decide)) ⟨_,rfl,rfl,tsf (gy 5 (by decide)) ⟨_,rfl,rfl,tsf (jc 5 (by decide)) ⟨_,rfl,rfl,tst (Fj 5 (by decide)) ?_⟩⟩⟩⟩⟩
   refine hide λGg hGg=>?_
   obtain⟨⟨tx,r,h1⟩,_⟩:=wM;obtain⟨k,r',e1,_⟩:=Fv h1;have e3:st.carry .lay=st.lE k st.aQ:=by unfold Ch.carry;rw[e1]
   rw[e3]at q;have:=I.la;refine hGg ?_;refine mtv rfl X.ob (cZ (by decide +kernel)) (eQ rfl X.ob T.aq T.jq1 iN ?_)
   exact⟨o,st.aQ,c,st,k,r',rfl,hc,e1,I.Fu (by rw[e1];exact fu),by omega,q⟩
  |rst =>
   refine⟨_,rfl,rfl,tsf (bP 6 (by decide)) ⟨_,rfl,rfl,tsf (bV 6 (by decide)) ⟨_,rfl,rfl,tsf (gy 6 (by decide)) ⟨_,rfl,rfl,tsf (jc 6 (by decide)) ⟨_,rfl,rfl,tsf (Fj 6 (by decide)) ⟨_,rfl,rfl,tst (mG 6 (by decide)) ?_⟩⟩⟩⟩⟩⟩
   refine eQ rfl X.ob T.aq T.jq1 iN ⟨_,_,rfl,rfl,_,rfl,o,A.ax,dx,_,rfl,X.ob,T.aq,T.jq1,(by show 10 < 1000;decide),?_⟩
   rw[GJ];obtain⟨s1,X1⟩:=X.attr (st.aQ+1) st.closed;exact q c _ s1.g9 X1.at
theorem Sz (T:Txt w.params K mg A){i:Nat}:aK P w K mg base (CXX P w) 6 A.cg A.ie ["self","ayes","noes"] (Qn A i):=by
 have dI:aK P w K mg base (CXX P w) 1 A.bb A.bU ["self"] (xY A i):=mE T;have jL:aK P w K mg base CX0 1 A.bG A.dR ["self","word"] (BZ A i):=DS T;have uw:aK P w K mg base CX0 5 A.bB A.dS ["self","motion"] (MH A i):=Fy T;have fh:aK P w K mg base CX0 5 A.bh A.cq ["self","deed"] (Qg A i):=rl T;have Nt:aK P w K mg base CX0 1 A.As A.qr ["need","ayes","noes"] P7:=Kj T;have Ww:∀k,k < 8->aK P w K mg base CX0 1 (A.fn k) (A.fnd k) ["self"] (E9 k):=Sr T;refine T.gj.okX kR (λvs H Q E h=>?_) (λcdv A' outer s H vs Q E hr h=>?_)
 ·obtain⟨o,a,b,c,st,N,rfl,_⟩:=h;rfl
 ·obtain⟨o,a,b,c,st,N,rfl,hc,I,hN,ha,hb,q⟩:=h;obtain⟨dx,aM,aP,aA,aD,aF,aE,aR,ms,ds,ws,fs,es,X⟩:=hc.ex;have hu1:=hr.u1;have dE:Room 1 _:=hr.mono (by decide)
  have jf:Room 1 _:=hr.mono (by decide)
  have sZ:Room 5 _:=hr;have eO:Room 5 _:=hr;have Kq:Room 1 _:=hr.mono (by decide)
  have SA:Room 1 _:=hr.mono (by decide)
  refine⟨_,(a9 (l4 (xy (px (pv 0)) T.aq T.dH dI dE T.b7))
 (a9 (gU (ay FR (a6 d6 (pv 1) (pv 2)) (bj (pv 0) rfl) (aN _))
 (bD (jt T.BI rfl rfl T.DM (aa ao ah)))
 (vJ aH))
 (a9 (psx (a8 (i:=3) kR.nd rfl (adm rfl) (bc hu1 (bj (pv 0) rfl) (aJ bz (bj (pv 0) rfl) (oF jq af) (λ_ _=>rfl)) (λ_ _=>rfl))))
 (a9 (psx (a8 (i:=4) kR.nd rfl (adm rfl) (FQ (lX (aV Nt Kq rfl T.DA T.xK.kp T.Dz .nil aY (aa (lJ (n:=8) (Cf:=A.C) (pv 3) T.cl T.PQ Ww SA T.PR aY) (aa (pv 1) (aa (pv 2) ah))))) ao ao)))
 (a9 (psx (bJ (hX (pv 0) T.aq T.jG jL jf T.eJ .nil aY (aa (pv 4) ah))))
 (a9 (psx (a5 (ay bu (pv 4) ao (aN _))
 (aj (bJ (hX (pv 0) T.aq T.lh uw sZ T.d8 .nil aY (aa (pv 3) ah))))
 aH))
 (a9 (psx (bJ (hX (pv 0) T.aq T.eX fh eO T.cC .nil aY (aa (bt (aa ao (aa (pv 1) (aa (pv 2) ah)))) ah))))
 (bD (psx (aC (pv 4))))))))))),?_⟩
  refine mtv rfl X.ob (cZ (by decide +kernel)) ⟨o,c,st,rfl,hc,λhne=>?_,λhe=>?_⟩
  case refine_2 =>
   unfold nF at q;rw[he]at q;exact q c H _ _ (Step.refl aU) hc ⟨rfl,rfl⟩ (λ_ z=>nomatch z)
  refine hide λGg hGg=>?_
  obtain⟨pre,n,e⟩:∃pre n,st.au=pre++[n]:=by
   rcases ajS st.au with e | ⟨pre,n,e⟩
   ·exact absurd e hne
   ·exact⟨pre,n,by rw[e,ajT]⟩
  have gl:st.au.getLast?=some n:=by rw[e];exact akg
  have ed:st.au.dropLast=pre:=by rw[e];exact akm
  unfold nF at q;rw[gl]at q;dsimp only at q;rw[ed]at q;refine hGg ?_;refine⟨_,rfl,_,rfl,_,_,rfl,rfl,eQ rfl X.ob T.aq T.jqq Nk ⟨_,_,rfl,rfl,_,rfl,eU (λz=>?_) (λz=>?_)⟩⟩
  ·have z':a+b > st.cz:=of_decide_eq_true z;rw[if_pos z']at q;exact⟨by decide,q c H _ _ (Step.refl aU) hc ⟨rfl,rfl⟩ (λ_ z=>nomatch z)⟩
  refine hide λGg hGg=>?_
  have z':¬a+b > st.cz:=λy=>z (decide_eq_true y)
  rw[if_neg z']at q;have hn:n∈st.au:=by rw[e];simp
  have hno:=I.bK n hn;obtain⟨mo,hv,hmo⟩:=X.Sw hno;have hcp:=hmo;obtain⟨_,dm,v,hm,_⟩:=hmo;have h0:atI (st.au.map nV) (-1)=some (nV n):=by rw[e,kr];exact iQ _ _
  refine hGg ?_;refine⟨_,rfl,o,A.ax,dx,_,.ref aM,rfl,X.ob,T.aq,T.jq2,hG,_,rfl,o,A.ax,dx,_,.ref aP,rfl,X.ob,T.aq,T.jq0,eN,_,rfl,aP,_,_,_,rfl,rfl,SqL.of X.au.2,h0,aM,_,rfl,.inl ⟨_,km (n:Int),.inl X.made.2,rfl,hv.symm⟩,?_⟩;refine⟨_,rfl,(st.mo n).k,(st.mo n).k8,mo,dm,_,rfl,hm,Sk _ v,mo,rfl,_,rfl,_,rfl,nd (st.mo n).k,a,b,rfl,_,rfl,?_⟩;obtain⟨I1,wM⟩:=I.pop e (sY (nC (nd (st.mo n).k) a b)) (Fw _);have CV:=(I.wK hno).mono (akq N);have lp:=I.pil.GP;rw[bo]at lp;have ld:=I.ld;have lr:=I.lr;have dk:R.DOk (.nums (ar "vote") [a,b]):=B6 (by show (ar "vote",2)∈R.i9;decide +kernel) (by
   intro i hi;rcases List.mem_cons.mp hi with h | hi
   ·rw[h];exact ha
   ·rw[aj3]at hi;rw[hi];exact hb)
  cases hk:nC (nd (st.mo n).k) a b with
  |true =>
   rw[hk]at q I1;rw[if_pos rfl]at q;refine dP (mtv rfl X.ob (cZ (by decide +kernel)) ⟨_,rfl,o,yP,c,st,pre,n,rfl,hc,e,by omega,by omega,λc1 H1 s1 hc1=>?_⟩)
   refine hide λGg hGg=>?_
   obtain⟨dx1,aM1,aP1,aA1,aD1,aF1,aE1,aR1,ms1,ds1,ws1,fs1,es1,X1⟩:=hc1.ex;refine hGg ?_;refine⟨_,rfl,rfl,tst (by decide +kernel) (mtv rfl X1.ob (cZ (by decide +kernel)) ⟨_,rfl,o,mo,c1,_,st.mo n,N+1,rfl,hc1,hcp.step s1,I1,by omega,wM,CV,λc2 H2 s2 hc2=>?_⟩)⟩
   refine hide λGg hGg=>?_
   obtain⟨dx2,aM2,aP2,aA2,aD2,aF2,aE2,aR2,ms2,ds2,ws2,fs2,es2,X2⟩:=hc2.ex;have I2:=I1.carry (by omega) wM CV
   refine hGg ?_;refine mtv rfl X2.ob (cZ (by decide +kernel)) ⟨_,rfl,_,rfl,(sl 3),λt ht=>?_⟩
   have s3:Step (dv i) c2 (az c2 t none) H2 (upd H2 t (.tup [V.str (ar "vote"),.int a,.int b])):=Step.new aU ht;have X3:=X2.free (W:=λ_=>False) (λ_=>id) (Step.new (x:=none) (o:=.tup [V.str (ar "vote"),.int a,.int b]) id ht)
   have lr2:=I2.lr;refine⟨o,t,_,_,.nums (ar "vote") [a,b],rfl,X3.at,Fx,dk,tm lr2 (by omega),λc4 H4 s4 hc4=>⟨_,rfl,?_⟩⟩
   exact q c4 H4 (((s1.trans s2).trans s3).trans s4) hc4
  |false =>
   rw[hk]at q I1;rw[if_neg ku]at q;refine bX (mtv rfl X.ob (cZ (by decide +kernel)) ⟨_,rfl,o,Ub,c,st,pre,n,rfl,hc,e,by omega,by omega,λc1 H1 s1 hc1=>?_⟩)
   refine hide λGg hGg=>?_
   obtain⟨dx2,aM2,aP2,aA2,aD2,aF2,aE2,aR2,ms2,ds2,ws2,fs2,es2,X2⟩:=hc1.ex;refine hGg ?_;refine⟨_,rfl,rfl,tsf (by decide +kernel) ?_⟩
   refine mtv rfl X2.ob (cZ (by decide +kernel)) ⟨_,rfl,_,rfl,(sl 3),λt ht=>?_⟩
   have s3:Step (dv i) c1 (az c1 t none) H1 (upd H1 t (.tup [V.str (ar "vote"),.int a,.int b])):=Step.new aU ht;have X3:=X2.free (W:=λ_=>False) (λ_=>id) (Step.new (x:=none) (o:=.tup [V.str (ar "vote"),.int a,.int b]) id ht)
   refine⟨o,t,_,_,.nums (ar "vote") [a,b],rfl,X3.at,Fx,dk,by show st.rows.length<=1000;omega,λc4 H4 s4 hc4=>⟨_,rfl,?_⟩⟩
   exact q c4 H4 ((s1.trans s3).trans s4) hc4
theorem SD (T:Txt w.params K mg A){i:Nat}:aK P w K mg base (CXX P w) 6 A.cj A.ig ["self"] (Qo A i):=by
 have dI:aK P w K mg base (CXX P w) 1 A.bb A.bU ["self"] (xY A i):=mE T;have jL:aK P w K mg base CX0 1 A.bG A.dR ["self","word"] (BZ A i):=DS T;have fh:aK P w K mg base CX0 5 A.bh A.cq ["self","deed"] (Qg A i):=rl T;refine T.gk.okX y7 (λvs H Q E h=>?_) (λcdv A' outer s H vs Q E hr h=>?_)
 ·obtain⟨o,c,st,N,rfl,_⟩:=h;rfl
 ·obtain⟨o,c,st,N,rfl,hc,I,hN,q⟩:=h;obtain⟨dx,aM,aP,aA,aD,aF,aE,aR,ms,ds,ws,fs,es,X⟩:=hc.ex;have dE:Room 1 _:=hr.mono (by decide)
  have jf:Room 1 _:=hr.mono (by decide)
  have eO:Room 5 _:=hr;refine⟨_,(a9 (l4 (xy (px (pv 0)) T.aq T.dH dI dE T.b7))
 (a9 (psx (bJ (hX (pv 0) T.aq T.jG jL jf T.eJ .nil aY (aa ao ah))))
 (a9 (psx (bJ (hX (pv 0) T.aq T.eX fh eO T.cC .nil aY (aa (bt (aa ao ah)) ah))))
 (bD (psx (aC ao)))))),?_⟩
  refine mtv rfl X.ob (cZ (by decide +kernel)) ⟨o,c,st,rfl,hc,λhne=>?_,λhe=>?_⟩
  case refine_2 =>
   unfold pR at q;rw[he]at q;exact q c H _ _ (Step.refl aU) hc ⟨rfl,rfl⟩ (λ_ z=>nomatch z)
  refine hide λGg hGg=>?_
  obtain⟨pre,n,e⟩:∃pre n,st.au=pre++[n]:=by
   rcases ajS st.au with e | ⟨pre,n,e⟩
   ·exact absurd e hne
   ·exact⟨pre,n,by rw[e,ajT]⟩
  have gl:st.au.getLast?=some n:=by rw[e];exact akg
  have ed:st.au.dropLast=pre:=by rw[e];exact akm
  unfold pR at q;rw[gl]at q;dsimp only at q;rw[ed]at q;have lp:=I.pil.GP;rw[bo]at lp;have ld:=I.ld;have lr:=I.lr;refine hGg ?_;refine mtv rfl X.ob (cZ (by decide +kernel)) ⟨o,mH,c,st,pre,n,rfl,hc,e,by omega,by omega,λc1 H1 s1 hc1=>?_⟩
  refine hide λGg hGg=>?_
  obtain⟨dx2,aM2,aP2,aA2,aD2,aF2,aE2,aR2,ms2,ds2,ws2,fs2,es2,X2⟩:=hc1.ex;refine hGg ?_;refine mtv rfl X2.ob (cZ (by decide +kernel)) ⟨(sl 1),λt ht=>?_⟩
  have s3:Step (dv i) c1 (az c1 t none) H1 (upd H1 t (.tup [V.str (ar "drop")])):=Step.new aU ht;have X3:=X2.free (W:=λ_=>False) (λ_=>id) (Step.new (x:=none) (o:=.tup [V.str (ar "drop")]) id ht)
  refine⟨o,t,_,_,.nums (ar "drop") [],rfl,X3.at,Fx,B6 (by decide +kernel) (λ_ h=>nomatch h),by show st.rows.length<=1000;omega,λc4 H4 s4 hc4=>?_⟩
  exact q c4 H4 ((s1.trans s3).trans s4) hc4
theorem SE (T:Txt w.params K mg A){i:Nat}:aK P w K mg base (CXX P w) 6 A.ck A.ij ["self","number"] (Qp A i):=by
 have kK:aK P w K mg base CX0 4 A.lT A.gP ["deed"] (R.Ff K):=R.qJ T;have B2:aK P w K mg base CX0 3 A.Bf A.ph ["pile","closed"] (Qc A K):=DW T;have jg:aK P w K mg base CX0 1 A.bF A.dC ["self"] (xZ A i):=BY T;have uX:aK P w K mg base CX0 1 A.sg A.pB ["self","bar"] (CI A.mf "bar"):=yO T;have Kr:aK P w K mg base CX0 1 A.wc A.uh ["self","sitting"] (CI A.pA "sitting"):=GL T;refine T.gq.okX qV (λvs H Q E h=>?_) (λcdv A' outer s H vs Q E hr h=>?_)
 ·obtain⟨o,z,c,st,N,rfl,_⟩:=h;rfl
 ·obtain⟨o,z,c,st,N,rfl,hc,I,hN,hz0,hz1,q⟩:=h;obtain⟨dx,aM,aP,aA,aD,aF,aE,aR,ms,ds,ws,fs,es,X⟩:=hc.ex;have hu1:=hr.u1;have hgd:=hr.gd;have je:Room 4 _:=hr.mono (by decide)
  have ya:Room 3 _:=hr.mono (by decide)
  have ix:Room 1 _:=hr.mono (by decide)
  have Nl:Room 2 _:=hr.mono (by decide)
  have lim:ka=16777216:=by decide
  refine⟨_,(a9 (gU (rT (bj (pv 0) rfl) (λ_=>rfl))
 (bD (qo T.pH uX Nl T.mw rfl rfl T.BC (aa (aV B2 ya rfl T.Bk T.we.kp T.Bj .nil aY (aa (gZ (pv 0) T.aq T.i6 jg ix T.dX .nil aY) (aa (bj (pv 0) rfl) ah))) ah)))
 (vJ aH))
 (a9 (gU (JC (xC hu1 (pv 1) (bj (pv 0) rfl)))
 (bD (jt T.BJ rfl rfl T.DN (aa (Dm (l5 (xB (pv 1) (l5 xA)))) ah)))
 (vJ aH))
 (a9 (psx (a8 (i:=2) qV.nd rfl (adm rfl) (aJ aL (bc hu1 (bj (pv 0) rfl) (pv 1) (λ_ _=>rfl)) af (λ_ _=>rfl))))
 (a9 (gU (ay rS (bj (pv 0) rfl) (pv 2) (aN _))
 (bD (qo T.uj Kr Nl T.qH rfl rfl T.GC (aa (pv 2) ah)))
 (vJ aH))
 (a9 (psx (ef (pv 0) (aJ VE (Ge (bj (pv 0) rfl) (pv 1) ⟨rfl,rfl,rfl,rfl⟩) af (λ_ _=>rfl)) rfl))
 (a9 (psx (bJ (gR rf ajU ajV cU (bj (pv 0) rfl) (aa (aV kK je rfl T.nA T.kD.kp T.nz .nil aY (aa (bt (aa ao (aa (pv 1) ah))) ah)) ah))))
 (bD (psx (aC (pv 1)))))))))),?_⟩
  by_cases hz:z=-1
  ·subst hz;refine eQ rfl X.ob T.aq T.jq0 eN ⟨_,.inl ⟨_,.inl (.inl X.au.2),rfl⟩,?_⟩;rw[show ((-1:Int).toNat)=0 from rfl]at q
   unfold stepT at q;cases e:st.au with
   |cons k0 r0 =>
    rw[if_neg (by rw[e];exact aj1 _ _)]at q
    have lp:=I.pil.GP;rw[bo]at lp;have hb:=Kk st.closed (st.au.map st.mo);have hb0:0<=nY st.closed (st.au.map st.mo):=Int.le_trans (by
     by_cases z:rG (st.au.map st.mo) < 0
     ·have:=B3 z;rw[e]at this;cases this
     ·omega) (sX _ _)
    refine dP (mtv rfl X.ob (cZ (by decide +kernel)) ⟨o,c,st,rfl,hc,I.bK,by omega,λB os hB hos=>?_⟩)
    have sB:=aG (o:=.lst (os.map V.ref)) hB;refine eQ rfl (sB _ _ X.ob) T.aq T.jq4 qL ⟨B,st.closed,c,st.au.map st.mo,os,rfl,⟨SqL.of ae,wL sB hos⟩,?_⟩;refine⟨_,rfl,pM (by omega) (by omega),λd hd=>?_⟩
    exact q (cx c H) _ _ _ (Step.cl aU (sB.new hd)) (X.cl (sB.new hd)).at ⟨rfl,d,rfl,ae⟩ (λ_ z=>by cases z;exact bO (same_none sB hd))
   |nil =>
    rw[if_pos e,I.no0]at q;refine bX ?_;refine⟨_,rfl,eQ rfl X.ob T.aq T.jq3 jI ⟨aA,_,rfl,.inl ⟨_,km (-1),.inl X.aB.2,rfl,rfl⟩,_,rfl,?_⟩⟩;rw[ye];have l1:(aj6++ar "no matter of the number ":Str).length=24:=by decide +kernel
    have l2:(ar " is aside").length=9:=by decide +kernel
    have l3:(ar (toString (-1:Int))).length=2:=by decide +kernel
    refine dP ⟨by rw[l1];omega,_,rfl,_,.int (by decide),by rw[l3];omega,by rw[len_app,l1,l3];omega,by rw[len_app,len_app,l1,l2,l3];omega,by rw[len_app,len_app,l1,l2,l3];omega,(sl 1),?_⟩
    exact q c H _ _ (Step.refl aU) hc ⟨rfl,rfl⟩ (λ_ z=>nomatch z)
  refine hide λGg hGg=>?_
  obtain⟨n,rfl⟩:∃n:Nat,z=(n:Int):=⟨z.toNat,by omega⟩
  rw[Int.toNat_natCast]at q;have ajF:n < 10 ^ 10:=by
   have:(10:Nat) ^ 10=10000000000:=by decide
   have:(10:Int) ^ 10=10000000000:=by decide
   omega
  clear hz hz0 hz1;refine hGg ?_;refine eQ rfl X.ob T.aq T.jq0 eN ⟨_,.inl ⟨_,.inl (.inl X.au.2),rfl⟩,?_⟩;unfold stepT at q;cases e:st.au with
  |cons k0 r0 =>
   rw[if_neg (by rw[e];exact aj1 _ _)]at q
   have lp:=I.pil.GP;rw[bo]at lp;have hb:=Kk st.closed (st.au.map st.mo);have hb0:0<=nY st.closed (st.au.map st.mo):=Int.le_trans (by
    by_cases z:rG (st.au.map st.mo) < 0
    ·have:=B3 z;rw[e]at this;cases this
    ·omega) (sX _ _)
   refine dP (mtv rfl X.ob (cZ (by decide +kernel)) ⟨o,c,st,rfl,hc,I.bK,by omega,λB os hB hos=>?_⟩)
   have sB:=aG (o:=.lst (os.map V.ref)) hB;refine eQ rfl (sB _ _ X.ob) T.aq T.jq4 qL ⟨B,st.closed,c,st.au.map st.mo,os,rfl,⟨SqL.of ae,wL sB hos⟩,?_⟩;refine⟨_,rfl,pM (by omega) (by omega),λd hd=>?_⟩
   exact q (cx c H) _ _ _ (Step.cl aU (sB.new hd)) (X.cl (sB.new hd)).at ⟨rfl,d,rfl,ae⟩ (λ_ z=>by cases z;exact bO (same_none sB hd))
  |nil =>
   rw[if_pos e]at q;refine bX ?_;refine⟨_,rfl,eQ rfl X.ob T.aq T.jq3 jI ⟨aA,_,rfl,.inl ⟨_,km (n:Int),.inl X.aB.2,rfl,rfl⟩,_,rfl,?_⟩⟩;cases hx:at1 n st.aB with
   |none =>
    rw[hx]at q;rw[qN (wH hx)];have l1:(aj6++ar "no matter of the number ":Str).length=24:=by decide +kernel
    have l2:(ar " is aside").length=9:=by decide +kernel
    have e10:(10:Nat) ^ 10=10000000000:=by decide
    have l3:(ar (toString (n:Int))).length<=20:=DU (by omega) (by omega)
    refine dP ⟨by rw[l1];omega,_,rfl,_,.int (DT (by omega) (by omega)),by omega,by rw[len_app,l1];omega,by rw[len_app,len_app,l1,l2];omega,by rw[len_app,len_app,l1,l2];omega,(sl 1),?_⟩
    exact q c H _ _ (Step.refl aU) hc ⟨rfl,rfl⟩ (λ_ z=>nomatch z)
   |some x =>
    refine hide λGg hGg=>?_
    rw[hx]at q;dsimp only at q;obtain⟨t,p,hv,ht,hl⟩:=X.waitOf hx;refine hGg ?_;rw[hv];refine bX ?_;refine⟨_,rfl,o,A.ax,dx,_,.ref aA,rfl,X.ob,T.aq,T.jq3,jI,_,rfl,aA,_,rfl,.inl ⟨_,km (n:Int),.inl X.aB.2,rfl,hv.symm⟩,t,_,_,_,rfl,rfl,ht.sq,rfl,?_⟩;refine⟨_,rfl,o,A.ax,dx,_,.int st.aQ,rfl,X.ob,T.aq,T.jq1,iN,_,rfl,_,_,rfl,rfl,_,rfl,eU (λz=>?_) (λz=>?_)⟩
    ·have z':st.aQ < x.2.1:=of_decide_eq_true z;refine hide λGg hGg=>?_
     rw[if_pos z']at q;obtain⟨_,_,b1,b2⟩:=I.asd x (jd hx).2;refine hGg ?_;refine⟨_,rfl,_,rfl,pM (by have:=I.sit.1;omega) b2,λd hd=>?_⟩
     exact q (cx c H) _ _ _ (Step.cl aU (aG hd)) (X.cl (aG hd)).at ⟨rfl,d,rfl,ae⟩ (λ_ z=>by cases z;exact bO hd)
    ·have z':¬st.aQ < x.2.1:=λy=>z (decide_eq_true y)
     rw[if_neg z']at q;have nAt:t≠aA:=λy=>by have:=ht.1;rw[y,X.aB.1]at this;cases this
     have ht':SqT K (upd H aA (.dK (iC (a7 ((st.aB.map (·.1)).zip ws)) (km (n:Int))))) t [.int x.2.1,.ref p]:=by
      rcases ht.2 with h | ⟨u,h⟩
      ·exact .inl (.inl ((av nAt).trans h))
      ·exact .inl (.inr ⟨u,(av nAt).trans h⟩)
     have oA:o≠aA:=dD X.co X.aB.1 (λz=>nomatch z)
     refine eQ rfl X.ob T.aq T.jq3 jI ⟨aA,rfl,.inl ⟨_,.inl X.aB.2⟩,_,rfl,_,km (n:Int),_,X.aB.2,rfl,hv,.inr (.inl ⟨t,_,1,.ref p,rfl,rfl,ht',rfl,?_⟩)⟩;refine⟨_,rfl,o,A.ax,dx,_,rfl,(av oA).trans X.ob,T.aq,T.jq0,(by show 10 < 1000;decide),?_⟩
     rw[GK];refine hide λGg hGg=>?_
     obtain⟨c1,ws1,s1,X1⟩:=X.rh hl;refine hGg ?_;generalize upd (upd H aA (.dK (iC (a7 ((st.aB.map (·.1)).zip ws)) (km (n:Int))))) o (.ins A.ax dx (chF (.int st.cz) (.int st.aQ) (.bl st.closed) (.ref aM) (.ref p) (.ref aA) (.ref aD) (.ref aF) (.ref aE) (.ref aR)))=H1 at s1 X1 ⊢
     have lr:=I.lr;have h10:(n:Int) < 10 ^ 10:=by
      have:(10:Nat) ^ 10=10000000000:=by decide
      have:(10:Int) ^ 10=10000000000:=by decide
      omega
     refine eQ rfl X1.ob T.aq T.jqk wD ⟨.inl ⟨rfl,_,SqL.of X1.rows.2⟩,_,rfl,(sl 2),λu hu=>?_⟩
     have s2:=aG (o:=.tup [V.str (ar "take"),nV n]) hu;refine⟨u,.nums (ar "take") [(n:Int)],rfl,SqT.of ae,B6 (by show (ar "take",1)∈R.i9;decide +kernel) (by intro i hi;rw[aj3]at hi;rw[hi];exact⟨by omega,h10⟩),λH2 s3=>?_⟩
     have X2:=X1.same (s2.trans s3);obtain⟨s4,X3⟩:=X2.row (R.rF (.nums (ar "take") [(n:Int)]));refine⟨aR,_,_,rfl,rfl,X2.rows.2,by rw[bo];show st.rows.length < _;omega,_,rfl,?_⟩
     exact q c1 _ ((s1.g9.trans (Step.same aU (s2.trans s3))).trans s4.g9) X3.at
end
end My
set_option maxHeartbeats 1000000
namespace My
open PySem L2
seal PySem.wpAny
def d3:R.fq->Mn
 | .mat cs=>.mat (cs.map (sr R.bl1))
 | .ed m k j ws=>if m=true then .mnd ⟨k,j,sr R.bl1 ws⟩ else .chg ⟨k,j,sr R.bl1 ws⟩
 | .pt ws=>.pnt (sr R.bl1 ws)
 | .nums kd ns=>if kd=ar "put off" then .off (ns.getD 0 0) else if kd=ar "close" then .cls else if kd=ar "lay" then .lay else .rst
def nG:List (Str×Nat):=[(ar "put off",1),(ar "close",0),(ar "lay",0),(ar "rest",0)]
def Fz:R.fq->Prop
 | .mat cs=>cs.length<=12/\∀ws∈cs,R.BS 12 ws
 | .ed m k j ws=>(k=0\/k=1\/k=2)/\(-1000<=j/\j<=1000)/\R.BS 12 ws/\(m=true->ws.length=1)
 | .pt ws=>R.BS 12 ws
 | .nums kd ns=>(kd,ns.length)∈nG/\∀i∈ns,-10000000000 < i/\i < 10 ^ 10
theorem wN {kd:Str}{ns:List Int}(h:(kd,ns.length)∈nG):(∃u,kd=ar "put off"/\ns=[u])\/(kd=ar "close"/\ns=[])\/(kd=ar "lay"/\ns=[])\/(kd=ar "rest"/\ns=[]):=by
 unfold nG at h;simp only[List.mem_cons,List.not_mem_nil,or_false,Prod.mk.injEq]at h;rcases h with ⟨h1,h2⟩ | ⟨h1,h2⟩ | ⟨h1,h2⟩ | ⟨h1,h2⟩
 ·cases ns with
  |nil=>simp at h2
  |cons u r =>
   cases r with
   |nil=>exact .inl ⟨u,h1,rfl⟩
   |cons _ _=>simp at h2
 ·exact .inr (.inl ⟨h1,List.length_eq_zero_iff.mp h2⟩)
 ·exact .inr (.inr (.inl ⟨h1,List.length_eq_zero_iff.mp h2⟩))
 ·exact .inr (.inr (.inr ⟨h1,List.length_eq_zero_iff.mp h2⟩))
theorem GS {n:Nat}{ws:List Str}(h:R.BS n ws):akt (sr R.bl1 ws)=true:=(R.Clause.asc (n:=n) ⟨rfl,h.len,h.wd⟩).ok
theorem Ks {N:Nat}:∀ {d:R.fq},Fz d->MOk N (d3 d)
 | .mat cs,h=>by
  refine⟨?_,?_⟩
  ·rw[bo];have:=h.1;omega
  ·intro x hx;obtain⟨ws,hw,rfl⟩:=List.mem_map.mp hx;exact GS (h.2 ws hw)
 | .ed m k j ws,h=>by
  obtain⟨h1,⟨h2,h3⟩,h4,h5⟩:=h;cases m with
  |true =>
   show EdB 1 ⟨k,j,sr R.bl1 ws⟩/\_;have hl:=h5 rfl
   match ws,hl,h4 with
   |[x],_,h4=>exact⟨⟨h1,h2,h3,[x],rfl,h4.wd,kq 1⟩,x,rfl,h4.wd x fu⟩
  |false =>
   show EdB (12+N) ⟨k,j,sr R.bl1 ws⟩;exact⟨h1,h2,h3,ws,rfl,h4.wd,by have:=h4.len;omega⟩
 | .pt ws,h=>GS h
 | .nums kd ns,h=>by
  obtain⟨h1,h2⟩:=h;rcases wN h1 with ⟨u,rfl,rfl⟩ | ⟨rfl,rfl⟩ | ⟨rfl,rfl⟩ | ⟨rfl,rfl⟩
  ·rw[d3,if_pos rfl];obtain⟨a,b⟩:=h2 u fu;have:(10:Int) ^ 10=10000000000:=by decide
   exact⟨a,by show u < _;omega⟩
  ·rw[d3,if_neg (by decide +kernel),if_pos rfl];trivial
  ·rw[d3,if_neg (by decide +kernel),if_neg (by decide +kernel),if_pos rfl];trivial
  ·rw[d3,if_neg (by decide +kernel),if_neg (by decide +kernel),if_neg (by decide +kernel)];trivial
theorem Uc {M:Nat}{e:Ed}(h:gv M e=true):0<=e.at_:=(BL.mp h).1
theorem Wx {N:Nat}{st:Ch}(I:Inv N st){d:R.fq}(h:Fz d)(hc:kL st (d3 d)=none):R.DOk d:=by
 have ho:uW st.closed (st.au.map st.mo) (d3 d).k=none/\kW st (d3 d)=none:=by
  unfold kL at hc;split at hc
  ·cases hc
  ·exact⟨by assumption,hc⟩
 obtain⟨h0,hf⟩:=ho;cases d with
 |mat cs=>exact h
 |pt ws=>exact h
 |ed m k j ws =>
  obtain⟨h1,⟨h2,h3⟩,h4,h5⟩:=h;have e10:(10:Int) ^ 10=10000000000:=by decide
  refine⟨h1,⟨?_,by omega⟩,h4,h5⟩
  cases m with
  |true =>
   rw[d3,if_pos rfl]at h0 hf;have h3:fg (st.au.map st.mo)=true:=(wI h0).2;unfold fg at h3;split at h3
   ·rename_i e he;unfold kW at hf;dsimp only at hf;rw[he]at hf;dsimp only at hf;split at hf
    ·rename_i h6;exact Uc h6
    ·cases hf
   ·cases h3
  |false =>
   rw[d3,if_neg ku]at h0 hf;obtain⟨tx,r,e1⟩:=I.pil.Kn (wI h0).2;unfold kW at hf;dsimp only at hf;rw[e1]at hf;dsimp only at hf;split at hf
   ·rename_i h6;exact Uc h6
   ·cases hf
 |nums kd ns =>
  obtain⟨h1,h2⟩:=h;have s1:=I.sit.1;rcases wN h1 with ⟨u,rfl,rfl⟩ | ⟨rfl,rfl⟩ | ⟨rfl,rfl⟩ | ⟨rfl,rfl⟩
  ·rw[d3,if_pos rfl]at hf;refine⟨by show (ar "put off",1)∈R.i9;decide +kernel,λi hi=>?_⟩
   rw[aj3]at hi;subst hi;unfold kW at hf;dsimp only at hf;split at hf
   ·cases hf
   ·rename_i h6;have h7:¬i<=st.aQ:=h6;exact⟨by omega,(h2 i fu).2⟩
  ·exact⟨by decide +kernel,λ_ h=>nomatch h⟩
  ·exact⟨by decide +kernel,λ_ h=>nomatch h⟩
  ·exact⟨by decide +kernel,λ_ h=>nomatch h⟩
theorem wO {i:Nat}{c:Col}{H:Hp}{t:Addr}:∀ {d:R.fq},Fz d->rj i c H d t->∃v,yb i c H t (rowOf (d3 d).k v)/\((d3 d).k=0->∃L tx,v=.ref L/\d3 d=.mat tx/\Np i c H L (tx.map V.str))/\((d3 d).k≠0->(d3 d).Val c H v)
 | .mat cs,_,⟨L,a,b⟩=>⟨.ref L,a,λ_=>⟨L,_,rfl,rfl,b⟩,λz=>absurd rfl z⟩
 | .ed true k j ws,h,⟨e,a,b⟩=>⟨.ref e,a,λz=>(nomatch z),λ_=>⟨e,rfl,by rw[<-Fo h.1];exact b⟩⟩
 | .ed false k j ws,h,⟨e,a,b⟩=>⟨.ref e,a,λz=>(nomatch z),λ_=>⟨e,rfl,by rw[<-Fo h.1];exact b⟩⟩
 | .pt ws,_,a=>⟨.str (sr R.bl1 ws),a,λz=>(nomatch z),λ_=>rfl⟩
 | .nums kd ns,h,a=>by
  rcases wN h.1 with ⟨u,rfl,rfl⟩ | ⟨rfl,rfl⟩ | ⟨rfl,rfl⟩ | ⟨rfl,rfl⟩
  ·rw[d3,if_pos rfl];exact⟨.int u,a,λz=>(nomatch z),λ_=>rfl⟩
  ·rw[d3,if_neg (by decide +kernel),if_pos rfl]
   exact⟨.non,a,λz=>(nomatch z),λ_=>trivial⟩
  ·rw[d3,if_neg (by decide +kernel),if_neg (by decide +kernel),if_pos rfl]
   exact⟨.non,a,λz=>(nomatch z),λ_=>trivial⟩
  ·rw[d3,if_neg (by decide +kernel),if_neg (by decide +kernel),if_neg (by decide +kernel)]
   exact⟨.non,a,λz=>(nomatch z),λ_=>trivial⟩
def Kt (A:Adr)(K:ba):Sp:=λvs H Q E=>Mp A vs H Q E\/GF A K vs H Q E
def Ud (A:Adr)(i:Nat):Sp:=λvs H Q E=>∃(o t:Addr) (c:Col) (st:Ch) (N:Nat) (d:R.fq),vs=[.ref o,.ref t]/\fb A i c H o st/\Inv N st/\N<=800/\Fz d/\rj i c H d t /\
 (kL st (d3 d)=none->∀H',br H H'->Q .non H')/\∀x,kL st (d3 d)=some x->∀C e H',br H H'->x.New A H H' C e->E C e H'
def Qr (A:Adr)(i:Nat):Sp:=λvs H Q E=>∃(o t:Addr) (c:Col) (st:Ch) (N:Nat) (d:R.fq),vs=[.ref o,.ref t]/\fb A i c H o st/\Inv N st/\N<=800/\Fz d/\rj i c H d t/\MF A i c H o (pS st (d3 d) (R.rF d)) Q E
theorem MOk.ed1 {N:Nat}{e:Ed}(h:MOk N (.chg e))(hN:N<=800):rE e:=EdB.ok h (by omega)
theorem MOk.ed2 {N:Nat}{e:Ed}(h:MOk N (.mnd e)):rE e:=EdB.ok h.1 (by decide)
section
variable{P:me}{w:World}{K:ba}{mg:Str->Option Value}{base:Heap}{A:Adr}
theorem qO (T:Txt w.params K mg A){i:Nat}:aK P w K mg base (CXX P w) 6 A.a4 A.bZ ["self","told"] (Ud A i):=by
 have jg:aK P w K mg base CX0 1 A.bF A.dC ["self"] (xZ A i):=BY T;have uZ:aK P w K mg base (CXX P w) 5 A.gM A.d7 ["kind","pile","closed"] (T7 A K):=ur T;have j8:aK P w K mg base (CXX P w) 2 A.kB A.gg ["things","edit"] (PZ A K):=sM T;have eZ:aK P w K mg base CX0 1 A.words_of A.eR ["clause"] R.eL:=R.kG T;have FA:aK P w K mg base CX0 1 A.qC A.nr ["self","sitting"] (CI A.jC "sitting"):=CU T;refine T.bL.okX cK (λvs H Q E h=>?_) (λcdv A' outer s H vs Q E hr h=>?_)
 ·obtain⟨o,t,c,st,N,d,rfl,_⟩:=h;rfl
 ·obtain⟨o,t,c,st,N,d,rfl,hc,I,hN,hd,hdc,q,qx⟩:=h;obtain⟨dx,aM,aP,aA,aD,aF,aE,aR,ms,ds,ws,fs,es,X⟩:=hc.ex;have hu1:=hr.u1;have ix:Room 1 _:=hr.mono (by decide)
  have ux:Room 5 _:=hr;have i8:Room 2 _:=hr.mono (by decide)
  have d0:Room 1 _:=hr.mono (by decide)
  have Nl:Room 2 _:=hr.mono (by decide)
  refine⟨_,(a9 (psx (a8 (i:=2) cK.nd rfl (adm rfl) (aJ aL (pv 1) af (λ_ _=>rfl))))
 (a9 (psx (a8 (i:=3) cK.nd rfl (adm rfl) (gZ (pv 0) T.aq T.i6 jg ix T.dX .nil aY)))
 (a9 (l4 (vK uZ ux rfl T.mi T.iw.kp T.mh (pax (aa (pv 2) (aa (pv 3) (aa (bj (pv 0) rfl) ah))))))
 (bD (gU (ay bu (pv 2) ao (aN _))
 (bD (l4 (vK j8 i8 rfl T.j5 T.g8.kp T.j4 (pax (aa (bj (aJ bz (pv 3) af (λ_ _=>rfl)) rfl) (aa (aJ aL (pv 1) af (λ_ _=>rfl)) ah))))))
 (bD (gU (ay bu (pv 2) ao (aN _))
 (bD (l4 (vK j8 i8 rfl T.j5 T.g8.kp T.j4 (pax (aa (aV eZ d0 rfl T.jE T.iu.kp T.jD .nil aY (aa (aJ aL (bj (aJ bz (pv 3) (oF jq af) (λ_ _=>rfl)) rfl) af (λ_ _=>rfl)) ah)) (aa (aJ aL (pv 1) af (λ_ _=>rfl)) ah))))))
 (bD (gU (PW.pt (pw_and (ay bu (pv 2) ao (aN _)) (pw_and1 (ay vw (aJ aL (pv 1) af (λ_ _=>rfl)) (bj (pv 0) rfl) (aN _)))))
 (bD (qo T.nB FA Nl T.lz rfl rfl T.BF (aa (bj (pv 0) rfl) ah)))
 (vJ aH)))))))))),?_⟩
  refine hide λGg hGg=>?_
  obtain⟨v,ht,hv0,hv1⟩:=wO hd hdc;have hmk:=Ks (N:=N) hd;refine hGg ?_;generalize d3 d=m at ht hv0 hv1 hmk q qx;have lp:=I.pil.GP;rw[bo]at lp;refine ixv rfl (SqT.of ht.2) cE ?_;refine mtv rfl X.ob (cZ (by decide +kernel)) ⟨o,c,st,rfl,hc,I.bK,by omega,λB os hB hos=>?_⟩
  have sB:=aG (o:=.lst (os.map V.ref)) hB;have hp:wF A K c (upd H B (.lst (os.map V.ref))) B (st.au.map st.mo) os:=⟨SqL.of ae,wL sB hos⟩;generalize upd H B (.lst (os.map V.ref))=H1 at sB hp;refine⟨_,rfl,_,rfl,eQ rfl (sB _ _ X.ob) T.aq T.jq4 qL ⟨m.k,B,st.closed,c,st.au.map st.mo,os,rfl,m.k8,hp,by rw[bo];omega,λho H2 s2=>?_,λx hx C e H2 s2 hat=>?_⟩⟩
  case refine_2=>exact qx x (by unfold kL;rw[hx]) C e H2 (sB.trans s2) ⟨hat.1,λa z=>same_none sB (hat.2 a z)⟩
  have ec:kL st m=kW st m:=by unfold kL;rw[ho]
  rw[ec]at q qx;have s12:=sB.trans s2;have hp2:=hp.same s2;obtain⟨h1,h2⟩:=wI ho;have X2:=X.same s12;have ht2:H2 t=some (.tup (rowOf m.k v)):=s12 _ _ ht.2;cases m with
  |mat tx=>exact⟨_,rfl,rfl,tsf (bP 0 (by decide)) ⟨_,rfl,rfl,tsf (bV 0 (by decide)) ⟨_,rfl,rfl,tsf (gy 0 (by decide)) (bX (q rfl H2 s12))⟩⟩⟩
  |pnt z=>exact⟨_,rfl,rfl,tsf (bP 7 (by decide)) ⟨_,rfl,rfl,tsf (bV 7 (by decide)) ⟨_,rfl,rfl,tsf (gy 7 (by decide)) (bX (q rfl H2 s12))⟩⟩⟩
  |cls=>exact⟨_,rfl,rfl,tsf (bP 4 (by decide)) ⟨_,rfl,rfl,tsf (bV 4 (by decide)) ⟨_,rfl,rfl,tsf (gy 4 (by decide)) (bX (q rfl H2 s12))⟩⟩⟩
  |lay=>exact⟨_,rfl,rfl,tsf (bP 5 (by decide)) ⟨_,rfl,rfl,tsf (bV 5 (by decide)) ⟨_,rfl,rfl,tsf (gy 5 (by decide)) (bX (q rfl H2 s12))⟩⟩⟩
  |rst=>exact⟨_,rfl,rfl,tsf (bP 6 (by decide)) ⟨_,rfl,rfl,tsf (bV 6 (by decide)) ⟨_,rfl,rfl,tsf (gy 6 (by decide)) (bX (q rfl H2 s12))⟩⟩⟩
  |chg e =>
   refine⟨_,rfl,rfl,tst (bP 1 (by decide)) ?_⟩
   refine hide λGg hGg=>?_
   obtain⟨tx,r,e1⟩:=I.pil.Kn h2;obtain⟨te,rfl,hte⟩:=hv1 (by simp[Mn.k])
   rw[e1]at hp2;obtain⟨hB2,ho2⟩:=hp2;refine hGg ?_;cases ho2 with
   | @cons _ ob _ bs hm ajA =>
    refine hide λGg hGg=>?_
    obtain⟨_,dm,v,hm2,L,rfl,hL⟩:=hm;refine hGg ?_;refine ixv rfl hB2 (dF (j:=0) rfl) ⟨ob,A.C 0,dm,_,.ref L,rfl,hm2,T.cl 0 (by decide),T.na0,rfl,ixv rfl (SqT.of ht2) rfl ?_⟩
    refine⟨L,te,tx.map V.str,e,rfl,SqL.of hL.2,bw s12 hte.sq,hmk.ed1 hN,λhf=>?_,λhf=>?_⟩
    ·rw[bo]at hf;refine q ?_ H2 s12;unfold kW;dsimp only;rw[e1];dsimp only;rw[if_pos hf]
    ·rw[bo]at hf;refine qx .noFit ?_ _ _ H2 s12 ⟨⟨rfl,rfl⟩,λ_ z=>nomatch z⟩
     unfold kW;dsimp only;rw[e1];dsimp only;rw[if_neg (by rw[hf];decide)]
  |mnd f =>
   refine⟨_,rfl,rfl,tsf (bP 2 (by decide)) ⟨_,rfl,rfl,tst (bV 2 (by decide)) ?_⟩⟩
   refine hide λGg hGg=>?_
   have h3:fg (st.au.map st.mo)=true:=h2;unfold fg at h3;obtain⟨e,he,hk1⟩:∃e,(st.au.map st.mo).getLast?=some (.chg e)/\e.k≠1:=by
    split at h3
    ·rename_i e he;exact⟨e,he,λz=>by rw[z]at h3;cases h3⟩
    ·cases h3
   obtain⟨r,e1⟩:=jK he;obtain⟨te,rfl,hte⟩:=hv1 (by simp[Mn.k])
   obtain⟨hB2,ho2⟩:=hp2;obtain⟨pre,ob,eo⟩:∃pre ob,os=pre++[ob]:=by
    have hl:=ho2.len;rw[e1,kx,ajR]at hl;rcases ajS os with e | ⟨pre,n,e⟩
    ·rw[e]at hl;simp at hl
    ·exact⟨pre,n,by rw[e,ajT]⟩
   subst eo;obtain⟨as',a,e3,_,hm⟩:=ho2.last;rw[e1]at e3;obtain⟨_,e4⟩:=List.append_inj' e3 rfl;cases e4;obtain⟨_,dm,v,hm2,tc,rfl,htc⟩:=hm;have hem:EdB (12+N) e:=by
    have Qs:Mn.chg e∈st.au.map st.mo:=by rw[e1];simp
    obtain⟨k,hk,ek⟩:=List.mem_map.mp Qs;have:=I.wK (I.bK k hk);rw[ek]at this;exact this
   have heo:rE e:=hem.ok (by omega)
   refine hGg ?_;refine⟨_,rfl,_,rfl,B,_,_,_,rfl,rfl,hB2,B1 pre ob,ob,A.C 1,dm,_,.ref tc,rfl,hm2,T.cl 1 (by decide),T.na1,rfl,tc,_,_,_,rfl,rfl,htc.sq,uP hk1,e.th,rfl,?_,λp1 hp1=>?_⟩
   ·have:=heo.th.len;have lim:ka=16777216:=by decide
    omega
   have s3:=aG (o:=.lst ((R.bf e.th).map V.str)) hp1;have s13:=s12.trans s3;refine ixv rfl (SqT.of (s3 _ _ ht2)) rfl ?_;refine⟨p1,te,(R.bf e.th).map V.str,f,rfl,SqL.of ae,bw s13 hte.sq,hmk.ed2,λhf=>?_,λhf=>?_⟩
   ·rw[bo]at hf;refine q ?_ _ s13;unfold kW;dsimp only;rw[he];dsimp only;rw[if_pos hf]
   ·rw[bo]at hf;refine qx .noFit ?_ _ _ _ s13 ⟨⟨rfl,rfl⟩,λ_ z=>nomatch z⟩
    unfold kW;dsimp only;rw[he];dsimp only;rw[if_neg (by rw[hf];decide)]
  |off u =>
   have hv':v=.int u:=hv1 (by simp[Mn.k])
   subst hv';refine⟨_,rfl,rfl,tsf (bP 3 (by decide)) ⟨_,rfl,rfl,tsf (bV 3 (by decide)) ⟨_,rfl,rfl,tst (gy 3 (by decide)) ?_⟩⟩⟩
   refine ixv rfl (SqT.of ht2) rfl (eQ rfl X2.ob T.aq T.jq1 iN ⟨_,_,rfl,rfl,_,rfl,eU (λz=>?_) (λz=>?_)⟩)
   ·have z':u<=st.aQ:=of_decide_eq_true z;have:=I.sit;refine eQ rfl X2.ob T.aq T.jq1 iN ⟨_,rfl,pM (by omega) (by omega),λd hd=>?_⟩
    refine qx (.pL st.aQ) ?_ _ _ _ (s12.new hd) ⟨⟨rfl,d,rfl,ae⟩,λ_ z=>by cases z;exact same_none s12 hd⟩
    unfold kW;dsimp only;rw[if_pos z']
   ·have z':¬u<=st.aQ:=λy=>z (decide_eq_true y)
    refine q ?_ _ s12;unfold kW;dsimp only;rw[if_neg z']
end
end My
set_option maxHeartbeats 1000000
namespace My
open PySem L2
seal PySem.wpAny
section
variable{P:me}{w:World}{K:ba}{mg:Str->Option Value}{base:Heap}{A:Adr}
theorem SG (T:Txt w.params K mg A):aK P w K mg base CX0 3 A.lS A.gK ["told"] (Kt A K):=aac (Fe T) (CT T)
theorem Qt {i:Nat}{c:Col}{H:Hp}{t:Addr}{m:Mn}{v:V}{Q:VK}{E:XK}(ht:yb i c H t (rowOf m.k v))(hv0:m.k=0->∃L tx,v=.ref L/\m=.mat tx/\Np i c H L (tx.map V.str))(hv1:m.k≠0->m.Val c H v)
  (q:∀mo H',br H H'->mB A (cx c H) H' m mo->Q (.ref mo) H'):Kt A K [.ref t] H Q E:=by
 by_cases h0:m.k=0
 ·obtain⟨L,tx,rfl,rfl,hL⟩:=hv0 h0;refine .inr ⟨t,L,tx.map V.str,rfl,ht.2,SqL.of hL.2,λmo p H' s hm hp hp' hmo=>q mo H' s ?_⟩
  obtain⟨dx,hmo⟩:=hmo;exact⟨bO hm,dx,.ref p,hmo,p,rfl,bO hp,hp'⟩
 ·refine .inl ⟨t,m.k,v,by omega,m.k8,rfl,ht.2,λmo H' s hm hmo=>q mo H' s ?_⟩
  obtain⟨dx,hmo⟩:=hmo;exact⟨bO hm,dx,v,hmo,(hv1 h0).step (Step.cl (W:=λ_=>False) id s)⟩
theorem SH (T:Txt w.params K mg A){i:Nat}:aK P w K mg base (CXX P w) 7 A.cf A.ic ["self","told"] (Qr A i):=by
 have kO:aK P w K mg base (CXX P w) 6 A.a4 A.bZ ["self","told"] (Ud A i):=qO T;have GU:aK P w K mg base CX0 3 A.lS A.gK ["told"] (Kt A K):=SG T;have kK:aK P w K mg base CX0 4 A.lT A.gP ["deed"] (R.Ff K):=R.qJ T;refine T.gi.okX qU (λvs H Q E h=>?_) (λcdv A' outer s H vs Q E hr h=>?_)
 ·obtain⟨o,t,c,st,N,d,rfl,_⟩:=h;rfl
 ·obtain⟨o,t,c,st,N,d,rfl,hc,I,hN,hd,hdc,q⟩:=h;obtain⟨dx,aM,aP,aA,aD,aF,aE,aR,ms,ds,ws,fs,es,X⟩:=hc.ex;have hu1:=hr.u1;have jM:Room 6 _:=hr;have FC:Room 3 _:=hr.mono (by decide)
  have je:Room 4 _:=hr.mono (by decide)
  have lim:ka=16777216:=by decide
  refine⟨_,(a9 (l4 (vL (px (pv 0)) T.aq T.eS kO jM T.b8 (pax (aa (pv 1) ah))))
 (a9 (psx (a8 (i:=2) qU.nd rfl (adm rfl) (a6 d6 (cI Dq (by rfl) T.q9 lZ (aa (bj (pv 0) rfl) ah)) af)))
 (a9 (psx (hZ hu1 (bj (pv 0) rfl) (pv 2) (aV GU FC rfl T.yH T.ny.kp T.yG .nil aY (aa (pv 1) ah)) rfl))
 (a9 (psx (bJ (gR rf ajU ajV cU (bj (pv 0) rfl) (aa (pv 2) ah))))
 (a9 (psx (a5 (ay bu (aJ aL (pv 1) af (λ_ _=>rfl)) ao (aN _))
 (ai (hZ hu1 (bj (pv 0) rfl) (pv 2) (eh eT (by rfl) T.sG qm (aa (aJ aL (pv 1) af (λ_ _=>rfl)) ah)) rfl)
 (aj (hZ hu1 (bj (pv 0) rfl) (pv 2) (bR ah) rfl)))
 aH))
 (a9 (psx (bJ (gR rf ajU ajV cU (bj (pv 0) rfl) (aa (aV kK je rfl T.nA T.kD.kp T.nz .nil aY (aa (pv 1) ah)) ah))))
 (bD (psx (aC (pv 2)))))))))),?_⟩
  unfold pS at q;refine mtv rfl X.ob (cZ (by decide +kernel)) ⟨_,rfl,o,t,c,st,N,d,rfl,hc,I,hN,hd,hdc,λSI H1 s1=>?_,λx hx C e H1 s1 hat=>?_⟩
  case refine_2 =>
   rw[hx]at q;exact q (cx c H) H1 C e (Step.cl aU s1) (X.cl s1).at hat.1 (λa z=>bO (hat.2 a z))
  refine hide λGg hGg=>?_
  rw[SI]at q;have aaL:=Wx I hd SI;have X1:=X.same s1;have st1:Step (dv i) c c H H1:=Step.same aU s1;have Wy:=hdc.step st1;obtain⟨v,ht,hv0,hv1⟩:=wO hd Wy;obtain⟨m,em⟩:∃m,m=d3 d:=⟨_,rfl⟩;rw[<-em]at ht hv0 hv1 q;have lm:=I.lm;have lr:=I.lr;have ml:=X1.mot.len;have lp:=I.pil.GP;rw[bo]at lp;have el:(a7 ((aj5 1 st.made.length).zip (ms.map V.ref))).length=st.made.length:=by
   unfold a7;rw[bo,akJ,aku,bo,<-ml,Nat.min_self]
  have en:(((a7 ((aj5 1 st.made.length).zip (ms.map V.ref))).length:Nat):Int)+1=((st.made.length+1:Nat):Int):=by rw[el];omega
  refine hGg ?_;refine eQ rfl X1.ob T.aq T.jq2 hG ⟨aM,_,rfl,X1.made.2,_,_,rfl,rfl,?_⟩;dsimp only[fj];rw[en];refine⟨_,rfl,Qt ht hv0 hv1 λmo H2 s2 hmo=>?_⟩
  have X2:=X1.cl s2;have st2:Step (dv i) c (cx c H1) H1 H2:=Step.cl aU s2;refine eQ rfl X2.ob T.aq T.jq2 hG ⟨_,rfl,aM,_,rfl,oI.k (k:=km ((st.made.length+1:Nat):Int)) X2.made.2 (by omega),?_⟩
  obtain⟨st3,X3⟩:=X2.Su hmo;have Wz:=st2.trans st3.g9;generalize upd H2 aM (.dK (putK (a7 ((aj5 1 st.made.length).zip (ms.map V.ref))) (km ((st.made.length+1:Nat):Int)) (.ref mo)))=H3 at Wz X3 ⊢;clear hmo st2 X2;generalize cx c H1=c3 at Wz X3;refine eQ rfl X3.ob T.aq T.jq0 eN ⟨.inl ⟨rfl,_,SqL.of X3.au.2⟩,_,rfl,aP,_,_,rfl,rfl,X3.au.2,by rw[bo];show st.au.length < _;omega,?_⟩
  obtain⟨st4,X4⟩:=X3.push (st.made.length+1);have aaM:=Wz.trans st4.g9;have X4':ChX A i c3 (upd H3 aP (.lst (st.au.map nV++[V.int ((st.made.length+1:Nat):Int)]))) o { st with made:=st.made++[m],au:=st.au++[st.made.length+1] } dx aM aP aA aD aF aE aR (ms++[mo]) ds ws fs es:=X4
  have D1:Step (dv i) c c3 H1 (upd H3 aP (.lst (st.au.map nV++[V.int ((st.made.length+1:Nat):Int)]))):=aaM;clear X4 aaM st4;generalize upd H3 aP (.lst (st.au.map nV++[V.int ((st.made.length+1:Nat):Int)]))=H4 at X4' D1 ⊢;have nf:st.made.length+1∉st.wJ:=λz=>by
   have:=(List.mem_filter.mp z).1;rw[akH]at this;omega
  have ht4:=ht.step D1
  by_cases h0:m.k=0
  ·obtain⟨L,tx,rfl,rfl,hL⟩:=hv0 h0;have hL4:=hL.step D1;refine ixv rfl (SqT.of ht4.2) rfl ⟨rfl,tst (sU 0 (by decide)) ?_⟩
   refine ixv rfl (SqT.of ht4.2) rfl ⟨L,_,rfl,.inl (SqL.of hL4.2),λp hp=>?_⟩
   have lf:st.firsts.length=fs.length:=X4'.first.len;have lff:st.firsts.length<=st.made.length:=by
    have:=congrArg List.length I.ff;rw[bo]at this;rw[this];exact tm (List.length_filter_le _ _) (by rw[aku];exact kq _)
   have lkk:st.kept.length<=st.made.length:=by
    have:=congrArg List.length I.kk;rw[bo]at this;rw[this];exact tm (List.length_filter_le _ _) (by rw[aku];exact kq _)
   have sp:=aG (o:=.lst (tx.map V.str)) hp;refine eQ rfl (sp _ _ X4'.ob) T.aq T.jqb zf ⟨_,rfl,aF,_,rfl,oI.k (k:=km ((st.made.length+1:Nat):Int)) (sp _ _ X4'.firsts.2) ?_,?_⟩
   ·unfold a7;rw[bo,akJ,bo];show min st.firsts.length _ < _;omega
   obtain⟨st5,X5⟩:=X4'.Qf (tx:=tx) hp (n:=st.made.length+1) (by show _∉st.firsts.map (·.1);rw[I.ff];exact nf)
   have X5':ChX A i (az c3 p (some (i,.cM (st.made.length+1)))) (upd (upd H4 p (.lst (tx.map V.str))) aF (.dK (putK (a7 ((st.firsts.map (·.1)).zip fs)) (km ((st.made.length+1:Nat):Int)) (.ref p)))) o { st with made:=st.made++[.mat tx],au:=st.au++[st.made.length+1],firsts:=st.firsts++[(st.made.length+1,tx)] } dx aM aP aA aD aF aE aR (ms++[mo]) ds ws (fs++[.ref p]) es:=X5
   have WA:Step (dv i) c (az c3 p (some (i,.cM (st.made.length+1)))) H1 (upd (upd H4 p (.lst (tx.map V.str))) aF (.dK (putK (a7 ((st.firsts.map (·.1)).zip fs)) (km ((st.made.length+1:Nat):Int)) (.ref p)))):=D1.trans st5.g9
   clear X5 st5;generalize az c3 p (some (i,.cM (st.made.length+1)))=c5 at X5' WA;generalize upd (upd H4 p (.lst (tx.map V.str))) aF (.dK (putK (a7 ((st.firsts.map (·.1)).zip fs)) (km ((st.made.length+1:Nat):Int)) (.ref p)))=H5 at X5' WA ⊢
   refine⟨(sl 0),λp2 hp2=>?_⟩
   have sp2:=aG (o:=.lst []) hp2;refine eQ rfl (sp2 _ _ X5'.ob) T.aq T.jq5 sS ⟨_,rfl,aE,_,rfl,oI.k (k:=km ((st.made.length+1:Nat):Int)) (sp2 _ _ X5'.kH.2) ?_,?_⟩
   ·unfold a7;rw[bo,akJ,bo];show min st.kept.length _ < _;omega
   obtain⟨st6,X6⟩:=X5'.Sv hp2 (n:=st.made.length+1) (by show _∉st.kept.map (·.1);rw[I.kk];exact nf)
   have aaN:=WA.trans st6.g9;have WB:=Wy.step aaN;refine eQ rfl X6.ob T.aq T.jqk wD ⟨.inl ⟨rfl,_,SqL.of X6.rows.2⟩,_,rfl,t,d,rfl,WB.at,aaL,λH7 s7=>?_⟩
   have X7:=X6.same s7;obtain⟨st8,X8⟩:=X7.row (R.rF d);refine⟨aR,_,_,rfl,rfl,X7.rows.2,by rw[bo];show st.rows.length < _;omega,_,rfl,?_⟩
   exact q _ _ (((st1.trans aaN).trans (Step.same aU s7)).trans st8.g9) X8.at
  ·refine ixv rfl (SqT.of ht4.2) cE ⟨rfl,tsf ((sU m.k m.k8).trans (decide_eq_false h0)) ?_⟩;have WB:=Wy.step D1;refine eQ rfl X4'.ob T.aq T.jqk wD ⟨.inl ⟨rfl,_,SqL.of X4'.rows.2⟩,_,rfl,t,d,rfl,WB.at,aaL,λH7 s7=>?_⟩
   have X7:=X4'.same s7;obtain⟨st8,X8⟩:=X7.row (R.rF d);refine⟨aR,_,_,rfl,rfl,X7.rows.2,by rw[bo];show st.rows.length < _;omega,_,rfl,?_⟩
   have e8:st.moved m (R.rF d)={ st with made:=st.made++[m],au:=st.au++[st.made.length+1],rows:=st.rows++[R.rF d] }:=by
    unfold Ch.moved;cases m with
    |mat tx=>exact absurd rfl h0
    |_=>rfl
   rw[e8]at q;exact q _ _ (((st1.trans D1).trans (Step.same aU s7)).trans st8.g9) X8.at
end
end My
set_option maxHeartbeats 1000000
namespace My
open PySem L2
seal PySem.wpAny
def MI (n:Int):Ch:=⟨n,1,false,[],[],[],[],[],[],[]⟩
def Ue (A:Adr):Sp:=λvs H Q _=>∃(o dx:Addr) (n:Int),vs=[.ref o,.int n]/\H o=some (.ins A.ax dx []) /\
 ∀H',(∀(i:Nat) (c:Col),∃c',(∀a v,H a=some v->a≠o->H' a=some v/\c' a=c a)/\fb A i c' H' o (MI n))->Q .non H'
theorem hJ {f:Str}{v:V}:∀ {fs:List (Str×V)},f∉fs.map (·.1)->f7 f v fs=fs++[(f,v)]
 |[],_=>rfl
 | (g,x)::r,h=>by
  rw[f7,if_neg (λz=>h (by rw[<-z];exact fu)),hJ λz=>h (ky _ z)]
  rfl
theorem nxt {H:Hp}{o a C dx:Addr}{fs fs':List (Str×V)}{v:HO}(ho:H o=some (.ins C dx fs))(ha:H a=none) :
  (upd (upd H a v) o (.ins C dx fs')) a=some v/\(upd (upd H a v) o (.ins C dx fs')) o=some (.ins C dx fs')/\a≠o/\∀b u,H b=some u->b≠o->(upd (upd H a v) o (.ins C dx fs')) b=some u/\b≠a:=by
 have na:a≠o:=(aI ho ha).symm;refine⟨(av na).trans ae,ae,na,λb u hb hbo=>?_⟩
 have nb:b≠a:=aI hb ha;exact⟨(av hbo).trans ((av nb).trans hb),nb⟩
section
variable{P:me}{w:World}{K:ba}{mg:Str->Option Value}{base:Heap}{A:Adr}
theorem WC (T:Txt w.params K mg A):aK P w K mg base CX0 2 A.cc A.ib ["self","seats"] (Ue A):=by
 refine T.gh.ok y6 (λvs H Q E h=>?_) (λcdv A' outer s H vs Q E hr h=>?_)
 ·obtain⟨o,dx,n,rfl,_⟩:=h;rfl
 ·obtain⟨o,dx,n,rfl,ho,q⟩:=h;refine⟨_,(ai (ef (pv 0) (pv 1) rfl)
 (ai (ef (pv 0) af rfl)
 (ai (ef (pv 0) gb rfl)
 (ai (ef (pv 0) oJ rfl)
 (ai (ef (pv 0) (bR ah) rfl)
 (ai (ef (pv 0) oJ rfl)
 (ai (ef (pv 0) (bR ah) rfl)
 (ai (ef (pv 0) oJ rfl)
 (ai (ef (pv 0) oJ rfl)
 (aj (ef (pv 0) (bR ah) rfl))))))))))),?_⟩
  refine⟨_,rfl,_,rfl,o,A.ax,dx,_,rfl,ho,T.aq,T.jqq,(by show 0 < 1000;decide),?_⟩
  refine⟨_,rfl,o,A.ax,dx,_,rfl,ae,T.aq,T.jq1,(by show 1 < 1000;decide),?_⟩
  rw[nc];refine⟨_,rfl,o,A.ax,dx,_,rfl,ae,T.aq,T.jq4,(by show 2 < 1000;decide),?_⟩
  rw[nc];have e0:f7 (ar "closed") (V.bl false) (f7 (ar "sitting") (V.int 1) (f7 (ar "seats") (V.int n) []))=[(ar "seats",V.int n),(ar "sitting",V.int 1),(ar "closed",V.bl false)]:=by
   have f1:f7 (ar "seats") (V.int n) []=[(ar "seats",V.int n)]:=rfl;have f2:f7 (ar "sitting") (V.int 1) [(ar "seats",V.int n)]=[(ar "seats",V.int n),(ar "sitting",V.int 1)]:=hJ (by show _∉[ar "seats"];decide +kernel)
   rw[f1,f2];exact hJ (by show _∉[ar "seats",ar "sitting"];decide +kernel)
  rw[e0];have o0:(upd H o (.ins A.ax dx [(ar "seats",V.int n),(ar "sitting",V.int 1),(ar "closed",V.bl false)])) o=some (.ins A.ax dx [(ar "seats",V.int n),(ar "sitting",V.int 1),(ar "closed",V.bl false)]):=ae;have k0:∀b u,H b=some u->b≠o->(upd H o (.ins A.ax dx [(ar "seats",V.int n),(ar "sitting",V.int 1),(ar "closed",V.bl false)])) b=some u:=λb u hb hbo=>(av hbo).trans hb
  generalize upd H o (.ins A.ax dx [(ar "seats",V.int n),(ar "sitting",V.int 1),(ar "closed",V.bl false)])=H0 at o0 k0 ⊢;refineλaM zaM=>?_
  have naM:o≠aM:=aI o0 zaM;refine⟨_,rfl,o,A.ax,dx,_,rfl,(av naM).trans o0,T.aq,T.jq2,(by show 3 < 1000;decide),?_⟩
  have e1:f7 (ar "made") (V.ref aM) [(ar "seats",V.int n),(ar "sitting",V.int 1),(ar "closed",V.bl false)]=[(ar "seats",V.int n),(ar "sitting",V.int 1),(ar "closed",V.bl false),(ar "made",V.ref aM)]:=hJ (by show _∉[ar "seats",ar "sitting",ar "closed"];decide +kernel)
  rw[e1];refine hide λGg hGg=>?_
  obtain⟨yaM,o1,_,waM⟩:=nxt (v:=.dK []) (fs':=[(ar "seats",V.int n),(ar "sitting",V.int 1),(ar "closed",V.bl false),(ar "made",V.ref aM)]) o0 zaM;have k1:=λb u (hb:H b=some u) (hbo:b≠o)=>waM b u (k0 b u hb hbo) hbo
  refine hGg ?_;generalize upd (upd H0 aM (.dK [])) o (.ins A.ax dx [(ar "seats",V.int n),(ar "sitting",V.int 1),(ar "closed",V.bl false),(ar "made",V.ref aM)])=H1 at o1 k1 waM yaM ⊢;clear waM;refine⟨(sl 0),λaP zaP=>?_⟩
  have naP:o≠aP:=aI o1 zaP;refine⟨_,rfl,o,A.ax,dx,_,rfl,(av naP).trans o1,T.aq,T.jq0,(by show 4 < 1000;decide),?_⟩
  have e2:f7 (ar "pile") (V.ref aP) [(ar "seats",V.int n),(ar "sitting",V.int 1),(ar "closed",V.bl false),(ar "made",V.ref aM)]=[(ar "seats",V.int n),(ar "sitting",V.int 1),(ar "closed",V.bl false),(ar "made",V.ref aM),(ar "pile",V.ref aP)]:=hJ (by show _∉[ar "seats",ar "sitting",ar "closed",ar "made"];decide +kernel)
  rw[e2];refine hide λGg hGg=>?_
  obtain⟨yaP,o2,_,waP⟩:=nxt (v:=.lst []) (fs':=[(ar "seats",V.int n),(ar "sitting",V.int 1),(ar "closed",V.bl false),(ar "made",V.ref aM),(ar "pile",V.ref aP)]) o1 zaP;obtain⟨yaM,aaO⟩:=waP _ _ yaM (ajZ naM);have k2:=λb u (hb:H b=some u) (hbo:b≠o)=>waP b u ((k1 b u hb hbo).1) hbo
  refine hGg ?_;generalize upd (upd H1 aP (.lst [])) o (.ins A.ax dx [(ar "seats",V.int n),(ar "sitting",V.int 1),(ar "closed",V.bl false),(ar "made",V.ref aM),(ar "pile",V.ref aP)])=H2 at o2 k2 waP yaM yaP ⊢;clear waP;refineλaA zaA=>?_
  have naA:o≠aA:=aI o2 zaA;refine⟨_,rfl,o,A.ax,dx,_,rfl,(av naA).trans o2,T.aq,T.jq3,(by show 5 < 1000;decide),?_⟩
  have e3:f7 (ar "aside") (V.ref aA) [(ar "seats",V.int n),(ar "sitting",V.int 1),(ar "closed",V.bl false),(ar "made",V.ref aM),(ar "pile",V.ref aP)]=[(ar "seats",V.int n),(ar "sitting",V.int 1),(ar "closed",V.bl false),(ar "made",V.ref aM),(ar "pile",V.ref aP),(ar "aside",V.ref aA)]:=hJ (by show _∉[ar "seats",ar "sitting",ar "closed",ar "made",ar "pile"];decide +kernel)
  rw[e3];refine hide λGg hGg=>?_
  obtain⟨yaA,o3,_,waA⟩:=nxt (v:=.dK []) (fs':=[(ar "seats",V.int n),(ar "sitting",V.int 1),(ar "closed",V.bl false),(ar "made",V.ref aM),(ar "pile",V.ref aP),(ar "aside",V.ref aA)]) o2 zaA;obtain⟨yaM,aaP⟩:=waA _ _ yaM (ajZ naM);obtain⟨yaP,aaQ⟩:=waA _ _ yaP (ajZ naP);have k3:=λb u (hb:H b=some u) (hbo:b≠o)=>waA b u ((k2 b u hb hbo).1) hbo
  refine hGg ?_;generalize upd (upd H2 aA (.dK [])) o (.ins A.ax dx [(ar "seats",V.int n),(ar "sitting",V.int 1),(ar "closed",V.bl false),(ar "made",V.ref aM),(ar "pile",V.ref aP),(ar "aside",V.ref aA)])=H3 at o3 k3 waA yaM yaP yaA ⊢;clear waA;refine⟨(sl 0),λaD zaD=>?_⟩
  have naD:o≠aD:=aI o3 zaD;refine⟨_,rfl,o,A.ax,dx,_,rfl,(av naD).trans o3,T.aq,T.jqj,(by show 6 < 1000;decide),?_⟩
  have e4:f7 (ar "decided") (V.ref aD) [(ar "seats",V.int n),(ar "sitting",V.int 1),(ar "closed",V.bl false),(ar "made",V.ref aM),(ar "pile",V.ref aP),(ar "aside",V.ref aA)]=[(ar "seats",V.int n),(ar "sitting",V.int 1),(ar "closed",V.bl false),(ar "made",V.ref aM),(ar "pile",V.ref aP),(ar "aside",V.ref aA),(ar "decided",V.ref aD)]:=hJ (by show _∉[ar "seats",ar "sitting",ar "closed",ar "made",ar "pile",ar "aside"];decide +kernel)
  rw[e4];refine hide λGg hGg=>?_
  obtain⟨yaD,o4,_,waD⟩:=nxt (v:=.lst []) (fs':=[(ar "seats",V.int n),(ar "sitting",V.int 1),(ar "closed",V.bl false),(ar "made",V.ref aM),(ar "pile",V.ref aP),(ar "aside",V.ref aA),(ar "decided",V.ref aD)]) o3 zaD;obtain⟨yaM,aaR⟩:=waD _ _ yaM (ajZ naM);obtain⟨yaP,aaS⟩:=waD _ _ yaP (ajZ naP);obtain⟨yaA,aaT⟩:=waD _ _ yaA (ajZ naA);have k4:=λb u (hb:H b=some u) (hbo:b≠o)=>waD b u ((k3 b u hb hbo).1) hbo
  refine hGg ?_;generalize upd (upd H3 aD (.lst [])) o (.ins A.ax dx [(ar "seats",V.int n),(ar "sitting",V.int 1),(ar "closed",V.bl false),(ar "made",V.ref aM),(ar "pile",V.ref aP),(ar "aside",V.ref aA),(ar "decided",V.ref aD)])=H4 at o4 k4 waD yaM yaP yaA yaD ⊢;clear waD;refineλaF zaF=>?_
  have naF:o≠aF:=aI o4 zaF;refine⟨_,rfl,o,A.ax,dx,_,rfl,(av naF).trans o4,T.aq,T.jqb,(by show 7 < 1000;decide),?_⟩
  have e5:f7 (ar "first_texts") (V.ref aF) [(ar "seats",V.int n),(ar "sitting",V.int 1),(ar "closed",V.bl false),(ar "made",V.ref aM),(ar "pile",V.ref aP),(ar "aside",V.ref aA),(ar "decided",V.ref aD)]=[(ar "seats",V.int n),(ar "sitting",V.int 1),(ar "closed",V.bl false),(ar "made",V.ref aM),(ar "pile",V.ref aP),(ar "aside",V.ref aA),(ar "decided",V.ref aD),(ar "first_texts",V.ref aF)]:=hJ (by show _∉[ar "seats",ar "sitting",ar "closed",ar "made",ar "pile",ar "aside",ar "decided"];decide +kernel)
  rw[e5];refine hide λGg hGg=>?_
  obtain⟨yaF,o5,_,waF⟩:=nxt (v:=.dK []) (fs':=[(ar "seats",V.int n),(ar "sitting",V.int 1),(ar "closed",V.bl false),(ar "made",V.ref aM),(ar "pile",V.ref aP),(ar "aside",V.ref aA),(ar "decided",V.ref aD),(ar "first_texts",V.ref aF)]) o4 zaF;obtain⟨yaM,aaU⟩:=waF _ _ yaM (ajZ naM);obtain⟨yaP,aaV⟩:=waF _ _ yaP (ajZ naP);obtain⟨yaA,aaW⟩:=waF _ _ yaA (ajZ naA);obtain⟨yaD,aaX⟩:=waF _ _ yaD (ajZ naD);have k5:=λb u (hb:H b=some u) (hbo:b≠o)=>waF b u ((k4 b u hb hbo).1) hbo
  refine hGg ?_;generalize upd (upd H4 aF (.dK [])) o (.ins A.ax dx [(ar "seats",V.int n),(ar "sitting",V.int 1),(ar "closed",V.bl false),(ar "made",V.ref aM),(ar "pile",V.ref aP),(ar "aside",V.ref aA),(ar "decided",V.ref aD),(ar "first_texts",V.ref aF)])=H5 at o5 k5 waF yaM yaP yaA yaD yaF ⊢;clear waF;refineλaE zaE=>?_
  have naE:o≠aE:=aI o5 zaE;refine⟨_,rfl,o,A.ax,dx,_,rfl,(av naE).trans o5,T.aq,T.jq5,(by show 8 < 1000;decide),?_⟩
  have e6:f7 (ar "edits_kept") (V.ref aE) [(ar "seats",V.int n),(ar "sitting",V.int 1),(ar "closed",V.bl false),(ar "made",V.ref aM),(ar "pile",V.ref aP),(ar "aside",V.ref aA),(ar "decided",V.ref aD),(ar "first_texts",V.ref aF)]=[(ar "seats",V.int n),(ar "sitting",V.int 1),(ar "closed",V.bl false),(ar "made",V.ref aM),(ar "pile",V.ref aP),(ar "aside",V.ref aA),(ar "decided",V.ref aD),(ar "first_texts",V.ref aF),(ar "edits_kept",V.ref aE)]:=hJ (by show _∉[ar "seats",ar "sitting",ar "closed",ar "made",ar "pile",ar "aside",ar "decided",ar "first_texts"];decide +kernel)
  rw[e6];refine hide λGg hGg=>?_
  obtain⟨yaE,o6,_,waE⟩:=nxt (v:=.dK []) (fs':=[(ar "seats",V.int n),(ar "sitting",V.int 1),(ar "closed",V.bl false),(ar "made",V.ref aM),(ar "pile",V.ref aP),(ar "aside",V.ref aA),(ar "decided",V.ref aD),(ar "first_texts",V.ref aF),(ar "edits_kept",V.ref aE)]) o5 zaE;obtain⟨yaM,aaY⟩:=waE _ _ yaM (ajZ naM);obtain⟨yaP,aaZ⟩:=waE _ _ yaP (ajZ naP);obtain⟨yaA,aa0⟩:=waE _ _ yaA (ajZ naA);obtain⟨yaD,aa1⟩:=waE _ _ yaD (ajZ naD);obtain⟨yaF,aa2⟩:=waE _ _ yaF (ajZ naF);have k6:=λb u (hb:H b=some u) (hbo:b≠o)=>waE b u ((k5 b u hb hbo).1) hbo
  refine hGg ?_;generalize upd (upd H5 aE (.dK [])) o (.ins A.ax dx [(ar "seats",V.int n),(ar "sitting",V.int 1),(ar "closed",V.bl false),(ar "made",V.ref aM),(ar "pile",V.ref aP),(ar "aside",V.ref aA),(ar "decided",V.ref aD),(ar "first_texts",V.ref aF),(ar "edits_kept",V.ref aE)])=H6 at o6 k6 waE yaM yaP yaA yaD yaF yaE ⊢;clear waE;refine⟨(sl 0),λaR zaR=>?_⟩
  have naR:o≠aR:=aI o6 zaR;refine⟨_,rfl,o,A.ax,dx,_,rfl,(av naR).trans o6,T.aq,T.jqk,(by show 9 < 1000;decide),?_⟩
  have e7:f7 (ar "rows") (V.ref aR) [(ar "seats",V.int n),(ar "sitting",V.int 1),(ar "closed",V.bl false),(ar "made",V.ref aM),(ar "pile",V.ref aP),(ar "aside",V.ref aA),(ar "decided",V.ref aD),(ar "first_texts",V.ref aF),(ar "edits_kept",V.ref aE)]=[(ar "seats",V.int n),(ar "sitting",V.int 1),(ar "closed",V.bl false),(ar "made",V.ref aM),(ar "pile",V.ref aP),(ar "aside",V.ref aA),(ar "decided",V.ref aD),(ar "first_texts",V.ref aF),(ar "edits_kept",V.ref aE),(ar "rows",V.ref aR)]:=hJ (by show _∉[ar "seats",ar "sitting",ar "closed",ar "made",ar "pile",ar "aside",ar "decided",ar "first_texts",ar "edits_kept"];decide +kernel)
  rw[e7];refine hide λGg hGg=>?_
  obtain⟨yaR,o7,_,waR⟩:=nxt (v:=.lst []) (fs':=[(ar "seats",V.int n),(ar "sitting",V.int 1),(ar "closed",V.bl false),(ar "made",V.ref aM),(ar "pile",V.ref aP),(ar "aside",V.ref aA),(ar "decided",V.ref aD),(ar "first_texts",V.ref aF),(ar "edits_kept",V.ref aE),(ar "rows",V.ref aR)]) o6 zaR;obtain⟨yaM,aa3⟩:=waR _ _ yaM (ajZ naM);obtain⟨yaP,aa4⟩:=waR _ _ yaP (ajZ naP);obtain⟨yaA,aa5⟩:=waR _ _ yaA (ajZ naA);obtain⟨yaD,aa6⟩:=waR _ _ yaD (ajZ naD);obtain⟨yaF,aa7⟩:=waR _ _ yaF (ajZ naF);obtain⟨yaE,aa8⟩:=waR _ _ yaE (ajZ naE);have k7:=λb u (hb:H b=some u) (hbo:b≠o)=>waR b u ((k6 b u hb hbo).1) hbo
  refine hGg ?_;generalize upd (upd H6 aR (.lst [])) o (.ins A.ax dx [(ar "seats",V.int n),(ar "sitting",V.int 1),(ar "closed",V.bl false),(ar "made",V.ref aM),(ar "pile",V.ref aP),(ar "aside",V.ref aA),(ar "decided",V.ref aD),(ar "first_texts",V.ref aF),(ar "edits_kept",V.ref aE),(ar "rows",V.ref aR)])=H7 at o7 k7 waR yaM yaP yaA yaD yaF yaE yaR ⊢;clear waR;refine q H7 λi c=>⟨az (az (az (az (az (az (az (az c o (some (i,Rl.ob))) aM (some (i,Rl.made))) aP (some (i,Rl.au))) aA (some (i,Rl.aB))) aD (some (i,Rl.decided))) aF (some (i,Rl.firsts))) aE (some (i,Rl.kept))) aR (some (i,Rl.rows)),λb u hb hbo=>⟨(k7 b u hb hbo).1,?_⟩,⟨dx,aM,aP,aA,aD,aF,aE,aR,[],[],[],[],[],?_⟩⟩
  ·rw[aw (k7 b u hb hbo).2,aw (k6 b u hb hbo).2,aw (k5 b u hb hbo).2,aw (k4 b u hb hbo).2,aw (k3 b u hb hbo).2,aw (k2 b u hb hbo).2,aw (k1 b u hb hbo).2,aw hbo]
  ·exact⟨by rw[aw naR,aw naE,aw naF,aw naD,aw naA,aw naP,aw naM,aW],o7,⟨by rw[aw aa3,aw aaY,aw aaU,aw aaR,aw aaP,aw aaO,aW],yaM⟩,.nil,⟨by rw[aw aa4,aw aaZ,aw aaV,aw aaS,aw aaQ,aW],yaP⟩,⟨by rw[aw aa5,aw aa0,aw aaW,aw aaT,aW],yaA⟩,.nil,⟨by rw[aw aa6,aw aa1,aw aaX,aW],yaD⟩,.nil,⟨by rw[aw aa7,aw aa2,aW],yaF⟩,.nil,⟨by rw[aw aa8,aW],yaE⟩,.nil,⟨by rw[aW],yaR⟩⟩
end
end My
set_option maxHeartbeats 1000000
namespace My
open PySem L2
seal PySem.wpAny
def aa9 (A:Adr)(i:Nat):Sp:=λvs H Q _=>∃(o:Addr) (n:Nat) (c:Col) (st:Ch) (x:Nat×Int×List Nat),vs=[.ref o,nV n]/\fb A i c H o st/\at1 n st.aB=some x /\
 ∀l u H',H l=none->H u=none->br H H'->H' l=some (.lst (x.2.2.map nV))->H' u=some (.tup [nV n,.int x.2.1,.ref l])->Q (.ref u) H'
def gz (ns:List Nat):PyData:=.list (ns.map λn:Nat=>.int (n:Int))
def asD (x:Nat×Int×List Nat):PyData:=.tuple [.int (x.1:Int),.int x.2.1,gz x.2.2]
def dcD (x:Nat×Str):PyData:=.tuple [.int (x.1:Int),.str x.2]
def FD (st:Ch)(n:Int):Nat×Int×List Nat:=(at1 n.toNat st.aB).getD (0,0,[])
def stD (st:Ch)(ns:List Int):PyData:=.tuple [.int st.aQ,.bool st.closed,gz st.au,.list (ns.map λn=>asD (FD st n)),.list (st.decided.map dcD)]
theorem MJ {α:Type}{K:ba}{H:Hp}{f:α->PyData}{g:α->V}:∀ {xs:List α},(∀x∈xs,DV K H (f x) (g x))->DVs K H (xs.map f) (xs.map g)
 |[],_=>by unfold DVs;rfl
 |x::xs,h=>by
  rw[kj,kj];unfold DVs;exact⟨g x,xs.map g,rfl,h x fu,MJ λy hy=>h y (ky _ hy)⟩
theorem lF {K:ba}{H:Hp}{a:Addr}{ns:List Nat}(h:SqL K H a (ns.map nV)):DV K H (gz ns) (.ref a):=by
 unfold gz DV;exact⟨a,_,rfl,h,MJ (f:=λn:Nat=>PyData.int (n:Int)) (g:=nV) λn _=>by unfold DV;rfl⟩
theorem bI.dvs {α:Type}{K:ba}{H:Hp}{f:α->PyData}{R:α->V->Prop}(g:∀x v,R x v->DV K H (f x) v):∀ {xs:List α} {vs:List V},bI R xs vs->DVs K H (xs.map f) vs
 |_,_,.nil=>by unfold DVs;rfl
 |_,_,.cons h t=>by
  rw[kj];unfold DVs;exact⟨_,_,rfl,g _ _ h,t.dvs g⟩
theorem bI.mapR {α β γ:Type}{R:α->γ->Prop}{f:β->γ}:∀ {xs:List α} {ys:List β},bI (λa b=>R a (f b)) xs ys->bI R xs (ys.map f)
 |_,_,.nil=>.nil
 |_,_,.cons h t=>.cons h t.mapR
def Nu (H:Hp)(R:Addr)(x:Nat×Int×List Nat)(v:V):Prop:=∃u l,v=.ref u/\u≠R/\l≠R/\H u=some (.tup [nV x.1,.int x.2.1,.ref l])/\H l=some (.lst (x.2.2.map nV))
theorem Nu.same {H H':Hp}{R:Addr}{x:Nat×Int×List Nat}{v:V}(s:br H H'):Nu H R x v->Nu H' R x v
 |⟨u,l,e,h1,h2,h3,h4⟩=>⟨u,l,e,h1,h2,s _ _ h3,s _ _ h4⟩
theorem Nu.upd {H:Hp}{R:Addr}{o:HO}{x:Nat×Int×List Nat}{v:V}:Nu H R x v->Nu (L2.upd H R o) R x v
 |⟨u,l,e,h1,h2,h3,h4⟩=>⟨u,l,e,h1,h2,(av h1).trans h3,(av h2).trans h4⟩
section
variable{P:me}{w:World}{K:ba}{mg:Str->Option Value}{base:Heap}{A:Adr}
theorem CW (T:Txt w.params K mg A){i:Nat}:aK P w K mg base CX0 1 A.bx A.dG ["self","number"] (aa9 A i):=by
 refine T.cT.ok jk (λvs H Q E h=>?_) (λcdv A' outer s H vs Q E hr h=>?_)
 ·obtain⟨o,n,c,st,x,rfl,_⟩:=h;rfl
 ·obtain⟨o,n,c,st,x,rfl,hc,hx,q⟩:=h;obtain⟨dx,aM,aP,aA,aD,aF,aE,aR,ms,ds,ws,fs,es,X⟩:=hc.ex;have hu1:=hr.u1;refine⟨_,(ai (a8 (i:=2) jk.nd rfl (adm rfl) (bc hu1 (bj (pv 0) rfl) (pv 1) (λ_ _=>rfl)))
 (aj (aC (bt (aa (pv 1) (aa (aJ aL (pv 2) af (λ_ _=>rfl)) (aa (eh eT (by rfl) T.sG qm (aa (aJ aL (pv 2) af (λ_ _=>rfl)) ah)) ah))))))),?_⟩
  refine hide λGg hGg=>?_
  obtain⟨t,p,hv,ht,hl⟩:=X.waitOf hx;refine hGg ?_;refine⟨_,rfl,o,A.ax,dx,_,.ref aA,rfl,X.ob,T.aq,T.jq3,jI,_,rfl,aA,_,rfl,.inl ⟨_,km (n:Int),.inl X.aB.2,rfl,hv.symm⟩,?_⟩;refine⟨_,rfl,_,rfl,t,_,_,_,rfl,rfl,ht.sq,rfl,_,rfl,t,_,_,_,rfl,rfl,ht.sq,rfl,p,_,rfl,.inl (SqL.of hl.2),λl hl0=>⟨(sl 3),λu hu=>?_⟩⟩
  have nul:u≠l:=λz=>by rw[z,ae]at hu;cases hu
  have hu0:H u=none:=by rw[av nul]at hu;exact hu
  exact q l u _ hl0 hu0 ((aG hl0).new hu) ((av (ajZ nul)).trans ae) ae
end
end My
set_option maxHeartbeats 1000000
namespace My
open PySem L2
seal PySem.wpAny
def iO (st:Ch):R.fq->Rs×Ch
 | .nums kd ns=>if kd=ar "vote" then nF st (ns.getD 0 0) (ns.getD 1 0) else if kd=ar "drop" then pR st else if kd=ar "take" then stepT st (ns.getD 0 0).toNat else pS st (d3 (.nums kd ns)) (R.rF (.nums kd ns))
 |d=>pS st (d3 d) (R.rF d)
inductive yf:R.fq->Prop
 |Ku {a b:Int}:(0<=a/\a < 10 ^ 10)->(0<=b/\b < 10 ^ 10)->yf (.nums (ar "vote") [a,b])
 |drop:yf (.nums (ar "drop") [])
 |take {z:Int}:-1<=z->z < 10 ^ 10->yf (.nums (ar "take") [z])
 |move {d:R.fq}:Fz d->yf d
theorem mI {st:Ch}{a b:Int}:iO st (.nums (ar "vote") [a,b])=nF st a b:=by rw[iO,if_pos rfl];rfl
theorem mJ {st:Ch}:iO st (.nums (ar "drop") [])=pR st:=by rw[iO,if_neg (by decide +kernel),if_pos rfl]
theorem mK {st:Ch}{z:Int}:iO st (.nums (ar "take") [z])=stepT st z.toNat:=by
 rw[iO,if_neg (by decide +kernel),if_neg (by decide +kernel),if_pos rfl]
 rfl
theorem mL {st:Ch}{d:R.fq}(h:Fz d):iO st d=pS st (d3 d) (R.rF d):=by
 cases d with
 |nums kd ns =>
  rcases wN h.1 with ⟨u,rfl,rfl⟩ | ⟨rfl,rfl⟩ | ⟨rfl,rfl⟩ | ⟨rfl,rfl⟩ <;> rw[iO,if_neg (by decide +kernel),if_neg (by decide +kernel),if_neg (by decide +kernel)]
 |_=>rfl
theorem Inv.iO {N:Nat}{st:Ch}(I:Inv N st)(hN:N<=800){d:R.fq}(h:yf d):Inv (N+3) (iO st d).2:=by
 cases h with
 |Ku=>rw[mI];exact I.nF hN _ _
 |drop=>rw[mJ];exact I.pR
 |take=>rw[mK];exact I.stepT _
 |move h=>rw[mL h];exact I.pS (Ks h) _
theorem fZ {W:Option (Nat×Rl)->Prop}{c c':Col}{H H':Hp}(s:Step W c c' H H'){a:Addr}{v:HO}(h:c a=none)(hv:H a=some v):c' a=none/\H' a=some v:=by
 have hn:¬W (c a):=by rw[h];exact s.nn
 exact⟨by rw[s.col a _ hv hn];exact h,s.keep _ _ hv hn⟩
def mdF (v0 v1 v2 v3 v4 v5:V):List (Key×V):=[(tu (ar "sitting"),v0),(tu (ar "closed"),v1),(tu (ar "pile"),v2),(tu (ar "aside"),v3),(tu (ar "decided"),v4),(tu (ar "motions"),v5)]
theorem key_ne {a b:Str}(h:a≠b){v:V}:¬((tu a,v):Key×V).1=(tu b:Key):=λz=>h (Sum.inr.inj z)
theorem B7 {kvs:List (Key×V)}{k:Key}{v y:V}(h:gD kvs k=some v):putK kvs k y=kvs.map (λkv=>if kv.1=k then (kv.1,y) else kv):=by
 unfold putK;rw[rX,h];exact if_pos rfl
section
variable{v0 v1 v2 v3 v4 v5 y:V}
theorem nH:gD (mdF v0 v1 v2 v3 v4 v5) (tu (ar "sitting"))=some v0:=et rfl
theorem B8:gD (mdF v0 v1 v2 v3 v4 v5) (tu (ar "closed"))=some v1:=(bQ (key_ne (by decide +kernel))).trans (et rfl)
theorem tf:gD (mdF v0 v1 v2 v3 v4 v5) (tu (ar "pile"))=some v2:=(bQ (key_ne (by decide +kernel))).trans ((bQ (key_ne (by decide +kernel))).trans (et rfl))
theorem yg:gD (mdF v0 v1 v2 v3 v4 v5) (tu (ar "aside"))=some v3:=(bQ (key_ne (by decide +kernel))).trans ((bQ (key_ne (by decide +kernel))).trans ((bQ (key_ne (by decide +kernel))).trans (et rfl)))
theorem yQ:gD (mdF v0 v1 v2 v3 v4 v5) (tu (ar "decided"))=some v4:=(bQ (key_ne (by decide +kernel))).trans ((bQ (key_ne (by decide +kernel))).trans ((bQ (key_ne (by decide +kernel))).trans ((bQ (key_ne (by decide +kernel))).trans (et rfl))))
theorem yR:gD (mdF v0 v1 v2 v3 v4 v5) (tu (ar "motions"))=some v5:=(bQ (key_ne (by decide +kernel))).trans ((bQ (key_ne (by decide +kernel))).trans ((bQ (key_ne (by decide +kernel))).trans ((bQ (key_ne (by decide +kernel))).trans ((bQ (key_ne (by decide +kernel))).trans (et rfl)))))
theorem GV:putK (mdF v0 v1 v2 v3 v4 v5) (tu (ar "sitting")) y=mdF y v1 v2 v3 v4 v5:=by
 rw[B7 nH];unfold mdF;simp only[kj,aki,if_neg (show ¬(tu (ar "closed"):Key)=tu (ar "sitting") by decide +kernel),if_neg (show ¬(tu (ar "pile"):Key)=tu (ar "sitting") by decide +kernel),if_neg (show ¬(tu (ar "aside"):Key)=tu (ar "sitting") by decide +kernel),if_neg (show ¬(tu (ar "decided"):Key)=tu (ar "sitting") by decide +kernel),if_neg (show ¬(tu (ar "motions"):Key)=tu (ar "sitting") by decide +kernel),if_true]
theorem B9:putK (mdF v0 v1 v2 v3 v4 v5) (tu (ar "closed")) y=mdF v0 y v2 v3 v4 v5:=by
 rw[B7 B8];unfold mdF;simp only[kj,aki,if_neg (show ¬(tu (ar "sitting"):Key)=tu (ar "closed") by decide +kernel),if_neg (show ¬(tu (ar "pile"):Key)=tu (ar "closed") by decide +kernel),if_neg (show ¬(tu (ar "aside"):Key)=tu (ar "closed") by decide +kernel),if_neg (show ¬(tu (ar "decided"):Key)=tu (ar "closed") by decide +kernel),if_neg (show ¬(tu (ar "motions"):Key)=tu (ar "closed") by decide +kernel),if_true]
theorem Ca:putK (mdF v0 v1 v2 v3 v4 v5) (tu (ar "pile")) y=mdF v0 v1 y v3 v4 v5:=by
 rw[B7 tf];unfold mdF;simp only[kj,aki,if_neg (show ¬(tu (ar "sitting"):Key)=tu (ar "pile") by decide +kernel),if_neg (show ¬(tu (ar "closed"):Key)=tu (ar "pile") by decide +kernel),if_neg (show ¬(tu (ar "aside"):Key)=tu (ar "pile") by decide +kernel),if_neg (show ¬(tu (ar "decided"):Key)=tu (ar "pile") by decide +kernel),if_neg (show ¬(tu (ar "motions"):Key)=tu (ar "pile") by decide +kernel),if_true]
end
def MnT (c:Col)(H:Hp)(m:Mn)(t:Addr):Prop:=c t=none/\∃v,H t=some (.tup (rowOf m.k v))/\m.Val c H v
theorem MnT.step {W:Option (Nat×Rl)->Prop}{c c':Col}{H H':Hp}{m:Mn}{t:Addr}(s:Step W c c' H H')(h:MnT c H m t):MnT c' H' m t:=by
 obtain⟨n,v,h,hv⟩:=h;have hn:¬W (c t):=by rw[n];exact s.nn
 exact⟨by rw[s.col t _ h hn];exact n,v,s.keep _ _ h hn,hv.step s⟩
def fS (st:Ch)(n:Nat):List Ed:=((at1 n st.kept).map (·.2)).getD []
def Cb (st:Ch)(n:Nat):Option (List Str):=(at1 n st.firsts).map (·.2)
abbrev Ent:=Nat×Mn×List Ed×Option (List Str)
def gS (st:Ch)(n:Nat):Ent:=(n,st.mo n,fS st n,Cb st n)
def iy (st:Ch):List Ent:=(aj5 1 st.made.length).map (gS st)
abbrev WD (i:Nat)(c:Col)(H:Hp)(x:Ent)(v:V):Prop:=∃(p t1 t2 k:Addr) (ts:List Addr),v=.ref p/\LstAt i c H (.cM x.1) p [.ref t1,.ref t2,.ref k]/\MnT c H x.2.1 t1/\(∀tx,x.2.2.2=some tx->MnT c H (.mat tx) t2)/\LstAt i c H (.gx x.1) k (ts.map V.ref)/\bI (λe t=>TupAt c H t (eK e)) x.2.2.1 ts
structure MdX (i:Nat)(c:Col)(H:Hp)(m:Addr)(st:Ch)(aP aA aD aM:Addr)(ds:List Addr)(ws es:List V):Prop where
 co:c m=some (i,.ob)
 ob:H m=some (.dK (mdF (.int st.aQ) (.bl st.closed) (.ref aP) (.ref aA) (.ref aD) (.ref aM)))
 au:LstAt i c H .au aP (st.au.map nV)
 aB:jm i c H .aB aA ((st.aB.map (·.1)).zip ws)
 wait:bI (Mv i c H) st.aB ws
 dec:LstAt i c H .decided aD (ds.map V.ref)
 mD:bI (λ(x:Nat×Str) t=>TupAt c H t [nV x.1,.str x.2]) st.decided ds
 lG:LstAt i c H .made aM es
 ent:bI (WD i c H) (iy st) es
structure ji (i:Nat)(c:Col)(H:Hp)(m:Addr)(st:Ch):Prop where
 ex:∃(aP aA aD aM:Addr) (ds:List Addr) (ws es:List V),MdX i c H m st aP aA aD aM ds ws es
section
variable{i:Nat}{p:Rl->Bool}{c c':Col}{H H':Hp}{m aP aA aD aM:Addr}{st:Ch}{ds:List Addr}{ws es:List V}
theorem MdX.at (X:MdX i c H m st aP aA aD aM ds ws es):ji i c H m st:=⟨_,_,_,_,_,_,_,X⟩
theorem GW {xs:List Ent}{vs:List V}(h1:∀x∈xs,p (.cM x.1)=false)(h2:∀x∈xs,p (.gx x.1)=false)(s:Step (Wr i p) c c' H H')(z:bI (WD i c H) xs vs):bI (WD i c' H') xs vs :=
 z.imp_mem λx m v ⟨q,t1,t2,k,ts,e,z1,z2,z3,z4,z5⟩=>⟨q,t1,t2,k,ts,e,z1.kp (h1 x m) s,z2.step s,λtx ht=>(z3 tx ht).step s,z4.kp (h2 x m) s,z5.imp λ_ _ y=>y.step s⟩
theorem MdX.free {W:Option (Nat×Rl)->Prop}(h:∀r,¬W (some (i,r)))(s:Step W c c' H H')(X:MdX i c H m st aP aA aD aM ds ws es):MdX i c' H' m st aP aA aD aM ds ws es:=by
 have hn:¬W (c m):=by rw[X.co];exact h _
 refine⟨by rw[s.col m _ X.ob hn];exact X.co,s.keep _ _ X.ob hn,X.au.keep (h _) s,X.aB.keep (h _) s,X.wait.imp ?_,X.dec.keep (h _) s,jb s X.mD,X.lG.keep (h _) s,X.ent.imp ?_⟩
 ·rintro x v ⟨t,p,e,z1,z2⟩;exact⟨t,p,e,z1.step s,z2.keep (h _) s⟩
 ·rintro x v ⟨q,t1,t2,k,ts,e,z1,z2,z3,z4,z5⟩;exact⟨q,t1,t2,k,ts,e,z1.keep (h _) s,z2.step s,λtx ht=>(z3 tx ht).step s,z4.keep (h _) s,z5.imp λ_ _ y=>y.step s⟩
theorem MdX.same (s:br H H')(X:MdX i c H m st aP aA aD aM ds ws es):MdX i c H' m st aP aA aD aM ds ws es:=X.free (W:=λ_=>False) (λ_=>id) (Step.same id s)
theorem MdX.cl (s:br H H')(X:MdX i c H m st aP aA aD aM ds ws es):MdX i (cx c H) H' m st aP aA aD aM ds ws es:=X.free (W:=λ_=>False) (λ_=>id) (Step.cl id s)
theorem ji.free {W:Option (Nat×Rl)->Prop}(h:∀r,¬W (some (i,r)))(s:Step W c c' H H')(X:ji i c H m st):ji i c' H' m st:=by
 obtain⟨aP,aA,aD,aM,ds,ws,es,X⟩:=X.ex;exact(X.free h s).at
theorem MdX.attr (X:MdX i c H m st aP aA aD aM ds ws es)(n:Int)(b:Bool) :
  Step (Wr i pOb) c c H (upd H m (.dK (mdF (.int n) (.bl b) (.ref aP) (.ref aA) (.ref aD) (.ref aM))))/\MdX i c (upd H m (.dK (mdF (.int n) (.bl b) (.ref aP) (.ref aA) (.ref aD) (.ref aM)))) m { st with aQ:=n,closed:=b } aP aA aD aM ds ws es:=by
 have s:Step (Wr i pOb) c c H (upd H m (.dK (mdF (.int n) (.bl b) (.ref aP) (.ref aA) (.ref aD) (.ref aM)))):=Step.upd Wr.nn (Wr.yes X.co rfl);exact⟨s,X.co,ae,X.au.kp rfl s,X.aB.kp rfl s,kJ (λ_ _=>rfl) s X.wait,X.dec.kp rfl s,jb s X.mD,X.lG.kp rfl s,GW (λ_ _=>rfl) (λ_ _=>rfl) s X.ent⟩
def aba:Rl->Bool | .au=>true | .decided=>true | _=>false
theorem MdX.pop (X:MdX i c H m st aP aA aD aM ds ws es){pre:List Nat}{n:Nat}{t:Addr}{wd:Str}(ht:(upd H aP (.lst (pre.map nV))) t=none) :
  Step (Wr i aba) c (az c t none) H (upd (upd (upd H aP (.lst (pre.map nV))) t (.tup [nV n,.str wd])) aD (.lst (ds.map V.ref++[.ref t]))) /\
  MdX i (az c t none) (upd (upd (upd H aP (.lst (pre.map nV))) t (.tup [nV n,.str wd])) aD (.lst (ds.map V.ref++[.ref t]))) m (st.popped pre n wd) aP aA aD aM (ds++[t]) ws es:=by
 have nt:∀ {a:Addr} {v:HO},H a=some v->a≠t:=by
  intro a v e z;subst z
  by_cases y:a=aP
  ·subst y;rw[ae]at ht;cases ht
  ·rw[av y,e]at ht;cases ht
 have nPD:aD≠aP:=dD X.dec.1 X.au.1 (λz=>nomatch z)
 have s:Step (Wr i aba) c (az c t none) H (upd (upd (upd H aP (.lst (pre.map nV))) t (.tup [nV n,.str wd])) aD (.lst (ds.map V.ref++[.ref t]))) :=
  ((Step.upd Wr.nn (Wr.yes X.au.1 rfl)).trans (Step.new Wr.nn ht)).trans (Step.upd Wr.nn ⟨.decided,by rw[aw (nt X.dec.2)];exact X.dec.1,rfl⟩)
 have htt:TupAt (az c t none) (upd (upd (upd H aP (.lst (pre.map nV))) t (.tup [nV n,.str wd])) aD (.lst (ds.map V.ref++[.ref t]))) t [nV n,.str wd]:=⟨aW,.inl ((av (nt X.dec.2).symm).trans ae)⟩;have kp:LstAt i (az c t none) (upd (upd (upd H aP (.lst (pre.map nV))) t (.tup [nV n,.str wd])) aD (.lst (ds.map V.ref++[.ref t]))) .au aP (pre.map nV) :=
  ⟨by rw[aw (nt X.au.2)];exact X.au.1,by rw[av nPD.symm,av (nt X.au.2),ae]⟩
 have kd:LstAt i (az c t none) (upd (upd (upd H aP (.lst (pre.map nV))) t (.tup [nV n,.str wd])) aD (.lst (ds.map V.ref++[.ref t]))) .decided aD ((ds++[t]).map V.ref) :=
  ⟨by rw[aw (nt X.dec.2)];exact X.dec.1,by rw[ae,kr];rfl⟩
 have k:=mz rfl s X.co X.ob;exact⟨s,k.1,k.2,kp,X.aB.kp rfl s,kJ (λ_ _=>rfl) s X.wait,kd,(jb s X.mD).snoc htt,X.lG.kp rfl s,GW (λ_ _=>rfl) (λ_ _=>rfl) s X.ent⟩
theorem MdX.gs (X:MdX i c H m st aP aA aD aM ds ws es):uG H m (V.str (ar "sitting")) (some (.int st.aQ)):=.inl ⟨_,tu (ar "sitting"),.inl X.ob,rfl,nH.symm⟩
theorem MdX.gc (X:MdX i c H m st aP aA aD aM ds ws es):uG H m (V.str (ar "closed")) (some (.bl st.closed)):=.inl ⟨_,tu (ar "closed"),.inl X.ob,rfl,B8.symm⟩
theorem MdX.gp (X:MdX i c H m st aP aA aD aM ds ws es):uG H m (V.str (ar "pile")) (some (.ref aP)):=.inl ⟨_,tu (ar "pile"),.inl X.ob,rfl,tf.symm⟩
theorem MdX.ga (X:MdX i c H m st aP aA aD aM ds ws es):uG H m (V.str (ar "aside")) (some (.ref aA)):=.inl ⟨_,tu (ar "aside"),.inl X.ob,rfl,yg.symm⟩
theorem MdX.gd (X:MdX i c H m st aP aA aD aM ds ws es):uG H m (V.str (ar "decided")) (some (.ref aD)):=.inl ⟨_,tu (ar "decided"),.inl X.ob,rfl,yQ.symm⟩
theorem MdX.gm (X:MdX i c H m st aP aA aD aM ds ws es):uG H m (V.str (ar "motions")) (some (.ref aM)):=.inl ⟨_,tu (ar "motions"),.inl X.ob,rfl,yR.symm⟩
end
end My
set_option maxHeartbeats 1000000
namespace My
open PySem L2
seal PySem.wpAny
theorem Qu (xs:List V)(k:Nat):f9 xs none (some (k:Int))=xs.take k:=by
 unfold f9;rw[HT.vA,HT.FV,List.drop_zero,Nat.sub_zero,<-List.take_eq_take_min]
theorem SJ {xs:List V}{lo hi:Option Int}{x:V}(h:x∈f9 xs lo hi):x∈xs:=by
 unfold f9 at h;exact List.mem_of_mem_drop (List.mem_of_mem_take h)
abbrev u0:Str:=ar "abcdefghijklmnopqrstuvwxyzAZ09-#./"
theorem Qv:u0.length=34:=by decide +kernel
theorem D2:u0.cps.toList.length=34:=by decide +kernel
theorem D3:∀c∈u0.cps.toList,R.Sign c:=by decide +kernel
theorem SK:∀c∈u0.cps.toList.take 33,c≠47:=by decide +kernel
theorem ahF {i:Int}(h0:0<=i)(h1:i < 34):∃c,atI u0.cps.toList i=some c/\R.Sign c:=by
 obtain⟨c,hc,hm⟩:=TQ (xs:=u0.cps.toList) (i:=i) (n:=34) D2 h0 (by omega)
 exact⟨c,hc,D3 c hm⟩
theorem ahG {i:Int}(h0:0<=i)(h1:i < 33):∃c,atI u0.cps.toList i=some c/\R.Sign c/\c≠47:=by
 obtain⟨n,rfl⟩:∃n:Nat,i=(n:Int):=⟨i.toNat,by omega⟩
 have hn:n < 33:=by omega
 have hl:=D2;have e:u0.cps.toList[n]?=some u0.cps.toList[n]:=wa (by omega)
 refine⟨_,dF e,D3 _ (List.getElem_mem _),SK _ ?_⟩;have e2:(u0.cps.toList.take 33)[n]?=some u0.cps.toList[n]:=by rw[List.getElem?_take,if_pos hn];exact e
 exact ajQ e2
structure Wd (n:Nat)(x:Str):Prop where
 len:x.length<=n
 hd:∃d r,x.cps.toList=d::r/\d≠47
 sgn:∀c∈x.cps.toList,R.Sign c
theorem WE {c:Nat}(h:R.Sign c)(n:c≠47):Wd 1 ⟨#[c]⟩:=⟨kq 1,⟨c,[],rfl,n⟩,λd hd=>by
 have:d=c:=by simpa using hd
 rw[this];exact h⟩
theorem WG {x:Str}{n c:Nat}(w:Wd n x)(h:R.Sign c):Wd (n+1) (x++⟨#[c]⟩):=by
 obtain⟨d,r,e,hd⟩:=w.hd;refine⟨?_,⟨d,r++[c],?_,hd⟩,λy hy=>?_⟩
 ·have:=w.len;rw[len_app];show _+1<=_;omega
 ·rw[eV,e];rfl
 ·rw[eV,List.mem_append]at hy;rcases hy with hy | hy
  ·exact w.sgn y hy
  ·have:y=c:=by simpa using hy
   rw[this];exact h
theorem Wd.word {n:Nat}{x:Str}(w:Wd n x)(h:n<=20):R.nX x:=by
 obtain⟨d,r,e,hd⟩:=w.hd;have hl:x.cps.toList.length=x.length:=by rw[akT];rfl
 refine⟨?_,tm w.len h,w.sgn,λz=>?_⟩
 ·rw[<-hl,e];simp
 ·rw[z]at e;have:(ar "/").cps.toList=[47]:=by decide +kernel
  rw[this]at e;cases e;exact hd rfl
def Cc:Sp:=λvs H Q _=>∃c:Int,vs=[.int c]/\∀x,R.nX x->Q (.str x) H
def Cd:Sp:=λvs H Q _=>∃c:Int,vs=[.int c]/\∀(ws:List Str) (H':Hp),R.BS 12 ws->br H H'->Q (.str (sr R.bl1 ws)) H'
def Qw (K:ba):Sp:=λvs H Q _=>∃(a:Addr) (ns:List Int) (k:Int),vs=[.ref a,.int k]/\SqL K H a (ns.map V.int)/\0<=k/\∀z:Int,Q (.int z) H
def GX:Sp:=λvs H Q _=>∃(c n:Int) (z:Str),vs=[.int c,.int n,.str z]/\0<=n/\n<=900/\∀(k:Nat) (j:Int) (t:Addr) (H':Hp),(k=0\/k=1\/k=2)->-1<=j->j<=1000->br H H'->H t=none->H' t=some (.tup (R.edR k j z))->Q (.ref t) H'
def wQ:Sp:=λvs H Q _=>∃k:Nat,k < 8/\vs=[.str (nm k)]/\∀H',br H H'->Q (.int (k:Int)) H'
def Kv:List Str:=[ar "matter",ar "change",ar "mend",ar "put off",ar "close",ar "lay",ar "rest",ar "point"]
theorem Qx:∀k,k < 8->Kv[k]?=some (nm k)/\∀m,m < k->Kv[m]?≠some (nm k):=by decide +kernel
section
variable{P:me}{w:World}{K:ba}{mg:Str->Option Value}{base:Heap}{A:Adr}
theorem FE (T:Txt w.params K mg A):aK P w K mg base CX0 1 A.t8 A.lx ["_law_script","_law_k"] (Qw K):=by
 refine T.sA.ok ES (λvs H Q E h=>?_) (λcdv A' outer s H vs Q E hr h=>?_)
 ·obtain⟨a,ns,k,rfl,_⟩:=h;rfl
 ·obtain⟨a,ns,k,rfl,hS,h0,q⟩:=h;refine⟨_,(ai (a5 (ay rS (pv 1) (cI dh (by rfl) T.q9 lZ (aa (pv 0) ah)) (aN _))
 (aj (aC (aJ bz (pv 0) (pv 1) (λ_ _=>rfl))))
 aH)
 (aj (aC af))),?_⟩
  refine⟨_,rfl,_,rfl,a,_,rfl,.inl hS,_,_,rfl,rfl,_,rfl,eU (λe=>?_) (λ_=>q 0)⟩
  refine hide λGg hGg=>?_
  have e':k < ((ns.map V.int).length:Int):=of_decide_eq_true e;rw[bo]at e';obtain⟨c,hc,hm⟩:=TQ (xs:=ns.map V.int) (i:=k) (n:=ns.length) (bo _) h0 e';obtain⟨z,_,rfl⟩:=List.mem_map.mp hm;refine hGg ?_;exact⟨_,rfl,_,rfl,a,_,_,_,rfl,rfl,hS,hc,q z⟩
theorem D4 (T:Txt w.params K mg A):aK P w K mg base CX0 1 A.Bg A.pj ["_law_cell"] Cc:=by
 refine T.wg.ok oV (λvs H Q E h=>?_) (λcdv A' outer s H vs Q E hr h=>?_)
 ·obtain⟨c,rfl,_⟩:=h;rfl
 ·obtain⟨c,rfl,k⟩:=h;refine⟨_,(ai (a8 (i:=1) oV.nd rfl (adm rfl) ao)
 (ai (a8 (i:=2) oV.nd rfl (adm rfl) (aJ JQ (pv 1) (a6 cy (pv 0) af) (λ_ _=>rfl)))
 (ai (xq ak1 rfl (xo rfl T.AA (aa (a6 cy (a6 dg (pv 0) af) af) ah)) (fV (i:=3) oV.nd rfl (adm rfl))
 (aj (a8 (i:=2) oV.nd rfl (adm rfl) (a6 JI (pv 2) (aJ JQ (pv 1) (a6 cy (a6 dg (pv 0) (a6 xr af (a6 d6 af (a6 xr af (pv 3))))) af) (λ_ _=>rfl))))))
 (aj (aC (pv 2)))))),?_⟩
  refine hide λGg hGg=>?_
  have s34:u0.length<=ka:=by rw[Qv];decide
  obtain⟨d,hd,hd',ahH⟩:=ahG (i:=c % 33) (by omega) (by omega)
  refine hGg ?_;refine⟨_,rfl,_,rfl,_,_,rfl,rfl,(by show (0:Int) < 33;decide),u0,_,d,rfl,rfl,s34,hd,?_⟩
  refine⟨_,rfl,_,_,rfl,rfl,⟨by decide,by decide⟩,_,_,rfl,rfl,(by show (0:Int) < 3;decide),_,rfl,by omega,by omega,?_⟩
  refine C7 (lo:=0) (n:=(c / 33 % 3).toNat) (λi σ H'=>H'=H/\∃x kv,σ=[some (.int c),some (.str u0),some (.str x),kv]/\Wd (1+i) x) ⟨rfl,_,_,rfl,WE hd' ahH⟩ ?_ ?_
  ·rintro i σ H' hi ⟨rfl,x,kv,rfl,wx⟩;refine hide λGg hGg=>?_
   obtain⟨d2,hd2,ahI⟩:=ahF (i:=c / (99 * (1+33 * (0+(i:Int)))) % 34) (by omega) (by omega)
   refine hGg ?_;refine⟨_,rfl,_,rfl,_,rfl,_,rfl,_,_,rfl,rfl,.inl ⟨by decide,by decide⟩,_,_,rfl,rfl,_,_,rfl,rfl,.inl ⟨by decide,by decide⟩,_,_,rfl,rfl,⟨by omega,by omega⟩,_,_,rfl,rfl,(by show (0:Int) < 34;decide),u0,_,d2,rfl,rfl,s34,hd2,_,_,rfl,rfl,?_,rfl,_,_,rfl,?_⟩
   ·have:=wx.len;rw[show (⟨#[d2]⟩:Str).length=1 from rfl]
    have:i < 3:=by omega
    exact tm (by omega:x.length+1<=10) (by decide)
   ·exact WG wx ahI
  ·rintro σ H' ⟨rfl,x,kv,rfl,wx⟩;exact⟨_,rfl,k x (wx.word (by omega))⟩
theorem GY (T:Txt w.params K mg A):aK P w K mg base CX0 2 A.vU A.nh ["_law_cell"] Cd:=by
 have Ce:aK P w K mg base CX0 1 A.Bg A.pj ["_law_cell"] Cc:=D4 T;refine T.mq.ok kA (λvs H Q E h=>?_) (λcdv A' outer s H vs Q E hr h=>?_)
 ·obtain⟨c,rfl,_⟩:=h;rfl
 ·obtain⟨c,rfl,k⟩:=h;have yh:=hr;refine⟨_,(ai (a8 (i:=1) kA.nd rfl (adm rfl) (bR ah))
 (ai (a8 (i:=2) kA.nd rfl (adm rfl) (a6 d6 (a6 cy (pv 0) af) af))
 (ai (xq ak1 rfl (xo rfl T.AA (aa (a6 cy (pv 0) af) ah)) (fV (i:=3) kA.nd rfl (adm rfl))
 (ai (a8 (i:=2) kA.nd rfl (adm rfl) (a6 cy (a6 xr (pv 2) af) af))
 (aj (bJ (gR rf ajU ajV cU (pv 1) (aa (aV Ce yh rfl T.Bm T.wg.kp T.Bl .nil aY (aa (a6 dg (pv 2) af) ah)) ah))))))
 (aj (aC (gR akK PySem.F.slot_str_join PySem.F.type_str_join Ex ao (aa (pv 1) ah))))))),?_⟩
  have sz:ka=16777216:=by decide
  refine⟨akl _,λW hW=>?_⟩
  refine⟨_,rfl,_,_,rfl,rfl,(by show (0:Int) < 4294967311;decide),_,_,rfl,rfl,?_⟩
  refine⟨_,rfl,_,_,rfl,rfl,(by show (0:Int) < 4;decide),_,rfl,by omega,by omega,?_⟩
  refine C7 (lo:=0) (n:=(c % 4).toNat) (λi σ H2=>∃(ws:List Str) (m:Int) (kv:Option V),σ=[some (.int c),some (.ref W),some (.int m),kv]/\0<=m/\m<=4294967311/\H2 W=some (.lst (ws.map V.str))/\ws.length=i/\(∀w∈ws,R.nX w)/\br H H2)
   ⟨[],_,_,rfl,by omega,by omega,ae,rfl,(λz hz=>nomatch hz),aG hW⟩ ?_ ?_
  ·rintro i σ H2 hi ⟨ws,m,kv,rfl,m0,m1,h2,hl,hg,s2⟩;refine⟨_,rfl,_,_,rfl,rfl,.inl ⟨by omega,by omega⟩,_,_,rfl,rfl,(by show (0:Int) < 4294967311;decide),?_⟩
   refine⟨_,rfl,.inl ⟨rfl,_,SqL.of h2⟩,_,rfl,_,_,rfl,rfl,⟨by decide,by decide⟩,_,rfl,λx hx=>?_⟩
   refine⟨W,_,_,rfl,rfl,h2,(by rw[bo];omega),?_⟩
   refine⟨ws++[x],_,_,rfl,by omega,by omega,?_,?_,λz h=>?_,s2.own hW⟩
   ·rw[ae,kr];rfl
   ·rw[kx,hl];rfl
   ·rcases List.mem_append.mp h with h | h
    ·exact hg z h
    ·rw[List.mem_singleton.mp h];exact hx
  ·rintro σ H2 ⟨ws,m,kv,rfl,m0,m1,h2,hl,hg,s2⟩;have hs:=R.DQ hg;refine⟨rfl,_,rfl,R.bl1,W,ws,rfl,rfl,SqL.of h2,(by rw[R.nU];show _+_ * 1<=_;omega),?_⟩
   exact k ws _ ⟨by omega,hg⟩ s2
theorem Nv (T:Txt w.params K mg A):aK P w K mg base CX0 1 A.ET A.t9 ["_law_cell","_law_size","_law_thing"] GX:=by
 refine T.wj.ok Dt (λvs H Q E h=>?_) (λcdv A' outer s H vs Q E hr h=>?_)
 ·obtain⟨c,n,z,rfl,_⟩:=h;rfl
 ·obtain⟨c,n,z,rfl,n0,n1,q⟩:=h;refine⟨_,(ai (a8 (i:=3) Dt.nd rfl (adm rfl) (a6 nO (a6 cy (a6 dg (pv 0) af) (a6 d6 (pv 1) af)) af))
 (ai (a5 (ay bu (a6 cy (pv 0) af) af (aN _))
 (aj (aC (bt (aa ao (aa (pv 3) ah)))))
 aH)
 (aj (aC (bt (aa (aJ bz (bR (aa ao (aa ao (aa ao ah)))) (a6 cy (pv 0) af) (λ_ _=>rfl)) (aa (pv 3) (aa (pv 2) ah)))))))),?_⟩
  refine⟨_,rfl,_,_,rfl,rfl,⟨by decide,by decide⟩,_,rfl,_,_,rfl,rfl,_,_,rfl,rfl,(by show (0:Int) < n+3;omega),_,_,rfl,rfl,?_⟩
  have j0:0<=c / 3 % (n+3):=akD _ (by omega)
  have j1:c / 3 % (n+3) < n+3:=akn _ (by omega)
  dsimp only[fj];obtain⟨j,ej⟩:∃j,c / 3 % (n+3) - 1=j:=⟨_,rfl⟩;rw[ej];refine⟨_,rfl,_,_,rfl,rfl,(by show (0:Int) < 3;decide),rfl,_,rfl,eU (λh=>?_) (λh=>?_)⟩
  ·refine⟨_,rfl,(sl 2),λt ht=>?_⟩
   exact q 1 j t _ (.inr (.inl rfl)) (by omega) (by omega) (aG ht) ht ae
  ·have h':¬c % 3=1:=λe=>h (decide_eq_true (by show V.int (c % 3)=V.int 1;rw[e]))
   refine⟨(sl 3),λp hp=>?_⟩
   refine hide λGg hGg=>?_
   have s1:=aG (o:=.lst [V.str (ar "put"),.str (ar ""),.str (ar "turn")]) hp;obtain⟨k,hk3,hk1,hk⟩:∃k:Nat,(k=0\/k=1\/k=2)/\k≠1/\atI [V.str (ar "put"),.str (ar ""),.str (ar "turn")] (c % 3)=some (.str (R.kn k)):=by
    have h3:c % 3=0\/c % 3=2:=by omega
    rcases h3 with e | e
    ·exact⟨0,.inl rfl,by decide,by rw[e];rfl⟩
    ·exact⟨2,.inr (.inr rfl),by decide,by rw[e];rfl⟩
   refine hGg ?_;refine⟨_,rfl,_,_,rfl,rfl,(by show (0:Int) < 3;decide),p,_,_,_,rfl,rfl,SqL.of ae,hk,_,rfl,_,rfl,(sl 3),λt ht=>?_⟩
   refine q k j t _ hk3 (by omega) (by omega) (s1.new ht) (same_none s1 ht) ?_
   rw[ae,R.edR,if_neg hk1]
theorem qP (T:Txt w.params K mg A):aK P w K mg base CX0 1 A.qt A.ir ["_law_clause_here"] R.eL:=by
 refine T.lV.ok J7 (λvs H Q E h=>?_) (λcdv A' outer s H vs Q E hr h=>?_)
 ·obtain⟨z,rfl,_⟩:=h;rfl
 ·obtain⟨z,rfl,hz,k⟩:=h;refine⟨_,(ai (a5 (ay bu (pv 0) ao (aN _))
 (aj (aC (bR ah)))
 aH)
 (aj (aC (gR akK PySem.F.slot_str_split PySem.F.type_str_split F0 (pv 0) (aa ao ah))))),?_⟩
  refine⟨_,rfl,rfl,_,rfl,eU (λe=>?_) (λe=>?_)⟩
  ·have e':z=R.em:=by injection of_decide_eq_true e
   refine⟨akl _,λp hp=>?_⟩
   have:=k p hp;rw[R.bf,if_pos e']at this;exact this
  ·have e':¬z=R.em:=λq=>e (decide_eq_true (by rw[q]))
   refine⟨_,rfl,rfl,z,R.bl1,rfl,rfl,by rw[R.nU];rfl,hz,λp hp=>?_⟩
   have:=k p hp;rw[R.bf,if_neg e']at this;exact this
theorem yi (T:Txt w.params K mg A):aK P w K mg base CX0 1 A.xJ A.lU ["_law_kind"] wQ:=by
 refine T.pG.ok Nh (λvs H Q E h=>?_) (λcdv A' outer s H vs Q E hr h=>?_)
 ·obtain⟨k,_,rfl,_⟩:=h;rfl
 ·obtain⟨k,k8,rfl,q⟩:=h;refine⟨_,(aj (aC (gR rf PySem.F.slot_list_index PySem.F.type_list_index O6 (bR (aa ao (aa ao (aa ao (aa ao (aa ao (aa ao (aa ao (aa ao ah))))))))) (aa (pv 0) ah)))),?_⟩;obtain⟨h1,h2⟩:=Qx k k8;refine⟨(sl 8),λp hp=>?_⟩
  refine⟨.inl ⟨rfl,_,SqL.of ae⟩,_,rfl,p,Kv,nm k,k,rfl,rfl,SqL.of ae,h1,h2,?_⟩;exact q _ (aG hp)
theorem D5 (T:Txt w.params K mg A):aK P w K mg base CX0 1 A.Bh A.pq ["_law_things","_law_edit_here"] (BK K):=by
 refine T.pD.ok Ng (λvs H Q E h=>?_) (λcdv A' outer s H vs Q E hr h=>?_)
 ·obtain⟨a,t,xs,e,rfl,_⟩:=h;rfl
 ·obtain⟨a,t,xs,e,rfl,ha,ht,o,q⟩:=h;refine⟨_,(ai (a5 (ay bu (aJ aL (pv 1) af (λ_ _=>rfl)) ao (aN _))
 (aj (aC (AJ vw vw af (aJ aL (pv 1) af (λ_ _=>rfl)) (cI dh (by rfl) T.q9 lZ (aa (pv 0) ah)))))
 aH)
 (aj (aC (AJ vw rS af (aJ aL (pv 1) af (λ_ _=>rfl)) (cI dh (by rfl) T.q9 lZ (aa (pv 0) ah)))))),?_⟩
  unfold gv at q;refine ixv rfl ht (nS e) ⟨rfl,_,rfl,eU (λz=>?_) (λz=>?_)⟩
  ·have hk:e.k=0:=(xS o).mp (of_decide_eq_true z);rw[if_pos hk]at q;refine ixv rfl ht (uO e) ⟨_,_,rfl,rfl,_,rfl,eU (λz1=>?_) (λz1=>?_)⟩
   ·have h1:0<=e.at_:=of_decide_eq_true z1;rw[decide_eq_true h1,Bool.true_and]at q;refine⟨_,rfl,a,_,rfl,.inl ha,_,_,rfl,rfl,?_⟩;dsimp only;rw[show decide (e.at_<=(xs.length:Int))=decide (e.at_ < (xs.length:Int)+1) by simp only[decide_eq_decide];omega]
    exact q
   ·have h1:¬0<=e.at_:=λy=>z1 (decide_eq_true y)
    rw[decide_eq_false h1,Bool.false_and]at q;exact q
  ·have hk:¬e.k=0:=λy=>z (decide_eq_true ((xS o).mpr y))
   rw[if_neg hk,Int.add_zero]at q;refine ixv rfl ht (uO e) ⟨_,_,rfl,rfl,_,rfl,eU (λz1=>?_) (λz1=>?_)⟩
   ·have h1:0<=e.at_:=of_decide_eq_true z1;rw[decide_eq_true h1,Bool.true_and]at q;exact⟨_,rfl,a,_,rfl,.inl ha,_,_,rfl,rfl,q⟩
   ·have h1:¬0<=e.at_:=λy=>z1 (decide_eq_true y)
    rw[decide_eq_false h1,Bool.false_and]at q;exact q
end
end My
set_option maxHeartbeats 1000000
namespace My
open PySem L2
seal PySem.wpAny
def GZ (K:ba):Sp:=λvs H Q _=>∃(a t:Addr) (xs:List Str) (e:Ed),vs=[.ref a,.ref t]/\SqL K H a (xs.map V.str)/\xs.length<=1000/\SqT K H t (eK e)/\rE e/\gv xs.length e=true /\
 ∀p H',br H H'->H p=none->H' p=some (.lst ((bE xs e).map V.str))->Q (.ref p) H'
def MK:Sp:=λvs H Q _=>vs=[]/\∀m H',(∀(i:Nat) (c:Col) (n:Int),∃c',Step (λ_=>False) c c' H H'/\ji i c' H' m (MI n))->Q (.ref m) H'
def qQ (i:Nat):Sp:=λvs H Q _=>∃(m:Addr) (n:Nat) (c:Col) (st:Ch),vs=[.ref m,nV n]/\ji i c H m st/\cX st n/\∀t,MnT c H (st.mo n) t->Q (.ref t) H
def FF (i:Nat):Sp:=λvs H Q _=>∃(m:Addr) (c:Col) (st:Ch),vs=[.ref m]/\ji i c H m st/\(∀n∈st.au,cX st n)/\∀H',br H H'->Q (.int (nY st.closed (st.au.map st.mo))) H'
theorem lH (ns:List Nat):PyData.eqv (gz ns) (.list [])=ns.isEmpty:=by
 cases ns with
 |nil=>simp[gz,PyData.eqv,PyData.eqvAll]
 |cons n ns=>simp[gz,PyData.eqv,PyData.eqvAll]
theorem Cg:∀ns:List Nat,PyData.depthAll (ns.map λn:Nat=>PyData.int (n:Int))<=1
 |[]=>by simp only[aki,PyData.depthAll];omega
 |n::ns=>by
  have:=Cg ns;simp only[kj,PyData.depthAll,PyData.depth];omega
theorem lI (ns:List Nat):SeqAt.shaped (gz ns)=true:=by
 have h1:(gz ns).canLay0=true:=by
  unfold gz;simp only[PyData.canLay0]
  induction ns with
  |nil=>simp only[aki,PyData.canLayAll0]
  |cons n ns ih=>simp only[kj,PyData.canLayAll0,PyData.canLay0,ih,Bool.and_self]
 have h2:(gz ns).depth<=64:=by
  have:=Cg ns;unfold gz;simp only[PyData.depth];omega
 show ((gz ns).canLay0 && decide ((gz ns).depth<=64))=true;rw[h1,decide_eq_true h2];rfl
theorem qR:SeqAt.shaped (.list [])=true:=by rfl
theorem qS {K:ba}{H:Hp}{p:Addr}(h:SqL K H p []):DV K H (.list []) (.ref p):=by
 unfold DV;exact⟨p,[],rfl,h,by unfold DVs;rfl⟩
theorem nI {st:Ch}{n:Nat}(hn:cX st n):(iy st)[n - 1]?=some (gS st n):=by
 unfold iy;rw[aj0,GO hn.1 hn.2];rfl
theorem MnT.kind {c:Col}{H:Hp}{m:Mn}{t:Addr}(h:MnT c H m t):∃v,H t=some (.tup (rowOf m.k v)):=⟨_,h.2.choose_spec.1⟩
theorem WH {v0 v1 v2 v3 v4 v5:V}:xD [] (mdF v0 v1 v2 v3 v4 v5)=mdF v0 v1 v2 v3 v4 v5:=by kernel_rfl
section
variable{P:me}{w:World}{K:ba}{mg:Str->Option Value}{base:Heap}{A:Adr}
theorem Nw (T:Txt w.params K mg A):aK P w K mg base CX0 1 A.EU A.ua ["_law_things","_law_edit_here"] (GZ K):=by
 refine T.wk.ok Du (λvs H Q E h=>?_) (λcdv A' outer s H vs Q E hr h=>?_)
 ·obtain⟨a,t,xs,e,rfl,_⟩:=h;rfl
 ·obtain⟨a,t,xs,e,rfl,ha,hl,ht,o,hf,q⟩:=h;refine⟨_,(ai (a8 (i:=2) Du.nd rfl (adm rfl) (aJ aL (pv 1) af (λ_ _=>rfl)))
 (ai (a5 (ay bu (aJ aL (pv 1) af (λ_ _=>rfl)) ao (aN _))
 (aj (aC (a6 vG (oG vD (pv 0) vC (ql (pv 2))) (oG vD (pv 0) (ql (a6 d6 (pv 2) af)) vC))))
 aH)
 (aj (aC (a6 vG (a6 vG (oG vD (pv 0) vC (ql (pv 2))) (bR (aa (aJ aL (pv 1) af (λ_ _=>rfl)) ah))) (oG vD (pv 0) (ql (a6 d6 (pv 2) (eh C8 (by rfl) T.PM OP (aa (jX bu (aJ aL (pv 1) af (λ_ _=>rfl)) ao (aN _)) ah)))) vC)))))),?_⟩
  refine hide λGg hGg=>?_
  have sz:ka=16777216:=by decide
  obtain⟨f0,f1⟩:=BL.mp hf;obtain⟨n,hn⟩:∃n:Nat,e.at_=(n:Int):=⟨e.at_.toNat,by omega⟩
  refine hGg ?_;refine ixv rfl ht (uO e) ?_;rw[hn];rw[hn]at f1;have en:e.at_.toNat=n:=by rw[hn];rfl
  refine ixv rfl ht (nS e) ⟨rfl,_,rfl,eU (λz=>?_) (λz=>?_)⟩
  ·have hk:e.k=1:=(uQ o).mp (of_decide_eq_true z);refine⟨_,rfl,_,rfl,_,rfl,a,_,rfl,ha,λp1 hp1=>?_⟩
   have s1:=aG (o:=.lst (f9 (xs.map V.str) none (some (n:Int)))) hp1;refine⟨_,rfl,_,rfl,_,_,rfl,rfl,_,rfl,a,_,rfl,s1.seq ha,λp2 hp2=>?_⟩
   have n12:p1≠p2:=aI ae hp2;have s2:=s1.new (o:=.lst (f9 (xs.map V.str) (some ((n:Int)+1)) none)) hp2;have e1:f9 (xs.map V.str) none (some (n:Int))=(xs.take n).map V.str:=by rw[Qu,List.map_take]
   have e2:f9 (xs.map V.str) (some ((n:Int)+1)) none=(xs.drop (n+1)).map V.str:=by rw[show (n:Int)+1=((n+1:Nat):Int) by omega,AQ,List.map_drop]
   refine⟨p1,p2,_,_,rfl,rfl,(av n12).trans ae,ae,?_,λp3 hp3=>?_⟩
   ·have h1:=iB (xs.map V.str) none (some (n:Int));have h2:=iB (xs.map V.str) (some ((n:Int)+1)) none;rw[bo]at h1 h2;show (f9 (xs.map V.str) none (some (n:Int))).length+(f9 (xs.map V.str) (some ((n:Int)+1)) none).length<=_;omega
   ·refine q p3 _ (s2.new hp3) (same_none s2 hp3) ?_;have el:(bE xs e).map V.str=f9 (xs.map V.str) none (some (n:Int))++f9 (xs.map V.str) (some ((n:Int)+1)) none:=by
     rw[e1,e2,<-kr];unfold bE;rw[hk,en];show (xs.eraseIdx n).map V.str=_;rw[List.eraseIdx_eq_take_drop_succ]
    rw[el];exact ae
  ·have hk:¬e.k=1:=λy=>z (decide_eq_true ((uQ o).mpr y))
   refine⟨_,rfl,_,rfl,_,rfl,a,_,rfl,ha,λp1 hp1=>?_⟩
   have s1:=aG (o:=.lst (f9 (xs.map V.str) none (some (n:Int)))) hp1;refine ixv rfl (bw s1 ht) (uP hk) ⟨(sl 1),λp2 hp2=>?_⟩
   have n12:p1≠p2:=aI ae hp2;have s2:=s1.new (o:=.lst [V.str e.th]) hp2;have h1:=iB (xs.map V.str) none (some (n:Int));rw[bo]at h1;refine⟨p1,p2,_,_,rfl,rfl,(av n12).trans ae,ae,by show (f9 (xs.map V.str) none (some (n:Int))).length+1<=_;omega,λp3 hp3=>?_⟩
   refine hide λGg hGg=>?_
   have s3:=s2.new (o:=.lst (f9 (xs.map V.str) none (some (n:Int))++[V.str e.th])) hp3;obtain⟨b,hb,hb2⟩:∃b:Nat,(if decide (V.str (kn e.k)=V.str (ar "turn"))=true then (1:Int) else 0)=(b:Int)/\b=if e.k=2 then 1 else 0:=by
    by_cases h2:e.k=2
    ·exact⟨1,by rw[decide_eq_true ((Mh o).mpr h2)];rfl,by rw[if_pos h2]⟩
    ·exact⟨0,by rw[decide_eq_false (λy=>h2 ((Mh o).mp y))];rfl,by rw[if_neg h2]⟩
   refine hGg ?_;refine⟨_,rfl,_,rfl,ixv rfl (bw s3 ht) (nS e) ⟨rfl,.inr ⟨_,rfl,_,_,rfl,rfl,_,rfl,?_⟩⟩⟩;dsimp only;rw[hb,show (n:Int)+(b:Int)=((n+b:Nat):Int) by omega]
   refine⟨a,_,rfl,s3.seq ha,λp4 hp4=>?_⟩
   have n34:p3≠p4:=aI ae hp4;have s4:=s3.new (o:=.lst (f9 (xs.map V.str) (some ((n+b:Nat):Int)) none)) hp4;have h2:=iB (xs.map V.str) (some ((n+b:Nat):Int)) none;rw[bo]at h2;refine⟨p3,p4,_,_,rfl,rfl,(av n34).trans ae,ae,?_,λp5 hp5=>?_⟩
   ·show (f9 (xs.map V.str) none (some (n:Int))++[V.str e.th]).length+(f9 (xs.map V.str) (some ((n+b:Nat):Int)) none).length<=_;rw[kx,ajR];omega
   ·refine q p5 _ (s4.new hp5) (same_none s4 hp5) ?_;have el:(bE xs e).map V.str=f9 (xs.map V.str) none (some (n:Int))++[V.str e.th]++f9 (xs.map V.str) (some ((n+b:Nat):Int)) none:=by
     rw[Qu,AQ,<-List.map_take,<-List.map_drop];unfold bE;rcases o.k3 with h | h | h
     ·rw[h]at hb2 ⊢;rw[hb2,en];simp
     ·exact absurd h hk
     ·rw[h,if_neg (by decide)]at f1
      rw[h]at hb2 ⊢;rw[hb2,en];show (xs.set n e.th).map V.str=_;rw[List.set_eq_take_append_cons_drop,if_pos (by omega)]
      simp
    rw[el];exact ae
theorem pV (T:Txt w.params K mg A){i:Nat}:aK P w K mg base CX0 1 A.vW A.iV ["_law_m","_law_number"] (qQ i):=by
 refine T.iX.ok Pg (λvs H Q E h=>?_) (λcdv A' outer s H vs Q E hr h=>?_)
 ·obtain⟨m,n,c,st,rfl,_⟩:=h;rfl
 ·obtain⟨m,n,c,st,rfl,hm,hn,q⟩:=h;obtain⟨aP,aA,aD,aM,ds,ws,es,X⟩:=hm.ex;have hu1:=hr.u1;refine⟨_,(aj (aC (aJ bz (aJ bz (bc hu1 (pv 0) ao (λ_ _=>rfl)) (a6 nO (pv 1) af) (λ_ _=>rfl)) af (λ_ _=>rfl)))),?_⟩
  refine hide λGg hGg=>?_
  obtain⟨v,ev,p,t1,t2,k,ts,rfl,z1,z2,z3,z4,z5⟩:=X.ent.get (nI hn);have h1:=hn.1;have ea:atI es ((n:Int) - 1)=some (.ref p):=by
   rw[show (n:Int) - 1=((n - 1:Nat):Int) by omega]
   exact dF ev
  refine hGg ?_;refine dgv rfl X.gm ⟨_,rfl,_,_,rfl,rfl,aM,_,_,_,rfl,rfl,SqL.of X.lG.2,ea,p,_,_,_,rfl,rfl,SqL.of z1.2,rfl,?_⟩;exact q t1 z2
theorem G0 (T:Txt w.params K mg A){i:Nat}:aK P w K mg base CX0 2 A.Gn A.sf ["_law_m"] (FF i):=by
 have pW:aK P w K mg base CX0 1 A.xJ A.lU ["_law_kind"] wQ:=yi T;have f6:aK P w K mg base CX0 1 A.vW A.iV ["_law_m","_law_number"] (qQ i):=pV T;refine T.wm.ok Bd (λvs H Q E h=>?_) (λcdv A' outer s H vs Q E hr h=>?_)
 ·obtain⟨m,c,st,rfl,_⟩:=h;rfl
 ·obtain⟨m,c,st,rfl,hm,hp,q⟩:=h;obtain⟨aP,aA,aD,aM,ds,ws,es,X⟩:=hm.ex;have hu1:=hr.u1;have pJ:=hr.units;have lW:=hr;have d4:=hr;refine⟨_,(ai (a8 (i:=1) Bd.nd rfl (adm rfl) (oF jq af))
 (ai (a5 (ay (JU pJ) (bc hu1 (pv 0) ao (λ_ _=>rfl)) (bR ah) (aN _))
 (aj (a8 (i:=1) Bd.nd rfl (adm rfl) (aV pW lW rfl T.sF T.pG.kp T.sE .nil aY (aa (aJ aL (aV f6 d4 rfl T.j7 T.iX.kp T.j6 .nil aY (aa (pv 0) (aa (aJ bz (bc hu1 (pv 0) ao (λ_ _=>rfl)) (oF jq af) (λ_ _=>rfl)) ah))) af (λ_ _=>rfl)) ah))))
 aH)
 (ai (a5 (lX (bc hu1 (pv 0) ao (λ_ _=>rfl)))
 (aj (aC (cI (tT rfl) (by rfl) T.GB Ew (aa (pv 1) (aa af ah)))))
 aH)
 (aj (aC (pv 1)))))),?_⟩
  refine⟨_,rfl,?_⟩;dsimp only[fj];refine d9 (λσ' H'=>σ'=[some (.ref m),some (.int (rG (st.au.map st.mo)))]/\br H H') ?r (λN nN=>?f)
  case f =>
   refine dgv rfl X.gp ⟨(sl 0),λp hp0=>?_⟩
   have s1:=aG (o:=.lst []) hp0;refine⟨gz st.au,.list [],lF (SqL.of (s1 _ _ X.au.2)),qS (SqL.of ae),lI _,qR,_,rfl,?_⟩;rw[lH];rcases ajS st.au with e | ⟨pre,n,e⟩
   ·rw[e];exact bX (nN _ _ ⟨by rw[e];rfl,s1⟩)
   ·rw[ajT]at e;have X1:=X.same s1;have hn:=hp n (by rw[e];simp)
    have h0:atI (st.au.map nV) (-1)=some (nV n):=by rw[e,kr];exact iQ _ _
    refine yD (by rw[e];simp) ?_
    refine⟨_,rfl,_,rfl,m,_,rfl,X1.gp,_,rfl,aP,_,_,_,rfl,rfl,SqL.of X1.au.2,h0,m,n,c,st,rfl,X1.at,hn,λt ht=>?_⟩
    obtain⟨v,hv⟩:=ht.kind;refine⟨t,_,_,_,rfl,rfl,SqT.of hv,cE,(st.mo n).k,(st.mo n).k8,rfl,λH2 s2=>nN _ _ ⟨?_,s1.trans s2⟩⟩
    rw[e,kr,kj,aki,pN];rfl
  case r =>
   rintro σ' H1 ⟨rfl,s1⟩;have X1:=X.same s1;refine dgv rfl X1.gc ⟨_,rfl,?_⟩;have q:=q H1 s1;unfold nY at q;cases hcl:st.closed with
   |true =>
    rw[hcl]at q;exact dP ⟨_,rfl,_,_,rfl,q⟩
   |false =>
    rw[hcl]at q;exact bX ⟨_,rfl,q⟩
end
end My
set_option maxHeartbeats 1000000
namespace My
open PySem L2
seal PySem.wpAny
def xcC:Xc->Str×Int
 | .uV b=>(ar "bar",b)
 | .mF=>(ar "no matter",0)
 | .noChange=>(ar "no change",0)
 | .noFit=>(ar "no fit",0)
 | .pL n=>(ar "not later",n)
 | .nothing=>(ar "nothing",0)
 | .tooMany=>(ar "too many",0)
 | .uk=>(ar "no aside",0)
 | .Fh n=>(ar "not yet",n)
 | .B0=>(ar "no number",0)
def ML (i:Nat):Sp:=λvs H Q _=>∃(m t:Addr) (c:Col) (st:Ch) (N:Nat) (d:R.fq),vs=[.ref m,.ref t]/\ji i c H m st/\Inv N st/\N<=800/\Fz d/\rj i c H d t /\
 (kL st (d3 d)=none->∀H',br H H'->Q .non H')/\∀x,kL st (d3 d)=some x->∀u H',br H H'->H u=none->H' u=some (.tup [.str (xcC x).1,.int (xcC x).2])->Q (.ref u) H'
theorem Kw {m:Mn}{r:List Mn}(h:PMs (m::r)):uq (m::r)=decide (m.k=0):=by
 cases hm:uq (m::r) with
 |true =>
  obtain⟨tx,r',e⟩:=h.Kn hm;cases e;rfl
 |false =>
  unfold uq at hm;rw[List.any_cons,Bool.or_eq_false_iff]at hm;exact hm.1.symm
theorem Qy {ms:List Mn}(h:PMs ms)(hm:fg ms=true):uq ms=true:=by
 unfold fg at hm;split at hm
 ·rename_i e he;obtain⟨r,e1⟩:=jK he;subst e1;obtain⟨tx,e2,_⟩:=h.pop.2;subst e2;rfl
 ·cases hm
section
variable{P:me}{w:World}{K:ba}{mg:Str->Option Value}{base:Heap}{A:Adr}
theorem Kx (T:Txt w.params K mg A){i:Nat}:aK P w K mg base CX0 3 A.Au A.qu ["_law_m","_law_motion"] (ML i):=by
 have pW:aK P w K mg base CX0 1 A.xJ A.lU ["_law_kind"] wQ:=yi T;have f6:aK P w K mg base CX0 1 A.vW A.iV ["_law_m","_law_number"] (qQ i):=pV T;have AE:aK P w K mg base CX0 2 A.Gn A.sf ["_law_m"] (FF i):=G0 T;have tj:aK P w K mg base CX0 1 A.Bh A.pq ["_law_things","_law_edit_here"] (BK K):=D5 T;have jN:aK P w K mg base CX0 1 A.qt A.ir ["_law_clause_here"] R.eL:=qP T;refine T.xM.ok uJ (λvs H Q E h=>?_) (λcdv A' outer s H vs Q E hr h=>?_)
 ·obtain⟨m,t,c,st,N,d,rfl,_⟩:=h;rfl
 ·obtain⟨m,t,c,st,N,d,rfl,hm,I,hN,hd,hdc,q,qx⟩:=h;obtain⟨aP,aA,aD,aM,ds,ws,es,X⟩:=hm.ex;have hu1:=hr.u1;have pJ:=hr.units;have lW:Room 1 _:=hr.mono (by decide)
  have d4:Room 1 _:=hr.mono (by decide)
  have wR:Room 2 _:=hr;have pX:Room 1 _:=hr.mono (by decide)
  have iz:Room 1 _:=hr.mono (by decide)
  refine⟨_,(ai (a8 (i:=2) uJ.nd rfl (adm rfl) (aJ aL (pv 1) af (λ_ _=>rfl)))
 (ai (a5 (ay vw (aV pW lW rfl T.sF T.pG.kp T.sE .nil aY (aa (pv 2) ah)) (aV AE wR rfl T.Az T.wm.kp T.Ay .nil aY (aa (pv 0) ah)) (aN _))
 (aj (aC (bt (aa ao (aa (aV AE wR rfl T.Az T.wm.kp T.Ay .nil aY (aa (pv 0) ah)) ah)))))
 aH)
 (ai (a5 (ay tU (pv 2) (bt (aa ao (aa ao (aa ao ah)))) rfl)
 (aj (aC qj))
 aH)
 (ai (a5 (PW.pt (pw_or (ay (xw pJ) (bc hu1 (pv 0) ao (λ_ _=>rfl)) (bR ah) (aN _)) (pw_or1 (ay vv (aJ aL (aV f6 d4 rfl T.j7 T.iX.kp T.j6 .nil aY (aa (pv 0) (aa (aJ bz (bc hu1 (pv 0) ao (λ_ _=>rfl)) af (λ_ _=>rfl)) ah))) af (λ_ _=>rfl)) ao (aN _)))))
 (aj (aC (bt (aa ao (aa af ah)))))
 aH)
 (ai (a8 (i:=3) uJ.nd rfl (adm rfl) (aV f6 d4 rfl T.j7 T.iX.kp T.j6 .nil aY (aa (pv 0) (aa (aJ bz (bc hu1 (pv 0) ao (λ_ _=>rfl)) (oF jq af) (λ_ _=>rfl)) ah))))
 (ai (a5 (PW.pt (pw_and (ay bu (pv 2) ao (aN _)) (pw_and1 (PW.pt (pw_or (ay vv (aJ aL (pv 3) af (λ_ _=>rfl)) ao (aN _)) (pw_or1 (ay bu (aJ aL (aJ aL (pv 3) af (λ_ _=>rfl)) af (λ_ _=>rfl)) ao (aN _))))))))
 (aj (aC (bt (aa ao (aa af ah)))))
 aH)
 (ai (a5 (PW.pt (pw_and (ay bu (pv 2) ao (aN _)) (pw_and1 (qk (lX (aV tj pX rfl T.sD T.pD.kp T.sC .nil aY (aa (aV jN iz rfl T.pF T.lV.kp T.pE .nil aY (aa (aJ aL (aJ aL (pv 3) af (λ_ _=>rfl)) af (λ_ _=>rfl)) ah)) (aa (aJ aL (pv 1) af (λ_ _=>rfl)) ah))))))))
 (aj (aC (bt (aa ao (aa af ah)))))
 aH)
 (ai (a5 (PW.pt (pw_and (ay bu (pv 2) ao (aN _)) (pw_and1 (qk (lX (aV tj pX rfl T.sD T.pD.kp T.sC .nil aY (aa (aJ aL (aV f6 d4 rfl T.j7 T.iX.kp T.j6 .nil aY (aa (pv 0) (aa (aJ bz (bc hu1 (pv 0) ao (λ_ _=>rfl)) af (λ_ _=>rfl)) ah))) af (λ_ _=>rfl)) (aa (aJ aL (pv 1) af (λ_ _=>rfl)) ah))))))))
 (aj (aC (bt (aa ao (aa af ah)))))
 aH)
 (ai (a5 (PW.pt (pw_and (ay bu (pv 2) ao (aN _)) (pw_and1 (ay vw (aJ aL (pv 1) af (λ_ _=>rfl)) (bc hu1 (pv 0) ao (λ_ _=>rfl)) (aN _)))))
 (aj (aC (bt (aa ao (aa (bc hu1 (pv 0) ao (λ_ _=>rfl)) ah)))))
 aH)
 (aj (aC qj))))))))))),?_⟩
  refine hide λGg hGg=>?_
  obtain⟨v,ht,hv0,hv1⟩:=wO hd hdc;have hmk:=Ks (N:=N) hd;refine hGg ?_;generalize d3 d=mn at ht hv0 hv1 hmk q qx;refine ixv rfl (SqT.of ht.2) cE ?_;refine⟨_,rfl,mn.k,mn.k8,rfl,λH1 s1=>?_⟩
  refine⟨_,rfl,m,c,st,rfl,(X.same s1).at,I.bK,λH2 s2=>?_⟩
  have s12:=s1.trans s2;refine⟨_,_,rfl,rfl,_,rfl,eU (λz=>?_) (λz=>?_)⟩
  ·have z':(mn.k:Int)<=nY st.closed (st.au.map st.mo):=of_decide_eq_true z;refine⟨_,rfl,m,c,st,rfl,(X.same s12).at,I.bK,λH3 s3=>⟨(sl 2),λu hu=>?_⟩⟩
   refine qx (.uV (nY st.closed (st.au.map st.mo))) (by unfold kL uW;rw[if_pos z']) u _ ((s12.trans s3).new hu) (same_none (s12.trans s3) hu) ae
  have z':¬(mn.k:Int)<=nY st.closed (st.au.map st.mo):=λy=>z (decide_eq_true y)
  refine⟨_,rfl,(sl 3),λt3 ht3=>?_⟩
  have s3:=s12.new (o:=.tup [V.str (ar "matter"),V.str (ar "rest"),V.str (ar "point")]) ht3;refine⟨t3,_,rfl,.inr (SqT.of ae),rfl,rfl,_,rfl,?_⟩;have ein:(if false=true then !inV (V.str (nm mn.k)) [V.str (ar "matter"),V.str (ar "rest"),V.str (ar "point")] else inV (V.str (nm mn.k)) [V.str (ar "matter"),V.str (ar "rest"),V.str (ar "point")])=decide (mn.k=0\/mn.k=6\/mn.k=7):=by
   have:∀k,k < 8->inV (V.str (nm k)) [V.str (ar "matter"),V.str (ar "rest"),V.str (ar "point")]=decide (k=0\/k=6\/k=7):=by decide +kernel
   exact this _ mn.k8
  rw[ein];generalize upd H2 t3 (.tup [V.str (ar "matter"),V.str (ar "rest"),V.str (ar "point")])=H3 at s3 ⊢;clear ht3 ein s12 s2 s1 z
  by_cases Nx:mn.k=0\/mn.k=6\/mn.k=7
  ·refine yD (decide_eq_true Nx) (q ?_ H3 s3);have hn:sT (st.au.map st.mo) mn.k=true:=by
    unfold sT;rw[if_neg (by omega),if_neg (by omega)]
   unfold kL uW;rw[if_neg z',if_pos hn];cases mn <;> first | rfl | (simp[Mn.k]at Nx)
  refine yE (decide_eq_false Nx) ?_;have X3:=X.same s3;refine dgv rfl X3.gp ⟨(sl 0),λp4 hp4=>?_⟩
  have s4:=s3.new (o:=.lst []) hp4;have X4:=X.same s4;refine⟨gz st.au,.list [],lF (SqL.of X4.au.2),qS (SqL.of ae),lI _,qR,_,rfl,?_⟩;rw[lH];generalize upd H3 p4 (.lst [])=H4 at s4 X4 ⊢;clear hp4 X3 s3;have ht4:SqT K H4 t (rowOf mn.k v):=SqT.of (s4 _ _ ht.2);have nomat:uq (st.au.map st.mo)=false->kL st mn=some .mF:=λhh=>by
   have hn:sT (st.au.map st.mo) mn.k=false:=by
    unfold sT
    by_cases h2:mn.k=2
    ·rw[if_pos h2];cases hmm:fg (st.au.map st.mo) with
     |false=>rfl
     |true=>rw[Qy I.pil hmm]at hh;cases hh
    ·have:=mn.k8;rw[if_neg h2,if_pos (by omega),hh]
   unfold kL uW;rw[if_neg z',if_neg (by rw[hn];decide),if_neg (by rw[hh];decide)]
  have say:∀(x:Xc) (z:Str),kL st mn=some x->(xcC x).1=z->(xcC x).2=0->∀(Hn:Hp),br H Hn->∀u,Hn u=none->Q (.ref u) (upd Hn u (.tup [.str z,.int 0])):=λx z hx hz h0 Hn sn u hu=>by
   subst hz;have:=qx x hx u _ (sn.new hu) (same_none sn hu) (ae (o:=.tup [.str (xcC x).1,.int (xcC x).2]));rw[h0]at this;exact this
  cases Ci:st.au with
  |nil =>
   refine dP (dP ⟨(sl 2),λu hu=>?_⟩)
   exact say .mF _ (nomat (by rw[Ci];rfl)) rfl rfl H4 s4 u hu
  |cons b r =>
   refine bX ?_;have hb:cX st b:=I.bK b (by rw[Ci];exact fu)
   have h0:atI (st.au.map nV) 0=some (nV b):=by rw[Ci];exact dF (j:=0) rfl
   refine⟨_,rfl,dgv rfl X4.gp ⟨aP,_,_,_,rfl,rfl,SqL.of X4.au.2,h0,m,b,c,st,rfl,X4.at,hb,λtb htb=>?_⟩⟩
   obtain⟨vb,hvb⟩:=htb.kind;have hbm:uq (st.au.map st.mo)=decide ((st.mo b).k=0):=by
    have hp:=I.pil;rw[Ci,kj]at hp ⊢;exact Kw hp
   refine⟨tb,_,_,_,rfl,rfl,SqT.of hvb,cE,rfl,_,rfl,?_⟩;rw[sU _ (st.mo b).k8]
   by_cases hk0:(st.mo b).k=0
   case neg =>
    rw[decide_eq_false hk0]at hbm ⊢;refine dP ⟨(sl 2),λu hu=>?_⟩
    exact say .mF _ (nomat hbm) rfl rfl H4 s4 u hu
   rw[decide_eq_true hk0]at hbm ⊢;refine bX ?_;refine hide λGg hGg=>?_
   obtain⟨tx,etx⟩:∃tx,st.mo b=.mat tx:=by
    cases hmo:st.mo b with
    |mat tx=>exact⟨tx,rfl⟩
    |_=>rw[hmo]at hk0;simp[Mn.k]at hk0
   obtain⟨pre,n,Qz⟩:∃pre n,st.au=pre++[n]:=by
    rcases ajS st.au with e | ⟨pre,n,e⟩
    ·rw[e]at Ci;cases Ci
    ·exact⟨pre,n,by rw[e,ajT]⟩
   have hn:cX st n:=I.bK n (by rw[Qz];simp)
   have abb:atI (st.au.map nV) (-1)=some (nV n):=by rw[Qz,kr];exact iQ _ _
   have etop:(st.au.map st.mo).getLast?=some (st.mo n):=by rw[Qz,kr];exact akg
   have ahJ:∃r',st.au.map st.mo=.mat tx::r':=⟨r.map st.mo,by rw[Ci,kj,etx]⟩
   refine hGg ?_;refine⟨_,rfl,_,rfl,m,_,rfl,X4.gp,_,rfl,aP,_,_,_,rfl,rfl,SqL.of X4.au.2,abb,m,n,c,st,rfl,X4.at,hn,λtt htt=>?_⟩
   refine hide λGg hGg=>?_
   obtain⟨_,vt,hvt,hvv⟩:=htt;have okn:sT (st.au.map st.mo) mn.k=true->kL st mn=kW st mn:=λhh=>by
    unfold kL uW;rw[if_neg z',if_pos hh]
   refine hGg ?_;cases mn with
   |mat _=>exact absurd (.inl rfl) Nx
   |rst=>exact absurd (.inr (.inl rfl)) Nx
   |pnt _=>exact absurd (.inr (.inr rfl)) Nx
   |cls =>
    have hx:kL st .cls=none:=okn (by show uq _=true;exact hbm)
    exact⟨_,rfl,rfl,tsf (bV 4 (by decide)) (bX ⟨_,rfl,rfl,tsf (bV 4 (by decide)) (bX ⟨_,rfl,rfl,tsf (bP 4 (by decide)) (bX ⟨_,rfl,rfl,tsf (gy 4 (by decide)) (bX (q hx H4 s4))⟩)⟩)⟩)⟩
   |lay =>
    have hx:kL st .lay=none:=okn (by show uq _=true;exact hbm)
    exact⟨_,rfl,rfl,tsf (bV 5 (by decide)) (bX ⟨_,rfl,rfl,tsf (bV 5 (by decide)) (bX ⟨_,rfl,rfl,tsf (bP 5 (by decide)) (bX ⟨_,rfl,rfl,tsf (gy 5 (by decide)) (bX (q hx H4 s4))⟩)⟩)⟩)⟩
   |off u =>
    have hx:kL st (.off u)=kW st (.off u):=okn (by show uq _=true;exact hbm)
    have hv':v=.int u:=hv1 (by simp[Mn.k])
    subst hv';refine⟨_,rfl,rfl,tsf (bV 3 (by decide)) (bX ⟨_,rfl,rfl,tsf (bV 3 (by decide)) (bX ⟨_,rfl,rfl,tsf (bP 3 (by decide)) (bX ⟨_,rfl,rfl,tst (gy 3 (by decide)) ?_⟩)⟩)⟩)⟩
    refine ixv rfl ht4 rfl (dgv rfl X4.gs ⟨_,_,rfl,rfl,_,rfl,eU (λy=>?_) (λy=>?_)⟩)
    ·have y':u<=st.aQ:=of_decide_eq_true y;refine dgv rfl X4.gs ⟨(sl 2),λu2 hu=>?_⟩
     exact qx (.pL st.aQ) (by rw[hx];unfold kW;dsimp only;rw[if_pos y']) u2 _ (s4.new hu) (same_none s4 hu) ae
    ·have y':¬u<=st.aQ:=λz=>y (decide_eq_true z)
     exact q (by rw[hx];unfold kW;dsimp only;rw[if_neg y']) H4 s4
   |chg e =>
    refine hide λGg hGg=>?_
    have hx:kL st (.chg e)=kW st (.chg e):=okn (by show uq _=true;exact hbm)
    obtain⟨te,rfl,hte⟩:=hv1 (by simp[Mn.k])
    obtain⟨r',er'⟩:=ahJ;refine hGg ?_;refine⟨_,rfl,rfl,tsf (bV 1 (by decide)) (bX ⟨_,rfl,rfl,tsf (bV 1 (by decide)) (bX ⟨_,rfl,rfl,tst (bP 1 (by decide)) ?_⟩)⟩)⟩
    refine⟨_,rfl,dgv rfl X4.gp ⟨aP,_,_,_,rfl,rfl,SqL.of X4.au.2,h0,m,b,c,st,rfl,X4.at,hb,λtb2 abc=>?_⟩⟩
    refine hide λGg hGg=>?_
    rw[etx]at abc;obtain⟨_,v2,hv2,L,rfl,hL⟩:=abc;refine hGg ?_;refine⟨tb2,_,_,_,rfl,rfl,SqT.of hv2,rfl,ixv rfl ht4 rfl ⟨L,te,_,e,rfl,SqL.of hL.2,bw s4 hte.sq,hmk.ed1 hN,_,rfl,?_⟩⟩;rw[bo];cases hf:gv tx.length e with
    |true=>exact bX ⟨_,rfl,rfl,tsf (gy 1 (by decide)) (bX (q (by rw[hx];unfold kW;dsimp only;rw[er'];dsimp only;rw[if_pos hf]) H4 s4))⟩
    |false =>
     refine dP ⟨(sl 2),λu hu=>?_⟩
     exact say .noFit _ (by rw[hx];unfold kW;dsimp only;rw[er'];dsimp only;rw[if_neg (by rw[hf];decide)]) rfl rfl H4 s4 u hu
   |mnd f =>
    refine hide λGg hGg=>?_
    obtain⟨te,rfl,hte⟩:=hv1 (by simp[Mn.k])
    refine hGg ?_;refine⟨_,rfl,rfl,tst (bV 2 (by decide)) (ixv rfl (SqT.of hvt) cE ⟨rfl,_,rfl,?_⟩)⟩
    rw[bP _ (st.mo n).k8];have G1:fg (st.au.map st.mo)=false->kL st (.mnd f)=some .noChange:=λhh=>by
     have hn:sT (st.au.map st.mo) (Mn.mnd f).k=false:=(show fg (st.au.map st.mo)=false from hh)
     unfold kL uW;rw[if_neg z',if_neg (by rw[hn];decide),if_pos (by rw[hbm])]
    by_cases h1:(st.mo n).k=1
    case neg =>
     rw[decide_eq_false h1];refine dP (dP ⟨(sl 2),λu hu=>?_⟩)
     refine say .noChange _ (G1 ?_) rfl rfl H4 s4 u hu;unfold fg;rw[etop];cases hmo:st.mo n with
     |chg e=>rw[hmo]at h1;exact absurd rfl h1
     |_=>rfl
    rw[decide_eq_true h1];refine hide λGg hGg=>?_
    obtain⟨e,emo⟩:∃e,st.mo n=.chg e:=by
     cases hmo:st.mo n with
     |chg e=>exact⟨e,rfl⟩
     |_=>rw[hmo]at h1;simp[Mn.k]at h1
    rw[emo]at hvt hvv etop;obtain⟨tc,rfl,htc⟩:=hvv;refine hGg ?_;refine bX (ixv rfl (SqT.of hvt) rfl ⟨tc,_,_,_,rfl,rfl,htc.sq,nS e,rfl,_,rfl,?_⟩);rw[Fl]
    by_cases hk1:e.k=1
    ·rw[decide_eq_true hk1];refine dP ⟨(sl 2),λu hu=>?_⟩
     refine say .noChange _ (G1 ?_) rfl rfl H4 s4 u hu;unfold fg;rw[etop];dsimp only;rw[decide_eq_true hk1];rfl
    ·rw[decide_eq_false hk1];have hmo:fg (st.au.map st.mo)=true:=by
      unfold fg;rw[etop];dsimp only;rw[decide_eq_false hk1];rfl
     have hx:kL st (.mnd f)=kW st (.mnd f):=okn (show fg (st.au.map st.mo)=true from hmo)
     have hem:EdB (12+N) e:=by
      have:=I.wK hn;rw[emo]at this;exact this
     have heo:rE e:=hem.ok (by omega)
     refine bX ⟨_,rfl,rfl,tst (bV 2 (by decide)) (ixv rfl (SqT.of hvt) rfl ⟨tc,_,_,_,rfl,rfl,htc.sq,uP hk1,e.th,rfl,?_,λp1 hp1=>?_⟩)⟩
     ·have:=heo.th.len;have lim:ka=16777216:=by decide
      omega
     have s5:=s4.new (o:=.lst ((R.bf e.th).map V.str)) hp1;have s45:=aG (o:=.lst ((R.bf e.th).map V.str)) hp1;refine ixv rfl (bw s45 ht4) rfl ⟨p1,te,_,f,rfl,SqL.of ae,bw s5 hte.sq,hmk.ed2,_,rfl,?_⟩;rw[bo];cases hf:gv (R.bf e.th).length f with
     |true=>exact bX ⟨_,rfl,rfl,tsf (bP 2 (by decide)) (bX ⟨_,rfl,rfl,tsf (gy 2 (by decide)) (bX (q (by rw[hx];unfold kW;dsimp only;rw[etop];dsimp only;rw[if_pos hf]) _ s5))⟩)⟩
     |false =>
      refine dP ⟨(sl 2),λu hu=>?_⟩
      exact say .noFit _ (by rw[hx];unfold kW;dsimp only;rw[etop];dsimp only;rw[if_neg (by rw[hf];decide)]) rfl rfl _ s5 u hu
end
end My
set_option maxHeartbeats 1000000
namespace My
open PySem L2
seal PySem.wpAny
theorem bI.QA {α β:Type}{R R':α->β->Prop}:∀ {as:List α} {bs:List β} {j:Nat} {a':α} {b:β},bI R as bs->bs[j]?=some b->(∀k a b',k≠j->as[k]?=some a->R a b'->R' a b')->R' a' b->bI R' (as.set j a') bs
 |_,_,_,_,_,.nil,h,_,_=>by simp at h
 |a::as,b0::bs,0,a',b,.cons h t,hb,hk,hn=>by
  rw[ajX]at hb;cases hb;refine .cons hn ?_;have:∀ {as:List α} {bs:List β} (s:Nat),(∀(k:Nat) a b',as[k]?=some a->R a b'->R' a b')->bI R as bs->bI R' as bs:=by
   intro as bs s f z
   induction z with
   |nil=>exact .nil
   |cons h1 t1 ih=>exact .cons (f 0 _ _ ajX h1) (ih λk a b' e=>f (k+1) a b' (by rw[aj2];exact e))
  exact this 0 (λk x y e=>hk (k+1) x y (by omega) (by rw[aj2];exact e)) t
 |a::as,b0::bs,j+1,a',b,.cons h t,hb,hk,hn=>by
  rw[aj2]at hb;exact .cons (hk 0 _ _ (by omega) ajX h) (t.QA hb (λk x y ne e=>hk (k+1) x y (by omega) (by rw[aj2];exact e)) hn)
theorem pY (st:Ch):(iy st).length=st.made.length:=by unfold iy;rw[bo,aku]
theorem G2 {st:Ch}{j:Nat}{x:Ent}(h:(iy st)[j]?=some x):x=gS st (j+1)/\j < st.made.length:=by
 have hj:j < st.made.length:=by rw[<-pY];exact(List.getElem?_eq_some_iff.mp h).1
 have e:=nI (st:=st) (n:=j+1) ⟨by omega,by omega⟩
 rw[Nat.add_sub_cancel]at e;rw[e]at h;exact⟨(ajJ h).symm,hj⟩
theorem G3 {st st':Ch}{n:Nat}(hl:st'.made.length=st.made.length)(hn:cX st n)(h:∀k,cX st k->k≠n->gS st' k=gS st k):iy st'=(iy st).set (n - 1) (gS st' n):=by
 refine List.ext_getElem? λj=>?_
 have h1:=hn.1;have h2:=hn.2
 by_cases hj:j < st.made.length
 ·have e:=nI (st:=st') (n:=j+1) ⟨by omega,by omega⟩
  rw[Nat.add_sub_cancel]at e;rw[e]
  by_cases z:j=n - 1
  ·subst z;rw[List.getElem?_set_self (by rw[pY];omega),show n - 1+1=n by omega]
  ·rw[List.getElem?_set_ne (λy=>z y.symm)]
   have e2:=nI (st:=st) (n:=j+1) ⟨by omega,by omega⟩
   rw[Nat.add_sub_cancel]at e2;rw[e2,h (j+1) ⟨by omega,by omega⟩ (by omega)]
 ·rw[List.getElem?_eq_none (by rw[pY];omega),List.getElem?_eq_none (by rw[akC,pY];omega)]
theorem QB {st st':Ch}(hl:st'.made.length=st.made.length+1)(h:∀k,cX st k->gS st' k=gS st k):iy st'=iy st++[gS st' (st.made.length+1)]:=by
 unfold iy;rw[hl,List.range'_concat,kr,Nat.one_mul,Nat.add_comm 1]
 congr 1
 refine akp λk hk=>?_
 rw[akH]at hk;exact h k ⟨hk.1,by omega⟩
theorem Cj {n k:Nat}{e:Ed}:∀ {xs:List (Nat×List Ed)},at1 k (rH n e xs)=(at1 k xs).map λx=>if x.1=n then (x.1,x.2++[e]) else x
 |[]=>rfl
 |y::xs=>by
  have ih:=Cj (n:=n) (k:=k) (e:=e) (xs:=xs);unfold at1 rH at ih ⊢;rw[kj,aka,aka];have ek:(if y.1=n then (y.1,y.2++[e]) else y).1=y.1:=by split <;> rfl
  rw[ek]
  by_cases z:y.1=k
  ·rw[decide_eq_true z];rfl
  ·rw[decide_eq_false z];exact ih
theorem QC {st:Ch}{n:Nat}{e:Ed}{x:Nat×List Ed}(h:at1 n st.kept=some x):fS { st with kept:=rH n e st.kept } n=fS st n++[e]:=by
 unfold fS;show ((at1 n (rH n e st.kept)).map (·.2)).getD []=_
 rw[Cj,h];have:=(jd h).1;show (if x.1=n then (x.1,x.2++[e]) else x).2=x.2++[e]
 rw[if_pos this]
theorem G4 {st:Ch}{n k:Nat}{e:Ed}(ne:k≠n):fS { st with kept:=rH n e st.kept } k=fS st k:=by
 unfold fS;show ((at1 k (rH n e st.kept)).map (·.2)).getD []=_
 rw[Cj];cases h:at1 k st.kept with
 |none=>rfl
 |some x =>
  have:=(jd h).1;show (if x.1=n then (x.1,x.2++[e]) else x).2=x.2
  rw[if_neg (by rw[this];exact ne)]
def WI (n:Nat):Rl->Bool | .cM m=>decide (m=n) | _=>false
section
variable{i:Nat}{c c':Col}{H H':Hp}{m aP aA aD aM:Addr}{st:Ch}{ds:List Addr}{ws es:List V}
theorem MdX.QD (X:MdX i c H m st aP aA aD aM ds ws es){n:Nat}(hn:cX st n){mn:Mn}{p t1 t2 k t':Addr}(he:es[n - 1]?=some (.ref p))(hp:LstAt i c H (.cM n) p [.ref t1,.ref t2,.ref k])(ht:MnT c H mn t') :
  Step (Wr i (WI n)) c c H (upd H p (.lst [.ref t',.ref t2,.ref k]))/\MdX i c (upd H p (.lst [.ref t',.ref t2,.ref k])) m { st with made:=st.made.set (n - 1) mn } aP aA aD aM ds ws es:=by
 have s:Step (Wr i (WI n)) c c H (upd H p (.lst [.ref t',.ref t2,.ref k])):=Step.upd Wr.nn (Wr.yes hp.1 (decide_eq_true rfl));have kk:=mz rfl s X.co X.ob;have ee:iy { st with made:=st.made.set (n - 1) mn }=(iy st).set (n - 1) (gS { st with made:=st.made.set (n - 1) mn } n) :=
  G3 (by show (st.made.set (n - 1) mn).length=_;rw[akC]) hn λk hk ne=>by
   unfold gS;rw[pP hn hk.1 ne rfl];rfl
 refine⟨s,kk.1,kk.2,X.au.kp rfl s,X.aB.kp rfl s,kJ (λ_ _=>rfl) s X.wait,X.dec.kp rfl s,jb s X.mD,X.lG.kp rfl s,?_⟩
 rw[ee];refine X.ent.QA he (λj x b ne ex z=>?_) ?_
 ·obtain⟨e1,hj⟩:=G2 ex;have hx:x.1≠n:=by rw[e1];show j+1≠n;omega
  obtain⟨q,t1,t2,k,ts,e,z1,z2,z3,z4,z5⟩:=z;exact⟨q,t1,t2,k,ts,e,z1.kp (decide_eq_false hx) s,z2.step s,λtx ht=>(z3 tx ht).step s,z4.kp rfl s,z5.imp λ_ _ y=>y.step s⟩
 ·obtain⟨v,ev,q,t1',t2',k',ts,e,z1,z2,z3,z4,z5⟩:=X.ent.get (nI hn);rw[he]at ev;cases ev;cases e;have hh:=z1.2;rw[hp.2]at hh;injection hh with hh
  injection hh with hh
  injection hh with h1 hh
  injection hh with h2 hh
  injection hh with h3 hh
  injection h2 with h2
  injection h3 with h3
  subst h2;subst h3;refine⟨p,t',t2,k,ts,rfl,⟨hp.1,ae⟩,?_,λtx ht=>(z3 tx ht).step s,z4.kp rfl s,z5.imp λ_ _ y=>y.step s⟩
  have:(gS { st with made:=st.made.set (n - 1) mn } n).2.1=mn:=B4 hn rfl
  rw[this];exact ht.step s
theorem MdX.Fn (X:MdX i c H m st aP aA aD aM ds ws es){n:Nat}(hn:cX st n){e:Ed}{x:Nat×List Ed}(hx:at1 n st.kept=some x){p t1 t2 k t:Addr}{ts:List Addr}(he:es[n - 1]?=some (.ref p))(hp:LstAt i c H (.cM n) p [.ref t1,.ref t2,.ref k])(hk:LstAt i c H (.gx n) k (ts.map V.ref))(ht:TupAt c H t (eK e)) :
  Step (Wr i (MB n)) c c H (upd H k (.lst (ts.map V.ref++[.ref t])))/\MdX i c (upd H k (.lst (ts.map V.ref++[.ref t]))) m { st with kept:=rH n e st.kept } aP aA aD aM ds ws es:=by
 have s:Step (Wr i (MB n)) c c H (upd H k (.lst (ts.map V.ref++[.ref t]))):=Step.upd Wr.nn (Wr.yes hk.1 (decide_eq_true rfl));have kk:=mz rfl s X.co X.ob;have ee:iy { st with kept:=rH n e st.kept }=(iy st).set (n - 1) (gS { st with kept:=rH n e st.kept } n) :=
  G3 rfl hn λj hj ne=>by
   unfold gS;rw[G4 ne];rfl
 refine⟨s,kk.1,kk.2,X.au.kp rfl s,X.aB.kp rfl s,kJ (λ_ _=>rfl) s X.wait,X.dec.kp rfl s,jb s X.mD,X.lG.kp rfl s,?_⟩
 rw[ee];refine X.ent.QA he (λj x b ne ex z=>?_) ?_
 ·obtain⟨e1,hj⟩:=G2 ex;have hx:x.1≠n:=by rw[e1];show j+1≠n;omega
  obtain⟨q,t1,t2,k,ts,e,z1,z2,z3,z4,z5⟩:=z;exact⟨q,t1,t2,k,ts,e,z1.kp rfl s,z2.step s,λtx ht=>(z3 tx ht).step s,z4.kp (decide_eq_false hx) s,z5.imp λ_ _ y=>y.step s⟩
 ·obtain⟨v,ev,q,t1',t2',k',ts',e,z1,z2,z3,z4,z5⟩:=X.ent.get (nI hn);rw[he]at ev;cases ev;cases e;have hh:=z1.2;rw[hp.2]at hh;injection hh with hh
  injection hh with hh
  injection hh with h1 hh
  injection hh with h2 hh
  injection hh with h3 hh
  injection h1 with h1
  injection h2 with h2
  injection h3 with h3
  subst h1;subst h2;subst h3;have e3:ts'.map V.ref=ts.map V.ref:=by
   have:=z4.2;rw[hk.2]at this;injection this with this
   injection this with this
   exact this.symm
  refine⟨p,t1,t2,k,ts'++[t],rfl,z1.kp rfl s,z2.step s,λtx ht=>(z3 tx ht).step s,⟨z4.1,by rw[ae,<-e3,kr];rfl⟩,?_⟩
  show bI _ (fS { st with kept:=rH n e st.kept } n) (ts'++[t])
  rw[QC hx];exact(z5.imp λ_ _ y=>y.step s).snoc (ht.step s)
theorem MdX.lE (X:MdX i c H m st aP aA aD aM ds ws es){n:Nat}{u:Int}{t p:Addr}(ht:H t=none)(hp:H p=none)(ntp:p≠t)(hn:n∉st.aB.map (·.1)) :
  ∃c',Step (Wr i Ss) c c' H (upd (upd (upd (upd H t (.tup [.int u,.ref aP])) aA (.dK (putK (a7 ((st.aB.map (·.1)).zip ws)) (km (n:Int)) (.ref t)))) p (.lst [])) m (.dK (mdF (.int st.aQ) (.bl st.closed) (.ref p) (.ref aA) (.ref aD) (.ref aM)))) /\
  MdX i c' (upd (upd (upd (upd H t (.tup [.int u,.ref aP])) aA (.dK (putK (a7 ((st.aB.map (·.1)).zip ws)) (km (n:Int)) (.ref t)))) p (.lst [])) m (.dK (mdF (.int st.aQ) (.bl st.closed) (.ref p) (.ref aA) (.ref aD) (.ref aM)))) m (st.lE n u) p aA aD aM ds (ws++[.ref t]) es:=by
 have nt:∀ {a:Addr} {v:HO},H a=some v->a≠t:=λe=>aI e ht
 have np:∀ {a:Addr} {v:HO},H a=some v->a≠p:=λe=>aI e hp
 have oA:m≠aA:=dD X.co X.aB.1 (λz=>nomatch z)
 have oP:m≠aP:=dD X.co X.au.1 (λz=>nomatch z)
 have AP:aA≠aP:=dD X.aB.1 X.au.1 (λz=>nomatch z)
 have e:=pO (v:=.ref t) hn (vs:=ws) (by rw[bo];exact X.wait.len)
 have hp2:(upd (upd H t (.tup [.int u,.ref aP])) aA (.dK (putK (a7 ((st.aB.map (·.1)).zip ws)) (km (n:Int)) (.ref t)))) p=none:=by
  rw[av (np X.aB.2).symm,av ntp];exact hp
 have x1:az (az c t none) p (some (i,.au)) m=some (i,.ob):=by rw[aw (np X.ob),aw (nt X.ob)];exact X.co
 have x2:az (az c t none) p (some (i,.au)) aP=some (i,.au):=by rw[aw (np X.au.2),aw (nt X.au.2)];exact X.au.1
 have x3:az c t none aA=some (i,.aB):=by rw[aw (nt X.aB.2)];exact X.aB.1
 refine⟨az (az (az c t none) p (some (i,.au))) aP (some (i,.eM n)),?_⟩;have s:Step (Wr i Ss) c (az (az (az c t none) p (some (i,.au))) aP (some (i,.eM n))) H (upd (upd (upd (upd H t (.tup [.int u,.ref aP])) aA (.dK (putK (a7 ((st.aB.map (·.1)).zip ws)) (km (n:Int)) (.ref t)))) p (.lst [])) m (.dK (mdF (.int st.aQ) (.bl st.closed) (.ref p) (.ref aA) (.ref aD) (.ref aM)))) :=
  ((((Step.new Wr.nn ht).trans (Step.upd Wr.nn ⟨.aB,x3,rfl⟩)).trans (Step.new Wr.nn hp2)).trans (Step.upd Wr.nn ⟨.ob,x1,rfl⟩)).trans (Step.role Wr.nn ⟨.au,x2,rfl⟩)
 have k1:az (az (az c t none) p (some (i,.au))) aP (some (i,.eM n)) m=some (i,.ob):=by rw[aw oP];exact x1
 have y1:az (az (az c t none) p (some (i,.au))) aP (some (i,.eM n)) aA=some (i,.aB):=by rw[aw AP,aw (np X.aB.2)];exact x3
 have y2:az (az (az c t none) p (some (i,.au))) aP (some (i,.eM n)) aP=some (i,.eM n):=aW;have y3:az (az (az c t none) p (some (i,.au))) aP (some (i,.eM n)) p=some (i,.au):=by rw[aw (np X.au.2).symm,aW]
 have y4:az (az (az c t none) p (some (i,.au))) aP (some (i,.eM n)) t=none:=by rw[aw (nt X.au.2).symm,aw ntp.symm,aW]
 generalize az (az (az c t none) p (some (i,.au))) aP (some (i,.eM n))=c3 at s k1 y1 y2 y3 y4 ⊢;have z1:(upd (upd (upd (upd H t (.tup [.int u,.ref aP])) aA (.dK (putK (a7 ((st.aB.map (·.1)).zip ws)) (km (n:Int)) (.ref t)))) p (.lst [])) m (.dK (mdF (.int st.aQ) (.bl st.closed) (.ref p) (.ref aA) (.ref aD) (.ref aM)))) aA=some (.dK (a7 (((st.aB++[(n,u,st.au)]).map (·.1)).zip (ws++[.ref t])))):=by rw[av oA.symm,av (np X.aB.2),ae,e,kr];rfl
 have z2:(upd (upd (upd (upd H t (.tup [.int u,.ref aP])) aA (.dK (putK (a7 ((st.aB.map (·.1)).zip ws)) (km (n:Int)) (.ref t)))) p (.lst [])) m (.dK (mdF (.int st.aQ) (.bl st.closed) (.ref p) (.ref aA) (.ref aD) (.ref aM)))) aP=some (.lst (st.au.map nV)):=by rw[av oP.symm,av (np X.au.2),av AP.symm,av (nt X.au.2)];exact X.au.2
 have z3:(upd (upd (upd (upd H t (.tup [.int u,.ref aP])) aA (.dK (putK (a7 ((st.aB.map (·.1)).zip ws)) (km (n:Int)) (.ref t)))) p (.lst [])) m (.dK (mdF (.int st.aQ) (.bl st.closed) (.ref p) (.ref aA) (.ref aD) (.ref aM)))) p=some (.lst []):=by rw[av (np X.ob).symm,ae]
 have z4:(upd (upd (upd (upd H t (.tup [.int u,.ref aP])) aA (.dK (putK (a7 ((st.aB.map (·.1)).zip ws)) (km (n:Int)) (.ref t)))) p (.lst [])) m (.dK (mdF (.int st.aQ) (.bl st.closed) (.ref p) (.ref aA) (.ref aD) (.ref aM)))) t=some (.tup [.int u,.ref aP]):=by rw[av (nt X.ob).symm,av ntp.symm,av (nt X.aB.2).symm,ae]
 have z5:(upd (upd (upd (upd H t (.tup [.int u,.ref aP])) aA (.dK (putK (a7 ((st.aB.map (·.1)).zip ws)) (km (n:Int)) (.ref t)))) p (.lst [])) m (.dK (mdF (.int st.aQ) (.bl st.closed) (.ref p) (.ref aA) (.ref aD) (.ref aM)))) m=some (.dK (mdF (.int st.aQ) (.bl st.closed) (.ref p) (.ref aA) (.ref aD) (.ref aM))):=ae
 generalize upd (upd (upd (upd H t (.tup [.int u,.ref aP])) aA (.dK (putK (a7 ((st.aB.map (·.1)).zip ws)) (km (n:Int)) (.ref t)))) p (.lst [])) m (.dK (mdF (.int st.aQ) (.bl st.closed) (.ref p) (.ref aA) (.ref aD) (.ref aM)))=H5 at s z1 z2 z3 z4 z5 ⊢
 exact⟨s,k1,z5,⟨y3,z3⟩,⟨y1,z1⟩,(kJ (λ_ _=>rfl) s X.wait).snoc ⟨t,aP,rfl,⟨y4,.inl z4⟩,y2,z2⟩,X.dec.kp rfl s,jb s X.mD,X.lG.kp rfl s,GW (λ_ _=>rfl) (λ_ _=>rfl) s X.ent⟩
end
end My
set_option maxHeartbeats 1000000
namespace My
open PySem L2
seal PySem.wpAny
theorem FG {β:Type}{k:Nat}{y:Nat×β}:∀ {xs:List (Nat×β)},at1 k (xs++[y])=(match at1 k xs with | some x=>some x | none=>if y.1=k then some y else none)
 |[]=>by
  unfold at1;rw[List.nil_append,aka,List.find?_nil]
  by_cases z:y.1=k
  ·rw[decide_eq_true z,if_pos z]
  ·rw[decide_eq_false z,if_neg z]
 |x::xs=>by
  have ih:=FG (k:=k) (y:=y) (xs:=xs);unfold at1 at ih ⊢;rw[List.cons_append,aka,aka]
  by_cases z:x.1=k
  ·rw[decide_eq_true z]
  ·rw[decide_eq_false z];exact ih
theorem Ky {β:Type}{k:Nat}{xs:List (Nat×β)}(h:k∉xs.map (·.1)):at1 k xs=none:=by
 cases e:at1 k xs with
 |none=>rfl
 |some x =>
  obtain⟨h1,h2⟩:=jd e;exact absurd (List.mem_map.mpr ⟨x,h2,h1⟩) h
theorem Ck {β:Type}{k:Nat}{y:Nat×β}{xs:List (Nat×β)}(h:y.1≠k):at1 k (xs++[y])=at1 k xs:=by
 rw[FG];cases at1 k xs with
 |some x=>rfl
 |none=>exact if_neg h
theorem yS {β:Type}{k:Nat}{z:β}{xs:List (Nat×β)}(h:k∉xs.map (·.1)):at1 k (xs++[(k,z)])=some (k,z):=by
 rw[FG,Ky h];exact if_pos rfl
def abd:Rl->Bool | .made=>true | .au=>true | _=>false
section
variable{i:Nat}{c c':Col}{H H':Hp}{m aP aA aD aM:Addr}{st:Ch}{ds:List Addr}{ws es:List V}
theorem SM {mn:Mn}{row:Str}{k:Nat}(hk:cX st k):gS (st.moved mn row) k=gS st k:=by
 have h2:=hk.2;have e1:(st.moved mn row).mo k=st.mo k:=Ft rfl hk;have e2:fS (st.moved mn row) k=fS st k:=by
  unfold fS;cases mn with
  |mat tx =>
   show ((at1 k (st.kept++[(st.made.length+1,([]:List Ed))])).map (·.2)).getD []=_
   rw[Ck (by show st.made.length+1≠k;omega)]
  |_=>rfl
 have e3:Cb (st.moved mn row) k=Cb st k:=by
  unfold Cb;cases mn with
  |mat tx =>
   show (at1 k (st.firsts++[(st.made.length+1,tx)])).map (·.2)=_
   rw[Ck (by show st.made.length+1≠k;omega)]
  |_=>rfl
 unfold gS;rw[e1,e2,e3]
theorem SN {mn:Mn}{row:Str}(hk:st.made.length+1∉st.kept.map (·.1))(hf:st.made.length+1∉st.firsts.map (·.1)):gS (st.moved mn row) (st.made.length+1)=(st.made.length+1,mn,[],(match mn with | .mat tx=>some tx | _=>none)):=by
 have e1:(st.moved mn row).mo (st.made.length+1)=mn:=Ko rfl;unfold gS;rw[e1];cases mn with
 |mat tx =>
  have e2:fS (st.moved (.mat tx) row) (st.made.length+1)=[]:=by
   unfold fS;show ((at1 (st.made.length+1) (st.kept++[(st.made.length+1,([]:List Ed))])).map (·.2)).getD []=_
   rw[yS hk];rfl
  have e3:Cb (st.moved (.mat tx) row) (st.made.length+1)=some tx:=by
   unfold Cb;show (at1 (st.made.length+1) (st.firsts++[(st.made.length+1,tx)])).map (·.2)=_
   rw[yS hf];rfl
  rw[e2,e3]
 |_ =>
  unfold fS Cb;show (_,_,((at1 (st.made.length+1) st.kept).map (·.2)).getD [],(at1 (st.made.length+1) st.firsts).map (·.2))=_
  rw[Ky hk,Ky hf];rfl
theorem MdX.moved (X:MdX i c H m st aP aA aD aM ds ws es){mn:Mn}{row:Str}{t k p:Addr}(hk:st.made.length+1∉st.kept.map (·.1))(hf:st.made.length+1∉st.firsts.map (·.1))(ht:MnT c H mn t)(nk:H k=none)(np:H p=none)(nkp:p≠k) :
  ∃c',Step (Wr i abd) c c' H (upd (upd (upd (upd H k (.lst [])) p (.lst [.ref t,.ref t,.ref k])) aM (.lst (es++[.ref p]))) aP (.lst (st.au.map nV++[nV (st.made.length+1)]))) /\
  MdX i c' (upd (upd (upd (upd H k (.lst [])) p (.lst [.ref t,.ref t,.ref k])) aM (.lst (es++[.ref p]))) aP (.lst (st.au.map nV++[nV (st.made.length+1)]))) m (st.moved mn row) aP aA aD aM ds ws (es++[.ref p]):=by
 have ak:∀ {a:Addr} {v:HO},H a=some v->a≠k:=λe=>aI e nk
 have ap:∀ {a:Addr} {v:HO},H a=some v->a≠p:=λe=>aI e np
 have MP:aM≠aP:=dD X.lG.1 X.au.1 (λz=>nomatch z)
 have hp2:(upd H k (.lst [])) p=none:=(av nkp).trans np;have x1:az (az c k (some (i,.gx (st.made.length+1)))) p (some (i,.cM (st.made.length+1))) aM=some (i,.made):=by rw[aw (ap X.lG.2),aw (ak X.lG.2)];exact X.lG.1
 have x2:az (az c k (some (i,.gx (st.made.length+1)))) p (some (i,.cM (st.made.length+1))) aP=some (i,.au):=by rw[aw (ap X.au.2),aw (ak X.au.2)];exact X.au.1
 have x3:az (az c k (some (i,.gx (st.made.length+1)))) p (some (i,.cM (st.made.length+1))) p=some (i,.cM (st.made.length+1)):=aW;have x4:az (az c k (some (i,.gx (st.made.length+1)))) p (some (i,.cM (st.made.length+1))) k=some (i,.gx (st.made.length+1)):=by rw[aw nkp.symm,aW]
 refine⟨az (az c k (some (i,.gx (st.made.length+1)))) p (some (i,.cM (st.made.length+1))),?_⟩;have s:Step (Wr i abd) c (az (az c k (some (i,.gx (st.made.length+1)))) p (some (i,.cM (st.made.length+1)))) H (upd (upd (upd (upd H k (.lst [])) p (.lst [.ref t,.ref t,.ref k])) aM (.lst (es++[.ref p]))) aP (.lst (st.au.map nV++[nV (st.made.length+1)]))) :=
  (((Step.new Wr.nn nk).trans (Step.new Wr.nn hp2)).trans (Step.upd Wr.nn ⟨.made,x1,rfl⟩)).trans (Step.upd Wr.nn ⟨.au,x2,rfl⟩)
 generalize az (az c k (some (i,.gx (st.made.length+1)))) p (some (i,.cM (st.made.length+1)))=c3 at s x1 x2 x3 x4 ⊢;have z1:(upd (upd (upd (upd H k (.lst [])) p (.lst [.ref t,.ref t,.ref k])) aM (.lst (es++[.ref p]))) aP (.lst (st.au.map nV++[nV (st.made.length+1)]))) aM=some (.lst (es++[.ref p])):=by rw[av MP,ae]
 have z2:(upd (upd (upd (upd H k (.lst [])) p (.lst [.ref t,.ref t,.ref k])) aM (.lst (es++[.ref p]))) aP (.lst (st.au.map nV++[nV (st.made.length+1)]))) aP=some (.lst ((st.au++[st.made.length+1]).map nV)):=by rw[ae,kr];rfl
 have z3:(upd (upd (upd (upd H k (.lst [])) p (.lst [.ref t,.ref t,.ref k])) aM (.lst (es++[.ref p]))) aP (.lst (st.au.map nV++[nV (st.made.length+1)]))) p=some (.lst [.ref t,.ref t,.ref k]):=by rw[av (ap X.au.2).symm,av (ap X.lG.2).symm,ae]
 have z4:(upd (upd (upd (upd H k (.lst [])) p (.lst [.ref t,.ref t,.ref k])) aM (.lst (es++[.ref p]))) aP (.lst (st.au.map nV++[nV (st.made.length+1)]))) k=some (.lst []):=by rw[av (ak X.au.2).symm,av (ak X.lG.2).symm,av nkp.symm,ae]
 generalize upd (upd (upd (upd H k (.lst [])) p (.lst [.ref t,.ref t,.ref k])) aM (.lst (es++[.ref p]))) aP (.lst (st.au.map nV++[nV (st.made.length+1)]))=H5 at s z1 z2 z3 z4 ⊢;have kk:=mz rfl s X.co X.ob;refine⟨s,kk.1,kk.2,⟨x2,z2⟩,X.aB.kp rfl s,kJ (λ_ _=>rfl) s X.wait,X.dec.kp rfl s,jb s X.mD,⟨x1,z1⟩,?_⟩
 rw[QB (st:=st) (st':=st.moved mn row) (by show (st.made++[mn]).length=_;rw[kx];rfl) λj hj=>SM hj,SN hk hf]
 refine(GW (λ_ _=>rfl) (λ_ _=>rfl) s X.ent).snoc ⟨p,t,t,k,[],rfl,⟨x3,z3⟩,ht.step s,λtx e=>?_,⟨x4,z4⟩,.nil⟩
 cases mn with
 |mat ty =>
  have e':some ty=some tx:=e;cases e';exact ht.step s
 |_=>cases e
theorem MdX.waitOf (X:MdX i c H m st aP aA aD aM ds ws es){n:Nat}{x:Nat×Int×List Nat}(hx:at1 n st.aB=some x):∃t p,gD (a7 ((st.aB.map (·.1)).zip ws)) (km (n:Int))=some (.ref t)/\TupAt c H t [.int x.2.1,.ref p]/\LstAt i c H (.eM n) p (x.2.2.map nV):=by
 obtain⟨v,h1,t,p,rfl,h2,h3⟩:=X.wait.val hx;rw[(jd hx).1]at h3;exact⟨t,p,h1,h2,h3⟩
theorem MdX.rh (X:MdX i c H m st aP aA aD aM ds ws es){n:Nat}{p:Addr}{pl:List Nat}(hl:LstAt i c H (.eM n) p (pl.map nV)) :
  ∃c' ws',Step (Wr i (MC n)) c c' H (upd (upd H aA (.dK (iC (a7 ((st.aB.map (·.1)).zip ws)) (km (n:Int))))) m (.dK (mdF (.int st.aQ) (.bl st.closed) (.ref p) (.ref aA) (.ref aD) (.ref aM)))) /\
  MdX i c' (upd (upd H aA (.dK (iC (a7 ((st.aB.map (·.1)).zip ws)) (km (n:Int))))) m (.dK (mdF (.int st.aQ) (.bl st.closed) (.ref p) (.ref aA) (.ref aD) (.ref aM)))) m (st.rh n pl) p aA aD aM ds ws' es:=by
 have oA:m≠aA:=dD X.co X.aB.1 (λz=>nomatch z)
 have op:m≠p:=dD X.co hl.1 (λz=>nomatch z)
 have Ap:aA≠p:=dD X.aB.1 hl.1 (λz=>nomatch z)
 obtain⟨ws',e1,e2⟩:=X.wait.drop (n:=n);refine⟨az c p (some (i,.au)),ws',?_⟩;have s:Step (Wr i (MC n)) c (az c p (some (i,.au))) H (upd (upd H aA (.dK (iC (a7 ((st.aB.map (·.1)).zip ws)) (km (n:Int))))) m (.dK (mdF (.int st.aQ) (.bl st.closed) (.ref p) (.ref aA) (.ref aD) (.ref aM)))) :=
  ((Step.upd Wr.nn ⟨.aB,X.aB.1,rfl⟩).trans (Step.upd Wr.nn ⟨.ob,X.co,rfl⟩)).trans (Step.role Wr.nn ⟨.eM n,hl.1,decide_eq_true rfl⟩)
 refine⟨s,by rw[aw op];exact X.co,ae,⟨aW,by rw[av op.symm,av Ap.symm];exact hl.2⟩,⟨by rw[aw Ap];exact X.aB.1,by rw[av oA.symm,ae,e1];rfl⟩,kJ (λx hx=>decide_eq_false (of_decide_eq_true (List.mem_filter.mp hx).2)) s e2,X.dec.kp rfl s,jb s X.mD,X.lG.kp rfl s,GW (λ_ _=>rfl) (λ_ _=>rfl) s X.ent⟩
end
end My
set_option maxHeartbeats 1000000
namespace My
open PySem L2
seal PySem.wpAny
def QE (i:Nat):Sp:=λvs H Q _=>∃(m t:Addr) (c:Col) (st:Ch) (mn:Mn) (N:Nat),vs=[.ref m,.ref t]/\ji i c H m st/\MnT c H mn t/\Inv N st/\N<=900/\rm (st.au.map st.mo) mn/\MOk N mn /\
 ∀c' H',Step (dv i) c c' H H'->ji i c' H' m (st.carry mn)->Q .non H'
theorem in2:∀k,k < 8->(if false=true then !inV (V.str (nm k)) [V.str (ar "put off"),V.str (ar "lay")] else inV (V.str (nm k)) [V.str (ar "put off"),V.str (ar "lay")])=decide (k=3\/k=5):=by decide +kernel
section
variable{P:me}{w:World}{K:ba}{mg:Str->Option Value}{base:Heap}{A:Adr}
set_option maxHeartbeats 4000000 in
theorem Ny (T:Txt w.params K mg A){i:Nat}:aK P w K mg base CX0 2 A.EV A.ub ["_law_m","_law_motion"] (QE i):=by
 have G5:aK P w K mg base CX0 1 A.EU A.ua ["_law_things","_law_edit_here"] (GZ K):=Nw T;have jN:aK P w K mg base CX0 1 A.qt A.ir ["_law_clause_here"] R.eL:=qP T;refine T.Br.ok jz (λvs H Q E h=>?_) (λcdv A' outer s H vs Q E hr h=>?_)
 ·obtain⟨m,t,c,st,mn,N,rfl,_⟩:=h;rfl
 ·obtain⟨m,t,c,st,mn,N,rfl,hm,hmt,I,hN,wM,CV,q⟩:=h;obtain⟨aP,aA,aD,aM,ds,ws,es,X⟩:=hm.ex;have hu1:=hr.u1;have pJ:=hr.units;have D6:=hr;have iz:=hr;have sz:ka=16777216:=by decide
  refine⟨_,(ai (a5 (ay bu (aJ aL (pv 1) af (λ_ _=>rfl)) ao (aN _))
 (ai (a8 (i:=2) jz.nd rfl (adm rfl) (aJ bz (bc hu1 (pv 0) ao (λ_ _=>rfl)) (a6 nO (aJ bz (bc hu1 (pv 0) ao (λ_ _=>rfl)) af (λ_ _=>rfl)) af) (λ_ _=>rfl)))
 (ai (AH (bt (aa ao (aa (aV G5 D6 rfl T.Bq T.wk.kp T.Bp .nil aY (aa (aJ aL (aJ bz (pv 2) af (λ_ _=>rfl)) af (λ_ _=>rfl)) (aa (aJ aL (pv 1) af (λ_ _=>rfl)) ah))) ah))) (JE (pv 2) af set_list))
 (aj (bJ (gR rf ajU ajV cU (aJ bz (pv 2) af (λ_ _=>rfl)) (aa (aJ aL (pv 1) af (λ_ _=>rfl)) ah))))))
 aH)
 (ai (a5 (ay bu (aJ aL (pv 1) af (λ_ _=>rfl)) ao (aN _))
 (ai (a8 (i:=3) jz.nd rfl (adm rfl) (aJ bz (bc hu1 (pv 0) ao (λ_ _=>rfl)) (a6 nO (aJ bz (bc hu1 (pv 0) ao (λ_ _=>rfl)) (oF jq af) (λ_ _=>rfl)) af) (λ_ _=>rfl)))
 (ai (AH (aJ aL (aJ bz (pv 3) af (λ_ _=>rfl)) af (λ_ _=>rfl)) (JD rfl (j9 (fV (i:=4) jz.nd rfl (adm rfl)) (j9 (fV (i:=5) jz.nd rfl (adm rfl)) (j9 (fV (i:=6) jz.nd rfl (adm rfl)) El)))))
 (aj (AH (bt (aa ao (aa (bt (aa (pv 4) (aa (pv 5) (aa (gR akK PySem.F.slot_str_join PySem.F.type_str_join Ex ao (aa (aV G5 D6 rfl T.Bq T.wk.kp T.Bp .nil aY (aa (aV jN iz rfl T.pF T.lV.kp T.pE .nil aY (aa (pv 6) ah)) (aa (aJ aL (pv 1) af (λ_ _=>rfl)) ah))) ah)) ah)))) ah))) (JE (pv 3) af set_list)))))
 aH)
 (ai (a5 (ay bu (aJ aL (pv 1) af (λ_ _=>rfl)) ao (aN _))
 (aj (hZ hu1 (pv 0) ao gb rfl))
 aH)
 (ai (a5 (ay bu (aJ aL (pv 1) af (λ_ _=>rfl)) ao (aN _))
 (aj (hZ hu1 (pv 0) ao (a6 d6 (bc hu1 (pv 0) ao (λ_ _=>rfl)) af) rfl))
 aH)
 (aj (a5 (ay tU (aJ aL (pv 1) af (λ_ _=>rfl)) (bt (aa ao (aa ao ah))) rfl)
 (ai (a8 (i:=7) jz.nd rfl (adm rfl) (aJ aL (a6 RK (pv 1) (bt (aa (bc hu1 (pv 0) ao (λ_ _=>rfl)) ah))) af (λ_ _=>rfl)))
 (ai (hZ hu1 (bc hu1 (pv 0) ao (λ_ _=>rfl)) (aJ bz (bc hu1 (pv 0) ao (λ_ _=>rfl)) af (λ_ _=>rfl)) (bt (aa (pv 7) (aa (bc hu1 (pv 0) ao (λ_ _=>rfl)) ah))) rfl)
 (aj (hZ hu1 (pv 0) ao (bR ah) rfl))))
 aH)))))),?_⟩
  refine hide λGg hGg=>?_
  have WJ:=hmt;obtain⟨ct,v,hvt,hvv⟩:=hmt;have ht:SqT K H t (rowOf mn.k v):=SqT.of hvt;have lM:=I.lm;have kc:∀ {v0 v1 v2 v3 v4 v5:V},(mdF v0 v1 v2 v3 v4 v5).length < ka:=by intros;show 6 < ka;decide
  refine hGg ?_;cases mn with
  |mat tx =>
   refine ixv rfl ht rfl ⟨rfl,tsf (bP 0 (by decide)) (ixv rfl ht rfl ⟨rfl,tsf (bV 0 (by decide)) (ixv rfl ht rfl ⟨rfl,tsf (jc 0 (by decide)) (ixv rfl ht rfl ⟨rfl,tsf (mG 0 (by decide)) (ixv rfl ht rfl ⟨(sl 2),λu hu=>⟨u,_,rfl,.inr (SqT.of ae),rfl,rfl,tsf (in2 0 (by decide)) ?_⟩⟩)⟩)⟩)⟩)⟩
   exact q c _ (Step.same aU (aG hu)) (X.same (aG hu)).at
  |pnt z =>
   refine ixv rfl ht rfl ⟨rfl,tsf (bP 7 (by decide)) (ixv rfl ht rfl ⟨rfl,tsf (bV 7 (by decide)) (ixv rfl ht rfl ⟨rfl,tsf (jc 7 (by decide)) (ixv rfl ht rfl ⟨rfl,tsf (mG 7 (by decide)) (ixv rfl ht rfl ⟨(sl 2),λu hu=>⟨u,_,rfl,.inr (SqT.of ae),rfl,rfl,tsf (in2 7 (by decide)) ?_⟩⟩)⟩)⟩)⟩)⟩
   exact q c _ (Step.same aU (aG hu)) (X.same (aG hu)).at
  |cls =>
   refine ixv rfl ht rfl ⟨rfl,tsf (bP 4 (by decide)) (ixv rfl ht rfl ⟨rfl,tsf (bV 4 (by decide)) (ixv rfl ht rfl ⟨rfl,tst (jc 4 (by decide)) ⟨_,rfl,m,_,rfl,oI.k (k:=tu (ar "closed")) X.ob kc,?_⟩⟩)⟩)⟩
   rw[B9];refine hide λGg hGg=>?_
   obtain⟨s1,X1⟩:=X.attr st.aQ true;have ht1:=SqT.of (K:=K) (WJ.step s1.g9).2.choose_spec.1;have ahK:=WJ.step s1.g9;obtain⟨_,v1,hv1,_⟩:=ahK;have ht1:SqT K (upd H m (.dK (mdF (.int st.aQ) (.bl true) (.ref aP) (.ref aA) (.ref aD) (.ref aM)))) t (rowOf 4 v1):=SqT.of hv1;refine hGg ?_;generalize upd H m (.dK (mdF (.int st.aQ) (.bl true) (.ref aP) (.ref aA) (.ref aD) (.ref aM)))=H1 at s1 X1 ht1 ⊢;refine ixv rfl ht1 rfl ⟨rfl,tsf (mG 4 (by decide)) (ixv rfl ht1 rfl ⟨(sl 2),λu hu=>⟨u,_,rfl,.inr (SqT.of ae),rfl,rfl,tsf (in2 4 (by decide)) ?_⟩⟩)⟩
   exact q c _ (s1.g9.trans (Step.same aU (aG hu))) (X1.same (aG hu)).at
  |rst =>
   refine ixv rfl ht rfl ⟨rfl,tsf (bP 6 (by decide)) (ixv rfl ht rfl ⟨rfl,tsf (bV 6 (by decide)) (ixv rfl ht rfl ⟨rfl,tsf (jc 6 (by decide)) (ixv rfl ht rfl ⟨rfl,tst (mG 6 (by decide)) (dgv rfl X.gs ⟨_,_,rfl,rfl,_,rfl,m,_,rfl,oI.k (k:=tu (ar "sitting")) X.ob kc,?_⟩)⟩)⟩)⟩)⟩
   rw[GV];refine hide λGg hGg=>?_
   obtain⟨s1,X1⟩:=X.attr (st.aQ+1) st.closed;obtain⟨_,v1,hv1,_⟩:=WJ.step s1.g9;have ht1:SqT K (upd H m (.dK (mdF (.int (st.aQ+1)) (.bl st.closed) (.ref aP) (.ref aA) (.ref aD) (.ref aM)))) t (rowOf 6 v1):=SqT.of hv1;refine hGg ?_;dsimp only;generalize upd H m (.dK (mdF (.int (st.aQ+1)) (.bl st.closed) (.ref aP) (.ref aA) (.ref aD) (.ref aM)))=H1 at s1 X1 ht1 ⊢;refine ixv rfl ht1 rfl ⟨(sl 2),λu hu=>⟨u,_,rfl,.inr (SqT.of ae),rfl,rfl,tsf (in2 6 (by decide)) ?_⟩⟩
   exact q c _ (s1.g9.trans (Step.same aU (aG hu))) (X1.same (aG hu)).at
  |chg e =>
   refine hide λGg hGg=>?_
   obtain⟨tx,h1,hf⟩:=wM;obtain⟨k,e1,e2⟩:=Qk h1;have hn:k∈st.au:=by rw[e1];exact fu
   have hno:=I.bK k hn;have htx:=I.wK hno;rw[e2]at htx;have ahE:tx.length<=12+N:=htx.1;obtain⟨x,hx,hxl⟩:=I.keptAt hno (by rw[e2];rfl)
   have e3:st.carry (.chg e)=st.Nq k tx e:=by unfold Ch.carry;rw[e1];dsimp only;rw[e2]
   rw[e3]at q;have Qq:EdB (12+N) e:=CV;obtain⟨te,rfl,hte⟩:=hvv;have h0:atI (st.au.map nV) 0=some (nV k):=by rw[e1];rfl
   have h11:=hno.1;obtain⟨w,ev,p,t1,t2,kk,ts,rfl,z1,z2,z3,z4,z5⟩:=X.ent.get (nI hno);have ea:atI es ((k:Int) - 1)=some (.ref p):=by
    rw[show (k:Int) - 1=((k - 1:Nat):Int) by omega]
    exact dF ev
   have z1':LstAt i c H (.cM k) p [.ref t1,.ref t2,.ref kk]:=z1;have z4':LstAt i c H (.gx k) kk (ts.map V.ref):=z4;have z2':MnT c H (.mat tx) t1:=by
    have:(gS st k).2.1=.mat tx:=e2;rw[this]at z2;exact z2
   obtain⟨_,v1,hv1,L,rfl,hL⟩:=z2';refine hGg ?_;refine ixv rfl ht rfl ⟨rfl,tst (bP 1 (by decide)) ?_⟩
   refine dgv rfl X.gm (dgv rfl X.gp ⟨aP,_,_,_,rfl,rfl,SqL.of X.au.2,h0,_,_,rfl,rfl,aM,_,_,_,rfl,rfl,SqL.of X.lG.2,ea,?_⟩);refine ixv rfl (SqL.of z1'.2) rfl ⟨t1,_,_,_,rfl,rfl,SqT.of hv1,rfl,ixv rfl ht rfl ⟨L,te,tx,e,rfl,SqL.of hL.2,by omega,hte.sq,Qq.ok (by omega),hf,λpl H1 s1 npl hpl=>⟨(sl 2),λtn htn=>?_⟩⟩⟩
   have s2:=s1.new (o:=.tup [V.str (ar "matter"),.ref pl]) htn;have ntn:H tn=none:=same_none s1 htn;have ntp:pl≠tn:=aI hpl htn;have X2:=X.cl s2;have st2:Step (dv i) c (cx c H) H (upd H1 tn (.tup [V.str (ar "matter"),.ref pl])):=Step.cl aU s2;have hmn:MnT (cx c H) (upd H1 tn (.tup [V.str (ar "matter"),.ref pl])) (.mat (bE tx e)) tn:=⟨bO ntn,.ref pl,ae,pl,rfl,bO npl,(av ntp).trans hpl⟩;have w1:=z1'.keep (W:=λ_=>False) id (Step.cl id s2)
   have w4:=z4'.keep (W:=λ_=>False) id (Step.cl id s2)
   have WK:=hte.step st2;have hv2:=fZ st2 ct hvt;generalize cx c H=c2 at X2 st2 hmn w1 w4 WK hv2;generalize upd H1 tn (.tup [V.str (ar "matter"),.ref pl])=H2 at X2 st2 hmn w1 w4 WK hv2 ⊢;refine⟨_,rfl,p,_,0,0,rfl,rfl,w1.2,rfl,?_⟩;rw[show [V.ref t1,V.ref t2,V.ref kk].set 0 (V.ref tn)=[V.ref tn,V.ref t2,V.ref kk] from rfl]
   obtain⟨s3,X3⟩:=X2.QD hno ev w1 hmn;have w1b:LstAt i c2 (upd H2 p (.lst [.ref tn,.ref t2,.ref kk])) (.cM k) p [.ref tn,.ref t2,.ref kk]:=⟨w1.1,ae⟩;have w4b:=w4.kp (p:=WI k) rfl s3;have abe:=WK.step s3.g9;have hv3:=fZ s3 hv2.1 hv2.2;have hkl:ts.length<=1000:=by
    have h1:=z5.len;have h2:(gS st k).2.2.1=x.2:=by show fS st k=x.2;unfold fS;rw[hx];rfl
    rw[h2]at h1;omega
   have ev3:es[k - 1]?=some (.ref p):=ev;generalize upd H2 p (.lst [.ref tn,.ref t2,.ref kk])=H3 at s3 X3 w1b w4b abe hv3 ⊢;refine ixv rfl (SqL.of w1b.2) rfl ⟨.inl ⟨rfl,_,SqL.of w4b.2⟩,ixv rfl (SqT.of hv3.2) rfl ⟨kk,_,_,rfl,rfl,w4b.2,by rw[bo];omega,?_⟩⟩
   obtain⟨s4,X4⟩:=X3.Fn (n:=k) (e:=e) (x:=x) ⟨hno.1,by show k<=(st.made.set _ _).length;rw[akC];exact hno.2⟩ hx ev3 w1b w4b abe
   have hv4:=fZ s4 hv3.1 hv3.2;have fin:=((st2.trans s3.g9).trans s4.g9);generalize upd H3 kk (.lst (ts.map V.ref++[.ref te]))=H4 at s4 X4 hv4 fin ⊢;have ht4:SqT K H4 t (rowOf 1 (.ref te)):=SqT.of hv4.2;refine ixv rfl ht4 rfl ⟨rfl,tsf (bV 1 (by decide)) (ixv rfl ht4 rfl ⟨rfl,tsf (jc 1 (by decide)) (ixv rfl ht4 rfl ⟨rfl,tsf (mG 1 (by decide)) (ixv rfl ht4 rfl ⟨(sl 2),λu hu=>⟨u,_,rfl,.inr (SqT.of ae),rfl,rfl,tsf (in2 1 (by decide)) ?_⟩⟩)⟩)⟩)⟩
   exact q c2 _ (fin.trans (Step.same aU (aG hu))) (X4.same (aG hu)).at
  |mnd f =>
   refine hide λGg hGg=>?_
   obtain⟨tx,e,h1,hk,hf⟩:=wM;obtain⟨a,b,e1,e2,e3⟩:=Sy h1;have hb:b∈st.au:=by rw[e1];exact ky _ fu
   have hno:=I.bK b hb;have he:=I.wK hno;rw[e3]at he;have he':EdB (12+N) e:=he;obtain⟨w1,w2⟩:=he'.words;have e4:st.carry (.mnd f)=st.Fp b e (bE (R.bf e.th) f):=by unfold Ch.carry;rw[e1];show (match st.mo b with | .chg e=>_ | _=>st)=_;rw[e3];rfl
   rw[e4]at q;obtain⟨hf1,w0,hw0,hw1⟩:=CV;have l1:=um (R.bf e.th) f;have l2:=R.DQ (uY w1 (by rw[hw0];exact hw1):∀w∈bE (R.bf e.th) f,R.nX w)
   have heo:rE e:=he'.ok (by omega)
   obtain⟨te,rfl,hte⟩:=hvv;have h0:atI (st.au.map nV) (-1)=some (nV b):=by rw[e1];exact iQ [nV a] (nV b)
   have h11:=hno.1;obtain⟨w,ev,p,t1,t2,kk,ts,rfl,z1,z2,z3,z4,z5⟩:=X.ent.get (nI hno);have ea:atI es ((b:Int) - 1)=some (.ref p):=by
    rw[show (b:Int) - 1=((b - 1:Nat):Int) by omega]
    exact dF ev
   have z1':LstAt i c H (.cM b) p [.ref t1,.ref t2,.ref kk]:=z1;have z2':MnT c H (.chg e) t1:=by
    have:(gS st b).2.1=.chg e:=e3;rw[this]at z2;exact z2
   obtain⟨_,v1,hv1,tc,rfl,htc⟩:=z2';have er:eK e=[V.str (kn e.k),.int e.at_,.str e.th]:=by
    obtain⟨k,a,th⟩:=e;have h3:=heo.k3;dsimp only at h3 hk ⊢;rcases h3 with rfl | rfl | rfl
    ·rfl
    ·exact absurd rfl hk
    ·rfl
   have ahL:SqT K H tc [V.str (kn e.k),.int e.at_,.str e.th]:=by rw[<-er];exact htc.sq
   refine hGg ?_;refine ixv rfl ht rfl ⟨rfl,tsf (bP 2 (by decide)) (ixv rfl ht rfl ⟨rfl,tst (bV 2 (by decide)) ?_⟩)⟩
   refine⟨_,rfl,m,_,rfl,X.gm,_,rfl,m,_,rfl,X.gp,_,rfl,aP,_,_,_,rfl,rfl,SqL.of X.au.2,h0,_,_,rfl,rfl,aM,_,_,_,rfl,rfl,SqL.of X.lG.2,ea,?_⟩;refine⟨_,rfl,p,_,_,_,rfl,rfl,SqL.of z1'.2,rfl,t1,_,_,_,rfl,rfl,SqT.of hv1,rfl,tc,[V.str (kn e.k),.int e.at_,.str e.th],rfl,ahL,rfl,?_⟩;refine⟨_,_,rfl,_,_,rfl,_,_,rfl,rfl,?_⟩;refine⟨_,rfl,_,rfl,rfl,_,rfl,e.th,rfl,?_,λp1 hp1=>?_⟩
   ·have:=heo.th.len;omega
   have s1:=aG (o:=.lst ((R.bf e.th).map V.str)) hp1;have hb1:(R.bl1:Str).length=1:=by decide +kernel
   refine ixv rfl (bw s1 ht) rfl ⟨p1,te,R.bf e.th,f,rfl,SqL.of ae,by omega,bw s1 hte.sq,hf1.ok (by omega),hf,λpl H1 s2 npl hpl=>?_⟩
   have s12:=s1.trans s2;refine⟨R.bl1,pl,bE (R.bf e.th) f,rfl,rfl,SqL.of hpl,by rw[hb1];omega,(sl 3),λt3 ht3=>⟨(sl 2),λtn htn=>?_⟩⟩
   have s3:=s12.new (o:=.tup [V.str (kn e.k),.int e.at_,.str (sr R.bl1 (bE (R.bf e.th) f))]) ht3;have s4:=s3.new (o:=.tup [V.str (ar "change"),.ref t3]) htn;have nt3:H t3=none:=same_none s12 ht3;have ntn:H tn=none:=same_none s3 htn;have n3n:t3≠tn:=aI ae htn;have er2:eK ⟨e.k,e.at_,sr R.bl1 (bE (R.bf e.th) f)⟩=[V.str (kn e.k),.int e.at_,.str (sr R.bl1 (bE (R.bf e.th) f))]:=by
    obtain⟨k,a,th⟩:=e;have h3:=heo.k3;dsimp only at h3 hk ⊢;rcases h3 with rfl | rfl | rfl
    ·rfl
    ·exact absurd rfl hk
    ·rfl
   have X2:=X.cl s4;have st2:Step (dv i) c (cx c H) H _:=Step.cl aU s4;have hmn:MnT (cx c H) (upd (upd H1 t3 (.tup [V.str (kn e.k),.int e.at_,.str (sr R.bl1 (bE (R.bf e.th) f))])) tn (.tup [V.str (ar "change"),.ref t3])) (.chg ⟨e.k,e.at_,sr R.bl1 (bE (R.bf e.th) f)⟩) tn :=
    ⟨bO ntn,.ref t3,ae,t3,rfl,bO nt3,.inl (by rw[av n3n,ae,er2])⟩
   have w1:=z1'.keep (W:=λ_=>False) id (Step.cl id s4)
   have hv2:=fZ st2 ct hvt;generalize cx c H=c2 at X2 st2 hmn w1 hv2;generalize upd (upd H1 t3 (.tup [V.str (kn e.k),.int e.at_,.str (sr R.bl1 (bE (R.bf e.th) f))])) tn (.tup [V.str (ar "change"),.ref t3])=H2 at X2 st2 hmn w1 hv2 ⊢;refine⟨_,rfl,p,_,0,0,rfl,rfl,w1.2,rfl,?_⟩;rw[show [V.ref t1,V.ref t2,V.ref kk].set 0 (V.ref tn)=[V.ref tn,V.ref t2,V.ref kk] from rfl]
   obtain⟨s5,X3⟩:=X2.QD hno ev w1 hmn;have hv3:=fZ s5 hv2.1 hv2.2;have fin:=st2.trans s5.g9;generalize upd H2 p (.lst [.ref tn,.ref t2,.ref kk])=H3 at s5 X3 hv3 fin ⊢;have ht3:SqT K H3 t (rowOf 2 (.ref te)):=SqT.of hv3.2;refine ixv rfl ht3 rfl ⟨rfl,tsf (jc 2 (by decide)) (ixv rfl ht3 rfl ⟨rfl,tsf (mG 2 (by decide)) (ixv rfl ht3 rfl ⟨(sl 2),λu hu=>⟨u,_,rfl,.inr (SqT.of ae),rfl,rfl,tsf (in2 2 (by decide)) ?_⟩⟩)⟩)⟩
   exact q c2 _ (fin.trans (Step.same aU (aG hu))) (X3.same (aG hu)).at
  |off u =>
   refine hide λGg hGg=>?_
   obtain⟨⟨tx,r,h1⟩,_⟩:=wM;obtain⟨k,r',e1,_⟩:=Fv h1;have e3:st.carry (.off u)=st.lE k u:=by unfold Ch.carry;rw[e1]
   rw[e3]at q;have hv':v=.int u:=hvv;subst hv';have hla:=I.la;have hkn:=I.Fu (n:=k) (by rw[e1];exact fu)
   have h0:atI (st.au.map nV) 0=some (nV k):=by rw[e1];exact dF (j:=0) rfl
   refine hGg ?_;refine ixv rfl ht rfl ⟨rfl,tsf (bP 3 (by decide)) (ixv rfl ht rfl ⟨rfl,tsf (bV 3 (by decide)) (ixv rfl ht rfl ⟨rfl,tsf (jc 3 (by decide)) (ixv rfl ht rfl ⟨rfl,tsf (mG 3 (by decide)) (ixv rfl ht rfl ⟨(sl 2),λu1 hu1=>⟨u1,_,rfl,.inr (SqT.of ae),rfl,rfl,tst (in2 3 (by decide)) ?_⟩⟩)⟩)⟩)⟩)⟩
   have s1:=aG (o:=.tup [V.str (ar "put off"),V.str (ar "lay")]) hu1;refine⟨_,rfl,dgv rfl (.inl ⟨_,tu (ar "sitting"),.inl (s1 _ _ X.ob),rfl,nH.symm⟩) ⟨(sl 1),λt2 ht2=>?_⟩⟩
   have s2:=s1.new (o:=.tup [V.int st.aQ]) ht2;refine⟨t,t2,_,_,rfl,rfl,bw s2 ht,SqT.of ae,aj1 _ _,(sl 3),λz=>absurd z (aj1 _ _),λ_ t3 ht3=>?_⟩
   have s3:=s2.new (o:=.tup (rowOf 3 (.int u)++[V.int st.aQ])) ht3;refine⟨t3,_,_,_,rfl,rfl,SqT.of ae,rfl,?_⟩;have X3:=X.same s3;refine⟨_,rfl,dgv rfl X3.gp ⟨(sl 2),λt4 ht4=>?_⟩⟩
   have oA:m≠aA:=dD X.co X.aB.1 (λz=>nomatch z)
   have s4:=aG (o:=.tup [V.int u,.ref aP]) ht4;refine dgv rfl (.inl ⟨_,tu (ar "aside"),.inl (s4 _ _ X3.ob),rfl,yg.symm⟩) (dgv rfl (.inl ⟨_,tu (ar "pile"),.inl (s4 _ _ X3.ob),rfl,tf.symm⟩) ⟨aP,_,_,_,rfl,rfl,SqL.of (s4 _ _ X3.au.2),h0,aA,_,rfl,oI.k (k:=km (k:Int)) (s4 _ _ X3.aB.2) ?_,?_⟩)
   ·unfold a7;rw[bo,akJ,bo];omega
   refine⟨(sl 0),λp5 hp5=>?_⟩
   refine hide λGg hGg=>?_
   have npA:p5≠aA:=λz=>by rw[z,ae]at hp5;cases hp5
   have npt:p5≠t4:=λz=>by rw[av npA,z,ae]at hp5;cases hp5
   have hp1:=hp5;rw[av npA,av npt]at hp1;obtain⟨c',s6,X6⟩:=X3.lE (u:=u) ht4 hp1 npt hkn;refine hGg ?_;refine⟨_,rfl,m,_,rfl,oI.k (k:=tu (ar "pile")) ((av (aI X3.ob hp1)).trans ((av oA).trans (s4 _ _ X3.ob))) kc,?_⟩;rw[Ca];exact q c' _ ((Step.same aU s3).trans s6.g9) X6.at
  |lay =>
   refine hide λGg hGg=>?_
   obtain⟨⟨tx,r,h1⟩,_⟩:=wM;obtain⟨k,r',e1,_⟩:=Fv h1;have e3:st.carry .lay=st.lE k st.aQ:=by unfold Ch.carry;rw[e1]
   rw[e3]at q;have hla:=I.la;have hkn:=I.Fu (n:=k) (by rw[e1];exact fu)
   have h0:atI (st.au.map nV) 0=some (nV k):=by rw[e1];exact dF (j:=0) rfl
   refine hGg ?_;refine ixv rfl ht rfl ⟨rfl,tsf (bP 5 (by decide)) (ixv rfl ht rfl ⟨rfl,tsf (bV 5 (by decide)) (ixv rfl ht rfl ⟨rfl,tsf (jc 5 (by decide)) (ixv rfl ht rfl ⟨rfl,tsf (mG 5 (by decide)) (ixv rfl ht rfl ⟨(sl 2),λu1 hu1=>⟨u1,_,rfl,.inr (SqT.of ae),rfl,rfl,tst (in2 5 (by decide)) ?_⟩⟩)⟩)⟩)⟩)⟩
   have s1:=aG (o:=.tup [V.str (ar "put off"),V.str (ar "lay")]) hu1;refine⟨_,rfl,dgv rfl (.inl ⟨_,tu (ar "sitting"),.inl (s1 _ _ X.ob),rfl,nH.symm⟩) ⟨(sl 1),λt2 ht2=>?_⟩⟩
   have s2:=s1.new (o:=.tup [V.int st.aQ]) ht2;refine⟨t,t2,_,_,rfl,rfl,bw s2 ht,SqT.of ae,aj1 _ _,(sl 2),λz=>absurd z (aj1 _ _),λ_ t3 ht3=>?_⟩
   have s3:=s2.new (o:=.tup (rowOf 5 v++[V.int st.aQ])) ht3;refine⟨t3,_,_,_,rfl,rfl,SqT.of ae,rfl,?_⟩;have X3:=X.same s3;refine⟨_,rfl,dgv rfl X3.gp ⟨(sl 2),λt4 ht4=>?_⟩⟩
   have oA:m≠aA:=dD X.co X.aB.1 (λz=>nomatch z)
   have s4:=aG (o:=.tup [V.int st.aQ,.ref aP]) ht4;refine dgv rfl (.inl ⟨_,tu (ar "aside"),.inl (s4 _ _ X3.ob),rfl,yg.symm⟩) (dgv rfl (.inl ⟨_,tu (ar "pile"),.inl (s4 _ _ X3.ob),rfl,tf.symm⟩) ⟨aP,_,_,_,rfl,rfl,SqL.of (s4 _ _ X3.au.2),h0,aA,_,rfl,oI.k (k:=km (k:Int)) (s4 _ _ X3.aB.2) ?_,?_⟩)
   ·unfold a7;rw[bo,akJ,bo];omega
   refine⟨(sl 0),λp5 hp5=>?_⟩
   refine hide λGg hGg=>?_
   have npA:p5≠aA:=λz=>by rw[z,ae]at hp5;cases hp5
   have npt:p5≠t4:=λz=>by rw[av npA,z,ae]at hp5;cases hp5
   have hp1:=hp5;rw[av npA,av npt]at hp1;obtain⟨c',s6,X6⟩:=X3.lE (u:=st.aQ) ht4 hp1 npt hkn;refine hGg ?_;refine⟨_,rfl,m,_,rfl,oI.k (k:=tu (ar "pile")) ((av (aI X3.ob hp1)).trans ((av oA).trans (s4 _ _ X3.ob))) kc,?_⟩;rw[Ca];exact q c' _ ((Step.same aU s3).trans s6.g9) X6.at
end
end My
set_option maxHeartbeats 1000000
namespace My
open PySem L2
seal PySem.wpAny
def yj (c:Col)(H:Hp)(t:Addr)(xs:List V):Prop:=c t=none/\H t=some (.tup xs)
def rn (c:Col)(H:Hp):R.fq->Addr->Prop
 | .mat cs,t=>∃L,yj c H t [.str (ar "matter"),.ref L]/\c L=none/\H L=some (.lst ((cs.map (sr R.bl1)).map V.str))
 | .ed m k j ws,t=>∃e,yj c H t [.str (R.kEd m),.ref e]/\TupAt c H e (R.edR k j (sr R.bl1 ws))
 | .pt ws,t=>yj c H t [.str (ar "point"),.str (sr R.bl1 ws)]
 | .nums kd ns,t=>yj c H t (.str kd::ns.map V.int)
theorem yj.c {i:Nat}{c:Col}{H:Hp}{t:Addr}{xs:List V}(h:yj c H t xs):yb i c H t xs:=⟨by rw[h.1];exact aU,h.2⟩
theorem yj.step {W:Option (Nat×Rl)->Prop}{c c':Col}{H H':Hp}{t:Addr}{xs:List V}(s:Step W c c' H H')(h:yj c H t xs):yj c' H' t xs:=fZ s h.1 h.2
theorem rn.step {W:Option (Nat×Rl)->Prop}{c c':Col}{H H':Hp}{t:Addr}(s:Step W c c' H H'):∀ {d:R.fq},rn c H d t->rn c' H' d t
 | .mat _,⟨L,a,b1,b2⟩=>⟨L,a.step s,fZ s b1 b2⟩
 | .ed _ _ _ _,⟨e,a,b⟩=>⟨e,a.step s,b.step s⟩
 | .pt _,h=>yj.step s h
 | .nums _ _,h=>yj.step s h
theorem rn.c {i:Nat}{c:Col}{H:Hp}{t:Addr}:∀ {d:R.fq},rn c H d t->rj i c H d t
 | .mat _,⟨L,a,b1,b2⟩=>⟨L,a.c,by rw[b1];exact aU,b2⟩
 | .ed _ _ _ _,⟨e,a,b⟩=>⟨e,a.c,b⟩
 | .pt _,h=>yj.c h
 | .nums _ _,h=>yj.c h
theorem rn.kind {c:Col}{H:Hp}{t:Addr}:∀ {d:R.fq},rn c H d t->∃xs,H t=some (.tup (.str (R.BU d)::xs))
 | .mat _,⟨_,a,_⟩=>⟨_,a.2⟩
 | .ed _ _ _ _,⟨_,a,_⟩=>⟨_,a.2⟩
 | .pt _,h=>⟨_,h.2⟩
 | .nums _ _,h=>⟨_,h.2⟩
def Ch.ended (st:Ch)(pre:List Nat)(n:Nat)(wd:Str):Ch:=(if wd=yP then (st.popped pre n wd).carry (st.mo n) else st.popped pre n wd).opened
def FH (i:Nat):Sp:=λvs H Q _=>∃(m:Addr) (wd:Str) (c:Col) (st:Ch) (N:Nat) (pre:List Nat) (n:Nat),vs=[.ref m,.str wd]/\ji i c H m st/\Inv N st/\N<=800/\st.au=pre++[n]/\akt wd=true /\
 ∀c' H' u,Step (dv i) c c' H H'->ji i c' H' m (st.ended pre n wd)->c' u=none->H' u=some (.tup [.str (ar "told"),.str wd])->Q (.ref u) H'
theorem ji.rows {i:Nat}{c:Col}{H:Hp}{m:Addr}{st:Ch}{r:List Str}(h:ji i c H m st):ji i c H m { st with rows:=r }:=by
 obtain⟨aP,aA,aD,aM,ds,ws,es,X⟩:=h.ex;exact⟨aP,aA,aD,aM,ds,ws,es,⟨X.co,X.ob,X.au,X.aB,X.wait,X.dec,X.mD,X.lG,X.ent⟩⟩
def rsT:Rs->List V
 | .num n=>[.str (ar "told"),nV n]
 | .txt z=>[.str (ar "told"),.str z]
 | .exc x=>[.str (xcC x).1,.int (xcC x).2]
def G6 (i:Nat)(c:Col)(H:Hp)(m:Addr)(r:Rs×Ch)(Q:VK):Prop:=∀c' H' u,Step (dv i) c c' H H'->ji i c' H' m r.2->c' u=none->H' u=some (.tup (rsT r.1))->Q (.ref u) H'
def MM (i:Nat):Sp:=λvs H Q _=>∃(m:Addr) (a b:Int) (c:Col) (st:Ch) (N:Nat),vs=[.ref m,.int a,.int b,.int st.cz]/\ji i c H m st/\Inv N st/\N<=800/\(0<=a/\a < 10 ^ 10)/\(0<=b/\b < 10 ^ 10)/\G6 i c H m (nF st a b) Q
def MN (i:Nat):Sp:=λvs H Q _=>∃(m:Addr) (z:Int) (c:Col) (st:Ch) (N:Nat),vs=[.ref m,.int z]/\ji i c H m st/\Inv N st/\N<=800/\-1<=z/\z < 10 ^ 10/\G6 i c H m (stepT st z.toNat) Q
def Ug (i:Nat):Sp:=λvs H Q _=>∃(m t:Addr) (c:Col) (st:Ch) (N:Nat) (d:R.fq),vs=[.ref m,.ref t,.int st.cz]/\ji i c H m st/\Inv N st/\N<=800/\yf d/\rn c H d t/\G6 i c H m (iO st d) Q
theorem D7 {c:Col}{H:Hp}{u:Addr}{o:HO}{W:Option (Nat×Rl)->Prop}(n:¬W none)(hu:H u=none):Step W c (az c u none) H (upd H u o)/\az c u none u=none/\(upd H u o) u=some o:=⟨Step.new n hu,aW,ae⟩
section
variable{P:me}{w:World}{K:ba}{mg:Str->Option Value}{base:Heap}{A:Adr}
theorem Cn (T:Txt w.params K mg A){i:Nat}:aK P w K mg base CX0 3 A.vX A.md ["_law_m","_law_word_here"] (FH i):=by
 have f6:aK P w K mg base CX0 1 A.vW A.iV ["_law_m","_law_number"] (qQ i):=pV T;have QF:aK P w K mg base CX0 2 A.EV A.ub ["_law_m","_law_motion"] (QE i):=Ny T;refine T.ui.ok Be (λvs H Q E h=>?_) (λcdv A' outer s H vs Q E hr h=>?_)
 ·obtain⟨m,wd,c,st,N,pre,n,rfl,_⟩:=h;rfl
 ·obtain⟨m,wd,c,st,N,pre,n,rfl,hm,I,hN,e,hwd,q⟩:=h;obtain⟨aP,aA,aD,aM,ds,ws,es,X⟩:=hm.ex;have hu1:=hr.u1;have pJ:=hr.units;have d4:Room 1 _:=hr.mono (by decide)
  have Nz:Room 2 _:=hr;have sz:ka=16777216:=by decide
  have kc:∀ {v0 v1 v2 v3 v4 v5:V},(mdF v0 v1 v2 v3 v4 v5).length < ka:=by intros;show 6 < ka;decide
  refine⟨_,(ai (a8 (i:=2) Be.nd rfl (adm rfl) (OI rf PySem.F.slot_list_pop PySem.F.type_list_pop OM (bc hu1 (pv 0) ao (λ_ _=>rfl))))
 (ai (bJ (gR rf ajU ajV cU (bc hu1 (pv 0) ao (λ_ _=>rfl)) (aa (bt (aa (pv 2) (aa (pv 1) ah))) ah)))
 (ai (a5 (ay bu (pv 1) ao (aN _))
 (aj (bJ (aV QF Nz rfl T.Gu T.Br.kp T.Gs .nil aY (aa (pv 0) (aa (aV f6 d4 rfl T.j7 T.iX.kp T.j6 .nil aY (aa (pv 0) (aa (pv 2) ah))) ah)))))
 aH)
 (ai (a5 (ay (xw pJ) (bc hu1 (pv 0) ao (λ_ _=>rfl)) (bR ah) (aN _))
 (aj (hZ hu1 (pv 0) ao gb rfl))
 aH)
 (aj (aC (bt (aa ao (aa (pv 1) ah))))))))),?_⟩
  have hy:(st.au.map nV)[(st.au.map nV).length - 1]?=some (nV n):=by rw[e];simp
  have hdr:(st.au.map nV).dropLast=pre.map nV:=by rw[e,kr];simp
  have oP:m≠aP:=dD X.co X.au.1 (λz=>nomatch z)
  have DP:aD≠aP:=dD X.dec.1 X.au.1 (λz=>nomatch z)
  have ld:=I.ld;refine dgv rfl X.gp ⟨.inl ⟨rfl,_,SqL.of X.au.2⟩,aP,_,_,rfl,rfl,X.au.2,hy,?_⟩;rw[hdr];refine dgv rfl (.inl ⟨_,tu (ar "decided"),.inl ((av oP).trans X.ob),rfl,yQ.symm⟩) ⟨.inl ⟨rfl,_,SqL.of ((av DP).trans X.dec.2)⟩,_,rfl,_,rfl,(sl 2),λt ht=>?_⟩
  obtain⟨s1,X1⟩:=X.pop (n:=n) (wd:=wd) ht;have ntD:aD≠t:=λz=>by rw[<-z,av DP,X.dec.2]at ht;cases ht
  refine⟨aD,_,_,rfl,rfl,(av ntD).trans ((av DP).trans X.dec.2),by rw[bo,<-X.mD.len];omega,?_⟩
  have st1:=s1.g9;generalize az c t none=c1 at X1 st1;dsimp only[fj];generalize upd (upd (upd H aP (.lst (pre.map nV))) t (.tup [nV n,.str wd])) aD (.lst (ds.map V.ref++[.ref t]))=H1 at X1 st1 ⊢;clear s1 ht hy hdr;obtain⟨I1,wM⟩:=I.pop e wd hwd;have hn:n∈st.au:=by rw[e];simp
  have hno:=I.bK n hn;have CV:=(I.wK hno).mono (akq N);refine d9 (λσ' H'=>σ'=[some (.ref m),some (.str wd),some (nV n)]/\∃c',Step (dv i) c c' H H'/\ji i c' H' m (if wd=yP then (st.popped pre n wd).carry (st.mo n) else st.popped pre n wd)) ?r (λN' nN=>?f)
  case f =>
   refine⟨_,rfl,rfl,_,rfl,?_⟩
   by_cases hk:wd=yP
   ·refine yD (decide_eq_true (by rw[hk])) ⟨_,rfl,_,rfl,_,rfl,m,n,c1,_,rfl,X1.at,hno,λtt htt=>?_⟩
    refine⟨m,tt,c1,st.popped pre n wd,st.mo n,N+1,rfl,X1.at,htt,I1,by omega,wM,CV,λc2 H2 s2 h2=>?_⟩
    refine nN _ _ ⟨rfl,c2,st1.trans s2,?_⟩;rw[if_pos hk];exact h2
   ·refine yE (decide_eq_false (λz=>hk (by injection z))) (nN _ _ ⟨rfl,c1,st1,?_⟩)
    rw[if_neg hk];exact X1.at
  case r =>
   rintro σ2 H2 ⟨rfl,c2,s2,h2⟩;unfold Ch.ended at q;generalize (if wd=yP then (st.popped pre n wd).carry (st.mo n) else st.popped pre n wd)=st2 at h2 q
   refine hide λGg hGg=>?_
   obtain⟨aP2,aA2,aD2,aM2,ds2,ws2,es2,X2⟩:=h2.ex;refine hGg ?_;refine d9 (λσ' H'=>σ'=[some (.ref m),some (.str wd),some (nV n)]/\∃c',Step (dv i) c c' H H'/\ji i c' H' m st2.opened) ?r2 (λN' nN=>?f2)
   case f2 =>
    refine dgv rfl X2.gp ⟨(sl 0),λp hp=>?_⟩
    have s3:=aG (o:=.lst []) hp;have X3:=X2.same s3;refine⟨gz st2.au,.list [],lF (SqL.of X3.au.2),qS (SqL.of ae),lI _,qR,_,rfl,?_⟩;rw[lH];cases ep:st2.au with
    |nil =>
     refine dP ⟨_,rfl,m,_,rfl,oI.k (k:=tu (ar "closed")) X3.ob kc,?_⟩;rw[B9];obtain⟨s4,X4⟩:=X3.attr st2.aQ false;refine nN _ _ ⟨rfl,c2,(s2.trans (Step.same aU s3)).trans s4.g9,?_⟩;have e1:st2.opened={ st2 with aQ:=st2.aQ,closed:=false }:=by unfold Ch.opened;rw[ep,if_pos rfl]
     rw[e1];exact X4.at
    |cons x r =>
     refine bX (nN _ _ ⟨rfl,c2,s2.trans (Step.same aU s3),?_⟩);have e1:st2.opened=st2:=by unfold Ch.opened;rw[ep,if_neg (aj1 _ _)];cases st2;cases ep;rfl
     rw[e1];exact X3.at
   case r2 =>
    rintro σ3 H3 ⟨rfl,c3,s3,h3⟩;refine⟨_,rfl,(sl 2),λu hu=>?_⟩
    refine hide λGg hGg=>?_
    obtain⟨a1,a2,a3⟩:=D7 (c:=c3) (o:=.tup [V.str (ar "told"),.str wd]) aU hu;refine hGg ?_;exact q _ _ u (s3.trans a1) (h3.free (W:=λ_=>False) (λ_=>id) (D7 id hu).1) a2 a3
end
end My
set_option maxHeartbeats 1000000
namespace My
open PySem L2
seal PySem.wpAny
theorem SO (k:Nat)(a b:Int):nC (nd k) a b=(decide (a > b) && (!decide (k=4) || decide (a≥2 * b))):=by
 unfold nC nd
 by_cases h:a<=b
 ·rw[if_pos h,decide_eq_false (show ¬a > b by omega),Bool.false_and]
 ·rw[if_neg h,decide_eq_true (show a > b by omega),Bool.true_and]
  by_cases h4:k=4
  ·rw[if_pos h4,decide_eq_true h4,show decide (ar "two thirds"=GH)=false by decide +kernel]
   rfl
  ·rw[if_neg h4,decide_eq_false h4,show decide (ar "more"=GH)=true by decide +kernel]
   rfl
theorem MO (b:Bool):(sY b=yP)↔b=true:=by
 cases b with
 |true=>exact⟨λ_=>rfl,λ_=>rfl⟩
 |false=>exact⟨λz=>absurd z (by decide +kernel),λz=>nomatch z⟩
theorem QG {st:Ch}{pre:List Nat}{n:Nat}{b:Bool}{z:Str}:(if b=true then (st.popped pre n (sY b)).carry (st.mo n) else st.popped pre n (sY b)).uv z={ st.ended pre n (sY b) with rows:=(if b=true then (st.popped pre n (sY b)).carry (st.mo n) else st.popped pre n (sY b)).rows++[z] }:=by
 unfold Ch.uv Ch.ended;cases b with
 |true=>rw[if_pos rfl,if_pos ((MO true).mpr rfl)]
 |false=>rw[if_neg ku,if_neg (λy=>absurd ((MO false).mp y) ku)]
section
variable{P:me}{w:World}{K:ba}{mg:Str->Option Value}{base:Heap}{A:Adr}
theorem Kz (T:Txt w.params K mg A){i:Nat}:aK P w K mg base CX0 4 A.Av A.qv ["_law_m","_law_ayes","_law_noes","_law_seats_here"] (MM i):=by
 have f6:aK P w K mg base CX0 1 A.vW A.iV ["_law_m","_law_number"] (qQ i):=pV T;have yk:aK P w K mg base CX0 3 A.vX A.md ["_law_m","_law_word_here"] (FH i):=Cn T;refine T.xP.ok uK (λvs H Q E h=>?_) (λcdv A' outer s H vs Q E hr h=>?_)
 ·obtain⟨m,a,b,c,st,N,rfl,_⟩:=h;rfl
 ·obtain⟨m,a,b,c,st,N,rfl,hm,I,hN,ha,hb,q⟩:=h;obtain⟨aP,aA,aD,aM,ds,ws,es,X⟩:=hm.ex;have hu1:=hr.u1;have pJ:=hr.units;have d4:Room 1 _:=hr.mono (by decide)
  have u3:Room 3 _:=hr;refine⟨_,(ai (a5 (ay (xw pJ) (bc hu1 (pv 0) ao (λ_ _=>rfl)) (bR ah) (aN _))
 (aj (aC (bt (aa ao (aa af ah)))))
 aH)
 (ai (a5 (ay FR (a6 d6 (pv 1) (pv 2)) (pv 3) (aN _))
 (aj (aC (bt (aa ao (aa af ah)))))
 aH)
 (ai (a8 (i:=4) uK.nd rfl (adm rfl) (jX FR (pv 1) (pv 2) (aN _)))
 (ai (a5 (ay bu (aJ aL (aV f6 d4 rfl T.j7 T.iX.kp T.j6 .nil aY (aa (pv 0) (aa (aJ bz (bc hu1 (pv 0) ao (λ_ _=>rfl)) (oF jq af) (λ_ _=>rfl)) ah))) af (λ_ _=>rfl)) ao (aN _))
 (aj (a8 (i:=4) uK.nd rfl (adm rfl) (Ek (pv 4) (Ej (jX OB (pv 1) (a6 xr af (pv 2)) (aN _))))))
 aH)
 (aj (aC (aV yk u3 rfl T.xO T.ui.kp T.xN .nil aY (aa (pv 0) (aa (aJ bz (bR (aa ao (aa ao ah))) (eh C8 (by rfl) T.PM OP (aa (pv 4) ah)) (λ_ _=>rfl)) ah))))))))),?_⟩
  unfold nF at q;refine dgv rfl X.gp ⟨(sl 0),λp hp=>?_⟩
  have s1:=aG (o:=.lst []) hp;have X1:=X.same s1;refine⟨gz st.au,.list [],lF (SqL.of X1.au.2),qS (SqL.of ae),lI _,qR,_,rfl,?_⟩;rw[lH];generalize upd H p (.lst [])=H1 at s1 X1 ⊢;have say:∀(x:Xc) (st':Ch),st'=st->G6 i c H m (.exc x,st') Q->(xcC x).2=0->∀u,H1 u=none->Q (.ref u) (upd H1 u (.tup [.str (xcC x).1,.int 0])):=λx st' est qq h0 u hu=>by
   subst est;have a1:Step (dv i) c (az c u none) H (upd H1 u (.tup [.str (xcC x).1,.int 0])):=(Step.same aU s1).trans (Step.new aU hu);refine qq (az c u none) _ u a1 (X1.free (W:=λ_=>False) (λ_=>id) (Step.new id hu)).at aW ?_
   show (upd H1 u (.tup [.str (xcC x).1,.int 0])) u=some (.tup [.str (xcC x).1,.int (xcC x).2]);rw[h0];exact ae
  rcases ajS st.au with e | ⟨pre,n,e⟩
  ·rw[e]at q ⊢;exact dP ⟨(sl 2),λu hu=>say .nothing st rfl q rfl u hu⟩
  ·rw[ajT]at e;have gl:st.au.getLast?=some n:=by rw[e];exact akg
   have ed:st.au.dropLast=pre:=by rw[e];exact akm
   rw[gl]at q;dsimp only at q;rw[ed]at q;refine yE (by rw[e];simp) ?_
   refine⟨_,rfl,_,rfl,_,_,rfl,rfl,_,rfl,_,_,rfl,rfl,_,rfl,eU (λz=>?_) (λz=>?_)⟩
   ·have z':a+b > st.cz:=of_decide_eq_true z;rw[if_pos z']at q;exact⟨(sl 2),λu hu=>say .tooMany st rfl q rfl u hu⟩
   ·have z':¬a+b > st.cz:=λy=>z (decide_eq_true y)
    rw[if_neg z']at q;have hn:=I.bK n (by rw[e];simp)
    have h0:atI (st.au.map nV) (-1)=some (nV n):=by rw[e,kr];exact iQ _ _
    refine⟨_,rfl,_,rfl,_,_,rfl,rfl,?_⟩;dsimp only[fj];refine d9 (λσ' H'=>σ'=[some (.ref m),some (.int a),some (.int b),some (.int st.cz),some (.bl (nC (nd (st.mo n).k) a b))]/\H'=H1) ?r (λN' nN=>?f)
    case f =>
     refine⟨_,rfl,_,rfl,m,_,rfl,X1.gp,_,rfl,aP,_,_,_,rfl,rfl,SqL.of X1.au.2,h0,m,n,c,st,rfl,X1.at,hn,λt ht=>?_⟩
     obtain⟨v,hv⟩:=ht.kind;refine⟨t,_,_,_,rfl,rfl,SqT.of hv,cE,rfl,_,rfl,?_⟩;rw[jc _ (st.mo n).k8];have ke:=SO (st.mo n).k a b
     by_cases h4:(st.mo n).k=4
     ·rw[decide_eq_true h4]at ke ⊢;refine dP ⟨_,rfl,_,rfl,?_⟩
      by_cases hab:a > b
      ·rw[decide_eq_true hab]at ke ⊢;refine dP ⟨_,rfl,_,rfl,_,_,rfl,rfl,.inl ⟨by decide,by decide⟩,_,_,rfl,rfl,nN _ _ ⟨?_,rfl⟩⟩
       rw[ke];rfl
      ·rw[decide_eq_false hab]at ke ⊢;refine bX (nN _ _ ⟨?_,rfl⟩);rw[ke];rfl
     ·rw[decide_eq_false h4]at ke ⊢;refine bX (nN _ _ ⟨?_,rfl⟩);rw[ke,Bool.not_false,Bool.true_or,Bool.and_true];rfl
    case r =>
     rintro σ2 H2 ⟨rfl,rfl⟩;generalize nC (nd (st.mo n).k) a b=kb at q;refine⟨_,rfl,(sl 2),λl hl=>?_⟩
     have s2:=aG (o:=.lst [V.str (ar "lost"),.str (ar "kept")]) hl;have hw:atI [V.str (ar "lost"),.str (ar "kept")] (if kb=true then 1 else 0)=some (.str (sY kb)):=by cases kb <;> rfl
     refine⟨_,rfl,.inr ⟨kb,rfl,l,_,_,_,rfl,rfl,SqL.of ae,hw,m,sY kb,c,st,N,pre,n,rfl,(X1.same s2).at,I,hN,e,Fw kb,λc' H' u s3 h3 cu hu=>?_⟩⟩
     refine q c' H' u ((Step.same aU (s1.trans s2)).trans s3) ?_ cu hu;show ji i c' H' m ((if kb=true then (st.popped pre n (sY kb)).carry (st.mo n) else st.popped pre n (sY kb)).uv _)
     rw[QG];exact h3.rows
theorem KA (T:Txt w.params K mg A){i:Nat}:aK P w K mg base CX0 3 A.Aw A.qw ["_law_m","_law_number"] (MN i):=by
 have AE:aK P w K mg base CX0 2 A.Gn A.sf ["_law_m"] (FF i):=G0 T;refine T.xQ.ok uL (λvs H Q E h=>?_) (λcdv A' outer s H vs Q E hr h=>?_)
 ·obtain⟨m,z,c,st,N,rfl,_⟩:=h;rfl
 ·obtain⟨m,z,c,st,N,rfl,hm,I,hN,hz0,hz1,q⟩:=h;obtain⟨aP,aA,aD,aM,ds,ws,es,X⟩:=hm.ex;have hu1:=hr.u1;have pJ:=hr.units;have wR:Room 2 _:=hr;have kc:∀ {v0 v1 v2 v3 v4 v5:V},(mdF v0 v1 v2 v3 v4 v5).length < ka:=by intros;show 6 < ka;decide
  refine⟨_,(ai (a5 (ay (JU pJ) (bc hu1 (pv 0) ao (λ_ _=>rfl)) (bR ah) (aN _))
 (aj (aC (bt (aa ao (aa (aV AE wR rfl T.Az T.wm.kp T.Ay .nil aY (aa (pv 0) ah)) ah)))))
 aH)
 (ai (a5 (JC (xC hu1 (pv 1) (bc hu1 (pv 0) ao (λ_ _=>rfl))))
 (aj (aC (bt (aa ao (aa af ah)))))
 aH)
 (ai (AH (bc hu1 (bc hu1 (pv 0) ao (λ_ _=>rfl)) (pv 1) (λ_ _=>rfl)) (JD rfl (j9 (fV (i:=2) uL.nd rfl (adm rfl)) (j9 (fV (i:=3) uL.nd rfl (adm rfl)) El))))
 (ai (a5 (ay rS (bc hu1 (pv 0) ao (λ_ _=>rfl)) (pv 2) (aN _))
 (aj (aC (bt (aa ao (aa (pv 2) ah)))))
 aH)
 (ai (bJ (Ge (bc hu1 (pv 0) ao (λ_ _=>rfl)) (pv 1) ⟨rfl,rfl,rfl,rfl⟩))
 (ai (hZ hu1 (pv 0) ao (pv 3) rfl)
 (aj (aC (bt (aa ao (aa (pv 1) ah))))))))))),?_⟩
  unfold stepT at q;refine dgv rfl X.gp ⟨(sl 0),λp hp=>?_⟩
  have s1:=aG (o:=.lst []) hp;have X1:=X.same s1;refine⟨gz st.au,.list [],lF (SqL.of X1.au.2),qS (SqL.of ae),lI _,qR,_,rfl,?_⟩;rw[lH];generalize upd H p (.lst [])=H1 at s1 X1 ⊢;cases e:st.au with
  |cons k0 r0 =>
   rw[if_neg (by rw[e];exact aj1 _ _)]at q
   refine dP ⟨_,rfl,m,c,st,rfl,X1.at,I.bK,λH2 s2=>⟨(sl 2),λu hu=>?_⟩⟩
   have a1:Step (dv i) c (az c u none) H _:=(Step.same aU (s1.trans s2)).trans (Step.new (o:=.tup [V.str (ar "bar"),.int (nY st.closed (st.au.map st.mo))]) aU hu);exact q (az c u none) _ u a1 ((X1.same s2).free (W:=λ_=>False) (λ_=>id) (Step.new id hu)).at aW ae
  |nil =>
   rw[if_pos e]at q;refine bX ?_;have say:∀(x:Xc),G6 i c H m (.exc x,st) Q->(xcC x).2=0->∀u,H1 u=none->Q (.ref u) (upd H1 u (.tup [.str (xcC x).1,.int 0])):=λx qq h0 u hu=>by
    have a1:Step (dv i) c (az c u none) H (upd H1 u (.tup [.str (xcC x).1,.int 0])):=(Step.same aU s1).trans (Step.new aU hu);refine qq (az c u none) _ u a1 (X1.free (W:=λ_=>False) (λ_=>id) (Step.new id hu)).at aW ?_
    show (upd H1 u (.tup [.str (xcC x).1,.int 0])) u=some (.tup [.str (xcC x).1,.int (xcC x).2]);rw[h0];exact ae
   by_cases hz:z=-1
   ·subst hz;rw[show ((-1:Int).toNat)=0 from rfl,I.no0]at q
    refine⟨_,rfl,dgv rfl X1.ga ⟨aA,_,rfl,.inl ⟨_,km (-1),.inl X1.aB.2,rfl,rfl⟩,_,rfl,?_⟩⟩;rw[ye];exact dP ⟨(sl 2),λu hu=>say .uk q rfl u hu⟩
   refine hide λGg hGg=>?_
   obtain⟨n,rfl⟩:∃n:Nat,z=(n:Int):=⟨z.toNat,by omega⟩
   rw[Int.toNat_natCast]at q;refine hGg ?_;refine⟨_,rfl,dgv rfl X1.ga ⟨aA,_,rfl,.inl ⟨_,km (n:Int),.inl X1.aB.2,rfl,rfl⟩,_,rfl,?_⟩⟩;cases hx:at1 n st.aB with
   |none =>
    rw[hx]at q;rw[qN (wH hx)];exact dP ⟨(sl 2),λu hu=>say .uk q rfl u hu⟩
   |some x =>
    refine hide λGg hGg=>?_
    rw[hx]at q;dsimp only at q;obtain⟨t,pl,hv,ht,hl⟩:=X1.waitOf hx;refine hGg ?_;rw[hv];refine bX ?_;refine⟨_,rfl,m,_,rfl,X1.ga,_,rfl,aA,_,rfl,.inl ⟨_,km (n:Int),.inl X1.aB.2,rfl,hv.symm⟩,t,[V.int x.2.1,.ref pl],rfl,ht.sq,rfl,_,_,rfl,_,_,rfl,rfl,?_⟩;refine⟨_,rfl,m,_,rfl,X1.gs,_,rfl,_,_,rfl,rfl,_,rfl,eU (λy=>?_) (λy=>?_)⟩
    ·have y':st.aQ < x.2.1:=of_decide_eq_true y;rw[if_pos y']at q;refine⟨_,rfl,(sl 2),λu hu=>?_⟩
     have a1:Step (dv i) c (az c u none) H _:=(Step.same aU s1).trans (Step.new (o:=.tup [V.str (ar "not yet"),.int x.2.1]) aU hu);exact q (az c u none) _ u a1 (X1.free (W:=λ_=>False) (λ_=>id) (Step.new id hu)).at aW ae
    ·have y':¬st.aQ < x.2.1:=λz=>y (decide_eq_true z)
     rw[if_neg y']at q;have oA:m≠aA:=dD X.co X.aB.1 (λz=>nomatch z)
     refine dgv rfl X1.ga ⟨aA,rfl,.inl ⟨_,.inl X1.aB.2⟩,_,rfl,_,km (n:Int),_,X1.aB.2,rfl,hv,?_⟩;refine⟨_,rfl,_,rfl,m,_,rfl,oI.k (k:=tu (ar "pile")) ((av oA).trans X1.ob) kc,?_⟩;rw[Ca];refine hide λGg hGg=>?_
     obtain⟨c2,ws2,s2,X2⟩:=X1.rh hl;refine hGg ?_;generalize upd (upd H1 aA (.dK (iC (a7 ((st.aB.map (·.1)).zip ws)) (km (n:Int))))) m (.dK (mdF (.int st.aQ) (.bl st.closed) (.ref pl) (.ref aA) (.ref aD) (.ref aM)))=H2 at s2 X2 ⊢
     refine⟨_,rfl,(sl 2),λu hu=>?_⟩
     have a1:Step (dv i) c (az c2 u none) H _:=((Step.same aU s1).trans s2.g9).trans (Step.new (o:=.tup [V.str (ar "told"),nV n]) aU hu);exact q (az c2 u none) _ u a1 (X2.free (W:=λ_=>False) (λ_=>id) (Step.new id hu)).at.rows aW ae
end
end My
set_option maxHeartbeats 1000000
namespace My
open PySem L2
seal PySem.wpAny
theorem rn.mnt {c:Col}{H:Hp}{t:Addr}:∀ {d:R.fq},Fz d->rn c H d t->MnT c H (d3 d) t
 | .mat cs,_,⟨L,a,b1,b2⟩=>⟨a.1,.ref L,a.2,L,rfl,b1,b2⟩
 | .ed true k j ws,h,⟨e,a,b⟩=>⟨a.1,.ref e,a.2,e,rfl,by rw[<-Fo h.1];exact b⟩
 | .ed false k j ws,h,⟨e,a,b⟩=>⟨a.1,.ref e,a.2,e,rfl,by rw[<-Fo h.1];exact b⟩
 | .pt ws,_,a=>⟨a.1,.str (sr R.bl1 ws),a.2,rfl⟩
 | .nums kd ns,h,a=>by
  rcases wN h.1 with ⟨u,rfl,rfl⟩ | ⟨rfl,rfl⟩ | ⟨rfl,rfl⟩ | ⟨rfl,rfl⟩
  ·rw[d3,if_pos rfl];exact⟨a.1,.int u,a.2,rfl⟩
  ·rw[d3,if_neg (by decide +kernel),if_pos rfl]
   exact⟨a.1,.non,a.2,trivial⟩
  ·rw[d3,if_neg (by decide +kernel),if_neg (by decide +kernel),if_pos rfl]
   exact⟨a.1,.non,a.2,trivial⟩
  ·rw[d3,if_neg (by decide +kernel),if_neg (by decide +kernel),if_neg (by decide +kernel)]
   exact⟨a.1,.non,a.2,trivial⟩
theorem QH:∀k,k < 8->decide (V.str (nm k)=V.str (ar "vote"))=false:=by decide +kernel
theorem QI:∀k,k < 8->decide (V.str (nm k)=V.str (ar "drop"))=false:=by decide +kernel
theorem QJ:∀k,k < 8->decide (V.str (nm k)=V.str (ar "take"))=false:=by decide +kernel
theorem KC {st:Ch}{pre:List Nat}{n:Nat}:st.ended pre n mH=(st.popped pre n mH).opened:=by
 unfold Ch.ended;rw[if_neg (by decide +kernel)]
section
variable{P:me}{w:World}{K:ba}{mg:Str->Option Value}{base:Heap}{A:Adr}
theorem QK (T:Txt w.params K mg A){i:Nat}:aK P w K mg base CX0 5 A.Mb A.vY ["_law_m","_law_deed_here","_law_seats_here"] (Ug i):=by
 have NA:aK P w K mg base CX0 4 A.Av A.qv ["_law_m","_law_ayes","_law_noes","_law_seats_here"] (MM i):=Kz T;have NB:aK P w K mg base CX0 3 A.Aw A.qw ["_law_m","_law_number"] (MN i):=KA T;have yk:aK P w K mg base CX0 3 A.vX A.md ["_law_m","_law_word_here"] (FH i):=Cn T;have NC:aK P w K mg base CX0 3 A.Au A.qu ["_law_m","_law_motion"] (ML i):=Kx T;refine T.E2.ok Gj (λvs H Q E h=>?_) (λcdv A' outer s H vs Q E hr h=>?_)
 ·obtain⟨m,t,c,st,N,d,rfl,_⟩:=h;rfl
 ·obtain⟨m,t,c,st,N,d,rfl,hm,I,hN,hd,hz,q⟩:=h;obtain⟨aP,aA,aD,aM,ds,ws,es,X⟩:=hm.ex;have hu1:=hr.u1;have pJ:=hr.units;have KD:Room 4 _:=hr;have KG:Room 3 _:=hr.mono (by decide)
  have u3:Room 3 _:=hr.mono (by decide)
  have KH:Room 3 _:=hr.mono (by decide)
  have lim:ka=16777216:=by decide
  refine⟨_,(ai (a5 (ay bu (aJ aL (pv 1) af (λ_ _=>rfl)) ao (aN _))
 (aj (aC (aV NA KD rfl T.DE T.xP.kp T.DD .nil aY (aa (pv 0) (aa (aJ aL (pv 1) af (λ_ _=>rfl)) (aa (aJ aL (pv 1) af (λ_ _=>rfl)) (aa (pv 2) ah)))))))
 aH)
 (ai (a5 (ay bu (aJ aL (pv 1) af (λ_ _=>rfl)) ao (aN _))
 (aj (aC (aV NB KG rfl T.DG T.xQ.kp T.DF .nil aY (aa (pv 0) (aa (aJ aL (pv 1) af (λ_ _=>rfl)) ah)))))
 aH)
 (ai (a5 (ay bu (aJ aL (pv 1) af (λ_ _=>rfl)) ao (aN _))
 (ai (a5 (ay (xw pJ) (bc hu1 (pv 0) ao (λ_ _=>rfl)) (bR ah) (aN _))
 (aj (aC (bt (aa ao (aa af ah)))))
 aH)
 (aj (aC (aV yk u3 rfl T.xO T.ui.kp T.xN .nil aY (aa (pv 0) (aa ao ah))))))
 aH)
 (ai (a8 (i:=3) Gj.nd rfl (adm rfl) (aV NC KH rfl T.DC T.xM.kp T.DB .nil aY (aa (pv 0) (aa (pv 1) ah))))
 (ai (a5 (ay En (pv 3) qj (aN _))
 (aj (aC (pv 3)))
 aH)
 (ai (bJ (gR rf ajU ajV cU (bc hu1 (pv 0) ao (λ_ _=>rfl)) (aa (bR (aa (pv 1) (aa (pv 1) (aa (bR ah) ah)))) ah)))
 (ai (bJ (gR rf ajU ajV cU (bc hu1 (pv 0) ao (λ_ _=>rfl)) (aa (cI dh (by rfl) T.q9 lZ (aa (bc hu1 (pv 0) ao (λ_ _=>rfl)) ah)) ah)))
 (aj (aC (bt (aa ao (aa (cI dh (by rfl) T.q9 lZ (aa (bc hu1 (pv 0) ao (λ_ _=>rfl)) ah)) ah)))))))))))),?_⟩
  cases hd with
  | @Ku a b ha hb =>
   rw[mI]at q;have ht:H t=some (.tup [.str (ar "vote"),.int a,.int b]):=hz.2;refine ixv rfl (SqT.of ht) rfl ⟨rfl,tst (decide_eq_true rfl) ?_⟩;exact⟨_,rfl,ixv rfl (SqT.of ht) rfl (ixv rfl (SqT.of ht) rfl ⟨_,rfl,m,a,b,c,st,N,rfl,hm,I,hN,ha,hb,q⟩)⟩
  |drop =>
   rw[mJ]at q;have ht:H t=some (.tup [.str (ar "drop")]):=hz.2;refine ixv rfl (SqT.of ht) rfl ⟨rfl,tsf (by decide +kernel) ?_⟩
   refine ixv rfl (SqT.of ht) rfl ⟨rfl,tsf (by decide +kernel) ?_⟩
   refine ixv rfl (SqT.of ht) rfl ⟨rfl,tst (decide_eq_true rfl) ?_⟩;unfold pR at q;refine dgv rfl X.gp ⟨(sl 0),λp hp=>?_⟩
   have s1:=aG (o:=.lst []) hp;have X1:=X.same s1;refine⟨gz st.au,.list [],lF (SqL.of X1.au.2),qS (SqL.of ae),lI _,qR,_,rfl,?_⟩;rw[lH];generalize upd H p (.lst [])=H1 at s1 X1 ⊢;rcases ajS st.au with e | ⟨pre,n,e⟩
   ·rw[e]at q ⊢;refine dP ⟨(sl 2),λu hu=>?_⟩
    have a1:Step (dv i) c (az c u none) H (upd H1 u (.tup [.str (ar "nothing"),.int 0])):=(Step.same aU s1).trans (Step.new aU hu);exact q (az c u none) _ u a1 (X1.free (W:=λ_=>False) (λ_=>id) (Step.new id hu)).at aW ae
   ·rw[ajT]at e;have gl:st.au.getLast?=some n:=by rw[e];exact akg
    have ed:st.au.dropLast=pre:=by rw[e];exact akm
    rw[gl]at q;dsimp only at q;rw[ed]at q;refine yE (by rw[e];simp) ?_
    refine⟨_,rfl,m,mH,c,st,N,pre,n,rfl,X1.at,I,hN,e,(by decide +kernel),λc' H' u s3 h3 cu hu=>?_⟩
    refine q c' H' u ((Step.same aU s1).trans s3) ?_ cu hu;rw[KC]at h3;exact h3.rows
  | @take z h0 h1 =>
   rw[mK]at q;have ht:H t=some (.tup [.str (ar "take"),.int z]):=hz.2;refine ixv rfl (SqT.of ht) rfl ⟨rfl,tsf (by decide +kernel) ?_⟩
   refine ixv rfl (SqT.of ht) rfl ⟨rfl,tst (decide_eq_true rfl) ?_⟩;exact⟨_,rfl,ixv rfl (SqT.of ht) rfl ⟨m,z,c,st,N,rfl,hm,I,hN,h0,h1,q⟩⟩
  |move hd =>
   rw[mL hd]at q;have hmn:=hz.mnt hd;obtain⟨v,ht⟩:=hmn.kind;unfold pS at q;refine ixv rfl (SqT.of ht) cE ⟨rfl,tsf (QH _ (d3 d).k8) ?_⟩;refine ixv rfl (SqT.of ht) cE ⟨rfl,tsf (QJ _ (d3 d).k8) ?_⟩;refine ixv rfl (SqT.of ht) cE ⟨rfl,tsf (QI _ (d3 d).k8) ?_⟩;refine⟨_,rfl,_,rfl,m,t,c,st,N,d,rfl,hm,I,hN,hd,hz.c,λSI H1 s1=>?_,λx hx u H1 s1 nu hu=>?_⟩
   case refine_2 =>
    rw[hx]at q;exact⟨_,rfl,rfl,tst rfl ⟨_,rfl,q (cx c H) H1 u (Step.cl aU s1) (X.cl s1).at (bO nu) hu⟩⟩
   rw[SI]at q;dsimp only at q;refine⟨_,rfl,rfl,tsf rfl ?_⟩;have X1:=X.same s1;have ahM:MnT c H1 (d3 d) t:=hmn.step (W:=λ_=>False) (Step.same id s1)
   have lm:=I.lm;have el:es.length=st.made.length:=by rw[<-X1.ent.len,pY]
   have lp:=I.pil.GP;rw[bo]at lp;have nf:st.made.length+1∉st.wJ:=λz=>by
    have:=(List.mem_filter.mp z).1;rw[akH]at this;omega
   have MP:aM≠aP:=dD X.lG.1 X.au.1 (λz=>nomatch z)
   have oM:m≠aM:=dD X.co X.lG.1 (λz=>nomatch z)
   refine dgv rfl X1.gm ⟨.inl ⟨rfl,_,SqL.of X1.lG.2⟩,_,rfl,_,rfl,(sl 0),λk hk=>⟨(sl 3),λp hp=>?_⟩⟩
   have npk:p≠k:=λz=>by rw[z,ae]at hp;cases hp
   have hp1:H1 p=none:=by rw[av npk]at hp;exact hp
   have s2:=(aG (o:=.lst []) hk).new (o:=.lst [.ref t,.ref t,.ref k]) hp;have X2:=X1.same s2;refine⟨aM,es,.ref p,rfl,rfl,X2.lG.2,by omega,?_⟩
   refine hide λGg hGg=>?_
   obtain⟨c',s3,X3⟩:=X1.moved (row:=R.rF d) (by rw[I.kk];exact nf) (by rw[I.ff];exact nf) ahM hk hp1 npk
   refine hGg ?_;generalize upd (upd H1 k (.lst [])) p (.lst [.ref t,.ref t,.ref k])=H2 at s2 X2 s3 X3 ⊢;have eln:(((es++[V.ref p]).length:Nat):Int)=((st.made.length+1:Nat):Int):=by rw[kx,el];rfl
   refine dgv rfl (.inl ⟨_,tu (ar "pile"),.inl ((av oM).trans X2.ob),rfl,tf.symm⟩) ⟨.inl ⟨rfl,_,SqL.of ((av MP.symm).trans X2.au.2)⟩,dgv rfl (.inl ⟨_,tu (ar "motions"),.inl ((av oM).trans X2.ob),rfl,yR.symm⟩) ⟨aM,_,rfl,.inl (SqL.of ae),?_⟩⟩;refine⟨aP,st.au.map nV,nV (st.made.length+1),rfl,by rw[eln];rfl,(av MP.symm).trans X2.au.2,by rw[bo];omega,?_⟩
   generalize upd (upd H2 aM (.lst (es++[.ref p]))) aP (.lst (st.au.map nV++[nV (st.made.length+1)]))=H3 at s3 X3 ⊢;refine dgv rfl X3.gm ⟨aM,_,rfl,.inl (SqL.of X3.lG.2),(sl 2),λu hu=>?_⟩
   rw[eln];have a1:Step (dv i) c (az c' u none) H (upd H3 u (.tup [V.str (ar "told"),nV (st.made.length+1)])):=((Step.same aU s1).trans s3.g9).trans (Step.new aU hu);exact q (az c' u none) _ u a1 (X3.free (W:=λ_=>False) (λ_=>id) (Step.new id hu)).at aW ae
theorem QL (T:Txt w.params K mg A):aK P w K mg base CX0 1 A.Ma A.vV [] MK:=by
 refine T.E1.ok Pf (λvs H Q E h=>?_) (λcdv A' outer s H vs Q E hr h=>?_)
 ·obtain⟨rfl,_⟩:=h;rfl
 ·obtain⟨rfl,q⟩:=h;refine⟨_,(aj (aC (R6 (oK ao af (oK ao gb (oK ao (bR ah) (oK ao oJ (oK ao (bR ah) (oK ao (bR ah) R5)))))) rfl rfl (by decide) (by decide)))),?_⟩
  refineλm h0=>⟨(sl 0),λaP h1=>λaA h2=>⟨(sl 0),λaD h3=>⟨(sl 0),λaM h4=>?_⟩⟩⟩
  have s1:=aG (o:=.dK []) h0;have s2:=aG (o:=.lst []) h1;have s3:=aG (o:=.dK []) h2;have s4:=aG (o:=.lst []) h3;have s5:=aG (o:=.lst []) h4;have n1:=same_none s1 h1;have n2:=same_none (s1.trans s2) h2;have n3:=same_none ((s1.trans s2).trans s3) h3;have n4:=same_none (((s1.trans s2).trans s3).trans s4) h4;have m1:m≠aP:=aI ae h1;have m2:m≠aA:=aI (s2 _ _ ae) h2;have m3:m≠aD:=aI ((s2.trans s3) _ _ ae) h3;have m4:m≠aM:=aI (((s2.trans s3).trans s4) _ _ ae) h4;have p2:aP≠aA:=aI ae h2;have p3:aP≠aD:=aI (s3 _ _ ae) h3;have p4:aP≠aM:=aI ((s3.trans s4) _ _ ae) h4;have q3:aA≠aD:=aI ae h3;have q4:aA≠aM:=aI (s4 _ _ ae) h4;have r4:aD≠aM:=aI ae h4;refine⟨(((s2.trans s3).trans s4).trans s5) _ _ ae,mdF (.int 1) (.bl false) (.ref aP) (.ref aA) (.ref aD) (.ref aM),rfl,(by show 6<=15;decide),?_⟩
  rw[WH];refine q m _ λi c n=>⟨az (az (az (az (az c m (some (i,.ob))) aP (some (i,.au))) aA (some (i,.aB))) aD (some (i,.decided))) aM (some (i,.made)),⟨id,?_,?_,?_⟩,aP,aA,aD,aM,[],[],[],?_⟩
  ·exactλa v e _=>(((((s1.trans s2).trans s3).trans s4).trans s5).own h0) a v e
  ·exactλa v e=>⟨v,(((((s1.trans s2).trans s3).trans s4).trans s5).own h0) a v e⟩
  ·intro a v e _;rw[aw (aI e n4),aw (aI e n3),aw (aI e n2),aw (aI e n1),aw (aI e h0)]
  ·refine⟨?_,ae,⟨?_,?_⟩,⟨?_,?_⟩,.nil,⟨?_,?_⟩,.nil,⟨?_,?_⟩,.nil⟩
   ·rw[aw m4,aw m3,aw m2,aw m1,aW]
   ·rw[aw p4,aw p3,aw p2,aW]
   ·rw[av m1.symm,av p4,av p3,av p2,ae];rfl
   ·rw[aw q4,aw q3,aW]
   ·rw[av m2.symm,av q4,av q3,ae];rfl
   ·rw[aw r4,aW]
   ·rw[av m3.symm,av r4,ae];rfl
   ·rw[aW]
   ·rw[av m4.symm,ae]
end
end My
set_option maxHeartbeats 1000000
namespace My
open PySem L2
seal PySem.wpAny
def G7:Sp:=λvs H Q _=>∃(c n:Int),vs=[.int c,.int n]/\1<=n/\n<=1000000000/\∀(a b:Int) (t:Addr) (H':Hp),(0<=a/\a < 10 ^ 10)->(0<=b/\b < 10 ^ 10)->br H H'->H t=none->H' t=some (.tup [.str (ar "vote"),.int a,.int b])->Q (.ref t) H'
def G8 (i:Nat):Sp:=λvs H Q _=>∃(m:Addr) (z:Int) (c:Col) (st:Ch) (N:Nat),vs=[.ref m,.int z]/\ji i c H m st/\Inv N st/\∀(j:Int) (H':Hp),0<=j->j < 20->br H H'->Q (.int j) H'
def G9 (i:Nat):Sp:=λvs H Q _=>∃(m:Addr) (z n:Int) (c:Col) (st:Ch) (N:Nat),vs=[.ref m,.int z,.int n]/\ji i c H m st/\Inv N st/\N<=191/\1<=n/\n<=1000000000 /\
 ∀(d:R.fq) (t:Addr) (H':Hp),yf d->rn (cx c H) H' d t->br H H'->Q (.ref t) H'
theorem SQ {xs:List Int}{j:Int}(h0:0<=j)(h1:j < xs.length)(hx:∀x∈xs,0<=x/\x < 20):∃x:Int,atI (xs.map V.int) j=some (.int x)/\0<=x/\x < 20:=by
 obtain⟨k,rfl⟩:∃k:Nat,j=(k:Int):=⟨j.toNat,by omega⟩
 have hk:k < xs.length:=by omega
 refine⟨xs[k],?_,hx _ (List.getElem_mem hk)⟩;refine dF ?_;rw[aj0,wa hk];rfl
section
variable{P:me}{w:World}{K:ba}{mg:Str->Option Value}{base:Heap}{A:Adr}
theorem ND (T:Txt w.params K mg A):aK P w K mg base CX0 1 A.EW A.uc ["_law_cell","_law_seats_here"] G7:=by
 refine T.Bs.ok pb (λvs H Q E h=>?_) (λcdv A' outer s H vs Q E hr h=>?_)
 ·obtain⟨c,n,rfl,_⟩:=h;rfl
 ·obtain⟨c,n,rfl,n1,n2,q⟩:=h;refine⟨_,(ai (a8 (i:=2) pb.nd rfl (adm rfl) (a6 cy (pv 0) (a6 d6 (pv 1) af)))
 (ai (a8 (i:=3) pb.nd rfl (adm rfl) (a6 cy (a6 dg (pv 0) af) (a6 nO (a6 d6 (pv 1) af) (pv 2))))
 (ai (a5 (ay bu (a6 cy (a6 dg (pv 0) af) af) af (aN _))
 (aj (a8 (i:=3) pb.nd rfl (adm rfl) (a6 nO (a6 d6 (a6 dg (pv 2) af) (a6 cy (a6 dg (pv 0) af) af)) af)))
 aH)
 (ai (a5 (ay bu (a6 cy (a6 dg (pv 0) af) af) af (aN _))
 (aj (a8 (i:=3) pb.nd rfl (adm rfl) (a6 d6 (a6 nO (pv 1) (pv 2)) (a6 cy (a6 dg (pv 0) af) af))))
 aH)
 (aj (aC (bt (aa ao (aa (pv 2) (aa (cI (tT rfl) (by rfl) T.GB Ew (aa af (aa (pv 3) ah))) ah)))))))))),?_⟩
  have a0:0<=c % (n+1):=akD _ (by omega)
  have a1:c % (n+1) < n+1:=akn _ (by omega)
  refine⟨_,rfl,_,rfl,_,_,rfl,rfl,_,_,rfl,rfl,(by show (0:Int) < n+1;omega),?_⟩
  dsimp only[fj];generalize c % (n+1)=a at a0 a1 ⊢;refine⟨_,rfl,_,_,rfl,rfl,⟨by decide,by decide⟩,_,rfl,_,_,rfl,rfl,_,rfl,_,_,rfl,rfl,_,_,rfl,rfl,(by show (0:Int) < n+1 - a;omega),?_⟩
  dsimp only[fj];have b0:0<=c / 7 % (n+1 - a):=akD _ (by omega)
  have b1:c / 7 % (n+1 - a) < n+1 - a:=akn _ (by omega)
  generalize c / 7 % (n+1 - a)=b at b0 b1 ⊢;refine d9 (λσ' H'=>H'=H/\∃b:Int,σ'=[some (.int c),some (.int n),some (.int a),some (.int b)]/\-1<=b/\b < 10000000000) ?r (λN' nN=>?f)
  case f =>
   refine⟨_,rfl,_,_,rfl,rfl,⟨by decide,by decide⟩,_,_,rfl,rfl,(by show (0:Int) < 4;decide),rfl,_,rfl,eU (λ_=>?_) (λ_=>?_)⟩
   ·refine⟨_,rfl,_,_,rfl,rfl,⟨by decide,by decide⟩,_,rfl,_,_,rfl,rfl,⟨by decide,by decide⟩,_,_,rfl,rfl,(by show (0:Int) < 3;decide),_,_,rfl,rfl,_,_,rfl,rfl,nN _ _ ⟨rfl,_,rfl,?_,?_⟩⟩
    ·omega
    ·omega
   ·exact nN _ _ ⟨rfl,b,rfl,by omega,by omega⟩
  case r =>
   rintro σ2 H2 ⟨rfl,b,rfl,c0,c1⟩;refine d9 (λσ' H'=>H'=H2/\∃b:Int,σ'=[some (.int c),some (.int n),some (.int a),some (.int b)]/\-1<=b/\b < 10000000000) ?r (λN' nN=>?f)
   case f =>
    refine⟨_,rfl,_,_,rfl,rfl,⟨by decide,by decide⟩,_,_,rfl,rfl,(by show (0:Int) < 16;decide),rfl,_,rfl,eU (λ_=>?_) (λ_=>?_)⟩
    ·refine⟨_,rfl,_,rfl,_,_,rfl,rfl,_,rfl,_,_,rfl,rfl,⟨by decide,by decide⟩,_,_,rfl,rfl,(by show (0:Int) < 2;decide),_,_,rfl,rfl,nN _ _ ⟨rfl,_,rfl,?_,?_⟩⟩
     ·omega
     ·omega
    ·exact nN _ _ ⟨rfl,b,rfl,by omega,by omega⟩
   case r =>
    rintro σ3 H3 ⟨rfl,b,rfl,c0,c1⟩;refine⟨_,rfl,_,rfl,_,_,rfl,(sl 3),λu hu=>?_⟩
    refine q a (if b > 0 then b else 0) u _ ⟨a0,by omega⟩ ⟨?_,?_⟩ (aG hu) hu ae
    ·split <;> omega
    ·split <;> omega
theorem Hb (T:Txt w.params K mg A){i:Nat}:aK P w K mg base CX0 2 A.vZ A.ni ["_law_m","_law_way"] (G8 i):=by
 have f6:aK P w K mg base CX0 1 A.vW A.iV ["_law_m","_law_number"] (qQ i):=pV T;refine T.uM.ok yF (λvs H Q E h=>?_) (λcdv A' outer s H vs Q E hr h=>?_)
 ·obtain⟨m,z,c,st,N,rfl,_⟩:=h;rfl
 ·obtain⟨m,z,c,st,N,rfl,hm,I,q⟩:=h;obtain⟨aP,aA,aD,aM,ds,ws,es,X⟩:=hm.ex;have hu1:=hr.u1;have pJ:=hr.units;have d4:Room 1 _:=hr;refine⟨_,(ai (a5 (ay (xw pJ) (bc hu1 (pv 0) ao (λ_ _=>rfl)) (bR ah) (aN _))
 (aj (aC (aJ bz (bR (aa af (aa af (aa af (aa af (aa af ah)))))) (a6 cy (pv 1) af) (λ_ _=>rfl))))
 aH)
 (ai (a8 (i:=2) yF.nd rfl (adm rfl) (aV f6 d4 rfl T.j7 T.iX.kp T.j6 .nil aY (aa (pv 0) (aa (aJ bz (bc hu1 (pv 0) ao (λ_ _=>rfl)) (oF jq af) (λ_ _=>rfl)) ah))))
 (ai (a5 (ay bu (aJ aL (pv 2) af (λ_ _=>rfl)) ao (aN _))
 (aj (aC (aJ bz (bR (aa af (aa af (aa af (aa af (aa af (aa af (aa af ah)))))))) (a6 cy (pv 1) af) (λ_ _=>rfl))))
 aH)
 (ai (a5 (PW.pt (pw_and (ay bu (aJ aL (pv 2) af (λ_ _=>rfl)) ao (aN _)) (pw_and1 (ay vv (aJ aL (aJ aL (pv 2) af (λ_ _=>rfl)) af (λ_ _=>rfl)) ao (aN _)))))
 (aj (aC (aJ bz (bR (aa af (aa af (aa af (aa af (aa af ah)))))) (a6 cy (pv 1) af) (λ_ _=>rfl))))
 aH)
 (aj (aC (aJ bz (bR (aa af (aa af (aa af (aa af (aa af ah)))))) (a6 cy (pv 1) af) (λ_ _=>rfl)))))))),?_⟩
  have say:∀(xs:List Int) (k:Int) (H1:Hp) (p:Addr),br H H1->H1 p=none->k=(xs.length:Int)->0 < k->(∀x∈xs,0<=x/\x < 20)->∀R:V->Hp->Prop,(∀x:Int,Q (.int x) (upd H1 p (.lst (xs.map V.int)))->R (.int x) (upd H1 p (.lst (xs.map V.int))))->∃x,atI (xs.map V.int) (z % k)=some x/\R x (upd H1 p (.lst (xs.map V.int))):=by
   intro xs k H1 p s1 hp ek hk hx R hR;obtain⟨x,h1,h2,h3⟩:=SQ (j:=z % k) (akD _ (by omega)) (by rw[<-ek];exact akn _ hk) hx
   exact⟨_,h1,hR x (q x _ h2 h3 (s1.new hp))⟩
  refine dgv rfl X.gp ⟨(sl 0),λp hp=>?_⟩
  have s1:=aG (o:=.lst []) hp;have X1:=X.same s1;refine⟨gz st.au,.list [],lF (SqL.of X1.au.2),qS (SqL.of ae),lI _,qR,_,rfl,?_⟩;rw[lH];generalize upd H p (.lst [])=H1 at s1 X1 ⊢;rcases ajS st.au with e | ⟨pre,n,e⟩
  ·rw[e];refine dP ⟨(sl 5),λp2 hp2=>?_⟩
   refine hide λGg hGg=>?_
   obtain⟨x,h1,h2⟩:=say [0,1,18,10,0] 5 H1 p2 s1 hp2 rfl (by decide) (by decide) (λv H=>Q v H) (λ_ h=>h)
   refine hGg ?_;exact⟨_,rfl,_,_,rfl,rfl,(by show (0:Int) < 5;decide),p2,_,_,_,rfl,rfl,SqL.of ae,h1,h2⟩
  rw[ajT]at e;have hn:=I.bK n (by rw[e];simp)
  have h0:atI (st.au.map nV) (-1)=some (nV n):=by rw[e,kr];exact iQ _ _
  refine yE (by rw[e];simp) ?_
  refine⟨_,rfl,_,rfl,m,_,rfl,X1.gp,_,rfl,aP,_,_,_,rfl,rfl,SqL.of X1.au.2,h0,m,n,c,st,rfl,X1.at,hn,λt ht=>?_⟩
  refine hide λGg hGg=>?_
  obtain⟨_,v,hv,hvv⟩:=ht;refine hGg ?_;refine ixv rfl (SqT.of hv) cE ⟨rfl,_,rfl,eU (λ_=>?_) (λ_=>?_)⟩
  ·refine⟨(sl 7),λp2 hp2=>?_⟩
   refine hide λGg hGg=>?_
   obtain⟨x,h1,h2⟩:=say [2,3,4,12,7,9,8] 7 H1 p2 s1 hp2 rfl (by decide) (by decide) (λv H=>Q v H) (λ_ h=>h)
   refine hGg ?_;exact⟨_,rfl,_,_,rfl,rfl,(by show (0:Int) < 7;decide),p2,_,_,_,rfl,rfl,SqL.of ae,h1,h2⟩
  refine ixv rfl (SqT.of hv) cE ⟨rfl,_,rfl,?_⟩;rw[bP _ (st.mo n).k8]
  by_cases h1:(st.mo n).k=1
  case neg =>
   rw[decide_eq_false h1];refine bX (bX ⟨(sl 5),λp2 hp2=>?_⟩)
   refine hide λGg hGg=>?_
   obtain⟨x,h1,h2⟩:=say [12,13,12,14,15] 5 H1 p2 s1 hp2 rfl (by decide) (by decide) (λv H=>Q v H) (λ_ h=>h)
   refine hGg ?_;exact⟨_,rfl,_,_,rfl,rfl,(by show (0:Int) < 5;decide),p2,_,_,_,rfl,rfl,SqL.of ae,h1,h2⟩
  rw[decide_eq_true h1];refine hide λGg hGg=>?_
  obtain⟨e,emo⟩:∃e,st.mo n=.chg e:=by
   cases hmo:st.mo n with
   |chg e=>exact⟨e,rfl⟩
   |_=>rw[hmo]at h1;simp[Mn.k]at h1
  rw[emo]at hv hvv;obtain⟨tc,rfl,htc⟩:=hvv;refine hGg ?_;refine dP (ixv rfl (SqT.of hv) rfl ⟨tc,_,_,_,rfl,rfl,htc.sq,nS e,rfl,_,rfl,eU (λ_=>?_) (λ_=>?_)⟩)
  ·refine⟨(sl 5),λp2 hp2=>?_⟩
   refine hide λGg hGg=>?_
   obtain⟨x,h1,h2⟩:=say [5,6,5,12,14] 5 H1 p2 s1 hp2 rfl (by decide) (by decide) (λv H=>Q v H) (λ_ h=>h)
   refine hGg ?_;exact⟨_,rfl,_,_,rfl,rfl,(by show (0:Int) < 5;decide),p2,_,_,_,rfl,rfl,SqL.of ae,h1,h2⟩
  ·refine⟨(sl 5),λp2 hp2=>?_⟩
   refine hide λGg hGg=>?_
   obtain⟨x,h1,h2⟩:=say [12,13,12,14,15] 5 H1 p2 s1 hp2 rfl (by decide) (by decide) (λv H=>Q v H) (λ_ h=>h)
   refine hGg ?_;exact⟨_,rfl,_,_,rfl,rfl,(by show (0:Int) < 5;decide),p2,_,_,_,rfl,rfl,SqL.of ae,h1,h2⟩
end
end My
set_option maxHeartbeats 1000000
namespace My
open PySem L2
seal PySem.wpAny
theorem abf {N:Nat}{e:Ed}(h:EdB (12+N) e)(hN:N<=800):e.th.length+2<=ka/\(R.bf e.th).length<=900:=by
 have lim:ka=16777216:=by decide
 have h1:=(h.ok (by omega)).th.len
 have h2:=h.words.2;exact⟨by omega,by omega⟩
theorem Hc:∀(as:List (Nat×Int×List Nat)) (ws:List V),as.length=ws.length->(a7 ((as.map (·.1)).zip ws)).map (·.1)=(as.map λx=>(x.1:Int)).map km:=by
 intro as
 induction as with
 |nil=>intro ws _;cases ws <;> rfl
 |cons a as ih =>
  intro ws h;cases ws with
  |nil=>cases h
  |cons w ws =>
   rw[kj,cN,kj,ih ws (by simpa using h)]
   rfl
section
variable{P:me}{w:World}{K:ba}{mg:Str->Option Value}{base:Heap}{A:Adr}
theorem NF (T:Txt w.params K mg A){i:Nat}:aK P w K mg base CX0 3 A.EX A.ud ["_law_m","_law_cell","_law_seats_here"] (G9 i):=by
 have f6:aK P w K mg base CX0 1 A.vW A.iV ["_law_m","_law_number"] (qQ i):=pV T;have KI:aK P w K mg base CX0 2 A.vZ A.ni ["_law_m","_law_way"] (G8 i):=Hb T;have u4:aK P w K mg base CX0 2 A.vU A.nh ["_law_cell"] Cd:=GY T;have Ce:aK P w K mg base CX0 1 A.Bg A.pj ["_law_cell"] Cc:=D4 T;have jN:aK P w K mg base CX0 1 A.qt A.ir ["_law_clause_here"] R.eL:=qP T;have Hd:aK P w K mg base CX0 1 A.ET A.t9 ["_law_cell","_law_size","_law_thing"] GX:=Nv T;have QM:aK P w K mg base CX0 1 A.EW A.uc ["_law_cell","_law_seats_here"] G7:=ND T;refine T.Bv.ok eE (λvs H Q E h=>?_) (λcdv A' outer s H vs Q E hr h=>?_)
 ·obtain⟨m,z,n,c,st,N,rfl,_⟩:=h;rfl
 ·obtain⟨m,z,n,c,st,N,rfl,hm,I,hN,n1,n2,q⟩:=h;obtain⟨aP,aA,aD,aM,ds,ws,es,X⟩:=hm.ex;have hu1:=hr.u1;have pJ:=hr.units;have d4:Room 1 _:=hr.mono (by decide)
  have He:Room 2 _:=hr;have tq:Room 2 _:=hr;have yh:Room 1 _:=hr.mono (by decide)
  have iz:Room 1 _:=hr.mono (by decide)
  have D8:Room 1 _:=hr.mono (by decide)
  have NG:Room 1 _:=hr.mono (by decide)
  refine⟨_,(ai (a8 (i:=3) eE.nd rfl (adm rfl) (a6 cy (pv 1) af))
 (ai (a8 (i:=4) eE.nd rfl (Or.inr rfl) (a6 dg (pv 1) af))
 (ai (a5 (ay FR (a6 cy (pv 4) af) af (aN _))
 (aj (a8 (i:=3) eE.nd rfl (adm rfl) (aV KI He rfl T.Bu T.uM.kp T.Bt .nil aY (aa (pv 0) (aa (pv 3) ah)))))
 aH)
 (ai (a8 (i:=4) eE.nd rfl (Or.inr rfl) (a6 dg (pv 4) af))
 (ai (a8 (i:=5) eE.nd rfl (adm rfl) af)
 (ai (a8 (i:=6) eE.nd rfl (adm rfl) ao)
 (ai (a5 (ay (JU pJ) (bc hu1 (pv 0) ao (λ_ _=>rfl)) (bR ah) (aN _))
 (ai (a8 (i:=7) eE.nd rfl (adm rfl) (aV f6 d4 rfl T.j7 T.iX.kp T.j6 .nil aY (aa (pv 0) (aa (aJ bz (bc hu1 (pv 0) ao (λ_ _=>rfl)) af (λ_ _=>rfl)) ah))))
 (ai (a8 (i:=8) eE.nd rfl (adm rfl) (aV f6 d4 rfl T.j7 T.iX.kp T.j6 .nil aY (aa (pv 0) (aa (aJ bz (bc hu1 (pv 0) ao (λ_ _=>rfl)) (oF jq af) (λ_ _=>rfl)) ah))))
 (ai (a5 (ay bu (aJ aL (pv 7) af (λ_ _=>rfl)) ao (aN _))
 (aj (a8 (i:=5) eE.nd rfl (adm rfl) (cI dh (by rfl) T.q9 lZ (aa (aJ aL (pv 7) af (λ_ _=>rfl)) ah))))
 aH)
 (aj (a5 (PW.pt (pw_and (ay bu (aJ aL (pv 8) af (λ_ _=>rfl)) ao (aN _)) (pw_and1 (ay vv (aJ aL (aJ aL (pv 8) af (λ_ _=>rfl)) af (λ_ _=>rfl)) ao (aN _)))))
 (aj (a8 (i:=6) eE.nd rfl (adm rfl) (aJ aL (aJ aL (pv 8) af (λ_ _=>rfl)) af (λ_ _=>rfl))))
 aH)))))
 aH)
 (ai (a5 (ay rS (pv 3) af (aN _))
 (aj (aC (bt (aa ao (aa (vI (scope:=vR) Gk rfl (xo rfl T.AA (aa (a6 cy (pv 4) af) ah)) (λ_ _ _ _ _=>(aV u4 tq rfl T.qG T.mq.kp T.qF .nil aY (aa (a6 d6 (a6 dg (pv 5) af) (a6 xr af (pv 0))) ah)))) ah)))))
 aH)
 (ai (a5 (ay rS (pv 3) af (aN _))
 (aj (aC (bt (aa ao (aa (aV Hd D8 rfl T.Bo T.wj.kp T.Bn .nil aY (aa (pv 4) (aa (pv 5) (aa (aV u4 tq rfl T.qG T.mq.kp T.qF .nil aY (aa (a6 dg (pv 4) af) ah)) ah)))) ah)))))
 aH)
 (ai (a5 (ay rS (pv 3) af (aN _))
 (aj (aC (bt (aa ao (aa (aV Hd D8 rfl T.Bo T.wj.kp T.Bn .nil aY (aa (pv 4) (aa (cI dh (by rfl) T.q9 lZ (aa (aV jN iz rfl T.pF T.lV.kp T.pE .nil aY (aa (pv 6) ah)) ah)) (aa (aV Ce yh rfl T.Bm T.wg.kp T.Bl .nil aY (aa (a6 dg (pv 4) af) ah)) ah)))) ah)))))
 aH)
 (ai (a5 (ay bu (pv 3) af (aN _))
 (aj (aC (bt (aa ao (aa (cI (tT rfl) (by rfl) T.GB Ew (aa af (aa (a6 nO (a6 d6 (bc hu1 (pv 0) ao (λ_ _=>rfl)) (a6 cy (pv 4) af)) af) ah))) ah)))))
 aH)
 (ai (a5 (ay rS (pv 3) af (aN _))
 (aj (aC (aJ bz (bR (aa (bt (aa ao ah)) (aa (bt (aa ao ah)) (aa (bt (aa ao ah)) ah)))) (a6 nO (pv 3) af) (λ_ _=>rfl))))
 aH)
 (ai (a5 (ay bu (pv 3) af (aN _))
 (aj (aC (bt (aa ao (aa (aV u4 tq rfl T.qG T.mq.kp T.qF .nil aY (aa (pv 4) ah)) ah)))))
 aH)
 (ai (a5 (ay rS (pv 3) af (aN _))
 (aj (aC (bt (aa ao (aa (a6 d6 af (a6 cy (pv 4) (pv 2))) (aa af ah))))))
 aH)
 (ai (a5 (ay rS (pv 3) af (aN _))
 (aj (aC (aV QM NG rfl T.Gw T.Bs.kp T.Gv .nil aY (aa (pv 4) (aa (pv 2) ah)))))
 aH)
 (ai (a5 (ay bu (pv 3) af (aN _))
 (aj (aC (bt (aa ao ah))))
 aH)
 (ai (a5 (PW.pt (pw_and (ay (R9 hu1) (bc hu1 (pv 0) ao (λ_ _=>rfl)) oJ (aN _)) (pw_and1 (ay FR (a6 cy (pv 4) af) af (aN _)))))
 (aj (aC (bt (aa ao (aa (aJ bz (cI (vN hr.hd) (by rfl) T.Bz Dr (aa (bc hu1 (pv 0) ao (λ_ _=>rfl)) ah)) (a6 cy (a6 dg (pv 4) af) (cI Dq (by rfl) T.q9 lZ (aa (bc hu1 (pv 0) ao (λ_ _=>rfl)) ah))) (λ_ _=>rfl)) ah)))))
 aH)
 (aj (aC (bt (aa ao (aa (a6 nO (a6 cy (a6 dg (pv 4) af) (a6 d6 (cI dh (by rfl) T.q9 lZ (aa (bc hu1 (pv 0) ao (λ_ _=>rfl)) ah)) af)) af) ah)))))))))))))))))))))),?_⟩
  have lim:ka=16777216:=by decide
  have e10:(10:Int) ^ 10=10000000000:=by decide
  refine⟨_,rfl,_,_,rfl,rfl,(by show (0:Int) < 20;decide),_,rfl,_,_,rfl,rfl,⟨by decide,by decide⟩,?_⟩
  dsimp only[fj];have y0:0<=z % 20:=akD _ (by decide)
  have y1:z % 20 < 20:=akn _ (by decide)
  generalize z % 20=y at y0 y1 ⊢;generalize z / 20=x;refine d9 (λσ' H'=>∃y:Int,σ'=[some (.ref m),some (.int z),some (.int n),some (.int y),some (.int x),none,none,none,none]/\0<=y/\y < 20/\br H H') ?r1 (λN' nN=>?f1)
  case f1 =>
   refine⟨_,rfl,_,_,rfl,rfl,(by show (0:Int) < 3;decide),_,_,rfl,rfl,_,rfl,eU (λ_=>?_) (λ_=>?_)⟩
   ·exact⟨_,rfl,_,rfl,m,y,c,st,N,rfl,hm,I,λj H1 j0 j1 s1=>nN _ _ ⟨j,rfl,j0,j1,s1⟩⟩
   ·exact nN _ _ ⟨y,rfl,y0,y1,λ_ _ h=>h⟩
  case r1 =>
  clear y0 y1;rintro σ1 H1 ⟨y,rfl,y0,y1,s1⟩;refine⟨_,rfl,_,_,rfl,rfl,⟨by decide,by decide⟩,?_⟩
  dsimp only[fj];generalize x / 3=x;refine d9 (λσ' H'=>σ'=[some (.ref m),some (.int z),some (.int n),some (.int y),some (.int x),some (.int 1),none,none,none]/\H'=H1) ?ra (λN' nN=>nN _ _ ⟨rfl,rfl⟩)
  case ra =>
  rintro σa Ha ⟨rfl,rfl⟩;refine d9 (λσ' H'=>σ'=[some (.ref m),some (.int z),some (.int n),some (.int y),some (.int x),some (.int 1),some (.str (ar "")),none,none]/\H'=Ha) ?rb (λN' nN=>nN _ _ ⟨rfl,rfl⟩)
  case rb =>
  rintro σb H1 ⟨rfl,rfl⟩;refine d9 (λσ' H'=>∃(k:Int) (cl:Str) (v7 v8:Option V),σ'=[some (.ref m),some (.int z),some (.int n),some (.int y),some (.int x),some (.int k),some (.str cl),v7,v8]/\0<=k/\k<=900/\cl.length+2<=ka/\(R.bf cl).length<=900/\br H H') ?r2 (λN' nN=>?f2)
  case f2 =>
   have X1:=X.same s1;refine dgv rfl X1.gp ⟨(sl 0),λp hp=>?_⟩
   have s2:=s1.new (o:=.lst []) hp;have X2:=X.same s2;refine⟨gz st.au,.list [],lF (SqL.of X2.au.2),qS (SqL.of ae),lI _,qR,_,rfl,?_⟩;rw[lH];generalize upd H1 p (.lst [])=H2 at s2 X2 ⊢;rcases ajS st.au with e | ⟨pre,t,e⟩
   ·rw[e];exact bX (nN _ _ ⟨1,_,_,_,rfl,by decide,by decide,by decide +kernel,by decide +kernel,s2⟩)
   refine hide λGg hGg=>?_
   rw[ajT]at e;obtain⟨b,r,eb⟩:∃b r,st.au=b::r:=by
    cases hp:st.au with
    |nil=>rw[hp]at e;simp at e
    |cons b r=>exact⟨b,r,rfl⟩
   have hb:=I.bK b (by rw[eb];simp)
   have ht:=I.bK t (by rw[e];simp)
   have hA0:atI (st.au.map nV) 0=some (nV b):=by rw[eb];exact dF (j:=0) rfl
   have hA1:atI (st.au.map nV) (-1)=some (nV t):=by rw[e,kr];exact iQ _ _
   refine hGg ?_;refine yD (by rw[eb];rfl) ?_
   refine⟨_,rfl,dgv rfl X2.gp ⟨aP,_,_,_,rfl,rfl,SqL.of X2.au.2,hA0,m,b,c,st,rfl,X2.at,hb,λtb htb=>?_⟩⟩
   refine⟨_,rfl,_,rfl,m,_,rfl,X2.gp,_,rfl,aP,_,_,_,rfl,rfl,SqL.of X2.au.2,hA1,m,t,c,st,rfl,X2.at,ht,λtt htt=>?_⟩
   refine hide λGg hGg=>?_
   obtain⟨_,vb,hvb,abg⟩:=htb;obtain⟨_,vt,hvt,abh⟩:=htt;refine hGg ?_;dsimp only[fj];refine d9 (λσ' H'=>∃(k:Int),σ'=[some (.ref m),some (.int z),some (.int n),some (.int y),some (.int x),some (.int k),some (.str (ar "")),some (.ref tb),some (.ref tt)]/\0<=k/\k<=900/\H'=H2) ?r3 (λN2 nN2=>?f3)
   case f3 =>
    refine ixv rfl (SqT.of hvb) cE ⟨rfl,_,rfl,?_⟩;rw[sU _ (st.mo b).k8]
    by_cases h0:(st.mo b).k=0
    case neg =>
     rw[decide_eq_false h0];exact bX (nN2 _ _ ⟨1,rfl,by decide,by decide,rfl⟩)
    rw[decide_eq_true h0];refine hide λGg hGg=>?_
    have hmo:=I.wK hb;obtain⟨tx,etx⟩:∃tx,st.mo b=.mat tx:=by
     cases hmo:st.mo b with
     |mat tx=>exact⟨tx,rfl⟩
     |_=>rw[hmo]at h0;simp[Mn.k]at h0
    rw[etx]at hvb abg hmo;obtain⟨L,rfl,hL⟩:=abg;have hl:tx.length<=12+N:=hmo.1;refine hGg ?_;refine dP (ixv rfl (SqT.of hvb) rfl ⟨L,_,rfl,.inl (SqL.of hL.2),nN2 _ _ ⟨_,rfl,?_,?_,rfl⟩⟩)
    ·omega
    ·rw[bo];omega
   case r3 =>
   rintro σ3 H3 ⟨k,rfl,k0,k1,rfl⟩;refine ixv rfl (SqT.of hvt) cE ⟨rfl,_,rfl,?_⟩;rw[bP _ (st.mo t).k8]
   by_cases h1:(st.mo t).k=1
   case neg =>
    rw[decide_eq_false h1];exact bX (bX (nN _ _ ⟨k,_,_,_,rfl,k0,k1,by decide +kernel,by decide +kernel,s2⟩))
   rw[decide_eq_true h1];refine hide λGg hGg=>?_
   have hmo:=I.wK ht;obtain⟨e,emo⟩:∃e,st.mo t=.chg e:=by
    cases hmo:st.mo t with
    |chg e=>exact⟨e,rfl⟩
    |_=>rw[hmo]at h1;simp[Mn.k]at h1
   rw[emo]at hvt abh hmo;have ahN:EdB (12+N) e:=hmo;obtain⟨tc,rfl,htc⟩:=abh;refine hGg ?_;refine dP (ixv rfl (SqT.of hvt) rfl ⟨tc,_,_,_,rfl,rfl,htc.sq,nS e,rfl,_,rfl,?_⟩);rw[Fl]
   by_cases hk1:e.k=1
   ·rw[decide_eq_true hk1];exact bX (nN _ _ ⟨k,_,_,_,rfl,k0,k1,by decide +kernel,by decide +kernel,s2⟩)
   ·rw[decide_eq_false hk1];obtain⟨z1,z2⟩:=abf ahN (by omega)
    exact dP (ixv rfl (SqT.of hvt) rfl ⟨tc,_,_,_,rfl,rfl,htc.sq,uP hk1,nN _ _ ⟨k,_,_,_,rfl,k0,k1,z1,z2,s2⟩⟩)
  case r2 =>
  clear s1;rintro σ2 H2 ⟨k,cl,v7,v8,rfl,k0,k1,c1,c2,s2⟩;have X2:=X.same s2;have tup:∀(d:R.fq) (H3:Hp) (t:Addr) (xs:List V),yf d->br H H3->H3 t=none->(rn (cx c H) (upd H3 t (.tup xs)) d t)->Q (.ref t) (upd H3 t (.tup xs)):=λd H3 t xs o s3 ht dz=>q d t _ o dz (s3.new ht)
  have num:∀(kd:Str) (ns:List Int) (H3:Hp) (t:Addr),yf (.nums kd ns)->br H H3->H3 t=none->Q (.ref t) (upd H3 t (.tup (.str kd::ns.map V.int))):=λkd ns H3 t o s3 ht=>tup _ H3 t _ o s3 ht ⟨bO (same_none s3 ht),ae⟩
  refine⟨_,rfl,_,_,rfl,rfl,_,rfl,eU (λ_=>?_) (λg1=>?_)⟩
  ·refine⟨_,rfl,_,_,rfl,rfl,(by show (0:Int) < 5;decide),_,rfl,by omega,by omega,λW hW=>?_⟩
   dsimp only;generalize hm:(x % 5).toNat=mm;have m6:mm<=5:=by omega
   refine JX (lo:=0) (n:=mm) (λi ys H3=>∃cs:List (List Str),ys=(cs.map (sr R.bl1)).map V.str/\cs.length=i/\(∀x∈cs,R.BS 12 x)/\br H2 H3/\H3 W=some (.lst ys))
    ⟨[],rfl,rfl,(λx hx=>nomatch hx),aG hW,ae⟩ (by omega) ?_ ?_ ?_
   ·rintro i ys H3 hi ⟨cs,rfl,hl,hg,s3,h3⟩;exact⟨h3,by rw[bo,bo];exact hl⟩
   ·rintro i ys H3 hi ⟨cs,rfl,hl,hg,s3,h3⟩;refine⟨_,rfl,_,_,rfl,rfl,⟨by decide,by decide⟩,_,rfl,_,_,rfl,rfl,.inl ⟨by decide,by decide⟩,_,_,rfl,rfl,_,rfl,λus H4 hus s4=>?_⟩
    refine ei.mk hi (s4 _ _ h3) ⟨cs++[us],by simp,by simp[hl],λe he=>?_,(s3.trans s4).own hW,ae⟩
    rcases List.mem_append.mp he with he | he
    ·exact hg e he
    ·rw[List.mem_singleton.mp he];exact hus
   ·rintro ys H3 ⟨cs,rfl,hl,hg,s3,h3⟩;refine⟨(sl 2),λt ht=>?_⟩
    have nW:W≠t:=aI h3 ht;refine tup (.mat cs) H3 t _ (.move ⟨by omega,hg⟩) (s2.trans s3) ht ⟨W,⟨bO (same_none (s2.trans s3) ht),ae⟩,bO (same_none s2 hW),(av nW).trans h3⟩
  refine⟨_,rfl,_,_,rfl,rfl,_,rfl,eU (λ_=>?_) (λg2=>?_)⟩
  ·refine⟨_,rfl,_,rfl,_,rfl,_,_,rfl,rfl,⟨by decide,by decide⟩,_,rfl,λus H3 hus s3=>?_⟩
   refine⟨_,k,_,rfl,k0,k1,λkk j e H4 hk j0 j1 s4 ne he=>⟨(sl 2),λt ht=>?_⟩⟩
   have s24:=s2.trans (s3.trans s4);have net:e≠t:=aI he ht;exact tup (.ed false kk j us) H4 t _ (.move ⟨hk,⟨by omega,by omega⟩,hus,λz=>nomatch z⟩) s24 ht ⟨e,⟨bO (same_none s24 ht),ae⟩,bO (same_none (s2.trans s3) ne),.inl ((av net).trans he)⟩
  refine⟨_,rfl,_,_,rfl,rfl,_,rfl,eU (λ_=>?_) (λg3=>?_)⟩
  ·refine⟨_,rfl,_,rfl,cl,rfl,c1,λp hp=>⟨p,_,rfl,.inl (SqL.of ae),_,rfl,_,_,rfl,rfl,⟨by decide,by decide⟩,_,rfl,λu hu=>?_⟩⟩
   have s3:=s2.new (o:=.lst ((R.bf cl).map V.str)) hp;refine⟨_,_,_,rfl,by omega,by rw[bo];omega,λkk j e H4 hk j0 j1 s4 ne he=>⟨(sl 2),λt ht=>?_⟩⟩
   have s24:=s3.trans s4;have net:e≠t:=aI he ht;have ju:sr R.bl1 [u]=u:=by rfl
   refine tup (.ed true kk j [u]) H4 t _ (.move ⟨hk,⟨by omega,by omega⟩,⟨(by show 1<=12;decide),λz hz=>by rw[List.mem_singleton.mp hz];exact hu⟩,λ_=>rfl⟩) s24 ht ⟨e,⟨bO (same_none s24 ht),ae⟩,bO (same_none s3 ne),.inl ((av net).trans ?_)⟩
   rw[ju];exact he
  refine⟨_,rfl,rfl,_,rfl,eU (λ_=>?_) (λg4=>?_)⟩
  ·refine dgv rfl X2.gs ⟨_,rfl,_,_,rfl,rfl,(by show (0:Int) < 4;decide),_,_,rfl,rfl,_,_,rfl,rfl,_,_,rfl,(sl 2),λt ht=>?_⟩
   have hs:=I.sit;have x0:0<=x % 4:=akD _ (by decide)
   have x1:x % 4 < 4:=akn _ (by decide)
   refine num (ar "put off") [if st.aQ+x % 4 - 1 > 1 then st.aQ+x % 4 - 1 else 1] H2 t (.move ⟨by unfold nG;simp,λi hi=>?_⟩) s2 ht
   rw[List.mem_singleton.mp hi,e10];split <;> omega
  refine⟨_,rfl,_,_,rfl,rfl,_,rfl,eU (λg5=>?_) (λg5=>?_)⟩
  ·have y8:8<=y:=by
    have a1:¬y < 7:=λz=>g3 (decide_eq_true z)
    have a2:¬y=7:=λz=>g4 (decide_eq_true (by rw[z]))
    omega
   have y11:y < 11:=of_decide_eq_true g5;refine⟨(sl 1),λt1 h1=>⟨(sl 1),λt2 h2=>⟨(sl 1),λt3 h3=>⟨(sl 3),λp hp=>?_⟩⟩⟩⟩
   have s3:=s2.new (o:=.tup [V.str (ar "close")]) h1;have s4:=s3.new (o:=.tup [V.str (ar "lay")]) h2;have s5:=s4.new (o:=.tup [V.str (ar "rest")]) h3;have s6:=s5.new (o:=.lst [V.ref t1,.ref t2,.ref t3]) hp;have w2:=aG (o:=.tup [V.str (ar "lay")]) h2;have w3:=aG (o:=.tup [V.str (ar "rest")]) h3;have w4:=aG (o:=.lst [V.ref t1,.ref t2,.ref t3]) hp;have pick:y - 8=0\/y - 8=1\/y - 8=2:=by omega
   refine⟨_,rfl,_,_,rfl,rfl,?_⟩;dsimp only;have mk:∀kd,(kd,0)∈nG->yf (.nums kd []):=λkd h=>.move ⟨h,λi hi=>nomatch hi⟩
   rcases pick with e | e | e <;> rw[e]
   ·refine⟨p,_,_,_,rfl,rfl,SqL.of ae,rfl,q (.nums (ar "close") []) t1 _ (mk _ (by unfold nG;simp)) ⟨bO (same_none s2 h1),?_⟩ s6⟩
    exact((w2.trans w3).trans w4) _ _ ae
   ·refine⟨p,_,_,_,rfl,rfl,SqL.of ae,rfl,q (.nums (ar "lay") []) t2 _ (mk _ (by unfold nG;simp)) ⟨bO (same_none s3 h2),?_⟩ s6⟩
    exact(w3.trans w4) _ _ ae
   ·refine⟨p,_,_,_,rfl,rfl,SqL.of ae,rfl,q (.nums (ar "rest") []) t3 _ (mk _ (by unfold nG;simp)) ⟨bO (same_none s4 h3),?_⟩ s6⟩
    exact w4 _ _ ae
  refine⟨_,rfl,rfl,_,rfl,eU (λ_=>?_) (λ_=>?_)⟩
  ·refine⟨_,rfl,_,rfl,λus H3 hus s3=>⟨(sl 2),λt ht=>?_⟩⟩
   exact tup (.pt us) H3 t _ (.move hus) (s2.trans s3) ht ⟨bO (same_none (s2.trans s3) ht),ae⟩
  refine⟨_,rfl,_,_,rfl,rfl,_,rfl,eU (λ_=>?_) (λ_=>?_)⟩
  ·refine⟨_,rfl,_,rfl,_,_,rfl,rfl,(by show (0:Int) < n;omega),_,_,rfl,rfl,(sl 3),λt ht=>?_⟩
   have x0:0<=x % n:=akD _ (by omega)
   have x1:x % n < n:=akn _ (by omega)
   exact num (ar "vote") [1+x % n,0] H2 t (.Ku ⟨by omega,by omega⟩ ⟨by decide,by decide⟩) s2 ht
  refine⟨_,rfl,_,_,rfl,rfl,_,rfl,eU (λ_=>?_) (λ_=>?_)⟩
  ·refine⟨_,rfl,_,rfl,_,_,rfl,n1,n2,λa b t H3 ha hb s3 nt ht=>?_⟩
   exact q (.nums (ar "vote") [a,b]) t H3 (.Ku ha hb) ⟨bO (same_none s2 nt),ht⟩ (s2.trans s3)
  refine⟨_,rfl,rfl,_,rfl,eU (λ_=>?_) (λ_=>?_)⟩
  ·exact⟨(sl 1),λt ht=>num (ar "drop") [] H2 t .drop s2 ht⟩
  have lm:=I.lm;have al:=I.GR;have el:es.length=st.made.length:=by rw[<-X2.ent.len,pY]
  refine dgv rfl X2.ga (λp hp=>?_)
  have s3:=s2.new (o:=.dK []) hp;have X3:=X.same s3;refine⟨aA,p,_,rfl,rfl,X3.aB.2,ae,_,rfl,?_⟩;generalize upd H2 p (.dK [])=H3 at s3 X3 ⊢;have lst:∀(t:Addr),H3 t=none->Q (.ref t) (upd H3 t (.tup [V.str (ar "take"),.int (x / 4 % ((es.length:Int)+3) - 1)])):=λt ht=>by
   have x0:0<=x / 4 % ((es.length:Int)+3):=akD _ (by omega)
   have x1:x / 4 % ((es.length:Int)+3) < (es.length:Int)+3:=akn _ (by omega)
   exact num (ar "take") [x / 4 % ((es.length:Int)+3) - 1] H3 t (.take (by omega) (by omega)) s3 ht
  have wl:=X3.wait.len;have Uh:=Hc st.aB ws wl;have hlen:(a7 ((st.aB.map (·.1)).zip ws)).length=st.aB.length:=by
   have:=congrArg List.length Uh;rw[bo,bo,bo]at this;exact this
  cases ea:(a7 ((st.aB.map (·.1)).zip ws)).isEmpty with
  |true =>
   refine bX (bX ?_);exact⟨_,rfl,_,_,rfl,rfl,⟨by decide,by decide⟩,dgv rfl X3.gm ⟨aM,_,rfl,.inl (SqL.of X3.lG.2),_,_,rfl,rfl,_,_,rfl,rfl,(by show (0:Int) < (es.length:Int)+3;omega),_,_,rfl,rfl,(sl 2),lst⟩⟩
  |false =>
   refine dP ?_;refine⟨_,rfl,_,_,rfl,rfl,(by show (0:Int) < 4;decide),_,_,rfl,rfl,_,rfl,eU (λ_=>?_) (λ_=>?_)⟩
   ·have a1:0 < st.aB.length:=by
     rw[<-hlen];cases h:a7 ((st.aB.map (·.1)).zip ws) with
     |nil=>rw[h]at ea;cases ea
     |cons _ _=>exact Nat.succ_pos _
    refine dgv rfl X3.ga ⟨aA,_,_,rfl,X3.aB.2,Uh,by rw[bo];omega,λl ns pm so hl=>?_⟩
    have nl:ns.length=st.aB.length:=by rw[pm.length_eq,bo]
    have s4:=s3.new (o:=.lst (ns.map V.int)) hl;have X4:=X.same s4;have hB:SqL K (upd H3 l (.lst (ns.map V.int))) l (ns.map V.int):=SqL.of ae;generalize upd H3 l (.lst (ns.map V.int))=H4 at s4 X4 hB ⊢;refine hide λGg hGg=>?_
    have x0:0<=x / 4 % (st.aB.length:Int):=akD _ (by omega)
    have x1:x / 4 % (st.aB.length:Int) < (st.aB.length:Int):=akn _ (by omega)
    obtain⟨j,ej⟩:∃j:Nat,x / 4 % (st.aB.length:Int)=(j:Int):=⟨(x / 4 % (st.aB.length:Int)).toNat,by omega⟩
    have hj:j < ns.length:=by omega
    have Qs:ns[j]∈st.aB.map λx=>(x.1:Int):=pm.mem_iff.mp (List.getElem_mem hj)
    obtain⟨y0,hy0,e0⟩:=List.mem_map.mp Qs;obtain⟨yr,er⟩:=(I.asd y0 hy0).2.1;have hno:=I.pQ hy0 y0.1 (by rw[er];exact fu)
    have e0':((y0.1:Nat):Int)=ns[j]:=e0;have at1:atI (ns.map V.int) (x / 4 % (st.aB.length:Int))=some (.int ns[j]):=by
     rw[ej];exact dF (by rw[aj0,wa hj];rfl)
    refine hGg ?_;refine⟨_,rfl,_,_,rfl,rfl,⟨by decide,by decide⟩,dgv rfl X4.ga ⟨aA,_,rfl,X4.aB.2,_,_,rfl,rfl,(by rw[hlen];show (0:Int) < _;omega),?_⟩⟩
    rw[hlen];refine⟨l,_,_,_,rfl,rfl,hB,at1,(sl 2),λt ht=>?_⟩
    have h1:=hno.1;have h2:=hno.2;exact num (ar "take") [ns[j]] H4 t (.take (by omega) (by omega)) s4 ht
   ·exact⟨_,rfl,_,_,rfl,rfl,⟨by decide,by decide⟩,dgv rfl X3.gm ⟨aM,_,rfl,.inl (SqL.of X3.lG.2),_,_,rfl,rfl,_,_,rfl,rfl,(by show (0:Int) < (es.length:Int)+3;omega),_,_,rfl,rfl,(sl 2),lst⟩⟩
end
end My
set_option maxHeartbeats 1000000
namespace My
open PySem L2
seal PySem.wpAny
theorem fb.free {A:Adr}{i:Nat}{W:Option (Nat×Rl)->Prop}{c c':Col}{H H':Hp}{o:Addr}{st:Ch}(h:∀r,¬W (some (i,r)))(s:Step W c c' H H')(hc:fb A i c H o st):fb A i c' H' o st:=by
 obtain⟨dx,aM,aP,aA,aD,aF,aE,aR,ms,ds,ws,fs,es,X⟩:=hc.ex;exact(X.free h s).at
def dnT:Rs->List V
 | .num n=>[.bl true,nV n]
 | .txt z=>[.bl true,.str z]
 | .exc _=>[.bl false,.non]
def KJ (A:Adr)(i:Nat):Sp:=λvs H Q _=>∃(o t:Addr) (c:Col) (st:Ch) (N:Nat) (d:R.fq),vs=[.ref o,.ref t]/\fb A i c H o st/\Inv N st/\N<=800/\yf d/\rj i c H d t /\
 ∀c' H' u,Step (dv i) c c' H H'->fb A i c' H' o (iO st d).2->c' u=none->H' u=some (.tup (dnT (iO st d).1))->Q (.ref u) H'
def D9:Sp:=λvs H Q _=>∃c:Int,vs=[.int c]/\∀n:Int,1<=n->n<=1000000000->Q (.int n) H
section
variable{P:me}{w:World}{K:ba}{mg:Str->Option Value}{base:Heap}{A:Adr}
theorem KL (T:Txt w.params K mg A):aK P w K mg base CX0 1 A.Ax A.qy ["_law_cell"] D9:=by
 refine T.xR.ok J8 (λvs H Q E h=>?_) (λcdv A' outer s H vs Q E hr h=>?_)
 ·obtain⟨c,rfl,_⟩:=h;rfl
 ·obtain⟨c,rfl,q⟩:=h;refine⟨_,(ai (a5 (ay bu (a6 cy (pv 0) af) af (aN _))
 (aj (aC (a6 d6 af (a6 cy (a6 dg (pv 0) af) af))))
 aH)
 (aj (aC (a6 d6 af (a6 cy (a6 dg (pv 0) af) (a6 Vw af af)))))),?_⟩
  refine⟨_,rfl,_,_,rfl,rfl,(by show (0:Int) < 2;decide),rfl,_,rfl,eU (λ_=>?_) (λ_=>?_)⟩
  ·refine⟨_,rfl,_,_,rfl,rfl,⟨by decide,by decide⟩,_,_,rfl,rfl,(by show (0:Int) < 9;decide),_,_,rfl,rfl,q _ ?_ ?_⟩ <;> omega
  ·have e:(10:Int) ^ (9:Int).toNat=1000000000:=by decide
   refine⟨_,rfl,_,_,rfl,rfl,⟨by decide,by decide⟩,_,_,rfl,rfl,⟨by decide,by decide,by decide⟩,_,_,rfl,rfl,(by rw[e];show (0:Int) < 1000000000;decide),_,_,rfl,rfl,q _ ?_ ?_⟩ <;> rw[e] <;> omega
theorem Xc.mat (T:Txt w.params K mg A){H:Hp}{C:Value}{d:Option Addr}:∀ {x:Xc},x.At A H C d->ajP K C (.ref A.bH)=some true
 | .uV _,⟨e,_⟩=>by rw[e];exact T.jql
 | .pL _,⟨e,_⟩=>by rw[e];exact T.jqf
 | .Fh _,⟨e,_⟩=>by rw[e];exact T.jqm
 | .mF,⟨e,_⟩=>by rw[e];exact T.jqc
 | .noChange,⟨e,_⟩=>by rw[e];exact T.jqd
 | .noFit,⟨e,_⟩=>by rw[e];exact T.jqo
 | .nothing,⟨e,_⟩=>by rw[e];exact T.jqg
 | .tooMany,⟨e,_⟩=>by rw[e];exact T.jqh
 | .uk,⟨e,_⟩=>by rw[e];exact T.jqi
 | .B0,⟨e,_⟩=>by rw[e];exact T.jqe
theorem KN (T:Txt w.params K mg A){i:Nat}:aK P w K mg base (CXX P w) 8 A.Bi A.pw ["_law_chamber","_law_deed_here"] (KJ A i):=by
 have Co:aK P w K mg base (CXX P w) 6 A.cg A.ie ["self","ayes","noes"] (Qn A i):=Sz T;have Cp:aK P w K mg base (CXX P w) 6 A.cj A.ig ["self"] (Qo A i):=SD T;have Cq:aK P w K mg base (CXX P w) 6 A.ck A.ij ["self","number"] (Qp A i):=SE T;have Cr:aK P w K mg base (CXX P w) 7 A.cf A.ic ["self","told"] (Qr A i):=SH T;refine T.Bw.okX xI (λvs H Q E h=>?_) (λcdv A' outer s H vs Q E hr h=>?_)
 ·obtain⟨o,t,c,st,N,d,rfl,_⟩:=h;rfl
 ·obtain⟨o,t,c,st,N,d,rfl,hc,I,hN,hd,hdc,q⟩:=h;obtain⟨dx,aM,aP,aA,aD,aF,aE,aR,ms,ds,ws,fs,es,X⟩:=hc.ex;have zh:Room 6 _:=hr.mono (by decide)
  have zi:Room 6 _:=hr.mono (by decide)
  have zj:Room 6 _:=hr.mono (by decide)
  have zk:Room 7 _:=hr;refine⟨_,(a9 (psx (a8 (i:=2) xI.nd rfl (adm rfl) qj))
 (a9 (RX ⟨rfl,rfl⟩ (a9 (gU (ay bu (aJ aL (pv 1) af (λ_ _=>rfl)) ao (aN _))
 (bD (Am (Ao (kh (px gb) (kh (vL (px (pv 0)) T.aq T.sI Co zh T.i3 (pax (aa (aJ aL (pv 1) af (λ_ _=>rfl)) (aa (aJ aL (pv 1) af (λ_ _=>rfl)) ah)))) Al)))))
 (vJ aH))
 (a9 (gU (ay bu (aJ aL (pv 1) af (λ_ _=>rfl)) ao (aN _))
 (bD (Am (Ao (kh (px gb) (kh (xy (px (pv 0)) T.aq T.sJ Cp zi T.i4) Al)))))
 (vJ aH))
 (a9 (gU (ay bu (aJ aL (pv 1) af (λ_ _=>rfl)) ao (aN _))
 (bD (Am (Ao (kh (px gb) (kh (vL (px (pv 0)) T.aq T.sL Cq zj T.i5 (pax (aa (aJ aL (pv 1) af (λ_ _=>rfl)) ah))) Al)))))
 (vJ aH))
 (bD (Am (Ao (kh (px gb) (kh (vL (px (pv 0)) T.aq T.sH Cr zk T.iZ (pax (aa (pv 1) ah))) Al))))))))
 (O4 rfl T.gu (λ_=>(aj (a8 (i:=2) xI.nd rfl (adm rfl) (bt (aa gb (aa qj ah)))))) (RW ⟨rfl,rfl⟩)))
 (bD (psx (aC (pv 2)))))),?_⟩
  have fin:∀(c1:Col) (H1:Hp) (p:Addr),Step (dv i) c c1 H H1->fb A i c1 H1 o (iO st d).2->H1 p=none->Q (.ref p) (upd H1 p (.tup (dnT (iO st d).1))):=λc1 H1 p s1 hc1 hp =>
   q (az c1 p none) _ p (s1.trans (Step.new aU hp)) (hc1.free (W:=λ_=>False) (λ_=>id) (Step.new id hp)) aW ae
  clear q;cases hd with
  | @Ku a b ha hb =>
   rw[mI]at fin;have ht:SqT K H t [.str (ar "vote"),.int a,.int b]:=SqT.of hdc.2;refine ixv rfl ht rfl ⟨rfl,tst (by decide +kernel) ?_⟩
   refine mtv rfl X.ob (cZ (by decide +kernel)) (ixv rfl ht rfl (ixv rfl ht rfl ⟨o,a,b,c,st,N,rfl,hc,I,hN,ha,hb,?_⟩))
   generalize nF st a b=rs at fin ⊢;obtain⟨r,st'⟩:=rs;cases r with
   |num n=>exactλc1 H1 s1 hc1=>⟨(sl 2),λp hp=>fin c1 H1 p s1 hc1 hp⟩
   |txt z=>exactλc1 H1 s1 hc1=>⟨(sl 2),λp hp=>fin c1 H1 p s1 hc1 hp⟩
   |exc x=>exactλc1 H1 C e s1 hc1 hat he=>⟨true,Xc.mat T hat,dP ⟨(sl 2),λp hp=>⟨_,rfl,fin c1 H1 p s1 hc1 hp⟩⟩⟩
  |drop =>
   rw[mJ]at fin;have ht:SqT K H t [.str (ar "drop")]:=SqT.of hdc.2;refine ixv rfl ht rfl ⟨rfl,tsf (by decide +kernel) (ixv rfl ht rfl ⟨rfl,tst (by decide +kernel) ?_⟩)⟩
   refine mtv rfl X.ob (cZ (by decide +kernel)) ⟨o,c,st,N,rfl,hc,I,hN,?_⟩
   generalize pR st=rs at fin ⊢;obtain⟨r,st'⟩:=rs;cases r with
   |num n=>exactλc1 H1 s1 hc1=>⟨(sl 2),λp hp=>fin c1 H1 p s1 hc1 hp⟩
   |txt z=>exactλc1 H1 s1 hc1=>⟨(sl 2),λp hp=>fin c1 H1 p s1 hc1 hp⟩
   |exc x=>exactλc1 H1 C e s1 hc1 hat he=>⟨true,Xc.mat T hat,dP ⟨(sl 2),λp hp=>⟨_,rfl,fin c1 H1 p s1 hc1 hp⟩⟩⟩
  | @take z h0 h1 =>
   rw[mK]at fin;have ht:SqT K H t [.str (ar "take"),.int z]:=SqT.of hdc.2;refine ixv rfl ht rfl ⟨rfl,tsf (by decide +kernel) (ixv rfl ht rfl ⟨rfl,tsf (by decide +kernel) (ixv rfl ht rfl ⟨rfl,tst (by decide +kernel) ?_⟩)⟩)⟩
   refine mtv rfl X.ob (cZ (by decide +kernel)) (ixv rfl ht rfl ⟨o,z,c,st,N,rfl,hc,I,hN,h0,h1,?_⟩)
   generalize stepT st z.toNat=rs at fin ⊢;obtain⟨r,st'⟩:=rs;cases r with
   |num n=>exactλc1 H1 s1 hc1=>⟨(sl 2),λp hp=>fin c1 H1 p s1 hc1 hp⟩
   |txt z=>exactλc1 H1 s1 hc1=>⟨(sl 2),λp hp=>fin c1 H1 p s1 hc1 hp⟩
   |exc x=>exactλc1 H1 C e s1 hc1 hat he=>⟨true,Xc.mat T hat,dP ⟨(sl 2),λp hp=>⟨_,rfl,fin c1 H1 p s1 hc1 hp⟩⟩⟩
  |move hm =>
   refine hide λGg hGg=>?_
   rw[mL hm]at fin;obtain⟨v,ht,_,_⟩:=wO hm hdc;have k8:=(d3 d).k8;refine hGg ?_;refine ixv rfl (SqT.of ht.2) cE ⟨rfl,tsf (QH _ k8) (ixv rfl (SqT.of ht.2) cE ⟨rfl,tsf (QI _ k8) (ixv rfl (SqT.of ht.2) cE ⟨rfl,tsf (QJ _ k8) ?_⟩)⟩)⟩;refine mtv rfl X.ob (cZ (by decide +kernel)) ⟨_,rfl,o,t,c,st,N,d,rfl,hc,I,hN,hm,hdc,?_⟩
   generalize pS st (d3 d) (R.rF d)=rs at fin ⊢;obtain⟨r,st'⟩:=rs;cases r with
   |num n=>exactλc1 H1 s1 hc1=>⟨(sl 2),λp hp=>fin c1 H1 p s1 hc1 hp⟩
   |txt z=>exactλc1 H1 s1 hc1=>⟨(sl 2),λp hp=>fin c1 H1 p s1 hc1 hp⟩
   |exc x=>exactλc1 H1 C e s1 hc1 hat he=>⟨true,Xc.mat T hat,dP ⟨(sl 2),λp hp=>⟨_,rfl,fin c1 H1 p s1 hc1 hp⟩⟩⟩
theorem NH (T:Txt w.params K mg A){i:Nat}:aK P w K mg base CX0 8 A.Bi A.pw ["_law_chamber","_law_deed_here"] (KJ A i) :=
 (KN T).calm λ_ _ _ _ h=>h
end
end My
set_option maxHeartbeats 1000000
namespace My
open PySem L2
seal PySem.wpAny
mutual
theorem DV.same {K:ba}{H H':Hp}(s:br H H'):∀(d:PyData) {x:V},DV K H d x->DV K H' d x
 | .none,_,h=>by unfold DV at h ⊢;exact h
 | .bool _,_,h=>by unfold DV at h ⊢;exact h
 | .int _,_,h=>by unfold DV at h ⊢;exact h
 | .str _,_,h=>by unfold DV at h ⊢;exact h
 | .list ds,_,h=>by
  unfold DV at h ⊢;obtain⟨a,xs,e,h1,h2⟩:=h;exact⟨a,xs,e,s.seq h1,DVs.same s ds h2⟩
 | .tuple ds,_,h=>by
  unfold DV at h ⊢;obtain⟨a,xs,e,h1,h2⟩:=h;exact⟨a,xs,e,bw s h1,DVs.same s ds h2⟩
 | .dict _,_,h=>by unfold DV at h;exact h.elim
theorem DVs.same {K:ba}{H H':Hp}(s:br H H'):∀(ds:List PyData) {xs:List V},DVs K H ds xs->DVs K H' ds xs
 |[],_,h=>by unfold DVs at h ⊢;exact h
 |d::ds,_,h=>by
  unfold DVs at h ⊢;obtain⟨x,r,e,h1,h2⟩:=h;exact⟨x,r,e,DV.same s d h1,DVs.same s ds h2⟩
end
def AsC (c:Col)(H:Hp)(x:Nat×Int×List Nat)(v:V):Prop:=∃u l,v=.ref u/\(c u=none/\H u=some (.tup [nV x.1,.int x.2.1,.ref l]))/\c l=none/\H l=some (.lst (x.2.2.map nV))
def DcC (c:Col)(H:Hp)(x:Nat×Str)(v:V):Prop:=∃t,v=.ref t/\TupAt c H t [nV x.1,.str x.2]
structure StX (c:Col)(H:Hp)(st:Ch)(ns:List Int)(u l1 R l2:Addr)(ys ds:List V):Prop where
 cu:c u=none
 hu:H u=some (.tup [.int st.aQ,.bl st.closed,.ref l1,.ref R,.ref l2])
 c1:c l1=none
 h1:H l1=some (.lst (st.au.map nV))
 cR:c R=none
 hR:H R=some (.lst ys)
 asd:bI (AsC c H) (ns.map (FD st)) ys
 c2:c l2=none
 h2:H l2=some (.lst ds)
 dec:bI (DcC c H) st.decided ds
def SR (c:Col)(H:Hp)(st:Ch)(ns:List Int)(u:Addr):Prop:=∃l1 R l2 ys ds,StX c H st ns u l1 R l2 ys ds
theorem AsC.step {W:Option (Nat×Rl)->Prop}{c c':Col}{H H':Hp}{x:Nat×Int×List Nat}{v:V}(s:Step W c c' H H'):AsC c H x v->AsC c' H' x v
 |⟨u,l,e,⟨h1,h2⟩,h3,h4⟩=>⟨u,l,e,fZ s h1 h2,fZ s h3 h4⟩
theorem DcC.step {W:Option (Nat×Rl)->Prop}{c c':Col}{H H':Hp}{x:Nat×Str}{v:V}(s:Step W c c' H H'):DcC c H x v->DcC c' H' x v
 |⟨t,e,h⟩=>⟨t,e,h.step s⟩
theorem StX.step {W:Option (Nat×Rl)->Prop}{c c':Col}{H H':Hp}{st:Ch}{ns:List Int}{u l1 R l2:Addr}{ys ds:List V}(s:Step W c c' H H')(h:StX c H st ns u l1 R l2 ys ds):StX c' H' st ns u l1 R l2 ys ds :=
 ⟨(fZ s h.cu h.hu).1,(fZ s h.cu h.hu).2,(fZ s h.c1 h.h1).1,(fZ s h.c1 h.h1).2,(fZ s h.cR h.hR).1,(fZ s h.cR h.hR).2,h.asd.imp λ_ _ z=>z.step s,(fZ s h.c2 h.h2).1,(fZ s h.c2 h.h2).2,h.dec.imp λ_ _ z=>z.step s⟩
theorem SR.step {W:Option (Nat×Rl)->Prop}{c c':Col}{H H':Hp}{st:Ch}{ns:List Int}{u:Addr}(s:Step W c c' H H'):SR c H st ns u->SR c' H' st ns u
 |⟨l1,R,l2,ys,ds,h⟩=>⟨l1,R,l2,ys,ds,h.step s⟩
def Hf (A:Adr)(i:Nat):Sp:=λvs H Q _=>∃(o:Addr) (c:Col) (st:Ch),vs=[.ref o]/\fb A i c H o st/\st.aB.length < 64 /\
 ∀(ns:List Int) (u:Addr) (H':Hp),ak3 ns (st.aB.map λx=>(x.1:Int))->ns.Pairwise (·<=·)->br H H'->SR (cx c H) H' st ns u->Q (.ref u) H'
def AsN (H0 H:Hp)(R:Addr)(x:Nat×Int×List Nat)(v:V):Prop:=∃u l,v=.ref u/\(u≠R/\l≠R)/\(H0 u=none/\H0 l=none)/\H u=some (.tup [nV x.1,.int x.2.1,.ref l])/\H l=some (.lst (x.2.2.map nV))
theorem AsN.same {H0 H H':Hp}{R:Addr}{x:Nat×Int×List Nat}{v:V}(s:br H H'):AsN H0 H R x v->AsN H0 H' R x v
 |⟨u,l,e,h1,h2,h3,h4⟩=>⟨u,l,e,h1,h2,s _ _ h3,s _ _ h4⟩
theorem AsN.upd {H0 H:Hp}{R:Addr}{o:HO}{x:Nat×Int×List Nat}{v:V}:AsN H0 H R x v->AsN H0 (L2.upd H R o) R x v
 |⟨u,l,e,h1,h2,h3,h4⟩=>⟨u,l,e,h1,h2,(av h1.1).trans h3,(av h1.2).trans h4⟩
section
variable{P:me}{w:World}{K:ba}{mg:Str->Option Value}{base:Heap}{A:Adr}
theorem NI (T:Txt w.params K mg A){i:Nat}:aK P w K mg base CX0 2 A.bW A.gQ ["self"] (Hf A i):=by
 have tw:aK P w K mg base CX0 1 A.bx A.dG ["self","number"] (aa9 A i):=CW T;refine T.fm.ok xF (λvs H Q E h=>?_) (λcdv A' outer s H vs Q E hr h=>?_)
 ·obtain⟨o,c,st,rfl,_⟩:=h;rfl
 ·obtain⟨o,c,st,rfl,hc,hal,q⟩:=h;obtain⟨dx,aM,aP,aA,aD,aF,aE,aR,ms,ds,ws,fs,es,X⟩:=hc.ex;have rJ:Room 1 _:=hr;have lim:ka=16777216:=by decide
  refine⟨_,(ai (JW (i:=1) (scope:=kY) uH rfl rfl (adm rfl) (ll (cI (vN hr.hd) (by rfl) T.Bz Dr (aa (bj (pv 0) rfl) ah))) (λ_ _ _ _ _=>(hX (pv 1) T.aq T.kF tw rJ T.dY .nil aY (aa (pv 0) ah))))
 (aj (aC (bt (aa (bj (pv 0) rfl) (aa (bj (pv 0) rfl) (aa (eh eT (by rfl) T.sG qm (aa (bj (pv 0) rfl) ah)) (aa (pv 1) (aa (eh eT (by rfl) T.sG qm (aa (bj (pv 0) rfl) ah)) ah))))))))),?_⟩
  refine eQ rfl X.ob T.aq T.jq3 jI ⟨aA,_,_,rfl,X.aB.2,Hc st.aB ws X.wait.len,by rw[bo];exact hal,λl0 ns pm so hl0=>?_⟩
  have nl:ns.length=st.aB.length:=by rw[pm.length_eq,bo]
  have s0:=aG (o:=.lst (ns.map V.int)) hl0;have hB:SqL K (upd H l0 (.lst (ns.map V.int))) l0 (ns.map V.int):=SqL.of ae;generalize upd H l0 (.lst (ns.map V.int))=H1 at s0 hB ⊢;refine⟨l0,rfl,⟨_,hB⟩,λR hR=>?_⟩
  have hR0:=same_none s0 hR;refine tW (K:=K) (a:=l0) (xs:=ns.map V.int) (λj ys H2=>br H1 H2/\H2 R=some (.lst ys)/\bI (AsN H H2 R) ((ns.take j).map (FD st)) ys) ⟨aG hR,ae,.nil⟩ (by rw[bo];omega) ?_ ?_ ?_
  ·rintro j ys H2 hj ⟨s2,hR2,ha⟩;refine⟨s2.seq hB,hR2,?_⟩;rw[<-ha.len,bo,akd];rw[bo]at hj;omega
  ·rintro j y ys H2 hy ⟨s2,hR2,ha⟩;refine hide λGg hGg=>?_
   obtain⟨n,hn1,rfl⟩:∃n,ns[j]?=some n/\V.int n=y:=by
    rw[aj0]at hy;cases ht:ns[j]? with
    |none=>rw[ht]at hy;cases hy
    |some t=>rw[ht]at hy;exact⟨t,rfl,ajJ hy⟩
   have Qs:n∈st.aB.map λx=>(x.1:Int):=pm.mem_iff.mp (ajQ hn1)
   obtain⟨x0,hx0,e0⟩:=List.mem_map.mp Qs;obtain⟨x,hx⟩:∃x,at1 x0.1 st.aB=some x:=by
    cases z:at1 x0.1 st.aB with
    |some x=>exact⟨x,rfl⟩
    |none=>exact absurd (List.mem_map_of_mem hx0) (wH z)
   have e0':((x0.1:Nat):Int)=n:=e0;subst e0';have s02:=s0.trans s2;have X2:=X.same s02;have ea:FD st ((x0.1:Nat):Int)=x:=by unfold FD;rw[Int.toNat_natCast,hx];rfl
   refine hGg ?_;refine mtv rfl X2.ob (cZ (by decide +kernel)) ⟨_,rfl,o,x0.1,c,st,x,rfl,X2.at,hx,λl u H3 hl hu s3 h1 h2=>?_⟩
   have hR3:=s3 _ _ hR2;refine ei.mk (List.getElem?_eq_some_iff.mp hy).1 hR3 ⟨(s2.trans s3).own hR,ae,?_⟩;rw[akX,hn1,kr];refine bI.snoc (ha.imp λ_ _ z=>(z.same s3).upd) ?_
   rw[ea];refine AsN.upd ⟨u,l,rfl,⟨(λz=>by rw[z,hR2]at hu;cases hu),(λz=>by rw[z,hR2]at hl;cases hl)⟩,⟨same_none s02 hu,same_none s02 hl⟩,?_,h1⟩
   rw[(jd hx).1];exact h2
  ·rintro ys H2 ⟨s2,hR2,ha⟩;rw[bo,akY]at ha;have s02:=s0.trans s2;have X2:=X.same s02;refine eQ rfl X2.ob T.aq T.jq1 iN (eQ rfl X2.ob T.aq T.jq4 qL (eQ rfl X2.ob T.aq T.jq0 eN ⟨aP,_,rfl,.inl (SqL.of X2.au.2),λl1 hl1=>?_⟩))
   have s3:=aG (o:=.lst (st.au.map nV)) hl1;have X3:=X2.same s3;have s03:=s02.trans s3;refine⟨_,rfl,eQ rfl X3.ob T.aq T.jqj yN ⟨aD,_,rfl,.inl (SqL.of X3.dec.2),λl2 hl2=>⟨(sl 5),λu hu=>?_⟩⟩⟩
   have s4:=aG (o:=.lst (ds.map V.ref)) hl2;have s5:=aG (o:=.tup [V.int st.aQ,.bl st.closed,.ref l1,.ref R,.ref l2]) hu;have s45:=s4.trans s5;have s05:=s03.trans s45;have X5:=X3.same s45;refine q ns u _ pm so s05 ⟨l1,R,l2,ys,ds.map V.ref,bO (same_none (s03.trans s4) hu),ae,bO (same_none s02 hl1),s45 _ _ ae,bO hR0,(s3.trans s45) _ _ hR2,?_,bO (same_none s03 hl2),s5 _ _ ae,?_⟩
   ·refine ha.imp λx v z=>?_
    refine hide λGg hGg=>?_
    obtain⟨u',l',e,_,⟨z1,z2⟩,z3,z4⟩:=z.same (s3.trans s45);refine hGg ?_;exact⟨u',l',e,⟨bO z1,z3⟩,bO z2,z4⟩
   ·refine bI.mapR (X5.mD.imp λx t h=>⟨t,rfl,?_,h.2⟩)
    unfold cx;split
    ·exact h.1
    ·rfl
end
end My
set_option maxHeartbeats 1000000
namespace My
open PySem L2
seal PySem.wpAny
theorem QN {as:List (Nat×Int×List Nat)}(nd:(as.map (·.1)).Nodup){x:Nat×Int×List Nat}(hx:x∈as):at1 x.1 as=some x:=by
 induction as with
 |nil=>cases hx
 |cons y as ih =>
  unfold at1;rw[kj,List.nodup_cons]at nd;rw[aka];rcases List.mem_cons.mp hx with e | hx
  ·rw[e,decide_eq_true rfl]
  ·rw[decide_eq_false (λz=>nd.1 (by rw[z];exact List.mem_map_of_mem hx))]
   exact ih nd.2 hx
theorem Hg {N:Nat}{st:Ch}(I:Inv N st){ns:List Int}(pm:ak3 ns (st.aB.map λx=>(x.1:Int))):ak3 (ns.map (FD st)) st.aB:=by
 have h:=pm.map (FD st);have e:(st.aB.map λx=>(x.1:Int)).map (FD st)=st.aB:=by
  rw[List.map_map];refine(akp λx hx=>?_).trans (List.map_id _)
  show (at1 ((x.1:Int)).toNat st.aB).getD _=x;rw[Int.toNat_natCast,QN I.Qm hx];rfl
 rw[e]at h;exact h
theorem bI.SS {α β:Type}{R:α->β->Prop}:∀ {as:List α} {bs:List β} {i:Nat} {b:β},bI R as bs->bs[i]?=some b->∃a,as[i]?=some a/\R a b
 |_,_,_,_,.nil,h=>by simp at h
 |_,_,0,_,.cons h t,e=>by
  rw[ajX]at e;cases e;exact⟨_,ajX,h⟩
 |_,_,i+1,_,.cons h t,e=>by
  rw[aj2]at e;obtain⟨a,e1,e2⟩:=t.SS e;exact⟨a,by rw[aj2];exact e1,e2⟩
def TV (K:ba)(H:Hp):Mn->V->Prop
 | .mat tx,v=>∃p xs,v=.ref p/\SqL K H p xs/\xs.length=tx.length
 | .chg e,v=>∃t,v=.ref t/\SqT K H t (eK e)
 | .mnd e,v=>∃t,v=.ref t/\SqT K H t (eK e)
 |_,_=>True
theorem TV.same {K:ba}{H H':Hp}(s:br H H'):∀ {m:Mn} {v:V},TV K H m v->TV K H' m v
 | .mat _,_,⟨p,xs,e,h,l⟩=>⟨p,xs,e,s.seq h,l⟩
 | .chg _,_,⟨t,e,h⟩=>⟨t,e,bw s h⟩
 | .mnd _,_,⟨t,e,h⟩=>⟨t,e,bw s h⟩
 | .off _,_,_=>trivial
 | .cls,_,_=>trivial
 | .lay,_,_=>trivial
 | .rst,_,_=>trivial
 | .pnt _,_,_=>trivial
def Told (K:ba)(H:Hp)(m:Mn)(u:Addr):Prop:=∃v,SqT K H u (rowOf m.k v)/\TV K H m v
theorem Told.same {K:ba}{H H':Hp}(s:br H H'){m:Mn}{u:Addr}:Told K H m u->Told K H' m u
 |⟨v,h1,h2⟩=>⟨v,bw s h1,h2.same s⟩
theorem MQ {K:ba}{c:Col}{H:Hp}{u:Addr}:∀ {m:Mn},MnT c H m u->Told K H m u
 | .mat tx,⟨_,v,h,p,e,hp⟩=>⟨v,SqT.of h,p,tx.map V.str,e,SqL.of hp.2,bo _⟩
 | .chg _,⟨_,v,h,t,e,ht⟩=>⟨v,SqT.of h,t,e,ht.sq⟩
 | .mnd _,⟨_,v,h,t,e,ht⟩=>⟨v,SqT.of h,t,e,ht.sq⟩
 | .off _,⟨_,v,h,_⟩=>⟨v,SqT.of h,trivial⟩
 | .cls,⟨_,v,h,_⟩=>⟨v,SqT.of h,trivial⟩
 | .lay,⟨_,v,h,_⟩=>⟨v,SqT.of h,trivial⟩
 | .rst,⟨_,v,h,_⟩=>⟨v,SqT.of h,trivial⟩
 | .pnt _,⟨_,v,h,_⟩=>⟨v,SqT.of h,trivial⟩
def Ea (A:Adr)(i:Nat):Sp:=λvs H Q _=>∃(o:Addr) (n:Nat) (c:Col) (st:Ch),vs=[.ref o,nV n]/\fb A i c H o st/\cX st n/\∀u H',br H H'->MnT (cx c H) H' (st.mo n) u->Q (.ref u) H'
section
variable{P:me}{w:World}{K:ba}{mg:Str->Option Value}{base:Heap}{A:Adr}
theorem KO (T:Txt w.params K mg A){i:Nat}:aK P w K mg base (CXX P w) 3 A.bN A.fY ["self","number"] (Ea A i):=by
 have Kl:∀k,k < 8->aK P w K mg base CX0 2 (A.ft k) (A.ftd k) ["self"] (Fi A K k):=GN T;refine T.eF.okX vO (λvs H Q E h=>?_) (λcdv A' outer s H vs Q E hr h=>?_)
 ·obtain⟨o,n,c,st,rfl,_⟩:=h;rfl
 ·obtain⟨o,n,c,st,rfl,hc,hn,q⟩:=h;obtain⟨dx,aM,aP,aA,aD,aF,aE,aR,ms,ds,ws,fs,es,X⟩:=hc.ex;have hu1:=hr.u1;have hgd:=hr.gd;have Fm:Room 2 _:=hr;refine⟨_,(a9 (gU (JC (xC hu1 (pv 1) (bj (pv 0) rfl)))
 (bD (jt T.yM rfl rfl T.BG (aa (Dm (l5 (xB (pv 1) xA))) ah)))
 (vJ aH))
 (bD (psx (aC (lJ (n:=8) (Cf:=A.C) (bc hu1 (bj (pv 0) rfl) (pv 1) (λ_ _=>rfl)) T.cl T.Ke Kl Fm T.Kf aY))))),?_⟩
  refine⟨_,rfl,eQ rfl X.ob T.aq T.jq2 hG ⟨aM,_,rfl,.inl ⟨_,km (n:Int),.inl X.made.2,rfl,rfl⟩,_,rfl,?_⟩⟩;refine hide λGg hGg=>?_
  obtain⟨mo,hv,hmo⟩:=X.Sw hn;refine hGg ?_;rw[hv];refine bX ?_;refine hide λGg hGg=>?_
  obtain⟨_,dm,v,hm,hvv⟩:=hmo;refine hGg ?_;refine⟨_,rfl,o,A.ax,dx,_,.ref aM,rfl,X.ob,T.aq,T.jq2,hG,_,rfl,aM,_,rfl,.inl ⟨_,km (n:Int),.inl X.made.2,rfl,hv.symm⟩,(st.mo n).k,(st.mo n).k8,mo,dm,_,rfl,hm,Ml _ v,?_⟩;generalize st.mo n=m at hm hvv q
  by_cases h0:m.k=0
  ·obtain⟨tx,rfl⟩:∃tx,m=.mat tx:=by cases m <;> first | exact⟨_,rfl⟩ | exact absurd h0 (by simp[Mn.k])
   refine hide λGg hGg=>?_
   obtain⟨p,rfl,hp⟩:=hvv;refine hGg ?_;refine .inl ⟨rfl,mo,dm,p,tx.map V.str,rfl,hm,SqL.of hp.2,λp2 u hp2 hu npu=>?_⟩
   have nu:(upd H p2 (.lst (tx.map V.str))) u=none:=(av (ajZ npu)).trans hu;exact q u _ ((aG hp2).new nu) ⟨bO hu,.ref p2,ae,p2,rfl,bO hp2,(av npu).trans ae⟩
  ·refine .inr ⟨by omega,mo,dm,v,rfl,hm,λu hu=>?_⟩
   have su:=aG (o:=.tup (rowOf m.k v)) hu;exact q u _ su ⟨bO hu,v,ae,hvv.step (Step.cl (W:=λ_=>False) id su)⟩
end
theorem PMs.at_ {ms:List Mn}(h:PMs ms):∀ {j:Nat} {m:Mn},ms[j]?=some m->rm (ms.take j) m:=by
 induction h with
 |nil=>intro j m e;simp at e
 | @snoc ms m h1 h2 ih =>
  intro j x e;rcases Nat.lt_or_ge j ms.length with hj | hj
  ·rw[akP hj]at e;rw[List.take_append_of_le_length (Nat.le_of_lt hj)];exact ih e
  ·rw[akA hj]at e;have e0:j - ms.length=0:=by
    rcases Nat.eq_zero_or_pos (j - ms.length) with z | z
    ·exact z
    ·obtain⟨k,hk⟩:∃k,j - ms.length=k+1:=⟨j - ms.length - 1,by omega⟩
     rw[hk]at e;simp at e
   rw[e0]at e;cases e;have ej:j=ms.length:=by omega
   rw[ej,List.take_left];exact h2
theorem QO:∀k:Nat,k=0\/k=2->decide (V.str (kn k)=V.str (ar "cut"))=false:=by
 rintro k (rfl | rfl) <;> decide +kernel
def Hh (K:ba):Sp:=λvs H Q _=>∃(b:V) (u:Addr) (below:List Mn) (m:Mn) (N:Nat),vs=[b,.ref u]/\Told K H m u/\rm below m/\MOk N m/\(∀x∈below,MOk N x)/\N<=800 /\
 ((below=[]/\b=.non)\/∃pre x t,below=pre++[x]/\b=.ref t/\Told K H x t)/\∀H',br H H'->Q (.bl true) H'
def QP (K:ba):Sp:=λvs H Q _=>∃(L:Addr) (us:List Addr) (ms:List Mn) (N:Nat),vs=[.ref L]/\SqL K H L (us.map V.ref)/\bI (Told K H) ms us/\PMs ms/\(∀m∈ms,MOk N m)/\N<=800/\∀H',br H H'->Q (.bl true) H'
section
variable{P:me}{w:World}{K:ba}{mg:Str->Option Value}{base:Heap}{A:Adr}
theorem Hi (T:Txt w.params K mg A):aK P w K mg base CX0 2 A.wb A.nj ["_law_below","_law_one"] (Hh K):=by
 have tj:aK P w K mg base CX0 1 A.Bh A.pq ["_law_things","_law_edit_here"] (BK K):=D5 T;have jN:aK P w K mg base CX0 1 A.qt A.ir ["_law_clause_here"] R.eL:=qP T;refine T.uN.ok Gm (λvs H Q E h=>?_) (λcdv A' outer s H vs Q E hr h=>?_)
 ·obtain⟨b,u,below,m,N,rfl,_⟩:=h;rfl
 ·obtain⟨b,u,below,m,N,rfl,⟨v,ht,hv⟩,top,mok,bok,hN,hb,q⟩:=h;have pX:Room 1 _:=hr;have iz:Room 1 _:=hr;have k8:=m.k8;have sz:ka=16777216:=by decide
  refine⟨_,(ai (a5 (ay bu (aJ aL (pv 1) af (λ_ _=>rfl)) ao (aN _))
 (aj (aC (Ek (jX En (pv 0) qj (aN _)) (Ek (jX bu (aJ aL (pv 0) af (λ_ _=>rfl)) ao (aN _)) (Ej (aV tj pX rfl T.sD T.pD.kp T.sC .nil aY (aa (aJ aL (pv 0) af (λ_ _=>rfl)) (aa (aJ aL (pv 1) af (λ_ _=>rfl)) ah))))))))
 aH)
 (ai (a5 (ay bu (aJ aL (pv 1) af (λ_ _=>rfl)) ao (aN _))
 (ai (a5 (PW.pt (pw_or (ay Vx (pv 0) qj (aN _)) (pw_or (ay vv (aJ aL (pv 0) af (λ_ _=>rfl)) ao (aN _)) (pw_or1 (ay bu (aJ aL (aJ aL (pv 0) af (λ_ _=>rfl)) af (λ_ _=>rfl)) ao (aN _))))))
 (aj (aC gb))
 aH)
 (aj (aC (aV tj pX rfl T.sD T.pD.kp T.sC .nil aY (aa (aV jN iz rfl T.pF T.lV.kp T.pE .nil aY (aa (aJ aL (aJ aL (pv 0) af (λ_ _=>rfl)) af (λ_ _=>rfl)) ah)) (aa (aJ aL (pv 1) af (λ_ _=>rfl)) ah))))))
 aH)
 (aj (aC gb)))),?_⟩
  by_cases h1:m.k=1
  ·obtain⟨e,rfl⟩:∃e,m=.chg e:=by cases m <;> first | exact⟨_,rfl⟩ | exact absurd h1 (by simp[Mn.k])
   refine hide λGg hGg=>?_
   obtain⟨tx,eb,hf⟩:=top;obtain⟨t,rfl,hx⟩:∃t,b=.ref t/\Told K H (.mat tx) t:=by
    rcases hb with ⟨z,_⟩ | ⟨pre,x,t,z,zb,hx⟩
    ·rw[eb]at z;cases z
    ·rw[eb]at z;obtain⟨z1,z2⟩:=List.append_inj' (show []++[Mn.mat tx]=pre++[x] from z) rfl
     cases z2;exact⟨t,zb,hx⟩
   obtain⟨v0,hx0,p,xs,rfl,hp,hxl⟩:=hx;obtain⟨te,rfl,hte⟩:=hv;refine hGg ?_;refine ixv rfl ht rfl ⟨rfl,tst (bP 1 (by decide)) ?_⟩
   refine⟨_,rfl,rfl,tst rfl (ixv rfl hx0 rfl ⟨rfl,tst (sU 0 (by decide)) ?_⟩)⟩
   refine ixv rfl hx0 rfl (ixv rfl ht rfl ⟨p,te,xs,e,rfl,hp,hte,EdB.ok (show EdB (12+N) e from mok) (by omega),?_⟩)
   rw[hxl,hf];exact q H (br.refl _)
  refine ixv rfl ht cE ⟨rfl,tsf (by rw[bP _ k8];exact decide_eq_false h1) ?_⟩
  by_cases h2:m.k=2
  ·obtain⟨f,rfl⟩:∃f,m=.mnd f:=by cases m <;> first | exact⟨_,rfl⟩ | exact absurd h2 (by simp[Mn.k])
   refine hide λGg hGg=>?_
   obtain⟨tx,e,eb,hk,hf⟩:=top;have he:EdB (12+N) e:=bok (.chg e) (by rw[eb];exact ky _ fu)
   have heo:=he.ok (by omega)
   obtain⟨t,rfl,hx⟩:∃t,b=.ref t/\Told K H (.chg e) t:=by
    rcases hb with ⟨z,_⟩ | ⟨pre,x,t,z,zb,hx⟩
    ·rw[eb]at z;cases z
    ·rw[eb]at z;obtain⟨z1,z2⟩:=List.append_inj' (show [Mn.mat tx]++[Mn.chg e]=pre++[x] from z) rfl
     cases z2;exact⟨t,zb,hx⟩
   obtain⟨v0,hx0,tc,rfl,htc⟩:=hx;obtain⟨te,rfl,hte⟩:=hv;have er:eK e=[V.str (kn e.k),.int e.at_,.str e.th]:=by
    obtain⟨k,a,th⟩:=e;have h3:=heo.k3;dsimp only at h3 hk ⊢;rcases h3 with rfl | rfl | rfl
    ·rfl
    ·exact absurd rfl hk
    ·rfl
   rw[er]at htc;have ahO:=QO e.k (by rcases heo.k3 with z | z | z;exact .inl z;exact absurd z hk;exact .inr z)
   refine hGg ?_;refine ixv rfl ht rfl ⟨rfl,tst (bV 2 (by decide)) ?_⟩
   refine⟨_,rfl,rfl,tsf rfl (ixv rfl hx0 rfl ⟨rfl,tsf (by show (!decide (V.str (nm 1)=_))=false;rw[bP 1 (by decide)];rfl) (ixv rfl hx0 rfl ⟨tc,_,_,_,rfl,rfl,htc,rfl,rfl,tsf ahO ?_⟩)⟩)⟩
   refine ixv rfl hx0 rfl ⟨tc,_,_,_,rfl,rfl,htc,rfl,e.th,rfl,?_,λp1 hp1=>?_⟩
   ·have:=heo.th.len;omega
   have s1:=aG (o:=.lst ((R.bf e.th).map V.str)) hp1;refine ixv rfl (bw s1 ht) rfl ⟨p1,te,(R.bf e.th).map V.str,f,rfl,SqL.of ae,bw s1 hte,EdB.ok (show EdB 1 f from mok.1) (by omega),?_⟩
   rw[bo,hf];exact q _ s1
  refine ixv rfl ht cE ⟨rfl,tsf (by rw[bV _ k8];exact decide_eq_false h2) ?_⟩
  exact q H (br.refl _)
end
end My
set_option maxHeartbeats 1000000
namespace My
open PySem L2
seal PySem.wpAny
theorem WL:∀k,k < 8->inV (.str (nm k)) [.str (ar "put off"),.str (ar "close"),.str (ar "lay")]=decide (k=3\/k=4\/k=5):=by decide +kernel
theorem SU {below:List Mn}:∀ {m:Mn},(m.k=3\/m.k=4\/m.k=5)->rm below m->∃tx r,below=.mat tx::r
 | .mat _,h,_=>absurd h (by simp[Mn.k])
 | .chg _,h,_=>absurd h (by simp[Mn.k])
 | .mnd _,h,_=>absurd h (by simp[Mn.k])
 | .off _,_,h=>h.1
 | .cls,_,h=>h.1
 | .lay,_,h=>h.1
 | .rst,h,_=>absurd h (by simp[Mn.k])
 | .pnt _,h,_=>absurd h (by simp[Mn.k])
section
variable{P:me}{w:World}{K:ba}{mg:Str->Option Value}{base:Heap}{A:Adr}
theorem Cs (T:Txt w.params K mg A):aK P w K mg base CX0 3 A.nq A.iW ["_law_told"] (QP K):=by
 have pW:aK P w K mg base CX0 1 A.xJ A.lU ["_law_kind"] wQ:=yi T;have KP:aK P w K mg base CX0 2 A.wb A.nj ["_law_below","_law_one"] (Hh K):=Hi T;refine T.nP.ok iT (λvs H Q E h=>?_) (λcdv A' outer s H vs Q E hr h=>?_)
 ·obtain⟨L,us,ms,N,rfl,_⟩:=h;rfl
 ·obtain⟨L,us,ms,N,rfl,hL,hA,pm,mok,hN,q⟩:=h;have lW:Room 1 _:=hr.mono (by decide)
  have Hk:Room 2 _:=hr.mono (by decide)
  refine⟨_,(ai (a8 (i:=1) iT.nd rfl (adm rfl) qj)
 (ai (xq ak1 rfl (ll (pv 0)) (fV (i:=2) iT.nd rfl (adm rfl))
 (ai (a5 (PW.pt (pw_and (ay En (pv 1) qj (aN _)) (pw_and1 (ay OB (aV pW lW rfl T.sF T.pG.kp T.sE .nil aY (aa (aJ aL (pv 1) af (λ_ _=>rfl)) ah)) (aV pW lW rfl T.sF T.pG.kp T.sE .nil aY (aa (aJ aL (pv 2) af (λ_ _=>rfl)) ah)) (aN _)))))
 (aj (aC gb))
 aH)
 (ai (a5 (qk (lX (aV KP Hk rfl T.By T.uN.kp T.Bx .nil aY (aa (pv 1) (aa (pv 2) ah)))))
 (aj (aC gb))
 aH)
 (ai (a5 (PW.pt (pw_and (ay tU (aJ aL (pv 2) af (λ_ _=>rfl)) (bt (aa ao (aa ao (aa ao ah)))) rfl) (pw_and1 (ay vv (aJ aL (aJ bz (pv 0) af (λ_ _=>rfl)) af (λ_ _=>rfl)) ao (aN _)))))
 (aj (aC gb))
 aH)
 (aj (a8 (i:=1) iT.nd rfl (adm rfl) (pv 2)))))))
 (aj (aC gb)))),?_⟩
  refine⟨_,rfl,L,rfl,⟨_,hL⟩,?_⟩;refine vq (K:=K) (a:=L) (xs:=us.map V.ref) (λj σ H2=>∃(b:V) (v2:Option V),σ=[some (.ref L),some b,v2]/\br H H2/\((j=0/\b=.non)\/∃(i:Nat) (t:Addr),j=i+1/\b=.ref t/\us[i]?=some t))
   ⟨_,_,rfl,br.refl _,.inl ⟨rfl,rfl⟩⟩ (λj σ H2 _ ⟨_,_,_,s2,_⟩=>s2.seq hL) ?_ ?_
  ·rintro j y σ H2 hy ⟨b,v2,rfl,s2,hb⟩;refine hide λGg hGg=>?_
   obtain⟨u,hu,rfl⟩:∃u,us[j]?=some u/\V.ref u=y:=by
    rw[aj0]at hy;cases ht:us[j]? with
    |none=>rw[ht]at hy;cases hy
    |some t=>rw[ht]at hy;exact⟨t,rfl,ajJ hy⟩
   obtain⟨m,hm,hT⟩:=hA.SS hu;have top:=pm.at_ hm;have k8:=m.k8;have QQ:(ms.take j=[]/\b=.non)\/∃pre x t,ms.take j=pre++[x]/\b=.ref t/\Told K H x t:=by
    rcases hb with ⟨rfl,rfl⟩ | ⟨i,t,rfl,rfl,ht⟩
    ·exact .inl ⟨rfl,rfl⟩
    ·obtain⟨x,hx,hxT⟩:=hA.SS ht;exact .inr ⟨ms.take i,x,t,by rw[akX,hx];rfl,rfl,hxT⟩
   have bok:∀x∈ms.take j,MOk N x:=λx hx=>mok x (List.mem_of_mem_take hx)
   refine hGg ?_
   try dsimp only[fj]
   refine d9 (λσ' H'=>br H H'/\σ'=[some (.ref L),some b,some (.ref u)]) ?r1 (λN1 n1=>?f1)
   case f1 =>
    rcases QQ with ⟨_,rfl⟩ | ⟨pre,x,t,eb,rfl,hx⟩
    ·exact⟨_,rfl,rfl,_,rfl,bX (bX (n1 _ _ ⟨s2,rfl⟩))⟩
    ·obtain⟨vx,hx0,_⟩:=hx;refine hide λGg hGg=>?_
     obtain⟨vm,hm0,_⟩:=hT;have lt:=top.lt x (by rw[eb];simp)
     refine hGg ?_;refine⟨_,rfl,rfl,tst rfl ?_⟩;refine ixv rfl (bw s2 hx0) cE ⟨x.k,x.k8,rfl,λH3 s3=>?_⟩
     refine ixv rfl (bw (s2.trans s3) hm0) cE ⟨m.k,k8,rfl,λH4 s4=>?_⟩
     exact⟨_,_,rfl,rfl,tsf (decide_eq_false (by omega)) (n1 _ _ ⟨(s2.trans s3).trans s4,rfl⟩)⟩
   case r1 =>
    rintro σ3 H3 ⟨s3,rfl⟩
    try dsimp only[fj]
    refine d9 (λσ' H'=>br H H'/\σ'=[some (.ref L),some b,some (.ref u)]) ?r2 (λN1 n1=>?f2)
    case f2 =>
     refine⟨_,rfl,_,rfl,b,u,ms.take j,m,N,rfl,hT.same s3,top,mok m (ajQ hm),bok,hN,?_,λH4 s4=>⟨true,rfl,bX (n1 _ _ ⟨s3.trans s4,rfl⟩)⟩⟩
     rcases QQ with z | ⟨pre,x,t,eb,e2,hx⟩
     ·exact .inl z
     ·exact .inr ⟨pre,x,t,eb,e2,hx.same s3⟩
    case r2 =>
     rintro σ4 H4 ⟨s4,rfl⟩
     try dsimp only[fj]
     refine hide λGg hGg=>?_
     obtain⟨vm,hm0,_⟩:=hT;refine hGg ?_;refine d9 (λσ' H'=>br H H'/\σ'=[some (.ref L),some b,some (.ref u)]) ?r3 (λN1 n1=>?f3)
     case f3 =>
      refine ixv rfl (bw s4 hm0) cE ⟨(sl 3),λp hp=>?_⟩
      have s5:=aG (o:=.tup [.str (ar "put off"),.str (ar "close"),.str (ar "lay")]) hp;have s45:=s4.trans s5;refine⟨p,_,rfl,.inr (SqT.of ae),rfl,rfl,_,rfl,?_⟩;show ite (inV _ _=true) _ _;rw[WL _ k8]
      by_cases h3:m.k=3\/m.k=4\/m.k=5
      ·rw[decide_eq_true h3];refine hide λGg hGg=>?_
       obtain⟨tx,r,eb⟩:=SU h3 top;obtain⟨i,t0,hms,hus⟩:∃(x:Mn) (t0:Addr),(x=.mat tx/\us[0]?=some t0)/\Told K H x t0:=by
        have hj:0 < j:=by
         rcases Nat.eq_zero_or_pos j with z | z
         ·rw[z]at eb;cases eb
         ·exact z
        have h0:ms[0]?=some (.mat tx):=by
         have e0:(ms.take j)[0]?=some (.mat tx):=by rw[eb];rfl
         rw[List.getElem?_take,if_pos hj]at e0;exact e0
        obtain⟨t0,h1,h2⟩:=hA.get h0;exact⟨_,t0,⟨rfl,h1⟩,h2⟩
       obtain⟨rfl,hu0⟩:=hms;obtain⟨v0,h00,_⟩:=hus;refine hGg ?_;refine dP (ixv rfl (s45.seq hL) (dF (j:=0) (by rw[aj0,hu0];rfl)) ⟨t0,_,_,_,rfl,rfl,bw s45 h00,rfl,rfl,tsf (by show (!decide (V.str (nm 0)=_))=false;rw[sU 0 (by decide)];rfl) (n1 _ _ ⟨s45,rfl⟩)⟩)
      ·rw[decide_eq_false h3];exact bX (bX (n1 _ _ ⟨s45,rfl⟩))
     case r3 =>
      rintro σ5 H5 ⟨s5,rfl⟩;exact⟨_,rfl,_,_,rfl,s5,.inr ⟨j,u,rfl,rfl,hu⟩⟩
  ·rintro σ H2 ⟨b,v2,rfl,s2,_⟩;exact q H2 s2
end
end My
set_option maxHeartbeats 1000000
namespace My
open PySem L2
seal PySem.wpAny
def FI (st:Ch):Prop:=st.closed=true->∃tx r,st.au.map st.mo=.mat tx::r
theorem Eb {st:Ch}(h:st.au≠[]->FI st)(z:Str):FI (st.uv z):=by
 intro hc;have hc':(if st.au=[] then false else st.closed)=true:=hc
 by_cases e:st.au=[]
 ·rw[if_pos e]at hc';cases hc'
 ·rw[if_neg e]at hc';exact h e hc'
theorem Ct {st st':Ch}{pre:List Nat}{n:Nat}(e:st.au=pre++[n])(hp:st'.au=pre)(hm:st'.mo=st.mo)(hcl:st'.closed=st.closed)(h:FI st):st'.au≠[]->FI st':=by
 intro ne hc;rw[hcl]at hc;obtain⟨tx,r,ez⟩:=h hc;rw[e,kr]at ez;rw[hp,hm];cases pre with
 |nil=>exact absurd hp ne
 |cons a pre =>
  rw[kj,List.cons_append]at ez;injection ez with e1 e2
  exact⟨tx,pre.map st.mo,by rw[kj,e1]⟩
theorem KQ {N:Nat}{st:Ch}(I:Inv N st){pre:List Nat}{n:Nat}(e:st.au=pre++[n])(wd:Str)(ht:rm (pre.map st.mo) (st.mo n))(h:FI st):((st.popped pre n wd).carry (st.mo n)).au≠[]->FI ((st.popped pre n wd).carry (st.mo n)):=by
 have base:=Ct (st':=st.popped pre n wd) e rfl rfl rfl h;have num:∀k∈pre,cX st k:=λk hk=>I.bK k (by rw[e];exact akb _ hk)
 have hmo:(st.popped pre n wd).mo=st.mo:=rfl;generalize st.mo n=m at ht ⊢;cases m with
 |mat tx=>exact base
 |pnt z=>exact base
 |rst=>exact base
 |cls =>
  intro _ _;obtain⟨⟨tx,r,h1⟩,_⟩:=ht;exact⟨tx,r,h1⟩
 |off u =>
  obtain⟨⟨tx,r,h1⟩,_⟩:=ht;obtain⟨k,s,e1,_⟩:=Fv h1;have e3:(st.popped pre n wd).carry (.off u)=(st.popped pre n wd).lE k u:=by unfold Ch.carry;rw[show (st.popped pre n wd).au=pre from rfl,e1]
  rw[e3];exactλz=>absurd rfl z
 |lay =>
  obtain⟨⟨tx,r,h1⟩,_⟩:=ht;obtain⟨k,s,e1,_⟩:=Fv h1;have e3:(st.popped pre n wd).carry .lay=(st.popped pre n wd).lE k st.aQ:=by unfold Ch.carry;rw[show (st.popped pre n wd).au=pre from rfl,e1];rfl
  rw[e3];exactλz=>absurd rfl z
 |chg f =>
  obtain⟨tx,h1,hf⟩:=ht;obtain⟨k,e1,e2⟩:=Qk h1;have e3:(st.popped pre n wd).carry (.chg f)=(st.popped pre n wd).Nq k tx f:=by unfold Ch.carry;rw[show (st.popped pre n wd).au=pre from rfl,e1];show (match st.mo k with | .mat tx=>_ | _=>_)=_;rw[e2]
  rw[e3];intro _ _;refine⟨bE tx f,[],?_⟩;show pre.map _=_;rw[e1,kj,aki,B4 (st:=st) (num k (by rw[e1];exact fu)) rfl]
 |mnd f =>
  obtain⟨tx,g,h1,hk,hf⟩:=ht;obtain⟨a,b,e1,e2,e3⟩:=Sy h1;have e4:(st.popped pre n wd).carry (.mnd f)=(st.popped pre n wd).Fp b g (bE (R.bf g.th) f):=by unfold Ch.carry;rw[show (st.popped pre n wd).au=pre from rfl,e1];show (match st.mo b with | .chg e=>_ | _=>_)=_;rw[e3];rfl
  rw[e4];intro _ _;have ne:a≠b:=λz=>by rw[z,e3]at e2;cases e2
  have ha:Ch.mo ((st.popped pre n wd).Fp b g (bE (R.bf g.th) f)) a=.mat tx:=(pP (st:=st) (num b (by rw[e1];simp)) (num a (by rw[e1];simp)).1 ne rfl).trans e2
  refine⟨tx,[Ch.mo ((st.popped pre n wd).Fp b g (bE (R.bf g.th) f)) b],?_⟩;rw[show ((st.popped pre n wd).Fp b g (bE (R.bf g.th) f)).au=[a,b] from e1,kj,ha]
  rfl
theorem KR {N:Nat}{st:Ch}(I:Inv N st){d:R.fq}(hd:yf d)(h:FI st):FI (iO st d).2:=by
 cases hd with
 | @Ku a b ha hb =>
  rw[mI];unfold nF;split
  ·exact h
  ·rename_i n hl;split
   ·exact h
   ·obtain⟨pre,e⟩:=jK hl;have ed:st.au.dropLast=pre:=by rw[e];exact akm
    rw[ed];obtain⟨_,ht⟩:=I.pop e yP (by decide +kernel)
    refine Eb ?_ _;split
    ·exact KQ I e _ ht h
    ·exact Ct (st':=st.popped pre n _) e rfl rfl rfl h
 |drop =>
  rw[mJ];unfold pR;split
  ·exact h
  ·rename_i n hl;obtain⟨pre,e⟩:=jK hl;have ed:st.au.dropLast=pre:=by rw[e];exact akm
   rw[ed];exact Eb (Ct (st':=st.popped pre n _) e rfl rfl rfl h) _
 | @take z h0 h1 =>
  rw[mK];unfold stepT;split
  ·rename_i hp;split
   ·exact h
   ·split
    ·exact h
    ·intro hc;obtain⟨tx,r,ez⟩:=h hc;rw[hp]at ez;cases ez
  ·exact h
 |move hm =>
  rw[mL hm];unfold pS;split
  ·exact h
  ·intro hc;obtain⟨tx,r,ez⟩:=h hc;refine⟨tx,r++[(st.moved (d3 d) (R.rF d)).mo (st.made.length+1)],?_⟩;show (st.au++[st.made.length+1]).map _=_;rw[kr,akp (g:=st.mo) (λk hk=>Ft (st:=st) (m:=d3 d) rfl (I.bK k hk)),ez]
   rfl
end My
set_option maxHeartbeats 1000000
namespace My
open PySem L2
seal PySem.wpAny
theorem SV (n:Int):Inv 0 (MI n) :=
 ⟨kq 0,kq 0,kq 0,kq 0,(λ_ h=>nomatch h),⟨by show (1:Int)<=1;decide,by show (1:Int)<=_;decide⟩,(λ_ h=>nomatch h),(λ_ h=>nomatch h),List.nodup_nil,.nil,(λ_ h=>nomatch h),rfl,rfl,(λ_ h=>nomatch h)⟩
theorem SW (xs:List V):(f9 xs (some 1) (some 63)).length<=62:=by
 unfold f9;rw[show (1:Int)=((1:Nat):Int) from rfl,show (63:Int)=((63:Nat):Int) from rfl,HT.vA,HT.vA,akd,akL]
 omega
theorem NJ {W:Option (Nat×Rl)->Prop}(n:¬W none){c c':Col}{H1 H2:Hp}{x dx:Addr}{o:HO}(hx:H1 x=none)(hdx:H1 dx=none)(hk:∀a v,(upd (upd H1 dx (.own x)) x o) a=some v->a≠x->H2 a=some v/\c' a=c a):Step W c c' H1 H2:=by
 have old:∀a v,H1 a=some v->H2 a=some v/\c' a=c a:=λa v h =>
  hk a v ((av (aI h hx)).trans ((av (aI h hdx)).trans h)) (aI h hx)
 exact⟨n,λa v h _=>(old a v h).1,λa v h=>⟨v,(old a v h).1⟩,λa v h _=>(old a v h).2⟩
theorem ji.other {i j:Nat}(n:i≠j){c c':Col}{H H':Hp}{m:Addr}{st:Ch}(s:Step (dv j) c c' H H')(h:ji i c H m st):ji i c' H' m st:=h.free (λr=>uU n r) s
theorem Hl (st:Ch)(m:Mn):(st.carry m).cz=st.cz:=by
 unfold Ch.carry;split
 ·split
  ·split <;> rfl
  ·rfl
 ·split
  ·split <;> rfl
  ·rfl
 ·split <;> rfl
 ·rfl
 ·split <;> rfl
 ·rfl
 ·rfl
theorem wU (st:Ch):st.opened.cz=st.cz:=by unfold Ch.opened;rfl
theorem Hm {st:Ch}{d:R.fq}(h:yf d):(iO st d).2.cz=st.cz:=by
 cases h with
 |Ku =>
  rw[mI];unfold nF;split
  ·rfl
  ·split
   ·rfl
   ·show ((if _ then _ else _:Ch).uv _).cz=_
    unfold Ch.uv;rw[show ∀(x:Ch) (r:List Str),({ x.opened with rows:=r }:Ch).cz=x.opened.cz from λ_ _=>rfl,wU]
    split
    ·rw[Hl];rfl
    ·rfl
 |drop =>
  rw[mJ];unfold pR;split
  ·rfl
  ·show ((_:Ch).uv _).cz=_;unfold Ch.uv;rw[show ∀(x:Ch) (r:List Str),({ x.opened with rows:=r }:Ch).cz=x.opened.cz from λ_ _=>rfl,wU]
   rfl
 |take =>
  rw[mK];unfold stepT;split
  ·split
   ·rfl
   ·split <;> rfl
  ·rfl
 |move h =>
  rw[mL h];unfold pS;split <;> rfl
structure Base (A:Adr)(l o m:Addr)(cs:List V)(c:Col)(H:Hp)(st:Ch):Prop where
 cl:c l=none
 hl:H l=some (.lst cs)
 one:fb A 1 c H o st
 two:ji 2 c H m st
theorem Base.free {A:Adr}{l o m:Addr}{cs:List V}{c c':Col}{H H':Hp}{st:Ch}{W:Option (Nat×Rl)->Prop}(h1:∀r,¬W (some (1,r)))(h2:∀r,¬W (some (2,r)))(s:Step W c c' H H')(b:Base A l o m cs c H st):Base A l o m cs c' H' st :=
 ⟨(fZ s b.cl b.hl).1,(fZ s b.cl b.hl).2,b.one.free h1 s,b.two.free h2 s⟩
def MR (K:ba):Sp:=λvs H Q _=>∃(a:Addr) (ns:List Int),vs=[.ref a]/\SqL K H a (ns.map V.int)/\ns.length<=63/\∀H',Q (.bl true) H'
theorem KS {K:ba}{a D:Addr}{xs:List V}{te:TEX}{Q:VK}{E:XK}{σ:St}{H1:Hp}(Pv:Nat->List V->Hp->Prop)(h0:Pv 0 [] (upd H1 D (.lst [])))(hz:xs.length<=ka)
  (hl:∀i ys H2,i<=xs.length->Pv i ys H2->SqL K H2 a xs/\H2 D=some (.lst ys)/\ys.length=i)
  (hs:∀i x ys H2,xs[i]?=some x->Pv i ys H2->∃p t0 t1 t2,x=.ref p/\SqT K H2 p [t0,t1,t2]/\te (some t0::some t1::some t2::σ) H2 (ei D xs.length Pv i ys) E) (hd:∀ys H2,Pv xs.length ys H2->Q (.ref D) H2) :
  Dl 3 (Itl K a) (Vr K 3 (LZ (fj 0) (LZ (fj 1) (LZ (fj 2) ZK)))) te σ D H1 Q E:=by
 refine⟨λi m ys H=>m=xs.length - i/\i<=xs.length/\Pv i ys H,⟨xs.length,by simp,akl _,h0⟩,?_⟩
 rintro i m ys H2 ⟨rfl,hi,p⟩;obtain⟨q,q2,q3⟩:=hl i ys H2 hi p;refine⟨q2,?_⟩
 by_cases hlt:i < xs.length
 ·refine .inr ⟨⟨xs,xs[i],q,by simp[hlt]⟩,by omega,λx H3 y vs hv=>?_⟩
  obtain⟨e,y⟩:=y;subst e;obtain⟨v0,v1,v2,rfl⟩:∃v0 v1 v2,vs=[v0,v1,v2]:=by
   match vs,hv with
   |[v0,v1,v2],_=>exact⟨v0,v1,v2,rfl⟩
  obtain⟨p',t0,t1,t2,rfl,ht,hw⟩:=hs i x ys _ (y xs q) p;exact⟨p',_,rfl,ht,rfl,t0,_,rfl,t1,_,rfl,t2,_,rfl,rfl,[some t0,some t1,some t2],rfl,rfl,hw⟩
 ·have e:i=xs.length:=by omega
  subst e;exact .inl ⟨⟨xs,q,kq _⟩,hd ys H2 p⟩
def Cu (H:Hp)(st:Ch)(v:V):Prop:=∃(p:Addr) (ks:List Nat),v=.ref p/\H p=some (.lst (ks.map nV))/\(∀k∈ks,cX st k)/\PMs (ks.map st.mo)
theorem Cu.same {H H':Hp}{st:Ch}{v:V}(s:br H H'):Cu H st v->Cu H' st v
 |⟨p,ks,e,h,r⟩=>⟨p,ks,e,s _ _ h,r⟩
section
variable{P:me}{w:World}{K:ba}{mg:Str->Option Value}{base:Heap}{A:Adr}
set_option maxHeartbeats 20000000 in
theorem WM {f:Addr}{fd:kg}(F:Fun K "law" "law" r9 f fd)(T:Txt w.params K mg A):aK P w K mg base CX0 20 f fd ["_law_script"] (MR K):=by
 have Ho:aK P w K mg base CX0 1 A.t8 A.lx ["_law_script","_law_k"] (Qw K):=FE T;have NK:aK P w K mg base CX0 1 A.Ax A.qy ["_law_cell"] D9:=KL T;have SX:aK P w K mg base CX0 1 A.Ma A.vV [] MK:=QL T;have QR:aK P w K mg base CX0 3 A.EX A.ud ["_law_m","_law_cell","_law_seats_here"] (G9 2):=NF T;have SY:aK P w K mg base CX0 5 A.Mb A.vY ["_law_m","_law_deed_here","_law_seats_here"] (Ug 2):=QK T;have QS:aK P w K mg base CX0 8 A.Bi A.pw ["_law_chamber","_law_deed_here"] (KJ A 1):=NH T;have CY:aK P w K mg base CX0 3 A.nq A.iW ["_law_told"] (QP K):=Cs T;have NL:aK P w K mg base CX0 2 A.cc A.ib ["self","seats"] (Ue A):=WC T;have zm:aK P w K mg base CX0 2 A.bW A.gQ ["self"] (Hf A 1):=NI T;have pZ:aK P w K mg base (CXX P w) 3 A.bN A.fY ["self","number"] (Ea A 1):=KO T;refine F.ok qp (λvs H Q E h=>?_) (λcdv A' outer s H vs Q E hr h=>?_)
 ·obtain⟨a,ns,rfl,_⟩:=h;rfl
 ·obtain⟨a,ns,rfl,hS,hlen,q⟩:=h;have FJ:Room 1 _:=hr.mono (by decide)
  have KU:Room 1 _:=hr.mono (by decide)
  have QT:Room 1 _:=hr.mono (by decide)
  have NM:Room 3 _:=hr.mono (by decide)
  have QU:Room 5 _:=hr.mono (by decide)
  have NN:Room 8 _:=hr.mono (by decide)
  have Cv:Room 3 _:=hr.mono (by decide)
  have KW:Room 3 _:=hr.mono (by decide)
  have ym:Room 2 _:=hr.mono (by decide)
  have nJ:Room 3 _:=hr.mono (by decide)
  have hu1:=hr.u1;have pJ:=hr.units;refine⟨_,(ai (a8 (i:=1) qp.nd rfl (adm rfl) (aV NK KU rfl T.DI T.xR.kp T.DH .nil aY (aa (aV Ho FJ rfl T.yJ T.sA.kp T.yI .nil aY (aa (pv 0) (aa af ah))) ah)))
 (ai (a8 (i:=2) qp.nd rfl (Or.inr rfl) (gC T.DK NL KW rfl T.DJ T.iY .nil aY (aa (pv 1) ah)))
 (ai (a8 (i:=3) qp.nd rfl (adm rfl) (OE SX QT rfl T.Md T.E1.kp T.Mc .nil aY))
 (ai (xq ak1 rfl (ll (oG vD (pv 0) (ql af) (ql af))) (fV (i:=4) qp.nd rfl (adm rfl))
 (ai (a8 (i:=5) qp.nd rfl (adm rfl) (aV QR NM rfl T.Gy T.Bv.kp T.Gx .nil aY (aa (pv 3) (aa (pv 4) (aa (pv 1) ah)))))
 (ai (bJ (aV QS NN rfl T.GA T.Bw.kp T.Gz .nil aY (aa (pv 2) (aa (pv 5) ah))))
 (ai (bJ (aV SY QU rfl T.Mf T.E2.kp T.Me .nil aY (aa (pv 3) (aa (pv 5) (aa (pv 1) ah)))))
 (ai (a8 (i:=6) qp.nd rfl (adm rfl) (gZ (pv 2) T.aq T.rg zm ym T.il .nil aY))
 (ai (a8 (i:=7) qp.nd rfl (adm rfl) (a6 vG (bR (aa (aJ aL (pv 6) af (λ_ _=>rfl)) ah)) (PEX.pe (O9 (scope:=Dv) ⟨rfl,rfl⟩ vS rfl (ll (aJ aL (pv 6) af (λ_ _=>rfl))) (λ_ _ _ _ _=>(R0 (K:=K) (n:=3) rfl rfl (j9 (fV (i:=0) vS.nd2 rfl (adm rfl)) (j9 (fV (i:=1) vS.nd2 rfl (adm rfl)) (j9 (fV (i:=2) vS.nd2 rfl (adm rfl)) El))))) (λ_ _ _ _ _=>(px (pv 2)))))))
 (ai (xq ak1 rfl (ll (pv 7)) (fV (i:=8) qp.nd rfl (adm rfl))
 (aj (a5 (qk (lX (aV CY Cv rfl T.uA T.nP.kp T.uz .nil aY (aa (vI (scope:=Dw) Ph rfl (ll (pv 8)) (λ_ _ _ _ _=>(hX (pv 3) T.aq T.jF pZ nJ T.eG .nil EB (aa (pv 0) ah)))) ah))))
 (aj (aC gb))
 aH)))
 (aj (a5 (PW.pt (pw_and (lX (aJ aL (pv 6) af (λ_ _=>rfl))) (pw_and1 (PW.pt (pw_or (ay (xw pJ) (aJ aL (pv 6) af (λ_ _=>rfl)) (bR ah) (aN _)) (pw_or1 (ay vv (aJ aL (hX (pv 2) T.aq T.jF pZ nJ T.eG .nil EB (aa (aJ bz (aJ aL (pv 6) af (λ_ _=>rfl)) af (λ_ _=>rfl)) ah)) af (λ_ _=>rfl)) ao (aN _))))))))
 (aj (aC gb))
 aH)))))))))
 (aj (aC gb)))))),?_⟩
  have sz:ka=16777216:=by decide
  refine⟨_,rfl,a,ns,0,rfl,hS,Int.le_refl _,λfi=>⟨fi,rfl,λn n1 n2=>?_⟩⟩
  try dsimp only[fj]
  refine⟨_,rfl,λo d1 ho1 hd1 ne1=>⟨o,d1,n,rfl,ae,λH2 h2=>⟨rfl,?_⟩⟩⟩
  refine hide λGg hGg=>?_
  obtain⟨c1,k1,ch1⟩:=h2 1 (λ_=>none)
  have st1:Step (λ_=>False) (λ_=>none) c1 H H2:=NJ id ho1 hd1 k1
  have sm1:br H H2:=λa v h=>st1.keep a v h id
  have hS2:=sm1.seq hS;clear k1 ho1 hd1 ne1 h2;refine hGg ?_;refine⟨rfl,λm H3 h3=>?_⟩
  refine hide λGg hGg=>?_
  obtain⟨c2,st2,md2⟩:=h3 2 c1 n;have sm2:br H2 H3:=λa v h=>st2.keep a v h id
  have hS3:=sm2.seq hS2;have ch2:=ch1.free (λ_=>id) st2
  clear h3 hS2 st1 st2 sm1 sm2 ch1;refine hGg ?_;refine⟨_,rfl,_,rfl,_,rfl,a,_,rfl,hS3,λl hl=>⟨l,rfl,⟨_,SqL.of ae⟩,?_⟩⟩
  have hcl:=SW (ns.map V.int);have isI:∀x∈f9 (ns.map V.int) (some 1) (some 63),∃z,x=V.int z:=λx hx=>by
   obtain⟨z,_,e⟩:=List.mem_map.mp (SJ hx);exact⟨z,e.symm⟩
  have st3:Step (λ_=>False) c2 (az c2 l none) H3 (upd H3 l (.lst (f9 (ns.map V.int) (some 1) (some 63)))):=Step.new id hl
  have b0:Base A l o m (f9 (ns.map V.int) (some 1) (some 63)) (az c2 l none) (upd H3 l (.lst (f9 (ns.map V.int) (some 1) (some 63)))) (MI n) :=
   ⟨aW,ae,ch2.free (λ_=>id) st3,md2.free (λ_=>id) st3⟩
  generalize upd H3 l (.lst (f9 (ns.map V.int) (some 1) (some 63)))=H4 at b0 ⊢;generalize az c2 l none=c4 at b0;clear st3 ch2 md2 hS3 hl;generalize f9 (ns.map V.int) (some 1) (some 63)=cs at b0 hcl isI ⊢;refine vq (K:=K) (a:=l) (xs:=cs) (λj σ Hj=>∃(v4 v5 v6 v7 v8:Option V),σ=[some (.ref a),some (.int n),some (.ref o),some (.ref m),v4,v5,v6,v7,v8]/\∃(c:Col) (st:Ch),Base A l o m cs c Hj st/\Inv (3 * j) st/\st.cz=n/\FI st)
   ⟨_,_,_,_,_,rfl,c4,_,b0,SV n,rfl,λz=>nomatch z⟩ (λj σ Hj _ ⟨_,_,_,_,_,_,_,_,b,_⟩=>SqL.of b.hl) ?_ ?_
  ·rintro j y σ Hj hy ⟨v4,v5,v6,v7,v8,rfl,c,st,b,I,es,cl⟩;refine hide λGg hGg=>?_
   obtain⟨z,rfl⟩:=isI _ (ajQ hy);have jl:j < cs.length:=(List.getElem?_eq_some_iff.mp hy).1;have hN:3 * j<=800:=by omega
   refine hGg ?_;refine⟨_,rfl,_,rfl,_,rfl,m,z,n,c,st,3 * j,rfl,b.two,I,by omega,n1,n2,λd t H5 hd hz s5=>?_⟩
   have b5:=b.free (λ_=>id) (λ_=>id) (Step.cl (W:=λ_=>False) id s5)
   generalize cx c Hj=c5 at hz b5;clear s5 b
   try dsimp only[fj]
   refine⟨_,rfl,_,rfl,o,t,c5,st,3 * j,d,rfl,b5.one,I,hN,hd,hz.c,λc6 H6 u6 s6 ch6 cu6 hu6=>?_⟩
   have md6:=b5.two.other (by decide) s6
   have kl6:=fZ s6 b5.cl b5.hl;have hz6:=hz.step s6;clear s6 b5 hz cu6 hu6;refine⟨_,rfl,_,rfl,_,rfl,m,t,c6,st,3 * j,d,(by rw[es];rfl),md6,I,hN,hd,hz6,λc7 H7 u7 s7 md7 cu7 hu7=>?_⟩
   have ch7:=ch6.other (by decide) s7
   have kl7:=fZ s7 kl6.1 kl6.2;clear s7 ch6 md6 kl6 hz6 cu7 hu7;have I8:=I.iO hN hd;have es8:(iO st d).2.cz=n:=(Hm hd).trans es;have cl8:=KR I hd cl;generalize (iO st d).2=st8 at ch7 md7 I8 es8 cl8;clear I es cl hd;have al:=I8.GR;have l3:=I8.lm
   try dsimp only[fj]
   refine hide λGg hGg=>?_
   obtain⟨dx1,aM1,aP1,aA1,aD1,aF1,aE1,aR1,ms1,ds1,ws1,fs1,es1,X1⟩:=ch7.ex;refine hGg ?_;refine mtv rfl X1.ob (cZ (by decide +kernel)) ⟨o,c7,st8,rfl,ch7,by omega,λns9 u9 H9 pm9 so9 s9 at9=>?_⟩
   have e9:Step (λ_=>False) c7 (cx c7 H7) H7 H9:=Step.cl id s9
   have ch9:=ch7.free (λ_=>id) e9
   have md9:=md7.free (λ_=>id) e9
   have kl9:=fZ e9 kl7.1 kl7.2;generalize cx c7 H7=c9 at ch9 md9 kl9 at9;refine hide λGg hGg=>?_
   clear e9 s9 ch7 md7 kl7 X1;obtain⟨l1,R,l2,ys,ds,S⟩:=at9;refine hGg ?_;have fin:∀H10,br H9 H10->∃c',Base A l o m cs c' H10 st8:=λH10 s10=>by
    have e10:Step (λ_=>False) c9 (cx c9 H9) H9 H10:=Step.cl id s10
    exact⟨_,(fZ e10 kl9.1 kl9.2).1,(fZ e10 kl9.1 kl9.2).2,ch9.free (λ_=>id) e10,md9.free (λ_=>id) e10⟩
   have pms:∀x∈ns9.map (FD st8),(∀k∈x.2.2,cX st8 k)/\PMs (x.2.2.map st8.mo):=λx hx=>by
    have hm:=(Hg I8 pm9).mem_iff.mp hx;exact⟨I8.pQ hm,(I8.asd x hm).1⟩
   have yl:ys.length<=1000:=by
    rw[<-S.asd.len,bo,pm9.length_eq,bo];omega
   try dsimp only[fj]
   refine ixv rfl (SqT.of S.hu) rfl ⟨(sl 1),λp1 hp1=>?_⟩
   have s10:=aG (o:=.lst [V.ref l1]) hp1;have WN:upd H9 p1 (.lst [V.ref l1]) p1=some (.lst [V.ref l1]):=ae;generalize upd H9 p1 (.lst [V.ref l1])=H10 at s10 WN ⊢;refine ixv rfl (SqT.of (s10 _ _ S.hu)) rfl ⟨R,rfl,⟨_,SqL.of (s10 _ _ S.hR)⟩,λD hD=>?_⟩
   refine KS (K:=K) (a:=R) (xs:=ys) (λj zs H11=>zs.length=j/\br H10 H11/\H11 D=some (.lst zs)/\∀v∈zs,Cu H11 st8 v) ⟨rfl,aG hD,ae,λv hv=>nomatch hv⟩ (by omega) ?_ ?_ ?_
   ·rintro j zs H11 hj ⟨e,s11,h11,_⟩;exact⟨SqL.of (s11 _ _ (s10 _ _ S.hR)),h11,e⟩
   ·rintro j y zs H11 hj ⟨e,s11,h11,hz⟩;refine hide λGg hGg=>?_
    obtain⟨x,hx,u',l',rfl,⟨_,hu'⟩,_,hl'⟩:=S.asd.SS hj;have s0:=s10.trans s11;refine hGg ?_;refine⟨u',_,_,_,rfl,SqT.of (s0 _ _ hu'),_,rfl,ei.mk (List.getElem?_eq_some_iff.mp hj).1 h11 ⟨by rw[kx,e];rfl,s11.own hD,ae,?_⟩⟩
    have nD:∀ {b:Addr} {v:HO},H10 b=some v->b≠D:=λh=>aI h hD
    intro v hv;rcases List.mem_append.mp hv with h | h
    ·obtain⟨p,ks,e1,e2,e3⟩:=hz v h;refine⟨p,ks,e1,(av λz=>?_).trans e2,e3⟩
     rw[z,h11]at e2;cases e2;exact absurd h (by
      intro hh;refine hide λGg hGg=>?_
      obtain⟨k,_,ek⟩:=List.mem_map.mp hh;rw[e1]at ek;refine hGg ?_;cases ek)
    ·rw[aj3]at h;obtain⟨q1,q2⟩:=pms x (ajQ hx);exact⟨l',x.2.2,h,(av (nD (s10 _ _ hl'))).trans (s0 _ _ hl'),q1,q2⟩
   ·rintro zs H11 ⟨e,s11,h11,hz⟩;have s0:=s10.trans s11;refine⟨p1,D,_,_,rfl,rfl,s11 _ _ WN,h11,by rw[e];show 1+ys.length<=_;omega,λL hL=>?_⟩
    have s12:=aG (o:=.lst ([V.ref l1]++zs)) hL;have s02:=s0.trans s12;have S0:upd H11 L (.lst ([V.ref l1]++zs)) L=some (.lst ([V.ref l1]++zs)):=ae;have hps:∀v∈[V.ref l1]++zs,Cu (upd H11 L (.lst ([V.ref l1]++zs))) st8 v:=λv hv=>by
     rcases List.mem_append.mp hv with h | h
     ·rw[aj3]at h;exact⟨l1,st8.au,h,s02 _ _ S.h1,I8.bK,I8.pil⟩
     ·exact(hz v h).same s12
    generalize upd H11 L (.lst ([V.ref l1]++zs))=H12 at s02 S0 hps ⊢;generalize [V.ref l1]++zs=vs at S0 hps;clear s12 s0 hz h11 s11 hD WN s10 hp1 hL
    try dsimp only[fj]
    refine d9 (λσ' H'=>br H12 H'/\∃v8,σ'=[some (.ref a),some (.int n),some (.ref o),some (.ref m),some (.int z),some (.ref t),some (.ref u9),some (.ref L),v8]) ?r1 (λN nN=>?f1)
    case f1 =>
     refine⟨_,rfl,L,rfl,⟨_,SqL.of S0⟩,?_⟩;refine vq (K:=K) (a:=L) (xs:=vs) (λi σ' H'=>br H12 H'/\∃v8,σ'=[some (.ref a),some (.int n),some (.ref o),some (.ref m),some (.int z),some (.ref t),some (.ref u9),some (.ref L),v8])
      ⟨br.refl _,_,rfl⟩ (λi σ' H' _ ⟨s,_⟩=>SqL.of (s _ _ S0)) ?_ (λσ' H' h=>nN _ _ h)
     rintro i y σ' H13 hi ⟨s13,v8,rfl⟩;refine hide λGg hGg=>?_
     obtain⟨p,ks,rfl,hp,hk,hpm⟩:=(hps y (ajQ hi)).same s13;have kl:ks.length<=8:=by have:=hpm.GP;rw[bo]at this;exact this
     refine hGg ?_
     try dsimp only[fj]
     refine⟨_,rfl,p,rfl,⟨_,SqL.of hp⟩,λD hD=>?_⟩
     obtain⟨c13,b13⟩:=fin H13 (s02.trans s13);have stD:Step (λ_=>False) c13 (az c13 D (some (0,.ob))) H13 (upd H13 D (.lst [])):=Step.new id hD
     refine tW (K:=K) (a:=p) (xs:=ks.map nV) (λj zs H14=>br H13 H14/\H14 D=some (.lst zs)/\∃(c14:Col) (us:List Addr),c14 D=some (0,.ob)/\fb A 1 c14 H14 o st8/\zs=us.map V.ref/\bI (MnT c14 H14) ((ks.take j).map st8.mo) us)
      ⟨aG hD,ae,az c13 D (some (0,.ob)),[],aW,b13.one.free (λ_=>id) stD,rfl,.nil⟩ (by rw[bo];omega) ?_ ?_ ?_
     ·rintro j zs H14 hj ⟨s14,NO,c14,us,_,_,rfl,ha⟩;refine⟨SqL.of (s14 _ _ hp),NO,?_⟩;rw[bo]at hj ⊢;rw[<-ha.len,bo,akd];omega
     ·rintro j y zs H14 hj ⟨s14,NO,c14,us,cD,WO,rfl,ha⟩;refine hide λGg hGg=>?_
      obtain⟨k,hk1,rfl⟩:∃k,ks[j]?=some k/\nV k=y:=by
       rw[aj0]at hj;cases ht:ks[j]? with
       |none=>rw[ht]at hj;cases hj
       |some t=>rw[ht]at hj;exact⟨t,rfl,ajJ hj⟩
      have hno:=hk k (ajQ hk1);obtain⟨dx2,aM2,aP2,aA2,aD2,aF2,aE2,aR2,ms2,ds2,ws2,fs2,es2,X2⟩:=WO.ex;refine hGg ?_;refine mtv rfl X2.ob (cZ (by decide +kernel)) ⟨_,rfl,o,k,c14,st8,rfl,WO,hno,λu15 H15 s15 S1=>?_⟩
      have ahP:=s15 _ _ NO;have e15:Step (dv 0) c14 (cx c14 H14) H14 H15:=Step.cl aU s15;have abi:cx c14 H14 D=some (0,.ob):=(Qa NO).trans cD;have e16:Step (dv 0) (cx c14 H14) (cx c14 H14) H15 (upd H15 D (.lst (us.map V.ref++[.ref u15]))):=Step.upd aU ⟨.ob,abi⟩;refine ei.mk (List.getElem?_eq_some_iff.mp hj).1 ahP ⟨(s14.trans s15).own hD,ae,cx c14 H14,us++[u15],abi,WO.free (λr=>uU (by decide) r) (e15.trans e16),by rw[kr];rfl,?_⟩
      rw[akX,hk1,kr];exact bI.snoc (ha.imp λ_ _ z=>z.step (e15.trans e16)) (S1.step e16)
     ·rintro zs H14 ⟨s14,NO,c14,us,_,_,rfl,ha⟩;rw[bo,akY]at ha;refine⟨D,us,ks.map st8.mo,3 * (j+1),rfl,SqL.of NO,ha.imp λ_ _ z=>MQ z,hpm,?_,by omega,λH15 s15=>⟨true,rfl,bX ⟨(s13.trans s14).trans s15,_,rfl⟩⟩⟩
      intro x hx;refine hide λGg hGg=>?_
      obtain⟨k,hk1,rfl⟩:=List.mem_map.mp hx;refine hGg ?_;exact I8.wK (hk k hk1)
    case r1 =>
     rintro σ' H13 ⟨s13,v8,rfl⟩;have s03:=s02.trans s13;obtain⟨c13,b13⟩:=fin H13 s03;have I8':Inv (3 * (j+1)) st8:=I8;refine ixv rfl (SqT.of (s03 _ _ S.hu)) rfl ⟨st8.closed,rfl,?_⟩;cases hc:st8.closed with
     |false=>exact bX (bX ⟨_,_,_,_,_,rfl,c13,st8,b13,I8',es8,cl8⟩)
     |true =>
      refine hide λGg hGg=>?_
      obtain⟨tx,r,ez⟩:=cl8 hc;obtain⟨k,ks,ek,e2⟩:=Fv ez;refine hGg ?_;refine dP (ixv rfl (SqT.of (s03 _ _ S.hu)) rfl ⟨(sl 0),λp hp=>?_⟩)
      have s14:=aG (o:=.lst []) hp;have s04:=s03.trans s14;refine⟨gz st8.au,.list [],lF (SqL.of (s04 _ _ S.h1)),qS (SqL.of ae),lI _,qR,_,rfl,?_⟩;rw[lH,ek];refine bX ?_;generalize upd H13 p (.lst [])=H14 at s04 ⊢;refine hide λGg hGg=>?_
      obtain⟨c14,b14⟩:=fin H14 s04;obtain⟨dx2,aM2,aP2,aA2,aD2,aF2,aE2,aR2,ms2,ds2,ws2,fs2,es2,X2⟩:=b14.one.ex;have hno:=I8.bK k (by rw[ek];exact fu)
      refine hGg ?_;refine mtv rfl X2.ob (cZ (by decide +kernel)) (ixv rfl (SqT.of (s04 _ _ S.hu)) rfl ⟨l1,_,_,_,rfl,rfl,SqL.of (s04 _ _ S.h1),(by rw[ek];exact dF (j:=0) rfl),o,k,c14,st8,rfl,b14.one,hno,λu15 H15 s15 S1=>?_⟩)
      refine hide λGg hGg=>?_
      rw[e2]at S1;obtain⟨v0,h00,_⟩:=MQ (K:=K) S1;obtain⟨c15,b15⟩:=fin H15 (s04.trans s15);refine hGg ?_;exact⟨u15,_,_,_,rfl,rfl,h00,rfl,rfl,tsf (by show (!decide (V.str (nm 0)=_))=false;rw[sU 0 (by decide)];rfl) ⟨_,_,_,_,_,rfl,c15,st8,b15,I8',es8,cl8⟩⟩
  ·rintro σ Hj _;exact q Hj
end
end My
set_option maxHeartbeats 1000000
namespace My
open PySem L2
seal PySem.wpAny
set_option maxHeartbeats 0 in
theorem all_mk {l:PySem.W.OpenLaw}{w:World}{K:ba}{h:Heap}{mg:Str->Option Value}{P:Params}{fa f_1 f_2 f_3 f_4 f_5 f_6 f_7 f_8 f_9 S2 S3 S4 S5 S6 S7 S8 S9 Ta Tb Tc Td Te Tf Tg Th Ti Tj Tn To Tp Tq Tr Ts Tt Tu Tv Tw Tx Tz TB WQ c0 c1 c2 c3 c4 c5 c6 c7 cm tb Hq Hr Hs Ht Hu Hv Hw Hx zo Cw Hy KY Hz HA HB HC HD HE HF HG HI HJ bg cc cf cg cj ck bW bN bF bx a4 bb bG bh bB bp bq bC aZ wV mM mO mP iA p0 p6 p7 mQ mR mS jh mT:Addr}(X:K.In h)(G:h.Ns gn mg)(hfa:mg "law"=some (.ref fa))(hP:w.params=P)
  {ahQ ahR ahS ahT ahU ahV ahW ahX ahY ahZ ah0 ah1 ah2 ah3 ah4 ah5 ah6 ah7 abj abk abl abm abn abo abp abq abr abt abu abv abw abx aby abz abA abB abC abD abE abF abG abH abI abJ abK abL abM abN abO abP abQ abR abS abT abU abV abW abX abY abZ ab0 ab1 ab2 ab3 ab4 ab5 ab6 ab7 ab8 ab9 aca acb acd ace acf acg ach aci acj ack acn Ui WR WS WT WU WV WW WX WY WZ W0 W2 W3 W4 W5 W6 W7 aco acp acq acr W8 W9 acs acu Xa Xb Xd Xe Xf Xg Xh Xi Xj Xk Xl Xm Xn Xo Xp Xq Xr Xs Xt Xu zp zq zr zt zu zv zw zx zy zz yn yo wW wX u5 va rK rL jO jP mU mV wY wZ p8 p9 tD tE n8 n9 oa oe tF tG HK HL CZ C0 HM HN:Option Addr} {ah8 ah9 aia aib aic aid aie aif aih acv acw acx acy acz acA acB acC acD acE acF acG acH acI acJ acK acL acM acN acO acP acQ acR acS acT acU acV acW acX acY acZ ac8 Xv Xw Xx Xy Xz XA XB XC ac9 ada XD adb XE XF XG XH XI XJ XM XN XO XQ zA zB zC zD zE yp w5 vc rM jQ mW w6 qa tH og oh tI HP C1 HQ:Array (Option Value)} {aii aij aik ail ade aim ain aio aip aiq adf air ais ait aiu aiv adg aiw aix aiy aiz aiA adh aiB aiC aiD aiE aiF adi aiG aiH aiI aiJ aiK adj aiL aiM aiN aiO aiP adk aiQ aiR aiS aiT aiU adl aiV aiW aiX aiY aiZ adn ai0 ado adp adq ads Uj adt adu adv adw adx Uk ady adz adA adB adC Ul adD adE adF adG adH Um adI adJ adK adL adM Uo adN adO adP adQ adR Up adS adT adU adV adW Uq adX adY adZ ad0 ad1 Ur ad2 ad3 ad4 ad5 ad6 Us ad7 ad8 ad9 aea aeb Ut aec aed aee aef aeg Uu aeh aei aej aek ael Uv aem aen aeo aep aeq Uw aer aes aet aeu aev Ux aew aex aey aez aeA Uy aeB aeC aeD aeE aeF Uz aeG aeH aeI aeJ aeK UA aeL aeM aeN aeO aeP UB aeQ aeR aeS aeT aeU UC aeV aeW aeX aeY aeZ UD ae0 ae1 ae2 ae3 ae4 UE ae5 ae6 ae7 ae8 ae9 UG afa afb afc afd afe UH aff afg afh afi afj UI afk afl afm afn afo UJ afp afq afr afs aft UK afu afv afw afx afy UL afz afA afB afC afD UM afE afF afG afH afI UN afJ afK afL afM afN UO afO afP afQ afR afS UP afT afU UQ UR US QV UT XR XS XT XU QW XW XX XY XZ X0 QX X9 Ya Yb Yc Yd QY Ye Yf Yg Yh Yi QZ Yj Yk Yl Ym Yn Q0 Yo Yp Yq Yr Ys Q1 Yt Yu Yv Yw Yx Q2 Yy Yz YA YB YC Q3 YD afV afW afX afY UU afZ af0 af1 af2 af3 UW af4 YE YF YG YH Q4 YI af5 af6 af7 af8 UX af9 YJ YK YL YM Q5 YN YO YQ YR YS Q6 YT YU YV YW YX Q7 YY YZ Y0 Y1 Y2 Q8 Y3 Y4 Y5 Y6 Y7 Q9 Y8 Y9 Za Zb Zc Ra Zd Ze Zf Zg Zh Rb Zi Zj Zk Zl Zm Rc Zn Zo Zp Zq Zr Rf Zs Zt Zu Zv Zw Rg Zx zF zG zH zI rp zJ zK zL zM zN rq zO zP zQ zR zS rz zT zU zV zW zX rA zY zZ z0 Aa Ab rB Ac yq yt yu yw qb yx w8 w9 xa xb nK xc vd ve vf vg mX vh rN rO rP rQ jn rR jR jS jT jU eP jV mY mZ m5 m7 gA m8 xf xg xh xj nL xl qc qd qf qg iP qh tJ tK tL tM kP tN oi oj oo oq hU ot ou ox oy oz hV oB tO tP tQ tR kQ tS HR HS HU HV yT HW C2 C3 C4 C5 uE C6 HX HY HZ Ia yU Ib:Value} {j3 tr0 tr1 tr2 tr3 tr4 tr5 tr6 tr7:Tok} {est:Array akx} {nt:Nat} {FK:Addr} {Rh:Value} {Ri:Option Addr} {Ic:Array akx} {Rj:Nat} {Rk:Array (Option Value)} {m9:Addr} {Ad:Value} {Ae:Option Addr} {rC:Array akx} {Af:Nat} {Ag:Array (Option Value)} {vi:Addr} {Ie:Value} {Ig:Option Addr} {yV:Array akx} {Ih:Nat} {Ii:Array (Option Value)} {vj:Addr} {Ij:Value} {Ik:Option Addr} {yW:Array akx} {Il:Nat} {Im:Array (Option Value)} {yy:Addr} {KZ:Value} {K0:Option Addr} {Cy:Array akx} {K1:Nat} {K2:Array (Option Value)} {yz:Addr} {K4:Value} {K5:Option Addr} {Cz:Array akx} {K6:Nat} {K7:Array (Option Value)} {yA:Addr} {K8:Value} {K9:Option Addr} {CA:Array akx} {La:Nat} {Lb:Array (Option Value)} {vk:Addr} {Io:Value} {Ip:Option Addr} {yX:Array akx} {Iq:Nat} {Ir:Array (Option Value)} {CB:Addr} {NP:Value} {NQ:Option Addr} {Ec:Array akx} {NR:Nat} {NS:Array (Option Value)} {vn:Addr} {Iu:Value} {Iv:Option Addr} {yY:Array akx} {Iw:Nat} {Iy:Array (Option Value)} {CC:Addr} {NT:Value} {NU:Option Addr} {Ee:Array akx} {NV:Nat} {NW:Array (Option Value)} {Rm TC:Str} {Rn:List Value} {Ro:List Str} {Rp:List Value} {Rq:Bool} {Rr:Option Bool} {Rt:Option Addr} {Ru Rv Rw Rx Ry:Option Value} {Rz:Bool} {Iz Lc:Str} {IA:List Value} {IB:List Str} {IC:List Value} {ID:Bool} {IE:Option Bool} {IF:Option Addr} {IG IH II IJ IK:Option Value} {IL:Bool} {IM Ld:Str} {IP:List Value} {IQ:List Str} {IS:List Value} {IT:Bool} {IU:Option Bool} {IV:Option Addr} {IW IZ I0 I9 Ja:Option Value} {Jb:Bool} {Le NX:Str} {Lf:List Value} {Lg:List Str} {Lh:List Value} {Li:Bool} {Lj:Option Bool} {Ll:Option Addr} {Lm Ln Lo Lp Lq:Option Value} {Lr:Bool} {Ls NY:Str} {Lu:List Value} {Lv:List Str} {Lw:List Value} {Lx:Bool} {Ly:Option Bool} {Lz:Option Addr} {LA LB LC LD LF:Option Value} {LG:Bool} {LH NZ:Str} {LI:List Value} {LJ:List Str} {LK:List Value} {LL:Bool} {LM:Option Bool} {LN:Option Addr} {LO LP LQ LR LS:Option Value} {LU:Bool} {Jc LV:Str} {Jd:List Value} {Je:List Str} {Jf:List Value} {Jg:Bool} {Jh:Option Bool} {Ji:Option Addr} {Jj Jk Jl Jm Jn:Option Value} {Jo:Bool} {N0 RA:Str} {N3:List Value} {N4:List Str} {N5:List Value} {N6:Bool} {N7:Option Bool} {N8:Option Addr} {N9 Oa Ob Oc Od:Option Value}  {Jp LW:Str} {Jq:List Value} {Jr:List Str} {Js:List Value} {Jt:Bool} {Ju:Option Bool} {Jv:Option Addr} {Jw Jx Jy Jz JA:Option Value}  {Oe RB:Str} {Of:List Value} {Og:List Str} {Oh:List Value} {Oi:Bool} {Oj:Option Bool} {Ol:Option Addr} {Om Oo Oq Ot Ou:Option Value}  {CD:Value} {Ah:Option Addr} {rD:ClassData} {Ai:Array (Option Value)}
  (a_1:di K gn "fits"=some (some (.ref f_1)))
  (l_1:K.lookup f_1=some ⟨aii,ahQ,.func (fe "fits" "fits" (aS xG) (aO xG) (ag xG) .none aij aik ail ahR ade aim),ah8⟩)
  (cc_1:de K ade "fits"=true)
  (kp_1:da K (.ref f_1)=true)
  (a_2:di K gn "require_fit"=some (some (.ref f_2)))
  (l_2:K.lookup f_2=some ⟨ain,ahS,.func (fe "require_fit" "require_fit" (aS fP) (aO fP) (ag fP) .none aio aip aiq ahT adf air),ah9⟩)
  (cc_2:de K adf "require_fit"=true)
  (kp_2:da K (.ref f_2)=true)
  (a_3:di K gn "laid"=some (some (.ref f_3)))
  (l_3:K.lookup f_3=some ⟨ais,ahU,.func (fe "laid" "laid" (aS xH) (aO xH) (ag xH) .none ait aiu aiv ahV adg aiw),aia⟩)
  (cc_3:de K adg "laid"=true)
  (kp_3:da K (.ref f_3)=true)
  (a_4:di K gn "words_of"=some (some (.ref f_4)))
  (l_4:K.lookup f_4=some ⟨aix,ahW,.func (fe "words_of" "words_of" (aS jw) (aO jw) (ag jw) .none aiy aiz aiA ahX adh aiB),aib⟩)
  (cc_4:de K adh "words_of"=true)
  (kp_4:da K (.ref f_4)=true)
  (a_5:di K gn "clause_of"=some (some (.ref f_5)))
  (l_5:K.lookup f_5=some ⟨aiC,ahY,.func (fe "clause_of" "clause_of" (aS iH) (aO iH) (ag iH) .none aiD aiE aiF ahZ adi aiG),aic⟩)
  (cc_5:de K adi "clause_of"=true)
  (kp_5:da K (.ref f_5)=true)
  (a_6:di K gn "motion_of"=some (some (.ref f_6)))
  (l_6:K.lookup f_6=some ⟨aiH,ah0,.func (fe "motion_of" "motion_of" (aS iI) (aO iI) (ag iI) .none aiI aiJ aiK ah1 adj aiL),aid⟩)
  (cc_6:de K adj "motion_of"=true)
  (kp_6:da K (.ref f_6)=true)
  (a_7:di K gn "bar_of"=some (some (.ref f_7)))
  (l_7:K.lookup f_7=some ⟨aiM,ah2,.func (fe "bar_of" "bar_of" (aS oO) (aO oO) (ag oO) .none aiN aiO aiP ah3 adk aiQ),aie⟩)
  (cc_7:de K adk "bar_of"=true)
  (kp_7:da K (.ref f_7)=true)
  (a_8:di K gn "has_matter"=some (some (.ref f_8)))
  (l_8:K.lookup f_8=some ⟨aiR,ah4,.func (fe "has_matter" "has_matter" (aS eW) (aO eW) (ag eW) .none aiS aiT aiU ah5 adl aiV),aif⟩)
  (cc_8:de K adl "has_matter"=true)
  (kp_8:da K (.ref f_8)=true)
  (a_9:di K gn "can_be_mended"=some (some (.ref f_9)))
  (l_9:K.lookup f_9=some ⟨aiW,ah6,.func (fe "can_be_mended" "can_be_mended" (aS dM) (aO dM) (ag dM) .none aiX aiY aiZ ah7 adn ai0),aih⟩)
  (cc_9:de K adn "can_be_mended"=true)
  (kp_9:da K (.ref f_9)=true)
  (a_10:di K gn "has_what_it_needs"=some (some (.ref S2)))
  (l_10:K.lookup S2=some ⟨ado,abj,.func (fe "has_what_it_needs" "has_what_it_needs" (aS cH) (aO cH) (ag cH) .none adp adq ads abk Uj adt),acv⟩)
  (jq4G:de K Uj "has_what_it_needs"=true)
  (jq4H:da K (.ref S2)=true)
  (a_11:di K gn "require_in_order"=some (some (.ref S3)))
  (l_11:K.lookup S3=some ⟨adu,abl,.func (fe "require_in_order" "require_in_order" (aS cL) (aO cL) (ag cL) .none adv adw adx abm Uk ady),acw⟩)
  (jq4I:de K Uk "require_in_order"=true)
  (jq4J:da K (.ref S3)=true)
  (a_12:di K gn "words_of_text"=some (some (.ref S4)))
  (l_12:K.lookup S4=some ⟨adz,abn,.func (fe "words_of_text" "words_of_text" (aS dN) (aO dN) (ag dN) .none adA adB adC abo Ul adD),acx⟩)
  (jq4K:de K Ul "words_of_text"=true)
  (jq4L:da K (.ref S4)=true)
  (a_13:di K gn "words_of_edit"=some (some (.ref S5)))
  (l_13:K.lookup S5=some ⟨adE,abp,.func (fe "words_of_edit" "words_of_edit" (aS dO) (aO dO) (ag dO) .none adF adG adH abq Um adI),acy⟩)
  (jq4M:de K Um "words_of_edit"=true)
  (jq4N:da K (.ref S5)=true)
  (a_14:di K gn "words_behind"=some (some (.ref S6)))
  (l_14:K.lookup S6=some ⟨adJ,abr,.func (fe "words_behind" "words_behind" (aS dB) (aO dB) (ag dB) .none adK adL adM abt Uo adN),acz⟩)
  (jq4O:de K Uo "words_behind"=true)
  (jq4P:da K (.ref S6)=true)
  (a_15:di K gn "show_deed"=some (some (.ref S7)))
  (l_15:K.lookup S7=some ⟨adO,abu,.func (fe "show_deed" "show_deed" (aS iJ) (aO iJ) (ag iJ) .none adP adQ adR abv Up adS),acA⟩)
  (jq4Q:de K Up "show_deed"=true)
  (jq4R:da K (.ref S7)=true)
  (a_16:di K gn "is_kept"=some (some (.ref S8)))
  (l_16:K.lookup S8=some ⟨adT,abw,.func (fe "is_kept" "is_kept" (aS lK) (aO lK) (ag lK) .none adU adV adW abx Uq adX),acB⟩)
  (jq4S:de K Uq "is_kept"=true)
  (jq4T:da K (.ref S8)=true)
  (a_17:di K gn "_law_cell_at"=some (some (.ref S9)))
  (l_17:K.lookup S9=some ⟨adY,aby,.func (fe "_law_cell_at" "_law_cell_at" (aS iK) (aO iK) (ag iK) .none adZ ad0 ad1 abz Ur ad2),acC⟩)
  (jq4U:de K Ur "_law_cell_at"=true)
  (jq4V:da K (.ref S9)=true)
  (a_18:di K gn "_law_word"=some (some (.ref Ta)))
  (l_18:K.lookup Ta=some ⟨ad3,abA,.func (fe "_law_word" "_law_word" (aS oU) (aO oU) (ag oU) .none ad4 ad5 ad6 abB Us ad7),acD⟩)
  (jq4W:de K Us "_law_word"=true)
  (jq4X:da K (.ref Ta)=true)
  (a_19:di K gn "_law_clause"=some (some (.ref Tb)))
  (l_19:K.lookup Tb=some ⟨ad8,abC,.func (fe "_law_clause" "_law_clause" (aS jy) (aO jy) (ag jy) .none ad9 aea aeb abD Ut aec),acE⟩)
  (jq4Y:de K Ut "_law_clause"=true)
  (jq4Z:da K (.ref Tb)=true)
  (a_20:di K gn "_law_edit"=some (some (.ref Tc)))
  (l_20:K.lookup Tc=some ⟨aed,abE,.func (fe "_law_edit" "_law_edit" (aS oW) (aO oW) (ag oW) .none aee aef aeg abF Uu aeh),acF⟩)
  (jq50:de K Uu "_law_edit"=true)
  (jq51:da K (.ref Tc)=true)
  (a_21:di K gn "_law_fits"=some (some (.ref Td)))
  (l_21:K.lookup Td=some ⟨aei,abG,.func (fe "_law_fits" "_law_fits" (aS oX) (aO oX) (ag oX) .none aej aek ael abH Uv aem),acG⟩)
  (jq52:de K Uv "_law_fits"=true)
  (jq53:da K (.ref Td)=true)
  (a_22:di K gn "_law_laid"=some (some (.ref Te)))
  (l_22:K.lookup Te=some ⟨aen,abI,.func (fe "_law_laid" "_law_laid" (aS oY) (aO oY) (ag oY) .none aeo aep aeq abJ Uw aer),acH⟩)
  (jq54:de K Uw "_law_laid"=true)
  (jq55:da K (.ref Te)=true)
  (a_23:di K gn "_law_words"=some (some (.ref Tf)))
  (l_23:K.lookup Tf=some ⟨aes,abK,.func (fe "_law_words" "_law_words" (aS lL) (aO lL) (ag lL) .none aet aeu aev abL Ux aew),acI⟩)
  (jq56:de K Ux "_law_words"=true)
  (jq57:da K (.ref Tf)=true)
  (a_24:di K gn "_law_rank"=some (some (.ref Tg)))
  (l_24:K.lookup Tg=some ⟨aex,abM,.func (fe "_law_rank" "_law_rank" (aS oZ) (aO oZ) (ag oZ) .none aey aez aeA abN Uy aeB),acJ⟩)
  (jq58:de K Uy "_law_rank"=true)
  (jq59:da K (.ref Tg)=true)
  (a_25:di K gn "_law_new"=some (some (.ref Th)))
  (l_25:K.lookup Th=some ⟨aeC,abO,.func (fe "_law_new" "_law_new" (aS tZ) (aO tZ) (ag tZ) .none aeD aeE aeF abP Uz aeG),acK⟩)
  (jq5a:de K Uz "_law_new"=true)
  (jq5b:da K (.ref Th)=true)
  (a_26:di K gn "_law_now"=some (some (.ref Ti)))
  (l_26:K.lookup Ti=some ⟨aeH,abQ,.func (fe "_law_now" "_law_now" (aS t5) (aO t5) (ag t5) .none aeI aeJ aeK abR UA aeL),acL⟩)
  (jq5c:de K UA "_law_now"=true)
  (jq5d:da K (.ref Ti)=true)
  (a_27:di K gn "_law_bar"=some (some (.ref Tj)))
  (l_27:K.lookup Tj=some ⟨aeM,abS,.func (fe "_law_bar" "_law_bar" (aS t6) (aO t6) (ag t6) .none aeN aeO aeP abT UB aeQ),acM⟩)
  (jq5e:de K UB "_law_bar"=true)
  (jq5f:da K (.ref Tj)=true)
  (a_28:di K gn "_law_lacks"=some (some (.ref Tn)))
  (l_28:K.lookup Tn=some ⟨aeR,abU,.func (fe "_law_lacks" "_law_lacks" (aS lN) (aO lN) (ag lN) .none aeS aeT aeU abV UC aeV),acN⟩)
  (jq5g:de K UC "_law_lacks"=true)
  (jq5h:da K (.ref Tn)=true)
  (a_29:di K gn "_law_keep"=some (some (.ref To)))
  (l_29:K.lookup To=some ⟨aeW,abW,.func (fe "_law_keep" "_law_keep" (aS o8) (aO o8) (ag o8) .none aeX aeY aeZ abX UD ae0),acO⟩)
  (jq5i:de K UD "_law_keep"=true)
  (jq5j:da K (.ref To)=true)
  (a_30:di K gn "_law_ended"=some (some (.ref Tp)))
  (l_30:K.lookup Tp=some ⟨ae1,abY,.func (fe "_law_ended" "_law_ended" (aS lO) (aO lO) (ag lO) .none ae2 ae3 ae4 abZ UE ae5),acP⟩)
  (jq5k:de K UE "_law_ended"=true)
  (jq5l:da K (.ref Tp)=true)
  (a_31:di K gn "_law_voted"=some (some (.ref Tq)))
  (l_31:K.lookup Tq=some ⟨ae6,ab0,.func (fe "_law_voted" "_law_voted" (aS lP) (aO lP) (ag lP) .none ae7 ae8 ae9 ab1 UG afa),acQ⟩)
  (jq5m:de K UG "_law_voted"=true)
  (jq5n:da K (.ref Tq)=true)
  (a_32:di K gn "_law_taken"=some (some (.ref Tr)))
  (l_32:K.lookup Tr=some ⟨afb,ab2,.func (fe "_law_taken" "_law_taken" (aS lQ) (aO lQ) (ag lQ) .none afc afd afe ab3 UH aff),acR⟩)
  (jq5o:de K UH "_law_taken"=true)
  (jq5p:da K (.ref Tr)=true)
  (a_33:di K gn "_law_due"=some (some (.ref Ts)))
  (l_33:K.lookup Ts=some ⟨afg,ab4,.func (fe "_law_due" "_law_due" (aS t7) (aO t7) (ag t7) .none afh afi afj ab5 UI afk),acS⟩)
  (jq5q:de K UI "_law_due"=true)
  (jq5r:da K (.ref Ts)=true)
  (a_34:di K gn "_law_vote"=some (some (.ref Tt)))
  (l_34:K.lookup Tt=some ⟨afl,ab6,.func (fe "_law_vote" "_law_vote" (aS o9) (aO o9) (ag o9) .none afm afn afo ab7 UJ afp),acT⟩)
  (jq5s:de K UJ "_law_vote"=true)
  (jq5t:da K (.ref Tt)=true)
  (a_35:di K gn "_law_guided"=some (some (.ref Tu)))
  (l_35:K.lookup Tu=some ⟨afq,ab8,.func (fe "_law_guided" "_law_guided" (aS jA) (aO jA) (ag jA) .none afr afs aft ab9 UK afu),acU⟩)
  (jq5u:de K UK "_law_guided"=true)
  (jq5v:da K (.ref Tu)=true)
  (a_36:di K gn "_law_deed"=some (some (.ref Tv)))
  (l_36:K.lookup Tv=some ⟨afv,aca,.func (fe "_law_deed" "_law_deed" (aS l8) (aO l8) (ag l8) .none afw afx afy acb UL afz),acV⟩)
  (jq5w:de K UL "_law_deed"=true)
  (jq5x:da K (.ref Tv)=true)
  (a_37:di K gn "_law_done"=some (some (.ref Tw)))
  (l_37:K.lookup Tw=some ⟨afA,acd,.func (fe "_law_done" "_law_done" (aS pd) (aO pd) (ag pd) .none afB afC afD ace UM afE),acW⟩)
  (jq5y:de K UM "_law_done"=true)
  (jq5z:da K (.ref Tw)=true)
  (a_38:di K gn "_law_seats"=some (some (.ref Tx)))
  (l_38:K.lookup Tx=some ⟨afF,acf,.func (fe "_law_seats" "_law_seats" (aS lR) (aO lR) (ag lR) .none afG afH afI acg UN afJ),acX⟩)
  (jq5A:de K UN "_law_seats"=true)
  (jq5B:da K (.ref Tx)=true)
  (a_39:di K gn "_law_stands"=some (some (.ref Tz)))
  (l_39:K.lookup Tz=some ⟨afK,ach,.func (fe "_law_stands" "_law_stands" (aS jB) (aO jB) (ag jB) .none afL afM afN aci UO afO),acY⟩)
  (jq5C:de K UO "_law_stands"=true)
  (jq5D:da K (.ref Tz)=true)
  (a_40:di K gn "_law_pile_good"=some (some (.ref TB)))
  (l_40:K.lookup TB=some ⟨afP,acj,.func (fe "_law_pile_good" "_law_pile_good" (aS fQ) (aO fQ) (ag fQ) .none afQ afR afS ack UP afT),acZ⟩)
  (jq5E:de K UP "_law_pile_good"=true)
  (jq5F:da K (.ref TB)=true)
  (a_41:di K gn "law"=some (some (.ref WQ)))
  (l_41:K.lookup WQ=some ⟨afU,acn,.func (fe "law" "law" (aS r9) (aO r9) (ag r9) .none UQ UR US Ui QV UT),ac8⟩)
  (jq5G:de K QV "law"=true)
  (jq5H:da K (.ref WQ)=true)
  (z1:di K gn "range"=some none)
  (z2:di K gn "list"=some none)
  (z3:di K gn "isinstance"=some none)
  (z4:di K gn "len"=some none)
  (z5:di K gn "max"=some none)
  (z6:di K gn "any"=some none)
  (z7:di K gn "str"=some none)
  (z8:di K gn "sorted"=some none)
  (z9:di K gn "int"=some none)
  (z10:di K gn "ValueError"=some none)
  (jq1Q:di K gn "CLOSED_BAR"=some (some (.int 4 j3)))
  (ac0:di K gn "Matter"=some (some (.ref c0)))
  (ac1:di K gn "Change"=some (some (.ref c1)))
  (ac2:di K gn "Mend"=some (some (.ref c2)))
  (ac3:di K gn "PutOff"=some (some (.ref c3)))
  (ac4:di K gn "Close"=some (some (.ref c4)))
  (ac5:di K gn "Lay"=some (some (.ref c5)))
  (ac6:di K gn "Rest"=some (some (.ref c6)))
  (ac7:di K gn "Point"=some (some (.ref c7)))
  (acm:di K gn "Motion"=some (some (.ref cm)))
  (atb:di K gn "RANKS"=some (some (.ref tb)))
  (ltb:K.lookup tb=some ⟨.type "dict",none,.dict est nt,#[]⟩)
  (ktb:PySem.W.KeysLit P est.toList)
  (rk0:di K tb (ar "matter")=some (some (.int 0 tr0)))
  (rk1:di K tb (ar "change")=some (some (.int 1 tr1)))
  (rk2:di K tb (ar "mend")=some (some (.int 2 tr2)))
  (rk3:di K tb (ar "put off")=some (some (.int 3 tr3)))
  (rk4:di K tb (ar "close")=some (some (.int 4 tr4)))
  (rk5:di K tb (ar "lay")=some (some (.int 5 tr5)))
  (rk6:di K tb (ar "rest")=some (some (.int 6 tr6)))
  (rk7:di K tb (ar "point")=some (some (.int 7 tr7)))
  (pg0:aj9 K c0 aj6=true)
  (hd0:aj7 K c0=true)
  (po0:ake K c0=true)
  (sa0:cb K (.ref c0) "__setattr__"=some (some (.builtin "object.__setattr__")))
  (mk0:akk K c0=true)
  (kc0:da K (.ref c0)=true)
  (pg1:aj9 K c1 aj6=true)
  (hd1:aj7 K c1=true)
  (po1:ake K c1=true)
  (sa1:cb K (.ref c1) "__setattr__"=some (some (.builtin "object.__setattr__")))
  (mk1:akk K c1=true)
  (kc1:da K (.ref c1)=true)
  (pg2:aj9 K c2 aj6=true)
  (hd2:aj7 K c2=true)
  (po2:ake K c2=true)
  (sa2:cb K (.ref c2) "__setattr__"=some (some (.builtin "object.__setattr__")))
  (mk2:akk K c2=true)
  (kc2:da K (.ref c2)=true)
  (pg3:aj9 K c3 aj6=true)
  (hd3:aj7 K c3=true)
  (po3:ake K c3=true)
  (sa3:cb K (.ref c3) "__setattr__"=some (some (.builtin "object.__setattr__")))
  (mk3:akk K c3=true)
  (kc3:da K (.ref c3)=true)
  (pg4:aj9 K c4 aj6=true)
  (hd4:aj7 K c4=true)
  (po4:ake K c4=true)
  (sa4:cb K (.ref c4) "__setattr__"=some (some (.builtin "object.__setattr__")))
  (mk4:akk K c4=true)
  (kc4:da K (.ref c4)=true)
  (pg5:aj9 K c5 aj6=true)
  (hd5:aj7 K c5=true)
  (po5:ake K c5=true)
  (sa5:cb K (.ref c5) "__setattr__"=some (some (.builtin "object.__setattr__")))
  (mk5:akk K c5=true)
  (kc5:da K (.ref c5)=true)
  (pg6:aj9 K c6 aj6=true)
  (hd6:aj7 K c6=true)
  (po6:ake K c6=true)
  (sa6:cb K (.ref c6) "__setattr__"=some (some (.builtin "object.__setattr__")))
  (mk6:akk K c6=true)
  (kc6:da K (.ref c6)=true)
  (pg7:aj9 K c7 aj6=true)
  (hd7:aj7 K c7=true)
  (po7:ake K c7=true)
  (sa7:cb K (.ref c7) "__setattr__"=some (some (.builtin "object.__setattr__")))
  (mk7:akk K c7=true)
  (kc7:da K (.ref c7)=true)
  (jq39:cb K (.ref c0) "kind"=some (some (.ref Hq)))
  (jq5I:K.lookup Hq=some ⟨XR,WR,.func (fe "kind" "Matter.kind" (aS fw) (aO fw) (ag fw) .none XS XT XU WS QW XW),Xv⟩)
  (jq3H:de K QW "Matter.kind"=true)
  (jq3a:da K (.ref Hq)=true)
  (jq3I:ma K (.ref Hq)=true)
  (jq3b:cb K (.ref c1) "kind"=some (some (.ref Hr)))
  (jq5J:K.lookup Hr=some ⟨XX,WT,.func (fe "kind" "Change.kind" (aS fA) (aO fA) (ag fA) .none XY XZ X0 WU QX X9),Xw⟩)
  (jq3J:de K QX "Change.kind"=true)
  (jq3c:da K (.ref Hr)=true)
  (jq3K:ma K (.ref Hr)=true)
  (jq3d:cb K (.ref c2) "kind"=some (some (.ref Hs)))
  (jq5K:K.lookup Hs=some ⟨Ya,WV,.func (fe "kind" "Mend.kind" (aS iD) (aO iD) (ag iD) .none Yb Yc Yd WW QY Ye),Xx⟩)
  (jq3L:de K QY "Mend.kind"=true)
  (jq3e:da K (.ref Hs)=true)
  (jq3M:ma K (.ref Hs)=true)
  (jq3f:cb K (.ref c3) "kind"=some (some (.ref Ht)))
  (jq5L:K.lookup Ht=some ⟨Yf,WX,.func (fe "kind" "PutOff.kind" (aS fB) (aO fB) (ag fB) .none Yg Yh Yi WY QZ Yj),Xy⟩)
  (jq3N:de K QZ "PutOff.kind"=true)
  (jq3g:da K (.ref Ht)=true)
  (jq3O:ma K (.ref Ht)=true)
  (jq3h:cb K (.ref c4) "kind"=some (some (.ref Hu)))
  (jq5M:K.lookup Hu=some ⟨Yk,WZ,.func (fe "kind" "Close.kind" (aS gF) (aO gF) (ag gF) .none Yl Ym Yn W0 Q0 Yo),Xz⟩)
  (jq3P:de K Q0 "Close.kind"=true)
  (jq3i:da K (.ref Hu)=true)
  (jq3Q:ma K (.ref Hu)=true)
  (jq3j:cb K (.ref c5) "kind"=some (some (.ref Hv)))
  (jq5N:K.lookup Hv=some ⟨Yp,W2,.func (fe "kind" "Lay.kind" (aS jv) (aO jv) (ag jv) .none Yq Yr Ys W3 Q1 Yt),XA⟩)
  (jq3R:de K Q1 "Lay.kind"=true)
  (jq3k:da K (.ref Hv)=true)
  (jq3S:ma K (.ref Hv)=true)
  (jq3l:cb K (.ref c6) "kind"=some (some (.ref Hw)))
  (jq5O:K.lookup Hw=some ⟨Yu,W4,.func (fe "kind" "Rest.kind" (aS iE) (aO iE) (ag iE) .none Yv Yw Yx W5 Q2 Yy),XB⟩)
  (jq3T:de K Q2 "Rest.kind"=true)
  (jq3m:da K (.ref Hw)=true)
  (jq3U:ma K (.ref Hw)=true)
  (jq3n:cb K (.ref c7) "kind"=some (some (.ref Hx)))
  (jq5P:K.lookup Hx=some ⟨Yz,W6,.func (fe "kind" "Point.kind" (aS gG) (aO gG) (ag gG) .none YA YB YC W7 Q3 YD),XC⟩)
  (jq3V:de K Q3 "Point.kind"=true)
  (jq3o:da K (.ref Hx)=true)
  (jq3W:ma K (.ref Hx)=true)
  (jq3X:cb K (.ref c0) "rank"=some (some (.ref zo)))
  (jq3Y:cb K (.ref c1) "rank"=some (some (.ref zo)))
  (jq3Z:cb K (.ref c2) "rank"=some (some (.ref zo)))
  (jq40:cb K (.ref c3) "rank"=some (some (.ref zo)))
  (jq41:cb K (.ref c4) "rank"=some (some (.ref zo)))
  (jq42:cb K (.ref c5) "rank"=some (some (.ref zo)))
  (jq43:cb K (.ref c6) "rank"=some (some (.ref zo)))
  (jq44:cb K (.ref c7) "rank"=some (some (.ref zo)))
  (l_mr:K.lookup zo=some ⟨afV,aco,.func (fe "rank" "Motion.rank" (aS fD) (aO fD) (ag fD) .none afW afX afY acp UU afZ),ac9⟩)
  (jq5Q:de K UU "Motion.rank"=true)
  (jq1U:da K (.ref zo)=true)
  (jq2m:ma K (.ref zo)=true)
  (jq45:cb K (.ref c0) "need"=some (some (.ref Cw)))
  (jq46:cb K (.ref c1) "need"=some (some (.ref Cw)))
  (jq47:cb K (.ref c2) "need"=some (some (.ref Cw)))
  (jq48:cb K (.ref c3) "need"=some (some (.ref Cw)))
  (jq49:cb K (.ref c5) "need"=some (some (.ref Cw)))
  (jq4a:cb K (.ref c6) "need"=some (some (.ref Cw)))
  (jq4b:cb K (.ref c7) "need"=some (some (.ref Cw)))
  (l_mn:K.lookup Cw=some ⟨af0,acq,.func (fe "need" "Motion.need" (aS fE) (aO fE) (ag fE) .none af1 af2 af3 acr UW af4),ada⟩)
  (jq5R:de K UW "Motion.need"=true)
  (jq2n:da K (.ref Cw)=true)
  (jq2M:ma K (.ref Cw)=true)
  (jq3p:cb K (.ref c4) "need"=some (some (.ref Hy)))
  (jq5S:K.lookup Hy=some ⟨YE,W8,.func (fe "need" "Close.need" (aS gH) (aO gH) (ag gH) .none YF YG YH W9 Q4 YI),XD⟩)
  (jq4c:de K Q4 "Close.need"=true)
  (jq3q:da K (.ref Hy)=true)
  (jq4d:ma K (.ref Hy)=true)
  (jq4e:cb K (.ref c4) "told"=some (some (.ref KY)))
  (jq4f:cb K (.ref c5) "told"=some (some (.ref KY)))
  (jq4g:cb K (.ref c6) "told"=some (some (.ref KY)))
  (l_mt:K.lookup KY=some ⟨af5,acs,.func (fe "told" "Motion.told" (aS fF) (aO fF) (ag fF) .none af6 af7 af8 acu UX af9),adb⟩)
  (jq5T:de K UX "Motion.told"=true)
  (jq38:da K (.ref KY)=true)
  (jq3G:ma K (.ref KY)=true)
  (jq3r:cb K (.ref c0) "told"=some (some (.ref Hz)))
  (jq5U:K.lookup Hz=some ⟨YJ,Xa,.func (fe "told" "Matter.told" (aS fG) (aO fG) (ag fG) .none YK YL YM Xb Q5 YN),XE⟩)
  (jq4h:de K Q5 "Matter.told"=true)
  (jq3s:da K (.ref Hz)=true)
  (jq4i:ma K (.ref Hz)=true)
  (jq3t:cb K (.ref c1) "told"=some (some (.ref HA)))
  (jq5V:K.lookup HA=some ⟨YO,Xd,.func (fe "told" "Change.told" (aS fH) (aO fH) (ag fH) .none YQ YR YS Xe Q6 YT),XF⟩)
  (jq4j:de K Q6 "Change.told"=true)
  (jq3u:da K (.ref HA)=true)
  (jq4k:ma K (.ref HA)=true)
  (jq3v:cb K (.ref c2) "told"=some (some (.ref HB)))
  (jq5W:K.lookup HB=some ⟨YU,Xf,.func (fe "told" "Mend.told" (aS iF) (aO iF) (ag iF) .none YV YW YX Xg Q7 YY),XG⟩)
  (jq4l:de K Q7 "Mend.told"=true)
  (jq3w:da K (.ref HB)=true)
  (jq4m:ma K (.ref HB)=true)
  (jq3x:cb K (.ref c3) "told"=some (some (.ref HC)))
  (jq5X:K.lookup HC=some ⟨YZ,Xh,.func (fe "told" "PutOff.told" (aS fJ) (aO fJ) (ag fJ) .none Y0 Y1 Y2 Xi Q8 Y3),XH⟩)
  (jq4n:de K Q8 "PutOff.told"=true)
  (jq3y:da K (.ref HC)=true)
  (jq4o:ma K (.ref HC)=true)
  (jq3z:cb K (.ref c7) "told"=some (some (.ref HD)))
  (jq5Y:K.lookup HD=some ⟨Y4,Xj,.func (fe "told" "Point.told" (aS gI) (aO gI) (ag gI) .none Y5 Y6 Y7 Xk Q9 Y8),XI⟩)
  (jq4p:de K Q9 "Point.told"=true)
  (jq3A:da K (.ref HD)=true)
  (jq4q:ma K (.ref HD)=true)
  (jq3B:cb K (.ref c0) "__init__"=some (some (.ref HE)))
  (jq5Z:K.lookup HE=some ⟨Y9,Xl,.func (fe "__init__" "Matter.__init__" (aS fK) (aO fK) (ag fK) .none Za Zb Zc Xm Ra Zd),XJ⟩)
  (jq4r:de K Ra "Matter.__init__"=true)
  (jq4s:da K (.ref HE)=true)
  (jq4t:ma K (.ref HE)=true)
  (jq3C:cb K (.ref c1) "__init__"=some (some (.ref HF)))
  (jq60:K.lookup HF=some ⟨Ze,Xn,.func (fe "__init__" "Change.__init__" (aS fL) (aO fL) (ag fL) .none Zf Zg Zh Xo Rb Zi),XM⟩)
  (jq4u:de K Rb "Change.__init__"=true)
  (jq4v:da K (.ref HF)=true)
  (jq4w:ma K (.ref HF)=true)
  (jq3D:cb K (.ref c2) "__init__"=some (some (.ref HG)))
  (jq61:K.lookup HG=some ⟨Zj,Xp,.func (fe "__init__" "Mend.__init__" (aS iG) (aO iG) (ag iG) .none Zk Zl Zm Xq Rc Zn),XN⟩)
  (jq4x:de K Rc "Mend.__init__"=true)
  (jq4y:da K (.ref HG)=true)
  (jq4z:ma K (.ref HG)=true)
  (jq3E:cb K (.ref c3) "__init__"=some (some (.ref HI)))
  (jq62:K.lookup HI=some ⟨Zo,Xr,.func (fe "__init__" "PutOff.__init__" (aS fM) (aO fM) (ag fM) .none Zp Zq Zr Xs Rf Zs),XO⟩)
  (jq4A:de K Rf "PutOff.__init__"=true)
  (jq4B:da K (.ref HI)=true)
  (jq4C:ma K (.ref HI)=true)
  (jq3F:cb K (.ref c7) "__init__"=some (some (.ref HJ)))
  (jq63:K.lookup HJ=some ⟨Zt,Xt,.func (fe "__init__" "Point.__init__" (aS gJ) (aO gJ) (ag gJ) .none Zu Zv Zw Xu Rg Zx),XQ⟩)
  (jq4D:de K Rg "Point.__init__"=true)
  (jq4E:da K (.ref HJ)=true)
  (jq4F:ma K (.ref HJ)=true)
  (na0:cb K (.ref c0) "text"=some none)
  (na1:cb K (.ref c1) "edit"=some none)
  (na2:cb K (.ref c2) "edit"=some none)
  (na3:cb K (.ref c3) "sitting"=some none)
  (na7:cb K (.ref c7) "clause"=some none)
  (ni4:cb K (.ref c4) "__init__"=some (some (.builtin "object.__init__")))
  (ni5:cb K (.ref c5) "__init__"=some (some (.builtin "object.__init__")))
  (ni6:cb K (.ref c6) "__init__"=some (some (.builtin "object.__init__")))
  (jq2o:di K gn "Chamber"=some (some (.ref bg)))
  (jq2p:aj9 K bg aj6=true)
  (jq2q:aj7 K bg=true)
  (jq2r:ake K bg=true)
  (jq2s:cb K (.ref bg) "__setattr__"=some (some (.builtin "object.__setattr__")))
  (jq2t:akk K bg=true)
  (jq2u:da K (.ref bg)=true)
  (jq1t:cb K (.ref bg) "__init__"=some (some (.ref cc)))
  (jq1L:K.lookup cc=some ⟨zF,zp,.func (fe "__init__" "Chamber.__init__" (aS eu) (aO eu) (ag eu) .none zG zH zI zq rp zJ),zA⟩)
  (jq1u:de K rp "Chamber.__init__"=true)
  (jq1v:da K (.ref cc)=true)
  (jq1w:ma K (.ref cc)=true)
  (jq1x:cb K (.ref bg) "move"=some (some (.ref cf)))
  (jq1M:K.lookup cf=some ⟨zK,zr,.func (fe "move" "Chamber.move" (aS eA) (aO eA) (ag eA) .none zL zM zN zt rq zO),zB⟩)
  (jq1y:de K rq "Chamber.move"=true)
  (jq17:da K (.ref cf)=true)
  (jq1z:ma K (.ref cf)=true)
  (jq1A:cb K (.ref bg) "vote"=some (some (.ref cg)))
  (jq1N:K.lookup cg=some ⟨zP,zu,.func (fe "vote" "Chamber.vote" (aS eB) (aO eB) (ag eB) .none zQ zR zS zv rz zT),zC⟩)
  (jq1B:de K rz "Chamber.vote"=true)
  (jq18:da K (.ref cg)=true)
  (jq1C:ma K (.ref cg)=true)
  (jq1D:cb K (.ref bg) "drop"=some (some (.ref cj)))
  (jq1O:K.lookup cj=some ⟨zU,zw,.func (fe "drop" "Chamber.drop" (aS eC) (aO eC) (ag eC) .none zV zW zX zx rA zY),zD⟩)
  (jq1E:de K rA "Chamber.drop"=true)
  (jq19:da K (.ref cj)=true)
  (jq1F:ma K (.ref cj)=true)
  (jq1G:cb K (.ref bg) "take"=some (some (.ref ck)))
  (jq1P:K.lookup ck=some ⟨zZ,zy,.func (fe "take" "Chamber.take" (aS eD) (aO eD) (ag eD) .none z0 Aa Ab zz rB Ac),zE⟩)
  (jq1H:de K rB "Chamber.take"=true)
  (jq1a:da K (.ref ck)=true)
  (jq1I:ma K (.ref ck)=true)
  (jq1l:cb K (.ref bg) "state"=some (some (.ref bW)))
  (jq1J:K.lookup bW=some ⟨yq,yn,.func (fe "state" "Chamber.state" (aS cY) (aO cY) (ag cY) .none yt yu yw yo qb yx),yp⟩)
  (jq1m:de K qb "Chamber.state"=true)
  (jq14:da K (.ref bW)=true)
  (jq1n:ma K (.ref bW)=true)
  (jq1e:cb K (.ref bg) "motion"=some (some (.ref bN)))
  (jq1o:K.lookup bN=some ⟨w8,wW,.func (fe "motion" "Chamber.motion" (aS dq) (aO dq) (ag dq) .none w9 xa xb wX nK xc),w5⟩)
  (jq1f:de K nK "Chamber.motion"=true)
  (jqV:da K (.ref bN)=true)
  (jq1g:ma K (.ref bN)=true)
  (jq1b:cb K (.ref bg) "pending"=some (some (.ref bF)))
  (jq1h:K.lookup bF=some ⟨vd,u5,.func (fe "pending" "Chamber.pending" (aS cA) (aO cA) (ag cA) .none ve vf vg va mX vh),vc⟩)
  (jq1c:de K mX "Chamber.pending"=true)
  (jqQ:da K (.ref bF)=true)
  (jq1d:ma K (.ref bF)=true)
  (jqS:cb K (.ref bg) "told_aside"=some (some (.ref bx)))
  (jqX:K.lookup bx=some ⟨rN,rK,.func (fe "told_aside" "Chamber.told_aside" (aS cn) (aO cn) (ag cn) .none rO rP rQ rL jn rR),rM⟩)
  (jqT:de K jn "Chamber.told_aside"=true)
  (jqB:da K (.ref bx)=true)
  (jqU:ma K (.ref bx)=true)
  (jqr:cb K (.ref bg) "require_can_be_made"=some (some (.ref a4)))
  (jqw:K.lookup a4=some ⟨jR,jO,.func (fe "require_can_be_made" "Chamber.require_can_be_made" (aS bA) (aO bA) (ag bA) .none jS jT jU jP eP jV),jQ⟩)
  (jqs:de K eP "Chamber.require_can_be_made"=true)
  (jqn:da K (.ref a4)=true)
  (jqt:ma K (.ref a4)=true)
  (jqy:cb K (.ref bg) "require_pending"=some (some (.ref bb)))
  (jqC:K.lookup bb=some ⟨mY,mU,.func (fe "require_pending" "Chamber.require_pending" (aS bM) (aO bM) (ag bM) .none mZ m5 m7 mV gA m8),mW⟩)
  (jqz:de K gA "Chamber.require_pending"=true)
  (jqp:da K (.ref bb)=true)
  (jqA:ma K (.ref bb)=true)
  (jq1i:cb K (.ref bg) "decide"=some (some (.ref bG)))
  (jq1p:K.lookup bG=some ⟨xf,wY,.func (fe "decide" "Chamber.decide" (aS du) (aO du) (ag du) .none xg xh xj wZ nL xl),w6⟩)
  (jq1j:de K nL "Chamber.decide"=true)
  (jqW:da K (.ref bG)=true)
  (jq1k:ma K (.ref bG)=true)
  (jqL:cb K (.ref bg) "end_decision"=some (some (.ref bh)))
  (jqR:K.lookup bh=some ⟨qc,p8,.func (fe "end_decision" "Chamber.end_decision" (aS bY) (aO bY) (ag bY) .none qd qf qg p9 iP qh),qa⟩)
  (jqM:de K iP "Chamber.end_decision"=true)
  (jqx:da K (.ref bh)=true)
  (jqN:ma K (.ref bh)=true)
  (jqY:cb K (.ref bg) "carry_out"=some (some (.ref bB)))
  (jq15:K.lookup bB=some ⟨tJ,tD,.func (fe "carry_out" "Chamber.carry_out" (aS cF) (aO cF) (ag cF) .none tK tL tM tE kP tN),tH⟩)
  (jqZ:de K kP "Chamber.carry_out"=true)
  (jqD:da K (.ref bB)=true)
  (jq10:ma K (.ref bB)=true)
  (jqF:cb K (.ref bg) "lay_on_matter"=some (some (.ref bp)))
  (jqO:K.lookup bp=some ⟨oi,n8,.func (fe "lay_on_matter" "Chamber.lay_on_matter" (aS bS) (aO bS) (ag bS) .none oj oo oq n9 hU ot),og⟩)
  (jqG:de K hU "Chamber.lay_on_matter"=true)
  (jqu:da K (.ref bp)=true)
  (jqH:ma K (.ref bp)=true)
  (jqI:cb K (.ref bg) "lay_on_change"=some (some (.ref bq)))
  (jqP:K.lookup bq=some ⟨ou,oa,.func (fe "lay_on_change" "Chamber.lay_on_change" (aS bT) (aO bT) (ag bT) .none ox oy oz oe hV oB),oh⟩)
  (jqJ:de K hV "Chamber.lay_on_change"=true)
  (jqv:da K (.ref bq)=true)
  (jqK:ma K (.ref bq)=true)
  (jq11:cb K (.ref bg) "put_aside"=some (some (.ref bC)))
  (jq16:K.lookup bC=some ⟨tO,tF,.func (fe "put_aside" "Chamber.put_aside" (aS cG) (aO cG) (ag cG) .none tP tQ tR tG kQ tS),tI⟩)
  (jq12:de K kQ "Chamber.put_aside"=true)
  (jqE:da K (.ref bC)=true)
  (jq13:ma K (.ref bC)=true)
  (jqq:cb K (.ref bg) "seats"=some none)
  (jq1:cb K (.ref bg) "sitting"=some none)
  (jq4:cb K (.ref bg) "closed"=some none)
  (jq2:cb K (.ref bg) "made"=some none)
  (jq0:cb K (.ref bg) "pile"=some none)
  (jq3:cb K (.ref bg) "aside"=some none)
  (jqj:cb K (.ref bg) "decided"=some none)
  (jqb:cb K (.ref bg) "first_texts"=some none)
  (jq5:cb K (.ref bg) "edits_kept"=some none)
  (jqk:cb K (.ref bg) "rows"=some none)
  (jq1K:di K gn "ChamberError"=some (some (.ref aZ)))
  (jq33:di K gn "NoFit"=some (some (.ref wV)))
  (jq2N:di K gn "Barred"=some (some (.ref mM)))
  (jq1V:di K gn "NoMatter"=some (some (.ref mO)))
  (jq1W:di K gn "NoChange"=some (some (.ref mP)))
  (jq1X:di K gn "NotLater"=some (some (.ref iA)))
  (jq2v:di K gn "Nothing"=some (some (.ref p0)))
  (jq2w:di K gn "TooMany"=some (some (.ref p6)))
  (jq2x:di K gn "NoAside"=some (some (.ref p7)))
  (jq2O:di K gn "NotYet"=some (some (.ref mQ)))
  (jq1Y:di K gn "NoNumber"=some (some (.ref mR)))
  (jq34:K.lookup wV=some (akc Rm TC wV FK Rn (.ref aZ::qT) Rz Ro Rp Rq Rr Rt Ru Rv Rw Rx Ry "ValueError.__new__"))
  (jq1Z:K.lookup mO=some (akc Iz Lc mO vi IA (.ref aZ::qT) IL IB IC ID IE IF IG IH II IJ IK "ValueError.__new__"))
  (jq20:K.lookup mP=some (akc IM Ld mP vj IP (.ref aZ::qT) Jb IQ IS IT IU IV IW IZ I0 I9 Ja "ValueError.__new__"))
  (jq2y:K.lookup p0=some (akc Le NX p0 yy Lf (.ref aZ::qT) Lr Lg Lh Li Lj Ll Lm Ln Lo Lp Lq "ValueError.__new__"))
  (jq2z:K.lookup p6=some (akc Ls NY p6 yz Lu (.ref aZ::qT) LG Lv Lw Lx Ly Lz LA LB LC LD LF "ValueError.__new__"))
  (jq2A:K.lookup p7=some (akc LH NZ p7 yA LI (.ref aZ::qT) LU LJ LK LL LM LN LO LP LQ LR LS "ValueError.__new__"))
  (jq21:K.lookup mR=some (akc Jc LV mR vk Jd (.ref aZ::qT) Jo Je Jf Jg Jh Ji Jj Jk Jl Jm Jn "ValueError.__new__"))
  (jq2P:K.lookup mM=some (akc N0 RA mM CB N3 (.ref aZ::qT) true N4 N5 N6 N7 N8 N9 Oa Ob Oc Od "ValueError.__new__"))
  (jq22:K.lookup iA=some (akc Jp LW iA vn Jq (.ref aZ::qT) true Jr Js Jt Ju Jv Jw Jx Jy Jz JA "ValueError.__new__"))
  (jq2Q:K.lookup mQ=some (akc Oe RB mQ CC Of (.ref aZ::qT) true Og Oh Oi Oj Ol Om Oo Oq Ot Ou "ValueError.__new__"))
  (jq6:K.lookup aZ=some ⟨CD,Ah,.cls rD,Ai⟩)
  (jq7:rD.ns=m9)
  (jq35:K.lookup FK=some ⟨Rh,Ri,.dict Ic Rj,Rk⟩)
  (jq36:strKeys Ic=true)
  (jq37:di K FK "__init__"=some none)
  (jq8:K.lookup m9=some ⟨Ad,Ae,.dict rC Af,Ag⟩)
  (jq9:strKeys rC=true)
  (jqa:di K m9 "__init__"=some none)
  (jq23:K.lookup vi=some ⟨Ie,Ig,.dict yV Ih,Ii⟩)
  (jq24:strKeys yV=true)
  (jq25:di K vi "__init__"=some none)
  (jq26:K.lookup vj=some ⟨Ij,Ik,.dict yW Il,Im⟩)
  (jq27:strKeys yW=true)
  (jq28:di K vj "__init__"=some none)
  (jq2B:K.lookup yy=some ⟨KZ,K0,.dict Cy K1,K2⟩)
  (jq2C:strKeys Cy=true)
  (jq2D:di K yy "__init__"=some none)
  (jq2E:K.lookup yz=some ⟨K4,K5,.dict Cz K6,K7⟩)
  (jq2F:strKeys Cz=true)
  (jq2G:di K yz "__init__"=some none)
  (jq2H:K.lookup yA=some ⟨K8,K9,.dict CA La,Lb⟩)
  (jq2I:strKeys CA=true)
  (jq2J:di K yA "__init__"=some none)
  (jq29:K.lookup vk=some ⟨Io,Ip,.dict yX Iq,Ir⟩)
  (jq2a:strKeys yX=true)
  (jq2b:di K vk "__init__"=some none)
  (jq2R:K.lookup CB=some ⟨NP,NQ,.dict Ec NR,NS⟩)
  (jq2S:strKeys Ec=true)
  (jq2T:di K CB "__init__"=some (some (.ref mS)))
  (jq2c:K.lookup vn=some ⟨Iu,Iv,.dict yY Iw,Iy⟩)
  (jq2d:strKeys yY=true)
  (jq2e:di K vn "__init__"=some (some (.ref jh)))
  (jq2U:K.lookup CC=some ⟨NT,NU,.dict Ee NV,NW⟩)
  (jq2V:strKeys Ee=true)
  (jq2W:di K CC "__init__"=some (some (.ref mT)))
  (jq1q:PySem.W.readsIn K aZ (.type "type")=true)
  (jq1r:PySem.W.specialIn K (.ref aZ) "__getattribute__"=some (some (.builtin "type.__getattribute__")))
  (jq1s:PySem.W.findCls K (.ref aZ) (.type "type") "__init__"=some (.val (.builtin "ValueError.__init__")))
  (jqo:ajP K (.ref wV) (.ref aZ)=some true)
  (jqc:ajP K (.ref mO) (.ref aZ)=some true)
  (jqd:ajP K (.ref mP) (.ref aZ)=some true)
  (jqg:ajP K (.ref p0) (.ref aZ)=some true)
  (jqh:ajP K (.ref p6) (.ref aZ)=some true)
  (jqi:ajP K (.ref p7) (.ref aZ)=some true)
  (jqe:ajP K (.ref mR) (.ref aZ)=some true)
  (jq2K:K.lookup mS=some ⟨HR,HK,.func (fe "__init__" "Barred.__init__" (aS fN) (aO fN) (ag fN) .none HS HU HV HL yT HW),HP⟩)
  (jq2f:de K yT "Barred.__init__"=true)
  (jq2g:da K (.ref mS)=true)
  (jq2X:ma K (.ref mS)=true)
  (jq2Y:cb K (.ref mM) "__setattr__"=some (some (.builtin "object.__setattr__")))
  (jq2Z:cb K (.ref mM) "bar"=some none)
  (jql:ajP K (.ref mM) (.ref aZ)=some true)
  (jq1T:K.lookup jh=some ⟨C2,CZ,.func (fe "__init__" "NotLater.__init__" (aS dJ) (aO dJ) (ag dJ) .none C3 C4 C5 C0 uE C6),C1⟩)
  (jq1R:de K uE "NotLater.__init__"=true)
  (jq1S:da K (.ref jh)=true)
  (jq2h:ma K (.ref jh)=true)
  (jq2i:cb K (.ref iA) "__setattr__"=some (some (.builtin "object.__setattr__")))
  (jq2j:cb K (.ref iA) "sitting"=some none)
  (jqf:ajP K (.ref iA) (.ref aZ)=some true)
  (jq2L:K.lookup mT=some ⟨HX,HM,.func (fe "__init__" "NotYet.__init__" (aS fO) (aO fO) (ag fO) .none HY HZ Ia HN yU Ib),HQ⟩)
  (jq2k:de K yU "NotYet.__init__"=true)
  (jq2l:da K (.ref mT)=true)
  (jq30:ma K (.ref mT)=true)
  (jq31:cb K (.ref mQ) "__setattr__"=some (some (.builtin "object.__setattr__")))
  (jq32:cb K (.ref mQ) "sitting"=some none)
  (jqm:ajP K (.ref mQ) (.ref aZ)=some true) :
  ∃fd:kg,(∀(s:Shared) (v:Value),BindsTo s fd ⟨[v],[]⟩ [("_law_script",v)])/\∀base:Heap,K.In base->base.Ns gn mg->aK l.prog w K mg base CX0 20 fa fd ["_law_script"] (MR K):=by
 have e:=hfa.symm.trans (kf X G a_41);cases e;have F_1:=aX (st:=xG) l_1 cc_1 kp_1;have b_1:=F_1.binds (ps:=["things","edit"]) λ_ _ _ _ _ _ us hl=>match us,hl with | [_,_],_=>rfl
 have F_2:=aX (st:=fP) l_2 cc_2 kp_2;have b_2:=F_2.binds (ps:=["things","edit"]) λ_ _ _ _ _ _ us hl=>match us,hl with | [_,_],_=>rfl
 have F_3:=aX (st:=xH) l_3 cc_3 kp_3;have b_3:=F_3.binds (ps:=["things","edit"]) λ_ _ _ _ _ _ us hl=>match us,hl with | [_,_],_=>rfl
 have F_4:=aX (st:=jw) l_4 cc_4 kp_4;have b_4:=F_4.binds (ps:=["clause"]) λ_ _ _ _ _ _ us hl=>match us,hl with | [_],_=>rfl
 have F_5:=aX (st:=iH) l_5 cc_5 kp_5;have b_5:=F_5.binds (ps:=["words"]) λ_ _ _ _ _ _ us hl=>match us,hl with | [_],_=>rfl
 have F_6:=aX (st:=iI) l_6 cc_6 kp_6;have b_6:=F_6.binds (ps:=["told"]) λ_ _ _ _ _ _ us hl=>match us,hl with | [_],_=>rfl
 have F_7:=aX (st:=oO) l_7 cc_7 kp_7;have b_7:=F_7.binds (ps:=["pile","closed"]) λ_ _ _ _ _ _ us hl=>match us,hl with | [_,_],_=>rfl
 have F_8:=aX (st:=eW) l_8 cc_8 kp_8;have b_8:=F_8.binds (ps:=["pile"]) λ_ _ _ _ _ _ us hl=>match us,hl with | [_],_=>rfl
 have F_9:=aX (st:=dM) l_9 cc_9 kp_9;have b_9:=F_9.binds (ps:=["pile"]) λ_ _ _ _ _ _ us hl=>match us,hl with | [_],_=>rfl
 have aga:=aX (st:=cH) l_10 jq4G jq4H;have ai1:=aga.binds (ps:=["kind","pile"]) λ_ _ _ _ _ _ us hl=>match us,hl with | [_,_],_=>rfl
 have agb:=aX (st:=cL) l_11 jq4I jq4J;have ai2:=agb.binds (ps:=["kind","pile","closed"]) λ_ _ _ _ _ _ us hl=>match us,hl with | [_,_,_],_=>rfl
 have agc:=aX (st:=dN) l_12 jq4K jq4L;have ai3:=agc.binds (ps:=["text"]) λ_ _ _ _ _ _ us hl=>match us,hl with | [_],_=>rfl
 have agd:=aX (st:=dO) l_13 jq4M jq4N;have ai4:=agd.binds (ps:=["edit"]) λ_ _ _ _ _ _ us hl=>match us,hl with | [_],_=>rfl
 have age:=aX (st:=dB) l_14 jq4O jq4P;have ai5:=age.binds (ps:=["deed"]) λ_ _ _ _ _ _ us hl=>match us,hl with | [_],_=>rfl
 have agf:=aX (st:=iJ) l_15 jq4Q jq4R;have ai6:=agf.binds (ps:=["deed"]) λ_ _ _ _ _ _ us hl=>match us,hl with | [_],_=>rfl
 have agg:=aX (st:=lK) l_16 jq4S jq4T;have ai7:=agg.binds (ps:=["need","ayes","noes"]) λ_ _ _ _ _ _ us hl=>match us,hl with | [_,_,_],_=>rfl
 have agh:=aX (st:=iK) l_17 jq4U jq4V;have ai8:=agh.binds (ps:=["_law_script","_law_k"]) λ_ _ _ _ _ _ us hl=>match us,hl with | [_,_],_=>rfl
 have agi:=aX (st:=oU) l_18 jq4W jq4X;have ai9:=agi.binds (ps:=["_law_cell"]) λ_ _ _ _ _ _ us hl=>match us,hl with | [_],_=>rfl
 have agj:=aX (st:=jy) l_19 jq4Y jq4Z;have aja:=agj.binds (ps:=["_law_cell"]) λ_ _ _ _ _ _ us hl=>match us,hl with | [_],_=>rfl
 have agk:=aX (st:=oW) l_20 jq50 jq51;have ajb:=agk.binds (ps:=["_law_cell","_law_size","_law_thing"]) λ_ _ _ _ _ _ us hl=>match us,hl with | [_,_,_],_=>rfl
 have agl:=aX (st:=oX) l_21 jq52 jq53;have ajc:=agl.binds (ps:=["_law_things","_law_edit_here"]) λ_ _ _ _ _ _ us hl=>match us,hl with | [_,_],_=>rfl
 have agm:=aX (st:=oY) l_22 jq54 jq55;have ajd:=agm.binds (ps:=["_law_things","_law_edit_here"]) λ_ _ _ _ _ _ us hl=>match us,hl with | [_,_],_=>rfl
 have agn:=aX (st:=lL) l_23 jq56 jq57;have aje:=agn.binds (ps:=["_law_clause_here"]) λ_ _ _ _ _ _ us hl=>match us,hl with | [_],_=>rfl
 have ago:=aX (st:=oZ) l_24 jq58 jq59;have ajf:=ago.binds (ps:=["_law_kind"]) λ_ _ _ _ _ _ us hl=>match us,hl with | [_],_=>rfl
 have agp:=aX (st:=tZ) l_25 jq5a jq5b;have ajg:=agp.binds (ps:=[]) λ_ _ _ _ _ _ us hl=>match us,hl with | [],_=>rfl
 have agq:=aX (st:=t5) l_26 jq5c jq5d;have ajh:=agq.binds (ps:=["_law_m","_law_number"]) λ_ _ _ _ _ _ us hl=>match us,hl with | [_,_],_=>rfl
 have agr:=aX (st:=t6) l_27 jq5e jq5f;have aji:=agr.binds (ps:=["_law_m"]) λ_ _ _ _ _ _ us hl=>match us,hl with | [_],_=>rfl
 have ags:=aX (st:=lN) l_28 jq5g jq5h;have ajj:=ags.binds (ps:=["_law_m","_law_motion"]) λ_ _ _ _ _ _ us hl=>match us,hl with | [_,_],_=>rfl
 have agt:=aX (st:=o8) l_29 jq5i jq5j;have ajk:=agt.binds (ps:=["_law_m","_law_motion"]) λ_ _ _ _ _ _ us hl=>match us,hl with | [_,_],_=>rfl
 have agu:=aX (st:=lO) l_30 jq5k jq5l;have ajl:=agu.binds (ps:=["_law_m","_law_word_here"]) λ_ _ _ _ _ _ us hl=>match us,hl with | [_,_],_=>rfl
 have agv:=aX (st:=lP) l_31 jq5m jq5n;have ajm:=agv.binds (ps:=["_law_m","_law_ayes","_law_noes","_law_seats_here"]) λ_ _ _ _ _ _ us hl=>match us,hl with | [_,_,_,_],_=>rfl
 have agw:=aX (st:=lQ) l_32 jq5o jq5p;have ajn:=agw.binds (ps:=["_law_m","_law_number"]) λ_ _ _ _ _ _ us hl=>match us,hl with | [_,_],_=>rfl
 have agx:=aX (st:=t7) l_33 jq5q jq5r;have ajo:=agx.binds (ps:=["_law_m","_law_deed_here","_law_seats_here"]) λ_ _ _ _ _ _ us hl=>match us,hl with | [_,_,_],_=>rfl
 have agy:=aX (st:=o9) l_34 jq5s jq5t;have ajp:=agy.binds (ps:=["_law_cell","_law_seats_here"]) λ_ _ _ _ _ _ us hl=>match us,hl with | [_,_],_=>rfl
 have agz:=aX (st:=jA) l_35 jq5u jq5v;have ajq:=agz.binds (ps:=["_law_m","_law_way"]) λ_ _ _ _ _ _ us hl=>match us,hl with | [_,_],_=>rfl
 have agA:=aX (st:=l8) l_36 jq5w jq5x;have ajr:=agA.binds (ps:=["_law_m","_law_cell","_law_seats_here"]) λ_ _ _ _ _ _ us hl=>match us,hl with | [_,_,_],_=>rfl
 have agB:=aX (st:=pd) l_37 jq5y jq5z;have ajs:=agB.binds (ps:=["_law_chamber","_law_deed_here"]) λ_ _ _ _ _ _ us hl=>match us,hl with | [_,_],_=>rfl
 have agC:=aX (st:=lR) l_38 jq5A jq5B;have ajt:=agC.binds (ps:=["_law_cell"]) λ_ _ _ _ _ _ us hl=>match us,hl with | [_],_=>rfl
 have agD:=aX (st:=jB) l_39 jq5C jq5D;have aju:=agD.binds (ps:=["_law_below","_law_one"]) λ_ _ _ _ _ _ us hl=>match us,hl with | [_,_],_=>rfl
 have agE:=aX (st:=fQ) l_40 jq5E jq5F;have ajv:=agE.binds (ps:=["_law_told"]) λ_ _ _ _ _ _ us hl=>match us,hl with | [_],_=>rfl
 have ajw:=aX (st:=r9) l_41 jq5G jq5H;have UY:=aX (st:=fw) jq5I jq3H jq3a;have agF:=UY.binds (ps:=["self"]) λ_ _ _ _ _ _ us hl=>match us,hl with | [_],_=>rfl
 have UZ:=aX (st:=fA) jq5J jq3J jq3c;have agG:=UZ.binds (ps:=["self"]) λ_ _ _ _ _ _ us hl=>match us,hl with | [_],_=>rfl
 have U0:=aX (st:=iD) jq5K jq3L jq3e;have agH:=U0.binds (ps:=["self"]) λ_ _ _ _ _ _ us hl=>match us,hl with | [_],_=>rfl
 have U4:=aX (st:=fB) jq5L jq3N jq3g;have agI:=U4.binds (ps:=["self"]) λ_ _ _ _ _ _ us hl=>match us,hl with | [_],_=>rfl
 have U5:=aX (st:=gF) jq5M jq3P jq3i;have agJ:=U5.binds (ps:=["self"]) λ_ _ _ _ _ _ us hl=>match us,hl with | [_],_=>rfl
 have U6:=aX (st:=jv) jq5N jq3R jq3k;have agK:=U6.binds (ps:=["self"]) λ_ _ _ _ _ _ us hl=>match us,hl with | [_],_=>rfl
 have U7:=aX (st:=iE) jq5O jq3T jq3m;have agL:=U7.binds (ps:=["self"]) λ_ _ _ _ _ _ us hl=>match us,hl with | [_],_=>rfl
 have U8:=aX (st:=gG) jq5P jq3V jq3o;have agM:=U8.binds (ps:=["self"]) λ_ _ _ _ _ _ us hl=>match us,hl with | [_],_=>rfl
 have agN:=aX (st:=fD) l_mr jq5Q jq1U;have ajx:=agN.binds (ps:=["self"]) λ_ _ _ _ _ _ us hl=>match us,hl with | [_],_=>rfl
 have agO:=aX (st:=fE) l_mn jq5R jq2n;have LX:=agO.binds (ps:=["self"]) λ_ _ _ _ _ _ us hl=>match us,hl with | [_],_=>rfl
 have U9:=aX (st:=gH) jq5S jq4c jq3q;have agP:=U9.binds (ps:=["self"]) λ_ _ _ _ _ _ us hl=>match us,hl with | [_],_=>rfl
 have agQ:=aX (st:=fF) l_mt jq5T jq38;have Zy:=agQ.binds (ps:=["self"]) λ_ _ _ _ _ _ us hl=>match us,hl with | [_],_=>rfl
 have Va:=aX (st:=fG) jq5U jq4h jq3s;have agR:=Va.binds (ps:=["self"]) λ_ _ _ _ _ _ us hl=>match us,hl with | [_],_=>rfl
 have Vb:=aX (st:=fH) jq5V jq4j jq3u;have agS:=Vb.binds (ps:=["self"]) λ_ _ _ _ _ _ us hl=>match us,hl with | [_],_=>rfl
 have Vc:=aX (st:=iF) jq5W jq4l jq3w;have agT:=Vc.binds (ps:=["self"]) λ_ _ _ _ _ _ us hl=>match us,hl with | [_],_=>rfl
 have Vd:=aX (st:=fJ) jq5X jq4n jq3y;have agU:=Vd.binds (ps:=["self"]) λ_ _ _ _ _ _ us hl=>match us,hl with | [_],_=>rfl
 have Ve:=aX (st:=gI) jq5Y jq4p jq3A;have agV:=Ve.binds (ps:=["self"]) λ_ _ _ _ _ _ us hl=>match us,hl with | [_],_=>rfl
 have Vf:=aX (st:=fK) jq5Z jq4r jq4s;have agW:=Vf.binds (ps:=["self","text"]) λ_ _ _ _ _ _ us hl=>match us,hl with | [_,_],_=>rfl
 have Vg:=aX (st:=fL) jq60 jq4u jq4v;have agX:=Vg.binds (ps:=["self","edit"]) λ_ _ _ _ _ _ us hl=>match us,hl with | [_,_],_=>rfl
 have Vh:=aX (st:=iG) jq61 jq4x jq4y;have agY:=Vh.binds (ps:=["self","edit"]) λ_ _ _ _ _ _ us hl=>match us,hl with | [_,_],_=>rfl
 have Vi:=aX (st:=fM) jq62 jq4A jq4B;have agZ:=Vi.binds (ps:=["self","sitting"]) λ_ _ _ _ _ _ us hl=>match us,hl with | [_,_],_=>rfl
 have Vj:=aX (st:=gJ) jq63 jq4D jq4E;have ag0:=Vj.binds (ps:=["self","clause"]) λ_ _ _ _ _ _ us hl=>match us,hl with | [_,_],_=>rfl
 have gh:=aX (st:=eu) jq1L jq1u jq1v;have iY:=gh.binds (ps:=["self","seats"]) λ_ _ _ _ _ _ us hl=>match us,hl with | [_,_],_=>rfl
 have gi:=aX (st:=eA) jq1M jq1y jq17;have iZ:=gi.binds (ps:=["self","told"]) λ_ _ _ _ _ _ us hl=>match us,hl with | [_,_],_=>rfl
 have gj:=aX (st:=eB) jq1N jq1B jq18;have i3:=gj.binds (ps:=["self","ayes","noes"]) λ_ _ _ _ _ _ us hl=>match us,hl with | [_,_,_],_=>rfl
 have gk:=aX (st:=eC) jq1O jq1E jq19;have i4:=gk.binds (ps:=["self"]) λ_ _ _ _ _ _ us hl=>match us,hl with | [_],_=>rfl
 have gq:=aX (st:=eD) jq1P jq1H jq1a;have i5:=gq.binds (ps:=["self","number"]) λ_ _ _ _ _ _ us hl=>match us,hl with | [_,_],_=>rfl
 have fm:=aX (st:=cY) jq1J jq1m jq14;have il:=fm.binds (ps:=["self"]) λ_ _ _ _ _ _ us hl=>match us,hl with | [_],_=>rfl
 have eF:=aX (st:=dq) jq1o jq1f jqV;have eG:=eF.binds (ps:=["self","number"]) λ_ _ _ _ _ _ us hl=>match us,hl with | [_,_],_=>rfl
 have dW:=aX (st:=cA) jq1h jq1c jqQ;have dX:=dW.binds (ps:=["self"]) λ_ _ _ _ _ _ us hl=>match us,hl with | [_],_=>rfl
 have cT:=aX (st:=cn) jqX jqT jqB;have dY:=cT.binds (ps:=["self","number"]) λ_ _ _ _ _ _ us hl=>match us,hl with | [_,_],_=>rfl
 have bL:=aX (st:=bA) jqw jqs jqn;have b8:=bL.binds (ps:=["self","told"]) λ_ _ _ _ _ _ us hl=>match us,hl with | [_,_],_=>rfl
 have b6:=aX (st:=bM) jqC jqz jqp;have b7:=b6.binds (ps:=["self"]) λ_ _ _ _ _ _ us hl=>match us,hl with | [_],_=>rfl
 have eI:=aX (st:=du) jq1p jq1j jqW;have eJ:=eI.binds (ps:=["self","word"]) λ_ _ _ _ _ _ us hl=>match us,hl with | [_,_],_=>rfl
 have cB:=aX (st:=bY) jqR jqM jqx;have cC:=cB.binds (ps:=["self","deed"]) λ_ _ _ _ _ _ us hl=>match us,hl with | [_,_],_=>rfl
 have c8:=aX (st:=cF) jq15 jqZ jqD;have d8:=c8.binds (ps:=["self","motion"]) λ_ _ _ _ _ _ us hl=>match us,hl with | [_,_],_=>rfl
 have cv:=aX (st:=bS) jqO jqG jqu;have cV:=cv.binds (ps:=["self","edit"]) λ_ _ _ _ _ _ us hl=>match us,hl with | [_,_],_=>rfl
 have cw:=aX (st:=bT) jqP jqJ jqv;have cW:=cw.binds (ps:=["self","edit"]) λ_ _ _ _ _ _ us hl=>match us,hl with | [_,_],_=>rfl
 have dc:=aX (st:=cG) jq16 jq12 jqE;have df:=dc.binds (ps:=["self","until"]) λ_ _ _ _ _ _ us hl=>match us,hl with | [_,_],_=>rfl
 have mr:=aX (st:=fN) jq2K jq2f jq2g;have mw:=mr.binds (ps:=["self","bar"]) λ_ _ _ _ _ _ us hl=>match us,hl with | [_,_],_=>rfl
 have i7:=aX (st:=dJ) jq1T jq1R jq1S;have lz:=i7.binds (ps:=["self","sitting"]) λ_ _ _ _ _ _ us hl=>match us,hl with | [_,_],_=>rfl
 have mx:=aX (st:=fO) jq2L jq2k jq2l;have qH:=mx.binds (ps:=["self","sitting"]) λ_ _ _ _ _ _ us hl=>match us,hl with | [_,_],_=>rfl
 have T:Txt P K mg ⟨f_1,_,f_2,_,f_3,_,f_4,_,f_5,_,f_6,_,f_7,_,f_8,_,f_9,_,S2,_,S3,_,S4,_,S5,_,S6,_,S7,_,S8,_,S9,_,Ta,_,Tb,_,Tc,_,Td,_,Te,_,Tf,_,Tg,_,Th,_,Ti,_,Tj,_,Tn,_,To,_,Tp,_,Tq,_,Tr,_,Ts,_,Tt,_,Tu,_,Tv,_,Tw,_,Tx,_,Tz,_,TB,_,j3,c0,c1,c2,c3,c4,c5,c6,c7,cm,tb,Hq,_,Hr,_,Hs,_,Ht,_,Hu,_,Hv,_,Hw,_,Hx,_,zo,_,Cw,_,Hy,_,KY,_,Hz,_,HA,_,HB,_,HC,_,HD,_,HE,_,HF,_,HG,_,HI,_,HJ,_,bg,cc,_,cf,_,cg,_,cj,_,ck,_,bW,_,bN,_,bF,_,bx,_,a4,_,bb,_,bG,_,bh,_,bB,_,bp,_,bq,_,bC,_,aZ,wV,mM,mO,mP,iA,p0,p6,p7,mQ,mR,mS,_,jh,_,mT,_⟩:={
  J9:=F_1,
  PH:=b_1,
  PK:=kf X G a_1,
  g8:=F_2,
  j4:=b_2,
  j5:=kf X G a_2,
  EZ:=F_3,
  Ka:=b_3,
  Kb:=kf X G a_3,
  iu:=F_4,
  jD:=b_4,
  jE:=kf X G a_4,
  nv:=F_5,
  sj:=b_5,
  sv:=kf X G a_5,
  ny:=F_6,
  yG:=b_6,
  yH:=kf X G a_6,
  we:=F_7,
  Bj:=b_7,
  Bk:=kf X G a_7,
  ly:=F_8,
  qD:=b_8,
  qE:=kf X G a_8,
  kS:=F_9,
  qX:=b_9,
  qY:=kf X G a_9,
  gW:=aga,
  k9:=ai1,
  lb:=kf X G a_10,
  iw:=agb,
  mh:=ai2,
  mi:=kf X G a_11,
  kT:=agc,
  qZ:=ai3,
  q0:=kf X G a_12,
  kU:=agd,
  q5:=ai4,
  q8:=kf X G a_13,
  mj:=age,
  sx:=ai5,
  sy:=kf X G a_14,
  kD:=agf,
  nz:=ai6,
  nA:=kf X G a_15,
  xK:=agg,
  Dz:=ai7,
  DA:=kf X G a_16,
  sA:=agh,
  yI:=ai8,
  yJ:=kf X G a_17,
  wg:=agi,
  Bl:=ai9,
  Bm:=kf X G a_18,
  mq:=agj,
  qF:=aja,
  qG:=kf X G a_19,
  wj:=agk,
  Bn:=ajb,
  Bo:=kf X G a_20,
  pD:=agl,
  sC:=ajc,
  sD:=kf X G a_21,
  wk:=agm,
  Bp:=ajd,
  Bq:=kf X G a_22,
  lV:=agn,
  pE:=aje,
  pF:=kf X G a_23,
  pG:=ago,
  sE:=ajf,
  sF:=kf X G a_24,
  E1:=agp,
  Mc:=ajg,
  Md:=kf X G a_25,
  iX:=agq,
  j6:=ajh,
  j7:=kf X G a_26,
  wm:=agr,
  Ay:=aji,
  Az:=kf X G a_27,
  xM:=ags,
  DB:=ajj,
  DC:=kf X G a_28,
  Br:=agt,
  Gs:=ajk,
  Gu:=kf X G a_29,
  ui:=agu,
  xN:=ajl,
  xO:=kf X G a_30,
  xP:=agv,
  DD:=ajm,
  DE:=kf X G a_31,
  xQ:=agw,
  DF:=ajn,
  DG:=kf X G a_32,
  E2:=agx,
  Me:=ajo,
  Mf:=kf X G a_33,
  Bs:=agy,
  Gv:=ajp,
  Gw:=kf X G a_34,
  uM:=agz,
  Bt:=ajq,
  Bu:=kf X G a_35,
  Bv:=agA,
  Gx:=ajr,
  Gy:=kf X G a_36,
  Bw:=agB,
  Gz:=ajs,
  GA:=kf X G a_37,
  xR:=agC,
  DH:=ajt,
  DI:=kf X G a_38,
  uN:=agD,
  Bx:=aju,
  By:=kf X G a_39,
  nP:=agE,
  uz:=ajv,
  uA:=kf X G a_40,
  AA:=akj X G z1,
  sG:=akj X G z2,
  E3:=akj X G z3,
  q9:=akj X G z4,
  GB:=akj X G z5,
  T5:=akj X G z6,
  PL:=akj X G z7,
  Bz:=akj X G z8,
  PM:=akj X G z9,
  E4:=akj X G z10,
  wo:=kf X G jq1Q,
  cl:=λk hk=>match k,hk with | 0,_=>⟨pg0,hd0,po0,sa0⟩ | 1,_=>⟨pg1,hd1,po1,sa1⟩ | 2,_=>⟨pg2,hd2,po2,sa2⟩ | 3,_=>⟨pg3,hd3,po3,sa3⟩ | 4,_=>⟨pg4,hd4,po4,sa4⟩ | 5,_=>⟨pg5,hd5,po5,sa5⟩ | 6,_=>⟨pg6,hd6,po6,sa6⟩ | 7,_=>⟨pg7,hd7,po7,sa7⟩ | n+8,h=>absurd h (by omega),
  wq:=kf X G ac0,
  wu:=kf X G ac1,
  Kc:=kf X G ac2,
  BA:=kf X G ac3,
  E5:=kf X G ac4,
  PN:=kf X G ac5,
  Kd:=kf X G ac6,
  E6:=kf X G ac7,
  E7:=kf X G atb,
  tb:=⟨est,nt,ltb,ktb⟩,
  rk:=λk hk=>match k,hk with | 0,_=>⟨_,rk0⟩ | 1,_=>⟨_,rk1⟩ | 2,_=>⟨_,rk2⟩ | 3,_=>⟨_,rk3⟩ | 4,_=>⟨_,rk4⟩ | 5,_=>⟨_,rk5⟩ | 6,_=>⟨_,rk6⟩ | 7,_=>⟨_,rk7⟩ | n+8,h=>absurd h (by omega),
  nQ:=λk hk=>match k,hk with | 0,_=>⟨jq39,jq3I,jq3a⟩ | 1,_=>⟨jq3b,jq3K,jq3c⟩ | 2,_=>⟨jq3d,jq3M,jq3e⟩ | 3,_=>⟨jq3f,jq3O,jq3g⟩ | 4,_=>⟨jq3h,jq3Q,jq3i⟩ | 5,_=>⟨jq3j,jq3S,jq3k⟩ | 6,_=>⟨jq3l,jq3U,jq3m⟩ | 7,_=>⟨jq3n,jq3W,jq3o⟩ | n+8,h=>absurd h (by omega),
  nR:=λk hk=>match k,hk with | 0,_=>agF | 1,_=>agG | 2,_=>agH | 3,_=>agI | 4,_=>agJ | 5,_=>agK | 6,_=>agL | 7,_=>agM | n+8,h=>absurd h (by omega),
  PQ:=λk hk=>match k,hk with | 0,_=>⟨jq45,jq2M,jq2n⟩ | 1,_=>⟨jq46,jq2M,jq2n⟩ | 2,_=>⟨jq47,jq2M,jq2n⟩ | 3,_=>⟨jq48,jq2M,jq2n⟩ | 4,_=>⟨jq3p,jq4d,jq3q⟩ | 5,_=>⟨jq49,jq2M,jq2n⟩ | 6,_=>⟨jq4a,jq2M,jq2n⟩ | 7,_=>⟨jq4b,jq2M,jq2n⟩ | n+8,h=>absurd h (by omega),
  PR:=λk hk=>match k,hk with | 0,_=>LX | 1,_=>LX | 2,_=>LX | 3,_=>LX | 4,_=>agP | 5,_=>LX | 6,_=>LX | 7,_=>LX | n+8,h=>absurd h (by omega),
  Ke:=λk hk=>match k,hk with | 0,_=>⟨jq3r,jq4i,jq3s⟩ | 1,_=>⟨jq3t,jq4k,jq3u⟩ | 2,_=>⟨jq3v,jq4m,jq3w⟩ | 3,_=>⟨jq3x,jq4o,jq3y⟩ | 4,_=>⟨jq4e,jq3G,jq38⟩ | 5,_=>⟨jq4f,jq3G,jq38⟩ | 6,_=>⟨jq4g,jq3G,jq38⟩ | 7,_=>⟨jq3z,jq4q,jq3A⟩ | n+8,h=>absurd h (by omega),
  Kf:=λk hk=>match k,hk with | 0,_=>agR | 1,_=>agS | 2,_=>agT | 3,_=>agU | 4,_=>Zy | 5,_=>Zy | 6,_=>Zy | 7,_=>agV | n+8,h=>absurd h (by omega),
  PU:=λk hk=>match k,hk with | 0,_=>⟨jq3X,jq2m,jq1U⟩ | 1,_=>⟨jq3Y,jq2m,jq1U⟩ | 2,_=>⟨jq3Z,jq2m,jq1U⟩ | 3,_=>⟨jq40,jq2m,jq1U⟩ | 4,_=>⟨jq41,jq2m,jq1U⟩ | 5,_=>⟨jq42,jq2m,jq1U⟩ | 6,_=>⟨jq43,jq2m,jq1U⟩ | 7,_=>⟨jq44,jq2m,jq1U⟩ | n+8,h=>absurd h (by omega),
  PV:=λ_ _=>ajx,
  aal:=UY,
  aam:=UZ,
  aan:=U0,
  aao:=U4,
  aap:=U5,
  aaq:=U6,
  aar:=U7,
  aas:=U8,
  F_r:=agN,
  F_n:=agO,
  aat:=U9,
  F_t:=agQ,
  aau:=Va,
  aav:=Vb,
  aaw:=Vc,
  aax:=Vd,
  aay:=Ve,
  aaz:=Vf,
  aaA:=Vg,
  aaB:=Vh,
  aaC:=Vi,
  aaD:=Vj,
  wy:=⟨mk0,jq3B,jq4t,kc0⟩,
  Sb:=agW,
  na0:=na0,
  wz:=⟨mk1,jq3C,jq4w,kc1⟩,
  Sd:=agX,
  na1:=na1,
  Kg:=⟨mk2,jq3D,jq4z,kc2⟩,
  Wi:=agY,
  na2:=na2,
  BB:=⟨mk3,jq3E,jq4C,kc3⟩,
  Wj:=agZ,
  na3:=na3,
  E8:=⟨mk7,jq3F,jq4F,kc7⟩,
  Wk:=ag0,
  na7:=na7,
  mkn:=λk hk=>by
   rcases hk with rfl | rfl | rfl
   ·exact⟨mk4,ni4,kc4⟩
   ·exact⟨mk5,ni5,kc5⟩
   ·exact⟨mk6,ni6,kc6⟩,
  DJ:=kf X G jq2o,
  aq:=⟨jq2p,jq2q,jq2r,jq2s⟩,
  gh:=gh,
  iY:=iY,
  DK:=⟨jq2t,jq1t,jq1w,jq2u⟩,
  gi:=gi,
  iZ:=iZ,
  sH:=⟨jq1x,jq1z,jq17⟩,
  gj:=gj,
  i3:=i3,
  sI:=⟨jq1A,jq1C,jq18⟩,
  gk:=gk,
  i4:=i4,
  sJ:=⟨jq1D,jq1F,jq19⟩,
  gq:=gq,
  i5:=i5,
  sL:=⟨jq1G,jq1I,jq1a⟩,
  fm:=fm,
  il:=il,
  rg:=⟨jq1l,jq1n,jq14⟩,
  eF:=eF,
  eG:=eG,
  jF:=⟨jq1e,jq1g,jqV⟩,
  dW:=dW,
  dX:=dX,
  i6:=⟨jq1b,jq1d,jqQ⟩,
  cT:=cT,
  dY:=dY,
  kF:=⟨jqS,jqU,jqB⟩,
  bL:=bL,
  b8:=b8,
  eS:=⟨jqr,jqt,jqn⟩,
  b6:=b6,
  b7:=b7,
  dH:=⟨jqy,jqA,jqp⟩,
  eI:=eI,
  eJ:=eJ,
  jG:=⟨jq1i,jq1k,jqW⟩,
  cB:=cB,
  cC:=cC,
  eX:=⟨jqL,jqN,jqx⟩,
  c8:=c8,
  d8:=d8,
  lh:=⟨jqY,jq10,jqD⟩,
  cv:=cv,
  cV:=cV,
  iL:=⟨jqF,jqH,jqu⟩,
  cw:=cw,
  cW:=cW,
  iM:=⟨jqI,jqK,jqv⟩,
  dc:=dc,
  df:=df,
  gX:=⟨jq11,jq13,jqE⟩,
  jqq:=jqq,
  jq1:=jq1,
  jq4:=jq4,
  jq2:=jq2,
  jq0:=jq0,
  jq3:=jq3,
  jqj:=jqj,
  jqb:=jqb,
  jq5:=jq5,
  jqk:=jqk,
  gu:=kf X G jq1K,
  Mg:=kf X G jq33,
  BC:=kf X G jq2N,
  BD:=kf X G jq1V,
  BE:=kf X G jq1W,
  BF:=kf X G jq1X,
  DL:=kf X G jq2v,
  DM:=kf X G jq2w,
  DN:=kf X G jq2x,
  GC:=kf X G jq2O,
  BG:=kf X G jq1Y,
  ip:=⟨jq1q,jq1r,jq1s⟩,
  GD:=⟨⟨_,_,_,_,_,_,_,_,_,_,_,_,_,_,_,_,jq34,⟨⟨_,_,_,_,_,jq35,jq36⟩,jq37⟩,(iS.own jq6 (by rw[jq7];exact⟨⟨_,_,_,_,_,jq8,jq9⟩,jqa⟩) iS.base)⟩⟩,
  jqo:=jqo,
  yK:=⟨⟨_,_,_,_,_,_,_,_,_,_,_,_,_,_,_,_,jq1Z,⟨⟨_,_,_,_,_,jq23,jq24⟩,jq25⟩,(iS.own jq6 (by rw[jq7];exact⟨⟨_,_,_,_,_,jq8,jq9⟩,jqa⟩) iS.base)⟩⟩,
  jqc:=jqc,
  yL:=⟨⟨_,_,_,_,_,_,_,_,_,_,_,_,_,_,_,_,jq20,⟨⟨_,_,_,_,_,jq26,jq27⟩,jq28⟩,(iS.own jq6 (by rw[jq7];exact⟨⟨_,_,_,_,_,jq8,jq9⟩,jqa⟩) iS.base)⟩⟩,
  jqd:=jqd,
  BH:=⟨⟨_,_,_,_,_,_,_,_,_,_,_,_,_,_,_,_,jq2y,⟨⟨_,_,_,_,_,jq2B,jq2C⟩,jq2D⟩,(iS.own jq6 (by rw[jq7];exact⟨⟨_,_,_,_,_,jq8,jq9⟩,jqa⟩) iS.base)⟩⟩,
  jqg:=jqg,
  BI:=⟨⟨_,_,_,_,_,_,_,_,_,_,_,_,_,_,_,_,jq2z,⟨⟨_,_,_,_,_,jq2E,jq2F⟩,jq2G⟩,(iS.own jq6 (by rw[jq7];exact⟨⟨_,_,_,_,_,jq8,jq9⟩,jqa⟩) iS.base)⟩⟩,
  jqh:=jqh,
  BJ:=⟨⟨_,_,_,_,_,_,_,_,_,_,_,_,_,_,_,_,jq2A,⟨⟨_,_,_,_,_,jq2H,jq2I⟩,jq2J⟩,(iS.own jq6 (by rw[jq7];exact⟨⟨_,_,_,_,_,jq8,jq9⟩,jqa⟩) iS.base)⟩⟩,
  jqi:=jqi,
  yM:=⟨⟨_,_,_,_,_,_,_,_,_,_,_,_,_,_,_,_,jq21,⟨⟨_,_,_,_,_,jq29,jq2a⟩,jq2b⟩,(iS.own jq6 (by rw[jq7];exact⟨⟨_,_,_,_,_,jq8,jq9⟩,jqa⟩) iS.base)⟩⟩,
  jqe:=jqe,
  mr:=mr,
  mw:=mw,
  pH:=⟨⟨_,_,_,_,_,_,_,_,_,_,_,_,_,_,_,_,jq2P,(iS.own jq6 (by rw[jq7];exact⟨⟨_,_,_,_,_,jq8,jq9⟩,jqa⟩) iS.base),rfl,⟨⟨_,_,_,_,_,jq2R,jq2S⟩,jq2T⟩⟩,jq2X,jq2Y,jq2Z⟩,
  jql:=jql,
  i7:=i7,
  lz:=lz,
  nB:=⟨⟨_,_,_,_,_,_,_,_,_,_,_,_,_,_,_,_,jq22,(iS.own jq6 (by rw[jq7];exact⟨⟨_,_,_,_,_,jq8,jq9⟩,jqa⟩) iS.base),rfl,⟨⟨_,_,_,_,_,jq2c,jq2d⟩,jq2e⟩⟩,jq2h,jq2i,jq2j⟩,
  jqf:=jqf,
  mx:=mx,
  qH:=qH,
  uj:=⟨⟨_,_,_,_,_,_,_,_,_,_,_,_,_,_,_,_,jq2Q,(iS.own jq6 (by rw[jq7];exact⟨⟨_,_,_,_,_,jq8,jq9⟩,jqa⟩) iS.base),rfl,⟨⟨_,_,_,_,_,jq2U,jq2V⟩,jq2W⟩⟩,jq30,jq31,jq32⟩,
  jqm:=jqm }
 subst hP;exact⟨fe "law" "law" (aS r9) (aO r9) (ag r9) .none UQ UR US Ui QV UT,λs v=>.of_eq rfl,λbase _ _=>WM ajw T⟩
theorem walk {l:PySem.W.OpenLaw}{q:me}{loose:List Str}{XP:(Str->Option Value)->Heap->Prop}{YP:World->Heap->Prop}{d:DefRec}{K:Params->ba}(hn:l.most=some 63)(hdf:d.params.defaults=[])
  (hY:∀(w:World) (h:Heap),YP w h->(K w.params).In h)
  (F:∀(w:World) (mg:Str->Option Value) (fa:Addr) (h:Heap),(K w.params).In h->h.Ns gn mg->mg d.name=some (.ref fa) ->
   ∃fd:kg,(∀(s:Shared) (u:Value),BindsTo s fd ⟨[u],[]⟩ [("_law_script",u)])/\∀base:Heap,(K w.params).In base->base.Ns gn mg->aK l.prog w (K w.params) mg base CX0 20 fa fd ["_law_script"] (MR (K w.params))) :
  PySem.W.WalkO q loose XP YP l.row.toRowW d [] (λf vs=>PySem.call f vs) :=
 L2.RP (n:=63) (k:=20) (x:="_law_script") (CX:=λ_=>CX0) (sp:=λw=>MR (K w.params)) hn (by decide) hdf ⟨rfl,by decide,by decide,rfl⟩ hY F (λ_ _ a ns hl _ hS=>⟨a,ns,rfl,hS,hl,λ_=>rfl⟩) λ_ _ _ _ _ z=>z
end My
structure PySem.W.Fast:Prop where
 (tw11698161753513265398
 tw13081735317814146793
 tw10586167618119094000
 tw6395990284816387094
 tw18393399988381906725
 tw10870780283501982174
 tw9979750659919702852
 tw10160424759899108934
 tw11902184896102557915
 tw7196017488159431648
 tw13919320883991067139
 tw1590017570021961772
 tw8443191243169934377
 tw15033337962915653514
 tw4920146496343521598
 tw14672570121105272511
 tw16253198017451651724
 tw16474495580446500949
 tw13467817204644007556
 tw389762990546069488
 tw16454305528421249938
 tw6592836598876399345
 tw16804314083836570961
 tw16337393518298796834
 tw7392397572979020552
 tw3084729275053652765
 tw5747819847226476072
 tw10342250173844976310
 tw1953190247362068700
 tw5223416590756764115
 tw6215137143554808629
 tw3245333216174605653
 tw5441739608389623129
 tw12916630602343227696
 tw4736323506060851405
 tw16191869654103170721
 tw8601424570090203449
 tw7177047701775028680
 tw540875732801348933
 tw11691233994031414836
 tw16665566347035340324
 tw4917535063647618010
 tw6682411226718850770
 tw2476216479794881795
 tw4430948357455006244
 tw6278342885459270424
 tw12446594324287585911
 tw4600915712617262746
 tw15051222216344263851
 tw14486140061098112632
 tw16276168328728146503
 tw5045012923285685077
 tw304878275548471479
 tw12523107697003263166
 tw5851746494658572564
 tw1728165977007017522
 tw14497728763474722447
 tw11146670164550204122
 tw2562180123599117397
 tw11565187278628492138
 tw17626619697983281969
 tw4198379728091394672
 tw48196194923334844
 tw6879711108984088880
 tw3960928851734215399
 tw6704732544612642551
 tw6357748291955686164
 tw18137165776068535033
 tw10843707638963151715
 tw15079779872684780021
 tw18331774067137652138
 tw3292478062011475525
 tw10092097498479773902
 tw1064152767855131501
 tw4061049878504491831
 tw16317126366983260921
 tw17260049905347105052
 tw4038473882510551764
 tw12155025466846902367
 tw7796140034815075301
 tw12625134492228575623
 tw6440345929661535756
 tw11829974813718835158
 tw1155295998062803497
 tw15050823161067674843
 tw6576737453830255397
 tw10715604585870675748
 tw12681857570438644739
 tw15764349664975801475
 tw10106488367488377603
 tw14114212159870010038
 tw6440745157118305385
 tw15947749563924279192
 tw14951153450553513477
 tw2315529778473508945
 tw16708695323404916922
 tw4287414620398671628
 tw3214536630424280667
 tw12442701636774804518
 tw1387024492099235061
 tw6248317848895285431
 tw10120276739957888858
 tw16020268394575714495
 tw3260824857545658014
 tw13740195062155173483
 tw4045753187506584484
 tw2529521694081867831
 tw620475774223790435
 tw4988193146999074122
 tw3227029713233473074
 tw15211093238274109024
 tw9903671937765238021
 tw2542427333070576365
 tw10430637765552618204
 tw4172239689512659165
 tw1916844587636563670
 tw16975284067276271183
 tw1626731313606198235
 tw9175923861539771868
 tw7151922310406235401
 tw17364084468338045895
 tw2049736813711706480
 tw4630782490047794920
 tw6410608469669197103
 tw14179192457657918942
 tw16931702518890414446
 tw18406681087111334895
 tw10074371756814997760
 tw11574738659321381627
 tw6170432581896784769
 tw1824751336254149305
 tw10161792872888850577
 tw5237963290689650864
 tw1073663617008769207
 tw17035940038455755245
 tw10116962538191281118
 tw5445186077129315513
 tw7831911480309514040
 tw775452201131088441
 tw10928692977840918026
 tw16557559416324225895
 tw18288138214181885571
 tw5849668930802821564
 tw13507619289112022160
 tw3114485375059167079
 tw15225963451324506355
 tw3247923454070257622
 tw15534829555530127891
 tw5571946258435700471
 tw6621741650039832191
 tw14769329082283031977
 tw10190875970420952133
 tw9841956432515504073
 tw12783754843119904615
 tw4953699786772745997
 tw5010001285099945736
 tw18047743992683890255
 tw6487283537954815146
 tw1510669460957677301
 tw1009553051801610009
 tw8862815875507336154
 tw13886111732234319218
 tw1468353561281723221
 tw9208981129886984992
 tw7129705354109273232
 tw2014139448121151580
 tw13452743975712353188
 tw7673237449319722150
 tw2372396812747486768
 tw7988807216848446644
 tw11327829902472117603
 tw11046626742852797215
 tw4793295850124072631
 tw1797582644753377089
 tw13085546187809287414
 tw9687133018031329331
 tw12453998738678960339
 tw14127758188652613198
 tw6598921911521761905
 tw3501428914872901692
 tw9754168674079836255
 tw18167523534631706438
 tw5909329407137466938
 tw10687690246768676617
 tw7330922245333883024
 tw11805660391131314939
 tw2221003756430006529
 tw10867793994150365824
 tw2859511781401636592
 tw1367453737150451213
 tw16375398317288495758
 tw11557159772326596579
 tw11075187681052157117
 tw8610851345748611268
 tw16706446654437348711
 tw6865743047312771623
 tw3087048980849757286
 tw7356214299564785950
 tw17530249986615987512
 tw2274581693618575948
 tw8591846365041657860
 tw8733310645052559289
 tw8590583151126098870
 tw8626367451685657488
 tw17977798812301561284
 tw2620215571988548366
 tw17218860865448696908
 tw2297357140578878357
 tw15206124747309160084
 tw7559140807224271121
 tw16992804934521196055
 tw6381422371888614630
 tw1770222844458933098
 tw4176597952198662257
 tw11193401048903597752
 tw7926641957143395227
 tw14397410429954121331
 tw15658647934704838359
 tw12368727743585250688
 tw6648121988761862939
 tw1070766072296964924
 tw9072530906029004059
 tw9371514421116754589
 tw5940891719730687652
 tw12450455888570901609
 tw2876156475496580186
 tw8615915595875301658
 tw12940440455659834506
 tw10270804566750847199
 tw13634574074991510116
 tw2564468491516460001
 tw5603003807418410530
 tw11381901898322062800
 tw3842326887322654446
 tw10902260663544674528
 tw1855128539332321072
 tw11615579320314562045
 tw9464951938507129202
 tw18311048132243043921
 tw5758308606163807986
 tw11551497393989619473
 tw1944065163551657550
 tw11193220462585849674
 tw1874631307415356312
 tw7204057870475704149
 tw7719714393549360481
 tw16923013572596776474
 tw11013126665362831810
 tw4493832357575532119
 tw10591893960934050153
 tw11463793954846906053
 tw11717195756572468222
 tw282940908470623333
 tw2971578786907366449
 tw10707527266587663983
 tw14858433784188605770
 tw9261653278839538249
 tw13332561766138402213
 tw17780550202966783516
 tw15694210201965574310
 tw5501786414238295223
 tw11397510114351504100
 tw15855725416228848163
 tw7180715760948965371
 tw16917264016832519798
 tw13467203388937826506
 tw16670772793506347017
 tw8421911163018513476
 tw6463941547391654690
 tw4330777139525362119
 tw11386512873861723854
 tw4190983503096194112
 tw13482688729389761367
 tw6104544995918108551
 tw8775065840246498719
 tw2233469806829346446
 tw16504236857893318521
 tw5471158166582848255
 tw13762622794268921738
 tw5916292379024489352
 tw3126384115299583303
 tw3098703701069579229
 tw16083884274599891977
 tw1011446120527808453
 tw13138820714316257193
 tw2042288420635027193
 tw1238991396516528020
 tw12097127967439719634
 tw1021539089091793200
 tw7843475889933123057
 tw10549894915914484569
 tw7680558217092726672
 tw3385088712910727112
 tw3115777681758871309
 tw2035472016936714886
 tw735895713504078485
 tw8069428313940297051
 tw6463949019877152963
 tw1834322846164345631
 tw521218956087433187
 tw15470295826198419701
 tw15659829772413584978
 tw5532444937871161006
 tw12323872279518441496
 tw3992863578113221648
 tw482139766730331096
 tw6886994284471827087
 tw102342462454721768
 tw13790560872165507000
 tw10069585095961817774
 tw5512124198924062094
 tw33293669690053277
 tw1639744832656216209
 tw4410927993294104431
 tw13123701144902583100
 tw3429078247635606783
 tw4930982861366843728
 tw14067882074980499367
 tw5738013370270789441
 tw8398985916525969961
 tw11980860251150492855
 tw2170643128398405825
 tw10398415478740323113
 tw9887661613383900321
 tw13185736831749828697
 tw4062119050748338220
 tw13099228602337119093
 tw15677543189219694371
 tw1420461636899738352
 tw4207378924757730145
 tw2538522349470352268
 tw4830901743414756804
 tw12582606920872166475
 tw10377342089458382756
 tw11478483700871914814
 tw10672283589929935705
 tw13975360927536160819
 tw9340961526827147234
 tw10298046938014260355
 tw7563513724093725417
 tw10619118953398053158
 tw7952950536573891510
 tw4359747092890971640
 tw17882326636955385461
 tw3279250153650532036
 tw9172597631409902621
 tw12952522063962951100
 tw1174347480990510320
 tw5443759752644619397
 tw10655849073764933443
 tw10854998884780755790
 tw2021209902600994344
 tw12659643863784695862
 tw9247767762870997370
 tw12111189909081767729
 tw65755293910954281
 tw11496629410975306854
 tw1756401230288308309
 tw7862057459997399566
 tw2078326199600365759
 tw13801576821140889453
 tw17018865783276174170
 tw5877039942058814545
 tw14689320115648988576
 tw5928769796557835065
 tw14087873767204840309
 tw14552659222420414309
 tw15030838442837886070
 tw6539446489774587643
 tw17202491559747050422
 tw4098878224126995576
 tw17449016082503198423
 tw15180328794049756347
 tw4800046097762218329
 tw12642747404056482692
 tw15755486510459788811
 tw5918387541542956498
 tw4163131700456246160
 tw14891875438462196874
 tw9836989513449269372
 tw10331587407186066645
 tw18367011606057174032
 tw6937112043515101862
 tw13631956452283500557
 tw16172640240523780498
 tw10175534187877533438
 tw11468157979154118976
 tw9614548003028937285
 tw7780777304823619415
 tw3464305091873894100
 tw1823480945937913695
 tw12543328953732945262
 tw8446583756099600166
 tw12786119528864065956
 tw10671120433902873124
 tw12441586784672466954
 tw10149741737232417971
 tw1434840490485495206
 tw2028473643649617736
 tw16601394537783504389
 tw12215866877246383285
 tw17932914664723936354
 tw11136930631728882320
 tw733523074008239674
 tw6699629878052054628
 tw7204103135545323261
 tw16448302759524605907
 tw18391420267867957409
 tw14749714787739467841
 tw4366458518790935326
 tw14422338752436512790
 tw17104153699810146779
 tw8343040816213747693
 tw11012448864439483376
 tw759754377829226917
 tw10446361256248536656
 tw9939708931667080991
 tw17911322631314126695
 tw16646660746094514907
 tw15877250096041180451
 tw13695027307640689209
 tw11267875274225929868
 tw9513640848144378975
 tw1825653679204098519
 tw1256598719612454535
 tw2812858004461298830
 tw7363845335306078331
 tw13962086055955995014
 tw16571483360486474968
 tw8916718618308573914
 tw2063611820368536002
 tw17624139193996824959
 tw4844876356819233815
 tw382633386218473694
 tw13553683568808123501
 tw3370483000736813894
 tw15687094915175131202
 tw7800133374549796572
 tw10998328289271052485
 tw17824084076376823616
 tw8172870344513371749
 tw17850858997474100801
 tw3473673903989450190
 tw5997854930442827257
 tw669777802024130981
 tw234149069221962070
 tw9750804298462673344
 tw17851513827967531831
 tw7295952500119924014
 tw3888716928471984495
 tw5571451319722192774
 tw3591913728882911479
 tw7266007957233900781
 tw15690092423351227518
 tw5621865277707474266
 tw4952601092587207601
 tw3330753829859679675
 tw11884526594479980473
 tw10576080418273114436
 tw8508081697325309295
 tw3381895553335473898
 tw6791975529899798591
 tw14214119059005122072
 tw16605685178685058439
 tw11839727799198318482
 tw8599313365973261658
 tw11882536020435645378
 tw9278119045498901168
 tw12187177882717278514
 tw5505659334100159989
 tw6791651438371898982
 tw3385118969666966125
 tw14788241583482522930
 tw10107770372807023251
 tw15893909904887515378
 tw4049777056538525770
 tw16835901367652442558
 tw2310392747639829596
 tw9298650093317130751
 tw13146457344809505100
 tw11310137528669172540
 tw3096381654031779272
 tw1967091058138033769
 tw17622812926551591864
 tw13070340489154383106
 tw16792513269654322996
 tw14343494717856029193
 tw8572804883441180944
 tw9570788073965876569
 tw3140730292666392953
 tw5677082727848057038
 tw16645959937218660953
 tw9499595926245784498
 tw16930700182782690942
 tw8367712811255864555
 tw3478651472257879603
 tw9792297825614892208
 tw9150847974385721433
 tw14800887307051793095
 tw6392786508187029046
 tw10587723859552641942
 tw14483070189505702294
 tw3406266424265661582
 tw13666504796897104046
 tw129828630603696455
 tw9889403614620570277
 tw2237965903955080430
 tw14756143423933298135
 tw12016399602371155237
 tw3438309037628902212
 tw17427847146894577561
 tw8526687700136764549
 tw18282838097448558661:True)
open PySem PySem.W PyProof.Rows
set_option maxRecDepth 100000 in
set_option maxHeartbeats 0 in
theorem PySem.Challenge.cw_moot_k17_whole_what_waits_fits_holds : PySem.Challenge.rw_moot_k17_whole_what_waits_fits.Holds := by
 w_on;o_law;k_head;(case hw=>w_witness2)
 k_fill;refine My.walk (l:=PySem.Challenge.rw_moot_k17_whole_what_waits_fits) rfl rfl (λw h Y=>PySem.W.kIn_of Y) ?F
 case F =>
  intro w mg fa h KX G hmg;refine' My.all_mk KX G hmg rfl ?a_1 ?l_1 ?cc_1 ?kp_1 ?a_2 ?l_2 ?cc_2 ?kp_2 ?a_3 ?l_3 ?cc_3 ?kp_3 ?a_4 ?l_4 ?cc_4 ?kp_4 ?a_5 ?l_5 ?cc_5 ?kp_5 ?a_6 ?l_6 ?cc_6 ?kp_6 ?a_7 ?l_7 ?cc_7 ?kp_7 ?a_8 ?l_8 ?cc_8 ?kp_8 ?a_9 ?l_9 ?cc_9 ?kp_9 ?a_10 ?l_10 ?jq4G ?jq4H ?a_11 ?l_11 ?jq4I ?jq4J ?a_12 ?l_12 ?jq4K ?jq4L ?a_13 ?l_13 ?jq4M ?jq4N ?a_14 ?l_14 ?jq4O ?jq4P ?a_15 ?l_15 ?jq4Q ?jq4R ?a_16 ?l_16 ?jq4S ?jq4T ?a_17 ?l_17 ?jq4U ?jq4V ?a_18 ?l_18 ?jq4W ?jq4X ?a_19 ?l_19 ?jq4Y ?jq4Z ?a_20 ?l_20 ?jq50 ?jq51 ?a_21 ?l_21 ?jq52 ?jq53 ?a_22 ?l_22 ?jq54 ?jq55 ?a_23 ?l_23 ?jq56 ?jq57 ?a_24 ?l_24 ?jq58 ?jq59 ?a_25 ?l_25 ?jq5a ?jq5b ?a_26 ?l_26 ?jq5c ?jq5d ?a_27 ?l_27 ?jq5e ?jq5f ?a_28 ?l_28 ?jq5g ?jq5h ?a_29 ?l_29 ?jq5i ?jq5j ?a_30 ?l_30 ?jq5k ?jq5l ?a_31 ?l_31 ?jq5m ?jq5n ?a_32 ?l_32 ?jq5o ?jq5p ?a_33 ?l_33 ?jq5q ?jq5r ?a_34 ?l_34 ?jq5s ?jq5t ?a_35 ?l_35 ?jq5u ?jq5v ?a_36 ?l_36 ?jq5w ?jq5x ?a_37 ?l_37 ?jq5y ?jq5z ?a_38 ?l_38 ?jq5A ?jq5B ?a_39 ?l_39 ?jq5C ?jq5D ?a_40 ?l_40 ?jq5E ?jq5F ?a_41 ?l_41 ?jq5G ?jq5H ?z1 ?z2 ?z3 ?z4 ?z5 ?z6 ?z7 ?z8 ?z9 ?z10 ?jq1Q ?ac0 ?ac1 ?ac2 ?ac3 ?ac4 ?ac5 ?ac6 ?ac7 ?acm ?atb ?ltb ?ktb ?rk0 ?rk1 ?rk2 ?rk3 ?rk4 ?rk5 ?rk6 ?rk7 ?pg0 ?hd0 ?po0 ?sa0 ?mk0 ?kc0 ?pg1 ?hd1 ?po1 ?sa1 ?mk1 ?kc1 ?pg2 ?hd2 ?po2 ?sa2 ?mk2 ?kc2 ?pg3 ?hd3 ?po3 ?sa3 ?mk3 ?kc3 ?pg4 ?hd4 ?po4 ?sa4 ?mk4 ?kc4 ?pg5 ?hd5 ?po5 ?sa5 ?mk5 ?kc5 ?pg6 ?hd6 ?po6 ?sa6 ?mk6 ?kc6 ?pg7 ?hd7 ?po7 ?sa7 ?mk7 ?kc7 ?jq39 ?jq5I ?jq3H ?jq3a ?jq3I ?jq3b ?jq5J ?jq3J ?jq3c ?jq3K ?jq3d ?jq5K ?jq3L ?jq3e ?jq3M ?jq3f ?jq5L ?jq3N ?jq3g ?jq3O ?jq3h ?jq5M ?jq3P ?jq3i ?jq3Q ?jq3j ?jq5N ?jq3R ?jq3k ?jq3S ?jq3l ?jq5O ?jq3T ?jq3m ?jq3U ?jq3n ?jq5P ?jq3V ?jq3o ?jq3W ?jq3X ?jq3Y ?jq3Z ?jq40 ?jq41 ?jq42 ?jq43 ?jq44 ?l_mr ?jq5Q ?jq1U ?jq2m ?jq45 ?jq46 ?jq47 ?jq48 ?jq49 ?jq4a ?jq4b ?l_mn ?jq5R ?jq2n ?jq2M ?jq3p ?jq5S ?jq4c ?jq3q ?jq4d ?jq4e ?jq4f ?jq4g ?l_mt ?jq5T ?jq38 ?jq3G ?jq3r ?jq5U ?jq4h ?jq3s ?jq4i ?jq3t ?jq5V ?jq4j ?jq3u ?jq4k ?jq3v ?jq5W ?jq4l ?jq3w ?jq4m ?jq3x ?jq5X ?jq4n ?jq3y ?jq4o ?jq3z ?jq5Y ?jq4p ?jq3A ?jq4q ?jq3B ?jq5Z ?jq4r ?jq4s ?jq4t ?jq3C ?jq60 ?jq4u ?jq4v ?jq4w ?jq3D ?jq61 ?jq4x ?jq4y ?jq4z ?jq3E ?jq62 ?jq4A ?jq4B ?jq4C ?jq3F ?jq63 ?jq4D ?jq4E ?jq4F ?na0 ?na1 ?na2 ?na3 ?na7 ?ni4 ?ni5 ?ni6 ?jq2o ?jq2p ?jq2q ?jq2r ?jq2s ?jq2t ?jq2u ?jq1t ?jq1L ?jq1u ?jq1v ?jq1w ?jq1x ?jq1M ?jq1y ?jq17 ?jq1z ?jq1A ?jq1N ?jq1B ?jq18 ?jq1C ?jq1D ?jq1O ?jq1E ?jq19 ?jq1F ?jq1G ?jq1P ?jq1H ?jq1a ?jq1I ?jq1l ?jq1J ?jq1m ?jq14 ?jq1n ?jq1e ?jq1o ?jq1f ?jqV ?jq1g ?jq1b ?jq1h ?jq1c ?jqQ ?jq1d ?jqS ?jqX ?jqT ?jqB ?jqU ?jqr ?jqw ?jqs ?jqn ?jqt ?jqy ?jqC ?jqz ?jqp ?jqA ?jq1i ?jq1p ?jq1j ?jqW ?jq1k ?jqL ?jqR ?jqM ?jqx ?jqN ?jqY ?jq15 ?jqZ ?jqD ?jq10 ?jqF ?jqO ?jqG ?jqu ?jqH ?jqI ?jqP ?jqJ ?jqv ?jqK ?jq11 ?jq16 ?jq12 ?jqE ?jq13 ?jqq ?jq1 ?jq4 ?jq2 ?jq0 ?jq3 ?jqj ?jqb ?jq5 ?jqk ?jq1K ?jq33 ?jq2N ?jq1V ?jq1W ?jq1X ?jq2v ?jq2w ?jq2x ?jq2O ?jq1Y ?jq34 ?jq1Z ?jq20 ?jq2y ?jq2z ?jq2A ?jq21 ?jq2P ?jq22 ?jq2Q ?jq6 ?jq7 ?jq35 ?jq36 ?jq37 ?jq8 ?jq9 ?jqa ?jq23 ?jq24 ?jq25 ?jq26 ?jq27 ?jq28 ?jq2B ?jq2C ?jq2D ?jq2E ?jq2F ?jq2G ?jq2H ?jq2I ?jq2J ?jq29 ?jq2a ?jq2b ?jq2R ?jq2S ?jq2T ?jq2c ?jq2d ?jq2e ?jq2U ?jq2V ?jq2W ?jq1q ?jq1r ?jq1s ?jqo ?jqc ?jqd ?jqg ?jqh ?jqi ?jqe ?jq2K ?jq2f ?jq2g ?jq2X ?jq2Y ?jq2Z ?jql ?jq1T ?jq1R ?jq1S ?jq2h ?jq2i ?jq2j ?jqf ?jq2L ?jq2k ?jq2l ?jq30 ?jq31 ?jq32 ?jqm
  (case a_1=>k_is)
  (case l_1=>k_is)
  (case cc_1=>k_is)
  (case kp_1=>k_is)
  (case a_2=>k_is)
  (case l_2=>k_is)
  (case cc_2=>k_is)
  (case kp_2=>k_is)
  (case a_3=>k_is)
  (case l_3=>k_is)
  (case cc_3=>k_is)
  (case kp_3=>k_is)
  (case a_4=>k_is)
  (case l_4=>k_is)
  (case cc_4=>k_is)
  (case kp_4=>k_is)
  (case a_5=>k_is)
  (case l_5=>k_is)
  (case cc_5=>k_is)
  (case kp_5=>k_is)
  (case a_6=>k_is)
  (case l_6=>k_is)
  (case cc_6=>k_is)
  (case kp_6=>k_is)
  (case a_7=>k_is)
  (case l_7=>k_is)
  (case cc_7=>k_is)
  (case kp_7=>k_is)
  (case a_8=>k_is)
  (case l_8=>k_is)
  (case cc_8=>k_is)
  (case kp_8=>k_is)
  (case a_9=>k_is)
  (case l_9=>k_is)
  (case cc_9=>k_is)
  (case kp_9=>k_is)
  (case a_10=>k_is)
  (case l_10=>k_is)
  (case jq4G=>k_is)
  (case jq4H=>k_is)
  (case a_11=>k_is)
  (case l_11=>k_is)
  (case jq4I=>k_is)
  (case jq4J=>k_is)
  (case a_12=>k_is)
  (case l_12=>k_is)
  (case jq4K=>k_is)
  (case jq4L=>k_is)
  (case a_13=>k_is)
  (case l_13=>k_is)
  (case jq4M=>k_is)
  (case jq4N=>k_is)
  (case a_14=>k_is)
  (case l_14=>k_is)
  (case jq4O=>k_is)
  (case jq4P=>k_is)
  (case a_15=>k_is)
  (case l_15=>k_is)
  (case jq4Q=>k_is)
  (case jq4R=>k_is)
  (case a_16=>k_is)
  (case l_16=>k_is)
  (case jq4S=>k_is)
  (case jq4T=>k_is)
  (case a_17=>k_is)
  (case l_17=>k_is)
  (case jq4U=>k_is)
  (case jq4V=>k_is)
  (case a_18=>k_is)
  (case l_18=>k_is)
  (case jq4W=>k_is)
  (case jq4X=>k_is)
  (case a_19=>k_is)
  (case l_19=>k_is)
  (case jq4Y=>k_is)
  (case jq4Z=>k_is)
  (case a_20=>k_is)
  (case l_20=>k_is)
  (case jq50=>k_is)
  (case jq51=>k_is)
  (case a_21=>k_is)
  (case l_21=>k_is)
  (case jq52=>k_is)
  (case jq53=>k_is)
  (case a_22=>k_is)
  (case l_22=>k_is)
  (case jq54=>k_is)
  (case jq55=>k_is)
  (case a_23=>k_is)
  (case l_23=>k_is)
  (case jq56=>k_is)
  (case jq57=>k_is)
  (case a_24=>k_is)
  (case l_24=>k_is)
  (case jq58=>k_is)
  (case jq59=>k_is)
  (case a_25=>k_is)
  (case l_25=>k_is)
  (case jq5a=>k_is)
  (case jq5b=>k_is)
  (case a_26=>k_is)
  (case l_26=>k_is)
  (case jq5c=>k_is)
  (case jq5d=>k_is)
  (case a_27=>k_is)
  (case l_27=>k_is)
  (case jq5e=>k_is)
  (case jq5f=>k_is)
  (case a_28=>k_is)
  (case l_28=>k_is)
  (case jq5g=>k_is)
  (case jq5h=>k_is)
  (case a_29=>k_is)
  (case l_29=>k_is)
  (case jq5i=>k_is)
  (case jq5j=>k_is)
  (case a_30=>k_is)
  (case l_30=>k_is)
  (case jq5k=>k_is)
  (case jq5l=>k_is)
  (case a_31=>k_is)
  (case l_31=>k_is)
  (case jq5m=>k_is)
  (case jq5n=>k_is)
  (case a_32=>k_is)
  (case l_32=>k_is)
  (case jq5o=>k_is)
  (case jq5p=>k_is)
  (case a_33=>k_is)
  (case l_33=>k_is)
  (case jq5q=>k_is)
  (case jq5r=>k_is)
  (case a_34=>k_is)
  (case l_34=>k_is)
  (case jq5s=>k_is)
  (case jq5t=>k_is)
  (case a_35=>k_is)
  (case l_35=>k_is)
  (case jq5u=>k_is)
  (case jq5v=>k_is)
  (case a_36=>k_is)
  (case l_36=>k_is)
  (case jq5w=>k_is)
  (case jq5x=>k_is)
  (case a_37=>k_is)
  (case l_37=>k_is)
  (case jq5y=>k_is)
  (case jq5z=>k_is)
  (case a_38=>k_is)
  (case l_38=>k_is)
  (case jq5A=>k_is)
  (case jq5B=>k_is)
  (case a_39=>k_is)
  (case l_39=>k_is)
  (case jq5C=>k_is)
  (case jq5D=>k_is)
  (case a_40=>k_is)
  (case l_40=>k_is)
  (case jq5E=>k_is)
  (case jq5F=>k_is)
  (case a_41=>k_is)
  (case l_41=>k_is)
  (case jq5G=>k_is)
  (case jq5H=>k_is)
  (case z1=>k_is)
  (case z2=>k_is)
  (case z3=>k_is)
  (case z4=>k_is)
  (case z5=>k_is)
  (case z6=>k_is)
  (case z7=>k_is)
  (case z8=>k_is)
  (case z9=>k_is)
  (case z10=>k_is)
  (case jq1Q=>k_is)
  (case ac0=>k_is)
  (case ac1=>k_is)
  (case ac2=>k_is)
  (case ac3=>k_is)
  (case ac4=>k_is)
  (case ac5=>k_is)
  (case ac6=>k_is)
  (case ac7=>k_is)
  (case acm=>k_is)
  (case atb=>k_is)
  (case ltb=>k_is)
  (case ktb=>k_keys)
  (case rk0=>k_is)
  (case rk1=>k_is)
  (case rk2=>k_is)
  (case rk3=>k_is)
  (case rk4=>k_is)
  (case rk5=>k_is)
  (case rk6=>k_is)
  (case rk7=>k_is)
  (case pg0=>k_is)
  (case hd0=>k_is)
  (case po0=>k_is)
  (case sa0=>k_is)
  (case mk0=>k_is)
  (case kc0=>k_is)
  (case pg1=>k_is)
  (case hd1=>k_is)
  (case po1=>k_is)
  (case sa1=>k_is)
  (case mk1=>k_is)
  (case kc1=>k_is)
  (case pg2=>k_is)
  (case hd2=>k_is)
  (case po2=>k_is)
  (case sa2=>k_is)
  (case mk2=>k_is)
  (case kc2=>k_is)
  (case pg3=>k_is)
  (case hd3=>k_is)
  (case po3=>k_is)
  (case sa3=>k_is)
  (case mk3=>k_is)
  (case kc3=>k_is)
  (case pg4=>k_is)
  (case hd4=>k_is)
  (case po4=>k_is)
  (case sa4=>k_is)
  (case mk4=>k_is)
  (case kc4=>k_is)
  (case pg5=>k_is)
  (case hd5=>k_is)
  (case po5=>k_is)
  (case sa5=>k_is)
  (case mk5=>k_is)
  (case kc5=>k_is)
  (case pg6=>k_is)
  (case hd6=>k_is)
  (case po6=>k_is)
  (case sa6=>k_is)
  (case mk6=>k_is)
  (case kc6=>k_is)
  (case pg7=>k_is)
  (case hd7=>k_is)
  (case po7=>k_is)
  (case sa7=>k_is)
  (case mk7=>k_is)
  (case kc7=>k_is)
  (case jq39=>k_is)
  (case jq5I=>k_is)
  (case jq3H=>k_is)
  (case jq3a=>k_is)
  (case jq3I=>k_is)
  (case jq3b=>k_is)
  (case jq5J=>k_is)
  (case jq3J=>k_is)
  (case jq3c=>k_is)
  (case jq3K=>k_is)
  (case jq3d=>k_is)
  (case jq5K=>k_is)
  (case jq3L=>k_is)
  (case jq3e=>k_is)
  (case jq3M=>k_is)
  (case jq3f=>k_is)
  (case jq5L=>k_is)
  (case jq3N=>k_is)
  (case jq3g=>k_is)
  (case jq3O=>k_is)
  (case jq3h=>k_is)
  (case jq5M=>k_is)
  (case jq3P=>k_is)
  (case jq3i=>k_is)
  (case jq3Q=>k_is)
  (case jq3j=>k_is)
  (case jq5N=>k_is)
  (case jq3R=>k_is)
  (case jq3k=>k_is)
  (case jq3S=>k_is)
  (case jq3l=>k_is)
  (case jq5O=>k_is)
  (case jq3T=>k_is)
  (case jq3m=>k_is)
  (case jq3U=>k_is)
  (case jq3n=>k_is)
  (case jq5P=>k_is)
  (case jq3V=>k_is)
  (case jq3o=>k_is)
  (case jq3W=>k_is)
  (case jq3X=>k_is)
  (case jq3Y=>k_is)
  (case jq3Z=>k_is)
  (case jq40=>k_is)
  (case jq41=>k_is)
  (case jq42=>k_is)
  (case jq43=>k_is)
  (case jq44=>k_is)
  (case l_mr=>k_is)
  (case jq5Q=>k_is)
  (case jq1U=>k_is)
  (case jq2m=>k_is)
  (case jq45=>k_is)
  (case jq46=>k_is)
  (case jq47=>k_is)
  (case jq48=>k_is)
  (case jq49=>k_is)
  (case jq4a=>k_is)
  (case jq4b=>k_is)
  (case l_mn=>k_is)
  (case jq5R=>k_is)
  (case jq2n=>k_is)
  (case jq2M=>k_is)
  (case jq3p=>k_is)
  (case jq5S=>k_is)
  (case jq4c=>k_is)
  (case jq3q=>k_is)
  (case jq4d=>k_is)
  (case jq4e=>k_is)
  (case jq4f=>k_is)
  (case jq4g=>k_is)
  (case l_mt=>k_is)
  (case jq5T=>k_is)
  (case jq38=>k_is)
  (case jq3G=>k_is)
  (case jq3r=>k_is)
  (case jq5U=>k_is)
  (case jq4h=>k_is)
  (case jq3s=>k_is)
  (case jq4i=>k_is)
  (case jq3t=>k_is)
  (case jq5V=>k_is)
  (case jq4j=>k_is)
  (case jq3u=>k_is)
  (case jq4k=>k_is)
  (case jq3v=>k_is)
  (case jq5W=>k_is)
  (case jq4l=>k_is)
  (case jq3w=>k_is)
  (case jq4m=>k_is)
  (case jq3x=>k_is)
  (case jq5X=>k_is)
  (case jq4n=>k_is)
  (case jq3y=>k_is)
  (case jq4o=>k_is)
  (case jq3z=>k_is)
  (case jq5Y=>k_is)
  (case jq4p=>k_is)
  (case jq3A=>k_is)
  (case jq4q=>k_is)
  (case jq3B=>k_is)
  (case jq5Z=>k_is)
  (case jq4r=>k_is)
  (case jq4s=>k_is)
  (case jq4t=>k_is)
  (case jq3C=>k_is)
  (case jq60=>k_is)
  (case jq4u=>k_is)
  (case jq4v=>k_is)
  (case jq4w=>k_is)
  (case jq3D=>k_is)
  (case jq61=>k_is)
  (case jq4x=>k_is)
  (case jq4y=>k_is)
  (case jq4z=>k_is)
  (case jq3E=>k_is)
  (case jq62=>k_is)
  (case jq4A=>k_is)
  (case jq4B=>k_is)
  (case jq4C=>k_is)
  (case jq3F=>k_is)
  (case jq63=>k_is)
  (case jq4D=>k_is)
  (case jq4E=>k_is)
  (case jq4F=>k_is)
  (case na0=>k_is)
  (case na1=>k_is)
  (case na2=>k_is)
  (case na3=>k_is)
  (case na7=>k_is)
  (case ni4=>k_is)
  (case ni5=>k_is)
  (case ni6=>k_is)
  (case jq2o=>k_is)
  (case jq2p=>k_is)
  (case jq2q=>k_is)
  (case jq2r=>k_is)
  (case jq2s=>k_is)
  (case jq2t=>k_is)
  (case jq2u=>k_is)
  (case jq1t=>k_is)
  (case jq1L=>k_is)
  (case jq1u=>k_is)
  (case jq1v=>k_is)
  (case jq1w=>k_is)
  (case jq1x=>k_is)
  (case jq1M=>k_is)
  (case jq1y=>k_is)
  (case jq17=>k_is)
  (case jq1z=>k_is)
  (case jq1A=>k_is)
  (case jq1N=>k_is)
  (case jq1B=>k_is)
  (case jq18=>k_is)
  (case jq1C=>k_is)
  (case jq1D=>k_is)
  (case jq1O=>k_is)
  (case jq1E=>k_is)
  (case jq19=>k_is)
  (case jq1F=>k_is)
  (case jq1G=>k_is)
  (case jq1P=>k_is)
  (case jq1H=>k_is)
  (case jq1a=>k_is)
  (case jq1I=>k_is)
  (case jq1l=>k_is)
  (case jq1J=>k_is)
  (case jq1m=>k_is)
  (case jq14=>k_is)
  (case jq1n=>k_is)
  (case jq1e=>k_is)
  (case jq1o=>k_is)
  (case jq1f=>k_is)
  (case jqV=>k_is)
  (case jq1g=>k_is)
  (case jq1b=>k_is)
  (case jq1h=>k_is)
  (case jq1c=>k_is)
  (case jqQ=>k_is)
  (case jq1d=>k_is)
  (case jqS=>k_is)
  (case jqX=>k_is)
  (case jqT=>k_is)
  (case jqB=>k_is)
  (case jqU=>k_is)
  (case jqr=>k_is)
  (case jqw=>k_is)
  (case jqs=>k_is)
  (case jqn=>k_is)
  (case jqt=>k_is)
  (case jqy=>k_is)
  (case jqC=>k_is)
  (case jqz=>k_is)
  (case jqp=>k_is)
  (case jqA=>k_is)
  (case jq1i=>k_is)
  (case jq1p=>k_is)
  (case jq1j=>k_is)
  (case jqW=>k_is)
  (case jq1k=>k_is)
  (case jqL=>k_is)
  (case jqR=>k_is)
  (case jqM=>k_is)
  (case jqx=>k_is)
  (case jqN=>k_is)
  (case jqY=>k_is)
  (case jq15=>k_is)
  (case jqZ=>k_is)
  (case jqD=>k_is)
  (case jq10=>k_is)
  (case jqF=>k_is)
  (case jqO=>k_is)
  (case jqG=>k_is)
  (case jqu=>k_is)
  (case jqH=>k_is)
  (case jqI=>k_is)
  (case jqP=>k_is)
  (case jqJ=>k_is)
  (case jqv=>k_is)
  (case jqK=>k_is)
  (case jq11=>k_is)
  (case jq16=>k_is)
  (case jq12=>k_is)
  (case jqE=>k_is)
  (case jq13=>k_is)
  (case jqq=>k_is)
  (case jq1=>k_is)
  (case jq4=>k_is)
  (case jq2=>k_is)
  (case jq0=>k_is)
  (case jq3=>k_is)
  (case jqj=>k_is)
  (case jqb=>k_is)
  (case jq5=>k_is)
  (case jqk=>k_is)
  (case jq1K=>k_is)
  (case jq33=>k_is)
  (case jq2N=>k_is)
  (case jq1V=>k_is)
  (case jq1W=>k_is)
  (case jq1X=>k_is)
  (case jq2v=>k_is)
  (case jq2w=>k_is)
  (case jq2x=>k_is)
  (case jq2O=>k_is)
  (case jq1Y=>k_is)
  (case jq34=>k_is)
  (case jq1Z=>k_is)
  (case jq20=>k_is)
  (case jq2y=>k_is)
  (case jq2z=>k_is)
  (case jq2A=>k_is)
  (case jq21=>k_is)
  (case jq2P=>k_is)
  (case jq22=>k_is)
  (case jq2Q=>k_is)
  (case jq6=>k_is)
  (case jq7=>rfl)
  (case jq35=>k_is)
  (case jq36=>with_unfolding_all rfl)
  (case jq37=>k_is)
  (case jq8=>k_is)
  (case jq9=>with_unfolding_all rfl)
  (case jqa=>k_is)
  (case jq23=>k_is)
  (case jq24=>with_unfolding_all rfl)
  (case jq25=>k_is)
  (case jq26=>k_is)
  (case jq27=>with_unfolding_all rfl)
  (case jq28=>k_is)
  (case jq2B=>k_is)
  (case jq2C=>with_unfolding_all rfl)
  (case jq2D=>k_is)
  (case jq2E=>k_is)
  (case jq2F=>with_unfolding_all rfl)
  (case jq2G=>k_is)
  (case jq2H=>k_is)
  (case jq2I=>with_unfolding_all rfl)
  (case jq2J=>k_is)
  (case jq29=>k_is)
  (case jq2a=>with_unfolding_all rfl)
  (case jq2b=>k_is)
  (case jq2R=>k_is)
  (case jq2S=>with_unfolding_all rfl)
  (case jq2T=>k_is)
  (case jq2c=>k_is)
  (case jq2d=>with_unfolding_all rfl)
  (case jq2e=>k_is)
  (case jq2U=>k_is)
  (case jq2V=>with_unfolding_all rfl)
  (case jq2W=>k_is)
  (case jq1q=>k_is)
  (case jq1r=>k_is)
  (case jq1s=>k_is)
  (case jqo=>kts_exm)
  (case jqc=>kts_exm)
  (case jqd=>kts_exm)
  (case jqg=>kts_exm)
  (case jqh=>kts_exm)
  (case jqi=>kts_exm)
  (case jqe=>kts_exm)
  (case jq2K=>k_is)
  (case jq2f=>k_is)
  (case jq2g=>k_is)
  (case jq2X=>k_is)
  (case jq2Y=>k_is)
  (case jq2Z=>k_is)
  (case jql=>kts_exm)
  (case jq1T=>k_is)
  (case jq1R=>k_is)
  (case jq1S=>k_is)
  (case jq2h=>k_is)
  (case jq2i=>k_is)
  (case jq2j=>k_is)
  (case jqf=>kts_exm)
  (case jq2L=>k_is)
  (case jq2k=>k_is)
  (case jq2l=>k_is)
  (case jq30=>k_is)
  (case jq31=>k_is)
  (case jq32=>k_is)
  (case jqm=>kts_exm)
