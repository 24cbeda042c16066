import PyProof.Rows.All
import Wide.All
import OpenK.AllK
import Wide.FinOn
import Lean
import PyProof.EqAt
import PyProof.EqKinds
import PyProof.TupleCall
import PySem.Challenge.RW_moot_k20_whole_aside_and_taken_up
set_option Elab.async false
set_option linter.all false
set_option maxRecDepth 100000
open PySem.Str renaming ofString → ar, join → kf, empty → ael
open PySem.W renaming Frag → ba, findIn → bo, keepIn → da, codeIn → di, nsIn → eg, fnOf → fe, mg_of → ka, isFn → kq, hasDictIn → aeb, emptyDict → aeg, exmOne → aeh, instObj → aen, plainGet → aeo, mg_none_of → aes, plainOver → aev, makesIn → aeA, mroIn → aeB, methodCall_KW → aeJ, looks_findIn → afd, callWith_K → afj
open List renaming length_map → cb, mem_cons_self → fu, map_cons → kc, mem_cons_of_mem → ki, size_toArray → ko, length_append → kr, map_append → ky, mem_append_right → me, length_cons → tm, mem_singleton → tu, getD_eq_getElem?_getD → wt, length_singleton → ad4, getElem?_eq_getElem → ad5, mem_of_getElem? → aei, eq_nil_or_concat → aej, concat_eq_append → aek, range' → aem, length_take → aeu, mem_append_left → aex, lookup → aey, cons_ne_nil → aeC, getElem?_map → aeD, map_nil → aeE, getElem?_cons_zero → aeF, getLast?_concat → aeG, map_congr_left → aeR, length_set → aeT, find?_cons → aeU, length_range' → aeW, dropLast_concat → aeY, getElem?_cons_succ → ae1, filter_cons_of_neg → ae2, append_assoc → ae3, length_drop → ae6, lookup_cons → ae7, append_nil → afb, Perm → afc, take_length → afh, length_nil → afk, length_zip → afm
open PySem renaming wpAny_bind → de, mainGlobals → gn, sizeLine → gp, FuncData → gr, Program → ku, wpAny_pure → ma, starEach → si, Spec → Lk, wpAny_mono → adm, wpAny → aee, excClassObj → aep, wpAny_holding → aeH, wpAny_standAt → aeK, DictEntry → aeN, mem_of_lookup → aeQ, compareOp → aeZ, sysModules → ae8
open PySem.Heap renaming get?_push_of_some → gc, lt_size → kx, get?_push_size → ad3, get?_update_other → aez, get?_update_self → aeV
open Nat renaming le_refl → kg, le_trans → om, lt_of_lt_of_le → wa, ne_of_lt → ad6, le_succ_of_le → ad7, zero_le → aeM, le_succ → aeS
open Bool renaming false_ne_true → kj, and_self → aew, and_eq_true → aeI
open Sum renaming inl → km
open PySem.PyData renaming canLayAll0 → ra, canLay0 → rf, depthAll → aed, strOk → aef, depth → aet, eqv → ae9, str → afn
open PySem.Value renaming ref → sr, none → afe
open PySem.F renaming plainAttrs_list → ad2, slot_list_append → aeq, type_list_append → aer
open Option.some renaming inj → ad8
open Ne renaming symm → ad9
open False renaming elim → aea
open Or renaming inl → aec
open Int renaming emod_lt_of_pos → aeL, toNat_natCast → aeP, emod_nonneg → ae4
open PySem.Obj renaming mapFields → aeO
open PySem.NameKind renaming free → aeX
open PySem.Builtin.Str renaming occurrences → ae0
open PySem.SeqAt renaming shaped → ae5
open PySem.Builtin.Slice renaming slicePlaces → afa
open PySem.Builtin.Tuple renaming tupleExact → aff
open Array renaming length_toList → afg
open True renaming intro → afi
open PySem.PassesOwn renaming never → afl
namespace L2
open PySem PySem.Spec PyProof.Rows
abbrev Key:=Sum Int Str
def yp:Key->Value->Bool
 | .inl k,v=>Value.isInt k v
 | .inr x,v=>Value.isStrOf x v
def abc (w:World):Key->Int
 | .inl k=>hashInt k
 | .inr x=>hashStr w x
theorem dq:∀ {k:Key} {v:Value},yp k v=true->(∃i t,k=km i/\v=Value.int i t)\/(∃x t,k=Sum.inr x/\v=Value.str x t)
 | .inl i,v,h=>by
  obtain⟨t,e⟩:=Value.isInt_shape (k:=i) (v:=v) h;exact .inl ⟨i,t,rfl,e⟩
 | .inr x,v,h=>by
  obtain⟨t,e⟩:=Value.isStrOf_shape (x:=x) (v:=v) h;exact .inr ⟨x,t,rfl,e⟩
theorem Jn (i:Int)(t:Tok):yp (.inl i) (.int i t)=true:=by simp[yp,Value.isInt]
theorem Jo (x:Str)(t:Tok):yp (.inr x) (.str x t)=true:=by simp[yp,Value.isStrOf]
theorem QZ (a b:Int):decide ((km a:Key)=km b)=(a == b):=by
 by_cases e:a=b
 ·subst e;simp
 ·have h:¬(km a:Key)=km b:=λq=>e (Sum.inl.inj q)
  rw[decide_eq_false h];exact(beq_eq_false_iff_ne.mpr e).symm
theorem Q0 (a b:Str):decide ((Sum.inr a:Key)=Sum.inr b)=decide (a=b):=by
 by_cases e:a=b
 ·subst e;simp
 ·have h:¬(Sum.inr a:Key)=Sum.inr b:=λq=>e (Sum.inr.inj q)
  rw[decide_eq_false h,decide_eq_false e]
theorem Q1 (a:Int)(b:Str):decide ((km a:Key)=Sum.inr b)=false:=decide_eq_false (λq=>nomatch q)
theorem Q2 (a:Str)(b:Int):decide ((Sum.inr a:Key)=km b)=false:=decide_eq_false (λq=>nomatch q)
def dF (prog:ku)(w:World):PySem.KeyKind prog w Key where
 is:=yp
 hash:=abc w
 inj:=λv a b ha hb=>by
  rcases dq ha with ⟨i,t,rfl,rfl⟩ | ⟨x,t,rfl,rfl⟩
  ·rcases dq hb with ⟨j,u,rfl,e⟩ | ⟨y,u,rfl,e⟩
   ·injection e with e1 _;rw[e1]
   ·exact nomatch e
  ·rcases dq hb with ⟨j,u,rfl,e⟩ | ⟨y,u,rfl,e⟩
   ·exact nomatch e
   ·injection e with e1 _;rw[e1]
 byValue:=λk v h=>by
  rcases dq h with ⟨i,t,rfl,rfl⟩ | ⟨x,t,rfl,rfl⟩ <;> rfl
 pyHash:=λhv h=>by
  rcases dq hv with ⟨i,t,rfl,rfl⟩ | ⟨x,t,rfl,rfl⟩
  ·exact wpAny_pyHash_int h
  ·exact wpAny_pyHash_str h
 eqBool:=λhu hv h=>by
  rcases dq hu with ⟨i,t,rfl,rfl⟩ | ⟨x,t,rfl,rfl⟩
  ·rcases dq hv with ⟨j,u,rfl,rfl⟩ | ⟨y,u,rfl,rfl⟩
   ·rw[QZ]at h;exact wpAny_eqBool_int h
   ·rw[Q1]at h;exact SeqAt.EqAt.int_str i t y u _ _ _ _ h
  ·rcases dq hv with ⟨j,u,rfl,rfl⟩ | ⟨y,u,rfl,rfl⟩
   ·rw[Q2]at h;exact SeqAt.EqAt.str_int x t j u _ _ _ _ h
   ·rw[Q0]at h;exact wpAny_eqBool_str h
 «strs»:=λk x t v h=>by
  rcases dq h with ⟨i,u,rfl,e⟩ | ⟨y,u,rfl,e⟩
  ·exact nomatch e
  ·injection e with e1 _
   subst e1;cases v <;> rfl
theorem C4 (prog:ku)(w:World)(i:Int)(t:Tok):(dF prog w).is (.inl i) (.int i t)=true:=Jn i t
theorem C5 (prog:ku)(w:World)(x:Str)(t:Tok):(dF prog w).is (.inr x) (.str x t)=true:=Jo x t
end L2
namespace L2
open PySem PySem.Spec PyProof.Rows
inductive V where
 |non | bl (b:Bool) | int (i:Int) | str (x:Str) | byt (b:Array UInt8) | flt (b:UInt64) | ref (a:Addr) | ty (n:String)
 deriving DecidableEq
def RelV:V->Value->Prop
 | .non,u=>u=afe
 | .bl b,u=>u=Value.bool b
 | .int i,u=>∃t,u=Value.int i t
 | .str x,u=>∃t,u=Value.str x t
 | .byt b,u=>∃t,u=Value.bytes b t
 | .flt b,u=>∃t,u=Value.float b t
 | .ref a,u=>u=sr a
 | .ty n,u=>u=Value.type n
abbrev Vals:List V->List Value->Prop:=Paired RelV
theorem Vals.length {xs:List V}{us:List Value}(r:Vals xs us):xs.length=us.length:=Paired.length r
theorem Vals.get:∀ {xs:List V} {us:List Value} {i:Nat} {x:V},Vals xs us->xs[i]?=some x->∃u,us[i]?=some u/\RelV x u
 |_,_,_,_,.nil,e=>by simp at e
 |_,_,0,_,.cons r _,e=>by simp at e;subst e;exact⟨_,rfl,r⟩
 |_,_,i+1,x,.cons _ t,e=>by
  obtain⟨u,h1,h2⟩:=Vals.get (i:=i) (x:=x) t (by simpa using e)
  exact⟨u,by simpa using h1,h2⟩
theorem Vals.set {x:V}{u:Value}(r:RelV x u):∀ {xs:List V} {us:List Value} (i:Nat),Vals xs us->Vals (xs.set i x) (us.set i u)
 |_,_,_,.nil=>.nil
 |_,_,0,.cons _ t=>.cons r t
 |_,_,i+1,.cons q t=>.cons q (Vals.set r i t)
theorem Vals.append:∀ {xs ys:List V} {us ws:List Value},Vals xs us->Vals ys ws->Vals (xs++ys) (us++ws)
 |_,_,_,_,.nil,s=>s
 |_,_,_,_,.cons r t,s=>.cons r (Vals.append t s)
theorem Vals.take:∀ {xs:List V} {us:List Value} (n:Nat),Vals xs us->Vals (xs.take n) (us.take n)
 |_,_,0,_=>.nil
 |_,_,_+1,.nil=>.nil
 |_,_,n+1,.cons r t=>.cons r (Vals.take n t)
theorem Vals.drop:∀ {xs:List V} {us:List Value} (n:Nat),Vals xs us->Vals (xs.drop n) (us.drop n)
 |_,_,0,r=>r
 |_,_,_+1,.nil=>.nil
 |_,_,n+1,.cons _ t=>Vals.drop n t
theorem Vals.none_of:∀ {xs:List V} {us:List Value} {i:Nat},Vals xs us->xs[i]?=none->us[i]?=none:=λ{xs us i} r e=>by
 have h1:=r.length;have h2:xs.length<=i:=List.getElem?_eq_none_iff.mp e;exact List.getElem?_eq_none_iff.mpr (by omega)
def nj:Option V->Option Value->Prop
 |some v,some u=>RelV v u
 |none,none=>True
 |_,_=>False
def KV {κ:Type}:List (κ×V)->List (κ×Value)->Prop:=Paired λ(p:κ×V) (q:κ×Value)=>p.1=q.1/\RelV p.2 q.2
def kV:Key->V
 | .inl i=>.int i
 | .inr x=>.str x
inductive HO where
 |lst (xs:List V)
 |tup (xs:List V)
 |dK (kvs:List (Key×V)) | dT (kvs:List (List Key×V))
 |set (S:Int->Bool) (n:Nat)
 |ins (C dx:Addr) (fs:List (Str×V))
 |own (x:Addr)
 |xd (fs:List (Str×V))
 |met (f x:Addr)
 |rng (lo hi:Int)
 |frz (o:Obj) (u:HO)
 |tbl (ps:Array Value)
 |ext (φ:Heap->Prop)
abbrev Hp:=Addr->Option HO
def upd (H:Hp)(a:Addr)(o:HO):Hp:=λb=>if b=a then some o else H b
theorem ae {H:Hp}{a:Addr}{o:HO}:upd H a o a=some o:=by unfold upd;rw[if_pos rfl]
theorem aw {H:Hp}{a b:Addr}{o:HO}(h:b≠a):upd H a o b=H b:=by unfold upd;rw[if_neg h]
theorem mq {H:Hp}{a:Addr}{o u:HO}:upd (upd H a o) a u=upd H a u:=by
 funext b;unfold upd;split <;> rfl
theorem VO {H:Hp}{a b:Addr}{o u:HO}(h:H a=some o)(h':H b=some u)(d:o≠u):a≠b:=by
 intro e;subst e;rw[h]at h';exact d (ad8 h')
theorem aN {H:Hp}{a b:Addr}{o:HO}(h:H a=some o)(h':H b=none):a≠b:=by
 intro e;subst e;rw[h]at h';cases h'
section
variable(P:ku)(w:World)
def eU (H:Hp)(h:Heap)(a:Addr):HO->Prop
 | .lst xs=>xs.length<=gp/\∃(its:List Value) (n:Nat),Vals xs its/\h.get? a=some { cls:=.type "list",data:=.seq its.toArray n }
 | .tup xs=>xs.length<=gp/\∃its:List Value,Vals xs its/\IsTup h a its.toArray
 | .dK kvs=>kvs.length<=gp/\(a == ae8)=false/\∃vs,KV kvs vs/\h.DictOf (dF P w) a vs
 | .dT kvs=>kvs.length<=gp/\(a == ae8)=false/\∃xs:List (List Key×Addr×Value),
   Paired (λ(p:List Key×V) (q:List Key×Addr×Value)=>p.1=q.1/\H q.2.1=some (.tup (p.1.map kV))/\RelV p.2 q.2.2) kvs xs /\
   ∃o es ep,h.get? a=some o/\o.ExactDict/\o.data=.dict es ep/\es.toList=xs.map (entryOfKey (tupleKind (dF P w)))/\(xs.map (·.1)).Nodup
 | .set S n=>h.SetOf (intKind P w) a S n
 | .ins C dx fs=>H dx=some (.own a)/\fs.length<=1000/\dx≠a/\h.get? a=some (aen C dx) /\
   ∃mA,h.Ns1 dx mA/\(∀f,nj (fs.lookup f) (mA f))/\PySem.Within mA (fs.map (·.1))
 | .own _=>∃o,h.get? a=some o
 | .xd fs=>∃mA,h.Ns1 a mA/\∀f,nj (fs.lookup f) (mA f)
 | .rng lo hi=>∃t u v,h.get? a=some { cls:=.type "range",data:=.fields #[.int lo t,.int hi u,.int 1 v] }
 | .frz o u=>h.get? a=some o/\eU H h a u
 | .tbl ps=>h.get? a=some { cls:=.none,data:=.fields ps }
 | .met f x=>h.get? a=some (PySem.W.methodObj (.ref f) (.ref x))
 | .ext φ=>φ h/\(∃o,h.get? a=some o)/\∀h1 h2:Heap,φ h1->(∀o,h1.get? a=some o->h2.get? a=some o)->φ h2
def HOk (H:Hp)(h:Heap):Prop:=∀a o,H a=some o->eU P w H h a o
end
section
variable{P:ku}{w:World}{H H':Hp}{h h':Heap}{a:Addr}{o:HO}
theorem eU.lt (x:eU P w H h a o):a < h.objs.size:=by
 cases o with
 |lst xs=>obtain⟨_,_,_,_,e⟩:=x;exact kx e
 |tup xs=>obtain⟨_,_,_,p⟩:=x;exact p.lt
 |dK kvs=>obtain⟨_,_,_,_,o,_,_,e,_⟩:=x;exact kx e
 |dT kvs=>obtain⟨_,_,_,_,o,_,_,e,_⟩:=x;exact kx e
 |set S n=>obtain⟨o,_,_,_,e,_⟩:=x;exact kx e
 |ins C dx fs=>obtain⟨_,_,_,e,_⟩:=x;exact kx e
 |own y=>obtain⟨_,e⟩:=x;exact kx e
 |xd fs=>obtain⟨_,⟨_,_,_,e,_⟩,_⟩:=x;exact kx e
 |rng lo hi=>obtain⟨_,_,_,e⟩:=x;exact kx e
 |frz ob u=>obtain⟨e,_⟩:=x;exact kx e
 |tbl ps=>exact kx (show h.get? a=some _ from x)
 |met f y=>exact kx (show h.get? a=some _ from x)
 |ext φ=>obtain⟨_,⟨_,e⟩,_⟩:=x;exact kx e
theorem Paired.Q3 {α β:Type}{F G:α->β->Prop}:∀ {l₁:List α} {l₂:List β},Paired F l₁ l₂->(∀a b,F a b->G a b)->Paired G l₁ l₂
 |_,_,.nil,_=>.nil
 |_,_,.cons r t,f=>.cons (f _ _ r) (Paired.Q3 t f)
theorem eU.Ac (x:eU P w H h a o)(k:∀b u,(b=a\/H b=some (.own a))->h.get? b=some u->h'.get? b=some u)
  (ho:∀b,H b=some (.own a)->H' b=some (.own a)) (ht:∀b xs,H b=some (.tup xs)->H' b=some (.tup xs)):eU P w H' h' a o:=by
 induction o with
 |lst xs=>obtain⟨z,its,n,r,e⟩:=x;exact⟨z,its,n,r,k _ _ (.inl rfl) e⟩
 |tup xs=>obtain⟨z,its,r,ob,e,c⟩:=x;exact⟨z,its,r,ob,k _ _ (.inl rfl) e,c⟩
 |dK kvs=>obtain⟨z,y,vs,r,ob,es,ep,e,c⟩:=x;exact⟨z,y,vs,r,ob,es,ep,k _ _ (.inl rfl) e,c⟩
 |dT kvs =>
  obtain⟨z,y,xs,r,ob,es,ep,e,c⟩:=x;exact⟨z,y,xs,Paired.Q3 r λp q z=>⟨z.1,ht _ _ z.2.1,z.2.2⟩,ob,es,ep,k _ _ (.inl rfl) e,c⟩
 |set S n=>obtain⟨ob,es,ep,t,e,c⟩:=x;exact⟨ob,es,ep,t,k _ _ (.inl rfl) e,c⟩
 |ins C dx fs =>
  obtain⟨d,z,ne,e,mA,⟨od,es,ep,e2,c⟩,r⟩:=x;exact⟨ho _ d,z,ne,k _ _ (.inl rfl) e,mA,⟨od,es,ep,k _ _ (.inr d) e2,c⟩,r⟩
 |own y=>obtain⟨ob,e⟩:=x;exact⟨ob,k _ _ (.inl rfl) e⟩
 |xd fs=>obtain⟨mA,⟨od,es,ep,e,c⟩,r⟩:=x;exact⟨mA,⟨od,es,ep,k _ _ (.inl rfl) e,c⟩,r⟩
 |rng lo hi=>obtain⟨t,u,v,e⟩:=x;exact⟨t,u,v,k _ _ (.inl rfl) e⟩
 |frz ob u ih=>obtain⟨e,q⟩:=x;exact⟨k _ _ (.inl rfl) e,ih q⟩
 |tbl ps =>
  have e:h.get? a=some { cls:=.none,data:=.fields ps }:=x;show h'.get? a=some { cls:=.none,data:=.fields ps };exact k a _ (.inl rfl) e
 |met f y =>
  have e:h.get? a=some (PySem.W.methodObj (.ref f) (.ref y)):=x;show h'.get? a=some (PySem.W.methodObj (.ref f) (.ref y));exact k a _ (.inl rfl) e
 |ext φ=>obtain⟨p,⟨o,e⟩,st⟩:=x;exact⟨st _ _ p λo q=>k _ _ (.inl rfl) q,⟨o,k _ _ (.inl rfl) e⟩,st⟩
theorem HOk.lt (x:HOk P w H h)(e:H a=some o):a < h.objs.size:=(x a o e).lt
theorem HOk.fresh (x:HOk P w H h)(e:h.objs.size<=a):H a=none:=by
 cases q:H a with
 |none=>rfl
 |some u=>exact absurd (wa (x.lt q) e) (Nat.lt_irrefl _)
theorem HOk.kept (x:HOk P w H h)(k:∀b u,h.get? b=some u->h'.get? b=some u):HOk P w H h':=λa o e =>
 (x a o e).Ac (λb u _ q=>k b u q) (λ_ q=>q) λ_ _ q=>q
theorem HOk.laid (x:HOk P w H h)(k:∀b u,h.get? b=some u->h'.get? b=some u)(hp:h.objs.size<=a)(new:eU P w (upd H a o) h' a o):HOk P w (upd H a o) h':=λb u e=>by
 have hn:=x.fresh hp
 by_cases hb:b=a
 ·subst hb;rw[ae]at e;cases e;exact new
 ·rw[aw hb]at e;exact(x b u e).Ac (λc v _ q=>k c v q) (λc q=>by rw[aw (aN q hn)];exact q) λc xs q=>by rw[aw (aN q hn)];exact q
end
def Rd (H:Hp)(a:Addr)(u:HO):Prop:=H a=some u\/∃o,H a=some (.frz o u)
theorem Rd.of {H:Hp}{a:Addr}{u:HO}(h:H a=some u):Rd H a u:=.inl h
theorem Rd.ok {P:ku}{w:World}{H:Hp}{h:Heap}{a:Addr}{u:HO}(r:Rd H a u)(x:HOk P w H h):eU P w H h a u:=by
 rcases r with r | ⟨o,r⟩
 ·exact x a u r
 ·obtain⟨_,q⟩:=x a _ r;exact q
def Mut:Option HO->Prop
 |some (.lst _)=>True
 |some (.dK _)=>True
 |some (.dT _)=>True
 |some (.set _ _)=>True
 |some (.ins _ _ _)=>True
 |some (.ext _)=>True
 |_=>False
section
variable{P:ku}{w:World}{H:Hp}{h h':Heap}{x e:Addr}{o':HO}
theorem HOk.write (ok:HOk P w H h)(mu:Mut (H x))(he:e=x\/H e=some (.own x))(k:∀b u,b≠e->h.get? b=some u->h'.get? b=some u)(heo:∃u,h'.get? e=some u)
  (new:eU P w (upd H x o') h' x o'):HOk P w (upd H x o') h':=λb u q=>by
 have VP:∀c y,H c=some (.own y)->c≠x:=λc y r z=>by subst z;rw[r]at mu;exact mu
 have abd:∀c xs,H c=some (.tup xs)->c≠x:=λc xs r z=>by subst z;rw[r]at mu;exact mu
 by_cases hb:b=x
 ·subst hb;rw[ae]at q;cases q;exact new
 ·rw[aw hb]at q
  by_cases hbe:b=e
  ·have q':H b=some (.own x):=by
    rcases he with z | z
    ·exact absurd (hbe.trans z) hb
    ·rw[hbe];exact z
   rw[q]at q';cases q';obtain⟨v,hv⟩:=heo;exact⟨v,by rw[hbe];exact hv⟩
  ·refine(ok b u q).Ac (λc v hc r=>k c v ?_ r) (λc r=>by rw[aw (VP c b r)];exact r) λc xs r=>by rw[aw (abd c xs r)];exact r
   rcases hc with rfl | hc
   ·exact hbe
   ·rintro rfl;rcases he with z | z
    ·exact VP c b hc z
    ·rw[hc]at z;cases z;exact hb rfl
end
structure Un (fs ex:List Addr)(H H':Hp)(h h':Heap):Prop where
 keep:∀b o,h.get? b=some o->H b=none->b∉fs->b∉ex->h'.get? b=some o
 slot:∀b o,h.get? b=some o->H b=none->b∈fs->b∉ex->∃sl,h'.get? b=some { o with slots:=sl }
 free:∀b o,h.get? b=some o->H b=none->b∉ex->H' b=none
 there:∀b o,h.get? b=some o->b∉ex->∃o',h'.get? b=some o'
 tf:∀b xs,H b=some (.tup xs)->H' b=some (.tup xs)
 rX:∀b o u,H b=some (.frz o u)->H' b=some (.frz o u)
 tj:∀b ps,H b=some (.tbl ps)->∃more,H' b=some (.tbl (ps++more))
section
variable{fs fs' ex ex':List Addr}{H H1 H2:Hp}{h h1 h2 h':Heap}{a x e:Addr}{o:HO}
theorem Un.any (u:Un fs ex H H1 h h1){b:Addr}{ob:Obj}(q:h.get? b=some ob)(n:H b=none)(hx:b∉ex):∃sl,h1.get? b=some { ob with slots:=sl }:=by
 by_cases hb:b∈fs
 ·exact u.slot b ob q n hb hx
 ·exact⟨ob.slots,u.keep b ob q n hb hx⟩
theorem Un.trans (a:Un fs ex H H1 h h1)(b:Un fs ex H1 H2 h1 h2):Un fs ex H H2 h h2 where
 keep:=λc ob q n hc hx=>b.keep c ob (a.keep c ob q n hc hx) (a.free c ob q n hx) hc hx
 slot:=λc ob q n hc hx=>by
  obtain⟨sl,e1⟩:=a.slot c ob q n hc hx;obtain⟨sl',e2⟩:=b.slot c _ e1 (a.free c ob q n hx) hc hx;exact⟨sl',e2⟩
 free:=λc ob q n hx=>by
  obtain⟨o',e1⟩:=a.there c ob q hx;exact b.free c o' e1 (a.free c ob q n hx) hx
 there:=λc ob q hx=>by
  obtain⟨o',e1⟩:=a.there c ob q hx;exact b.there c o' e1 hx
 tf:=λc xs q=>b.tf c xs (a.tf c xs q)
 rX:=λc ob xs q=>b.rX c ob xs (a.rX c ob xs q)
 tj:=λc ps q=>by
  obtain⟨m1,e1⟩:=a.tj c ps q;obtain⟨m2,e2⟩:=b.tj c _ e1;exact⟨m1++m2,by rw[e2,Array.append_assoc]⟩
theorem Un.kept (k:∀b u,h.get? b=some u->h'.get? b=some u):Un fs ex H H h h' :=
 ⟨λb ob q _ _ _=>k b ob q,λb ob q _ _ _=>⟨ob.slots,k b ob q⟩,λ_ _ _ n _=>n,λb ob q _=>⟨ob,k b ob q⟩,λ_ _ q=>q,λ_ _ _ q=>q,λ_ ps q=>⟨#[],by rw[q];simp⟩⟩
theorem Un.refl:Un fs ex H H h h:=Un.kept λ_ _ q=>q
theorem Un.laid (k:∀b u,h.get? b=some u->h'.get? b=some u)(hp:h.objs.size<=a)(hn:H a=none):Un fs ex H (upd H a o) h h' where
 keep:=λb u q _ _ _=>k b u q
 slot:=λb u q _ _ _=>⟨u.slots,k b u q⟩
 free:=λb u q n _=>by rw[aw (ad6 (wa (kx q) hp))];exact n
 there:=λb u q _=>⟨u,k b u q⟩
 tf:=λb xs q=>by rw[aw (aN q hn)];exact q
 rX:=λb u xs q=>by rw[aw (aN q hn)];exact q
 tj:=λb ps q=>⟨#[],by rw[aw (aN q hn),q];simp⟩
theorem Un.write (mu:Mut (H x))(he:e=x\/H e=some (.own x))(k:∀b u,b≠e->h.get? b=some u->h'.get? b=some u)(heo:∃u,h'.get? e=some u):Un fs ex H (upd H x o) h h':=by
 have hx:∀b,H b=none->b≠x:=λb n z=>by subst z;rw[n]at mu;exact mu
 have hb:∀b,H b=none->b≠e:=λb n z=>by
  subst z;rcases he with r | r
  ·exact hx b n r
  ·rw[n]at r;cases r
 have hm:∀b u,H b=some u->¬Mut (some u)->b≠x:=λb u q nm z=>by subst z;rw[q]at mu;exact nm mu
 refine⟨λb u q n _ _=>k b u (hb b n) q,λb u q n _ _=>⟨u.slots,k b u (hb b n) q⟩,λb u q n _=>by rw[aw (hx b n)];exact n,λb u q _=>?_,
  λb xs q=>by rw[aw (hm b _ q λz=>z)];exact q,λb u xs q=>by rw[aw (hm b _ q λz=>z)];exact q,λb ps q=>⟨#[],by rw[aw (hm b _ q λz=>z),q];simp⟩⟩
 by_cases hbe:b=e
 ·subst hbe;exact heo
 ·exact⟨u,k b u hbe q⟩
theorem Un.mono (u:Un fs ex H H1 h h1)(hs:∀b∈fs,b∈fs')(hx:∀b∈ex,b∈ex'):Un fs' ex' H H1 h h1 :=
 ⟨λb ob q n hb he=>u.keep b ob q n (λz=>hb (hs b z)) λz=>he (hx b z),λ_ _ q n _ he=>u.any q n λz=>he (hx _ z),λb ob q n he=>u.free b ob q n λz=>he (hx b z),λb ob q he=>u.there b ob q λz=>he (hx b z),u.tf,u.rX,u.tj⟩
end
def trk (h:Heap)(H:Hp):List Addr:=(List.range h.objs.size).filter λa=>(H a).isSome
def BE (h:Heap)(H:Hp):Heap:=PySem.W.hideAll h (trk h H)
theorem Jp (h:Heap)(H:Hp):(BE h H).objs.size=h.objs.size:=PySem.W.hideAll_size _ _
theorem KD {h:Heap}{H:Hp}{b:Addr}{o:Obj}(e:h.get? b=some o)(n:H b=none):(BE h H).get? b=some o :=
 PySem.W.hideAll_get _ e λhm=>by
  have q:(H b).isSome=true:=(List.mem_filter.mp hm).2;rw[n]at q;simp at q
theorem NW {h:Heap}{H:Hp}{b:Addr}{o:Obj}(e:(BE h H).get? b=some o):h.get? b=some o/\H b=none:=by
 have e':h.get? b=some o:=PySem.W.of_hideAll (trk h H) e;refine⟨e',?_⟩;cases q:H b with
 |none=>rfl
 |some x =>
  have hm:b∈trk h H:=List.mem_filter.mpr ⟨List.mem_range.mpr (kx e'),by simp[q]⟩
  have z:(BE h H).get? b=none:=PySem.W.hideAll_none (trk h H) hm;rw[z]at e;cases e
def NX (g h:Heap)(L:Addr):List (Addr×Obj):=(List.range h.objs.size).filterMap λa=>if a=L\/(g.get? a).isSome=true then none else (h.get? a).map λo=>(a,o)
def rest (g h:Heap)(L d:Addr):List (Addr×Obj):=(NX g h L).filter λp=>decide (p.1≠d)
end L2
namespace L2
open PySem PySem.Spec PyProof.Rows
structure Mod (K:ba)(mg:Str->Option Value)(base:Heap):Prop where
 kin:K.In base
 glob:base.Ns gn mg
 blt:∃mb,base.Ns builtinsNs mb/\∀x:Str,x≠"__name__"->mb x=bootBuiltins x
 nolimit:base.NoLimit
structure Cx where
 prog:ku
 w:World
 K:ba
 mg:Str->Option Value
 base:Heap
 A:Around
 N:List Str
 s₀:Shared
 H₀:Hp
 env:Env
 outer:List Env
 stack:List Env
 ex:List Addr
 fn:Str->Bool
 calm:Bool
 pn:List (Addr×Obj)
 xe:Value->Shared->Prop
def frs (l:List Env):List Addr:=l.filterMap (·.frame)
abbrev Cx.fs (X:Cx):List Addr:=frs X.outer
def Vis (sc:Scope)(x:Str):Prop:=sc.names.lookup x=some .local\/sc.names.lookup x=some .cell\/sc.names.lookup x=some .free
def Loc (sc:Scope)(x:Str):Prop:=sc.names.lookup x=some .local\/sc.names.lookup x=some .cell
def Look (env:Env)(h:Heap)(m:Str->Option Value)(x:Str)(u:Value):Prop :=
 (env.kindOf x=some .local/\m x=some u)\/((env.kindOf x=some .cell\/env.kindOf x=some .free)/\∃c,env.cells.lookup x=some c/\h.IsCell c (some u))
structure Cx.Ok (X:Cx):Prop where
 mod:Mod X.K X.mg X.base
 kind:X.env.scope.kind=.function
 glob:X.env.globals=gn
 blt:X.env.builtins=builtinsNs
 above:X.s₀.heap.objs.size<=X.env.locals
 inj:∀x y c,X.env.cells.lookup x=some c->X.env.cells.lookup y=some c->x=y
 has:∀x,(X.env.kindOf x=some .cell\/X.env.kindOf x=some .free)->∃c,X.env.cells.lookup x=some c
 cab:∀x c,X.fn x=true->X.env.cells.lookup x=some c->X.s₀.heap.objs.size<=c
 hd:X.calm=true->X.A.handled=none
 frames:X.A.frames=some X.stack
 stk:X.stack=X.outer\/(X.stack=X.env::X.outer/\X.env.frame=some X.env.locals)
 exf:∀b∈X.ex,b≠X.env.locals/\∀x c,X.env.cells.lookup x=some c->c≠b
 bs:∀b o,X.base.get? b=some o->X.s₀.heap.get? b=some o/\X.H₀ b=none
 bsz:X.base.objs.size<=X.s₀.heap.objs.size
 FV:∀b o,X.base.get? b=some o->b∉X.ex
 FW:∀b∈X.ex,b∉X.fs
 rY:X.s₀.heap.FunFrames X.base X.outer
 frf:∀b∈X.fs,X.H₀ b=none
structure Inv (X:Cx)(pins:List (Addr×Obj))(σ:List (Option V))(H:Hp)(s:Shared):Prop where
 ok:X.Ok
 os:s.os=X.s₀.os
 bare:AllBare s.gens
 base:Un X.fs X.ex X.H₀ H X.s₀.heap s.heap
 loc:∃m,s.heap.Ns X.env.locals m/\∀(i:Nat) (x:Str) (v:V),X.N[i]?=some x->σ[i]?=some (some v)->Vis X.env.scope x->∃u,RelV v u/\Look X.env s.heap m x u
 cell:∀x c,X.env.cells.lookup x=some c->∃v,s.heap.IsCell c v
 free:H X.env.locals=none
 nk:∀x c,X.env.cells.lookup x=some c->H c=none
 pin:∀p∈X.pn++pins,s.heap.get? p.1=some p.2/\H p.1=none/\p.1≠X.env.locals/\p.1∉X.fs/\∀v,p.2.data≠.cell v
 hok:HOk X.prog X.w H s.heap
 len:σ.length=X.N.length
section
variable{X:Cx}{pins:List (Addr×Obj)}{σ:List (Option V)}{H H':Hp}{s:Shared}{h':Heap}
theorem Cx.Ok.abe (ok:X.Ok){b:Addr}{o:Obj}(e:X.base.get? b=some o):b∉X.fs:=λhb=>by
 have:=(ok.rY.mem hb).1;rw[e]at this;cases this
theorem Inv.bs (I:Inv X pins σ H s):∀b o,X.base.get? b=some o->s.heap.get? b=some o/\H b=none:=λb o e =>
 ⟨I.base.keep b o (I.ok.bs b o e).1 (I.ok.bs b o e).2 (I.ok.abe e) (I.ok.FV b o e),I.base.free b o (I.ok.bs b o e).1 (I.ok.bs b o e).2 (I.ok.FV b o e)⟩
theorem Inv.bk (I:Inv X pins σ H s):∀b o,X.base.get? b=some o->s.heap.get? b=some o:=λb o e=>(I.bs b o e).1
theorem Inv.mod (I:Inv X pins σ H s):Mod X.K X.mg X.base:=I.ok.mod
theorem Inv.kIn (I:Inv X pins σ H s):X.K.In s.heap:=I.ok.mod.kin.keeps I.bk
theorem Inv.nolimit (I:Inv X pins σ H s):s.heap.NoLimit:=I.ok.mod.nolimit.keeps I.bk
theorem Inv.fr (I:Inv X pins σ H s):∃m,Fr X.base X.env.locals s.heap m :=
 let ⟨m,hn,_⟩:=I.loc
 ⟨m,hn,I.bk,om I.ok.bsz I.ok.above⟩
theorem Inv.lt (I:Inv X pins σ H s):X.env.locals < s.heap.objs.size:=let ⟨_,hn,_⟩:=I.loc;hn.lt
theorem Inv.sz (I:Inv X pins σ H s):X.s₀.heap.objs.size<=s.heap.objs.size:=om I.ok.above (Nat.le_of_lt I.lt)
theorem Inv.abf (I:Inv X pins σ H s){a:Addr}(h:s.heap.objs.size<=a):a∉X.fs:=λhb=>by
 obtain⟨_,o,ho,_⟩:=I.ok.rY.mem hb;exact absurd (wa (kx ho) (om I.sz h)) (Nat.lt_irrefl _)
theorem Inv.cne (I:Inv X pins σ H s):∀x c,X.env.cells.lookup x=some c->c≠X.env.locals:=λx c e z=>by
 obtain⟨v,o,ho,hd⟩:=I.cell x c e;obtain⟨m,⟨o',es,ep,ho',hd',_⟩,_⟩:=I.loc;rw[z,ho']at ho;cases ho;rw[hd']at hd;cases hd
theorem Inv.rY (I:Inv X pins σ H s):s.heap.FunFrames X.base X.outer:=by
 have all:∀(l:List Env),(∀b∈frs l,b∈X.fs)->X.s₀.heap.FunFrames X.base l->s.heap.FunFrames X.base l:=by
  intro l
  induction l with
  |nil=>intro _ _;trivial
  |cons env r ih =>
   intro hs hl;obtain⟨hk,⟨L,o,hf,hn,ho,hd⟩,hr⟩:=hl;have hL:L∈X.fs:=hs L (by unfold frs;rw[List.filterMap_cons,hf];exact fu)
   obtain⟨sl,e⟩:=I.base.slot L o ho (I.ok.frf L hL) hL λz=>I.ok.FW L z hL
   exact⟨hk,⟨L,_,hf,hn,e,hd⟩,ih (λb hb=>hs b (by unfold frs;rw[List.filterMap_cons,hf];exact ki _ hb)) hr⟩
 exact all X.outer (λ_ hb=>hb) I.ok.rY
theorem Inv.stack (I:Inv X pins σ H s):s.heap.FunFrames X.base X.stack:=by
 rcases I.ok.stk with e | ⟨e,hf⟩
 ·rw[e];exact I.rY
 ·rw[e];obtain⟨m,hn,_⟩:=I.loc;refine .cons (by rw[I.ok.kind];decide) hf hn ?_ I.rY
  exact Heap.get?_none_of_le (om I.ok.bsz I.ok.above)
theorem Inv.BF (I:Inv X pins σ H s):∀b∈frs X.stack,b∈X.env.locals::X.fs:=λb hb=>by
 rcases I.ok.stk with e | ⟨e,hf⟩
 ·rw[e]at hb;exact ki _ hb
 ·rw[e]at hb;unfold frs at hb;rw[List.filterMap_cons,hf]at hb;exact hb
theorem Inv.BG (I:Inv X pins σ H s):∀b∈frs X.stack,H b=none:=λb hb=>by
 rcases List.mem_cons.mp (I.BF b hb) with e | hb
 ·rw[e];exact I.free
 ·obtain⟨_,o,ho,_⟩:=I.ok.rY.mem hb;exact I.base.free b o ho (I.ok.frf b hb) λz=>I.ok.FW b z hb
theorem Inv.step {g':Array GenState}{t':Nat}{d':Drawn}{ch:List Addr}(I:Inv X pins σ H s)
  (hch:∀b∈ch,(b∈X.ex\/X.s₀.heap.objs.size<=b)/\b≠X.env.locals/\(∀x c,X.env.cells.lookup x=some c->c≠b)/\∀p∈X.pn++pins,p.1≠b)
  (keep:∀b o,b≠X.env.locals->b∉X.fs->b∉ch->s.heap.get? b=some o->H b=none->h'.get? b=some o)
  (slot:∀b o,b≠X.env.locals->b∈X.fs->b∉ch->s.heap.get? b=some o->H b=none->∃sl,h'.get? b=some { o with slots:=sl }) (free:∀b o,b∉ch->s.heap.get? b=some o->H b=none->H' b=none)
  (there:∀b o,b∉ch->s.heap.get? b=some o->∃o',h'.get? b=some o')
  (tf:∀b xs,H b=some (.tup xs)->H' b=some (.tup xs)) (rX:∀b o u,H b=some (.frz o u)->H' b=some (.frz o u)) (tj:∀b ps,H b=some (.tbl ps)->∃more,H' b=some (.tbl (ps++more)))
  (ns:∀m,s.heap.Ns X.env.locals m->h'.Ns X.env.locals m) (hok:HOk X.prog X.w H' h') (hg:AllBare g') :
  Inv X pins σ H' { s with heap:=h',gens:=g',drawn:=d',toks:=t' }:=by
 have neL:∀b o,X.s₀.heap.get? b=some o->b≠X.env.locals:=λb o e=>ad6 (wa (kx e) I.ok.above)
 have neC:∀b o,X.s₀.heap.get? b=some o->b∉X.ex->b∉ch:=λb o e hx hb=>by
  rcases (hch b hb).1 with z | z
  ·exact hx z
  ·exact absurd (wa (kx e) z) (Nat.lt_irrefl _)
 have cellK:∀x c,X.env.cells.lookup x=some c->∀v,s.heap.IsCell c v->h'.IsCell c v:=λx c e v ⟨o,ho,hd⟩=>by
  have nch:c∉ch:=λz=>(hch c z).2.2.1 x c e rfl
  by_cases hc:c∈X.fs
  ·obtain⟨sl,q⟩:=slot c o (I.cne x c e) hc nch ho (I.nk x c e);exact⟨_,q,hd⟩
  ·exact⟨o,keep c o (I.cne x c e) hc nch ho (I.nk x c e),hd⟩
 refine⟨I.ok,I.os,hg,⟨λb o e n hb hx=>?_,λb o e n hb hx=>?_,λb o e n hx=>?_,λb o e hx=>?_,λb xs e=>tf b xs (I.base.tf b xs e),λb o xs e=>rX b o xs (I.base.rX b o xs e),λb ps e=>?_⟩,?_,λx c e=>?_,?_,λx c e=>?_,λp hp=>?_,hok,I.len⟩
 ·exact keep b o (neL b o e) hb (neC b o e hx) (I.base.keep b o e n hb hx) (I.base.free b o e n hx)
 ·obtain⟨sl,e1⟩:=I.base.slot b o e n hb hx;obtain⟨sl',e2⟩:=slot b _ (neL b o e) hb (neC b o e hx) e1 (I.base.free b o e n hx);exact⟨sl',e2⟩
 ·obtain⟨o',e1⟩:=I.base.there b o e hx;exact free b o' (neC b o e hx) e1 (I.base.free b o e n hx)
 ·obtain⟨o',e1⟩:=I.base.there b o e hx;exact there b o' (neC b o e hx) e1
 ·obtain⟨m1,e1⟩:=I.base.tj b ps e;obtain⟨m2,e2⟩:=tj b _ e1;exact⟨m1++m2,by rw[e2,Array.append_assoc]⟩
 ·obtain⟨m,hn,hl⟩:=I.loc;refine⟨m,ns m hn,λi x v e1 e2 e3=>?_⟩
  obtain⟨u,r,l⟩:=hl i x v e1 e2 e3;refine⟨u,r,?_⟩;rcases l with l | ⟨k,c,e,z⟩
  ·exact .inl l
  ·exact .inr ⟨k,c,e,cellK x c e _ z⟩
 ·obtain⟨v,z⟩:=I.cell x c e;exact⟨v,cellK x c e v z⟩
 ·obtain⟨m,⟨o,_,_,ho,_⟩,_⟩:=I.loc;exact free _ o (λz=>(hch _ z).2.1 rfl) ho I.free
 ·obtain⟨v,o,ho,hd⟩:=I.cell x c e;exact free c o (λz=>(hch c z).2.2.1 x c e rfl) ho (I.nk x c e)
 ·obtain⟨e,n,ne,nf,d⟩:=I.pin p hp;have nch:p.1∉ch:=λz=>(hch p.1 z).2.2.2 p hp rfl
  exact⟨keep p.1 p.2 ne nf nch e n,free p.1 p.2 nch e n,ne,nf,d⟩
theorem Inv.un {t':Nat}(I:Inv X pins σ H s)(u:Un X.fs [] H H' s.heap h')(hok:HOk X.prog X.w H' h'):Inv X pins σ H' { s with heap:=h',toks:=t' }:=by
 obtain⟨m,⟨o,es,ep,ho,r⟩,_⟩:=id I.loc;obtain⟨sl,hL⟩:=u.any ho I.free (by simp)
 exact I.step (g':=s.gens) (d':=s.drawn) (ch:=[]) (λ_ z=>nomatch z) (λb o _ hb _ e n=>u.keep b o e n hb (by simp)) (λb o _ hb _ e n=>u.slot b o e n hb (by simp)) (λb o _ e n=>u.free b o e n (by simp)) (λb o _ e=>u.there b o e (by simp)) u.tf u.rX u.tj (λm' hm=>by
  obtain⟨o',es',ep',ho',r'⟩:=hm;rw[ho]at ho';cases ho';exact⟨_,es',ep',hL,r'⟩) hok I.bare
theorem Inv.call {g':Array GenState}{t':Nat}{d':Drawn}{ch:List Addr}(I:Inv X pins σ H s)(u:Un (frs X.stack) ch H H' s.heap h')(hok:HOk X.prog X.w H' h')(hg:AllBare g')
  (hch:∀b∈ch,(b∈X.ex\/X.s₀.heap.objs.size<=b)/\b≠X.env.locals/\(∀x c,X.env.cells.lookup x=some c->c≠b)/\∀p∈X.pn++pins,p.1≠b) :
  Inv X pins σ H' { s with heap:=h',gens:=g',drawn:=d',toks:=t' }:=by
 obtain⟨m,⟨o,es,ep,ho,r⟩,_⟩:=id I.loc;obtain⟨sl,hL⟩:=u.any ho I.free λz=>(hch _ z).2.1 rfl
 exact I.step (ch:=ch) hch (λb o hL hb hc e n=>u.keep b o e n (λz=>(List.mem_cons.mp (I.BF b z)).elim hL hb) hc) (λb o _ _ hc e n=>u.any e n hc) (λb o hc e n=>u.free b o e n hc) (λb o hc e=>u.there b o e hc) u.tf u.rX u.tj (λm' hm=>by
  obtain⟨o',es',ep',ho',r'⟩:=hm;rw[ho]at ho';cases ho';exact⟨_,es',ep',hL,r'⟩) hok hg
theorem Inv.turned {t':Nat}{it:Addr}(I:Inv X pins σ H s)(k:∀b o,b≠it->s.heap.get? b=some o->h'.get? b=some o)(hn:H it=none)(hL:it≠X.env.locals)
  (h1:it∈X.ex\/X.s₀.heap.objs.size<=it) (h2:∀x c,X.env.cells.lookup x=some c->c≠it) (h3:∀p∈X.pn++pins,p.1≠it):Inv X pins σ H { s with heap:=h',toks:=t' }:=by
 have nit:∀b u,H b=some u->b≠it:=λb u e z=>by rw[z,hn]at e;cases e
 refine I.step (g':=s.gens) (d':=s.drawn) (ch:=[it]) (λb hb=>?_) (λb o _ _ hc e _=>k b o (λz=>hc (by simp[z])) e) (λb o _ _ hc e _=>⟨o.slots,k b o (λz=>hc (by simp[z])) e⟩) (λ_ _ _ _ n=>n)
  (λb o hc e=>⟨o,k b o (λz=>hc (by simp[z])) e⟩) (λ_ _ e=>e) (λ_ _ _ e=>e) (λb ps e=>⟨#[],by rw[e];simp⟩) (λm hm=>?_) (λb u e=>?_) I.bare
 ·have e:b=it:=by simpa using hb
  subst e;exact⟨h1,hL,h2,h3⟩
 ·obtain⟨o,es,ep,ho,r⟩:=hm;exact⟨o,es,ep,k _ o (ad9 hL) ho,r⟩
 ·refine(I.hok b u e).Ac (λc v hc q=>k c v ?_ q) (λ_ q=>q) λ_ _ q=>q
  rcases hc with z | z
  ·rw[z];exact nit b u e
  ·exact nit c _ z
theorem Inv.tok (I:Inv X pins σ H s)(t:Nat):Inv X pins σ H { s with toks:=t }:=I.un (h':=s.heap) (t':=t) Un.refl I.hok
theorem Inv.kept {t':Nat}(I:Inv X pins σ H s)(k:∀b u,s.heap.get? b=some u->h'.get? b=some u):Inv X pins σ H { s with heap:=h',toks:=t' }:=I.un (Un.kept k) (I.hok.kept k)
theorem Inv.laid {a:Addr}{o:HO}{t':Nat}(I:Inv X pins σ H s)(k:∀b u,s.heap.get? b=some u->h'.get? b=some u)(hp:s.heap.objs.size<=a)(new:eU X.prog X.w (upd H a o) h' a o) :
  Inv X pins σ (upd H a o) { s with heap:=h',toks:=t' }:=I.un (Un.laid k hp (I.hok.fresh hp)) (I.hok.laid k hp new)
theorem Inv.write {x e:Addr}{o:HO}{t':Nat}(I:Inv X pins σ H s)(mu:Mut (H x))(he:e=x\/H e=some (.own x))(k:∀b u,b≠e->s.heap.get? b=some u->h'.get? b=some u)(heo:∃u,h'.get? e=some u)
  (new:eU X.prog X.w (upd H x o) h' x o):Inv X pins σ (upd H x o) { s with heap:=h',toks:=t' }:=I.un (Un.write mu he k heo) (I.hok.write mu he k heo new)
theorem Inv.BH {PB:List (Addr×Obj)}(I:Inv X pins σ H s)(h:∀p∈PB,s.heap.get? p.1=some p.2/\H p.1=none/\p.1≠X.env.locals/\p.1∉X.fs/\∀v,p.2.data≠.cell v):Inv X PB σ H s :=
 ⟨I.ok,I.os,I.bare,I.base,I.loc,I.cell,I.free,I.nk,λp hp=>(List.mem_append.mp hp).elim (λz=>I.pin p (aex _ z)) (h p),I.hok,I.len⟩
theorem yq {N:List Str}(hN:N.Nodup){i j:Nat}{x:Str}(a:N[i]?=some x)(b:N[j]?=some x):i=j:=by
 obtain⟨h1,e1⟩:=List.getElem?_eq_some_iff.mp a;obtain⟨h2,e2⟩:=List.getElem?_eq_some_iff.mp b;exact(List.getElem_inj hN).mp (e1.trans e2.symm)
theorem Jq {M:Model}{A:Around}{E:Value->Shared->Prop}{i:Nat}{x:Str}{v:V}{u:Value}{Q:Unit->Shared->Prop}(I:Inv X pins σ H s)(hN:X.N.Nodup)(hi:X.N[i]?=some x)(hx:Loc X.env.scope x)(r:RelV v u)
  (h:∀s',Inv X pins (σ.set i (some v)) H s'->(∃a,Heap.SameBut a s.heap s'.heap/\(a=X.env.locals\/X.env.cells.lookup x=some a))->Q () s') (hf:X.fn x=true\/X.env.scope.names.lookup x=some .local:=by first | exact .inl rfl | exact .inr rfl | assumption):wpAny M A (storeName X.env x u) Q E s:=by
 obtain⟨m,hn,hl⟩:=id I.loc;have abg:(X.env.scope.kind == .class || (X.env.scope.kind == .module && X.env.locals != X.env.globals))=false:=by rw[I.ok.kind];rfl
 have hiσ:i < σ.length:=by rw[I.len];exact(List.getElem?_eq_some_iff.mp hi).1
 have cne:=I.cne;have tracked:∀ {a:Addr} {h':Heap},(∃o,s.heap.get? a=some o/\H a=none)->Heap.SameBut a s.heap h'->HOk X.prog X.w H h':=λ{a h'} ha hs b ob e=>by
  obtain⟨_,_,PD⟩:=ha;refine(I.hok b ob e).Ac (λc w' hc q=>(hs.2 c ?_).trans q) (λ_ q=>q) λ_ _ q=>q
  rintro rfl;rcases hc with rfl | hc
  ·rw[PD]at e;cases e
  ·rw[PD]at hc;cases hc
 rcases hx with hk | hk
 ·refine wpAny_storeName_local hk hn (λh' hn' hs=>?_) abg
  obtain⟨oL,_,_,hoL,_⟩:=id hn;refine h _ ⟨I.ok,I.os,I.bare,⟨λb o e n hb hx=>?_,λb o e n hb hx=>?_,I.base.free,λb o e hx=>?_,I.base.tf,I.base.rX,I.base.tj⟩,⟨_,hn',λj y v' e1 e2 e3=>?_⟩,λy c e=>?_,I.free,I.nk,λp hp=>?_,tracked ⟨oL,hoL,I.free⟩ hs,by simpa using I.len⟩ ⟨_,hs,.inl rfl⟩
  ·exact(hs.2 b (ad6 (wa (kx e) I.ok.above))).trans (I.base.keep b o e n hb hx)
  ·obtain⟨sl,e1⟩:=I.base.slot b o e n hb hx;exact⟨sl,(hs.2 b (ad6 (wa (kx e) I.ok.above))).trans e1⟩
  ·obtain⟨o',e1⟩:=I.base.there b o e hx;exact⟨o',(hs.2 b (ad6 (wa (kx e) I.ok.above))).trans e1⟩
  ·by_cases hj:j=i
   ·subst hj;rw[hi]at e1;cases e1;rw[List.getElem?_set_self hiσ]at e2;cases e2;exact⟨u,r,.inl ⟨hk,by simp⟩⟩
   ·rw[List.getElem?_set_ne (ad9 hj)]at e2;obtain⟨u',r',q⟩:=hl j y v' e1 e2 e3;refine⟨u',r',?_⟩;rcases q with ⟨k,e⟩ | ⟨k,c,e,z⟩
    ·refine .inl ⟨k,?_⟩;have:y≠x:=λe=>hj (yq hN e1 (e▸hi))
     simp[this,e]
    ·exact .inr ⟨k,c,e,z.sameBut hs (cne y c e)⟩
  ·obtain⟨w',z⟩:=I.cell y c e;exact⟨w',z.sameBut hs (cne y c e)⟩
  ·obtain⟨e,n,ne,nf,d⟩:=I.pin p hp;exact⟨(hs.2 p.1 ne).trans e,n,ne,nf,d⟩
 ·have hfn:X.fn x=true:=by
   rcases hf with z | z
   ·exact z
   ·rw[z]at hk;cases hk
  obtain⟨c,hc⟩:=I.ok.has x (.inl hk);obtain⟨w',z⟩:=I.cell x c hc;refine wpAny_storeName_cell I.ok.kind hk hc z (λh' hc' hs=>?_)
  obtain⟨oc,hoc,abh⟩:=id z;refine h { s with heap:=h' } ⟨I.ok,I.os,I.bare,⟨λb o e n hb hx=>?_,λb o e n hb hx=>?_,I.base.free,λb o e hx=>?_,I.base.tf,I.base.rX,I.base.tj⟩,⟨m,hn.sameBut hs (ad9 (cne x c hc)),λj y v' e1 e2 e3=>?_⟩,λy c' e=>?_,I.free,I.nk,λp hp=>?_,tracked ⟨oc,hoc,I.nk x c hc⟩ hs,by simpa using I.len⟩ ⟨c,hs,.inr hc⟩
  ·exact(hs.2 b (ad6 (wa (kx e) (I.ok.cab x c hfn hc)))).trans (I.base.keep b o e n hb hx)
  ·obtain⟨sl,e1⟩:=I.base.slot b o e n hb hx;exact⟨sl,(hs.2 b (ad6 (wa (kx e) (I.ok.cab x c hfn hc)))).trans e1⟩
  ·obtain⟨o',e1⟩:=I.base.there b o e hx;exact⟨o',(hs.2 b (ad6 (wa (kx e) (I.ok.cab x c hfn hc)))).trans e1⟩
  ·by_cases hj:j=i
   ·subst hj;rw[hi]at e1;cases e1;rw[List.getElem?_set_self hiσ]at e2;cases e2;exact⟨u,r,.inr ⟨.inl hk,c,hc,hc'⟩⟩
   ·rw[List.getElem?_set_ne (ad9 hj)]at e2;obtain⟨u',r',q⟩:=hl j y v' e1 e2 e3;refine⟨u',r',?_⟩;rcases q with q | ⟨k,c',e,z'⟩
    ·exact .inl q
    ·refine .inr ⟨k,c',e,z'.sameBut hs ?_⟩;rintro rfl;exact hj (yq hN e1 (I.ok.inj _ _ _ e hc▸hi))
  ·by_cases hcc:c'=c
   ·subst hcc;exact⟨_,hc'⟩
   ·obtain⟨w2,z2⟩:=I.cell y c' e;exact⟨w2,z2.sameBut hs hcc⟩
  ·obtain⟨e,n,ne,nf,d⟩:=I.pin p hp;refine⟨(hs.2 p.1 ?_).trans e,n,ne,nf,d⟩;intro q;rw[q,hoc]at e;have q':oc=p.2:=ad8 e;exact d w' (by rw[<-q'];exact abh)
theorem pX {M:Model}{A:Around}{E:Value->Shared->Prop}{i:Nat}{x:Str}{v:V}{u:Value}{Q:Unit->Shared->Prop}(I:Inv X pins σ H s)(hN:X.N.Nodup)(hi:X.N[i]?=some x)(hx:Loc X.env.scope x)(r:RelV v u)
  (h:∀s',Inv X pins (σ.set i (some v)) H s'->Q () s') (hf:X.fn x=true\/X.env.scope.names.lookup x=some .local:=by first | exact .inl rfl | exact .inr rfl | assumption):wpAny M A (storeName X.env x u) Q E s :=
 Jq I hN hi hx r (λs' I' _=>h s' I') hf
theorem Inv.KG {s':Shared}{ch:List Addr}(I:Inv X pins σ H s)(ho:s'.os=s.os)(u:Un (frs X.stack) ch H H' s.heap s'.heap)(hok:HOk X.prog X.w H' s'.heap)(hg:AllBare s'.gens)
  (hch:∀b∈ch,(b∈X.ex\/X.s₀.heap.objs.size<=b)/\b≠X.env.locals/\(∀x c,X.env.cells.lookup x=some c->c≠b)/\∀p∈X.pn++pins,p.1≠b):Inv X pins σ H' s':=by
 obtain⟨h',g',d',t',o'⟩:=s';have e:o'=s.os:=ho;subst e;exact I.call (g':=g') (t':=t') (d':=d') u hok hg hch
end
abbrev XK:=Value->Option Addr->Hp->Prop
abbrev St:=List (Option V)
abbrev VK:=V->Hp->Prop
abbrev TE:=St->Hp->VK->Prop
abbrev TT:=St->Hp->(Bool->Hp->Prop)->Prop
abbrev TA:=St->Hp->(List V->Hp->Prop)->Prop
structure Ends where
 nx:St->Hp->Prop
 rt:VK
 bk:St->Hp->Prop:=λ_ _=>False
 ct:St->Hp->Prop:=λ_ _=>False
abbrev TS:=Ends->St->Hp->Prop
def EP (X:Cx)(pins:List (Addr×Obj))(σ:St)(Q:VK)(u:Value)(s':Shared):Prop:=∃v H',Inv X pins σ H' s'/\RelV v u/\Q v H'
def TP (X:Cx)(pins:List (Addr×Obj))(σ:St)(Q:Bool->Hp->Prop)(b:Bool)(s':Shared):Prop:=∃H',Inv X pins σ H' s'/\Q b H'
def AP (X:Cx)(pins:List (Addr×Obj))(σ:St)(Q:List V->Hp->Prop)(us:List Value)(s':Shared):Prop:=∃vs H',Inv X pins σ H' s'/\Vals vs us/\Q vs H'
def SP (X:Cx)(pins:List (Addr×Obj))(D:Ends)(f:Flow)(s':Shared):Prop :=
 match f with
 | .next=>∃σ' H',Inv X pins σ' H' s'/\D.nx σ' H'
 | .brk=>∃σ' H',Inv X pins σ' H' s'/\D.bk σ' H'
 | .cont=>∃σ' H',Inv X pins σ' H' s'/\D.ct σ' H'
 | .ret u=>∃v σ' H',Inv X pins σ' H' s'/\RelV v u/\D.rt v H'
def PE (X:Cx)(e:Expr)(t:TE):Prop :=
 ∀(pins:List (Addr×Obj)) (s:Shared) (σ:St) (H:Hp) (Q:VK),Inv X pins σ H s->t σ H Q->wpAny (model X.prog X.w) X.A (eval e X.env) (EP X pins σ Q) X.xe s
def PT (X:Cx)(e:Expr)(t:TT):Prop :=
 ∀(pins:List (Addr×Obj)) (s:Shared) (σ:St) (H:Hp) (Q:Bool->Hp->Prop),Inv X pins σ H s->t σ H Q->wpAny (model X.prog X.w) X.A (isTrue e X.env (eval e X.env)) (TP X pins σ Q) X.xe s
def PW (X:Cx)(e:Expr)(t:TT):Prop :=
 ∀(whole:Sem Value) (pins:List (Addr×Obj)) (s:Shared) (σ:St) (H:Hp) (Q:Bool->Hp->Prop),Inv X pins σ H s->t σ H Q->wpAny (model X.prog X.w) X.A (isTrue e X.env whole) (TP X pins σ Q) X.xe s
theorem PW.pt {X:Cx}{e:Expr}{t:TT}(h:PW X e t):PT X e t:=h _
def PA (X:Cx)(es:List Expr)(t:TA):Prop :=
 ∀(pos:Pos) (pins:List (Addr×Obj)) (s:Shared) (σ:St) (H:Hp) (Q:List V->Hp->Prop),Inv X pins σ H s->t σ H Q->wpAny (model X.prog X.w) X.A (spliced (backTo pos (si es X.env))) (AP X pins σ Q) X.xe s
def PS (X:Cx)(st:Stmt)(t:TS):Prop :=
 ∀(pins:List (Addr×Obj)) (s:Shared) (σ:St) (H:Hp) (D:Ends),Inv X pins σ H s->t D σ H->wpAny (model X.prog X.w) X.A (exec st X.env) (SP X pins D) X.xe s
def PSs (X:Cx)(st:List Stmt)(t:TS):Prop :=
 ∀(pins:List (Addr×Obj)) (s:Shared) (σ:St) (H:Hp) (D:Ends),Inv X pins σ H s->t D σ H->wpAny (model X.prog X.w) X.A (execs st X.env) (SP X pins D) X.xe s
theorem thn {α:Type}{t:Sem α}{Q Q':α->Shared->Prop}{M:Model}{A:Around}{E:Value->Shared->Prop}{s:Shared}(h:wpAny M A t Q E s)(hQ:∀a s,Q a s->Q' a s):wpAny M A t Q' E s:=adm h hQ λ_ _ x=>x
end L2
namespace L2
open PySem PySem.Spec PyProof.Rows
section
variable{X:Cx}
theorem bin {a b:Expr}{ta tb:TE}(ha:PE X a ta)(hb:PE X b tb){pins:List (Addr×Obj)}{s:Shared}{σ:St}{H:Hp}{R:V->V->Hp->Prop}(I:Inv X pins σ H s)(h:ta σ H λx H1=>tb σ H1 λy H2=>R x y H2)
  {α:Type} {Q:α->Shared->Prop} {f:Value->Value->Sem α}
  (hf:∀v u s2 x y H2,Inv X pins σ H2 s2->RelV x v->RelV y u->R x y H2->wpAny (model X.prog X.w) X.A (f v u) Q X.xe s2) :
  wpAny (model X.prog X.w) X.A (eval a X.env) (λv s₁=>wpAny (model X.prog X.w) X.A (eval b X.env) (λu s₂=>wpAny (model X.prog X.w) X.A (f v u) Q X.xe s₂) X.xe s₁) X.xe s:=by
 refine thn (ha pins s σ H _ I h) λv s1 ⟨x,H1,I1,r1,q1⟩=>?_
 refine thn (hb pins s1 σ H1 _ I1 q1) λu s2 ⟨y,H2,I2,r2,q2⟩=>?_
 exact hf v u s2 x y H2 I2 r1 r2 q2
def VQ (i:Nat):TE:=λσ H Q=>∃v,σ[i]?=some (some v)/\Q v H
def tC (v:V):TE:=λ_ H Q=>Q v H
theorem Q4 {i:Nat}{x:Str}{pos:Pos}(hN:X.N[i]?=some x)(hv:Vis X.env.scope x)(hd:(x == ("__debug__":Str))=false:=by decide)(hcd:(x == ("__classdict__":Str))=false:=by decide):PE X (.Name x pos) (VQ i):=by
 intro pins s σ H Q I h;obtain⟨v,e,h⟩:=h;obtain⟨m,hn,hl⟩:=I.loc;obtain⟨u,r,l⟩:=hl i x v hN e hv;have fin:EP X pins σ Q u s:=⟨v,H,I,r,h⟩;rcases l with ⟨hk,hm⟩ | ⟨hk,c,hc,tq⟩
 ·exact wpAny_Name (wpAny_loadName_local I.ok.kind hk hn hm fin) hd
 ·rcases hk with hk | hk
  ·exact wpAny_Name (wpAny_loadName_cell I.ok.kind hk hc tq fin) hd
  ·exact wpAny_Name (wpAny_loadName_free I.ok.kind hk hc tq fin hcd) hd
theorem ak {i j pos}:PE X (.Constant (.int i) j pos) (tC (.int i)):=λ_ _ _ H _ I h=>wpAny_Constant_int ⟨.int i,H,I.tok _,⟨_,rfl⟩,h⟩
theorem pY {b j pos}:PE X (.Constant (.bool b) j pos) (tC (.bl b)):=λ_ _ _ H _ I h=>Constant_bool ⟨.bl b,H,I,rfl,h⟩
theorem Q5 {j pos}:PE X (.Constant .none j pos) (tC .non):=λ_ _ _ H _ I h=>Constant_none ⟨.non,H,I,rfl,h⟩
theorem az {x j pos}:PE X (.Constant (.str x) j pos) (tC (.str x)):=λ_ _ _ H _ I h=>Calls.Constant_str ⟨.str x,H,I.tok _,⟨_,rfl⟩,h⟩
def Gl (X:Cx)(x:Str):Prop:=X.env.kindOf x=some .globalImplicit
theorem kM {E:Value->Shared->Prop}{pins:List (Addr×Obj)}{s:Shared}{σ:St}{H:Hp}{x:Str}{u:Value}{pos:Pos}{Q:Value->Shared->Prop}(I:Inv X pins σ H s)(hg:Gl X x)(hm:X.mg x=some u)(h:Q u s)
  (hd:(x == ("__debug__":Str))=false:=by decide):wpAny (model X.prog X.w) X.A (eval (.Name x pos) X.env) Q E s :=
 Calls.Name_function_global I.ok.kind hg (Calls.loadGlobal_global (by rw[I.ok.glob];exact I.mod.glob.keeps I.bk) hm h) hd
theorem FX {E:Value->Shared->Prop}{pins:List (Addr×Obj)}{s:Shared}{σ:St}{H:Hp}{x:Str}{u:Value}{pos:Pos}{Q:Value->Shared->Prop}(I:Inv X pins σ H s)(hg:Gl X x)(hm:X.mg x=none)(hv:bootBuiltins x=some u)(h:Q u s)
  (hn:x≠"__name__":=by decide) (hd:(x == ("__debug__":Str))=false:=by decide):wpAny (model X.prog X.w) X.A (eval (.Name x pos) X.env) Q E s:=by
 obtain⟨mb,h1,h2⟩:=I.mod.blt;exact Calls.Name_function_global I.ok.kind hg (Calls.loadGlobal_builtin (by rw[I.ok.glob];exact I.mod.glob.keeps I.bk) hm (by rw[I.ok.blt];exact h1.keeps I.bk) ((h2 x hn).trans hv) h) hd
theorem BI {x:Str}{v:V}{u:Value}{pos:Pos}(hg:Gl X x)(hm:X.mg x=some u)(r:RelV v u)(hd:(x == ("__debug__":Str))=false:=by decide):PE X (.Name x pos) (tC v) :=
 λ_ _ _ H _ I h=>kM I hg hm ⟨v,H,I,r,h⟩ hd
variable{a b:Expr}{ta tb:TE}{pos:Pos}
def PC (X:Cx)(op:CmpOp)(a b:Expr)(t:TE):Prop :=
 ∀(pins:List (Addr×Obj)) (s:Shared) (σ:St) (H:Hp) (Q:VK),Inv X pins σ H s->t σ H Q ->
  wpAny (model X.prog X.w) X.A (eval a X.env) (λv s₁=>wpAny (model X.prog X.w) X.A (eval b X.env) (λu s₂=>wpAny (model X.prog X.w) X.A (aeZ op v u) (EP X pins σ Q) X.xe s₂) X.xe s₁) X.xe s
theorem KH (b:Expr){op:CmpOp}(h:op≠.In)(h2:op≠.NotIn):behindInMarks op b=false:=by
 have e1:(op == CmpOp.In)=false:=by cases op <;> first | rfl | exact absurd rfl h
 have e2:(op == CmpOp.NotIn)=false:=by cases op <;> first | rfl | exact absurd rfl h2
 cases b <;> simp[behindInMarks,e1,e2]
def tB (t:TE):TT:=λσ H Q=>t σ H λx H1=>∃c,x=.bl c/\Q c H1
theorem KI {op:CmpOp}{t:TE}(h:PC X op a b t)(h1:behindInMarks op b=false:=by first | exact KH _ (by decide) (by decide) | rfl):PT X (.Compare a [op] [b] pos) (tB t):=by
 intro pins s σ H Q I hw;refine wpAny_isTrue_Compare1 (thn (h pins s σ H _ I hw) λv s1 h1=>thn h1 λu s2 h2=>thn h2 λc s3 ⟨x,H1,I1,r1,q1⟩=>?_) h1
 obtain⟨d,rfl,q⟩:=q1;cases r1;exact wpAny_truthy_bool ⟨H1,I1,q⟩
theorem rZ {e:Expr}{t:TE}(h:PE X e t)(he:∀whole,isTrue e X.env whole=(do let v <-whole;standAt e.pos;holding [v] (truthy v)):=by intro _;rfl):PT X e (tB t):=by
 intro pins s σ H Q I hw;refine isTrue_plain (thn (h pins s σ H _ I hw) λv s1 ⟨x,H1,I1,r1,q1⟩=>?_) (he _)
 obtain⟨d,rfl,q⟩:=q1;cases r1;exact wpAny_truthy_bool ⟨H1,I1,q⟩
variable{tA tB':TT}{rest:List Expr}
def abi (t u:TT):TT:=λσ H Q=>t σ H λc H1=>if c=true then u σ H1 Q else Q false H1
def tOr (t u:TT):TT:=λσ H Q=>t σ H λc H1=>if c=true then Q true H1 else u σ H1 Q
def abj (t:TT):TT:=λσ H Q=>t σ H λc H1=>Q (!c) H1
theorem pw_and1 (ha:PT X a tA):PW X (.BoolOp .And [a] pos) tA:=by
 intro wh pins s σ H Q I h;refine isTrue_and (thn (ha pins s σ H Q I h) λc s1 e=>?_)
 cases c with
 |true=>exact isTrue_and_nil e
 |false=>exact e
theorem pw_or1 (ha:PT X a tA):PW X (.BoolOp .Or [a] pos) tA:=by
 intro wh pins s σ H Q I h;refine isTrue_or (thn (ha pins s σ H Q I h) λc s1 e=>?_)
 cases c with
 |false=>exact isTrue_or_nil e
 |true=>exact e
theorem pw_and (ha:PT X a tA)(hb:PW X (.BoolOp .And (b::rest) pos) tB'):PW X (.BoolOp .And (a::b::rest) pos) (abi tA tB'):=by
 intro wh pins s σ H Q I h;refine isTrue_and (thn (ha pins s σ H _ I h) λc s1 ⟨H1,I1,q1⟩=>?_)
 cases c with
 |true=>exact hb wh pins s1 σ H1 Q I1 q1
 |false=>exact⟨H1,I1,q1⟩
theorem pw_or (ha:PT X a tA)(hb:PW X (.BoolOp .Or (b::rest) pos) tB'):PW X (.BoolOp .Or (a::b::rest) pos) (tOr tA tB'):=by
 intro wh pins s σ H Q I h;refine isTrue_or (thn (ha pins s σ H _ I h) λc s1 ⟨H1,I1,q1⟩=>?_)
 cases c with
 |true=>exact⟨H1,I1,q1⟩
 |false=>exact hb wh pins s1 σ H1 Q I1 q1
theorem uJ (ha:PT X a tA):PT X (.UnaryOp .Not a pos) (abj tA):=by
 intro pins s σ H Q I h;exact isTrue_not (ha pins s σ H (λc H1=>Q (!c) H1) I h)
def VR (ta tb:TE):TE:=λσ H Q=>ta σ H λx H1=>∃c,x=.bl c/\if c=true then tb σ H1 Q else Q (.bl false) H1
def abk (ta tb:TE):TE:=λσ H Q=>ta σ H λx H1=>∃c,x=.bl c/\if c=true then Q (.bl true) H1 else tb σ H1 Q
theorem KJ {op}{t:TE}(h:PE X a t):PE X (.BoolOp op [a] pos) t:=λpins s σ H Q I hw=>BoolOp_one (h pins s σ H Q I hw)
theorem Q6 (ha:PE X a ta)(hb:PE X (.BoolOp .And (b::rest) pos) tb):PE X (.BoolOp .And (a::b::rest) pos) (VR ta tb):=by
 intro pins s σ H Q I h;refine BoolOp_and (thn (ha pins s σ H _ I h) λv s1 ⟨x,H1,I1,r1,q1⟩=>?_)
 obtain⟨c,rfl,q1⟩:=q1;cases r1;refine wpAny_truthy_bool ?_;cases c with
 |true=>exact hb pins s1 σ H1 Q I1 q1
 |false=>exact⟨.bl false,H1,I1,rfl,q1⟩
theorem VS (ha:PE X a ta)(hb:PE X (.BoolOp .Or (b::rest) pos) tb):PE X (.BoolOp .Or (a::b::rest) pos) (abk ta tb):=by
 intro pins s σ H Q I h;refine BoolOp_or (thn (ha pins s σ H _ I h) λv s1 ⟨x,H1,I1,r1,q1⟩=>?_)
 obtain⟨c,rfl,q1⟩:=q1;cases r1;refine wpAny_truthy_bool ?_;cases c with
 |false=>exact hb pins s1 σ H1 Q I1 q1
 |true=>exact⟨.bl true,H1,I1,rfl,q1⟩
def tIf (t:TT)(ta tb:TE):TE:=λσ H Q=>t σ H λc H1=>if c=true then ta σ H1 Q else tb σ H1 Q
theorem C6 {c:Expr}(hc:PT X c tA)(ha:PE X a ta)(hb:PE X b tb):PE X (.IfExp c a b pos) (tIf tA ta tb):=by
 intro pins s σ H Q I h;refine wpAny_IfExp (thn (hc pins s σ H _ I h) λd s1 ⟨H1,I1,q1⟩=>?_)
 cases d with
 |true=>exact ha pins s1 σ H1 Q I1 q1
 |false=>exact hb pins s1 σ H1 Q I1 q1
end
end L2
namespace L2
open PySem PySem.Spec PyProof.Rows
def SqL (K:ba)(H:Hp)(a:Addr)(xs:List V):Prop :=
 Rd H a (.lst xs) \/
  ∃(o:Obj) (its:Array Value) (n:Nat),K.lookup a=some o/\o.cls=.type "list"/\o.dict=none/\o.data=.seq its n/\its.size<=gp/\Vals xs its.toList
def SqT (K:ba)(H:Hp)(a:Addr)(xs:List V):Prop :=
 Rd H a (.tup xs) \/
  ∃(o:Obj) (its:Array Value) (n:Nat),K.lookup a=some o/\o.cls=.type "tuple"/\o.data=.seq its n/\its.size<=gp/\Vals xs its.toList
def abl:Value->Option V
 | .none=>some .non
 | .bool b=>some (.bl b)
 | .int i _=>some (.int i)
 | .str x _=>some (.str x)
 | .bytes b _=>some (.byt b)
 | .float b _=>some (.flt b)
 | .ref a=>some (.ref a)
 | .type n=>some (.ty n)
 |_=>none
theorem RelV.abs {x:V}{u:Value}(r:RelV x u):abl u=some x:=by
 cases x with
 |non=>cases r;rfl
 |bl _=>cases r;rfl
 |int _=>obtain⟨t,rfl⟩:=r;rfl
 |str _=>obtain⟨t,rfl⟩:=r;rfl
 |byt _=>obtain⟨t,rfl⟩:=r;rfl
 |flt _=>obtain⟨t,rfl⟩:=r;rfl
 |ref _=>cases r;rfl
 |ty _=>cases r;rfl
theorem RelV.inj {x y:V}{u:Value}(r:RelV x u)(q:RelV y u):x=y:=ad8 (r.abs.symm.trans q.abs)
theorem Vals.inj:∀ {xs ys:List V} {us:List Value},Vals xs us->Vals ys us->xs=ys
 |_,_,_,.nil,.nil=>rfl
 |_,_,_,.cons r t,.cons r' t'=>by rw[r.inj r',Vals.inj t t']
section
variable{X:Cx}{pins:List (Addr×Obj)}{σ:St}{H:Hp}{s:Shared}{a:Addr}{xs ys:List V}
theorem SqL.of {K:ba}(h:H a=some (.lst xs)):SqL K H a xs:=.inl (.inl h)
theorem SqT.of {K:ba}(h:H a=some (.tup xs)):SqT K H a xs:=.inl (.inl h)
theorem Inv.list (I:Inv X pins σ H s)(h:SqL X.K H a xs):∃its:List Value,Vals xs its/\PlainL s.heap a its.toArray/\xs.length<=gp:=by
 rcases h with h | ⟨o,its,n,hk,hc,hd,hs,hz,r⟩
 ·obtain⟨z,its,n,r,e⟩:=h.ok I.hok;exact⟨its,r,⟨_,n,e,rfl,rfl,rfl⟩,z⟩
 ·refine⟨its.toList,r,⟨o,n,I.kIn a o hk,hc,hd,by simpa using hs⟩,?_⟩
  have e:=r.length;simp only[afg]at e;omega
theorem Inv.tuple (I:Inv X pins σ H s)(h:SqT X.K H a xs):∃its:List Value,Vals xs its/\IsTup s.heap a its.toArray/\xs.length<=gp:=by
 rcases h with h | ⟨o,its,n,hk,hc,hs,hz,r⟩
 ·obtain⟨z,its,r,p⟩:=h.ok I.hok;exact⟨its,r,p,z⟩
 ·refine⟨its.toList,r,⟨o,I.kIn a o hk,hc,n,by simpa using hs⟩,?_⟩
  have e:=r.length;simp only[afg]at e;omega
theorem Inv.KL (I:Inv X pins σ H s)(h:SqL X.K H a xs)(h':SqL X.K H a ys):xs=ys:=by
 obtain⟨its,r,⟨o,n,e,_,_,d⟩,_⟩:=I.list h;obtain⟨its',r',⟨o',n',e',_,_,d'⟩,_⟩:=I.list h';rw[e]at e';cases e';rw[d]at d';injection d' with d1 _
 have:its=its':=by simpa using congrArg Array.toList d1
 subst this;exact r.inj r'
theorem Inv.Jr (I:Inv X pins σ H s)(h:SqT X.K H a xs)(h':SqT X.K H a ys):xs=ys:=by
 obtain⟨its,r,⟨o,e,_,n,d⟩,_⟩:=I.tuple h;obtain⟨its',r',⟨o',e',_,n',d'⟩,_⟩:=I.tuple h';rw[e]at e';cases e';rw[d]at d';injection d' with d1 _
 have:its=its':=by simpa using congrArg Array.toList d1
 subst this;exact r.inj r'
end
abbrev Cx.nq (X:Cx)(E:Value->Shared->Prop):Cx:={ X with xe:=E }
abbrev Cx.nox (X:Cx):Cx:=X.nq λ_ _=>False
theorem Cx.Ok.nq {X:Cx}(ok:X.Ok)(E:Value->Shared->Prop):(X.nq E).Ok :=
 ⟨ok.mod,ok.kind,ok.glob,ok.blt,ok.above,ok.inj,ok.has,ok.cab,ok.hd,ok.frames,ok.stk,ok.exf,ok.bs,ok.bsz,ok.FV,ok.FW,ok.rY,ok.frf⟩
theorem Cx.Ok.eA {X:Cx}{E:Value->Shared->Prop}(ok:(X.nq E).Ok):X.Ok :=
 ⟨ok.mod,ok.kind,ok.glob,ok.blt,ok.above,ok.inj,ok.has,ok.cab,ok.hd,ok.frames,ok.stk,ok.exf,ok.bs,ok.bsz,ok.FV,ok.FW,ok.rY,ok.frf⟩
section
variable{X:Cx}{pins:List (Addr×Obj)}{σ:St}{H:Hp}{s:Shared}{E:Value->Shared->Prop}
theorem Inv.nq (I:Inv X pins σ H s)(E:Value->Shared->Prop):Inv (X.nq E) pins σ H s:=⟨I.ok.nq E,I.os,I.bare,I.base,I.loc,I.cell,I.free,I.nk,I.pin,I.hok,I.len⟩
theorem Inv.eA (I:Inv (X.nq E) pins σ H s):Inv X pins σ H s:=⟨I.ok.eA,I.os,I.bare,I.base,I.loc,I.cell,I.free,I.nk,I.pin,I.hok,I.len⟩
theorem SP.eA {D:Ends}{f:Flow}{s':Shared}(h:SP (X.nq E) pins D f s'):SP X pins D f s':=by
 cases f with
 |next=>obtain⟨σ',H',I,q⟩:=h;exact⟨σ',H',I.eA,q⟩
 |brk=>obtain⟨σ',H',I,q⟩:=h;exact⟨σ',H',I.eA,q⟩
 |cont=>obtain⟨σ',H',I,q⟩:=h;exact⟨σ',H',I.eA,q⟩
 |ret u=>obtain⟨v,σ',H',I,r,q⟩:=h;exact⟨v,σ',H',I.eA,r,q⟩
theorem PE.nox {e:Expr}{t:TE}(h:PE X.nox e t):PE X e t:=λpins s σ H Q I hw =>
 adm (h pins s σ H Q (I.nq _) hw) (λ_ _ ⟨v,H',I',r,q⟩=>⟨v,H',I'.eA,r,q⟩) λ_ _ z=>aea z
theorem PT.nox {e:Expr}{t:TT}(h:PT X.nox e t):PT X e t:=λpins s σ H Q I hw =>
 adm (h pins s σ H Q (I.nq _) hw) (λ_ _ ⟨H',I',q⟩=>⟨H',I'.eA,q⟩) λ_ _ z=>aea z
theorem PSs.nox {st:List Stmt}{t:TS}(h:PSs X.nox st t):PSs X st t:=λpins s σ H D I hw =>
 adm (h pins s σ H D (I.nq _) hw) (λ_ _ q=>q.eA) λ_ _ z=>aea z
end
section
variable{X:Cx}{st:Stmt}{rest:List Stmt}{t u:TS}{e:Expr}{te:TE}{pos:Pos}
def VT:TS:=λD σ H=>D.nx σ H
def Q7 (t u:TS):TS:=λD σ H=>t { D with nx:=u D } σ H
theorem aQ:PSs X [] VT:=λ_ _ σ H _ I h=>wpAny_execs_nil ⟨σ,H,I,h⟩
theorem ai (h1:PS X st t)(h2:PSs X rest u):PSs X (st::rest) (Q7 t u):=by
 intro pins s σ H D I h;refine wpAny_execs_cons (thn (h1 pins s σ H { D with nx:=u D } I h) λf s1 q=>?_)
 cases f with
 |next =>
  obtain⟨σ',H',I',q⟩:=q;exact h2 pins s1 σ' H' D I' q
 |ret v=>exact q
 |brk=>exact q
 |cont=>exact q
theorem aj (h1:PS X st t):PSs X [st] t:=by
 intro pins s σ H D I h;refine wpAny_execs_cons (thn (h1 pins s σ H D I h) λf s1 q=>?_)
 cases f with
 |next=>exact wpAny_execs_nil q
 |ret v=>exact q
 |brk=>exact q
 |cont=>exact q
theorem Inv.quiet {pins:List (Addr×Obj)}{σ:St}{H:Hp}{s:Shared}(I:Inv X pins σ H s):interactive X.env=false:=by simp[interactive,I.ok.kind]
def VU (te:TE):TS:=λD σ H=>te σ H λ_ H1=>D.nx σ H1
theorem a6 (he:PE X e te)(hs:swapsWith e none pos.line X.env=pure false:=by rfl):PS X (.Expr e pos) (VU te):=by
 intro pins s σ H D I h;exact wpAny_Expr_any (thn (he pins s σ H _ I h) λv s1 ⟨x,H1,I1,r1,q1⟩=>⟨σ,H1,I1,q1⟩) I.quiet hs
def abm (te:TE):TS:=λD σ H=>te σ H D.rt
theorem aL (he:PE X e te):PS X (.Return (some e) pos) (abm te):=by
 intro pins s σ H D I h;exact wpAny_Return_some (thn (he pins s σ H _ I h) λv s1 ⟨x,H1,I1,r1,q1⟩=>⟨x,σ,H1,I1,r1,q1⟩)
def abn (c:TT)(t u:TS):TS:=λD σ H=>c σ H λb H1=>if b=true then t D σ H1 else u D σ H1
theorem bI {c:Expr}{a b:List Stmt}{tc:TT}(hc:PT X c tc)(ha:PSs X a t)(hb:PSs X b u):PS X (.If c a b pos) (abn tc t u):=by
 intro pins s σ H D I h;refine wpAny_If (thn (hc pins s σ H _ I h) λd s1 ⟨H1,I1,q1⟩=>?_)
 cases d with
 |true=>exact ha pins s1 σ H1 D I1 q1
 |false=>exact hb pins s1 σ H1 D I1 q1
end
abbrev TG:=V->St->Hp->(St->Hp->Prop)->Prop
def PG (X:Cx)(target:Expr)(t:TG):Prop :=
 ∀(pins:List (Addr×Obj)) (s:Shared) (σ:St) (H:Hp) (v:V) (u:Value) (Q:St->Hp->Prop),Inv X pins σ H s->RelV v u->t v σ H Q ->
  wpAny (model X.prog X.w) X.A (assign target X.env u) (λ_ s'=>∃σ' H',Inv X pins σ' H' s'/\Q σ' H') X.xe s
abbrev Q8:=V->V->V->Hp->(Hp->Prop)->Prop
def VV (X:Cx)(t:Q8):Prop :=
 ∀(pins:List (Addr×Obj)) (s:Shared) (σ:St) (H:Hp) (o i v:V) (ov iv u:Value) (Q:Hp->Prop),Inv X pins σ H s->RelV o ov->RelV i iv->RelV v u->t o i v H Q ->
  wpAny (model X.prog X.w) X.A (setItem ov iv u) (λ_ s'=>∃H',Inv X pins σ H' s'/\Q H') X.xe s
section
variable{X:Cx}{pos:Pos}
def df (i:Nat):TG:=λv σ H Q=>Q (σ.set i (some v)) H
theorem tw {i:Nat}{x:Str}(hN:X.N.Nodup)(hi:X.N[i]?=some x)(hx:Loc X.env.scope x)(hf:X.fn x=true\/X.env.scope.names.lookup x=some .local:=by first | exact .inl rfl | exact .inr rfl | assumption):PG X (.Name x pos) (df i):=by
 intro pins s σ H v u Q I r h;exact wpAny_assign_Name (pX I hN hi hx r (λs' I'=>⟨_,H,I',h⟩) hf)
def abo (to ti:TE)(t:Q8):TG:=λv σ H Q=>to σ H λo H1=>ti σ H1 λi H2=>t o i v H2 λH3=>Q σ H3
theorem Q9 {o i:Expr}{to ti:TE}{t:Q8}(ho:PE X o to)(hi:PE X i ti)(hs:VV X t)
  (ha:∀v,assign (.Subscript o i pos) X.env v=(do
   let ov <-holding [v] (eval o X.env)
   let iv <-holding [v,ov] (eval i X.env)
   standAt pos
   holding [v,ov,iv] (setItem ov iv v)
   release [v,ov,iv] []):=by intro _;rfl):PG X (.Subscript o i pos) (abo to ti t):=by
 intro pins s σ H v u Q I r h;rw[ha];refine de (aeH (thn (ho pins s σ H _ I h) λov s1 ⟨x,H1,I1,r1,q1⟩=>?_))
 refine de (aeH (thn (hi pins s1 σ H1 _ I1 q1) λiv s2 ⟨y,H2,I2,r2,q2⟩=>?_))
 refine de (aeK (de (aeH (thn (hs pins s2 σ H2 x y v ov iv u _ I2 r1 r2 r q2) λ_ s3 ⟨H3,I3,q3⟩=>?_))))
 exact wpAny_release ⟨σ,H3,I3,q3⟩
def NY (te:TE)(g:TG):TS:=λD σ H=>te σ H λx H1=>g x σ H1 D.nx
theorem Ra {tg e:Expr}{te:TE}{g:TG}(he:PE X e te)(hg:PG X tg g)(hs:swapsWithSole [tg] e pos.line X.env=pure false:=by rfl)(hw:swappedStores [tg] e X.env=pure none:=by rfl)
  (h1:(assignEach [tg] X.env).map (·.2)=[assign tg X.env]:=by rfl):PS X (.Assign [tg] e pos) (NY te g):=by
 intro pins s σ H D I h;refine wpAny_Assign_stores (thn (he pins s σ H _ I h) λv s1 ⟨x,H1,I1,r1,q1⟩=>?_) hs hw
 rw[h1];exact thn (hg pins s1 σ H1 x v _ I1 r1 q1) λ_ s2 q=>q
theorem bh {i:Nat}{x:Str}{e:Expr}{te:TE}{pos':Pos}(hN:X.N.Nodup)(hi:X.N[i]?=some x)(hx:Loc X.env.scope x)(he:PE X e te)(hs:swapsWith e (some (.Name x pos')) pos.line X.env=pure false:=by rfl)(hf:X.fn x=true\/X.env.scope.names.lookup x=some .local:=by first | exact .inl rfl | exact .inr rfl | assumption) :
  PS X (.Assign [.Name x pos'] e pos) (NY te (df i)):=by
 intro pins s σ H D I h;refine wpAny_Assign_Name (thn (he pins s σ H _ I h) λv s1 ⟨y,H1,I1,r1,q1⟩=>?_) hs
 exact pX I1 hN hi hx r1 (λs2 I2=>⟨_,H1,I2,q1⟩) hf
end
section
variable{X:Cx}{pos:Pos}
def Rb (c:TT)(tb:TS):TS:=λD σ H=>∃W:Nat->St->Hp->Prop,(∃m,W m σ H)/\∀m σ H,W m σ H ->
 c σ H λb H1=>if b=true then ∃N:St->Hp->Prop,(∀σ' H',N σ' H'->∃m',m' < m/\W m' σ' H')/\tb { D with nx:=N,ct:=N,bk:=D.nx } σ H1 else D.nx σ H1
theorem KN {c:Expr}{body:List Stmt}{tc:TT}{tb:TS}(hp:PassesOwn (model X.prog X.w) X.A X.env X.xe)(hc:PT X c tc)(hb:PSs X body tb):PS X (.While c body [] pos) (Rb tc tb):=by
 intro pins s σ H D I h;obtain⟨W,⟨m0,w0⟩,turn⟩:=h;refine wpAny_While (codeAny_whileLoop (λn s'=>∃σ' H',Inv X pins σ' H' s'/\W n σ' H') ?_ m0 ⟨σ,H,I,w0⟩)
 rintro n s1 ⟨σ1,H1,I1,w1⟩;refine wpAny_passesOwn hp (thn (hc pins s1 σ1 H1 _ I1 (turn n σ1 H1 w1)) λb s2 ⟨H2,I2,q2⟩=>?_)
 cases b with
 |true =>
  obtain⟨N,hN,q2⟩:=q2;rw[if_pos rfl];refine wpAny_passesOwn hp (thn (hb pins s2 σ1 H2 _ I2 q2) λf s3 q3=>?_)
  cases f with
  |next =>
   obtain⟨σ3,H3,I3,n3⟩:=q3;obtain⟨m',hm,w3⟩:=hN σ3 H3 n3;exact⟨m',hm,σ3,H3,I3,w3⟩
  |cont =>
   obtain⟨σ3,H3,I3,n3⟩:=q3;obtain⟨m',hm,w3⟩:=hN σ3 H3 n3;exact⟨m',hm,σ3,H3,I3,w3⟩
  |brk=>exact q3
  |ret v=>exact q3
 |false =>
  rw[if_neg kj];exact wpAny_execs_nil ⟨σ1,H2,I2,q2⟩
end
structure It where
 go:Nat->Hp->Prop
 yld:Nat->Hp->V->Hp->Prop
 stop:Nat->Hp->Prop
def j6 (X:Cx)(pins:List (Addr×Obj))(H:Hp)(b:Addr):Prop :=
 H b=none/\b≠X.env.locals/\b∉X.fs/\(b∈X.ex\/X.s₀.heap.objs.size<=b)/\(∀x c,X.env.cells.lookup x=some c->c≠b)/\∀p∈X.pn++pins,p.1≠b
theorem Inv.BJ {X:Cx}{pins:List (Addr×Obj)}{σ:St}{H H':Hp}{s:Shared}{b:Addr}(I:Inv X pins σ H s)(hb:s.heap.objs.size<=b)(hn:H' b=none):j6 X pins H' b:=by
 refine⟨hn,Nat.ne_of_gt (wa I.lt hb),I.abf hb,.inr (om I.sz hb),λx c e z=>?_,λp hp z=>?_⟩
 ·obtain⟨v,q⟩:=I.cell x c e;exact absurd (wa q.lt (by rw[z];exact hb)) (Nat.lt_irrefl _)
 ·exact absurd (wa (kx (I.pin p hp).1) (by rw[z];exact hb)) (Nat.lt_irrefl _)
structure Turn (P:ku)(w:World)(K:ba)(tg:Expr)(J:It)(fp:List Addr)(it:Addr)(tn:Nat->Heap->Prop):Prop where
 mem:it∈fp
 obj:∀i h,tn i h->∀b∈fp,∃o,h.get? b=some o/\∀v,o.data≠.cell v
 keep:∀i h h',tn i h->(∀b∈fp,∀o,h.get? b=some o->h'.get? b=some o)->tn i h'
 item:∀(X:Cx),X.prog=P->X.w=w->X.K=K->X.calm=true->∀(i:Nat) (pins:List (Addr×Obj)) (s:Shared) (σ:St) (H:Hp) (E:Value->Shared->Prop),Inv X pins σ H s->(∀b∈fp,j6 X pins H b)->tn i s.heap->J.go i H ->
  wpAny (model P w) X.A (pyNext (.ref it)) (λr s1=>∃u,r=some u /\
   wpAny (model P w) X.A (letOwnedTupleGo tg (.ref it) u) (λ_ s2=>∃x H',Inv X pins σ H' s2/\RelV x u/\J.yld i H x H'/\tn (i+1) s2.heap/\∀b∈fp,H' b=none) E s1) E s
 done:∀(X:Cx),X.prog=P->X.w=w->X.K=K->X.calm=true->∀(i:Nat) (pins:List (Addr×Obj)) (s:Shared) (σ:St) (H:Hp) (E:Value->Shared->Prop),Inv X pins σ H s->(∀b∈fp,j6 X pins H b)->tn i s.heap->J.stop i H ->
  wpAny (model P w) X.A (pyNext (.ref it)) (λr s1=>r=none/\Inv X pins σ H s1) E s
 self:∀(A:Around) (i:Nat) (s:Shared) (Q:Value->Shared->Prop) (E:Value->Shared->Prop),tn i s.heap->Q (.ref it) s->wpAny (model P w) A (pyIter (.ref it)) Q E s
abbrev TI:=St->Hp->(It->Hp->Prop)->Prop
def PIE (X:Cx)(pins:List (Addr×Obj))(σ:St)(tg:Expr)(R:It->Hp->Prop)(itv:Value)(s2:Shared):Prop :=
 ∃(it:Addr) (fp:List Addr) (tn:Nat->Heap->Prop) (J:It) (H':Hp),itv=.ref it/\Inv X pins σ H' s2/\Turn X.prog X.w X.K tg J fp it tn/\tn 0 s2.heap/\(∀b∈fp,j6 X pins H' b)/\R J H'
def PI (X:Cx)(tg iter:Expr)(wi:TI):Prop :=
 ∀(pins:List (Addr×Obj)) (s:Shared) (σ:St) (H:Hp) (R:It->Hp->Prop),Inv X pins σ H s->wi σ H R ->
  wpAny (model X.prog X.w) X.A (eval iter X.env) (λv s1=>wpAny (model X.prog X.w) X.A (pyIter v) (PIE X pins σ tg R) X.xe s1) X.xe s
theorem KO {M:Model}{A:Around}{E:Value->Shared->Prop}{s:Shared}{tg:Expr}{it:Addr}{u:Value}{o:Obj}{n:String}{vs:Array Value}{Q:Unit->Shared->Prop}(ho:s.heap.get? it=some o)(hc:o.cls=.type n)(hd:o.data=.fields vs)
    (hn:["enumerate","zip","dict_itemiterator","dict_reverseitemiterator","odict_iterator","itertools.zip_longest","itertools.pairwise"].contains n=false) (hQ:Q () s):wpAny M A (letOwnedTupleGo tg (.ref it) u) Q E s:=by
  unfold letOwnedTupleGo
  cases tg <;> first
    |exact ma hQ
    | (cases u <;> first
        |exact ma hQ
        | (refine de (wpAny_load ho ?_)
           rw[hc,hd]
           show wpAny M A (if (["enumerate","zip","dict_itemiterator","dict_reverseitemiterator","odict_iterator","itertools.zip_longest","itertools.pairwise"].contains n && vs[0]? == some (rawInt _))=true then _ else _) Q E s
           rw[if_neg (by intro h;rw[hn,Bool.false_and]at h;cases h)]
           exact ma hQ))
def Itl (K:ba)(a:Addr):It :=
 ⟨λi H=>∃xs x,SqL K H a xs/\xs[i]?=some x,λi H x H'=>H'=H/\∀xs,SqL K H a xs->xs[i]?=some x,λi H=>∃xs,SqL K H a xs/\xs.length<=i⟩
def Itt (K:ba)(a:Addr):It :=
 ⟨λi H=>∃xs x,SqT K H a xs/\xs[i]?=some x,λi H x H'=>H'=H/\∀xs,SqT K H a xs->xs[i]?=some x,λi H=>∃xs,SqT K H a xs/\xs.length<=i⟩
def Itr (lo:Int)(n:Nat):It:=⟨λi _=>i < n,λi H x H'=>H'=H/\x=.int (lo+i),λi _=>n<=i⟩
theorem Js {P:ku}{w:World}{K:ba}{tg:Expr}(a it:Addr):Turn P w K tg (Itl K a) [it] it (λi h=>h.IsListIter it a i) where
 mem:=by simp
 obj:=λi h st b hb=>by
  have e:b=it:=by simpa using hb
  subst e;obtain⟨o,e,c,d⟩:=st;exact⟨o,e,λv z=>by rw[d]at z;cases z⟩
 keep:=λi h h' st k=>st.at λo e=>k it (by simp) o e
 item:=by
  intro X hP hw hK hc i pins s σ H E I hf st hg;subst hP hw hK;obtain⟨xs,x,hq,hx⟩:=hg;obtain⟨its,rv,p,hz⟩:=I.list hq;obtain⟨u,hu,ru⟩:=rv.get hx;obtain⟨f0,f1,f2,f3,f4,f5⟩:=hf it (by simp)
  refine wpAny_pyNext_list_item st p.isList (x:=u) (by simpa using hu) λh' st' sb=>?_
  have I1:Inv X pins σ H { s with heap:=h' }:=I.turned (t':=s.toks) (λb o hb e=>(sb.2 b hb).trans e) f0 f1 f3 f4 f5
  obtain⟨o,e,c,d⟩:=id st';exact⟨u,rfl,KO (s:={ s with heap:=h' }) e c d (by decide) ⟨x,H,I1,ru,⟨rfl,λys hy=>by rw[I.KL hy hq];exact hx⟩,st',λb hb=>(hf b hb).1⟩⟩
 done:=by
  intro X hP hw hK hc i pins s σ H E I hf st hg;subst hP hw hK;obtain⟨xs,hq,hx⟩:=hg;obtain⟨its,rv,p,hz⟩:=I.list hq;obtain⟨f0,f1,f2,f3,f4,f5⟩:=hf it (by simp)
  have hl:=rv.length;exact wpAny_pyNext_list_end (I.ok.hd hc) st p.isList (by simp;omega) λh' eb=>⟨rfl,I.turned (t':=s.toks) (λb o hb e=>eb b o hb e) f0 f1 f3 f4 f5⟩
 self:=λ_ _ _ _ _ st h=>wpAny_pyIter_listiter st h
theorem FY {P:ku}{w:World}{K:ba}{tg:Expr}(a it:Addr):Turn P w K tg (Itt K a) [it] it (λi h=>h.IsTupleIter it a i) where
 mem:=by simp
 obj:=λi h st b hb=>by
  have e:b=it:=by simpa using hb
  subst e;obtain⟨o,e,c,d⟩:=st;exact⟨o,e,λv z=>by rw[d]at z;cases z⟩
 keep:=λi h h' st k=>st.at λo e=>k it (by simp) o e
 item:=by
  intro X hP hw hK hc i pins s σ H E I hf st hg;subst hP hw hK;obtain⟨xs,x,hq,hx⟩:=hg;obtain⟨its,rv,p,hz⟩:=I.tuple hq;obtain⟨u,hu,ru⟩:=rv.get hx;obtain⟨f0,f1,f2,f3,f4,f5⟩:=hf it (by simp)
  refine wpAny_pyNext_tuple_item st (show s.heap.IsTuple a its.toArray from p) (x:=u) (by simpa using hu) λh' st' sb=>?_
  have I1:Inv X pins σ H { s with heap:=h' }:=I.turned (t':=s.toks) (λb o hb e=>(sb.2 b hb).trans e) f0 f1 f3 f4 f5
  obtain⟨o,e,c,d⟩:=id st';exact⟨u,rfl,KO (s:={ s with heap:=h' }) e c d (by decide) ⟨x,H,I1,ru,⟨rfl,λys hy=>by rw[I.Jr hy hq];exact hx⟩,st',λb hb=>(hf b hb).1⟩⟩
 done:=by
  intro X hP hw hK hc i pins s σ H E I hf st hg;subst hP hw hK;obtain⟨xs,hq,hx⟩:=hg;obtain⟨its,rv,p,hz⟩:=I.tuple hq;obtain⟨f0,f1,f2,f3,f4,f5⟩:=hf it (by simp)
  have hl:=rv.length;exact wpAny_pyNext_tuple_end (I.ok.hd hc) st (show s.heap.IsTuple a its.toArray from p) (by simp;omega) λh' eb=>⟨rfl,I.turned (t':=s.toks) (λb o hb e=>eb b o hb e) f0 f1 f3 f4 f5⟩
 self:=λ_ _ _ _ _ st h=>wpAny_pyIter_tupleiter st h
theorem FZ {P:ku}{w:World}{K:ba}{tg:Expr}(it:Addr)(lo:Int)(n:Nat):Turn P w K tg (Itr lo n) [it] it (λi h=>IsRangeIter h it (lo+(i:Nat) * 1) ((n:Int) - (i:Nat)) 1) where
 mem:=by simp
 obj:=λi h st b hb=>by
  have e:b=it:=by simpa using hb
  subst e;exact⟨_,st,λv z=>by
   have z':Data.fields _=Data.cell v:=z;cases z'⟩
 keep:=λi h h' st k=>k it (by simp) _ st
 item:=by
  intro X hP hw hK hc i pins s σ H E I hf st hg;subst hP hw hK;obtain⟨f0,f1,f2,f3,f4,f5⟩:=hf it (by simp)
  have W:=Walks.range (prog:=X.prog) (w:=X.w) (I.ok.hd hc) it lo 1 n;refine W.item i s _ _ hg st λv h' tk hv st' kk=>?_
  obtain⟨t,rfl⟩:=hv;have I1:Inv X pins σ H { s with heap:=h',toks:=tk }:=I.turned (λb o hb e=>kk b o (by simpa using hb) e) f0 f1 f3 f4 f5
  refine⟨_,rfl,KO (s:={ s with heap:=h',toks:=tk }) (n:="range_iterator") st' rfl rfl (by decide) ⟨.int (lo+i),H,I1,⟨t,?_⟩,⟨rfl,rfl⟩,st',λb hb=>(hf b hb).1⟩⟩
  rw[Int.mul_one]
 done:=by
  intro X hP hw hK hc i pins s σ H E I hf st hg;subst hP hw hK;obtain⟨f0,f1,f2,f3,f4,f5⟩:=hf it (by simp)
  exact wpAny_pyNext_range_end (I.ok.hd hc) st (by have:n<=i:=hg;omega) λh' eb=>⟨rfl,I.turned (t':=s.toks) (λb o hb e=>eb b o hb e) f0 f1 f3 f4 f5⟩
 self:=λ_ _ _ _ _ st h=>wpAny_pyIter_rangeiter st h
end L2
namespace L2
open PySem PySem.Spec PyProof.Rows
section
variable{X:Cx}{tg:Expr}
def VW (K:ba)(tl:TE):TI:=λσ H R=>tl σ H λx H1=>∃a,x=.ref a/\(∃xs,SqL K H1 a xs)/\R (Itl K a) H1
def abp (K:ba)(tl:TE):TI:=λσ H R=>tl σ H λx H1=>∃a,x=.ref a/\(∃xs,SqT K H1 a xs)/\R (Itt K a) H1
theorem mr {l:Expr}{tl:TE}(hl:PE X l tl):PI X tg l (VW X.K tl):=by
 intro pins s σ H R I h;refine thn (hl pins s σ H _ I h) λv s1 ⟨x,H1,I1,r1,q1⟩=>?_
 obtain⟨a,e,⟨xs,hq⟩,q⟩:=q1;subst e;cases r1;obtain⟨its,rv,p,hz⟩:=I1.list hq;refine wpAny_pyIter_list p.isList ?_;refine⟨s1.heap.objs.size,[s1.heap.objs.size],_,_,H1,rfl,I1.kept (t':=s1.toks) λb o e=>gc _ e,Js a _,⟨_,ad3 _ rfl,rfl,rfl⟩,λb hb=>?_,q⟩
 have e:b=s1.heap.objs.size:=by simpa using hb
 subst e;exact I1.BJ (kg _) (I1.hok.fresh (kg _))
theorem Rc {l:Expr}{tl:TE}(hl:PE X l tl):PI X tg l (abp X.K tl):=by
 intro pins s σ H R I h;refine thn (hl pins s σ H _ I h) λv s1 ⟨x,H1,I1,r1,q1⟩=>?_
 obtain⟨a,e,⟨xs,hq⟩,q⟩:=q1;subst e;cases r1;obtain⟨its,rv,p,hz⟩:=I1.tuple hq;refine wpAny_pyIter_tuple (show s1.heap.IsTuple a its.toArray from p) ?_
 refine⟨s1.heap.objs.size,[s1.heap.objs.size],_,_,H1,rfl,I1.kept (t':=s1.toks) λb o e=>gc _ e,FY a _,⟨_,ad3 _ rfl,rfl,rfl⟩,λb hb=>?_,q⟩
 have e:b=s1.heap.objs.size:=by simpa using hb
 subst e;exact I1.BJ (kg _) (I1.hok.fresh (kg _))
theorem KP {pins:List (Addr×Obj)}{σ:St}{H:Hp}{s:Shared}{R:It->Hp->Prop}{E:Value->Shared->Prop}{lo hi:Int}{t u v:Tok}{tk:Nat}(I:Inv X pins σ H s)(h1:-(2 ^ 62)<=lo)(h2:lo < 2 ^ 62)(h3:-(2 ^ 62)<=hi)(h4:hi < 2 ^ 62)
  (q:R (Itr lo (hi - lo).toNat) H):wpAny (model X.prog X.w) X.A (pyIter (.ref s.heap.objs.size)) (PIE X pins σ tg R) E { s with heap:=s.heap.push { cls:=.type "range",data:=.fields #[.int lo t,.int hi u,.int 1 v] },toks:=tk }:=by
 refine wpAny_pyIter_range (IsRange.new ..) (small_one h1 h2 h3 h4) ?_;have I1:Inv X pins σ H { s with heap:=s.heap.push { cls:=.type "range",data:=.fields #[.int lo t,.int hi u,.int 1 v] },toks:=tk }:=I.kept λb o e=>gc _ e
 refine⟨(s.heap.push { cls:=.type "range",data:=.fields #[.int lo t,.int hi u,.int 1 v] }).objs.size,[(s.heap.push { cls:=.type "range",data:=.fields #[.int lo t,.int hi u,.int 1 v] }).objs.size],_,_,H,rfl,
  I1.kept (t':=tk) λb o e=>gc _ e,FZ _ lo (hi - lo).toNat,?_,λb hb=>?_,q⟩
 ·have e1:lo+((0:Nat):Int) * 1=lo:=by simp
  have e2:(((hi - lo).toNat:Nat):Int) - ((0:Nat):Int)=Builtin.Range.rangeSize lo hi 1:=by rw[rangeSize_one];split <;> omega
  show IsRangeIter _ _ (lo+((0:Nat):Int) * 1) ((((hi - lo).toNat:Nat):Int) - ((0:Nat):Int)) 1;rw[e1,e2];exact ad3 _ rfl
 ·have e:b=(s.heap.push { cls:=.type "range",data:=.fields #[.int lo t,.int hi u,.int 1 v] }).objs.size:=by simpa using hb
  subst e;exact I1.BJ (kg _) (I1.hok.fresh (kg _))
def VX (ta:TA):TI:=λσ H R=>ta σ H λvs H1=>∃j:Int,vs=[.int j]/\-(2 ^ 62)<=j/\j < 2 ^ 62/\R (Itr 0 j.toNat) H1
theorem uK {a:Expr}{ta:TA}{p pos:Pos}(hg:Gl X "range")(hm:X.mg "range"=none)(ha:PA X [a] ta)(hs:si [a] X.env=[(false,eval a X.env)]:=by rfl):PI X tg (.Call (.Name "range" p) [a] [] pos) (VX ta):=by
 intro pins s σ H R I h;refine Call_ (FX I hg hm boot_range (PyProof.Rows.callWith_type1 (thn (ha pos pins s σ H _ I h) λus s1 ⟨vs,H1,I1,r1,q1⟩=>?_) hs rfl))
 obtain⟨j,e,q1,q2,q⟩:=q1;subst e;cases r1 with
 |cons r rr =>
  cases rr;obtain⟨t,rfl⟩:=r;exact call_range_1 (KP I1 (by omega) (by omega) q1 q2 (by simpa using q))
def abq (wi:TI)(g:TG)(tb:TS):TS:=λD σ H=>wi σ H λJ H1=>∃W:Nat->Nat->St->Hp->Prop,(∃m,W 0 m σ H1)/\∀i m σ H,W i m σ H ->
 (J.stop i H/\D.nx σ H)\/(J.go i H/\∃N:St->Hp->Prop,(∀σ' H',N σ' H'->∃m',m' < m/\W (i+1) m' σ' H')/\∀x H',J.yld i H x H'->g x σ H' λσ2 H2=>tb { D with nx:=N,ct:=N,bk:=D.nx } σ2 H2)
def BK (fp:List Addr)(h:Heap):List (Addr×Obj):=fp.filterMap λb=>(h.get? b).map λo=>(b,o)
theorem oj {fp:List Addr}{h:Heap}{b:Addr}{o:Obj}(hb:b∈fp)(e:h.get? b=some o):(b,o)∈BK fp h:=List.mem_filterMap.mpr ⟨b,hb,by rw[e];rfl⟩
theorem Jt {fp:List Addr}{h:Heap}{p:Addr×Obj}(hp:p∈BK fp h):p.1∈fp/\h.get? p.1=some p.2:=by
 obtain⟨b,hb,e⟩:=List.mem_filterMap.mp hp;cases q:h.get? b with
 |none=>rw[q]at e;cases e
 |some o =>
  rw[q]at e;have e':(b,o)=p:=ad8 e;subst e';exact⟨hb,q⟩
theorem Inv.pinned {pins:List (Addr×Obj)}{σ:St}{H:Hp}{s:Shared}{fp:List Addr}(I:Inv X pins σ H s)(hf:∀b∈fp,j6 X pins H b)(ho:∀b∈fp,∃o,s.heap.get? b=some o/\∀v,o.data≠.cell v):Inv X (pins++BK fp s.heap) σ H s :=
 I.BH λp hp=>(List.mem_append.mp hp).elim (λz=>I.pin p (me _ z)) λz=>by
  obtain⟨hb,e⟩:=Jt z;obtain⟨f0,f1,f2,_⟩:=hf p.1 hb;obtain⟨o,e',d⟩:=ho p.1 hb;rw[e]at e';cases e';exact⟨e,f0,f1,f2,d⟩
theorem Inv.lz {pins pl:List (Addr×Obj)}{σ:St}{H:Hp}{s:Shared}(I:Inv X (pins++pl) σ H s):Inv X pins σ H s:=I.BH λp hp=>I.pin p (me _ (aex _ hp))
theorem yr {iter:Expr}{body:List Stmt}{wi:TI}{g:TG}{tb:TS}{pos:Pos}(hp:PassesOwn (model X.prog X.w) X.A X.env X.xe)(hc:X.calm=true)(hi:PI X tg iter wi)(hg:PG X tg g)(hb:PSs X body tb)
  (hs:∀x,foldedSetIterable iter X.env x=pure x:=by intro _;rfl):PS X (.For tg iter body [] pos) (abq wi g tb):=by
 intro pins s σ H D I h;refine wpAny_For (thn (hi pins s σ H _ I h) λv s1 h1=>thn h1 λitv s2 h2=>?_) hs
 obtain⟨it,fp,tn,J,H2,e,I2,T,st2,f2,W,⟨m0,w0⟩,turn⟩:=h2;subst e;have stat:∀ {H':Hp},(∀b∈fp,H' b=none)->∀b∈fp,j6 X pins H' b:=λhn b hb=>⟨hn b hb,(f2 b hb).2⟩
 refine codeAny_forLoop_any (λn s'=>∃i σ' H',Inv X pins σ' H' s'/\tn i s'.heap/\(∀b∈fp,H' b=none)/\W i n σ' H') ?_ m0 ⟨0,σ,H2,I2,st2,λb hb=>(f2 b hb).1,w0⟩
 rintro n s3 ⟨i,σ3,H3,I3,st3,fr3,w3⟩;rcases turn i n σ3 H3 w3 with ⟨stop,qn⟩ | ⟨go,N,hN,step⟩
 ·refine wpAny_passesOwn hp (thn (T.done X rfl rfl rfl hc i pins s3 σ3 H3 X.xe I3 (stat fr3) st3 stop) λr s4 ⟨hr,I4⟩=>?_)
  subst hr;exact wpAny_execs_nil ⟨σ3,H3,I4,qn⟩
 ·refine wpAny_passesOwn hp (thn (T.item X rfl rfl rfl hc i pins s3 σ3 H3 X.xe I3 (stat fr3) st3 go) λr s4 ⟨u,hr,h4⟩=>?_)
  subst hr;refine wpAny_passesOwn hp (thn h4 λ_ s5 ⟨x,H5,I5,r5,y5,st5,fr5⟩=>?_)
  have I5':=I5.pinned (stat fr5) (T.obj _ _ st5);refine wpAny_passesOwn hp (thn (hg _ s5 σ3 H5 x u _ I5' r5 (step x H5 y5)) λ_ s6 ⟨σ6,H6,I6,q6⟩=>?_)
  refine wpAny_passesOwn hp (thn (hb _ s6 σ6 H6 _ I6 q6) λf s7 q7=>?_)
  have again:∀ {σ7:St} {H7:Hp},Inv X (pins++BK fp s5.heap) σ7 H7 s7->N σ7 H7->∃m,m < n/\∃i σ' H',Inv X pins σ' H' s7/\tn i s7.heap/\(∀b∈fp,H' b=none)/\W i m σ' H':=λ{σ7 H7} I7 n7=>by
   obtain⟨m',hm,w7⟩:=hN σ7 H7 n7;refine⟨m',hm,i+1,σ7,H7,I7.lz,T.keep _ _ _ st5 λb hb o e=>(I7.pin (b,o) (me _ (me _ (oj hb e)))).1,λb hb=>?_,w7⟩
   obtain⟨o,e,d⟩:=T.obj _ _ st5 b hb;exact(I7.pin (b,o) (me _ (me _ (oj hb e)))).2.1
  cases f with
  |next=>obtain⟨σ7,H7,I7,n7⟩:=q7;exact again I7 n7
  |cont=>obtain⟨σ7,H7,I7,n7⟩:=q7;exact again I7 n7
  |brk=>obtain⟨σ7,H7,I7,q7⟩:=q7;exact⟨σ7,H7,I7.lz,q7⟩
  |ret v=>obtain⟨x7,σ7,H7,I7,r7,q7⟩:=q7;exact⟨x7,σ7,H7,I7.lz,r7,q7⟩
end
theorem yt {K:ba}{a:Addr}{xs:List V}{g:TG}{tb:TS}{D:Ends}{σ:St}{H:Hp}(Pv:Nat->St->Hp->Prop)(h0:Pv 0 σ H)(hl:∀i σ H,i<=xs.length->Pv i σ H->SqL K H a xs)
  (hs:∀i x σ H,xs[i]?=some x->Pv i σ H->g x σ H λσ2 H2=>tb { D with nx:=Pv (i+1),ct:=Pv (i+1),bk:=D.nx } σ2 H2) (hd:∀σ H,Pv xs.length σ H->D.nx σ H) :
  ∃W:Nat->Nat->St->Hp->Prop,(∃m,W 0 m σ H)/\∀i m σ H,W i m σ H ->
   ((Itl K a).stop i H/\D.nx σ H)\/((Itl K a).go i H/\∃N:St->Hp->Prop,(∀σ' H',N σ' H'->∃m',m' < m/\W (i+1) m' σ' H')/\∀x H',(Itl K a).yld i H x H'->g x σ H' λσ2 H2=>tb { D with nx:=N,ct:=N,bk:=D.nx } σ2 H2):=by
 refine⟨λi m σ H=>m=xs.length - i/\i<=xs.length/\Pv i σ H,⟨xs.length,by simp,aeM _,h0⟩,?_⟩
 rintro i m σ H ⟨rfl,hi,p⟩;have q:=hl i σ H hi p
 by_cases hlt:i < xs.length
 ·refine .inr ⟨⟨xs,xs[i],q,by simp[hlt]⟩,Pv (i+1),λσ' H' p'=>⟨xs.length - (i+1),by omega,rfl,hlt,p'⟩,λx H' y=>?_⟩
  obtain⟨e,y⟩:=y;subst e;exact hs i x σ _ (y xs q) p
 ·have e:i=xs.length:=by omega
  subst e;exact .inl ⟨⟨xs,q,kg _⟩,hd σ H p⟩
theorem AE {lo:Int}{n:Nat}{g:TG}{tb:TS}{D:Ends}{σ:St}{H:Hp}(Pv:Nat->St->Hp->Prop)(h0:Pv 0 σ H)
  (hs:∀i σ H,i < n->Pv i σ H->g (.int (lo+i)) σ H λσ2 H2=>tb { D with nx:=Pv (i+1),ct:=Pv (i+1),bk:=D.nx } σ2 H2) (hd:∀σ H,Pv n σ H->D.nx σ H) :
  ∃W:Nat->Nat->St->Hp->Prop,(∃m,W 0 m σ H)/\∀i m σ H,W i m σ H ->
   ((Itr lo n).stop i H/\D.nx σ H)\/((Itr lo n).go i H/\∃N:St->Hp->Prop,(∀σ' H',N σ' H'->∃m',m' < m/\W (i+1) m' σ' H')/\∀x H',(Itr lo n).yld i H x H'->g x σ H' λσ2 H2=>tb { D with nx:=N,ct:=N,bk:=D.nx } σ2 H2):=by
 refine⟨λi m σ H=>m=n - i/\i<=n/\Pv i σ H,⟨n,by simp,aeM _,h0⟩,?_⟩
 rintro i m σ H ⟨rfl,hi,p⟩
 by_cases hlt:i < n
 ·refine .inr ⟨hlt,Pv (i+1),λσ' H' p'=>⟨n - (i+1),by omega,rfl,hlt,p'⟩,λx H' y=>?_⟩
  obtain⟨e,y⟩:=y;subst e y;exact hs i σ _ hlt p
 ·have e:i=n:=by omega
  subst e;exact .inl ⟨kg _,hd σ H p⟩
end L2
namespace L2
open PySem PySem.Spec PyProof.Rows
abbrev R2:=V->V->Hp->VK->Prop
def OpR (X:Cx)(f:Value->Value->Sem Value)(r:R2):Prop :=
 ∀(pins:List (Addr×Obj)) (s:Shared) (σ:St) (H:Hp) (x y:V) (v u:Value) (Q:VK),Inv X pins σ H s->RelV x v->RelV y u->r x y H Q ->
  wpAny (model X.prog X.w) X.A (f v u) (EP X pins σ Q) X.xe s
def UnR (X:Cx)(f:Value->Sem Value)(r:V->Hp->VK->Prop):Prop :=
 ∀(pins:List (Addr×Obj)) (s:Shared) (σ:St) (H:Hp) (x:V) (v:Value) (Q:VK),Inv X pins σ H s->RelV x v->r x H Q ->
  wpAny (model X.prog X.w) X.A (f v) (EP X pins σ Q) X.xe s
def mw (X:Cx)(f:Value)(r:List V->Hp->VK->Prop):Prop :=
 ∀(pins:List (Addr×Obj)) (s:Shared) (σ:St) (H:Hp) (xs:List V) (us:List Value) (Q:VK),Inv X pins σ H s->Vals xs us->r xs H Q ->
  wpAny (model X.prog X.w) X.A (call f us) (EP X pins σ Q) X.xe s
def abr (X:Cx)(r:V->Hp->(Bool->Hp->Prop)->Prop):Prop :=
 ∀(pins:List (Addr×Obj)) (s:Shared) (σ:St) (H:Hp) (x:V) (v:Value) (Q:Bool->Hp->Prop),Inv X pins σ H s->RelV x v->r x H Q ->
  wpAny (model X.prog X.w) X.A (truthy v) (TP X pins σ Q) X.xe s
def tOp (r:R2)(ta tb:TE):TE:=λσ H Q=>ta σ H λx H1=>tb σ H1 λy H2=>r x y H2 Q
def tUn (r:V->Hp->VK->Prop)(ta:TE):TE:=λσ H Q=>ta σ H λx H1=>r x H1 Q
def rI (C:Int->Int->Prop)(g:Int->Int->V):R2:=λx y H Q=>∃i j,x=.int i/\y=.int j/\C i j/\Q (g i j) H
def rI0 (g:Int->Int->V):R2:=λx y H Q=>∃i j,x=.int i/\y=.int j/\Q (g i j) H
def rU (g:Int->V):V->Hp->VK->Prop:=λx H Q=>∃i,x=.int i/\Q (g i) H
section
variable{X:Cx}{a b c:Expr}{ta tb tc:TE}{pos:Pos}
theorem Rf (ha:PE X a ta)(hb:PE X b tb){pins:List (Addr×Obj)}{s:Shared}{σ:St}{H:Hp}{R:V->V->Hp->Prop}(I:Inv X pins σ H s)
  (h:ta σ H λx H1=>tb σ H1 λy H2=>R x y H2) {Q:Value->Shared->Prop} {f:Value->Value->Sem Value}
  (hf:∀v u s2 x y H2,Inv X pins σ H2 s2->RelV x v->RelV y u->R x y H2->wpAny (model X.prog X.w) X.A (f v u) Q X.xe s2) :
  wpAny (model X.prog X.w) X.A (eval a X.env) (λv s₁=>wpAny (model X.prog X.w) X.A (eval b X.env) (λu s₂=>wpAny (model X.prog X.w) X.A (f v u) Q X.xe s₂) X.xe s₁) X.xe s:=by
 refine thn (ha pins s σ H _ I h) λv s1 ⟨x,H1,I1,r1,q1⟩=>?_
 refine thn (hb pins s1 σ H1 _ I1 q1) λu s2 ⟨y,H2,I2,r2,q2⟩=>?_
 exact hf v u s2 x y H2 I2 r1 r2 q2
theorem bA {op:Operator}{r:R2}(ho:OpR X (binaryOp op) r)(ha:PE X a ta)(hb:PE X b tb):PE X (.BinOp a op b pos) (tOp r ta tb):=by
 intro pins s σ H Q I h;exact wpAny_BinOp (Rf ha hb I h λv u s2 x y H2 I2 rx ry q=>ho pins s2 σ H2 x y v u Q I2 rx ry q)
theorem AF {op:UnaryOp}{r:V->Hp->VK->Prop}(ho:UnR X (unaryOp op) r)(ha:PE X a ta):PE X (.UnaryOp op a pos) (tUn r ta):=by
 intro pins s σ H Q I h;exact UnaryOp_ (thn (ha pins s σ H _ I h) λv s1 ⟨x,H1,I1,r1,q1⟩=>ho pins s1 σ H1 x v Q I1 r1 q1)
theorem opI {f:Value->Value->Sem Value}{C:Int->Int->Prop}{g:Int->Int->Int}
  (rule:∀(i j:Int) (t u:Tok) (s:Shared) (Q:Value->Shared->Prop) (E:Value->Shared->Prop),C i j->Q (.int (g i j) s.toks) { s with toks:=s.toks+1 }->wpAny (model X.prog X.w) X.A (f (.int i t) (.int j u)) Q E s) :
  OpR X f (rI C λi j=>.int (g i j)):=by
 intro pins s σ H x y v u Q I rx ry h;obtain⟨i,j,rfl,rfl,hc,q⟩:=h;obtain⟨t,rfl⟩:=rx;obtain⟨t',rfl⟩:=ry;exact rule i j t t' s _ _ hc ⟨.int (g i j),H,I.tok _,⟨_,rfl⟩,q⟩
theorem abt {f:Value->Value->Sem Value}{g:Int->Int->Int}
  (rule:∀(i j:Int) (t u:Tok) (s:Shared) (Q:Value->Shared->Prop) (E:Value->Shared->Prop),Q (.int (g i j) s.toks) { s with toks:=s.toks+1 }->wpAny (model X.prog X.w) X.A (f (.int i t) (.int j u)) Q E s) :
  OpR X f (rI0 λi j=>.int (g i j)):=by
 intro pins s σ H x y v u Q I rx ry h;obtain⟨i,j,rfl,rfl,q⟩:=h;obtain⟨t,rfl⟩:=rx;obtain⟨t',rfl⟩:=ry;exact rule i j t t' s _ _ ⟨.int (g i j),H,I.tok _,⟨_,rfl⟩,q⟩
theorem NZ {f:Value->Value->Sem Value}{g:Int->Int->Bool}
  (rule:∀(i j:Int) (t u:Tok) (s:Shared) (Q:Value->Shared->Prop) (E:Value->Shared->Prop),Q (.bool (g i j)) s->wpAny (model X.prog X.w) X.A (f (.int i t) (.int j u)) Q E s) :
  OpR X f (rI0 λi j=>.bl (g i j)):=by
 intro pins s σ H x y v u Q I rx ry h;obtain⟨i,j,rfl,rfl,q⟩:=h;obtain⟨t,rfl⟩:=rx;obtain⟨t',rfl⟩:=ry;exact rule i j t t' s _ _ ⟨.bl (g i j),H,I,rfl,q⟩
def abu (i j:Int):Prop:=0 < j/\j < 1073741824
def abv (i j:Int):Prop:=0<=j/\j<=1000000/\i.natAbs < 2 ^ 64
def Rg (i j:Int):Prop:=(-(2 ^ 64) < i/\i < 2 ^ 64)\/(-(2 ^ 64) < j/\j < 2 ^ 64)
theorem Rg.ok {i j:Int}(h:Rg i j):IntMulOk i j:=by
 rcases h with ⟨h1,h2⟩ | ⟨h1,h2⟩
 ·exact .of_left (intBits_le_64 h1 h2)
 ·exact .of_right (intBits_le_64 h1 h2)
theorem j7:OpR X (binaryOp .Add) (rI0 λi j=>.int (i+j)):=abt λ_ _ _ _ _ _ _ q=>add_int q
theorem BL:OpR X (binaryOp .Mult) (rI Rg λi j=>.int (i * j)):=opI λ_ _ _ _ _ _ _ hc q=>mul_int q hc.ok
theorem dU:OpR X (binaryOp .FloorDiv) (rI abu λi j=>.int (i / j)):=opI λi j _ _ _ _ _ hc q=>by
 have h1:(0:Int) < j:=hc.1;have h2:j < 1073741824:=hc.2;exact floordiv_int (by omega) (by rw[Int.fdiv_eq_ediv_of_nonneg i (by omega)];exact q) (.inl (PyProof.noPylong_small (by omega)))
theorem dn:OpR X (binaryOp .Mod) (rI (λ_ j=>0 < j) λi j=>.int (i % j)):=opI λi j _ _ _ _ _ hc q=>by
 have h1:(0:Int) < j:=hc;exact mod_int' (by omega) (by rw[Int.fmod_eq_emod_of_nonneg i (by omega)];exact q)
theorem Rh:OpR X (binaryOp .Pow) (rI abv λi j=>.int (i ^ j.toNat)):=opI λ_ _ _ _ _ _ _ hc q=>pow_int_small hc.1 hc.2.1 hc.2.2 q
theorem unI {f:Value->Sem Value}{g:Int->Int}
  (rule:∀(i:Int) (t:Tok) (s:Shared) (Q:Value->Shared->Prop) (E:Value->Shared->Prop),Q (.int (g i) s.toks) { s with toks:=s.toks+1 }->wpAny (model X.prog X.w) X.A (f (.int i t)) Q E s) :
  UnR X f (rU λi=>.int (g i)):=by
 intro pins s σ H x v Q I rx h;obtain⟨i,rfl,q⟩:=h;obtain⟨t,rfl⟩:=rx;exact rule i t s _ _ ⟨.int (g i),H,I.tok _,⟨_,rfl⟩,q⟩
theorem uL:UnR X (unaryOp .USub) (rU λi=>.int (-i)):=unI λ_ _ _ _ _ q=>neg_int q
end
def VY:V->V->Bool
 | .non,.non=>true | .non,.int _=>true | .int _,.non=>true | .non,.bl _=>true | .bl _,.non=>true | .non,.str _=>true | .str _,.non=>true
 | .int _,.int _=>true | .bl _,.bl _=>true | .str _,.str _=>true | .byt _,.byt _=>true
 | .int _,.str _=>true | .str _,.int _=>true | .bl _,.str _=>true | .str _,.bl _=>true
 |_,_=>false
def rEq:R2:=λx y H Q=>VY x y=true/\Q (.bl (decide (x=y))) H
def rNe:R2:=λx y H Q=>VY x y=true/\Q (.bl (!decide (x=y))) H
theorem Io {i j:Int}:decide (V.int i=V.int j)=(i == j):=by
 rw[Bool.eq_iff_iff];simp
theorem KQ {i j:Bool}:decide (V.bl i=V.bl j)=(i == j):=by
 rw[Bool.eq_iff_iff];simp
theorem Ip {i j:Str}:decide (V.str i=V.str j)=(i == j):=by
 rw[Bool.eq_iff_iff];simp
theorem Iq {i j:Array UInt8}:decide (V.byt i=V.byt j)=(i.toList == j.toList):=by
 rw[Bool.eq_iff_iff];cases i;cases j;simp
section
variable{X:Cx}{a b c:Expr}{ta tb tc:TE}{pos:Pos}
theorem cv {pins:List (Addr×Obj)}{σ:St}{H:Hp}{s:Shared}{Q:VK}{k k':Bool}(I:Inv X pins σ H s)(q:Q (.bl k) H)(e:k=k'):EP X pins σ Q (.bool k') s:=by
 subst e;exact⟨.bl k,H,I,rfl,q⟩
theorem bY:OpR X (aeZ .Eq) rEq:=by
 intro pins s σ H x y v u Q I rx ry h;obtain⟨hs,q⟩:=h;cases x with
 |non =>
  cases rx;cases y with
  |non=>cases ry;exact PySem.EqNone.eq_none_none (cv I q (by simp))
  |bl j=>cases ry;exact PySem.EqNone.eq_none_bool (cv I q (by simp))
  |int j=>obtain⟨t',rfl⟩:=ry;exact PySem.EqNone.eq_none_int (cv I q (by simp))
  |str j=>obtain⟨t',rfl⟩:=ry;exact PySem.EqNone.eq_none_str (cv I q (by simp))
  |_=>exact absurd (show false=true from hs) kj
 |bl i =>
  cases rx;cases y with
  |non=>cases ry;exact PySem.EqNone.eq_bool_none (cv I q (by simp))
  |bl j=>cases ry;exact eq_bool (cv I q KQ)
  |str j=>obtain⟨t',rfl⟩:=ry;exact PySem.EqMixed.eq_bool_str (cv I q (by simp))
  |_=>exact absurd (show false=true from hs) kj
 |int i =>
  obtain⟨t,rfl⟩:=rx;cases y with
  |non=>cases ry;exact PySem.EqNone.eq_int_none (cv I q (by simp))
  |int j=>obtain⟨t',rfl⟩:=ry;exact eq_int (cv I q Io)
  |str j=>obtain⟨t',rfl⟩:=ry;exact PySem.EqMixed.eq_int_str (cv I q (by simp))
  |_=>exact absurd (show false=true from hs) kj
 |str i =>
  obtain⟨t,rfl⟩:=rx;cases y with
  |non=>cases ry;exact PySem.EqNone.eq_str_none (cv I q (by simp))
  |bl j=>cases ry;exact PySem.EqMixed.eq_str_bool (cv I q (by simp))
  |int j=>obtain⟨t',rfl⟩:=ry;exact PySem.EqMixed.eq_str_int (cv I q (by simp))
  |str j=>obtain⟨t',rfl⟩:=ry;exact eq_str (cv I q Ip)
  |_=>exact absurd (show false=true from hs) kj
 |byt i =>
  obtain⟨t,rfl⟩:=rx;cases y with
  |byt j=>obtain⟨t',rfl⟩:=ry;exact PySem.W.eq_bytes (cv I q Iq)
  |_=>exact absurd (show false=true from hs) kj
 |_=>cases y <;> exact absurd (show false=true from hs) kj
theorem PF:OpR X (aeZ .NotEq) rNe:=by
 intro pins s σ H x y v u Q I rx ry h;obtain⟨hs,q⟩:=h;cases x with
 |non =>
  cases rx;cases y with
  |non=>cases ry;exact PySem.EqNone.ne_none_none (cv I q (by simp))
  |bl j=>cases ry;exact PySem.EqNone.ne_none_bool (cv I q (by simp))
  |int j=>obtain⟨t',rfl⟩:=ry;exact PySem.EqNone.ne_none_int (cv I q (by simp))
  |str j=>obtain⟨t',rfl⟩:=ry;exact PySem.EqNone.ne_none_str (cv I q (by simp))
  |_=>exact absurd (show false=true from hs) kj
 |bl i =>
  cases rx;cases y with
  |non=>cases ry;exact PySem.EqNone.ne_bool_none (cv I q (by simp))
  |bl j=>cases ry;exact ne_bool (cv I q (congrArg not KQ))
  |str j=>obtain⟨t',rfl⟩:=ry;exact PySem.EqMixed.ne_bool_str (cv I q (by simp))
  |_=>exact absurd (show false=true from hs) kj
 |int i =>
  obtain⟨t,rfl⟩:=rx;cases y with
  |non=>cases ry;exact PySem.EqNone.ne_int_none (cv I q (by simp))
  |int j=>obtain⟨t',rfl⟩:=ry;exact ne_int (cv I q (congrArg not Io))
  |str j=>obtain⟨t',rfl⟩:=ry;exact PySem.EqMixed.ne_int_str (cv I q (by simp))
  |_=>exact absurd (show false=true from hs) kj
 |str i =>
  obtain⟨t,rfl⟩:=rx;cases y with
  |non=>cases ry;exact PySem.EqNone.ne_str_none (cv I q (by simp))
  |bl j=>cases ry;exact PySem.EqMixed.ne_str_bool (cv I q (by simp))
  |int j=>obtain⟨t',rfl⟩:=ry;exact PySem.EqMixed.ne_str_int (cv I q (by simp))
  |str j=>obtain⟨t',rfl⟩:=ry;exact ne_str (cv I q (congrArg not Ip))
  |_=>exact absurd (show false=true from hs) kj
 |byt i =>
  obtain⟨t,rfl⟩:=rx;cases y with
  |byt j=>obtain⟨t',rfl⟩:=ry;exact PySem.W.ne_bytes (cv I q (congrArg not Iq))
  |_=>exact absurd (show false=true from hs) kj
 |_=>cases y <;> exact absurd (show false=true from hs) kj
theorem Ir:OpR X (aeZ .Lt) (rI0 λi j=>.bl (decide (i < j))):=NZ λ_ _ _ _ _ _ _ q=>lt_int q
theorem Iu:OpR X (aeZ .LtE) (rI0 λi j=>.bl (decide (i<=j))):=NZ λ_ _ _ _ _ _ _ q=>le_int q
theorem Iv:OpR X (aeZ .Gt) (rI0 λi j=>.bl (decide (j < i))):=NZ λ_ _ _ _ _ _ _ q=>gt_int q
theorem PH:OpR X (aeZ .GtE) (rI0 λi j=>.bl (decide (j<=i))):=NZ λ_ _ _ _ _ _ _ q=>ge_int q
theorem OpR.or {f:Value->Value->Sem Value}{r r':R2}(h:OpR X f r)(h':OpR X f r'):OpR X f (λx y H Q=>r x y H Q\/r' x y H Q):=by
 intro pins s σ H x y v u Q I rx ry q;rcases q with q | q
 ·exact h pins s σ H x y v u Q I rx ry q
 ·exact h' pins s σ H x y v u Q I rx ry q
theorem aS (b:Expr){op:CmpOp}(h:op≠.In:=by decide)(h2:op≠.NotIn:=by decide):behindInMarks op b=false:=by
 have e1:(op == CmpOp.In)=false:=by cases op <;> first | rfl | exact absurd rfl h
 have e2:(op == CmpOp.NotIn)=false:=by cases op <;> first | rfl | exact absurd rfl h2
 cases b <;> simp[behindInMarks,e1,e2]
theorem oo {op:CmpOp}{r:R2}(ho:OpR X (aeZ op) r)(ha:PE X a ta)(hb:PE X b tb)(hm:behindInMarks op b=false):PE X (.Compare a [op] [b] pos) (tOp r ta tb):=by
 intro pins s σ H Q I h;exact wpAny_Compare1 (Rf ha hb I h λv u s2 x y H2 I2 rx ry q=>ho pins s2 σ H2 x y v u Q I2 rx ry q) hm
def VZ (t:TE):TT:=λσ H Q=>t σ H λx H'=>∃k,x=.bl k/\Q k H'
theorem aJ {op:CmpOp}{r:R2}(ho:OpR X (aeZ op) r)(ha:PE X a ta)(hb:PE X b tb)(hm:behindInMarks op b=false):PT X (.Compare a [op] [b] pos) (VZ (tOp r ta tb)):=by
 intro pins s σ H Q I h;refine wpAny_isTrue_Compare1 (thn (ha pins s σ H _ I h) λv s1 ⟨x,H1,I1,r1,q1⟩=>thn (hb pins s1 σ H1 _ I1 q1) λu s2 ⟨y,H2,I2,r2,q2⟩ =>
  thn (ho pins s2 σ H2 x y v u _ I2 r1 r2 q2) λc s3 ⟨z,H3,I3,r3,k,e,q3⟩=>?_) hm
 subst e;cases r3;exact wpAny_truthy_bool ⟨H3,I3,q3⟩
def Ri (r r':R2)(ta tb tc:TE):TE:=λσ H Q=>ta σ H λx H1=>tb σ H1 λy H2=>r x y H2 λz H3=>∃k,z=.bl k /\
 (if k=true then tc σ H3 λw' H4=>r' y w' H4 Q else Q (.bl false) H3)
theorem KR {op op':CmpOp}{r r':R2}(ho:OpR X (aeZ op) r)(ho':OpR X (aeZ op') r')(ha:PE X a ta)(hb:PE X b tb)(hc:PE X c tc)
  (hm:lastMarks [op,op'] [b,c]=false:=by with_unfolding_all rfl):PE X (.Compare a [op,op'] [b,c] pos) (Ri r r' ta tb tc):=by
 intro pins s σ H Q I h;refine Compare_chain (thn (ha pins s σ H _ I h) λv s1 ⟨x,H1,I1,r1,q1⟩=>chain_link (thn (hb pins s1 σ H1 _ I1 q1) λu s2 ⟨y,H2,I2,r2,q2⟩ =>
  thn (ho pins s2 σ H2 x y v u _ I2 r1 r2 q2) λd s3 ⟨z,H3,I3,r3,k,e,q3⟩=>?_)) hm
 subst e;cases r3;refine wpAny_truthy_bool ?_;cases k with
 |false=>exact ite_ff ⟨.bl false,H3,I3,rfl,q3⟩
 |true=>exact ite_tt (chain_last (thn (hc pins s3 σ H3 _ I3 q3) λw' s4 ⟨z',H4,I4,r4,q4⟩=>ho' pins s4 σ H4 y z' u w' Q I4 r2 r4 q4))
def V0 (K:ba)(x:V)(H:Hp)(k:Bool):Prop :=
 match x with
 | .non=>k=false
 | .bl b=>k=b
 | .int i=>k=(i != 0)
 | .str y=>y.length<=gp/\k=((y.length:Int) != 0)
 | .byt y=>y.size<=gp/\k=((y.size:Int) != 0)
 | .ref p=>(∃xs,SqL K H p xs/\k=!xs.isEmpty)\/(∃xs,SqT K H p xs/\k=!xs.isEmpty)\/∃kvs,H p=some (.dK kvs)/\k=!kvs.isEmpty
 |_=>False
theorem F0 {κ:Type}{kvs:List (κ×V)}{vs:List (κ×Value)}(r:KV kvs vs):(!vs.isEmpty)=!kvs.isEmpty:=by
 cases r <;> rfl
theorem yu {xs:List V}{its:List Value}(r:Vals xs its):(!its.toArray.isEmpty)=!xs.isEmpty:=by
 cases r <;> simp
theorem uM:(gp:Nat) < 2 ^ 63:=by rw[sizeLine_eq];decide
theorem Rj:abr X (λx H Q=>∃k,V0 X.K x H k/\Q k H):=by
 intro pins s σ H x v Q I rx h;obtain⟨k,e,q⟩:=h;have hl:=uM;have hs:gp=16777216:=sizeLine_eq;cases x with
 |non =>
  cases rx;have e':k=false:=e;subst e';exact truthy_none ⟨H,I,q⟩
 |bl b =>
  cases rx;have e':k=b:=e;subst e';exact wpAny_truthy_bool ⟨H,I,q⟩
 |int i =>
  obtain⟨t,rfl⟩:=rx;have e':k=(i != 0):=e;subst e';exact PySem.P.truthy_int ⟨H,I,q⟩
 |str y =>
  obtain⟨t,rfl⟩:=rx;obtain⟨hy,e'⟩:y.length<=gp/\k=((y.length:Int) != 0):=e;subst e';exact PySem.P.truthy_str (by omega) ⟨H,I.tok _,q⟩
 |byt y =>
  obtain⟨t,rfl⟩:=rx;obtain⟨hy,e'⟩:y.size<=gp/\k=((y.size:Int) != 0):=e;subst e';exact PySem.W.truthy_bytes (by omega) ⟨H,I.tok _,q⟩
 |ref p =>
  cases rx;have e':(∃xs,SqL X.K H p xs/\k=!xs.isEmpty)\/(∃xs,SqT X.K H p xs/\k=!xs.isEmpty)\/∃kvs,H p=some (.dK kvs)/\k=!kvs.isEmpty:=e;rcases e' with ⟨xs,hx,e'⟩ | ⟨xs,hx,e'⟩ | ⟨kvs,hx,e'⟩
  ·subst e';obtain⟨its,r,pl,hz⟩:=I.list hx;have hlen:=r.length;exact wpAny_truthy_list pl.isList (by simp only[ko];omega) ⟨H,I.tok _,by rw[yu r];exact q⟩
  ·subst e';obtain⟨its,r,pl,hz⟩:=I.tuple hx;have hlen:=r.length;exact truthy_tuple pl (by simp only[ko];omega) ⟨H,I.tok _,by rw[yu r];exact q⟩
  ·subst e';obtain⟨hz,hS,vs,r,m⟩:kvs.length<=gp/\(p == ae8)=false/\∃vs,KV kvs vs/\s.heap.DictOf (dF X.prog X.w) p vs:=I.hok p _ hx;have hlen:kvs.length=vs.length:=Paired.length r;exact wpAny_truthy_dict hS m (by omega) ⟨H,I.tok _,by rw[F0 r];exact q⟩
 |_=>exact(show False from e).elim
theorem pZ (ha:PE X a ta)(he:∀whole,isTrue a X.env whole=(do let v <-whole;standAt a.pos;holding [v] (truthy v))) :
  PT X a (λσ H Q=>ta σ H λx H'=>∃k,V0 X.K x H' k/\Q k H'):=by
 intro pins s σ H Q I h;exact isTrue_plain (thn (ha pins s σ H _ I h) λv s1 ⟨x,H1,I1,r1,q1⟩=>Rj pins s1 σ H1 x v Q I1 r1 q1) (he _)
theorem F2:OpR X (binaryOp .Add) (λx y H Q=>∃i j,x=.str i/\y=.str j/\i.length+j.length<=gp/\Q (.str (i++j)) H):=by
 intro pins s σ H x y v u Q I rx ry h;obtain⟨i,j,rfl,rfl,hz,q⟩:=h;obtain⟨t,rfl⟩:=rx;obtain⟨t',rfl⟩:=ry;exact add_str (λt' tk=>⟨.str (i++j),H,I.tok _,⟨_,rfl⟩,q⟩) hz
theorem vals1 {x:V}{us:List Value}(r:Vals [x] us):∃u,us=[u]/\RelV x u:=by
 cases r with
 |cons r1 r2=>cases r2;exact⟨_,rfl,r1⟩
theorem vals2 {x y:V}{us:List Value}(r:Vals [x,y] us):∃u w',us=[u,w']/\RelV x u/\RelV y w':=by
 cases r with
 |cons r1 r2 =>
  cases r2 with
  |cons r3 r4=>cases r4;exact⟨_,_,rfl,r1,r3⟩
theorem Ju (hc:X.calm=true):mw X (.builtin "max") (λxs H Q=>∃i j,xs=[.int i,.int j]/\Q (.int (if j > i then j else i)) H):=by
 intro pins s σ H xs us Q I r h;obtain⟨i,j,rfl,q⟩:=h;obtain⟨u,w',rfl,⟨t,rfl⟩,⟨t',rfl⟩⟩:=vals2 r;refine max_two_ints (I.ok.hd hc) λh' tk k=>⟨_,H,I.kept k,?_,q⟩
 by_cases hj:j > i
 ·rw[if_pos hj,if_pos hj];exact⟨_,rfl⟩
 ·rw[if_neg hj,if_neg hj];exact⟨_,rfl⟩
theorem tD:mw X (.type "str") (λxs H Q=>∃i,xs=[.int i]/\i.natAbs.log2 < 1920/\Q (.str (toString i)) H):=by
 intro pins s σ H xs us Q I r h;obtain⟨i,rfl,hz,q⟩:=h;obtain⟨u,rfl,t,rfl⟩:=vals1 r;exact PySem.P.str_of_int hz ⟨.str _,H,I.tok _,⟨_,rfl⟩,q⟩
end
end L2
namespace L2
open PySem PySem.Spec PyProof.Rows
structure F3 (h:Heap)(x dx C:Addr)(mA:Str->Option Value):Prop where
 obj:h.get? x=some (aen C dx)
 ns:h.Ns1 dx mA
 ne:dx≠x
theorem AG {h:Heap}{dx:Addr}{mA:Str->Option Value}(n:h.Ns1 dx mA):∃od,h.get? dx=some od/\∀name,PySem.W.lookIn name od=some (mA name):=by
 obtain⟨o,es,ep,ho,hd,hk,_,hm⟩:=n;refine⟨o,ho,λname=>?_⟩
 have e:=hm name;unfold nsFind findBy at e;rw[<-Array.find?_toList]at e;unfold PySem.W.lookIn;rw[hd];dsimp only;split
 ·rename_i y q;rw[q]at e;exact congrArg some e
 ·rename_i q;rw[q]at e;have a:es.toList.any (·.refKey)=false:=by
   rw[List.any_eq_false];intro y hy;obtain⟨z,t,abw⟩:=hk y (Array.mem_toList_iff.mp hy);simp[DictEntry.refKey,abw]
  have a':¬es.toList.any (·.refKey)=true:=by rw[a];exact kj
  rw[if_neg a'];exact congrArg some e
theorem F3.look {h:Heap}{x dx C:Addr}{mA:Str->Option Value}(I:F3 h x dx C mA):∃od,PySem.W.InstAt h x (aen C dx) C (some od)/\∀name,PySem.W.lookIn name od=some (mA name) :=
 let ⟨od,ho,hl⟩:=AG I.ns
 ⟨od,⟨I.obj,rfl,rfl,ho⟩,hl⟩
section
variable{prog:ku}{w:World}{A:Around}{E:Value->Shared->Prop}{s:Shared}{K:ba}{x dx C f:Addr}{mA:Str->Option Value}{name:Str}{v:Value}
theorem get_map {expr:Bool}{Q:Value->Shared->Prop}(X:K.In s.heap)(I:F3 s.heap x dx C mA)(hg:aeo K C name=true)(hh:aeb K C=true)
  (ha:bo K (.ref C) name=some none) (hv:mA name=some v) (hv':PySem.W.handedIn v=true) (h:Q v { s with toks:=s.toks+1 }) :
  wpAny (model prog w) A (getAttr (.ref x) name expr) Q E s:=by
 obtain⟨od,J,hl⟩:=I.look;exact PySem.W.get_value X J (PySem.W.plainGet_of hg).1 (PySem.W.findObj_own hh ha rfl (by rw[hl,hv])) hv' h
theorem KS {pl:Sem Bool}{Q:Value×List Value->Shared->Prop}(X:K.In s.heap)(I:F3 s.heap x dx C mA)(hg:aeo K C name=true)
  (hf:bo K (.ref C) name=some (some (.ref f))) (ht:kq K (.ref f)=true) (hv:mA name=none) (h:Q (.ref f,[.ref x]) s) :
  wpAny (model prog w) A (getMethod (.ref x) name pl) Q E s:=by
 obtain⟨od,J,hl⟩:=I.look;exact PySem.W.method_fn X J (PySem.W.plainGet_of hg).1 (PySem.W.plainGet_of hg).2 hf (beq_iff_eq.mp ht) (by show (PySem.W.lookIn name od).map (·.isSome)=some false;rw[hl,hv];rfl) h
theorem N0 {ns:List Str}{Q:Unit->Shared->Prop}(X:K.In s.heap)(I:F3 s.heap x dx C mA)
  (hs:bo K (.ref C) "__setattr__"=some (some (.builtin "object.__setattr__"))) (hp:aev K C=true) (ht:PySem.W.takerIn K C name=some none) (hh:aeb K C=true)
  (hw:PySem.Within mA ns) (hsz:ns.length<=gp)
  (h:∀h',F3 h' x dx C (λy=>if y=name then some v else mA y)->Heap.SameBut dx s.heap h'->Q () { s with heap:=h',toks:=s.toks+2 }) :
  wpAny (model prog w) A (setAttr (.ref x) name v) Q E s:=by
 obtain⟨od,J,hl⟩:=I.look;refine PySem.W.set_plain X J hs (PySem.W.osa_open (s:={ s with toks:=s.toks+1 }) (r:=none) X J hp ht λb=>?_)
 obtain⟨cd,hc,hd'⟩:=PySem.W.any_some hh;have hx:s.heap.get? x=some ⟨.ref C,some dx,.plain,#[]⟩:=I.obj;refine de (ma (de (de (wpAny_loadPart hx (de (PySem.W.Looks.here (s:={ s with toks:=s.toks+1 }) (PySem.W.looks_clsIn X hc) ?_))))))
 rw[hd'];refine ma (a:=some dx) (de (ma (de ?_)));refine wpAny_nsSet1 (s:={ s with toks:=s.toks+1 }) I.ns λh' hn2 hs2=>?_
 obtain⟨oD,esD,epD,hoD,hdD,hcD⟩:=hn2.count (PySem.Within.cons name v hw);refine de (wpAny_lookBehind hoD (by rw[hdD];exact pastItsLine_dict (om hcD (by rw[tm];omega))) ?_)
 exact ma (h _ ⟨(hs2.2 _ (ad9 I.ne)).trans I.obj,hn2,I.ne⟩ hs2)
theorem KU {R:Result->Shared->Prop}{vs:List Value}{kw:List (Str×Value)}(X:K.In s.heap)(hm:aeA K C=true)
  (hi:bo K (.ref C) "__init__"=some (some (.ref f))) (hf:PySem.W.typeIn K (.ref f)=some (.type "function"))
  (h:codeAny (model prog w) (A.under (.builtin "type.__call__" ⟨.ref C::vs,kw⟩)) (.call (.ref f) ⟨.ref (s.heap.objs.size+1)::vs,kw⟩) (PySem.W.InitBack (s.heap.objs.size+1) R)
   { s with heap:=(s.heap.push aeg).push (aen C s.heap.objs.size) }) :
  codeAny (model prog w) A (.call (.ref C) ⟨vs,kw⟩) R s:=by
 obtain⟨hh,g,d,t,os⟩:=s;exact PySem.W.make_core (PySem.W.makes_of X hm) (afd X hi) (λself=>PySem.W.bind_fn X self hf) (.inl rfl) h
end
def fZ (f:Str)(v:V):List (Str×V)->List (Str×V)
 |[]=>[(f,v)]
 | (g,x)::r=>if g=f then (g,v)::r else (g,x)::fZ f v r
theorem vN (f g:Str)(v:V):∀fs:List (Str×V),(fZ f v fs).lookup g=if g=f then some v else fs.lookup g
 |[]=>by
  show aey g [(f,v)]=_
  by_cases h:g=f
  ·have hb:(g == f)=true:=beq_iff_eq.mpr h;simp only[aey,hb,if_pos h]
  ·have hb:(g == f)=false:=beq_eq_false_iff_ne.mpr h;simp only[aey,hb,if_neg h]
 | (k,x)::r=>by
  have ih:=vN f g v r;rw[show fZ f v ((k,x)::r)=(if k=f then (k,v)::r else (k,x)::fZ f v r) from rfl]
  by_cases hk:k=f
  ·rw[if_pos hk]
   by_cases h:g=k
   ·have hb:(g == k)=true:=beq_iff_eq.mpr h;simp only[aey,hb,if_pos (h.trans hk)]
   ·have hb:(g == k)=false:=beq_eq_false_iff_ne.mpr h;simp only[aey,hb,if_neg (λe:g=f=>h (e.trans hk.symm))]
  ·rw[if_neg hk]
   by_cases h:g=k
   ·have hb:(g == k)=true:=beq_iff_eq.mpr h;simp only[aey,hb,if_neg (λe:g=f=>hk (h.symm.trans e))]
   ·have hb:(g == k)=false:=beq_eq_false_iff_ne.mpr h;simp only[aey,hb];exact ih
theorem uN (f:Str)(v:V):∀fs:List (Str×V),f∈(fZ f v fs).map (·.1)/\∀g,g∈fs.map (·.1)->g∈(fZ f v fs).map (·.1)
 |[]=>⟨by simp[fZ],λg h=>by simp at h⟩
 | (k,x)::r=>by
  obtain⟨i1,i2⟩:=uN f v r;rw[show fZ f v ((k,x)::r)=(if k=f then (k,v)::r else (k,x)::fZ f v r) from rfl]
  by_cases hk:k=f
  ·rw[if_pos hk];subst hk;exact⟨by simp,λg h=>by simpa using h⟩
  ·rw[if_neg hk];refine⟨?_,λg h=>?_⟩
   ·rw[kc];exact ki _ i1
   ·rw[kc]at h ⊢;rcases List.mem_cons.mp h with e | e
    ·exact List.mem_cons.mpr (.inl e)
    ·exact ki _ (i2 g e)
theorem vO (f:Str)(v:V):∀fs:List (Str×V),(fZ f v fs).length<=fs.length+1
 |[]=>by simp[fZ]
 | (k,x)::r=>by
  have ih:=vO f v r;rw[show fZ f v ((k,x)::r)=(if k=f then (k,v)::r else (k,x)::fZ f v r) from rfl]
  by_cases hk:k=f
  ·rw[if_pos hk,tm,tm];omega
  ·rw[if_neg hk,tm,tm];omega
theorem nj.some_of {v:V}{o:Option Value}(r:nj (some v) o):∃u,o=some u/\RelV v u:=by
 cases o with
 |none=>exact(show False from r).elim
 |some u=>exact⟨u,rfl,r⟩
theorem nj.none_of {o:Option Value}(r:nj none o):o=none:=by
 cases o with
 |none=>rfl
 |some u=>exact(show False from r).elim
theorem Jv {v:V}{u:Value}(r:RelV v u):PySem.W.handedIn u=true:=by
 cases v with
 |non=>cases (show u=afe from r);rfl
 |bl b=>cases (show u=Value.bool b from r);rfl
 |int i=>obtain⟨t,e⟩:=(show ∃t,u=Value.int i t from r);cases e;rfl
 |str x=>obtain⟨t,e⟩:=(show ∃t,u=Value.str x t from r);cases e;rfl
 |byt b=>obtain⟨t,e⟩:=(show ∃t,u=Value.bytes b t from r);cases e;rfl
 |flt b=>obtain⟨t,e⟩:=(show ∃t,u=Value.float b t from r);cases e;rfl
 |ref a=>cases (show u=sr a from r);rfl
 |ty n=>cases (show u=Value.type n from r);rfl
section
variable{P:ku}{w:World}{H H':Hp}{h h':Heap}{a C dx:Addr}{fs fs':List (Str×V)}
theorem BM (hok:HOk P w H h)(e:H a=some (.ins C dx fs)):∃mA,F3 h a dx C mA/\(∀f,nj (fs.lookup f) (mA f))/\PySem.Within mA (fs.map (·.1))/\fs.length<=1000/\H dx=some (.own a):=by
 obtain⟨d,z,ne,ob,mA,n,r,q⟩:=(show eU P w H h a (.ins C dx fs) from hok a _ e)
 exact⟨mA,⟨ob,n,ne⟩,r,q,z,d⟩
end
structure Cls (K:ba)(C:Addr):Prop where
 pg:aeo K C ael=true
 hd:aeb K C=true
 po:aev K C=true
 sa:bo K (.ref C) "__setattr__"=some (some (.builtin "object.__setattr__"))
theorem Cls.get {K:ba}{C:Addr}(c:Cls K C)(f:Str):aeo K C f=true:=c.pg
def dA (K:ba)(C:Addr)(f:Str):Prop:=bo K (.ref C) f=some none
theorem dA.V1 {K:ba}{C:Addr}{f:Str}(n:dA K C f):PySem.W.takerIn K C f=some none:=by
 unfold PySem.W.takerIn;rw[show bo K (.ref C) f=some none from n]
 rfl
structure Con (K:ba)(C:Addr)(f:Str)(v:V)(u:Value):Prop where
 at_:bo K (.ref C) f=some (some u)
 rel:RelV v u
 get:PySem.W.specialIn K u "__get__"=some none
 cp:PySem.W.copiedNames.contains f=false
structure Meth (K:ba)(C:Addr)(m:Str)(f:Addr):Prop where
 at_:bo K (.ref C) m=some (some (.ref f))
 fn:kq K (.ref f)=true
 kp:da K (.ref f)=true
section
variable{X:Cx}{pins:List (Addr×Obj)}{σ:St}{H:Hp}{s:Shared}{a C dx:Addr}{fs:List (Str×V)}{f:Str}{v:V}{A:Around}{E:Value->Shared->Prop}
theorem F4 {b:Bool}{Q:Value->Shared->Prop}(I:Inv X pins σ H s)(e:H a=some (.ins C dx fs))(c:Cls X.K C)(n:dA X.K C f)(l:fs.lookup f=some v)
  (h:∀u s',Inv X pins σ H s'->RelV v u->Q u s'):wpAny (model X.prog X.w) A (getAttr (.ref a) f b) Q E s:=by
 obtain⟨mA,O,r,_,_,_⟩:=BM I.hok e;obtain⟨u,hu,ru⟩:=nj.some_of (v:=v) (o:=mA f) (by rw[<-l];exact r f)
 exact get_map I.kIn O (c.get f) c.hd n hu (Jv ru) (h u _ (I.tok _) ru)
theorem i7 {m:Str}{g:Addr}{pl:Sem Bool}{Q:Value×List Value->Shared->Prop}(I:Inv X pins σ H s)(e:H a=some (.ins C dx fs))(c:Cls X.K C)(k:Meth X.K C m g)(l:fs.lookup m=none)
  (h:Q (.ref g,[.ref a]) s):wpAny (model X.prog X.w) A (getMethod (.ref a) m pl) Q E s:=by
 obtain⟨mA,O,r,_,_,_⟩:=BM I.hok e;have hn:mA m=none:=nj.none_of (by rw[<-l];exact r m)
 exact KS I.kIn O (c.get m) k.at_ k.fn hn h
theorem F5 {y:V}{u:Value}{Q:Unit->Shared->Prop}(I:Inv X pins σ H s)(e:H a=some (.ins C dx fs))(c:Cls X.K C)(n:dA X.K C f)(hl:fs.length < 1000)(ry:RelV y u)
  (h:∀s',Inv X pins σ (upd H a (.ins C dx (fZ f y fs))) s'->Q () s'):wpAny (model X.prog X.w) A (setAttr (.ref a) f u) Q E s:=by
 obtain⟨mA,O,r,wi,_,ho⟩:=BM I.hok e;have hz:(fs.map (·.1)).length<=gp:=by rw[cb,sizeLine_eq];omega
 refine N0 I.kIn O c.sa c.po n.V1 c.hd wi hz λh' O' sb=>h _ ?_
 have hd:∃o,h'.get? dx=some o:=let ⟨o,_,_,e',_⟩:=O'.ns;⟨o,e'⟩
 refine I.write (x:=a) (e:=dx) (by rw[e];exact afi) (.inr ho) (λb q hb z=>(sb.2 b hb).trans z) hd ?_
 refine⟨by rw[aw O.ne];exact ho,?_,O.ne,O'.obj,_,O'.ns,λg=>?_,λg hg=>?_⟩
 ·have:=vO f y fs;omega
 ·show nj ((fZ f y fs).lookup g) (if g=f then some u else mA g)
  rw[vN]
  by_cases q:g=f
  ·rw[if_pos q,if_pos q];exact ry
  ·rw[if_neg q,if_neg q];exact r g
 ·by_cases q:g=f
  ·rw[q];exact(uN f y fs).1
  ·refine(uN f y fs).2 g (wi g λz=>hg ?_)
   show (if g=f then some u else mA g)=none
   rw[if_neg q];exact z
theorem Inv.made (I:Inv X pins σ H s):Inv X pins σ (upd (upd H s.heap.objs.size (.own (s.heap.objs.size+1))) (s.heap.objs.size+1) (.ins C s.heap.objs.size []))
  { s with heap:=(s.heap.push aeg).push (aen C s.heap.objs.size) }:=by
 have e1:(s.heap.push aeg).get? s.heap.objs.size=some aeg:=ad3 s.heap rfl;have e2:((s.heap.push aeg).push (aen C s.heap.objs.size)).get? (s.heap.objs.size+1)=some (aen C s.heap.objs.size):=by
  have:=ad3 (s.heap.push aeg) (o:=aen C s.heap.objs.size) rfl
  rwa [Heap.size_push]at this
 have e3:(s.heap.push aeg).Ns s.heap.objs.size (λ_=>none):=⟨aeg,#[],_,e1,rfl,(λe he=>absurd he (by simp)),λ_=>rfl⟩
 have I1:=I.laid (a:=s.heap.objs.size) (o:=.own (s.heap.objs.size+1)) (h':=s.heap.push aeg) (t':=s.toks) (λb u q=>gc _ q) (kg _) ⟨_,e1⟩
 refine I1.laid (a:=s.heap.objs.size+1) (o:=.ins C s.heap.objs.size []) (t':=s.toks) (λb u q=>gc _ q) (Nat.le_of_eq (Heap.size_push _ _)) ?_
 have ne:s.heap.objs.size≠s.heap.objs.size+1:=ad6 (Nat.lt_succ_self _);refine⟨by rw[aw ne,ae],aeM _,ne,e2,λ_=>none,(Heap.Ns1.of_empty e3).at λo q=>gc _ q,λ_=>afi,λy hy=>absurd rfl hy⟩
theorem Iw {prog:ku}{w:World}{env:Env}{e:Expr}{f:Str}{pos:Pos}{s:Shared}{Q:Value->Shared->Prop}(hb:attributeBase e f env (eval e env)=eval e env)
  (h:wpAny (model prog w) A (eval e env) (λo s₁=>wpAny (model prog w) A (getAttr o f true) Q E s₁) E s):wpAny (model prog w) A (eval (.Attribute e f pos) env) Q E s :=
 Attribute_any_ h (by rw[arm_eval_Attribute,hb])
end
def V2 (K:ba)(ta:TE)(f:Str):TE:=λσ H Q=>ta σ H λx H1=>∃a C dx fs v,x=.ref a/\H1 a=some (.ins C dx fs)/\Cls K C/\dA K C f/\fs.lookup f=some v/\Q v H1
def abx (K:ba)(ta tv:TE)(f:Str):TS:=λD σ H=>tv σ H λy H1=>ta σ H1 λx H2=>∃a C dx fs,x=.ref a/\H2 a=some (.ins C dx fs)/\Cls K C/\dA K C f/\fs.length < 1000 /\
 D.nx σ (upd H2 a (.ins C dx (fZ f y fs)))
section
variable{X:Cx}{o e value:Expr}{f:Str}{pos pos' aby:Pos}{ta tv:TE}
theorem aZ (he:PE X e ta)(hb:attributeBase e f X.env (eval e X.env)=eval e X.env):PE X (.Attribute e f pos) (V2 X.K ta f):=by
 intro pins s σ H Q I h;refine Iw hb (thn (he pins s σ H _ I h) λu s1 ⟨x,H1,I1,rx,a,C,dx,fs,v,ex,ea,c,n,l,q⟩=>?_)
 subst ex;obtain rfl:u=sr a:=rx;exact F4 I1 ea c n l λu' s2 I2 ru=>⟨v,H1,I2,ru,q⟩
theorem eB (ha:PE X o ta)(hv:PE X value tv)(hs:swapsWith value (some (.Attribute o f pos')) pos.line X.env=pure false):PS X (.Assign [.Attribute o f pos'] value pos) (abx X.K ta tv f):=by
 intro pins s σ H D I h;refine plainObj_wpAny_Assign_Attribute (thn (hv pins s σ H _ I h) λu s1 ⟨y,H1,I1,ry,q⟩=>thn (ha pins s1 σ H1 _ I1 q) λov s2 ⟨x,H2,I2,rx,a,C,dx,fs,ex,ea,c,n,l,q2⟩=>?_) hs
 subst ex;obtain rfl:ov=sr a:=rx;exact F5 I2 ea c n l ry λs3 I3=>⟨σ,_,I3,q2⟩
theorem PK {pl:Sem Bool}{m:Str}{apos:Pos}{args:List Expr}{pins:List (Addr×Obj)}{s:Shared}{σ:St}{H:Hp}{Q:Value->Shared->Prop}{te:TE}(he:PE X e te)(I:Inv X pins σ H s)
  (h:te σ H λx H1=>∃a C dx fs g,x=.ref a/\H1 a=some (.ins C dx fs)/\Cls X.K C/\Meth X.K C m g/\fs.lookup m=none /\
   ∀s1,Inv X pins σ H1 s1->wpAny (model X.prog X.w) X.A (callWith pos (.ref g) [.ref a] (backTo pos (si args X.env)) (backToKw pos (keywordEach [] X.env))) Q X.xe s1)
  (ht:eval (.Call (.Attribute e m apos) args [] pos) X.env=(do
   let ov <-eval e X.env
   standAt apos.atName
   let (f,first) <-holding [ov] (getMethod ov m pl)
   callWith pos f first (backTo pos (si args X.env)) (backToKw pos (keywordEach [] X.env)))) :
  wpAny (model X.prog X.w) X.A (eval (.Call (.Attribute e m apos) args [] pos) X.env) Q X.xe s:=by
 refine aeJ (pl:=pl) (thn (he pins s σ H _ I h) λu s1 ⟨x,H1,I1,rx,a,C,dx,fs,g,ex,ea,c,k,l,q⟩=>?_) ht
 subst ex;obtain rfl:u=sr a:=rx;exact i7 I1 ea c k l (q s1 I1)
end
section
variable{X:Cx}{pins:List (Addr×Obj)}{σ:St}{H:Hp}{s:Shared}{A:Around}{E:Value->Shared->Prop}{Q:Value->Shared->Prop}{c:Value}{b:Bool}
inductive yw (K:ba)(H:Hp):V->Value->Prop where
 |non:yw K H .non (.type "NoneType")
 |bl (x:Bool):yw K H (.bl x) (.type "bool")
 |int (i:Int):yw K H (.int i) (.type "int")
 |str (x:Str):yw K H (.str x) (.type "str")
 |flt (x:UInt64):yw K H (.flt x) (.type "float")
 |lst {a:Addr} {xs:List V} (e:H a=some (.lst xs)):yw K H (.ref a) (.type "list")
 |frz {a:Addr} {o:Obj} {xs:List V} (e:H a=some (.frz o (.lst xs))):yw K H (.ref a) (.type "list")
 |tup {a:Addr} {xs:List V} (e:H a=some (.tup xs)):yw K H (.ref a) (.type "tuple")
 |dK {a:Addr} {kvs:List (Key×V)} (e:H a=some (.dK kvs)):yw K H (.ref a) (.type "dict")
 |dT {a:Addr} {kvs:List (List Key×V)} (e:H a=some (.dT kvs)):yw K H (.ref a) (.type "dict")
 |ins {a C dx:Addr} {fs:List (Str×V)} (e:H a=some (.ins C dx fs)) (cl:Cls K C) (ha:bo K (.ref C) "__class__"=some (some (.builtin "object.__class__")))
   (hn:PySem.W.specialIn K (.builtin "object.__class__") "__get__"=some (some (.builtin "getset_descriptor.__get__"))) (htk:PySem.W.takesIn K (.builtin "object.__class__")=some true)
   (hm:aeB K C (.type "object")=some true):yw K H (.ref a) (.ref C)
end
end L2
namespace L2
open PySem PySem.Spec PyProof.Rows
structure Room (k:Nat)(A:Around):Prop where
 hd:A.handled=none
 dp:A.depth+3 * k+5 < recursionLimit
 un:A.units+16 * k+200 < cLine
 gd:A.guards=some []
theorem Room.mono {j k:Nat}{A:Around}(r:Room k A)(h:j<=k):Room j A:=⟨r.hd,by have:=r.dp;omega,by have:=r.un;omega,r.gd⟩
theorem Room.deeper {k:Nat}{A:Around}(r:Room (k+1) A)(env:Env):Room k (A.deeper env) :=
 ⟨r.hd,by have:=r.dp;show A.depth+1+3 * k+5 < _;omega,by have:=r.un;show A.units+3+16 * k+200 < _;omega,r.gd⟩
theorem Room.in1 {k:Nat}{A:Around}(r:Room (k+1) A):Room k A.in1 :=
 ⟨r.hd,by have:=r.dp;show A.depth+3 * k+5 < _;omega,by have:=r.un;show A.units+1+16 * k+200 < _;omega,r.gd⟩
theorem F6 {A:Around}{C:Addr}{us:List Value}{kw:List (Str×Value)}:(A.under (.builtin "type.__call__" ⟨.ref C::us,kw⟩)).depth=A.depth+1:=by
 first | rfl | simp[Around.under,Code.weight,Code.isCreation,Code.isGuard,Code.isCaller,Code.frames,Code.isFrame,guardIds]
theorem F7 {A:Around}{C:Addr}{us:List Value}{kw:List (Str×Value)}:(A.under (.builtin "type.__call__" ⟨.ref C::us,kw⟩)).units=A.units+1:=by
 first | rfl | simp[Around.under,Code.cUnits,Code.frames,Code.isFrame]
theorem Room.make {k:Nat}{A:Around}(r:Room (k+1) A)(C:Addr)(us:List Value)(kw:List (Str×Value)):Room k (A.under (.builtin "type.__call__" ⟨.ref C::us,kw⟩)) :=
 ⟨r.hd,by have:=r.dp;rw[F6];omega,by have:=r.un;rw[F7];omega,by
  have g:=r.gd
  first | exact g | simp[Around.under,Code.guards,Code.isGuard,guardIds,pushGuards,g]⟩
theorem Room.depth {k:Nat}{A:Around}(r:Room k A):A.depth < recursionLimit:=by have:=r.dp;omega
theorem Room.units {k:Nat}{A:Around}(r:Room k A):A.units+64 < cLine:=by have:=r.un;omega
def V3:TA:=λ_ H Q=>Q [] H
def V4 (ta:TE)(tr:TA):TA:=λσ H Q=>ta σ H λx H1=>tr σ H1 λxs H2=>Q (x::xs) H2
section
variable{X:Cx}{e:Expr}{es:List Expr}{te:TE}{t:TA}{pos:Pos}
theorem ah:PA X [] V3:=λ_ _ _ _ H Q I h=>Calls.spliced_nil ⟨[],H,I,.nil,h⟩
theorem aa (ha:PE X e te)(hr:PA X es t)(hs:si (e::es) X.env=(false,eval e X.env)::si es X.env:=by rfl):PA X (e::es) (V4 te t):=by
 intro pos pins s σ H Q I h;rw[hs];show wpAny _ _ (spliced ((false,eval e X.env)::backTo pos (si es X.env))) _ _ s;refine Calls.spliced_cons (thn (ha pins s σ H _ I h) λu s1 ⟨x,H1,I1,r1,q1⟩=>?_)
 exact thn (hr pos pins s1 σ H1 _ I1 q1) λus s2 ⟨xs,H2,I2,r2,q2⟩=>⟨x::xs,H2,I2,.cons r1 r2,q2⟩
def abz (t:TA):TE:=λσ H Q=>t σ H λxs H1=>xs.length<=gp/\∀p,H1 p=none->Q (.ref p) (upd H1 p (.tup xs))
def abA (t:TA):TE:=λσ H Q=>t σ H λxs H1=>xs.length<=gp/\∀p,H1 p=none->Q (.ref p) (upd H1 p (.lst xs))
theorem bH {x1}(h:PA X es t):PE X (.Tuple es x1 pos) (abz t):=by
 intro pins s σ H Q I hq;refine wpAny_Tuple_spliced (thn (h pos pins s σ H _ I hq) λus s1 ⟨xs,H1,I1,r,z,q⟩=>⟨by rw[<-r.length];exact z,?_⟩)
 have hf:H1 s1.heap.objs.size=none:=I1.hok.fresh (kg _);refine⟨.ref s1.heap.objs.size,upd H1 s1.heap.objs.size (.tup xs),I1.laid (t':=s1.toks) (λb u e=>gc _ e) (kg _) ?_,rfl,q _ hf⟩
 exact⟨z,us,r,⟨_,ad3 _ rfl,rfl,_,rfl⟩⟩
theorem gQ (h:PA X es t):PE X (.List es pos) (abA t):=by
 intro pins s σ H Q I hq;refine wpAny_List_spliced (thn (h pos pins s σ H _ I hq) λus s1 ⟨xs,H1,I1,r,z,q⟩=>⟨by rw[<-r.length];exact z,?_⟩)
 have hf:H1 s1.heap.objs.size=none:=I1.hok.fresh (kg _);refine⟨.ref s1.heap.objs.size,upd H1 s1.heap.objs.size (.lst xs),I1.laid (t':=s1.toks) (λb u e=>gc _ e) (kg _) ?_,rfl,q _ hf⟩
 exact⟨z,us,0,r,ad3 _ rfl⟩
end
abbrev Sp:=List V->Hp->VK->XK->Prop
abbrev CXT:=List Env->Hp->Shared->XK->Value->Shared->Prop
structure Ad (P:ku)(w:World)(K:ba)(mg:Str->Option Value)(base:Heap)(A:Around)(outer:List Env)(s:Shared)(H:Hp):Prop where
 frames:A.frames=some outer
 mod:Mod K mg base
 bs:∀b o,base.get? b=some o->s.heap.get? b=some o/\H b=none
 bsz:base.objs.size<=s.heap.objs.size
 rY:s.heap.FunFrames base outer
 frf:∀b∈frs outer,H b=none
 hok:HOk P w H s.heap
 bare:AllBare s.gens
def CE (outer:List Env)(P:ku)(w:World)(H:Hp)(s:Shared)(Q:VK)(u:Value)(s':Shared):Prop :=
 ∃v H',s'.os=s.os/\AllBare s'.gens/\Un (frs outer) [] H H' s.heap s'.heap/\HOk P w H' s'.heap/\RelV v u/\Q v H'
def CR (CX:CXT)(outer:List Env)(P:ku)(w:World)(H:Hp)(s:Shared)(Q:VK)(E:XK)(r:Result)(s':Shared):Prop :=
 match r with
 | .ok (.ret u)=>CE outer P w H s Q u s'
 | .ok _=>False
 | .error e=>CX outer H s E e s'
structure ay (P:ku)(w:World)(K:ba)(mg:Str->Option Value)(base:Heap)(CX:CXT)(k:Nat)(f:Addr)(fd:gr)(ps:List Str)(sp:Sp):Prop where
 len:∀vs H Q E,sp vs H Q E->vs.length=ps.length
 run:∀(A:Around) (outer:List Env) (s:Shared) (H:Hp) (args:Args) (us:List Value) (vs:List V) (Q:VK) (E:XK),Room k A->Ad P w K mg base A outer s H->BindsTo s fd args (ps.zip us)->Vals vs us->sp vs H Q E ->
  codeAny (model P w) A (.call (.ref f) args) (CR CX outer P w H s Q E) s
theorem ay.mono {P:ku}{w:World}{K:ba}{mg:Str->Option Value}{base:Heap}{CX:CXT}{j k:Nat}{f:Addr}{fd:gr}{ps:List Str}{sp:Sp}(F:ay P w K mg base CX j f fd ps sp)(h:j<=k) :
  ay P w K mg base CX k f fd ps sp:=⟨F.len,λA outer s H args us vs Q E hr=>F.run A outer s H args us vs Q E (hr.mono h)⟩
theorem ay.imp {P:ku}{w:World}{K:ba}{mg:Str->Option Value}{base:Heap}{CX:CXT}{k:Nat}{f:Addr}{fd:gr}{ps:List Str}{sp sp':Sp}(F:ay P w K mg base CX k f fd ps sp)
  (h:∀vs H Q E,sp' vs H Q E->sp vs H Q E):ay P w K mg base CX k f fd ps sp' :=
 ⟨λvs H Q E q=>F.len vs H Q E (h _ _ _ _ q),λA outer s H args us vs Q E hr he hb hv hs=>F.run A outer s H args us vs Q E hr he hb hv (h _ _ _ _ hs)⟩
theorem Ad.make {P:ku}{w:World}{K:ba}{mg:Str->Option Value}{base:Heap}{A:Around}{outer:List Env}{s:Shared}{H:Hp}(e:Ad P w K mg base A outer s H)(C:Addr)(us:List Value)(kw:List (Str×Value)) :
  Ad P w K mg base (A.under (.builtin "type.__call__" ⟨.ref C::us,kw⟩)) outer s H:=⟨by first | exact e.frames | (simpa [Around.under,Code.envs,Code.isFrame,pushEnvs] using e.frames),e.mod,e.bs,e.bsz,e.rY,e.frf,e.hok,e.bare⟩
theorem Ad.in1 {P:ku}{w:World}{K:ba}{mg:Str->Option Value}{base:Heap}{A:Around}{outer:List Env}{s:Shared}{H:Hp}(e:Ad P w K mg base A outer s H) :
  Ad P w K mg base A.in1 outer s H:=⟨e.frames,e.mod,e.bs,e.bsz,e.rY,e.frf,e.hok,e.bare⟩
section
variable{X:Cx}{pins:List (Addr×Obj)}{σ:St}{H:Hp}{s s':Shared}
theorem Inv.N2 (I:Inv X pins σ H s):Ad X.prog X.w X.K X.mg X.base X.A X.stack s H :=
 ⟨I.ok.frames,I.ok.mod,I.bs,om I.ok.bsz I.sz,I.stack,I.BG,I.hok,I.bare⟩
theorem Inv.after {Q:VK}{u:Value}(I:Inv X pins σ H s)(h:CE X.stack X.prog X.w H s Q u s'):EP X pins σ Q u s':=by
 obtain⟨v,H',os,bare,un,hok,r,q⟩:=h;obtain⟨hh,g,d,t,os'⟩:=s';obtain rfl:os'=s.os:=os;exact⟨v,H',I.call (h':=hh) (g':=g) (d':=d) (t':=t) (ch:=[]) un hok bare (λb z=>absurd z (by simp)),r,q⟩
end
def V5 (sp:Sp)(dvs:List V)(E:XK)(t:TA):TE:=λσ H Q=>t σ H λvs H1=>sp (vs++dvs) H1 Q E
def PL (C:Addr)(m:Str)(sp:Sp)(dvs:List V)(E:XK)(ta:TE)(t:TA):TE:=λσ H Q=>ta σ H λx H1=>∃a dx fs,x=.ref a/\H1 a=some (.ins C dx fs)/\fs.lookup m=none /\
 t σ H1 λvs H2=>sp (x::(vs++dvs)) H2 Q E
def V6 (C:Addr)(sp:Sp)(dvs:List V)(E:XK)(t:TA):TE:=λσ H Q=>t σ H λvs H1=>∀x dx,H1 x=none->H1 dx=none->dx≠x ->
 sp (.ref x::(vs++dvs)) (upd (upd H1 dx (.own x)) x (.ins C dx [])) (λv H2=>v=.non/\Q (.ref x) H2) E
def Binds (K:ba)(fd:gr)(ps:List Str)(ds:List Value):Prop :=
 ∀(s:Shared) (us:List Value),K.In s.heap->(us++ds).length=ps.length->BindsTo s fd ⟨us,[]⟩ (ps.zip (us++ds))
theorem Binds.all {K:ba}{fd:gr}{ps:List Str}(h:∀us:List Value,us.length=ps.length->bindArgs fd ⟨us,[]⟩=pure (ps.zip us)):Binds K fd ps []:=λs us _ hl=>by
 rw[afb]at hl ⊢;exact .of_eq (h us hl)
def Passes (CX:CXT)(X:Cx)(E:XK):Prop:=∀(pins:List (Addr×Obj)) (σ:St) (H:Hp) (s:Shared) (e:Value) (s':Shared),Inv X pins σ H s->CX X.stack H s E e s'->X.xe e s'
section
variable{X:Cx}{CX:CXT}{k:Nat}{f C:Addr}{fd:gr}{ps:List Str}{sp:Sp}{dvs:List V}{ds:List Value}{E:XK}{x m:Str}{p pos apos:Pos}{e o:Expr}{es:List Expr}{ta:TE}{t:TA}
theorem BN {pins:List (Addr×Obj)}{σ:St}{H:Hp}{s:Shared}{Q:VK}{us:List Value}{vs:List V}(F:ay X.prog X.w X.K X.mg X.base CX k f fd ps sp)(hr:Room k X.A)(hb:Binds X.K fd ps ds)(hd:Vals dvs ds)(hx:Passes CX X E)
  (I:Inv X pins σ H s) (r:Vals vs us) (h:sp (vs++dvs) H Q E):wpAny (model X.prog X.w) X.A (call (.ref f) us) (EP X pins σ Q) X.xe s:=by
 have r2:Vals (vs++dvs) (us++ds):=r.append hd;have hl:(us++ds).length=ps.length:=by rw[<-r2.length];exact F.len _ _ _ _ h
 refine wpAny_call (codeAny_mono (F.run X.A X.stack s H ⟨us,[]⟩ (us++ds) (vs++dvs) Q E hr I.N2 (hb s us I.kIn hl) r2 h) λr s' hq=>?_)
 cases r with
 |error e=>exact hx pins σ H s e s' I hq
 |ok fl =>
  cases fl with
  |ret u=>exact I.after hq
  |next=>exact aea hq
  |brk=>exact aea hq
  |cont=>exact aea hq
theorem bb (F:ay X.prog X.w X.K X.mg X.base CX k f fd ps sp)(hr:Room k X.A)(hg:Gl X x)(hm:X.mg x=some (.ref f))(hk:da X.K (.ref f)=true)(hb:Binds X.K fd ps ds)(hd:Vals dvs ds)(hx:Passes CX X E)
  (ha:PA X (e::es) t) (hdb:(x == ("__debug__":Str))=false:=by decide) (he:si (e::es) X.env=(false,eval e X.env)::si es X.env:=by rfl) (hpl:(backTo pos (si es X.env)).any (·.1)=false:=by rfl) :
  PE X (.Call (.Name x p) (e::es) [] pos) (V5 sp dvs E t):=by
 intro pins s σ H Q I h;refine wpAny_Call_Name_kw (kM I hg hm ?_ hdb);refine afj (h₀:=X.base) I.ok.mod.kin hk (thn (ha pos pins s σ H _ I h) λus s1 ⟨vs,H1,I1,r,q⟩=>⟨I1.kIn,?_⟩) he hpl
 exact BN F hr hb hd hx I1 r q
theorem bQ {pl:Sem Bool}(he:PE X o ta)(c:Cls X.K C)(hm:Meth X.K C m f)(F:ay X.prog X.w X.K X.mg X.base CX k f fd ps sp)(hr:Room k X.A)(hb:Binds X.K fd ps ds)(hd:Vals dvs ds)(hx:Passes CX X E)(ha:PA X (e::es) t)
  (hst:si (e::es) X.env=(false,eval e X.env)::si es X.env:=by rfl) (hpl:(backTo pos (si es X.env)).any (·.1)=false:=by rfl)
  (ht:eval (.Call (.Attribute o m apos) (e::es) [] pos) X.env=(do
   let ov <-eval o X.env
   standAt apos.atName
   let (f,first) <-holding [ov] (getMethod ov m pl)
   callWith pos f first (backTo pos (si (e::es) X.env)) (backToKw pos (keywordEach [] X.env))):=by rfl) :
  PE X (.Call (.Attribute o m apos) (e::es) [] pos) (PL C m sp dvs E ta t):=by
 intro pins s σ H Q I h;refine aeJ (pl:=pl) (thn (he pins s σ H _ I h) λu s1 ⟨x,H1,I1,rx,a,dx,fs,ex,ea,l,q⟩=>?_) ht
 subst ex;obtain rfl:u=sr a:=rx;refine i7 I1 ea c hm l ?_;refine afj (first:=[.ref a]) (h₀:=X.base) I.ok.mod.kin hm.kp (thn (ha pos pins s1 σ H1 _ I1 q) λus s2 ⟨vs,H2,I2,r,q2⟩=>⟨I2.kIn,?_⟩) hst hpl
 exact BN (us:=.ref a::us) (vs:=.ref a::vs) F hr hb hd hx I2 (.cons rfl r) q2
theorem cw {pl:Sem Bool}(he:PE X o ta)(c:Cls X.K C)(hm:Meth X.K C m f)(F:ay X.prog X.w X.K X.mg X.base CX k f fd ps sp)(hr:Room k X.A)(hb:Binds X.K fd ps ds)(hd:Vals dvs ds)(hx:Passes CX X E)
  (ht:eval (.Call (.Attribute o m apos) [] [] pos) X.env=(do
   let ov <-eval o X.env
   standAt apos.atName
   let (f,first) <-holding [ov] (getMethod ov m pl)
   callWith pos f first (backTo pos (si [] X.env)) (backToKw pos (keywordEach [] X.env))):=by rfl) :
  PE X (.Call (.Attribute o m apos) [] [] pos) (PL C m sp dvs E ta V3):=by
 intro pins s σ H Q I h;refine aeJ (pl:=pl) (thn (he pins s σ H _ I h) λu s1 ⟨x,H1,I1,rx,a,dx,fs,ex,ea,l,q⟩=>?_) ht
 subst ex;obtain rfl:u=sr a:=rx;refine i7 I1 ea c hm l ?_;exact PySem.W.callWith_K0 (first:=[.ref a]) I1.kIn hm.kp (BN (us:=[.ref a]) (vs:=[.ref a]) F hr hb hd hx I1 (.cons rfl .nil) q)
structure Mk (K:ba)(C f:Addr):Prop where
 makes:aeA K C=true
 init:bo K (.ref C) "__init__"=some (some (.ref f))
 fn:kq K (.ref f)=true
 kp:da K (.ref C)=true
theorem KW {pins:List (Addr×Obj)}{σ:St}{H:Hp}{s:Shared}{Q:VK}{us:List Value}{vs:List V}(M:Mk X.K C f)(F:ay X.prog X.w X.K X.mg X.base CX k f fd ps sp)(hr:Room (k+1) X.A)(hb:Binds X.K fd ps ds)(hd:Vals dvs ds)
  (hx:Passes CX X E) (I:Inv X pins σ H s) (r:Vals vs us)
  (h:∀x dx,H x=none->H dx=none->dx≠x->sp (.ref x::(vs++dvs)) (upd (upd H dx (.own x)) x (.ins C dx [])) (λv H2=>v=.non/\Q (.ref x) H2) E) :
  wpAny (model X.prog X.w) X.A (call (.ref C) us) (EP X pins σ Q) X.xe s:=by
 have hq:=h (s.heap.objs.size+1) s.heap.objs.size (I.hok.fresh (aeS _)) (I.hok.fresh (kg _)) (ad6 (Nat.lt_succ_self _));have I2:=Inv.made (C:=C) I;have r2:Vals (V.ref (s.heap.objs.size+1)::(vs++dvs)) (sr (s.heap.objs.size+1)::(us++ds)):=.cons rfl (r.append hd);have hl:(sr (s.heap.objs.size+1)::us++ds).length=ps.length:=by
  have e:=r2.length;rw[F.len _ _ _ _ hq]at e;exact e.symm
 refine wpAny_call (KU (f:=f) I.kIn M.makes M.init (beq_iff_eq.mp M.fn) (codeAny_mono (F.run _ X.stack _ _ ⟨sr (s.heap.objs.size+1)::us,[]⟩ (sr (s.heap.objs.size+1)::(us++ds)) _ _ E (hr.make C us [])
  (I2.N2.make C us []) (hb _ (sr (s.heap.objs.size+1)::us) I2.kIn hl) r2 hq) λr s' hq'=>?_))
 cases r with
 |error e=>exact hx pins σ _ _ e s' I2 hq'
 |ok fl =>
  cases fl with
  |ret u =>
   obtain⟨v,H',I3,rv,ev,q3⟩:=I2.after hq';subst ev;exact⟨rv,⟨V.ref (s.heap.objs.size+1),H',I3,rfl,q3⟩⟩
  |next=>exact aea hq'
  |brk=>exact aea hq'
  |cont=>exact aea hq'
theorem gB (M:Mk X.K C f)(F:ay X.prog X.w X.K X.mg X.base CX k f fd ps sp)(hr:Room (k+1) X.A)(hg:Gl X x)(hm:X.mg x=some (.ref C))(hb:Binds X.K fd ps ds)(hd:Vals dvs ds)(hx:Passes CX X E)
  (ha:PA X (e::es) t) (hdb:(x == ("__debug__":Str))=false:=by decide) (he:si (e::es) X.env=(false,eval e X.env)::si es X.env:=by rfl) (hpl:(backTo pos (si es X.env)).any (·.1)=false:=by rfl) :
  PE X (.Call (.Name x p) (e::es) [] pos) (V6 C sp dvs E t):=by
 intro pins s σ H Q I h;refine wpAny_Call_Name_kw (kM I hg hm ?_ hdb);refine afj (h₀:=X.base) I.ok.mod.kin M.kp (thn (ha pos pins s σ H _ I h) λus s1 ⟨vs,H1,I1,r,q⟩=>⟨I1.kIn,?_⟩) he hpl
 exact KW M F hr hb hd hx I1 r q
end
section
variable{X:Cx}{CX:CXT}{k:Nat}{f C:Addr}{fd:gr}{ps ks:List Str}{sp:Sp}{E:XK}{x m:Str}{p pos apos adU:Pos}{e o:Expr}{es:List Expr}{kws:List Keyword}{te ta:TE}{t tk:TA}{nm:Option Str}
structure abB (K:ba)(fd:gr)(ps ks:List Str)(g:List Value->List Value->List Value)(gV:List V->List V->List V):Prop where
 to:∀(s:Shared) (us ws:List Value),K.In s.heap->(g us ws).length=ps.length->BindsTo s fd ⟨us,ks.zip ws⟩ (ps.zip (g us ws))
 rel:∀ {vs:List V} {us:List Value} {zs:List V} {ws:List Value},Vals vs us->Vals zs ws->Vals (gV vs zs) (g us ws)
variable{g:List Value->List Value->List Value}{gV:List V->List V->List V}
end
structure aG (N P:List Str)(sc:Scope):Prop where
 kind:sc.kind=.function
 co:sc.isCoroutine=false
 gen:sc.isGenerator=false
 nd:N.Nodup
 pre:N.take P.length=P
 par:∀x∈P,sc.names.lookup x=some .local\/sc.names.lookup x=some .cell
 Rk:∀y∈sc.names,y.2≠.free
theorem AH {kindOf:Str->Option NameKind}{x:Str}:∀ {binds:List (Str×Value)} {m:Str->Option Value},(∀v,(x,v)∉binds)->bindL kindOf binds m x=m x
 |[],_,_=>rfl
 | (n,v)::r,m,h=>by
  unfold bindL;rw[AH λw hw=>h w (ki _ hw)]
  split
  ·have:x≠n:=by rintro rfl;exact h v fu
   simp[this]
  ·rfl
theorem AI {kindOf:Str->Option NameKind}{x:Str}:∀ {binds:List (Str×Value)} {m:Str->Option Value},(∀v,(x,v)∉binds)->bindC kindOf binds m x=m x
 |[],_,_=>rfl
 | (n,v)::r,m,h=>by
  unfold bindC;rw[AI λw hw=>h w (ki _ hw)]
  split
  ·rfl
  ·have:x≠n:=by rintro rfl;exact h v fu
   simp[this]
theorem AJ {kindOf:Str->Option NameKind}{x:Str}{v:Value}:∀ {P:List Str} {vs:List Value} {i:Nat} {m:Str->Option Value},P.Nodup->P[i]?=some x->vs[i]?=some v->kindOf x=some .local ->
  bindL kindOf (P.zip vs) m x=some v
 |[],_,_,_,_,h,_,_=>by simp at h
 |_::_,[],_,_,_,_,h,_=>by simp at h
 |p::P,w::vs,0,m,nd,h1,h2,hk=>by
  simp at h1 h2;subst h1;subst h2;show bindL kindOf ((p,w)::P.zip vs) m p=_;unfold bindL;rw[AH λv hv=>(List.nodup_cons.mp nd).1 (List.of_mem_zip hv).1,if_pos hk]
  simp
 |p::P,w::vs,i+1,m,nd,h1,h2,hk=>by
  show bindL kindOf ((p,w)::P.zip vs) m x=_;unfold bindL;exact AJ (i:=i) (List.nodup_cons.mp nd).2 (by simpa using h1) (by simpa using h2) hk
theorem AK {kindOf:Str->Option NameKind}{x:Str}{v:Value}:∀ {P:List Str} {vs:List Value} {i:Nat} {m:Str->Option Value},P.Nodup->P[i]?=some x->vs[i]?=some v->kindOf x≠some .local ->
  bindC kindOf (P.zip vs) m x=some v
 |[],_,_,_,_,h,_,_=>by simp at h
 |_::_,[],_,_,_,_,h,_=>by simp at h
 |p::P,w::vs,0,m,nd,h1,h2,hk=>by
  simp at h1 h2;subst h1;subst h2;show bindC kindOf ((p,w)::P.zip vs) m p=_;unfold bindC;rw[AI λv hv=>(List.nodup_cons.mp nd).1 (List.of_mem_zip hv).1,if_neg hk]
  simp
 |p::P,w::vs,i+1,m,nd,h1,h2,hk=>by
  show bindC kindOf ((p,w)::P.zip vs) m x=_;unfold bindC;exact AK (i:=i) (List.nodup_cons.mp nd).2 (by simpa using h1) (by simpa using h2) hk
def start (N:List Str)(vs:List V):St:=vs.map some++List.replicate (N.length - vs.length) none
def tE (CX:CXT)(P:ku)(w:World)(K:ba)(mg:Str->Option Value)(base:Heap)(N:List Str)(qual:Str)(scope:Scope)(f:Addr)(cd:Value)(A:Around)(outer:List Env)(s:Shared)(H:Hp)(E:XK):Cx where
 prog:=P
 w:=w
 K:=K
 mg:=mg
 base:=base
 A:=A.deeper (envOfC qual scope s.heap.objs.size f cd)
 N:=N
 s₀:=s
 H₀:=H
 env:=envOfC qual scope s.heap.objs.size f cd
 outer:=outer
 stack:=envOfC qual scope s.heap.objs.size f cd::outer
 ex:=[]
 calm:=true
 fn:=λ_=>true
 pn:=[]
 xe:=λe s'=>wpAny (model P w) (A.deeper (envOfC qual scope s.heap.objs.size f cd)) (leaving (envOfC qual scope s.heap.objs.size f cd) e) (λ_ s''=>CX outer H s E e s'') (λe' s''=>CX outer H s E e' s'') s'
theorem C7 {sc:Scope}{n:Nat}{x:Str}(h:sc.names.lookup x=some .cell):∃c,(cellsFrom n sc.names []).lookup x=some c:=by
 have q:=PySem.W.cellsFrom_some sc.names n [] (.inl h);exact Option.isSome_iff_exists.mp q
theorem Jw {CX:CXT}{P:ku}{w:World}{K:ba}{mg:Str->Option Value}{base:Heap}{N ps:List Str}{qual:Str}{scope:Scope}{f:Addr}{cd:Value}{A:Around}{outer:List Env}{s s1:Shared}{H:Hp}{E:XK}{us:List Value}{vs:List V}
  (S:aG N ps scope) (hd:A.handled=none) (e0:Ad P w K mg base A outer s H) (hl:vs.length=ps.length) (r:Vals vs us)
  (x:InCallC s s.heap.objs.size (bindL (envOfC qual scope s.heap.objs.size f cd).kindOf (ps.zip us) λ_=>none) (cellsFrom (s.heap.objs.size+1) scope.names []) (bindC (envOfC qual scope s.heap.objs.size f cd).kindOf (ps.zip us) λ_=>none) s1) :
  Inv (tE CX P w K mg base N qual scope f cd A outer s H E) [] (start N vs) H s1:=by
 have hpl:ps.length<=N.length:=by have:=congrArg List.length S.pre;rw[aeu]at this;omega
 obtain⟨h1,tk,rfl,hk⟩:=x.done;have noA:∀b:Addr,b∉(tE CX P w K mg base N qual scope f cd A outer s H E).ex:=λb z=>absurd (show b∈([]:List Addr) from z) (by simp)
 refine⟨⟨e0.mod,S.kind,rfl,rfl,kg _,λy z c h1 h2=>?_,λy hy=>?_,λy c _ h=>?_,λ_=>hd,Around.frames_deeper e0.frames,.inr ⟨rfl,rfl⟩,λb z=>absurd z (noA b),e0.bs,e0.bsz,λb _ _=>noA b,λb z=>absurd z (noA b),e0.rY,e0.frf⟩,
  rfl,e0.bare,Un.kept hk,⟨_,x.toInCall.ns,λi y v h1 h2 h3=>?_⟩,λy c h=>⟨_,x.cell y c h⟩,e0.hok.fresh (kg _),λy c h=>?_,λp hp=>absurd (show p∈([]:List (Addr×Obj)) from hp) (by simp),e0.hok.kept hk,?_⟩
 ·exact name_of_addr x.apart (aeQ h1) (aeQ h2)
 ·have hy:scope.names.lookup y=some .cell\/scope.names.lookup y=some .free:=hy;rcases hy with hy | hy
  ·exact C7 hy
  ·exact absurd rfl (S.Rk _ (aeQ hy))
 ·exact Nat.le_of_lt (x.above y c (aeQ h))
 ·have hi:i < vs.length:=by
   unfold start at h2
   by_cases hi:i < vs.length
   ·exact hi
   ·rw[List.getElem?_append_right (by simpa using hi)]at h2
    rw[List.getElem?_replicate]at h2;split at h2 <;> cases h2
  have ha:vs[i]?=some v:=by
   unfold start at h2;rw[List.getElem?_append_left (by simpa using hi),aeD]at h2
   cases e:vs[i]? with
   |none=>rw[e]at h2;cases h2
   |some a=>rw[e]at h2;cases h2;rfl
  obtain⟨u,hu,rv⟩:=r.get ha;have hp:ps[i]?=some y:=by
   rw[<-S.pre,List.getElem?_take_of_lt (by omega)];exact h1
  have ndP:ps.Nodup:=by rw[<-S.pre];exact S.nd.sublist (List.take_sublist _ _)
  refine⟨u,rv,?_⟩;rcases S.par y (aei hp) with k | k
  ·exact .inl ⟨k,AJ ndP hp hu k⟩
  ·obtain⟨c,e⟩:=C7 (n:=s.heap.objs.size+1) k;refine .inr ⟨.inl k,c,e,?_⟩;have q:=x.cell y c e;rw[AK ndP hp hu (by show scope.names.lookup y≠_;rw[k];decide)]at q
   exact q
 ·exact e0.hok.fresh (Nat.le_of_lt (x.above y c (aeQ h)))
 ·unfold start;show _=N.length;rw[kr,cb,List.length_replicate];omega
theorem PM {CX:CXT}{P:ku}{w:World}{K:ba}{mg:Str->Option Value}{base:Heap}{k:Nat}{f:Addr}{name qual:Str}{params:Arguments}{body:List Stmt}{scope:Scope}{dV kV doc pm cdv ct oc:Value}{an od:Option Addr}
  {osl:Array (Option Value)} {N ps:List Str} {sp:Sp} (lk:K.lookup f=some ⟨oc,od,.func (fe name qual params body scope dV kV doc pm an cdv ct),osl⟩) (hcd:di K cdv qual=true) (S:aG N ps scope)
  (len:∀vs H Q E,sp vs H Q E->vs.length=ps.length)
  (C8:∀(A:Around) (outer:List Env) (s:Shared) (H:Hp) (vs:List V) (Q:VK) (E:XK),Room k (A.deeper (envOfC qual scope s.heap.objs.size f cdv))->sp vs H Q E ->
   ∃t,PSs (tE CX P w K mg base N qual scope f cdv A outer s H E) body t/\t { nx:=λ_ H'=>Q .non H',rt:=Q } (start N vs) H) :
  ay P w K mg base CX (k+1) f (fe name qual params body scope dV kV doc pm an cdv ct) ps sp:=by
 refine⟨len,λA outer s H args us vs Q E hr e0 hb r hsp=>?_⟩
 have hl:=len _ _ _ _ hsp;have KX:K.In s.heap:=e0.mod.kin.keeps λb o e=>(e0.bs b o e).1
 have lim:s.heap.NoLimit:=e0.mod.nolimit.keeps λb o e=>(e0.bs b o e).1
 have V7:∀y∈ps.zip us,scope.names.lookup y.1=some .local\/(scope.names.lookup y.1=some .cell/\((cellsFrom (s.heap.objs.size+1) scope.names []).lookup y.1).isSome=true):=λ⟨n,v⟩ hy=>by
  rcases S.par n (List.of_mem_zip hy).1 with q | q
  ·exact .inl q
  ·exact .inr ⟨q,PySem.W.cellsFrom_some _ _ _ (.inl q)⟩
 refine codeAny_call_function hr.depth (KX _ _ lk) rfl S.co S.gen rfl (PySem.W.codeRec_of KX hcd) (hb _ _ _ _ ?_);refine wpAny_newFunctionEnv_cells S.kind V7 λenv he s1 x=>?_
 subst he;refine⟨lim.keeps x.toInCall.keep,codeAny_func ?_⟩;obtain⟨t,ht,hq⟩:=C8 A outer s H vs Q E (hr.deeper _) hsp;have I:Inv (tE CX P w K mg base N qual scope f cdv A outer s H E) [] (start N vs) H s1:=Jw S hr.hd e0 hl r x;refine adm (ht [] s1 (start N vs) H _ I hq) (λfl s' hs=>?_) λe s' hs=>hs
 have fin:∀ {σ':St} {H':Hp} {v:V} {u:Value},Inv (tE CX P w K mg base N qual scope f cdv A outer s H E) [] σ' H' s'->RelV v u->Q v H'->CE outer P w H s Q u s' :=
  λ{σ' H' v u} J rv q=>⟨v,H',J.os,J.bare,J.base,J.hok,rv,q⟩
 cases fl with
 |ret u =>
  obtain⟨v,σ',H',J,rv,q⟩:=hs;exact fin J rv q
 |next =>
  obtain⟨σ',H',J,q⟩:=hs;exact fin (v:=V.non) (u:=afe) J rfl q
 |brk =>
  obtain⟨_,_,_,q⟩:=hs;exact aea q
 |cont =>
  obtain⟨_,_,_,q⟩:=hs;exact aea q
end L2
namespace L2
open PySem PySem.Spec PyProof.Rows
section
variable{X:Cx}{x:Str}{p pos:Pos}{e:Expr}{es:List Expr}{t:TA}{id T:String}{r:List V->Hp->VK->Prop}
def tCB (r:List V->Hp->VK->Prop)(t:TA):TE:=λσ H Q=>t σ H λvs H1=>r vs H1 Q
theorem nr (hc:mw X (.builtin id) r)(hg:Gl X x)(hm:X.mg x=none)(hv:bootBuiltins x=some (.builtin id))(ha:PA X (e::es) t)(hn:x≠"__name__":=by decide)(hdb:(x == ("__debug__":Str))=false:=by decide)
  (he:si (e::es) X.env=(false,eval e X.env)::si es X.env:=by rfl) (hpl:(backTo pos (si es X.env)).any (·.1)=false:=by rfl):PE X (.Call (.Name x p) (e::es) [] pos) (tCB r t):=by
 intro pins s σ H Q I h;refine wpAny_Call_Name_kw (FX I hg hm hv ?_ hn hdb);exact PyProof.Rows.callWith_builtin1 (thn (ha pos pins s σ H _ I h) λus s1 ⟨vs,H1,I1,r1,q1⟩=>hc pins s1 σ H1 vs us Q I1 r1 q1) he hpl
theorem gC (hc:mw X (.type T) r)(hg:Gl X x)(hm:X.mg x=none)(hv:bootBuiltins x=some (.type T))(ha:PA X (e::es) t)(hn:x≠"__name__":=by decide)(hdb:(x == ("__debug__":Str))=false:=by decide)
  (he:si (e::es) X.env=(false,eval e X.env)::si es X.env:=by rfl) (hpl:(backTo pos (si es X.env)).any (·.1)=false:=by rfl):PE X (.Call (.Name x p) (e::es) [] pos) (tCB r t):=by
 intro pins s σ H Q I h;refine wpAny_Call_Name_kw (FX I hg hm hv ?_ hn hdb);exact PyProof.Rows.callWith_type1 (thn (ha pos pins s σ H _ I h) λus s1 ⟨vs,H1,I1,r1,q1⟩=>hc pins s1 σ H1 vs us Q I1 r1 q1) he hpl
end
end L2
namespace HT
open PySem PyProof.Rows
section
open PySem.SeqAt
open PySem.AutoSeq1 (wpAny_loadPart')
open PySem.MeetsSeq PySem.MeetsSeq2 PySem.MeetsSeq3
end
section
variable{prog:ku}{w:World}{A:Around}{E:Value->Shared->Prop}{s:Shared}
def sIx (n d:Nat):Option Int->Nat
 |none=>d
 |some v=>if v < 0 then (v+(n:Int)).toNat else min v.toNat n
theorem KY (n d:Nat):sIx n d none=d:=rfl
theorem xX (n d k:Nat):sIx n d (some (k:Int))=min k n:=by
 show (if (k:Int) < 0 then ((k:Int)+(n:Int)).toNat else min (k:Int).toNat n)=min k n
 rw[if_neg (by omega),aeP]
theorem Rm (n d:Nat)(hd:d<=n)(o:Option Int):sIx n d o<=n:=by
 cases o with
 |none=>exact hd
 |some v =>
  show (if v < 0 then (v+(n:Int)).toNat else min v.toNat n)<=n
  by_cases hv:v < 0
  ·rw[if_pos hv];omega
  ·rw[if_neg hv];exact Nat.min_le_right _ _
theorem Iy (v:Int)(n d:Nat):(if v < 0 then max (v+(n:Int)) 0 else min v (n:Int))=((sIx n d (some v):Nat):Int):=by
 show (if v < 0 then max (v+(n:Int)) 0 else min v (n:Int))=(((if v < 0 then (v+(n:Int)).toNat else min v.toNat n):Nat):Int)
 by_cases hv:v < 0
 ·simp only[if_pos hv];omega
 ·simp only[if_neg hv];omega
theorem F8 (lo hi:Option Int)(n:Nat):Builtin.Slice.sliceAdjust lo hi 1 (n:Int)=(((sIx n 0 lo:Nat):Int),((sIx n n hi:Nat):Int)):=by
 have h1:¬((1:Int) < 0):=by omega
 unfold Builtin.Slice.sliceAdjust;simp only[h1,if_false];refine Prod.ext ?_ ?_
 ·cases lo with
  |none=>rfl
  |some v=>exact Iy v n 0
 ·cases hi with
  |none=>rfl
  |some v=>exact Iy v n n
theorem F9 (i j:Nat):afa (i:Int) (j:Int) 1=j - i:=by
 unfold afa;have h1:(1:Int) > 0:=by omega
 simp only[h1,if_true,Int.ediv_one];split <;> omega
theorem yx {v:Value}{o:Option Int}{Q:Option Int->Shared->Prop}(p:IsPart v o)(h:Q o s):wpAny (model prog w) A (Builtin.Slice.slicePartIndex v) Q E s:=by
 cases p with
 |none=>exact slicePart_none h
 |int i t=>exact slicePart_int h
theorem uO {sl:Addr}{vl vu:Value}{lo hi:Option Int}{n:Nat}{Q:Int×Int×Nat->Shared->Prop}(hs:s.heap.IsSliceOf sl vl vu .none)(pl:IsPart vl lo)(pu:IsPart vu hi)
  (h:Q (((sIx n 0 lo:Nat):Int),1,sIx n n hi - sIx n 0 lo) s):wpAny (model prog w) A (Builtin.Slice.sliceApplied (.ref sl) (pure (n:Int))) Q E s:=by
 obtain⟨os,hos,hcs,hds⟩:=id hs;unfold Builtin.Slice.sliceApplied Builtin.Slice.sliceFields;refine de (de (wpAny_field hos hds (x:=vl) rfl (de (wpAny_field hos hds (x:=vu) rfl (de (wpAny_field hos hds (x:=.none) rfl (ma ?_)))))));refine de (slicePart_none ?_);show wpAny _ _ (if ((1:Int) == 0)=true then _ else _) _ _ s
 rw[if_neg (by decide)]
 refine de (yx pl (de (yx pu (de (ma ?_)))));show wpAny _ _ (match Builtin.Slice.sliceAdjust lo hi 1 (n:Int) with | (lo,hi)=>pure (lo,(1:Int),afa lo hi 1)) _ _ s
 rw[F8 lo hi n];show wpAny _ _ (pure (((sIx n 0 lo:Nat):Int),(1:Int),afa ((sIx n 0 lo:Nat):Int) ((sIx n n hi:Nat):Int) 1)) _ _ s;rw[F9];exact ma h
theorem KZ (xs:Array Value)(i k:Nat):((List.range k).filterMap λ(m:Nat)=>xs[((i:Int)+(m:Int) * 1).toNat]?).toArray=((xs.toList.drop i).take k).toArray:=by
 have e:(λ(m:Nat)=>xs[((i:Int)+(m:Int) * 1).toNat]?)=λm=>xs[i+m]?:=by
  funext m
  have:((i:Int)+(m:Int) * 1).toNat=i+m:=by omega
  rw[this]
 rw[e];have:=pick_run xs i k;rw[List.filterMap_map]at this;have e2:((λx=>xs[x]?)∘λx=>i+x)=λm=>xs[i+m]?:=rfl
 rw[e2]at this;rw[this]
theorem tF {t sl:Addr}{items:Array Value}{vl vu:Value}{lo hi:Option Int}{Q:Value->Shared->Prop}(ht:IsTup s.heap t items)(hs:s.heap.IsSliceOf sl vl vu .none)(pl:IsPart vl lo)(pu:IsPart vu hi)
  (hw:¬(sIx items.size 0 lo=0/\sIx items.size items.size hi=items.size))
  (h:Q (.ref s.heap.objs.size) { s with heap:=s.heap.push { cls:=.type "tuple",data:=.seq ((items.toList.drop (sIx items.size 0 lo)).take (sIx items.size items.size hi - sIx items.size 0 lo)).toArray } })
  (hsz:items.size<=gp):wpAny (model prog w) A (getItem (.ref t) (.ref sl)) Q E s:=by
 have Iz:sizeOk (.seq ((items.toList.drop (sIx items.size 0 lo)).take (sIx items.size items.size hi - sIx items.size 0 lo)).toArray):=by
  show ((items.toList.drop (sIx items.size 0 lo)).take (sIx items.size items.size hi - sIx items.size 0 lo)).toArray.size<=gp;rw[ko,aeu,ae6,afg];omega
 have hj:sIx items.size items.size hi<=items.size:=Rm _ _ (kg _) hi;obtain⟨os,hos,hcs,hds⟩:=id hs;have hTs:s.TypeIs (.ref sl) "slice":=⟨os,hos,hcs⟩;unfold getItem
 try with_reducible refine aeH ?_
 first | refine de (ma ?_) | skip
 refine de (wpAny_sequenceKey ht.typeIs (by decide) ?_)
 refine de (wpAny_callSpecial?_slot (name:=ar "__getitem__") ht.typeIs PyProof.Rows.slot_tuple_getitem
  (wpAny_call_entry PyProof.Rows.slot_tuple_getitem ht.typeIs entry_tuple_getitem ?_ (args_tuple_getitem _ _)))
 show wpAny _ _ (Builtin.Tuple.tupleItemsOf (.ref t) >>= _) _ _ s;refine de (tupleItemsOf_ ht ?_);refine de (wpAny_typeOf hTs ?_);rw[if_pos (by decide)]
 refine de (uO hs pl pu ?_);have hno:¬((((sIx items.size 0 lo:Nat):Int) == 0 && (1:Int) == 1 && (sIx items.size items.size hi - sIx items.size 0 lo) == items.size)=true):=by
  intro q;rw[aeI,aeI]at q;have q1:((sIx items.size 0 lo:Nat):Int)=0:=eq_of_beq q.1.1;have q2:sIx items.size items.size hi - sIx items.size 0 lo=items.size:=eq_of_beq q.2;exact hw ⟨by omega,by omega⟩
 show wpAny _ _ (if (((sIx items.size 0 lo:Nat):Int) == 0 && (1:Int) == 1 && (sIx items.size items.size hi - sIx items.size 0 lo) == items.size)=true then _ else _) _ _ s
 rw[if_neg hno,KZ]
 first
  |exact de (m:=aff _) (wpAny_newObj_type (ma ⟨_,rfl,ma h⟩) Iz)
  |exact de (m:=aff _) (wpAny_newObj_type (de (ma (ma ⟨_,rfl,ma h⟩))) Iz)
  |exact de (de (m:=aff _) (wpAny_newObj_type (ma (ma ⟨_,rfl,ma h⟩)) Iz))
  |exact de (de (m:=aff _) (wpAny_newObj_type (ma ⟨_,rfl,ma h⟩) Iz))
end
end HT
namespace L2
open PySem PySem.Spec PyProof.Rows
abbrev TO:=St->Hp->(Option Int->Hp->Prop)->Prop
def PO (X:Cx)(e:Option Expr)(t:TO):Prop :=
 ∀(pins:List (Addr×Obj)) (s:Shared) (σ:St) (H:Hp) (Q:Option Int->Hp->Prop),Inv X pins σ H s->t σ H Q ->
  wpAny (model X.prog X.w) X.A (evalPart e X.env) (λu s'=>∃o H',Inv X pins σ H' s'/\IsPart u o/\Q o H') X.xe s
def N4:TO:=λ_ H Q=>Q none H
def V8 (t:TE):TO:=λσ H Q=>t σ H λx H1=>∃i,x=.int i/\Q (some i) H1
section
variable{X:Cx}{e:Expr}{te:TE}{lo hi:Option Expr}{tl th:TO}{pos p2:Pos}
theorem N6:PO X none N4:=by
 intro pins s σ H Q I h;rw[evalPart_none];exact ma ⟨none,H,I,.none,h⟩
theorem BO (h:PE X e te):PO X (some e) (V8 te):=by
 intro pins s σ H Q I hw;rw[evalPart_some];refine thn (h pins s σ H _ I hw) λu s1 ⟨x,H1,I1,r1,q1⟩=>?_
 obtain⟨i,rfl,q⟩:=q1;obtain⟨t,rfl⟩:=r1;exact⟨some i,H1,I1,.int i t,q⟩
def SlR (X:Cx)(r:V->Option Int->Option Int->Hp->VK->Prop):Prop :=
 ∀(pins:List (Addr×Obj)) (s:Shared) (σ:St) (H:Hp) (x:V) (v vl vu:Value) (lo hi:Option Int) (sl:Addr) (Q:VK),Inv X pins σ H s->RelV x v->s.heap.IsSliceOf sl vl vu .none->IsPart vl lo->IsPart vu hi->r x lo hi H Q ->
  ∃T id,typeLookup (.type T) "__getitem__"=pure (some (.builtin id))/\s.TypeIs v T/\wpAny (model X.prog X.w) X.A (getItem v (.ref sl)) (EP X pins σ Q) X.xe s
theorem SlR.or {r r':V->Option Int->Option Int->Hp->VK->Prop}(h:SlR X r)(h':SlR X r'):SlR X (λx lo hi H Q=>r x lo hi H Q\/r' x lo hi H Q):=by
 intro pins s σ H x v vl vu lo hi sl Q I rx hs pl pu q;rcases q with q | q
 ·exact h pins s σ H x v vl vu lo hi sl Q I rx hs pl pu q
 ·exact h' pins s σ H x v vl vu lo hi sl Q I rx hs pl pu q
def tSl (r:V->Option Int->Option Int->Hp->VK->Prop)(te:TE)(tl th:TO):TE:=λσ H Q=>te σ H λx H1=>tl σ H1 λl H2=>th σ H2 λu H3=>r x l u H3 Q
theorem C9 {r:V->Option Int->Option Int->Hp->VK->Prop}(hr:SlR X r)(he:PE X e te)(hl:PO X lo tl)(hu:PO X hi th):PE X (.Subscript e (.Slice lo hi none p2) pos) (tSl r te tl th):=by
 intro pins s σ H Q I h;refine Subscript_ (thn (he pins s σ H _ I h) λv s1 ⟨x,H1,I1,r1,q1⟩=>?_)
 refine wpAny_Slice (thn (hl pins s1 σ H1 _ I1 q1) λvl s2 ⟨l,H2,I2,pl,q2⟩=>thn (hu pins s2 σ H2 _ I2 q2) λvu s3 ⟨u,H3,I3,pu,q3⟩=>?_)
 rw[evalPart_none];refine ma ?_;have I4:Inv X pins σ H3 { s3 with heap:=s3.heap.push { cls:=.type "slice",data:=.fields #[vl,vu,.none] } }:=I3.kept (t':=s3.toks) λb ob q=>gc _ q
 obtain⟨T,id,hT,ht,hg⟩:=hr pins { s3 with heap:=s3.heap.push { cls:=.type "slice",data:=.fields #[vl,vu,.none] } } σ H3 x v vl vu l u s3.heap.objs.size Q I4 r1 (Heap.IsSliceOf.new ..) pl pu q3
 show wpAny (model X.prog X.w) X.A (subscriptTail e (.Slice lo hi none p2) v (.ref s3.heap.objs.size)) (EP X pins σ Q) X.xe { s3 with heap:=s3.heap.push { cls:=.type "slice",data:=.fields #[vl,vu,.none] } }
 exact tail_any (ops:=[.ref s3.heap.objs.size,v]) ht hT hg (by with_unfolding_all rfl)
def pL (xs:List V)(lo hi:Option Int):List V:=(xs.drop (HT.sIx xs.length 0 lo)).take (HT.sIx xs.length xs.length hi - HT.sIx xs.length 0 lo)
theorem vP (xs:List V)(lo hi:Option Int):(pL xs lo hi).length<=xs.length:=by
 unfold pL;rw[aeu,ae6];omega
def abC (K:ba):V->Option Int->Option Int->Hp->VK->Prop:=λx lo hi H Q=>∃a xs,x=.ref a/\SqT K H a xs /\
 ¬(HT.sIx xs.length 0 lo=0/\HT.sIx xs.length xs.length hi=xs.length)/\∀p,H p=none->Q (.ref p) (upd H p (.tup (pL xs lo hi)))
theorem Rn:SlR X (abC X.K):=by
 intro pins s σ H x v vl vu lo hi sl Q I rx hs pl pu h;obtain⟨a,xs,rfl,hx,hw,q⟩:=h;cases rx;obtain⟨its,r,ht,hz⟩:=I.tuple hx;have hlen:its.toArray.size=xs.length:=by rw[ko];exact r.length.symm
 refine⟨"tuple",_,PyProof.Rows.slot_tuple_getitem.lookup,ht.typeIs,?_⟩;refine HT.tF ht hs pl pu (by rw[hlen];exact hw) ?_ (by rw[hlen];exact hz)
 rw[hlen];refine⟨.ref s.heap.objs.size,_,I.laid (t':=s.toks) (o:=.tup (pL xs lo hi)) (λb ob q=>gc _ q) (kg _) ?_,rfl,q _ (I.hok.fresh (kg _))⟩
 exact⟨om (vP xs lo hi) hz,_,(r.drop (HT.sIx xs.length 0 lo)).take (HT.sIx xs.length xs.length hi - HT.sIx xs.length 0 lo),IsTup.new _ _⟩
end
end L2
namespace L2
open PySem PySem.Spec PyProof.Rows
def ixN (n:Nat)(i:Int):Option Nat:=if 0<=i then (if i < n then some i.toNat else none) else if -(n:Int)<=i then some (i+n).toNat else none
def atI {α:Type}(xs:List α)(i:Int):Option α:=(ixN xs.length i).bind λj=>xs[j]?
theorem BP {n:Nat}{i:Int}{j:Nat}(h:ixN n i=some j):seqIndex? i n=some j/\j < n/\-(n:Int)<=i/\i < n:=by
 unfold ixN at h
 by_cases h0:0<=i
 ·rw[if_pos h0]at h
  by_cases h1:i < n
  ·rw[if_pos h1]at h;have e:i.toNat=j:=ad8 h;exact⟨by rw[seqIndex_of h0 h1,e],by omega,by omega,h1⟩
  ·rw[if_neg h1]at h;cases h
 ·rw[if_neg h0]at h
  by_cases h1:-(n:Int)<=i
  ·rw[if_pos h1]at h;have e:(i+n).toNat=j:=ad8 h;exact⟨by rw[seqIndex_neg (by omega) h1,e],by omega,h1,by omega⟩
  ·rw[if_neg h1]at h;cases h
theorem BQ {α:Type}{xs:List α}{i:Int}{v:α}(h:atI xs i=some v):∃j,seqIndex? i xs.length=some j/\xs[j]?=some v/\j < xs.length/\-(xs.length:Int)<=i/\i < xs.length:=by
 unfold atI at h;cases e:ixN xs.length i with
 |none=>rw[e]at h;cases h
 |some j =>
  rw[e]at h;obtain⟨h1,h2,h3,h4⟩:=BP e;exact⟨j,h1,h,h2,h3,h4⟩
theorem oq {α:Type}{xs:List α}{j:Nat}{v:α}(h:xs[j]?=some v):atI xs (j:Int)=some v:=by
 have hj:j < xs.length:=(List.getElem?_eq_some_iff.mp h).1;have e:ixN xs.length (j:Int)=some j:=by
  unfold ixN;rw[if_pos (by omega),if_pos (by omega)];simp
 unfold atI;rw[e];exact h
theorem yy {α:Type}(xs:List α)(v:α):atI (xs++[v]) (-1)=some v:=by
 have hl:(xs++[v]).length=xs.length+1:=by simp
 have e:ixN (xs++[v]).length (-1)=some xs.length:=by
  unfold ixN;rw[hl,if_neg (by decide),if_pos (by omega)]
  congr 1
  omega
 unfold atI;rw[e];show (xs++[v])[xs.length]?=some v;simp
def N7 (b:Expr):Prop:=∀o i,subscripted b false o i=operate [o,i] (getItem o i)
def IxR (X:Cx)(r:R2):Prop :=
 ∀(value slice:Expr) (pins:List (Addr×Obj)) (s:Shared) (σ:St) (H:Hp) (x y:V) (v u:Value) (Q:VK),Inv X pins σ H s->RelV x v->RelV y u->r x y H Q ->
  subscripted slice false v u=operate [v,u] (getItem v u)->wpAny (model X.prog X.w) X.A (subscriptTail value slice v u) (EP X pins σ Q) X.xe s
def MtR (X:Cx)(id:String)(r:V->List V->Hp->VK->Prop):Prop :=
 ∀(pins:List (Addr×Obj)) (s:Shared) (σ:St) (H:Hp) (x:V) (xs:List V) (v:Value) (us:List Value) (Q:VK),Inv X pins σ H s->RelV x v->Vals xs us->r x xs H Q ->
  wpAny (model X.prog X.w) X.A (call (.builtin id) (v::us)) (EP X pins σ Q) X.xe s
section
variable{X:Cx}{a b:Expr}{ta tb:TE}{pos:Pos}
theorem IxR.or {r r':R2}(h:IxR X r)(h':IxR X r'):IxR X (λx y H Q=>r x y H Q\/r' x y H Q):=by
 intro value slice pins s σ H x y v u Q I rx ry q hs;rcases q with q | q
 ·exact h value slice pins s σ H x y v u Q I rx ry q hs
 ·exact h' value slice pins s σ H x y v u Q I rx ry q hs
theorem MtR.or {id:String}{r r':V->List V->Hp->VK->Prop}(h:MtR X id r)(h':MtR X id r'):MtR X id (λx xs H Q=>r x xs H Q\/r' x xs H Q):=by
 intro pins s σ H x xs v us Q I rx rs q;rcases q with q | q
 ·exact h pins s σ H x xs v us Q I rx rs q
 ·exact h' pins s σ H x xs v us Q I rx rs q
theorem bp {r:R2}(hr:IxR X r)(ha:PE X a ta)(hb:PE X b tb)(hs:N7 b):PE X (.Subscript a b pos) (tOp r ta tb):=by
 intro pins s σ H Q I h;exact Subscript_ (Rf ha hb I h λv u s2 x y H2 I2 rx ry q=>hr a b pins s2 σ H2 x y v u Q I2 rx ry q (hs _ _))
def V9 (K:ba):R2:=λx y H Q=>∃p xs i v,x=.ref p/\y=.int i/\SqL K H p xs/\atI xs i=some v/\Q v H
def Wa (K:ba):R2:=λx y H Q=>∃p xs i v,x=.ref p/\y=.int i/\SqT K H p xs/\atI xs i=some v/\Q v H
def Wb:R2:=λx y H Q=>∃z i c,x=.str z/\y=.int i/\z.length<=gp/\atI z.cps.toList i=some c/\Q (.str ⟨#[c]⟩) H
theorem iH:IxR X (V9 X.K):=by
 intro value slice pins s σ H x y v u Q I rx ry h hs;obtain⟨p,xs,i,z,rfl,rfl,hq,he,q⟩:=h;cases rx;obtain⟨t,rfl⟩:=ry;obtain⟨its,r,pl,hz⟩:=I.list hq;obtain⟨j,h1,h2,h3,h4,h5⟩:=BQ he;obtain⟨w,ew,rw'⟩:=r.get h2;have hl:=r.length;have hn:=uM;have fin:EP X pins σ Q w s:=⟨z,H,I,rw',q⟩
 by_cases h0:0<=i
 ·have hj:i.toNat=j:=by
   rw[seqIndex_of h0 h5]at h1;exact ad8 h1
  exact item_listR pl.isList h0 (by omega) (by rw[hj];simpa using ew) fin hs
 ·have hj:(i+(its.toArray.size:Int)).toNat=j:=by
   rw[seqIndex_neg (by omega) h4]at h1
   rw[ko,<-hl];exact ad8 h1
  exact subscriptTail_builtinR (x:=w) pl.isList.typeIs slot_list_getitem.lookup
   (wpAny_getItem_list_neg (Q:=λr s'=>r=w/\EP X pins σ Q r s') pl.isList (by omega) (by rw[ko] <;> omega) (by omega) (by rw[hj];simpa using ew) ⟨rfl,fin⟩) hs
theorem bf:IxR X (Wa X.K):=by
 intro value slice pins s σ H x y v u Q I rx ry h hs;obtain⟨p,xs,i,z,rfl,rfl,hq,he,q⟩:=h;cases rx;obtain⟨t,rfl⟩:=ry;obtain⟨its,r,pl,hz⟩:=I.tuple hq;obtain⟨j,h1,h2,h3,h4,h5⟩:=BQ he;obtain⟨w,ew,rw'⟩:=r.get h2;have hl:=r.length;have hn:=uM;have fin:EP X pins σ Q w s:=⟨z,H,I,rw',q⟩;exact subscriptTail_builtinR (x:=w) pl.typeIs slot_tuple_getitem.lookup
  (getItem_tuple (j:=j) (Q:=λr s'=>r=w/\EP X pins σ Q r s') pl (by omega) (by omega) (by rw[ko,<-hl];exact h1) (by simpa using ew) ⟨rfl,fin⟩) hs
theorem Ga:IxR X Wb:=by
 intro value slice pins s σ H x y v u Q I rx ry h hs;obtain⟨z,i,c,rfl,rfl,hz,he,q⟩:=h;obtain⟨t,rfl⟩:=rx;obtain⟨t',rfl⟩:=ry;obtain⟨j,h1,h2,h3,h4,h5⟩:=BQ he;have hl:z.cps.toList.length=z.length:=by simp[Str.length]
 rw[hl]at h1 h4 h5;have hn:=uM;exact tail_any (typeIs_str s z t) slot_str_getitem.lookup (getItem_str (c:=c) (by
  have e1:decide (i < -(2 ^ 63:Int))=false:=decide_eq_false (by omega)
  have e2:decide (i≥2 ^ 63)=false:=decide_eq_false (by omega)
  rw[e1,e2,Bool.or_false]) (by rw[h1];simpa using h2) ⟨.str ⟨#[c]⟩,H,I.tok _,⟨_,rfl⟩,q⟩) hs
def rIx (K:ba):R2:=λx y H Q=>V9 K x y H Q\/Wa K x y H Q\/Wb x y H Q
theorem Rp:IxR X (rIx X.K):=iH.or (bf.or Ga)
theorem Gb (its:List Value)(n j:Nat)(u:Value):Obj.mapSeq (·.setIfInBounds j u) { cls:=.type "list",data:=.seq its.toArray n }={ cls:=.type "list",data:=.seq (its.set j u).toArray n }:=by
 simp[Obj.mapSeq]
theorem Inv.lst {pins:List (Addr×Obj)}{σ:St}{H:Hp}{s:Shared}{p:Addr}{xs:List V}(I:Inv X pins σ H s)(h:H p=some (.lst xs)) :
  ∃(its:List Value) (n:Nat),Vals xs its/\s.heap.get? p=some { cls:=.type "list",data:=.seq its.toArray n }/\xs.length<=gp:=by
 obtain⟨z,its,n,r,e⟩:=I.hok p _ h;exact⟨its,n,r,e,z⟩
theorem Inv.Rq {pins:List (Addr×Obj)}{σ:St}{H:Hp}{s:Shared}{p:Addr}{xs ys:List V}{its its':List Value}{n n':Nat}{f:Obj->Obj}(I:Inv X pins σ H s)(h:H p=some (.lst xs))
  (ho:s.heap.get? p=some { cls:=.type "list",data:=.seq its.toArray n }) (hf:f { cls:=.type "list",data:=.seq its.toArray n }={ cls:=.type "list",data:=.seq its'.toArray n' }) (r:Vals ys its') (hz:ys.length<=gp) (t:Nat) :
  Inv X pins σ (upd H p (.lst ys)) { s with heap:=s.heap.update p f,toks:=t }:=by
 have e:(s.heap.update p f).get? p=some { cls:=.type "list",data:=.seq its'.toArray n' }:=by
  rw[aeV f ho (by rw[hf] <;> rfl),hf]
 refine I.write (x:=p) (e:=p) (by rw[h];trivial) (.inl rfl) (λb u hb q=>(aez _ _ (ad9 hb)).trans q) ⟨_,e⟩ ?_
 exact⟨hz,its',n',r,e⟩
def Wc:V->V->V->Hp->(Hp->Prop)->Prop:=λo i v H Q=>∃p xs k j,o=.ref p/\i=.int k/\H p=some (.lst xs)/\ixN xs.length k=some j/\Q (upd H p (.lst (xs.set j v)))
theorem set_list:VV X Wc:=by
 intro pins s σ H o i v ov iv u Q I ro ri rv h;obtain⟨p,xs,k,j,rfl,rfl,hp,hj,q⟩:=h;cases ro;obtain⟨t,rfl⟩:=ri;obtain⟨its,n,r,ho,hz⟩:=I.lst hp;obtain⟨h1,h2,h3,h4⟩:=BP hj;have hl:=r.length;have hn:=uM;have I':Inv X pins σ (upd H p (.lst (xs.set j v))) { s with heap:=s.heap.update p (Obj.mapSeq (·.setIfInBounds j u)) } :=
  I.Rq hp ho (Gb its n j u) (r.set rv j) (by rw[aeT];exact hz) s.toks
 by_cases h0:0<=k
 ·have hk:k.toNat=j:=by
   rw[seqIndex_of h0 h4]at h1;exact ad8 h1
  exact PySem.W.ki_setAt ho h0 (by omega) (by rw[ko,<-hl];exact h4) (by rw[hk];exact⟨_,I',q⟩)
 ·have hk:(k+(its.toArray.size:Int)).toNat=j:=by
   rw[seqIndex_neg (by omega) h3]at h1
   rw[ko,<-hl];exact ad8 h1
  exact PySem.W.ki_setBack ho (by omega) (by rw[ko,<-hl];exact h3) (by omega) (by rw[hk];exact⟨_,I',q⟩)
theorem BR (lo hi:Option Int)(n:Nat):(sliceBounds lo hi none n).1=((HT.sIx n 0 lo:Nat):Int)/\(sliceBounds lo hi none n).2.1=((HT.sIx n n hi:Nat):Int)/\(sliceBounds lo hi none n).2.2=1:=by
 refine⟨?_,?_,rfl⟩
 ·cases lo with
  |none=>simp[sliceBounds,HT.sIx]
  |some i =>
   simp only[sliceBounds,HT.sIx,Option.getD_none,show (1:Int) > 0 by decide,if_true]
   by_cases h:i < 0
   ·simp only[h,if_true] <;> omega
   ·simp only[h,if_false] <;> omega
 ·cases hi with
  |none=>simp[sliceBounds,HT.sIx]
  |some i =>
   simp only[sliceBounds,HT.sIx,Option.getD_none,show (1:Int) > 0 by decide,if_true]
   by_cases h:i < 0
   ·simp only[h,if_true] <;> omega
   ·simp only[h,if_false] <;> omega
theorem Ae (its:List Value)(lo hi:Option Int):slicePick its.toArray lo hi none=((its.drop (HT.sIx its.length 0 lo)).take (HT.sIx its.length its.length hi - HT.sIx its.length 0 lo)).toArray:=by
 obtain⟨h1,h2,h3⟩:=BR lo hi its.toArray.size;unfold slicePick;rw[h1,h2,h3];simp only[sliceRange_one,pick_run,ko] <;> rfl
def abD (K:ba):V->Option Int->Option Int->Hp->VK->Prop:=λx lo hi H Q=>∃a xs,x=.ref a/\SqL K H a xs/\∀p,H p=none->Q (.ref p) (upd H p (.lst (pL xs lo hi)))
theorem N8:SlR X (abD X.K):=by
 intro pins s σ H x v vl vu lo hi sl Q I rx hs pl pu h;obtain⟨a,xs,rfl,hx,q⟩:=h;cases rx;obtain⟨its,r,ht,hz⟩:=I.list hx;have hlen:=r.length;refine⟨"list",_,slot_list_getitem.lookup,ht.isList.typeIs,?_⟩;refine wpAny_getItem_list_slice ht.isList hs pl pu .none (by simp) ?_ (by rw[ko] <;> omega)
 rw[Ae,<-hlen];refine⟨.ref s.heap.objs.size,_,I.laid (t':=s.toks) (o:=.lst (pL xs lo hi)) (λb ob q=>gc _ q) (kg _) ?_,rfl,q _ (I.hok.fresh (kg _))⟩
 exact⟨om (vP xs lo hi) hz,_,0,(r.drop (HT.sIx xs.length 0 lo)).take (HT.sIx xs.length xs.length hi - HT.sIx xs.length 0 lo),ad3 _ rfl⟩
def vQ:V->Bool
 | .non=>true
 | .bl _=>true
 | .int _=>true
 | .str _=>true
 |_=>false
def eqV:V->V->Bool
 | .non,.non=>true
 | .bl a,.bl b=>a == b
 | .bl a,.int b=>(if a then 1 else 0) == b
 | .int a,.bl b=>a == (if b then 1 else 0)
 | .int a,.int b=>a == b
 | .str a,.str b=>a == b
 |_,_=>false
theorem Rr {A:Around}{s:Shared}{y x:V}{u v:Value}(ry:RelV y u)(rx:RelV x v)(fy:vQ y=true)(fx:vQ x=true):SeqAt.EqAt A s u v (eqV y x):=by
 cases y with
 |non =>
  cases ry;cases x with
  |non=>cases rx;exact SeqAt.EqAt.same _
  |bl b=>cases rx;exact SeqAt.EqAt.none_bool b
  |int b=>obtain⟨t,rfl⟩:=rx;exact SeqAt.EqAt.none_int b t
  |str b=>obtain⟨t,rfl⟩:=rx;exact SeqAt.EqAt.none_str b t
  |_=>exact absurd (show false=true from fx) kj
 |bl a =>
  cases ry;cases x with
  |non=>cases rx;exact SeqAt.EqAt.bool_none a
  |bl b=>cases rx;exact SeqAt.EqAt.bool_bool a b
  |int b=>obtain⟨t,rfl⟩:=rx;exact SeqAt.EqAt.bool_int a b t
  |str b=>obtain⟨t,rfl⟩:=rx;exact SeqAt.EqAt.bool_str a b t
  |_=>exact absurd (show false=true from fx) kj
 |int a =>
  obtain⟨t',rfl⟩:=ry;cases x with
  |non=>cases rx;exact SeqAt.EqAt.int_none a t'
  |bl b=>cases rx;exact SeqAt.EqAt.int_bool a t' b
  |int b=>obtain⟨t,rfl⟩:=rx;exact SeqAt.EqAt.int_int a t' b t
  |str b=>obtain⟨t,rfl⟩:=rx;exact SeqAt.EqAt.int_str a t' b t
  |_=>exact absurd (show false=true from fx) kj
 |str a =>
  obtain⟨t',rfl⟩:=ry;cases x with
  |non=>cases rx;exact SeqAt.EqAt.str_none a t'
  |bl b=>cases rx;exact SeqAt.EqAt.str_bool a t' b
  |int b=>obtain⟨t,rfl⟩:=rx;exact SeqAt.EqAt.str_int a t' b t
  |str b=>obtain⟨t,rfl⟩:=rx;exact SeqAt.EqAt.str_str a t' b t
  |_=>exact absurd (show false=true from fx) kj
 |_=>exact absurd (show false=true from fy) kj
def eqU (x:V)(u:Value):Bool:=match u with
 | .none=>eqV .non x
 | .bool b=>eqV (.bl b) x
 | .int i _=>eqV (.int i) x
 | .str z _=>eqV (.str z) x
 |_=>false
theorem K0 {x y:V}{u:Value}(r:RelV y u)(f:vQ y=true):eqU x u=eqV y x:=by
 cases y with
 |non=>cases r;rfl
 |bl b=>cases r;rfl
 |int i=>obtain⟨t,rfl⟩:=r;rfl
 |str z=>obtain⟨t,rfl⟩:=r;rfl
 |_=>exact absurd (show false=true from f) kj
theorem BS {x:V}:∀ {xs:List V} {us:List Value},Vals xs us->xs.all vQ=true->us.any (eqU x)=xs.any λy=>eqV y x
 |_,_,.nil,_=>rfl
 |y::xs,u::us,.cons r t,f=>by
  rw[List.all_cons,aeI]at f;rw[List.any_cons,List.any_cons,K0 r f.1,BS t f.2]
theorem yz {A:Around}{s:Shared}{x:V}{v:Value}(rx:RelV x v)(fx:vQ x=true):∀ {xs:List V} {us:List Value},Vals xs us->xs.all vQ=true->∀u∈us,SeqAt.EqAt A s u v (eqU x u)
 |_,_,.nil,_=>λu hu=>by cases hu
 |y::xs,u::us,.cons r t,f=>λu' hu=>by
  rw[List.all_cons,aeI]at f;rcases List.mem_cons.mp hu with rfl | hu
  ·rw[K0 r f.1];exact Rr r rx f.1 fx
  ·exact yz rx fx t f.2 u' hu
def inV (x:V)(xs:List V):Bool:=xs.any λy=>eqV y x
def rIn (K:ba)(neg:Bool):R2:=λx y H Q=>∃p xs,y=.ref p/\(SqL K H p xs\/SqT K H p xs)/\vQ x=true/\xs.all vQ=true/\Q (.bl (if neg then !inV x xs else inV x xs)) H
theorem Jx:OpR X (aeZ .In) (rIn X.K false):=by
 intro pins s σ H x y v u Q I rx ry h;obtain⟨p,xs,rfl,hq,fx,fs,q⟩:=h;cases ry;rcases hq with hq | hq
 ·obtain⟨its,r,pl,hz⟩:=I.list hq;refine SeqAt.in_listAt (eqU x) pl.isList (λw hw=>yz rx fx r fs w (by simpa using hw)) ⟨.bl _,H,I,rfl,?_⟩
  rw[show its.toArray.any (eqU x)=its.any (eqU x) by simp,BS r fs]
  exact q
 ·obtain⟨its,r,pl,hz⟩:=I.tuple hq;refine SeqAt.in_tupleAt (eqU x) pl (λw hw=>yz rx fx r fs w (by simpa using hw)) ⟨.bl _,H,I,rfl,?_⟩
  rw[show its.toArray.any (eqU x)=its.any (eqU x) by simp,BS r fs]
  exact q
theorem tG:mw X (.builtin "len") (λxs H Q=>∃p ys,xs=[.ref p]/\(SqL X.K H p ys\/SqT X.K H p ys)/\Q (.int ys.length) H):=by
 intro pins s σ H xs us Q I r h;obtain⟨p,ys,rfl,hq,q⟩:=h;obtain⟨u,rfl,rx⟩:=vals1 r;cases rx;have hn:=uM;rcases hq with hq | hq
 ·obtain⟨its,r',pl,hz⟩:=I.list hq;have hlen:=r'.length;exact Calls.call_len_list pl.isList (by simp only[ko] <;> omega) ⟨.int ys.length,H,I.tok _,⟨s.toks+1,by rw[ko,hlen]⟩,q⟩
 ·obtain⟨its,r',pl,hz⟩:=I.tuple hq;have hlen:=r'.length;exact len_tuple pl (by simp only[ko] <;> omega) ⟨.int ys.length,H,I.tok _,⟨s.toks+1,by rw[ko,hlen]⟩,q⟩
theorem mw.or {f:Value}{r r':List V->Hp->VK->Prop}(h:mw X f r)(h':mw X f r'):mw X f (λxs H Q=>r xs H Q\/r' xs H Q):=by
 intro pins s σ H xs us Q I rs q;rcases q with q | q
 ·exact h pins s σ H xs us Q I rs q
 ·exact h' pins s σ H xs us Q I rs q
theorem eY:mw X (.type "list") (λxs H Q=>∃p ys,xs=[.ref p]/\(SqL X.K H p ys\/SqT X.K H p ys)/\∀l,H l=none->Q (.ref l) (upd H l (.lst ys))):=by
 intro pins s σ H xs us Q I r h;obtain⟨p,ys,rfl,hq,q⟩:=h;obtain⟨u,rfl,rx⟩:=vals1 r;cases rx;have fin:∀(its:List Value),Vals ys its->ys.length<=gp->∀(h':Heap) (c':Nat),(∀b o',s.heap.get? b=some o'->h'.get? b=some o') ->
   h'.get? s.heap.objs.size=some { cls:=.type "list",dict:=none,data:=.seq its.toArray c',slots:=#[] }->EP X pins σ Q (.ref s.heap.objs.size) { s with heap:=h' }:=λits r' hz h' c' kp e =>
  ⟨.ref s.heap.objs.size,_,I.laid (t':=s.toks) kp (kg _) (show eU X.prog X.w _ h' _ (.lst ys) from ⟨hz,its,c',r',e⟩),rfl,q _ (I.hok.fresh (kg _))⟩
 rcases hq with hq | hq
 ·obtain⟨its,r',pl,hz⟩:=I.list hq;have hlen:=r'.length;obtain⟨o,ho,hc,n,hd⟩:=pl.isList;exact call_list_seq p (.inl rfl) ho hc hd (λh' c' kp e=>fin its r' hz h' c' kp e) (by simp only[ko] <;> omega)
 ·obtain⟨its,r',pl,hz⟩:=I.tuple hq;have hlen:=r'.length;obtain⟨o,ho,hc,n,hd⟩:=pl;exact call_list_seq p (.inr rfl) ho hc hd (λh' c' kp e=>fin its r' hz h' c' kp e) (by simp only[ko] <;> omega)
def tyV (K:ba)(T:String)(x:V)(H:Hp):Prop:=match x with
 | .str _=>T="str"
 | .int _=>T="int"
 | .ref p=>(T="list"/\∃xs,SqL K H p xs)\/(T="tuple"/\∃o,K.lookup p=some o/\o.cls=.type "tuple"/\o.dict=none) \/
   (T="dict"/\((∃kvs,H p=some (.dK kvs))\/∃kvs,H p=some (.dT kvs)))\/(T="set"/\∃S n,H p=some (.set S n))
 |_=>False
theorem K1 {pins:List (Addr×Obj)}{σ:St}{H:Hp}{s:Shared}{T:String}{x:V}{v:Value}(I:Inv X pins σ H s)(r:RelV x v)(ty:tyV X.K T x H) :
  s.TypeIs v T/\∀a,v=.ref a->∃ob,s.heap.get? a=some ob/\ob.dict=none:=by
 cases x with
 |str z =>
  obtain⟨t,rfl⟩:=r;cases (show T="str" from ty)
  exact⟨typeIs_str s z t,λ_ e=>nomatch e⟩
 |int i =>
  obtain⟨t,rfl⟩:=r;cases (show T="int" from ty)
  exact⟨typeIs_int s i t,λ_ e=>nomatch e⟩
 |ref p =>
  cases r;rcases ty with ⟨rfl,xs,hq⟩ | ⟨rfl,o,hk,hc,hd⟩ | ⟨rfl,hk⟩ | ⟨rfl,S,n,hk⟩
  ·obtain⟨its,_,pl,_⟩:=I.list hq;refine⟨pl.isList.typeIs,λa e=>?_⟩
   cases e;obtain⟨o,n,e,c,hd,_⟩:=pl;exact⟨o,e,hd⟩
  ·refine⟨⟨o,I.kIn p o hk,hc⟩,λa e=>?_⟩
   cases e;exact⟨o,I.kIn _ o hk,hd⟩
  ·have z:∃o,s.heap.get? p=some o/\o.ExactDict:=by
    rcases hk with ⟨kvs,hk⟩ | ⟨kvs,hk⟩
    ·obtain⟨_,_,_,_,o,_,_,e,ex,_⟩:=I.hok p _ hk;exact⟨o,e,ex⟩
    ·obtain⟨_,_,_,_,o,_,_,e,ex,_⟩:=I.hok p _ hk;exact⟨o,e,ex⟩
   obtain⟨o,e,ex⟩:=z;refine⟨⟨o,e,ex.1⟩,λa e2=>?_⟩
   cases e2;exact⟨o,e,ex.2.1⟩
  ·obtain⟨o,_,_,_,e,ex,_⟩:=I.hok p _ hk;refine⟨⟨o,e,ex.1⟩,λa e2=>?_⟩
   cases e2;exact⟨o,e,ex.2.1⟩
 |_=>exact aea ty
def abE (K:ba)(T:String)(r:V->List V->Hp->VK->Prop)(to:TE):TE:=λσ H Q=>to σ H λx H1=>tyV K T x H1/\r x [] H1 Q
def tBM (K:ba)(T:String)(r:V->List V->Hp->VK->Prop)(to:TE)(t:TA):TE:=λσ H Q=>to σ H λx H1=>tyV K T x H1/\t σ H1 λxs H2=>r x xs H2 Q
variable{o e:Expr}{es:List Expr}{to:TE}{t:TA}{name:Str}{apos gb:Pos}{T id:String}{r:V->List V->Hp->VK->Prop}
theorem Rt (pa:PlainAttrs T)(slot:Slot T name id)(hty:typeOf (.builtin id)=pure (.type "method_descriptor"))(hm:MtR X id r)(ho:PE X o to)
  (Dc:attributeBase o name X.env (eval o X.env)=eval o X.env:=by rfl) (K2:(apos.endLine == gb.line)=true:=by rfl):PE X (.Call (.Attribute o name apos) [] [] gb) (abE X.K T r to):=by
 intro pins s σ H Q I h;refine wpAny_Call_method0_late Dc K2 (thn (ho pins s σ H _ I h) λv s1 ⟨x,H1,I1,r1,ty,q1⟩=>?_)
 obtain⟨h1,h2⟩:=K1 I1 r1 ty;exact⟨T,id,pa,slot,hty,h1,h2,Calls.callWith_builtin rfl (PySem.evalArgs_none (hm pins s1 σ H1 x [] v [] Q I1 r1 .nil q1))⟩
theorem lA (pa:PlainAttrs T)(slot:Slot T name id)(hty:typeOf (.builtin id)=pure (.type "method_descriptor"))(hm:MtR X id r)(ho:PE X o to)(ha:PA X (e::es) t)
  (Dc:attributeBase o name X.env (eval o X.env)=eval o X.env:=by rfl)
  (abF:((backTo gb (si (e::es) X.env)).all (λx=>!x.1) && (backToKw gb (keywordEach [] X.env)).all (λx=>x.1.isSome)
   && decide ((e::es).length+([]:List Keyword).length+(if ([]:List Keyword).isEmpty then 0 else 1) < 30))=true:=by rfl)
  (K2:(apos.endLine == gb.line)=true:=by rfl) (hs:si (e::es) X.env=(false,eval e X.env)::si es X.env:=by rfl) (Ru:(backTo gb (si es X.env)).any (·.1)=false:=by rfl) :
  PE X (.Call (.Attribute o name apos) (e::es) [] gb) (tBM X.K T r to t):=by
 intro pins s σ H Q I h;refine wpAny_Call_method_late Dc abF K2 rfl (thn (ho pins s σ H _ I h) λv s1 ⟨x,H1,I1,r1,ty,q1⟩=>?_)
 obtain⟨h1,h2⟩:=K1 I1 r1 ty;refine⟨T,id,pa,slot,hty,h1,h2,?_⟩;have hA:=ha gb pins s1 σ H1 _ I1 q1;rw[hs]at hA ⊢;refine Calls.callWith_builtin (by show (false || (backTo gb (si es X.env)).any (·.1))=false;rw[Ru] <;> rfl) (Calls.evalArgs_plain ?_)
 exact thn hA λus s2 ⟨vs,H2,I2,r2,q2⟩=>hm pins s2 σ H2 x vs v us Q I2 r1 r2 q2
end
end L2
namespace L2
open PySem PySem.Spec PyProof.Rows
def MtM (X:Cx)(id:String)(r:V->List V->Hp->VK->Prop):Prop :=
 ∀(pins:List (Addr×Obj)) (s:Shared) (σ:St) (H:Hp) (x:V) (xs:List V) (v:Value) (us:List Value) (Q:VK),Inv X pins σ H s->RelV x v->Vals xs us->r x xs H Q ->
  wpAny (model X.prog X.w) X.A (call (.builtin id) (v::us)) (EP X pins σ Q) X.xe s
theorem Vals.one:∀ {x:V} {us:List Value},Vals [x] us->∃u,us=[u]/\RelV x u
 |_,_,.cons r .nil=>⟨_,rfl,r⟩
theorem Vals.two:∀ {x y:V} {us:List Value},Vals [x,y] us->∃u v,us=[u,v]/\RelV x u/\RelV y v
 |_,_,_,.cons r (.cons q .nil)=>⟨_,_,rfl,r,q⟩
theorem Vals.zero:∀ {us:List Value},Vals [] us->us=[]
 |_,.nil=>rfl
theorem Vals.dropLast {xs:List V}{us:List Value}(h:Vals xs us):Vals xs.dropLast us.dropLast:=by
 induction h with
 |nil=>exact .nil
 |cons r t ih =>
  cases t with
  |nil=>exact .nil
  |cons q t'=>exact .cons r ih
theorem Vals.eraseIdx:∀ {xs:List V} {us:List Value} (i:Nat),Vals xs us->Vals (xs.eraseIdx i) (us.eraseIdx i)
 |_,_,_,.nil=>.nil
 |_,_,0,.cons _ t=>t
 |_,_,i+1,.cons r t=>.cons r (Vals.eraseIdx i t)
theorem Vals.rep {xs:List V}{us:List Value}(h:Vals xs us):∀k:Nat,Vals (List.replicate k xs).flatten (List.replicate k us).flatten
 | 0=>.nil
 |k+1=>by
  rw[List.replicate_succ,List.replicate_succ,List.flatten_cons,List.flatten_cons];exact Vals.append h (Vals.rep h k)
theorem Gd {α:Type}(l:List α):l.eraseIdx (l.length - 1)=l.dropLast:=by
 induction l with
 |nil=>rfl
 |cons a r ih =>
  cases r with
  |nil=>rfl
  |cons b r =>
   have e:(a::b::r).length - 1=((b::r).length - 1)+1:=by
    have h1:(a::b::r).length=r.length+2:=rfl;have h2:(b::r).length=r.length+1:=rfl;omega
   rw[e,List.eraseIdx_cons_succ,ih]
   all_goals rfl
theorem AL {α:Type}:∀(l:List α) (i:Nat),(l.eraseIdx i).length<=l.length
 |[],_=>kg _
 |_::_,0=>aeS _
 |_::r,i+1=>Nat.succ_le_succ (AL r i)
section
variable{X:Cx}{pins:List (Addr×Obj)}{σ:St}{H:Hp}{s:Shared}{l b:Addr}{xs ys zs:List V}
theorem Inv.K4 {its its':List Value}{n:Nat}{f:Array Value->Array Value}{t':Nat}(I:Inv X pins σ H s)(hH:H l=some (.lst xs))
  (e:s.heap.get? l=some { cls:=.type "list",data:=.seq its.toArray n }) (hf:f its.toArray=its'.toArray) (hv:Vals ys its') (hz:ys.length<=gp) :
  Inv X pins σ (upd H l (.lst ys)) { s with heap:=s.heap.update l (Obj.mapSeq f),toks:=t' }:=by
 have q:=PySem.IsL.update e f;rw[hf]at q;refine I.write (x:=l) (e:=l) (by rw[hH];exact trivial) (.inl rfl) (λb' u hb hu=>(aez s.heap (Obj.mapSeq f) (ad9 hb)).trans hu) ⟨_,q⟩ ?_
 exact⟨hz,its',_,hv,q⟩
theorem Inv.We {its:List Value}{t':Nat}(I:Inv X pins σ H s)(hv:Vals ys its)(hz:ys.length<=gp) :
  Inv X pins σ (upd H s.heap.objs.size (.lst ys)) { s with heap:=s.heap.push { cls:=.type "list",data:=.seq its.toArray },toks:=t' } :=
 I.laid (λ_ _ q=>gc _ q) (kg _) ⟨hz,its,0,hv,ad3 _ rfl⟩
theorem Inv.fresh (I:Inv X pins σ H s):H s.heap.objs.size=none:=I.hok.fresh (kg _)
theorem Inv.De (I:Inv X pins σ H s)(hH:H l=some (.lst xs)):xs.length<=gp/\∃(its:List Value) (n:Nat),Vals xs its/\xs.length=its.length/\s.heap.get? l=some { cls:=.type "list",data:=.seq its.toArray n }:=by
 obtain⟨z,its,n,r,e⟩:=I.hok l _ hH;exact⟨z,its,n,r,r.length,e⟩
theorem K5 {n:Nat}(h:n<=gp):Builtin.List.listTooLong n=false:=by
 unfold Builtin.List.listTooLong;exact decide_eq_false (by omega)
end
section
variable{X:Cx}
def N9:V->List V->Hp->VK->Prop:=λx vs H Q=>∃l xs y,x=.ref l/\vs=[y]/\H l=some (.lst xs)/\xs.length < gp/\Q .non (upd H l (.lst (xs++[y])))
theorem gD:MtM X "list.append" N9:=by
 intro pins s σ H x vs v us Q I rx rv h;obtain⟨l,xs,y,rfl,rfl,hH,hz,q⟩:=h;cases rx;obtain⟨u,rfl,ru⟩:=rv.one;obtain⟨z,its,n,r,hl,e⟩:=I.De hH;refine call_meets F.slot_list_append ⟨_,e,rfl⟩ F.entry_list_append (F.args_list_append_2 _ _) (PySem.list_append l its.toArray n u (by rw[ko];omega)) ⟨e,?_⟩
 refine⟨.non,_,I.K4 (its':=its++[u]) hH e (by simp) (r.append (.cons ru .nil)) ?_,rfl,q⟩
 rw[kr,ad4];omega
def Oa:V->List V->Hp->VK->Prop:=λx vs H Q=>∃l b xs zs,x=.ref l/\vs=[.ref b]/\H l=some (.lst xs)/\H b=some (.lst zs)/\xs.length+zs.length<=gp/\Q .non (upd H l (.lst (xs++zs)))
theorem AM:MtM X "list.extend" Oa:=by
 intro pins s σ H x vs v us Q I rx rv h;obtain⟨l,b,xs,zs,rfl,rfl,hH,hB,hz,q⟩:=h;cases rx;obtain⟨u,rfl,ru⟩:=rv.one;cases ru;obtain⟨z,its,n,r,hl,e⟩:=I.De hH;obtain⟨z2,Ge,n2,r2,hl2,e2⟩:=I.De hB;have hsz:its.toArray.size+Ge.toArray.size<=gp:=by rw[ko,ko];omega
 have Wf:¬(!its.toArray.isEmpty && Builtin.List.listTooLong (its.toArray.size+Ge.toArray.size))=true:=by
  rw[K5 hsz,Bool.and_false];exact kj
 refine call_meets F.slot_list_extend ⟨_,e,rfl⟩ F.entry_list_extend (F.args_list_extend_2 _ _)
  (AutoSeq1.list_extend_list_list_0 l its.toArray n b Ge.toArray n2 Wf (by rw[ko];omega) (by omega)) ⟨e,e2,?_⟩
 refine⟨.non,_,I.K4 (its':=its++Ge) hH e (by simp) (r.append r2) ?_,rfl,q⟩
 rw[kr];omega
def abG:V->List V->Hp->VK->Prop:=λx vs H Q=>∃l xs y,x=.ref l/\vs=[]/\H l=some (.lst xs)/\xs[xs.length - 1]?=some y/\Q y (upd H l (.lst xs.dropLast))
theorem Rv:MtM X "list.pop" abG:=by
 intro pins s σ H x vs v us Q I rx rv h;obtain⟨l,xs,y,rfl,rfl,hH,hy,q⟩:=h;cases rx;have hus:=rv.zero;subst hus;obtain⟨z,its,n,r,hl,e⟩:=I.De hH;obtain⟨u,hu,ru⟩:=r.get hy;have hy':its.toArray[its.toArray.size - 1]?=some u:=by
  show its.toArray[its.length - 1]?=some u;rw[<-Array.getElem?_toList,<-hl];exact hu
 refine call_meets F.slot_list_pop ⟨_,e,rfl⟩ F.entry_list_pop (F.args_list_pop_1 _) (MeetsSeq.list_pop_last l its.toArray n u hy' (by rw[ko];omega)) ⟨e,?_⟩
 refine⟨y,_,I.K4 (its':=its.dropLast) hH e ?_ r.dropLast ?_,ru,q⟩
 ·show its.toArray.eraseIdxIfInBounds (its.toArray.size - 1)=its.dropLast.toArray;rw[ko,List.eraseIdxIfInBounds_toArray,Gd]
 ·rw[List.length_dropLast];omega
def Rw:V->List V->Hp->VK->Prop:=λx vs H Q=>∃l xs i k y,x=.ref l/\vs=[.int i]/\H l=some (.lst xs)/\-(2 ^ 63)<=i/\i < 2 ^ 63/\seqIndex? i xs.length=some k/\xs[k]?=some y/\Q y (upd H l (.lst (xs.eraseIdx k)))
theorem K6:MtM X "list.pop" Rw:=by
 intro pins s σ H x vs v us Q I rx rv h;obtain⟨l,xs,i,k,y,rfl,rfl,hH,h1,h2,hk,hy,q⟩:=h;cases rx;obtain⟨u,rfl,ru⟩:=rv.one;obtain⟨t,rfl⟩:=ru;obtain⟨z,its,n,r,hl,e⟩:=I.De hH;obtain⟨w,hw,rw'⟩:=r.get hy;refine call_meets F.slot_list_pop ⟨_,e,rfl⟩ F.entry_list_pop (F.args_list_pop_2 _ _)
  (MeetsSeq.list_pop_at l its.toArray n i t k w (fitsIndex_both h1 h2) (by rw[ko,<-hl];exact hk) (by rw[<-Array.getElem?_toList];exact hw) (by rw[ko];omega)) ⟨e,?_⟩
 refine⟨y,_,I.K4 (its':=its.eraseIdx k) hH e ?_ (r.eraseIdx k) ?_,rw',q⟩
 ·show its.toArray.eraseIdxIfInBounds k=(its.eraseIdx k).toArray;rw[List.eraseIdxIfInBounds_toArray]
 ·have:=AL xs k;omega
def abH:R2:=λx y H Q=>∃l b xs zs,x=.ref l/\y=.ref b/\H l=some (.lst xs)/\H b=some (.lst zs)/\xs.length+zs.length<=gp/\∀p,H p=none->Q (.ref p) (upd H p (.lst (xs++zs)))
theorem Rx:OpR X (binaryOp .Add) abH:=by
 intro pins s σ H x y v u Q I rx ry h;obtain⟨l,b,xs,zs,rfl,rfl,hH,hB,hz,q⟩:=h;cases rx;cases ry;obtain⟨z,its,n,r,hl,e⟩:=I.De hH;obtain⟨z2,Ge,n2,r2,hl2,e2⟩:=I.De hB;refine PySem.P.add_list e e2 ?_ (by rw[ko,ko];omega)
 have ea:its.toArray++Ge.toArray=(its++Ge).toArray:=by simp
 rw[ea];exact⟨.ref _,_,I.We (t':=s.toks) (r.append r2) (by rw[kr];omega),rfl,q _ I.fresh⟩
end
end L2
namespace Att
open PySem PySem.W PySem.Calls PyProof.Rows
theorem wz {P:Params}{h:Heap}:∀(ns:List Int) (vs:List Value),WellAll P h vs (ns.map WData.int)->IntsAre vs ns:=by
 intro ns
 induction ns with
 |nil =>
  intro vs w;rw[aeE]at w;cases w;exact .nil
 |cons n ns ih =>
  intro vs w;rw[kc]at w;cases w with
  |cons a b =>
   cases a;exact .cons _ _ (ih _ b)
theorem Jy {l:OpenLaw}{n:Nat}(hn:l.most=some n){P:Params}{h:Heap}{args:List WData}{vals:List Value}
  (Ob:l.row.toRowW.claim.pre args=true) (hwl:WellAll P h vals args) :
  ∃a vs ns,vals=[sr a]/\args=[WData.list (ns.map WData.int)]/\h.get? a=some { cls:=.type "list",data:=.seq vs.toArray }/\IntsAre vs ns/\ns.length<=n:=by
 have hsh:WShape.hasAll [] args [.list .int]=true:=(pre_splitW Ob).1;have hc:l.pre.holds [] { args:=args }=true:=(pre_splitW Ob).2;obtain⟨d,r,rfl,h1,h2⟩:=hasAllW_cons hsh;obtain rfl:=hasAllW_nil h2;obtain⟨xs,rfl,h3⟩:=hasW_list h1;obtain⟨ns,rfl⟩:=items_int h3;have hlen:ns.length<=n:=by
  unfold OpenLaw.pre at hc;have h4:(WTm.not (.lt (.lit (.int (n:Int))) (.len (.arg 0)))).holds [] { args:=[.list (ns.map .int)] }=true:=by
   have h4:=(holds_andW hc).1;rw[hn]at h4;exact h4
  have h5:=condW_of h4 (w_not (w_lt w_lit (w_len_list (w_arg rfl))));rw[cb]at h5;refine Nat.le_of_not_lt λq=>?_
  have q':(n:Int) < ((ns.length:Nat):Int):=by omega
  first
   | (rw[decide_eq_true q']at h5;exact absurd h5 (by decide))
   | (simp at h5;omega)
 cases hwl with
 |cons w1 w2 =>
  cases w2;cases w1 with
  |list ho abI=>exact⟨_,_,ns,rfl,rfl,ho,wz ns _ abI,hlen⟩
theorem Jz (l:OpenLaw)(args:List WData):l.row.toRowW.claim.post args (.bool true) args=true :=
 postW_of (r:=l.row.toRowW) (X:=(true == true))
  (show WShape.has [] (.bool true) .bool=true by first | rfl | decide | simp[WShape.has,WShape.arms,WShape.armsAll])
  (show (WTm.eq .res (.lit (.bool true))).value [] { args:=args,res:=some (.bool true),after:=args }=some (.bool (true == true)) from w_eq_bool (w_res rfl) w_lit) rfl
theorem Df {l:OpenLaw}{n:Nat}{q:ku}{loose:List Str}{XP:(Str->Option Value)->Heap->Prop}{YP:World->Heap->Prop}{d:DefRec}
  (hn:l.most=some n) (hdf:d.params.defaults=[])
  (call:∀(w:World) (s₀ s₁:Shared) (mg mb:Str->Option Value) (fa:Addr) (o:Obj) (pm cd doc:Value) (a:Addr) (vs:List Value) (ns:List Int),
   Ground q loose [] XP w s₀ mg mb s₁.heap->YP w s₁.heap ->
   s₁.heap.get? fa=some o->o.data=.func (docDef d.name d.params d.body d.scope pm cd doc)->s₁.heap.CodeRec cd d.name->mg d.name=some (.ref fa) ->
   s₁.heap.get? a=some { cls:=.type "list",data:=.seq vs.toArray }->IntsAre vs ns->ns.length<=n->s₁.gens=#[] ->
   codeAny (model l.prog w) callerA (.call (.ref fa) ⟨[.ref a],[]⟩) (λr s'=>r=.ok (.ret (.bool true))/\OldK s₁.heap s'.heap/\s'.os=s₁.os/\AllBare s'.gens) s₁) :
  WalkO q loose XP YP l.row.toRowW d [] (λf vs=>PySem.call f vs):=by
 intro w s₀ s₁ mg mb G Y fa o pm cd doc dV kV ho hd hcd hD hmg hg args vals as Ob adV hrd hwl hlo;obtain rfl:dV=.none:=Dflts.none hD hdf;obtain rfl:kV=.none:=Dflts.noKw hD;obtain⟨a,vs,ns,rfl,rfl,Ry,hints,hlen⟩:=Jy hn Ob hwl;refine enter_call (codeAny_mono (call w s₀ s₁ mg mb fa o pm cd doc a vs ns G Y ho (fd_plain hd) hcd hmg Ry hints hlen hg) λr s' hq=>?_)
 obtain⟨rfl,h2,h3,h4⟩:=hq;exact⟨.inl ⟨.bool true,.bool true,[],rfl,λ_=>rfl,.bool true,Jz l _,λ_=>⟨List.Pairwise.nil,λ_ hm=>(nomatch hm)⟩⟩,h2,h3,h4⟩
section
variable{prog:ku}{w:World}{A:Around}{E:Value->Shared->Prop}{s:Shared}{K:Frag}
def ledger (h:Heap)(L d:Addr):List (Addr×Obj):=(List.range h.objs.size).filterMap λa=>if a=L\/a=d then none else (h.get? a).map λo=>(a,o)
end
end Att
namespace L2
open PySem PySem.Spec PyProof.Rows
theorem AN:∀ {vs:List Value} {ns:List Int},IntsAre vs ns->Vals (ns.map V.int) vs
 |_,_,.nil=>.nil
 |_,_,.cons n t h=>.cons ⟨t,rfl⟩ (AN h)
def Rz (H:Hp):Prop:=∀b,H b=none\/∃o xs,H b=some (.frz o (.lst xs))
theorem K7 {P:ku}{w:World}{K:ba}{mg mb:Str->Option Value}{CX:CXT}{k:Nat}{fa a:Addr}{fd:gr}{x:Str}{sp:Sp}{s₁:Shared}{vs:List Value}{ns:List Int}
  (KX:K.In s₁.heap) (hns:s₁.heap.Ns gn mg) (hb:s₁.heap.Ns builtinsNs mb) (hbb:∀x:Str,x≠"__name__"->mb x=bootBuiltins x) (abJ:s₁.heap.NoLimit) (hg:s₁.gens=#[])
  (ha:s₁.heap.get? a=some { cls:=.type "list",data:=.seq vs.toArray }) (hi:IntsAre vs ns) (hl:ns.length<=gp) (hr:Room k callerA)
  (F:∀base:Heap,K.In base->base.Ns gn mg->ay P w K mg base CX k fa fd [x] sp) (Wg:∀(s:Shared) (u:Value),BindsTo s fd ⟨[u],[]⟩ [(x,u)])
  (hsp:∀H:Hp,Rz H->SqL K H a (ns.map V.int)->sp [.ref a] H (λv _=>v=.bl true) λ_ _ _=>False)
  (hCX:∀H e s',CX [] H s₁ (λ_ _ _=>False) e s'->False) :
  codeAny (model P w) callerA (.call (.ref fa) ⟨[.ref a],[]⟩) (λr s'=>r=.ok (.ret (.bool true))/\OldK s₁.heap s'.heap/\s'.os=s₁.os/\AllBare s'.gens) s₁:=by
 have rv:=AN hi;have abK:=hi.length;have core:∀H:Hp,Rz H->SqL K H a (ns.map V.int)->HOk P w H s₁.heap->(∀b,H b≠none->b=a)->(H a≠none->K.lookup a=none) ->
   codeAny (model P w) callerA (.call (.ref fa) ⟨[.ref a],[]⟩) (λr s'=>r=.ok (.ret (.bool true))/\OldK s₁.heap s'.heap/\s'.os=s₁.os/\AllBare s'.gens) s₁:=by
  intro H hO hS hok hA hK;have IA:∀ {b:Addr} {o:Obj},s₁.heap.get? b=some o->H b=none->(BE s₁.heap H).get? b=some o:=λe n=>KD e n
  have noA:∀ {b:Addr} {o:Obj} {es:Array aeN} {ep:Nat},s₁.heap.get? b=some o->o.data=.dict es ep->H b=none:=λ{b o es ep} e d=>by
   cases q:H b with
   |none=>rfl
   |some u =>
    have e':b=a:=hA b (by rw[q];simp)
    subst e';rw[ha]at e;cases e;have d':Data.seq vs.toArray _=Data.dict es ep:=d;cases d'
  have nsK:∀ {b:Addr} {m:Str->Option Value},s₁.heap.Ns b m->(BE s₁.heap H).Ns b m:=λ{b m} ⟨o,es,ep,e,d,r⟩=>⟨o,es,ep,IA e (noA e d),d,r⟩
  have hKb:K.In (BE s₁.heap H):=λb o e=>IA (KX b o e) (by
   cases q:H b with
   |none=>rfl
   |some u =>
    have e':b=a:=hA b (by rw[q];simp)
    subst e';rw[hK (by rw[q];simp)]at e;cases e)
  have hM:Mod K mg (BE s₁.heap H):=⟨hKb,nsK hns,⟨mb,nsK hb,hbb⟩,let ⟨mc,h1,h2⟩:=abJ;⟨mc,nsK h1,h2⟩⟩
  have e0:Ad P w K mg (BE s₁.heap H) callerA [] s₁ H:=⟨rfl,hM,λb o e=>NW e,Nat.le_of_eq (Jp _ _),trivial,λb hb=>absurd (show b∈([]:List Addr) from hb) (by simp),hok,.of_eq hg⟩
  refine codeAny_mono ((F _ hKb (nsK hns)).run callerA [] s₁ H ⟨[.ref a],[]⟩ [.ref a] [.ref a] _ _ hr e0 (Wg s₁ (.ref a)) (.cons rfl .nil) (hsp H hO hS)) λr s' h=>?_
  cases r with
  |error e=>exact(hCX H e s' h).elim
  |ok fl =>
   cases fl with
   |next=>exact aea h
   |brk=>exact aea h
   |cont=>exact aea h
   |ret u =>
    obtain⟨v,H',os,bare,un,abL,r',q⟩:=h;have q':v=.bl true:=q;subst q';obtain rfl:u=Value.bool true:=r';refine⟨rfl,OldK.of_keep λb o e=>?_,os,bare⟩
    cases q:H b with
    |none=>exact un.keep b o e q (by intro z;exact absurd (show b∈([]:List Addr) from z) (by simp)) (by simp)
    |some u =>
     rcases hO b with z | ⟨ob,xs,z⟩
     ·rw[q]at z;cases z
     ·have z2:=un.rX b ob _ z;obtain⟨e1,_⟩:=hok b _ z;obtain⟨e2,_⟩:=abL b _ z2;rw[e]at e1;cases e1;exact e2
 cases hk:K.lookup a with
 |some o =>
  have e:=KX a o hk;rw[ha]at e;cases e;refine core (λ_=>none) (λ_=>.inl rfl) (.inr ⟨_,vs.toArray,_,hk,rfl,rfl,rfl,by rw[ko,abK];exact hl,by simpa using rv⟩) (λb u z=>by have z':(none:Option HO)=some u:=z;cases z') (λb z=>absurd rfl z) λz=>absurd rfl z
 |none =>
  refine core (λb=>if b=a then some (.frz { cls:=.type "list",data:=.seq vs.toArray } (.lst (ns.map V.int))) else none) (λb=>?_) (.inl (.inr ⟨{ cls:=.type "list",data:=.seq vs.toArray },if_pos rfl⟩)) (λb u z=>?_) (λb z=>?_) λ_=>hk
  ·by_cases hb:b=a
   ·exact .inr ⟨_,_,if_pos hb⟩
   ·exact .inl (if_neg hb)
  ·by_cases hb:b=a
   ·have z':=(if_pos hb).symm.trans z;cases z';subst hb;exact⟨ha,by rw[cb];exact hl,vs,_,rv,ha⟩
   ·have z':=(if_neg hb).symm.trans z;cases z'
  ·by_cases hb:b=a
   ·exact hb
   ·exact absurd (if_neg hb) z
end L2
namespace L2
open PySem PySem.Spec PyProof.Rows
theorem Oc {l:PySem.W.OpenLaw}{n k:Nat}{q:ku}{loose:List Str}{XP:(Str->Option Value)->Heap->Prop}{YP:World->Heap->Prop}{d:DefRec}{K:Params->ba}{CX:World->CXT}{sp:World->Sp}{x:Str}
  (hn:l.most=some n) (hn2:n<=gp) (hdf:d.params.defaults=[]) (hr:Room k callerA)
  (hY:∀(w:World) (h:Heap),YP w h->(K w.params).In h)
  (F:∀(w:World) (mg:Str->Option Value) (fa:Addr) (h:Heap),(K w.params).In h->h.Ns gn mg->mg d.name=some (.ref fa) ->
   ∃fd:gr,(∀(s:Shared) (u:Value),BindsTo s fd ⟨[u],[]⟩ [(x,u)]) /\
    ∀base:Heap,(K w.params).In base->base.Ns gn mg->ay l.prog w (K w.params) mg base (CX w) k fa fd [x] (sp w))
  (hsp:∀(w:World) (H:Hp) (a:Addr) (ns:List Int),ns.length<=n->Rz H->SqL (K w.params) H a (ns.map V.int)->sp w [.ref a] H (λv _=>v=.bl true) λ_ _ _=>False)
  (hCX:∀(w:World) (H:Hp) (s:Shared) (e:Value) (s':Shared),CX w [] H s (λ_ _ _=>False) e s'->False) :
  PySem.W.WalkO q loose XP YP l.row.toRowW d [] (λf vs=>PySem.call f vs):=by
 refine Att.Df hn hdf λw s₀ s₁ mg mb fa o pm cd doc a vs ns G Y ho hd hcd hmg Ry hints hlen hg=>?_
 have KX:=hY w _ Y;obtain⟨fd,hb,hF⟩:=F w mg fa _ KX G.T.g hmg;exact K7 KX G.T.g G.T.b G.T.builtins G.T.nolimit hg Ry hints (om hlen hn2) hr hF hb (λH hO hS=>hsp w H a ns hlen hO hS) λH e s'=>hCX w H s₁ e s'
end L2
namespace L2
open PySem PySem.Spec PyProof.Rows
def inClass (s:Stmt)(j:Nat):Stmt:=match s with
 | .ClassDef _ _ _ body _ _ _ _ _ _ _=>body.getD j (.Pass ⟨0,0,0,0⟩)
 |_=>.Pass ⟨0,0,0,0⟩
def aC (s:Stmt):Arguments:=match s with
 | .FunctionDef _ a _ _ _ _ _ _ _ _=>a
 |_=>{ posonlyargs:=[],args:=[],vararg:=none,kwonlyargs:=[],kw_defaults:=[],kwarg:=none,defaults:=[] }
def aB (s:Stmt):List Stmt:=match s with
 | .FunctionDef _ _ b _ _ _ _ _ _ _=>b
 |_=>[]
def af (s:Stmt):Scope:=match s with
 | .FunctionDef _ _ _ _ _ _ sc _ _ _=>sc
 |_=>{ kind:=.function,names:=[],isGenerator:=false,isCoroutine:=false }
abbrev CX0:CXT:=λ_ _ _ _ _ _=>False
abbrev E0:XK:=λ_ _ _=>False
theorem aV {X:Cx}:Passes CX0 X E0:=λ_ _ _ _ _ _ _ h=>h.elim
structure Fun (K:ba)(x qual:Str)(st:Stmt)(f:Addr)(fd:gr):Prop where
 ex:∃(oc:Value) (od:Option Addr) (kV doc pm:Value) (an:Option Addr) (cdv ct:Value) (osl:Array (Option Value)),
  fd=fe x qual (aC st) (aB st) (af st) .none kV doc pm an cdv ct/\K.lookup f=some ⟨oc,od,.func fd,osl⟩/\di K cdv qual=true
 kp:da K (.ref f)=true
section
variable{P:ku}{w:World}{K:ba}{mg:Str->Option Value}{base:Heap}
theorem Fun.ok {x qual:Str}{st:Stmt}{f:Addr}{fd:gr}{N ps:List Str}{k:Nat}{sp:Sp}(F:Fun K x qual st f fd)(S:aG N ps (af st))(len:∀vs H Q E,sp vs H Q E->vs.length=ps.length)
  (C8:∀(cdv:Value) (A:Around) (outer:List Env) (s:Shared) (H:Hp) (vs:List V) (Q:VK) (E:XK),Room k (A.deeper (envOfC qual (af st) s.heap.objs.size f cdv))->sp vs H Q E ->
   ∃t,PSs (tE CX0 P w K mg base N qual (af st) f cdv A outer s H E).nox (aB st) t/\t { nx:=λ_ H'=>Q .non H',rt:=Q } (start N vs) H):ay P w K mg base CX0 (k+1) f fd ps sp:=by
 obtain⟨oc,od,kV,doc,pm,an,cdv,ct,osl,rfl,lk,hcd⟩:=F.ex;refine PM lk hcd S len λA outer s H vs Q E hr hsp=>?_
 obtain⟨t,h,q⟩:=C8 cdv A outer s H vs Q E hr hsp;exact⟨t,h.nox,q⟩
theorem Fun.binds {x qual:Str}{st:Stmt}{f:Addr}{fd:gr}{ps:List Str}(F:Fun K x qual st f fd)
  (h:∀(kV doc pm:Value) (an:Option Addr) (cdv ct:Value) (us:List Value),us.length=ps.length->bindArgs (fe x qual (aC st) (aB st) (af st) .none kV doc pm an cdv ct) ⟨us,[]⟩=pure (ps.zip us)):Binds K fd ps []:=by
 obtain⟨oc,od,kV,doc,pm,an,cdv,ct,osl,rfl,lk,hcd⟩:=F.ex;exact .all (h kV doc pm an cdv ct)
theorem aU {x qual:Str}{st:Stmt}{f:Addr}{oc:Value}{od an:Option Addr}{osl:Array (Option Value)}{kV doc pm cdv ct:Value}(l:K.lookup f=some ⟨oc,od,.func (fe x qual (aC st) (aB st) (af st) .none kV doc pm an cdv ct),osl⟩)
  (c:di K cdv qual=true) (k:da K (.ref f)=true):Fun K x qual st f (fe x qual (aC st) (aB st) (af st) .none kV doc pm an cdv ct):=⟨⟨oc,od,kV,doc,pm,an,cdv,ct,osl,rfl,l,c⟩,k⟩
end
section
variable{X:Cx}
theorem pv (i:Nat){x:Str}{pos:Pos}(hN:X.N[i]?=some x:=by rfl)(hv:Vis X.env.scope x:=by first | exact aec rfl | exact Or.inr (aec rfl) | exact Or.inr (Or.inr rfl))(hd:(x == ("__debug__":Str))=false:=by decide)
  (hcd:(x == ("__classdict__":Str))=false:=by decide):PE X (.Name x pos) (VQ i):=Q4 hN hv hd hcd
end
theorem gf {A B:Prop}(h:B):if false=true then A else B:=by
 rw[if_neg kj];exact h
theorem pM {A B:Prop}(h:A):if true=true then A else B:=by
 rw[if_pos rfl];exact h
theorem nv {c A B:Prop}[Decidable c](h1:c->A)(h2:¬c->B):if c then A else B:=by
 by_cases h:c
 ·rw[if_pos h];exact h1 h
 ·rw[if_neg h];exact h2 h
def bJ (H H':Hp):Prop:=∀b o,H b=some o->H' b=some o
theorem bJ.refl (H:Hp):bJ H H:=λ_ _ h=>h
theorem bJ.trans {H H1 H2:Hp}(a:bJ H H1)(b:bJ H1 H2):bJ H H2:=λc o h=>b c o (a c o h)
theorem bJ.free {H H':Hp}(e:bJ H H'){l:Addr}(h:H' l=Option.none):H l=Option.none:=by
 cases q:H l with
 |none=>rfl
 |some o =>
  rw[e l o q]at h;cases h
theorem bJ.seq {K:ba}{H H':Hp}{a:Addr}{xs:List V}(e:bJ H H')(h:SqL K H a xs):SqL K H' a xs:=by
 rcases h with (h | ⟨o,h⟩) | h
 ·exact .inl (.inl (e _ _ h))
 ·exact .inl (.inr ⟨o,e _ _ h⟩)
 ·exact .inr h
end L2
set_option maxHeartbeats 4000000
namespace L2
open PySem PySem.Spec PyProof.Rows
theorem Gf:bootBuiltins "len"=some (.builtin "len"):=by decide +kernel
theorem RA:bootBuiltins "max"=some (.builtin "max"):=by decide +kernel
theorem RB:bootBuiltins "any"=some (.builtin "any"):=by decide +kernel
theorem K8:bootBuiltins "str"=some (.type "str"):=by decide +kernel
theorem ot:bootBuiltins "list"=some (.type "list"):=by decide +kernel
mutual
def DV (K:ba)(H:Hp):PyData->V->Prop
 | .none,x=>x=.non
 | .bool b,x=>x=.bl b
 | .int i,x=>x=.int i
 | .str y,x=>x=.str y
 | .list ds,x=>∃a xs,x=.ref a/\SqL K H a xs/\DVs K H ds xs
 | .tuple ds,x=>∃a xs,x=.ref a/\SqT K H a xs/\DVs K H ds xs
 | .dict _,_=>False
def DVs (K:ba)(H:Hp):List PyData->List V->Prop
 |[],xs=>xs=[]
 |d::ds,xs=>∃x r,xs=x::r/\DV K H d x/\DVs K H ds r
end
section
variable{X:Cx}{pins:List (Addr×Obj)}{σ:St}{H:Hp}{s:Shared}
mutual
theorem DV.reads (I:Inv X pins σ H s):∀(d:PyData) {x:V} {u:Value},DV X.K H d x->RelV x u->∃as,Reads s.heap u d as
 | .none,_,_,h,r=>by
  have h':=h;unfold DV at h';subst h';cases r;exact⟨_,.none⟩
 | .bool b,_,_,h,r=>by
  have h':=h;unfold DV at h';subst h';cases r;exact⟨_,.bool b⟩
 | .int i,_,_,h,r=>by
  have h':=h;unfold DV at h';subst h';obtain⟨t,rfl⟩:=r;exact⟨_,.int i t⟩
 | .str y,_,_,h,r=>by
  have h':=h;unfold DV at h';subst h';obtain⟨t,rfl⟩:=r;exact⟨_,.str y t⟩
 | .list ds,_,_,h,r=>by
  have h':=h;unfold DV at h';obtain⟨a,xs,rfl,hq,hs⟩:=h';cases r;obtain⟨its,rv,⟨o,n,e,c,_,dt⟩,_⟩:=I.list hq;obtain⟨as,q⟩:=DVs.reads I ds hs rv;exact⟨_,.list e c dt (by simpa using q)⟩
 | .tuple ds,_,_,h,r=>by
  have h':=h;unfold DV at h';obtain⟨a,xs,rfl,hq,hs⟩:=h';cases r;obtain⟨its,rv,⟨o,e,c,n,dt⟩,_⟩:=I.tuple hq;obtain⟨as,q⟩:=DVs.reads I ds hs rv;exact⟨_,.tuple e c dt (by simpa using q)⟩
 | .dict _,_,_,h,_=>by
  have h':=h;unfold DV at h';exact h'.elim
theorem DVs.reads (I:Inv X pins σ H s):∀(ds:List PyData) {xs:List V} {us:List Value},DVs X.K H ds xs->Vals xs us->∃as,ReadsAll s.heap us ds as
 |[],_,_,h,r=>by
  have h':=h;unfold DVs at h';subst h';cases r;exact⟨_,.nil⟩
 |d::ds,_,_,h,r=>by
  have h':=h;unfold DVs at h';obtain⟨x,q,rfl,h1,h2⟩:=h';cases r with
  |cons r1 r2 =>
   obtain⟨as,e1⟩:=DV.reads I d h1 r1;obtain⟨bs,e2⟩:=DVs.reads I ds h2 r2;exact⟨_,.cons e1 e2⟩
end
def abM (K:ba):R2:=λx y H Q=>∃d e,DV K H d x/\DV K H e y/\ae5 d=true/\ae5 e=true/\Q (.bl (ae9 d e)) H
def abN (K:ba):R2:=λx y H Q=>∃d e,DV K H d x/\DV K H e y/\ae5 d=true/\ae5 e=true/\Q (.bl (!ae9 d e)) H
theorem K9 (hu:X.A.units+64 < cLine):OpR X (aeZ .Eq) (abM X.K):=by
 intro pins s σ H x y v u Q I rx ry h;obtain⟨d,e,hd,he,sd,se,q⟩:=h;obtain⟨as,r1⟩:=DV.reads I d hd rx;obtain⟨bs,r2⟩:=DV.reads I e he ry;exact eq_dataH r1 r2 sd se hu ⟨.bl _,H,I,rfl,q⟩
theorem r6 (hu:X.A.units+64 < cLine):OpR X (aeZ .NotEq) (abN X.K):=by
 intro pins s σ H x y v u Q I rx ry h;obtain⟨d,e,hd,he,sd,se,q⟩:=h;obtain⟨as,r1⟩:=DV.reads I d hd rx;obtain⟨bs,r2⟩:=DV.reads I e he ry;exact ne_dataH r1 r2 sd se hu ⟨.bl _,H,I,rfl,q⟩
end
theorem Dg (K:ba)(H:Hp):∀ws:List Str,DVs K H (ws.map afn) (ws.map V.str)
 |[]=>by unfold DVs;rfl
 |w::ws=>by
  show DVs K H (afn w::ws.map afn) _;unfold DVs;exact⟨_,_,rfl,by unfold DV;rfl,Dg K H ws⟩
theorem Od {K:ba}{H:Hp}{a:Addr}{ws:List Str}(h:SqL K H a (ws.map V.str)):DV K H (.list (ws.map afn)) (.ref a):=by
 unfold DV;exact⟨a,_,rfl,h,Dg K H ws⟩
theorem vR:∀ws:List Str,(∀w∈ws,aef w=true)->ra (ws.map afn)=true
 |[],_=>by simp[ra]
 |w::ws,h=>by
  simp only[kc,ra,rf,aeI];exact⟨h w fu,vR ws λv hv=>h v (ki _ hv)⟩
theorem yA:∀ws:List Str,aed (ws.map afn)<=1
 |[]=>by simp[aed]
 |w::ws=>by
  have:=yA ws;simp only[kc,aed,aet];omega
theorem yB:∀ {ys:List Str} {us:List Value},Vals (ys.map V.str) us->StrsAre us ys
 |[],_,.nil=>.nil
 |y::ys,_,.cons r t=>by
  obtain⟨tk,rfl⟩:=r;exact .cons y tk (yB t)
theorem p0:∀l:List (Str×Tok),Vals ((l.map (·.1)).map V.str) (strValues l)
 |[]=>.nil
 |p::l=>.cons ⟨p.2,rfl⟩ (p0 l)
section
variable{X:Cx}
def rJoin (K:ba):V->List V->Hp->VK->Prop:=λx vs H Q=>∃sep a ys,x=.str sep/\vs=[.ref a]/\SqL K H a (ys.map V.str)/\(ys.map (·.length)).sum+ys.length * sep.length<=16777216/\Q (.str (kf sep ys)) H
theorem IB:MtR X "str.join" (rJoin X.K):=by
 intro pins s σ H x vs v us Q I rx rv h;obtain⟨sep,a,ys,rfl,rfl,hq,hz,q⟩:=h;obtain⟨t,rfl⟩:=rx;obtain⟨u,rfl,ru⟩:=rv.one;cases ru;obtain⟨its,r,pl,_⟩:=I.list hq;refine join_list pl.isList (yB (by simpa using r)) hz λt' k=>?_
 rw[show Txt.join sep ys=kf sep ys from StrLaws.glued_eq_join sep ys]
 exact⟨.str _,H,I.tok _,⟨_,rfl⟩,q⟩
def RC:V->List V->Hp->VK->Prop:=λx vs H Q=>∃z y,x=.str z/\vs=[.str y]/\(y.length == 0)=false/\z.length+2<=gp/\∀p,H p=none->Q (.ref p) (upd H p (.lst ((Txt.split z y).map V.str)))
theorem La:MtR X "str.split" RC:=by
 intro pins s σ H x vs v us Q I rx rv h;obtain⟨x,y,rfl,rfl,hy,hsz,q⟩:=h;obtain⟨t,rfl⟩:=rx;obtain⟨_,rfl,u,rfl⟩:=rv.one;have hn:(Builtin.Str.partsBetween x (ae0 x y 0 x.length (x.length+1)) y.length).length<=gp:=by
  have e1:=StrLaws.occ_length_le x y 0 x.length (x.length+1);rw[length_partsBetween];omega
 have fin:∀(l:List (Str×Tok)) (tk:Nat),l.map (·.1)=Txt.split x y->(Txt.split x y).length<=gp ->
   EP X pins σ Q (.ref s.heap.objs.size) { s with heap:=s.heap.push { cls:=.type "list",data:=.seq (strValues l).toArray },toks:=tk }:=λl tk e hz=>by
  refine⟨.ref _,_,I.We (t':=tk) (ys:=(Txt.split x y).map V.str) (by rw[<-e];exact p0 l) (by rw[cb];exact hz),rfl,q _ I.fresh⟩
 have Wh:1<=gp:=by omega
 cases h1:(decide (x.length < y.length) || decide (Builtin.Str.strKind x < Builtin.Str.strKind y))
 ·cases hf:(ae0 x y 0 x.length (x.length+1)).isEmpty
  ·refine call_meets F.slot_str_split (typeIs_str _ _ _) F.entry_str_split (F.args_str_split_2 _ _) (meets_str_split_sep x y t u h1 hy hf (by omega) hn) ?_
   have e:Txt.split x y=Builtin.Str.partsBetween x (ae0 x y 0 x.length (x.length+1)) y.length:=(if_neg (ne_true_of_eq_false h1)).trans (if_neg (ne_true_of_eq_false hf));show wants (EP X pins σ Q) X.xe _ { s with toks:=_,heap:=s.heap.push { cls:=.type "list",data:=.seq (strsFrom s.toks (Builtin.Str.partsBetween x (ae0 x y 0 x.length (x.length+1)) y.length)).toArray } }
   rw[strsFrom_eq];exact fin (numbered s.toks _) _ ((numbered_texts _ _).trans e.symm) (by rw[e];exact hn)
  ·have e:Txt.split x y=[x]:=(if_neg (ne_true_of_eq_false h1)).trans (if_pos hf);exact call_meets F.slot_str_split (typeIs_str _ _ _) F.entry_str_split (F.args_str_split_2 _ _) (meets_str_split_not_found x y t u h1 hy hf)
    (fin [(x,t)] s.toks e.symm (by rw[e];exact Wh))
 ·have e:Txt.split x y=[x]:=if_pos h1;exact call_meets F.slot_str_split (typeIs_str _ _ _) F.entry_str_split (F.args_str_split_2 _ _) (meets_str_split_cannot_occur x y t u h1)
   (fin [(x,t)] s.toks e.symm (by rw[e];exact Wh))
end
section
variable{X:Cx}
theorem Oe:OpR X (binaryOp .Add) (λx y H Q=>∃l b xs zs,x=.ref l/\y=.ref b/\H l=some (.lst xs)/\H b=some (.lst zs)/\xs.length+zs.length<=gp/\∀p,H p=none->Q (.ref p) (upd H p (.lst (xs++zs)))):=Rx
end
theorem eZ (a b:Str):(a++b).cps.toList=a.cps.toList++b.cps.toList:=by
 show (a.cps++b.cps).toList=_;simp
theorem Dh (c:Nat):∀(a b p q:List Nat),c∉a->c∉b->a++c::p=b++c::q->a=b/\p=q
 |[],[],p,q,_,_,e=>by simpa using e
 |[],y::b,p,q,_,hb,e=>by
  have e':c::p=y::(b++c::q):=e;injection e' with e1 _
  exact absurd (by rw[e1];exact fu) hb
 |x::a,[],p,q,ha,_,e=>by
  have e':x::(a++c::p)=c::q:=e;injection e' with e1 _
  exact absurd (by rw[<-e1];exact fu) ha
 |x::a,y::b,p,q,ha,hb,e=>by
  have e':x::(a++c::p)=y::(b++c::q):=e;injection e' with e1 e2
  obtain⟨h1,h2⟩:=Dh c a b p q (λh=>ha (ki _ h)) (λh=>hb (ki _ h)) e2
  exact⟨by rw[e1,h1],h2⟩
theorem BU {a b:Str}(h:a.cps.toList=b.cps.toList):a=b:=by
 cases a;cases b;have:=Array.toList_inj.mp h;subst this;rfl
theorem i8 (c:Nat)(x y:Str)(r:List Str):(kf ⟨#[c]⟩ (x::y::r)).cps.toList=x.cps.toList++c::(kf ⟨#[c]⟩ (y::r)).cps.toList:=by
 show ((x++⟨#[c]⟩)++kf ⟨#[c]⟩ (y::r)).cps.toList=_;rw[eZ,eZ];simp
theorem Di (c:Nat):∀(vs ws:List Str),vs≠[]->ws≠[]->(∀v∈vs,c∉v.cps.toList)->(∀w∈ws,c∉w.cps.toList)->kf ⟨#[c]⟩ vs=kf ⟨#[c]⟩ ws->vs=ws
 |[],_,h,_,_,_,_=>absurd rfl h
 |_,[],_,h,_,_,_=>absurd rfl h
 |[x],[y],_,_,_,_,e=>by rw[show x=y from e]
 |[x],y::z::r,_,_,hv,_,e=>by
  have e1:=congrArg (λt:Str=>t.cps.toList) e
  have e2:x.cps.toList=y.cps.toList++c::(kf ⟨#[c]⟩ (z::r)).cps.toList:=e1.trans (i8 c y z r);exact absurd (by rw[e2];exact me _ fu) (hv x fu)
 |x::z::r,[y],_,_,_,hw,e=>by
  have e1:=congrArg (λt:Str=>t.cps.toList) e
  have e2:x.cps.toList++c::(kf ⟨#[c]⟩ (z::r)).cps.toList=y.cps.toList:=(i8 c x z r).symm.trans e1;exact absurd (by rw[<-e2];exact me _ fu) (hw y fu)
 |x::x2::r,y::y2::q,_,_,hv,hw,e=>by
  have e1:=congrArg (λt:Str=>t.cps.toList) e
  have e2:=(i8 c x x2 r).symm.trans (e1.trans (i8 c y y2 q));obtain⟨h1,h2⟩:=Dh c _ _ _ _ (hv x fu) (hw y fu) e2;have h3:=Di c (x2::r) (y2::q) (aeC _ _) (aeC _ _) (λv h=>hv v (ki _ h)) (λw h=>hw w (ki _ h)) (BU h2)
  rw[BU h1,h3]
theorem Lb (x y:Str):Txt.split x y≠[]:=by
 unfold Txt.split;split
 ·exact aeC _ _
 ·split
  ·exact aeC _ _
  ·rw[StrLaws.partsBetween_eq];intro h;have:=congrArg List.length h;revert this;cases (ae0 x y 0 x.length (x.length+1)) <;> simp[StrLaws.partsFrom]
theorem Gh {c:Nat}{ws:List Str}(h0:ws≠[])(h:∀w∈ws,c∉w.cps.toList):Txt.split (kf ⟨#[c]⟩ ws) ⟨#[c]⟩=ws :=
 Di c _ _ (Lb _ _) h0 (StrLaws.split_free _ c) h (StrLaws.join_split _ _)
theorem q9 (c:Nat):∀ws:List Str,(kf ⟨#[c]⟩ ws).length<=(ws.map (·.length)).sum+ws.length
 |[]=>aeM _
 |[x]=>by show x.length<=_;simp
 |x::y::r=>by
  have ih:=q9 c (y::r);have e:(kf ⟨#[c]⟩ (x::y::r)).length=x.length+1+(kf ⟨#[c]⟩ (y::r)).length:=by
   have:=congrArg List.length (i8 c x y r);rw[kr,tm]at this;have l1:∀z:Str,z.cps.toList.length=z.length:=λz=>by simp[Str.length]
   rw[l1,l1,l1]at this;omega
  simp only[kc,List.sum_cons,tm]at ih ⊢;omega
theorem Af {c:Nat}:∀ {ws:List Str},ws≠[]->(∀w∈ws,1<=w.length)->1<=(kf ⟨#[c]⟩ ws).length
 |[],h,_=>absurd rfl h
 |[x],_,h=>h x fu
 |x::y::r,_,h=>by
  have h1:=h x fu;have:=congrArg List.length (i8 c x y r);rw[kr]at this;have l1:∀z:Str,z.cps.toList.length=z.length:=λz=>by simp[Str.length]
  rw[l1,l1]at this;omega
theorem AO {b:Bool}{A B:Prop}(hb:b=true)(h:A):if b=true then A else B:=by
 subst hb;exact pM h
theorem Dj {b:Bool}{A B:Prop}(hb:b=false)(h:B):if b=true then A else B:=by
 subst hb;exact gf h
theorem aK {H:Hp}{p:Addr}{o:HO}(h:H p=none):bJ H (upd H p o):=λb u e=>by
 rw[aw (aN e h)];exact e
theorem bJ.own {H H':Hp}{p:Addr}{o:HO}(s:bJ H H')(h:H p=none):bJ H (upd H' p o):=λb u e=>by
 rw[aw (aN e h)];exact s b u e
theorem bJ.new {H H':Hp}{p:Addr}{o:HO}(s:bJ H H')(h:H' p=none):bJ H (upd H' p o):=s.trans (aK h)
theorem bJ.nn {H H':Hp}(s:bJ H H'){p:Addr}{o:HO}(h:H p=none)(e:H' p=some o){b:Addr}{u:HO}(eb:H b=some u):b≠p:=aN eb h
theorem Lc (xs:List V)(k:Nat):pL xs (some (k:Int)) none=xs.drop k:=by
 unfold pL;rw[HT.xX,HT.KY]
 by_cases h:k<=xs.length
 ·rw[Nat.min_eq_left h];exact List.take_of_length_le (by rw[ae6];exact kg _)
 ·have h':xs.length<=k:=by omega
  rw[Nat.min_eq_right h',List.drop_of_length_le h',List.drop_of_length_le (kg _)];simp
theorem PN {α:Type}{xs:List α}{i:Int}{n:Nat}(hn:xs.length=n)(h0:0<=i)(h1:i < n):∃c,atI xs i=some c/\c∈xs:=by
 have hi:i.toNat < xs.length:=by omega
 have e:((i.toNat:Nat):Int)=i:=by omega
 refine⟨xs[i.toNat],?_,List.getElem_mem hi⟩;have q:=oq (ad5 hi);rw[e]at q;exact q
end L2
namespace L2
open PySem PySem.Spec PyProof.Rows
def fq (scope outer:Scope):Scope :=
 { scope with names:=scope.names.map λ(n,k)=>if (k == .free && outer.kind == .function && outer.names.lookup n == some .cell) then (n,.cell) else (n,k) }
structure cV (scope outer:Scope)(x:Str)(N M:List Str):Prop where
 kind:scope.kind=.function
 Ld:outer.kind=.function
 BV:∀y∈scope.names,y.2≠.cell
 names:∀y∈scope.names,y.2=.local->scope.names.lookup y.1=some .local
 hx:scope.names.lookup x=some .local
 free:∀y∈scope.names,y.2=.free->outer.names.lookup y.1=some .cell
 nl:∀n∈M,(fq scope outer).names.lookup n≠some .local
 ndM:M.Nodup
 nd:N.Nodup
 len:M.length=N.length
 rel:∀i:Nat,i < N.length->M[i]?=N[i]?\/M[i]?=some ael
 em:(fq scope outer).names.lookup ael=none
theorem cV.mem {scope outer:Scope}{x:Str}{N M:List Str}(S:cV scope outer x N M){n:Str}{k:NameKind}(h:(fq scope outer).names.lookup n=some k)(hk:k=.cell\/k=.free) :
  k=.cell/\(n,aeX)∈scope.names/\outer.names.lookup n=some .cell:=by
 obtain⟨⟨n',k'⟩,hm,e⟩:=List.mem_map.mp (aeQ h);dsimp only at e
 by_cases hc:(k' == aeX && outer.kind == .function && outer.names.lookup n' == some .cell)=true
 ·rw[if_pos hc]at e;injection e with e1 e2
  subst e1 e2;rw[aeI,aeI]at hc;have hk':k'=.free:=beq_iff_eq.mp hc.1.1;subst hk';exact⟨rfl,hm,beq_iff_eq.mp hc.2⟩
 ·rw[if_neg hc]at e;injection e with e1 e2
  subst e1 e2;rcases hk with z | z
  ·exact absurd z (S.BV _ hm)
  ·subst z
   exfalso
   refine hc ?_;rw[S.free _ hm rfl,S.Ld];rfl
theorem BW {env:Env}{f:Str×NameKind->List (Str×Addr)->Sem (ForInStep (List (Str×Addr)))}
  (h1:∀n k r,k≠aeX->f (n,k) r=pure (.yield r)) (h2:∀n r c,env.cells.lookup n=some c->f (n,.free) r=pure (.yield ((n,c)::r))) :
  ∀(ns:List (Str×NameKind)) (acc:List (Str×Addr)),(∀y∈ns,y.2=.free->∃c,env.cells.lookup y.1=some c)->(∀n c,acc.lookup n=some c->env.cells.lookup n=some c) ->
   ∃cl,(forIn ns acc f:Sem (List (Str×Addr)))=pure cl/\(∀n c,cl.lookup n=some c->env.cells.lookup n=some c)/\(∀n c,acc.lookup n=some c->(cl.lookup n).isSome=true)/\∀y∈ns,y.2=.free->(cl.lookup y.1).isSome=true
 |[],acc,_,ha=>⟨acc,by simp,ha,λn c e=>by rw[e];rfl,λy hy=>nomatch hy⟩
 | (n,k)::ns,acc,hn,ha=>by
  by_cases hk:k=aeX
  ·subst hk;obtain⟨c,hc⟩:=hn (n,.free) fu rfl;have ha':∀m d,((n,c)::acc).lookup m=some d->env.cells.lookup m=some d:=λm d e=>by
    rw[ae7]at e;split at e
    ·rename_i hb;have:m=n:=beq_iff_eq.mp hb;subst this;rw[<-ad8 e];exact hc
    ·exact ha m d e
   obtain⟨cl,e,p1,p2,p3⟩:=BW h1 h2 ns ((n,c)::acc) (λy hy=>hn y (ki _ hy)) ha'
   have hnn:(cl.lookup n).isSome=true:=p2 n c (by simp[ae7])
   refine⟨cl,?_,p1,λm d em=>?_,λy hy hf=>?_⟩
   ·rw[List.forIn_cons,h2 n acc c hc,pure_bind];exact e
   ·by_cases hm:m=n
    ·subst hm;exact hnn
    ·exact p2 m d (by rw[ae7,show (m == n)=false from beq_eq_false_iff_ne.mpr hm];exact em)
   ·rcases List.mem_cons.mp hy with rfl | hy
    ·exact hnn
    ·exact p3 y hy hf
  ·obtain⟨cl,e,p1,p2,p3⟩:=BW h1 h2 ns acc (λy hy=>hn y (ki _ hy)) ha
   refine⟨cl,?_,p1,p2,λy hy hf=>?_⟩
   ·rw[List.forIn_cons,h1 n k acc hk,pure_bind];exact e
   ·rcases List.mem_cons.mp hy with rfl | hy
    ·exact absurd hf hk
    ·exact p3 y hy hf
theorem AQ {scope:Scope}{env:Env}(h:∀y∈scope.names,y.2=.free->∃c,env.cells.lookup y.1=some c) :
  ∃cl,closureFor scope env=pure cl/\(∀n c,cl.lookup n=some c->env.cells.lookup n=some c)/\∀y∈scope.names,y.2=.free->(cl.lookup y.1).isSome=true:=by
 unfold closureFor;obtain⟨cl,e,p1,_,p3⟩:=BW (env:=env) (f:=λx r=>match x with | (name,kind)=>if (kind == aeX)=true then do let a <-cellOf env name;pure (.yield ((name,a)::r)) else pure (.yield r))
  (λn k r hk=>by
   have:(k == aeX)=false:=beq_eq_false_iff_ne.mpr hk;simp only[this,Bool.false_eq_true,if_false])
  (λn r c hc=>by
   simp only[beq_self_eq_true,if_true];unfold cellOf;rw[hc];rw[pure_bind])
  scope.names [] h (λn c e=>by simp at e)
 refine⟨cl,?_,p1,p3⟩;have e':=congrArg (λz:Sem (List (Str×Addr))=>z >>= λcs=>pure cs) e
 simp only[pure_bind]at e';exact e'
def iI (X:Cx)(x:Str)(M:List Str)(scope:Scope)(cl:List (Str×Addr))(C:Addr)(s:Shared)(H:Hp)(fp:List Addr):Cx :=
 { X with N:=x::M,s₀:=s,H₀:=H,env:=compEnvC scope cl C X.env,outer:=X.stack,ex:=fp,fn:=λ_=>false,pn:=[],xe:=λ_ _=>False }
def qa (J:It)(te:TE)(σ:St)(D:Addr)(H1:Hp)(Q:VK):Prop:=∃W:Nat->Nat->List V->Hp->Prop,(∃m,W 0 m [] (upd H1 D (.lst [])))/\∀i m ys H2,W i m ys H2 ->
 H2 D=some (.lst ys)/\((J.stop i H2/\Q (.ref D) H2)\/(J.go i H2/\ys.length < gp/\∀x H3,J.yld i H2 x H3->te (some x::σ) H3 λy H4=>H4 D=some (.lst ys)/\∃m',m' < m/\W (i+1) m' (ys++[y]) (upd H4 D (.lst (ys++[y])))))
def Le (wi:TI)(te:TE):TE:=λσ H Q=>wi σ H λJ H1=>∀D,H1 D=none->qa J te σ D H1 Q
section
variable{X:Cx}{pins:List (Addr×Obj)}{σ:St}{H:Hp}{s:Shared}{elt iter:Expr}{x:Str}{px pos:Pos}{scope:Scope}{wi:TI}{te:TE}{Q:VK}{M:List Str}
theorem Of {cl:List (Str×Addr)}{C:Addr}{fp:List Addr}(S:cV scope X.env.scope x X.N M)(I:Inv X pins σ H s)(hC:s.heap.objs.size<=C)(p1:∀n c,cl.lookup n=some c->X.env.cells.lookup n=some c)
  (p3:∀y∈scope.names,y.2=.free->(cl.lookup y.1).isSome=true) (f2:∀b∈fp,j6 X pins H b) (fo:∀b∈fp,b < s.heap.objs.size):(iI X x M scope cl C s H fp).Ok where
 mod:=I.ok.mod
 kind:=S.kind
 glob:=I.ok.glob
 blt:=I.ok.blt
 above:=hC
 inj:=λy z c h1 h2=>I.ok.inj y z c (p1 y c h1) (p1 z c h2)
 has:=λy hy=>by
  have hy':(fq scope X.env.scope).names.lookup y=some .cell\/(fq scope X.env.scope).names.lookup y=some .free:=hy;have hm:(y,aeX)∈scope.names:=by
   rcases hy' with z | z
   ·exact(S.mem z (.inl rfl)).2.1
   ·exact(S.mem z (.inr rfl)).2.1
  exact Option.isSome_iff_exists.mp (p3 _ hm rfl)
 cab:=λy c h=>absurd h kj
 hd:=I.ok.hd
 frames:=I.ok.frames
 stk:=.inl rfl
 exf:=λb hb=>⟨ad6 (wa (fo b hb) hC),λy c e=>(f2 b hb).2.2.2.2.1 y c (p1 y c e)⟩
 bs:=I.bs
 bsz:=om I.ok.bsz I.sz
 FV:=λb o e hb=>by
  rcases (f2 b hb).2.2.2.1 with z | z
  ·exact I.ok.FV b o e z
  ·exact absurd (wa (kx (I.ok.bs b o e).1) z) (Nat.lt_irrefl _)
 FW:=λb hb z=>by
  rcases List.mem_cons.mp (I.BF b z) with e | e
  ·exact(f2 b hb).2.1 e
  ·exact(f2 b hb).2.2.1 e
 rY:=I.stack
 frf:=I.BG
theorem Lf {cl:List (Str×Addr)}{C D:Addr}{fp:List Addr}{h₁:Heap}{tk:Nat}{m:Str->Option Value}(S:cV scope X.env.scope x X.N M)(I:Inv X pins σ H s)(hC:s.heap.objs.size<=C)(hD:s.heap.objs.size<=D)(hDC:D≠C)
  (p1:∀n c,cl.lookup n=some c->X.env.cells.lookup n=some c)
  (p3:∀y∈scope.names,y.2=.free->(cl.lookup y.1).isSome=true) (f2:∀b∈fp,j6 X pins H b) (fo:∀b∈fp,b < s.heap.objs.size)
  (old:∀b o,s.heap.get? b=some o->h₁.get? b=some o) (hn:h₁.Ns C m) (hl:h₁.get? D=some { cls:=.type "list",data:=.seq ([]:List Value).toArray }) :
  Inv (iI X x M scope cl C s H fp) [] (none::σ) (upd H D (.lst [])) { s with heap:=h₁,toks:=tk }:=by
 have cellK:∀c v,s.heap.IsCell c v->h₁.IsCell c v:=λc v ⟨o,e,d⟩=>⟨o,old c o e,d⟩
 refine⟨Of S I hC p1 p3 f2 fo,rfl,I.bare,Un.laid old hD (I.hok.fresh hD),⟨m,hn,λi n v h1 h2 h3=>?_⟩,λy c e=>?_,?_,λy c e=>?_,λp hp=>absurd (show p∈([]:List (Addr×Obj)) from hp) (by simp),I.hok.laid old hD ⟨aeM _,[],0,.nil,hl⟩,?_⟩
 ·cases i with
  |zero =>
   have h2':(none:Option V)=some v:=by simpa using h2
   cases h2'
  |succ i =>
   have h0':M[i]?=some n:=by simpa [iI] using h1
   have h2':σ[i]?=some (some v):=by simpa using h2
   have h3':(fq scope X.env.scope).names.lookup n=some .local\/(fq scope X.env.scope).names.lookup n=some .cell\/(fq scope X.env.scope).names.lookup n=some .free:=h3;have tq:(fq scope X.env.scope).names.lookup n=some .cell/\(n,aeX)∈scope.names/\X.env.scope.names.lookup n=some .cell:=by
    rcases h3' with z | z | z
    ·exact absurd z (S.nl n (aei h0'))
    ·exact⟨z,(S.mem z (.inl rfl)).2⟩
    ·exact absurd (S.mem z (.inr rfl)).1 (by decide)
   have h1':X.N[i]?=some n:=by
    have hi:i < X.N.length:=by rw[<-S.len];exact(List.getElem?_eq_some_iff.mp h0').1
    rcases S.rel i hi with z | z
    ·rw[<-z];exact h0'
    ·rw[h0']at z;have e:n=ael:=ad8 z;rw[e,S.em]at tq;cases tq.1
   obtain⟨m0,hn0,hl0⟩:=I.loc;obtain⟨u,r,l⟩:=hl0 i n v h1' h2' (.inr (.inl tq.2.2));refine⟨u,r,.inr ⟨.inl tq.1,?_⟩⟩;obtain⟨c,hc⟩:=Option.isSome_iff_exists.mp (p3 _ tq.2.1 rfl);refine⟨c,hc,?_⟩;rcases l with ⟨k,_⟩ | ⟨_,c',hc',z⟩
   ·have k':X.env.scope.names.lookup n=some .local:=k;rw[tq.2.2]at k';cases k'
   ·rw[p1 n c hc]at hc';cases hc';exact cellK c _ z
 ·obtain⟨v,z⟩:=I.cell y c (p1 y c e);exact⟨v,cellK c v z⟩
 ·show (upd H D (.lst [])) C=none;rw[aw (ad9 hDC)];exact I.hok.fresh hC
 ·obtain⟨v,z⟩:=I.cell y c (p1 y c e);rw[aw (ad6 (wa z.lt hD))];exact I.nk y c (p1 y c e)
 ·show (none::σ).length=(x::M).length;rw[tm,tm,I.len,S.len]
theorem AR {cl:List (Str×Addr)}{RR:Value->Addr->Result->Shared->Prop}(S:cV scope X.env.scope x X.N M)(hc:X.calm=true)(hi:PI X (.Name x px) iter wi)
  (he:∀cl C s H fp,PE (iI X x M scope cl C s H fp) elt te) (I:Inv X pins σ H s) (h:Le wi te σ H Q)
  (p1:∀n c,cl.lookup n=some c->X.env.cells.lookup n=some c) (p3:∀y∈scope.names,y.2=.free->(cl.lookup y.1).isSome=true)
  (hRR:∀D C H' s' o m,Inv X (pins++[(C,o)]) σ H' s'->s'.heap.get? C=some o->s'.heap.Ns C m->X.s₀.heap.objs.size<=C->(∀y c,X.env.cells.lookup y=some c->c≠C)->(∀p∈X.pn++pins,p.1≠C)->Q (.ref D) H'->RR (.ref D) C (.ok .next) s') :
  wpAny (model X.prog X.w) X.A (eval iter X.env) (λxv s₁=>wpAny (model X.prog X.w) X.A (pyIter xv) (λit s₂=>wpAny (model X.prog X.w) X.A (newList []) (λacc s₃ =>
   wpAny (model X.prog X.w) X.A (newFunctionEnv scope X.env.globals cl [] X.env.qual none .none (some X.env)) (λWi s₄ =>
    codeAny (model X.prog X.w) X.A (.compStart (.ListComp elt [⟨.Name x px,iter,[],0⟩] scope pos) 0 it acc { Wi with scope:=relabel scope X.env }) (RR acc Wi.locals) s₄) X.xe s₃) X.xe s₂) X.xe s₁) X.xe s:=by
 refine thn (hi pins s σ H _ I h) λv s1 h1=>thn h1 λitv s2 h2=>?_
 obtain⟨it,fp,tn,J,H2,rfl,I2,T,st2,f2,q⟩:=h2;refine wpAny_newObj_type (wpAny_newFunctionEnv S.BV (by intro y hy;simp at hy) (λh₁ hns₁ hsb₁=>?_) S.kind)
 dsimp only at hns₁ hsb₁ ⊢;generalize hHH:s2.heap.push { cls:=.type "list",dict:=none,data:=.seq ([]:List Value).toArray }=HH at hns₁ hsb₁ ⊢;have hCs:HH.objs.size=s2.heap.objs.size+1:=by rw[<-hHH,Heap.size_push]
 have hDC:s2.heap.objs.size≠HH.objs.size:=by rw[hCs];exact ad6 (Nat.lt_succ_self _)
 have Wj:s2.heap.objs.size<=HH.objs.size:=by rw[hCs];exact aeS _
 have below:∀b,b < s2.heap.objs.size->b≠HH.objs.size:=λb hb=>by rw[hCs];exact ad6 (Nat.lt_succ_of_lt hb)
 have old:∀b o,s2.heap.get? b=some o->h₁.get? b=some o:=λb o e=>hsb₁.extBut b o (below b (kx e)) (gc _ (hHH▸gc _ e))
 have Og:h₁.get? s2.heap.objs.size=some { cls:=.type "list",data:=.seq ([]:List Value).toArray }:=hsb₁.extBut _ _ hDC (gc _ (hHH▸ad3 _ rfl));have fo:∀b∈fp,b < s2.heap.objs.size:=λb hb=>by
  obtain⟨o,e,_⟩:=T.obj _ _ st2 b hb;exact kx e
 have IY:=Lf (tk:=s2.toks+([]:List (Str×Value)).length) S I2 Wj (kg _) hDC p1 p3 f2 fo old hns₁ Og;have st1:tn 0 h₁:=T.keep _ _ _ st2 λb _ o e=>old b o e
 obtain⟨W,⟨m0,w0⟩,turn⟩:=q _ (I2.hok.fresh (kg _));generalize hC:HH.objs.size=C at *;generalize hDD:s2.heap.objs.size=D at *;have ndY:(iI X x M scope cl C s2 H2 fp).N.Nodup:=by
  refine List.nodup_cons.mpr ⟨λhm=>S.nl x hm (lookup_relabel_local S.hx),S.ndM⟩
 have stat:∀ {H':Hp},(∀b∈fp,H' b=none)->∀b∈fp,j6 (iI X x M scope cl C s2 H2 fp) [] H' b:=λhn b hb =>
  ⟨hn b hb,below b (fo b hb),IY.ok.FW b hb,.inl hb,λy c e=>(f2 b hb).2.2.2.2.1 y c (p1 y c e),λp hp=>absurd (show p∈([]:List (Addr×Obj)) from hp) (by simp)⟩
 have loop:codeAny (model X.prog X.w) X.A (.compLoop (.ListComp elt [⟨.Name x px,iter,[],0⟩] scope pos) 0 (.ref it) (.ref D) (compEnvC scope cl C X.env)) (RR (.ref D) C) { s2 with heap:=h₁,toks:=s2.toks+([]:List (Str×Value)).length }:=by
  refine codeAny_compLoop_tests (λn s'=>∃i v0 ys H',Inv (iI X x M scope cl C s2 H2 fp) [] (v0::σ) H' s'/\tn i s'.heap/\(∀b∈fp,H' b=none)/\W i n ys H') ?_ m0 ⟨0,none,[],_,IY,st1,λb hb=>?_,w0⟩
  ·rintro n s3 ⟨i,v0,ys,H3,I3,st3,fr3,w3⟩;obtain⟨hDl,hw⟩:=turn i n ys H3 w3;rcases hw with ⟨stop,qn⟩ | ⟨go,hsz,step⟩
   ·refine thn (T.done (iI X x M scope cl C s2 H2 fp) rfl rfl rfl hc i [] s3 _ H3 _ I3 (stat fr3) st3 stop) λr s4 ⟨hr,I4⟩=>?_
    subst hr;obtain⟨m4,hn4,_⟩:=I4.loc;obtain⟨oC,es4,ep4,e4,r4⟩:=id hn4;have Wk:s2.heap.objs.size<=C:=by rw[hDD];exact Wj
    have IX:Inv X pins σ H3 s4:=I2.KG (ch:=fp) I4.os I4.base I4.hok I4.bare λb hb=>⟨(f2 b hb).2.2.2.1,(f2 b hb).2.1,(f2 b hb).2.2.2.2.1,(f2 b hb).2.2.2.2.2⟩
    have fC:=I2.BJ (H':=H3) Wk I4.free;have IX2:Inv X (pins++[(C,oC)]) σ H3 s4:=IX.BH λp hp=>(List.mem_append.mp hp).elim (λz=>IX.pin p (me _ z)) λz=>by
     have e:p=(C,oC):=by simpa using z
     subst e;exact⟨e4,fC.1,fC.2.1,fC.2.2.1,λv z=>by rw[r4.1]at z;cases z⟩
    exact hRR D C H3 s4 oC m4 IX2 e4 hn4 (om I2.sz Wk) fC.2.2.2.2.1 fC.2.2.2.2.2 qn
   ·refine thn (T.item (iI X x M scope cl C s2 H2 fp) rfl rfl rfl hc i [] s3 _ H3 _ I3 (stat fr3) st3 go) λr s4 ⟨u,hr,h4⟩=>?_
    subst hr;have e0:∀k:Sem Unit,(letOwnedTupleGo (.Name x px) (.ref it) u >>= λ_=>k)=k:=λk=>by
     rw[show letOwnedTupleGo (.Name x px) (.ref it) u=pure () from rfl,pure_bind]
    show wpAny _ _ (assign (.Name x px) (compEnvC scope cl C X.env) u) _ _ s4;rw[<-e0 (assign (.Name x px) (compEnvC scope cl C X.env) u)];refine de (thn h4 λ_ s5 ⟨xv,H5,I5,r5,y5,st5,fr5⟩=>?_)
    have I5':=I5.pinned (stat fr5) (T.obj _ _ st5);have hxl:(iI X x M scope cl C s2 H2 fp).env.scope.names.lookup x=some .local:=lookup_relabel_local S.hx;refine wpAny_assign_Name (pX (X:=iI X x M scope cl C s2 H2 fp) (i:=0) I5' ndY rfl (aec hxl) r5 (λs6 I6=>?_) (.inr hxl))
    refine wpAny_tests_nil ?_;rw[if_pos rfl];refine adm (he cl C s2 H2 fp _ s6 _ H5 _ I6 (step xv H5 y5)) (λy s7 ⟨yv,H7,I7,r7,hD7,m',hm',w7⟩=>?_) (λ_ _ f=>f.elim)
    refine adm (gD (X:=iI X x M scope cl C s2 H2 fp) _ s7 _ H7 (.ref D) [yv] (.ref D) [y] (λ_ H8=>H8=upd H7 D (.lst (ys++[yv]))) I7 rfl (.cons r7 .nil) ⟨D,ys,yv,rfl,rfl,hD7,hsz,rfl⟩)
     (λ_ s8 ⟨_,H8,I8,_,e8⟩=>?_) (λ_ _ f=>f.elim)
    subst e8;refine⟨m',hm',i+1,some xv,ys++[yv],_,I8.lz,T.keep _ _ _ st5 λb hb o e=>(I8.pin (b,o) (me _ (me _ (oj hb e)))).1,λb hb=>?_,w7⟩
    obtain⟨o,e,d⟩:=T.obj _ _ st5 b hb;exact(I8.pin (b,o) (me _ (me _ (oj hb e)))).2.1
  ·show (upd H2 D (.lst [])) b=none;rw[aw (ad6 (fo b hb))];exact(f2 b hb).1
 exact codeAny_compStart_list loop (T.self _ 0 _ _ _ st1 loop)
theorem tH (S:cV scope X.env.scope x X.N M)(hc:X.calm=true)(hi:PI X (.Name x px) iter wi)(he:∀cl C s H fp,PE (iI X x M scope cl C s H fp) elt te)
  (hs:∀x,foldedSetIterable iter X.env x=pure x:=by intro _;rfl):PE X (.ListComp elt [⟨.Name x px,iter,[],0⟩] scope pos) (Le wi te):=by
 intro pins s σ H Q I h;obtain⟨cl,Lg,p1,p3⟩:=AQ (scope:=scope) (env:=X.env) (λy hy hf=>I.ok.has y.1 (.inl (S.free y hy hf)))
 rw[eval_ListComp];refine wpAny_comprehension_free (use:=none) rfl hs Lg S.kind S.names (AR (RR:=λacc C=>compPost (model X.prog X.w) X.A X.xe none (EP X pins σ Q) acc C) S hc hi he I h p1 p3 ?_)
 intro D C H' s' o m I' e hn h0 h1 h2 q;refine⟨m,hn,λh' hs'=>?_⟩
 have pC:=I'.pin (C,o) (me _ (me _ (by simp)))
 have IX:Inv X pins σ H' s':=I'.lz;exact⟨.ref D,H',IX.turned (t':=s'.toks) (λb ob hb e=>(hs'.2 b hb).trans e) pC.2.1 pC.2.2.1 (.inr h0) h1 h2,rfl,q⟩
theorem yC {i:Nat}{y:Str}{py Wl:Pos}(S:cV scope X.env.scope x X.N M)(hc:X.calm=true)(hj:X.N[i]?=some y)(hy:Loc X.env.scope y)(hi:PI X (.Name x px) iter wi)(he:∀cl C s H fp,PE (iI X x M scope cl C s H fp) elt te)
  (hsw:swapsWith (.ListComp elt [⟨.Name x px,iter,[],0⟩] scope pos) (some (.Name y py)) Wl.line X.env=pure true:=by rfl)
  (hf:X.fn y=true\/X.env.scope.names.lookup y=some .local:=by first | exact .inl rfl | exact .inr rfl | assumption)
  (hs:∀x,foldedSetIterable iter X.env x=pure x:=by intro _;rfl):PS X (.Assign [.Name y py] (.ListComp elt [⟨.Name x px,iter,[],0⟩] scope pos) Wl) (NY (Le wi te) (df i)):=by
 intro pins s σ H D I h;obtain⟨cl,Lg,p1,p3⟩:=AQ (scope:=scope) (env:=X.env) (λy hy hf=>I.ok.has y.1 (.inl (S.free y hy hf)))
 rw[exec_Assign_Name_used _ _ _ _ hsw];refine de (aeK (de ?_));show wpAny _ _ (do let _ <-comprehension (.ListComp elt [⟨.Name x px,iter,[],0⟩] scope pos) scope X.env _ (newList []) false (eval iter X.env) (some (assign (.Name y py) X.env))) _ _ s
 refine de (adm (wpAny_comprehension_free (use:=some (assign (.Name y py) X.env)) (Q:=λ_ s'=>SP X pins D .next s') rfl hs Lg S.kind S.names
  (AR (RR:=λacc C=>compPost (model X.prog X.w) X.A X.xe (some (assign (.Name y py) X.env)) (λ_ s'=>SP X pins D .next s') acc C) S hc hi he I h p1 p3 ?_)) (λ_ s' hq=>ma (ma hq)) λ_ _ e=>e)
 intro Dd C H' s' o m I' e hn h0 h1 h2 q;show wpAny _ _ (assign (.Name y py) X.env (.ref Dd)) _ _ s';refine wpAny_assign_Name (pX I' S.nd hj hy (v:=.ref Dd) rfl (λs'' I''=>?_) hf)
 have pC:=I''.pin (C,o) (me _ (me _ (by simp)))
 obtain⟨o',es,ep,e0,r⟩:=hn;rw[e]at e0;cases e0;have IX:Inv X pins _ H' s'':=I''.lz;refine⟨m,⟨o,es,ep,pC.1,r⟩,λh' hs'=>?_⟩
 exact⟨_,H',IX.turned (t':=s''.toks) (λb ob hb e=>(hs'.2 b hb).trans e) pC.2.1 pC.2.2.1 (.inr h0) h1 h2,q⟩
def gg (D:Addr)(n:Nat)(Pv:Nat->List V->Hp->Prop)(i:Nat)(ys:List V):VK:=λy H4=>H4 D=some (.lst ys)/\∃m',m' < n - i/\m'=n - (i+1)/\i+1<=n/\Pv (i+1) (ys++[y]) (upd H4 D (.lst (ys++[y])))
theorem gg.mk {D:Addr}{n:Nat}{Pv:Nat->List V->Hp->Prop}{i:Nat}{ys:List V}{y:V}{H4:Hp}(hi:i < n)(h1:H4 D=some (.lst ys))(h2:Pv (i+1) (ys++[y]) (upd H4 D (.lst (ys++[y])))):gg D n Pv i ys y H4 :=
 ⟨h1,n - (i+1),by omega,rfl,hi,h2⟩
theorem rb {K:ba}{a D:Addr}{xs:List V}{te:TE}{Q:VK}{σ:St}{H1:Hp}(Pv:Nat->List V->Hp->Prop)(h0:Pv 0 [] (upd H1 D (.lst [])))(hz:xs.length<=gp)
  (hl:∀i ys H2,i<=xs.length->Pv i ys H2->SqL K H2 a xs/\H2 D=some (.lst ys)/\ys.length=i)
  (hs:∀i x ys H2,xs[i]?=some x->Pv i ys H2->te (some x::σ) H2 (gg D xs.length Pv i ys)) (hd:∀ys H2,Pv xs.length ys H2->Q (.ref D) H2) :
  qa (Itl K a) te σ D H1 Q:=by
 refine⟨λi m ys H=>m=xs.length - i/\i<=xs.length/\Pv i ys H,⟨xs.length,by simp,aeM _,h0⟩,?_⟩
 rintro i m ys H2 ⟨rfl,hi,p⟩;obtain⟨q,q2,q3⟩:=hl i ys H2 hi p;refine⟨q2,?_⟩
 by_cases hlt:i < xs.length
 ·refine .inr ⟨⟨xs,xs[i],q,by simp[hlt]⟩,by omega,λx H3 y=>?_⟩
  obtain⟨e,y⟩:=y;subst e;exact hs i x ys _ (y xs q) p
 ·have e:i=xs.length:=by omega
  subst e;exact .inl ⟨⟨xs,q,kg _⟩,hd ys H2 p⟩
theorem Gi {lo:Int}{n:Nat}{D:Addr}{te:TE}{Q:VK}{σ:St}{H1:Hp}(Pv:Nat->List V->Hp->Prop)(h0:Pv 0 [] (upd H1 D (.lst [])))(hz:n<=gp)
  (hl:∀i ys H2,i<=n->Pv i ys H2->H2 D=some (.lst ys)/\ys.length=i)
  (hs:∀i ys H2,i < n->Pv i ys H2->te (some (.int (lo+i))::σ) H2 (gg D n Pv i ys)) (hd:∀ys H2,Pv n ys H2->Q (.ref D) H2) :
  qa (Itr lo n) te σ D H1 Q:=by
 refine⟨λi m ys H=>m=n - i/\i<=n/\Pv i ys H,⟨n,by simp,aeM _,h0⟩,?_⟩
 rintro i m ys H2 ⟨rfl,hi,p⟩;obtain⟨q2,q3⟩:=hl i ys H2 hi p;refine⟨q2,?_⟩
 by_cases hlt:i < n
 ·refine .inr ⟨hlt,by omega,λx H3 y=>?_⟩
  obtain⟨e,y⟩:=y;subst e y;exact hs i ys _ hlt p
 ·have e:i=n:=by omega
  subst e;exact .inl ⟨kg _,hd ys H2 p⟩
end
end L2
namespace L2
open PySem PySem.Spec PyProof.Rows
structure MkN (K:ba)(C:Addr):Prop where
 makes:aeA K C=true
 init:bo K (.ref C) "__init__"=some (some (.builtin "object.__init__"))
 kp:da K (.ref C)=true
def RD (C:Addr):TE:=λ_ H Q=>∀x dx,H x=none->H dx=none->dx≠x->Q (.ref x) (upd (upd H dx (.own x)) x (.ins C dx []))
section
variable{X:Cx}{C:Addr}{x:Str}{p pos:Pos}
theorem ny (M:MkN X.K C)(hg:Gl X x)(hm:X.mg x=some (.ref C))(hdb:(x == ("__debug__":Str))=false:=by decide):PE X (.Call (.Name x p) [] [] pos) (RD C):=by
 intro pins s σ H Q I h;refine wpAny_Call_Name_kw (kM I hg hm ?_ hdb);refine PySem.W.callWith_K0 I.kIn M.kp (wpAny_call ?_);have I2:=Inv.made (C:=C) I;have q:=h (s.heap.objs.size+1) s.heap.objs.size (I.hok.fresh (aeS _)) (I.hok.fresh (kg _)) (ad6 (Nat.lt_succ_self _));have fin:EP X pins σ Q (.ref (s.heap.objs.size+1)) { s with heap:=(s.heap.push aeg).push (aen C s.heap.objs.size) }:=⟨.ref _,_,I2,rfl,q⟩
 have X1:=I.kIn;have e2:((s.heap.push aeg).push (aen C s.heap.objs.size)).get? (s.heap.objs.size+1)=some (aen C s.heap.objs.size):=by
  have:=ad3 (s.heap.push aeg) (o:=aen C s.heap.objs.size) rfl
  rwa [Heap.size_push]at this
 clear I2 q h I;obtain⟨hh,g,d,t,os⟩:=s;have Y:=PySem.W.makes_of (M:=model X.prog X.w) X1 M.makes;refine PySem.W.make_core Y (afd X1 M.init) (λself=>PySem.W.Looks.of_pure (PySem.W.oi_bind self)) (.inr ⟨rfl,rfl⟩) ?_
 have t1:PySem.W.Looks (model X.prog X.w) ((hh.push aeg).push (aen C hh.objs.size)) (typeOf (.ref (hh.objs.size+1))) (.ref C):=(PySem.W.Looks.ld e2).andThen .now;have t2:PySem.W.Looks (model X.prog X.w) ((hh.push aeg).push (aen C hh.objs.size)) (isInstance (.ref (hh.objs.size+1)) (.type "object")) true:=t1.andThen (Y.top.keeps λb o e=>gc _ (gc _ e))
 refine codeAny_call_builtin PySem.W.oi_plain PySem.W.entry_oi (@PySem.W.check_slot (model X.prog X.w) _ _ _ "object.__init__" "object" "__init__" (.ref (hh.objs.size+1)) [] [] _ PySem.W.oi_kind PySem.W.oi_split t2 (PySem.W.oi_args (.ref (hh.objs.size+1))) ?_);show wpAny _ _ (Builtin.«object.__init__» ⟨[.ref (hh.objs.size+1)],[]⟩) _ _ _;rw[PySem.W.oi_run];exact ma (And.intro rfl fin)
end
structure Wm (P:Params)(K:ba)(a:Addr):Prop where
 ex:∃es n,K.lookup a=some ⟨.type "dict",none,.dict es n,#[]⟩/\PySem.W.KeysLit P es.toList
section
variable{X:Cx}
theorem Lh:IxR X (λx y H Q=>∃a z v u,x=.ref a/\y=.str z/\Wm X.w.params X.K a/\eg X.K a z=some (some u)/\RelV v u/\Q v H):=by
 intro value slice pins s σ H x y v u Q I rx ry h hs;obtain⟨a,z,w',u',rfl,rfl,⟨es,n,hl,hk⟩,e,r,q⟩:=h;cases rx;obtain⟨t,rfl⟩:=ry;have hm:=PySem.W.mapOf_K (prog:=X.prog) I.kIn hl hk;exact tail_any hm.typeIs slot_dict_getitem.lookup (wpAny_getItem_of (strKind_is X.prog X.w z t) hm (PySem.W.find_K hl e) ⟨w',H,I.tok _,r,q⟩) hs
end
end L2
namespace L2
open PySem PySem.Spec PyProof.Rows
theorem Oh (bs:List Bool):(List.range bs.length).any (λi=>bs.getD i false)=bs.any id:=by
 have e:(List.range bs.length).map (λi=>bs.getD i false)=bs:=by
  apply List.ext_getElem
  ·simp
  ·intro i h1 h2;simp[h2]
 calc _=((List.range bs.length).map (λi=>bs.getD i false)).any id:=by rw[List.any_map];rfl
  _=_:=by rw[e]
theorem Dk:∀ {bs:List Bool} {us:List Value},Vals (bs.map V.bl) us->us=bs.map Value.bool
 |[],_,.nil=>rfl
 |b::bs,_,.cons r t=>by
  cases r;rw[Dk t];rfl
section
variable{X:Cx}
theorem Li (hc:X.calm=true):mw X (.builtin "any") (λxs H Q=>∃(p:Addr) (bs:List Bool),xs=[.ref p]/\SqL X.K H p (bs.map V.bl)/\Q (.bl (bs.any id)) H):=by
 intro pins s σ H xs us Q I r h;obtain⟨p,bs,rfl,hq,q⟩:=h;obtain⟨u,rfl,rx⟩:=vals1 r;cases rx;obtain⟨its,rv,pl,hz⟩:=I.list hq;obtain rfl:=Dk rv;refine call_any_walk (wpAny_pyIter_list pl.isList ?_);obtain⟨o,n,e,_⟩:=id pl;have hlt:p < s.heap.objs.size:=kx e;refine⟨s.heap.objs.size,_,_,_,_,_,λi=>bs.getD i false,rfl,Walks.list (A:=X.A.in1) (show X.A.in1.handled=none from I.ok.hd hc) s.heap.objs.size p (ad6 hlt) (bs.map Value.bool).toArray,⟨⟨_,ad3 _ rfl,rfl,rfl⟩,pl.isList.at λo e=>gc _ e⟩,?_,λh' tk kk=>?_⟩
 ·intro i v s' Q' E' hv q';have hv':v=Value.bool (bs.getD i false):=by
   have h2:(bs.map Value.bool)[i]?=some v:=by simpa using hv
   rw[aeD]at h2;cases hb:bs[i]? with
   |none=>rw[hb]at h2;cases h2
   |some b =>
    rw[hb]at h2;rw[wt,hb];exact(ad8 h2).symm
  rw[hv'];exact wpAny_truthy_bool q'
 ·have I1:Inv X pins σ H { s with heap:=h',toks:=tk }:=I.kept λb o e=>kk b o (by simp;exact ad6 (kx e)) (gc _ e)
  refine⟨.bl _,H,I1,rfl,?_⟩;have e1:(bs.map Value.bool).toArray.size=bs.length:=by simp
  rw[e1,Oh];exact q
end
end L2
set_option maxHeartbeats 4000000
namespace L2
open PySem PySem.Spec PyProof.Rows
def Wn (X:Cx)(pins:List (Addr×Obj))(H:Hp)(h:Heap)(e:Addr)(vs:Array Value):Option Value->Prop
 |none=>vs[1]?=some .none
 |some m=>∃(T:Addr) (oT:Obj) (ts:Array Value),vs[1]?=some (.ref T)/\T≠e/\j6 X pins H T/\h.get? T=some oT/\oT.data=.fields ts/\ts[3]?=some m
structure XAt (X:Cx)(pins:List (Addr×Obj))(H:Hp)(h:Heap)(e:Addr)(cls:Value)(xd:Option Addr)(m:Option Value):Prop where
 ok:j6 X pins H e
 ex:∃(sl:Array (Option Value)) (vs:Array Value),h.get? e=some ⟨cls,xd,.fields vs,sl⟩/\1 < vs.size/\Wn X pins H h e vs m
def MOk (_:Cx)(m:Option Value):Prop:=m=none\/m=some .none\/∃v,m=some v
def XP (X:Cx)(pins:List (Addr×Obj))(σ:St)(E:XK)(e:Value)(s':Shared):Prop :=
 ∃(ea:Addr) (cls:Value) (xd:Option Addr) (m:Option Value) (H':Hp),e=.ref ea/\Inv X pins σ H' s'/\XAt X pins H' s'.heap ea cls xd m/\MOk X m/\E cls xd H'
abbrev SXK:=St->XK
def XPS (X:Cx)(pins:List (Addr×Obj))(E:SXK)(e:Value)(s':Shared):Prop:=∃σ',XP X pins σ' (E σ') e s'
structure Fr1 (X:Cx):Prop where
 stk:X.stack=X.env::X.outer
 fr:X.env.frame=some X.env.locals
section
variable{X:Cx}{pins:List (Addr×Obj)}{σ:St}{H H':Hp}{s:Shared}{e:Addr}{cls:Value}{xd:Option Addr}{m:Option Value}
theorem j6.abO {b:Addr}(I:Inv X pins σ H s)(f:j6 X pins H' b):b∉frs X.stack:=λz=>by
 rcases List.mem_cons.mp (I.BF b z) with q | q
 ·exact f.2.1 q
 ·exact f.2.2.1 q
theorem j6.drop {pl:List (Addr×Obj)}{b:Addr}(f:j6 X (pins++pl) H b):j6 X pins H b :=
 ⟨f.1,f.2.1,f.2.2.1,f.2.2.2.1,f.2.2.2.2.1,λp hp=>f.2.2.2.2.2 p ((List.mem_append.mp hp).elim (λz=>aex _ z) λz=>me _ (aex _ z))⟩
theorem j6.clear {b:Addr}(f:j6 X pins H b):j6 X [] H b :=
 ⟨f.1,f.2.1,f.2.2.1,f.2.2.2.1,f.2.2.2.2.1,λp hp=>f.2.2.2.2.2 p ((List.mem_append.mp hp).elim (λz=>aex _ z) λz=>nomatch z)⟩
theorem XAt.drop {pl:List (Addr×Obj)}{h:Heap}(x:XAt X (pins++pl) H h e cls xd m):XAt X pins H h e cls xd m:=by
 obtain⟨ok,sl,vs,he,hz,hm⟩:=x;refine⟨ok.drop,sl,vs,he,hz,?_⟩;cases m with
 |none=>exact hm
 |some m=>obtain⟨T,oT,ts,a,b,c,d⟩:=hm;exact⟨T,oT,ts,a,b,c.drop,d⟩
theorem XAt.clear {h:Heap}(x:XAt X pins H h e cls xd m):XAt X [] H h e cls xd m:=by
 obtain⟨ok,sl,vs,he,hz,hm⟩:=x;refine⟨ok.clear,sl,vs,he,hz,?_⟩;cases m with
 |none=>exact hm
 |some m=>obtain⟨T,oT,ts,a,b,c,d⟩:=hm;exact⟨T,oT,ts,a,b,c.clear,d⟩
theorem XP.drop {pl:List (Addr×Obj)}{E:XK}{v:Value}(x:XP X (pins++pl) σ E v s):XP X pins σ E v s:=by
 obtain⟨ea,cls,xd,m,H',rfl,I,hx,hm,q⟩:=x;exact⟨ea,cls,xd,m,H',rfl,I.lz,hx.drop,hm,q⟩
theorem RE {h':Heap}(I:Inv X pins σ H s)(he:j6 X pins H e)(k1:∀b o,b∉frs X.stack->b≠e->s.heap.get? b=some o->h'.get? b=some o)
  (k2:∀b o,b≠e->s.heap.get? b=some o->∃sl,h'.get? b=some { o with slots:=sl }):Un (frs X.stack) [e] H H s.heap h'/\HOk X.prog X.w H h':=by
 refine⟨⟨λb o q _ hb hx=>k1 b o hb (by simpa using hx) q,λb o q _ _ hx=>k2 b o (by simpa using hx) q,λb o _ n _=>n,λb o q hx=>?_,λ_ _ q=>q,λ_ _ _ q=>q,λ_ ps q=>⟨#[],by rw[q];simp⟩⟩,λa o q=>?_⟩
 ·obtain⟨sl,z⟩:=k2 b o (by simpa using hx) q
  exact⟨_,z⟩
 ·refine(I.hok a o q).Ac (λb u hb r=>k1 b u (λz=>?_) (λz=>?_) r) (λ_ z=>z) (λ_ _ z=>z)
  ·have n:=I.BG b z;rcases hb with rfl | hb
   ·rw[q]at n;cases n
   ·rw[hb]at n;cases n
  ·have n:=he.1;rw[<-z]at n;rcases hb with rfl | hb
   ·rw[q]at n;cases n
   ·rw[hb]at n;cases n
theorem Oi {h':Heap}(I:Inv X pins σ H s)(he:j6 X pins H e)(k1:∀b o,b∉frs X.stack->b≠e->s.heap.get? b=some o->h'.get? b=some o)
  (k2:∀b o,b≠e->s.heap.get? b=some o->∃sl,h'.get? b=some { o with slots:=sl }):Inv X pins σ H { s with heap:=h' }:=by
 obtain⟨u,ok⟩:=RE I he k1 k2;refine I.call (g':=s.gens) (t':=s.toks) (d':=s.drawn) u ok I.bare λb hb=>?_
 obtain rfl:b=e:=by simpa using hb
 exact⟨he.2.2.2.1,he.2.1,he.2.2.2.2.1,he.2.2.2.2.2⟩
theorem IC {M:Model}{A:Around}{E:Value->Shared->Prop}{head:Value}{Oj:Bool}{sl:Array (Option Value)}{vs:Array Value}{Q:Unit->Shared->Prop}(F:Fr1 X)(hA:A.frames=some X.stack)(I:Inv X pins σ H s)(ok:j6 X pins H e)
  (he:s.heap.get? e=some ⟨cls,xd,.fields vs,sl⟩) (hz:1 < vs.size) (h:∀s',Inv X pins σ H s'->XAt X pins H s'.heap e cls xd (some (rawInt X.env.locals))->Q () s') :
  wpAny M A (do let a <-frameOf X.env;let pl <-entryPlaceOf X.env.locals Oj;let b <-EntryCells.newEntry head a .none (rawInt X.env.locals) .none pl;setField (.ref e) 1 b) Q E s:=by
 have nE:e∉frs X.stack:=ok.abO I;have fs:=I.stack;rw[F.stk]at hA fs nE;refine de (wpAny_frameOf_fun hA fs F.fr λh₁ so=>?_)
 refine de (wpAny_entryPlaceOf λpl hpl=>?_)
 unfold EntryCells.newEntry newFields;refine de (wpAny_newObj_type ?_ (hpl.sizeOk5 _ _ _ _ _));generalize ht:([head,.ref X.env.locals,.none,rawInt X.env.locals,.none]++(if pl.isEmpty then List.replicate 6 afe else pl)).toArray=ts
 have t3:ts[3]?=some (rawInt X.env.locals):=by rw[<-ht];simp
 have e1:h₁.get? e=some ⟨cls,xd,.fields vs,sl⟩:=(so.2.1 e nE).trans he;have e2:=gc (h:=h₁) { cls:=.type "traceback",dict:=none,data:=.fields ts } e1;refine wpAny_setField e2 rfl hz ?_;have sz:h₁.objs.size=s.heap.objs.size:=so.1;have nT:h₁.objs.size≠e:=Nat.ne_of_gt (kx e1);have k0:∀b o,b≠e->h₁.get? b=some o->((h₁.push { cls:=.type "traceback",dict:=none,data:=.fields ts }).update e (aeO (·.setIfInBounds 1 (sr h₁.objs.size)))).get? b=some o:=λb o hb q =>
  (aez _ _ (ad9 hb)).trans (gc _ q)
 have I':=Oi (h':=(h₁.push { cls:=.type "traceback",dict:=none,data:=.fields ts }).update e (aeO (·.setIfInBounds 1 (sr h₁.objs.size)))) I ok
  (λb o hb hbe q=>k0 b o hbe ((so.2.1 b (by rw[<-F.stk];exact hb)).trans q)) (λb o hbe q=>by obtain⟨sl,z⟩:=so.2.2 b o q;exact⟨sl,k0 b _ hbe z⟩)
 have fT:j6 X pins H h₁.objs.size:=I.BJ (by rw[sz];exact kg _) (by rw[sz];exact I.fresh)
 have gE:((h₁.push { cls:=.type "traceback",dict:=none,data:=.fields ts }).update e (aeO (·.setIfInBounds 1 (sr h₁.objs.size)))).get? e=some ⟨cls,xd,.fields (vs.setIfInBounds 1 (sr h₁.objs.size)),sl⟩ :=
  aeV (aeO (·.setIfInBounds 1 (sr h₁.objs.size))) e2 rfl
 have gT:((h₁.push { cls:=.type "traceback",dict:=none,data:=.fields ts }).update e (aeO (·.setIfInBounds 1 (sr h₁.objs.size)))).get? h₁.objs.size=some { cls:=.type "traceback",dict:=none,data:=.fields ts } :=
  (aez _ _ (ad9 nT)).trans (ad3 h₁ rfl)
 exact h _ I' ⟨ok,sl,_,gE,by simpa using hz,h₁.objs.size,_,ts,by simp[hz],nT,fT,gT,rfl,t3⟩
theorem qb {M:Model}{A:Around}{E:Value->Shared->Prop}{f:Option Addr}{mv:Value}{Q:Unit->Shared->Prop}(I:Inv X pins σ H s)(x:XAt X pins H s.heap e cls xd (some mv))
  (h:∀s',Inv X pins σ H s'->XAt X pins H s'.heap e cls xd (some (f.elim .none λb=>rawInt b))->Q () s'):wpAny M A (setFlight (.ref e) f) Q E s:=by
 obtain⟨ok,sl,vs,he,hz,T,oT,ts,h1,nT,fT,hT,hd,h3⟩:=x;unfold setFlight;refine de (wpAny_field he rfl h1 ?_);rw[if_pos (show (sr T != afe)=true by simp)]
 have z3:3 < ts.size:=(Array.getElem?_eq_some_iff.mp h3).1;refine wpAny_setField hT hd z3 ?_;have other:∀b,b≠T->(s.heap.update T (aeO (·.setIfInBounds 3 (f.elim afe λb=>rawInt b)))).get? b=s.heap.get? b:=λb hb=>aez _ _ (ad9 hb)
 have I':=I.turned (t':=s.toks) (h':=s.heap.update T (aeO (·.setIfInBounds 3 (f.elim afe λb=>rawInt b)))) (λb o hb q=>(other b hb).trans q) fT.1 fT.2.1 fT.2.2.2.1 fT.2.2.2.2.1 fT.2.2.2.2.2
 exact h _ I' ⟨ok,sl,vs,(other e (ad9 nT)).trans he,hz,T,_,_,h1,nT,fT,aeV _ hT (Obj.isFreed_of_fields (Obj.data_mapFields hd _)),Obj.data_mapFields hd _,by simp[z3]⟩
theorem Lj {M:Model}{A:Around}{E:Value->Shared->Prop}{Q:Unit->Shared->Prop}(F:Fr1 X)(hA:A.frames=some X.stack)(I:Inv X pins σ H s)(x:XAt X pins H s.heap e cls xd m)(hm:MOk X m)
  (h:∀s',Inv X pins σ H s'->XAt X pins H s'.heap e cls xd (some (rawInt X.env.locals))->Q () s'):wpAny M A (noteFrame (.ref e) X.env) Q E s:=by
 obtain⟨ok,sl,vs,he,hz,hv⟩:=x;unfold noteFrame;simp only[F.fr];cases m with
 |none =>
  refine de (wpAny_field he rfl hv ?_);rw[if_neg (by decide)]
  exact IC F hA I ok he hz h
 |some mv =>
  obtain⟨T,oT,ts,h1,nT,fT,hT,hd,h3⟩:=hv;refine de (wpAny_field he rfl h1 ?_);rw[if_pos (show (sr T != afe)=true by simp)]
  refine de (wpAny_field hT hd h3 ?_)
  by_cases hmv:mv=rawInt X.env.locals
  ·subst hmv;rw[if_pos (show (rawInt X.env.locals == rawInt X.env.locals)=true by simp)]
   exact ma (h s I ⟨ok,sl,vs,he,hz,T,oT,ts,h1,nT,fT,hT,hd,h3⟩)
  ·rw[if_neg (show ¬(mv == rawInt X.env.locals)=true from λz=>hmv (beq_iff_eq.mp z))]
   have z3:3 < ts.size:=(Array.getElem?_eq_some_iff.mp h3).1;refine de (wpAny_setField hT hd z3 ?_);have other:∀b,b≠T->(s.heap.update T (aeO (·.setIfInBounds 3 afe))).get? b=s.heap.get? b:=λb hb=>aez _ _ (ad9 hb)
   have I':=I.turned (t':=s.toks) (h':=s.heap.update T (aeO (·.setIfInBounds 3 afe))) (λb o hb q=>(other b hb).trans q) fT.1 fT.2.1 fT.2.2.2.1 fT.2.2.2.2.1 fT.2.2.2.2.2
   exact IC F hA I' ok ((other e (ad9 nT)).trans he) hz h
end
abbrev CXX (P:ku)(w:World):CXT:=λouter H s E e s'=>∃(ea T:Addr) (cls:Value) (xd:Option Addr) (H':Hp),e=.ref ea/\s'.os=s.os/\AllBare s'.gens/\Un (frs outer) [] H H' s.heap s'.heap/\HOk P w H' s'.heap /\
 (H' ea=none/\s.heap.objs.size<=ea)/\(H' T=none/\s.heap.objs.size<=T)/\T≠ea /\
 (∃(sl:Array (Option Value)) (vs:Array Value) (oT:Obj) (ts:Array Value),s'.heap.get? ea=some ⟨cls,xd,.fields vs,sl⟩/\1 < vs.size/\vs[1]?=some (.ref T)/\s'.heap.get? T=some oT/\oT.data=.fields ts/\ts[3]?=some .none)/\E cls xd H'
section
variable{X:Cx}{pins:List (Addr×Obj)}{σ:St}{H:Hp}{s s':Shared}
theorem RF {E:XK}{e:Value}(I:Inv X pins σ H s)(h:CXX X.prog X.w X.stack H s E e s'):XP X pins σ E e s':=by
 obtain⟨ea,T,cls,xd,H',rfl,os,bare,un,hok,⟨e1,e2⟩,⟨t1,t2⟩,ne,⟨sl,vs,oT,ts,g1,g2,g3,g4,g5,g6⟩,q⟩:=h;have I':Inv X pins σ H' s':=I.KG (ch:=[]) os un hok bare λb z=>absurd z (by simp)
 exact⟨ea,cls,xd,some .none,H',rfl,I',⟨I.BJ e2 e1,sl,vs,g1,g2,T,oT,ts,g3,ne,I.BJ t2 t1,g4,g5,g6⟩,.inr (.inl rfl),q⟩
theorem cY:Passes (CXX X.prog X.w) X E0:=λ_ _ _ _ _ _ _ ⟨_,_,_,_,_,_,_,_,_,_,_,_,_,_,z⟩=>z.elim
end
section
variable{P:ku}{w:World}{K:ba}{mg:Str->Option Value}{base:Heap}{k:Nat}{f:Addr}{fd:gr}{ps:List Str}{sp:Sp}
theorem ay.calm (F:ay P w K mg base (CXX P w) k f fd ps sp)(h:∀vs H Q E,sp vs H Q E->sp vs H Q E0):ay P w K mg base CX0 k f fd ps sp:=by
 refine⟨F.len,λA outer s H args us vs Q E hr he hb hv hs=>codeAny_mono (F.run A outer s H args us vs Q E0 hr he hb hv (h _ _ _ _ hs)) λr s' q=>?_⟩
 cases r with
 |error e=>obtain⟨_,_,_,_,_,_,_,_,_,_,_,_,_,_,z⟩:=q;exact z.elim
 |ok fl=>cases fl <;> exact q
theorem Ol {N:List Str}{qual:Str}{scope:Scope}{cd:Value}{A:Around}{outer:List Env}{s s':Shared}{H:Hp}{E:XK}{e:Value}{pins:List (Addr×Obj)}
  (h:XPS (tE (CXX P w) P w K mg base N qual scope f cd A outer s H E) pins (λ_=>E) e s'):(tE (CXX P w) P w K mg base N qual scope f cd A outer s H E).xe e s':=by
 obtain⟨σ',ea,cls,xd,m,H',rfl,I,hx,hm,q⟩:=h;have fr:(tE (CXX P w) P w K mg base N qual scope f cd A outer s H E).A.frames=some (tE (CXX P w) P w K mg base N qual scope f cd A outer s H E).stack:=I.ok.frames;have F1:Fr1 (tE (CXX P w) P w K mg base N qual scope f cd A outer s H E):=⟨rfl,rfl⟩;show wpAny _ _ (leaving (tE (CXX P w) P w K mg base N qual scope f cd A outer s H E).env (.ref ea)) _ _ s';unfold leaving;refine de (Lj F1 fr I hx hm λs1 I1 x1=>qb I1 x1 λs2 I2 x2=>?_)
 obtain⟨ok,sl,vs,he,hz,T,oT,ts,h1,nT,fT,hT,hd,h3⟩:=x2;have old:∀ {b:Addr},j6 (tE (CXX P w) P w K mg base N qual scope f cd A outer s H E) pins H' b->s.heap.objs.size<=b:=λ{b} z=>by
  rcases z.2.2.2.1 with y | y
  ·exact absurd (show b∈([]:List Addr) from y) (by simp)
  ·exact y
 exact⟨ea,T,cls,xd,H',rfl,I2.os,I2.bare,I2.base,I2.hok,⟨ok.1,old ok⟩,⟨fT.1,old fT⟩,nT,⟨sl,vs,oT,ts,he,hz,h1,hT,hd,h3⟩,q⟩
end
abbrev TEX:=St->Hp->VK->XK->Prop
abbrev TAX:=St->Hp->(List V->Hp->Prop)->XK->Prop
abbrev TSX:=Ends->SXK->St->Hp->Prop
def PEX (X:Cx)(e:Expr)(t:TEX):Prop :=
 ∀(pins:List (Addr×Obj)) (s:Shared) (σ:St) (H:Hp) (Q:VK) (E:XK),Inv X pins σ H s->t σ H Q E->wpAny (model X.prog X.w) X.A (eval e X.env) (EP X pins σ Q) (XP X pins σ E) s
def PAX (X:Cx)(es:List Expr)(t:TAX):Prop :=
 ∀(pos:Pos) (pins:List (Addr×Obj)) (s:Shared) (σ:St) (H:Hp) (Q:List V->Hp->Prop) (E:XK),Inv X pins σ H s->t σ H Q E->wpAny (model X.prog X.w) X.A (spliced (backTo pos (si es X.env))) (AP X pins σ Q) (XP X pins σ E) s
def PSX (X:Cx)(st:Stmt)(t:TSX):Prop :=
 ∀(pins:List (Addr×Obj)) (s:Shared) (σ:St) (H:Hp) (D:Ends) (E:SXK),Inv X pins σ H s->t D E σ H->wpAny (model X.prog X.w) X.A (exec st X.env) (SP X pins D) (XPS X pins E) s
def Dl (X:Cx)(st:List Stmt)(t:TSX):Prop :=
 ∀(pins:List (Addr×Obj)) (s:Shared) (σ:St) (H:Hp) (D:Ends) (E:SXK),Inv X pins σ H s->t D E σ H->wpAny (model X.prog X.w) X.A (execs st X.env) (SP X pins D) (XPS X pins E) s
def RG (te:TE):TEX:=λσ H Q _=>te σ H Q
def RH (ta:TA):TAX:=λσ H Q _=>ta σ H Q
def Ll (ts:TS):TSX:=λD _ σ H=>ts D σ H
def Lm (t1:TEX)(t2:TAX):TAX:=λσ H Q E=>t1 σ H (λx H1=>t2 σ H1 (λxs H2=>Q (x::xs) H2) E) E
def PQ (t1 t2:TSX):TSX:=λD E σ H=>t1 { D with nx:=t2 D E } E σ H
def Wo (tc:TT)(t1 t2:TSX):TSX:=λD E σ H=>tc σ H λd H1=>if d=true then t1 D E σ H1 else t2 D E σ H1
def Ln (t:TEX):TSX:=λD E σ H=>t σ H (λ_ H1=>D.nx σ H1) (E σ)
def PR (t:TEX):TSX:=λD E σ H=>t σ H D.rt (E σ)
def Lo (t:TAX)(sp:Sp):TEX:=λσ H Q E=>t σ H (λvs H1=>sp vs H1 Q E) E
def Lp (C:Addr)(m:Str)(ta:TEX)(t:TAX)(sp:Sp):TEX:=λσ H Q E=>ta σ H (λx H1=>∃a dx fs,x=.ref a/\H1 a=some (.ins C dx fs)/\fs.lookup m=none/\t σ H1 (λvs H2=>sp (x::vs) H2 Q E) E) E
def ID (C:Addr)(m:Str)(ta:TEX)(sp:Sp):TEX:=λσ H Q E=>ta σ H (λx H1=>∃a dx fs,x=.ref a/\H1 a=some (.ins C dx fs)/\fs.lookup m=none/\sp [x] H1 Q E) E
section
variable{X:Cx}{e:Expr}{es:List Expr}{st:Stmt}{sts:List Stmt}{te:TE}{ta:TA}{ts:TS}{pos:Pos}
theorem EP.eA {pins:List (Addr×Obj)}{σ:St}{Q:VK}{u:Value}{s':Shared}{W:Value->Shared->Prop}(h:EP (X.nq W) pins σ Q u s'):EP X pins σ Q u s':=by
 obtain⟨v,H',I,r,q⟩:=h;exact⟨v,H',I.eA,r,q⟩
theorem px (h:PE X.nox e te):PEX X e (RG te):=λpins s σ H Q _ I hw =>
 adm (h pins s σ H Q (I.nq _) hw) (λ_ _ q=>q.eA) λ_ _ z=>aea z
theorem pax (h:PA X.nox es ta):PAX X es (RH ta):=λpos pins s σ H Q _ I hw =>
 adm (h pos pins s σ H Q (I.nq _) hw) (λ_ _ ⟨vs,H',I',r,q⟩=>⟨vs,H',I'.eA,r,q⟩) λ_ _ z=>aea z
theorem psx (h:PS X.nox st ts):PSX X st (Ll ts):=λpins s σ H D _ I hw =>
 adm (h pins s σ H D (I.nq _) hw) (λ_ _ q=>q.eA) λ_ _ z=>aea z
theorem yD (h:PSs X.nox sts ts):Dl X sts (Ll ts):=λpins s σ H D _ I hw =>
 adm (h pins s σ H D (I.nq _) hw) (λ_ _ q=>q.eA) λ_ _ z=>aea z
theorem Om:PAX X [] (λ_ H Q _=>Q [] H):=λ_ _ _ _ H Q _ I h=>Calls.spliced_nil ⟨[],H,I,.nil,h⟩
theorem Dm {t1:TEX}{t2:TAX}(ha:PEX X e t1)(hr:PAX X es t2)(hs:si (e::es) X.env=(false,eval e X.env)::si es X.env:=by rfl) :
  PAX X (e::es) (Lm t1 t2):=by
 intro pos pins s σ H Q E I h;unfold Lm at h;rw[hs];refine Calls.spliced_cons (adm (ha pins s σ H _ E I h) (λu s1 ⟨x,H1,I1,r1,q1⟩=>?_) λ_ _ z=>z)
 exact adm (hr pos pins s1 σ H1 _ E I1 q1) (λus s2 ⟨xs,H2,I2,r2,q2⟩=>⟨x::xs,H2,I2,.cons r1 r2,q2⟩) λ_ _ z=>z
theorem aW {t1 t2:TSX}(h1:PSX X st t1)(h2:Dl X sts t2):Dl X (st::sts) (PQ t1 t2):=by
 intro pins s σ H D E I h;unfold PQ at h;refine wpAny_execs_cons (thn (h1 pins s σ H { D with nx:=t2 D E } E I h) λf s1 q=>?_)
 cases f with
 |next =>
  obtain⟨σ',H',I',q⟩:=q;exact h2 pins s1 σ' H' D E I' q
 |ret v=>exact q
 |brk=>exact q
 |cont=>exact q
theorem bC {t1:TSX}(h1:PSX X st t1):Dl X [st] t1:=by
 intro pins s σ H D E I h;refine wpAny_execs_cons (thn (h1 pins s σ H D E I h) λf s1 q=>?_)
 cases f with
 |next=>exact wpAny_execs_nil q
 |ret v=>exact q
 |brk=>exact q
 |cont=>exact q
theorem i9 {c:Expr}{a b:List Stmt}{tc:TT}{t1 t2:TSX}(hc:PT X.nox c tc)(ha:Dl X a t1)(hb:Dl X b t2):PSX X (.If c a b pos) (Wo tc t1 t2):=by
 intro pins s σ H D E I h;unfold Wo at h;refine wpAny_If (adm (hc pins s σ H _ (I.nq _) h) (λd s1 ⟨H1,I1,q1⟩=>?_) λ_ _ z=>aea z)
 cases d with
 |true=>exact ha pins s1 σ H1 D E I1.eA q1
 |false=>exact hb pins s1 σ H1 D E I1.eA q1
theorem lB {t:TEX}(he:PEX X e t)(hs:swapsWith e none pos.line X.env=pure false:=by rfl):PSX X (.Expr e pos) (Ln t):=by
 intro pins s σ H D E I h;unfold Ln at h;exact wpAny_Expr_any (adm (he pins s σ H _ _ I h) (λv s1 ⟨x,H1,I1,r1,q1⟩=>⟨σ,H1,I1,q1⟩) λ_ _ z=>⟨σ,z⟩) I.quiet hs
theorem Oo {t:TEX}(he:PEX X e t):PSX X (.Return (some e) pos) (PR t):=by
 intro pins s σ H D E I h;unfold PR at h;exact wpAny_Return_some (adm (he pins s σ H _ _ I h) (λv s1 ⟨x,H1,I1,r1,q1⟩=>⟨x,σ,H1,I1,r1,q1⟩) λ_ _ z=>⟨σ,z⟩)
end
section
variable{X:Cx}{k:Nat}{f C:Addr}{fd:gr}{ps:List Str}{sp:Sp}{x m:Str}{p pos apos:Pos}{e o:Expr}{es:List Expr}{t:TAX}
theorem BX {pins:List (Addr×Obj)}{σ:St}{H:Hp}{s:Shared}{Q:VK}{E:XK}{us:List Value}{vs:List V}(F:ay X.prog X.w X.K X.mg X.base (CXX X.prog X.w) k f fd ps sp)(hr:Room k X.A)(hb:Binds X.K fd ps [])
  (I:Inv X pins σ H s) (r:Vals vs us) (h:sp vs H Q E):wpAny (model X.prog X.w) X.A (call (.ref f) us) (EP X pins σ Q) (XP X pins σ E) s:=by
 have hl:(us++[]).length=ps.length:=by rw[afb,<-r.length];exact F.len _ _ _ _ h
 have b:=hb s us I.kIn hl;rw[afb]at b;refine wpAny_call (codeAny_mono (F.run X.A X.stack s H ⟨us,[]⟩ us vs Q E hr I.N2 b r h) λr s' hq=>?_)
 cases r with
 |error e=>exact RF I hq
 |ok fl =>
  cases fl with
  |ret u=>exact I.after hq
  |next=>exact aea hq
  |brk=>exact aea hq
  |cont=>exact aea hq
theorem tI (F:ay X.prog X.w X.K X.mg X.base (CXX X.prog X.w) k f fd ps sp)(hr:Room k X.A)(hg:Gl X x)(hm:X.mg x=some (.ref f))(hk:da X.K (.ref f)=true)(hb:Binds X.K fd ps [])(ha:PAX X (e::es) t)
  (hdb:(x == ("__debug__":Str))=false:=by decide) (he:si (e::es) X.env=(false,eval e X.env)::si es X.env:=by rfl) (hpl:(backTo pos (si es X.env)).any (·.1)=false:=by rfl) :
  PEX X (.Call (.Name x p) (e::es) [] pos) (Lo t sp):=by
 intro pins s σ H Q E I h;unfold Lo at h;refine wpAny_Call_Name_kw (kM I hg hm ?_ hdb);exact afj (h₀:=X.base) I.ok.mod.kin hk (thn (ha pos pins s σ H _ E I h) λus s1 ⟨vs,H1,I1,r,q⟩=>⟨I1.kIn,BX F hr hb I1 r q⟩) he hpl
theorem Dn {pl:Sem Bool}{ta:TEX}(he:PEX X o ta)(c:Cls X.K C)(hm:Meth X.K C m f)(F:ay X.prog X.w X.K X.mg X.base (CXX X.prog X.w) k f fd ps sp)(hr:Room k X.A)(hb:Binds X.K fd ps [])(ha:PAX X (e::es) t)
  (hst:si (e::es) X.env=(false,eval e X.env)::si es X.env:=by rfl) (hpl:(backTo pos (si es X.env)).any (·.1)=false:=by rfl)
  (ht:eval (.Call (.Attribute o m apos) (e::es) [] pos) X.env=(do
   let ov <-eval o X.env
   standAt apos.atName
   let (f,first) <-holding [ov] (getMethod ov m pl)
   callWith pos f first (backTo pos (si (e::es) X.env)) (backToKw pos (keywordEach [] X.env))):=by rfl) :
  PEX X (.Call (.Attribute o m apos) (e::es) [] pos) (Lp C m ta t sp):=by
 intro pins s σ H Q E I h;unfold Lp at h;refine aeJ (pl:=pl) (thn (he pins s σ H _ E I h) λu s1 ⟨x,H1,I1,rx,a,dx,fs,ex,ea,l,q⟩=>?_) ht
 subst ex;obtain rfl:u=sr a:=rx;refine i7 I1 ea c hm l ?_;exact afj (first:=[.ref a]) (h₀:=X.base) I.ok.mod.kin hm.kp (thn (ha pos pins s1 σ H1 _ E I1 q) λus s2 ⟨vs,H2,I2,r,q2⟩=>⟨I2.kIn,BX (us:=.ref a::us) (vs:=.ref a::vs) F hr hb I2 (.cons rfl r) q2⟩) hst hpl
theorem AS {pl:Sem Bool}{ta:TEX}(he:PEX X o ta)(c:Cls X.K C)(hm:Meth X.K C m f)(F:ay X.prog X.w X.K X.mg X.base (CXX X.prog X.w) k f fd ps sp)(hr:Room k X.A)(hb:Binds X.K fd ps [])
  (ht:eval (.Call (.Attribute o m apos) [] [] pos) X.env=(do
   let ov <-eval o X.env
   standAt apos.atName
   let (f,first) <-holding [ov] (getMethod ov m pl)
   callWith pos f first (backTo pos (si [] X.env)) (backToKw pos (keywordEach [] X.env))):=by rfl) :
  PEX X (.Call (.Attribute o m apos) [] [] pos) (ID C m ta sp):=by
 intro pins s σ H Q E I h;unfold ID at h;refine aeJ (pl:=pl) (thn (he pins s σ H _ E I h) λu s1 ⟨x,H1,I1,rx,a,dx,fs,ex,ea,l,q⟩=>?_) ht
 subst ex;obtain rfl:u=sr a:=rx;refine i7 I1 ea c hm l ?_;exact PySem.W.callWith_K0 (first:=[.ref a]) I1.kIn hm.kp (BX (us:=[.ref a]) (vs:=[.ref a]) F hr hb I1 (.cons rfl .nil) q)
end
section
variable{P:ku}{w:World}{K:ba}{mg:Str->Option Value}{base:Heap}
theorem Fun.okX {x qual:Str}{st:Stmt}{f:Addr}{fd:gr}{N ps:List Str}{k:Nat}{sp:Sp}(F:Fun K x qual st f fd)(S:aG N ps (af st))(len:∀vs H Q E,sp vs H Q E->vs.length=ps.length)
  (C8:∀(cdv:Value) (A:Around) (outer:List Env) (s:Shared) (H:Hp) (vs:List V) (Q:VK) (E:XK),Room k (A.deeper (envOfC qual (af st) s.heap.objs.size f cdv))->sp vs H Q E ->
   ∃t,Dl (tE (CXX P w) P w K mg base N qual (af st) f cdv A outer s H E) (aB st) t/\t { nx:=λ_ H'=>Q .non H',rt:=Q } (λ_=>E) (start N vs) H):ay P w K mg base (CXX P w) (k+1) f fd ps sp:=by
 obtain⟨oc,od,kV,doc,pm,an,cdv,ct,osl,rfl,lk,hcd⟩:=F.ex;refine PM lk hcd S len λA outer s H vs Q E hr hsp=>?_
 obtain⟨t,h,q⟩:=C8 cdv A outer s H vs Q E hr hsp;exact⟨λD σ H=>t D (λ_=>E) σ H,λpins s1 σ H1 D I hw=>adm (h pins s1 σ H1 D _ I hw) (λ_ _ z=>z) λ_ _ z=>Ol z,q⟩
end
end L2
set_option maxHeartbeats 4000000
namespace L2
open PySem PySem.Spec PyProof.Rows
def xo (a:Addr)(cls:Value)(xd:Option Addr):HO:=.ext λh=>∃(sl:Array (Option Value)) (vs:Array Value),h.get? a=some ⟨cls,xd,.fields vs,sl⟩
abbrev hcx (X:Cx)(e:Addr):Cx:={ X with A:=X.A.mark (some (.ref e)),calm:=false,xe:=λ_ _=>False }
section
variable{X:Cx}{pins:List (Addr×Obj)}{σ:St}{H:Hp}{s:Shared}{e:Addr}{cls:Value}{xd:Option Addr}{m:Option Value}
theorem Gj (I:Inv X pins σ H s)(e:Addr):Inv (hcx X e) pins σ H s :=
 ⟨⟨I.ok.mod,I.ok.kind,I.ok.glob,I.ok.blt,I.ok.above,I.ok.inj,I.ok.has,I.ok.cab,λz=>absurd (show false=true from z) kj,I.ok.frames,I.ok.stk,I.ok.exf,I.ok.bs,I.ok.bsz,I.ok.FV,I.ok.FW,I.ok.rY,I.ok.frf⟩,I.os,I.bare,I.base,I.loc,I.cell,I.free,I.nk,I.pin,I.hok,I.len⟩
theorem mx (ok:X.Ok)(I:Inv (hcx X e) pins σ H s):Inv X pins σ H s:=⟨ok,I.os,I.bare,I.base,I.loc,I.cell,I.free,I.nk,I.pin,I.hok,I.len⟩
theorem Oq (I:Inv X pins σ H s)(x:XAt X pins H s.heap e cls xd m):Inv X pins σ (upd H e (xo e cls xd)) s:=by
 obtain⟨ok,sl,vs,he,hz,_⟩:=x;have nb:∀b u,H b=some u->b≠e:=λb u q z=>by rw[z,ok.1]at q;cases q
 have hk:HOk X.prog X.w (upd H e (xo e cls xd)) s.heap:=λb u q=>by
  by_cases hb:b=e
  ·subst hb;rw[ae]at q;cases q;exact⟨⟨sl,vs,he⟩,⟨_,he⟩,λh1 h2 ⟨sl',vs',z⟩ k=>⟨sl',vs',k _ z⟩⟩
  ·rw[aw hb]at q;exact(I.hok b u q).Ac (λc v _ r=>r) (λc r=>by rw[aw (nb c _ r)];exact r) λc xs r=>by rw[aw (nb c _ r)];exact r
 exact I.step (g':=s.gens) (t':=s.toks) (d':=s.drawn) (h':=s.heap) (ch:=[e]) (λb hb=>by
   obtain rfl:b=e:=by simpa using hb
   exact⟨ok.2.2.2.1,ok.2.1,ok.2.2.2.2.1,ok.2.2.2.2.2⟩)
  (λ_ _ _ _ _ q _=>q) (λb o _ _ _ q _=>⟨o.slots,q⟩) (λb o hb _ n=>by rw[aw (by simpa using hb)];exact n) (λb o _ q=>⟨o,q⟩)
  (λb xs q=>by rw[aw (nb b _ q)];exact q) (λb o u q=>by rw[aw (nb b _ q)];exact q) (λb ps q=>⟨#[],by rw[aw (nb b _ q),q];simp⟩) (λ_ q=>q) hk I.bare
theorem BY {M:Model}{A:Around}{E:Value->Shared->Prop}{n:Str}{i:Nat}{pos:Pos}{Q:Unit->Shared->Prop}(I:Inv X pins σ H s)(hN:X.N.Nodup)(hi:X.N[i]?=some n)(hl:X.env.kindOf n=some .local)
  (h:∀s',Inv X pins (σ.set i none) H s'->Q () s'):wpAny M A (do bindName X.env n .none;unbindBehindTheSuite X.env n pos) Q E s:=by
 obtain⟨mm,hn,abP⟩:=I.loc;refine wpAny_nameGoes_keeps hl hn (by rw[I.ok.kind];rfl) λh' v hn' sb=>h _ ?_
 have ol:∃o,s.heap.get? X.env.locals=some o/\H X.env.locals=none:=by obtain⟨o,_,_,ho,_⟩:=hn;exact⟨o,ho,I.free⟩
 have keep:∀b o,b≠X.env.locals->s.heap.get? b=some o->h'.get? b=some o:=λb o hb q=>(sb.2 b hb).trans q
 have below:∀ {b:Addr} {o:Obj},X.s₀.heap.get? b=some o->b≠X.env.locals:=λ{b o} q=>ad6 (wa (kx q) I.ok.above)
 refine⟨I.ok,I.os,I.bare,⟨λb o q nn hb hx=>keep b o (below q) (I.base.keep b o q nn hb hx),λb o q nn hb hx=>?_,I.base.free,λb o q hx=>?_,I.base.tf,I.base.rX,I.base.tj⟩,⟨_,hn',λj y w e1 e2 e3=>?_⟩,λy c ec=>?_,I.free,I.nk,λp hp=>?_,λb u q=>?_,by rw[aeT];exact I.len⟩
 ·obtain⟨sl,z⟩:=I.base.slot b o q nn hb hx;exact⟨sl,keep b _ (below q) z⟩
 ·obtain⟨o',z⟩:=I.base.there b o q hx;exact⟨o',keep b _ (below q) z⟩
 ·have hj:j≠i:=λz=>by
   subst z
   by_cases hlt:j < σ.length
   ·rw[List.getElem?_set_self hlt]at e2;cases e2
   ·rw[List.getElem?_eq_none_iff.mpr (by rw[aeT];omega)]at e2;cases e2
  rw[List.getElem?_set_ne (ad9 hj)]at e2;obtain⟨u,r,q⟩:=abP j y w e1 e2 e3;refine⟨u,r,?_⟩;rcases q with ⟨k,z⟩ | ⟨k,c,z,hc⟩
  ·have:y≠n:=λz=>hj (yq hN e1 (z▸hi))
   exact .inl ⟨k,by simp only[this,if_false];exact z⟩
  ·obtain⟨o,ho,hd⟩:=hc;exact .inr ⟨k,c,z,o,keep c o (I.cne y c z) ho,hd⟩
 ·obtain⟨v',o,ho,hd⟩:=I.cell y c ec;exact⟨v',o,keep c o (I.cne y c ec) ho,hd⟩
 ·obtain⟨a1,a2,a3,a4,a5⟩:=I.pin p hp;exact⟨keep p.1 p.2 a3 a1,a2,a3,a4,a5⟩
 ·refine(I.hok b u q).Ac (λc v hc r=>keep c v (λz=>?_) r) (λ_ z=>z) λ_ _ z=>z
  have fr:=I.free;rw[<-z]at fr;rcases hc with rfl | hc
  ·rw[q]at fr;cases fr
  ·rw[hc]at fr;cases fr
end
abbrev THX:=Ends->SXK->St->XK
def Lq (D:Ends)(i:Nat):Ends:={ nx:=λσ H=>D.nx (σ.set i none) H,rt:=D.rt,bk:=λσ H=>D.bk (σ.set i none) H,ct:=λσ H=>D.ct (σ.set i none) H }
def PU (K:ba)(C:Addr)(ts:TS)(tr:THX):THX:=λD E σ cls xd H=>∃b,aeh K cls (.ref C)=some b/\if b=true then ts D σ H else tr D E σ cls xd H
def hAs (K:ba)(C:Addr)(i:Nat)(ts:TS)(tr:THX):THX:=λD E σ cls xd H=>∃b,aeh K cls (.ref C)=some b/\if b=true then ∀ea,H ea=none->ts (Lq D i) (σ.set i (some (.ref ea))) (upd H ea (xo ea cls xd)) else tr D E σ cls xd H
def PV (tb:TSX)(th:THX):TSX:=λD E σ H=>tb D (λσ' cls xd H'=>th D E σ' cls xd H') σ H
def PHX (X:Cx)(hs:List ExceptHandler)(t:THX):Prop :=
 ∀(pins:List (Addr×Obj)) (s:Shared) (σ:St) (H:Hp) (D:Ends) (E:SXK) (ea:Addr) (cls:Value) (xd:Option Addr),Inv X pins σ H s->XAt X pins H s.heap ea cls xd (some .none)->t D E σ cls xd H ->
  wpAny (model X.prog X.w) X.A (handleBy (.ref ea) X.env hs) (SP X pins D) (XPS X pins E) s
section
variable{X:Cx}{x n:Str}{C:Addr}{np pos:Pos}{b₀:Stmt}{IE:List Stmt}{rest:List ExceptHandler}{ts:TS}{tr:THX}
theorem Ot (F:Fr1 X):PHX X [] (λ_ E σ cls xd H=>E σ cls xd H):=by
 intro pins s σ H D E ea cls xd I hx h;refine wpAny_handleBy_nil ?_;unfold PySem.passOn;obtain⟨ok,sl,vs,he,hz,T,oT,ts,h1,r⟩:=id hx;refine de (wpAny_field he rfl h1 ?_);rw[if_neg (show ¬((sr T == afe)=true) by simp)]
 have step:wpAny (model X.prog X.w) X.A (do setFlight (.ref ea) X.env.frame;throw (.ref ea):Sem Flow) (SP X pins D) (XPS X pins E) s :=
  de (qb I hx λs2 I2 x2=>wpAny_throw ⟨σ,ea,cls,xd,_,H,rfl,I2,x2,by rw[F.fr];exact .inr (.inr ⟨_,rfl⟩),h⟩)
 first
  |exact step
  |exact de (ma step)
theorem PX {pins:List (Addr×Obj)}{s:Shared}{σ:St}{H:Hp}{ea:Addr}{cls:Value}{xd:Option Addr}{b:Bool}{E:Value->Shared->Prop}{R:Bool->Shared->Prop}(I:Inv X pins σ H s)(hx:XAt X pins H s.heap ea cls xd (some .none))
  (hg:Gl X x) (hm:X.mg x=some (.ref C)) (eb:aeh X.K cls (.ref C)=some b) (h:R b s) (hd:(x == ("__debug__":Str))=false:=by decide) :
  wpAny (model X.prog X.w) (X.A.mark (some (.ref ea))) (eval (.Name x np) X.env) (λc s₁=>wpAny (model X.prog X.w) (X.A.mark (some (.ref ea))) (excMatches (.ref ea) c) R E s₁) E s:=by
 obtain⟨_,sl,vs,he,_⟩:=hx;refine kM (Gj I ea) hg hm ?_ hd;have lt:PySem.W.Looks (model X.prog X.w) s.heap (typeOf (.ref ea)) cls:=(PySem.W.Looks.ld he).andThen .now;exact PySem.W.exm_one I.kIn lt eb _ _ _ s (λ_ _ q=>q) h
theorem Lr (hg:Gl X x)(hm:X.mg x=some (.ref C))(hs:∀e,PSs (hcx X e) (b₀::IE) ts)(hr:PHX X rest tr)(hd:(x == ("__debug__":Str))=false:=by decide) :
  PHX X (.ExceptHandler (some (.Name x np)) none (b₀::IE) pos::rest) (PU X.K C ts tr):=by
 intro pins s σ H D E ea cls xd I hx h;unfold PU at h;obtain⟨b,eb,h⟩:=h;refine wpAny_handleBy_cons (codeAny_handlers_test (PX I hx hg hm eb ?_ hd)) (by intro q;cases q)
 cases b with
 |true =>
  refine codeAny_handlers_suite (qb I hx λs1 I1 x1=>?_)
  refine adm (hs ea pins s1 σ H D (Gj I1 ea) h) (λf s2 q=>?_) λ_ _ z=>aea z
  cases f with
  |next=>obtain⟨σ',H',I',q⟩:=q;exact⟨σ',H',mx I.ok I',q⟩
  |brk=>obtain⟨σ',H',I',q⟩:=q;exact⟨σ',H',mx I.ok I',q⟩
  |cont=>obtain⟨σ',H',I',q⟩:=q;exact⟨σ',H',mx I.ok I',q⟩
  |ret u=>obtain⟨v,σ',H',I',r,q⟩:=q;exact⟨v,σ',H',mx I.ok I',r,q⟩
 |false=>exact hr pins s σ H D E ea cls xd I hx h
theorem Ls {i:Nat}(hN:X.N.Nodup)(hi:X.N[i]?=some n)(hl:X.env.scope.names.lookup n=some .local)(hg:Gl X x)(hm:X.mg x=some (.ref C))(hs:∀e,PSs (hcx X e) (b₀::IE) ts)(hr:PHX X rest tr)(hd:(x == ("__debug__":Str))=false:=by decide) :
  PHX X (.ExceptHandler (some (.Name x np)) (some n) (b₀::IE) pos::rest) (hAs X.K C i ts tr):=by
 intro pins s σ H D E ea cls xd I hx h;unfold hAs at h;obtain⟨b,eb,h⟩:=h;refine wpAny_handleBy_cons (codeAny_handlers_test (PX I hx hg hm eb ?_ hd)) (by intro q;cases q)
 cases b with
 |true =>
  refine codeAny_handlers_suite_as (qb I hx λs1 I1 x1=>?_)
  refine pX (X:=hcx X ea) (v:=.ref ea) (Gj (Oq I1 x1) ea) hN hi (.inl hl) rfl (λs2 I2=>?_) (.inr hl)
  refine adm (hs ea pins s2 _ _ (Lq D i) I2 (h ea hx.ok.1)) (λf s3 q=>?_) λ_ _ z=>aea z
  show wpAny _ _ _ _ _ _;cases f with
  |next=>obtain⟨σ',H',I',q⟩:=q;exact BY (mx I.ok I') hN hi hl λs4 I4=>⟨_,H',I4,q⟩
  |brk=>obtain⟨σ',H',I',q⟩:=q;exact BY (mx I.ok I') hN hi hl λs4 I4=>⟨_,H',I4,q⟩
  |cont=>obtain⟨σ',H',I',q⟩:=q;exact BY (mx I.ok I') hN hi hl λs4 I4=>⟨_,H',I4,q⟩
  |ret u=>obtain⟨v,σ',H',I',r,q⟩:=q;exact BY (mx I.ok I') hN hi hl λs4 I4=>⟨v,_,H',I4,r,q⟩
 |false=>exact hr pins s σ H D E ea cls xd I hx h
theorem Ou {body:List Stmt}{h₀:ExceptHandler}{hs:List ExceptHandler}{tb:TSX}{th:THX}(F:Fr1 X)(hb:Dl X body tb)(hh:PHX X (h₀::hs) th) :
  PSX X (.Try body (h₀::hs) [] [] pos) (PV tb th):=by
 intro pins s σ H D E I h;unfold PV at h;refine wpAny_Try_except (adm (hb pins s σ H D _ I h) (λf s1 q=>?_) (λv s1 q=>?_))
 ·cases f with
  |next=>exact wpAny_execs_nil q
  |ret v=>exact q
  |brk=>exact q
  |cont=>exact q
 ·obtain⟨σ',ea,cls,xd,m,H',rfl,I1,hx,hm,q⟩:=q;exact Lj F I1.ok.frames I1 hx hm λs2 I2 x2=>qb I2 x2 λs3 I3 x3=>hh pins s3 σ' H' D E ea cls xd I3 x3 q
end
structure GaX (K:ba)(C:Addr):Prop where
 ga:bo K (.ref C) "__getattribute__"=some (some (.builtin "BaseException.__getattribute__"))
 hk:bo K (.ref C) "__getattr__"=some none
 mb:aeB K C (.type "BaseException")=some true
theorem Dp:Slot "ValueError" "__getattribute__" "BaseException.__getattribute__":=F.attr_ValueError.ga
section
variable{prog:ku}{w:World}{A:Around}{E:Value->Shared->Prop}{s:Shared}{K:ba}{x C:Addr}{ox:Obj}{od:Option Obj}{name:Str}
theorem Lu {M:Model}{PY:Value}{Q:Unit->Shared->Prop}(X:K.In s.heap)(I:PySem.W.InstAt s.heap x ox C od)(t:GaX K C)(hq:Q () s) :
  wpAny M A (checkBuiltinCall "BaseException.__getattribute__" ⟨[.ref x,PY],[]⟩) Q E s:=by
 have hk:builtinKind "BaseException.__getattribute__"=some .slot:=by decide +kernel
 have RI:splitId "BaseException.__getattribute__"=some ("BaseException","__getattribute__"):=by decide +kernel
 have L0:=I.type (M:=M);have L1:=PySem.W.looks_mroIn (M:=M) X t.mb;have ha:=F.args_bexc_ga (.ref x) PY;obtain⟨hh,g,d,tt,os⟩:=s;simp only[checkBuiltinCall,hk,RI];refine de ?_;unfold isInstance;refine de (L0.at (L1.at ?_))
 repeat (any_goals (first | assumption | wp_step))
def adQ (v:Value)(Q:Value->Shared->Prop):Fin->Shared->Prop:=λfin s'=>match fin with | .done (.ret u)=>u=v/\Q u s' | _=>False
theorem Lv {tk:Tok}{v:Value}{Q:Fin->Shared->Prop}(X:K.In s.heap)(I:PySem.W.InstAt s.heap x ox C od)(hf:PySem.W.findObj K C od name=some (.value v))(hq:Q (.done (.ret v)) s) :
  wpAny (model prog w) A (Builtin.«object.__getattribute__» ⟨[.ref x,.str name tk],[]⟩) Q E s:=by
 obtain⟨hh,g,d,tt,os⟩:=s;have L0:=I.type (M:=model prog w);have L1:=PySem.W.looks_find (M:=model prog w) X I hf;unfold Builtin.«object.__getattribute__»;refine de (ma (de (ma (de (L0.at (de (L1.at ?_)))))));exact ma hq
theorem Wq {tk:Tok}{fill ex:Bool}{Q:Value->Shared->Prop}(X:K.In s.heap)(I:PySem.W.InstAt s.heap x ox C od)(t:GaX K C)
  (h:wpAny (model prog w) A.in1 (Builtin.«object.__getattribute__» ⟨[.ref x,.str name tk],[]⟩) (λfin s'=>match fin with | .done (.ret v)=>PySem.W.handedIn v=true/\Q v s' | _=>False) (λ_ _=>False) s) :
  wpAny (model prog w) A (getAttrBy (.ref x) (.str name tk) fill ex) Q E s:=by
 obtain⟨hh,g,d,tt,os⟩:=s;have L0:=I.type (M:=model prog w);have L1:=afd (M:=model prog w) X t.ga;have L2:=afd (M:=model prog w) X t.hk;unfold getAttrBy;refine aeH (de (L0.at (de (L1.at ?_))));show wpAny _ _ (if (onTheHeap (sr C) && Value.builtin "BaseException.__getattribute__" == Value.builtin "object.__getattribute__")=true then _ else getAttrByItsOwn _ _ _ _ _ _) _ _ _
 rw[if_neg (by rw[show (Value.builtin "BaseException.__getattribute__" == Value.builtin "object.__getattribute__")=false from by decide +kernel];exactλz=>Bool.noConfusion z)]
 unfold getAttrByItsOwn hookBefore callGetattribute boundAndCalled;refine de ?_;show wpAny _ _ (typeLookup (.ref C) "__getattr__") _ _ _;refine L2.at ?_;refine de (wpAny_attempt (aeH ?_));rw[if_neg (by cases ex <;> decide)]
 refine de (wpAny_of_eq (Dp.bind _) ?_);show wpAny _ _ (call (.builtin "BaseException.__getattribute__") [.ref x,.str name tk]) _ _ _;refine wpAny_call (codeAny_call_builtin Dp.plain F.entry_bexc_ga (Lu X I t (adm h (λfin s' z=>?_) λ_ _ z=>z.elim)))
 rcases fin with (_ | _ | _ | _) | _ <;> first | exact PySem.W.handed_on z.1 z.2 | exact z.elim
end
structure adR (K:ba)(C:Addr):Prop where
 ga:GaX K C
 cd:(PySem.W.clsIn K C).isSome=true
 ha:bo K (.ref C) "__class__"=some (some (.builtin "object.__class__"))
 hn:PySem.W.specialIn K (.builtin "object.__class__") "__get__"=some (some (.builtin "getset_descriptor.__get__"))
 htk:PySem.W.takesIn K (.builtin "object.__class__")=some true
 hm:aeB K C (.type "object")=some true
end L2
set_option maxHeartbeats 4000000
namespace L2
open PySem PySem.Spec PyProof.Rows
section
variable{prog:ku}{w:World}{A:Around}{E:Value->Shared->Prop}{h:Heap}{g:Array GenState}{d:Drawn}{t:Nat}{os:OsState}
variable{nm q:Str}{C N:Addr}{bs bm bmB:List Value}{hdct:Bool}{sn:List Str}{sub:List Value}{ab:Bool}{col:Option Bool}{dd:Option Addr}{k0 k1 k2 k3 k5:Option Value}{B nid iid:String}
abbrev my (h:Heap)(C:Addr)(us:List Value):Heap:=(h.push { cls:=.type "tuple",data:=.seq us.toArray }).push ⟨.ref C,none,.fields #[.ref h.objs.size,.none,.none,.none,.bool false,.none],#[]⟩
theorem fD {us:List Value}{b:Addr}{o:Obj}(e:h.get? b=some o):(my h C us).get? b=some o:=gc _ (gc _ e)
theorem yE {us:List Value}:(my h C us).get? (h.objs.size+1)=some ⟨.ref C,none,.fields #[.ref h.objs.size,.none,.none,.none,.bool false,.none],#[]⟩:=by
 have:=ad3 (h.push { cls:=.type "tuple",data:=.seq us.toArray }) (o:=⟨.ref C,none,.fields #[.ref h.objs.size,.none,.none,.none,.bool false,.none],#[]⟩) rfl
 rwa [Heap.size_push]at this
theorem Gk (F:ExcBaseFacts B nid iid bmB)(T:OwnTail h bmB bm){mN:Str->Option Value}{us:List Value}{Q:Fin->Shared->Prop}
  (kC:h.get? C=some (aep nm q C N bs bm hdct sn sub ab col dd k0 k1 k2 k3 k5 nid)) (kN:h.Ns N mN) (kI:mN "__init__"=none) (hz:us.length<=gp)
  (hq:∀h',(∀b o,h.get? b=some o->h'.get? b=some o)->(∃tp,h'.get? (h.objs.size+1)=some ⟨.ref C,none,.fields #[.ref tp,.none,.none,.none,.bool false,.none],#[]⟩)->Q (.done (.ret (.ref (h.objs.size+1)))) ⟨h',g,d,t,os⟩) :
  wpAny (model prog w) A (Builtin.«type.__call__» ⟨.ref C::us,[]⟩) Q E ⟨h,g,d,t,os⟩:=by
 repeat (first | with_reducible refine wpAny_loadPart_at kC ?_ | with_reducible refine wpAny_madeBy_exc kC ?_ | wp_step)
 refine codeAny_call_builtin_code (Code.quiet_builtin _ F.quiet) (wpAny_check_new_subT F T kC (codeAny_exc_new_subT F T kC ?_ hz));show wpAny _ _ _ _ _ _;have kC1:(my h C us).get? C=_:=fD kC;have kN1:(my h C us).Ns N mN:=kN.keeps λb o e=>fD e
 have T1:OwnTail (my h C us) bmB bm:=T.keeps λb o e=>fD e
 have kE:=yE (h:=h) (C:=C) (us:=us);have self:(sr C::bm).contains (.ref C)=true:=by simp
 unfold isInstance
 repeat (first | with_reducible refine wpAny_loadPart_at kE ?_ | (with_reducible refine wpAny_isSubtype_exc kC1 ?_;rw[self]) | wp_step)
 show wpAny _ _ (typeLookup (.ref C) _) _ _ _;refine wpAny_typeLookup_tail kC1 kN1 T1 F.mroIs F.init.lookup ?_;rw[kI];refine aeH (de (wpAny_of_eq (F.init.bind _) ?_));refine de (wpAny_call (codeAny_call_builtin F.init.plain F.initEntry (wpAny_check_init_subT F T1 kC1 kE rfl ?_)))
 wp_walk
 refine hq _ (λb o e=>?_) ⟨h.objs.size+2,?_⟩
 ·rw[aez _ _ (Nat.ne_of_gt (Nat.lt_succ_of_lt (kx e)))];exact gc _ (fD e)
 ·refine(aeV _ (gc _ kE) rfl).trans ?_;simp only[Heap.size_push];rfl
theorem JA (F:ExcBaseFacts B nid iid bmB)(T:OwnTail h bmB bm){mN:Str->Option Value}{us:List Value}{Q:Value->Shared->Prop}
  (kC:h.get? C=some (aep nm q C N bs bm hdct sn sub ab col dd k0 k1 k2 k3 k5 nid)) (kN:h.Ns N mN) (kI:mN "__init__"=none) (hz:us.length<=gp)
  (hq:∀h',(∀b o,h.get? b=some o->h'.get? b=some o)->(∃tp,h'.get? (h.objs.size+1)=some ⟨.ref C,none,.fields #[.ref tp,.none,.none,.none,.bool false,.none],#[]⟩)->Q (.ref (h.objs.size+1)) ⟨h',g,d,t,os⟩) :
  wpAny (model prog w) A (call (.ref C) us) Q E ⟨h,g,d,t,os⟩:=by
 have l1:=tc_lookup;have l2:=tc_bind (.ref C);have ty:(⟨h,g,d,t,os⟩:Shared).TypeIs (.ref C) "type":=⟨_,kC,rfl⟩;refine wpAny_call (codeAny_of_tree ?_);show wpAny _ _ (callAny (.ref C) _) _ _ _
 repeat (any_goals (first | assumption | with_reducible refine wpAny_loadPart_at kC ?_ | wp_step))
 refine⟨rfl,codeAny_call_builtin_at (Code.quiet_builtin _ (by decide +kernel)) entry_typeCall (wpAny_check_type_call_sub kC (Gk F T kC kN kI hz λh' k e=>?_))⟩
 exact hq h' k e
theorem rg {M:Model}{env:Env}{s:Shared}{x:Sem Value}{Q:Flow->Shared->Prop}(Dc:bm.contains (.type "BaseException")=true)(hh:A.handled=none)
  (hx:wpAny M A x (λv s₁=>∃(e:Addr) (xd:Option Addr) (a0:Value) (sl:Array (Option Value)),v=.ref e/\s₁.heap.get? C=some (aep nm q C N bs bm hdct sn sub ab col dd k0 k1 k2 k3 k5 nid) /\
   s₁.heap.get? e=some ⟨.ref C,xd,.fields #[a0,.none,.none,.none,.bool false,.none],sl⟩/\E (.ref e) s₁) E s):wpAny M A (raiseStmt env (some x) none) Q E s:=by
 have top:(sr C::bm).contains (.type "BaseException")=true:=by rw[List.contains_cons,Dc,Bool.or_true]
 unfold raiseStmt;refine de (adm hx (λv s₁ h₁=>?_) λ_ _ z=>z)
 obtain⟨e,xd,a0,sl,rfl,kC,kE,fin⟩:=h₁;obtain⟨hp,g',d',tk,os'⟩:=s₁
 repeat (first | with_reducible refine wpAny_loadPart_at kE ?_ | with_reducible refine wpAny_loadPart_at kC ?_ | (with_reducible refine wpAny_isSubtype_exc kC ?_;rw[top]) | wp_step)
 exact wpAny_raiseNew_none hh fin
end
abbrev o8:List Value:=[.type "ValueError",.type "Exception",.type "BaseException",.type "object"]
def strKeys (es:Array aeN):Bool:=es.toList.all λe=>match e.key with | .str _ _=>true | _=>false
structure BZ (K:ba)(N:Addr):Prop where
 ex:∃(c:Value) (dd:Option Addr) (es:Array aeN) (n:Nat) (sl:Array (Option Value)),K.lookup N=some ⟨c,dd,.dict es n,sl⟩/\strKeys es=true
 no:eg K N "__init__"=some none
theorem BZ.ns {K:ba}{N:Addr}(x:BZ K N){h:Heap}(X:K.In h):∃mN,h.Ns N mN/\mN "__init__"=none:=by
 obtain⟨⟨c,dd,es,n,sl,l,sk⟩,no⟩:=x;have ns:h.Ns N (nsFind es):=⟨_,es,n,X _ _ l,rfl,λe he=>by
  have z:=List.all_eq_true.mp sk e (Array.mem_toList_iff.mpr he);cases hk:e.key with
  |str y t=>exact⟨y,t,rfl⟩
  |_=>rw[hk]at z;exact absurd z kj,λ_=>rfl⟩
 refine⟨_,ns,?_⟩;unfold eg at no;rw[l]at no;dsimp only at no;unfold nsFind findBy;rw[<-Array.find?_toList];cases hf:es.toList.find? (λe=>e.key.isStr "__init__") with
 |none=>rfl
 |some e=>rw[hf]at no;cases no
inductive iJ (K:ba):List Value->Prop
 |base:iJ K o8
 |own {D:Addr} {c0:Value} {dd:Option Addr} {cd:ClassData} {sl:Array (Option Value)} {tl:List Value}:K.lookup D=some ⟨c0,dd,.cls cd,sl⟩->BZ K cd.ns->iJ K tl->iJ K (.ref D::tl)
theorem iJ.tail {K:ba}{bm:List Value}(x:iJ K bm){h:Heap}(X:K.In h):OwnTail h o8 bm:=by
 induction x with
 |base=>exact .base
 |own l n _ ih =>
  obtain⟨mA,a,b⟩:=n.ns X;exact .own (X _ _ l) a b ih
structure Dq (K:ba)(C:Addr):Prop where
 ex:∃(nm q:Str) (N:Addr) (bs bm:List Value) (hdct:Bool) (sn:List Str) (sub:List Value) (ab:Bool) (col:Option Bool) (dd:Option Addr) (k0 k1 k2 k3 k5:Option Value),
  K.lookup C=some (aep nm q C N bs bm hdct sn sub ab col dd k0 k1 k2 k3 k5 "ValueError.__new__")/\BZ K N/\iJ K bm
section
variable{X:Cx}{x:Str}{C:Addr}{np gb pos:Pos}{e₀:Expr}{rest:List Expr}{ta:TA}
theorem ja (ek:Dq X.K C)(hc:X.calm=true)(hg:Gl X x)(hm:X.mg x=some (.ref C))(ha:PA X.nox (e₀::rest) ta)(hdb:(x == ("__debug__":Str))=false:=by decide)
  (he:si (e₀::rest) X.env=(false,eval e₀ X.env)::si rest X.env:=by rfl) (hpl:(backTo gb (si rest X.env)).any (·.1)=false:=by rfl) :
  PSX X (.Raise (some (.Call (.Name x np) (e₀::rest) [] gb)) none pos) (λ_ E σ H=>ta σ H λvs H1=>vs.length<=gp/\E σ (.ref C) none H1):=by
 intro pins s σ H D E I h;obtain⟨nm,q,N,bs,bm,hdct,sn,sub,ab,col,dd,k0,k1,k2,k3,k5,l,n,T⟩:=ek.ex;have go:wpAny (model X.prog X.w) X.A (eval (.Call (.Name x np) (e₀::rest) [] gb) X.env) (λv s₁=>∃(e:Addr) (xd:Option Addr) (a0:Value) (sl:Array (Option Value)),v=.ref e/\s₁.heap.get? C=some (aep nm q C N bs bm hdct sn sub ab col dd k0 k1 k2 k3 k5 "ValueError.__new__") /\
   s₁.heap.get? e=some ⟨.ref C,xd,.fields #[a0,.none,.none,.none,.bool false,.none],sl⟩/\XPS X pins E (.ref e) s₁) (XPS X pins E) s:=by
  refine wpAny_Call_Name_kw (kM I hg hm ?_ hdb);unfold callWith;rw[he];refine de (aeH (Calls.evalArgs_plain ?_));have ha':=ha gb pins s σ H _ (I.nq _) h;rw[show X.nox.env=X.env from rfl,he]at ha'
  refine adm ha' (λus s₁ ⟨vs,H1,I1,r,hz,q1⟩=>de (aeK ?_)) λ_ _ z=>aea z
  have I1':=I1.eA;have kC:=I1'.kIn _ _ l;obtain⟨mN,kN,kI⟩:=n.ns I1'.kIn;have T1:=T.tail I1'.kIn;have pl:(backTo gb ((false,eval e₀ X.env)::si rest X.env)).any (·.1)=false:=by
   show (false || (backTo gb (si rest X.env)).any (·.1))=false
   rw[hpl];rfl
  obtain⟨hp,g',d',tk,os'⟩:=s₁;simp only[pl];refine de (wpAny_keeperOf_exc kC ?_);refine de (JA (F:=PySem.F.excBase_ValueError) T1 kC kN kI (by rw[List.nil_append,<-r.length];exact hz) λh' k ⟨tp,ke⟩=>de (aeH (wpAny_point (ma ?_))))
  have I2:Inv X pins σ H1 ⟨h',g',d',tk,os'⟩:=I1'.kept (t':=tk) k;refine⟨_,none,_,#[],rfl,k _ _ kC,ke,σ,_,_,none,none,H1,rfl,I2,⟨I1'.BJ (aeS _) (I1'.hok.fresh (aeS _)),_,_,ke,(by show 1 < 6;decide),rfl⟩,.inl rfl,q1⟩
 rw[arm_exec_Raise];have hb:bm.contains (.type "BaseException")=true:=(T.tail I.kIn).hasType (b:=true) (by decide +kernel)
 first
  |exact de (aeK (rg (C:=C) (nm:=nm) (q:=q) (N:=N) (bs:=bs) (bm:=bm) (hdct:=hdct) (sn:=sn) (sub:=sub) (ab:=ab) (col:=col) (dd:=dd) (k0:=k0) (k1:=k1) (k2:=k2) (k3:=k3) (k5:=k5) hb (I.ok.hd hc) (de (adm go (λv s₃ h₃=>de (aeK (ma h₃))) λ_ _ z=>z))))
  | (simp only[evalOpt,Option.map];exact de (aeK (rg (C:=C) (nm:=nm) (q:=q) (N:=N) (bs:=bs) (bm:=bm) (hdct:=hdct) (sn:=sn) (sub:=sub) (ab:=ab) (col:=col) (dd:=dd) (k0:=k0) (k1:=k1) (k2:=k2) (k3:=k3) (k5:=k5) hb (I.ok.hd hc) (de (adm go (λv s₃ h₃=>de (aeK (ma h₃))) λ_ _ z=>z)))))
end
end L2
set_option maxHeartbeats 4000000
namespace L2
open PySem PySem.Spec PyProof.Rows
theorem AU {α β:Type}(f:α->β):∀(xs:List α) (n:Nat),(xs.eraseIdx n).map f=(xs.map f).eraseIdx n
 |[],_=>rfl
 |_::_,0=>rfl
 |x::xs,n+1=>by
  show f x::(xs.eraseIdx n).map f=f x::(xs.map f).eraseIdx n;rw[AU f xs n]
section
variable{X:Cx}{pos:Pos}
theorem Vals.insert {xs:List V}{us:List Value}(r:Vals xs us){y:V}{u:Value}(ry:RelV y u)(k:Nat):Vals (xs.take k++y::xs.drop k) (us.take k++u::us.drop k):=(r.take k).append (.cons ry (r.drop k))
def Ov:V->List V->Hp->VK->Prop:=λx vs H Q=>∃(l:Addr) (xs:List V) (i:Int) (k:Nat) (y:V),x=.ref l/\vs=[.int i,y]/\i=(k:Int)/\H l=some (.lst xs)/\k<=xs.length/\xs.length < gp/\Q .non (upd H l (.lst (xs.take k++y::xs.drop k)))
theorem JB:MtM X "list.insert" Ov:=by
 intro pins s σ H x vs v us Q I rx rv h;obtain⟨l,xs,i,k,y,rfl,rfl,hi,hH,hk,hz,q⟩:=h;cases rx;obtain⟨u1,u2,rfl,r1,r2⟩:=rv.two;obtain⟨t,rfl⟩:=r1;obtain⟨z,its,n,r,hl,e⟩:=I.De hH;have lim:gp=16777216:=by decide
 have a2:its.toArray.size<=gp:=by rw[ko];omega
 have b:Builtin.List.listFitsIndex i=true:=fitsIndex_both (by omega) (by omega)
 have nb:¬(!Builtin.List.listFitsIndex i)=true:=by rw[b];decide
 refine call_meets F.slot_list_insert ⟨_,e,rfl⟩ F.entry_list_insert (F.args_list_insert_3 _ _ _) (AutoSeq1.list_insert_list_int_val_1 l its.toArray n i t u2 nb a2) ⟨e,?_⟩;refine⟨.non,_,I.K4 (its':=its.take k++u2::its.drop k) hH e ?_ (r.insert r2 k) ?_,rfl,q⟩
 ·show (its.toArray.extract 0 (if i < 0 then (i+(its.toArray.size:Int)).toNat else min i.toNat its.toArray.size)).push u2++its.toArray.extract (if i < 0 then (i+(its.toArray.size:Int)).toNat else min i.toNat its.toArray.size)=_
  have e1:(if i < 0 then (i+(its.toArray.size:Int)).toNat else min i.toNat its.toArray.size)=k:=by
   rw[ko,if_neg (by omega)]
   omega
  rw[e1];apply Array.toList_inj.mp;simp;exact List.take_of_length_le (by rw[ae6];omega)
 ·rw[kr,tm,aeu,ae6];omega
end
section
variable{X:Cx}{e:Expr}{te:TE}{y:Str}{j:Nat}{p1 p2 pos:Pos}
def tFR (K:ba)(te:TE)(y:Str):TE:=λσ H Q=>te σ H λx H1=>∃(a:Addr) (d:PyData),x=.ref a/\DV K H1 d x/\d.showable=true/\d.hasDict=false/\d.depth<=60/\d.shown.length+y.length<=gp/\∀z:Str,Q (.str z) H1
theorem len_app (a b:Str):(a++b).length=a.length+b.length:=by
 show (a.cps++b.cps).size=_;simp[Str.length]
theorem Ws (hg:X.A.guards=some [])(hu:X.A.units+64 < cLine)(he:PE X e te):PE X (.JoinedStr [.FormattedValue e 114 none p1,.Constant (.str y) j p2] pos) (tFR X.K te y):=by
 intro pins s σ H Q I h;refine wpAny_JoinedStr ?_;show Joins _ _ _ [eval (.FormattedValue e 114 none p1) X.env,eval (.Constant (.str y) j p2) X.env] _ _ _;refine wpAny_FormattedValue_repr (thn (he pins s σ H _ I h) λv s1 ⟨x,H1,I1,r1,a,d,e1,hd,sh,nd,dp,sz,q⟩=>?_)
 subst e1;obtain rfl:v=sr a:=r1;obtain⟨as,rd⟩:=DV.reads I1 d hd rfl;refine pyReprObj_of_reads (h₀:=s1.heap) rd sh (λz=>absurd z (by rw[nd];decide)) hg (by omega) (λ_ _ z=>z) (λh' u tk hk=>?_) (by omega)
 have I2:Inv X pins σ H1 { s1 with heap:=h',toks:=tk }:=I1.kept hk
 have emp:(ael++d.shown:Str)=d.shown:=by
  apply BU;rw[eZ];rfl
 have go:∀(t:Tok) (s2:Shared),Inv X pins σ H1 s2->∃z t',Value.str d.shown t=.str z t'/\(ael++z).length<=gp/\Joins (model X.prog X.w) X.A X.xe [eval (.Constant (.str y) j p2) X.env] (ael++z) (λout s₁=>out.length<=gp/\EP X pins σ Q (.str out s₁.toks) { s₁ with toks:=s₁.toks+1 }) s2:=λt s2 I3=>by
  refine⟨_,_,rfl,by rw[emp];omega,Calls.Constant_str ⟨y,_,rfl,?_,?_⟩⟩
  ·rw[emp,len_app];omega
  ·refine⟨by rw[emp,len_app];omega,.str _,H1,(I3.tok _).tok _,⟨_,rfl⟩,q _⟩
 exact wpAny_formatField_str (go _ _ I2) (go _ _ (I2.tok _)) (by omega)
end
theorem Lw {K:ba}{a D:Addr}{xs:List V}{te:TE}{Q:VK}{σ:St}{H1:Hp}(Pv:Nat->List V->Hp->Prop)(h0:Pv 0 [] (upd H1 D (.lst [])))(hz:xs.length<=gp)
  (hl:∀i ys H2,i<=xs.length->Pv i ys H2->SqT K H2 a xs/\H2 D=some (.lst ys)/\ys.length=i)
  (hs:∀i x ys H2,xs[i]?=some x->Pv i ys H2->te (some x::σ) H2 (gg D xs.length Pv i ys)) (hd:∀ys H2,Pv xs.length ys H2->Q (.ref D) H2) :
  qa (Itt K a) te σ D H1 Q:=by
 refine⟨λi m ys H=>m=xs.length - i/\i<=xs.length/\Pv i ys H,⟨xs.length,by simp,aeM _,h0⟩,?_⟩
 rintro i m ys H2 ⟨rfl,hi,p⟩;obtain⟨q,q2,q3⟩:=hl i ys H2 hi p;refine⟨q2,?_⟩
 by_cases hlt:i < xs.length
 ·refine .inr ⟨⟨xs,xs[i],q,by simp[hlt]⟩,by omega,λx H3 y=>?_⟩
  obtain⟨e,y⟩:=y;subst e;exact hs i x ys _ (y xs q) p
 ·have e:i=xs.length:=by omega
  subst e;exact .inl ⟨⟨xs,q,kg _⟩,hd ys H2 p⟩
theorem dW {K:ba}{H H':Hp}{t:Addr}{xs:List V}(s:bJ H H')(h:SqT K H t xs):SqT K H' t xs:=by
 rcases h with (h | ⟨o,h⟩) | h
 ·exact .inl (.inl (s _ _ h))
 ·exact .inl (.inr ⟨o,s _ _ h⟩)
 ·exact .inr h
end L2
set_option maxHeartbeats 4000000
set_option maxHeartbeats 4000000
namespace L2
open PySem PySem.Spec PySem.Calls PyProof.Rows
def RJ (n:Nat)(Cf:Nat->Addr)(m:Str)(spf:Nat->Sp)(E:XK)(ta:TE):TE:=λσ H Q=>ta σ H λx H1=>∃k,k < n/\∃a dx fs,x=.ref a/\H1 a=some (.ins (Cf k) dx fs)/\fs.lookup m=none/\spf k [x] H1 Q E
section
variable{X:Cx}{o:Expr}{ta:TE}{m:Str}{apos pos:Pos}{n:Nat}{Cf ff:Nat->Addr}{fdf:Nat->gr}{spf:Nat->Sp}{kk:Nat}{ps:List Str}{CX:CXT}{E:XK}
theorem kZ {pl:Sem Bool}(he:PE X o ta)(c:∀k,k < n->Cls X.K (Cf k))(hm:∀k,k < n->Meth X.K (Cf k) m (ff k))(F:∀k,k < n->ay X.prog X.w X.K X.mg X.base CX kk (ff k) (fdf k) ps (spf k))(hr:Room kk X.A)(hb:∀k,k < n->Binds X.K (fdf k) ps [])
  (hx:Passes CX X E)
  (ht:eval (.Call (.Attribute o m apos) [] [] pos) X.env=(do
   let ov <-eval o X.env
   standAt apos.atName
   let (f,first) <-holding [ov] (getMethod ov m pl)
   callWith pos f first (backTo pos (si [] X.env)) (backToKw pos (keywordEach [] X.env))):=by rfl) :
  PE X (.Call (.Attribute o m apos) [] [] pos) (RJ n Cf m spf E ta):=by
 intro pins s σ H Q I h;refine aeJ (pl:=pl) (thn (he pins s σ H _ I h) λu s1 ⟨x,H1,I1,rx,k,hk,a,dx,fs,ex,ea,l,q⟩=>?_) ht
 subst ex;obtain rfl:u=sr a:=rx;refine i7 I1 ea (c k hk) (hm k hk) l ?_;exact PySem.W.callWith_K0 (first:=[.ref a]) I1.kIn (hm k hk).kp (BN (us:=[.ref a]) (vs:=[.ref a]) (dvs:=[]) (F k hk) hr (hb k hk) .nil hx I1 (.cons rfl .nil) q)
theorem Wt {P:ku}{w:World}{K:ba}{mg:Str->Option Value}{base:Heap}{CX:CXT}{k:Nat}{f:Addr}{fd:gr}{ps:List Str}{sp sp':Sp}(F:ay P w K mg base CX k f fd ps sp)(G:ay P w K mg base CX k f fd ps sp') :
  ay P w K mg base CX k f fd ps (λvs H Q E=>sp vs H Q E\/sp' vs H Q E) :=
 ⟨λvs H Q E z=>z.elim (F.len vs H Q E) (G.len vs H Q E),λa b c H d e vs Q E p q r s z=>z.elim (F.run a b c H d e vs Q E p q r s) (G.run a b c H d e vs Q E p q r s)⟩
end
end L2
set_option maxHeartbeats 4000000
set_option maxHeartbeats 4000000
namespace L2
open PySem PySem.Spec PySem.Calls PyProof.Rows
def KeysAre:List aeN->List Str->Prop
 |[],ns=>ns=[]
 |e::r,ns=>∃x xs t,ns=x::xs/\e.key=.str x t/\KeysAre r xs
structure IF (P:Params)(K:ba)(a:Addr)(ns:List Str):Prop where
 ex:∃es n,K.lookup a=some ⟨.type "dict",none,.dict es n,#[]⟩/\PySem.W.KeysLit P es.toList/\KeysAre es.toList ns
 nd:ns.Nodup
 lo:(a == ae8)=false
theorem Gm {prog:ku}{w:World}:∀(es:List aeN) (ns:List Str),PySem.W.KeysLit w.params es->KeysAre es ns->∃kvs:List (Str×Value),Pairs (strKind prog w) es kvs/\kvs.map (·.1)=ns:=by
 intro es
 induction es with
 |nil =>
  intro ns _ h;have h':ns=[]:=h;subst h';exact⟨[],by first | exact .nil | exact trivial | exact rfl | constructor,rfl⟩
 |cons e r ih =>
  rintro ns ⟨⟨x,t,e1,e2⟩,hk⟩ ⟨y,ys,t',rfl,e3,hr⟩;obtain⟨kvs,h1,h2⟩:=ih ys hk hr;rw[e1]at e3;injection e3 with e4 _
  subst e4;exact⟨(x,e.val)::kvs,.cons (by rw[e1];exact strKind_is prog w x t) rfl h1,by rw[kc,h2]⟩
theorem IF.at {prog:ku}{w:World}{K:ba}{a:Addr}{ns:List Str}(T:IF w.params K a ns):∃(kvs:List (Str×Value)) (n:Nat),kvs.map (·.1)=ns/\∀h:Heap,K.In h->h.DictAt (strKind prog w) a kvs n:=by
 obtain⟨es,n,hl,hk,ha⟩:=T.ex;obtain⟨kvs,h1,h2⟩:=Gm (prog:=prog) es.toList ns hk ha;refine⟨kvs,n,h2,λh X=>⟨_,es,X _ _ hl,⟨rfl,rfl,rfl⟩,rfl,λe he=>?_,h1,by rw[h2];exact T.nd⟩⟩
 obtain⟨x,t,e1,e2⟩:=hk.all e (Array.mem_toList_iff.mpr he);exact⟨x,by rw[e1];exact strKind_is prog w x t,e2⟩
def Dr (n:Nat)(Pv:Nat->List V->Hp->Prop)(i:Nat)(ys:List V)(H4:Hp):Prop:=∃m',m' < n - i/\m'=n - (i+1)/\i+1<=n/\Pv (i+1) ys H4
theorem Dr.mk {n:Nat}{Pv:Nat->List V->Hp->Prop}{i:Nat}{ys:List V}{H4:Hp}(hi:i < n)(h:Pv (i+1) ys H4):Dr n Pv i ys H4:=⟨n - (i+1),by omega,rfl,hi,h⟩
end L2
set_option maxHeartbeats 4000000
namespace L2
open PySem PySem.Spec PyProof.Rows
inductive RK:List Expr->List Str->Prop
 |nil:RK [] []
 |cons {x:Str} {j:_} {p:Pos} {es:List Expr} {ss:List Str}:RK es ss->RK (.Constant (.str x) j p::es) (x::ss)
end L2
set_option maxHeartbeats 4000000
namespace L2
open PySem PySem.Spec PyProof.Rows
structure yF (scope outer:Scope)(xs N M:List Str):Prop where
 kind:scope.kind=.function
 Ld:outer.kind=.function
 BV:∀y∈scope.names,y.2≠.cell
 names:∀y∈scope.names,y.2=.local->scope.names.lookup y.1=some .local
 hx:∀x∈xs,scope.names.lookup x=some .local
 free:∀y∈scope.names,y.2=.free->outer.names.lookup y.1=some .cell
 nl:∀n∈M,(fq scope outer).names.lookup n≠some .local
 nd2:(xs++M).Nodup
 nd:N.Nodup
 len:M.length=N.length
 rel:∀i:Nat,i < N.length->M[i]?=N[i]?\/M[i]?=some ael
 em:(fq scope outer).names.lookup ael=none
theorem yF.mem {scope outer:Scope}{xs:List Str}{N M:List Str}(S:yF scope outer xs N M){n:Str}{k:NameKind}(h:(fq scope outer).names.lookup n=some k)(hk:k=.cell\/k=.free) :
  k=.cell/\(n,aeX)∈scope.names/\outer.names.lookup n=some .cell:=by
 obtain⟨⟨n',k'⟩,hm,e⟩:=List.mem_map.mp (aeQ h);dsimp only at e
 by_cases hc:(k' == aeX && outer.kind == .function && outer.names.lookup n' == some .cell)=true
 ·rw[if_pos hc]at e;injection e with e1 e2
  subst e1 e2;rw[aeI,aeI]at hc;have hk':k'=.free:=beq_iff_eq.mp hc.1.1;subst hk';exact⟨rfl,hm,beq_iff_eq.mp hc.2⟩
 ·rw[if_neg hc]at e;injection e with e1 e2
  subst e1 e2;rcases hk with z | z
  ·exact absurd z (S.BV _ hm)
  ·subst z
   exfalso
   refine hc ?_;rw[S.free _ hm rfl,S.Ld];rfl
def Wu (t:TAX):TEX:=λσ H Q E=>t σ H (λxs H1=>xs.length<=gp/\∀p,H1 p=none->Q (.ref p) (upd H1 p (.tup xs))) E
theorem Ow {X:Cx}{es:List Expr}{t:TAX}{x1:_}{pos:Pos}(h:PAX X es t):PEX X (.Tuple es x1 pos) (Wu t):=by
 intro pins s σ H Q E I hq;refine wpAny_Tuple_spliced (thn (h pos pins s σ H _ E I hq) λus s1 ⟨xs,H1,I1,r,z,q⟩=>⟨by rw[<-r.length];exact z,?_⟩)
 have hf:H1 s1.heap.objs.size=none:=I1.hok.fresh (kg _);refine⟨.ref s1.heap.objs.size,upd H1 s1.heap.objs.size (.tup xs),I1.laid (t':=s1.toks) (λb u e=>gc _ e) (kg _) ?_,rfl,q _ hf⟩
 exact⟨z,us,r,⟨_,ad3 _ rfl,rfl,_,rfl⟩⟩
end L2
set_option maxHeartbeats 4000000
namespace L2
open PySem PySem.Spec PyProof.Rows
abbrev TJ:=St->Hp->Str->(Str->Hp->Prop)->Prop
def PJ (X:Cx)(es:List Expr)(t:TJ):Prop :=
 ∀(pins:List (Addr×Obj)) (s:Shared) (σ:St) (H:Hp) (acc:Str) (Q:Str->Hp->Prop),Inv X pins σ H s->t σ H acc Q ->
  Joins (model X.prog X.w) X.A X.xe (evalEach es X.env) acc (λout s1=>∃H1,Inv X pins σ H1 s1/\out.length<=gp/\Q out H1) s
theorem Joins.mono {M:Model}{A:Around}{E:Value->Shared->Prop}{Q Q':Str->Shared->Prop}(hQ:∀o s,Q o s->Q' o s):∀ {ps:List (Sem Value)} {acc:Str} {s:Shared},Joins M A E ps acc Q s->Joins M A E ps acc Q' s
 |[],_,_,h=>hQ _ _ h
 |_::_,_,_,h=>adm h (λ_ _ ⟨y,t,e,l,r⟩=>⟨y,t,e,l,Joins.mono hQ r⟩) λ_ _ z=>z
inductive B0:V->Str->Prop
 |int {i:Int}:i.natAbs.log2 < 1920->B0 (.int i) (toString i)
 |str {x:Str}:B0 (.str x) x
section
variable{X:Cx}{e:Expr}{es:List Expr}{te:TE}{t:TJ}{y:Str}{j:Nat}{p1 p2 pos:Pos}
theorem uP:PJ X [] (λ_ H acc Q=>acc.length<=gp/\Q acc H):=λ_ _ _ H _ _ I h=>⟨H,I,h.1,h.2⟩
theorem lC (h:PJ X es t):PJ X (.Constant (.str y) j p1::es) (λσ H acc Q=>(acc++y).length<=gp/\t σ H (acc++y) Q):=by
 intro pins s σ H acc Q I hw;show wpAny _ _ (eval (.Constant (.str y) j p1) X.env) _ _ s;exact Calls.Constant_str ⟨y,_,rfl,hw.1,h pins _ σ H _ Q (I.tok _) hw.2⟩
theorem uQ (he:PE X e te)(h:PJ X es t):PJ X (.FormattedValue e (-1) none p1::es) (λσ H acc Q=>te σ H λx H1=>∃z,B0 x z/\z.length<=gp/\(acc++z).length<=gp/\t σ H1 (acc++z) Q):=by
 intro pins s σ H acc Q I hw;show wpAny _ _ (eval (.FormattedValue e (-1) none p1) X.env) _ _ s;refine wpAny_FormattedValue_plain (thn (he pins s σ H _ I hw) λv s1 ⟨x,H1,I1,r1,z,fz,l1,l2,q⟩=>?_)
 cases fz with
 |int hl =>
  obtain⟨tk,rfl⟩:=r1;exact wpAny_formatField_int hl ⟨_,_,rfl,l2,h pins _ σ H1 _ Q ((I1.tok _).tok _) q⟩
 |str =>
  obtain⟨tk,rfl⟩:=r1;exact wpAny_formatField_str ⟨_,_,rfl,l2,h pins _ σ H1 _ Q I1 q⟩ ⟨_,_,rfl,l2,h pins _ σ H1 _ Q (I1.tok _) q⟩ l1
theorem AV {e₂:Expr}(h:PJ X (e::e₂::es) t):PE X (.JoinedStr (e::e₂::es) pos) (λσ H Q=>t σ H ael λz H1=>Q (.str z) H1):=by
 intro pins s σ H Q I hw;refine wpAny_JoinedStr ?_;have:=h pins s σ H ael _ I hw;refine Joins.mono ?_ this;rintro out s1 ⟨H1,I1,l,q⟩;exact⟨l,.str out,H1,I1.tok _,⟨_,rfl⟩,q⟩
end
def xi (a C:Addr)(xd:Option Addr):HO:=.ext λh=>∃a0:Addr,h.get? a=some ⟨.ref C,xd,.fields #[.ref a0,.none,.none,.none,.bool false,.none],#[]⟩
section
variable{P:ku}{w:World}{H:Hp}{h:Heap}{a C:Addr}{xd:Option Addr}
theorem Lx {a0:Addr}(e:h.get? a=some ⟨.ref C,xd,.fields #[.ref a0,.none,.none,.none,.bool false,.none],#[]⟩):eU P w H h a (xi a C xd) :=
 ⟨⟨a0,e⟩,⟨_,e⟩,λ_ _ ⟨b,z⟩ k=>⟨b,k _ z⟩⟩
theorem Ly (x:eU P w H h a (xi a C xd)):∃a0:Addr,h.get? a=some ⟨.ref C,xd,.fields #[.ref a0,.none,.none,.none,.bool false,.none],#[]⟩:=x.1
end
structure PZ (K:ba)(D:Addr):Prop where
 rd:PySem.W.readsIn K D (.type "type")=true
 sp:PySem.W.specialIn K (.ref D) "__getattribute__"=some (some (.builtin "type.__getattribute__"))
 fc:PySem.W.findCls K (.ref D) (.type "type") "__init__"=some (.val (.builtin "ValueError.__init__"))
structure B1 (K:ba)(N f:Addr):Prop where
 ex:∃(c:Value) (dd:Option Addr) (es:Array aeN) (n:Nat) (sl:Array (Option Value)),K.lookup N=some ⟨c,dd,.dict es n,sl⟩/\strKeys es=true
 at_:eg K N "__init__"=some (some (.ref f))
theorem B1.ns {K:ba}{N f:Addr}(x:B1 K N f){h:Heap}(X:K.In h):∃mN,h.Ns N mN/\mN "__init__"=some (.ref f):=by
 obtain⟨⟨c,dd,es,n,sl,l,sk⟩,no⟩:=x;have ns:h.Ns N (nsFind es):=⟨_,es,n,X _ _ l,rfl,λe he=>by
  have z:=List.all_eq_true.mp sk e (Array.mem_toList_iff.mpr he);cases hk:e.key with
  |str y t=>exact⟨y,t,rfl⟩
  |_=>rw[hk]at z;exact absurd z kj,λ_=>rfl⟩
 refine⟨_,ns,?_⟩;unfold eg at no;rw[l]at no;dsimp only at no;unfold nsFind findBy;rw[<-Array.find?_toList];cases hf:es.toList.find? (λe=>e.key.isStr "__init__") with
 |none =>
  rw[hf]at no;dsimp only at no
  by_cases q:es.toList.any (·.refKey)=true
  ·rw[if_pos q]at no;cases no
  ·rw[if_neg q]at no;cases no
 |some e=>rw[hf]at no;exact ad8 no
structure B2 (K:ba)(C f:Addr)(name:Str):Prop where
 ex:∃(nm q:Str) (N:Addr) (bs bm:List Value) (hdct:Bool) (sn:List Str) (sub:List Value) (ab:Bool) (col:Option Bool) (dd:Option Addr) (k0 k1 k2 k3 k5:Option Value),
  K.lookup C=some (aep nm q C N bs bm hdct sn sub ab col dd k0 k1 k2 k3 k5 "ValueError.__new__")/\iJ K bm/\hdct=true/\B1 K N f
 fn:kq K (.ref f)=true
 sa:bo K (.ref C) "__setattr__"=some (some (.builtin "object.__setattr__"))
 na:bo K (.ref C) name=some none
section
variable{X:Cx}{pins:List (Addr×Obj)}{σ:St}{H:Hp}{s:Shared}{C f:Addr}{name:Str}
theorem iJ.pass {K:ba}{bm:List Value}(x:iJ K bm)(self:Value):refuseLoop self "__setattr__" bm=pure ():=by
 induction x with
 |base=>exact PySem.F.store_ValueError.passes self
 |own _ _ _ ih=>rw[refuseLoop_ref];exact ih
theorem Gn {xk:B2 X.K C f name}:mw X (.builtin "ValueError.__init__") (λxs H Q=>∃ea v,xs=[.ref ea,v]/\H ea=some (xi ea C none)/\Q .non H):=by
 intro pins s σ H xs us Q I r h;obtain⟨ea,v,rfl,hx,q⟩:=h;obtain⟨nm,qn,N,bs,bm,hdct,sn,sub,ab,col,dd,k0,k1,k2,k3,k5,l,T,hd,hi⟩:=xk.ex;obtain⟨u,u2,rfl,rx,rv⟩:=vals2 r;cases rx;obtain⟨a0,e⟩:=Ly (P:=X.prog) (w:=X.w) (I.hok _ _ hx);have kC:=I.kIn _ _ l;have T1:=T.tail I.kIn;have F:=PySem.F.excBase_ValueError;have ha:X.A.handled=X.A.handled:=rfl;obtain⟨hp,g,d,tk,os⟩:=s;dsimp only at e kC T1;refine wpAny_call (codeAny_call_builtin F.init.plain F.initEntry (wpAny_check_init_subT F T1 kC e rfl ?_))
 wp_walk
 have hE:ea≠hp.objs.size:=ad6 (kx e);have e1:(hp.push { cls:=.type "tuple",data:=.seq #[u2] }).get? ea=_:=gc _ e;have k:∀b o,b≠ea->hp.get? b=some o->((hp.push { cls:=.type "tuple",data:=.seq #[u2] }).update ea (aeO λx=>x.setIfInBounds 0 (.ref hp.objs.size))).get? b=some o:=λb o hb q =>
  (aez _ _ (ad9 hb)).trans (gc _ q)
 have e2:((hp.push { cls:=.type "tuple",data:=.seq #[u2] }).update ea (aeO λx=>x.setIfInBounds 0 (.ref hp.objs.size))).get? ea=some ⟨.ref C,none,.fields #[.ref hp.objs.size,.none,.none,.none,.bool false,.none],#[]⟩:=aeV _ e1 rfl
 have un:upd H ea (xi ea C none)=H:=by
  funext b
  by_cases z:b=ea
  ·rw[z,ae,hx]
  ·rw[aw z]
 have I2:=I.write (x:=ea) (e:=ea) (o:=xi ea C none) (t':=tk) (by rw[hx];exact afi) (.inl rfl) k ⟨_,e2⟩ (Lx e2)
 rw[un]at I2;exact⟨.non,H,I2,rfl,q⟩
end
end L2
set_option maxHeartbeats 4000000
namespace L2
open PySem PySem.Spec PyProof.Rows PySem.Builtin PySem.Builtin.ObjectAttr
section
variable{prog:ku}{w:World}{A:Around}{E:Value->Shared->Prop}{K:ba}{x C f:Addr}{name:Str}{v:Value}
theorem Lz {s:Shared}{vs:Array Value}{sl:Array (Option Value)}{Q:Unit->Shared->Prop}(X:K.In s.heap)(xk:B2 K C f name)(hx:s.heap.get? x=some ⟨.ref C,none,.fields vs,sl⟩)
  (h:∀h' tk,h'.get? x=some ⟨.ref C,some s.heap.objs.size,.fields vs,sl⟩->h'.Ns1 s.heap.objs.size (λy=>if y=name then some v else none)->(∀b o,b≠x->s.heap.get? b=some o->h'.get? b=some o) ->
   Q () { s with heap:=h',toks:=tk }):wpAny (model prog w) A (setAttr (.ref x) name v) Q E s:=by
 obtain⟨nm,qn,N,bs,bm,hdct,sn,sub,ab,col,dd,k0,k1,k2,k3,k5,l,T,hd,hi⟩:=xk.ex;subst hd;obtain⟨hp,g,d,tk,os⟩:=s;dsimp only at hx h X;have J:PySem.W.InstAt hp x ⟨.ref C,none,.fields vs,sl⟩ C none:=⟨hx,rfl,rfl,trivial⟩;have SF:=PySem.F.store_object;have kC:=X _ _ l;have hT:=T.tail X;have hob:(sr C::bm).contains (.type "object")=true:=by rw[List.contains_cons,hT.hasType (b:=true) (by decide +kernel),Bool.or_true]
 have pass:refuseLoop (.ref x) "__setattr__" (.ref C::bm)=pure ():=by rw[refuseLoop_ref];exact T.pass _
 refine PySem.W.set_plain X J xk.sa ?_;have sb:PySem.W.Looks (model prog w) hp (isInstance (.ref x) (.type "object")) true:=J.type.andThen (PySem.W.looks_mroIn X (by unfold aeB PySem.W.clsIn;rw[l];simpa using hob))
 refine codeAny_call_builtin SF.slot.plain SF.entry (@PySem.W.check_slot (model prog w) _ _ ⟨hp,g,d,tk+1,os⟩ "object.__setattr__" "object" "__setattr__" (.ref x) [.str name tk,v] [] _ SF.kind SF.split sb (SF.args (.ref x) (.str name tk) v) ?_);have hm:PySem.W.Looks (model prog w) hp (mroOf (.ref C)) (.ref C::bm):=(PySem.W.looks_clsIn X (by unfold PySem.W.clsIn;rw[l])).andThen .now
 rw[PySem.W.osa_eq,refuse_eq];refine de (de ((J.type (M:=model prog w)).at (de (hm.at ?_))));rw[pass];refine ma (de ((J.type (M:=model prog w)).at (de ((afd X xk.na).at (de ((show PySem.W.Looks (model prog w) hp (storeTaker? none) none from .now).at ?_))))))
 have hxs:x≠hp.objs.size:=ad6 (kx hx);obtain⟨cd,hcl,hdd⟩:∃cd,PySem.W.clsIn K C=some cd/\cd.hasDict=true:=⟨_,by unfold PySem.W.clsIn;rw[l],rfl⟩
 refine de (ma (de (de (wpAny_loadPart hx (de ((PySem.W.looks_clsIn X hcl).at ?_))))));rw[hdd];have hx₁:(hp.push { cls:=.type "dict",data:=.dict #[] }).get? x=some _:=gc _ hx;refine de (wpAny_alloc' ?_);refine de (wpAny_update' hx₁ ?_);refine ma ?_;have hgd:((hp.push { cls:=.type "dict",data:=.dict #[] }).update x λo=>{ cls:=o.cls,dict:=some hp.objs.size,data:=o.data,slots:=o.slots }).get? hp.objs.size
   = some { cls:=.type "dict",data:=.dict #[] } :=
  (Heap.get?_update_ne _ _ _ _ hxs.symm).trans (Heap.get?_push_at rfl rfl)
 have hnd:((hp.push { cls:=.type "dict",data:=.dict #[] }).update x λo=>{ cls:=o.cls,dict:=some hp.objs.size,data:=o.data,slots:=o.slots }).Ns hp.objs.size (λ_=>none) :=
  ⟨_,#[],_,hgd,rfl,λe he=>absurd he (by simp),λ_=>rfl⟩
 show wpAny _ _ (storeInDict hp.objs.size (.str name tk) name v) _ _ _;unfold storeInDict newKeyGuard;refine de (ma (de (wpAny_nsSet1 (Heap.Ns1.of_empty hnd) λh' hn' hs=>?_)))
 obtain⟨oD,esD,epD,hoD,hdD,hcD⟩:=hn'.count (Within.cons name v Within.nil);refine de (wpAny_lookBehind hoD (by rw[hdD];exact pastItsLine_dict (om hcD (by rw[tm,afk,sizeLine_eq];omega))) ?_)
 refine ma (h h' _ ?_ hn' λb ob hbx hb=>(hs.2 b (ad6 (kx hb))).trans ((Heap.get?_update_ne _ _ _ _ hbx).trans (gc _ hb)))
 exact(hs.2 x hxs).trans (aeV _ hx₁ rfl)
end
end L2
set_option maxHeartbeats 4000000
namespace L2
open PySem PySem.Spec PyProof.Rows
section
variable{prog:ku}{w:World}{A:Around}{E:Value->Shared->Prop}{h:Heap}{g:Array GenState}{d:Drawn}{t:Nat}{os:OsState}
variable{nm q:Str}{C N fI:Addr}{bs bm bmB:List Value}{hdct:Bool}{sn:List Str}{sub:List Value}{ab:Bool}{col:Option Bool}{dd:Option Addr}{k0 k1 k2 k3 k5:Option Value}{B nid iid:String}{K:ba}
theorem JC (X:K.In h)(F:ExcBaseFacts B nid iid bmB)(T:OwnTail h bmB bm){mN:Str->Option Value}{us:List Value}{Q:Fin->Shared->Prop}
  (kC:h.get? C=some (aep nm q C N bs bm hdct sn sub ab col dd k0 k1 k2 k3 k5 nid)) (kN:h.Ns N mN) (kI:mN "__init__"=some (.ref fI)) (hf:PySem.W.typeIn K (.ref fI)=some (.type "function")) (hz:us.length<=gp)
  (hq:wpAny (model prog w) A (call (.ref fI) (.ref (h.objs.size+1)::us)) (λr s'=>r=.none/\Q (.done (.ret (.ref (h.objs.size+1)))) s') E ⟨my h C us,g,d,t,os⟩) :
  wpAny (model prog w) A (Builtin.«type.__call__» ⟨.ref C::us,[]⟩) Q E ⟨h,g,d,t,os⟩:=by
 repeat (first | with_reducible refine wpAny_loadPart_at kC ?_ | with_reducible refine wpAny_madeBy_exc kC ?_ | wp_step)
 refine codeAny_call_builtin_code (Code.quiet_builtin _ F.quiet) (wpAny_check_new_subT F T kC (codeAny_exc_new_subT F T kC ?_ hz));show wpAny _ _ _ _ _ _;have kC1:(my h C us).get? C=_:=fD kC;have kN1:(my h C us).Ns N mN:=kN.keeps λb o e=>fD e
 have X1:K.In (my h C us):=X.keeps λb o e=>fD e
 have T1:OwnTail (my h C us) bmB bm:=T.keeps λb o e=>fD e
 have kE:=yE (h:=h) (C:=C) (us:=us);have self:(sr C::bm).contains (.ref C)=true:=by simp
 unfold isInstance
 repeat (first | with_reducible refine wpAny_loadPart_at kE ?_ | (with_reducible refine wpAny_isSubtype_exc kC1 ?_;rw[self]) | wp_step)
 show wpAny _ _ (typeLookup (.ref C) _) _ _ _;refine wpAny_typeLookup_tail kC1 kN1 T1 F.mroIs F.init.lookup ?_;rw[kI];refine aeH (de ((PySem.W.bind_fn X1 (.ref (h.objs.size+1)) hf).at ?_));refine de (adm hq (λr s' hr=>?_) λ_ _ z=>z)
 obtain⟨rfl,hQ⟩:=hr
 wp_walk
 exact hQ
theorem LA (X:K.In h)(F:ExcBaseFacts B nid iid bmB)(T:OwnTail h bmB bm){mN:Str->Option Value}{us:List Value}{Q:Value->Shared->Prop}
  (kC:h.get? C=some (aep nm q C N bs bm hdct sn sub ab col dd k0 k1 k2 k3 k5 nid)) (kN:h.Ns N mN) (kI:mN "__init__"=some (.ref fI)) (hf:PySem.W.typeIn K (.ref fI)=some (.type "function")) (hz:us.length<=gp)
  (hq:wpAny (model prog w) (A.under (.builtin "type.__call__" ⟨.ref C::us,[]⟩)) (call (.ref fI) (.ref (h.objs.size+1)::us)) (λr s'=>r=.none/\Q (.ref (h.objs.size+1)) s') E ⟨my h C us,g,d,t,os⟩) :
  wpAny (model prog w) A (call (.ref C) us) Q E ⟨h,g,d,t,os⟩:=by
 have l1:=tc_lookup;have l2:=tc_bind (.ref C);have ty:(⟨h,g,d,t,os⟩:Shared).TypeIs (.ref C) "type":=⟨_,kC,rfl⟩;refine wpAny_call (codeAny_of_tree ?_);show wpAny _ _ (callAny (.ref C) _) _ _ _
 repeat (any_goals (first | assumption | with_reducible refine wpAny_loadPart_at kC ?_ | wp_step))
 exact⟨rfl,codeAny_call_builtin_at (Code.quiet_builtin _ (by decide +kernel)) entry_typeCall (wpAny_check_type_call_sub kC (JC X F T kC kN kI hf hz hq))⟩
end
def Ag (C:Addr)(name:Str):Sp:=λvs H Q _=>∃(e:Addr) (v:V),vs=[.ref e,v]/\H e=some (xi e C none)/\(∃z,B0 v z/\z.length<=10000)/\∀d,H d=none->Q .non (upd (upd H d (.xd [(name,v)])) e (xi e C (some d)))
section
variable{X:Cx}{pins:List (Addr×Obj)}{σ:St}{H:Hp}{s:Shared}{C f:Addr}{name x:Str}{fd:gr}{ps:List Str}{k:Nat}{np gb pos:Pos}{e₀:Expr}{ta:TA}
theorem JD {E:Value->Shared->Prop}{v:V}{u:Value}{Q:Value->Shared->Prop}(xk:B2 X.K C f name)(F:ay X.prog X.w X.K X.mg X.base CX0 k f fd ps (Ag C name))(hr:Room (k+1) X.A)(hb:Binds X.K fd ps [])(I:Inv X pins σ H s)(r:RelV v u)
  (hv:∃z,B0 v z/\z.length<=10000)
  (h:∀(e d:Addr) (a0:Value) (s':Shared),H d=none->Inv X pins σ (upd H d (.xd [(name,v)])) s'->j6 X pins (upd H d (.xd [(name,v)])) e->s'.heap.get? e=some ⟨.ref C,some d,.fields #[a0,.none,.none,.none,.bool false,.none],#[]⟩->Q (.ref e) s') :
  wpAny (model X.prog X.w) X.A (call (.ref C) [u]) Q E s:=by
 obtain⟨nm,qn,N,bs,bm,hdct,sn,sub,ab,col,dd,k0,k1,k2,k3,k5,l,T,hd,hi⟩:=xk.ex;obtain⟨mN,kN,kI⟩:=hi.ns I.kIn;have fre:=I.hok.fresh (kg _);obtain⟨hp,g,dr,tk,os⟩:=s;have ne:H (hp.objs.size+1)=none:=I.hok.fresh (aeS _);have I2:Inv X pins σ (upd H (hp.objs.size+1) (xi (hp.objs.size+1) C none)) ⟨my hp C [u],g,dr,tk,os⟩ :=
  I.laid (h':=my hp C [u]) (t':=tk) (λb o q=>fD q) (aeS _) (Lx yE)
 have r2:Vals [V.ref (hp.objs.size+1),v] [sr (hp.objs.size+1),u]:=.cons rfl (.cons r .nil);have hsp:Ag C name [V.ref (hp.objs.size+1),v] (upd H (hp.objs.size+1) (xi (hp.objs.size+1) C none))
   (λv' H'=>v'=.non/\∃d,H d=none/\d≠hp.objs.size+1/\H'=upd (upd (upd H (hp.objs.size+1) (xi (hp.objs.size+1) C none)) d (.xd [(name,v)])) (hp.objs.size+1) (xi (hp.objs.size+1) C (some d))) E0:=by
  refine⟨_,v,rfl,ae,hv,λd hd=>⟨rfl,d,?_,?_,rfl⟩⟩
  ·by_cases z:d=hp.objs.size+1
   ·rw[z,ae]at hd;cases hd
   ·rwa [aw z]at hd
  ·intro z;rw[z,ae]at hd;cases hd
 have hl:[sr (hp.objs.size+1),u].length=ps.length:=by rw[<-r2.length];exact F.len _ _ _ _ hsp
 refine LA I.kIn (F:=PySem.F.excBase_ValueError) (T.tail I.kIn) (I.kIn _ _ l) kN kI (beq_iff_eq.mp xk.fn) (show 1<=gp by decide) (wpAny_call (codeAny_mono (F.run _ X.stack _ _ ⟨[sr (hp.objs.size+1),u],[]⟩ _ _ _ E0 (hr.make C [u] [])
  (I2.N2.make C [u] []) (hb _ [sr (hp.objs.size+1),u] I2.kIn (by rw[afb];exact hl)) (by rw[afb];exact r2) hsp) λrr s' hq=>?_))
 cases rr with
 |error e=>exact hq.elim
 |ok fl =>
  cases fl with
  |ret u' =>
   obtain⟨v',H',os',bare,un,hok,rv,rfl,d,hd1,hd2,rfl⟩:=hq;cases rv;refine⟨rfl,?_⟩;have HeE:∀ {o:HO},upd (upd (upd H (hp.objs.size+1) (xi (hp.objs.size+1) C none)) d (.xd [(name,v)])) (hp.objs.size+1) o (hp.objs.size+1)=some o:=ae;have Hne:∀b,b≠hp.objs.size+1->upd (upd (upd H (hp.objs.size+1) (xi (hp.objs.size+1) C none)) d (.xd [(name,v)])) (hp.objs.size+1) (xi (hp.objs.size+1) C (some d)) b=upd H d (.xd [(name,v)]) b:=λb hb=>by
    rw[aw hb]
    by_cases z:b=d
    ·rw[z,ae,ae]
    ·rw[aw z,aw z,aw hb]
   have He2:upd H d (.xd [(name,v)]) (hp.objs.size+1)=none:=by rw[aw (ad9 hd2)];exact ne
   have U1:Un (frs X.stack) [] H (upd H (hp.objs.size+1) (xi (hp.objs.size+1) C none)) hp (my hp C [u]):=Un.laid (λb o q=>fD q) (aeS _) ne
   have U2:=U1.trans un;have lt:∀b o,hp.get? b=some o->b≠hp.objs.size+1:=λb o q=>ad6 (Nat.lt_succ_of_lt (kx q))
   have U3:Un (frs X.stack) [] H (upd H d (.xd [(name,v)])) hp s'.heap:=by
    refine⟨U2.keep,U2.slot,λb o q n hx=>?_,U2.there,λb xs q=>?_,λb o u q=>?_,λb p q=>?_⟩
    ·have z:=U2.free b o q n hx
     rwa [Hne b (lt b o q)]at z
    ·have z:=U2.tf b xs q
     rwa [Hne b (λe=>by rw[e,ne]at q;cases q)]at z
    ·have z:=U2.rX b o u q
     rwa [Hne b (λe=>by rw[e,ne]at q;cases q)]at z
    ·obtain⟨m,z⟩:=U2.tj b p q;rw[Hne b (λe=>by rw[e,ne]at q;cases q)]at z
     exact⟨m,z⟩
   have K3:HOk X.prog X.w (upd H d (.xd [(name,v)])) s'.heap:=λa o q=>by
    have ha:a≠hp.objs.size+1:=λe=>by rw[e,He2]at q;cases q
    refine(hok a o (by rw[Hne a ha];exact q)).Ac (λb u _ z=>z) (λb z=>?_) (λb xs z=>?_)
    ·rwa [Hne b (λe=>by rw[e,HeE]at z;cases z)]at z
    ·rwa [Hne b (λe=>by rw[e,HeE]at z;cases z)]at z
   obtain⟨a0,ea⟩:=Ly (P:=X.prog) (w:=X.w) (hok _ _ HeE);have I3:Inv X pins σ (upd H d (.xd [(name,v)])) s':=I.KG (ch:=[]) os' U3 K3 bare λb z=>absurd z (by simp)
   exact h _ d (.ref a0) s' hd1 I3 (I.BJ (aeS _) He2) ea
  |next=>exact aea hq
  |brk=>exact aea hq
  |cont=>exact aea hq
theorem ou (xk:B2 X.K C f name)(F:ay X.prog X.w X.K X.mg X.base CX0 k f fd ps (Ag C name))(hr:Room (k+1) X.A)(hb:Binds X.K fd ps [])(hc:X.calm=true)(hg:Gl X x)(hm:X.mg x=some (.ref C))(ha:PA X.nox [e₀] ta)
  (hdb:(x == ("__debug__":Str))=false:=by decide) (he:si [e₀] X.env=[(false,eval e₀ X.env)]:=by rfl) :
  PSX X (.Raise (some (.Call (.Name x np) [e₀] [] gb)) none pos) (λ_ E σ H=>ta σ H λvs H1=>∃v,vs=[v]/\(∃z,B0 v z/\z.length<=10000)/\∀d,H1 d=none->E σ (.ref C) (some d) (upd H1 d (.xd [(name,v)]))):=by
 intro pins s σ H D E I h;obtain⟨nm,q,N,bs,bm,hdct,sn,sub,ab,col,dd,k0,k1,k2,k3,k5,l,T,hd,hi⟩:=xk.ex;have go:wpAny (model X.prog X.w) X.A (eval (.Call (.Name x np) [e₀] [] gb) X.env) (λv s₁=>∃(e:Addr) (xd:Option Addr) (a0:Value) (sl:Array (Option Value)),v=.ref e/\s₁.heap.get? C=some (aep nm q C N bs bm hdct sn sub ab col dd k0 k1 k2 k3 k5 "ValueError.__new__") /\
   s₁.heap.get? e=some ⟨.ref C,xd,.fields #[a0,.none,.none,.none,.bool false,.none],sl⟩/\XPS X pins E (.ref e) s₁) (XPS X pins E) s:=by
  refine wpAny_Call_Name_kw (kM I hg hm ?_ hdb);unfold callWith;rw[he];refine de (aeH (Calls.evalArgs_plain ?_));have ha':=ha gb pins s σ H _ (I.nq _) h;rw[show X.nox.env=X.env from rfl,he]at ha'
  refine adm ha' (λus s₁ ⟨vs,H1,I1,r,v,hvs,hv,q1⟩=>de (aeK ?_)) λ_ _ z=>aea z
  subst hvs;obtain⟨u,rfl,rv⟩:=Vals.one r;have I1':=I1.eA;have kC:=I1'.kIn _ _ l;have pl:(backTo gb [(false,eval e₀ X.env)]).any (·.1)=false:=rfl
  have fin:wpAny (model X.prog X.w) X.A (call (.ref C) ([]++[u])) (λr s'=>∃(e:Addr) (xd:Option Addr) (a0:Value) (sl:Array (Option Value)),r=.ref e/\s'.heap.get? C=some (aep nm q C N bs bm hdct sn sub ab col dd k0 k1 k2 k3 k5 "ValueError.__new__") /\
   s'.heap.get? e=some ⟨.ref C,xd,.fields #[a0,.none,.none,.none,.bool false,.none],sl⟩/\XPS X pins E (.ref e) s') (XPS X pins E) s₁:=by
   refine JD xk F hr hb I1' rv hv λe d a0 s' hd1 I2 fp ke=>?_
   exact⟨e,some d,a0,#[],rfl,I2.kIn _ _ l,ke,σ,e,.ref C,some d,none,_,rfl,I2,⟨fp,_,_,ke,(by show 1 < 6;decide),rfl⟩,.inl rfl,q1 d hd1⟩
  obtain⟨hp,g',d',tk,os'⟩:=s₁;simp only[pl];refine de (wpAny_keeperOf_exc kC ?_);exact de (adm fin (λv s2 z=>de (aeH (wpAny_point (ma z)))) λ_ _ z=>z)
 rw[arm_exec_Raise];have hbx:bm.contains (.type "BaseException")=true:=(T.tail I.kIn).hasType (b:=true) (by decide +kernel)
 first
  |exact de (aeK (rg (C:=C) (nm:=nm) (q:=q) (N:=N) (bs:=bs) (bm:=bm) (hdct:=hdct) (sn:=sn) (sub:=sub) (ab:=ab) (col:=col) (dd:=dd) (k0:=k0) (k1:=k1) (k2:=k2) (k3:=k3) (k5:=k5) hbx (I.ok.hd hc) (de (adm go (λv s₃ h₃=>de (aeK (ma h₃))) λ_ _ z=>z))))
  | (simp only[evalOpt,Option.map];exact de (aeK (rg (C:=C) (nm:=nm) (q:=q) (N:=N) (bs:=bs) (bm:=bm) (hdct:=hdct) (sn:=sn) (sub:=sub) (ab:=ab) (col:=col) (dd:=dd) (k0:=k0) (k1:=k1) (k2:=k2) (k3:=k3) (k5:=k5) hbx (I.ok.hd hc) (de (adm go (λv s₃ h₃=>de (aeK (ma h₃))) λ_ _ z=>z)))))
end
end L2
set_option maxHeartbeats 4000000
namespace L2
open PySem PySem.Spec PyProof.Rows
section
variable{X:Cx}{pins:List (Addr×Obj)}{σ:St}{H:Hp}{s:Shared}{C D f:Addr}{name x:Str}{np apos gb pos pos':Pos}{o e value:Expr}{ta tv:TE}{t:TA}
theorem yG {pl:Sem Bool}(ik:PZ X.K D)(xk:B2 X.K C f name)(hg:Gl X x)(hm:X.mg x=some (.ref D))(ha:PA X [o,e] t)(hdb:(x == ("__debug__":Str))=false:=by decide)
  (hst:si [o,e] X.env=(false,eval o X.env)::si [e] X.env:=by rfl) (hpl:(backTo pos (si [e] X.env)).any (·.1)=false:=by rfl)
  (ht:eval (.Call (.Attribute (.Name x np) "__init__" apos) [o,e] [] pos) X.env=(do
   let ov <-eval (.Name x np) X.env
   standAt apos.atName
   let (f,first) <-holding [ov] (getMethod ov "__init__" pl)
   callWith pos f first (backTo pos (si [o,e] X.env)) (backToKw pos (keywordEach [] X.env))):=by rfl) :
  PE X (.Call (.Attribute (.Name x np) "__init__" apos) [o,e] [] pos) (λσ H Q=>t σ H λvs H1=>∃ea v,vs=[.ref ea,v]/\H1 ea=some (xi ea C none)/\Q .non H1):=by
 intro pins s σ H Q I h;refine aeJ (pl:=pl) (kM I hg hm ?_ hdb) ht;refine PySem.W.method_cls I.kIn ik.sp (PySem.W.cls_value I.kIn ik.rd ik.fc (by decide +kernel) ?_)
 show wpAny _ _ (callWith pos (.builtin "ValueError.__init__") [] (backTo pos (si [o,e] X.env)) []) _ _ _;exact PyProof.Rows.callWith_builtin1 (thn (ha pos pins _ σ H _ (I.tok _) h) λus s1 ⟨vs,H1,I1,r1,ea,v,hv,hx,q⟩=>Gn (xk:=xk) pins s1 σ H1 vs us Q I1 r1 ⟨ea,v,hv,hx,q⟩) hst hpl
theorem B3 (xk:B2 X.K C f name)(ha:PE X o ta)(hv:PE X value tv)(hs:swapsWith value (some (.Attribute o name pos')) pos.line X.env=pure false:=by rfl):PS X (.Assign [.Attribute o name pos'] value pos)
  (λD σ H=>tv σ H λy H1=>ta σ H1 λx H2=>∃ea,x=.ref ea/\H2 ea=some (xi ea C none)/\∀d,H2 d=none->D.nx σ (upd (upd H2 d (.xd [(name,y)])) ea (xi ea C (some d)))):=by
 intro pins s σ H D I h;refine plainObj_wpAny_Assign_Attribute (thn (hv pins s σ H _ I h) λu s1 ⟨y,H1,I1,ry,q⟩=>thn (ha pins s1 σ H1 _ I1 q) λov s2 ⟨x,H2,I2,rx,ea,ex,hx,q2⟩=>?_) hs
 subst ex;obtain rfl:ov=sr ea:=rx;obtain⟨a0,e0⟩:=Ly (P:=X.prog) (w:=X.w) (I2.hok _ _ hx);have fr:H2 s2.heap.objs.size=none:=I2.hok.fresh (kg _);refine Lz I2.kIn xk e0 λh' tk hx' ns kk=>⟨σ,_,?_,q2 _ fr⟩
 have hde:ea≠s2.heap.objs.size:=aN hx fr;have old:∀b,b≠ea->b≠s2.heap.objs.size->upd (upd H2 s2.heap.objs.size (.xd [(name,y)])) ea (xi ea C (some s2.heap.objs.size)) b=H2 b:=λb h1 h2=>by rw[aw h1,aw h2]
 have lt:∀b ob,s2.heap.get? b=some ob->b≠s2.heap.objs.size:=λb ob q=>ad6 (kx q)
 have nx:∀b,H2 b=none->b≠ea:=λb n z=>by rw[z,hx]at n;cases n
 have ns':∀b {o:HO},H2 b=some o->b≠s2.heap.objs.size:=λb _ n z=>by rw[z,fr]at n;cases n
 refine I2.un (t':=tk) ⟨λb ob q n _ _=>kk b ob (nx b n) q,λb ob q n _ _=>⟨ob.slots,kk b ob (nx b n) q⟩,λb ob q n _=>by rw[old b (nx b n) (lt b ob q)];exact n,λb ob q _=>?_,λb xs q=>?_,λb ob u q=>?_,λb ps q=>?_⟩ λa ob q=>?_
 ·by_cases z:b=ea
  ·exact⟨_,by rw[z];exact hx'⟩
  ·exact⟨ob,kk b ob z q⟩
 ·rw[old b (λz=>by rw[z,hx]at q;cases q) (ns' b q)];exact q
 ·rw[old b (λz=>by rw[z,hx]at q;cases q) (ns' b q)];exact q
 ·exact⟨#[],by rw[old b (λz=>by rw[z,hx]at q;cases q) (ns' b q),q];simp⟩
 ·by_cases z:a=ea
  ·subst z;rw[ae]at q;cases q;exact Lx hx'
  ·rw[aw z]at q
   by_cases z2:a=s2.heap.objs.size
   ·rw[z2,ae]at q;cases q;refine⟨_,by rw[z2];exact ns,λg=>?_⟩
    rw[ae7]
    by_cases hg:g=name
    ·rw[if_pos hg,show (g == name)=true from beq_iff_eq.mpr hg];exact ry
    ·rw[if_neg hg,show (g == name)=false from beq_eq_false_iff_ne.mpr hg];exact afi
   ·rw[aw z2]at q;refine(I2.hok a ob q).Ac (λb u hb r=>kk b u ?_ r) (λb r=>?_) (λb xs r=>?_)
    ·rintro rfl;rcases hb with hb | hb
     ·exact z hb.symm
     ·rw[hx]at hb;cases hb
    ·rw[old b (λz=>by rw[z,hx]at r;cases r) (ns' b r)];exact r
    ·rw[old b (λz=>by rw[z,hx]at r;cases r) (ns' b r)];exact r
theorem LB {ea C d:Addr}{fs:List (Str×V)}(I:Inv X pins σ H s)(h:H ea=some (xo ea (.ref C) (some d)))(hd:H d=some (.xd fs)) :
  ∃ox od,PySem.W.InstAt s.heap ea ox C (some od)/\∃mA:Str->Option Value,(∀n,PySem.W.lookIn n od=some (mA n))/\∀n,nj (fs.lookup n) (mA n):=by
 obtain⟨⟨sl,vs,e⟩,_⟩:=(show eU X.prog X.w H s.heap ea (xo ea (.ref C) (some d)) from I.hok _ _ h)
 obtain⟨mA,ns,r⟩:=(show eU X.prog X.w H s.heap d (.xd fs) from I.hok _ _ hd)
 obtain⟨od,ho,lk⟩:=AG ns;exact⟨_,od,⟨e,rfl,rfl,ho⟩,mA,lk,r⟩
structure LC (K:ba)(C:Addr)(name:Str):Prop where
 ga:GaX K C
 na:bo K (.ref C) name=some none
 hd:aeb K C=true
theorem Ox (he:PE X e ta)(hb:attributeBase e name X.env (eval e X.env)=eval e X.env):PE X (.Attribute e name pos)
  (λσ H Q=>ta σ H λx H1=>∃ea C d fs v,x=.ref ea/\H1 ea=some (xo ea (.ref C) (some d))/\H1 d=some (.xd fs)/\LC X.K C name/\fs.lookup name=some v/\(∃z,B0 v z)/\Q v H1):=by
 intro pins s σ H Q I h;refine Iw hb (thn (he pins s σ H _ I h) λu s1 ⟨x,H1,I1,rx,ea,C,d,fs,v,ex,hx,hd,xf,lk,⟨z,fz⟩,q⟩=>?_)
 subst ex;obtain rfl:u=sr ea:=rx;obtain⟨ox,od,J,mA,li,rel⟩:=LB I1 hx hd;have rl:=rel name;rw[lk]at rl;cases hm:mA name with
 |none=>rw[hm]at rl;exact rl.elim
 |some u2 =>
  rw[hm]at rl;have rl':RelV v u2:=rl;have hh:PySem.W.handedIn u2=true:=by
   cases fz with
   |int _=>obtain⟨t,rfl⟩:=rl';rfl
   |str=>obtain⟨t,rfl⟩:=rl';rfl
  obtain⟨cd,hc,hdct⟩:=PySem.W.any_some xf.hd;have fo:PySem.W.findObj X.K C (some od) name=some (.value u2):=by
   unfold PySem.W.findObj;rw[hc,Option.bind_some,xf.na,Option.bind_some];simp only[Option.bind_some,PySem.W.ownOf,hdct,if_true,li,hm]
  unfold getAttr;refine de (wpAny_mkText (Wq (s:={ s1 with toks:=s1.toks+1 }) I1.kIn J xf.ga (Lv (s:={ s1 with toks:=s1.toks+1 }) I1.kIn J fo ?_)))
  exact⟨hh,v,H1,I1.tok _,rl',q⟩
end
end L2
set_option maxHeartbeats 4000000
namespace L2
open PySem PySem.Spec PyProof.Rows
section
variable{κ:Type}[DecidableEq κ]
def jO (kvs:List (κ×V))(k:κ):Option V:=(kvs.find? λkv=>decide (kv.1=k)).map (·.2)
def putK (kvs:List (κ×V))(k:κ)(v:V):List (κ×V) :=
 if (kvs.any λkv=>decide (kv.1=k))=true then kvs.map (λkv=>if kv.1=k then (kv.1,v) else kv) else kvs++[(k,v)]
def kD (kvs:List (κ×V))(k:κ):List (κ×V):=kvs.filter λkv=>decide (kv.1≠k)
theorem lD {p:κ×V}{r:List (κ×V)}{k:κ}(e:p.1=k):jO (p::r) k=some p.2:=by simp[jO,aeU,e]
theorem iK {p:κ×V}{r:List (κ×V)}{k:κ}(e:¬p.1=k):jO (p::r) k=jO r k:=by simp[jO,aeU,e]
theorem tJ (k:κ):∀kvs:List (κ×V),(kvs.any λkv=>decide (kv.1=k))=(jO kvs k).isSome
 |[]=>rfl
 |p::r=>by
  rw[List.any_cons]
  by_cases e:p.1=k
  ·simp only[lD e,decide_eq_true e,Bool.true_or,Option.isSome_some]
  ·rw[iK e,decide_eq_false e,Bool.false_or];exact tJ k r
theorem vS (kvs:List (κ×V))(k:κ)(v:V):(putK kvs k v).length<=kvs.length+1:=by
 unfold putK;split
 ·rw[cb];omega
 ·rw[kr,tm,afk];omega
theorem LD {kvs:List (κ×V)}{k:κ}(v:V)(h:jO kvs k=none):putK kvs k v=kvs++[(k,v)]:=by
 unfold putK;rw[tJ,h];exact if_neg (by decide)
theorem nj.rh {o:Option V}{u:Option Value}(r:nj o u):o.isSome=u.isSome:=by
 cases o with
 |none=>cases u with
  |none=>rfl
  |some _=>exact(show False from r).elim
 |some _=>cases u with
  |none=>exact(show False from r).elim
  |some _=>rfl
theorem nj.getD {o:Option V}{u:Option Value}{d:V}{d':Value}(r:nj o u)(rd:RelV d d'):RelV (o.getD d) (u.getD d'):=by
 cases o with
 |none=>cases u with
  |none=>exact rd
  |some _=>exact(show False from r).elim
 |some _=>cases u with
  |none=>exact(show False from r).elim
  |some _=>exact r
theorem KV.val {kvs:List (κ×V)}{vs:List (κ×Value)}(r:KV kvs vs)(k:κ):nj (jO kvs k) (valueAt vs k):=by
 unfold KV at r
 induction r with
 |nil=>exact afi
 | @cons p q ps qs h t ih =>
  obtain⟨h1,h2⟩:=h
  by_cases e:p.1=k
  ·have e':q.1=k:=h1.symm.trans e;have b:valueAt (q::qs) k=some q.2:=by simp[valueAt,aeU,e']
   rw[lD e,b];exact h2
  ·have e':¬q.1=k:=λz=>e (h1.trans z)
   have b:valueAt (q::qs) k=valueAt qs k:=by simp[valueAt,aeU,e']
   rw[iK e,b];exact ih
theorem KV.any {kvs:List (κ×V)}{vs:List (κ×Value)}(r:KV kvs vs)(k:κ):(kvs.any λkv=>decide (kv.1=k))=vs.any λkv=>decide (kv.1=k):=by
 unfold KV at r
 induction r with
 |nil=>rfl
 |cons h t ih=>rw[List.any_cons,List.any_cons,ih,h.1]
theorem KV.RL {kvs:List (κ×V)}{vs:List (κ×Value)}(r:KV kvs vs)(k:κ){y:V}{u:Value}(ry:RelV y u) :
  KV (kvs.map λkv=>if kv.1=k then (kv.1,y) else kv) (vs.map λkv=>if kv.1=k then (kv.1,u) else kv):=by
 unfold KV at r ⊢
 induction r with
 |nil=>exact .nil
 | @cons p q ps qs h t ih =>
  rw[kc,kc];refine .cons ?_ ih;obtain⟨h1,h2⟩:=h
  by_cases e:p.1=k
  ·rw[if_pos e,if_pos (h1.symm.trans e)];exact⟨h1,ry⟩
  ·rw[if_neg e,if_neg (λz=>e (h1.trans z))];exact⟨h1,h2⟩
theorem KV.put {kvs:List (κ×V)}{vs:List (κ×Value)}(r:KV kvs vs)(k:κ){y:V}{u:Value}(ry:RelV y u):KV (putK kvs k y) (stored vs k u):=by
 unfold putK stored;rw[r.any k]
 by_cases e:(vs.any λkv=>decide (kv.1=k))=true
 ·rw[if_pos e,if_pos e];exact r.RL k ry
 ·rw[if_neg e,if_neg e];exact Paired.snoc r ⟨rfl,ry⟩
theorem KV.drop {kvs:List (κ×V)}{vs:List (κ×Value)}(r:KV kvs vs)(k:κ):KV (kD kvs k) (without vs k):=by
 unfold KV at r ⊢;unfold kD without
 induction r with
 |nil=>exact .nil
 | @cons p q ps qs h t ih =>
  obtain⟨h1,h2⟩:=h;rw[List.filter_cons,List.filter_cons]
  by_cases e:p.1=k
  ·have a:¬decide (p.1≠k)=true:=by simp[e]
   have b:¬decide (q.1≠k)=true:=by simp[h1.symm.trans e]
   rw[if_neg a,if_neg b];exact ih
  ·have e':¬q.1=k:=λz=>e (h1.trans z)
   have a:decide (p.1≠k)=true:=by simp[e]
   have b:decide (q.1≠k)=true:=by simp[e']
   rw[if_pos a,if_pos b];exact .cons ⟨h1,h2⟩ ih
theorem KV.keys {kvs:List (κ×V)}{vs:List (κ×Value)}(r:KV kvs vs):kvs.map (·.1)=vs.map (·.1):=by
 unfold KV at r
 induction r with
 |nil=>rfl
 |cons h t ih=>rw[kc,kc,ih,h.1]
theorem KV.length {kvs:List (κ×V)}{vs:List (κ×Value)}(r:KV kvs vs):kvs.length=vs.length:=Paired.length r
theorem Ds (kvs:List (κ×V))(k:κ):(kD kvs k).length<=kvs.length:=List.length_filter_le _ _
end
theorem AW {P:ku}{w:World}{k:Key}{u:Value}(r:RelV (kV k) u):(dF P w).is k u=true:=by
 cases k with
 |inl i=>obtain⟨t,e⟩:=(show ∃t,u=Value.int i t from r);subst e;exact C4 P w i t
 |inr x=>obtain⟨t,e⟩:=(show ∃t,u=Value.str x t from r);subst e;exact C5 P w x t
theorem AX {P:ku}{w:World}:∀ {ks:List Key} {us:List Value},Vals (ks.map kV) us->ItemsAre (dF P w) ks us
 |[],_,r=>by rw[aeE]at r;cases r;exact .nil
 |k::ks,_,r=>by
  rw[kc]at r;cases r with
  |cons h t=>exact .cons (AW h) (AX t)
abbrev KT (H:Hp):List (List Key×V)->List (List Key×Addr×Value)->Prop:=Paired λp q=>p.1=q.1/\H q.2.1=some (.tup (p.1.map kV))/\RelV p.2 q.2.2
theorem KT.val {H:Hp}{kvs:List (List Key×V)}{xs:List (List Key×Addr×Value)}(r:KT H kvs xs)(k:List Key):nj (jO kvs k) ((atKey xs k).map (·.2)):=by
 induction r with
 |nil=>exact afi
 | @cons p q ps qs h t ih =>
  obtain⟨h1,_,h2⟩:=h
  by_cases e:p.1=k
  ·have e':q.1=k:=h1.symm.trans e;have b:atKey (q::qs) k=some q.2:=by simp[atKey,aeU,e']
   rw[lD e,b];exact h2
  ·have e':¬q.1=k:=λz=>e (h1.trans z)
   have b:atKey (q::qs) k=atKey qs k:=by simp[atKey,aeU,e']
   rw[iK e,b];exact ih
theorem KT.RL {H:Hp}{kvs:List (List Key×V)}{xs:List (List Key×Addr×Value)}(r:KT H kvs xs)(k:List Key){y:V}{u:Value}(ry:RelV y u) :
  KT H (kvs.map λkv=>if kv.1=k then (kv.1,y) else kv) (xs.map (putAt k u)):=by
 induction r with
 |nil=>exact .nil
 | @cons p q ps qs h t ih =>
  rw[kc,kc];refine .cons ?_ ih;obtain⟨h1,h2,h3⟩:=h;unfold putAt
  by_cases e:p.1=k
  ·rw[if_pos e,if_pos (h1.symm.trans e)];exact⟨h1,h2,ry⟩
  ·rw[if_neg e,if_neg (λz=>e (h1.trans z))];exact⟨h1,h2,h3⟩
theorem KT.put {H:Hp}{kvs:List (List Key×V)}{xs:List (List Key×Addr×Value)}(r:KT H kvs xs)(k:List Key){b:Addr}{y:V}{u:Value}(hb:H b=some (.tup (k.map kV)))(ry:RelV y u) :
  KT H (putK kvs k y) (storedH xs k b u):=by
 have e:(kvs.any λkv=>decide (kv.1=k))=(atKey xs k).isSome:=by
  rw[tJ,(r.val k).rh,Option.isSome_map]
 unfold putK storedH;rw[e]
 by_cases q:(atKey xs k).isSome=true
 ·rw[if_pos q,if_pos q];exact r.RL k ry
 ·rw[if_neg q,if_neg q];exact Paired.snoc r ⟨rfl,hb,ry⟩
theorem KT.keeps {H H':Hp}{kvs:List (List Key×V)}{xs:List (List Key×Addr×Value)}(r:KT H kvs xs)(ht:∀b ys,H b=some (.tup ys)->H' b=some (.tup ys)):KT H' kvs xs :=
 Paired.Q3 r λ_ _ z=>⟨z.1,ht _ _ z.2.1,z.2.2⟩
section
variable{P:ku}{w:World}{H:Hp}{h:Heap}{a:Addr}
theorem P0 {u:HO}(ok:HOk P w H h)(e:Rd H a u):eU P w H h a u:=e.ok ok
theorem AY {kvs:List (Key×V)}(ok:HOk P w H h)(e:Rd H a (.dK kvs)):kvs.length<=gp/\(a == ae8)=false/\∃vs,KV kvs vs/\h.DictOf (dF P w) a vs :=
 show eU P w H h a (.dK kvs) from P0 ok e
theorem IG {kvs:List (Key×V)}(ok:HOk P w H h)(e:H a=some (.dK kvs)):kvs.length<=gp/\(a == ae8)=false/\∃vs,KV kvs vs/\h.DictOf (dF P w) a vs:=AY ok (.inl e)
theorem B4 {ks:List Key}(ok:HOk P w H h)(e:H a=some (.tup (ks.map kV))):(tupleKind (dF P w)).is h ks a:=by
 obtain⟨_,its,r,o,h1,h2,n,h3⟩:=(show eU P w H h a (.tup (ks.map kV)) from ok a _ e)
 exact⟨o,its.toArray,n,h1,h2,h3,by simpa using AX r⟩
theorem Dt {kvs:List (List Key×V)}(ok:HOk P w H h)(e:Rd H a (.dT kvs)):kvs.length<=gp/\(a == ae8)=false /\
  ∃xs,KT H kvs xs/\h.DictOfH (tupleKind (dF P w)) a xs:=by
 obtain⟨z,y,xs,r,o,es,ep,h1,h2,h3,h4,h5⟩:=(show eU P w H h a (.dT kvs) from P0 ok e)
 refine⟨z,y,xs,r,o,es,ep,h1,h2,h3,h4,λx hx=>?_,h5⟩
 have all:∀ {l:List (List Key×V)} {m:List (List Key×Addr×Value)},KT H l m->∀x∈m,(tupleKind (dF P w)).is h x.1 x.2.1:=by
  intro l m q
  induction q with
  |nil=>intro x hx;exact nomatch hx
  | @cons p q ps qs hq t ih =>
   intro x hx;rcases List.mem_cons.mp hx with e | hx
   ·subst e;exact B4 ok (by rw[<-hq.1];exact hq.2.1)
   ·exact ih x hx
 exact all r x hx
theorem Wv {kvs:List (List Key×V)}(ok:HOk P w H h)(e:H a=some (.dT kvs)):kvs.length<=gp/\(a == ae8)=false /\
  ∃xs,KT H kvs xs/\h.DictOfH (tupleKind (dF P w)) a xs:=Dt ok (.inl e)
end
def B5 (H:Hp)(a:Addr)(y:V)(r:Option V):Prop :=
 (∃kvs k,Rd H a (.dK kvs)/\y=kV k/\r=jO kvs k)\/∃kvs k b,Rd H a (.dT kvs)/\y=.ref b/\H b=some (.tup (k.map kV))/\r=jO kvs k
def wA (H:Hp)(a:Addr)(y v:V)(H':Hp):Prop :=
 (∃kvs k,H a=some (.dK kvs)/\y=kV k/\kvs.length < gp/\H'=upd H a (.dK (putK kvs k v))) \/
 ∃kvs k b,H a=some (.dT kvs)/\y=.ref b/\H b=some (.tup (k.map kV))/\kvs.length < gp/\H'=upd H a (.dT (putK kvs k v))
theorem B5.k {H:Hp}{a:Addr}{kvs:List (Key×V)}{k:Key}(e:H a=some (.dK kvs)):B5 H a (kV k) (jO kvs k):=.inl ⟨kvs,k,.inl e,rfl,rfl⟩
theorem B5.t {H:Hp}{a b:Addr}{kvs:List (List Key×V)}{k:List Key}(e:H a=some (.dT kvs))(eb:H b=some (.tup (k.map kV))):B5 H a (.ref b) (jO kvs k):=.inr ⟨kvs,k,b,.inl e,rfl,eb,rfl⟩
theorem wA.k {H:Hp}{a:Addr}{kvs:List (Key×V)}{k:Key}{v:V}(e:H a=some (.dK kvs))(hl:kvs.length < gp):wA H a (kV k) v (upd H a (.dK (putK kvs k v))):=.inl ⟨kvs,k,e,rfl,hl,rfl⟩
theorem wA.t {H:Hp}{a b:Addr}{kvs:List (List Key×V)}{k:List Key}{v:V}(e:H a=some (.dT kvs))(eb:H b=some (.tup (k.map kV)))(hl:kvs.length < gp) :
  wA H a (.ref b) v (upd H a (.dT (putK kvs k v))):=.inr ⟨kvs,k,b,e,rfl,eb,hl,rfl⟩
section
variable{X:Cx}{pins:List (Addr×Obj)}{σ:St}{H:Hp}{s:Shared}{a:Addr}{y v:V}{u r:Value}{o:Option V}{A:Around}{E:Value->Shared->Prop}
theorem Inv.big (I:Inv X pins σ H s):ae8 < s.heap.objs.size:=by
 have h:gn < s.heap.objs.size:=(I.mod.glob.keeps I.bk).lt;exact Nat.lt_trans (by decide) h
theorem JE {Q:Value->Shared->Prop}(hu:A.units+1 < cLine)(I:Inv X pins σ H s)(g:B5 H a y (some v))(ry:RelV y u)(h:∀w' s',Inv X pins σ H s'->RelV v w'->Q w' s') :
  wpAny (model X.prog X.w) A (getItem (.ref a) u) Q E s:=by
 rcases g with ⟨kvs,k,e,ey,l⟩ | ⟨kvs,k,b,e,ey,eb,l⟩
 ·subst ey;obtain⟨z,hd,vs,rel,dd⟩:=AY I.hok e;obtain⟨w',hw,rw'⟩:=nj.some_of (v:=v) (o:=valueAt vs k) (by rw[l];exact rel.val k)
  exact wpAny_getItem_of (AW ry) dd.mapOf hw (h w' _ (I.tok _) rw')
 ·subst ey;cases (show u=sr b from ry)
  obtain⟨z,hd,xs,rel,dd⟩:=Dt I.hok e;obtain⟨w',hw,rw'⟩:=nj.some_of (v:=v) (o:=(atKey xs k).map (·.2)) (by rw[l];exact rel.val k)
  obtain⟨p,hp,hp2⟩:=Option.map_eq_some_iff.mp hw;refine wpAny_getItem_heap (tupleKind_room_in1 hu) (B4 I.hok eb) dd hp ?_;rw[hp2];exact h w' _ (I.tok _) rw'
theorem Oy {Q:Value->Shared->Prop}(hu:A.units+1 < cLine)(I:Inv X pins σ H s)(g:B5 H a y o)(ry:RelV y u)(h:∀s',Inv X pins σ H s'->Q (.bool (!o.isSome)) s') :
  wpAny (model X.prog X.w) A (aeZ .NotIn u (.ref a)) Q E s:=by
 rcases g with ⟨kvs,k,e,ey,l⟩ | ⟨kvs,k,b,e,ey,eb,l⟩
 ·subst ey;obtain⟨z,hd,vs,rel,dd⟩:=AY I.hok e;refine wpAny_notIn_of (AW ry) hd dd.mapOf ?_;rw[<-(rel.val k).rh,<-l];exact h _ (I.tok _)
 ·subst ey;cases (show u=sr b from ry)
  obtain⟨z,hd,xs,rel,dd⟩:=Dt I.hok e;refine wpAny_notIn_heap (tupleKind_room_in1 hu) (B4 I.hok eb) hd dd ?_;have q:=(rel.val k).rh;rw[Option.isSome_map]at q;rw[<-q,<-l];exact h _ (I.tok _)
theorem xY {h':Heap}{t':Nat}{ob:HO}(I:Inv X pins σ H s)(mu:Mut (H a))(hs:Heap.SameBut a s.heap h')(he:∃q,h'.get? a=some q)(new:eU X.prog X.w (upd H a ob) h' a ob) :
  Inv X pins σ (upd H a ob) { s with heap:=h',toks:=t' } :=
 I.write (x:=a) (e:=a) mu (.inl rfl) (λb q hb z=>(hs.2 b hb).trans z) he new
theorem Gp {P:ku}{w:World}{H':Hp}{h':Heap}{kvs:List (Key×V)}{vs:List (Key×Value)}(z:kvs.length<=gp)(hd:(a == ae8)=false)(rel:KV kvs vs)(dd:h'.DictOf (dF P w) a vs) :
  eU P w H' h' a (.dK kvs):=⟨z,hd,vs,rel,dd⟩
theorem JF {H':Hp}{Q:Unit->Shared->Prop}(hu:A.units+1 < cLine)(I:Inv X pins σ H s)(g:wA H a y v H')(ry:RelV y u)(rv:RelV v r)(h:∀s',Inv X pins σ H' s'->Q () s') :
  wpAny (model X.prog X.w) A (setItem (.ref a) u r) Q E s:=by
 rcases g with ⟨kvs,k,e,ey,l,eH⟩ | ⟨kvs,k,b,e,ey,eb,l,eH⟩
 ·subst ey eH;obtain⟨z,hd,vs,rel,dd⟩:=IG I.hok e;have hz:vs.length<=gp:=by rw[<-rel.length];exact z
  have hl:(putK kvs k v).length<=gp:=by have:=vS kvs k v;omega
  refine wpAny_setItem_pairs (hsz:=hz) (AW ry) dd λh' dd' hs=>h _ ?_
  have he:∃q,h'.get? a=some q:=let ⟨q,_,_,hq,_⟩:=dd';⟨q,hq⟩
  exact xY I (by rw[e];exact afi) hs he (Gp hl hd (rel.put k rv) dd')
 ·subst ey eH;cases (show u=sr b from ry)
  obtain⟨z,hd,xs,rel,dd⟩:=Wv I.hok e;have hz:xs.length<=gp:=by rw[<-Paired.length rel];exact z
  have hl:(putK kvs k v).length<=gp:=by have:=vS kvs k v;omega
  refine wpAny_setItem_heap (hsz:=hz) (tupleKind_room_in1 hu) (B4 I.hok eb) dd λh' dd' hs=>h _ ?_
  obtain⟨q,es,ep,hq,h2,h3,h4,_,h5⟩:=dd';refine xY I (by rw[e];exact afi) hs ⟨q,hq⟩ ⟨hl,hd,_,(rel.put k eb rv).keeps λc ys ec=>?_,q,es,ep,hq,h2,h3,h4,h5⟩
  rw[aw (VO ec e (λz=>nomatch z))]
  exact ec
end
section
variable{X:Cx}{pins:List (Addr×Obj)}{σ:St}{H:Hp}{s:Shared}{a:Addr}{kvs:List (Key×V)}{k:Key}{u:Value}{A:Around}{E:Value->Shared->Prop}
theorem VN {Q:Unit->Shared->Prop}(I:Inv X pins σ H s)(e:H a=some (.dK kvs))(ry:RelV (kV k) u)(l:(jO kvs k).isSome=true)(h:∀s',Inv X pins σ (upd H a (.dK (kD kvs k))) s'->Q () s') :
  wpAny (model X.prog X.w) A (delItem (.ref a) u) Q E s:=by
 obtain⟨z,hd,vs,rel,dd⟩:=IG I.hok e;refine wpAny_delItem_slot dd.typeIs (by decide) PySem.F.slot_dict_delitem
  (call_meetsIn PySem.F.slot_dict_delitem dd.typeIs PySem.F.entry_dict_delitem (PySem.F.args_dict_delitem_2 _ _) (meets_dict_delitem_pairs (dF X.prog X.w) a (AW ry)) ⟨vs,dd,by rw[<-rel.length];exact z,by rw[<-(rel.val k).rh];exact l,λh' dd' hs=>h _ ?_⟩)
 have he:∃q,h'.get? a=some q:=let ⟨q,_,_,hq,_⟩:=dd';⟨q,hq⟩
 exact xY I (by rw[e];exact afi) hs he (Gp (om (Ds kvs k) z) hd (rel.drop k) dd')
theorem Ww {v:V}{more:List Value}{Q:Value->Shared->Prop}(I:Inv X pins σ H s)(e:H a=some (.dK kvs))(ry:RelV (kV k) u)(l:jO kvs k=some v)(hm:more=[]\/∃x,more=[x])
  (h:∀w' s',Inv X pins σ (upd H a (.dK (kD kvs k))) s'->RelV v w'->Q w' s'):wpAny (model X.prog X.w) A (call (.builtin "dict.pop") (.ref a::u::more)) Q E s:=by
 obtain⟨z,hd,vs,rel,dd⟩:=IG I.hok e;obtain⟨w',hw,rw'⟩:=nj.some_of (v:=v) (o:=valueAt vs k) (by rw[<-l];exact rel.val k)
 have hp:(keyPart u).isSome=true:=by
  cases k with
  |inl i=>obtain⟨t,q⟩:=(show ∃t,u=Value.int i t from ry);subst q;rfl
  |inr x=>obtain⟨t,q⟩:=(show ∃t,u=Value.str x t from ry);subst q;rfl
 have ha:argsOk "dict.pop" ⟨.ref a::u::more,[]⟩:=by
  rcases hm with q | ⟨x,q⟩
  ·subst q;exact PySem.F.args_dict_pop_2 _ _
  ·subst q;exact PySem.F.args_dict_pop_3 _ _ _
 refine call_meetsIn PySem.F.slot_dict_pop dd.typeIs PySem.F.entry_dict_pop ha (meets_dict_pop_there (dF X.prog X.w) a (AW ry) more hm hp)
  ⟨vs,w',dd,by rw[<-rel.length];exact z,hw,λh' dd' hs=>h w' _ ?_ rw'⟩
 have he:∃q,h'.get? a=some q:=let ⟨q,_,_,hq,_⟩:=dd';⟨q,hq⟩
 exact xY I (by rw[e];exact afi) hs he (Gp (om (Ds kvs k) z) hd (rel.drop k) dd')
theorem Wx {Q:Value->Shared->Prop}(I:Inv X pins σ H s)(e:Rd H a (.dK kvs))(h:∀t s',Inv X pins σ H s'->Q (.int kvs.length t) s'):wpAny (model X.prog X.w) A (call (.builtin "len") [.ref a]) Q E s:=by
 obtain⟨z,hd,vs,rel,dd⟩:=AY I.hok e;refine call_len_dict hd dd (by rw[<-rel.length];rw[sizeLine_eq]at z;omega) ?_
 rw[<-rel.length];exact h _ _ (I.tok _)
end
def Wy (i:Expr):Prop:=∀ov iv,subscripted i false ov iv=operate [ov,iv] (getItem ov iv)
theorem Oz {prog:ku}{w:World}{A:Around}{E:Value->Shared->Prop}{s:Shared}{env:Env}{value slice:Expr}{pos:Pos}{T id:String}{Q:Value->Shared->Prop}
  (hl:typeLookup (.type T) "__getitem__"=pure (some (.builtin id))) (hs:Wy slice)
  (h:wpAny (model prog w) A (eval value env) (λo s₁=>wpAny (model prog w) A (eval slice env) (λi s₂=>s₂.TypeIs o T/\wpAny (model prog w) A (getItem o i) Q E s₂) E s₁) E s) :
  wpAny (model prog w) A (eval (.Subscript value slice pos) env) Q E s:=by
 refine Subscript_ (adm h (λo s₁ h₁=>adm h₁ (λi s₂ h₂=>?_) λ_ _ x=>x) λ_ _ x=>x)
 obtain⟨hT,h₂⟩:=h₂;unfold subscriptTail;refine de ?_;rw[getitemInPython_of_ne hT.not_modules];refine de (wpAny_specialOf hT hl ?_);have fin:wpAny (model prog w) A (subscripted slice false o i) (λr s₃=>wpAny (model prog w) A (letTemporaryGo value o r >>= λ_=>pure r) Q E s₃) E s₂:=by
  rw[hs o i];exact wpAny_operating (adm h₂ (λr s₃ h₃=>de (wpAny_letTemporaryGo (ma h₃))) λ_ _ x=>x)
 first
  |exact ma (de fin)
  |exact de (ma (de fin))
  |exact de fin
theorem Du {X:Cx}{pins:List (Addr×Obj)}{σ:St}{H:Hp}{s:Shared}{a:Addr}{y:V}{o:Option V}(I:Inv X pins σ H s)(g:B5 H a y o):s.TypeIs (.ref a) "dict":=by
 rcases g with ⟨kvs,k,e,_,_⟩ | ⟨kvs,k,b,e,_,_,_⟩
 ·obtain⟨_,_,vs,_,dd⟩:=AY I.hok e;exact dd.typeIs
 ·obtain⟨_,_,xs,_,dd⟩:=Dt I.hok e;exact dd.typeIs
def Wz (td ty:TE):TE:=λσ H Q=>td σ H λx H1=>ty σ H1 λy H2=>∃a v,x=.ref a/\B5 H2 a y (some v)/\Q v H2
def OA (ty td:TE):TE:=λσ H Q=>ty σ H λy H1=>td σ H1 λx H2=>∃a o,x=.ref a/\B5 H2 a y o/\Q (.bl (!o.isSome)) H2
def WA (td ty tv:TE):TS:=λD σ H=>tv σ H λv H1=>td σ H1 λx H2=>ty σ H2 λy H3=>∃a H4,x=.ref a/\wA H3 a y v H4/\D.nx σ H4
section
variable{X:Cx}{o i e value:Expr}{pos pos' aby:Pos}{td ty tv:TE}
theorem mz (hu:X.A.units+1 < cLine)(ho:PE X o td)(hi:PE X i ty)(hs:Wy i):PE X (.Subscript o i pos) (Wz td ty):=by
 intro pins s σ H Q I h;refine Oz PySem.F.slot_dict_getitem.lookup hs (thn (ho pins s σ H _ I h) λu s1 ⟨x,H1,I1,rx,q1⟩=>thn (hi pins s1 σ H1 _ I1 q1) λiv s2 ⟨y,H2,I2,ry,a,v,ex,g,q2⟩=>?_)
 subst ex;obtain rfl:u=sr a:=rx;exact⟨Du I2 g,JE hu I2 g ry λw' s3 I3 rw'=>⟨v,H2,I3,rw',q2⟩⟩
theorem AZ (hu:X.A.units+1 < cLine)(hi:PE X i ty)(ho:PE X o td):PC X .NotIn i o (OA ty td):=by
 intro pins s σ H Q I h;refine thn (hi pins s σ H _ I h) λiv s1 ⟨y,H1,I1,ry,q1⟩=>thn (ho pins s1 σ H1 _ I1 q1) λu s2 ⟨x,H2,I2,rx,a,ov,ex,g,q2⟩=>?_
 subst ex;obtain rfl:u=sr a:=rx;exact Oy hu I2 g ry λs3 I3=>⟨.bl (!ov.isSome),H2,I3,rfl,q2⟩
theorem rj (hu:X.A.units+1 < cLine)(ho:PE X o td)(hi:PE X i ty)(hv:PE X value tv)(hs:swapsWith value (some (.Subscript o i pos')) pos.line X.env=pure false) :
  PS X (.Assign [.Subscript o i pos'] value pos) (WA td ty tv):=by
 intro pins s σ H D I h;refine wpAny_Assign_Subscript (thn (hv pins s σ H _ I h) λr s1 ⟨v,H1,I1,rv,q1⟩=>thn (ho pins s1 σ H1 _ I1 q1) λu s2 ⟨x,H2,I2,rx,q2⟩=>thn (hi pins s2 σ H2 _ I2 q2) λiv s3 ⟨y,H3,I3,ry,a,H4,ex,g,q3⟩=>?_) hs
 subst ex;obtain rfl:u=sr a:=rx;exact JF hu I3 g ry rv λs4 I4=>⟨σ,H4,I4,q3⟩
end
theorem LF {P:ku}{w:World}{H:Hp}(h:Heap)(hb:ae8 < h.objs.size):eU P w H (h.push { cls:=.type "dict",data:=.dict #[] }) h.objs.size (.dK []) :=
 ⟨aeM _,beq_eq_false_iff_ne.mpr (ad9 (ad6 hb)),[],.nil,Heap.DictOf.new h⟩
def RM:TE:=λ_ H Q=>∀p,H p=none->Q (.ref p) (upd H p (.dK []))
section
variable{X:Cx}{pos:Pos}
theorem tK:PE X (.Dict [] [] pos) RM:=λpins s σ H Q I h =>
 wpAny_Dict_empty ⟨.ref s.heap.objs.size,_,I.laid (a:=s.heap.objs.size) (o:=.dK []) (t':=s.toks) (λ_ _ q=>gc _ q) (kg _) (LF s.heap I.big),rfl,h _ (I.hok.fresh (kg _))⟩
end
structure M1 (X:Cx)(o:Expr)(m:Str)(apos:Pos)(e:Expr)(gb:Pos):Prop where
 base:attributeBase o m X.env (eval o X.env)=eval o X.env
 few:((backTo gb (si [e] X.env)).all (λx=>!x.1) && (backToKw gb (keywordEach [] X.env)).all (λx=>x.1.isSome)
  && decide (([e]:List Expr).length+([]:List Keyword).length+(if ([]:List Keyword).isEmpty then 0 else 1) < 30))=true
 line:(apos.endLine == gb.line)=true
 trees:backTo gb (si [e] X.env)=[(false,eval e X.env)]
structure M2 (X:Cx)(o:Expr)(m:Str)(apos:Pos)(e f:Expr)(gb:Pos):Prop where
 base:attributeBase o m X.env (eval o X.env)=eval o X.env
 few:((backTo gb (si [e,f] X.env)).all (λx=>!x.1) && (backToKw gb (keywordEach [] X.env)).all (λx=>x.1.isSome)
  && decide (([e,f]:List Expr).length+([]:List Keyword).length+(if ([]:List Keyword).isEmpty then 0 else 1) < 30))=true
 line:(apos.endLine == gb.line)=true
 trees:backTo gb (si [e,f] X.env)=[(false,eval e X.env),(false,eval f X.env)]
def IsD (H:Hp)(a:Addr):Prop:=(∃kvs,Rd H a (.dK kvs))\/∃kvs,Rd H a (.dT kvs)
theorem RN {X:Cx}{pins:List (Addr×Obj)}{σ:St}{H:Hp}{s:Shared}{a:Addr}(I:Inv X pins σ H s)(d:IsD H a) :
  s.TypeIs (.ref a) "dict"/\(∀b,sr a=.ref b->∃ob,s.heap.get? b=some ob/\ob.dict=none)/\(a == ae8)=false:=by
 rcases d with ⟨kvs,e⟩ | ⟨kvs,e⟩
 ·obtain⟨_,hd,vs,_,dd⟩:=AY I.hok e;refine⟨dd.typeIs,λb q=>?_,hd⟩
  cases q;obtain⟨ob,_,_,h1,h2,_⟩:=dd;exact⟨ob,h1,h2.2.1⟩
 ·obtain⟨_,hd,xs,_,dd⟩:=Dt I.hok e;refine⟨dd.typeIs,λb q=>?_,hd⟩
  cases q;obtain⟨ob,_,_,h1,h2,_⟩:=dd;exact⟨ob,h1,h2.2.1⟩
def RO (td ty:TE):TE:=λσ H Q=>td σ H λx H1=>∃a,x=.ref a/\IsD H1 a/\ty σ H1 λy H2=>∃kvs k v,H2 a=some (.dK kvs)/\y=kV k/\jO kvs k=some v/\Q v (upd H2 a (.dK (kD kvs k)))
section
variable{X:Cx}{o e f:Expr}{apos gb:Pos}{td ty tx:TE}
theorem LG (ho:PE X o td)(he:PE X e ty)(m:M1 X o "pop" apos e gb):PE X (.Call (.Attribute o "pop" apos) [e] [] gb) (RO td ty):=by
 intro pins s σ H Q I h;refine wpAny_Call_method m.base m.few m.line PySem.F.plainAttrs_dict PySem.F.slot_dict_pop PySem.F.type_dict_pop (thn (ho pins s σ H _ I h) λu s1 ⟨x,H1,I1,rx,a,ex,d,q1⟩=>?_)
 subst ex;obtain rfl:u=sr a:=rx;obtain⟨t1,t2,_⟩:=RN I1 d;refine⟨t1,t2,?_⟩;rw[m.trees];refine Calls.callWith_builtin rfl (Calls.evalArgs_plain (Calls.spliced_cons (thn (he pins s1 σ H1 _ I1 q1) λiv s2 ⟨y,H2,I2,ry,kvs,k,v,ea,ey,l,q2⟩=>Calls.spliced_nil ?_)))
 subst ey;exact Ww I2 ea ry l (.inl rfl) λw' s3 I3 rw'=>⟨v,_,I3,rw',q2⟩
end
end L2
namespace L2
open PySem PySem.Spec PyProof.Rows
section
variable{X:Cx}
theorem JG:mw X (.builtin "len") (λxs H Q=>∃a kvs,xs=[V.ref a]/\H a=some (.dK kvs)/\Q (.int kvs.length) H):=by
 intro pins s σ H xs us Q I r h;obtain⟨a,kvs,rfl,ha,q⟩:=h;obtain⟨u,rfl,ru⟩:=vals1 r;cases ru;exact Wx I (.inl ha) λt s' I'=>⟨.int kvs.length,H,I',⟨t,rfl⟩,q⟩
end
end L2
set_option maxHeartbeats 1000000
namespace L2
open PySem PySem.Spec PyProof.Rows
theorem Room.u1 {k:Nat}{A:Around}(r:Room k A):A.units+1 < cLine:=by have:=r.un;omega
theorem OB {X:Cx}{K:ba}{e:Expr}{f:Str}{pos:Pos}{ta:TE}(ek:X.K=K)(he:PE X e ta)(hb:attributeBase e f X.env (eval e X.env)=eval e X.env):PE X (.Attribute e f pos) (V2 K ta f):=by
 subst ek;exact aZ he hb
theorem ints_of:∀(l:List Value) (ns:List Int),l.length=ns.length->(∀(j:Nat) (v:Value),l[j]?=some v->∃n t,ns[j]?=some n/\v=Value.int n t)->IntsAre l ns
 |[],[],_,_=>.nil
 |[],_::_,h,_=>nomatch h
 |_::_,[],h,_=>nomatch h
 |v::l,n::ns,h,g=>by
  obtain⟨n',t,e1,e2⟩:=g 0 v rfl;have e3:n=n':=by simpa using e1
  subst e3;subst e2;exact .cons n t (ints_of l ns (by simpa using h) λj v hv=>g (j+1) v (by simpa using hv))
theorem Dv:∀ {vs:List Value} {ns:List Int},IntsAre vs ns->Vals (ns.map V.int) vs
 |_,_,.nil=>.nil
 |_,_,.cons n t h=>.cons ⟨t,rfl⟩ (Dv h)
theorem P1 {κ:Type}:∀ {kvs:List (κ×V)} {vs:List (κ×Value)},KV kvs vs->∀(j:Nat) (q:κ×Value),vs[j]?=some q->(kvs.map (·.1))[j]?=some q.1
 |_,_,.nil,j,q,h=>by simp at h
 |_,_,.cons a r,0,q,h=>by
  rw[aeF]at h;cases h;rw[kc,aeF,a.1]
 |_,_,.cons a r,j+1,q,h=>by
  have:=P1 r j q (by simpa using h)
  simpa using this
theorem OC {P:ku}{w:World}{n:Int}{v:Value}(h:(dF P w).is (km n) v=true):∃t,v=Value.int n t:=by
 rcases dq (k:=km n) (v:=v) (show yp (km n) v=true from h) with ⟨i,t,e,rfl⟩ | ⟨x,t,e,rfl⟩
 ·cases e;exact⟨t,rfl⟩
 ·cases e
theorem B6 {X:Cx}(hh:X.A.handled=none):mw X (.builtin "sorted") (λxs H Q=>∃a kvs ns,xs=[V.ref a]/\H a=some (.dK kvs)/\kvs.map (·.1)=ns.map km/\ns.length < 64 /\
  ∀l ns',afc ns' ns->ns'.Pairwise (·<=·)->H l=none->Q (.ref l) (upd H l (.lst (ns'.map V.int)))):=by
 intro pins s σ H xs us Q I r h;obtain⟨a,kvs,ns,rfl,ha,hk,h64,q⟩:=h;obtain⟨u,rfl,ru⟩:=vals1 r;cases ru;obtain⟨z,hd,vs,rel,dd⟩:=IG I.hok ha;obtain⟨ep,hat⟩:=dd.dictAt;have hlen:vs.length=ns.length:=by
  have e1:=congrArg List.length hk;simp only[cb]at e1;rw[<-rel.length];exact e1
 refine Calls.call_function_entry kind_sorted plain_sorted entry_sorted (args_sorted1 _) ?_;unfold Builtin.«sorted»;refine de (m:=checkCount "sorted" 1 1 _) (ma ?_);refine de (PySem.W.kdu_collect (A:=X.A.in1) (PySem.W.kdl_dict (knd:=dF X.prog X.w) (kvs:=vs) (ep:=ep) hd) hh hat (by rw[<-rel.length];exact z) λh' tk acc kp Og=>?_)
 have hsz:acc.toList.length=ns.length:=by rw[afg];exact Og.1.trans hlen
 have hI:IntsAre acc.toList ns:=ints_of _ _ hsz λj v hv=>by
  obtain⟨k,x,hx,hkv⟩:=Og.2 j v (by rw[<-Array.getElem?_toList];exact hv)
  have e:=P1 rel j _ hx;rw[hk,aeD]at e;cases en:ns[j]? with
  |none=>rw[en]at e;cases e
  |some n =>
   rw[en]at e;have e':km n=k:=by simpa using e
   subst e';obtain⟨t,rfl⟩:=OC hkv;exact⟨n,t,rfl,rfl⟩
 refine de (wpAny_newList ?_ (by rw[hsz];rw[sizeLine_eq];omega))
 have hoL:(h'.push (seqObj "list" acc.toList.toArray 0)).get? h'.objs.size=some (seqObj "list" acc.toList.toArray 0):=ad3 _ rfl;refine de (aeH (wpAny_call_entry slot_list_sort ⟨_,hoL,rfl⟩ entry_list_sort (list_sort_tree hoL hI (by omega) λout ns' a1 a2 a3=>⟨_,rfl,?_⟩) (args_list_sort _)))
 refine ma ⟨_,rfl,?_⟩;obtain⟨e,he⟩:=sortedHeap_at (out:=out) hoL;have I1:Inv X pins σ H { s with heap:=h',toks:=tk }:=I.un (Un.kept kp) (I.hok.kept kp)
 refine⟨.ref h'.objs.size,_,I1.laid (t':=tk) (λb o hb=>?_) (kg _) (show eU X.prog X.w _ _ _ (.lst (ns'.map V.int)) from ⟨?_,_,e,Dv a1,?_⟩),rfl,q _ ns' a2 a3 (I1.hok.fresh (kg _))⟩
 ·have hb':h'.get? b=some o:=hb;have hlt:=kx hb';rw[sortedHeap_old (ad6 hlt) (by rw[size_push'];exact Nat.lt_succ_of_lt hlt)]
  exact gc _ hb'
 ·rw[cb,a2.length_eq,sizeLine_eq];omega
 ·rw[Array.toArray_toList];exact he
theorem JH:bootBuiltins "sorted"=some (.builtin "sorted"):=by decide +kernel
theorem hide {P:Prop}(h:∀G:Prop,(P->G)->G):P:=h P id
theorem ixv {s:Option (Option V)}{p:Addr}{n:Int}{S:Addr->List V->Prop}{xs:List V}{z:V}{R:V->Prop}(h0:s=some (some (.ref p)))(h1:S p xs)(h2:atI xs n=some z)(h:R z):∃v,s=some (some v)/\∃q ys i w,v=.ref q/\V.int n=.int i/\S q ys/\atI ys i=some w/\R w :=
 ⟨_,h0,p,xs,n,z,rfl,rfl,h1,h2,h⟩
theorem eT {K:ba}{s:Option (Option V)}{H:Hp}{a C dx:Addr}{fs:List (Str×V)}{f:Str}{w:V}{R:V->Prop}(h0:s=some (some (.ref a)))(h1:H a=some (.ins C dx fs))(h2:Cls K C)(h3:dA K C f)(h4:fs.lookup f=some w)(h:R w) :
  ∃v,s=some (some v)/\∃a C dx fs w,v=.ref a/\H a=some (.ins C dx fs)/\Cls K C/\dA K C f/\fs.lookup f=some w/\R w:=⟨_,h0,a,C,dx,fs,w,rfl,h1,h2,h3,h4,h⟩
theorem mtv {s:Option (Option V)}{H:Hp}{a C dx:Addr}{fs:List (Str×V)}{m:Str}{R:V->Prop}(h0:s=some (some (.ref a)))(h1:H a=some (.ins C dx fs))(h2:fs.lookup m=none)(h:R (.ref a)) :
  ∃v,s=some (some v)/\∃a dx fs,v=.ref a/\H a=some (.ins C dx fs)/\fs.lookup m=none/\R v:=⟨_,h0,a,dx,fs,rfl,h1,h2,h⟩
theorem tsf {b:Bool}{P Q:Prop}(h:b=false)(q:Q):∃k,V.bl b=.bl k/\if k=true then P else Q:=⟨b,rfl,by rw[h];exact q⟩
theorem tst {b:Bool}{P Q:Prop}(h:b=true)(q:P):∃k,V.bl b=.bl k/\if k=true then P else Q:=⟨b,rfl,by rw[h];exact q⟩
end L2
set_option maxHeartbeats 1000000
namespace My
open PySem L2
seal PySem.wpAny
def top (i:Nat):Stmt:=PySem.Challenge.pw_moot_k20_whole_aside_and_taken_up.main.body.getD i (.Pass ⟨0,0,0,0⟩)
abbrev fE:Stmt:=inClass (top 22) 1
theorem yH:aG ["self"] ["self"] (af fE):=⟨rfl,rfl,rfl,by decide +kernel,rfl,by decide +kernel,by decide +kernel⟩
abbrev fF:Stmt:=inClass (top 23) 1
theorem yI:aG ["self"] ["self"] (af fF):=⟨rfl,rfl,rfl,by decide +kernel,rfl,by decide +kernel,by decide +kernel⟩
abbrev ir:Stmt:=inClass (top 24) 1
theorem B7:aG ["self"] ["self"] (af ir):=⟨rfl,rfl,rfl,by decide +kernel,rfl,by decide +kernel,by decide +kernel⟩
abbrev fG:Stmt:=inClass (top 25) 1
theorem yJ:aG ["self"] ["self"] (af fG):=⟨rfl,rfl,rfl,by decide +kernel,rfl,by decide +kernel,by decide +kernel⟩
abbrev gF:Stmt:=inClass (top 26) 0
theorem Ah:aG ["self"] ["self"] (af gF):=⟨rfl,rfl,rfl,by decide +kernel,rfl,by decide +kernel,by decide +kernel⟩
abbrev jb:Stmt:=inClass (top 27) 0
theorem Dw:aG ["self"] ["self"] (af jb):=⟨rfl,rfl,rfl,by decide +kernel,rfl,by decide +kernel,by decide +kernel⟩
abbrev iu:Stmt:=inClass (top 28) 0
theorem B8:aG ["self"] ["self"] (af iu):=⟨rfl,rfl,rfl,by decide +kernel,rfl,by decide +kernel,by decide +kernel⟩
abbrev gG:Stmt:=inClass (top 29) 1
theorem Ai:aG ["self"] ["self"] (af gG):=⟨rfl,rfl,rfl,by decide +kernel,rfl,by decide +kernel,by decide +kernel⟩
abbrev fH:Stmt:=inClass (top 21) 1
theorem yK:aG ["self"] ["self"] (af fH):=⟨rfl,rfl,rfl,by decide +kernel,rfl,by decide +kernel,by decide +kernel⟩
abbrev fJ:Stmt:=inClass (top 21) 2
theorem yL:aG ["self"] ["self"] (af fJ):=⟨rfl,rfl,rfl,by decide +kernel,rfl,by decide +kernel,by decide +kernel⟩
abbrev gH:Stmt:=inClass (top 26) 1
theorem Aj:aG ["self"] ["self"] (af gH):=⟨rfl,rfl,rfl,by decide +kernel,rfl,by decide +kernel,by decide +kernel⟩
abbrev fK:Stmt:=inClass (top 21) 3
theorem yM:aG ["self"] ["self"] (af fK):=⟨rfl,rfl,rfl,by decide +kernel,rfl,by decide +kernel,by decide +kernel⟩
abbrev fL:Stmt:=inClass (top 22) 2
theorem yN:aG ["self"] ["self"] (af fL):=⟨rfl,rfl,rfl,by decide +kernel,rfl,by decide +kernel,by decide +kernel⟩
abbrev fM:Stmt:=inClass (top 23) 2
theorem yO:aG ["self"] ["self"] (af fM):=⟨rfl,rfl,rfl,by decide +kernel,rfl,by decide +kernel,by decide +kernel⟩
abbrev iw:Stmt:=inClass (top 24) 2
theorem B9:aG ["self"] ["self"] (af iw):=⟨rfl,rfl,rfl,by decide +kernel,rfl,by decide +kernel,by decide +kernel⟩
abbrev fN:Stmt:=inClass (top 25) 2
theorem yP:aG ["self"] ["self"] (af fN):=⟨rfl,rfl,rfl,by decide +kernel,rfl,by decide +kernel,by decide +kernel⟩
abbrev gI:Stmt:=inClass (top 29) 2
theorem Ak:aG ["self"] ["self"] (af gI):=⟨rfl,rfl,rfl,by decide +kernel,rfl,by decide +kernel,by decide +kernel⟩
abbrev fO:Stmt:=inClass (top 22) 0
theorem yQ:aG ["self","text"] ["self","text"] (af fO):=⟨rfl,rfl,rfl,by decide +kernel,rfl,by decide +kernel,by decide +kernel⟩
abbrev fP:Stmt:=inClass (top 23) 0
theorem yR:aG ["self","edit"] ["self","edit"] (af fP):=⟨rfl,rfl,rfl,by decide +kernel,rfl,by decide +kernel,by decide +kernel⟩
abbrev ix:Stmt:=inClass (top 24) 0
theorem Ca:aG ["self","edit"] ["self","edit"] (af ix):=⟨rfl,rfl,rfl,by decide +kernel,rfl,by decide +kernel,by decide +kernel⟩
abbrev fQ:Stmt:=inClass (top 25) 0
theorem yS:aG ["self","sitting"] ["self","sitting"] (af fQ):=⟨rfl,rfl,rfl,by decide +kernel,rfl,by decide +kernel,by decide +kernel⟩
abbrev gJ:Stmt:=inClass (top 29) 0
theorem Al:aG ["self","clause"] ["self","clause"] (af gJ):=⟨rfl,rfl,rfl,by decide +kernel,rfl,by decide +kernel,by decide +kernel⟩
abbrev fR:Stmt:=inClass (top 4) 0
theorem yT:aG ["self","bar"] ["self","bar"] (af fR):=⟨rfl,rfl,rfl,by decide +kernel,rfl,by decide +kernel,by decide +kernel⟩
abbrev dN:Stmt:=inClass (top 7) 0
theorem uR:aG ["self","sitting"] ["self","sitting"] (af dN):=⟨rfl,rfl,rfl,by decide +kernel,rfl,by decide +kernel,by decide +kernel⟩
abbrev fS:Stmt:=inClass (top 11) 0
theorem yU:aG ["self","sitting"] ["self","sitting"] (af fS):=⟨rfl,rfl,rfl,by decide +kernel,rfl,by decide +kernel,by decide +kernel⟩
abbrev eC:Stmt:=inClass (top 46) 0
theorem wB:aG ["self","seats"] ["self","seats"] (af eC):=⟨rfl,rfl,rfl,by decide +kernel,rfl,by decide +kernel,by decide +kernel⟩
abbrev eD:Stmt:=inClass (top 46) 1
theorem o9:aG ["self","told","number"] ["self","told"] (af eD):=⟨rfl,rfl,rfl,by decide +kernel,rfl,by decide +kernel,by decide +kernel⟩
abbrev eE:Stmt:=inClass (top 46) 2
theorem j8:aG ["self","ayes","noes","motion","word"] ["self","ayes","noes"] (af eE):=⟨rfl,rfl,rfl,by decide +kernel,rfl,by decide +kernel,by decide +kernel⟩
abbrev eF:Stmt:=inClass (top 46) 3
theorem wC:aG ["self"] ["self"] (af eF):=⟨rfl,rfl,rfl,by decide +kernel,rfl,by decide +kernel,by decide +kernel⟩
abbrev eG:Stmt:=inClass (top 46) 4
theorem pb:aG ["self","number","until"] ["self","number"] (af eG):=⟨rfl,rfl,rfl,by decide +kernel,rfl,by decide +kernel,by decide +kernel⟩
abbrev cZ:Stmt:=inClass (top 46) 6
theorem uS:aG ["self","aside"] ["self"] (af cZ):=⟨rfl,rfl,rfl,by decide +kernel,rfl,by decide +kernel,by decide +kernel⟩
abbrev kF:Scope:={ kind:=.function,names:=[(ar ".0",.local),(ar "number",.local),(ar "self",.free)],isGenerator:=false,isCoroutine:=false,more:=[] }
theorem r8:cV kF (af cZ) "number" ["self","aside"] ["self","aside"]:=⟨rfl,rfl,by decide +kernel,by decide +kernel,rfl,by decide +kernel,by decide +kernel,by decide +kernel,by decide +kernel,rfl,by decide +kernel,by decide +kernel⟩
abbrev du:Stmt:=inClass (top 46) 7
theorem tL:aG ["self","number"] ["self","number"] (af du):=⟨rfl,rfl,rfl,by decide +kernel,rfl,by decide +kernel,by decide +kernel⟩
abbrev cx:Stmt:=inClass (top 46) 12
theorem r9:aG ["self"] ["self"] (af cx):=⟨rfl,rfl,rfl,by decide +kernel,rfl,by decide +kernel,by decide +kernel⟩
abbrev i4:Scope:={ kind:=.function,names:=[(ar ".0",.local),(ar "number",.local),(ar "self",.free)],isGenerator:=false,isCoroutine:=false,more:=[] }
theorem qc:cV i4 (af cx) "number" ["self"] ["self"]:=⟨rfl,rfl,by decide +kernel,by decide +kernel,rfl,by decide +kernel,by decide +kernel,by decide +kernel,by decide +kernel,rfl,by decide +kernel,by decide +kernel⟩
abbrev cf:Stmt:=inClass (top 46) 13
theorem i5:aG ["self","number","waiting"] ["self","number"] (af cf):=⟨rfl,rfl,rfl,by decide +kernel,rfl,by decide +kernel,by decide +kernel⟩
abbrev bw:Stmt:=inClass (top 46) 14
theorem cK:aG ["self","told","kind","pile"] ["self","told"] (af bw):=⟨rfl,rfl,rfl,by decide +kernel,rfl,by decide +kernel,by decide +kernel⟩
abbrev bL:Stmt:=inClass (top 46) 15
theorem lE:aG ["self"] ["self"] (af bL):=⟨rfl,rfl,rfl,by decide +kernel,rfl,by decide +kernel,by decide +kernel⟩
abbrev dz:Stmt:=inClass (top 46) 17
theorem tM:aG ["self","word"] ["self","word"] (af dz):=⟨rfl,rfl,rfl,by decide +kernel,rfl,by decide +kernel,by decide +kernel⟩
abbrev bZ:Stmt:=inClass (top 46) 18
theorem nz:aG ["self","deed"] ["self","deed"] (af bZ):=⟨rfl,rfl,rfl,by decide +kernel,rfl,by decide +kernel,by decide +kernel⟩
abbrev cC:Stmt:=inClass (top 46) 19
theorem jP:aG ["self","motion","kind"] ["self","motion"] (af cC):=⟨rfl,rfl,rfl,by decide +kernel,rfl,by decide +kernel,by decide +kernel⟩
abbrev bU:Stmt:=inClass (top 46) 20
theorem gU:aG ["self","edit","number"] ["self","edit"] (af bU):=⟨rfl,rfl,rfl,by decide +kernel,rfl,by decide +kernel,by decide +kernel⟩
abbrev bV:Stmt:=inClass (top 46) 21
theorem cO:aG ["self","edit","number","change","words"] ["self","edit"] (af bV):=⟨rfl,rfl,rfl,by decide +kernel,rfl,by decide +kernel,by decide +kernel⟩
abbrev cE:Stmt:=inClass (top 46) 22
theorem qd:aG ["self","until"] ["self","until"] (af cE):=⟨rfl,rfl,rfl,by decide +kernel,rfl,by decide +kernel,by decide +kernel⟩
abbrev uT:Stmt:=top 14
theorem Cb:aG ["things","edit","places"] ["things","edit"] (af uT):=⟨rfl,rfl,rfl,by decide +kernel,rfl,by decide +kernel,by decide +kernel⟩
abbrev fU:Stmt:=top 15
theorem yV:aG ["things","edit"] ["things","edit"] (af fU):=⟨rfl,rfl,rfl,by decide +kernel,rfl,by decide +kernel,by decide +kernel⟩
abbrev uU:Stmt:=top 16
theorem xZ:aG ["things","edit","kind","place","behind"] ["things","edit"] (af uU):=⟨rfl,rfl,rfl,by decide +kernel,rfl,by decide +kernel,by decide +kernel⟩
abbrev jc:Stmt:=top 17
theorem Dx:aG ["clause"] ["clause"] (af jc):=⟨rfl,rfl,rfl,by decide +kernel,rfl,by decide +kernel,by decide +kernel⟩
abbrev iy:Stmt:=top 18
theorem Cc:aG ["words"] ["words"] (af iy):=⟨rfl,rfl,rfl,by decide +kernel,rfl,by decide +kernel,by decide +kernel⟩
abbrev iz:Stmt:=top 30
theorem kO:aG ["told","kind"] ["told"] (af iz):=⟨rfl,rfl,rfl,by decide +kernel,rfl,by decide +kernel,by decide +kernel⟩
abbrev nA:Stmt:=top 33
theorem A0:aG ["pile","closed","bar"] ["pile","closed"] (af nA):=⟨rfl,rfl,rfl,by decide +kernel,rfl,by decide +kernel,by decide +kernel⟩
abbrev e9:Stmt:=top 34
theorem Am:aG ["pile"] ["pile"] (af e9):=⟨rfl,rfl,rfl,by decide +kernel,rfl,by decide +kernel,by decide +kernel⟩
abbrev nB:Scope:={ kind:=.function,names:=[(ar ".0",.local),(ar "motion",.local)],isGenerator:=false,isCoroutine:=false,more:=[] }
theorem wD:cV nB (af e9) "motion" ["pile"] ["pile"]:=⟨rfl,rfl,by decide +kernel,by decide +kernel,rfl,by decide +kernel,by decide +kernel,by decide +kernel,by decide +kernel,rfl,by decide +kernel,by decide +kernel⟩
abbrev dO:Stmt:=top 35
theorem nC:aG ["pile","told"] ["pile"] (af dO):=⟨rfl,rfl,rfl,by decide +kernel,rfl,by decide +kernel,by decide +kernel⟩
abbrev cF:Stmt:=top 36
theorem qe:aG ["kind","pile"] ["kind","pile"] (af cF):=⟨rfl,rfl,rfl,by decide +kernel,rfl,by decide +kernel,by decide +kernel⟩
abbrev cM:Stmt:=top 37
theorem kG:aG ["kind","pile","closed","bar"] ["kind","pile","closed"] (af cM):=⟨rfl,rfl,rfl,by decide +kernel,rfl,by decide +kernel,by decide +kernel⟩
abbrev dP:Stmt:=top 39
theorem jd:aG ["text","words","clause"] ["text"] (af dP):=⟨rfl,rfl,rfl,by decide +kernel,rfl,by decide +kernel,by decide +kernel⟩
abbrev dQ:Stmt:=top 40
theorem nD:aG ["edit","words"] ["edit"] (af dQ):=⟨rfl,rfl,rfl,by decide +kernel,rfl,by decide +kernel,by decide +kernel⟩
abbrev dB:Stmt:=top 41
theorem pd:aG ["deed","kind"] ["deed"] (af dB):=⟨rfl,rfl,rfl,by decide +kernel,rfl,by decide +kernel,by decide +kernel⟩
abbrev lF:Scope:={ kind:=.function,names:=[(ar ".0",.local),(ar "number",.local),(ar "str",.globalImplicit)],isGenerator:=false,isCoroutine:=false,more:=[] }
theorem tN:cV lF (af dB) "number" ["deed","kind"] ["deed","kind"]:=⟨rfl,rfl,by decide +kernel,by decide +kernel,rfl,by decide +kernel,by decide +kernel,by decide +kernel,by decide +kernel,rfl,by decide +kernel,by decide +kernel⟩
abbrev iA:Stmt:=top 42
theorem Cd:aG ["deed"] ["deed"] (af iA):=⟨rfl,rfl,rfl,by decide +kernel,rfl,by decide +kernel,by decide +kernel⟩
abbrev k9:Stmt:=top 44
theorem Gq:aG ["need","ayes","noes"] ["need","ayes","noes"] (af k9):=⟨rfl,rfl,rfl,by decide +kernel,rfl,by decide +kernel,by decide +kernel⟩
abbrev iB:Stmt:=top 48
theorem Ce:aG ["_law_script","_law_k"] ["_law_script","_law_k"] (af iB):=⟨rfl,rfl,rfl,by decide +kernel,rfl,by decide +kernel,by decide +kernel⟩
abbrev nF:Stmt:=top 49
theorem nG:aG ["_law_cell","_law_signs","_law_word_here","_law_k"] ["_law_cell"] (af nF):=⟨rfl,rfl,rfl,by decide +kernel,rfl,by decide +kernel,by decide +kernel⟩
abbrev je:Stmt:=top 50
theorem jQ:aG ["_law_cell","_law_words","_law_number","_law_k"] ["_law_cell"] (af je):=⟨rfl,rfl,rfl,by decide +kernel,rfl,by decide +kernel,by decide +kernel⟩
abbrev lb:Stmt:=top 52
theorem Gr:aG ["_law_cell"] ["_law_cell"] (af lb):=⟨rfl,rfl,rfl,by decide +kernel,rfl,by decide +kernel,by decide +kernel⟩
abbrev jf:Stmt:=top 53
theorem lG:aG ["_law_chamber","_law_script","_law_shape","_law_number","_law_clause_here","_law_edit_here"] ["_law_chamber","_law_script"] (af jf):=⟨rfl,rfl,rfl,by decide +kernel,rfl,by decide +kernel,by decide +kernel⟩
abbrev rP:Scope:={ kind:=.function,names:=[(ar ".0",.local),(ar "_law_k",.local),(ar "_law_clause",.globalImplicit),(ar "_law_cell_at",.globalImplicit),(ar "_law_script",.free)],isGenerator:=false,isCoroutine:=false,more:=[] }
theorem Cg:cV rP (af jf) "_law_k" ["_law_chamber","_law_script","_law_shape","_law_number","_law_clause_here","_law_edit_here"] ["_law_chamber","_law_script","_law_shape","_law_number","_law_clause_here","_law_edit_here"]:=⟨rfl,rfl,by decide +kernel,by decide +kernel,rfl,by decide +kernel,by decide +kernel,by decide +kernel,by decide +kernel,rfl,by decide +kernel,by decide +kernel⟩
abbrev lh:Stmt:=top 54
theorem hZ:aG ["_law_chamber","_law_number","_law_found","e"] ["_law_chamber","_law_number"] (af lh):=⟨rfl,rfl,rfl,by decide +kernel,rfl,by decide +kernel,by decide +kernel⟩
abbrev ll:Stmt:=top 55
theorem yW:aG ["_law_chamber","_law_cell","_law_way"] ["_law_chamber","_law_cell"] (af ll):=⟨rfl,rfl,rfl,by decide +kernel,rfl,by decide +kernel,by decide +kernel⟩
abbrev lq:Stmt:=top 56
theorem oy:aG ["_law_chamber","_law_number","_law_until","_law_cell","_law_due","_law_found"] ["_law_chamber","_law_number","_law_until","_law_cell"] (af lq):=⟨rfl,rfl,rfl,by decide +kernel,rfl,by decide +kernel,by decide +kernel⟩
abbrev qf:Stmt:=top 57
theorem lH:aG ["_law_script","_law_seats_here","_law_chamber","_law_number","_law_pile","_law_motions","_law_cell","_law_until","_law_state","_law_one"] ["_law_script"] (af qf):=⟨rfl,rfl,rfl,by decide +kernel,rfl,by decide +kernel,by decide +kernel⟩
abbrev A1:Scope:={ kind:=.function,names:=[(ar ".0",.local),(ar "_law_one",.local),(ar "_law_chamber",.free)],isGenerator:=false,isCoroutine:=false,more:=[] }
theorem LH:cV A1 (af qf) "_law_one" ["_law_script","_law_seats_here","_law_chamber","_law_number","_law_pile","_law_motions","_law_cell","_law_until","_law_state","_law_one"] ["_law_script","_law_seats_here","_law_chamber","_law_number","_law_pile","_law_motions","_law_cell","_law_until","_law_state",""]:=⟨rfl,rfl,by decide +kernel,by decide +kernel,rfl,by decide +kernel,by decide +kernel,by decide +kernel,by decide +kernel,rfl,by decide +kernel,by decide +kernel⟩
abbrev A2:Scope:={ kind:=.function,names:=[(ar ".0",.local),(ar "_law_one",.local),(ar "_law_chamber",.free)],isGenerator:=false,isCoroutine:=false,more:=[] }
theorem LI:cV A2 (af qf) "_law_one" ["_law_script","_law_seats_here","_law_chamber","_law_number","_law_pile","_law_motions","_law_cell","_law_until","_law_state","_law_one"] ["_law_script","_law_seats_here","_law_chamber","_law_number","_law_pile","_law_motions","_law_cell","_law_until","_law_state",""]:=⟨rfl,rfl,by decide +kernel,by decide +kernel,rfl,by decide +kernel,by decide +kernel,by decide +kernel,by decide +kernel,rfl,by decide +kernel,by decide +kernel⟩
structure Adr where
 fits:Addr
 ya:gr
 jR:Addr
 gh:gr
 laid:Addr
 tO:gr
 words_of:Addr
 eV:gr
 nH:Addr
 iL:gr
 lu:Addr
 gK:gr
 yX:Addr
 nI:gr
 lI:Addr
 gW:gr
 jH:Addr
 gL:gr
 fX:Addr
 dX:gr
 gM:Addr
 eu:gr
 jI:Addr
 gN:gr
 jJ:Addr
 gO:gr
 kP:Addr
 hJ:gr
 lx:Addr
 gP:gr
 yb:Addr
 oz:gr
 nJ:Addr
 iM:gr
 yY:Addr
 nK:gr
 qg:Addr
 jS:gr
 yc:Addr
 oB:gr
 yd:Addr
 oE:gr
 rm:Addr
 jg:gr
 yf:Addr
 oF:gr
 yg:Addr
 oG:gr
 jK:Tok
 c0:Addr
 c1:Addr
 c2:Addr
 c3:Addr
 c4:Addr
 c5:Addr
 c6:Addr
 c7:Addr
 Cm:Addr
 tab:Addr
 RP:Addr
 LJ:gr
 RQ:Addr
 LK:gr
 RS:Addr
 LL:gr
 RT:Addr
 LM:gr
 RU:Addr
 LN:gr
 RV:Addr
 LO:gr
 RW:Addr
 LP:gr
 RX:Addr
 LQ:gr
 f_r:Addr
 OD:gr
 f_n:Addr
 Ci:gr
 RY:Addr
 LR:gr
 f_t:Addr
 LS:gr
 RZ:Addr
 LU:gr
 R0:Addr
 LV:gr
 R1:Addr
 LW:gr
 R3:Addr
 LX:gr
 R5:Addr
 LY:gr
 JI:Addr
 A3:gr
 JJ:Addr
 A4:gr
 LZ:Addr
 Dy:gr
 L3:Addr
 Dz:gr
 L4:Addr
 DA:gr
 ao:Addr
 b9:Addr
 hU:gr
 bD:Addr
 dc:gr
 bM:Addr
 dR:gr
 bN:Addr
 dS:gr
 cc:Addr
 hV:gr
 bO:Addr
 eI:gr
 bR:Addr
 fY:gr
 bB:Addr
 dC:gr
 br:Addr
 dG:gr
 aO:Addr
 b5:gr
 aT:Addr
 bW:gr
 bE:Addr
 dY:gr
 aY:Addr
 cg:gr
 bx:Addr
 dZ:gr
 a8:Addr
 cP:gr
 a9:Addr
 cQ:gr
 bz:Addr
 d3:gr
 qh:Addr
 tP:Addr
 fv:Addr
 sf:Addr
 sg:Addr
 jh:Addr
 rn:Addr
 uV:Addr
 ji:Addr
 gi:Addr
 sv:Addr
 qi:Addr
 nL:gr
 oH:Addr
 mB:gr
 tQ:Addr
 rp:gr
def Adr.C (A:Adr):Nat->Addr
 | 0=>A.c0
 | 1=>A.c1
 | 2=>A.c2
 | 3=>A.c3
 | 4=>A.c4
 | 5=>A.c5
 | 6=>A.c6
 |_=>A.c7
def Adr.fk (A:Adr):Nat->Addr
 | 0=>A.RP
 | 1=>A.RQ
 | 2=>A.RS
 | 3=>A.RT
 | 4=>A.RU
 | 5=>A.RV
 | 6=>A.RW
 |_=>A.RX
def Adr.fkd (A:Adr):Nat->gr
 | 0=>A.LJ
 | 1=>A.LK
 | 2=>A.LL
 | 3=>A.LM
 | 4=>A.LN
 | 5=>A.LO
 | 6=>A.LP
 |_=>A.LQ
def Adr.fn (A:Adr):Nat->Addr
 | 0=>A.f_n
 | 1=>A.f_n
 | 2=>A.f_n
 | 3=>A.f_n
 | 4=>A.RY
 | 5=>A.f_n
 | 6=>A.f_n
 |_=>A.f_n
def Adr.fnd (A:Adr):Nat->gr
 | 0=>A.Ci
 | 1=>A.Ci
 | 2=>A.Ci
 | 3=>A.Ci
 | 4=>A.LR
 | 5=>A.Ci
 | 6=>A.Ci
 |_=>A.Ci
def Adr.ft (A:Adr):Nat->Addr
 | 0=>A.RZ
 | 1=>A.R0
 | 2=>A.R1
 | 3=>A.R3
 | 4=>A.f_t
 | 5=>A.f_t
 | 6=>A.f_t
 |_=>A.R5
def Adr.ftd (A:Adr):Nat->gr
 | 0=>A.LU
 | 1=>A.LV
 | 2=>A.LW
 | 3=>A.LX
 | 4=>A.LS
 | 5=>A.LS
 | 6=>A.LS
 |_=>A.LY
def nm:Nat->Str
 | 0=>ar "matter"
 | 1=>ar "change"
 | 2=>ar "mend"
 | 3=>ar "put off"
 | 4=>ar "close"
 | 5=>ar "lay"
 | 6=>ar "rest"
 |_=>ar "point"
structure Txt (P:Params)(K:ba)(mg:Str->Option Value)(A:Adr):Prop where
 Gs:Fun K "fits" "fits" uT A.fits A.ya
 L6:Binds K A.ya ["things","edit"] []
 L7:mg "fits"=some (.ref A.fits)
 gX:Fun K "require_fit" "require_fit" fU A.jR A.gh
 jL:Binds K A.gh ["things","edit"] []
 jM:mg "require_fit"=some (.ref A.jR)
 Cj:Fun K "laid" "laid" uU A.laid A.tO
 Gu:Binds K A.tO ["things","edit"] []
 Gv:mg "laid"=some (.ref A.laid)
 ia:Fun K "words_of" "words_of" jc A.words_of A.eV
 jj:Binds K A.eV ["clause"] []
 jk:mg "words_of"=some (.ref A.words_of)
 mC:Fun K "clause_of" "clause_of" iy A.nH A.iL
 qj:Binds K A.iL ["words"] []
 qk:mg "clause_of"=some (.ref A.nH)
 mD:Fun K "motion_of" "motion_of" iz A.lu A.gK
 vT:Binds K A.gK ["told"] []
 vU:mg "motion_of"=some (.ref A.lu)
 tR:Fun K "bar_of" "bar_of" nA A.yX A.nI
 yZ:Binds K A.nI ["pile","closed"] []
 y0:mg "bar_of"=some (.ref A.yX)
 kQ:Fun K "has_matter" "has_matter" e9 A.lI A.gW
 oI:Binds K A.gW ["pile"] []
 oJ:mg "has_matter"=some (.ref A.lI)
 j9:Fun K "can_be_mended" "can_be_mended" dO A.jH A.gL
 pe:Binds K A.gL ["pile"] []
 pf:mg "can_be_mended"=some (.ref A.jH)
 gR:Fun K "has_what_it_needs" "has_what_it_needs" cF A.fX A.dX
 kH:Binds K A.dX ["kind","pile"] []
 kJ:mg "has_what_it_needs"=some (.ref A.fX)
 ib:Fun K "require_in_order" "require_in_order" cM A.gM A.eu
 lJ:Binds K A.eu ["kind","pile","closed"] []
 lK:mg "require_in_order"=some (.ref A.gM)
 kh:Fun K "words_of_text" "words_of_text" dP A.jI A.gN
 pq:Binds K A.gN ["text"] []
 pw:mg "words_of_text"=some (.ref A.jI)
 kz:Fun K "words_of_edit" "words_of_edit" dQ A.jJ A.gO
 pz:Binds K A.gO ["edit"] []
 pA:mg "words_of_edit"=some (.ref A.jJ)
 lL:Fun K "words_behind" "words_behind" dB A.kP A.hJ
 ql:Binds K A.hJ ["deed"] []
 qm:mg "words_behind"=some (.ref A.kP)
 jT:Fun K "show_deed" "show_deed" iA A.lx A.gP
 mE:Binds K A.gP ["deed"] []
 mF:mg "show_deed"=some (.ref A.lx)
 uW:Fun K "is_kept" "is_kept" k9 A.yb A.oz
 A5:Binds K A.oz ["need","ayes","noes"] []
 A6:mg "is_kept"=some (.ref A.yb)
 eW:Fun K "_law_cell_at" "_law_cell_at" iB A.nJ A.iM
 gj:Binds K A.iM ["_law_script","_law_k"] []
 gk:mg "_law_cell_at"=some (.ref A.nJ)
 tS:Fun K "_law_word" "_law_word" nF A.yY A.nK
 y3:Binds K A.nK ["_law_cell"] []
 y4:mg "_law_word"=some (.ref A.yY)
 ic:Fun K "_law_clause" "_law_clause" je A.qg A.jS
 jm:Binds K A.jS ["_law_cell"] []
 jn:mg "_law_clause"=some (.ref A.qg)
 uX:Fun K "_law_seats" "_law_seats" lb A.yc A.oB
 A7:Binds K A.oB ["_law_cell"] []
 A8:mg "_law_seats"=some (.ref A.yc)
 uY:Fun K "_law_begun" "_law_begun" jf A.yd A.oE
 A9:Binds K A.oE ["_law_chamber","_law_script"] []
 Ba:mg "_law_begun"=some (.ref A.yd)
 nM:Fun K "_law_taken" "_law_taken" lh A.rm A.jg
 rq:Binds K A.jg ["_law_chamber","_law_number"] []
 rz:mg "_law_taken"=some (.ref A.rm)
 rA:Fun K "_law_other" "_law_other" ll A.yf A.oF
 uZ:Binds K A.oF ["_law_chamber","_law_cell"] []
 va:mg "_law_other"=some (.ref A.yf)
 vb:Fun K "_law_early" "_law_early" lq A.yg A.oG
 Bb:Binds K A.oG ["_law_chamber","_law_number","_law_until","_law_cell"] []
 Bc:mg "_law_early"=some (.ref A.yg)
 yh:mg "range"=none
 qo:mg "list"=none
 Ck:mg "isinstance"=none
 IH:mg "len"=none
 P2:mg "max"=none
 P4:mg "any"=none
 L8:mg "str"=none
 DB:mg "sorted"=none
 WB:mg "int"=none
 R6:mg "bool"=none
 Cn:mg "ValueError"=none
 tT:mg "CLOSED_BAR"=some (.int 4 A.jK)
 cl:∀k,k < 8->Cls K (A.C k)
 tU:mg "Matter"=some (.ref (A.C 0))
 tV:mg "Change"=some (.ref (A.C 1))
 Gw:mg "Mend"=some (.ref (A.C 2))
 y6:mg "PutOff"=some (.ref (A.C 3))
 Co:mg "Close"=some (.ref (A.C 4))
 L9:mg "Lay"=some (.ref (A.C 5))
 Gx:mg "Rest"=some (.ref (A.C 6))
 Cp:mg "Point"=some (.ref (A.C 7))
 Cq:mg "RANKS"=some (.ref A.tab)
 tb:Wm P K A.tab
 rk:∀k,k < 8->∃t,eg K A.tab (nm k)=some (some (.int k t))
 mL:∀k,k < 8->Meth K (A.C k) "kind" (A.fk k)
 mM:∀k,k < 8->Binds K (A.fkd k) ["self"] []
 Ma:∀k,k < 8->Meth K (A.C k) "need" (A.fn k)
 Mb:∀k,k < 8->Binds K (A.fnd k) ["self"] []
 Gy:∀k,k < 8->Meth K (A.C k) "told" (A.ft k)
 Gz:∀k,k < 8->Binds K (A.ftd k) ["self"] []
 Mc:∀k,k < 8->Meth K (A.C k) "rank" A.f_r
 Md:∀k,k < 8->Binds K A.OD ["self"] []
 WC:Fun K "kind" "Matter.kind" fE A.RP A.LJ
 WD:Fun K "kind" "Change.kind" fF A.RQ A.LK
 WE:Fun K "kind" "Mend.kind" ir A.RS A.LL
 WG:Fun K "kind" "PutOff.kind" fG A.RT A.LM
 WH:Fun K "kind" "Close.kind" gF A.RU A.LN
 WI:Fun K "kind" "Lay.kind" jb A.RV A.LO
 WJ:Fun K "kind" "Rest.kind" iu A.RW A.LP
 WK:Fun K "kind" "Point.kind" gG A.RX A.LQ
 F_r:Fun K "rank" "Motion.rank" fH A.f_r A.OD
 F_n:Fun K "need" "Motion.need" fJ A.f_n A.Ci
 WL:Fun K "need" "Close.need" gH A.RY A.LR
 F_t:Fun K "told" "Motion.told" fK A.f_t A.LS
 WM:Fun K "told" "Matter.told" fL A.RZ A.LU
 WN:Fun K "told" "Change.told" fM A.R0 A.LV
 WO:Fun K "told" "Mend.told" iw A.R1 A.LW
 WQ:Fun K "told" "PutOff.told" fN A.R3 A.LX
 WR:Fun K "told" "Point.told" gI A.R5 A.LY
 WS:Fun K "__init__" "Matter.__init__" fO A.JI A.A3
 WT:Fun K "__init__" "Change.__init__" fP A.JJ A.A4
 WU:Fun K "__init__" "Mend.__init__" ix A.LZ A.Dy
 WV:Fun K "__init__" "PutOff.__init__" fQ A.L3 A.Dz
 WW:Fun K "__init__" "Point.__init__" gJ A.L4 A.DA
 tW:Mk K (A.C 0) A.JI
 OE:Binds K A.A3 ["self","text"] []
 na0:dA K (A.C 0) "text"
 tX:Mk K (A.C 1) A.JJ
 OF:Binds K A.A4 ["self","edit"] []
 na1:dA K (A.C 1) "edit"
 GA:Mk K (A.C 2) A.LZ
 R7:Binds K A.Dy ["self","edit"] []
 na2:dA K (A.C 2) "edit"
 y8:Mk K (A.C 3) A.L3
 Sa:Binds K A.Dz ["self","sitting"] []
 na3:dA K (A.C 3) "sitting"
 Cr:Mk K (A.C 7) A.L4
 Sb:Binds K A.DA ["self","clause"] []
 na7:dA K (A.C 7) "clause"
 mkn:∀k,k=4\/k=5\/k=6->MkN K (A.C k)
 Bd:mg "Chamber"=some (.ref A.ao)
 ag:Cls K A.ao
 gm:Fun K "__init__" "Chamber.__init__" eC A.b9 A.hU
 iN:Binds K A.hU ["self","seats"] []
 Be:Mk K A.ao A.b9
 gq:Fun K "move" "Chamber.move" eD A.bD A.dc
 bt:Binds K A.dc ["self","told"] []
 bF:Meth K A.ao "move" A.bD
 gs:Fun K "vote" "Chamber.vote" eE A.bM A.dR
 cy:Binds K A.dR ["self","ayes","noes"] []
 dD:Meth K A.ao "vote" A.bM
 gu:Fun K "drop" "Chamber.drop" eF A.bN A.dS
 eJ:Binds K A.dS ["self"] []
 iO:Meth K A.ao "drop" A.bN
 gv:Fun K "take" "Chamber.take" eG A.cc A.hV
 iP:Binds K A.hV ["self","number"] []
 qp:Meth K A.ao "take" A.cc
 fw:Fun K "state" "Chamber.state" cZ A.bO A.eI
 bX:Binds K A.eI ["self"] []
 cG:Meth K A.ao "state" A.bO
 eK:Fun K "motion" "Chamber.motion" du A.bR A.fY
 eL:Binds K A.fY ["self","number"] []
 jo:Meth K A.ao "motion" A.bR
 d4:Fun K "pending" "Chamber.pending" cx A.bB A.dC
 d5:Binds K A.dC ["self"] []
 iQ:Meth K A.ao "pending" A.bB
 cT:Fun K "told_aside" "Chamber.told_aside" cf A.br A.dG
 d6:Binds K A.dG ["self","number"] []
 jU:Meth K A.ao "told_aside" A.br
 bK:Fun K "require_can_be_made" "Chamber.require_can_be_made" bw A.aO A.b5
 b8:Binds K A.b5 ["self","told"] []
 eX:Meth K A.ao "require_can_be_made" A.aO
 b6:Fun K "require_pending" "Chamber.require_pending" bL A.aT A.bW
 b7:Binds K A.bW ["self"] []
 dH:Meth K A.ao "require_pending" A.aT
 eN:Fun K "decide" "Chamber.decide" dz A.bE A.dY
 eO:Binds K A.dY ["self","word"] []
 jq:Meth K A.ao "decide" A.bE
 cz:Fun K "end_decision" "Chamber.end_decision" bZ A.aY A.cg
 cA:Binds K A.cg ["self","deed"] []
 fb:Meth K A.ao "end_decision" A.aY
 dg:Fun K "carry_out" "Chamber.carry_out" cC A.bx A.dZ
 ez:Binds K A.dZ ["self","motion"] []
 kK:Meth K A.ao "carry_out" A.bx
 cj:Fun K "lay_on_matter" "Chamber.lay_on_matter" bU A.a8 A.cP
 cW:Binds K A.cP ["self","edit"] []
 iC:Meth K A.ao "lay_on_matter" A.a8
 ck:Fun K "lay_on_change" "Chamber.lay_on_change" bV A.a9 A.cQ
 cX:Binds K A.cQ ["self","edit"] []
 iD:Meth K A.ao "lay_on_change" A.a9
 dh:Fun K "put_aside" "Chamber.put_aside" cE A.bz A.d3
 dj:Binds K A.d3 ["self","until"] []
 gS:Meth K A.ao "put_aside" A.bz
 jqg:dA K A.ao "seats"
 jq1:dA K A.ao "sitting"
 jq4:dA K A.ao "closed"
 jq2:dA K A.ao "made"
 jq0:dA K A.ao "pile"
 jq3:dA K A.ao "aside"
 jqc:dA K A.ao "decided"
 jqb:dA K A.ao "first_texts"
 jq5:dA K A.ao "edits_kept"
 jqd:dA K A.ao "rows"
 iR:mg "ChamberError"=some (.ref A.qh)
 II:mg "NoFit"=some (.ref A.tP)
 tY:mg "Barred"=some (.ref A.fv)
 y9:mg "NoMatter"=some (.ref A.sf)
 za:mg "NoChange"=some (.ref A.sg)
 zb:mg "NotLater"=some (.ref A.jh)
 Bf:mg "Nothing"=some (.ref A.rn)
 Bh:mg "TooMany"=some (.ref A.uV)
 vc:mg "NoAside"=some (.ref A.ji)
 zc:mg "NotYet"=some (.ref A.gi)
 zd:mg "NoNumber"=some (.ref A.sv)
 hX:PZ K A.qh
 DC:Dq K A.tP
 vV:Dq K A.sf
 vW:Dq K A.sg
 ze:Dq K A.rn
 zf:Dq K A.uV
 zg:Dq K A.ji
 jqo:aeh K (.ref A.ji) (.ref A.fv)=some false
 jqp:aeh K (.ref A.ji) (.ref A.gi)=some false
 jqh:aeh K (.ref A.ji) (.ref A.ji)=some true
 vX:Dq K A.sv
 lN:Fun K "__init__" "Barred.__init__" fR A.qi A.nL
 lO:Binds K A.nL ["self","bar"] []
 nO:B2 K A.fv A.qi "bar"
 Bi:LC K A.fv "bar"
 jqr:aeh K (.ref A.fv) (.ref A.fv)=some true
 iS:Fun K "__init__" "NotLater.__init__" dN A.oH A.mB
 kR:Binds K A.mB ["self","sitting"] []
 mG:B2 K A.jh A.oH "sitting"
 DD:LC K A.jh "sitting"
 lP:Fun K "__init__" "NotYet.__init__" fS A.tQ A.rp
 oK:Binds K A.rp ["self","sitting"] []
 rB:B2 K A.gi A.tQ "sitting"
 Bj:LC K A.gi "sitting"
 jqs:aeh K (.ref A.gi) (.ref A.fv)=some false
 jqt:aeh K (.ref A.gi) (.ref A.gi)=some true
end My
set_option maxHeartbeats 1000000
namespace My
open PySem L2
seal PySem.wpAny
theorem sl (n:Nat)(h:n<=64:=by decide):n<=gp:=om h (by decide)
abbrev bl1:Str:=ar " "
def Asc (x:Str):Prop:=∀c∈x.cps.toList,c < 128
theorem Asc.ok {x:Str}(h:Asc x):aef x=true:=by
 unfold aef;rw[Array.all_eq_true];intro i hi;have:=h x.cps[i] (by simp)
 exact decide_eq_true (by omega)
theorem nP {sep:Str}(hs:Asc sep):∀ws:List Str,(∀w∈ws,Asc w)->Asc (kf sep ws)
 |[],_=>λc hc=>by
  have:c∈([]:List Nat):=hc;cases this
 |[x],h=>h x fu
 |x::y::r,h=>λc hc=>by
  have hc':c∈((x++sep)++kf sep (y::r)).cps.toList:=hc;rw[eZ,eZ,List.mem_append,List.mem_append]at hc';rcases hc' with (h1 | h1) | h1
  ·exact h x fu c h1
  ·exact hs c h1
  ·exact nP hs (y::r) (λw hw=>h w (ki _ hw)) c h1
structure Sh (n:Nat)(x:Str):Prop where
 asc:Asc x
 len:x.length<=n
structure Ed where
 k:Nat
 at_:Int
 th:Str
def kn:Nat->Str
 | 0=>ar "put"
 | 1=>ar "cut"
 |_=>ar "turn"
def iT (e:Ed):List V:=match e.k with
 | 0=>[.str (kn 0),.int e.at_,.str e.th]
 | 1=>[.str (kn 1),.int e.at_]
 |_=>[.str (kn 2),.int e.at_,.str e.th]
def edD (e:Ed):PyData:=match e.k with
 | 0=>.tuple [.str (kn 0),.int e.at_,.str e.th]
 | 1=>.tuple [.str (kn 1),.int e.at_]
 |_=>.tuple [.str (kn 2),.int e.at_,.str e.th]
structure tZ (e:Ed):Prop where
 k3:e.k=0\/e.k=1\/e.k=2
 lo:-1000<=e.at_
 hi:e.at_<=1000
 th:Sh 100000 e.th
def et (n:Nat)(e:Ed):Bool:=decide (0<=e.at_) && decide (e.at_ < (n:Int)+(if e.k=0 then 1 else 0))
def cn (xs:List Str)(e:Ed):List Str:=match e.k with
 | 0=>xs.take e.at_.toNat++e.th::xs.drop e.at_.toNat
 | 1=>xs.eraseIdx e.at_.toNat
 |_=>xs.set e.at_.toNat e.th
theorem Cs (e:Ed):atI (iT e) 0=some (.str (kn e.k)):=by
 unfold iT;split
 ·rename_i h;rw[h];rfl
 ·rename_i h;rw[h];rfl
 ·rename_i h1 h2;have:kn e.k=kn 2:=by
   unfold kn;split
   ·rename_i h;exact absurd h h1
   ·rename_i h;exact absurd h h2
   ·rfl
  rw[this];rfl
theorem Ct (e:Ed):atI (iT e) 1=some (.int e.at_):=by
 unfold iT;split <;> rfl
theorem Cu {e:Ed}(h:e.k≠1):atI (iT e) 2=some (.str e.th):=by
 unfold iT;split
 ·rfl
 ·rename_i z;exact absurd z h
 ·rfl
theorem GB (e:Ed){K:ba}{H:Hp}{t:Addr}(h:SqT K H t (iT e)):DV K H (edD e) (.ref t):=by
 unfold iT at h;unfold edD;split
 ·rename_i z;rw[z]at h;unfold DV;exact⟨t,_,rfl,h,by unfold DVs;exact⟨_,_,rfl,by unfold DV;rfl,by unfold DVs;exact⟨_,_,rfl,by unfold DV;rfl,by unfold DVs;exact⟨_,_,rfl,by unfold DV;rfl,by unfold DVs;rfl⟩⟩⟩⟩
 ·rename_i z;rw[z]at h;unfold DV;exact⟨t,_,rfl,h,by unfold DVs;exact⟨_,_,rfl,by unfold DV;rfl,by unfold DVs;exact⟨_,_,rfl,by unfold DV;rfl,by unfold DVs;rfl⟩⟩⟩
 ·rename_i z1 z2;split at h
  ·rename_i z;exact absurd z z1
  ·rename_i z;exact absurd z z2
  ·unfold DV;exact⟨t,_,rfl,h,by unfold DVs;exact⟨_,_,rfl,by unfold DV;rfl,by unfold DVs;exact⟨_,_,rfl,by unfold DV;rfl,by unfold DVs;exact⟨_,_,rfl,by unfold DV;rfl,by unfold DVs;rfl⟩⟩⟩⟩
theorem Bk {i:Int}(h0:-1000<=i)(h1:i<=1000):i.natAbs.log2 < 1920:=by
 have h:i.natAbs < 2 ^ 10:=by omega
 by_cases hz:i.natAbs=0
 ·rw[hz];decide
 ·exact Nat.lt_trans ((Nat.log2_lt hz).mpr h) (by decide)
theorem Me {e:Ed}(o:tZ e):(edD e).showable=true/\(edD e).hasDict=false/\(edD e).depth<=60:=by
 have lg:=Bk o.lo o.hi;unfold edD;split <;> simp[PyData.showable,PyData.showableAll,PyData.hasDict,PyData.hasDictAll,aet,aed,lg]
theorem OG {i:Int}(h0:-1000<=i)(h1:i<=1000):(ar (toString i)).length<=1921:=by
 have h:=int_text_length_le (a:=i) (k:=1920) (by decide) (Bk h0 h1)
 have e:(ar (toString i)).length=(toString i).length:=by first | exact PySem.ofString_length _ | exact ofString_length _
 omega
theorem Sh.rep {n:Nat}{x:Str}(s:Sh n x):(reprText x).length<=10 * n+2:=by
 have h:=StrLaws.reprText_len x λc hc=>Nat.lt_trans (s.asc c hc) (by decide)
 have:=s.len;omega
theorem Mf (k:Nat):Sh 4 (kn k):=by
 unfold kn;split <;> exact⟨by unfold Asc;decide +kernel,by decide +kernel⟩
theorem OH {e:Ed}(o:tZ e):(edD e).shown.length<=1100000:=by
 have a:=(Mf 0).rep;have b:=(Mf 1).rep;have c:=(Mf 2).rep;have d:=o.th.rep;have i:=OG o.lo o.hi;unfold edD;split
 ·have h:=tupleText_len_le [reprText (kn 0),ar (toString e.at_),reprText e.th];simp only[kc,aeE,List.sum_cons,List.sum_nil,tm,afk]at h;show (tupleText [reprText (kn 0),ar (toString e.at_),reprText e.th]).length<=_;omega
 ·have h:=tupleText_len_le [reprText (kn 1),ar (toString e.at_)];simp only[kc,aeE,List.sum_cons,List.sum_nil,tm,afk]at h;show (tupleText [reprText (kn 1),ar (toString e.at_)]).length<=_;omega
 ·have h:=tupleText_len_le [reprText (kn 2),ar (toString e.at_),reprText e.th];simp only[kc,aeE,List.sum_cons,List.sum_nil,tm,afk]at h;show (tupleText [reprText (kn 2),ar (toString e.at_),reprText e.th]).length<=_;omega
theorem Cv {e:Ed}(o:tZ e):(V.str (kn e.k)=V.str (ar "put"))↔e.k=0:=by
 rcases o.k3 with h | h | h <;> rw[h] <;> decide +kernel
theorem zh {e:Ed}(o:tZ e):(V.str (kn e.k)=V.str (ar "cut"))↔e.k=1:=by
 rcases o.k3 with h | h | h <;> rw[h] <;> decide +kernel
def Mg (K:ba):Sp:=λvs H Q _=>∃(a t:Addr) (xs:List V) (e:Ed),vs=[.ref a,.ref t]/\SqL K H a xs/\SqT K H t (iT e)/\tZ e/\Q (.bl (et xs.length e)) H
def Mh (A:Adr)(K:ba):Sp:=λvs H Q E=>∃(a t:Addr) (xs:List V) (e:Ed),vs=[.ref a,.ref t]/\SqL K H a xs/\SqT K H t (iT e)/\tZ e/\(et xs.length e=true->Q .non H)/\(et xs.length e=false->E (.ref A.tP) none H)
def GC (A:Adr)(K:ba):Sp:=λvs H Q E=>∃(a t:Addr) (xs:List Str) (e:Ed),vs=[.ref a,.ref t]/\SqL K H a (xs.map V.str)/\xs.length<=1000/\SqT K H t (iT e)/\tZ e /\
 (et xs.length e=true->∀p,H p=none->Q (.ref p) (upd H p (.lst ((cn xs e).map V.str))))/\(et xs.length e=false->E (.ref A.tP) none H)
theorem DE {n:Nat}{e:Ed}:et n e=true↔0<=e.at_/\e.at_ < (n:Int)+(if e.k=0 then 1 else 0):=by
 unfold et;rw[aeI,decide_eq_true_iff,decide_eq_true_iff]
section
variable{P:ku}{w:World}{K:ba}{mg:Str->Option Value}{base:Heap}{A:Adr}
theorem Mi {H H':Hp}{t:Addr}{xs:List V}(s:bJ H H')(h:SqT K H t xs):SqT K H' t xs:=by
 rcases h with (h | ⟨o,h⟩) | h
 ·exact .inl (.inl (s _ _ h))
 ·exact .inl (.inr ⟨o,s _ _ h⟩)
 ·exact .inr h
theorem OI (T:Txt w.params K mg A):ay P w K mg base CX0 1 A.fits A.ya ["things","edit"] (Mg K):=by
 refine T.Gs.ok Cb (λvs H Q E h=>?_) (λcdv A' outer s H vs Q E hr h=>?_)
 ·obtain⟨a,t,xs,e,rfl,_⟩:=h;rfl
 ·obtain⟨a,t,xs,e,rfl,ha,ht,o,q⟩:=h;refine⟨_,(ai (bh (i:=2) Cb.nd rfl (aec rfl) (nr tG (by rfl) T.IH Gf (aa (pv 0) ah)))
 (ai (bI (aJ bY (bp bf (pv 1) ak (λ_ _=>rfl)) az (aS _))
 (aj (bh (i:=2) Cb.nd rfl (aec rfl) (bA j7 (pv 2) ak)))
 aQ)
 (aj (aL (KR Iu Ir ak (bp bf (pv 1) ak (λ_ _=>rfl)) (pv 2)))))),?_⟩
  refine⟨_,rfl,a,xs,rfl,.inl ha,?_⟩;refine ixv rfl ht (Cs e) ⟨rfl,_,rfl,nv (λz=>?_) (λz=>?_)⟩
  ·have hk:e.k=0:=(Cv o).mp (of_decide_eq_true z);refine⟨_,rfl,_,_,rfl,rfl,?_⟩;unfold et at q;rw[if_pos hk]at q;refine ixv rfl ht (Ct e) ⟨_,_,rfl,rfl,_,rfl,nv (λz1=>?_) (λz1=>?_)⟩
   ·have h1:0<=e.at_:=of_decide_eq_true z1;rw[decide_eq_true h1,Bool.true_and]at q;exact⟨_,rfl,_,_,rfl,rfl,q⟩
   ·have h1:¬0<=e.at_:=λy=>z1 (decide_eq_true y)
    rw[decide_eq_false h1,Bool.false_and]at q;exact q
  ·have hk:¬e.k=0:=λy=>z (decide_eq_true ((Cv o).mpr y))
   unfold et at q;rw[if_neg hk,Int.add_zero]at q;refine ixv rfl ht (Ct e) ⟨_,_,rfl,rfl,_,rfl,nv (λz1=>?_) (λz1=>?_)⟩
   ·have h1:0<=e.at_:=of_decide_eq_true z1;rw[decide_eq_true h1,Bool.true_and]at q;exact⟨_,rfl,_,_,rfl,rfl,q⟩
   ·have h1:¬0<=e.at_:=λy=>z1 (decide_eq_true y)
    rw[decide_eq_false h1,Bool.false_and]at q;exact q
theorem qq (T:Txt w.params K mg A):ay P w K mg base (CXX P w) 2 A.jR A.gh ["things","edit"] (Mh A K):=by
 have Sd:ay P w K mg base CX0 1 A.fits A.ya ["things","edit"] (Mg K):=OI T;refine T.gX.okX yV (λvs H Q E h=>?_) (λcdv A' outer s H vs Q E hr h=>?_)
 ·obtain⟨a,t,xs,e,rfl,_⟩:=h;rfl
 ·obtain⟨a,t,xs,e,rfl,ha,ht,o,q1,q2⟩:=h;have OJ:=hr;have hgd:=hr.gd;have wF:=hr.units;refine⟨_,(bC (i9 (uJ (rZ (bb Sd OJ rfl T.L7 T.Gs.kp T.L6 .nil aV (aa (pv 0) (aa (pv 1) ah)))))
 (bC (ja T.DC rfl rfl T.II (aa (Ws hgd wF (pv 1)) ah)))
 (yD aQ))),?_⟩
  refine⟨_,rfl,_,rfl,a,t,xs,e,rfl,ha,ht,o,_,rfl,?_⟩;cases hf:et xs.length e with
  |true=>exact gf (q1 hf)
  |false =>
   refine hide λGg hGg=>?_
   obtain⟨s1,s2,s3⟩:=Me o;have s4:=OH o;refine hGg ?_;refine pM ⟨_,rfl,t,edD e,rfl,GB e ht,s1,s2,s3,om (Nat.add_le_add_right s4 _) (by decide +kernel),λz=>?_⟩
   exact⟨(sl 1),q2 hf⟩
theorem IJ (T:Txt w.params K mg A):ay P w K mg base (CXX P w) 3 A.laid A.tO ["things","edit"] (GC A K):=by
 have jN:ay P w K mg base (CXX P w) 2 A.jR A.gh ["things","edit"] (Mh A K):=qq T;refine T.Cj.okX xZ (λvs H Q E h=>?_) (λcdv A' outer s H vs Q E hr h=>?_)
 ·obtain⟨a,t,xs,e,rfl,_⟩:=h;rfl
 ·obtain⟨a,t,xs,e,rfl,ha,hz,ht,o,q1,q2⟩:=h;have iU:=hr;refine⟨_,(aW (lB (tI jN iU rfl T.jM T.gX.kp T.jL (pax (aa (pv 0) (aa (pv 1) ah)))))
 (aW (psx (bh (i:=2) xZ.nd rfl (aec rfl) (bp bf (pv 1) ak (λ_ _=>rfl))))
 (aW (psx (bh (i:=3) xZ.nd rfl (aec rfl) (bp bf (pv 1) ak (λ_ _=>rfl))))
 (aW (psx (bh (i:=4) xZ.nd rfl (aec rfl) (gC eY (by rfl) T.qo ot (aa (pv 0) ah))))
 (aW (psx (bI (aJ bY (pv 2) az (aS _))
 (aj (a6 (lA ad2 PySem.F.slot_list_insert PySem.F.type_list_insert JB (pv 4) (aa (pv 3) (aa (bp bf (pv 1) ak (λ_ _=>rfl)) ah)))))
 (aj (bI (aJ bY (pv 2) az (aS _))
 (aj (a6 (lA ad2 PySem.F.slot_list_pop PySem.F.type_list_pop K6 (pv 4) (aa (pv 3) ah))))
 (aj (Ra (bp bf (pv 1) ak (λ_ _=>rfl)) (Q9 (pv 4) (pv 3) set_list)))))))
 (bC (psx (aL (pv 4))))))))),?_⟩
  refine⟨_,rfl,_,rfl,a,t,_,e,rfl,ha,ht,o,λhf=>?_,λhf=>q2 (by rw[cb]at hf;exact hf)⟩
  refine hide λGg hGg=>?_
  rw[cb]at hf;obtain⟨f0,f1⟩:=DE.mp hf;have q:=q1 hf;have lim:(1001:Nat) < gp:=by decide
  obtain⟨n,hn⟩:∃n:Nat,e.at_=(n:Int):=⟨e.at_.toNat,by omega⟩
  refine hGg ?_;refine ixv rfl ht (Cs e) ?_;refine ixv rfl ht (Ct e) ?_;refine⟨_,rfl,a,_,rfl,.inl ha,λp hp=>?_⟩
  have sp:bJ H (upd H p (.lst (xs.map V.str))):=aK hp;have ht':=Mi sp ht;have q:=q p hp;rw[hn];rw[hn]at f1;refine⟨_,rfl,rfl,_,rfl,nv (λz=>?_) (λz=>?_)⟩
  ·have hk:e.k=0:=(Cv o).mp (of_decide_eq_true z);rw[if_pos hk]at f1;refine⟨_,rfl,.inl ⟨rfl,_,SqL.of ae⟩,_,rfl,ixv rfl ht' (Cu (by omega)) ⟨p,_,_,n,_,rfl,rfl,rfl,ae,(by rw[cb];omega),(by rw[cb];omega),?_⟩⟩
   rw[mq];refine⟨_,rfl,?_⟩;have e1:(cn xs e).map V.str=(xs.map V.str).take n++V.str e.th::(xs.map V.str).drop n:=by
    unfold cn;rw[hk,hn];simp
   rw[e1]at q;exact q
  ·have hk0:¬e.k=0:=λy=>z (decide_eq_true ((Cv o).mpr y))
   rw[if_neg hk0,Int.add_zero]at f1;have hlt:n < xs.length:=by omega
   refine⟨_,rfl,rfl,_,rfl,nv (λz2=>?_) (λz2=>?_)⟩
   ·have hk:e.k=1:=(zh o).mp (of_decide_eq_true z2);refine⟨_,rfl,.inl ⟨rfl,_,SqL.of ae⟩,_,rfl,p,_,(n:Int),n,_,rfl,rfl,ae,by omega,by omega,?_,(by rw[ad5 (by rw[cb];exact hlt)]),?_⟩
    ·rw[cb];exact(BP (by unfold ixN;rw[if_pos (by omega),if_pos (by omega)];rfl)).1
    ·rw[mq];refine⟨_,rfl,?_⟩;have e1:(cn xs e).map V.str=(xs.map V.str).eraseIdx n:=by
      unfold cn;rw[hk,hn];exact AU V.str xs _
     rw[e1]at q;exact q
   ·have hk1:¬e.k=1:=λy=>z2 (decide_eq_true ((zh o).mpr y))
    have hk:e.k=2:=by have:=o.k3;omega
    refine ixv rfl ht' (Cu (by omega)) ⟨_,rfl,_,rfl,p,_,(n:Int),n,rfl,rfl,ae,?_,?_⟩
    ·rw[cb];unfold ixN;rw[if_pos (by omega),if_pos (by omega)];rfl
    ·rw[mq];refine⟨_,rfl,?_⟩;have e1:(cn xs e).map V.str=(xs.map V.str).set n (V.str e.th):=by
      unfold cn;rw[hk,hn];simp[List.map_set]
     rw[e1]at q;exact q
end
mutual
theorem eqv_refl:∀d:PyData,d.canLay0=true->ae9 d d=true
 | .none,_=>by simp[ae9]
 | .bool _,_=>by simp[ae9]
 | .int _,_=>by simp[ae9]
 | .str _,_=>by simp[ae9]
 | .list xs,h=>by simp only[ae9];exact eqvAll_refl xs (by simpa [rf] using h)
 | .tuple xs,h=>by simp only[ae9];exact eqvAll_refl xs (by simpa [rf] using h)
 | .dict _,h=>by simp[rf]at h
theorem eqvAll_refl:∀xs:List PyData,ra xs=true->PyData.eqvAll xs xs=true
 |[],_=>by simp[PyData.eqvAll]
 |x::xs,h=>by
  have h':x.canLay0=true/\ra xs=true:=by simpa [ra] using h
  simp only[PyData.eqvAll,eqv_refl x h'.1,eqvAll_refl xs h'.2,aew]
end
theorem vY:∀k,k < 8->aef (nm k)=true
 | 0,_=>by decide +kernel
 | 1,_=>by decide +kernel
 | 2,_=>by decide +kernel
 | 3,_=>by decide +kernel
 | 4,_=>by decide +kernel
 | 5,_=>by decide +kernel
 | 6,_=>by decide +kernel
 | 7,_=>by decide +kernel
 |n+8,h=>absurd h (by omega)
def nd (k:Nat):Str:=if k=4 then ar "two thirds" else ar "more"
def rowOf (k:Nat)(v:V):List V:=match k with
 | 4=>[.str (nm 4)]
 | 5=>[.str (nm 5)]
 | 6=>[.str (nm 6)]
 |k=>[.str (nm k),v]
def nQ (k:Nat)(v:V):List (Str×V):=match k with
 | 0=>[(ar "text",v)]
 | 1=>[(ar "edit",v)]
 | 2=>[(ar "edit",v)]
 | 3=>[(ar "sitting",v)]
 | 4=>[]
 | 5=>[]
 | 6=>[]
 |_=>[(ar "clause",v)]
theorem IK {m:Str}(h:m≠ar "text"/\m≠ar "edit"/\m≠ar "sitting"/\m≠ar "clause")(k:Nat)(v:V):(nQ k v).lookup m=none:=by
 obtain⟨h1,h2,h3,h4⟩:=h;have b1:(m == ar "text")=false:=beq_eq_false_iff_ne.mpr h1;have b2:(m == ar "edit")=false:=beq_eq_false_iff_ne.mpr h2;have b3:(m == ar "sitting")=false:=beq_eq_false_iff_ne.mpr h3;have b4:(m == ar "clause")=false:=beq_eq_false_iff_ne.mpr h4;unfold nQ;split <;> simp[ae7,b1,b2,b3,b4]
theorem kS (k:Nat)(v:V):(nQ k v).lookup (ar "kind")=none:=IK (by decide +kernel) k v
theorem OK (k:Nat)(v:V):(nQ k v).lookup (ar "rank")=none:=IK (by decide +kernel) k v
theorem OL (k:Nat)(v:V):(nQ k v).lookup (ar "need")=none:=IK (by decide +kernel) k v
theorem IL (k:Nat)(v:V):(nQ k v).lookup (ar "told")=none:=IK (by decide +kernel) k v
def fV (k:Nat):Sp:=λvs H Q _=>∃m:Addr,vs=[.ref m]/\Q (.str (nm k)) H
def Mj (A:Adr):Sp:=λvs H Q _=>∃(m:Addr) (k:Nat) (dx:Addr) (fs:List (Str×V)),k < 8/\vs=[.ref m]/\H m=some (.ins (A.C k) dx fs)/\fs.lookup (ar "kind")=none/\Q (.int k) H
def Cw (k:Nat):Sp:=λvs H Q _=>∃m:Addr,vs=[.ref m]/\Q (.str (nd k)) H
def IM (A:Adr):Sp:=λvs H Q _=>∃(m:Addr) (k:Nat) (dx:Addr) (fs:List (Str×V)),k < 8/\vs=[.ref m]/\H m=some (.ins (A.C k) dx fs)/\fs.lookup (ar "kind")=none/\∀p,H p=none->Q (.ref p) (upd H p (.tup [.str (nm k)]))
def yi (A:Adr)(k:Nat)(a:Str):Sp:=λvs H Q _=>∃(m dx:Addr) (fs:List (Str×V)) (v:V),vs=[.ref m]/\H m=some (.ins (A.C k) dx fs)/\fs.lookup (ar "kind")=none/\fs.lookup a=some v/\∀p,H p=none->Q (.ref p) (upd H p (.tup [.str (nm k),v]))
def GD (A:Adr)(k:Nat):Sp:=λvs H Q _=>1<=k/\∃(m dx:Addr) (v:V),vs=[.ref m]/\H m=some (.ins (A.C k) dx (nQ k v))/\∀p,H p=none->Q (.ref p) (upd H p (.tup (rowOf k v)))
def jr (A:Adr)(k:Nat):Sp:=λvs H Q _=>∃(m dx:Addr) (v:V),vs=[.ref m,v]/\H m=some (.ins (A.C k) dx [])/\Q .non (upd H m (.ins (A.C k) dx (nQ k v)))
def IP (A:Adr)(K:ba):Sp:=λvs H Q _=>∃(m dx L:Addr) (xs:List V),vs=[.ref m]/\H m=some (.ins (A.C 0) dx (nQ 0 (.ref L)))/\SqL K H L xs/\∀p q,H p=none->H q=none->p≠q->Q (.ref q) (upd (upd H p (.lst xs)) q (.tup [.str (nm 0),.ref p]))
def yj (A:Adr)(K:ba):Sp:=λvs H Q _=>∃(m dx L:Addr) (xs:List V),vs=[.ref m,.ref L]/\H m=some (.ins (A.C 0) dx [])/\SqL K H L xs/\∀p,H p=none->Q .non (upd (upd H p (.lst xs)) m (.ins (A.C 0) dx (nQ 0 (.ref p))))
def IQ (A:Adr):Sp:=λvs H Q _=>∃(t:Addr) (k:Nat) (v:V),1<=k/\k < 8/\vs=[.ref t]/\H t=some (.tup (rowOf k v))/\∀m H',bJ H H'->H m=none->(∃dx,H' m=some (.ins (A.C k) dx (nQ k v)))->Q (.ref m) H'
def DF (A:Adr)(K:ba):Sp:=λvs H Q _=>∃(t L:Addr) (xs:List V),vs=[.ref t]/\H t=some (.tup [.str (nm 0),.ref L])/\SqL K H L xs /\
 ∀m p H',bJ H H'->H m=none->H p=none->H' p=some (.lst xs)->(∃dx,H' m=some (.ins (A.C 0) dx (nQ 0 (.ref p))))->Q (.ref m) H'
section
variable{P:ku}{w:World}{K:ba}{mg:Str->Option Value}{base:Heap}{A:Adr}
theorem zi (T:Txt w.params K mg A):ay P w K mg base CX0 1 A.RP A.LJ ["self"] (fV 0):=by
 refine T.WC.ok yH (λvs H Q E h=>?_) (λcdv A' outer s H vs Q E hr h=>?_)
 ·obtain⟨m,rfl,_⟩:=h;rfl
 ·obtain⟨m,rfl,q⟩:=h;exact⟨_,(aj (aL az)),q⟩
theorem zj (T:Txt w.params K mg A):ay P w K mg base CX0 1 A.RQ A.LK ["self"] (fV 1):=by
 refine T.WD.ok yI (λvs H Q E h=>?_) (λcdv A' outer s H vs Q E hr h=>?_)
 ·obtain⟨m,rfl,_⟩:=h;rfl
 ·obtain⟨m,rfl,q⟩:=h;exact⟨_,(aj (aL az)),q⟩
theorem Cy (T:Txt w.params K mg A):ay P w K mg base CX0 1 A.RS A.LL ["self"] (fV 2):=by
 refine T.WE.ok B7 (λvs H Q E h=>?_) (λcdv A' outer s H vs Q E hr h=>?_)
 ·obtain⟨m,rfl,_⟩:=h;rfl
 ·obtain⟨m,rfl,q⟩:=h;exact⟨_,(aj (aL az)),q⟩
theorem zk (T:Txt w.params K mg A):ay P w K mg base CX0 1 A.RT A.LM ["self"] (fV 3):=by
 refine T.WG.ok yJ (λvs H Q E h=>?_) (λcdv A' outer s H vs Q E hr h=>?_)
 ·obtain⟨m,rfl,_⟩:=h;rfl
 ·obtain⟨m,rfl,q⟩:=h;exact⟨_,(aj (aL az)),q⟩
theorem An (T:Txt w.params K mg A):ay P w K mg base CX0 1 A.RU A.LN ["self"] (fV 4):=by
 refine T.WH.ok Ah (λvs H Q E h=>?_) (λcdv A' outer s H vs Q E hr h=>?_)
 ·obtain⟨m,rfl,_⟩:=h;rfl
 ·obtain⟨m,rfl,q⟩:=h;exact⟨_,(aj (aL az)),q⟩
theorem DG (T:Txt w.params K mg A):ay P w K mg base CX0 1 A.RV A.LO ["self"] (fV 5):=by
 refine T.WI.ok Dw (λvs H Q E h=>?_) (λcdv A' outer s H vs Q E hr h=>?_)
 ·obtain⟨m,rfl,_⟩:=h;rfl
 ·obtain⟨m,rfl,q⟩:=h;exact⟨_,(aj (aL az)),q⟩
theorem Cz (T:Txt w.params K mg A):ay P w K mg base CX0 1 A.RW A.LP ["self"] (fV 6):=by
 refine T.WJ.ok B8 (λvs H Q E h=>?_) (λcdv A' outer s H vs Q E hr h=>?_)
 ·obtain⟨m,rfl,_⟩:=h;rfl
 ·obtain⟨m,rfl,q⟩:=h;exact⟨_,(aj (aL az)),q⟩
theorem Ao (T:Txt w.params K mg A):ay P w K mg base CX0 1 A.RX A.LQ ["self"] (fV 7):=by
 refine T.WK.ok Ai (λvs H Q E h=>?_) (λcdv A' outer s H vs Q E hr h=>?_)
 ·obtain⟨m,rfl,_⟩:=h;rfl
 ·obtain⟨m,rfl,q⟩:=h;exact⟨_,(aj (aL az)),q⟩
theorem kT (T:Txt w.params K mg A):∀k,k < 8->ay P w K mg base CX0 1 (A.fk k) (A.fkd k) ["self"] (fV k)
 | 0,_=>zi T
 | 1,_=>zj T
 | 2,_=>Cy T
 | 3,_=>zk T
 | 4,_=>An T
 | 5,_=>DG T
 | 6,_=>Cz T
 | 7,_=>Ao T
 |n+8,h=>absurd h (by omega)
theorem OM (T:Txt w.params K mg A):ay P w K mg base CX0 2 A.f_r A.OD ["self"] (Mj A):=by
 have gw:∀k,k < 8->ay P w K mg base CX0 1 (A.fk k) (A.fkd k) ["self"] (fV k):=kT T;refine T.F_r.ok yK (λvs H Q E h=>?_) (λcdv A' outer s H vs Q E hr h=>?_)
 ·obtain⟨m,k,dx,fs,_,rfl,_⟩:=h;rfl
 ·obtain⟨m,k,dx,fs,hk,rfl,hm,hl,q⟩:=h;have d7:=hr;obtain⟨t,ht⟩:=T.rk k hk;refine⟨_,(aj (aL (bp Lh (BI (v:=V.ref A.tab) rfl T.Cq rfl) (cw (pv 0) (T.cl k hk) (T.mL k hk) (gw k hk) d7 (T.mM k hk) .nil aV) (λ_ _=>rfl)))),?_⟩
  exact⟨_,rfl,m,dx,fs,rfl,hm,hl,m,rfl,A.tab,nm k,.int k,_,rfl,rfl,T.tb,ht,⟨_,rfl⟩,q⟩
theorem vd (T:Txt w.params K mg A):ay P w K mg base CX0 2 A.f_t A.LS ["self"] (IM A):=by
 have gw:∀k,k < 8->ay P w K mg base CX0 1 (A.fk k) (A.fkd k) ["self"] (fV k):=kT T;refine T.F_t.ok yM (λvs H Q E h=>?_) (λcdv A' outer s H vs Q E hr h=>?_)
 ·obtain⟨m,k,dx,fs,_,rfl,_⟩:=h;rfl
 ·obtain⟨m,k,dx,fs,hk,rfl,hm,hl,q⟩:=h;have d7:=hr;refine⟨_,(aj (aL (bH (aa (cw (pv 0) (T.cl k hk) (T.mL k hk) (gw k hk) d7 (T.mM k hk) .nil aV) ah)))),?_⟩;exact⟨_,rfl,m,dx,fs,rfl,hm,hl,m,rfl,(sl 1),λp hp=>q p hp⟩
theorem zm (T:Txt w.params K mg A):ay P w K mg base CX0 2 A.R0 A.LV ["self"] (yi A 1 "edit"):=by
 have gw:∀k,k < 8->ay P w K mg base CX0 1 (A.fk k) (A.fkd k) ["self"] (fV k):=kT T;refine T.WN.ok yO (λvs H Q E h=>?_) (λcdv A' outer s H vs Q E hr h=>?_)
 ·obtain⟨m,dx,fs,v,rfl,_⟩:=h;rfl
 ·obtain⟨m,dx,fs,v,rfl,hm,hl,hv,q⟩:=h;have d7:=hr;obtain⟨k,hk,ek⟩:∃k,k < 8/\k=1:=⟨1,by decide,rfl⟩
  have hm':H m=some (.ins (A.C k) dx fs):=by rw[ek];exact hm
  refine⟨_,(aj (aL (bH (aa (cw (pv 0) (T.cl k hk) (T.mL k hk) (gw k hk) d7 (T.mM k hk) .nil aV) (aa (aZ (pv 0) rfl) ah))))),?_⟩;subst ek;exact⟨_,rfl,m,dx,fs,rfl,hm,hl,m,rfl,_,rfl,m,A.C 1,dx,fs,v,rfl,hm,T.cl 1 hk,T.na1,hv,(sl 2),λp hp=>q p hp⟩
theorem lQ (T:Txt w.params K mg A):ay P w K mg base CX0 1 A.JJ A.A4 ["self","edit"] (jr A 1):=by
 refine T.WT.ok yR (λvs H Q E h=>?_) (λcdv A' outer s H vs Q E hr h=>?_)
 ·obtain⟨m,dx,v,rfl,_⟩:=h;rfl
 ·obtain⟨m,dx,v,rfl,hm,q⟩:=h;refine⟨_,(aj (eB (pv 0) (pv 1) rfl)),?_⟩;exact⟨_,rfl,_,rfl,m,A.C 1,dx,[],rfl,hm,T.cl 1 (by decide),T.na1,by decide,q⟩
theorem CA (T:Txt w.params K mg A):ay P w K mg base CX0 2 A.R1 A.LW ["self"] (yi A 2 "edit"):=by
 have gw:∀k,k < 8->ay P w K mg base CX0 1 (A.fk k) (A.fkd k) ["self"] (fV k):=kT T;refine T.WO.ok B9 (λvs H Q E h=>?_) (λcdv A' outer s H vs Q E hr h=>?_)
 ·obtain⟨m,dx,fs,v,rfl,_⟩:=h;rfl
 ·obtain⟨m,dx,fs,v,rfl,hm,hl,hv,q⟩:=h;have d7:=hr;obtain⟨k,hk,ek⟩:∃k,k < 8/\k=2:=⟨2,by decide,rfl⟩
  have hm':H m=some (.ins (A.C k) dx fs):=by rw[ek];exact hm
  refine⟨_,(aj (aL (bH (aa (cw (pv 0) (T.cl k hk) (T.mL k hk) (gw k hk) d7 (T.mM k hk) .nil aV) (aa (aZ (pv 0) rfl) ah))))),?_⟩;subst ek;exact⟨_,rfl,m,dx,fs,rfl,hm,hl,m,rfl,_,rfl,m,A.C 2,dx,fs,v,rfl,hm,T.cl 2 hk,T.na2,hv,(sl 2),λp hp=>q p hp⟩
theorem t9 (T:Txt w.params K mg A):ay P w K mg base CX0 1 A.LZ A.Dy ["self","edit"] (jr A 2):=by
 refine T.WU.ok Ca (λvs H Q E h=>?_) (λcdv A' outer s H vs Q E hr h=>?_)
 ·obtain⟨m,dx,v,rfl,_⟩:=h;rfl
 ·obtain⟨m,dx,v,rfl,hm,q⟩:=h;refine⟨_,(aj (eB (pv 0) (pv 1) rfl)),?_⟩;exact⟨_,rfl,_,rfl,m,A.C 2,dx,[],rfl,hm,T.cl 2 (by decide),T.na2,by decide,q⟩
theorem zo (T:Txt w.params K mg A):ay P w K mg base CX0 2 A.R3 A.LX ["self"] (yi A 3 "sitting"):=by
 have gw:∀k,k < 8->ay P w K mg base CX0 1 (A.fk k) (A.fkd k) ["self"] (fV k):=kT T;refine T.WQ.ok yP (λvs H Q E h=>?_) (λcdv A' outer s H vs Q E hr h=>?_)
 ·obtain⟨m,dx,fs,v,rfl,_⟩:=h;rfl
 ·obtain⟨m,dx,fs,v,rfl,hm,hl,hv,q⟩:=h;have d7:=hr;obtain⟨k,hk,ek⟩:∃k,k < 8/\k=3:=⟨3,by decide,rfl⟩
  have hm':H m=some (.ins (A.C k) dx fs):=by rw[ek];exact hm
  refine⟨_,(aj (aL (bH (aa (cw (pv 0) (T.cl k hk) (T.mL k hk) (gw k hk) d7 (T.mM k hk) .nil aV) (aa (aZ (pv 0) rfl) ah))))),?_⟩;subst ek;exact⟨_,rfl,m,dx,fs,rfl,hm,hl,m,rfl,_,rfl,m,A.C 3,dx,fs,v,rfl,hm,T.cl 3 hk,T.na3,hv,(sl 2),λp hp=>q p hp⟩
theorem qr (T:Txt w.params K mg A):ay P w K mg base CX0 1 A.L3 A.Dz ["self","sitting"] (jr A 3):=by
 refine T.WV.ok yS (λvs H Q E h=>?_) (λcdv A' outer s H vs Q E hr h=>?_)
 ·obtain⟨m,dx,v,rfl,_⟩:=h;rfl
 ·obtain⟨m,dx,v,rfl,hm,q⟩:=h;refine⟨_,(aj (eB (pv 0) (pv 1) rfl)),?_⟩;exact⟨_,rfl,_,rfl,m,A.C 3,dx,[],rfl,hm,T.cl 3 (by decide),T.na3,by decide,q⟩
theorem Aq (T:Txt w.params K mg A):ay P w K mg base CX0 2 A.R5 A.LY ["self"] (yi A 7 "clause"):=by
 have gw:∀k,k < 8->ay P w K mg base CX0 1 (A.fk k) (A.fkd k) ["self"] (fV k):=kT T;refine T.WR.ok Ak (λvs H Q E h=>?_) (λcdv A' outer s H vs Q E hr h=>?_)
 ·obtain⟨m,dx,fs,v,rfl,_⟩:=h;rfl
 ·obtain⟨m,dx,fs,v,rfl,hm,hl,hv,q⟩:=h;have d7:=hr;obtain⟨k,hk,ek⟩:∃k,k < 8/\k=7:=⟨7,by decide,rfl⟩
  have hm':H m=some (.ins (A.C k) dx fs):=by rw[ek];exact hm
  refine⟨_,(aj (aL (bH (aa (cw (pv 0) (T.cl k hk) (T.mL k hk) (gw k hk) d7 (T.mM k hk) .nil aV) (aa (aZ (pv 0) rfl) ah))))),?_⟩;subst ek;exact⟨_,rfl,m,dx,fs,rfl,hm,hl,m,rfl,_,rfl,m,A.C 7,dx,fs,v,rfl,hm,T.cl 7 hk,T.na7,hv,(sl 2),λp hp=>q p hp⟩
theorem rQ (T:Txt w.params K mg A):ay P w K mg base CX0 1 A.L4 A.DA ["self","clause"] (jr A 7):=by
 refine T.WW.ok Al (λvs H Q E h=>?_) (λcdv A' outer s H vs Q E hr h=>?_)
 ·obtain⟨m,dx,v,rfl,_⟩:=h;rfl
 ·obtain⟨m,dx,v,rfl,hm,q⟩:=h;refine⟨_,(aj (eB (pv 0) (pv 1) rfl)),?_⟩;exact⟨_,rfl,_,rfl,m,A.C 7,dx,[],rfl,hm,T.cl 7 (by decide),T.na7,by decide,q⟩
theorem Ml {k:Nat}{f:Addr}{fd:gr}{ps:List Str}{sp:Sp}(h:∀vs H Q E,¬sp vs H Q E):ay P w K mg base CX0 k f fd ps sp :=
 ⟨λvs H Q E z=>(h vs H Q E z).elim,λ_ _ _ H _ _ vs Q E _ _ _ _ z=>(h vs H Q E z).elim⟩
theorem sx {k:Nat}(hk:k=4\/k=5\/k=6):∀vs H Q E,GD A k vs H Q E->IM A vs H Q E:=λvs H Q E ⟨_,m,dx,v,e,hm,q⟩ =>
 ⟨m,k,dx,nQ k v,by omega,e,hm,kS k v,λp hp=>by
  have:=q p hp;rcases hk with rfl | rfl | rfl <;> exact this⟩
theorem oM (T:Txt w.params K mg A):∀k,k < 8->ay P w K mg base CX0 2 (A.ft k) (A.ftd k) ["self"] (GD A k)
 | 0,_=>Ml λvs H Q E h=>absurd h.1 (by decide)
 | 1,_=>(zm T).imp λvs H Q E ⟨_,m,dx,v,e,hm,q⟩=>⟨m,dx,_,v,e,hm,kS 1 v,rfl,q⟩
 | 2,_=>(CA T).imp λvs H Q E ⟨_,m,dx,v,e,hm,q⟩=>⟨m,dx,_,v,e,hm,kS 2 v,rfl,q⟩
 | 3,_=>(zo T).imp λvs H Q E ⟨_,m,dx,v,e,hm,q⟩=>⟨m,dx,_,v,e,hm,kS 3 v,rfl,q⟩
 | 4,_=>(vd T).imp (sx (.inl rfl))
 | 5,_=>(vd T).imp (sx (.inr (.inl rfl)))
 | 6,_=>(vd T).imp (sx (.inr (.inr rfl)))
 | 7,_=>(Aq T).imp λvs H Q E ⟨_,m,dx,v,e,hm,q⟩=>⟨m,dx,_,v,e,hm,kS 7 v,rfl,q⟩
 |n+8,h=>absurd h (by omega)
theorem zp (T:Txt w.params K mg A):ay P w K mg base CX0 1 A.JI A.A3 ["self","text"] (yj A K):=by
 refine T.WS.ok yQ (λvs H Q E h=>?_) (λcdv A' outer s H vs Q E hr h=>?_)
 ·obtain⟨m,dx,L,xs,rfl,_⟩:=h;rfl
 ·obtain⟨m,dx,L,xs,rfl,hm,hL,q⟩:=h;refine⟨_,(aj (eB (pv 0) (gC eY (by rfl) T.qo ot (aa (pv 1) ah)) rfl)),?_⟩
  refine⟨_,rfl,L,xs,rfl,.inl hL,λp hp=>?_⟩
  have nmp:m≠p:=aN hm hp;exact⟨_,rfl,m,A.C 0,dx,[],rfl,(aw nmp).trans hm,T.cl 0 (by decide),T.na0,by decide,q p hp⟩
theorem Mm (T:Txt w.params K mg A):ay P w K mg base CX0 2 A.RZ A.LU ["self"] (IP A K):=by
 have gw:∀k,k < 8->ay P w K mg base CX0 1 (A.fk k) (A.fkd k) ["self"] (fV k):=kT T;refine T.WM.ok yN (λvs H Q E h=>?_) (λcdv A' outer s H vs Q E hr h=>?_)
 ·obtain⟨m,dx,L,xs,rfl,_⟩:=h;rfl
 ·obtain⟨m,dx,L,xs,rfl,hm,hL,q⟩:=h;have d7:=hr;obtain⟨k,hk,ek⟩:∃k,k < 8/\k=0:=⟨0,by decide,rfl⟩
  refine⟨_,(aj (aL (bH (aa (cw (pv 0) (T.cl k hk) (T.mL k hk) (gw k hk) d7 (T.mM k hk) .nil aV) (aa (gC eY (by rfl) T.qo ot (aa (aZ (pv 0) rfl) ah)) ah))))),?_⟩
  subst ek;refine⟨_,rfl,m,dx,_,rfl,hm,kS 0 _,m,rfl,_,rfl,m,A.C 0,dx,_,_,rfl,hm,T.cl 0 hk,T.na0,rfl,L,xs,rfl,.inl hL,λp hp=>⟨(sl 2),λq' hq'=>?_⟩⟩
  have npq:p≠q':=aN ae hq';have hq:H q'=none:=by rw[aw (ad9 npq)]at hq';exact hq'
  exact q p q' hp hq npq
theorem CB (T:Txt w.params K mg A):ay P w K mg base CX0 3 A.lu A.gK ["told"] (IQ A):=by
 have Mo:ay P w K mg base CX0 1 A.JI A.A3 ["self","text"] (yj A K):=zp T;have Mp:ay P w K mg base CX0 1 A.JJ A.A4 ["self","edit"] (jr A 1):=lQ T;have Se:ay P w K mg base CX0 1 A.LZ A.Dy ["self","edit"] (jr A 2):=t9 T;have Sf:ay P w K mg base CX0 1 A.L3 A.Dz ["self","sitting"] (jr A 3):=qr T;have Sg:ay P w K mg base CX0 1 A.L4 A.DA ["self","clause"] (jr A 7):=rQ T;refine T.mD.ok kO (λvs H Q E h=>?_) (λcdv A' outer s H vs Q E hr h=>?_)
 ·obtain⟨t,k,v,_,_,rfl,_⟩:=h;rfl
 ·obtain⟨t,k,v,h1,h8,rfl,ht,q⟩:=h;have fg:=hr;refine⟨_,(ai (bh (i:=1) kO.nd rfl (aec rfl) (bp bf (pv 0) ak (λ_ _=>rfl)))
 (ai (bI (aJ bY (pv 1) az (aS _))
 (aj (aL (gB T.tW Mo fg rfl T.tU T.OE .nil aV (aa (bp bf (pv 0) ak (λ_ _=>rfl)) ah))))
 aQ)
 (ai (bI (aJ bY (pv 1) az (aS _))
 (aj (aL (gB T.tX Mp fg rfl T.tV T.OF .nil aV (aa (bp bf (pv 0) ak (λ_ _=>rfl)) ah))))
 aQ)
 (ai (bI (aJ bY (pv 1) az (aS _))
 (aj (aL (gB T.GA Se fg rfl T.Gw T.R7 .nil aV (aa (bp bf (pv 0) ak (λ_ _=>rfl)) ah))))
 aQ)
 (ai (bI (aJ bY (pv 1) az (aS _))
 (aj (aL (gB T.y8 Sf fg rfl T.y6 T.Sa .nil aV (aa (bp bf (pv 0) ak (λ_ _=>rfl)) ah))))
 aQ)
 (ai (bI (aJ bY (pv 1) az (aS _))
 (aj (aL (ny (T.mkn 4 (by decide)) rfl T.Co)))
 aQ)
 (ai (bI (aJ bY (pv 1) az (aS _))
 (aj (aL (ny (T.mkn 5 (by decide)) rfl T.L9)))
 aQ)
 (ai (bI (aJ bY (pv 1) az (aS _))
 (aj (aL (ny (T.mkn 6 (by decide)) rfl T.Gx)))
 aQ)
 (aj (aL (gB T.Cr Sg fg rfl T.Cp T.Sb .nil aV (aa (bp bf (pv 0) ak (λ_ _=>rfl)) ah)))))))))))),?_⟩
  have h0:atI (rowOf k v) 0=some (.str (nm k)):=by
   have hk:k=1\/k=2\/k=3\/k=4\/k=5\/k=6\/k=7:=by omega
   rcases hk with rfl | rfl | rfl | rfl | rfl | rfl | rfl <;> rfl
  refine ixv rfl (SqT.of ht) h0 ?_;have hk:k=1\/k=2\/k=3\/k=4\/k=5\/k=6\/k=7:=by omega
  rcases hk with rfl | rfl | rfl | rfl | rfl | rfl | rfl
  ·refine⟨_,rfl,rfl,tsf (by decide +kernel) ⟨_,rfl,rfl,tst (by decide +kernel) ?_⟩⟩
   exact⟨_,rfl,t,_,_,v,rfl,rfl,SqT.of ht,rfl,λm dx nm ndx ne=>⟨m,dx,v,rfl,ae,rfl,q m _ ((((bJ.refl H).own ndx).own nm).own nm) nm ⟨dx,ae⟩⟩⟩
  ·refine⟨_,rfl,rfl,tsf (by decide +kernel) ⟨_,rfl,rfl,tsf (by decide +kernel) ⟨_,rfl,rfl,tst (by decide +kernel) ?_⟩⟩⟩
   exact⟨_,rfl,t,_,_,v,rfl,rfl,SqT.of ht,rfl,λm dx nm ndx ne=>⟨m,dx,v,rfl,ae,rfl,q m _ ((((bJ.refl H).own ndx).own nm).own nm) nm ⟨dx,ae⟩⟩⟩
  ·refine⟨_,rfl,rfl,tsf (by decide +kernel) ⟨_,rfl,rfl,tsf (by decide +kernel) ⟨_,rfl,rfl,tsf (by decide +kernel) ⟨_,rfl,rfl,tst (by decide +kernel) ?_⟩⟩⟩⟩
   exact⟨_,rfl,t,_,_,v,rfl,rfl,SqT.of ht,rfl,λm dx nm ndx ne=>⟨m,dx,v,rfl,ae,rfl,q m _ ((((bJ.refl H).own ndx).own nm).own nm) nm ⟨dx,ae⟩⟩⟩
  ·refine⟨_,rfl,rfl,tsf (by decide +kernel) ⟨_,rfl,rfl,tsf (by decide +kernel) ⟨_,rfl,rfl,tsf (by decide +kernel) ⟨_,rfl,rfl,tsf (by decide +kernel) ⟨_,rfl,rfl,tst (by decide +kernel) ?_⟩⟩⟩⟩⟩
   exactλm dx nm ndx ne=>q m _ (((bJ.refl H).own ndx).own nm) nm ⟨dx,ae⟩
  ·refine⟨_,rfl,rfl,tsf (by decide +kernel) ⟨_,rfl,rfl,tsf (by decide +kernel) ⟨_,rfl,rfl,tsf (by decide +kernel) ⟨_,rfl,rfl,tsf (by decide +kernel) ⟨_,rfl,rfl,tsf (by decide +kernel) ⟨_,rfl,rfl,tst (by decide +kernel) ?_⟩⟩⟩⟩⟩⟩
   exactλm dx nm ndx ne=>q m _ (((bJ.refl H).own ndx).own nm) nm ⟨dx,ae⟩
  ·refine⟨_,rfl,rfl,tsf (by decide +kernel) ⟨_,rfl,rfl,tsf (by decide +kernel) ⟨_,rfl,rfl,tsf (by decide +kernel) ⟨_,rfl,rfl,tsf (by decide +kernel) ⟨_,rfl,rfl,tsf (by decide +kernel) ⟨_,rfl,rfl,tsf (by decide +kernel) ⟨_,rfl,rfl,tst (by decide +kernel) ?_⟩⟩⟩⟩⟩⟩⟩
   exactλm dx nm ndx ne=>q m _ (((bJ.refl H).own ndx).own nm) nm ⟨dx,ae⟩
  ·refine⟨_,rfl,rfl,tsf (by decide +kernel) ⟨_,rfl,rfl,tsf (by decide +kernel) ⟨_,rfl,rfl,tsf (by decide +kernel) ⟨_,rfl,rfl,tsf (by decide +kernel) ⟨_,rfl,rfl,tsf (by decide +kernel) ⟨_,rfl,rfl,tsf (by decide +kernel) ⟨_,rfl,rfl,tsf (by decide +kernel) ?_⟩⟩⟩⟩⟩⟩⟩
   exact⟨_,rfl,t,_,_,v,rfl,rfl,SqT.of ht,rfl,λm dx nm ndx ne=>⟨m,dx,v,rfl,ae,rfl,q m _ ((((bJ.refl H).own ndx).own nm).own nm) nm ⟨dx,ae⟩⟩⟩
end
section
variable{P:ku}{w:World}{K:ba}{mg:Str->Option Value}{base:Heap}{A:Adr}
theorem Ar (T:Txt w.params K mg A):ay P w K mg base CX0 3 A.lu A.gK ["told"] (DF A K):=by
 have Mo:ay P w K mg base CX0 1 A.JI A.A3 ["self","text"] (yj A K):=zp T;have Mp:ay P w K mg base CX0 1 A.JJ A.A4 ["self","edit"] (jr A 1):=lQ T;have Se:ay P w K mg base CX0 1 A.LZ A.Dy ["self","edit"] (jr A 2):=t9 T;have Sf:ay P w K mg base CX0 1 A.L3 A.Dz ["self","sitting"] (jr A 3):=qr T;have Sg:ay P w K mg base CX0 1 A.L4 A.DA ["self","clause"] (jr A 7):=rQ T;refine T.mD.ok kO (λvs H Q E h=>?_) (λcdv A' outer s H vs Q E hr h=>?_)
 ·obtain⟨t,L,xs,rfl,_⟩:=h;rfl
 ·obtain⟨t,L,xs,rfl,ht,hL,q⟩:=h;have fg:=hr;refine⟨_,(ai (bh (i:=1) kO.nd rfl (aec rfl) (bp bf (pv 0) ak (λ_ _=>rfl)))
 (ai (bI (aJ bY (pv 1) az (aS _))
 (aj (aL (gB T.tW Mo fg rfl T.tU T.OE .nil aV (aa (bp bf (pv 0) ak (λ_ _=>rfl)) ah))))
 aQ)
 (ai (bI (aJ bY (pv 1) az (aS _))
 (aj (aL (gB T.tX Mp fg rfl T.tV T.OF .nil aV (aa (bp bf (pv 0) ak (λ_ _=>rfl)) ah))))
 aQ)
 (ai (bI (aJ bY (pv 1) az (aS _))
 (aj (aL (gB T.GA Se fg rfl T.Gw T.R7 .nil aV (aa (bp bf (pv 0) ak (λ_ _=>rfl)) ah))))
 aQ)
 (ai (bI (aJ bY (pv 1) az (aS _))
 (aj (aL (gB T.y8 Sf fg rfl T.y6 T.Sa .nil aV (aa (bp bf (pv 0) ak (λ_ _=>rfl)) ah))))
 aQ)
 (ai (bI (aJ bY (pv 1) az (aS _))
 (aj (aL (ny (T.mkn 4 (by decide)) rfl T.Co)))
 aQ)
 (ai (bI (aJ bY (pv 1) az (aS _))
 (aj (aL (ny (T.mkn 5 (by decide)) rfl T.L9)))
 aQ)
 (ai (bI (aJ bY (pv 1) az (aS _))
 (aj (aL (ny (T.mkn 6 (by decide)) rfl T.Gx)))
 aQ)
 (aj (aL (gB T.Cr Sg fg rfl T.Cp T.Sb .nil aV (aa (bp bf (pv 0) ak (λ_ _=>rfl)) ah)))))))))))),?_⟩
  refine ixv rfl (SqT.of ht) rfl ?_;refine⟨_,rfl,rfl,tst (by decide +kernel) ?_⟩
  refine⟨_,rfl,t,_,_,.ref L,rfl,rfl,SqT.of ht,rfl,λm dx nm ndx ne=>⟨m,dx,L,xs,rfl,ae,(((bJ.refl H).own ndx).own nm).seq hL,λp hp=>⟨rfl,?_⟩⟩⟩
  have s1:bJ H (upd (upd H dx (.own m)) m (.ins (A.C 0) dx [])):=((bJ.refl H).own ndx).own nm;have npm:p≠m:=λz=>by rw[z,ae]at hp;cases hp
  exact q m p _ ((s1.new hp).own nm) nm (s1.free hp) ((aw npm).trans ae) ⟨dx,ae⟩
end
abbrev IS:Str:=ar "more"
def gY (n:Str)(a b:Int):Bool:=if a<=b then false else (decide (n=IS) || decide (2 * b<=a))
def Mq:Sp:=λvs H Q _=>∃(n:Str) (a b:Int),vs=[.str n,.int a,.int b]/\Q (.bl (gY n a b)) H
section
variable{P:ku}{w:World}{K:ba}{mg:Str->Option Value}{base:Heap}{A:Adr}
theorem GF (T:Txt w.params K mg A):ay P w K mg base CX0 1 A.yb A.oz ["need","ayes","noes"] Mq:=by
 refine T.uW.ok Gq (λvs H Q E h=>?_) (λcdv A' outer s H vs Q E hr h=>?_)
 ·obtain⟨n,a,b,rfl,_⟩:=h;rfl
 ·obtain⟨n,a,b,rfl,q⟩:=h;refine⟨_,(ai (bI (aJ Iu (pv 1) (pv 2) (aS _))
 (aj (aL pY))
 aQ)
 (aj (aL (VS (oo bY (pv 0) az (aS _)) (KJ (oo PH (pv 1) (bA BL ak (pv 2)) (aS _))))))),?_⟩
  refine⟨_,rfl,_,rfl,_,_,rfl,rfl,_,rfl,nv (λe=>?_) (λe=>?_)⟩
  ·have e':a<=b:=of_decide_eq_true e;rw[gY,if_pos e']at q;exact q
  ·have e':¬a<=b:=λz=>e (decide_eq_true z)
   rw[gY,if_neg e']at q;refine⟨_,rfl,rfl,_,rfl,nv (λe2=>?_) (λe2=>?_)⟩
   ·have h2:n=IS:=by injection of_decide_eq_true e2
    rw[decide_eq_true h2,Bool.true_or]at q;exact q
   ·have h2:¬n=IS:=λz=>e2 (decide_eq_true (by rw[z]))
    rw[decide_eq_false h2,Bool.false_or]at q;exact⟨_,rfl,_,rfl,_,_,rfl,rfl,.inl ⟨by decide,by decide⟩,_,_,rfl,rfl,q⟩
end
end My
set_option maxHeartbeats 1000000
namespace My
open PySem L2
seal PySem.wpAny
namespace R
abbrev bl1:Str:=ar " "
abbrev em:Str:=ar ""
theorem oN:bl1=⟨#[32]⟩:=by decide +kernel
theorem P5:em=⟨#[]⟩:=by decide +kernel
def Sign (c:Nat):Prop:=33<=c/\c<=126/\c≠37
instance:DecidablePred Sign:=λc=>by unfold Sign;exact inferInstance
structure nR (x:Str):Prop where
 l1:1<=x.length
 l2:x.length<=20
 sgn:∀c∈x.cps.toList,Sign c
 ns:x≠ar "/"
def Asc (x:Str):Prop:=∀c∈x.cps.toList,c < 128
theorem Asc.ok {x:Str}(h:Asc x):aef x=true:=by
 unfold aef;rw[Array.all_eq_true];intro i hi;have:=h x.cps[i] (by simp)
 exact decide_eq_true (by omega)
theorem nR.asc {x:Str}(w:nR x):Asc x:=λc hc=>by have:=w.sgn c hc;unfold Sign at this;omega
theorem nP {sep:Str}(hs:Asc sep):∀ws:List Str,(∀w∈ws,Asc w)->Asc (kf sep ws)
 |[],_=>λc hc=>by
  have:c∈([]:List Nat):=hc;cases this
 |[x],h=>h x fu
 |x::y::r,h=>λc hc=>by
  have hc':c∈((x++sep)++kf sep (y::r)).cps.toList:=hc;rw[eZ,eZ,List.mem_append,List.mem_append]at hc';rcases hc' with (h1 | h1) | h1
  ·exact h x fu c h1
  ·exact hs c h1
  ·exact nP hs (y::r) (λw hw=>h w (ki _ hw)) c h1
abbrev WX:List Str:=[ar "-",ar "put",ar "/a",ar "0",ar "off",ar "//",ar "matter",ar "a"]
theorem Mr {x:Str}(h:decide (1<=x.length/\x.length<=20/\(∀c∈x.cps.toList,Sign c)/\x≠ar "/")=true):nR x:=by
 obtain⟨a,b,c,d⟩:=of_decide_eq_true h;exact⟨a,b,c,d⟩
theorem Si:∀x∈WX,nR x:=by
 intro x hx;simp only[List.mem_cons,List.not_mem_nil,or_false]at hx;rcases hx with rfl | rfl | rfl | rfl | rfl | rfl | rfl | rfl <;> exact Mr (by decide +kernel)
structure Clause (n:Nat)(x:Str)(ws:List Str):Prop where
 eq:x=kf bl1 ws
 len:ws.length<=n
 wd:∀w∈ws,nR w
theorem Clause.asc {n:Nat}{x:Str}{ws:List Str}(c:Clause n x ws):Asc x:=by
 rw[c.eq];exact nP (by rw[oN];intro d hd;have:d=32:=(by simpa using hd);omega) ws λw hw=>(c.wd w hw).asc
theorem DH {ws:List Str}(h:∀w∈ws,nR w):(ws.map (·.length)).sum<=ws.length * 20:=StrLaws.sumLen_le ws λw hw=>(h w hw).l2
theorem Clause.size {n:Nat}{x:Str}{ws:List Str}(c:Clause n x ws):x.length<=n * 21:=by
 rw[c.eq,oN];have h1:=q9 32 ws;have h2:=DH c.wd;have h3:=c.len;omega
abbrev sl1:Str:=ar "/"
def num (i:Int):Str:=ar (toString i)
theorem IT {i:Int}(h0:0<=i)(h1:i < 10 ^ 10):(num i).length<=10:=PyProof.Rows.toString_length_le h0 (by decide) h1
theorem IU {i:Int}(h0:0<=i)(h1:i < 10 ^ 10):i.natAbs.log2 < 1920:=by
 have h:i.natAbs < 2 ^ 34:=by
  have:(10:Int) ^ 10<=2 ^ 34:=by decide
  omega
 by_cases hz:i.natAbs=0
 ·rw[hz];decide
 ·exact Nat.lt_trans ((Nat.log2_lt hz).mpr h) (by decide)
def bG (z:Str):List Str:=if z=em then [] else PySem.Txt.split z bl1
theorem nR.free {x:Str}(w:nR x):32∉x.cps.toList:=λz=>by have:=w.sgn _ z;unfold Sign at this;omega
theorem kU {ws:List Str}(h:∀w∈ws,nR w):bG (kf bl1 ws)=ws:=by
 cases ws with
 |nil=>exact if_pos (by rw[P5];rfl)
 |cons x r =>
  have l:=Af (c:=32) (aeC x r) λw hw=>(h w hw).l1
  have ne:¬kf bl1 (x::r)=em:=λe=>by
   rw[oN]at e;rw[e,P5]at l;exact absurd l (by decide)
  unfold bG;rw[if_neg ne,oN];exact Gh (aeC x r) λw hw=>(h w hw).free
inductive gZ where
 |mat (cs:List (List Str))
 |ed (m:Bool) (k:Nat) (i:Int) (ws:List Str)
 |pt (ws:List Str)
 |nums (kd:Str) (ns:List Int)
def kEd (m:Bool):Str:=if m then ar "mend" else ar "change"
def kn:Nat->Str
 | 0=>ar "put"
 | 1=>ar "cut"
 |_=>ar "turn"
def edR (k:Nat)(i:Int)(x:Str):List V:=if k=1 then [.str (kn 1),.int i] else [.str (kn k),.int i,.str x]
def iV:List (Str×Nat):=[(ar "put off",1),(ar "vote",2),(ar "take",1),(ar "close",0),(ar "lay",0),(ar "rest",0),(ar "drop",0)]
structure wG (n:Nat)(ws:List Str):Prop where
 len:ws.length<=n
 wd:∀w∈ws,nR w
def DOk:gZ->Prop
 | .mat cs=>cs.length<=12/\∀ws∈cs,wG 12 ws
 | .ed m k i ws=>(k=0\/k=1\/k=2)/\(0<=i/\i < 10 ^ 10)/\wG 12 ws/\(m=true->ws.length=1)
 | .pt ws=>wG 12 ws
 | .nums kd ns=>(kd,ns.length)∈iV/\∀i∈ns,0<=i/\i < 10 ^ 10
def qt (K:ba)(H:Hp):gZ->Addr->Prop
 | .mat cs,t=>∃L,SqT K H t [.str (ar "matter"),.ref L]/\SqL K H L ((cs.map (kf bl1)).map V.str)
 | .ed m k i ws,t=>∃e,SqT K H t [.str (kEd m),.ref e]/\SqT K H e (edR k i (kf bl1 ws))
 | .pt ws,t=>SqT K H t [.str (ar "point"),.str (kf bl1 ws)]
 | .nums kd ns,t=>SqT K H t (.str kd::ns.map V.int)
theorem qt.same {K:ba}{H H':Hp}(s:bJ H H'):∀ {d:gZ} {t:Addr},qt K H d t->qt K H' d t
 | .mat _,_,⟨L,a,b⟩=>⟨L,dW s a,s.seq b⟩
 | .ed _ _ _ _,_,⟨e,a,b⟩=>⟨e,dW s a,dW s b⟩
 | .pt _,_,a=>dW s a
 | .nums _ _,_,a=>dW s a
def zq:gZ->Str
 | .mat _=>ar "matter"
 | .ed m _ _ _=>kEd m
 | .pt _=>ar "point"
 | .nums kd _=>kd
def iW:gZ->List Str
 | .mat cs=>cs.flatMap λws=>sl1::ws
 | .ed _ k i ws=>kn k::num i::(if k=1 then [] else ws)
 | .pt ws=>ws
 | .nums _ ns=>ns.map num
def nS (d:gZ):Str:=kf bl1 (zq d::iW d)
theorem Sj (k:Nat):(kn k).length<=4:=by
 unfold kn;split <;> decide +kernel
theorem ON (m:Bool):(kEd m).length<=6:=by cases m <;> decide +kernel
theorem kd_len {kd:Str}{n:Nat}(h:(kd,n)∈iV):kd.length<=7/\n<=2:=by
 simp only[iV,List.mem_cons,List.not_mem_nil,or_false,Prod.mk.injEq]at h;rcases h with ⟨rfl,rfl⟩ | ⟨rfl,rfl⟩ | ⟨rfl,rfl⟩ | ⟨rfl,rfl⟩ | ⟨rfl,rfl⟩ | ⟨rfl,rfl⟩ | ⟨rfl,rfl⟩ <;> decide +kernel
theorem Bl {d:gZ}(o:DOk d):(iW d).length<=200/\(∀w∈iW d,w.length<=20)/\(zq d).length<=20:=by
 cases d with
 |mat cs =>
  obtain⟨o1,o2⟩:=o;refine⟨?_,λw hw=>?_,by show (ar "matter").length<=20;decide +kernel⟩
  ·show (cs.flatMap λws=>sl1::ws).length<=200
   have:∀l:List (List Str),(∀ws∈l,wG 12 ws)->(l.flatMap λws=>sl1::ws).length<=l.length * 13:=λl=>by
    induction l with
    |nil=>intro _;exact kg _
    |cons x l ih =>
     intro h;have h1:=(h x fu).len;have h2:=ih λw hw=>h w (ki _ hw)
     rw[List.flatMap_cons,kr,tm,tm];omega
   have:=this cs o2;omega
  ·obtain⟨ws,h1,h2⟩:=List.mem_flatMap.mp hw;rcases List.mem_cons.mp h2 with rfl | h2
   ·decide +kernel
   ·exact((o2 ws h1).wd w h2).l2
 |ed m k i ws =>
  obtain⟨o1,⟨i0,i1⟩,o3,_⟩:=o;have l:=o3.len;refine⟨?_,λw hw=>?_,?_⟩
  ·show (kn k::num i::(if k=1 then [] else ws)).length<=200
   split <;> simp <;> omega
  ·have hw':w∈kn k::num i::(if k=1 then [] else ws):=hw
   rcases List.mem_cons.mp hw' with rfl | hw'
   ·have:=Sj k;omega
   ·rcases List.mem_cons.mp hw' with rfl | hw'
    ·have:=IT i0 i1;omega
    ·split at hw'
     ·cases hw'
     ·exact(o3.wd w hw').l2
  ·have:=ON m;show (kEd m).length<=20;omega
 |pt ws=>exact⟨by have:=o.len;show ws.length<=200;omega,λw hw=>(o.wd w hw).l2,by show (ar "point").length<=20;decide +kernel⟩
 |nums kd ns =>
  obtain⟨o1,o2⟩:=o;have:=kd_len o1;refine⟨by show (ns.map num).length<=200;rw[cb];omega,λw hw=>?_,by show kd.length<=20;omega⟩
  obtain⟨i,hi,rfl⟩:=List.mem_map.mp hw;have:=IT (o2 i hi).1 (o2 i hi).2;omega
def ly:Sp:=λvs H Q _=>∃z,vs=[.str z]/\z.length+2<=gp/\∀p,H p=none->Q (.ref p) (upd H p (.lst ((bG z).map V.str)))
def sy (K:ba):Sp:=λvs H Q _=>∃a ws,vs=[.ref a]/\SqL K H a (ws.map V.str)/\(ws.map (·.length)).sum+ws.length<=16777216/\Q (.str (kf bl1 ws)) H
def Ms (K:ba):Sp:=λvs H Q _=>∃(L:Addr) (cs:List (List Str)),vs=[.ref L]/\SqL K H L ((cs.map (kf bl1)).map V.str)/\DOk (.mat cs)/\∀p H',bJ H H'->H p=none->H' p=some (.lst ((iW (.mat cs)).map V.str))->Q (.ref p) H'
def IV (K:ba):Sp:=λvs H Q _=>∃(t:Addr) (m:Bool) (k:Nat) (i:Int) (ws:List Str),vs=[.ref t]/\SqT K H t (edR k i (kf bl1 ws))/\DOk (.ed m k i ws)/\∀p H',bJ H H'->H p=none->H' p=some (.lst ((iW (.ed m k i ws)).map V.str))->Q (.ref p) H'
def DI (K:ba):Sp:=λvs H Q _=>∃(t:Addr) (d:gZ),vs=[.ref t]/\qt K H d t/\DOk d/\∀p H',bJ H H'->H p=none->H' p=some (.lst ((iW d).map V.str))->Q (.ref p) H'
def CC (K:ba):Sp:=λvs H Q _=>∃(t:Addr) (d:gZ),vs=[.ref t]/\qt K H d t/\DOk d/\∀H',bJ H H'->Q (.str (nS d)) H'
theorem zh {k:Nat}(h:k=0\/k=1\/k=2):(V.str (kn k)=V.str (ar "cut"))↔k=1:=by
 rcases h with rfl | rfl | rfl <;> decide +kernel
theorem IW (k:Nat)(i:Int)(x:Str):atI (edR k i x) 0=some (.str (kn k)):=by
 unfold edR;split
 ·rename_i h;rw[h];rfl
 ·rfl
theorem OO (k:Nat)(i:Int)(x:Str):atI (edR k i x) 1=some (.int i):=by
 unfold edR;split <;> rfl
theorem OP {k:Nat}(h:k≠1)(i:Int)(x:Str):atI (edR k i x) 2=some (.str x):=by
 unfold edR;rw[if_neg h];rfl
theorem sA {ws:List Str}(o:wG 12 ws):(kf bl1 ws).length<=300:=by
 have h1:=q9 32 ws;have h2:=DH o.wd;have h3:=o.len;rw[oN];omega
theorem WY {kd:Str}{n:Nat}(h:(kd,n)∈iV):V.str kd≠V.str (ar "matter")/\V.str kd≠V.str (ar "change")/\V.str kd≠V.str (ar "mend")/\V.str kd≠V.str (ar "point"):=by
 simp only[iV,List.mem_cons,List.not_mem_nil,or_false,Prod.mk.injEq]at h;rcases h with ⟨rfl,rfl⟩ | ⟨rfl,rfl⟩ | ⟨rfl,rfl⟩ | ⟨rfl,rfl⟩ | ⟨rfl,rfl⟩ | ⟨rfl,rfl⟩ | ⟨rfl,rfl⟩ <;> decide +kernel
section
variable{K:ba}
theorem qt.at0 {H:Hp}{d:gZ}{t:Addr}(h:qt K H d t):∃xs,SqT K H t xs/\atI xs 0=some (.str (zq d)):=by
 cases d with
 |mat cs=>obtain⟨L,a,b⟩:=h;exact⟨_,a,rfl⟩
 |ed m k i ws=>obtain⟨e,a,b⟩:=h;exact⟨_,a,rfl⟩
 |pt ws=>exact⟨_,h,rfl⟩
 |nums kd ns=>exact⟨_,h,oq (j:=0) rfl⟩
end
section
variable{P:ku}{w:World}{K:ba}{mg:Str->Option Value}{base:Heap}{A:Adr}
theorem ua (T:Txt w.params K mg A):ay P w K mg base CX0 1 A.nH A.iL ["words"] (sy K):=by
 refine T.mC.ok Cc (λvs H Q E h=>?_) (λcdv A' outer s H vs Q E hr h=>?_)
 ·obtain⟨a,ws,rfl,_⟩:=h;rfl
 ·obtain⟨a,ws,rfl,hq,hz,k⟩:=h;refine⟨_,(aj (aL (lA PySem.F.plainAttrs_str PySem.F.slot_str_join PySem.F.type_str_join IB az (aa (pv 0) ah)))),?_⟩;exact⟨rfl,_,rfl,bl1,a,ws,rfl,rfl,hq,by rw[oN];show _+ws.length * 1<=_;omega,k⟩
end
section
variable{P:ku}{w:World}{K:ba}{mg:Str->Option Value}{base:Heap}{A:Adr}
theorem jV (T:Txt w.params K mg A):ay P w K mg base CX0 1 A.words_of A.eV ["clause"] ly:=by
 refine T.ia.ok Dx (λvs H Q E h=>?_) (λcdv A' outer s H vs Q E hr h=>?_)
 ·obtain⟨z,rfl,_⟩:=h;rfl
 ·obtain⟨z,rfl,hz,k⟩:=h;refine⟨_,(ai (bI (aJ bY (pv 0) az (aS _))
 (aj (aL (gQ ah)))
 aQ)
 (aj (aL (lA PySem.F.plainAttrs_str PySem.F.slot_str_split PySem.F.type_str_split La (pv 0) (aa az ah))))),?_⟩
  refine⟨_,rfl,rfl,_,rfl,nv (λe=>?_) (λe=>?_)⟩
  ·have e':z=em:=by injection of_decide_eq_true e
   refine⟨aeM _,λp hp=>?_⟩
   have:=k p hp;rw[bG,if_pos e']at this;exact this
  ·have e':¬z=em:=λq=>e (decide_eq_true (by rw[q]))
   refine⟨_,rfl,rfl,z,bl1,rfl,rfl,by rw[oN];rfl,hz,λp hp=>?_⟩
   have:=k p hp;rw[bG,if_neg e']at this;exact this
theorem ve (T:Txt w.params K mg A):ay P w K mg base CX0 2 A.jI A.gN ["text"] (Ms K):=by
 have fh:ay P w K mg base CX0 1 A.words_of A.eV ["clause"] ly:=jV T;refine T.kh.ok jd (λvs H Q E h=>?_) (λcdv A' outer s H vs Q E hr h=>?_)
 ·obtain⟨L,cs,rfl,_⟩:=h;rfl
 ·obtain⟨L,cs,rfl,hL,o,k⟩:=h;have d8:=hr;refine⟨_,(ai (bh (i:=1) jd.nd rfl (aec rfl) (gQ ah))
 (ai (yr afl rfl (mr (pv 0)) (tw (i:=2) jd.nd rfl (aec rfl))
 (ai (a6 (lA ad2 aeq aer gD (pv 1) (aa az ah)))
 (aj (a6 (lA ad2 PySem.F.slot_list_extend PySem.F.type_list_extend AM (pv 1) (aa (bb fh d8 rfl T.jk T.ia.kp T.jj .nil aV (aa (pv 2) ah)) ah))))))
 (aj (aL (pv 1))))),?_⟩
  have lim:gp=16777216:=by decide
  refine⟨aeM _,λW hW=>?_⟩
  refine⟨_,rfl,L,rfl,⟨_,(aK hW).seq hL⟩,?_⟩;refine yt (K:=K) (a:=L) (xs:=(cs.map (kf bl1)).map V.str) (λi σ H2=>∃v2:Option V,σ=[some (.ref L),some (.ref W),v2]/\bJ H H2/\H2 W=some (.lst ((iW (.mat (cs.take i))).map V.str)))
   ⟨_,rfl,aK hW,ae⟩ (λi σ H2 _ ⟨_,_,s2,_⟩=>s2.seq hL) ?_ ?_
  ·rintro i y σ H2 hi ⟨v2,rfl,s2,h2⟩;rw[aeD,aeD]at hi;cases hc:cs[i]? with
   |none=>rw[hc]at hi;cases hi
   |some ws =>
    rw[hc]at hi;obtain rfl:V.str (kf bl1 ws)=y:=ad8 hi;have ow:=o.2 ws (aei hc);have hcl:=sA ow;have hil:i < cs.length:=(List.getElem?_eq_some_iff.mp hc).1;have hb:(iW (.mat (cs.take i))).length<=200:=(Bl (d:=.mat (cs.take i)) ⟨by rw[aeu];have:=o.1;omega,λws hw=>o.2 ws (List.mem_of_mem_take hw)⟩).1
    refine⟨_,rfl,.inl ⟨rfl,_,SqL.of h2⟩,W,_,_,rfl,rfl,h2,(by rw[cb];omega),?_⟩
    refine⟨_,rfl,.inl ⟨rfl,_,SqL.of ae⟩,_,rfl,_,rfl,by omega,λp hp=>?_⟩
    rw[kU ow.wd];have nWp:W≠p:=aN ae hp;have wl:=ow.len;refine⟨W,p,_,_,rfl,rfl,(aw nWp).trans ae,ae,(by rw[kr,cb,cb];show _+1+_<=_;omega),?_⟩
    refine⟨_,rfl,((s2.own hW).new hp).own hW,?_⟩;rw[ae,List.take_succ,hc];show some (HO.lst _)=some (HO.lst (((cs.take i++[ws]).flatMap λws=>sl1::ws).map V.str))
    rw[List.flatMap_append];simp[iW]
  ·rintro σ H2 ⟨v2,rfl,s2,h2⟩;rw[cb,cb,afh]at h2;exact⟨_,rfl,k W H2 s2 hW h2⟩
theorem vf (T:Txt w.params K mg A):ay P w K mg base CX0 2 A.jJ A.gO ["edit"] (IV K):=by
 have fh:ay P w K mg base CX0 1 A.words_of A.eV ["clause"] ly:=jV T;refine T.kz.ok nD (λvs H Q E h=>?_) (λcdv A' outer s H vs Q E hr h=>?_)
 ·obtain⟨t,m,k,i,ws,rfl,_⟩:=h;rfl
 ·obtain⟨t,m,k,i,ws,rfl,ht,⟨o1,⟨i0,i1⟩,o3,_⟩,q⟩:=h;have d8:=hr;refine⟨_,(ai (bh (i:=1) nD.nd rfl (aec rfl) (gQ (aa (bp bf (pv 0) ak (λ_ _=>rfl)) (aa (gC tD (by rfl) T.L8 K8 (aa (bp bf (pv 0) ak (λ_ _=>rfl)) ah)) ah))))
 (ai (bI (aJ PF (bp bf (pv 0) ak (λ_ _=>rfl)) az (aS _))
 (aj (a6 (lA ad2 PySem.F.slot_list_extend PySem.F.type_list_extend AM (pv 1) (aa (bb fh d8 rfl T.jk T.ia.kp T.jj .nil aV (aa (bp bf (pv 0) ak (λ_ _=>rfl)) ah)) ah))))
 aQ)
 (aj (aL (pv 1))))),?_⟩
  have lim:gp=16777216:=by decide
  refine ixv rfl ht (IW k i _) (ixv rfl ht (OO k i _) ⟨_,rfl,IU i0 i1,(sl 2),λW hW=>?_⟩)
  have s1:bJ H (upd H W (.lst [V.str (kn k),V.str (num i)])):=aK hW;have hcl:=sA o3;refine ixv rfl (dW s1 ht) (IW k i _) ⟨rfl,_,rfl,?_⟩
  by_cases hk:k=1
  ·rw[decide_eq_true ((zh o1).mpr hk)];refine gf ⟨_,rfl,q W _ s1 hW ?_⟩;show (upd H W (.lst [V.str (kn k),V.str (num i)])) W=some (.lst ((kn k::num i::(if k=1 then [] else ws)).map V.str))
   rw[ae,if_pos hk];rfl
  ·rw[decide_eq_false λz=>hk ((zh o1).mp z)]
   refine pM ⟨_,rfl,.inl ⟨rfl,_,SqL.of ae⟩,ixv rfl (dW s1 ht) (OP hk i _) ⟨_,rfl,by omega,λp hp=>?_⟩⟩
   rw[kU o3.wd];have nWp:W≠p:=aN ae hp;have wl:=o3.len;refine⟨W,p,_,_,rfl,rfl,(aw nWp).trans ae,ae,(by rw[cb];show 2+_<=_;omega),_,rfl,q W _ ((s1.new hp).own hW) hW ?_⟩
   show (upd (upd (upd H W (.lst [V.str (kn k),V.str (num i)])) p (.lst (ws.map V.str))) W (.lst ([V.str (kn k),V.str (num i)]++ws.map V.str))) W=some (.lst ((kn k::num i::(if k=1 then [] else ws)).map V.str))
   rw[ae,if_neg hk];rfl
theorem wH (T:Txt w.params K mg A):ay P w K mg base CX0 3 A.kP A.hJ ["deed"] (DI K):=by
 have fh:ay P w K mg base CX0 2 A.words_of A.eV ["clause"] ly:=(jV T).mono (by decide)
 have wI:ay P w K mg base CX0 2 A.jI A.gN ["text"] (Ms K):=ve T;have wJ:ay P w K mg base CX0 2 A.jJ A.gO ["edit"] (IV K):=vf T;refine T.lL.ok pd (λvs H Q E h=>?_) (λcdv A' outer s H vs Q E hr h=>?_)
 ·obtain⟨t,d,rfl,_⟩:=h;rfl
 ·obtain⟨t,d,rfl,hd,o,q⟩:=h;have d8:=hr;have vg:=hr;have vh:=hr;refine⟨_,(ai (bh (i:=1) pd.nd rfl (aec rfl) (bp bf (pv 0) ak (λ_ _=>rfl)))
 (ai (bI (aJ bY (pv 1) az (aS _))
 (aj (aL (bb wI vg rfl T.pw T.kh.kp T.pq .nil aV (aa (bp bf (pv 0) ak (λ_ _=>rfl)) ah))))
 aQ)
 (ai (bI (PW.pt (pw_or (aJ bY (pv 1) az (aS _)) (pw_or1 (aJ bY (pv 1) az (aS _)))))
 (aj (aL (bb wJ vh rfl T.pA T.kz.kp T.pz .nil aV (aa (bp bf (pv 0) ak (λ_ _=>rfl)) ah))))
 aQ)
 (ai (bI (aJ bY (pv 1) az (aS _))
 (aj (aL (bb fh d8 rfl T.jk T.ia.kp T.jj .nil aV (aa (bp bf (pv 0) ak (λ_ _=>rfl)) ah))))
 aQ)
 (aj (aL (tH (scope:=lF) tN rfl (Rc (C9 Rn (pv 0) (BO ak) N6)) (λ_ _ _ _ _=>(gC tD (by rfl) T.L8 K8 (aa (pv 0) ah)))))))))),?_⟩
  have lim:gp=16777216:=by decide
  cases d with
  |mat cs =>
   refine hide λGg hGg=>?_
   obtain⟨L,ht,hL⟩:=hd;refine hGg ?_;refine ixv rfl ht rfl ?_;refine⟨_,rfl,rfl,tst (decide_eq_true rfl) ?_⟩;exact ixv rfl ht rfl ⟨L,cs,rfl,hL,o,q⟩
  |ed m k i ws =>
   refine hide λGg hGg=>?_
   obtain⟨e,ht,he⟩:=hd;refine hGg ?_;refine ixv rfl ht rfl ?_;refine⟨_,rfl,rfl,tsf (decide_eq_false (by cases m <;> decide +kernel)) ?_⟩
   cases m with
   |false =>
    refine⟨_,rfl,rfl,tst (decide_eq_true rfl) ?_⟩;exact ixv rfl ht rfl ⟨e,false,k,i,ws,rfl,he,o,q⟩
   |true =>
    refine⟨_,rfl,rfl,tsf (decide_eq_false (by decide +kernel)) ?_⟩
    refine⟨_,rfl,rfl,tst (decide_eq_true rfl) ?_⟩;exact ixv rfl ht rfl ⟨e,true,k,i,ws,rfl,he,o,q⟩
  |pt ws =>
   have ht:=hd;refine ixv rfl ht rfl ?_;refine⟨_,rfl,rfl,tsf (decide_eq_false (by decide +kernel)) ?_⟩
   refine⟨_,rfl,rfl,tsf (decide_eq_false (by decide +kernel)) ?_⟩
   refine⟨_,rfl,rfl,tsf (decide_eq_false (by decide +kernel)) ?_⟩
   refine⟨_,rfl,rfl,tst (decide_eq_true rfl) ?_⟩;have hcl:=sA o;refine ixv rfl ht rfl ⟨_,rfl,by omega,λp hp=>q p _ (aK hp) hp ?_⟩
   rw[ae,kU o.wd];rfl
  |nums kd ns =>
   refine hide λGg hGg=>?_
   have ht:=hd;obtain⟨o1,o2⟩:=o;obtain⟨n1,n2,n3,n4⟩:=WY o1;have kl:=(kd_len o1).2;refine hGg ?_;refine ixv rfl ht (oq (j:=0) rfl) ?_;refine⟨_,rfl,rfl,tsf (decide_eq_false n1) ?_⟩;refine⟨_,rfl,rfl,tsf (decide_eq_false n2) ?_⟩;refine⟨_,rfl,rfl,tsf (decide_eq_false n3) ?_⟩;refine⟨_,rfl,rfl,tsf (decide_eq_false n4) ?_⟩;refine⟨_,rfl,_,rfl,t,_,rfl,ht,λz=>?_,λp hp=>?_⟩
   ·have z1:=z.1;rw[show (1:Int)=((1:Nat):Int) from rfl,HT.xX,tm]at z1
    omega
   ·rw[show (1:Int)=((1:Nat):Int) from rfl,Lc]
    show _;have hs1:bJ H (upd H p (.tup (ns.map V.int))):=aK hp;have hpp:(upd H p (.tup (ns.map V.int))) p=some (.tup (ns.map V.int)):=ae;refine⟨p,rfl,⟨_,SqT.of hpp⟩,λD hD=>?_⟩
    have npD:p≠D:=aN hpp hD;refine Lw (K:=K) (a:=p) (xs:=ns.map V.int) (λi ys H3=>ys=(ns.take i).map (λn=>V.str (num n))/\H3=upd (upd H p (.tup (ns.map V.int))) D (.lst ys)) ⟨rfl,rfl⟩ (by rw[cb];omega) ?_ ?_ ?_
    ·rintro i ys H3 hi ⟨rfl,rfl⟩;rw[cb]at hi;exact⟨SqT.of ((aw npD).trans hpp),ae,by rw[cb,aeu];omega⟩
    ·rintro i y ys H3 hi ⟨rfl,rfl⟩;rw[aeD]at hi;cases hc:ns[i]? with
     |none=>rw[hc]at hi;cases hi
     |some n =>
      refine hide λGg hGg=>?_
      rw[hc]at hi;obtain rfl:V.int n=y:=ad8 hi;obtain⟨b0,b1⟩:=o2 n (aei hc);refine hGg ?_;refine⟨_,rfl,_,rfl,IU b0 b1,?_⟩;refine gg.mk (by rw[cb];exact(List.getElem?_eq_some_iff.mp hc).1) ae ⟨?_,by rw[mq]⟩
      rw[List.take_succ,hc,ky];rfl
    ·rintro ys H3 ⟨rfl,rfl⟩;rw[cb,afh];refine q D _ (hs1.new hD) (hs1.free hD) ?_;rw[ae];show some (HO.lst _)=some (HO.lst ((ns.map num).map V.str));rw[List.map_map];rfl
theorem oO (T:Txt w.params K mg A):ay P w K mg base CX0 4 A.lx A.gP ["deed"] (CC K):=by
 have qu:ay P w K mg base CX0 3 A.nH A.iL ["words"] (sy K):=(ua T).mono (by decide)
 have zr:ay P w K mg base CX0 3 A.kP A.hJ ["deed"] (DI K):=wH T;refine T.jT.ok Cd (λvs H Q E h=>?_) (λcdv A' outer s H vs Q E hr h=>?_)
 ·obtain⟨t,d,rfl,_⟩:=h;rfl
 ·obtain⟨t,d,rfl,hd,o,q⟩:=h;have oQ:=hr;have wK:=hr;refine⟨_,(aj (aL (bb qu oQ rfl T.qk T.mC.kp T.qj .nil aV (aa (bA Oe (gQ (aa (bp bf (pv 0) ak (λ_ _=>rfl)) ah)) (bb zr wK rfl T.qm T.lL.kp T.ql .nil aV (aa (pv 0) ah))) ah)))),?_⟩
  refine hide λGg hGg=>?_
  have lim:gp=16777216:=by decide
  obtain⟨b1,b2,b3⟩:=Bl o;obtain⟨xs,hx,hx0⟩:=hd.at0;refine hGg ?_;refine ixv rfl hx hx0 ⟨(sl 1),λp hp=>?_⟩
  refine⟨_,rfl,t,d,rfl,hd.same (aK hp),o,λp2 H2 s2 hn2 h2=>?_⟩
  have hp2:H2 p=some (.lst [V.str (zq d)]):=s2 _ _ ae;refine⟨p,p2,_,_,rfl,rfl,hp2,h2,(by rw[cb];show 1+_<=_;omega),λp3 hp3=>?_⟩
  refine⟨p3,zq d::iW d,rfl,SqL.of (by rw[ae];rfl),?_,q _ (((aK hp).trans s2).new hp3)⟩
  have:=StrLaws.sumLen_le (B:=20) (zq d::iW d) (λw hw=>by
   rcases List.mem_cons.mp hw with rfl | hw
   ·exact b3
   ·exact b2 w hw)
  rw[tm]at this ⊢;omega
end
end R
end My
set_option maxHeartbeats 1000000
namespace My
open PySem L2
seal PySem.wpAny
inductive Rl where
 |ob | made | au | aI | decided | firsts | kept | rows
 |lR (n:Nat) | qv (n:Nat) | lS (n:Nat)
abbrev Col:=Addr->Option (Nat×Rl)
def cB (i:Nat)(x:Option (Nat×Rl)):Prop:=∃r,x=some (i,r)
theorem oR {i j:Nat}(n:i≠j)(r:Rl):¬cB j (some (i,r)):=λ⟨_,e⟩=>by cases e;exact n rfl
theorem av {i:Nat}:¬cB i none:=λ⟨_,e⟩=>by cases e
structure Step (W:Option (Nat×Rl)->Prop)(c c':Col)(H H':Hp):Prop where
 nn:¬W none
 keep:∀a v,H a=some v->¬W (c a)->H' a=some v
 there:∀a v,H a=some v->∃v',H' a=some v'
 col:∀a v,H a=some v->¬W (c a)->c' a=c a
section
variable{W W':Option (Nat×Rl)->Prop}{c c1 c2:Col}{H H' H1 H2:Hp}{a:Addr}{o:HO}
theorem Step.refl (n:¬W none):Step W c c H H:=⟨n,λ_ _ h _=>h,λ_ v h=>⟨v,h⟩,λ_ _ _ _=>rfl⟩
theorem Step.same (n:¬W none)(s:bJ H H'):Step W c c H H':=⟨n,λa v h _=>s a v h,λa v h=>⟨v,s a v h⟩,λ_ _ _ _=>rfl⟩
theorem Step.mono (f:∀x,W x->W' x)(n:¬W' none)(s:Step W c c1 H H1):Step W' c c1 H H1 where
 nn:=n
 keep:=λa v h m=>s.keep a v h λz=>m (f _ z)
 there:=s.there
 col:=λa v h m=>s.col a v h λz=>m (f _ z)
theorem Step.trans (x:Step W c c1 H H1)(y:Step W c1 c2 H1 H2):Step W c c2 H H2 where
 nn:=x.nn
 keep:=λa v h n=>y.keep a v (x.keep a v h n) (by rw[x.col a v h n];exact n)
 there:=λa v h=>let ⟨v1,h1⟩:=x.there a v h;y.there a v1 h1
 col:=λa v h n=>(y.col a v (x.keep a v h n) (by rw[x.col a v h n];exact n)).trans (x.col a v h n)
theorem Step.upd (n:¬W none)(m:W (c a)):Step W c c H (L2.upd H a o) where
 nn:=n
 keep:=λb v h n=>by rw[aw (λz=>n (by rw[z];exact m))];exact h
 there:=λb v h=>by
  by_cases z:b=a
  ·rw[z];exact⟨o,ae⟩
  ·exact⟨v,by rw[aw z];exact h⟩
 col:=λ_ _ _ _=>rfl
def aH (c:Col)(a:Addr)(x:Option (Nat×Rl)):Col:=λb=>if b=a then x else c b
theorem a7 {x:Option (Nat×Rl)}:aH c a x a=x:=if_pos rfl
theorem ax {b:Addr}{x:Option (Nat×Rl)}(h:b≠a):aH c a x b=c b:=if_neg h
theorem Step.new {x:Option (Nat×Rl)}(n:¬W none)(h:H a=none):Step W c (aH c a x) H (L2.upd H a o) where
 nn:=n
 keep:=λb v e _=>aK h b v e
 there:=λb v e=>⟨v,aK h b v e⟩
 col:=λb v e _=>ax (λz=>by rw[z,h]at e;cases e)
theorem Step.role {x:Option (Nat×Rl)}(n:¬W none)(m:W (c a)):Step W c (aH c a x) H H where
 nn:=n
 keep:=λ_ _ h _=>h
 there:=λ_ v h=>⟨v,h⟩
 col:=λb _ _ n=>ax (λz=>n (by rw[z];exact m))
def bP (c:Col)(H:Hp):Col:=λa=>if (H a).isSome then c a else none
theorem dI (h:H a=none):bP c H a=none:=by unfold bP;rw[h];rfl
theorem Mt {v:HO}(h:H a=some v):bP c H a=c a:=by unfold bP;rw[h];rfl
theorem Step.cl (n:¬W none)(s:bJ H H'):Step W c (bP c H) H H':=⟨n,λa v h _=>s a v h,λa v h=>⟨v,s a v h⟩,λ_ _ h _=>Mt h⟩
end
def Wr (i:Nat)(p:Rl->Bool)(x:Option (Nat×Rl)):Prop:=∃r,x=some (i,r)/\p r=true
section
variable{i:Nat}{p:Rl->Bool}{r:Rl}{c c':Col}{H H':Hp}{a:Addr}
theorem Wr.nn:¬Wr i p none:=λ⟨_,e,_⟩=>nomatch e
theorem Wr.no (h:p r=false):¬Wr i p (some (i,r)):=λ⟨_,e,z⟩=>by cases e;rw[h]at z;cases z
theorem Wr.yes (e:c a=some (i,r))(h:p r=true):Wr i p (c a):=⟨r,e,h⟩
theorem Step.qw (s:Step (Wr i p) c c' H H'):Step (cB i) c c' H H':=s.mono (λ_ ⟨r,e,_⟩=>⟨r,e⟩) av
theorem sC {o:Addr}{v:HO}(h:p .ob=false)(s:Step (Wr i p) c c' H H')(h1:c o=some (i,.ob))(h2:H o=some v):c' o=some (i,.ob)/\H' o=some v:=by
 have hn:¬Wr i p (c o):=by rw[h1];exact Wr.no h
 exact⟨by rw[s.col o _ h2 hn];exact h1,s.keep _ _ h2 hn⟩
end
inductive Mn where
 |mat (tx:List Str) | chg (e:Ed) | mnd (e:Ed) | off (n:Int) | cls | lay | rst | pnt (z:Str)
def Mn.k:Mn->Nat
 | .mat _=>0 | .chg _=>1 | .mnd _=>2 | .off _=>3 | .cls=>4 | .lay=>5 | .rst=>6 | .pnt _=>7
theorem Mn.k8 (m:Mn):m.k < 8:=by cases m <;> simp only[Mn.k] <;> omega
def TupAt (c:Col)(H:Hp)(t:Addr)(xs:List V):Prop:=c t=none/\Rd H t (.tup xs)
theorem TupAt.sq {K:ba}{c:Col}{H:Hp}{t:Addr}{xs:List V}(h:TupAt c H t xs):SqT K H t xs:=.inl h.2
theorem TupAt.step {W:Option (Nat×Rl)->Prop}{c c':Col}{H H':Hp}{t:Addr}{xs:List V}(s:Step W c c' H H')(h:TupAt c H t xs):TupAt c' H' t xs:=by
 obtain⟨n,h⟩:=h;have hn:¬W (c t):=by rw[n];exact s.nn
 rcases h with h | ⟨o,h⟩
 ·exact⟨by rw[s.col t _ h hn];exact n,.inl (s.keep _ _ h hn)⟩
 ·exact⟨by rw[s.col t _ h hn];exact n,.inr ⟨o,s.keep _ _ h hn⟩⟩
def IZ (c:Col)(H:Hp)(p:Addr)(tx:List Str):Prop:=c p=none/\H p=some (.lst (tx.map V.str))
theorem IZ.step {W:Option (Nat×Rl)->Prop}{c c':Col}{H H':Hp}{p:Addr}{tx:List Str}(s:Step W c c' H H')(h:IZ c H p tx):IZ c' H' p tx :=
 have hn:¬W (c p):=by rw[h.1];exact s.nn
 ⟨by rw[s.col p _ h.2 hn];exact h.1,s.keep _ _ h.2 hn⟩
def Mn.Val (c:Col)(H:Hp):Mn->V->Prop
 | .mat tx,v=>∃p,v=.ref p/\IZ c H p tx
 | .chg e,v=>∃t,v=.ref t/\TupAt c H t (iT e)
 | .mnd e,v=>∃t,v=.ref t/\TupAt c H t (iT e)
 | .off n,v=>v=.int n
 | .pnt z,v=>v=.str z
 |_,_=>True
theorem Mn.Val.step {W:Option (Nat×Rl)->Prop}{c c':Col}{H H':Hp}(s:Step W c c' H H'):∀ {m:Mn} {v:V},m.Val c H v->m.Val c' H' v
 | .mat _,_,⟨p,e,h⟩=>⟨p,e,h.step s⟩
 | .chg _,_,⟨t,e,h⟩=>⟨t,e,h.step s⟩
 | .mnd _,_,⟨t,e,h⟩=>⟨t,e,h.step s⟩
 | .off _,_,h=>h
 | .pnt _,_,h=>h
 | .cls,_,_=>trivial
 | .lay,_,_=>trivial
 | .rst,_,_=>trivial
def lT (A:Adr)(c:Col)(H:Hp)(m:Mn)(o:Addr):Prop:=c o=none/\∃dx v,H o=some (.ins (A.C m.k) dx (nQ m.k v))/\m.Val c H v
theorem lT.step {A:Adr}{W:Option (Nat×Rl)->Prop}{c c':Col}{H H':Hp}{m:Mn}{o:Addr}(s:Step W c c' H H')(h:lT A c H m o):lT A c' H' m o:=by
 obtain⟨n,dx,v,h,hv⟩:=h;have hn:¬W (c o):=by rw[n];exact s.nn
 exact⟨by rw[s.col o _ h hn];exact n,dx,v,s.keep _ _ h hn,hv.step s⟩
structure Ch where
 cH:Int
 aq:Int
 closed:Bool
 made:List Mn
 au:List Nat
 aI:List (Nat×Int×List Nat)
 decided:List (Nat×Str)
 firsts:List (Nat×List Str)
 kept:List (Nat×List Ed)
 rows:List Str
def nV (n:Nat):V:=.int (n:Int)
def bc (xs:List (Nat×V)):List (Key×V):=xs.map λp=>(km (p.1:Int),p.2)
inductive bS {α β:Type}(R:α->β->Prop):List α->List β->Prop
 |nil:bS R [] []
 |cons {a b as bs}:R a b->bS R as bs->bS R (a::as) (b::bs)
theorem bS.imp {α β:Type}{R R':α->β->Prop}(f:∀a b,R a b->R' a b):∀ {as:List α} {bs:List β},bS R as bs->bS R' as bs
 |_,_,.nil=>.nil
 |_,_,.cons h t=>.cons (f _ _ h) (t.imp f)
def LstAt (i:Nat)(c:Col)(H:Hp)(r:Rl)(a:Addr)(xs:List V):Prop:=c a=some (i,r)/\H a=some (.lst xs)
def jW (i:Nat)(c:Col)(H:Hp)(r:Rl)(a:Addr)(xs:List (Nat×V)):Prop:=c a=some (i,r)/\H a=some (.dK (bc xs))
def chF (v0 v1 v2 v3 v4 v5 v6 v7 v8 v9:V):List (Str×V):=[(ar "seats",v0),(ar "sitting",v1),(ar "closed",v2),(ar "made",v3),(ar "pile",v4),(ar "aside",v5),(ar "decided",v6),(ar "first_texts",v7),(ar "edits_kept",v8),(ar "rows",v9)]
abbrev Mu (i:Nat)(c:Col)(H:Hp)(x:Nat×Int×List Nat)(v:V):Prop:=∃t p,v=.ref t/\TupAt c H t [.int x.2.1,.ref p]/\LstAt i c H (.lR x.1) p (x.2.2.map nV)
abbrev CD (i:Nat)(c:Col)(H:Hp)(x:Nat×List Str)(v:V):Prop:=∃p,v=.ref p/\LstAt i c H (.lS x.1) p (x.2.map V.str)
abbrev I0 (i:Nat)(c:Col)(H:Hp)(x:Nat×List Ed)(v:V):Prop:=∃p ts,v=.ref p/\LstAt i c H (.qv x.1) p (ts.map V.ref)/\bS (λe t=>TupAt c H t (iT e)) x.2 ts
structure ChX (A:Adr)(i:Nat)(c:Col)(H:Hp)(o:Addr)(st:Ch)(dx aM aP aA aD aF aE aR:Addr)(ms ds:List Addr)(ws fs es:List V):Prop where
 co:c o=some (i,.ob)
 ob:H o=some (.ins A.ao dx (chF (.int st.cH) (.int st.aq) (.bl st.closed) (.ref aM) (.ref aP) (.ref aA) (.ref aD) (.ref aF) (.ref aE) (.ref aR)))
 made:jW i c H .made aM ((aem 1 st.made.length).zip (ms.map V.ref))
 mot:bS (λm p=>lT A c H m p) st.made ms
 au:LstAt i c H .au aP (st.au.map nV)
 aI:jW i c H .aI aA ((st.aI.map (·.1)).zip ws)
 wait:bS (Mu i c H) st.aI ws
 dec:LstAt i c H .decided aD (ds.map V.ref)
 wL:bS (λ(x:Nat×Str) t=>TupAt c H t [nV x.1,.str x.2]) st.decided ds
 firsts:jW i c H .firsts aF ((st.firsts.map (·.1)).zip fs)
 first:bS (CD i c H) st.firsts fs
 jX:jW i c H .kept aE ((st.kept.map (·.1)).zip es)
 kept:bS (I0 i c H) st.kept es
 rows:LstAt i c H .rows aR (st.rows.map V.str)
structure d9 (A:Adr)(i:Nat)(c:Col)(H:Hp)(o:Addr)(st:Ch):Prop where
 ex:∃(dx aM aP aA aD aF aE aR:Addr) (ms ds:List Addr) (ws fs es:List V),ChX A i c H o st dx aM aP aA aD aF aE aR ms ds ws fs es
theorem LstAt.keep {i:Nat}{W:Option (Nat×Rl)->Prop}{c c':Col}{H H':Hp}{r:Rl}{a:Addr}{xs:List V}(n:¬W (some (i,r)))(s:Step W c c' H H')(h:LstAt i c H r a xs):LstAt i c' H' r a xs:=by
 have hn:¬W (c a):=by rw[h.1];exact n
 exact⟨by rw[s.col a _ h.2 hn];exact h.1,s.keep _ _ h.2 hn⟩
theorem jW.keep {i:Nat}{W:Option (Nat×Rl)->Prop}{c c':Col}{H H':Hp}{r:Rl}{a:Addr}{xs:List (Nat×V)}(n:¬W (some (i,r)))(s:Step W c c' H H')(h:jW i c H r a xs):jW i c' H' r a xs:=by
 have hn:¬W (c a):=by rw[h.1];exact n
 exact⟨by rw[s.col a _ h.2 hn];exact h.1,s.keep _ _ h.2 hn⟩
section
variable{A:Adr}{i:Nat}{p:Rl->Bool}{r:Rl}{c c':Col}{H H':Hp}{a o:Addr}
theorem LstAt.kp {xs:List V}(h:p r=false)(s:Step (Wr i p) c c' H H')(z:LstAt i c H r a xs):LstAt i c' H' r a xs:=z.keep (Wr.no h) s
theorem jW.kp {xs:List (Nat×V)}(h:p r=false)(s:Step (Wr i p) c c' H H')(z:jW i c H r a xs):jW i c' H' r a xs:=z.keep (Wr.no h) s
theorem bS.imp_mem {α β:Type}{R R':α->β->Prop}:∀ {as:List α} {bs:List β},(∀a∈as,∀b,R a b->R' a b)->bS R as bs->bS R' as bs
 |_,_,_,.nil=>.nil
 |_,_,f,.cons h t=>.cons (f _ fu _ h) (t.imp_mem λa m b=>f a (ki _ m) b)
theorem qy {as:List Mn}{ms:List Addr}{W:Option (Nat×Rl)->Prop}(s:Step W c c' H H')(z:bS (λm p=>lT A c H m p) as ms):bS (λm p=>lT A c' H' m p) as ms:=z.imp λ_ _ y=>y.step s
theorem qz {as:List (Nat×Str)}{ds:List Addr}{W:Option (Nat×Rl)->Prop}(s:Step W c c' H H')(z:bS (λ(x:Nat×Str) t=>TupAt c H t [nV x.1,.str x.2]) as ds):bS (λ(x:Nat×Str) t=>TupAt c' H' t [nV x.1,.str x.2]) as ds:=z.imp λ_ _ y=>y.step s
theorem rR {as:List (Nat×Int×List Nat)}{ws:List V}(h:∀x∈as,p (.lR x.1)=false)(s:Step (Wr i p) c c' H H')(z:bS (Mu i c H) as ws):bS (Mu i c' H') as ws :=
 z.imp_mem λx m v ⟨t,q,e,z1,z2⟩=>⟨t,q,e,z1.step s,z2.kp (h x m) s⟩
theorem rS {as:List (Nat×List Str)}{ws:List V}(h:∀x∈as,p (.lS x.1)=false)(s:Step (Wr i p) c c' H H')(z:bS (CD i c H) as ws):bS (CD i c' H') as ws :=
 z.imp_mem λx m v ⟨q,e,z2⟩=>⟨q,e,z2.kp (h x m) s⟩
theorem ub {as:List (Nat×List Ed)}{ws:List V}(h:∀x∈as,p (.qv x.1)=false)(s:Step (Wr i p) c c' H H')(z:bS (I0 i c H) as ws):bS (I0 i c' H') as ws :=
 z.imp_mem λx m v ⟨q,ts,e,z2,z3⟩=>⟨q,ts,e,z2.kp (h x m) s,z3.imp λ_ _ y=>y.step s⟩
end
theorem d9.other {A:Adr}{i j:Nat}(n:i≠j){c c':Col}{H H':Hp}{o:Addr}{st:Ch}(s:Step (cB j) c c' H H')(h:d9 A i c H o st):d9 A i c' H' o st:=by
 obtain⟨dx,aM,aP,aA,aD,aF,aE,aR,ms,ds,ws,fs,es,h1,h2,h3,h4,h5,h6,h7,h8,h9,h10,h11,h12,h13,h14⟩:=h.ex;have no:=λr=>oR n r
 have hn:¬cB j (c o):=by rw[h1];exact no _
 refine⟨dx,aM,aP,aA,aD,aF,aE,aR,ms,ds,ws,fs,es,by rw[s.col o _ h2 hn];exact h1,s.keep _ _ h2 hn,h3.keep (no _) s,h4.imp λ_ _ z=>z.step s,h5.keep (no _) s,h6.keep (no _) s,h7.imp ?_,h8.keep (no _) s,h9.imp λ_ _ z=>z.step s,
  h10.keep (no _) s,h11.imp ?_,h12.keep (no _) s,h13.imp ?_,h14.keep (no _) s⟩
 ·rintro x v ⟨t,p,e,z1,z2⟩;exact⟨t,p,e,z1.step s,z2.keep (no _) s⟩
 ·rintro x v ⟨p,e,z⟩;exact⟨p,e,z.keep (no _) s⟩
 ·rintro x v ⟨p,ts,e,z1,z2⟩;exact⟨p,ts,e,z1.keep (no _) s,z2.imp λ_ _ y=>y.step s⟩
end My
set_option maxHeartbeats 1000000
namespace My
open PySem L2
seal PySem.wpAny
section
variable{v0 v1 v2 v3 v4 v5 v6 v7 v8 v9 y:V}
theorem JK:(chF v0 v1 v2 v3 v4 v5 v6 v7 v8 v9).lookup (ar "seats")=some v0:=by simp only[chF,aey,show (ar "seats" == ar "seats")=true from by decide +kernel]
theorem iE:(chF v0 v1 v2 v3 v4 v5 v6 v7 v8 v9).lookup (ar "sitting")=some v1:=by simp only[chF,aey,show (ar "sitting" == ar "seats")=false from by decide +kernel,show (ar "sitting" == ar "sitting")=true from by decide +kernel]
theorem oS:(chF v0 v1 v2 v3 v4 v5 v6 v7 v8 v9).lookup (ar "closed")=some v2:=by simp only[chF,aey,show (ar "closed" == ar "seats")=false from by decide +kernel,show (ar "closed" == ar "sitting")=false from by decide +kernel,show (ar "closed" == ar "closed")=true from by decide +kernel]
theorem g0:(chF v0 v1 v2 v3 v4 v5 v6 v7 v8 v9).lookup (ar "made")=some v3:=by simp only[chF,aey,show (ar "made" == ar "seats")=false from by decide +kernel,show (ar "made" == ar "sitting")=false from by decide +kernel,show (ar "made" == ar "closed")=false from by decide +kernel,show (ar "made" == ar "made")=true from by decide +kernel]
theorem eP:(chF v0 v1 v2 v3 v4 v5 v6 v7 v8 v9).lookup (ar "pile")=some v4:=by simp only[chF,aey,show (ar "pile" == ar "seats")=false from by decide +kernel,show (ar "pile" == ar "sitting")=false from by decide +kernel,show (ar "pile" == ar "closed")=false from by decide +kernel,show (ar "pile" == ar "made")=false from by decide +kernel,show (ar "pile" == ar "pile")=true from by decide +kernel]
theorem js:(chF v0 v1 v2 v3 v4 v5 v6 v7 v8 v9).lookup (ar "aside")=some v5:=by simp only[chF,aey,show (ar "aside" == ar "seats")=false from by decide +kernel,show (ar "aside" == ar "sitting")=false from by decide +kernel,show (ar "aside" == ar "closed")=false from by decide +kernel,show (ar "aside" == ar "made")=false from by decide +kernel,show (ar "aside" == ar "pile")=false from by decide +kernel,show (ar "aside" == ar "aside")=true from by decide +kernel]
theorem vZ:(chF v0 v1 v2 v3 v4 v5 v6 v7 v8 v9).lookup (ar "decided")=some v6:=by simp only[chF,aey,show (ar "decided" == ar "seats")=false from by decide +kernel,show (ar "decided" == ar "sitting")=false from by decide +kernel,show (ar "decided" == ar "closed")=false from by decide +kernel,show (ar "decided" == ar "made")=false from by decide +kernel,show (ar "decided" == ar "pile")=false from by decide +kernel,show (ar "decided" == ar "aside")=false from by decide +kernel,show (ar "decided" == ar "decided")=true from by decide +kernel]
theorem wM:(chF v0 v1 v2 v3 v4 v5 v6 v7 v8 v9).lookup (ar "first_texts")=some v7:=by simp only[chF,aey,show (ar "first_texts" == ar "seats")=false from by decide +kernel,show (ar "first_texts" == ar "sitting")=false from by decide +kernel,show (ar "first_texts" == ar "closed")=false from by decide +kernel,show (ar "first_texts" == ar "made")=false from by decide +kernel,show (ar "first_texts" == ar "pile")=false from by decide +kernel,show (ar "first_texts" == ar "aside")=false from by decide +kernel,show (ar "first_texts" == ar "decided")=false from by decide +kernel,show (ar "first_texts" == ar "first_texts")=true from by decide +kernel]
theorem qA:(chF v0 v1 v2 v3 v4 v5 v6 v7 v8 v9).lookup (ar "edits_kept")=some v8:=by simp only[chF,aey,show (ar "edits_kept" == ar "seats")=false from by decide +kernel,show (ar "edits_kept" == ar "sitting")=false from by decide +kernel,show (ar "edits_kept" == ar "closed")=false from by decide +kernel,show (ar "edits_kept" == ar "made")=false from by decide +kernel,show (ar "edits_kept" == ar "pile")=false from by decide +kernel,show (ar "edits_kept" == ar "aside")=false from by decide +kernel,show (ar "edits_kept" == ar "decided")=false from by decide +kernel,show (ar "edits_kept" == ar "first_texts")=false from by decide +kernel,show (ar "edits_kept" == ar "edits_kept")=true from by decide +kernel]
theorem uc:(chF v0 v1 v2 v3 v4 v5 v6 v7 v8 v9).lookup (ar "rows")=some v9:=by simp only[chF,aey,show (ar "rows" == ar "seats")=false from by decide +kernel,show (ar "rows" == ar "sitting")=false from by decide +kernel,show (ar "rows" == ar "closed")=false from by decide +kernel,show (ar "rows" == ar "made")=false from by decide +kernel,show (ar "rows" == ar "pile")=false from by decide +kernel,show (ar "rows" == ar "aside")=false from by decide +kernel,show (ar "rows" == ar "decided")=false from by decide +kernel,show (ar "rows" == ar "first_texts")=false from by decide +kernel,show (ar "rows" == ar "edits_kept")=false from by decide +kernel,show (ar "rows" == ar "rows")=true from by decide +kernel]
theorem DJ:fZ (ar "sitting") y (chF v0 v1 v2 v3 v4 v5 v6 v7 v8 v9)=chF v0 y v2 v3 v4 v5 v6 v7 v8 v9:=by
 unfold chF;simp only[fZ];rw[if_neg (by decide +kernel),if_pos trivial]
theorem zt:fZ (ar "closed") y (chF v0 v1 v2 v3 v4 v5 v6 v7 v8 v9)=chF v0 v1 y v3 v4 v5 v6 v7 v8 v9:=by
 unfold chF;simp only[fZ];rw[if_neg (by decide +kernel),if_neg (by decide +kernel),if_pos trivial]
theorem DK:fZ (ar "pile") y (chF v0 v1 v2 v3 v4 v5 v6 v7 v8 v9)=chF v0 v1 v2 v3 y v5 v6 v7 v8 v9:=by
 unfold chF;simp only[fZ];rw[if_neg (by decide +kernel),if_neg (by decide +kernel),if_neg (by decide +kernel),if_neg (by decide +kernel),if_pos trivial]
end
def vi (A:Adr)(i:Nat):Sp:=λvs H Q E=>∃(o:Addr) (c:Col) (st:Ch),vs=[.ref o]/\d9 A i c H o st/\(st.au≠[]->Q .non H)/\(st.au=[]->E (.ref A.rn) none H)
section
variable{P:ku}{w:World}{K:ba}{mg:Str->Option Value}{base:Heap}{A:Adr}
theorem lU (T:Txt w.params K mg A){i:Nat}:ay P w K mg base (CXX P w) 1 A.aT A.bW ["self"] (vi A i):=by
 refine T.b6.okX lE (λvs H Q E h=>?_) (λcdv A' outer s H vs Q E hr h=>?_)
 ·obtain⟨o,c,st,rfl,_⟩:=h;rfl
 ·obtain⟨o,c,st,rfl,hc,q1,q2⟩:=h;obtain⟨dx,aM,aP,aA,aD,aF,aE,aR,ms,ds,ws,fs,es,h1,h2,h3,h4,h5,h6,h7,h8,h9,h10,h11,h12,h13,h14⟩:=hc.ex;refine⟨_,(bC (i9 (uJ (pZ (aZ (pv 0) rfl) (λ_=>rfl)))
 (bC (ja T.ze rfl rfl T.Bf (aa az ah)))
 (yD aQ))),?_⟩
  refine eT rfl h2 T.ag T.jq0 eP ?_;refine⟨_,.inl ⟨_,.inl (.inl h5.2),rfl⟩,?_⟩;cases e:st.au with
  |nil=>exact pM ⟨by decide,q2 e⟩
  |cons x r=>exact gf (q1 (by rw[e];exact aeC _ _))
end
end My
set_option maxHeartbeats 1000000
namespace My
open PySem L2
seal PySem.wpAny
theorem bS.len {α β:Type}{R:α->β->Prop}:∀ {as:List α} {bs:List β},bS R as bs->as.length=bs.length
 |_,_,.nil=>rfl
 |_,_,.cons _ t=>by rw[tm,tm,t.len]
theorem bS.get {α β:Type}{R:α->β->Prop}:∀ {as:List α} {bs:List β} {i:Nat} {a:α},bS R as bs->as[i]?=some a->∃b,bs[i]?=some b/\R a b
 |_,_,_,_,.nil,h=>by simp at h
 |_,_,0,_,.cons h t,e=>by
  rw[aeF]at e;cases e;exact⟨_,aeF,h⟩
 |_,_,i+1,_,.cons h t,e=>by
  rw[ae1]at e;obtain⟨b,e1,e2⟩:=t.get e;exact⟨b,by rw[ae1];exact e1,e2⟩
theorem zv:∀(ms:List Addr) (s k:Nat) {o:Addr},ms[k]?=some o->jO (bc ((aem s ms.length).zip (ms.map V.ref))) (km ((s+k:Nat):Int))=some (.ref o)
 |[],_,_,_,h=>by simp at h
 |m::ms,s,0,o,h=>by
  rw[aeF]at h;cases h;exact lD (p:=(km ((s:Nat):Int),V.ref m)) rfl
 |m::ms,s,k+1,o,h=>by
  rw[ae1]at h;have ih:=zv ms (s+1) k h;have e:s+(k+1)=s+1+k:=by omega
  rw[e];refine(iK (p:=(km ((s:Nat):Int),V.ref m)) ?_).trans ih;intro z;have z':((s:Nat):Int)=((s+1+k:Nat):Int):=Sum.inl.inj z;omega
def Ch.mo (st:Ch)(n:Nat):Mn:=st.made.getD (n - 1) .cls
def fA (st:Ch)(n:Nat):Prop:=1<=n/\n<=st.made.length
def vj (A:Adr)(i:Nat):Sp:=λvs H Q _=>∃(o:Addr) (c:Col) (st:Ch),vs=[.ref o]/\d9 A i c H o st/\(∀n∈st.au,fA st n)/\st.au.length<=1000 /\
 ∀R os,H R=none->bS (λn m=>lT A c H (st.mo n) m) st.au os->Q (.ref R) (upd H R (.lst (os.map V.ref)))
theorem I9 {A:Adr}{c:Col}{H:Hp}{st:Ch}{ms:List Addr}(h:bS (λm p=>lT A c H m p) st.made ms):∀(ns:List Nat),(∀n∈ns,fA st n)->bS (λn m=>lT A c H (st.mo n) m) ns (ns.map λn=>ms.getD (n - 1) 0)
 |[],_=>.nil
 |n::ns,g=>by
  have hn:=g n fu;have hlt:n - 1 < st.made.length:=by have:=hn.1;have:=hn.2;omega
  obtain⟨b,e1,e2⟩:=h.get (ad5 hlt);refine .cons ?_ (I9 h ns λn hn=>g n (ki _ hn))
  have e3:st.mo n=st.made[n - 1]:=by unfold Ch.mo;rw[wt,ad5 hlt];rfl
  have e4:ms.getD (n - 1) 0=b:=by rw[wt,e1];rfl
  show lT A c H (st.mo n) (ms.getD (n - 1) 0);rw[e3,e4];exact e2
section
variable{P:ku}{w:World}{K:ba}{mg:Str->Option Value}{base:Heap}{A:Adr}
theorem zw (T:Txt w.params K mg A){i:Nat}:ay P w K mg base CX0 1 A.bB A.dC ["self"] (vj A i):=by
 refine T.d4.ok r9 (λvs H Q E h=>?_) (λcdv A' outer s H vs Q E hr h=>?_)
 ·obtain⟨o,c,st,rfl,_⟩:=h;rfl
 ·obtain⟨o,c,st,rfl,hc,hp,hpl,q⟩:=h;obtain⟨dx,aM,aP,aA,aD,aF,aE,aR,ms,ds,ws,fs,es,h1,h2,h3,h4,h5,h6,h7,h8,h9,h10,h11,h12,h13,h14⟩:=hc.ex;have hu1:=hr.u1;refine⟨_,(aj (aL (tH (scope:=i4) qc rfl (mr (aZ (pv 0) rfl)) (λ_ _ _ _ _=>(mz hu1 (OB (K:=K) rfl (pv 1) rfl) (pv 0) (λ_ _=>rfl)))))),?_⟩
  have ml:=h4.len;refine eT rfl h2 T.ag T.jq0 eP ?_;have hB:SqL K H aP (st.au.map nV):=SqL.of h5.2;refine⟨aP,rfl,⟨_,hB⟩,λR hR=>?_⟩
  have sR:∀ {o:HO},bJ H (upd H R o):=aK hR;refine rb (K:=K) (a:=aP) (xs:=st.au.map nV) (λi ys H2=>ys=((st.au.take i).map λn=>V.ref (ms.getD (n - 1) 0))/\H2=upd H R (.lst ys)) ⟨rfl,rfl⟩ (by rw[cb,sizeLine_eq];omega) ?_ ?_ ?_
  ·rintro i ys H2 hi ⟨rfl,rfl⟩;rw[cb]at hi;exact⟨sR.seq hB,ae,by rw[cb,aeu];omega⟩
  ·rintro i y ys H2 hy ⟨rfl,rfl⟩;refine hide λGg hGg=>?_
   obtain⟨n,hn1,rfl⟩:∃n,st.au[i]?=some n/\nV n=y:=by
    rw[aeD]at hy;cases ht:st.au[i]? with
    |none=>rw[ht]at hy;cases hy
    |some t=>rw[ht]at hy;exact⟨t,rfl,ad8 hy⟩
   have hn:=hp n (aei hn1);have hlt:n - 1 < ms.length:=by have:=hn.1;have:=hn.2;omega
   have hm:ms[n - 1]?=some (ms.getD (n - 1) 0):=by rw[wt,ad5 hlt];rfl
   have hv:=zv ms 1 (n - 1) hm;rw[<-ml,show 1+(n - 1)=n by have:=hn.1;omega]at hv
   refine hGg ?_;refine eT rfl (sR _ _ h2) T.ag T.jq2 g0 ?_;refine⟨_,rfl,aM,_,rfl,.inl ⟨_,km (n:Int),.inl (sR _ _ h3.2),rfl,hv.symm⟩,?_⟩;refine gg.mk (List.getElem?_eq_some_iff.mp hy).1 ae ⟨?_,by rw[mq]⟩
   rw[List.take_succ,hn1,ky];rfl
  ·rintro ys H2 ⟨rfl,rfl⟩;rw[cb,afh];have:=q R _ hR (I9 h4 st.au hp);rw[List.map_map]at this;exact this
end
end My
set_option maxHeartbeats 1000000
namespace My
open PySem L2
seal PySem.wpAny
theorem bS.snoc {α β:Type}{R:α->β->Prop}:∀ {as:List α} {bs:List β} {a:α} {b:β},bS R as bs->R a b->bS R (as++[a]) (bs++[b])
 |_,_,_,_,.nil,h=>.cons h .nil
 |_,_,_,_,.cons g t,h=>.cons g (t.snoc h)
def zx (A:Adr)(i:Nat):Sp:=λvs H Q _=>∃(o:Addr) (wd:Str) (c:Col) (st:Ch) (pre:List Nat) (n:Nat),vs=[.ref o,.str wd]/\d9 A i c H o st/\st.au=pre++[n]/\st.au.length<=1000/\st.decided.length<=1000 /\
 ∀c' H',Step (cB i) c c' H H'->d9 A i c' H' o { st with au:=pre,decided:=st.decided++[(n,wd)] }->Q .non H'
section
variable{P:ku}{w:World}{K:ba}{mg:Str->Option Value}{base:Heap}{A:Adr}
theorem Bm (T:Txt w.params K mg A){i:Nat}:ay P w K mg base CX0 1 A.bE A.dY ["self","word"] (zx A i):=by
 refine T.eN.ok tM (λvs H Q E h=>?_) (λcdv A' outer s H vs Q E hr h=>?_)
 ·obtain⟨o,wd,c,st,pre,n,rfl,_⟩:=h;rfl
 ·obtain⟨o,wd,c,st,pre,n,rfl,hc,hp,hpl,hdl,q⟩:=h;obtain⟨dx,aM,aP,aA,aD,aF,aE,aR,ms,ds,ws,fs,es,h1,h2,h3,h4,h5,h6,h7,h8,h9,h10,h11,h12,h13,h14⟩:=hc.ex;refine⟨_,(aj (a6 (lA ad2 aeq aer gD (aZ (pv 0) rfl) (aa (bH (aa (Rt ad2 PySem.F.slot_list_pop PySem.F.type_list_pop Rv (aZ (pv 0) rfl)) (aa (pv 1) ah))) ah)))),?_⟩;refine eT rfl h2 T.ag T.jqc vZ ?_;have hy:(st.au.map nV)[(st.au.map nV).length - 1]?=some (nV n):=by rw[hp];simp
  have hdr:(st.au.map nV).dropLast=pre.map nV:=by rw[hp,ky];simp
  have nPD:aD≠aP:=λz=>by have:=h8.1;rw[z,h5.1]at this;cases this
  refine⟨.inl ⟨rfl,_,SqL.of h8.2⟩,eT rfl h2 T.ag T.jq0 eP ?_⟩;refine⟨.inl ⟨rfl,_,SqL.of h5.2⟩,aP,_,_,rfl,rfl,h5.2,hy,_,rfl,(sl 2),λp hp0=>?_⟩
  have np:∀ {a:Addr} {v:HO},H a=some v->a≠p:=by
   intro a v e z;subst z
   by_cases y:a=aP
   ·subst y;rw[ae]at hp0;cases hp0
   ·rw[aw y,e]at hp0;cases hp0
  have nn:¬(λx=>x=some (i,Rl.au)\/x=some (i,Rl.decided)) (none:Option (Nat×Rl)):=by rintro (z | z) <;> cases z
  refine⟨aD,_,_,rfl,rfl,(aw (np h8.2)).trans ((aw nPD).trans h8.2),?_,?_⟩
  ·rw[cb,<-h9.len,sizeLine_eq];omega
  have sp:Step (λx=>x=some (i,Rl.au)\/x=some (i,Rl.decided)) c (aH c p none) H (upd (upd (upd H aP (.lst (st.au.map nV).dropLast)) p (.tup [nV n,.str wd])) aD (.lst (ds.map V.ref++[.ref p]))) :=
   ((Step.upd nn (.inl h5.1)).trans (Step.new nn hp0)).trans (Step.upd nn (.inr (by rw[ax (np h8.2)];exact h8.1)))
  have ht:TupAt (aH c p none) (upd (upd (upd H aP (.lst (st.au.map nV).dropLast)) p (.tup [nV n,.str wd])) aD (.lst (ds.map V.ref++[.ref p]))) p [nV n,.str wd] :=
   ⟨a7,.inl ((aw (np h8.2).symm).trans ae)⟩
  have kp:LstAt i (aH c p none) (upd (upd (upd H aP (.lst (st.au.map nV).dropLast)) p (.tup [nV n,.str wd])) aD (.lst (ds.map V.ref++[.ref p]))) .au aP (pre.map nV) :=
   ⟨by rw[ax (np h5.2)];exact h5.1,by rw[aw nPD.symm,aw (np h5.2),ae,hdr]⟩
  have kd:LstAt i (aH c p none) (upd (upd (upd H aP (.lst (st.au.map nV).dropLast)) p (.tup [nV n,.str wd])) aD (.lst (ds.map V.ref++[.ref p]))) .decided aD ((ds++[p]).map V.ref) :=
   ⟨by rw[ax (np h8.2)];exact h8.1,by rw[ae,ky];rfl⟩
  generalize upd (upd (upd H aP (.lst (st.au.map nV).dropLast)) p (.tup [nV n,.str wd])) aD (.lst (ds.map V.ref++[.ref p]))=H' at sp ht kp kd ⊢;generalize aH c p none=c' at sp ht kp kd;have no:∀r,r≠Rl.au->r≠Rl.decided->¬(λx=>x=some (i,Rl.au)\/x=some (i,Rl.decided)) (some (i,r)):=λr y1 y2=>by
   rintro (z | z)
   ·cases z;exact y1 rfl
   ·cases z;exact y2 rfl
  have hno:=no .ob (λz=>nomatch z) (λz=>nomatch z)
  refine q c' H' (sp.mono (by rintro x (z | z) <;> exact⟨_,z⟩) av) ⟨dx,aM,aP,aA,aD,aF,aE,aR,ms,ds++[p],ws,fs,es,by rw[sp.col o _ h2 (by rw[h1];exact hno)];exact h1,sp.keep _ _ h2 (by rw[h1];exact hno),
   h3.keep (no .made (λz=>nomatch z) (λz=>nomatch z)) sp,h4.imp λ_ _ z=>z.step sp,kp,h6.keep (no .aI (λz=>nomatch z) (λz=>nomatch z)) sp,h7.imp ?_,kd,(h9.imp λ_ _ z=>z.step sp).snoc ht,
   h10.keep (no .firsts (λz=>nomatch z) (λz=>nomatch z)) sp,h11.imp ?_,h12.keep (no .kept (λz=>nomatch z) (λz=>nomatch z)) sp,h13.imp ?_,h14.keep (no .rows (λz=>nomatch z) (λz=>nomatch z)) sp⟩
  ·rintro x v ⟨t,a,e,z1,z2⟩;exact⟨t,a,e,z1.step sp,z2.keep (no (.lR x.1) (λz=>nomatch z) (λz=>nomatch z)) sp⟩
  ·rintro x v ⟨a,e,z⟩;exact⟨a,e,z.keep (no (.lS x.1) (λz=>nomatch z) (λz=>nomatch z)) sp⟩
  ·rintro x v ⟨a,ts,e,z1,z2⟩;exact⟨a,ts,e,z1.keep (no (.qv x.1) (λz=>nomatch z) (λz=>nomatch z)) sp,z2.imp λ_ _ y=>y.step sp⟩
end
end My
set_option maxHeartbeats 1000000
namespace My
open PySem L2
seal PySem.wpAny
inductive Xc where
 |qB (b:Int) | DL | noChange | noFit | ud (n:Int) | nothing | tooMany | yk | vk (n:Int) | Mv
def Xc.At (A:Adr)(H:Hp):Xc->Value->Option Addr->Prop
 | .qB b,C,d=>C=.ref A.fv/\∃a,d=some a/\H a=some (.xd [(ar "bar",.int b)])
 | .DL,C,d=>C=.ref A.sf/\d=none
 | .noChange,C,d=>C=.ref A.sg/\d=none
 | .noFit,C,d=>C=.ref A.tP/\d=none
 | .ud n,C,d=>C=.ref A.jh/\∃a,d=some a/\H a=some (.xd [(ar "sitting",.int n)])
 | .nothing,C,d=>C=.ref A.rn/\d=none
 | .tooMany,C,d=>C=.ref A.uV/\d=none
 | .yk,C,d=>C=.ref A.ji/\d=none
 | .vk n,C,d=>C=.ref A.gi/\∃a,d=some a/\H a=some (.xd [(ar "sitting",.int n)])
 | .Mv,C,d=>C=.ref A.sv/\d=none
def Xc.New (A:Adr)(H H':Hp)(x:Xc)(C:Value)(d:Option Addr):Prop:=x.At A H' C d/\∀a,d=some a->H a=none
theorem same_none {H H':Hp}(s:bJ H H'){a:Addr}(h:H' a=none):H a=none:=by
 cases z:H a with
 |none=>rfl
 |some v=>rw[s _ _ z]at h;cases h
theorem rC {i:Int}(h0:-10000000000 < i)(h1:i < 10000000000):i.natAbs.log2 < 1920:=by
 have h:i.natAbs < 2 ^ 34:=by
  have:(10000000000:Int)<=2 ^ 34:=by decide
  omega
 by_cases hz:i.natAbs=0
 ·rw[hz];decide
 ·exact Nat.lt_trans ((Nat.log2_lt hz).mpr h) (by decide)
theorem Bn {i:Int}(h0:0<=i)(h1:i < 10000000000):(ar (toString i)).length<=20 :=
 om (PyProof.Rows.toString_length_le h0 (by decide:(1:Nat)<=11) (by show i < (10:Int) ^ 11;omega)) (by decide)
theorem nU {i:Int}(h0:0<=i)(h1:i < 10000000000):∃z,B0 (.int i) z/\z.length<=10000 :=
 ⟨_,.int (rC (by omega) h1),om (Bn h0 h1) (by decide)⟩
def kW (ms:List Mn):Int:=match ms.getLast? with
 |none=>-1
 |some m=>(m.k:Int)
def sD (cl:Bool)(ms:List Mn):Int:=if cl=true then (if (4:Int) > kW ms then 4 else kW ms) else kW ms
def CF (ms:List Mn):Bool:=ms.any λm=>decide (m.k=0)
def mO (ms:List Mn):Bool:=match ms.getLast? with
 |some (.chg e)=>!decide (e.k=1)
 |_=>false
def wb (ms:List Mn)(k:Nat):Bool:=if k=2 then mO ms else if k=1\/k=3\/k=4\/k=5 then CF ms else true
def qC (cl:Bool)(ms:List Mn)(k:Nat):Option Xc :=
 if (k:Int)<=sD cl ms then some (.qB (sD cl ms)) else if wb ms k=true then none else if CF ms=true then some .noChange else some .DL
theorem Mw (ms:List Mn):-1<=kW ms/\kW ms < 8:=by
 unfold kW;split
 ·omega
 ·rename_i m _;have:=m.k8;omega
theorem zy (cl:Bool)(ms:List Mn):-1<=sD cl ms/\sD cl ms < 8:=by
 have:=Mw ms;unfold sD;split
 ·split <;> omega
 ·omega
def ue (A:Adr)(K:ba)(c:Col)(H:Hp)(B:Addr)(ms:List Mn)(os:List Addr):Prop:=SqL K H B (os.map V.ref)/\bS (λm p=>lT A c H m p) ms os
theorem lT.same {A:Adr}{c:Col}{H H':Hp}{m:Mn}{o:Addr}(s:bJ H H')(h:lT A c H m o):lT A c H' m o:=h.step (Step.same (W:=λ_=>False) id s)
theorem ue.same {A:Adr}{K:ba}{c:Col}{H H':Hp}{B:Addr}{ms:List Mn}{os:List Addr}(s:bJ H H')(h:ue A K c H B ms os):ue A K c H' B ms os:=⟨s.seq h.1,h.2.imp λ_ _ y=>y.same s⟩
def Mx (A:Adr)(K:ba):Sp:=λvs H Q _=>∃(B:Addr) (cl:Bool) (c:Col) (ms:List Mn) (os:List Addr),vs=[.ref B,.bl cl]/\ue A K c H B ms os/\Q (.int (sD cl ms)) H
def Mz (A:Adr)(K:ba):Sp:=λvs H Q _=>∃(B:Addr) (c:Col) (ms:List Mn) (os:List Addr),vs=[.ref B]/\ue A K c H B ms os/\ms.length<=1000/\∀H',bJ H H'->Q (.bl (CF ms)) H'
def MA (A:Adr)(K:ba):Sp:=λvs H Q _=>∃(B:Addr) (c:Col) (ms:List Mn) (os:List Addr),vs=[.ref B]/\ue A K c H B ms os/\∀H',bJ H H'->Q (.bl (mO ms)) H'
def Ja (A:Adr)(K:ba):Sp:=λvs H Q _=>∃(k:Nat) (B:Addr) (c:Col) (ms:List Mn) (os:List Addr),vs=[.str (nm k),.ref B]/\k < 8/\ue A K c H B ms os/\ms.length<=1000/\∀H',bJ H H'->Q (.bl (wb ms k)) H'
def P6 (A:Adr)(K:ba):Sp:=λvs H Q E=>∃(k:Nat) (B:Addr) (cl:Bool) (c:Col) (ms:List Mn) (os:List Addr),vs=[.str (nm k),.ref B,.bl cl]/\k < 8/\ue A K c H B ms os/\ms.length<=1000 /\
 (qC cl ms k=none->∀H',bJ H H'->Q .non H')/\∀x,qC cl ms k=some x->∀C d H',bJ H H'->x.New A H H' C d->E C d H'
def CG (A:Adr)(K:ba)(k:Nat):Sp:=λvs H Q E=>(k=0/\IP A K vs H Q E)\/GD A k vs H Q E
theorem zz (pre:List Addr)(q:Addr):atI ((pre++[q]).map V.ref) (-1)=some (.ref q):=by
 rw[ky];exact yy _ _
theorem GG:∀k,k < 8->decide (V.str (nm k)=V.str (ar "matter"))=decide (k=0):=by decide +kernel
theorem fW:∀k,k < 8->decide (V.str (nm k)=V.str (ar "change"))=decide (k=1):=by decide +kernel
theorem ie:∀k,k < 8->decide (V.str (nm k)=V.str (ar "mend"))=decide (k=2):=by decide +kernel
theorem kA:∀k,k < 8->decide (V.str (nm k)=V.str (ar "put off"))=decide (k=3):=by decide +kernel
theorem zA:∀k,k < 8->decide (V.str (nm k)=V.str (ar "close"))=decide (k=4):=by decide +kernel
theorem CH:∀k,k < 8->decide (V.str (nm k)=V.str (ar "lay"))=decide (k=5):=by decide +kernel
theorem GH:∀k,k < 8->decide (V.str (nm k)=V.str (ar "rest"))=decide (k=6):=by decide +kernel
theorem CI:∀ {k:Nat} {v:V},atI (rowOf k v) 0=some (.str (nm k))
 | 0,_=>rfl
 | 1,_=>rfl
 | 2,_=>rfl
 | 3,_=>rfl
 | 4,_=>rfl
 | 5,_=>rfl
 | 6,_=>rfl
 | 7,_=>rfl
 |_+8,_=>rfl
theorem OQ:∀k,decide (V.str (kn k)=V.str (ar "cut"))=decide (k=1)
 | 0=>by decide +kernel
 | 1=>by decide +kernel
 |n+2=>by rw[decide_eq_false (show ¬n+2=1 by omega)];show decide (V.str (ar "turn")=_)=_;decide +kernel
theorem bS.last {α β:Type}{R:α->β->Prop}{as:List α}{pre:List β}{b:β}(h:bS R as (pre++[b])):∃as' a,as=as'++[a]/\bS R as' pre/\R a b:=by
 induction pre generalizing as with
 |nil =>
  cases h with
  |cons h t=>cases t;exact⟨[],_,rfl,.nil,h⟩
 |cons x r ih =>
  cases h with
  |cons h t =>
   obtain⟨as',a,rfl,h1,h2⟩:=ih t;exact⟨_::as',a,rfl,.cons h h1,h2⟩
theorem rD (ms:List Mn)(m:Mn):kW (ms++[m])=(m.k:Int):=by unfold kW;rw[aeG]
section
variable{P:ku}{w:World}{K:ba}{mg:Str->Option Value}{base:Heap}{A:Adr}
theorem wc (T:Txt w.params K mg A):ay P w K mg base CX0 1 A.qi A.nL ["self","bar"] (Ag A.fv "bar"):=by
 refine T.lN.ok yT (λvs H Q E h=>?_) (λcdv A' outer s H vs Q E hr h=>?_)
 ·obtain⟨e,v,rfl,_⟩:=h;rfl
 ·obtain⟨e,v,rfl,hx,⟨z,fz,zl⟩,q⟩:=h;refine⟨_,(ai (a6 (yG T.hX T.nO rfl T.iR (aa (pv 0) (aa (AV (lC (uQ (pv 1) uP))) ah))))
 (aj (B3 T.nO (pv 0) (pv 1)))),?_⟩
  have sz:gp=16777216:=by decide
  have c5:(ar "barred by the bar ").length=18:=by decide +kernel
  have e5:(ael++ar "barred by the bar ":Str).length=18:=by decide +kernel
  refine⟨_,rfl,by rw[e5];omega,_,rfl,z,fz,by omega,by rw[len_app,e5];omega,by rw[len_app,e5];omega,e,_,rfl,hx,?_⟩
  exact⟨_,rfl,_,rfl,e,rfl,hx,λd hd=>q d hd⟩
theorem As (T:Txt w.params K mg A):ay P w K mg base CX0 1 A.oH A.mB ["self","sitting"] (Ag A.jh "sitting"):=by
 refine T.iS.ok uR (λvs H Q E h=>?_) (λcdv A' outer s H vs Q E hr h=>?_)
 ·obtain⟨e,v,rfl,_⟩:=h;rfl
 ·obtain⟨e,v,rfl,hx,⟨z,fz,zl⟩,q⟩:=h;refine⟨_,(ai (a6 (yG T.hX T.mG rfl T.iR (aa (pv 0) (aa (AV (lC (uQ (pv 1) uP))) ah))))
 (aj (B3 T.mG (pv 0) (pv 1)))),?_⟩
  have sz:gp=16777216:=by decide
  have c5:(ar "not later than the sitting ").length=27:=by decide +kernel
  have e5:(ael++ar "not later than the sitting ":Str).length=27:=by decide +kernel
  refine⟨_,rfl,by rw[e5];omega,_,rfl,z,fz,by omega,by rw[len_app,e5];omega,by rw[len_app,e5];omega,e,_,rfl,hx,?_⟩
  exact⟨_,rfl,_,rfl,e,rfl,hx,λd hd=>q d hd⟩
theorem DM (T:Txt w.params K mg A):ay P w K mg base CX0 1 A.tQ A.rp ["self","sitting"] (Ag A.gi "sitting"):=by
 refine T.lP.ok yU (λvs H Q E h=>?_) (λcdv A' outer s H vs Q E hr h=>?_)
 ·obtain⟨e,v,rfl,_⟩:=h;rfl
 ·obtain⟨e,v,rfl,hx,⟨z,fz,zl⟩,q⟩:=h;refine⟨_,(ai (a6 (yG T.hX T.rB rfl T.iR (aa (pv 0) (aa (AV (lC (uQ (pv 1) uP))) ah))))
 (aj (B3 T.rB (pv 0) (pv 1)))),?_⟩
  have sz:gp=16777216:=by decide
  have c5:(ar "aside until the sitting ").length=24:=by decide +kernel
  have e5:(ael++ar "aside until the sitting ":Str).length=24:=by decide +kernel
  refine⟨_,rfl,by rw[e5];omega,_,rfl,z,fz,by omega,by rw[len_app,e5];omega,by rw[len_app,e5];omega,e,_,rfl,hx,?_⟩
  exact⟨_,rfl,_,rfl,e,rfl,hx,λd hd=>q d hd⟩
theorem DN (T:Txt w.params K mg A):∀k,k < 8->ay P w K mg base CX0 2 (A.ft k) (A.ftd k) ["self"] (CG A K k)
 | 0,_=>(Mm T).imp λvs H Q E h=>h.elim (λz=>z.2) (λz=>absurd z.1 (by decide))
 | 1,h=>(oM T 1 h).imp λvs H Q E h=>h.elim (λz=>absurd z.1 (by decide)) id
 | 2,h=>(oM T 2 h).imp λvs H Q E h=>h.elim (λz=>absurd z.1 (by decide)) id
 | 3,h=>(oM T 3 h).imp λvs H Q E h=>h.elim (λz=>absurd z.1 (by decide)) id
 | 4,h=>(oM T 4 h).imp λvs H Q E h=>h.elim (λz=>absurd z.1 (by decide)) id
 | 5,h=>(oM T 5 h).imp λvs H Q E h=>h.elim (λz=>absurd z.1 (by decide)) id
 | 6,h=>(oM T 6 h).imp λvs H Q E h=>h.elim (λz=>absurd z.1 (by decide)) id
 | 7,h=>(oM T 7 h).imp λvs H Q E h=>h.elim (λz=>absurd z.1 (by decide)) id
 |n+8,h=>absurd h (by omega)
theorem Bo (T:Txt w.params K mg A):ay P w K mg base CX0 3 A.yX A.nI ["pile","closed"] (Mx A K):=by
 have Sk:∀k,k < 8->ay P w K mg base CX0 2 A.f_r A.OD ["self"] (Mj A):=λ_ _=>OM T
 refine T.tR.ok A0 (λvs H Q E h=>?_) (λcdv A' outer s H vs Q E hr h=>?_)
 ·obtain⟨B,cl,c,ms,os,rfl,_⟩:=h;rfl
 ·obtain⟨B,cl,c,ms,os,rfl,⟨hB,ho⟩,q⟩:=h;have OR:=hr;refine⟨_,(ai (bh (i:=2) A0.nd rfl (aec rfl) (C6 (pZ (pv 0) (λ_=>rfl)) (kZ (n:=8) (Cf:=A.C) (bp iH (pv 0) (AF uL ak) (λ_ _=>rfl)) T.cl T.Mc Sk OR T.Md aV) (AF uL ak)))
 (ai (bI (rZ (pv 1))
 (aj (aL (nr (Ju rfl) (by rfl) T.P2 RA (aa (pv 2) (aa (BI (v:=V.int 4) rfl T.tT ⟨_,rfl⟩) ah)))))
 aQ)
 (aj (aL (pv 2))))),?_⟩
  unfold sD at q;rcases aej os with h | ⟨pre,o,h⟩
  ·subst h;cases ho;refine⟨_,rfl,_,.inl ⟨_,hB,rfl⟩,gf ⟨_,rfl,?_⟩⟩;refine⟨_,rfl,_,rfl,?_⟩;cases cl with
   |true=>exact pM ⟨_,rfl,_,_,rfl,q⟩
   |false=>exact gf ⟨_,rfl,q⟩
  ·rw[aek]at h;refine hide λGg hGg=>?_
   subst h;obtain⟨ms',m,rfl,_,_,dx,v,hm,_⟩:=ho.last;rw[rD]at q;refine hGg ?_;refine⟨_,rfl,_,.inl ⟨_,hB,rfl⟩,AO (by simp) ⟨_,rfl,_,rfl,B,_,_,_,rfl,rfl,hB,zz pre o,m.k,m.k8,o,dx,_,rfl,hm,OK m.k v,o,m.k,dx,_,m.k8,rfl,hm,kS m.k v,?_⟩⟩
   refine⟨_,rfl,_,rfl,?_⟩;cases cl with
   |true=>exact pM ⟨_,rfl,_,_,rfl,q⟩
   |false=>exact gf ⟨_,rfl,q⟩
theorem rT (T:Txt w.params K mg A):ay P w K mg base CX0 2 A.lI A.gW ["pile"] (Mz A K):=by
 have gw:∀k,k < 8->ay P w K mg base CX0 1 (A.fk k) (A.fkd k) ["self"] (fV k):=kT T;refine T.kQ.ok Am (λvs H Q E h=>?_) (λcdv A' outer s H vs Q E hr h=>?_)
 ·obtain⟨B,c,ms,os,rfl,_⟩:=h;rfl
 ·obtain⟨B,c,ms,os,rfl,⟨hB,ho⟩,hl,q⟩:=h;have d7:=hr;refine⟨_,(aj (aL (nr (Li rfl) (by rfl) T.P4 RB (aa (tH (scope:=nB) wD rfl (mr (pv 0)) (λ_ _ _ _ _=>(oo bY (kZ (n:=8) (Cf:=A.C) (pv 0) T.cl T.mL gw d7 T.mM aV) az (aS _)))) ah)))),?_⟩
  have lim:gp=16777216:=by decide
  have ol:=ho.len;refine⟨_,rfl,B,rfl,⟨_,hB⟩,λR hR=>?_⟩
  have sR:∀ {o:HO},bJ H (upd H R o):=aK hR;refine rb (K:=K) (a:=B) (xs:=os.map V.ref) (λi ys H2=>ys=(ms.take i).map (λm=>V.bl (decide (m.k=0)))/\H2=upd H R (.lst ys)) ⟨rfl,rfl⟩ (by rw[cb];omega) ?_ ?_ ?_
  ·rintro i ys H2 hi ⟨rfl,rfl⟩;rw[cb]at hi;exact⟨sR.seq hB,ae,by rw[cb,aeu];omega⟩
  ·rintro i y ys H2 hy ⟨rfl,rfl⟩;refine hide λGg hGg=>?_
   have hi:i < ms.length:=by have:=(List.getElem?_eq_some_iff.mp hy).1;rw[cb]at this;omega
   obtain⟨o,ho1,_,dx,v,ho2,_⟩:=ho.get (ad5 hi);rw[aeD,ho1]at hy;cases hy;refine hGg ?_;refine⟨_,rfl,ms[i].k,ms[i].k8,o,dx,_,rfl,sR _ _ ho2,kS _ v,o,rfl,rfl,?_⟩;rw[GG _ ms[i].k8];refine gg.mk (by rw[cb];omega) ae ⟨?_,by rw[mq]⟩
   rw[List.take_succ,ad5 hi,ky];rfl
  ·rintro ys H2 ⟨rfl,rfl⟩;rw[cb,<-ol,afh];refine⟨R,ms.map (λm=>decide (m.k=0)),rfl,SqL.of (by rw[ae,List.map_map];rfl),?_⟩
   rw[List.any_map];exact q _ sR
theorem vm (T:Txt w.params K mg A):ay P w K mg base CX0 3 A.jH A.gL ["pile"] (MA A K):=by
 have GI:∀k,k < 8->ay P w K mg base CX0 2 (A.ft k) (A.ftd k) ["self"] (CG A K k):=DN T;refine T.j9.ok nC (λvs H Q E h=>?_) (λcdv A' outer s H vs Q E hr h=>?_)
 ·obtain⟨B,c,ms,os,rfl,_⟩:=h;rfl
 ·obtain⟨B,c,ms,os,rfl,⟨hB,ho⟩,q⟩:=h;have CJ:=hr;refine⟨_,(ai (bI (uJ (pZ (pv 0) (λ_=>rfl)))
 (aj (aL pY))
 aQ)
 (ai (bh (i:=1) nC.nd rfl (aec rfl) (kZ (n:=8) (Cf:=A.C) (bp iH (pv 0) (AF uL ak) (λ_ _=>rfl)) T.cl T.Gy GI CJ T.Gz aV))
 (aj (aL (Q6 (oo bY (bp bf (pv 1) ak (λ_ _=>rfl)) az (aS _)) (KJ (oo PF (bp bf (bp bf (pv 1) ak (λ_ _=>rfl)) ak (λ_ _=>rfl)) az (aS _)))))))),?_⟩
  rcases aej os with h | ⟨pre,o,h⟩
  ·subst h;cases ho;refine⟨_,rfl,_,.inl ⟨_,hB,rfl⟩,pM ?_⟩;exact q H (bJ.refl _)
  ·rw[aek]at h;subst h;refine⟨_,rfl,_,.inl ⟨_,hB,rfl⟩,Dj (by simp) ?_⟩
   refine hide λGg hGg=>?_
   obtain⟨ms',m,rfl,_,_,dx,v,hm,hv⟩:=ho.last;have gl:(ms'++[m]).getLast?=some m:=aeG;unfold mO at q;rw[gl]at q;refine hGg ?_;refine⟨_,rfl,_,rfl,B,_,_,_,rfl,rfl,hB,zz pre o,m.k,m.k8,o,dx,_,rfl,hm,IL m.k v,?_⟩
   by_cases h0:m.k=0
   ·obtain⟨tx,rfl⟩:∃tx,m=.mat tx:=by cases m <;> first | exact⟨_,rfl⟩ | exact absurd h0 (by simp[Mn.k])
    refine hide λGg hGg=>?_
    obtain⟨p,rfl,_,hp⟩:=hv;refine hGg ?_;refine .inl ⟨rfl,o,dx,p,tx.map V.str,rfl,hm,SqL.of hp,λp2 u hp2 hu npu=>?_⟩
    have nu:(upd H p2 (.lst (tx.map V.str))) u=none:=(aw (ad9 npu)).trans hu;refine ixv rfl (SqT.of ae) rfl ⟨rfl,_,rfl,?_⟩;rw[fW 0 (by decide)]
    exact gf (q _ ((aK hp2).new nu))
   ·refine .inr ⟨by omega,o,dx,v,rfl,hm,λu hu=>?_⟩
    have su:=aK (o:=.tup (rowOf m.k v)) hu;refine ixv rfl (SqT.of ae) CI ⟨rfl,_,rfl,?_⟩;rw[fW m.k m.k8]
    by_cases h1:m.k=1
    ·obtain⟨e,rfl⟩:∃e,m=.chg e:=by cases m <;> first | exact⟨_,rfl⟩ | exact absurd h1 (by simp[Mn.k])
     refine hide λGg hGg=>?_
     obtain⟨t,rfl,ht⟩:=hv;refine hGg ?_;refine AO (decide_eq_true rfl) (ixv rfl (SqT.of ae) rfl ⟨t,_,_,_,rfl,rfl,dW su ht.sq,Cs e,rfl,?_⟩);rw[OQ];exact q _ su
    ·rw[decide_eq_false h1];have q':∀H',bJ H H'->Q (.bl false) H':=by
      cases m with
      |chg e=>exact absurd rfl h1
      |_=>exact q
     exact gf (q' _ su)
theorem qD (T:Txt w.params K mg A):ay P w K mg base CX0 4 A.fX A.dX ["kind","pile"] (Ja A K):=by
 have oU:ay P w K mg base CX0 2 A.lI A.gW ["pile"] (Mz A K):=rT T;have wN:ay P w K mg base CX0 3 A.jH A.gL ["pile"] (MA A K):=vm T;refine T.gR.ok qe (λvs H Q E h=>?_) (λcdv A' outer s H vs Q E hr h=>?_)
 ·obtain⟨k,B,c,ms,os,rfl,_⟩:=h;rfl
 ·obtain⟨k,B,c,ms,os,rfl,k8,hp,hl,q⟩:=h;have mP:Room 2 _:=hr.mono (by decide)
  have vn:=hr;refine⟨_,(ai (bI (aJ bY (pv 0) az (aS _))
 (aj (aL (bb wN vn rfl T.pf T.j9.kp T.pe .nil aV (aa (pv 1) ah))))
 aQ)
 (ai (bI (aJ Jx (pv 0) (bH (aa az (aa az (aa az (aa az ah))))) rfl)
 (aj (aL (bb oU mP rfl T.oJ T.kQ.kp T.oI .nil aV (aa (pv 1) ah))))
 aQ)
 (aj (aL pY)))),?_⟩
  refine⟨_,rfl,rfl,_,rfl,?_⟩;rw[ie k k8];unfold wb at q
  by_cases h2:k=2
  ·rw[if_pos h2]at q;exact AO (decide_eq_true h2) ⟨_,rfl,B,c,ms,os,rfl,hp,q⟩
  ·rw[if_neg h2]at q;refine Dj (decide_eq_false h2) ?_;refine⟨_,rfl,(sl 4),λt ht=>?_⟩
   have st:=aK (o:=.tup [V.str (ar "change"),V.str (ar "put off"),V.str (ar "close"),V.str (ar "lay")]) ht;refine⟨t,_,rfl,.inr (SqT.of ae),rfl,rfl,_,rfl,?_⟩;have ein:(if false=true then !inV (V.str (nm k)) [V.str (ar "change"),V.str (ar "put off"),V.str (ar "close"),V.str (ar "lay")] else inV (V.str (nm k)) [V.str (ar "change"),V.str (ar "put off"),V.str (ar "close"),V.str (ar "lay")])=decide (k=1\/k=3\/k=4\/k=5):=by
    have:∀k,k < 8->inV (V.str (nm k)) [V.str (ar "change"),V.str (ar "put off"),V.str (ar "close"),V.str (ar "lay")]=decide (k=1\/k=3\/k=4\/k=5):=by decide +kernel
    exact this k k8
   rw[ein]
   by_cases h3:k=1\/k=3\/k=4\/k=5
   ·rw[if_pos h3]at q;exact AO (decide_eq_true h3) ⟨_,rfl,B,c,ms,os,rfl,hp.same st,hl,λH' s'=>q H' (st.trans s')⟩
   ·rw[if_neg h3]at q;exact Dj (decide_eq_false h3) (q _ st)
theorem rL (T:Txt w.params K mg A):ay P w K mg base (CXX P w) 5 A.gM A.eu ["kind","pile","closed"] (P6 A K):=by
 have zB:ay P w K mg base CX0 3 A.yX A.nI ["pile","closed"] (Mx A K):=Bo T;have oU:ay P w K mg base CX0 2 A.lI A.gW ["pile"] (Mz A K):=rT T;have rM:ay P w K mg base CX0 4 A.fX A.dX ["kind","pile"] (Ja A K):=qD T;have sE:ay P w K mg base CX0 1 A.qi A.nL ["self","bar"] (Ag A.fv "bar"):=wc T;refine T.ib.okX kG (λvs H Q E h=>?_) (λcdv A' outer s H vs Q E hr h=>?_)
 ·obtain⟨k,B,cl,c,ms,os,rfl,_⟩:=h;rfl
 ·obtain⟨k,B,cl,c,ms,os,rfl,k8,hp,hl,q,qx⟩:=h;have vo:Room 3 _:=hr.mono (by decide)
  have mP:Room 2 _:=hr.mono (by decide)
  have qE:Room 4 _:=hr;have JL:Room 2 _:=hr.mono (by decide)
  refine⟨_,(aW (psx (bh (i:=3) kG.nd rfl (aec rfl) (bb zB vo rfl T.y0 T.tR.kp T.yZ .nil aV (aa (pv 1) (aa (pv 2) ah)))))
 (aW (i9 (aJ Iu (bp Lh (BI (v:=V.ref A.tab) rfl T.Cq rfl) (pv 0) (λ_ _=>rfl)) (pv 3) (aS _))
 (bC (ou T.nO sE JL T.lO rfl rfl T.tY (aa (pv 3) ah)))
 (yD aQ))
 (bC (i9 (uJ (rZ (bb rM qE rfl T.kJ T.gR.kp T.kH .nil aV (aa (pv 0) (aa (pv 1) ah)))))
 (aW (i9 (rZ (bb oU mP rfl T.oJ T.kQ.kp T.oI .nil aV (aa (pv 1) ah)))
 (bC (ja T.vW rfl rfl T.za (aa az ah)))
 (yD aQ))
 (bC (ja T.vV rfl rfl T.y9 (aa (AV (uQ (pv 0) (lC uP))) ah))))
 (yD aQ))))),?_⟩
  refine⟨_,rfl,_,rfl,B,cl,c,ms,os,rfl,hp,?_⟩;obtain⟨tk,htk⟩:=T.rk k k8;refine⟨_,rfl,A.tab,nm k,.int k,_,rfl,rfl,T.tb,htk,⟨_,rfl⟩,_,rfl,_,_,rfl,rfl,_,rfl,nv (λe=>?_) (λe=>?_)⟩
  ·have e':(k:Int)<=sD cl ms:=of_decide_eq_true e;have hb:=zy cl ms;refine⟨_,rfl,_,rfl,nU (by omega) (by omega),λd hd=>qx (.qB (sD cl ms)) (by unfold qC;rw[if_pos e']) _ _ _ (aK hd) ⟨⟨rfl,d,rfl,ae⟩,λ_ z=>by cases z;exact hd⟩⟩
  ·have e':¬(k:Int)<=sD cl ms:=λz=>e (decide_eq_true z)
   unfold qC at q qx;rw[if_neg e']at q qx;refine⟨_,rfl,_,rfl,k,B,c,ms,os,rfl,k8,hp,hl,λH' s'=>⟨_,rfl,?_⟩⟩
   cases hn:wb ms k with
   |true =>
    rw[hn,if_pos rfl]at q;exact gf (q rfl _ s')
   |false =>
    rw[hn,if_neg kj]at qx;refine pM ⟨_,rfl,B,c,ms,os,rfl,hp.same s',hl,λH2 s2=>⟨_,rfl,?_⟩⟩
    cases hm:CF ms with
    |true =>
     rw[hm,if_pos rfl]at qx;exact pM ⟨by decide,qx _ rfl _ _ _ (s'.trans s2) ⟨⟨rfl,rfl⟩,λ_ z=>nomatch z⟩⟩
    |false =>
     rw[hm,if_neg kj]at qx;refine gf ⟨_,rfl,nm k,.str,?_,?_,?_⟩
     ·have:∀k,k < 8->(nm k).length<=10:=by decide +kernel
      exact om (this k k8) (by decide)
     ·have:∀k,k < 8->(ael++nm k:Str).length<=10:=by decide +kernel
      exact om (this k k8) (by decide)
     ·have:∀k,k < 8->((ael++nm k)++ar " needs a matter on the pile":Str).length<=100:=by decide +kernel
      have l:=om (this k k8) (show 100<=gp by decide)
      exact⟨l,l,(sl 1),qx _ rfl _ _ _ (s'.trans s2) ⟨⟨rfl,rfl⟩,λ_ z=>nomatch z⟩⟩
end
section
variable{P:ku}{w:World}{K:ba}{mg:Str->Option Value}{base:Heap}{A:Adr}
theorem jt (T:Txt w.params K mg A):ay P w K mg base CX0 1 A.f_n A.Ci ["self"] (Cw 0):=by
 refine T.F_n.ok yL (λvs H Q E h=>?_) (λcdv A' outer s H vs Q E hr h=>?_)
 ·obtain⟨m,rfl,_⟩:=h;rfl
 ·obtain⟨m,rfl,q⟩:=h;exact⟨_,(aj (aL az)),q⟩
theorem JM (T:Txt w.params K mg A):ay P w K mg base CX0 1 A.RY A.LR ["self"] (Cw 4):=by
 refine T.WL.ok Aj (λvs H Q E h=>?_) (λcdv A' outer s H vs Q E hr h=>?_)
 ·obtain⟨m,rfl,_⟩:=h;rfl
 ·obtain⟨m,rfl,q⟩:=h;exact⟨_,(aj (aL az)),q⟩
theorem OS (T:Txt w.params K mg A):∀k,k < 8->ay P w K mg base CX0 1 (A.fn k) (A.fnd k) ["self"] (Cw k)
 | 0,_=>jt T
 | 1,_=>jt T
 | 2,_=>jt T
 | 3,_=>jt T
 | 4,_=>JM T
 | 5,_=>jt T
 | 6,_=>jt T
 | 7,_=>jt T
 |n+8,h=>absurd h (by omega)
end
end My
set_option maxHeartbeats 1000000
namespace My
open PySem L2
seal PySem.wpAny
theorem kX {a b:Nat}:((km (a:Int):Key)=km (b:Int))↔a=b:=⟨λh=>by have:=Sum.inl.inj h;omega,λh=>by rw[h]⟩
theorem cN {k:Nat}{v:V}{ks:List Nat}{vs:List V}:bc ((k::ks).zip (v::vs))=(km (k:Int),v)::bc (ks.zip vs):=rfl
theorem sF {n:Nat}:∀ {ks:List Nat} {vs:List V},n∉ks->jO (bc (ks.zip vs)) (km (n:Int))=none
 |[],_,_=>rfl
 |_::_,[],_=>rfl
 |k::ks,v::vs,h=>by
  rw[cN,iK (λz=>h (by rw[kX.mp z];exact fu))]
  exact sF λz=>h (ki _ z)
theorem Bp {n:Nat}{v:V}:∀ {ks:List Nat} {vs:List V} {j:Nat},ks.Nodup->ks[j]?=some n->vs[j]?=some v->jO (bc (ks.zip vs)) (km (n:Int))=some v
 |[],_,_,_,h,_=>by simp at h
 |_::_,[],_,_,_,h=>by simp at h
 |k::ks,u::vs,0,_,h,g=>by
  rw[aeF]at h g;cases h;cases g;exact lD rfl
 |k::ks,u::vs,j+1,nd,h,g=>by
  rw[ae1]at h g;obtain⟨n1,n2⟩:=List.nodup_cons.mp nd;rw[cN,iK (λz=>n1 (by rw[kX.mp z];exact aei h))]
  exact Bp n2 h g
theorem uf {n:Nat}{v:V}:∀ {ks:List Nat} {vs:List V},n∉ks->(bc (ks.zip vs)).map (λkv=>if kv.1=(km (n:Int):Key) then (kv.1,v) else kv)=bc (ks.zip vs)
 |[],_,_=>rfl
 |_::_,[],_=>rfl
 |k::ks,u::vs,h=>by
  rw[cN,kc,uf λz=>h (ki _ z),if_neg (λz=>h (by rw[kX.mp z];exact fu))]
theorem Bq {n:Nat}{v:V}:∀ {ks:List Nat} {vs:List V} {j:Nat},ks.Nodup->ks[j]?=some n->(bc (ks.zip vs)).map (λkv=>if kv.1=(km (n:Int):Key) then (kv.1,v) else kv)=bc (ks.zip (vs.set j v))
 |[],_,_,_,h=>by simp at h
 |k::ks,[],_,_,_=>by simp[bc]
 |k::ks,u::vs,0,nd,h=>by
  rw[aeF]at h;cases h;rw[cN,kc,uf (List.nodup_cons.mp nd).1,if_pos rfl];rfl
 |k::ks,u::vs,j+1,nd,h=>by
  rw[ae1]at h;obtain⟨n1,n2⟩:=List.nodup_cons.mp nd;rw[cN,kc,Bq n2 h,if_neg (λz=>n1 (by rw[kX.mp z];exact aei h))]
  rfl
theorem JN {n:Nat}{v:V}{ks:List Nat}{vs:List V}{j:Nat}(nd:ks.Nodup)(h:ks[j]?=some n)(l:ks.length=vs.length):putK (bc (ks.zip vs)) (km (n:Int)) v=bc (ks.zip (vs.set j v)):=by
 have hj:j < vs.length:=by rw[<-l];exact(List.getElem?_eq_some_iff.mp h).1
 unfold putK;rw[tJ,Bp nd h (ad5 hj)];exact(if_pos rfl).trans (Bq nd h)
theorem rE {n:Nat}{v:V}{ks:List Nat}{vs:List V}(h:n∉ks)(l:ks.length=vs.length):putK (bc (ks.zip vs)) (km (n:Int)) v=bc ((ks++[n]).zip (vs++[v])):=by
 rw[LD v (sF h),List.zip_append l];unfold bc;rw[ky];rfl
section
variable{β:Type}{R:Nat×β->V->Prop}
def at1 (n:Nat)(xs:List (Nat×β)):Option (Nat×β):=xs.find? λx=>decide (x.1=n)
theorem mH {n:Nat}{xs:List (Nat×β)}{x:Nat×β}(h:at1 n xs=some x):x.1=n/\x∈xs:=by
 unfold at1 at h;have:=List.find?_some h;exact⟨of_decide_eq_true this,List.mem_of_find?_eq_some h⟩
theorem zC {n:Nat}{xs:List (Nat×β)}(h:at1 n xs=none):n∉xs.map (·.1):=λz=>by
 obtain⟨x,hx,e⟩:=List.mem_map.mp z;have:=List.find?_eq_none.mp h x hx;exact this (decide_eq_true e)
theorem bS.val {n:Nat}:∀ {xs:List (Nat×β)} {ws:List V} {x:Nat×β},bS R xs ws->at1 n xs=some x->∃v,jO (bc ((xs.map (·.1)).zip ws)) (km (n:Int))=some v/\R x v
 |_,_,_,.nil,h=>nomatch h
 |y::xs,w::ws,x,.cons g t,h=>by
  unfold at1 at h;rw[aeU]at h
  by_cases e:y.1=n
  ·rw[decide_eq_true e]at h;cases h;exact⟨w,by rw[kc,cN];exact lD (kX.mpr e),g⟩
  ·rw[decide_eq_false e]at h;obtain⟨v,h1,h2⟩:=bS.val t h;exact⟨v,by rw[kc,cN,iK (λz=>e (kX.mp z))];exact h1,h2⟩
theorem bS.drop {n:Nat}:∀ {xs:List (Nat×β)} {ws:List V},bS R xs ws->∃ws',kD (bc ((xs.map (·.1)).zip ws)) (km (n:Int))=bc (((xs.filter λx=>decide (x.1≠n)).map (·.1)).zip ws')/\bS R (xs.filter λx=>decide (x.1≠n)) ws'
 |_,_,.nil=>⟨[],rfl,.nil⟩
 |y::xs,w::ws,.cons g t=>by
  obtain⟨ws',h1,h2⟩:=bS.drop (n:=n) t
  by_cases e:y.1=n
  ·refine⟨ws',?_,?_⟩
   ·rw[ae2 (by simp[e]),<-h1,kc,cN]
    unfold kD;rw[ae2 (by simp[e])]
   ·rw[ae2 (by simp[e])];exact h2
  ·refine⟨w::ws',?_,?_⟩
   ·rw[List.filter_cons_of_pos (by simp[e]),kc,kc,cN,cN,<-h1]
    unfold kD;have hne:(km (y.1:Int):Key)≠km (n:Int):=λz=>e (kX.mp z)
    rw[List.filter_cons_of_pos (by exact decide_eq_true hne)]
   ·rw[List.filter_cons_of_pos (by simp[e])];exact .cons g h2
theorem bS.WZ {R':Nat×β->V->Prop}{n:Nat}{f:Nat×β->Nat×β}{v:V}(h1:∀x,x.1=n->R x v->R' (f x) v)(h2:∀x u,x.1≠n->R x u->R' x u):∀ {xs:List (Nat×β)} {ws:List V},bS R xs ws->(xs.map (·.1)).Nodup->jO (bc ((xs.map (·.1)).zip ws)) (km (n:Int))=some v ->
  bS R' (xs.map λx=>if x.1=n then f x else x) ws
 |_,_,.nil,_,h=>nomatch h
 |y::xs,w::ws,.cons g t,nd,h=>by
  rw[kc]at nd;obtain⟨n1,n2⟩:=List.nodup_cons.mp nd;rw[kc,cN]at h;rw[kc]
  by_cases e:y.1=n
  ·rw[lD (kX.mpr e)]at h;cases h;rw[if_pos e];refine .cons (h1 y e g) ?_;have hne:∀x∈xs,x.1≠n:=λx hx z=>n1 (by rw[e,<-z];exact List.mem_map_of_mem hx)
   have em:xs.map (λx=>if x.1=n then f x else x)=xs:=by
    have:xs.map (λx=>if x.1=n then f x else x)=xs.map id:=aeR λx hx=>if_neg (hne x hx)
    rw[this,List.map_id]
   rw[em];exact t.imp_mem λx hx u=>h2 x u (hne x hx)
  ·rw[iK (λz=>e (kX.mp z))]at h
   rw[if_neg e];exact .cons (h2 y w e g) (bS.WZ h1 h2 t n2 h)
end
theorem bS.set {α β:Type}{R:α->β->Prop}:∀ {as:List α} {bs:List β} {a:α} {b:β} (j:Nat),bS R as bs->R a b->bS R (as.set j a) (bs.set j b)
 |_,_,_,_,_,.nil,_=>.nil
 |_,_,_,_,0,.cons _ t,h=>.cons h t
 |_,_,_,_,j+1,.cons g t,h=>.cons g (t.set j h)
def pOb:Rl->Bool | .ob=>true | _=>false
def P7:Rl->Bool | .rows=>true | _=>false
def Jb:Rl->Bool | .made=>true | _=>false
def P8:Rl->Bool | .au=>true | _=>false
def W0:Rl->Bool | .ob=>true | .au=>true | .aI=>true | _=>false
def P9 (n:Nat):Rl->Bool | .qv m=>decide (m=n) | _=>false
def W2:Rl->Bool | .firsts=>true | _=>false
def W3:Rl->Bool | .kept=>true | _=>false
def Qa (n:Nat):Rl->Bool | .ob=>true | .aI=>true | .lR m=>decide (m=n) | _=>false
theorem qF {i:Nat}{c:Col}{a b:Addr}{r r':Rl}(h:c a=some (i,r))(h':c b=some (i,r'))(n:r≠r'):a≠b:=λz=>by
 rw[z,h']at h;cases h;exact n rfl
section
variable{A:Adr}{i:Nat}{c c':Col}{H H':Hp}{o dx aM aP aA aD aF aE aR:Addr}{st:Ch}{ms ds:List Addr}{ws fs es:List V}
theorem ChX.free {W:Option (Nat×Rl)->Prop}(h:∀r,¬W (some (i,r)))(s:Step W c c' H H')(X:ChX A i c H o st dx aM aP aA aD aF aE aR ms ds ws fs es):ChX A i c' H' o st dx aM aP aA aD aF aE aR ms ds ws fs es:=by
 have hn:¬W (c o):=by rw[X.co];exact h _
 refine⟨by rw[s.col o _ X.ob hn];exact X.co,s.keep _ _ X.ob hn,X.made.keep (h _) s,qy s X.mot,X.au.keep (h _) s,X.aI.keep (h _) s,X.wait.imp ?_,X.dec.keep (h _) s,qz s X.wL,X.firsts.keep (h _) s,X.first.imp ?_,X.jX.keep (h _) s,X.kept.imp ?_,X.rows.keep (h _) s⟩
 ·rintro x v ⟨t,p,e,z1,z2⟩;exact⟨t,p,e,z1.step s,z2.keep (h _) s⟩
 ·rintro x v ⟨p,e,z⟩;exact⟨p,e,z.keep (h _) s⟩
 ·rintro x v ⟨p,ts,e,z1,z2⟩;exact⟨p,ts,e,z1.keep (h _) s,z2.imp λ_ _ y=>y.step s⟩
theorem ChX.same (s:bJ H H')(X:ChX A i c H o st dx aM aP aA aD aF aE aR ms ds ws fs es):ChX A i c H' o st dx aM aP aA aD aF aE aR ms ds ws fs es:=X.free (W:=λ_=>False) (λ_=>id) (Step.same id s)
theorem ChX.cl (s:bJ H H')(X:ChX A i c H o st dx aM aP aA aD aF aE aR ms ds ws fs es):ChX A i (bP c H) H' o st dx aM aP aA aD aF aE aR ms ds ws fs es:=X.free (W:=λ_=>False) (λ_=>id) (Step.cl id s)
theorem ChX.at (X:ChX A i c H o st dx aM aP aA aD aF aE aR ms ds ws fs es):d9 A i c H o st:=⟨_,_,_,_,_,_,_,_,_,_,_,_,_,X⟩
theorem ChX.attr (X:ChX A i c H o st dx aM aP aA aD aF aE aR ms ds ws fs es)(n:Int)(b:Bool) :
  Step (Wr i pOb) c c H (upd H o (.ins A.ao dx (chF (.int st.cH) (.int n) (.bl b) (.ref aM) (.ref aP) (.ref aA) (.ref aD) (.ref aF) (.ref aE) (.ref aR)))) /\
  ChX A i c (upd H o (.ins A.ao dx (chF (.int st.cH) (.int n) (.bl b) (.ref aM) (.ref aP) (.ref aA) (.ref aD) (.ref aF) (.ref aE) (.ref aR)))) o { st with aq:=n,closed:=b } dx aM aP aA aD aF aE aR ms ds ws fs es:=by
 have s:Step (Wr i pOb) c c H (upd H o (.ins A.ao dx (chF (.int st.cH) (.int n) (.bl b) (.ref aM) (.ref aP) (.ref aA) (.ref aD) (.ref aF) (.ref aE) (.ref aR)))):=Step.upd Wr.nn (Wr.yes X.co rfl);exact⟨s,X.co,ae,X.made.kp rfl s,qy s X.mot,X.au.kp rfl s,X.aI.kp rfl s,rR (λ_ _=>rfl) s X.wait,X.dec.kp rfl s,qz s X.wL,X.firsts.kp rfl s,rS (λ_ _=>rfl) s X.first,X.jX.kp rfl s,ub (λ_ _=>rfl) s X.kept,X.rows.kp rfl s⟩
theorem ChX.row (X:ChX A i c H o st dx aM aP aA aD aF aE aR ms ds ws fs es)(z:Str) :
  Step (Wr i P7) c c H (upd H aR (.lst (st.rows.map V.str++[.str z])))/\ChX A i c (upd H aR (.lst (st.rows.map V.str++[.str z]))) o { st with rows:=st.rows++[z] } dx aM aP aA aD aF aE aR ms ds ws fs es:=by
 have s:Step (Wr i P7) c c H (upd H aR (.lst (st.rows.map V.str++[.str z]))):=Step.upd Wr.nn (Wr.yes X.rows.1 rfl);have k:=sC rfl s X.co X.ob;exact⟨s,k.1,k.2,X.made.kp rfl s,qy s X.mot,X.au.kp rfl s,X.aI.kp rfl s,rR (λ_ _=>rfl) s X.wait,X.dec.kp rfl s,qz s X.wL,X.firsts.kp rfl s,rS (λ_ _=>rfl) s X.first,X.jX.kp rfl s,ub (λ_ _=>rfl) s X.kept,X.rows.1,by rw[ae,ky];rfl⟩
theorem ChX.push (X:ChX A i c H o st dx aM aP aA aD aF aE aR ms ds ws fs es)(n:Nat) :
  Step (Wr i P8) c c H (upd H aP (.lst (st.au.map nV++[nV n])))/\ChX A i c (upd H aP (.lst (st.au.map nV++[nV n]))) o { st with au:=st.au++[n] } dx aM aP aA aD aF aE aR ms ds ws fs es:=by
 have s:Step (Wr i P8) c c H (upd H aP (.lst (st.au.map nV++[nV n]))):=Step.upd Wr.nn (Wr.yes X.au.1 rfl);have k:=sC rfl s X.co X.ob;exact⟨s,k.1,k.2,X.made.kp rfl s,qy s X.mot,⟨X.au.1,by rw[ae,ky];rfl⟩,X.aI.kp rfl s,rR (λ_ _=>rfl) s X.wait,X.dec.kp rfl s,qz s X.wL,X.firsts.kp rfl s,rS (λ_ _=>rfl) s X.first,X.jX.kp rfl s,ub (λ_ _=>rfl) s X.kept,X.rows.kp rfl s⟩
theorem MB {n k:Nat}(h1:1<=n)(h2:n<=k):(aem 1 k)[n - 1]?=some n:=by
 rw[List.getElem?_range' (by omega)]
 congr 1
 omega
theorem ChX.Jc (X:ChX A i c H o st dx aM aP aA aD aF aE aR ms ds ws fs es){n:Nat}{m:Mn}{x:Addr}(hn:fA st n)(hm:lT A c H m x) :
  Step (Wr i Jb) c c H (upd H aM (.dK (putK (bc ((aem 1 st.made.length).zip (ms.map V.ref))) (km (n:Int)) (.ref x)))) /\
  ChX A i c (upd H aM (.dK (putK (bc ((aem 1 st.made.length).zip (ms.map V.ref))) (km (n:Int)) (.ref x)))) o { st with made:=st.made.set (n - 1) m } dx aM aP aA aD aF aE aR (ms.set (n - 1) x) ds ws fs es:=by
 have s:Step (Wr i Jb) c c H (upd H aM (.dK (putK (bc ((aem 1 st.made.length).zip (ms.map V.ref))) (km (n:Int)) (.ref x)))):=Step.upd Wr.nn (Wr.yes X.made.1 rfl);have k:=sC rfl s X.co X.ob;have ml:=X.mot.len;have e:=JN (v:=.ref x) (List.nodup_range' (s:=1) (n:=st.made.length)) (MB hn.1 hn.2) (vs:=ms.map V.ref) (by rw[aeW,cb];exact ml)
 have hd:jW i c (upd H aM (.dK (putK (bc ((aem 1 st.made.length).zip (ms.map V.ref))) (km (n:Int)) (.ref x)))) .made aM ((aem 1 (st.made.set (n - 1) m).length).zip ((ms.set (n - 1) x).map V.ref)) :=
  ⟨X.made.1,by rw[ae,e,aeT,List.map_set]⟩
 exact⟨s,k.1,k.2,hd,(qy s X.mot).set _ (hm.step s),X.au.kp rfl s,X.aI.kp rfl s,rR (λ_ _=>rfl) s X.wait,X.dec.kp rfl s,qz s X.wL,X.firsts.kp rfl s,rS (λ_ _=>rfl) s X.first,X.jX.kp rfl s,ub (λ_ _=>rfl) s X.kept,X.rows.kp rfl s⟩
theorem ChX.OT (X:ChX A i c H o st dx aM aP aA aD aF aE aR ms ds ws fs es){m:Mn}{x:Addr}(hm:lT A c H m x) :
  Step (Wr i Jb) c c H (upd H aM (.dK (putK (bc ((aem 1 st.made.length).zip (ms.map V.ref))) (km ((st.made.length+1:Nat):Int)) (.ref x)))) /\
  ChX A i c (upd H aM (.dK (putK (bc ((aem 1 st.made.length).zip (ms.map V.ref))) (km ((st.made.length+1:Nat):Int)) (.ref x)))) o { st with made:=st.made++[m] } dx aM aP aA aD aF aE aR (ms++[x]) ds ws fs es:=by
 have s:Step (Wr i Jb) c c H (upd H aM (.dK (putK (bc ((aem 1 st.made.length).zip (ms.map V.ref))) (km ((st.made.length+1:Nat):Int)) (.ref x)))):=Step.upd Wr.nn (Wr.yes X.made.1 rfl);have k:=sC rfl s X.co X.ob;have ml:=X.mot.len;have e:=rE (v:=.ref x) (n:=st.made.length+1) (ks:=aem 1 st.made.length) (vs:=ms.map V.ref) (by rw[List.mem_range'_1];omega) (by rw[aeW,cb];exact ml)
 have hd:jW i c (upd H aM (.dK (putK (bc ((aem 1 st.made.length).zip (ms.map V.ref))) (km ((st.made.length+1:Nat):Int)) (.ref x)))) .made aM ((aem 1 (st.made++[m]).length).zip ((ms++[x]).map V.ref)) :=
  ⟨X.made.1,by rw[ae,e,kr,ad4,List.range'_concat,ky,Nat.one_mul,Nat.add_comm 1];rfl⟩
 exact⟨s,k.1,k.2,hd,(qy s X.mot).snoc (hm.step s),X.au.kp rfl s,X.aI.kp rfl s,rR (λ_ _=>rfl) s X.wait,X.dec.kp rfl s,qz s X.wL,X.firsts.kp rfl s,rS (λ_ _=>rfl) s X.first,X.jX.kp rfl s,ub (λ_ _=>rfl) s X.kept,X.rows.kp rfl s⟩
def DO (n:Nat)(e:Ed)(xs:List (Nat×List Ed)):List (Nat×List Ed):=xs.map λx=>if x.1=n then (x.1,x.2++[e]) else x
theorem ChX.Sl (X:ChX A i c H o st dx aM aP aA aD aF aE aR ms ds ws fs es){n:Nat}{x:Nat×List Ed}(hx:at1 n st.kept=some x):∃(p:Addr) (ts:List Addr),jO (bc ((st.kept.map (·.1)).zip es)) (km (n:Int))=some (.ref p)/\LstAt i c H (.qv n) p (ts.map V.ref)/\ts.length=x.2.length:=by
 obtain⟨v,h1,p,ts,rfl,h2,h3⟩:=X.kept.val hx;rw[(mH hx).1]at h2;exact⟨p,ts,h1,h2,h3.len.symm⟩
theorem ChX.OU (X:ChX A i c H o st dx aM aP aA aD aF aE aR ms ds ws fs es){n:Nat}{e:Ed}{t p:Addr}{ts:List Addr}(hv:jO (bc ((st.kept.map (·.1)).zip es)) (km (n:Int))=some (.ref p))(hl:LstAt i c H (.qv n) p (ts.map V.ref))(nd:(st.kept.map (·.1)).Nodup)(ht:TupAt c H t (iT e)) :
  Step (Wr i (P9 n)) c c H (upd H p (.lst (ts.map V.ref++[.ref t])))/\ChX A i c (upd H p (.lst (ts.map V.ref++[.ref t]))) o { st with kept:=DO n e st.kept } dx aM aP aA aD aF aE aR ms ds ws fs es:=by
 have s:Step (Wr i (P9 n)) c c H (upd H p (.lst (ts.map V.ref++[.ref t]))):=Step.upd Wr.nn (Wr.yes hl.1 (decide_eq_true rfl));have k:=sC rfl s X.co X.ob;have ek:(DO n e st.kept).map (·.1)=st.kept.map (·.1):=by
  unfold DO;rw[List.map_map];refine aeR λx _=>?_
  show (if x.1=n then (x.1,x.2++[e]) else x).1=x.1
  split <;> rfl
 refine⟨s,k.1,k.2,X.made.kp rfl s,qy s X.mot,X.au.kp rfl s,X.aI.kp rfl s,rR (λ_ _=>rfl) s X.wait,X.dec.kp rfl s,qz s X.wL,X.firsts.kp rfl s,rS (λ_ _=>rfl) s X.first,by show jW i c _ .kept aE (((DO n e st.kept).map (·.1)).zip es);rw[ek];exact X.jX.kp rfl s,?_,X.rows.kp rfl s⟩
 refine bS.WZ (f:=λx=>(x.1,x.2++[e])) (v:=.ref p) ?_ ?_ X.kept nd hv
 ·rintro x e1 ⟨q,us,e2,z1,z2⟩;cases e2;have e3:us.map V.ref=ts.map V.ref:=by
   have:=z1.2;rw[hl.2]at this;injection this with this
   injection this with this
   exact this.symm
  refine⟨p,us++[t],rfl,⟨z1.1,?_⟩,(z2.imp λ_ _ y=>y.step s).snoc (ht.step s)⟩
  rw[ae,<-e3,ky];rfl
 ·rintro x u e1 ⟨q,us,rfl,z1,z2⟩;exact⟨q,us,rfl,z1.kp (decide_eq_false e1) s,z2.imp λ_ _ y=>y.step s⟩
theorem ChX.MC (X:ChX A i c H o st dx aM aP aA aD aF aE aR ms ds ws fs es){n:Nat}{tx:List Str}{p:Addr}(hp:H p=none)(hn:n∉st.firsts.map (·.1)) :
  Step (Wr i W2) c (aH c p (some (i,.lS n))) H (upd (upd H p (.lst (tx.map V.str))) aF (.dK (putK (bc ((st.firsts.map (·.1)).zip fs)) (km (n:Int)) (.ref p)))) /\
  ChX A i (aH c p (some (i,.lS n))) (upd (upd H p (.lst (tx.map V.str))) aF (.dK (putK (bc ((st.firsts.map (·.1)).zip fs)) (km (n:Int)) (.ref p)))) o { st with firsts:=st.firsts++[(n,tx)] } dx aM aP aA aD aF aE aR ms ds ws (fs++[.ref p]) es:=by
 have np:∀ {a:Addr} {v:HO},H a=some v->a≠p:=λe=>aN e hp
 have s:Step (Wr i W2) c (aH c p (some (i,.lS n))) H (upd (upd H p (.lst (tx.map V.str))) aF (.dK (putK (bc ((st.firsts.map (·.1)).zip fs)) (km (n:Int)) (.ref p)))) :=
  (Step.new Wr.nn hp).trans (Step.upd Wr.nn ⟨.firsts,by rw[ax (np X.firsts.2)];exact X.firsts.1,rfl⟩)
 have k:=sC rfl s X.co X.ob;have e:=rE (v:=.ref p) hn (vs:=fs) (by rw[cb];exact X.first.len)
 have hd:jW i (aH c p (some (i,.lS n))) (upd (upd H p (.lst (tx.map V.str))) aF (.dK (putK (bc ((st.firsts.map (·.1)).zip fs)) (km (n:Int)) (.ref p)))) .firsts aF (((st.firsts++[(n,tx)]).map (·.1)).zip (fs++[.ref p])) :=
  ⟨by rw[ax (np X.firsts.2)];exact X.firsts.1,by rw[ae,e,ky];rfl⟩
 have hl:CD i (aH c p (some (i,.lS n))) (upd (upd H p (.lst (tx.map V.str))) aF (.dK (putK (bc ((st.firsts.map (·.1)).zip fs)) (km (n:Int)) (.ref p)))) (n,tx) (.ref p) :=
  ⟨p,rfl,a7,(aw (np X.firsts.2).symm).trans ae⟩
 exact⟨s,k.1,k.2,X.made.kp rfl s,qy s X.mot,X.au.kp rfl s,X.aI.kp rfl s,rR (λ_ _=>rfl) s X.wait,X.dec.kp rfl s,qz s X.wL,hd,(rS (λ_ _=>rfl) s X.first).snoc hl,X.jX.kp rfl s,ub (λ_ _=>rfl) s X.kept,X.rows.kp rfl s⟩
theorem ChX.OV (X:ChX A i c H o st dx aM aP aA aD aF aE aR ms ds ws fs es){n:Nat}{p:Addr}(hp:H p=none)(hn:n∉st.kept.map (·.1)) :
  Step (Wr i W3) c (aH c p (some (i,.qv n))) H (upd (upd H p (.lst [])) aE (.dK (putK (bc ((st.kept.map (·.1)).zip es)) (km (n:Int)) (.ref p)))) /\
  ChX A i (aH c p (some (i,.qv n))) (upd (upd H p (.lst [])) aE (.dK (putK (bc ((st.kept.map (·.1)).zip es)) (km (n:Int)) (.ref p)))) o { st with kept:=st.kept++[(n,([]:List Ed))] } dx aM aP aA aD aF aE aR ms ds ws fs (es++[.ref p]):=by
 have np:∀ {a:Addr} {v:HO},H a=some v->a≠p:=λe=>aN e hp
 have s:Step (Wr i W3) c (aH c p (some (i,.qv n))) H (upd (upd H p (.lst [])) aE (.dK (putK (bc ((st.kept.map (·.1)).zip es)) (km (n:Int)) (.ref p)))) :=
  (Step.new Wr.nn hp).trans (Step.upd Wr.nn ⟨.kept,by rw[ax (np X.jX.2)];exact X.jX.1,rfl⟩)
 have k:=sC rfl s X.co X.ob;have e:=rE (v:=.ref p) hn (vs:=es) (by rw[cb];exact X.kept.len)
 have hd:jW i (aH c p (some (i,.qv n))) (upd (upd H p (.lst [])) aE (.dK (putK (bc ((st.kept.map (·.1)).zip es)) (km (n:Int)) (.ref p)))) .kept aE (((st.kept++[(n,([]:List Ed))]).map (·.1)).zip (es++[.ref p])) :=
  ⟨by rw[ax (np X.jX.2)];exact X.jX.1,by rw[ae,e,ky];rfl⟩
 have hl:I0 i (aH c p (some (i,.qv n))) (upd (upd H p (.lst [])) aE (.dK (putK (bc ((st.kept.map (·.1)).zip es)) (km (n:Int)) (.ref p)))) (n,[]) (.ref p) :=
  ⟨p,[],rfl,⟨a7,(aw (np X.jX.2).symm).trans ae⟩,.nil⟩
 exact⟨s,k.1,k.2,X.made.kp rfl s,qy s X.mot,X.au.kp rfl s,X.aI.kp rfl s,rR (λ_ _=>rfl) s X.wait,X.dec.kp rfl s,qz s X.wL,X.firsts.kp rfl s,rS (λ_ _=>rfl) s X.first,hd,(ub (λ_ _=>rfl) s X.kept).snoc hl,X.rows.kp rfl s⟩
def Ch.qG (st:Ch)(n:Nat)(u:Int):Ch:={ st with au:=[],aI:=st.aI++[(n,u,st.au)] }
theorem ChX.qG (X:ChX A i c H o st dx aM aP aA aD aF aE aR ms ds ws fs es){n:Nat}{u:Int}{t p:Addr}(ht:H t=none)(hp:H p=none)(ntp:p≠t)(hn:n∉st.aI.map (·.1)) :
  ∃c',Step (Wr i W0) c c' H (upd (upd (upd (upd H t (.tup [.int u,.ref aP])) aA (.dK (putK (bc ((st.aI.map (·.1)).zip ws)) (km (n:Int)) (.ref t)))) p (.lst [])) o (.ins A.ao dx (chF (.int st.cH) (.int st.aq) (.bl st.closed) (.ref aM) (.ref p) (.ref aA) (.ref aD) (.ref aF) (.ref aE) (.ref aR)))) /\
  ChX A i c' (upd (upd (upd (upd H t (.tup [.int u,.ref aP])) aA (.dK (putK (bc ((st.aI.map (·.1)).zip ws)) (km (n:Int)) (.ref t)))) p (.lst [])) o (.ins A.ao dx (chF (.int st.cH) (.int st.aq) (.bl st.closed) (.ref aM) (.ref p) (.ref aA) (.ref aD) (.ref aF) (.ref aE) (.ref aR)))) o (st.qG n u) dx aM p aA aD aF aE aR ms ds (ws++[.ref t]) fs es:=by
 have nt:∀ {a:Addr} {v:HO},H a=some v->a≠t:=λe=>aN e ht
 have np:∀ {a:Addr} {v:HO},H a=some v->a≠p:=λe=>aN e hp
 have oA:o≠aA:=qF X.co X.aI.1 (λz=>nomatch z)
 have oP:o≠aP:=qF X.co X.au.1 (λz=>nomatch z)
 have AP:aA≠aP:=qF X.aI.1 X.au.1 (λz=>nomatch z)
 have e:=rE (v:=.ref t) hn (vs:=ws) (by rw[cb];exact X.wait.len)
 have hp2:(upd (upd H t (.tup [.int u,.ref aP])) aA (.dK (putK (bc ((st.aI.map (·.1)).zip ws)) (km (n:Int)) (.ref t)))) p=none:=by
  rw[aw (np X.aI.2).symm,aw ntp];exact hp
 refine⟨aH (aH (aH c t none) p (some (i,.au))) aP (some (i,.lR n)),?_⟩;have s:Step (Wr i W0) c (aH (aH (aH c t none) p (some (i,.au))) aP (some (i,.lR n))) H (upd (upd (upd (upd H t (.tup [.int u,.ref aP])) aA (.dK (putK (bc ((st.aI.map (·.1)).zip ws)) (km (n:Int)) (.ref t)))) p (.lst [])) o (.ins A.ao dx (chF (.int st.cH) (.int st.aq) (.bl st.closed) (.ref aM) (.ref p) (.ref aA) (.ref aD) (.ref aF) (.ref aE) (.ref aR)))):=by
  refine((((Step.new Wr.nn ht).trans (Step.upd Wr.nn ⟨.aI,?_,rfl⟩)).trans (Step.new Wr.nn hp2)).trans (Step.upd Wr.nn ⟨.ob,?_,rfl⟩)).trans (Step.role Wr.nn ⟨.au,?_,rfl⟩)
  ·rw[ax (nt X.aI.2)];exact X.aI.1
  ·rw[ax (np X.ob),ax (nt X.ob)];exact X.co
  ·rw[ax (np X.au.2),ax (nt X.au.2)];exact X.au.1
 have k1:aH (aH (aH c t none) p (some (i,.au))) aP (some (i,.lR n)) o=some (i,.ob):=by
  rw[ax oP,ax (np X.ob),ax (nt X.ob)];exact X.co
 have hd:jW i (aH (aH (aH c t none) p (some (i,.au))) aP (some (i,.lR n))) (upd (upd (upd (upd H t (.tup [.int u,.ref aP])) aA (.dK (putK (bc ((st.aI.map (·.1)).zip ws)) (km (n:Int)) (.ref t)))) p (.lst [])) o (.ins A.ao dx (chF (.int st.cH) (.int st.aq) (.bl st.closed) (.ref aM) (.ref p) (.ref aA) (.ref aD) (.ref aF) (.ref aE) (.ref aR)))) .aI aA (((st.aI++[(n,u,st.au)]).map (·.1)).zip (ws++[.ref t])) :=
  ⟨by rw[ax AP,ax (np X.aI.2),ax (nt X.aI.2)];exact X.aI.1,by rw[aw oA.symm,aw (np X.aI.2),ae,e,ky];rfl⟩
 have hl:LstAt i (aH (aH (aH c t none) p (some (i,.au))) aP (some (i,.lR n))) (upd (upd (upd (upd H t (.tup [.int u,.ref aP])) aA (.dK (putK (bc ((st.aI.map (·.1)).zip ws)) (km (n:Int)) (.ref t)))) p (.lst [])) o (.ins A.ao dx (chF (.int st.cH) (.int st.aq) (.bl st.closed) (.ref aM) (.ref p) (.ref aA) (.ref aD) (.ref aF) (.ref aE) (.ref aR)))) (.lR n) aP (st.au.map nV) :=
  ⟨a7,by rw[aw oP.symm,aw (np X.au.2),aw AP.symm,aw (nt X.au.2)];exact X.au.2⟩
 have hn':LstAt i (aH (aH (aH c t none) p (some (i,.au))) aP (some (i,.lR n))) (upd (upd (upd (upd H t (.tup [.int u,.ref aP])) aA (.dK (putK (bc ((st.aI.map (·.1)).zip ws)) (km (n:Int)) (.ref t)))) p (.lst [])) o (.ins A.ao dx (chF (.int st.cH) (.int st.aq) (.bl st.closed) (.ref aM) (.ref p) (.ref aA) (.ref aD) (.ref aF) (.ref aE) (.ref aR)))) .au p [] :=
  ⟨by rw[ax (np X.au.2).symm,a7],by rw[aw (np X.ob).symm,ae]⟩
 have htt:TupAt (aH (aH (aH c t none) p (some (i,.au))) aP (some (i,.lR n))) (upd (upd (upd (upd H t (.tup [.int u,.ref aP])) aA (.dK (putK (bc ((st.aI.map (·.1)).zip ws)) (km (n:Int)) (.ref t)))) p (.lst [])) o (.ins A.ao dx (chF (.int st.cH) (.int st.aq) (.bl st.closed) (.ref aM) (.ref p) (.ref aA) (.ref aD) (.ref aF) (.ref aE) (.ref aR)))) t [.int u,.ref aP] :=
  ⟨by rw[ax (nt X.au.2).symm,ax ntp.symm,a7],.inl (by rw[aw (nt X.ob).symm,aw ntp.symm,aw (nt X.aI.2).symm,ae])⟩
 exact⟨s,k1,ae,X.made.kp rfl s,qy s X.mot,hn',hd,(rR (λ_ _=>rfl) s X.wait).snoc ⟨t,aP,rfl,htt,hl⟩,X.dec.kp rfl s,qz s X.wL,X.firsts.kp rfl s,rS (λ_ _=>rfl) s X.first,X.jX.kp rfl s,ub (λ_ _=>rfl) s X.kept,X.rows.kp rfl s⟩
def Ch.rV (st:Ch)(n:Nat)(pl:List Nat):Ch:={ st with au:=pl,aI:=st.aI.filter λx=>decide (x.1≠n) }
theorem ChX.waitOf (X:ChX A i c H o st dx aM aP aA aD aF aE aR ms ds ws fs es){n:Nat}{x:Nat×Int×List Nat}(hx:at1 n st.aI=some x):∃t p,jO (bc ((st.aI.map (·.1)).zip ws)) (km (n:Int))=some (.ref t)/\TupAt c H t [.int x.2.1,.ref p]/\LstAt i c H (.lR n) p (x.2.2.map nV):=by
 obtain⟨v,h1,t,p,rfl,h2,h3⟩:=X.wait.val hx;rw[(mH hx).1]at h3;exact⟨t,p,h1,h2,h3⟩
theorem ChX.rV (X:ChX A i c H o st dx aM aP aA aD aF aE aR ms ds ws fs es){n:Nat}{p:Addr}{pl:List Nat}(hl:LstAt i c H (.lR n) p (pl.map nV)) :
  ∃c' ws',Step (Wr i (Qa n)) c c' H (upd (upd H aA (.dK (kD (bc ((st.aI.map (·.1)).zip ws)) (km (n:Int))))) o (.ins A.ao dx (chF (.int st.cH) (.int st.aq) (.bl st.closed) (.ref aM) (.ref p) (.ref aA) (.ref aD) (.ref aF) (.ref aE) (.ref aR)))) /\
  ChX A i c' (upd (upd H aA (.dK (kD (bc ((st.aI.map (·.1)).zip ws)) (km (n:Int))))) o (.ins A.ao dx (chF (.int st.cH) (.int st.aq) (.bl st.closed) (.ref aM) (.ref p) (.ref aA) (.ref aD) (.ref aF) (.ref aE) (.ref aR)))) o (st.rV n pl) dx aM p aA aD aF aE aR ms ds ws' fs es:=by
 have oA:o≠aA:=qF X.co X.aI.1 (λz=>nomatch z)
 have op:o≠p:=qF X.co hl.1 (λz=>nomatch z)
 have Ap:aA≠p:=qF X.aI.1 hl.1 (λz=>nomatch z)
 obtain⟨ws',e1,e2⟩:=X.wait.drop (n:=n);refine⟨aH c p (some (i,.au)),ws',?_⟩;have s:Step (Wr i (Qa n)) c (aH c p (some (i,.au))) H (upd (upd H aA (.dK (kD (bc ((st.aI.map (·.1)).zip ws)) (km (n:Int))))) o (.ins A.ao dx (chF (.int st.cH) (.int st.aq) (.bl st.closed) (.ref aM) (.ref p) (.ref aA) (.ref aD) (.ref aF) (.ref aE) (.ref aR)))) :=
  ((Step.upd Wr.nn ⟨.aI,X.aI.1,rfl⟩).trans (Step.upd Wr.nn ⟨.ob,X.co,rfl⟩)).trans (Step.role Wr.nn ⟨.lR n,hl.1,decide_eq_true rfl⟩)
 have k1:aH c p (some (i,.au)) o=some (i,.ob):=by rw[ax op];exact X.co
 have hd:jW i (aH c p (some (i,.au))) (upd (upd H aA (.dK (kD (bc ((st.aI.map (·.1)).zip ws)) (km (n:Int))))) o (.ins A.ao dx (chF (.int st.cH) (.int st.aq) (.bl st.closed) (.ref aM) (.ref p) (.ref aA) (.ref aD) (.ref aF) (.ref aE) (.ref aR)))) .aI aA (((st.aI.filter λx=>decide (x.1≠n)).map (·.1)).zip ws') :=
  ⟨by rw[ax Ap];exact X.aI.1,by rw[aw oA.symm,ae,e1]⟩
 have hpl:LstAt i (aH c p (some (i,.au))) (upd (upd H aA (.dK (kD (bc ((st.aI.map (·.1)).zip ws)) (km (n:Int))))) o (.ins A.ao dx (chF (.int st.cH) (.int st.aq) (.bl st.closed) (.ref aM) (.ref p) (.ref aA) (.ref aD) (.ref aF) (.ref aE) (.ref aR)))) .au p (pl.map nV) :=
  ⟨a7,by rw[aw op.symm,aw Ap.symm];exact hl.2⟩
 exact⟨s,k1,ae,X.made.kp rfl s,qy s X.mot,hpl,hd,rR (λx hx=>decide_eq_false (of_decide_eq_true (List.mem_filter.mp hx).2)) s e2,X.dec.kp rfl s,qz s X.wL,X.firsts.kp rfl s,rS (λ_ _=>rfl) s X.first,X.jX.kp rfl s,ub (λ_ _=>rfl) s X.kept,X.rows.kp rfl s⟩
end
end My
set_option maxHeartbeats 1000000
namespace My
open PySem L2
seal PySem.wpAny
def ug (i:Nat)(c:Col)(H:Hp)(t:Addr)(xs:List V):Prop:=¬cB i (c t)/\H t=some (.tup xs)
def JO (i:Nat)(c:Col)(H:Hp)(t:Addr)(xs:List V):Prop:=¬cB i (c t)/\H t=some (.lst xs)
def lV (i:Nat)(c:Col)(H:Hp):R.gZ->Addr->Prop
 | .mat cs,t=>∃L,ug i c H t [.str (ar "matter"),.ref L]/\JO i c H L ((cs.map (kf R.bl1)).map V.str)
 | .ed m k j ws,t=>∃e,ug i c H t [.str (R.kEd m),.ref e]/\TupAt c H e (R.edR k j (kf R.bl1 ws))
 | .pt ws,t=>ug i c H t [.str (ar "point"),.str (kf R.bl1 ws)]
 | .nums kd ns,t=>ug i c H t (.str kd::ns.map V.int)
section
variable{i:Nat}{c c':Col}{H H':Hp}{t:Addr}{xs:List V}
theorem ug.step (s:Step (cB i) c c' H H')(h:ug i c H t xs):ug i c' H' t xs:=⟨by rw[s.col t _ h.2 h.1];exact h.1,s.keep _ _ h.2 h.1⟩
theorem JO.step (s:Step (cB i) c c' H H')(h:JO i c H t xs):JO i c' H' t xs:=⟨by rw[s.col t _ h.2 h.1];exact h.1,s.keep _ _ h.2 h.1⟩
theorem lV.step (s:Step (cB i) c c' H H'):∀ {d:R.gZ},lV i c H d t->lV i c' H' d t
 | .mat _,⟨L,a,b⟩=>⟨L,a.step s,b.step s⟩
 | .ed _ _ _ _,⟨e,a,b⟩=>⟨e,a.step s,b.step s⟩
 | .pt _,h=>ug.step s h
 | .nums _ _,h=>ug.step s h
theorem lV.at {K:ba}:∀ {d:R.gZ},lV i c H d t->R.qt K H d t
 | .mat _,⟨L,a,b⟩=>⟨L,SqT.of a.2,SqL.of b.2⟩
 | .ed _ _ _ _,⟨e,a,b⟩=>⟨e,SqT.of a.2,b.sq⟩
 | .pt _,h=>SqT.of h.2
 | .nums _ _,h=>SqT.of h.2
end
theorem MD {k:Nat}{j:Int}{x:Str}(h:k=0\/k=1\/k=2):R.edR k j x=iT ⟨k,j,x⟩:=by
 rcases h with rfl | rfl | rfl <;> rfl
theorem oV {t1 t2:TS}{D:Ends}{σ:St}{H:Hp}(J:St->Hp->Prop)(h2:∀σ' H',J σ' H'->t2 D σ' H')(h1:∀N:St->Hp->Prop,(∀σ' H',J σ' H'->N σ' H')->t1 { D with nx:=N } σ H):Q7 t1 t2 D σ H:=h1 (t2 D) h2
def Ch.opened (st:Ch):Ch:={ st with closed:=if st.au=[] then false else st.closed }
def Ch.pN (st:Ch)(row:Str):Ch:={ st.opened with rows:=st.rows++[row] }
def ME (A:Adr)(i:Nat):Sp:=λvs H Q _=>∃(o t:Addr) (c:Col) (st:Ch) (d:R.gZ),vs=[.ref o,.ref t]/\d9 A i c H o st/\lV i c H d t/\R.DOk d/\st.rows.length<=1000 /\
 ∀c' H',Step (cB i) c c' H H'->d9 A i c' H' o (st.pN (R.nS d))->Q .non H'
def MF (A:Adr)(i:Nat):Sp:=λvs H Q _=>∃(o:Addr) (u:Int) (c:Col) (st:Ch) (n:Nat) (r:List Nat),vs=[.ref o,.int u]/\d9 A i c H o st/\st.au=n::r/\n∉st.aI.map (·.1)/\st.aI.length<=1000 /\
 ∀c' H',Step (cB i) c c' H H'->d9 A i c' H' o (st.qG n u)->Q .non H'
def Ch.DP (st:Ch)(n:Nat)(tx:List Str)(e:Ed):Ch:={ st with made:=st.made.set (n - 1) (.mat (cn tx e)),kept:=DO n e st.kept }
def MG (A:Adr)(i:Nat):Sp:=λvs H Q _=>∃(o t:Addr) (c:Col) (st:Ch) (n:Nat) (r:List Nat) (tx:List Str) (e:Ed) (x:Nat×List Ed),vs=[.ref o,.ref t]/\d9 A i c H o st/\st.au=n::r/\fA st n/\st.mo n=.mat tx/\tx.length<=1000/\st.made.length<=1000 /\
 TupAt c H t (iT e)/\tZ e/\et tx.length e=true/\at1 n st.kept=some x/\x.2.length<=1000/\(st.kept.map (·.1)).Nodup /\
 ∀c' H',Step (cB i) c c' H H'->d9 A i c' H' o (st.DP n tx e)->Q .non H'
def Ch.OW (st:Ch)(n:Nat)(e:Ed)(ws:List Str):Ch:={ st with made:=st.made.set (n - 1) (.chg ⟨e.k,e.at_,kf R.bl1 ws⟩) }
def MH (A:Adr)(i:Nat):Sp:=λvs H Q _=>∃(o t:Addr) (c:Col) (st:Ch) (n:Nat) (r:List Nat) (e f:Ed),vs=[.ref o,.ref t]/\d9 A i c H o st/\st.au=r++[n]/\fA st n/\st.mo n=.chg e/\e.k≠1/\tZ e/\(R.bG e.th).length<=1000/\st.made.length<=1000 /\
 TupAt c H t (iT f)/\tZ f/\et (R.bG e.th).length f=true/\((cn (R.bG e.th) f).map (·.length)).sum+(cn (R.bG e.th) f).length<=16777216 /\
 ∀c' H',Step (cB i) c c' H H'->d9 A i c' H' o (st.OW n e (cn (R.bG e.th) f))->Q .non H'
theorem ChX.OX {A:Adr}{i:Nat}{c:Col}{H:Hp}{o dx aM aP aA aD aF aE aR:Addr}{st:Ch}{ms ds:List Addr}{ws fs es:List V}(X:ChX A i c H o st dx aM aP aA aD aF aE aR ms ds ws fs es){n:Nat}(hn:fA st n) :
  ∃x,jO (bc ((aem 1 st.made.length).zip (ms.map V.ref))) (km (n:Int))=some (.ref x)/\lT A c H (st.mo n) x:=by
 have ml:=X.mot.len;have hlt:n - 1 < st.made.length:=by have:=hn.1;have:=hn.2;omega
 obtain⟨x,e1,e2⟩:=X.mot.get (ad5 hlt);have hv:=zv ms 1 (n - 1) e1;rw[<-ml,show 1+(n - 1)=n by have:=hn.1;omega]at hv
 have e3:st.mo n=st.made[n - 1]:=by unfold Ch.mo;rw[wt,ad5 hlt];rfl
 exact⟨x,hv,by rw[e3];exact e2⟩
section
variable{P:ku}{w:World}{K:ba}{mg:Str->Option Value}{base:Heap}{A:Adr}
theorem pB (T:Txt w.params K mg A){i:Nat}:ay P w K mg base CX0 5 A.aY A.cg ["self","deed"] (ME A i):=by
 have jY:ay P w K mg base CX0 4 A.lx A.gP ["deed"] (R.CC K):=R.oO T;refine T.cz.ok nz (λvs H Q E h=>?_) (λcdv A' outer s H vs Q E hr h=>?_)
 ·obtain⟨o,t,c,st,d,rfl,_⟩:=h;rfl
 ·obtain⟨o,t,c,st,d,rfl,hc,hd,hk,hl,q⟩:=h;have iX:=hr;refine⟨_,(ai (bI (uJ (pZ (aZ (pv 0) rfl) (λ_=>rfl)))
 (aj (eB (pv 0) pY rfl))
 aQ)
 (aj (a6 (lA ad2 aeq aer gD (aZ (pv 0) rfl) (aa (bb jY iX rfl T.mF T.jT.kp T.mE .nil aV (aa (pv 1) ah)) ah))))),?_⟩
  have lim:gp=16777216:=by decide
  refine oV (λσ' H'=>σ'=[some (.ref o),some (.ref t)]/\Step (cB i) c c H H'/\d9 A i c H' o st.opened) ?r (λN nN=>?f)
  case f =>
   refine hide λGg hGg=>?_
   obtain⟨dx,aM,aP,aA,aD,aF,aE,aR,ms,ds,ws,fs,es,X⟩:=hc.ex;refine hGg ?_;refine eT rfl X.ob T.ag T.jq0 eP ?_;refine⟨_,.inl ⟨_,.inl (.inl X.au.2),rfl⟩,?_⟩;cases e:st.au with
   |nil =>
    refine pM ⟨_,rfl,o,A.ao,dx,_,rfl,X.ob,T.ag,T.jq4,(by show 10 < 1000;decide),?_⟩
    rw[zt];obtain⟨s1,X1⟩:=X.attr st.aq false;refine nN _ _ ⟨rfl,s1.qw,?_⟩;have e1:st.opened={ st with aq:=st.aq,closed:=false }:=by unfold Ch.opened;rw[e,if_pos rfl]
    rw[e1];exact X1.at
   |cons x r =>
    refine gf (nN _ _ ⟨rfl,Step.refl av,?_⟩);have e1:st.opened=st:=by unfold Ch.opened;rw[e,if_neg (aeC _ _)];cases st;cases e;rfl
    rw[e1];exact hc
  case r =>
   rintro σ' H1 ⟨rfl,s1,hc1⟩;refine hide λGg hGg=>?_
   obtain⟨dx,aM,aP,aA,aD,aF,aE,aR,ms,ds,ws,fs,es,X⟩:=hc1.ex;refine hGg ?_;refine eT rfl X.ob T.ag T.jqd uc ?_;refine⟨.inl ⟨rfl,_,SqL.of X.rows.2⟩,_,rfl,t,d,rfl,(hd.step s1).at,hk,λH2 s2=>?_⟩
   have X2:=X.same s2;obtain⟨s3,X3⟩:=X2.row (R.nS d);refine⟨aR,_,_,rfl,rfl,X2.rows.2,by rw[cb];show st.rows.length < _;omega,?_⟩
   exact q c _ ((s1.trans (Step.same av s2)).trans s3.qw) X3.at
theorem CK (T:Txt w.params K mg A){i:Nat}:ay P w K mg base CX0 1 A.bz A.d3 ["self","until"] (MF A i):=by
 refine T.dh.ok qd (λvs H Q E h=>?_) (λcdv A' outer s H vs Q E hr h=>?_)
 ·obtain⟨o,u,c,st,n,r,rfl,_⟩:=h;rfl
 ·obtain⟨o,u,c,st,n,r,rfl,hc,hp,hn,hl,q⟩:=h;obtain⟨dx,aM,aP,aA,aD,aF,aE,aR,ms,ds,ws,fs,es,X⟩:=hc.ex;have hu1:=hr.u1;have lim:gp=16777216:=by decide
  refine⟨_,(ai (rj hu1 (aZ (pv 0) rfl) (bp iH (aZ (pv 0) rfl) ak (λ_ _=>rfl)) (bH (aa (pv 1) (aa (aZ (pv 0) rfl) ah))) rfl)
 (aj (eB (pv 0) (gQ ah) rfl))),?_⟩
  refine⟨_,rfl,eT rfl X.ob T.ag T.jq0 eP ⟨(sl 2),λt ht=>?_⟩⟩
  have s1:=aK (o:=.tup [V.int u,.ref aP]) ht;refine eT rfl (s1 _ _ X.ob) T.ag T.jq3 js ?_;have h0:atI (st.au.map nV) 0=some (nV n):=by rw[hp];exact oq (j:=0) rfl
  refine eT rfl (s1 _ _ X.ob) T.ag T.jq0 eP ⟨aP,_,_,_,rfl,rfl,SqL.of (s1 _ _ X.au.2),h0,?_⟩;refine⟨aA,_,rfl,wA.k (k:=km (n:Int)) (s1 _ _ X.aI.2) ?_,?_⟩
  ·unfold bc;rw[cb,afm,cb];omega
  have oA:o≠aA:=qF X.co X.aI.1 (λz=>nomatch z)
  refine⟨(sl 0),λp hp0=>?_⟩
  have npA:p≠aA:=λz=>by rw[z,ae]at hp0;cases hp0
  have npt:p≠t:=λz=>by rw[aw npA,z,ae]at hp0;cases hp0
  have hp1:H p=none:=by rw[aw npA,aw npt]at hp0;exact hp0
  have hob:(upd (upd (upd H t (.tup [V.int u,.ref aP])) aA (.dK (putK (bc ((st.aI.map (·.1)).zip ws)) (km (n:Int)) (.ref t)))) p (.lst [])) o=some (.ins A.ao dx (chF (.int st.cH) (.int st.aq) (.bl st.closed) (.ref aM) (.ref aP) (.ref aA) (.ref aD) (.ref aF) (.ref aE) (.ref aR))):=by
   rw[aw (aN X.ob hp1),aw oA];exact s1 _ _ X.ob
  refine⟨_,rfl,o,A.ao,dx,_,rfl,hob,T.ag,T.jq0,(by show 10 < 1000;decide),?_⟩
  rw[DK];refine hide λGg hGg=>?_
  obtain⟨c',s2,X2⟩:=X.qG (u:=u) ht hp1 npt hn;refine hGg ?_;exact q c' _ s2.qw X2.at
theorem vp (T:Txt w.params K mg A){i:Nat}:ay P w K mg base CX0 4 A.a8 A.cP ["self","edit"] (MG A i):=by
 have Mo:ay P w K mg base CX0 1 A.JI A.A3 ["self","text"] (yj A K):=zp T;have GJ:ay P w K mg base (CXX P w) 3 A.laid A.tO ["things","edit"] (GC A K):=IJ T;refine T.cj.ok gU (λvs H Q E h=>?_) (λcdv A' outer s H vs Q E hr h=>?_)
 ·obtain⟨o,t,c,st,n,r,tx,e,x,rfl,_⟩:=h;rfl
 ·obtain⟨o,t,c,st,n,r,tx,e,x,rfl,hc,hp,hn,hm,htx,hml,ht,he,hf,hx,hxl,hnd,q⟩:=h;obtain⟨dx,aM,aP,aA,aD,aF,aE,aR,ms,ds,ws,fs,es,X⟩:=hc.ex;have hu1:=hr.u1;have CL:Room 3 _:=hr;have fg:Room 2 _:=hr.mono (by decide)
  have lim:gp=16777216:=by decide
  refine⟨_,(ai (bh (i:=2) gU.nd rfl (aec rfl) (bp iH (aZ (pv 0) rfl) ak (λ_ _=>rfl)))
 (ai (rj hu1 (aZ (pv 0) rfl) (pv 2) (gB T.tW Mo fg rfl T.tU T.OE .nil aV (aa (bb GJ CL rfl T.Gv T.Cj.kp T.Gu .nil cY (aa (aZ (mz hu1 (aZ (pv 0) rfl) (pv 2) (λ_ _=>rfl)) rfl) (aa (pv 1) ah))) ah)) rfl)
 (aj (a6 (lA ad2 aeq aer gD (mz hu1 (aZ (pv 0) rfl) (pv 2) (λ_ _=>rfl)) (aa (pv 1) ah)))))),?_⟩
  refine hide λGg hGg=>?_
  have h0:atI (st.au.map nV) 0=some (nV n):=by rw[hp];exact oq (j:=0) rfl
  obtain⟨m,hv,hmo⟩:=X.OX hn;rw[hm]at hmo;obtain⟨_,dm,v,Sm,L,rfl,hL⟩:=hmo;refine hGg ?_;refine eT rfl X.ob T.ag T.jq0 eP ⟨aP,_,_,_,rfl,rfl,SqL.of X.au.2,h0,?_⟩;refine⟨_,rfl,o,A.ao,dx,_,.ref aM,rfl,X.ob,T.ag,T.jq2,g0,_,rfl,aM,_,rfl,.inl ⟨_,km (n:Int),.inl X.made.2,rfl,hv.symm⟩,?_⟩;refine⟨m,A.C 0,dm,_,.ref L,rfl,Sm,T.cl 0 (by decide),T.na0,rfl,_,rfl,?_⟩
  refine⟨L,t,tx,e,rfl,SqL.of hL.2,htx,ht.sq,he,λ_ p hp0=>?_,λz=>by rw[hf]at z;cases z⟩
  refineλy dy hy hdy ndy=>?_
  refine⟨y,dy,p,(cn tx e).map V.str,rfl,ae,?_,λp2 hp2=>⟨rfl,?_⟩⟩
  ·exact(((aK hdy).new ((aw (ad9 ndy)).trans hy)).seq (SqL.of ae))
  have hy0:H y=none:=by
   by_cases z:y=p
   ·rw[z,ae]at hy;cases hy
   ·rw[aw z]at hy;exact hy
  have abQ:H dy=none:=by
   by_cases z:dy=p
   ·rw[z,ae]at hdy;cases hdy
   ·rw[aw z]at hdy;exact hdy
  have sm0:bJ H (upd (upd (upd H p (.lst ((cn tx e).map V.str))) dy (.own y)) y (.ins (A.C 0) dy [])):=((aK hp0).own abQ).own hy0;have W4:H p2=none:=by
   cases z:H p2 with
   |none=>rfl
   |some v=>rw[sm0 _ _ z]at hp2;cases hp2
  have sm:bJ H (upd (upd (upd (upd (upd H p (.lst ((cn tx e).map V.str))) dy (.own y)) y (.ins (A.C 0) dy [])) p2 (.lst ((cn tx e).map V.str))) y (.ins (A.C 0) dy (nQ 0 (.ref p2)))):=(sm0.own W4).own hy0;have nyp:y≠p2:=λz=>by rw[<-z,ae]at hp2;cases hp2
  have X1:=X.cl sm;have hmn:lT A (bP c H) (upd (upd (upd (upd (upd H p (.lst ((cn tx e).map V.str))) dy (.own y)) y (.ins (A.C 0) dy [])) p2 (.lst ((cn tx e).map V.str))) y (.ins (A.C 0) dy (nQ 0 (.ref p2)))) (.mat (cn tx e)) y :=
   ⟨dI hy0,dy,.ref p2,ae,p2,rfl,dI W4,(aw (ad9 nyp)).trans ae⟩
  have st1:Step (cB i) c (bP c H) H _:=Step.cl av sm;have ht1:=ht.step st1;generalize upd (upd (upd (upd (upd H p (.lst ((cn tx e).map V.str))) dy (.own y)) y (.ins (A.C 0) dy [])) p2 (.lst ((cn tx e).map V.str))) y (.ins (A.C 0) dy (nQ 0 (.ref p2)))=H1 at X1 hmn st1 ht1 ⊢;generalize bP c H=c1 at X1 hmn st1 ht1;refine eT rfl X1.ob T.ag T.jq2 g0 ⟨_,rfl,aM,_,rfl,wA.k (k:=km (n:Int)) X1.made.2 ?_,?_⟩
  ·unfold bc;rw[cb,afm,aeW];omega
  obtain⟨s2,X2⟩:=X1.Jc hn hmn;have ht2:=ht1.step s2.qw;generalize upd H1 aM (.dK (putK (bc ((aem 1 st.made.length).zip (ms.map V.ref))) (km (n:Int)) (.ref y)))=H2 at s2 X2 ht2 ⊢;refine hide λGg hGg=>?_
  obtain⟨pk,ts,hv2,hl2,tl⟩:=X2.Sl hx;refine hGg ?_;refine⟨_,rfl,o,A.ao,dx,_,.ref aE,rfl,X2.ob,T.ag,T.jq5,qA,_,rfl,aE,_,rfl,.inl ⟨_,km (n:Int),.inl X2.jX.2,rfl,hv2.symm⟩,?_⟩;refine⟨.inl ⟨rfl,_,SqL.of hl2.2⟩,_,rfl,pk,_,_,rfl,rfl,hl2.2,by rw[cb];omega,?_⟩
  obtain⟨s3,X3⟩:=X2.OU hv2 hl2 hnd ht2;exact q c1 _ ((st1.trans s2.qw).trans s3.qw) X3.at
theorem vq (T:Txt w.params K mg A){i:Nat}:ay P w K mg base CX0 4 A.a9 A.cQ ["self","edit"] (MH A i):=by
 have Mp:ay P w K mg base CX0 1 A.JJ A.A4 ["self","edit"] (jr A 1):=lQ T;have GJ:ay P w K mg base (CXX P w) 3 A.laid A.tO ["things","edit"] (GC A K):=IJ T;have fh:ay P w K mg base CX0 1 A.words_of A.eV ["clause"] R.ly:=R.jV T;have qu:ay P w K mg base CX0 1 A.nH A.iL ["words"] (R.sy K):=R.ua T;refine T.ck.ok cO (λvs H Q E h=>?_) (λcdv A' outer s H vs Q E hr h=>?_)
 ·obtain⟨o,t,c,st,n,r,e,f,rfl,_⟩:=h;rfl
 ·obtain⟨o,t,c,st,n,r,e,f,rfl,hc,hp,hn,hm,hk1,heo,hwl,hml,ht,hfo,hf,hsz,q⟩:=h;obtain⟨dx,aM,aP,aA,aD,aF,aE,aR,ms,ds,ws,fs,es,X⟩:=hc.ex;have hu1:=hr.u1;have CL:Room 3 _:=hr;have fg:Room 2 _:=hr.mono (by decide)
  have d8:Room 1 _:=hr.mono (by decide)
  have oQ:Room 1 _:=hr.mono (by decide)
  have lim:gp=16777216:=by decide
  refine⟨_,(ai (bh (i:=2) cO.nd rfl (aec rfl) (bp iH (aZ (pv 0) rfl) (AF uL ak) (λ_ _=>rfl)))
 (ai (bh (i:=3) cO.nd rfl (aec rfl) (aZ (mz hu1 (aZ (pv 0) rfl) (pv 2) (λ_ _=>rfl)) rfl))
 (ai (bh (i:=4) cO.nd rfl (aec rfl) (bb GJ CL rfl T.Gv T.Cj.kp T.Gu .nil cY (aa (bb fh d8 rfl T.jk T.ia.kp T.jj .nil aV (aa (bp bf (pv 3) ak (λ_ _=>rfl)) ah)) (aa (pv 1) ah))))
 (aj (rj hu1 (aZ (pv 0) rfl) (pv 2) (gB T.tX Mp fg rfl T.tV T.OF .nil aV (aa (bH (aa (bp bf (pv 3) ak (λ_ _=>rfl)) (aa (bp bf (pv 3) ak (λ_ _=>rfl)) (aa (bb qu oQ rfl T.qk T.mC.kp T.qj .nil aV (aa (pv 4) ah)) ah)))) ah)) rfl))))),?_⟩
  refine hide λGg hGg=>?_
  have h0:atI (st.au.map nV) (-1)=some (nV n):=by rw[hp,ky];exact yy _ _
  obtain⟨m,hv,hmo⟩:=X.OX hn;rw[hm]at hmo;obtain⟨_,dm,v,Sm,te,rfl,hte⟩:=hmo;refine hGg ?_;refine⟨_,rfl,o,A.ao,dx,_,.ref aP,rfl,X.ob,T.ag,T.jq0,eP,_,rfl,aP,_,_,_,rfl,rfl,SqL.of X.au.2,h0,?_⟩;refine⟨_,rfl,o,A.ao,dx,_,.ref aM,rfl,X.ob,T.ag,T.jq2,g0,_,rfl,aM,_,rfl,.inl ⟨_,km (n:Int),.inl X.made.2,rfl,hv.symm⟩,?_⟩;refine⟨m,A.C 1,dm,_,.ref te,rfl,Sm,T.cl 1 (by decide),T.na1,rfl,?_⟩
  have h2:=Cu (e:=e) hk1;refine ixv rfl hte.sq h2 ⟨e.th,rfl,?_,λp1 hp1=>?_⟩
  ·have:=heo.th.len;omega
  have s1:=aK (o:=.lst ((R.bG e.th).map V.str)) hp1;refine⟨_,rfl,p1,t,R.bG e.th,f,rfl,SqL.of ae,hwl,dW s1 ht.sq,hfo,λ_ p2 hp2=>?_,λz=>by rw[hf]at z;cases z⟩
  have s2:=s1.new (o:=.lst ((cn (R.bG e.th) f).map V.str)) hp2;refine ixv rfl (dW s2 hte.sq) (Cs e) (ixv rfl (dW s2 hte.sq) (Ct e) ⟨_,rfl,p2,_,rfl,SqL.of ae,hsz,(sl 3),λtn htn=>?_⟩)
  have s3:=s2.new (o:=.tup [V.str (kn e.k),.int e.at_,.str (kf R.bl1 (cn (R.bG e.th) f))]) htn;refineλy dy hy hdy ndy=>?_
  refine⟨y,dy,.ref tn,rfl,ae,rfl,?_⟩;have hno:∀ {a:Addr},(upd (upd (upd H p1 (.lst ((R.bG e.th).map V.str))) p2 (.lst ((cn (R.bG e.th) f).map V.str))) tn (.tup [V.str (kn e.k),.int e.at_,.str (kf R.bl1 (cn (R.bG e.th) f))])) a=none->H a=none:=by
   intro a ha;cases z:H a with
   |none=>rfl
   |some v=>rw[s3 _ _ z]at ha;cases ha
  have nyt:y≠tn:=λz=>by rw[z,ae]at hy;cases hy
  have ndt:dy≠tn:=λz=>by rw[z,ae]at hdy;cases hdy
  have abR:H tn=none:=by
   cases z:H tn with
   |none=>rfl
   |some v=>rw[s2 _ _ z]at htn;cases htn
  have sm:=((s3.own (o:=.own y) (hno hdy)).own (o:=.ins (A.C 1) dy []) (hno hy)).own (o:=.ins (A.C 1) dy (nQ 1 (.ref tn))) (hno hy);have X1:=X.cl sm;have er:iT ⟨e.k,e.at_,kf R.bl1 (cn (R.bG e.th) f)⟩=[V.str (kn e.k),.int e.at_,.str (kf R.bl1 (cn (R.bG e.th) f))]:=by
   obtain⟨k,a,th⟩:=e;have h3:=heo.k3;dsimp only at h3 hk1 ⊢;rcases h3 with rfl | rfl | rfl
   ·rfl
   ·exact absurd rfl hk1
   ·rfl
  have hmn:=(⟨dI (hno hy),dy,.ref tn,ae,tn,rfl,dI abR,.inl (by rw[aw (ad9 nyt),aw (ad9 nyt),aw (ad9 ndt),ae,er])⟩:lT A (bP c H) (upd (upd (upd (upd (upd (upd H p1 (.lst ((R.bG e.th).map V.str))) p2 (.lst ((cn (R.bG e.th) f).map V.str))) tn (.tup [V.str (kn e.k),.int e.at_,.str (kf R.bl1 (cn (R.bG e.th) f))])) dy (.own y)) y (.ins (A.C 1) dy [])) y (.ins (A.C 1) dy (nQ 1 (.ref tn)))) (.chg ⟨e.k,e.at_,kf R.bl1 (cn (R.bG e.th) f)⟩) y)
  have st1:Step (cB i) c (bP c H) H _:=Step.cl av sm;generalize upd (upd (upd (upd (upd (upd H p1 (.lst ((R.bG e.th).map V.str))) p2 (.lst ((cn (R.bG e.th) f).map V.str))) tn (.tup [V.str (kn e.k),.int e.at_,.str (kf R.bl1 (cn (R.bG e.th) f))])) dy (.own y)) y (.ins (A.C 1) dy [])) y (.ins (A.C 1) dy (nQ 1 (.ref tn)))=H1 at X1 hmn st1 ⊢;generalize bP c H=c1 at X1 hmn st1;refine eT rfl X1.ob T.ag T.jq2 g0 ⟨_,rfl,aM,_,rfl,wA.k (k:=km (n:Int)) X1.made.2 ?_,?_⟩
  ·unfold bc;rw[cb,afm,aeW];omega
  obtain⟨s4,X2⟩:=X1.Jc hn hmn;exact q c1 _ (st1.trans s4.qw) X2.at
end
end My
set_option maxHeartbeats 1000000
namespace My
open PySem L2
seal PySem.wpAny
def zD (below:List Mn):Mn->Prop
 | .mat _=>below=[]
 | .chg e=>∃tx,below=[.mat tx]/\et tx.length e=true
 | .mnd f=>∃tx e,below=[.mat tx,.chg e]/\e.k≠1/\et (R.bG e.th).length f=true
 | .off _=>(∃tx r,below=.mat tx::r)/\∀b∈below,b.k < 3
 | .cls=>(∃tx r,below=.mat tx::r)/\∀b∈below,b.k < 4
 | .lay=>(∃tx r,below=.mat tx::r)/\∀b∈below,b.k < 5
 | .rst=>∀b∈below,b.k < 6
 | .pnt _=>∀b∈below,b.k < 7
inductive PMs:List Mn->Prop
 |nil:PMs []
 |snoc {ms:List Mn} {m:Mn}:PMs ms->zD ms m->PMs (ms++[m])
theorem PMs.pop {ms:List Mn}{m:Mn}(h:PMs (ms++[m])):PMs ms/\zD ms m:=by
 generalize e:ms++[m]=l at h;cases h with
 |nil=>simp at e
 |snoc h1 h2 =>
  obtain⟨e1,e2⟩:=List.append_inj' e rfl;cases e2;subst e1;exact⟨h1,h2⟩
theorem zD.lt {below:List Mn}:∀ {m:Mn},zD below m->∀b∈below,b.k < m.k
 | .mat _,h,b,hb=>by rw[h]at hb;cases hb
 | .chg _,⟨tx,h,_⟩,b,hb=>by
  rw[h,tu]at hb;rw[hb];show 0 < 1;decide
 | .mnd _,⟨tx,e,h,_,_⟩,b,hb=>by
  rw[h]at hb;rcases List.mem_cons.mp hb with rfl | hb
  ·show 0 < 2;decide
  ·rw[tu]at hb;rw[hb];show 1 < 2;decide
 | .off _,h,b,hb=>h.2 b hb
 | .cls,h,b,hb=>h.2 b hb
 | .lay,h,b,hb=>h.2 b hb
 | .rst,h,b,hb=>h b hb
 | .pnt _,h,b,hb=>h b hb
theorem PMs.le_top {ms:List Mn}(h:PMs ms):∀b∈ms,(b.k:Int)<=kW ms:=by
 cases h with
 |nil=>intro b hb;cases hb
 |snoc h1 h2 =>
  intro b hb;rw[rD];rcases List.mem_append.mp hb with hb | hb
  ·have:=h2.lt b hb;omega
  ·rw[tu]at hb;rw[hb];exact Int.le_refl _
theorem PMs.JP {ms:List Mn}(h:PMs ms):CF ms=true->∃tx r,ms=.mat tx::r:=by
 induction h with
 |nil=>intro h;cases h
 | @snoc ms m h1 h2 ih =>
  intro h;unfold CF at h ih;rw[List.any_append,Bool.or_eq_true]at h;rcases h with h | h
  ·obtain⟨tx,r,e⟩:=ih h;exact⟨tx,r++[m],by rw[e];rfl⟩
  ·cases m with
   |mat tx =>
    have:ms=[]:=h2;rw[this];exact⟨tx,[],rfl⟩
   |_=>simp[Mn.k]at h
theorem PMs.len {ms:List Mn}(h:PMs ms):(ms.length:Int)<=kW ms+1:=by
 induction h with
 |nil=>decide
 | @snoc ms m h1 h2 ih =>
  rw[rD,kr,ad4];have:kW ms < (m.k:Int):=by
   unfold kW;split
   ·omega
   ·rename_i b hb;have:=h2.lt b (List.mem_of_getLast? hb);omega
  omega
theorem PMs.GK {ms:List Mn}(h:PMs ms):ms.length<=8:=by
 have:=h.len;have:=Mw ms;omega
theorem qH (cl:Bool)(ms:List Mn):kW ms<=sD cl ms:=by
 unfold sD;split
 ·split <;> omega
 ·exact Int.le_refl _
theorem uh {cl:Bool}{ms:List Mn}{k:Nat}(h:qC cl ms k=none):kW ms < (k:Int)/\wb ms k=true:=by
 have hb:=qH cl ms;unfold qC at h;split at h
 ·cases h
 ·split at h
  ·exact⟨by omega,by assumption⟩
  ·split at h <;> cases h
theorem zE {ms:List Mn}(h:kW ms < 0):ms=[]:=by
 rcases aej ms with e | ⟨r,b,e⟩
 ·exact e
 ·rw[e,aek,rD]at h;omega
def W5 (ms:List Mn):Mn->Prop
 | .chg e=>∀tx r,ms=.mat tx::r->et tx.length e=true
 | .mnd f=>∀r e,ms=r++[.chg e]->et (R.bG e.th).length f=true
 |_=>True
theorem rF {α:Type}{xs:List α}{x:α}(h:xs.getLast?=some x):∃r,xs=r++[x]:=by
 rcases aej xs with e | ⟨r,b,e⟩
 ·rw[e]at h;cases h
 ·rw[aek]at e;rw[e,aeG]at h;cases h;exact⟨r,e⟩
theorem PMs.push {cl:Bool}{ms:List Mn}(h:PMs ms){m:Mn}(ho:qC cl ms m.k=none)(hf:W5 ms m):PMs (ms++[m]):=by
 obtain⟨h1,h2⟩:=uh ho;have lt:∀b∈ms,b.k < m.k:=λb hb=>by have:=h.le_top b hb;omega
 refine .snoc h ?_;cases m with
 |mat tx=>exact zE h1
 |chg e =>
  obtain⟨tx,r,e1⟩:=h.JP h2;refine⟨tx,?_,hf tx r e1⟩;rcases aej r with e2 | ⟨r',b,e2⟩
  ·rw[e1,e2]
  ·rw[aek]at e2;have hb:b.k < 1:=lt b (by rw[e1,e2];simp)
   rw[e1,e2,<-List.cons_append]at h;have ht:=h.pop.2;cases b with
   |mat ty=>exact absurd ht (aeC _ _)
   |_=>simp[Mn.k]at hb
 |mnd f =>
  have h3:mO ms=true:=h2;unfold mO at h3;split at h3
  ·rename_i e he;obtain⟨r,e1⟩:=rF he;rw[e1]at h;obtain⟨tx,e2,_⟩:=h.pop.2;refine⟨tx,e,by rw[e1,e2];rfl,?_,hf r e e1⟩
   intro z;rw[z]at h3;cases h3
  ·cases h3
 |off n=>exact⟨h.JP h2,lt⟩
 |cls=>exact⟨h.JP h2,lt⟩
 |lay=>exact⟨h.JP h2,lt⟩
 |rst=>exact lt
 |pnt z=>exact lt
theorem CM {st:Ch}{n:Nat}{m:Mn}(hn:fA st n){st':Ch}(h:st'.made=st.made.set (n - 1) m):st'.mo n=m:=by
 unfold Ch.mo;have:=hn.1;have:=hn.2;rw[h,wt,List.getElem?_set_self (by omega)]
 rfl
theorem rG {st:Ch}{n k:Nat}{m:Mn}(hn:fA st n)(h1:1<=k)(ne:k≠n){st':Ch}(h:st'.made=st.made.set (n - 1) m):st'.mo k=st.mo k:=by
 unfold Ch.mo;have:=hn.1;rw[h,wt,List.getElem?_set_ne (by omega),<-wt]
theorem CN {st:Ch}{m:Mn}{st':Ch}(h:st'.made=st.made++[m]){k:Nat}(hk:fA st k):st'.mo k=st.mo k:=by
 unfold Ch.mo;have:=hk.1;have:=hk.2;rw[h,wt,List.getElem?_append_left (by omega),<-wt]
theorem GL {st:Ch}{m:Mn}{st':Ch}(h:st'.made=st.made++[m]):st'.mo (st.made.length+1)=m:=by
 unfold Ch.mo;rw[h,wt,Nat.add_sub_cancel,List.getElem?_append_right (kg _),Nat.sub_self];rfl
def EdB (N:Nat)(e:Ed):Prop:=(e.k=0\/e.k=1\/e.k=2)/\-1000<=e.at_/\e.at_<=1000/\∃ws,e.th=kf R.bl1 ws/\(∀w∈ws,R.nR w)/\ws.length<=N
def MOk (N:Nat):Mn->Prop
 | .mat tx=>tx.length<=12+N/\∀x∈tx,aef x=true
 | .chg e=>EdB (12+N) e
 | .mnd f=>EdB 1 f/\∃w,f.th=w/\R.nR w
 | .off u=>-10000000000 < u/\u < 10000000000
 | .pnt z=>aef z=true
 |_=>True
theorem EdB.mono {N M:Nat}(h:N<=M){e:Ed}(z:EdB N e):EdB M e:=by
 obtain⟨a,b,c,ws,d,f,g⟩:=z;exact⟨a,b,c,ws,d,f,om g h⟩
theorem MOk.mono {N M:Nat}(h:N<=M):∀ {m:Mn},MOk N m->MOk M m
 | .mat tx,z=>⟨om z.1 (by omega),z.2⟩
 | .chg e,z=>EdB.mono (by omega) z
 | .mnd f,z=>z
 | .off u,z=>z
 | .cls,_=>trivial
 | .lay,_=>trivial
 | .rst,_=>trivial
 | .pnt _,z=>z
def Ch.all (st:Ch):List Nat:=st.au++(st.aI.flatMap (·.2.2)++st.decided.map (·.1))
def Ch.vr (st:Ch):List Nat:=(aem 1 st.made.length).filter λn=>decide ((st.mo n).k=0)
structure Inv (N:Nat)(st:Ch):Prop where
 lm:3 * st.made.length<=N
 lr:st.rows.length<=N
 ld:st.decided.length<=N
 la:st.aI.length<=N
 lk:∀x∈st.kept,x.2.length<=N
 sit:1<=st.aq/\st.aq<=N+1
 mok:∀m∈st.made,MOk N m
 num:∀n∈st.all,fA st n
 nd:st.all.Nodup
 pil:PMs (st.au.map st.mo)
 asd:∀x∈st.aI,PMs (x.2.2.map st.mo)/\(∃r,x.2.2=x.1::r)/\-10000000000 < x.2.1/\x.2.1 < 10000000000
 kk:st.kept.map (·.1)=st.vr
 ff:st.firsts.map (·.1)=st.vr
 dw:∀x∈st.decided,aef x.2=true
theorem Inv.mono {N M:Nat}(h:N<=M){st:Ch}(I:Inv N st):Inv M st where
 lm:=om I.lm h
 lr:=om I.lr h
 ld:=om I.ld h
 la:=om I.la h
 lk:=λx hx=>om (I.lk x hx) h
 sit:=⟨I.sit.1,by have:=I.sit.2;omega⟩
 mok:=λm hm=>(I.mok m hm).mono h
 num:=I.num
 nd:=I.nd
 pil:=I.pil
 asd:=I.asd
 kk:=I.kk
 ff:=I.ff
 dw:=I.dw
theorem Inv.DQ {N:Nat}{st:Ch}(I:Inv N st){n:Nat}(hn:fA st n):MOk N (st.mo n):=by
 have:=hn.1;have:=hn.2;have hlt:n - 1 < st.made.length:=by omega
 have e:st.mo n=st.made[n - 1]:=by unfold Ch.mo;rw[wt,ad5 hlt];rfl
 rw[e];exact I.mok _ (List.getElem_mem hlt)
theorem Inv.cS {N:Nat}{st:Ch}(I:Inv N st):∀n∈st.au,fA st n:=λn hn=>I.num n (aex _ hn)
theorem Inv.ui {N:Nat}{st:Ch}(I:Inv N st){x:Nat×Int×List Nat}(hx:x∈st.aI):∀n∈x.2.2,fA st n:=λn hn =>
 I.num n (me _ (aex _ (List.mem_flatMap.mpr ⟨x,hx,hn⟩)))
theorem Inv.Jd {N:Nat}{st:Ch}(I:Inv N st){n:Nat}(hn:n∈st.au){x:Nat×Int×List Nat}(hx:x∈st.aI):n∉x.2.2:=λz =>
 (List.nodup_append.mp I.nd).2.2 n hn n (aex _ (List.mem_flatMap.mpr ⟨x,hx,z⟩)) rfl
theorem Inv.MI {N:Nat}{st:Ch}(I:Inv N st){n:Nat}(hn:n∈st.au):n∉st.aI.map (·.1):=λz=>by
 obtain⟨x,hx,e⟩:=List.mem_map.mp z;obtain⟨r,er⟩:=(I.asd x hx).2.1;exact I.Jd hn hx (by rw[er,e];exact fu)
theorem OY {st st':Ch}(hl:st'.made.length=st.made.length)(hk:∀n,fA st n->(st'.mo n).k=(st.mo n).k):st'.vr=st.vr:=by
 unfold Ch.vr;rw[hl];refine List.filter_congr λn hn=>?_
 rw[List.mem_range'_1]at hn;rw[hk n ⟨hn.1,by omega⟩]
theorem GN (st:Ch):st.vr.Nodup:=List.filter_sublist.nodup List.nodup_range'
theorem Inv.keptAt {N:Nat}{st:Ch}(I:Inv N st){n:Nat}(hn:fA st n)(hk:(st.mo n).k=0):∃x,at1 n st.kept=some x/\x.2.length<=N:=by
 cases e:at1 n st.kept with
 |some x=>exact⟨x,rfl,I.lk x (mH e).2⟩
 |none =>
  have h:=zC e;rw[I.kk]at h;have hr:n∈aem 1 st.made.length:=by
   rw[List.mem_range'_1];have:=hn.1;have:=hn.2;omega
  exact absurd (show n∈st.vr from List.mem_filter.mpr ⟨hr,by exact decide_eq_true hk⟩) h
def Ch.popped (st:Ch)(pre:List Nat)(n:Nat)(wd:Str):Ch:={ st with au:=pre,decided:=st.decided++[(n,wd)] }
theorem Inv.pop {N:Nat}{st:Ch}(I:Inv N st){pre:List Nat}{n:Nat}(e:st.au=pre++[n])(wd:Str)(hw:aef wd=true):Inv (N+1) (st.popped pre n wd)/\zD (pre.map st.mo) (st.mo n):=by
 have hp:=I.pil;rw[e,ky]at hp;obtain⟨p1,p2⟩:=PMs.pop hp;have perm:afc (st.popped pre n wd).all st.all:=by
  unfold Ch.all Ch.popped;rw[e,ky];have:afc (st.aI.flatMap (·.2.2)++(st.decided.map (·.1)++[(n,wd)].map (·.1))) ([n]++(st.aI.flatMap (·.2.2)++st.decided.map (·.1))):=by
   rw[<-ae3];exact List.perm_append_comm
  exact(List.Perm.append_left pre this).trans (by rw[ae3])
 refine⟨⟨ad7 I.lm,ad7 I.lr,?_,ad7 I.la,λx hx=>ad7 (I.lk x hx),⟨I.sit.1,by have:=I.sit.2;show st.aq<=_;omega⟩,λm hm=>(I.mok m hm).mono (by omega),λk hk=>I.num k (perm.mem_iff.mp hk),perm.nodup_iff.mpr I.nd,p1,I.asd,I.kk,I.ff,?_⟩,p2⟩
 ·show (st.decided++[(n,wd)]).length<=_;rw[kr,ad4];have:=I.ld;omega
 ·intro x hx;rcases List.mem_append.mp hx with h | h
  ·exact I.dw x h
  ·rw[tu]at h;rw[h];exact hw
theorem Inv.pN {N:Nat}{st:Ch}(I:Inv N st)(z:Str):Inv (N+1) (st.pN z):=by
 refine⟨ad7 I.lm,?_,ad7 I.ld,ad7 I.la,λx hx=>ad7 (I.lk x hx),⟨I.sit.1,by have:=I.sit.2;show st.aq<=_;omega⟩,λm hm=>(I.mok m hm).mono (by omega),I.num,I.nd,I.pil,I.asd,I.kk,I.ff,I.dw⟩
 show (st.rows++[z]).length<=_;rw[kr,ad4];have:=I.lr;omega
theorem Inv.Qb {N:Nat}{st:Ch}(I:Inv N st){n:Nat}{m:Mn}(hn:n∈st.au)(hk:m.k=(st.mo n).k)(hm:MOk (N+1) m){kp:List (Nat×List Ed)}(ek:kp.map (·.1)=st.kept.map (·.1))(lk:∀x∈kp,x.2.length<=N+1)
  (hp:PMs (st.au.map (Ch.mo { st with made:=st.made.set (n - 1) m,kept:=kp }))):Inv (N+1) { st with made:=st.made.set (n - 1) m,kept:=kp }:=by
 have hno:=I.cS n hn;have kinds:∀k,fA st k->(Ch.mo { st with made:=st.made.set (n - 1) m,kept:=kp } k).k=(st.mo k).k:=λk h=>by
  by_cases z:k=n
  ·subst z;rw[CM hno rfl,hk]
  ·rw[rG hno h.1 z rfl]
 have em:Ch.vr { st with made:=st.made.set (n - 1) m,kept:=kp }=st.vr:=OY (by show (st.made.set (n - 1) m).length=_;rw[aeT]) kinds
 refine⟨?_,ad7 I.lr,ad7 I.ld,ad7 I.la,lk,⟨I.sit.1,by have:=I.sit.2;show st.aq<=_;omega⟩,?_,?_,I.nd,hp,?_,by rw[em,<-I.kk];exact ek,by rw[em];exact I.ff,I.dw⟩
 ·show 3 * (st.made.set (n - 1) m).length<=_;rw[aeT];have:=I.lm;omega
 ·intro x hx;rcases List.mem_or_eq_of_mem_set hx with h | h
  ·exact(I.mok x h).mono (by omega)
  ·rw[h];exact hm
 ·intro k hk;have:=I.num k hk;exact⟨this.1,by show k<=(st.made.set (n - 1) m).length;rw[aeT];exact this.2⟩
 ·intro x hx;obtain⟨h1,h2⟩:=I.asd x hx;refine⟨?_,h2⟩;have:x.2.2.map (Ch.mo { st with made:=st.made.set (n - 1) m,kept:=kp })=x.2.2.map st.mo:=aeR λk hk =>
   rG hno (I.ui hx k hk).1 (λz=>I.Jd hn hx (by rw[<-z];exact hk)) rfl
  rw[this];exact h1
theorem Inv.qG {N:Nat}{st:Ch}(I:Inv N st){n:Nat}{r:List Nat}(e:st.au=n::r){u:Int}(h0:-10000000000 < u)(h1:u < 10000000000):Inv (N+1) (st.qG n u):=by
 have perm:afc (st.qG n u).all st.all:=by
  unfold Ch.all Ch.qG;rw[List.flatMap_append,List.nil_append];show afc ((st.aI.flatMap (·.2.2)++[(n,u,st.au)].flatMap (·.2.2))++st.decided.map (·.1)) _
  rw[show [(n,u,st.au)].flatMap (·.2.2)=st.au by simp,<-ae3]
  exact List.Perm.append_right _ List.perm_append_comm
 refine⟨ad7 I.lm,ad7 I.lr,ad7 I.ld,?_,λx hx=>ad7 (I.lk x hx),⟨I.sit.1,by have:=I.sit.2;show st.aq<=_;omega⟩,λm hm=>(I.mok m hm).mono (by omega),λk hk=>I.num k (perm.mem_iff.mp hk),perm.nodup_iff.mpr I.nd,.nil,?_,I.kk,I.ff,I.dw⟩
 ·show (st.aI++[(n,u,st.au)]).length<=_;rw[kr,ad4];have:=I.la;omega
 ·intro x hx;rcases List.mem_append.mp hx with hx | hx
  ·exact I.asd x hx
  ·rw[tu]at hx;subst hx;exact⟨I.pil,⟨r,e⟩,h0,h1⟩
def Ch.carry (st:Ch):Mn->Ch
 | .chg e=>match st.au with
  |n::_=>(match st.mo n with
   | .mat tx=>st.DP n tx e
   |_=>st)
  |[]=>st
 | .mnd f=>match st.au.getLast? with
  |some n=>(match st.mo n with
   | .chg e=>st.OW n e (cn (R.bG e.th) f)
   |_=>st)
  |none=>st
 | .off u=>match st.au with
  |n::_=>st.qG n u
  |[]=>st
 | .cls=>{ st with closed:=true }
 | .lay=>match st.au with
  |n::_=>st.qG n st.aq
  |[]=>st
 | .rst=>{ st with aq:=st.aq+1 }
 |_=>st
end My
set_option maxHeartbeats 1000000
namespace My
open PySem L2
seal PySem.wpAny
theorem vt (xs:List Str)(e:Ed):(cn xs e).length<=xs.length+1:=by
 unfold cn;split
 ·rw[kr,tm,aeu,ae6];omega
 ·exact ad7 (List.length_eraseIdx_le _ _)
 ·rw[aeT];omega
theorem Br {xs:List Str}{e:Ed}{x:Str}(h:x∈cn xs e):x∈xs\/x=e.th:=by
 unfold cn at h;split at h
 ·rcases List.mem_append.mp h with h | h
  ·exact .inl (List.mem_of_mem_take h)
  ·rcases List.mem_cons.mp h with h | h
   ·exact .inr h
   ·exact .inl (List.mem_of_mem_drop h)
 ·exact .inl (List.mem_of_mem_eraseIdx h)
 ·exact List.mem_or_eq_of_mem_set h
theorem OZ {α β:Type}{f:α->β}{xs:List α}{y:β}(h:xs.map f=[y]):∃a,xs=[a]/\f a=y:=by
 cases xs with
 |nil=>cases h
 |cons a r =>
  cases r with
  |nil=>exact⟨a,rfl,by simpa using h⟩
  |cons b r=>simp at h
theorem W6 {α β:Type}{f:α->β}{xs:List α}{y z:β}(h:xs.map f=[y,z]):∃a b,xs=[a,b]/\f a=y/\f b=z:=by
 cases xs with
 |nil=>cases h
 |cons a r =>
  rw[kc]at h;obtain⟨b,rfl,e⟩:=OZ (List.cons.inj h).2;exact⟨a,b,rfl,(List.cons.inj h).1,e⟩
theorem O0 {α β:Type}{f:α->β}{xs:List α}{y:β}{r:List β}(h:xs.map f=y::r):∃a s,xs=a::s/\f a=y:=by
 cases xs with
 |nil=>cases h
 |cons a s=>exact⟨a,s,rfl,(List.cons.inj h).1⟩
theorem EdB.ok {N:Nat}{e:Ed}(h:EdB N e)(hN:N<=4000):tZ e:=by
 obtain⟨a,b,c,ws,d,f,g⟩:=h;refine⟨a,b,c,?_,?_⟩
 ·rw[d];exact nP (λx hx=>by
   rw[show (R.bl1:Str).cps.toList=[32] by decide +kernel,tu]at hx
   omega) ws λw hw=>λx hx=>by have:=(f w hw).sgn x hx;unfold R.Sign at this;omega
 ·rw[d,R.oN];have h1:=q9 32 ws;have h2:=R.DH f;omega
theorem EdB.str {N:Nat}{e:Ed}(h:EdB N e):aef e.th=true:=by
 obtain⟨a,b,c,ws,d,f,g⟩:=h;rw[d];exact(nP (λx hx=>by
  rw[show (R.bl1:Str).cps.toList=[32] by decide +kernel,tu]at hx
  omega) ws λw hw=>λx hx=>by have:=(f w hw).sgn x hx;unfold R.Sign at this;omega).ok
theorem EdB.words {N:Nat}{e:Ed}(h:EdB N e):(∀w∈R.bG e.th,R.nR w)/\(R.bG e.th).length<=N:=by
 obtain⟨a,b,c,ws,d,f,g⟩:=h;rw[d,R.kU f];exact⟨f,g⟩
theorem zF {ws:List Str}{f:Ed}(h:∀w∈ws,R.nR w)(hf:R.nR f.th):∀w∈cn ws f,R.nR w:=λw hw=>by
 rcases Br hw with h1 | h1
 ·exact h w h1
 ·rw[h1];exact hf
theorem JQ (n:Nat)(e:Ed)(xs:List (Nat×List Ed)):(DO n e xs).map (·.1)=xs.map (·.1):=by
 unfold DO;rw[List.map_map];refine aeR λx _=>?_
 show (if x.1=n then (x.1,x.2++[e]) else x).1=x.1
 split <;> rfl
theorem MJ {n N:Nat}{e:Ed}{xs:List (Nat×List Ed)}(h:∀x∈xs,x.2.length<=N):∀x∈DO n e xs,x.2.length<=N+1:=by
 intro x hx;obtain⟨y,hy,rfl⟩:=List.mem_map.mp hx;have:=h y hy;split
 ·show (y.2++[e]).length<=_;rw[kr,ad4];omega
 ·omega
theorem Inv.carry {N:Nat}{st:Ch}(I:Inv N st)(hN:N<=900){m:Mn}(ht:zD (st.au.map st.mo) m)(hm:MOk N m):Inv (N+1) (st.carry m):=by
 have J:=I.mono (aeS N);cases m with
 |mat tx=>exact J
 |pnt z=>exact J
 |chg e =>
  obtain⟨tx,h1,hf⟩:=ht;obtain⟨k,e1,e2⟩:=OZ h1;have hn:k∈st.au:=by rw[e1];exact fu
  have htx:=I.DQ (I.cS k hn);rw[e2]at htx;have e3:st.carry (.chg e)=st.DP k tx e:=by unfold Ch.carry;rw[e1];dsimp only;rw[e2]
  rw[e3];refine I.Qb hn (by rw[e2];rfl) ?_ (JQ k e st.kept) (MJ I.lk) ?_
  ·have:=vt tx e;have h3:tx.length<=12+N:=htx.1;refine⟨by omega,λx hx=>?_⟩
   rcases Br hx with h | h
   ·exact htx.2 x h
   ·rw[h];exact EdB.str hm
  ·rw[e1,kc,aeE,CM (I.cS k hn) rfl];exact PMs.snoc (ms:=[]) .nil rfl
 |mnd f =>
  obtain⟨tx,e,h1,hk,hf⟩:=ht;obtain⟨a,b,e1,e2,e3⟩:=W6 h1;have ha:a∈st.au:=by rw[e1];exact fu
  have hb:b∈st.au:=by rw[e1];exact ki _ fu
  have he:=I.DQ (I.cS b hb);rw[e3]at he;have he':EdB (12+N) e:=he;obtain⟨w1,w2⟩:=he'.words;have e4:st.carry (.mnd f)=st.OW b e (cn (R.bG e.th) f):=by unfold Ch.carry;rw[e1];show (match st.mo b with | .chg e=>_ | _=>st)=_;rw[e3];rfl
  rw[e4];obtain⟨_,w,hw,hw2⟩:=hm;refine I.Qb (kp:=st.kept) hb (by rw[e3];rfl) ?_ rfl (λx hx=>ad7 (I.lk x hx)) ?_
  ·refine⟨he'.1,he'.2.1,he'.2.2.1,_,rfl,zF w1 (by rw[hw];exact hw2),?_⟩
   have:=vt (R.bG e.th) f;omega
  ·have ne:a≠b:=λz=>by rw[z,e3]at e2;cases e2
   have hp:=I.pil;rw[h1]at hp;obtain⟨tx',e5,e6⟩:=(PMs.pop (ms:=[.mat tx]) hp).2;cases e5;rw[e1,kc,kc,aeE,CM (I.cS b hb) rfl,rG (I.cS b hb) (I.cS a ha).1 ne rfl,e2];exact PMs.snoc (ms:=[.mat tx]) (PMs.snoc (ms:=[]) .nil rfl) ⟨tx,rfl,e6⟩
 |off u =>
  obtain⟨⟨tx,r,h1⟩,_⟩:=ht;obtain⟨k,s,e1,_⟩:=O0 h1;have e3:st.carry (.off u)=st.qG k u:=by unfold Ch.carry;rw[e1]
  rw[e3];exact I.qG e1 hm.1 hm.2
 |lay =>
  obtain⟨⟨tx,r,h1⟩,_⟩:=ht;obtain⟨k,s,e1,_⟩:=O0 h1;have e3:st.carry .lay=st.qG k st.aq:=by unfold Ch.carry;rw[e1]
  rw[e3];have:=I.sit;exact I.qG e1 (by omega) (by omega)
 |cls=>exact⟨J.lm,J.lr,J.ld,J.la,J.lk,J.sit,J.mok,J.num,J.nd,J.pil,J.asd,J.kk,J.ff,J.dw⟩
 |rst=>exact⟨J.lm,J.lr,J.ld,J.la,J.lk,⟨by have:=I.sit.1;show 1<=st.aq+1;omega,by have:=I.sit.2;show st.aq+1<=_;omega⟩,J.mok,J.num,J.nd,J.pil,J.asd,J.kk,J.ff,J.dw⟩
inductive Rs where
 |num (n:Nat) | txt (z:Str) | exc (x:Xc)
abbrev DR:Str:=ar "kept"
abbrev MK:Str:=ar "lost"
abbrev jZ:Str:=ar "dropped"
def qI (b:Bool):Str:=if b=true then DR else MK
theorem Je (b:Bool):aef (qI b)=true:=by
 unfold qI;split <;> decide +kernel
def gx (st:Ch)(a b:Int):Rs×Ch:=match st.au.getLast? with
 |none=>(.exc .nothing,st)
 |some n=>if a+b > st.cH then (.exc .tooMany,st) else
  (.txt (qI (gY (nd (st.mo n).k) a b)),(if gY (nd (st.mo n).k) a b=true then (st.popped st.au.dropLast n (qI (gY (nd (st.mo n).k) a b))).carry (st.mo n) else st.popped st.au.dropLast n (qI (gY (nd (st.mo n).k) a b))).pN (R.nS (.nums (ar "vote") [a,b])))
def lW (st:Ch):Rs×Ch:=match st.au.getLast? with
 |none=>(.exc .nothing,st)
 |some n=>(.txt jZ,(st.popped st.au.dropLast n jZ).pN (R.nS (.nums (ar "drop") [])))
def stepT (st:Ch)(n:Nat):Rs×Ch:=if st.au=[] then (match at1 n st.aI with
 |none=>(.exc .yk,st)
 |some x=>if st.aq < x.2.1 then (.exc (.vk x.2.1),st) else (.num n,{ st.rV n x.2.2 with rows:=st.rows++[R.nS (.nums (ar "take") [(n:Int)])] })) else (.exc (.qB (sD st.closed (st.au.map st.mo))),st)
def nW (st:Ch):Mn->Option Xc
 | .chg e=>match st.au.map st.mo with
  | .mat tx::_=>if et tx.length e=true then none else some .noFit
  |_=>none
 | .mnd f=>match (st.au.map st.mo).getLast? with
  |some (.chg e)=>if et (R.bG e.th).length f=true then none else some .noFit
  |_=>none
 | .off u=>if u<=st.aq then some (.ud st.aq) else none
 |_=>none
def kY (st:Ch)(m:Mn):Option Xc:=match qC st.closed (st.au.map st.mo) m.k with
 |some x=>some x
 |none=>nW st m
def Ch.moved (st:Ch)(m:Mn)(row:Str):Ch:={ st with made:=st.made++[m],au:=st.au++[st.made.length+1],firsts:=(match m with | .mat tx=>st.firsts++[(st.made.length+1,tx)] | _=>st.firsts),kept:=(match m with | .mat _=>st.kept++[(st.made.length+1,([]:List Ed))] | _=>st.kept),rows:=st.rows++[row] }
def pD (st:Ch)(m:Mn)(row:Str):Rs×Ch:=match kY st m with
 |some x=>(.exc x,st)
 |none=>(.num (st.made.length+1),st.moved m row)
theorem Inv.moved {N:Nat}{st:Ch}(I:Inv N st){m:Mn}(hm:MOk N m)(hc:kY st m=none)(row:Str):Inv (N+3) (st.moved m row):=by
 have J:=I.mono (show N<=N+3 by omega)
 have ho:qC st.closed (st.au.map st.mo) m.k=none/\nW st m=none:=by
  unfold kY at hc;split at hc
  ·cases hc
  ·exact⟨by assumption,hc⟩
 have hf:W5 (st.au.map st.mo) m:=by
  have h:=ho.2;cases m with
  |chg e =>
   intro tx r e1;unfold nW at h;dsimp only at h;rw[e1]at h;dsimp only at h;split at h
   ·assumption
   ·cases h
  |mnd f =>
   intro r e e1;unfold nW at h;dsimp only at h;rw[e1,aeG]at h;dsimp only at h;split at h
   ·assumption
   ·cases h
  |_=>trivial
 have em:(st.moved m row).made=st.made++[m]:=rfl;have old:∀ks:List Nat,(∀k∈ks,fA st k)->ks.map (st.moved m row).mo=ks.map st.mo:=λks h=>aeR λk hk=>CN em (h k hk)
 have nok:∀k,fA st k->fA (st.moved m row) k:=λk h=>⟨h.1,by show k<=(st.made++[m]).length;rw[kr];have:=h.2;omega⟩
 have perm:afc (st.moved m row).all ((st.made.length+1)::st.all):=by
  unfold Ch.all Ch.moved;rw[ae3];exact List.perm_middle
 have mt:(st.moved m row).vr=st.vr++(if m.k=0 then [st.made.length+1] else []):=by
  unfold Ch.vr;rw[em,kr,ad4,List.range'_concat,List.filter_append,Nat.one_mul,Nat.add_comm 1]
  congr 1
  ·refine List.filter_congr λk hk=>?_
   rw[List.mem_range'_1]at hk;rw[CN em ⟨hk.1,by omega⟩]
  ·rw[List.filter_cons,GL em]
   by_cases z:m.k=0
   ·rw[if_pos (decide_eq_true z),if_pos z];rfl
   ·rw[if_neg (by rw[decide_eq_false z];decide),if_neg z];rfl
 refine⟨?_,?_,J.ld,J.la,?_,J.sit,?_,?_,?_,?_,?_,?_,?_,J.dw⟩
 ·show 3 * (st.made++[m]).length<=_;rw[kr,ad4];have:=I.lm;omega
 ·show (st.rows++[row]).length<=_;rw[kr,ad4];have:=I.lr;omega
 ·intro x hx;have hx':x∈(match m with | .mat _=>st.kept++[(st.made.length+1,([]:List Ed))] | _=>st.kept):=hx
  cases m with
  |mat tx =>
   rcases List.mem_append.mp hx' with h | h
   ·exact J.lk x h
   ·rw[tu]at h;rw[h];exact aeM _
  |_=>exact J.lk x hx'
 ·intro x hx;rcases List.mem_append.mp (show x∈st.made++[m] from hx) with h | h
  ·exact J.mok x h
  ·rw[tu]at h;rw[h];exact hm.mono (by omega)
 ·intro k hk;rcases List.mem_cons.mp (perm.mem_iff.mp hk) with h | h
  ·rw[h];exact⟨by omega,by show _<=(st.made++[m]).length;rw[kr,ad4];omega⟩
  ·exact nok k (I.num k h)
 ·rw[perm.nodup_iff,List.nodup_cons];exact⟨λz=>by have:=(I.num _ z).2;omega,I.nd⟩
 ·show PMs ((st.au++[st.made.length+1]).map (st.moved m row).mo);rw[ky,old st.au I.cS,kc,aeE,GL em];exact I.pil.push ho.1 hf
 ·intro x hx;obtain⟨h1,h2⟩:=I.asd x hx;exact⟨by rw[old _ (I.ui hx)];exact h1,h2⟩
 ·rw[mt,<-I.kk];cases m with
  |mat tx=>show (st.kept++[(st.made.length+1,([]:List Ed))]).map (·.1)=_;rw[ky,if_pos (show (Mn.mat tx).k=0 from rfl)];rfl
  |_=>exact(afb _).symm
 ·rw[mt,<-I.ff];cases m with
  |mat tx=>show (st.firsts++[(st.made.length+1,tx)]).map (·.1)=_;rw[ky,if_pos (show (Mn.mat tx).k=0 from rfl)];rfl
  |_=>exact(afb _).symm
theorem Bs {n:Nat}{x:Nat×Int×List Nat}:∀ {as:List (Nat×Int×List Nat)},(as.flatMap (·.2.2)).Nodup->(∀y∈as,∃r,y.2.2=y.1::r)->at1 n as=some x->afc (x.2.2++(as.filter λy=>decide (y.1≠n)).flatMap (·.2.2)) (as.flatMap (·.2.2))
 |[],_,_,h=>nomatch h
 |y::as,nd,hd,h=>by
  rw[List.flatMap_cons]at nd ⊢;obtain⟨n1,n2,n3⟩:=List.nodup_append.mp nd;unfold at1 at h;rw[aeU]at h
  by_cases e:y.1=n
  ·rw[decide_eq_true e]at h;cases h;have:as.filter (λz=>decide (z.1≠n))=as:=by
    rw[List.filter_eq_self];intro z hz;refine decide_eq_true λq=>?_
    obtain⟨r,hr⟩:=hd z (ki _ hz);obtain⟨r',hr'⟩:=hd x fu;exact n3 n (by rw[hr',e];exact fu) n (List.mem_flatMap.mpr ⟨z,hz,by rw[hr,q];exact fu⟩) rfl
   rw[ae2 (by simp[e]),this]
  ·rw[decide_eq_false e]at h;have ih:=Bs n2 (λz hz=>hd z (ki _ hz)) h
   rw[List.filter_cons_of_pos (by simp[e]),List.flatMap_cons,<-ae3]
   exact(List.Perm.append_right _ List.perm_append_comm).trans (by rw[ae3];exact List.Perm.append_left _ ih)
theorem Inv.rV {N:Nat}{st:Ch}(I:Inv N st){n:Nat}{x:Nat×Int×List Nat}(hp:st.au=[])(hx:at1 n st.aI=some x)(row:Str):Inv (N+1) { st.rV n x.2.2 with rows:=st.rows++[row] }:=by
 have J:=I.mono (aeS N);have hm:=(mH hx).2;have nd:=I.nd;unfold Ch.all at nd;rw[hp,List.nil_append]at nd;have pm:=Bs (List.nodup_append.mp nd).1 (λy hy=>(I.asd y hy).2.1) hx
 have perm:afc (Ch.all { st.rV n x.2.2 with rows:=st.rows++[row] }) st.all:=by
  unfold Ch.all Ch.rV;rw[hp,List.nil_append,<-ae3];exact List.Perm.append_right _ pm
 refine⟨J.lm,?_,J.ld,?_,J.lk,J.sit,J.mok,λk hk=>I.num k (perm.mem_iff.mp hk),perm.nodup_iff.mpr I.nd,(I.asd x hm).1,λy hy=>I.asd y (List.mem_filter.mp hy).1,I.kk,I.ff,I.dw⟩
 ·show (st.rows++[row]).length<=_;rw[kr,ad4];have:=I.lr;omega
 ·exact om (List.length_filter_le _ _) J.la
theorem Inv.gx {N:Nat}{st:Ch}(I:Inv N st)(hN:N<=800)(a b:Int):Inv (N+3) (gx st a b).2:=by
 unfold My.gx;split
 ·exact I.mono (by omega)
 ·rename_i n h;obtain⟨pre,e⟩:=rF h;split
  ·exact I.mono (by omega)
  ·have ed:st.au.dropLast=pre:=by rw[e];exact aeY
   obtain⟨I1,ht⟩:=I.pop e (qI (gY (My.nd (st.mo n).k) a b)) (Je _);rw[ed];have hn:n∈st.au:=by rw[e];simp
   split
   ·exact(I1.carry (by omega) ht ((I.DQ (I.cS n hn)).mono (by omega))).pN _
   ·exact(I1.pN _).mono (by omega)
theorem Inv.lW {N:Nat}{st:Ch}(I:Inv N st):Inv (N+3) (lW st).2:=by
 unfold My.lW;split
 ·exact I.mono (by omega)
 ·rename_i n h;obtain⟨pre,e⟩:=rF h;have ed:st.au.dropLast=pre:=by rw[e];exact aeY
  rw[ed];exact((I.pop e jZ (by decide +kernel)).1.pN _).mono (by omega)
theorem Inv.stepT {N:Nat}{st:Ch}(I:Inv N st)(n:Nat):Inv (N+3) (stepT st n).2:=by
 unfold My.stepT;split
 ·split
  ·exact I.mono (by omega)
  ·split
   ·exact I.mono (by omega)
   ·exact(I.rV (by assumption) (by assumption) _).mono (by omega)
 ·exact I.mono (by omega)
theorem Inv.pD {N:Nat}{st:Ch}(I:Inv N st){m:Mn}(hm:MOk N m)(row:Str):Inv (N+3) (pD st m row).2:=by
 unfold My.pD;split
 ·exact I.mono (by omega)
 ·exact I.moved hm (by assumption) row
end My
set_option maxHeartbeats 1000000
namespace My
open PySem L2
seal PySem.wpAny
def Jf (A:Adr)(i:Nat)(c:Col)(H:Hp)(o:Addr):Rs×Ch->VK->XK->Prop
 | (.num n,st),Q,_=>∀c' H',Step (cB i) c c' H H'->d9 A i c' H' o st->Q (nV n) H'
 | (.txt z,st),Q,_=>∀c' H',Step (cB i) c c' H H'->d9 A i c' H' o st->Q (.str z) H'
 | (.exc x,st),_,E=>∀c' H' C d,Step (cB i) c c' H H'->d9 A i c' H' o st->x.At A H' C d->(∀a,d=some a->c' a=none)->E C d H'
def CO:List Str:=[ar "seats",ar "sitting",ar "closed",ar "made",ar "pile",ar "aside",ar "decided",ar "first_texts",ar "edits_kept",ar "rows"]
theorem dJ {m:Str}{v0 v1 v2 v3 v4 v5 v6 v7 v8 v9:V}(h:m∉CO):(chF v0 v1 v2 v3 v4 v5 v6 v7 v8 v9).lookup m=none:=by
 unfold CO at h;simp only[List.mem_cons,List.not_mem_nil,or_false,not_or]at h;obtain⟨h0,h1,h2,h3,h4,h5,h6,h7,h8,h9⟩:=h;unfold chF;simp only[aey,beq_eq_false_iff_ne.mpr h0,beq_eq_false_iff_ne.mpr h1,beq_eq_false_iff_ne.mpr h2,beq_eq_false_iff_ne.mpr h3,beq_eq_false_iff_ne.mpr h4,beq_eq_false_iff_ne.mpr h5,beq_eq_false_iff_ne.mpr h6,beq_eq_false_iff_ne.mpr h7,beq_eq_false_iff_ne.mpr h8,beq_eq_false_iff_ne.mpr h9]
def Jg (A:Adr)(i:Nat):Sp:=λvs H Q _=>∃(o mo:Addr) (c:Col) (st:Ch) (m:Mn) (N:Nat),vs=[.ref o,.ref mo]/\d9 A i c H o st/\lT A c H m mo/\Inv N st/\N<=900/\zD (st.au.map st.mo) m/\MOk N m /\
 ∀c' H',Step (cB i) c c' H H'->d9 A i c' H' o (st.carry m)->Q .non H'
def zG (A:Adr)(i:Nat):Sp:=λvs H Q E=>∃(o:Addr) (a b:Int) (c:Col) (st:Ch) (N:Nat),vs=[.ref o,.int a,.int b]/\d9 A i c H o st/\Inv N st/\N<=800/\(0<=a/\a < 10 ^ 10)/\(0<=b/\b < 10 ^ 10)/\Jf A i c H o (gx st a b) Q E
def zH (A:Adr)(i:Nat):Sp:=λvs H Q E=>∃(o:Addr) (c:Col) (st:Ch) (N:Nat),vs=[.ref o]/\d9 A i c H o st/\Inv N st/\N<=800/\Jf A i c H o (lW st) Q E
def ML (A:Adr)(i:Nat):Sp:=λvs H Q E=>∃(o:Addr) (z:Int) (c:Col) (st:Ch) (N:Nat),vs=[.ref o,.int z]/\d9 A i c H o st/\Inv N st/\N<=800/\-1<=z/\z < 10 ^ 10/\Jf A i c H o (stepT st z.toNat) Q E
theorem Bt:∀ {ks:List Nat} {vs:List V},jO (bc (ks.zip vs)) (km (-1))=none
 |[],_=>rfl
 |_::_,[]=>rfl
 |k::ks,v::vs=>by
  rw[cN,iK (λz=>by have:=Sum.inl.inj z;omega)]
  exact Bt
theorem Inv.no0 {N:Nat}{st:Ch}(I:Inv N st):at1 0 st.aI=none:=by
 cases e:at1 0 st.aI with
 |none=>rfl
 |some x =>
  obtain⟨h1,h2⟩:=mH e;obtain⟨r,hr⟩:=(I.asd x h2).2.1;have:=(I.ui h2 x.1 (by rw[hr];exact fu)).1
  omega
theorem CP {i:Nat}{c:Col}{H:Hp}{t:Addr}{xs:List V}:ug i (aH c t none) (upd H t (.tup xs)) t xs:=⟨by rw[a7];exact av,ae⟩
theorem uj {A:Adr}{c:Col}{H H':Hp}{f:Nat->Mn}(s:bJ H H'):∀ {ns:List Nat} {os:List Addr},bS (λn m=>lT A c H (f n) m) ns os->bS (λm p=>lT A c H' m p) (ns.map f) os
 |_,_,.nil=>.nil
 |_,_,.cons h t=>.cons (h.same s) (uj s t)
theorem zI {kd:Str}{ns:List Int}(h:(kd,ns.length)∈R.iV)(hn:∀i∈ns,0<=i/\i < 10 ^ 10):R.DOk (.nums kd ns):=⟨h,hn⟩
section
variable{P:ku}{w:World}{K:ba}{mg:Str->Option Value}{base:Heap}{A:Adr}
theorem CQ (T:Txt w.params K mg A){i:Nat}:ay P w K mg base CX0 5 A.bx A.dZ ["self","motion"] (Jg A i):=by
 have gw:∀k,k < 8->ay P w K mg base CX0 1 (A.fk k) (A.fkd k) ["self"] (fV k):=kT T;have nX:ay P w K mg base CX0 4 A.a8 A.cP ["self","edit"] (MG A i):=vp T;have nY:ay P w K mg base CX0 4 A.a9 A.cQ ["self","edit"] (MH A i):=vq T;have kL:ay P w K mg base CX0 1 A.bz A.d3 ["self","until"] (MF A i):=CK T;refine T.dg.ok jP (λvs H Q E h=>?_) (λcdv A' outer s H vs Q E hr h=>?_)
 ·obtain⟨o,mo,c,st,m,N,rfl,_⟩:=h;rfl
 ·obtain⟨o,mo,c,st,m,N,rfl,hc,hmo,I,hN,GO,MM,q⟩:=h;obtain⟨dx,aM,aP,aA,aD,aF,aE,aR,ms,ds,ws,fs,es,X⟩:=hc.ex;have d7:Room 1 _:=hr.mono (by decide)
  have mQ:Room 4 _:=hr;have mR:Room 4 _:=hr;have j2:Room 1 _:=hr.mono (by decide)
  refine⟨_,(ai (bh (i:=2) jP.nd rfl (aec rfl) (kZ (n:=8) (Cf:=A.C) (pv 1) T.cl T.mL gw d7 T.mM aV))
 (aj (bI (aJ bY (pv 2) az (aS _))
 (aj (a6 (bQ (pv 0) T.ag T.iC nX mQ T.cW .nil aV (aa (aZ (pv 1) rfl) ah))))
 (aj (bI (aJ bY (pv 2) az (aS _))
 (aj (a6 (bQ (pv 0) T.ag T.iD nY mR T.cX .nil aV (aa (aZ (pv 1) rfl) ah))))
 (aj (bI (aJ bY (pv 2) az (aS _))
 (aj (a6 (bQ (pv 0) T.ag T.gS kL j2 T.dj .nil aV (aa (aZ (pv 1) rfl) ah))))
 (aj (bI (aJ bY (pv 2) az (aS _))
 (aj (eB (pv 0) pY rfl))
 (aj (bI (aJ bY (pv 2) az (aS _))
 (aj (a6 (bQ (pv 0) T.ag T.gS kL j2 T.dj .nil aV (aa (aZ (pv 0) rfl) ah))))
 (aj (bI (aJ bY (pv 2) az (aS _))
 (aj (eB (pv 0) (bA j7 (aZ (pv 0) rfl) ak) rfl))
 aQ))))))))))))),?_⟩
  refine hide λGg hGg=>?_
  obtain⟨hcn,dm,v,hm,hv⟩:=hmo;refine hGg ?_;refine⟨_,rfl,m.k,m.k8,mo,dm,_,rfl,hm,kS m.k v,mo,rfl,?_⟩;have lM:=I.lm;cases m with
  |mat tx=>exact⟨_,rfl,rfl,tsf (fW 0 (by decide)) ⟨_,rfl,rfl,tsf (ie 0 (by decide)) ⟨_,rfl,rfl,tsf (kA 0 (by decide)) ⟨_,rfl,rfl,tsf (zA 0 (by decide)) ⟨_,rfl,rfl,tsf (CH 0 (by decide)) ⟨_,rfl,rfl,tsf (GH 0 (by decide)) (q c H (Step.refl av) hc)⟩⟩⟩⟩⟩⟩
  |pnt z=>exact⟨_,rfl,rfl,tsf (fW 7 (by decide)) ⟨_,rfl,rfl,tsf (ie 7 (by decide)) ⟨_,rfl,rfl,tsf (kA 7 (by decide)) ⟨_,rfl,rfl,tsf (zA 7 (by decide)) ⟨_,rfl,rfl,tsf (CH 7 (by decide)) ⟨_,rfl,rfl,tsf (GH 7 (by decide)) (q c H (Step.refl av) hc)⟩⟩⟩⟩⟩⟩
  |chg e =>
   refine⟨_,rfl,rfl,tst (fW 1 (by decide)) ?_⟩
   refine hide λGg hGg=>?_
   obtain⟨tx,h1,hf⟩:=GO;obtain⟨k,e1,e2⟩:=OZ h1;have hn:k∈st.au:=by rw[e1];exact fu
   have hno:=I.cS k hn;have htx:=I.DQ hno;rw[e2]at htx;have adW:tx.length<=12+N:=htx.1;obtain⟨x,hx,hxl⟩:=I.keptAt hno (by rw[e2];rfl)
   have e3:st.carry (.chg e)=st.DP k tx e:=by unfold Ch.carry;rw[e1];dsimp only;rw[e2]
   rw[e3]at q;have W7:EdB (12+N) e:=MM;obtain⟨t,rfl,ht⟩:=hv;refine hGg ?_;refine mtv rfl X.ob (dJ (by decide +kernel)) ⟨_,rfl,mo,A.C 1,dm,_,.ref t,rfl,hm,T.cl 1 (by decide),T.na1,rfl,?_⟩
   exact⟨o,t,c,st,k,[],tx,e,x,rfl,hc,e1,hno,e2,by omega,by omega,ht,W7.ok (by omega),hf,hx,by omega,by rw[I.kk];exact GN st,q⟩
  |mnd f =>
   refine⟨_,rfl,rfl,tsf (fW 2 (by decide)) ⟨_,rfl,rfl,tst (ie 2 (by decide)) ?_⟩⟩
   refine hide λGg hGg=>?_
   obtain⟨tx,e,h1,hk,hf⟩:=GO;obtain⟨a,b,e1,e2,e3⟩:=W6 h1;have hb:b∈st.au:=by rw[e1];exact ki _ fu
   have hno:=I.cS b hb;have he:=I.DQ hno;rw[e3]at he;have he':EdB (12+N) e:=he;obtain⟨w1,w2⟩:=he'.words;have e4:st.carry (.mnd f)=st.OW b e (cn (R.bG e.th) f):=by unfold Ch.carry;rw[e1];show (match st.mo b with | .chg e=>_ | _=>st)=_;rw[e3];rfl
   rw[e4]at q;obtain⟨hf1,w0,hw0,hw1⟩:=MM;have l1:=vt (R.bG e.th) f;have l2:=R.DH (zF w1 (by rw[hw0];exact hw1):∀w∈cn (R.bG e.th) f,R.nR w)
   obtain⟨t,rfl,ht⟩:=hv;refine hGg ?_;refine mtv rfl X.ob (dJ (by decide +kernel)) ⟨_,rfl,mo,A.C 2,dm,_,.ref t,rfl,hm,T.cl 2 (by decide),T.na2,rfl,?_⟩
   exact⟨o,t,c,st,b,[a],e,f,rfl,hc,e1,hno,e3,hk,he'.ok (by omega),by omega,by omega,ht,hf1.ok (by omega),hf,by omega,q⟩
  |off u =>
   refine⟨_,rfl,rfl,tsf (fW 3 (by decide)) ⟨_,rfl,rfl,tsf (ie 3 (by decide)) ⟨_,rfl,rfl,tst (kA 3 (by decide)) ?_⟩⟩⟩
   refine hide λGg hGg=>?_
   obtain⟨⟨tx,r,h1⟩,_⟩:=GO;obtain⟨k,r',e1,_⟩:=O0 h1;have e3:st.carry (.off u)=st.qG k u:=by unfold Ch.carry;rw[e1]
   rw[e3]at q;have hv':v=.int u:=hv;subst hv';have:=I.la;refine hGg ?_;refine mtv rfl X.ob (dJ (by decide +kernel)) ⟨_,rfl,mo,A.C 3,dm,_,.int u,rfl,hm,T.cl 3 (by decide),T.na3,rfl,?_⟩
   exact⟨o,u,c,st,k,r',rfl,hc,e1,I.MI (by rw[e1];exact fu),by omega,q⟩
  |cls =>
   refine⟨_,rfl,rfl,tsf (fW 4 (by decide)) ⟨_,rfl,rfl,tsf (ie 4 (by decide)) ⟨_,rfl,rfl,tsf (kA 4 (by decide)) ⟨_,rfl,rfl,tst (zA 4 (by decide)) ?_⟩⟩⟩⟩
   refine⟨_,rfl,o,A.ao,dx,_,rfl,X.ob,T.ag,T.jq4,(by show 10 < 1000;decide),?_⟩
   rw[zt];obtain⟨s1,X1⟩:=X.attr st.aq true;exact q c _ s1.qw X1.at
  |lay =>
   refine⟨_,rfl,rfl,tsf (fW 5 (by decide)) ⟨_,rfl,rfl,tsf (ie 5 (by decide)) ⟨_,rfl,rfl,tsf (kA 5 (by decide)) ⟨_,rfl,rfl,tsf (zA 5 (by decide)) ⟨_,rfl,rfl,tst (CH 5 (by decide)) ?_⟩⟩⟩⟩⟩
   refine hide λGg hGg=>?_
   obtain⟨⟨tx,r,h1⟩,_⟩:=GO;obtain⟨k,r',e1,_⟩:=O0 h1;have e3:st.carry .lay=st.qG k st.aq:=by unfold Ch.carry;rw[e1]
   rw[e3]at q;have:=I.la;refine hGg ?_;refine mtv rfl X.ob (dJ (by decide +kernel)) (eT rfl X.ob T.ag T.jq1 iE ?_)
   exact⟨o,st.aq,c,st,k,r',rfl,hc,e1,I.MI (by rw[e1];exact fu),by omega,q⟩
  |rst =>
   refine⟨_,rfl,rfl,tsf (fW 6 (by decide)) ⟨_,rfl,rfl,tsf (ie 6 (by decide)) ⟨_,rfl,rfl,tsf (kA 6 (by decide)) ⟨_,rfl,rfl,tsf (zA 6 (by decide)) ⟨_,rfl,rfl,tsf (CH 6 (by decide)) ⟨_,rfl,rfl,tst (GH 6 (by decide)) ?_⟩⟩⟩⟩⟩⟩
   refine eT rfl X.ob T.ag T.jq1 iE ⟨_,_,rfl,rfl,_,rfl,o,A.ao,dx,_,rfl,X.ob,T.ag,T.jq1,(by show 10 < 1000;decide),?_⟩
   rw[DJ];obtain⟨s1,X1⟩:=X.attr (st.aq+1) st.closed;exact q c _ s1.qw X1.at
theorem CS (T:Txt w.params K mg A){i:Nat}:ay P w K mg base (CXX P w) 6 A.bM A.dR ["self","ayes","noes"] (zG A i):=by
 have dM:ay P w K mg base (CXX P w) 1 A.aT A.bW ["self"] (vi A i):=lU T;have ju:ay P w K mg base CX0 1 A.bE A.dY ["self","word"] (zx A i):=Bm T;have rN:ay P w K mg base CX0 5 A.bx A.dZ ["self","motion"] (Jg A i):=CQ T;have fj:ay P w K mg base CX0 5 A.aY A.cg ["self","deed"] (ME A i):=pB T;have JR:ay P w K mg base CX0 1 A.yb A.oz ["need","ayes","noes"] Mq:=GF T;have Sn:∀k,k < 8->ay P w K mg base CX0 1 (A.fn k) (A.fnd k) ["self"] (Cw k):=OS T;refine T.gs.okX j8 (λvs H Q E h=>?_) (λcdv A' outer s H vs Q E hr h=>?_)
 ·obtain⟨o,a,b,c,st,N,rfl,_⟩:=h;rfl
 ·obtain⟨o,a,b,c,st,N,rfl,hc,I,hN,ha,hb,q⟩:=h;obtain⟨dx,aM,aP,aA,aD,aF,aE,aR,ms,ds,ws,fs,es,X⟩:=hc.ex;have hu1:=hr.u1;have dE:Room 1 _:=hr.mono (by decide)
  have iY:Room 1 _:=hr.mono (by decide)
  have qJ:Room 5 _:=hr;have eQ:Room 5 _:=hr;have GP:Room 1 _:=hr.mono (by decide)
  have O1:Room 1 _:=hr.mono (by decide)
  refine⟨_,(aW (lB (AS (px (pv 0)) T.ag T.dH dM dE T.b7))
 (aW (i9 (aJ Iv (bA j7 (pv 1) (pv 2)) (aZ (pv 0) rfl) (aS _))
 (bC (ja T.zf rfl rfl T.Bh (aa az ah)))
 (yD aQ))
 (aW (psx (bh (i:=3) j8.nd rfl (aec rfl) (mz hu1 (aZ (pv 0) rfl) (bp iH (aZ (pv 0) rfl) (AF uL ak) (λ_ _=>rfl)) (λ_ _=>rfl))))
 (aW (psx (bh (i:=4) j8.nd rfl (aec rfl) (C6 (rZ (bb JR GP rfl T.A6 T.uW.kp T.A5 .nil aV (aa (kZ (n:=8) (Cf:=A.C) (pv 3) T.cl T.Ma Sn O1 T.Mb aV) (aa (pv 1) (aa (pv 2) ah))))) az az)))
 (aW (psx (a6 (bQ (pv 0) T.ag T.jq ju iY T.eO .nil aV (aa (pv 4) ah))))
 (aW (psx (bI (aJ bY (pv 4) az (aS _))
 (aj (a6 (bQ (pv 0) T.ag T.kK rN qJ T.ez .nil aV (aa (pv 3) ah))))
 aQ))
 (aW (psx (a6 (bQ (pv 0) T.ag T.fb fj eQ T.cA .nil aV (aa (bH (aa az (aa (pv 1) (aa (pv 2) ah)))) ah))))
 (bC (psx (aL (pv 4))))))))))),?_⟩
  refine mtv rfl X.ob (dJ (by decide +kernel)) ⟨o,c,st,rfl,hc,λhne=>?_,λhe=>?_⟩
  case refine_2 =>
   unfold gx at q;rw[he]at q;exact q c H _ _ (Step.refl av) hc ⟨rfl,rfl⟩ (λ_ z=>nomatch z)
  refine hide λGg hGg=>?_
  obtain⟨pre,n,e⟩:∃pre n,st.au=pre++[n]:=by
   rcases aej st.au with e | ⟨pre,n,e⟩
   ·exact absurd e hne
   ·exact⟨pre,n,by rw[e,aek]⟩
  have gl:st.au.getLast?=some n:=by rw[e];exact aeG
  have ed:st.au.dropLast=pre:=by rw[e];exact aeY
  unfold gx at q;rw[gl]at q;dsimp only at q;rw[ed]at q;refine hGg ?_;refine⟨_,rfl,_,rfl,_,_,rfl,rfl,eT rfl X.ob T.ag T.jqg JK ⟨_,_,rfl,rfl,_,rfl,nv (λz=>?_) (λz=>?_)⟩⟩
  ·have z':a+b > st.cH:=of_decide_eq_true z;rw[if_pos z']at q;exact⟨by decide,q c H _ _ (Step.refl av) hc ⟨rfl,rfl⟩ (λ_ z=>nomatch z)⟩
  refine hide λGg hGg=>?_
  have z':¬a+b > st.cH:=λy=>z (decide_eq_true y)
  rw[if_neg z']at q;have hn:n∈st.au:=by rw[e];simp
  have hno:=I.cS n hn;obtain⟨mo,hv,hmo⟩:=X.OX hno;have hcp:=hmo;obtain⟨_,dm,v,hm,_⟩:=hmo;have h0:atI (st.au.map nV) (-1)=some (nV n):=by rw[e,ky];exact yy _ _
  refine hGg ?_;refine⟨_,rfl,o,A.ao,dx,_,.ref aM,rfl,X.ob,T.ag,T.jq2,g0,_,rfl,o,A.ao,dx,_,.ref aP,rfl,X.ob,T.ag,T.jq0,eP,_,rfl,aP,_,_,_,rfl,rfl,SqL.of X.au.2,h0,aM,_,rfl,.inl ⟨_,km (n:Int),.inl X.made.2,rfl,hv.symm⟩,?_⟩;refine⟨_,rfl,(st.mo n).k,(st.mo n).k8,mo,dm,_,rfl,hm,OL _ v,mo,rfl,_,rfl,_,rfl,nd (st.mo n).k,a,b,rfl,_,rfl,?_⟩;obtain⟨I1,GO⟩:=I.pop e (qI (gY (nd (st.mo n).k) a b)) (Je _);have MM:=(I.DQ hno).mono (aeS N);have lp:=I.pil.GK;rw[cb]at lp;have ld:=I.ld;have lr:=I.lr;have dk:R.DOk (.nums (ar "vote") [a,b]):=zI (by show (ar "vote",2)∈R.iV;decide +kernel) (by
   intro i hi;rcases List.mem_cons.mp hi with h | hi
   ·rw[h];exact ha
   ·rw[tu]at hi;rw[hi];exact hb)
  cases hk:gY (nd (st.mo n).k) a b with
  |true =>
   rw[hk]at q I1;rw[if_pos rfl]at q;refine pM (mtv rfl X.ob (dJ (by decide +kernel)) ⟨_,rfl,o,DR,c,st,pre,n,rfl,hc,e,by omega,by omega,λc1 H1 s1 hc1=>?_⟩)
   refine hide λGg hGg=>?_
   obtain⟨dx1,aM1,aP1,aA1,aD1,aF1,aE1,aR1,ms1,ds1,ws1,fs1,es1,X1⟩:=hc1.ex;refine hGg ?_;refine⟨_,rfl,rfl,tst (by decide +kernel) (mtv rfl X1.ob (dJ (by decide +kernel)) ⟨_,rfl,o,mo,c1,_,st.mo n,N+1,rfl,hc1,hcp.step s1,I1,by omega,GO,MM,λc2 H2 s2 hc2=>?_⟩)⟩
   refine hide λGg hGg=>?_
   obtain⟨dx2,aM2,aP2,aA2,aD2,aF2,aE2,aR2,ms2,ds2,ws2,fs2,es2,X2⟩:=hc2.ex;have I2:=I1.carry (by omega) GO MM
   refine hGg ?_;refine mtv rfl X2.ob (dJ (by decide +kernel)) ⟨_,rfl,_,rfl,(sl 3),λt ht=>?_⟩
   have s3:Step (cB i) c2 (aH c2 t none) H2 (upd H2 t (.tup [V.str (ar "vote"),.int a,.int b])):=Step.new av ht;have X3:=X2.free (W:=λ_=>False) (λ_=>id) (Step.new (x:=none) (o:=.tup [V.str (ar "vote"),.int a,.int b]) id ht)
   have lr2:=I2.lr;refine⟨o,t,_,_,.nums (ar "vote") [a,b],rfl,X3.at,CP,dk,om lr2 (by omega),λc4 H4 s4 hc4=>⟨_,rfl,?_⟩⟩
   exact q c4 H4 (((s1.trans s2).trans s3).trans s4) hc4
  |false =>
   rw[hk]at q I1;rw[if_neg kj]at q;refine gf (mtv rfl X.ob (dJ (by decide +kernel)) ⟨_,rfl,o,MK,c,st,pre,n,rfl,hc,e,by omega,by omega,λc1 H1 s1 hc1=>?_⟩)
   refine hide λGg hGg=>?_
   obtain⟨dx2,aM2,aP2,aA2,aD2,aF2,aE2,aR2,ms2,ds2,ws2,fs2,es2,X2⟩:=hc1.ex;refine hGg ?_;refine⟨_,rfl,rfl,tsf (by decide +kernel) ?_⟩
   refine mtv rfl X2.ob (dJ (by decide +kernel)) ⟨_,rfl,_,rfl,(sl 3),λt ht=>?_⟩
   have s3:Step (cB i) c1 (aH c1 t none) H1 (upd H1 t (.tup [V.str (ar "vote"),.int a,.int b])):=Step.new av ht;have X3:=X2.free (W:=λ_=>False) (λ_=>id) (Step.new (x:=none) (o:=.tup [V.str (ar "vote"),.int a,.int b]) id ht)
   refine⟨o,t,_,_,.nums (ar "vote") [a,b],rfl,X3.at,CP,dk,by show st.rows.length<=1000;omega,λc4 H4 s4 hc4=>⟨_,rfl,?_⟩⟩
   exact q c4 H4 ((s1.trans s3).trans s4) hc4
theorem CT (T:Txt w.params K mg A){i:Nat}:ay P w K mg base (CXX P w) 6 A.bN A.dS ["self"] (zH A i):=by
 have dM:ay P w K mg base (CXX P w) 1 A.aT A.bW ["self"] (vi A i):=lU T;have ju:ay P w K mg base CX0 1 A.bE A.dY ["self","word"] (zx A i):=Bm T;have fj:ay P w K mg base CX0 5 A.aY A.cg ["self","deed"] (ME A i):=pB T;refine T.gu.okX wC (λvs H Q E h=>?_) (λcdv A' outer s H vs Q E hr h=>?_)
 ·obtain⟨o,c,st,N,rfl,_⟩:=h;rfl
 ·obtain⟨o,c,st,N,rfl,hc,I,hN,q⟩:=h;obtain⟨dx,aM,aP,aA,aD,aF,aE,aR,ms,ds,ws,fs,es,X⟩:=hc.ex;have dE:Room 1 _:=hr.mono (by decide)
  have iY:Room 1 _:=hr.mono (by decide)
  have eQ:Room 5 _:=hr;refine⟨_,(aW (lB (AS (px (pv 0)) T.ag T.dH dM dE T.b7))
 (aW (psx (a6 (bQ (pv 0) T.ag T.jq ju iY T.eO .nil aV (aa az ah))))
 (aW (psx (a6 (bQ (pv 0) T.ag T.fb fj eQ T.cA .nil aV (aa (bH (aa az ah)) ah))))
 (bC (psx (aL az)))))),?_⟩
  refine mtv rfl X.ob (dJ (by decide +kernel)) ⟨o,c,st,rfl,hc,λhne=>?_,λhe=>?_⟩
  case refine_2 =>
   unfold lW at q;rw[he]at q;exact q c H _ _ (Step.refl av) hc ⟨rfl,rfl⟩ (λ_ z=>nomatch z)
  refine hide λGg hGg=>?_
  obtain⟨pre,n,e⟩:∃pre n,st.au=pre++[n]:=by
   rcases aej st.au with e | ⟨pre,n,e⟩
   ·exact absurd e hne
   ·exact⟨pre,n,by rw[e,aek]⟩
  have gl:st.au.getLast?=some n:=by rw[e];exact aeG
  have ed:st.au.dropLast=pre:=by rw[e];exact aeY
  unfold lW at q;rw[gl]at q;dsimp only at q;rw[ed]at q;have lp:=I.pil.GK;rw[cb]at lp;have ld:=I.ld;have lr:=I.lr;refine hGg ?_;refine mtv rfl X.ob (dJ (by decide +kernel)) ⟨o,jZ,c,st,pre,n,rfl,hc,e,by omega,by omega,λc1 H1 s1 hc1=>?_⟩
  refine hide λGg hGg=>?_
  obtain⟨dx2,aM2,aP2,aA2,aD2,aF2,aE2,aR2,ms2,ds2,ws2,fs2,es2,X2⟩:=hc1.ex;refine hGg ?_;refine mtv rfl X2.ob (dJ (by decide +kernel)) ⟨(sl 1),λt ht=>?_⟩
  have s3:Step (cB i) c1 (aH c1 t none) H1 (upd H1 t (.tup [V.str (ar "drop")])):=Step.new av ht;have X3:=X2.free (W:=λ_=>False) (λ_=>id) (Step.new (x:=none) (o:=.tup [V.str (ar "drop")]) id ht)
  refine⟨o,t,_,_,.nums (ar "drop") [],rfl,X3.at,CP,zI (by decide +kernel) (λ_ h=>nomatch h),by show st.rows.length<=1000;omega,λc4 H4 s4 hc4=>?_⟩
  exact q c4 H4 ((s1.trans s3).trans s4) hc4
theorem O2 (T:Txt w.params K mg A){i:Nat}:ay P w K mg base (CXX P w) 6 A.cc A.hV ["self","number"] (ML A i):=by
 have jY:ay P w K mg base CX0 4 A.lx A.gP ["deed"] (R.CC K):=R.oO T;have zB:ay P w K mg base CX0 3 A.yX A.nI ["pile","closed"] (Mx A K):=Bo T;have iZ:ay P w K mg base CX0 1 A.bB A.dC ["self"] (vj A i):=zw T;have sE:ay P w K mg base CX0 1 A.qi A.nL ["self","bar"] (Ag A.fv "bar"):=wc T;have GQ:ay P w K mg base CX0 1 A.tQ A.rp ["self","sitting"] (Ag A.gi "sitting"):=DM T;refine T.gv.okX pb (λvs H Q E h=>?_) (λcdv A' outer s H vs Q E hr h=>?_)
 ·obtain⟨o,z,c,st,N,rfl,_⟩:=h;rfl
 ·obtain⟨o,z,c,st,N,rfl,hc,I,hN,hz0,hz1,q⟩:=h;obtain⟨dx,aM,aP,aA,aD,aF,aE,aR,ms,ds,ws,fs,es,X⟩:=hc.ex;have hu1:=hr.u1;have hgd:=hr.gd;have iX:Room 4 _:=hr.mono (by decide)
  have vo:Room 3 _:=hr.mono (by decide)
  have ig:Room 1 _:=hr.mono (by decide)
  have JL:Room 2 _:=hr.mono (by decide)
  have lim:gp=16777216:=by decide
  refine⟨_,(aW (i9 (pZ (aZ (pv 0) rfl) (λ_=>rfl))
 (bC (ou T.nO sE JL T.lO rfl rfl T.tY (aa (bb zB vo rfl T.y0 T.tR.kp T.yZ .nil aV (aa (cw (pv 0) T.ag T.iQ iZ ig T.d5 .nil aV) (aa (aZ (pv 0) rfl) ah))) ah)))
 (yD aQ))
 (aW (i9 (KI (AZ hu1 (pv 1) (aZ (pv 0) rfl)))
 (bC (ja T.zg rfl rfl T.vc (aa (AV (lC (uQ (pv 1) (lC uP)))) ah)))
 (yD aQ))
 (aW (psx (bh (i:=2) pb.nd rfl (aec rfl) (bp bf (mz hu1 (aZ (pv 0) rfl) (pv 1) (λ_ _=>rfl)) ak (λ_ _=>rfl))))
 (aW (i9 (aJ Ir (aZ (pv 0) rfl) (pv 2) (aS _))
 (bC (ou T.rB GQ JL T.oK rfl rfl T.zc (aa (pv 2) ah)))
 (yD aQ))
 (aW (psx (eB (pv 0) (bp Rp (LG (aZ (pv 0) rfl) (pv 1) ⟨rfl,rfl,rfl,rfl⟩) ak (λ_ _=>rfl)) rfl))
 (aW (psx (a6 (lA ad2 aeq aer gD (aZ (pv 0) rfl) (aa (bb jY iX rfl T.mF T.jT.kp T.mE .nil aV (aa (bH (aa az (aa (pv 1) ah))) ah)) ah))))
 (bC (psx (aL (pv 1)))))))))),?_⟩
  by_cases hz:z=-1
  ·subst hz;refine eT rfl X.ob T.ag T.jq0 eP ⟨_,.inl ⟨_,.inl (.inl X.au.2),rfl⟩,?_⟩;rw[show ((-1:Int).toNat)=0 from rfl]at q
   unfold stepT at q;cases e:st.au with
   |cons k0 r0 =>
    rw[if_neg (by rw[e];exact aeC _ _)]at q
    have lp:=I.pil.GK;rw[cb]at lp;have hb:=zy st.closed (st.au.map st.mo);have hb0:0<=sD st.closed (st.au.map st.mo):=Int.le_trans (by
     by_cases z:kW (st.au.map st.mo) < 0
     ·have:=zE z;rw[e]at this;cases this
     ·omega) (qH _ _)
    refine pM (mtv rfl X.ob (dJ (by decide +kernel)) ⟨o,c,st,rfl,hc,I.cS,by omega,λB os hB hos=>?_⟩)
    have sB:=aK (o:=.lst (os.map V.ref)) hB;refine eT rfl (sB _ _ X.ob) T.ag T.jq4 oS ⟨B,st.closed,c,st.au.map st.mo,os,rfl,⟨SqL.of ae,uj sB hos⟩,?_⟩;refine⟨_,rfl,nU (by omega) (by omega),λd hd=>?_⟩
    exact q (bP c H) _ _ _ (Step.cl av (sB.new hd)) (X.cl (sB.new hd)).at ⟨rfl,d,rfl,ae⟩ (λ_ z=>by cases z;exact dI (same_none sB hd))
   |nil =>
    rw[if_pos e,I.no0]at q;refine gf ?_;refine⟨_,rfl,eT rfl X.ob T.ag T.jq3 js ⟨aA,_,rfl,.inl ⟨_,km (-1),.inl X.aI.2,rfl,rfl⟩,_,rfl,?_⟩⟩;rw[Bt];have l1:(ael++ar "no matter of the number ":Str).length=24:=by decide +kernel
    have l2:(ar " is aside").length=9:=by decide +kernel
    have l3:(ar (toString (-1:Int))).length=2:=by decide +kernel
    refine pM ⟨by rw[l1];omega,_,rfl,_,.int (by decide),by rw[l3];omega,by rw[len_app,l1,l3];omega,by rw[len_app,len_app,l1,l2,l3];omega,by rw[len_app,len_app,l1,l2,l3];omega,(sl 1),?_⟩
    exact q c H _ _ (Step.refl av) hc ⟨rfl,rfl⟩ (λ_ z=>nomatch z)
  refine hide λGg hGg=>?_
  obtain⟨n,rfl⟩:∃n:Nat,z=(n:Int):=⟨z.toNat,by omega⟩
  rw[aeP]at q;have adX:n < 10 ^ 10:=by
   have:(10:Nat) ^ 10=10000000000:=by decide
   have:(10:Int) ^ 10=10000000000:=by decide
   omega
  clear hz hz0 hz1;refine hGg ?_;refine eT rfl X.ob T.ag T.jq0 eP ⟨_,.inl ⟨_,.inl (.inl X.au.2),rfl⟩,?_⟩;unfold stepT at q;cases e:st.au with
  |cons k0 r0 =>
   rw[if_neg (by rw[e];exact aeC _ _)]at q
   have lp:=I.pil.GK;rw[cb]at lp;have hb:=zy st.closed (st.au.map st.mo);have hb0:0<=sD st.closed (st.au.map st.mo):=Int.le_trans (by
    by_cases z:kW (st.au.map st.mo) < 0
    ·have:=zE z;rw[e]at this;cases this
    ·omega) (qH _ _)
   refine pM (mtv rfl X.ob (dJ (by decide +kernel)) ⟨o,c,st,rfl,hc,I.cS,by omega,λB os hB hos=>?_⟩)
   have sB:=aK (o:=.lst (os.map V.ref)) hB;refine eT rfl (sB _ _ X.ob) T.ag T.jq4 oS ⟨B,st.closed,c,st.au.map st.mo,os,rfl,⟨SqL.of ae,uj sB hos⟩,?_⟩;refine⟨_,rfl,nU (by omega) (by omega),λd hd=>?_⟩
   exact q (bP c H) _ _ _ (Step.cl av (sB.new hd)) (X.cl (sB.new hd)).at ⟨rfl,d,rfl,ae⟩ (λ_ z=>by cases z;exact dI (same_none sB hd))
  |nil =>
   rw[if_pos e]at q;refine gf ?_;refine⟨_,rfl,eT rfl X.ob T.ag T.jq3 js ⟨aA,_,rfl,.inl ⟨_,km (n:Int),.inl X.aI.2,rfl,rfl⟩,_,rfl,?_⟩⟩;cases hx:at1 n st.aI with
   |none =>
    rw[hx]at q;rw[sF (zC hx)];have l1:(ael++ar "no matter of the number ":Str).length=24:=by decide +kernel
    have l2:(ar " is aside").length=9:=by decide +kernel
    have e10:(10:Nat) ^ 10=10000000000:=by decide
    have l3:(ar (toString (n:Int))).length<=20:=Bn (by omega) (by omega)
    refine pM ⟨by rw[l1];omega,_,rfl,_,.int (rC (by omega) (by omega)),by omega,by rw[len_app,l1];omega,by rw[len_app,len_app,l1,l2];omega,by rw[len_app,len_app,l1,l2];omega,(sl 1),?_⟩
    exact q c H _ _ (Step.refl av) hc ⟨rfl,rfl⟩ (λ_ z=>nomatch z)
   |some x =>
    refine hide λGg hGg=>?_
    rw[hx]at q;dsimp only at q;obtain⟨t,p,hv,ht,hl⟩:=X.waitOf hx;refine hGg ?_;rw[hv];refine gf ?_;refine⟨_,rfl,o,A.ao,dx,_,.ref aA,rfl,X.ob,T.ag,T.jq3,js,_,rfl,aA,_,rfl,.inl ⟨_,km (n:Int),.inl X.aI.2,rfl,hv.symm⟩,t,_,_,_,rfl,rfl,ht.sq,rfl,?_⟩;refine⟨_,rfl,o,A.ao,dx,_,.int st.aq,rfl,X.ob,T.ag,T.jq1,iE,_,rfl,_,_,rfl,rfl,_,rfl,nv (λz=>?_) (λz=>?_)⟩
    ·have z':st.aq < x.2.1:=of_decide_eq_true z;refine hide λGg hGg=>?_
     rw[if_pos z']at q;obtain⟨_,_,b1,b2⟩:=I.asd x (mH hx).2;refine hGg ?_;refine⟨_,rfl,_,rfl,nU (by have:=I.sit.1;omega) b2,λd hd=>?_⟩
     exact q (bP c H) _ _ _ (Step.cl av (aK hd)) (X.cl (aK hd)).at ⟨rfl,d,rfl,ae⟩ (λ_ z=>by cases z;exact dI hd)
    ·have z':¬st.aq < x.2.1:=λy=>z (decide_eq_true y)
     rw[if_neg z']at q;have nAt:t≠aA:=λy=>by have:=ht.1;rw[y,X.aI.1]at this;cases this
     have ht':SqT K (upd H aA (.dK (kD (bc ((st.aI.map (·.1)).zip ws)) (km (n:Int))))) t [.int x.2.1,.ref p]:=by
      rcases ht.2 with h | ⟨u,h⟩
      ·exact .inl (.inl ((aw nAt).trans h))
      ·exact .inl (.inr ⟨u,(aw nAt).trans h⟩)
     have oA:o≠aA:=qF X.co X.aI.1 (λz=>nomatch z)
     refine eT rfl X.ob T.ag T.jq3 js ⟨aA,rfl,.inl ⟨_,.inl X.aI.2⟩,_,rfl,_,km (n:Int),_,X.aI.2,rfl,hv,.inr (.inl ⟨t,_,1,.ref p,rfl,rfl,ht',rfl,?_⟩)⟩;refine⟨_,rfl,o,A.ao,dx,_,rfl,(aw oA).trans X.ob,T.ag,T.jq0,(by show 10 < 1000;decide),?_⟩
     rw[DK];refine hide λGg hGg=>?_
     obtain⟨c1,ws1,s1,X1⟩:=X.rV hl;refine hGg ?_;generalize upd (upd H aA (.dK (kD (bc ((st.aI.map (·.1)).zip ws)) (km (n:Int))))) o (.ins A.ao dx (chF (.int st.cH) (.int st.aq) (.bl st.closed) (.ref aM) (.ref p) (.ref aA) (.ref aD) (.ref aF) (.ref aE) (.ref aR)))=H1 at s1 X1 ⊢
     have lr:=I.lr;have h10:(n:Int) < 10 ^ 10:=by
      have:(10:Nat) ^ 10=10000000000:=by decide
      have:(10:Int) ^ 10=10000000000:=by decide
      omega
     refine eT rfl X1.ob T.ag T.jqd uc ⟨.inl ⟨rfl,_,SqL.of X1.rows.2⟩,_,rfl,(sl 2),λu hu=>?_⟩
     have s2:=aK (o:=.tup [V.str (ar "take"),nV n]) hu;refine⟨u,.nums (ar "take") [(n:Int)],rfl,SqT.of ae,zI (by show (ar "take",1)∈R.iV;decide +kernel) (by intro i hi;rw[tu]at hi;rw[hi];exact⟨by omega,h10⟩),λH2 s3=>?_⟩
     have X2:=X1.same (s2.trans s3);obtain⟨s4,X3⟩:=X2.row (R.nS (.nums (ar "take") [(n:Int)]));refine⟨aR,_,_,rfl,rfl,X2.rows.2,by rw[cb];show st.rows.length < _;omega,_,rfl,?_⟩
     exact q c1 _ ((s1.qw.trans (Step.same av (s2.trans s3))).trans s4.qw) X3.at
end
end My
set_option maxHeartbeats 1000000
namespace My
open PySem L2
seal PySem.wpAny
def f9:R.gZ->Mn
 | .mat cs=>.mat (cs.map (kf R.bl1))
 | .ed m k j ws=>if m=true then .mnd ⟨k,j,kf R.bl1 ws⟩ else .chg ⟨k,j,kf R.bl1 ws⟩
 | .pt ws=>.pnt (kf R.bl1 ws)
 | .nums kd ns=>if kd=ar "put off" then .off (ns.getD 0 0) else if kd=ar "close" then .cls else if kd=ar "lay" then .lay else .rst
def yl:List (Str×Nat):=[(ar "put off",1),(ar "close",0),(ar "lay",0),(ar "rest",0)]
def zJ:R.gZ->Prop
 | .mat cs=>cs.length<=12/\∀ws∈cs,R.wG 12 ws
 | .ed m k j ws=>(k=0\/k=1\/k=2)/\(-1000<=j/\j<=1000)/\R.wG 12 ws/\(m=true->ws.length=1)
 | .pt ws=>R.wG 12 ws
 | .nums kd ns=>(kd,ns.length)∈yl/\∀i∈ns,-10000000000 < i/\i < 10 ^ 10
theorem ym {kd:Str}{ns:List Int}(h:(kd,ns.length)∈yl):(∃u,kd=ar "put off"/\ns=[u])\/(kd=ar "close"/\ns=[])\/(kd=ar "lay"/\ns=[])\/(kd=ar "rest"/\ns=[]):=by
 unfold yl at h;simp only[List.mem_cons,List.not_mem_nil,or_false,Prod.mk.injEq]at h;rcases h with ⟨h1,h2⟩ | ⟨h1,h2⟩ | ⟨h1,h2⟩ | ⟨h1,h2⟩
 ·cases ns with
  |nil=>simp at h2
  |cons u r =>
   cases r with
   |nil=>exact .inl ⟨u,h1,rfl⟩
   |cons _ _=>simp at h2
 ·exact .inr (.inl ⟨h1,List.length_eq_zero_iff.mp h2⟩)
 ·exact .inr (.inr (.inl ⟨h1,List.length_eq_zero_iff.mp h2⟩))
 ·exact .inr (.inr (.inr ⟨h1,List.length_eq_zero_iff.mp h2⟩))
theorem DS {n:Nat}{ws:List Str}(h:R.wG n ws):aef (kf R.bl1 ws)=true:=(R.Clause.asc (n:=n) ⟨rfl,h.len,h.wd⟩).ok
theorem GR {N:Nat}:∀ {d:R.gZ},zJ d->MOk N (f9 d)
 | .mat cs,h=>by
  refine⟨?_,?_⟩
  ·rw[cb];have:=h.1;omega
  ·intro x hx;obtain⟨ws,hw,rfl⟩:=List.mem_map.mp hx;exact DS (h.2 ws hw)
 | .ed m k j ws,h=>by
  obtain⟨h1,⟨h2,h3⟩,h4,h5⟩:=h;cases m with
  |true =>
   show EdB 1 ⟨k,j,kf R.bl1 ws⟩/\_;have hl:=h5 rfl
   match ws,hl,h4 with
   |[x],_,h4=>exact⟨⟨h1,h2,h3,[x],rfl,h4.wd,kg 1⟩,x,rfl,h4.wd x fu⟩
  |false =>
   show EdB (12+N) ⟨k,j,kf R.bl1 ws⟩;exact⟨h1,h2,h3,ws,rfl,h4.wd,by have:=h4.len;omega⟩
 | .pt ws,h=>DS h
 | .nums kd ns,h=>by
  obtain⟨h1,h2⟩:=h;rcases ym h1 with ⟨u,rfl,rfl⟩ | ⟨rfl,rfl⟩ | ⟨rfl,rfl⟩ | ⟨rfl,rfl⟩
  ·rw[f9,if_pos rfl];obtain⟨a,b⟩:=h2 u fu;have:(10:Int) ^ 10=10000000000:=by decide
   exact⟨a,by show u < _;omega⟩
  ·rw[f9,if_neg (by decide +kernel),if_pos rfl];trivial
  ·rw[f9,if_neg (by decide +kernel),if_neg (by decide +kernel),if_pos rfl];trivial
  ·rw[f9,if_neg (by decide +kernel),if_neg (by decide +kernel),if_neg (by decide +kernel)];trivial
theorem Qc {M:Nat}{e:Ed}(h:et M e=true):0<=e.at_:=(DE.mp h).1
theorem So {N:Nat}{st:Ch}(I:Inv N st){d:R.gZ}(h:zJ d)(hc:kY st (f9 d)=none):R.DOk d:=by
 have ho:qC st.closed (st.au.map st.mo) (f9 d).k=none/\nW st (f9 d)=none:=by
  unfold kY at hc;split at hc
  ·cases hc
  ·exact⟨by assumption,hc⟩
 obtain⟨h0,hf⟩:=ho;cases d with
 |mat cs=>exact h
 |pt ws=>exact h
 |ed m k j ws =>
  obtain⟨h1,⟨h2,h3⟩,h4,h5⟩:=h;have e10:(10:Int) ^ 10=10000000000:=by decide
  refine⟨h1,⟨?_,by omega⟩,h4,h5⟩
  cases m with
  |true =>
   rw[f9,if_pos rfl]at h0 hf;have h3:mO (st.au.map st.mo)=true:=(uh h0).2;unfold mO at h3;split at h3
   ·rename_i e he;unfold nW at hf;dsimp only at hf;rw[he]at hf;dsimp only at hf;split at hf
    ·rename_i h6;exact Qc h6
    ·cases hf
   ·cases h3
  |false =>
   rw[f9,if_neg kj]at h0 hf;obtain⟨tx,r,e1⟩:=I.pil.JP (uh h0).2;unfold nW at hf;dsimp only at hf;rw[e1]at hf;dsimp only at hf;split at hf
   ·rename_i h6;exact Qc h6
   ·cases hf
 |nums kd ns =>
  obtain⟨h1,h2⟩:=h;have s1:=I.sit.1;rcases ym h1 with ⟨u,rfl,rfl⟩ | ⟨rfl,rfl⟩ | ⟨rfl,rfl⟩ | ⟨rfl,rfl⟩
  ·rw[f9,if_pos rfl]at hf;refine⟨by show (ar "put off",1)∈R.iV;decide +kernel,λi hi=>?_⟩
   rw[tu]at hi;subst hi;unfold nW at hf;dsimp only at hf;split at hf
   ·cases hf
   ·rename_i h6;have h7:¬i<=st.aq:=h6;exact⟨by omega,(h2 i fu).2⟩
  ·exact⟨by decide +kernel,λ_ h=>nomatch h⟩
  ·exact⟨by decide +kernel,λ_ h=>nomatch h⟩
  ·exact⟨by decide +kernel,λ_ h=>nomatch h⟩
theorem DT {i:Nat}{c:Col}{H:Hp}{t:Addr}:∀ {d:R.gZ},zJ d->lV i c H d t->∃v,ug i c H t (rowOf (f9 d).k v)/\((f9 d).k=0->∃L tx,v=.ref L/\f9 d=.mat tx/\JO i c H L (tx.map V.str))/\((f9 d).k≠0->(f9 d).Val c H v)
 | .mat cs,_,⟨L,a,b⟩=>⟨.ref L,a,λ_=>⟨L,_,rfl,rfl,b⟩,λz=>absurd rfl z⟩
 | .ed true k j ws,h,⟨e,a,b⟩=>⟨.ref e,a,λz=>(nomatch z),λ_=>⟨e,rfl,by rw[<-MD h.1];exact b⟩⟩
 | .ed false k j ws,h,⟨e,a,b⟩=>⟨.ref e,a,λz=>(nomatch z),λ_=>⟨e,rfl,by rw[<-MD h.1];exact b⟩⟩
 | .pt ws,_,a=>⟨.str (kf R.bl1 ws),a,λz=>(nomatch z),λ_=>rfl⟩
 | .nums kd ns,h,a=>by
  rcases ym h.1 with ⟨u,rfl,rfl⟩ | ⟨rfl,rfl⟩ | ⟨rfl,rfl⟩ | ⟨rfl,rfl⟩
  ·rw[f9,if_pos rfl];exact⟨.int u,a,λz=>(nomatch z),λ_=>rfl⟩
  ·rw[f9,if_neg (by decide +kernel),if_pos rfl]
   exact⟨.non,a,λz=>(nomatch z),λ_=>trivial⟩
  ·rw[f9,if_neg (by decide +kernel),if_neg (by decide +kernel),if_pos rfl]
   exact⟨.non,a,λz=>(nomatch z),λ_=>trivial⟩
  ·rw[f9,if_neg (by decide +kernel),if_neg (by decide +kernel),if_neg (by decide +kernel)]
   exact⟨.non,a,λz=>(nomatch z),λ_=>trivial⟩
def GS (A:Adr)(K:ba):Sp:=λvs H Q E=>IQ A vs H Q E\/DF A K vs H Q E
def Qd (A:Adr)(i:Nat):Sp:=λvs H Q E=>∃(o t:Addr) (c:Col) (st:Ch) (N:Nat) (d:R.gZ),vs=[.ref o,.ref t]/\d9 A i c H o st/\Inv N st/\N<=800/\zJ d/\lV i c H d t /\
 (kY st (f9 d)=none->∀H',bJ H H'->Q .non H')/\∀x,kY st (f9 d)=some x->∀C e H',bJ H H'->x.New A H H' C e->E C e H'
def vv (A:Adr)(i:Nat):Sp:=λvs H Q E=>∃(o t:Addr) (c:Col) (st:Ch) (N:Nat) (d:R.gZ),vs=[.ref o,.ref t]/\d9 A i c H o st/\Inv N st/\N<=800/\zJ d/\lV i c H d t/\Jf A i c H o (pD st (f9 d) (R.nS d)) Q E
theorem MOk.ed1 {N:Nat}{e:Ed}(h:MOk N (.chg e))(hN:N<=800):tZ e:=EdB.ok h (by omega)
theorem MOk.ed2 {N:Nat}{e:Ed}(h:MOk N (.mnd e)):tZ e:=EdB.ok h.1 (by decide)
section
variable{P:ku}{w:World}{K:ba}{mg:Str->Option Value}{base:Heap}{A:Adr}
theorem oW (T:Txt w.params K mg A){i:Nat}:ay P w K mg base (CXX P w) 6 A.aO A.b5 ["self","told"] (Qd A i):=by
 have iZ:ay P w K mg base CX0 1 A.bB A.dC ["self"] (vj A i):=zw T;have sG:ay P w K mg base (CXX P w) 5 A.gM A.eu ["kind","pile","closed"] (P6 A K):=rL T;have jN:ay P w K mg base (CXX P w) 2 A.jR A.gh ["things","edit"] (Mh A K):=qq T;have fh:ay P w K mg base CX0 1 A.words_of A.eV ["clause"] R.ly:=R.jV T;have CU:ay P w K mg base CX0 1 A.oH A.mB ["self","sitting"] (Ag A.jh "sitting"):=As T;refine T.bK.okX cK (λvs H Q E h=>?_) (λcdv A' outer s H vs Q E hr h=>?_)
 ·obtain⟨o,t,c,st,N,d,rfl,_⟩:=h;rfl
 ·obtain⟨o,t,c,st,N,d,rfl,hc,I,hN,hd,hdc,q,qx⟩:=h;obtain⟨dx,aM,aP,aA,aD,aF,aE,aR,ms,ds,ws,fs,es,X⟩:=hc.ex;have hu1:=hr.u1;have ig:Room 1 _:=hr.mono (by decide)
  have rO:Room 5 _:=hr;have iU:Room 2 _:=hr.mono (by decide)
  have d8:Room 1 _:=hr.mono (by decide)
  have JL:Room 2 _:=hr.mono (by decide)
  refine⟨_,(aW (psx (bh (i:=2) cK.nd rfl (aec rfl) (bp bf (pv 1) ak (λ_ _=>rfl))))
 (aW (psx (bh (i:=3) cK.nd rfl (aec rfl) (cw (pv 0) T.ag T.iQ iZ ig T.d5 .nil aV)))
 (aW (lB (tI sG rO rfl T.lK T.ib.kp T.lJ (pax (aa (pv 2) (aa (pv 3) (aa (aZ (pv 0) rfl) ah))))))
 (bC (i9 (aJ bY (pv 2) az (aS _))
 (bC (lB (tI jN iU rfl T.jM T.gX.kp T.jL (pax (aa (aZ (bp iH (pv 3) ak (λ_ _=>rfl)) rfl) (aa (bp bf (pv 1) ak (λ_ _=>rfl)) ah))))))
 (bC (i9 (aJ bY (pv 2) az (aS _))
 (bC (lB (tI jN iU rfl T.jM T.gX.kp T.jL (pax (aa (bb fh d8 rfl T.jk T.ia.kp T.jj .nil aV (aa (bp bf (aZ (bp iH (pv 3) (AF uL ak) (λ_ _=>rfl)) rfl) ak (λ_ _=>rfl)) ah)) (aa (bp bf (pv 1) ak (λ_ _=>rfl)) ah))))))
 (bC (i9 (PW.pt (pw_and (aJ bY (pv 2) az (aS _)) (pw_and1 (aJ Iu (bp bf (pv 1) ak (λ_ _=>rfl)) (aZ (pv 0) rfl) (aS _)))))
 (bC (ou T.mG CU JL T.kR rfl rfl T.zb (aa (aZ (pv 0) rfl) ah)))
 (yD aQ)))))))))),?_⟩
  refine hide λGg hGg=>?_
  obtain⟨v,ht,hv0,hv1⟩:=DT hd hdc;have hmk:=GR (N:=N) hd;refine hGg ?_;generalize f9 d=m at ht hv0 hv1 hmk q qx;have lp:=I.pil.GK;rw[cb]at lp;refine ixv rfl (SqT.of ht.2) CI ?_;refine mtv rfl X.ob (dJ (by decide +kernel)) ⟨o,c,st,rfl,hc,I.cS,by omega,λB os hB hos=>?_⟩
  have sB:=aK (o:=.lst (os.map V.ref)) hB;have hp:ue A K c (upd H B (.lst (os.map V.ref))) B (st.au.map st.mo) os:=⟨SqL.of ae,uj sB hos⟩;generalize upd H B (.lst (os.map V.ref))=H1 at sB hp;refine⟨_,rfl,_,rfl,eT rfl (sB _ _ X.ob) T.ag T.jq4 oS ⟨m.k,B,st.closed,c,st.au.map st.mo,os,rfl,m.k8,hp,by rw[cb];omega,λho H2 s2=>?_,λx hx C e H2 s2 hat=>?_⟩⟩
  case refine_2=>exact qx x (by unfold kY;rw[hx]) C e H2 (sB.trans s2) ⟨hat.1,λa z=>same_none sB (hat.2 a z)⟩
  have ec:kY st m=nW st m:=by unfold kY;rw[ho]
  rw[ec]at q qx;have s12:=sB.trans s2;have hp2:=hp.same s2;obtain⟨h1,h2⟩:=uh ho;have X2:=X.same s12;have ht2:H2 t=some (.tup (rowOf m.k v)):=s12 _ _ ht.2;cases m with
  |mat tx=>exact⟨_,rfl,rfl,tsf (fW 0 (by decide)) ⟨_,rfl,rfl,tsf (ie 0 (by decide)) ⟨_,rfl,rfl,tsf (kA 0 (by decide)) (gf (q rfl H2 s12))⟩⟩⟩
  |pnt z=>exact⟨_,rfl,rfl,tsf (fW 7 (by decide)) ⟨_,rfl,rfl,tsf (ie 7 (by decide)) ⟨_,rfl,rfl,tsf (kA 7 (by decide)) (gf (q rfl H2 s12))⟩⟩⟩
  |cls=>exact⟨_,rfl,rfl,tsf (fW 4 (by decide)) ⟨_,rfl,rfl,tsf (ie 4 (by decide)) ⟨_,rfl,rfl,tsf (kA 4 (by decide)) (gf (q rfl H2 s12))⟩⟩⟩
  |lay=>exact⟨_,rfl,rfl,tsf (fW 5 (by decide)) ⟨_,rfl,rfl,tsf (ie 5 (by decide)) ⟨_,rfl,rfl,tsf (kA 5 (by decide)) (gf (q rfl H2 s12))⟩⟩⟩
  |rst=>exact⟨_,rfl,rfl,tsf (fW 6 (by decide)) ⟨_,rfl,rfl,tsf (ie 6 (by decide)) ⟨_,rfl,rfl,tsf (kA 6 (by decide)) (gf (q rfl H2 s12))⟩⟩⟩
  |chg e =>
   refine⟨_,rfl,rfl,tst (fW 1 (by decide)) ?_⟩
   refine hide λGg hGg=>?_
   obtain⟨tx,r,e1⟩:=I.pil.JP h2;obtain⟨te,rfl,hte⟩:=hv1 (by simp[Mn.k])
   rw[e1]at hp2;obtain⟨hB2,ho2⟩:=hp2;refine hGg ?_;cases ho2 with
   | @cons _ ob _ bs hm adS =>
    refine hide λGg hGg=>?_
    obtain⟨_,dm,v,hm2,L,rfl,hL⟩:=hm;refine hGg ?_;refine ixv rfl hB2 (oq (j:=0) rfl) ⟨ob,A.C 0,dm,_,.ref L,rfl,hm2,T.cl 0 (by decide),T.na0,rfl,ixv rfl (SqT.of ht2) rfl ?_⟩
    refine⟨L,te,tx.map V.str,e,rfl,SqL.of hL.2,dW s12 hte.sq,hmk.ed1 hN,λhf=>?_,λhf=>?_⟩
    ·rw[cb]at hf;refine q ?_ H2 s12;unfold nW;dsimp only;rw[e1];dsimp only;rw[if_pos hf]
    ·rw[cb]at hf;refine qx .noFit ?_ _ _ H2 s12 ⟨⟨rfl,rfl⟩,λ_ z=>nomatch z⟩
     unfold nW;dsimp only;rw[e1];dsimp only;rw[if_neg (by rw[hf];decide)]
  |mnd f =>
   refine⟨_,rfl,rfl,tsf (fW 2 (by decide)) ⟨_,rfl,rfl,tst (ie 2 (by decide)) ?_⟩⟩
   refine hide λGg hGg=>?_
   have h3:mO (st.au.map st.mo)=true:=h2;unfold mO at h3;obtain⟨e,he,hk1⟩:∃e,(st.au.map st.mo).getLast?=some (.chg e)/\e.k≠1:=by
    split at h3
    ·rename_i e he;exact⟨e,he,λz=>by rw[z]at h3;cases h3⟩
    ·cases h3
   obtain⟨r,e1⟩:=rF he;obtain⟨te,rfl,hte⟩:=hv1 (by simp[Mn.k])
   obtain⟨hB2,ho2⟩:=hp2;obtain⟨pre,ob,eo⟩:∃pre ob,os=pre++[ob]:=by
    have hl:=ho2.len;rw[e1,kr,ad4]at hl;rcases aej os with e | ⟨pre,n,e⟩
    ·rw[e]at hl;simp at hl
    ·exact⟨pre,n,by rw[e,aek]⟩
   subst eo;obtain⟨as',a,e3,_,hm⟩:=ho2.last;rw[e1]at e3;obtain⟨_,e4⟩:=List.append_inj' e3 rfl;cases e4;obtain⟨_,dm,v,hm2,tc,rfl,htc⟩:=hm;have hem:EdB (12+N) e:=by
    have Sq:Mn.chg e∈st.au.map st.mo:=by rw[e1];simp
    obtain⟨k,hk,ek⟩:=List.mem_map.mp Sq;have:=I.DQ (I.cS k hk);rw[ek]at this;exact this
   have heo:tZ e:=hem.ok (by omega)
   refine hGg ?_;refine⟨_,rfl,_,rfl,B,_,_,_,rfl,rfl,hB2,zz pre ob,ob,A.C 1,dm,_,.ref tc,rfl,hm2,T.cl 1 (by decide),T.na1,rfl,tc,_,_,_,rfl,rfl,htc.sq,Cu hk1,e.th,rfl,?_,λp1 hp1=>?_⟩
   ·have:=heo.th.len;have lim:gp=16777216:=by decide
    omega
   have s3:=aK (o:=.lst ((R.bG e.th).map V.str)) hp1;have s13:=s12.trans s3;refine ixv rfl (SqT.of (s3 _ _ ht2)) rfl ?_;refine⟨p1,te,(R.bG e.th).map V.str,f,rfl,SqL.of ae,dW s13 hte.sq,hmk.ed2,λhf=>?_,λhf=>?_⟩
   ·rw[cb]at hf;refine q ?_ _ s13;unfold nW;dsimp only;rw[he];dsimp only;rw[if_pos hf]
   ·rw[cb]at hf;refine qx .noFit ?_ _ _ _ s13 ⟨⟨rfl,rfl⟩,λ_ z=>nomatch z⟩
    unfold nW;dsimp only;rw[he];dsimp only;rw[if_neg (by rw[hf];decide)]
  |off u =>
   have hv':v=.int u:=hv1 (by simp[Mn.k])
   subst hv';refine⟨_,rfl,rfl,tsf (fW 3 (by decide)) ⟨_,rfl,rfl,tsf (ie 3 (by decide)) ⟨_,rfl,rfl,tst (kA 3 (by decide)) ?_⟩⟩⟩
   refine ixv rfl (SqT.of ht2) rfl (eT rfl X2.ob T.ag T.jq1 iE ⟨_,_,rfl,rfl,_,rfl,nv (λz=>?_) (λz=>?_)⟩)
   ·have z':u<=st.aq:=of_decide_eq_true z;have:=I.sit;refine eT rfl X2.ob T.ag T.jq1 iE ⟨_,rfl,nU (by omega) (by omega),λd hd=>?_⟩
    refine qx (.ud st.aq) ?_ _ _ _ (s12.new hd) ⟨⟨rfl,d,rfl,ae⟩,λ_ z=>by cases z;exact same_none s12 hd⟩
    unfold nW;dsimp only;rw[if_pos z']
   ·have z':¬u<=st.aq:=λy=>z (decide_eq_true y)
    refine q ?_ _ s12;unfold nW;dsimp only;rw[if_neg z']
end
end My
set_option maxHeartbeats 1000000
namespace My
open PySem L2
seal PySem.wpAny
section
variable{P:ku}{w:World}{K:ba}{mg:Str->Option Value}{base:Heap}{A:Adr}
theorem O3 (T:Txt w.params K mg A):ay P w K mg base CX0 3 A.lu A.gK ["told"] (GS A K):=Wt (CB T) (Ar T)
theorem MN {i:Nat}{c:Col}{H:Hp}{t:Addr}{m:Mn}{v:V}{Q:VK}{E:XK}(ht:ug i c H t (rowOf m.k v))(hv0:m.k=0->∃L tx,v=.ref L/\m=.mat tx/\JO i c H L (tx.map V.str))(hv1:m.k≠0->m.Val c H v)
  (q:∀mo H',bJ H H'->lT A (bP c H) H' m mo->Q (.ref mo) H'):GS A K [.ref t] H Q E:=by
 by_cases h0:m.k=0
 ·obtain⟨L,tx,rfl,rfl,hL⟩:=hv0 h0;refine .inr ⟨t,L,tx.map V.str,rfl,ht.2,SqL.of hL.2,λmo p H' s hm hp hp' hmo=>q mo H' s ?_⟩
  obtain⟨dx,hmo⟩:=hmo;exact⟨dI hm,dx,.ref p,hmo,p,rfl,dI hp,hp'⟩
 ·refine .inl ⟨t,m.k,v,by omega,m.k8,rfl,ht.2,λmo H' s hm hmo=>q mo H' s ?_⟩
  obtain⟨dx,hmo⟩:=hmo;exact⟨dI hm,dx,v,hmo,(hv1 h0).step (Step.cl (W:=λ_=>False) id s)⟩
theorem yn (T:Txt w.params K mg A){i:Nat}:ay P w K mg base (CXX P w) 7 A.bD A.dc ["self","told"] (vv A i):=by
 have j3:ay P w K mg base (CXX P w) 6 A.aO A.b5 ["self","told"] (Qd A i):=oW T;have DU:ay P w K mg base CX0 3 A.lu A.gK ["told"] (GS A K):=O3 T;have jY:ay P w K mg base CX0 4 A.lx A.gP ["deed"] (R.CC K):=R.oO T;refine T.gq.okX o9 (λvs H Q E h=>?_) (λcdv A' outer s H vs Q E hr h=>?_)
 ·obtain⟨o,t,c,st,N,d,rfl,_⟩:=h;rfl
 ·obtain⟨o,t,c,st,N,d,rfl,hc,I,hN,hd,hdc,q⟩:=h;obtain⟨dx,aM,aP,aA,aD,aF,aE,aR,ms,ds,ws,fs,es,X⟩:=hc.ex;have hu1:=hr.u1;have jv:Room 6 _:=hr;have CV:Room 3 _:=hr.mono (by decide)
  have iX:Room 4 _:=hr.mono (by decide)
  have lim:gp=16777216:=by decide
  refine⟨_,(aW (lB (Dn (px (pv 0)) T.ag T.eX j3 jv T.b8 (pax (aa (pv 1) ah))))
 (aW (psx (bh (i:=2) o9.nd rfl (aec rfl) (bA j7 (nr JG (by rfl) T.IH Gf (aa (aZ (pv 0) rfl) ah)) ak)))
 (aW (psx (rj hu1 (aZ (pv 0) rfl) (pv 2) (bb DU CV rfl T.vU T.mD.kp T.vT .nil aV (aa (pv 1) ah)) rfl))
 (aW (psx (a6 (lA ad2 aeq aer gD (aZ (pv 0) rfl) (aa (pv 2) ah))))
 (aW (psx (bI (aJ bY (bp bf (pv 1) ak (λ_ _=>rfl)) az (aS _))
 (ai (rj hu1 (aZ (pv 0) rfl) (pv 2) (gC eY (by rfl) T.qo ot (aa (bp bf (pv 1) ak (λ_ _=>rfl)) ah)) rfl)
 (aj (rj hu1 (aZ (pv 0) rfl) (pv 2) (gQ ah) rfl)))
 aQ))
 (aW (psx (a6 (lA ad2 aeq aer gD (aZ (pv 0) rfl) (aa (bb jY iX rfl T.mF T.jT.kp T.mE .nil aV (aa (pv 1) ah)) ah))))
 (bC (psx (aL (pv 2)))))))))),?_⟩
  unfold pD at q;refine mtv rfl X.ob (dJ (by decide +kernel)) ⟨_,rfl,o,t,c,st,N,d,rfl,hc,I,hN,hd,hdc,λW8 H1 s1=>?_,λx hx C e H1 s1 hat=>?_⟩
  case refine_2 =>
   rw[hx]at q;exact q (bP c H) H1 C e (Step.cl av s1) (X.cl s1).at hat.1 (λa z=>dI (hat.2 a z))
  refine hide λGg hGg=>?_
  rw[W8]at q;have W9:=So I hd W8;have X1:=X.same s1;have st1:Step (cB i) c c H H1:=Step.same av s1;have Sr:=hdc.step st1;obtain⟨v,ht,hv0,hv1⟩:=DT hd Sr;obtain⟨m,em⟩:∃m,m=f9 d:=⟨_,rfl⟩;rw[<-em]at ht hv0 hv1 q;have lm:=I.lm;have lr:=I.lr;have ml:=X1.mot.len;have lp:=I.pil.GK;rw[cb]at lp;have el:(bc ((aem 1 st.made.length).zip (ms.map V.ref))).length=st.made.length:=by
   unfold bc;rw[cb,afm,aeW,cb,<-ml,Nat.min_self]
  have en:(((bc ((aem 1 st.made.length).zip (ms.map V.ref))).length:Nat):Int)+1=((st.made.length+1:Nat):Int):=by rw[el];omega
  refine hGg ?_;refine eT rfl X1.ob T.ag T.jq2 g0 ⟨aM,_,rfl,X1.made.2,_,_,rfl,rfl,?_⟩;dsimp only[df];rw[en];refine⟨_,rfl,MN ht hv0 hv1 λmo H2 s2 hmo=>?_⟩
  have X2:=X1.cl s2;have st2:Step (cB i) c (bP c H1) H1 H2:=Step.cl av s2;refine eT rfl X2.ob T.ag T.jq2 g0 ⟨_,rfl,aM,_,rfl,wA.k (k:=km ((st.made.length+1:Nat):Int)) X2.made.2 (by omega),?_⟩
  obtain⟨st3,X3⟩:=X2.OT hmo;have Ss:=st2.trans st3.qw;generalize upd H2 aM (.dK (putK (bc ((aem 1 st.made.length).zip (ms.map V.ref))) (km ((st.made.length+1:Nat):Int)) (.ref mo)))=H3 at Ss X3 ⊢;clear hmo st2 X2;generalize bP c H1=c3 at Ss X3;refine eT rfl X3.ob T.ag T.jq0 eP ⟨.inl ⟨rfl,_,SqL.of X3.au.2⟩,_,rfl,aP,_,_,rfl,rfl,X3.au.2,by rw[cb];show st.au.length < _;omega,?_⟩
  obtain⟨st4,X4⟩:=X3.push (st.made.length+1);have Xa:=Ss.trans st4.qw;have X4':ChX A i c3 (upd H3 aP (.lst (st.au.map nV++[V.int ((st.made.length+1:Nat):Int)]))) o { st with made:=st.made++[m],au:=st.au++[st.made.length+1] } dx aM aP aA aD aF aE aR (ms++[mo]) ds ws fs es:=X4
  have Bu:Step (cB i) c c3 H1 (upd H3 aP (.lst (st.au.map nV++[V.int ((st.made.length+1:Nat):Int)]))):=Xa;clear X4 Xa st4;generalize upd H3 aP (.lst (st.au.map nV++[V.int ((st.made.length+1:Nat):Int)]))=H4 at X4' Bu ⊢;have nf:st.made.length+1∉st.vr:=λz=>by
   have:=(List.mem_filter.mp z).1;rw[List.mem_range'_1]at this;omega
  have ht4:=ht.step Bu
  by_cases h0:m.k=0
  ·obtain⟨L,tx,rfl,rfl,hL⟩:=hv0 h0;have hL4:=hL.step Bu;refine ixv rfl (SqT.of ht4.2) rfl ⟨rfl,tst (GG 0 (by decide)) ?_⟩
   refine ixv rfl (SqT.of ht4.2) rfl ⟨L,_,rfl,.inl (SqL.of hL4.2),λp hp=>?_⟩
   have lf:st.firsts.length=fs.length:=X4'.first.len;have lff:st.firsts.length<=st.made.length:=by
    have:=congrArg List.length I.ff;rw[cb]at this;rw[this];exact om (List.length_filter_le _ _) (by rw[aeW];exact kg _)
   have lkk:st.kept.length<=st.made.length:=by
    have:=congrArg List.length I.kk;rw[cb]at this;rw[this];exact om (List.length_filter_le _ _) (by rw[aeW];exact kg _)
   have sp:=aK (o:=.lst (tx.map V.str)) hp;refine eT rfl (sp _ _ X4'.ob) T.ag T.jqb wM ⟨_,rfl,aF,_,rfl,wA.k (k:=km ((st.made.length+1:Nat):Int)) (sp _ _ X4'.firsts.2) ?_,?_⟩
   ·unfold bc;rw[cb,afm,cb];show min st.firsts.length _ < _;omega
   obtain⟨st5,X5⟩:=X4'.MC (tx:=tx) hp (n:=st.made.length+1) (by show _∉st.firsts.map (·.1);rw[I.ff];exact nf)
   have X5':ChX A i (aH c3 p (some (i,.lS (st.made.length+1)))) (upd (upd H4 p (.lst (tx.map V.str))) aF (.dK (putK (bc ((st.firsts.map (·.1)).zip fs)) (km ((st.made.length+1:Nat):Int)) (.ref p)))) o { st with made:=st.made++[.mat tx],au:=st.au++[st.made.length+1],firsts:=st.firsts++[(st.made.length+1,tx)] } dx aM aP aA aD aF aE aR (ms++[mo]) ds ws (fs++[.ref p]) es:=X5
   have Su:Step (cB i) c (aH c3 p (some (i,.lS (st.made.length+1)))) H1 (upd (upd H4 p (.lst (tx.map V.str))) aF (.dK (putK (bc ((st.firsts.map (·.1)).zip fs)) (km ((st.made.length+1:Nat):Int)) (.ref p)))):=Bu.trans st5.qw
   clear X5 st5;generalize aH c3 p (some (i,.lS (st.made.length+1)))=c5 at X5' Su;generalize upd (upd H4 p (.lst (tx.map V.str))) aF (.dK (putK (bc ((st.firsts.map (·.1)).zip fs)) (km ((st.made.length+1:Nat):Int)) (.ref p)))=H5 at X5' Su ⊢
   refine⟨(sl 0),λp2 hp2=>?_⟩
   have sp2:=aK (o:=.lst []) hp2;refine eT rfl (sp2 _ _ X5'.ob) T.ag T.jq5 qA ⟨_,rfl,aE,_,rfl,wA.k (k:=km ((st.made.length+1:Nat):Int)) (sp2 _ _ X5'.jX.2) ?_,?_⟩
   ·unfold bc;rw[cb,afm,cb];show min st.kept.length _ < _;omega
   obtain⟨st6,X6⟩:=X5'.OV hp2 (n:=st.made.length+1) (by show _∉st.kept.map (·.1);rw[I.kk];exact nf)
   have Xb:=Su.trans st6.qw;have Sv:=Sr.step Xb;refine eT rfl X6.ob T.ag T.jqd uc ⟨.inl ⟨rfl,_,SqL.of X6.rows.2⟩,_,rfl,t,d,rfl,Sv.at,W9,λH7 s7=>?_⟩
   have X7:=X6.same s7;obtain⟨st8,X8⟩:=X7.row (R.nS d);refine⟨aR,_,_,rfl,rfl,X7.rows.2,by rw[cb];show st.rows.length < _;omega,_,rfl,?_⟩
   exact q _ _ (((st1.trans Xb).trans (Step.same av s7)).trans st8.qw) X8.at
  ·refine ixv rfl (SqT.of ht4.2) CI ⟨rfl,tsf ((GG m.k m.k8).trans (decide_eq_false h0)) ?_⟩;have Sv:=Sr.step Bu;refine eT rfl X4'.ob T.ag T.jqd uc ⟨.inl ⟨rfl,_,SqL.of X4'.rows.2⟩,_,rfl,t,d,rfl,Sv.at,W9,λH7 s7=>?_⟩
   have X7:=X4'.same s7;obtain⟨st8,X8⟩:=X7.row (R.nS d);refine⟨aR,_,_,rfl,rfl,X7.rows.2,by rw[cb];show st.rows.length < _;omega,_,rfl,?_⟩
   have e8:st.moved m (R.nS d)={ st with made:=st.made++[m],au:=st.au++[st.made.length+1],rows:=st.rows++[R.nS d] }:=by
    unfold Ch.moved;cases m with
    |mat tx=>exact absurd rfl h0
    |_=>rfl
   rw[e8]at q;exact q _ _ (((st1.trans Bu).trans (Step.same av s7)).trans st8.qw) X8.at
end
end My
set_option maxHeartbeats 1000000
namespace My
open PySem L2
seal PySem.wpAny
def Jh (n:Int):Ch:=⟨n,1,false,[],[],[],[],[],[],[]⟩
def Qe (A:Adr):Sp:=λvs H Q _=>∃(o dx:Addr) (n:Int),vs=[.ref o,.int n]/\H o=some (.ins A.ao dx []) /\
 ∀H',(∀(i:Nat) (c:Col),∃c',(∀a v,H a=some v->a≠o->H' a=some v/\c' a=c a)/\d9 A i c' H' o (Jh n))->Q .non H'
theorem g7 {f:Str}{v:V}:∀ {fs:List (Str×V)},f∉fs.map (·.1)->fZ f v fs=fs++[(f,v)]
 |[],_=>rfl
 | (g,x)::r,h=>by
  rw[fZ,if_neg (λz=>h (by rw[<-z];exact fu)),g7 λz=>h (ki _ z)]
  rfl
theorem nxt {H:Hp}{o a C dx:Addr}{fs fs':List (Str×V)}{v:HO}(ho:H o=some (.ins C dx fs))(ha:H a=none) :
  (upd (upd H a v) o (.ins C dx fs')) a=some v/\(upd (upd H a v) o (.ins C dx fs')) o=some (.ins C dx fs')/\a≠o/\∀b u,H b=some u->b≠o->(upd (upd H a v) o (.ins C dx fs')) b=some u/\b≠a:=by
 have na:a≠o:=(aN ho ha).symm;refine⟨(aw na).trans ae,ae,na,λb u hb hbo=>?_⟩
 have nb:b≠a:=aN hb ha;exact⟨(aw hbo).trans ((aw nb).trans hb),nb⟩
section
variable{P:ku}{w:World}{K:ba}{mg:Str->Option Value}{base:Heap}{A:Adr}
theorem Sw (T:Txt w.params K mg A):ay P w K mg base CX0 2 A.b9 A.hU ["self","seats"] (Qe A):=by
 refine T.gm.ok wB (λvs H Q E h=>?_) (λcdv A' outer s H vs Q E hr h=>?_)
 ·obtain⟨o,dx,n,rfl,_⟩:=h;rfl
 ·obtain⟨o,dx,n,rfl,ho,q⟩:=h;refine⟨_,(ai (eB (pv 0) (pv 1) rfl)
 (ai (eB (pv 0) ak rfl)
 (ai (eB (pv 0) pY rfl)
 (ai (eB (pv 0) tK rfl)
 (ai (eB (pv 0) (gQ ah) rfl)
 (ai (eB (pv 0) tK rfl)
 (ai (eB (pv 0) (gQ ah) rfl)
 (ai (eB (pv 0) tK rfl)
 (ai (eB (pv 0) tK rfl)
 (aj (eB (pv 0) (gQ ah) rfl))))))))))),?_⟩
  refine⟨_,rfl,_,rfl,o,A.ao,dx,_,rfl,ho,T.ag,T.jqg,(by show 0 < 1000;decide),?_⟩
  refine⟨_,rfl,o,A.ao,dx,_,rfl,ae,T.ag,T.jq1,(by show 1 < 1000;decide),?_⟩
  rw[mq];refine⟨_,rfl,o,A.ao,dx,_,rfl,ae,T.ag,T.jq4,(by show 2 < 1000;decide),?_⟩
  rw[mq];have e0:fZ (ar "closed") (V.bl false) (fZ (ar "sitting") (V.int 1) (fZ (ar "seats") (V.int n) []))=[(ar "seats",V.int n),(ar "sitting",V.int 1),(ar "closed",V.bl false)]:=by
   have f1:fZ (ar "seats") (V.int n) []=[(ar "seats",V.int n)]:=rfl;have f2:fZ (ar "sitting") (V.int 1) [(ar "seats",V.int n)]=[(ar "seats",V.int n),(ar "sitting",V.int 1)]:=g7 (by show _∉[ar "seats"];decide +kernel)
   rw[f1,f2];exact g7 (by show _∉[ar "seats",ar "sitting"];decide +kernel)
  rw[e0];have o0:(upd H o (.ins A.ao dx [(ar "seats",V.int n),(ar "sitting",V.int 1),(ar "closed",V.bl false)])) o=some (.ins A.ao dx [(ar "seats",V.int n),(ar "sitting",V.int 1),(ar "closed",V.bl false)]):=ae;have k0:∀b u,H b=some u->b≠o->(upd H o (.ins A.ao dx [(ar "seats",V.int n),(ar "sitting",V.int 1),(ar "closed",V.bl false)])) b=some u:=λb u hb hbo=>(aw hbo).trans hb
  generalize upd H o (.ins A.ao dx [(ar "seats",V.int n),(ar "sitting",V.int 1),(ar "closed",V.bl false)])=H0 at o0 k0 ⊢;refineλaM zaM=>?_
  have naM:o≠aM:=aN o0 zaM;refine⟨_,rfl,o,A.ao,dx,_,rfl,(aw naM).trans o0,T.ag,T.jq2,(by show 3 < 1000;decide),?_⟩
  have e1:fZ (ar "made") (V.ref aM) [(ar "seats",V.int n),(ar "sitting",V.int 1),(ar "closed",V.bl false)]=[(ar "seats",V.int n),(ar "sitting",V.int 1),(ar "closed",V.bl false),(ar "made",V.ref aM)]:=g7 (by show _∉[ar "seats",ar "sitting",ar "closed"];decide +kernel)
  rw[e1];refine hide λGg hGg=>?_
  obtain⟨yaM,o1,_,waM⟩:=nxt (v:=.dK []) (fs':=[(ar "seats",V.int n),(ar "sitting",V.int 1),(ar "closed",V.bl false),(ar "made",V.ref aM)]) o0 zaM;have k1:=λb u (hb:H b=some u) (hbo:b≠o)=>waM b u (k0 b u hb hbo) hbo
  refine hGg ?_;generalize upd (upd H0 aM (.dK [])) o (.ins A.ao dx [(ar "seats",V.int n),(ar "sitting",V.int 1),(ar "closed",V.bl false),(ar "made",V.ref aM)])=H1 at o1 k1 waM yaM ⊢;clear waM;refine⟨(sl 0),λaP zaP=>?_⟩
  have naP:o≠aP:=aN o1 zaP;refine⟨_,rfl,o,A.ao,dx,_,rfl,(aw naP).trans o1,T.ag,T.jq0,(by show 4 < 1000;decide),?_⟩
  have e2:fZ (ar "pile") (V.ref aP) [(ar "seats",V.int n),(ar "sitting",V.int 1),(ar "closed",V.bl false),(ar "made",V.ref aM)]=[(ar "seats",V.int n),(ar "sitting",V.int 1),(ar "closed",V.bl false),(ar "made",V.ref aM),(ar "pile",V.ref aP)]:=g7 (by show _∉[ar "seats",ar "sitting",ar "closed",ar "made"];decide +kernel)
  rw[e2];refine hide λGg hGg=>?_
  obtain⟨yaP,o2,_,waP⟩:=nxt (v:=.lst []) (fs':=[(ar "seats",V.int n),(ar "sitting",V.int 1),(ar "closed",V.bl false),(ar "made",V.ref aM),(ar "pile",V.ref aP)]) o1 zaP;obtain⟨yaM,Xd⟩:=waP _ _ yaM (ad9 naM);have k2:=λb u (hb:H b=some u) (hbo:b≠o)=>waP b u ((k1 b u hb hbo).1) hbo
  refine hGg ?_;generalize upd (upd H1 aP (.lst [])) o (.ins A.ao dx [(ar "seats",V.int n),(ar "sitting",V.int 1),(ar "closed",V.bl false),(ar "made",V.ref aM),(ar "pile",V.ref aP)])=H2 at o2 k2 waP yaM yaP ⊢;clear waP;refineλaA zaA=>?_
  have naA:o≠aA:=aN o2 zaA;refine⟨_,rfl,o,A.ao,dx,_,rfl,(aw naA).trans o2,T.ag,T.jq3,(by show 5 < 1000;decide),?_⟩
  have e3:fZ (ar "aside") (V.ref aA) [(ar "seats",V.int n),(ar "sitting",V.int 1),(ar "closed",V.bl false),(ar "made",V.ref aM),(ar "pile",V.ref aP)]=[(ar "seats",V.int n),(ar "sitting",V.int 1),(ar "closed",V.bl false),(ar "made",V.ref aM),(ar "pile",V.ref aP),(ar "aside",V.ref aA)]:=g7 (by show _∉[ar "seats",ar "sitting",ar "closed",ar "made",ar "pile"];decide +kernel)
  rw[e3];refine hide λGg hGg=>?_
  obtain⟨yaA,o3,_,waA⟩:=nxt (v:=.dK []) (fs':=[(ar "seats",V.int n),(ar "sitting",V.int 1),(ar "closed",V.bl false),(ar "made",V.ref aM),(ar "pile",V.ref aP),(ar "aside",V.ref aA)]) o2 zaA;obtain⟨yaM,Xe⟩:=waA _ _ yaM (ad9 naM);obtain⟨yaP,Xf⟩:=waA _ _ yaP (ad9 naP);have k3:=λb u (hb:H b=some u) (hbo:b≠o)=>waA b u ((k2 b u hb hbo).1) hbo
  refine hGg ?_;generalize upd (upd H2 aA (.dK [])) o (.ins A.ao dx [(ar "seats",V.int n),(ar "sitting",V.int 1),(ar "closed",V.bl false),(ar "made",V.ref aM),(ar "pile",V.ref aP),(ar "aside",V.ref aA)])=H3 at o3 k3 waA yaM yaP yaA ⊢;clear waA;refine⟨(sl 0),λaD zaD=>?_⟩
  have naD:o≠aD:=aN o3 zaD;refine⟨_,rfl,o,A.ao,dx,_,rfl,(aw naD).trans o3,T.ag,T.jqc,(by show 6 < 1000;decide),?_⟩
  have e4:fZ (ar "decided") (V.ref aD) [(ar "seats",V.int n),(ar "sitting",V.int 1),(ar "closed",V.bl false),(ar "made",V.ref aM),(ar "pile",V.ref aP),(ar "aside",V.ref aA)]=[(ar "seats",V.int n),(ar "sitting",V.int 1),(ar "closed",V.bl false),(ar "made",V.ref aM),(ar "pile",V.ref aP),(ar "aside",V.ref aA),(ar "decided",V.ref aD)]:=g7 (by show _∉[ar "seats",ar "sitting",ar "closed",ar "made",ar "pile",ar "aside"];decide +kernel)
  rw[e4];refine hide λGg hGg=>?_
  obtain⟨yaD,o4,_,waD⟩:=nxt (v:=.lst []) (fs':=[(ar "seats",V.int n),(ar "sitting",V.int 1),(ar "closed",V.bl false),(ar "made",V.ref aM),(ar "pile",V.ref aP),(ar "aside",V.ref aA),(ar "decided",V.ref aD)]) o3 zaD;obtain⟨yaM,Xg⟩:=waD _ _ yaM (ad9 naM);obtain⟨yaP,Xh⟩:=waD _ _ yaP (ad9 naP);obtain⟨yaA,Xi⟩:=waD _ _ yaA (ad9 naA);have k4:=λb u (hb:H b=some u) (hbo:b≠o)=>waD b u ((k3 b u hb hbo).1) hbo
  refine hGg ?_;generalize upd (upd H3 aD (.lst [])) o (.ins A.ao dx [(ar "seats",V.int n),(ar "sitting",V.int 1),(ar "closed",V.bl false),(ar "made",V.ref aM),(ar "pile",V.ref aP),(ar "aside",V.ref aA),(ar "decided",V.ref aD)])=H4 at o4 k4 waD yaM yaP yaA yaD ⊢;clear waD;refineλaF zaF=>?_
  have naF:o≠aF:=aN o4 zaF;refine⟨_,rfl,o,A.ao,dx,_,rfl,(aw naF).trans o4,T.ag,T.jqb,(by show 7 < 1000;decide),?_⟩
  have e5:fZ (ar "first_texts") (V.ref aF) [(ar "seats",V.int n),(ar "sitting",V.int 1),(ar "closed",V.bl false),(ar "made",V.ref aM),(ar "pile",V.ref aP),(ar "aside",V.ref aA),(ar "decided",V.ref aD)]=[(ar "seats",V.int n),(ar "sitting",V.int 1),(ar "closed",V.bl false),(ar "made",V.ref aM),(ar "pile",V.ref aP),(ar "aside",V.ref aA),(ar "decided",V.ref aD),(ar "first_texts",V.ref aF)]:=g7 (by show _∉[ar "seats",ar "sitting",ar "closed",ar "made",ar "pile",ar "aside",ar "decided"];decide +kernel)
  rw[e5];refine hide λGg hGg=>?_
  obtain⟨yaF,o5,_,waF⟩:=nxt (v:=.dK []) (fs':=[(ar "seats",V.int n),(ar "sitting",V.int 1),(ar "closed",V.bl false),(ar "made",V.ref aM),(ar "pile",V.ref aP),(ar "aside",V.ref aA),(ar "decided",V.ref aD),(ar "first_texts",V.ref aF)]) o4 zaF;obtain⟨yaM,Xj⟩:=waF _ _ yaM (ad9 naM);obtain⟨yaP,Xk⟩:=waF _ _ yaP (ad9 naP);obtain⟨yaA,Xl⟩:=waF _ _ yaA (ad9 naA);obtain⟨yaD,Xm⟩:=waF _ _ yaD (ad9 naD);have k5:=λb u (hb:H b=some u) (hbo:b≠o)=>waF b u ((k4 b u hb hbo).1) hbo
  refine hGg ?_;generalize upd (upd H4 aF (.dK [])) o (.ins A.ao dx [(ar "seats",V.int n),(ar "sitting",V.int 1),(ar "closed",V.bl false),(ar "made",V.ref aM),(ar "pile",V.ref aP),(ar "aside",V.ref aA),(ar "decided",V.ref aD),(ar "first_texts",V.ref aF)])=H5 at o5 k5 waF yaM yaP yaA yaD yaF ⊢;clear waF;refineλaE zaE=>?_
  have naE:o≠aE:=aN o5 zaE;refine⟨_,rfl,o,A.ao,dx,_,rfl,(aw naE).trans o5,T.ag,T.jq5,(by show 8 < 1000;decide),?_⟩
  have e6:fZ (ar "edits_kept") (V.ref aE) [(ar "seats",V.int n),(ar "sitting",V.int 1),(ar "closed",V.bl false),(ar "made",V.ref aM),(ar "pile",V.ref aP),(ar "aside",V.ref aA),(ar "decided",V.ref aD),(ar "first_texts",V.ref aF)]=[(ar "seats",V.int n),(ar "sitting",V.int 1),(ar "closed",V.bl false),(ar "made",V.ref aM),(ar "pile",V.ref aP),(ar "aside",V.ref aA),(ar "decided",V.ref aD),(ar "first_texts",V.ref aF),(ar "edits_kept",V.ref aE)]:=g7 (by show _∉[ar "seats",ar "sitting",ar "closed",ar "made",ar "pile",ar "aside",ar "decided",ar "first_texts"];decide +kernel)
  rw[e6];refine hide λGg hGg=>?_
  obtain⟨yaE,o6,_,waE⟩:=nxt (v:=.dK []) (fs':=[(ar "seats",V.int n),(ar "sitting",V.int 1),(ar "closed",V.bl false),(ar "made",V.ref aM),(ar "pile",V.ref aP),(ar "aside",V.ref aA),(ar "decided",V.ref aD),(ar "first_texts",V.ref aF),(ar "edits_kept",V.ref aE)]) o5 zaE;obtain⟨yaM,Xn⟩:=waE _ _ yaM (ad9 naM);obtain⟨yaP,Xo⟩:=waE _ _ yaP (ad9 naP);obtain⟨yaA,Xp⟩:=waE _ _ yaA (ad9 naA);obtain⟨yaD,Xq⟩:=waE _ _ yaD (ad9 naD);obtain⟨yaF,Xr⟩:=waE _ _ yaF (ad9 naF);have k6:=λb u (hb:H b=some u) (hbo:b≠o)=>waE b u ((k5 b u hb hbo).1) hbo
  refine hGg ?_;generalize upd (upd H5 aE (.dK [])) o (.ins A.ao dx [(ar "seats",V.int n),(ar "sitting",V.int 1),(ar "closed",V.bl false),(ar "made",V.ref aM),(ar "pile",V.ref aP),(ar "aside",V.ref aA),(ar "decided",V.ref aD),(ar "first_texts",V.ref aF),(ar "edits_kept",V.ref aE)])=H6 at o6 k6 waE yaM yaP yaA yaD yaF yaE ⊢;clear waE;refine⟨(sl 0),λaR zaR=>?_⟩
  have naR:o≠aR:=aN o6 zaR;refine⟨_,rfl,o,A.ao,dx,_,rfl,(aw naR).trans o6,T.ag,T.jqd,(by show 9 < 1000;decide),?_⟩
  have e7:fZ (ar "rows") (V.ref aR) [(ar "seats",V.int n),(ar "sitting",V.int 1),(ar "closed",V.bl false),(ar "made",V.ref aM),(ar "pile",V.ref aP),(ar "aside",V.ref aA),(ar "decided",V.ref aD),(ar "first_texts",V.ref aF),(ar "edits_kept",V.ref aE)]=[(ar "seats",V.int n),(ar "sitting",V.int 1),(ar "closed",V.bl false),(ar "made",V.ref aM),(ar "pile",V.ref aP),(ar "aside",V.ref aA),(ar "decided",V.ref aD),(ar "first_texts",V.ref aF),(ar "edits_kept",V.ref aE),(ar "rows",V.ref aR)]:=g7 (by show _∉[ar "seats",ar "sitting",ar "closed",ar "made",ar "pile",ar "aside",ar "decided",ar "first_texts",ar "edits_kept"];decide +kernel)
  rw[e7];refine hide λGg hGg=>?_
  obtain⟨yaR,o7,_,waR⟩:=nxt (v:=.lst []) (fs':=[(ar "seats",V.int n),(ar "sitting",V.int 1),(ar "closed",V.bl false),(ar "made",V.ref aM),(ar "pile",V.ref aP),(ar "aside",V.ref aA),(ar "decided",V.ref aD),(ar "first_texts",V.ref aF),(ar "edits_kept",V.ref aE),(ar "rows",V.ref aR)]) o6 zaR;obtain⟨yaM,Xs⟩:=waR _ _ yaM (ad9 naM);obtain⟨yaP,Xt⟩:=waR _ _ yaP (ad9 naP);obtain⟨yaA,Xu⟩:=waR _ _ yaA (ad9 naA);obtain⟨yaD,Xv⟩:=waR _ _ yaD (ad9 naD);obtain⟨yaF,Xw⟩:=waR _ _ yaF (ad9 naF);obtain⟨yaE,Xx⟩:=waR _ _ yaE (ad9 naE);have k7:=λb u (hb:H b=some u) (hbo:b≠o)=>waR b u ((k6 b u hb hbo).1) hbo
  refine hGg ?_;generalize upd (upd H6 aR (.lst [])) o (.ins A.ao dx [(ar "seats",V.int n),(ar "sitting",V.int 1),(ar "closed",V.bl false),(ar "made",V.ref aM),(ar "pile",V.ref aP),(ar "aside",V.ref aA),(ar "decided",V.ref aD),(ar "first_texts",V.ref aF),(ar "edits_kept",V.ref aE),(ar "rows",V.ref aR)])=H7 at o7 k7 waR yaM yaP yaA yaD yaF yaE yaR ⊢;clear waR;refine q H7 λi c=>⟨aH (aH (aH (aH (aH (aH (aH (aH c o (some (i,Rl.ob))) aM (some (i,Rl.made))) aP (some (i,Rl.au))) aA (some (i,Rl.aI))) aD (some (i,Rl.decided))) aF (some (i,Rl.firsts))) aE (some (i,Rl.kept))) aR (some (i,Rl.rows)),λb u hb hbo=>⟨(k7 b u hb hbo).1,?_⟩,⟨dx,aM,aP,aA,aD,aF,aE,aR,[],[],[],[],[],?_⟩⟩
  ·rw[ax (k7 b u hb hbo).2,ax (k6 b u hb hbo).2,ax (k5 b u hb hbo).2,ax (k4 b u hb hbo).2,ax (k3 b u hb hbo).2,ax (k2 b u hb hbo).2,ax (k1 b u hb hbo).2,ax hbo]
  ·exact⟨by rw[ax naR,ax naE,ax naF,ax naD,ax naA,ax naP,ax naM,a7],o7,⟨by rw[ax Xs,ax Xn,ax Xj,ax Xg,ax Xe,ax Xd,a7],yaM⟩,.nil,⟨by rw[ax Xt,ax Xo,ax Xk,ax Xh,ax Xf,a7],yaP⟩,⟨by rw[ax Xu,ax Xp,ax Xl,ax Xi,a7],yaA⟩,.nil,⟨by rw[ax Xv,ax Xq,ax Xm,a7],yaD⟩,.nil,⟨by rw[ax Xw,ax Xr,a7],yaF⟩,.nil,⟨by rw[ax Xx,a7],yaE⟩,.nil,⟨by rw[a7],yaR⟩⟩
end
end My
set_option maxHeartbeats 1000000
namespace My
open PySem L2
seal PySem.wpAny
def Xy (A:Adr)(i:Nat):Sp:=λvs H Q _=>∃(o:Addr) (n:Nat) (c:Col) (st:Ch) (x:Nat×Int×List Nat),vs=[.ref o,nV n]/\d9 A i c H o st/\at1 n st.aI=some x /\
 ∀l u H',H l=none->H u=none->bJ H H'->H' l=some (.lst (x.2.2.map nV))->H' u=some (.tup [nV n,.int x.2.1,.ref l])->Q (.ref u) H'
def g8 (ns:List Nat):PyData:=.list (ns.map λn:Nat=>.int (n:Int))
def asD (x:Nat×Int×List Nat):PyData:=.tuple [.int (x.1:Int),.int x.2.1,g8 x.2.2]
def dcD (x:Nat×Str):PyData:=.tuple [.int (x.1:Int),.str x.2]
def CW (st:Ch)(n:Int):Nat×Int×List Nat:=(at1 n.toNat st.aI).getD (0,0,[])
def stD (st:Ch)(ns:List Int):PyData:=.tuple [.int st.aq,.bool st.closed,g8 st.au,.list (ns.map λn=>asD (CW st n)),.list (st.decided.map dcD)]
def mnD:Mn->PyData
 | .mat tx=>.tuple [.str (nm 0),.list (tx.map afn)]
 | .chg e=>.tuple [.str (nm 1),edD e]
 | .mnd e=>.tuple [.str (nm 2),edD e]
 | .off u=>.tuple [.str (nm 3),.int u]
 | .cls=>.tuple [.str (nm 4)]
 | .lay=>.tuple [.str (nm 5)]
 | .rst=>.tuple [.str (nm 6)]
 | .pnt z=>.tuple [.str (nm 7),.str z]
theorem Ji {α:Type}{K:ba}{H:Hp}{f:α->PyData}{g:α->V}:∀ {xs:List α},(∀x∈xs,DV K H (f x) (g x))->DVs K H (xs.map f) (xs.map g)
 |[],_=>by unfold DVs;rfl
 |x::xs,h=>by
  rw[kc,kc];unfold DVs;exact⟨g x,xs.map g,rfl,h x fu,Ji λy hy=>h y (ki _ hy)⟩
theorem oX {K:ba}{H:Hp}{a:Addr}{ns:List Nat}(h:SqL K H a (ns.map nV)):DV K H (g8 ns) (.ref a):=by
 unfold g8 DV;exact⟨a,_,rfl,h,Ji (f:=λn:Nat=>PyData.int (n:Int)) (g:=nV) λn _=>by unfold DV;rfl⟩
theorem bS.dvs {α:Type}{K:ba}{H:Hp}{f:α->PyData}{R:α->V->Prop}(g:∀x v,R x v->DV K H (f x) v):∀ {xs:List α} {vs:List V},bS R xs vs->DVs K H (xs.map f) vs
 |_,_,.nil=>by unfold DVs;rfl
 |_,_,.cons h t=>by
  rw[kc];unfold DVs;exact⟨_,_,rfl,g _ _ h,t.dvs g⟩
theorem bS.mapR {α β γ:Type}{R:α->γ->Prop}{f:β->γ}:∀ {xs:List α} {ys:List β},bS (λa b=>R a (f b)) xs ys->bS R xs (ys.map f)
 |_,_,.nil=>.nil
 |_,_,.cons h t=>.cons h t.mapR
def DW (H:Hp)(R:Addr)(x:Nat×Int×List Nat)(v:V):Prop:=∃u l,v=.ref u/\u≠R/\l≠R/\H u=some (.tup [nV x.1,.int x.2.1,.ref l])/\H l=some (.lst (x.2.2.map nV))
theorem DW.same {H H':Hp}{R:Addr}{x:Nat×Int×List Nat}{v:V}(s:bJ H H'):DW H R x v->DW H' R x v
 |⟨u,l,e,h1,h2,h3,h4⟩=>⟨u,l,e,h1,h2,s _ _ h3,s _ _ h4⟩
theorem DW.upd {H:Hp}{R:Addr}{o:HO}{x:Nat×Int×List Nat}{v:V}:DW H R x v->DW (L2.upd H R o) R x v
 |⟨u,l,e,h1,h2,h3,h4⟩=>⟨u,l,e,h1,h2,(aw h1).trans h3,(aw h2).trans h4⟩
theorem DW.dv {K:ba}{H:Hp}{R:Addr}{x:Nat×Int×List Nat}{v:V}:DW H R x v->DV K H (asD x) v
 |⟨u,l,e,h1,h2,h3,h4⟩=>by
  unfold asD DV;refine⟨u,_,e,SqT.of h3,?_⟩;unfold DVs;refine⟨_,_,rfl,by unfold DV;rfl,?_⟩
  unfold DVs;refine⟨_,_,rfl,by unfold DV;rfl,?_⟩
  unfold DVs;exact⟨_,_,rfl,oX (SqL.of h4),by unfold DVs;rfl⟩
section
variable{P:ku}{w:World}{K:ba}{mg:Str->Option Value}{base:Heap}{A:Adr}
theorem Au (T:Txt w.params K mg A){i:Nat}:ay P w K mg base CX0 1 A.br A.dG ["self","number"] (Xy A i):=by
 refine T.cT.ok i5 (λvs H Q E h=>?_) (λcdv A' outer s H vs Q E hr h=>?_)
 ·obtain⟨o,n,c,st,x,rfl,_⟩:=h;rfl
 ·obtain⟨o,n,c,st,x,rfl,hc,hx,q⟩:=h;obtain⟨dx,aM,aP,aA,aD,aF,aE,aR,ms,ds,ws,fs,es,X⟩:=hc.ex;have hu1:=hr.u1;refine⟨_,(ai (bh (i:=2) i5.nd rfl (aec rfl) (mz hu1 (aZ (pv 0) rfl) (pv 1) (λ_ _=>rfl)))
 (aj (aL (bH (aa (pv 1) (aa (bp bf (pv 2) ak (λ_ _=>rfl)) (aa (gC eY (by rfl) T.qo ot (aa (bp bf (pv 2) ak (λ_ _=>rfl)) ah)) ah))))))),?_⟩
  refine hide λGg hGg=>?_
  obtain⟨t,p,hv,ht,hl⟩:=X.waitOf hx;refine hGg ?_;refine⟨_,rfl,o,A.ao,dx,_,.ref aA,rfl,X.ob,T.ag,T.jq3,js,_,rfl,aA,_,rfl,.inl ⟨_,km (n:Int),.inl X.aI.2,rfl,hv.symm⟩,?_⟩;refine⟨_,rfl,_,rfl,t,_,_,_,rfl,rfl,ht.sq,rfl,_,rfl,t,_,_,_,rfl,rfl,ht.sq,rfl,p,_,rfl,.inl (SqL.of hl.2),λl hl0=>⟨(sl 3),λu hu=>?_⟩⟩
  have nul:u≠l:=λz=>by rw[z,ae]at hu;cases hu
  have hu0:H u=none:=by rw[aw nul]at hu;exact hu
  exact q l u _ hl0 hu0 ((aK hl0).new hu) ((aw (ad9 nul)).trans ae) ae
theorem Sx {c:Col}{H:Hp}{v:V}{t:Addr}:∀ {m:Mn},1<=m.k->m.Val c H v->SqT K H t (rowOf m.k v)->DV K H (mnD m) (.ref t)
 | .mat _,h,_,_=>absurd h (by simp[Mn.k])
 | .chg e,_,⟨te,ev,hte⟩,ht=>by
  subst ev;unfold mnD DV;refine⟨t,_,rfl,ht,?_⟩;unfold DVs;refine⟨_,_,rfl,by unfold DV;rfl,?_⟩
  unfold DVs;exact⟨_,_,rfl,GB e hte.sq,by unfold DVs;rfl⟩
 | .mnd e,_,⟨te,ev,hte⟩,ht=>by
  subst ev;unfold mnD DV;refine⟨t,_,rfl,ht,?_⟩;unfold DVs;refine⟨_,_,rfl,by unfold DV;rfl,?_⟩
  unfold DVs;exact⟨_,_,rfl,GB e hte.sq,by unfold DVs;rfl⟩
 | .off u,_,ev,ht=>by
  have ev':v=.int u:=ev;subst ev';unfold mnD DV;refine⟨t,_,rfl,ht,?_⟩;unfold DVs;refine⟨_,_,rfl,by unfold DV;rfl,?_⟩
  unfold DVs;exact⟨_,_,rfl,by unfold DV;rfl,by unfold DVs;rfl⟩
 | .pnt z,_,ev,ht=>by
  have ev':v=.str z:=ev;subst ev';unfold mnD DV;refine⟨t,_,rfl,ht,?_⟩;unfold DVs;refine⟨_,_,rfl,by unfold DV;rfl,?_⟩
  unfold DVs;exact⟨_,_,rfl,by unfold DV;rfl,by unfold DVs;rfl⟩
 | .cls,_,_,ht=>by
  unfold mnD DV;refine⟨t,_,rfl,ht,?_⟩;unfold DVs;exact⟨_,_,rfl,by unfold DV;rfl,by unfold DVs;rfl⟩
 | .lay,_,_,ht=>by
  unfold mnD DV;refine⟨t,_,rfl,ht,?_⟩;unfold DVs;exact⟨_,_,rfl,by unfold DV;rfl,by unfold DVs;rfl⟩
 | .rst,_,_,ht=>by
  unfold mnD DV;refine⟨t,_,rfl,ht,?_⟩;unfold DVs;exact⟨_,_,rfl,by unfold DV;rfl,by unfold DVs;rfl⟩
end
end My
set_option maxHeartbeats 1000000
namespace My
open PySem L2
seal PySem.wpAny
def qK (st:Ch):R.gZ->Rs×Ch
 | .nums kd ns=>if kd=ar "vote" then gx st (ns.getD 0 0) (ns.getD 1 0) else if kd=ar "drop" then lW st else if kd=ar "take" then stepT st (ns.getD 0 0).toNat else pD st (f9 (.nums kd ns)) (R.nS (.nums kd ns))
 |d=>pD st (f9 d) (R.nS d)
inductive JS:R.gZ->Prop
 |sH {a b:Int}:(0<=a/\a < 10 ^ 10)->(0<=b/\b < 10 ^ 10)->JS (.nums (ar "vote") [a,b])
 |drop:JS (.nums (ar "drop") [])
 |take {z:Int}:-1<=z->z < 10 ^ 10->JS (.nums (ar "take") [z])
 |move {d:R.gZ}:zJ d->JS d
theorem zK {st:Ch}{a b:Int}:qK st (.nums (ar "vote") [a,b])=gx st a b:=by rw[qK,if_pos rfl];rfl
theorem zL {st:Ch}:qK st (.nums (ar "drop") [])=lW st:=by rw[qK,if_neg (by decide +kernel),if_pos rfl]
theorem sI {st:Ch}{z:Int}:qK st (.nums (ar "take") [z])=stepT st z.toNat:=by
 rw[qK,if_neg (by decide +kernel),if_neg (by decide +kernel),if_pos rfl]
 rfl
theorem zM {st:Ch}{d:R.gZ}(h:zJ d):qK st d=pD st (f9 d) (R.nS d):=by
 cases d with
 |nums kd ns =>
  rcases ym h.1 with ⟨u,rfl,rfl⟩ | ⟨rfl,rfl⟩ | ⟨rfl,rfl⟩ | ⟨rfl,rfl⟩ <;> rw[qK,if_neg (by decide +kernel),if_neg (by decide +kernel),if_neg (by decide +kernel)]
 |_=>rfl
theorem Inv.qK {N:Nat}{st:Ch}(I:Inv N st)(hN:N<=800){d:R.gZ}(h:JS d):Inv (N+3) (qK st d).2:=by
 cases h with
 |sH=>rw[zK];exact I.gx hN _ _
 |drop=>rw[zL];exact I.lW
 |take=>rw[sI];exact I.stepT _
 |move h=>rw[zM h];exact I.pD (GR h) _
def Xz:Xc->Prop
 | .qB b=>-10000000000 < b/\b < 10000000000
 | .ud b=>-10000000000 < b/\b < 10000000000
 | .vk b=>-10000000000 < b/\b < 10000000000
 |_=>True
def abS:Rs->Prop
 | .txt z=>aef z=true
 | .exc x=>Xz x
 |_=>True
theorem O4 {N:Nat}{st:Ch}(I:Inv N st)(hN:N<=800){m:Mn}{x:Xc}(h:kY st m=some x):Xz x:=by
 have hb:=zy st.closed (st.au.map st.mo);have hs:=I.sit;unfold kY at h;split at h
 ·rename_i y hy;cases h;unfold qC at hy;split at hy
  ·cases hy;exact⟨by omega,by omega⟩
  ·split at hy
   ·cases hy
   ·split at hy <;> cases hy <;> trivial
 ·unfold nW at h;split at h
  ·split at h
   ·split at h
    ·cases h
    ·cases h;trivial
   ·cases h
  ·split at h
   ·split at h
    ·cases h
    ·cases h;trivial
   ·cases h
  ·split at h
   ·cases h;exact⟨by omega,by omega⟩
   ·cases h
  ·cases h
theorem MO {N:Nat}{st:Ch}(I:Inv N st)(hN:N<=800){d:R.gZ}(h:JS d):abS (qK st d).1:=by
 cases h with
 |sH =>
  rw[zK];unfold gx;split
  ·trivial
  ·split
   ·trivial
   ·show aef (qI _)=true;unfold qI;split <;> decide +kernel
 |drop =>
  rw[zL];unfold lW;split
  ·trivial
  ·show aef jZ=true
   decide +kernel
 |take =>
  rw[sI];unfold stepT;split
  ·split
   ·trivial
   ·rename_i x hx;split
    ·exact(I.asd x (mH hx).2).2.2
    ·trivial
  ·have hb:=zy st.closed (st.au.map st.mo);exact⟨by omega,by omega⟩
 |move h =>
  rw[zM h];unfold pD;split
  ·rename_i x hx;exact O4 I hN hx
  ·trivial
theorem ef {W:Option (Nat×Rl)->Prop}{c c':Col}{H H':Hp}(s:Step W c c' H H'){a:Addr}{v:HO}(h:c a=none)(hv:H a=some v):c' a=none/\H' a=some v:=by
 have hn:¬W (c a):=by rw[h];exact s.nn
 exact⟨by rw[s.col a _ hv hn];exact h,s.keep _ _ hv hn⟩
end My
set_option maxHeartbeats 1000000
namespace My
open PySem L2
seal PySem.wpAny
theorem O5 {xs:List V}{lo hi:Option Int}{x:V}(h:x∈pL xs lo hi):x∈xs:=by
 unfold pL at h;exact List.mem_of_mem_drop (List.mem_of_mem_take h)
abbrev sJ:Str:=ar "abcdefghijklmnopqrstuvwxyzAZ09-#./"
theorem MP:sJ.length=34:=by decide +kernel
theorem Bv:sJ.cps.toList.length=34:=by decide +kernel
theorem Bw:∀c∈sJ.cps.toList,R.Sign c:=by decide +kernel
theorem O6:∀c∈sJ.cps.toList.take 33,c≠47:=by decide +kernel
theorem abT {i:Int}(h0:0<=i)(h1:i < 34):∃c,atI sJ.cps.toList i=some c/\R.Sign c:=by
 obtain⟨c,hc,hm⟩:=PN (xs:=sJ.cps.toList) (i:=i) (n:=34) Bv h0 (by omega)
 exact⟨c,hc,Bw c hm⟩
theorem abU {i:Int}(h0:0<=i)(h1:i < 33):∃c,atI sJ.cps.toList i=some c/\R.Sign c/\c≠47:=by
 obtain⟨n,rfl⟩:∃n:Nat,i=(n:Int):=⟨i.toNat,by omega⟩
 have hn:n < 33:=by omega
 have hl:=Bv;have e:sJ.cps.toList[n]?=some sJ.cps.toList[n]:=ad5 (by omega)
 refine⟨_,oq e,Bw _ (List.getElem_mem _),O6 _ ?_⟩;have e2:(sJ.cps.toList.take 33)[n]?=some sJ.cps.toList[n]:=by rw[List.getElem?_take,if_pos hn];exact e
 exact aei e2
structure Wd (n:Nat)(x:Str):Prop where
 len:x.length<=n
 hd:∃d r,x.cps.toList=d::r/\d≠47
 sgn:∀c∈x.cps.toList,R.Sign c
theorem Sy {c:Nat}(h:R.Sign c)(n:c≠47):Wd 1 ⟨#[c]⟩:=⟨kg 1,⟨c,[],rfl,n⟩,λd hd=>by
 have:d=c:=by simpa using hd
 rw[this];exact h⟩
theorem Sz {x:Str}{n c:Nat}(w:Wd n x)(h:R.Sign c):Wd (n+1) (x++⟨#[c]⟩):=by
 obtain⟨d,r,e,hd⟩:=w.hd;refine⟨?_,⟨d,r++[c],?_,hd⟩,λy hy=>?_⟩
 ·have:=w.len;rw[len_app];show _+1<=_;omega
 ·rw[eZ,e];rfl
 ·rw[eZ,List.mem_append]at hy;rcases hy with hy | hy
  ·exact w.sgn y hy
  ·have:y=c:=by simpa using hy
   rw[this];exact h
theorem Wd.word {n:Nat}{x:Str}(w:Wd n x)(h:n<=20):R.nR x:=by
 obtain⟨d,r,e,hd⟩:=w.hd;have hl:x.cps.toList.length=x.length:=by rw[afg];rfl
 refine⟨?_,om w.len h,w.sgn,λz=>?_⟩
 ·rw[<-hl,e];simp
 ·rw[z]at e;have:(ar "/").cps.toList=[47]:=by decide +kernel
  rw[this]at e;cases e;exact hd rfl
def zN:Sp:=λvs H Q _=>∃c:Int,vs=[.int c]/\∀x,R.nR x->Q (.str x) H
def sL:Sp:=λvs H Q _=>∃c:Int,vs=[.int c]/\∀(ws:List Str) (H':Hp),R.wG 12 ws->bJ H H'->Q (.str (kf R.bl1 ws)) H'
def GU (K:ba):Sp:=λvs H Q _=>∃(a:Addr) (ns:List Int) (k:Int),vs=[.ref a,.int k]/\SqL K H a (ns.map V.int)/\0<=k/\∀z:Int,Q (.int z) H
section
variable{P:ku}{w:World}{K:ba}{mg:Str->Option Value}{base:Heap}{A:Adr}
theorem uk (T:Txt w.params K mg A):ay P w K mg base CX0 1 A.nJ A.iM ["_law_script","_law_k"] (GU K):=by
 refine T.eW.ok Ce (λvs H Q E h=>?_) (λcdv A' outer s H vs Q E hr h=>?_)
 ·obtain⟨a,ns,k,rfl,_⟩:=h;rfl
 ·obtain⟨a,ns,k,rfl,hS,h0,q⟩:=h;refine⟨_,(ai (bI (aJ Ir (pv 1) (nr tG (by rfl) T.IH Gf (aa (pv 0) ah)) (aS _))
 (aj (aL (bp iH (pv 0) (pv 1) (λ_ _=>rfl))))
 aQ)
 (aj (aL ak))),?_⟩
  refine⟨_,rfl,_,rfl,a,_,rfl,.inl hS,_,_,rfl,rfl,_,rfl,nv (λe=>?_) (λ_=>q 0)⟩
  refine hide λGg hGg=>?_
  have e':k < ((ns.map V.int).length:Int):=of_decide_eq_true e;rw[cb]at e';obtain⟨c,hc,hm⟩:=PN (xs:=ns.map V.int) (i:=k) (n:=ns.length) (cb _) h0 e';obtain⟨z,_,rfl⟩:=List.mem_map.mp hm;refine hGg ?_;exact⟨_,rfl,_,rfl,a,_,_,_,rfl,rfl,hS,hc,q z⟩
theorem Bx (T:Txt w.params K mg A):ay P w K mg base CX0 1 A.yY A.nK ["_law_cell"] zN:=by
 refine T.tS.ok nG (λvs H Q E h=>?_) (λcdv A' outer s H vs Q E hr h=>?_)
 ·obtain⟨c,rfl,_⟩:=h;rfl
 ·obtain⟨c,rfl,k⟩:=h;refine⟨_,(ai (bh (i:=1) nG.nd rfl (aec rfl) az)
 (ai (bh (i:=2) nG.nd rfl (aec rfl) (bp Ga (pv 1) (bA dn (pv 0) ak) (λ_ _=>rfl)))
 (ai (yr afl rfl (uK rfl T.yh (aa (bA dn (bA dU (pv 0) ak) ak) ah)) (tw (i:=3) nG.nd rfl (aec rfl))
 (aj (bh (i:=2) nG.nd rfl (aec rfl) (bA F2 (pv 2) (bp Ga (pv 1) (bA dn (bA dU (pv 0) (bA BL ak (bA j7 ak (bA BL ak (pv 3))))) ak) (λ_ _=>rfl))))))
 (aj (aL (pv 2)))))),?_⟩
  refine hide λGg hGg=>?_
  have s34:sJ.length<=gp:=by rw[MP];decide
  obtain⟨d,hd,hd',abV⟩:=abU (i:=c % 33) (by omega) (by omega)
  refine hGg ?_;refine⟨_,rfl,_,rfl,_,_,rfl,rfl,(by show (0:Int) < 33;decide),sJ,_,d,rfl,rfl,s34,hd,?_⟩
  refine⟨_,rfl,_,_,rfl,rfl,⟨by decide,by decide⟩,_,_,rfl,rfl,(by show (0:Int) < 3;decide),_,rfl,by omega,by omega,?_⟩
  refine AE (lo:=0) (n:=(c / 33 % 3).toNat) (λi σ H'=>H'=H/\∃x kv,σ=[some (.int c),some (.str sJ),some (.str x),kv]/\Wd (1+i) x) ⟨rfl,_,_,rfl,Sy hd' abV⟩ ?_ ?_
  ·rintro i σ H' hi ⟨rfl,x,kv,rfl,wx⟩;refine hide λGg hGg=>?_
   obtain⟨d2,hd2,abW⟩:=abT (i:=c / (99 * (1+33 * (0+(i:Int)))) % 34) (by omega) (by omega)
   refine hGg ?_;refine⟨_,rfl,_,rfl,_,rfl,_,rfl,_,_,rfl,rfl,.inl ⟨by decide,by decide⟩,_,_,rfl,rfl,_,_,rfl,rfl,.inl ⟨by decide,by decide⟩,_,_,rfl,rfl,⟨by omega,by omega⟩,_,_,rfl,rfl,(by show (0:Int) < 34;decide),sJ,_,d2,rfl,rfl,s34,hd2,_,_,rfl,rfl,?_,rfl,_,_,rfl,?_⟩
   ·have:=wx.len;rw[show (⟨#[d2]⟩:Str).length=1 from rfl]
    have:i < 3:=by omega
    exact om (by omega:x.length+1<=10) (by decide)
   ·exact Sz wx abW
  ·rintro σ H' ⟨rfl,x,kv,rfl,wx⟩;exact⟨_,rfl,k x (wx.word (by omega))⟩
theorem we (T:Txt w.params K mg A):ay P w K mg base CX0 2 A.qg A.jS ["_law_cell"] sL:=by
 have zO:ay P w K mg base CX0 1 A.yY A.nK ["_law_cell"] zN:=Bx T;refine T.ic.ok jQ (λvs H Q E h=>?_) (λcdv A' outer s H vs Q E hr h=>?_)
 ·obtain⟨c,rfl,_⟩:=h;rfl
 ·obtain⟨c,rfl,k⟩:=h;have vw:=hr;refine⟨_,(ai (bh (i:=1) jQ.nd rfl (aec rfl) (gQ ah))
 (ai (bh (i:=2) jQ.nd rfl (aec rfl) (bA j7 (bA dn (pv 0) ak) ak))
 (ai (yr afl rfl (uK rfl T.yh (aa (bA dn (pv 0) ak) ah)) (tw (i:=3) jQ.nd rfl (aec rfl))
 (ai (bh (i:=2) jQ.nd rfl (aec rfl) (bA dn (bA BL (pv 2) ak) ak))
 (aj (a6 (lA ad2 aeq aer gD (pv 1) (aa (bb zO vw rfl T.y4 T.tS.kp T.y3 .nil aV (aa (bA dU (pv 2) ak) ah)) ah))))))
 (aj (aL (lA PySem.F.plainAttrs_str PySem.F.slot_str_join PySem.F.type_str_join IB az (aa (pv 1) ah))))))),?_⟩
  have sz:gp=16777216:=by decide
  refine⟨aeM _,λW hW=>?_⟩
  refine⟨_,rfl,_,_,rfl,rfl,(by show (0:Int) < 4294967311;decide),_,_,rfl,rfl,?_⟩
  refine⟨_,rfl,_,_,rfl,rfl,(by show (0:Int) < 4;decide),_,rfl,by omega,by omega,?_⟩
  refine AE (lo:=0) (n:=(c % 4).toNat) (λi σ H2=>∃(ws:List Str) (m:Int) (kv:Option V),σ=[some (.int c),some (.ref W),some (.int m),kv]/\0<=m/\m<=4294967311/\H2 W=some (.lst (ws.map V.str))/\ws.length=i/\(∀w∈ws,R.nR w)/\bJ H H2)
   ⟨[],_,_,rfl,by omega,by omega,ae,rfl,(λz hz=>nomatch hz),aK hW⟩ ?_ ?_
  ·rintro i σ H2 hi ⟨ws,m,kv,rfl,m0,m1,h2,hl,hg,s2⟩;refine⟨_,rfl,_,_,rfl,rfl,.inl ⟨by omega,by omega⟩,_,_,rfl,rfl,(by show (0:Int) < 4294967311;decide),?_⟩
   refine⟨_,rfl,.inl ⟨rfl,_,SqL.of h2⟩,_,rfl,_,_,rfl,rfl,⟨by decide,by decide⟩,_,rfl,λx hx=>?_⟩
   refine⟨W,_,_,rfl,rfl,h2,(by rw[cb];omega),?_⟩
   refine⟨ws++[x],_,_,rfl,by omega,by omega,?_,?_,λz h=>?_,s2.own hW⟩
   ·rw[ae,ky];rfl
   ·rw[kr,hl];rfl
   ·rcases List.mem_append.mp h with h | h
    ·exact hg z h
    ·rw[List.mem_singleton.mp h];exact hx
  ·rintro σ H2 ⟨ws,m,kv,rfl,m0,m1,h2,hl,hg,s2⟩;have hs:=R.DH hg;refine⟨rfl,_,rfl,R.bl1,W,ws,rfl,rfl,SqL.of h2,(by rw[R.oN];show _+_ * 1<=_;omega),?_⟩
   exact k ws _ ⟨by omega,hg⟩ s2
end
theorem d9.free {A:Adr}{i:Nat}{W:Option (Nat×Rl)->Prop}{c c':Col}{H H':Hp}{o:Addr}{st:Ch}(h:∀r,¬W (some (i,r)))(s:Step W c c' H H')(hc:d9 A i c H o st):d9 A i c' H' o st:=by
 obtain⟨dx,aM,aP,aA,aD,aF,aE,aR,ms,ds,ws,fs,es,X⟩:=hc.ex;exact(X.free h s).at
def By:Sp:=λvs H Q _=>∃c:Int,vs=[.int c]/\∀n:Int,1<=n->n<=1000000000->Q (.int n) H
section
variable{P:ku}{w:World}{K:ba}{mg:Str->Option Value}{base:Heap}{A:Adr}
theorem GV (T:Txt w.params K mg A):ay P w K mg base CX0 1 A.yc A.oB ["_law_cell"] By:=by
 refine T.uX.ok Gr (λvs H Q E h=>?_) (λcdv A' outer s H vs Q E hr h=>?_)
 ·obtain⟨c,rfl,_⟩:=h;rfl
 ·obtain⟨c,rfl,q⟩:=h;refine⟨_,(ai (bI (aJ bY (bA dn (pv 0) ak) ak (aS _))
 (aj (aL (bA j7 ak (bA dn (bA dU (pv 0) ak) ak))))
 aQ)
 (aj (aL (bA j7 ak (bA dn (bA dU (pv 0) ak) (bA Rh ak ak)))))),?_⟩
  refine⟨_,rfl,_,_,rfl,rfl,(by show (0:Int) < 2;decide),rfl,_,rfl,nv (λ_=>?_) (λ_=>?_)⟩
  ·refine⟨_,rfl,_,_,rfl,rfl,⟨by decide,by decide⟩,_,_,rfl,rfl,(by show (0:Int) < 9;decide),_,_,rfl,rfl,q _ ?_ ?_⟩ <;> omega
  ·have e:(10:Int) ^ (9:Int).toNat=1000000000:=by decide
   refine⟨_,rfl,_,_,rfl,rfl,⟨by decide,by decide⟩,_,_,rfl,rfl,⟨by decide,by decide,by decide⟩,_,_,rfl,rfl,(by rw[e];show (0:Int) < 1000000000;decide),_,_,rfl,rfl,q _ ?_ ?_⟩ <;> rw[e] <;> omega
end
mutual
theorem DV.same {K:ba}{H H':Hp}(s:bJ H H'):∀(d:PyData) {x:V},DV K H d x->DV K H' d x
 | .none,_,h=>by unfold DV at h ⊢;exact h
 | .bool _,_,h=>by unfold DV at h ⊢;exact h
 | .int _,_,h=>by unfold DV at h ⊢;exact h
 | .str _,_,h=>by unfold DV at h ⊢;exact h
 | .list ds,_,h=>by
  unfold DV at h ⊢;obtain⟨a,xs,e,h1,h2⟩:=h;exact⟨a,xs,e,s.seq h1,DVs.same s ds h2⟩
 | .tuple ds,_,h=>by
  unfold DV at h ⊢;obtain⟨a,xs,e,h1,h2⟩:=h;exact⟨a,xs,e,dW s h1,DVs.same s ds h2⟩
 | .dict _,_,h=>by unfold DV at h;exact h.elim
theorem DVs.same {K:ba}{H H':Hp}(s:bJ H H'):∀(ds:List PyData) {xs:List V},DVs K H ds xs->DVs K H' ds xs
 |[],_,h=>by unfold DVs at h ⊢;exact h
 |d::ds,_,h=>by
  unfold DVs at h ⊢;obtain⟨x,r,e,h1,h2⟩:=h;exact⟨x,r,e,DV.same s d h1,DVs.same s ds h2⟩
end
theorem vx {d:PyData}(h1:d.canLay0=true)(h2:d.depth<=64):ae5 d=true:=by
 show (d.canLay0 && decide (d.depth<=64))=true;rw[h1,decide_eq_true h2];rfl
theorem vy {α:Type}{f:α->PyData}{k:Nat}(h:∀x,aet (f x)<=k):∀xs:List α,aed (xs.map f)<=k
 |[]=>by simp only[aeE,aed];omega
 |x::xs=>by
  have h1:=h x;have h2:=vy h xs;simp only[kc,aed];omega
theorem CY {α:Type}{f:α->PyData}:∀ {xs:List α},(∀x∈xs,(f x).canLay0=true)->ra (xs.map f)=true
 |[],_=>by simp only[aeE,ra]
 |x::xs,h=>by
  simp only[kc,ra,h x fu,CY λy hy=>h y (ki _ hy),aew]
theorem DX (ns:List Nat):(g8 ns).canLay0=true:=by
 unfold g8;simp only[rf];exact CY λn _=>by simp only[rf]
theorem MQ (ns:List Nat):(g8 ns).depth<=2:=by
 unfold g8;have:=vy (f:=λn:Nat=>PyData.int (n:Int)) (k:=0) (λn=>by simp only[aet];omega) ns
 simp only[aet];omega
theorem SA (x:Nat×Int×List Nat):(asD x).canLay0=true:=by
 unfold asD;simp only[rf,ra,DX,aew]
theorem SD (x:Nat×Int×List Nat):(asD x).depth<=10:=by
 have:=MQ x.2.2;unfold asD;simp only[aet,aed];omega
theorem MR:∀k,aef (kn k)=true
 | 0=>by decide +kernel
 | 1=>by decide +kernel
 |_+2=>by show aef (ar "turn")=true;decide +kernel
theorem MS {e:Ed}(h:aef e.th=true):(edD e).canLay0=true:=by
 have h0:=MR 0;have h1:=MR 1;have h2:=MR 2;unfold edD;split <;> simp only[rf,ra,h,h0,h1,h2,aew]
theorem MT (e:Ed):(edD e).depth<=10:=by
 unfold edD;split <;> simp only[aet,aed] <;> omega
theorem MU {tx:List Str}(h:∀x∈tx,aef x=true):(PyData.list (tx.map afn)).canLay0=true:=by
 simp only[rf];exact vR tx h
theorem MV (tx:List Str):(PyData.list (tx.map afn)).depth<=10:=by
 have:=yA tx;simp only[aet];omega
theorem SE {N:Nat}:∀ {m:Mn},MOk N m->(mnD m).canLay0=true
 | .mat tx,h=>by
  have h0:=vY 0 (by decide)
  have h1:=MU h.2;unfold mnD;simp only[rf,ra]at h1 ⊢;simp only[h0,h1,aew]
 | .chg e,h=>by
  have h0:=vY 1 (by decide)
  have h1:=MS (EdB.str h);unfold mnD;simp only[rf,ra,h0,h1,aew]
 | .mnd e,h=>by
  have h0:=vY 2 (by decide)
  have h1:=MS (EdB.str h.1);unfold mnD;simp only[rf,ra,h0,h1,aew]
 | .off u,_=>by
  have h0:=vY 3 (by decide)
  unfold mnD;simp only[rf,ra,h0,aew]
 | .cls,_=>by
  have h0:=vY 4 (by decide)
  unfold mnD;simp only[rf,ra,h0,aew]
 | .lay,_=>by
  have h0:=vY 5 (by decide)
  unfold mnD;simp only[rf,ra,h0,aew]
 | .rst,_=>by
  have h0:=vY 6 (by decide)
  unfold mnD;simp only[rf,ra,h0,aew]
 | .pnt z,h=>by
  have h0:=vY 7 (by decide)
  have h1:aef z=true:=h;unfold mnD;simp only[rf,ra,h0,h1,aew]
def vz (c:Col)(H:Hp)(t:Addr)(xs:List V):Prop:=c t=none/\H t=some (.tup xs)
def zP (c:Col)(H:Hp):R.gZ->Addr->Prop
 | .mat cs,t=>∃L,vz c H t [.str (ar "matter"),.ref L]/\c L=none/\H L=some (.lst ((cs.map (kf R.bl1)).map V.str))
 | .ed m k j ws,t=>∃e,vz c H t [.str (R.kEd m),.ref e]/\TupAt c H e (R.edR k j (kf R.bl1 ws))
 | .pt ws,t=>vz c H t [.str (ar "point"),.str (kf R.bl1 ws)]
 | .nums kd ns,t=>vz c H t (.str kd::ns.map V.int)
theorem vz.c {i:Nat}{c:Col}{H:Hp}{t:Addr}{xs:List V}(h:vz c H t xs):ug i c H t xs:=⟨by rw[h.1];exact av,h.2⟩
theorem vz.step {W:Option (Nat×Rl)->Prop}{c c':Col}{H H':Hp}{t:Addr}{xs:List V}(s:Step W c c' H H')(h:vz c H t xs):vz c' H' t xs:=ef s h.1 h.2
theorem zP.step {W:Option (Nat×Rl)->Prop}{c c':Col}{H H':Hp}{t:Addr}(s:Step W c c' H H'):∀ {d:R.gZ},zP c H d t->zP c' H' d t
 | .mat _,⟨L,a,b1,b2⟩=>⟨L,a.step s,ef s b1 b2⟩
 | .ed _ _ _ _,⟨e,a,b⟩=>⟨e,a.step s,b.step s⟩
 | .pt _,h=>vz.step s h
 | .nums _ _,h=>vz.step s h
theorem zP.c {i:Nat}{c:Col}{H:Hp}{t:Addr}:∀ {d:R.gZ},zP c H d t->lV i c H d t
 | .mat _,⟨L,a,b1,b2⟩=>⟨L,a.c,by rw[b1];exact av,b2⟩
 | .ed _ _ _ _,⟨e,a,b⟩=>⟨e,a.c,b⟩
 | .pt _,h=>vz.c h
 | .nums _ _,h=>vz.c h
theorem zP.kind {c:Col}{H:Hp}{t:Addr}:∀ {d:R.gZ},zP c H d t->∃xs,H t=some (.tup (.str (R.zq d)::xs))
 | .mat _,⟨_,a,_⟩=>⟨_,a.2⟩
 | .ed _ _ _ _,⟨_,a,_⟩=>⟨_,a.2⟩
 | .pt _,h=>⟨_,h.2⟩
 | .nums _ _,h=>⟨_,h.2⟩
structure Tr (L0:Nat)(as0:List (Nat×Int×List Nat))(mo0:Nat->Mn)(st:Ch):Prop where
 al:st.aI=as0
 mo:∀k,1<=k->k<=L0->st.mo k=mo0 k
 pl:∀k∈st.au,L0 < k
 ln:L0<=st.made.length
structure Fl (N:Nat)(s:Int)(st:Ch)(ms:List Mn):Prop where
 inv:Inv N st
 cH:st.cH=s
 shape:st.au.map st.mo=ms
 cl:st.closed=false
section
variable{L0:Nat}{as0:List (Nat×Int×List Nat)}{mo0:Nat->Mn}{st:Ch}{N:Nat}{s:Int}{ms:List Mn}{m:Mn}
theorem Tr.moved (t:Tr L0 as0 mo0 st)(m:Mn)(row:Str):Tr L0 as0 mo0 (st.moved m row) where
 al:=t.al
 mo:=λk h1 h2=>(CN (m:=m) rfl ⟨h1,om h2 t.ln⟩).trans (t.mo k h1 h2)
 pl:=λk hk=>by
  rcases List.mem_append.mp (show k∈st.au++[st.made.length+1] from hk) with h | h
  ·exact t.pl k h
  ·rw[tu]at h;have:=t.ln;omega
 ln:=by
  show L0<=(st.made++[m]).length;rw[kr];have:=t.ln;omega
theorem Tr.pop (t:Tr L0 as0 mo0 st){pre:List Nat}{n:Nat}(e:st.au=pre++[n])(wd:Str):Tr L0 as0 mo0 (st.popped pre n wd):=⟨t.al,t.mo,λk hk=>t.pl k (by rw[e];exact aex _ hk),t.ln⟩
theorem Tr.pN (t:Tr L0 as0 mo0 st)(z:Str):Tr L0 as0 mo0 (st.pN z):=⟨t.al,t.mo,t.pl,t.ln⟩
theorem Tr.sit (t:Tr L0 as0 mo0 st)(n:Int):Tr L0 as0 mo0 { st with aq:=n }:=⟨t.al,t.mo,t.pl,t.ln⟩
theorem Tr.DP (t:Tr L0 as0 mo0 st){n:Nat}(hn:n∈st.au)(hno:fA st n)(tx:List Str)(e:Ed):Tr L0 as0 mo0 (st.DP n tx e):=⟨t.al,λk h1 h2=>(rG hno h1 (λz=>by have:=t.pl n hn;omega) rfl).trans (t.mo k h1 h2),t.pl,by
 show L0<=(st.made.set _ _).length;rw[aeT];exact t.ln⟩
theorem um (h:st.closed=false)(z:Str):(st.pN z).closed=false:=by
 show (if _ then false else st.closed)=false
 split
 ·rfl
 ·exact h
theorem Fl.move (f:Fl N s st ms)(hm:MOk N m)(hc:kY st m=none)(row:Str):pD st m row=(.num (st.made.length+1),st.moved m row)/\Fl (N+3) s (st.moved m row) (ms++[m]):=by
 refine⟨by unfold pD;rw[hc],f.inv.moved hm hc row,f.cH,?_,f.cl⟩
 show (st.au++[st.made.length+1]).map _=_;rw[ky,aeR (g:=st.mo) (λk hk=>CN (m:=m) rfl (f.inv.cS k hk)),f.shape,kc,aeE,GL (st:=st) (m:=m) rfl]
theorem Fl.top (f:Fl N s st (ms++[m])):∃pre n,st.au=pre++[n]/\pre.map st.mo=ms/\st.mo n=m:=by
 have h:=f.shape;rcases aej st.au with e | ⟨pre,n,e⟩
 ·rw[e]at h;simp at h
 ·rw[aek]at e;rw[e,ky]at h;obtain⟨h1,h2⟩:=List.append_inj' h rfl;cases h2;exact⟨pre,n,e,h1,rfl⟩
theorem Fl.sH (f:Fl N s st (ms++[m])){a b:Int}(hab:a+b<=s){pre:List Nat}{n:Nat}(e:st.au=pre++[n])(hm:st.mo n=m):gx st a b=(.txt (qI (gY (nd m.k) a b)),(if gY (nd m.k) a b=true then (st.popped pre n (qI (gY (nd m.k) a b))).carry m else st.popped pre n (qI (gY (nd m.k) a b))).pN (R.nS (.nums (ar "vote") [a,b]))):=by
 have ed:st.au.dropLast=pre:=by rw[e];exact aeY
 unfold gx;rw[show st.au.getLast?=some n by rw[e];exact aeG ..]
 dsimp only;rw[if_neg (by rw[f.cH];omega),ed,hm]
theorem Fl.XA (f:Fl N s st (ms++[m]))(t:Tr L0 as0 mo0 st)(hN:N<=800){a b:Int}(hab:a+b<=s)(hk:a<=b):∃st',gx st a b=(.txt MK,st')/\Fl (N+3) s st' ms/\Tr L0 as0 mo0 st'/\st'.aq=st.aq:=by
 obtain⟨pre,n,e,h1,h2⟩:=f.top;have kb:gY (nd m.k) a b=false:=by unfold gY;rw[if_pos hk]
 have h:=f.sH hab e h2;have I:=f.inv.gx hN a b;rw[kb]at h;rw[h]at I;exact⟨_,h,⟨I,f.cH,h1,um (by exact f.cl) _⟩,(t.pop e _).pN _,rfl⟩
theorem Fl.drop (f:Fl N s st (ms++[m]))(t:Tr L0 as0 mo0 st):∃st',lW st=(.txt jZ,st')/\Fl (N+3) s st' ms/\Tr L0 as0 mo0 st'/\st'.aq=st.aq/\∃n,st.au=st'.au++[n]:=by
 obtain⟨pre,n,e,h1,h2⟩:=f.top;have ed:st.au.dropLast=pre:=by rw[e];exact aeY
 have h:lW st=(.txt jZ,(st.popped pre n jZ).pN (R.nS (.nums (ar "drop") []))):=by
  unfold lW;rw[show st.au.getLast?=some n by rw[e];exact aeG ..]
  dsimp only;rw[ed]
 have I:=f.inv.lW;rw[h]at I;exact⟨_,h,⟨I,f.cH,h1,um (by exact f.cl) _⟩,(t.pop e _).pN _,rfl,n,e⟩
theorem rH {k:Nat}(h:k≠4){a b:Int}(hab:b < a):gY (nd k) a b=true:=by
 unfold gY nd;rw[if_neg (by omega),if_neg h,decide_eq_true (show ar "more"=IS from rfl)]
 rfl
theorem Fl.rest (f:Fl N s st (ms++[.rst]))(t:Tr L0 as0 mo0 st)(hN:N<=800){a b:Int}(hab:a+b<=s)(hk:b < a):∃st',gx st a b=(.txt DR,st')/\Fl (N+3) s st' ms/\Tr L0 as0 mo0 st'/\st'.aq=st.aq+1:=by
 obtain⟨pre,n,e,h1,h2⟩:=f.top;have kb:gY (nd (Mn.rst).k) a b=true:=rH (by decide) hk
 have h:=f.sH hab e h2;have I:=f.inv.gx hN a b;rw[kb]at h;rw[h]at I;exact⟨_,h,⟨I,f.cH,h1,um (by exact f.cl) _⟩,((t.pop e _).sit _).pN _,rfl⟩
theorem Fl.SG {tx:List Str}(f:Fl N s st [.mat tx])(t:Tr L0 as0 mo0 st)(hN:N<=800){a b:Int}(hab:a+b<=s):∃z st',gx st a b=(.txt z,st')/\Fl (N+3) s st' []/\Tr L0 as0 mo0 st'/\st'.aq=st.aq:=by
 obtain⟨pre,n,e,h1,h2⟩:=Fl.top (ms:=[]) f;have h:=Fl.sH (ms:=[]) f hab e h2;have I:=f.inv.gx hN a b;rw[h]at I;refine⟨_,_,h,⟨I,?_,?_,um ?_ _⟩,Tr.pN ?_ _,?_⟩
 ·show (if _ then _ else _:Ch).cH=s
  split <;> exact f.cH
 ·show (if _ then _ else _:Ch).au.map (if _ then _ else _:Ch).mo=[]
  split <;> exact h1
 ·split <;> exact f.cl
 ·split
  ·exact t.pop e _
  ·exact t.pop e _
 ·show (if _ then _ else _:Ch).aq=st.aq
  split <;> rfl
theorem Fl.change {tx:List Str}{ed:Ed}(f:Fl N s st [.mat tx,.chg ed])(t:Tr L0 as0 mo0 st)(hN:N<=800){a b:Int}(hab:a+b<=s)(hk:b < a):∃st',gx st a b=(.txt DR,st')/\Fl (N+3) s st' [.mat (cn tx ed)]/\Tr L0 as0 mo0 st'/\st'.aq=st.aq:=by
 obtain⟨pre,n,e,h1,h2⟩:=Fl.top (ms:=[.mat tx]) f;have kb:gY (nd (Mn.chg ed).k) a b=true:=rH (by show 1≠4;decide) hk
 have h:=Fl.sH (ms:=[.mat tx]) f hab e h2;have I:=f.inv.gx hN a b;rw[kb]at h;obtain⟨k,e1,e2⟩:=OZ h1;have e3:(st.popped pre n (qI true)).carry (.chg ed)=(st.popped pre n (qI true)).DP k tx ed:=by
  unfold Ch.carry;rw[show (st.popped pre n (qI true)).au=pre from rfl,e1]
  show (match st.mo k with | .mat tx=>_ | _=>_)=_
  rw[e2]
 rw[if_pos rfl,e3]at h;rw[h]at I;have hk1:k∈st.au:=by rw[e,e1];simp
 have hno:=f.inv.cS k hk1;refine⟨_,h,⟨I,f.cH,?_,um (by exact f.cl) _⟩,Tr.pN (Tr.DP (t.pop e _) (by show k∈pre;rw[e1];exact fu) hno tx ed) _,rfl⟩
 show pre.map _=_;rw[e1,kc,aeE];exact congrArg (λx=>[x]) (CM (st:=st) hno rfl)
theorem GW (f:Fl N s st [])(hk:m.k=0\/m.k=6\/m.k=7):kY st m=none:=by
 unfold kY;rw[f.shape,f.cl];cases m with
 |mat tx=>rfl
 |rst=>rfl
 |pnt z=>rfl
 |_=>exact absurd hk (by simp[Mn.k])
theorem XB {tx:List Str}{e:Ed}(f:Fl N s st [.mat tx])(h:et tx.length e=true):kY st (.chg e)=none:=by
 unfold kY nW;rw[f.shape,f.cl];show (if et tx.length e=true then none else some Xc.noFit)=none
 rw[if_pos h]
theorem abX {tx:List Str}{e g:Ed}(f:Fl N s st [.mat tx,.chg e])(hk:e.k≠1)(h:et (R.bG e.th).length g=true):kY st (.mnd g)=none:=by
 have ho:qC false [.mat tx,.chg e] 2=none:=by
  unfold qC wb mO;rw[if_neg (by show ¬(2:Int)<=1;decide),if_pos rfl]
  show (if (!decide (e.k=1))=true then none else _)=none
  rw[decide_eq_false hk];rfl
 unfold kY nW;rw[f.shape,f.cl];rw[show (Mn.mnd g).k=2 from rfl,ho]
 show (if et (R.bG e.th).length g=true then none else some Xc.noFit)=none
 rw[if_pos h]
theorem DY (n:Nat)(th:Str):et n ⟨0,0,th⟩=true:=by
 unfold et;show (decide ((0:Int)<=0) && decide ((0:Int) < (n:Int)+1))=true;rw[decide_eq_true (by omega),decide_eq_true (by omega)]
 rfl
end
end My
set_option maxHeartbeats 1000000
namespace My
open PySem L2
seal PySem.wpAny
theorem DZ {X:Cx}{K:ba}{e:Expr}{name:Str}{pos:Pos}{ta:TE}(ek:X.K=K)(he:PE X e ta)(hb:attributeBase e name X.env (eval e X.env)=eval e X.env):PE X (.Attribute e name pos)
  (λσ H Q=>ta σ H λx H1=>∃ea C d fs v,x=.ref ea/\H1 ea=some (xo ea (.ref C) (some d))/\H1 d=some (.xd fs)/\LC K C name/\fs.lookup name=some v/\(∃z,B0 v z)/\Q v H1):=by
 subst ek;exact Ox he hb
theorem xe {K:ba}{C C' D:Value}{b:Bool}(e:C=C')(h:aeh K C' D=some b):aeh K C D=some b:=by rw[e];exact h
theorem xoe {H:Hp}{ea:Addr}{C C':Value}{e e':Option Addr}(h:C=C')(h':e=e'):upd H ea (xo ea C e) ea=some (xo ea C' e'):=by rw[h,h'];exact ae
def Ro (K:ba)(c:Col)(H:Hp)(a:Addr)(xs:List V):Prop:=(c a=none/\Rd H a (.lst xs))\/∀H',SqL K H' a xs
theorem Ro.sq {K:ba}{c:Col}{H:Hp}{a:Addr}{xs:List V}:Ro K c H a xs->SqL K H a xs
 | .inl h=>.inl h.2
 | .inr h=>h H
theorem Ro.step {K:ba}{W:Option (Nat×Rl)->Prop}{c c':Col}{H H':Hp}{a:Addr}{xs:List V}(s:Step W c c' H H'):Ro K c H a xs->Ro K c' H' a xs
 | .inl ⟨n,.inl h⟩=>.inl ⟨(ef s n h).1,.inl (ef s n h).2⟩
 | .inl ⟨n,.inr ⟨o,h⟩⟩=>.inl ⟨(ef s n h).1,.inr ⟨o,(ef s n h).2⟩⟩
 | .inr h=>.inr h
theorem Ro.of {K:ba}{H:Hp}{a:Addr}{xs:List V}(h:SqL K H a xs):Ro K (λ_=>none) H a xs:=by
 rcases h with h | h
 ·exact .inl ⟨rfl,h⟩
 ·exact .inr λ_=>.inr h
structure bT (A:Adr)(o:Addr)(L0:Nat)(as0:List (Nat×Int×List Nat))(mo0:Nat->Mn)(s:Int)(N:Nat)(c:Col)(H:Hp)(st:Ch)(ms:List Mn):Prop where
 ch:d9 A 1 c H o st
 f:Fl N s st ms
 t:Tr L0 as0 mo0 st
section
variable{A:Adr}{o:Addr}{L0:Nat}{as0:List (Nat×Int×List Nat)}{mo0:Nat->Mn}{s:Int}{N:Nat}{c:Col}{H:Hp}{st:Ch}{ms:List Mn}
theorem bT.free {W:Option (Nat×Rl)->Prop}{c':Col}{H':Hp}(h:∀r,¬W (some (1,r)))(x:Step W c c' H H')(w:bT A o L0 as0 mo0 s N c H st ms):bT A o L0 as0 mo0 s N c' H' st ms:=⟨w.ch.free h x,w.f,w.t⟩
theorem bT.new (w:bT A o L0 as0 mo0 s N c H st ms){t:Addr}{u:HO}(h:H t=none):bT A o L0 as0 mo0 s N (aH c t none) (upd H t u) st ms:=w.free (W:=λ_=>False) (λ_=>id) (Step.new id h)
theorem bT.ob (w:bT A o L0 as0 mo0 s N c H st ms):∃dx fs,H o=some (.ins A.ao dx fs)/\∀m,m∉CO->fs.lookup m=none:=by
 obtain⟨dx,aM,aP,aA,aD,aF,aE,aR,ms,ds,ws,fs,es,X⟩:=w.ch.ex;exact⟨dx,_,X.ob,λm h=>dJ h⟩
theorem bT.mono {M:Nat}(h:N<=M)(w:bT A o L0 as0 mo0 s N c H st ms):bT A o L0 as0 mo0 s M c H st ms:=⟨w.ch,⟨w.f.inv.mono h,w.f.cH,w.f.shape,w.f.cl⟩,w.t⟩
theorem bT.move (w:bT A o L0 as0 mo0 s N c H st ms)(hN:N<=800){d:R.gZ}{t:Addr}{m:Mn}(em:f9 d=m)(hd:zJ d)(hz:lV 1 c H d t)(hc:kY st m=none){Q:VK}{E:XK}
  (q:∀c' H' st',Step (cB 1) c c' H H'->st'.aq=st.aq->st'.au=st.au++[st.made.length+1]->bT A o L0 as0 mo0 s (N+3) c' H' st' (ms++[m])->Q (nV (st.made.length+1)) H'):vv A 1 [.ref o,.ref t] H Q E:=by
 subst em;obtain⟨e,f'⟩:=w.f.move (GR hd) hc (R.nS d);refine⟨o,t,c,st,N,d,rfl,w.ch,w.f.inv,hN,hd,hz,?_⟩;rw[e];exactλc' H' s' ch'=>q c' H' (st.moved (f9 d) (R.nS d)) s' rfl rfl ⟨ch',f',w.t.moved _ _⟩
theorem bT.sH (w:bT A o L0 as0 mo0 s N c H st ms)(hN:N<=800){a b:Int}(ha:0<=a/\a < 10 ^ 10)(hb:0<=b/\b < 10 ^ 10){z:Str}{st':Ch}(e:gx st a b=(.txt z,st')){Q:VK}{E:XK}
  (q:∀c' H',Step (cB 1) c c' H H'->d9 A 1 c' H' o st'->Q (.str z) H'):zG A 1 [.ref o,.int a,.int b] H Q E:=by
 refine⟨o,a,b,c,st,N,rfl,w.ch,w.f.inv,hN,ha,hb,?_⟩;rw[e];exact q
theorem bT.drop (w:bT A o L0 as0 mo0 s N c H st ms)(hN:N<=800){z:Str}{st':Ch}(e:lW st=(.txt z,st')){Q:VK}{E:XK}
  (q:∀c' H',Step (cB 1) c c' H H'->d9 A 1 c' H' o st'->Q (.str z) H'):zH A 1 [.ref o] H Q E:=by
 refine⟨o,c,st,N,rfl,w.ch,w.f.inv,hN,?_⟩;rw[e];exact q
end
theorem vA:f9 (.nums (ar "rest") [])=.rst:=by
 rw[f9,if_neg (by decide +kernel),if_neg (by decide +kernel),if_neg (by decide +kernel)]
theorem MW:f9 (.nums (ar "lay") [])=.lay:=by
 rw[f9,if_neg (by decide +kernel),if_neg (by decide +kernel),if_pos rfl]
theorem MX (u:Int):f9 (.nums (ar "put off") [u])=.off u:=by
 rw[f9,if_pos rfl];rfl
theorem vB:zJ (.nums (ar "rest") []):=⟨by decide +kernel,λ_ h=>nomatch h⟩
theorem MY:zJ (.nums (ar "lay") []):=⟨by decide +kernel,λ_ h=>nomatch h⟩
theorem uo {i:Nat}{c:Col}{H:Hp}{t:Addr}{xs:List V}:ug i (aH c t none) (upd H t (.tup xs)) t xs:=⟨by rw[a7];exact av,ae⟩
def tkT:Rs->List V
 | .num n=>[.str (ar "told"),nV n]
 | .exc (.qB b)=>[.str (ar "bar"),.int b]
 | .exc (.vk b)=>[.str (ar "yet"),.int b]
 |_=>[.str (ar "none"),.int 0]
def yo (A:Adr):Sp:=λvs H Q _=>∃(o:Addr) (z:Int) (c:Col) (st:Ch) (N:Nat),vs=[.ref o,.int z]/\d9 A 1 c H o st/\Inv N st/\N<=800/\-1<=z/\z < 10 ^ 10 /\
 ∀c' H' u,Step (cB 1) c c' H H'->d9 A 1 c' H' o (stepT st z.toNat).2->c' u=none->H' u=some (.tup (tkT (stepT st z.toNat).1))->Q (.ref u) H'
theorem MZ (st:Ch)(n:Nat):(∃k,(stepT st n).1=.num k)\/(∃b,(stepT st n).1=.exc (.qB b))\/(∃b,(stepT st n).1=.exc (.vk b))\/(stepT st n).1=.exc .yk:=by
 unfold stepT;split
 ·split
  ·exact .inr (.inr (.inr rfl))
  ·split
   ·exact .inr (.inr (.inl ⟨_,rfl⟩))
   ·exact .inl ⟨_,rfl⟩
 ·exact .inr (.inl ⟨_,rfl⟩)
section
variable{P:ku}{w:World}{K:ba}{mg:Str->Option Value}{base:Heap}{A:Adr}
theorem D0 (T:Txt w.params K mg A):ay P w K mg base (CXX P w) 8 A.rm A.jg ["_law_chamber","_law_number"] (yo A):=by
 have zQ:ay P w K mg base (CXX P w) 6 A.cc A.hV ["self","number"] (ML A 1):=O2 T;refine T.nM.okX hZ (λvs H Q E h=>?_) (λcdv A' outer s H vs Q E hr h=>?_)
 ·obtain⟨o,z,c,st,N,rfl,_⟩:=h;rfl
 ·obtain⟨o,z,c,st,N,rfl,hc,I,hN,z0,z1,q⟩:=h;obtain⟨dx,aM,aP,aA,aD,aF,aE,aR,ms,ds,ws,fs,es,X⟩:=hc.ex;have wO:Room 6 _:=hr.mono (by decide)
  have hok:=MO I hN (.take (z:=z) z0 z1);rw[sI]at hok;have hw:=MZ st z.toNat;refine⟨_,(aW (psx (bh (i:=2) hZ.nd rfl (aec rfl) Q5))
 (aW (Ou ⟨rfl,rfl⟩ (bC (Oo (Ow (Dm (px az) (Dm (Dn (px (pv 0)) T.ag T.qp zQ wO T.iP (pax (aa (pv 1) ah))) Om)))))
 (Ls (i:=3) hZ.nd rfl rfl rfl T.tY (λ_=>(aj (bh (i:=2) hZ.nd rfl (aec rfl) (bH (aa az (aa (DZ (K:=K) rfl (pv 3) rfl) ah)))))) (Ls (i:=3) hZ.nd rfl rfl rfl T.zc (λ_=>(aj (bh (i:=2) hZ.nd rfl (aec rfl) (bH (aa az (aa (DZ (K:=K) rfl (pv 3) rfl) ah)))))) (Lr rfl T.vc (λ_=>(aj (bh (i:=2) hZ.nd rfl (aec rfl) (bH (aa az (aa ak ah)))))) (Ot ⟨rfl,rfl⟩)))))
 (bC (psx (aL (pv 2)))))),?_⟩
  have fin:∀(c1:Col) (H1:Hp) (p:Addr),Step (cB 1) c c1 H H1->d9 A 1 c1 H1 o (stepT st z.toNat).2->H1 p=none->Q (.ref p) (upd H1 p (.tup (tkT (stepT st z.toNat).1))):=λc1 H1 p s1 hc1 hp =>
   q (aH c1 p none) _ p (s1.trans (Step.new av hp)) (hc1.free (W:=λ_=>False) (λ_=>id) (Step.new id hp)) a7 ae
  clear q;refine mtv rfl X.ob (dJ (by decide +kernel)) ⟨_,rfl,o,z,c,st,N,rfl,hc,I,hN,z0,z1,?_⟩
  generalize stepT st z.toNat=rs at fin hok hw ⊢;obtain⟨r,st'⟩:=rs;dsimp only at hok hw fin;rcases hw with ⟨k,rfl⟩ | ⟨b,rfl⟩ | ⟨b,rfl⟩ | rfl
  ·exactλc1 H1 s1 hc1=>⟨(sl 2),λp hp=>fin c1 H1 p s1 hc1 hp⟩
  ·refineλc1 H1 C e s1 hc1 hat he=>?_
   refine hide λGg hGg=>?_
   obtain⟨a,ee,ha⟩:=hat.2;refine hGg ?_;exact⟨true,xe hat.1 T.jqr,pM (λea hea=>⟨_,rfl,ea,A.fv,a,_,.int b,rfl,xoe hat.1 ee,(aw (aN ha hea)).trans ha,T.Bi,(by rw[ae7];rfl),⟨_,.int (rC hok.1 hok.2)⟩,(sl 2),λp hp=>⟨_,rfl,fin (aH c1 ea none) _ p (s1.trans (Step.new av hea)) (hc1.free (W:=λ_=>False) (λ_=>id) (Step.new id hea)) hp⟩⟩)⟩
  ·refineλc1 H1 C e s1 hc1 hat he=>?_
   refine hide λGg hGg=>?_
   obtain⟨a,ee,ha⟩:=hat.2;refine hGg ?_;exact⟨false,xe hat.1 T.jqs,gf ⟨true,xe hat.1 T.jqt,pM (λea hea=>⟨_,rfl,ea,A.gi,a,_,.int b,rfl,xoe hat.1 ee,(aw (aN ha hea)).trans ha,T.Bj,(by rw[ae7];rfl),⟨_,.int (rC hok.1 hok.2)⟩,(sl 2),λp hp=>⟨_,rfl,fin (aH c1 ea none) _ p (s1.trans (Step.new av hea)) (hc1.free (W:=λ_=>False) (λ_=>id) (Step.new id hea)) hp⟩⟩)⟩⟩
  ·refineλc1 H1 C e s1 hc1 hat he=>?_
   exact⟨false,xe hat.1 T.jqo,gf ⟨false,xe hat.1 T.jqp,gf ⟨true,xe hat.1 T.jqh,pM (⟨(sl 2),λp hp=>⟨_,rfl,fin c1 H1 p s1 hc1 hp⟩⟩)⟩⟩⟩
theorem zR (T:Txt w.params K mg A):ay P w K mg base CX0 8 A.rm A.jg ["_law_chamber","_law_number"] (yo A) :=
 (D0 T).calm λ_ _ _ _ h=>h
end
end My
set_option maxHeartbeats 1000000
namespace My
open PySem L2
seal PySem.wpAny
def Jj (A:Adr):Sp:=λvs H Q _=>∃(o:Addr) (cell:Int) (L0:Nat) (as0:List (Nat×Int×List Nat)) (mo0:Nat->Mn) (s:Int) (N:Nat) (c:Col) (st:Ch),vs=[.ref o,.int cell]/\bT A o L0 as0 mo0 s N c H st []/\N+12<=800/\1<=s /\
 ∀c' H' st' M,M<=12->(cell % 6=0->M<=6)->(3 < cell % 6->M=0)->Step (cB 1) c c' H H'->bT A o L0 as0 mo0 s (N+M) c' H' st' []->st.aq<=st'.aq->(cell % 6=0->st'.aq=st.aq+1)->Q .non H'
theorem uq {c:Col}{H:Hp}{t:Addr}{kd:Str}{ns:List Int}:lV 1 (aH c t none) (upd H t (.tup (.str kd::ns.map V.int))) (.nums kd ns) t:=uo
theorem Qf {c:Col}{H:Hp}{t:Addr}{ws:List Str}:lV 1 (aH c t none) (upd H t (.tup [.str (ar "point"),.str (kf R.bl1 ws)])) (.pt ws) t:=uo
theorem M0 {c:Col}{H:Hp}{L t:Addr}{cs:List (List Str)}(hL:H L=some (.lst ((cs.map (kf R.bl1)).map V.str)))(cL:¬cB 1 (c L))(ht:H t=none):lV 1 (aH c t none) (upd H t (.tup [.str (ar "matter"),.ref L])) (.mat cs) t :=
 ⟨L,uo,by rw[ax (aN hL ht)];exact cL,(aw (aN hL ht)).trans hL⟩
theorem M3 {c:Col}{H:Hp}{e t:Addr}{m:Bool}{k:Nat}{j:Int}{ws:List Str}(he:H e=some (.tup (R.edR k j (kf R.bl1 ws))))(ce:c e=none)(ht:H t=none):lV 1 (aH c t none) (upd H t (.tup [.str (R.kEd m),.ref e])) (.ed m k j ws) t :=
 ⟨e,uo,by rw[ax (aN he ht)];exact ce,.inl ((aw (aN he ht)).trans he)⟩
section
variable{P:ku}{w:World}{K:ba}{mg:Str->Option Value}{base:Heap}{A:Adr}
set_option maxHeartbeats 4000000 in
theorem GX (T:Txt w.params K mg A):ay P w K mg base CX0 8 A.yf A.oF ["_law_chamber","_law_cell"] (Jj A):=by
 have jw:ay P w K mg base CX0 2 A.qg A.jS ["_law_cell"] sL:=we T;have cU:ay P w K mg base (CXX P w) 6 A.bM A.dR ["self","ayes","noes"] (zG A 1):=CS T;have gy:ay P w K mg base (CXX P w) 6 A.bN A.dS ["self"] (zH A 1):=CT T;have bu:ay P w K mg base (CXX P w) 7 A.bD A.dc ["self","told"] (vv A 1):=yn T;refine T.rA.ok yW (λvs H Q E h=>?_) (λcdv A' outer s H vs Q E hr h=>?_)
 ·obtain⟨o,cell,L0,as0,mo0,s,N,c,st,rfl,_⟩:=h;rfl
 ·obtain⟨o,cell,L0,as0,mo0,sn,N,c,st,rfl,w0,hN,s1,q⟩:=h;have iF:Room 2 _:=hr.mono (by decide)
  have cI:Room 6 _:=hr.mono (by decide)
  have fB:Room 6 _:=hr.mono (by decide)
  have bj:Room 7 _:=hr;refine⟨_,(ai (bh (i:=2) yW.nd rfl (aec rfl) (bA dn (pv 1) ak))
 (ai (bI (aJ bY (pv 2) ak (aS _))
 (ai (a6 (bQ (pv 0) T.ag T.bF bu bj T.bt .nil cY (aa (bH (aa az ah)) ah)))
 (aj (a6 (bQ (pv 0) T.ag T.dD cU cI T.cy .nil cY (aa ak (aa ak ah))))))
 aQ)
 (ai (bI (aJ bY (pv 2) ak (aS _))
 (ai (a6 (bQ (pv 0) T.ag T.bF bu bj T.bt .nil cY (aa (bH (aa az ah)) ah)))
 (aj (a6 (bQ (pv 0) T.ag T.dD cU cI T.cy .nil cY (aa ak (aa ak ah))))))
 aQ)
 (ai (bI (aJ bY (pv 2) ak (aS _))
 (ai (a6 (bQ (pv 0) T.ag T.bF bu bj T.bt .nil cY (aa (bH (aa az (aa (gQ (aa (bb jw iF rfl T.jn T.ic.kp T.jm .nil aV (aa (bA dU (pv 1) ak) ah)) ah)) ah))) ah)))
 (ai (a6 (bQ (pv 0) T.ag T.bF bu bj T.bt .nil cY (aa (bH (aa az (aa (bH (aa az (aa (bA dn (bA dU (pv 1) ak) ak) (aa (bb jw iF rfl T.jn T.ic.kp T.jm .nil aV (aa (bA dU (pv 1) ak) ah)) ah)))) ah))) ah)))
 (ai (a6 (bQ (pv 0) T.ag T.dD cU cI T.cy .nil cY (aa ak (aa ak ah))))
 (aj (a6 (bQ (pv 0) T.ag T.dD cU cI T.cy .nil cY (aa (bA dn (bA dU (pv 1) ak) ak) (aa ak ah))))))))
 aQ)
 (aj (bI (aJ bY (pv 2) ak (aS _))
 (ai (a6 (bQ (pv 0) T.ag T.bF bu bj T.bt .nil cY (aa (bH (aa az (aa (bb jw iF rfl T.jn T.ic.kp T.jm .nil aV (aa (bA dU (pv 1) ak) ah)) ah))) ah)))
 (aj (a6 (cw (pv 0) T.ag T.iO gy fB T.eJ .nil cY))))
 aQ)))))),?_⟩
  refine hide λGg hGg=>?_
  obtain⟨dx,fs,hob,hfs⟩:=w0.ob;have t10:(0:Int)<=0/\(0:Int) < 10 ^ 10:=⟨by decide,by decide⟩
  have t11:(0:Int)<=1/\(1:Int) < 10 ^ 10:=⟨by decide,by decide⟩
  have z0:0<=cell % 6:=ae4 _ (by decide)
  have z1:cell % 6 < 6:=aeL _ (by decide)
  refine hGg ?_;refine⟨_,rfl,_,_,rfl,rfl,(by show (0:Int) < 6;decide),?_⟩
  dsimp only[df];have no:∀ {a b:Int},a≠b->decide (V.int a=V.int b)=false:=λh=>decide_eq_false λz=>h (by cases z;rfl)
  have ye:∀ {a b:Int},a=b->decide (V.int a=V.int b)=true:=λh=>decide_eq_true (by rw[h])
  by_cases c0:cell % 6=0
  ·refine⟨_,rfl,rfl,tst (ye c0) ?_⟩;refine⟨_,rfl,o,dx,fs,rfl,hob,hfs _ (by decide +kernel),(sl 1),λt ht=>?_⟩
   refine bT.move (w0.new ht) (by omega) vA vB uq (GW w0.f (.inr (.inl rfl))) λc2 H2 st2 s2 e2 _ w2=>?_
   refine hide λGg hGg=>?_
   obtain⟨dx2,fs2,M4,M5⟩:=w2.ob;obtain⟨st3,e3,f3,t3,es3⟩:=Fl.rest (ms:=[]) w2.f w2.t (by omega) (a:=1) (b:=0) (by omega) (by decide)
   refine hGg ?_;refine⟨_,rfl,o,dx2,fs2,rfl,M4,M5 _ (by decide +kernel),bT.sH w2 (by omega) t11 t10 e3 λc3 H3 s3 ch3=>?_⟩
   have w3:bT A o L0 as0 mo0 sn (N+3+3) c3 H3 st3 []:=⟨ch3,f3,t3⟩;refine⟨_,rfl,rfl,tsf (no (by omega)) ⟨_,rfl,rfl,tsf (no (by omega)) ⟨_,rfl,rfl,tsf (no (by omega)) ?_⟩⟩⟩
   exact q c3 H3 st3 6 (by omega) (λ_=>by omega) (λz=>by omega) (((Step.new av ht).trans s2).trans s3) (w3.mono (by omega)) (by omega) (λ_=>by omega)
  refine⟨_,rfl,rfl,tsf (no c0) ?_⟩
  by_cases c1:cell % 6=1
  ·refine⟨_,rfl,rfl,tst (ye c1) ?_⟩;refine⟨_,rfl,o,dx,fs,rfl,hob,hfs _ (by decide +kernel),(sl 1),λt ht=>?_⟩
   refine bT.move (w0.new ht) (by omega) vA vB uq (GW w0.f (.inr (.inl rfl))) λc2 H2 st2 s2 e2 _ w2=>?_
   refine hide λGg hGg=>?_
   obtain⟨dx2,fs2,M4,M5⟩:=w2.ob;obtain⟨st3,e3,f3,t3,es3⟩:=Fl.XA (ms:=[]) w2.f w2.t (by omega) (a:=0) (b:=1) (by omega) (by decide)
   refine hGg ?_;refine⟨_,rfl,o,dx2,fs2,rfl,M4,M5 _ (by decide +kernel),bT.sH w2 (by omega) t10 t11 e3 λc3 H3 s3 ch3=>?_⟩
   have w3:bT A o L0 as0 mo0 sn (N+3+3) c3 H3 st3 []:=⟨ch3,f3,t3⟩;refine⟨_,rfl,rfl,tsf (no (by omega)) ⟨_,rfl,rfl,tsf (no (by omega)) ?_⟩⟩
   exact q c3 H3 st3 6 (by omega) (λ_=>by omega) (λz=>by omega) (((Step.new av ht).trans s2).trans s3) (w3.mono (by omega)) (by omega) (λz=>absurd z c0)
  refine⟨_,rfl,rfl,tsf (no c1) ?_⟩
  by_cases c2:cell % 6=2
  ·refine⟨_,rfl,rfl,tst (ye c2) ?_⟩;refine⟨_,rfl,o,dx,fs,rfl,hob,hfs _ (by decide +kernel),_,rfl,_,_,rfl,rfl,⟨by decide,by decide⟩,_,rfl,λws H2 hws s2=>⟨(sl 1),λL hL=>⟨(sl 2),λt ht=>?_⟩⟩⟩
   have x2:Step (cB 1) c (bP c H) H H2:=Step.cl av s2;have w2:=w0.free (W:=λ_=>False) (λ_=>id) (Step.cl id s2)
   have w2L:=w2.new (u:=.lst [.str (kf R.bl1 ws)]) hL;have x3:Step (cB 1) (bP c H) (aH (bP c H) L none) H2 (upd H2 L (.lst [.str (kf R.bl1 ws)])):=Step.new av hL;have x4:=x2.trans (x3.trans (Step.new (x:=none) (o:=.tup [.str (ar "matter"),.ref L]) av ht));refine bT.move (w2L.new ht) (by omega) (d:=.mat [ws]) rfl ⟨by show 1<=12;decide,λz hz=>by rw[tu]at hz;rw[hz];exact hws⟩ (M0 ae (by rw[a7];exact av) ht) (GW w0.f (.inl rfl)) λc3 H3 st3 s3 e3 _ w3=>?_
   refine hide λGg hGg=>?_
   obtain⟨dx3,fs3,CZ,C0⟩:=w3.ob;refine hGg ?_;refine⟨_,rfl,o,dx3,fs3,rfl,CZ,C0 _ (by decide +kernel),_,rfl,_,_,rfl,rfl,⟨by decide,by decide⟩,_,_,rfl,rfl,(by show (0:Int) < 2;decide),_,rfl,_,_,rfl,rfl,⟨by decide,by decide⟩,_,rfl,λws2 H4 abY s4=>⟨(sl 3),λe he=>⟨(sl 2),λt2 ht2=>?_⟩⟩⟩
   have j0:0<=cell / 6 % 2:=ae4 _ (by decide)
   have j1:cell / 6 % 2 < 2:=aeL _ (by decide)
   have x5:Step (cB 1) c3 (bP c3 H3) H3 H4:=Step.cl av s4;have w4:=w3.free (W:=λ_=>False) (λ_=>id) (Step.cl id s4)
   have w4e:=w4.new (u:=.tup [.str (ar "put"),.int (cell / 6 % 2),.str (kf R.bl1 ws2)]) he;have x6:Step (cB 1) (bP c3 H3) (aH (bP c3 H3) e none) H4 (upd H4 e (.tup [.str (ar "put"),.int (cell / 6 % 2),.str (kf R.bl1 ws2)])):=Step.new av he;have x7:=x5.trans (x6.trans (Step.new (x:=none) (o:=.tup [.str (ar "change"),.ref e]) av ht2));refine bT.move (w4e.new ht2) (by omega) (d:=.ed false 0 (cell / 6 % 2) ws2) (m:=.chg ⟨0,cell / 6 % 2,kf R.bl1 ws2⟩) rfl ⟨.inl rfl,⟨by omega,by omega⟩,abY,λz=>nomatch z⟩ (M3 ae a7 ht2) (XB w3.f ?_) λc5 H5 st5 s5 e5 _ w5=>?_
   ·unfold et;show (decide (0<=cell / 6 % 2) && decide (cell / 6 % 2 < ((1:Nat):Int)+1))=true;rw[decide_eq_true j0,decide_eq_true (by omega)]
    rfl
   refine hide λGg hGg=>?_
   obtain⟨dx5,fs5,O7,O8⟩:=w5.ob;obtain⟨st6,e6,f6,t6,es6⟩:=Fl.change w5.f w5.t (by omega) (a:=1) (b:=0) (by omega) (by decide)
   refine hGg ?_;refine⟨_,rfl,o,dx5,fs5,rfl,O7,O8 _ (by decide +kernel),bT.sH w5 (by omega) t11 t10 e6 λc6 H6 s6 ch6=>?_⟩
   refine hide λGg hGg=>?_
   have w6:bT A o L0 as0 mo0 sn (N+3+3+3) c6 H6 st6 _:=⟨ch6,f6,t6⟩;obtain⟨dx6,fs6,JT,JU⟩:=w6.ob;have k0:0<=cell / 24 % 2:=ae4 _ (by decide)
   have k1:cell / 24 % 2 < 2:=aeL _ (by decide)
   obtain⟨z7,st7,e7,f7,t7,es7⟩:=Fl.SG w6.f w6.t (by omega) (a:=cell / 24 % 2) (b:=0) (by omega)
   refine hGg ?_;refine⟨_,rfl,o,dx6,fs6,rfl,JT,JU _ (by decide +kernel),_,rfl,_,_,rfl,rfl,⟨by decide,by decide⟩,_,_,rfl,rfl,(by show (0:Int) < 2;decide),bT.sH w6 (by omega) ⟨k0,by omega⟩ t10 e7 λc7 H7 s7 ch7=>?_⟩
   have w7:bT A o L0 as0 mo0 sn (N+3+3+3+3) c7 H7 st7 []:=⟨ch7,f7,t7⟩;refine⟨_,rfl,rfl,tsf (no (by omega)) ?_⟩
   exact q c7 H7 st7 12 (by omega) (λz=>absurd z c0) (λz=>by omega) (((((x4.trans s3).trans x7).trans s5).trans s6).trans s7) (w7.mono (by omega)) (by omega) (λz=>absurd z c0)
  refine⟨_,rfl,rfl,tsf (no c2) ?_⟩
  by_cases c3:cell % 6=3
  ·refine⟨_,rfl,rfl,tst (ye c3) ?_⟩;refine⟨_,rfl,o,dx,fs,rfl,hob,hfs _ (by decide +kernel),_,rfl,_,_,rfl,rfl,⟨by decide,by decide⟩,_,rfl,λws H2 hws s2=>⟨(sl 2),λt ht=>?_⟩⟩
   have x2:Step (cB 1) c (bP c H) H H2:=Step.cl av s2;have w2:=w0.free (W:=λ_=>False) (λ_=>id) (Step.cl id s2)
   refine bT.move (w2.new ht) (by omega) (d:=.pt ws) rfl hws Qf (GW w0.f (.inr (.inr rfl))) λc3 H3 st3 s3 e3 _ w3=>?_
   refine hide λGg hGg=>?_
   obtain⟨dx3,fs3,CZ,C0⟩:=w3.ob;obtain⟨st4,e4,f4,t4,es4,_⟩:=Fl.drop (ms:=[]) w3.f w3.t;refine hGg ?_;refine⟨_,rfl,o,dx3,fs3,rfl,CZ,C0 _ (by decide +kernel),bT.drop w3 (by omega) e4 λc4 H4 s4 ch4=>?_⟩
   have w4:bT A o L0 as0 mo0 sn (N+3+3) c4 H4 st4 []:=⟨ch4,f4,t4⟩;exact q c4 H4 st4 6 (by omega) (λ_=>by omega) (λz=>by omega) (((x2.trans (Step.new av ht)).trans s3).trans s4) (w4.mono (by omega)) (by omega) (λz=>absurd z c0)
  refine⟨_,rfl,rfl,tsf (no c3) ?_⟩;exact q c H st 0 (by omega) (λ_=>by omega) (λ_=>rfl) (Step.refl av) (w0.mono (by omega)) (Int.le_refl _) (λz=>absurd z c0)
end
end My
set_option maxHeartbeats 1000000
namespace My
open PySem L2
seal PySem.wpAny
theorem M6:∀(as:List (Nat×Int×List Nat)) (ws:List V),as.length=ws.length->(bc ((as.map (·.1)).zip ws)).map (·.1)=(as.map λx=>(x.1:Int)).map km:=by
 intro as
 induction as with
 |nil=>intro ws _;cases ws <;> rfl
 |cons a as ih =>
  intro ws h;cases ws with
  |nil=>cases h
  |cons w ws =>
   rw[kc,cN,kc,ih ws (by simpa using h)]
   rfl
def AsC (c:Col)(H:Hp)(x:Nat×Int×List Nat)(v:V):Prop:=∃u l,v=.ref u/\(c u=none/\H u=some (.tup [nV x.1,.int x.2.1,.ref l]))/\c l=none/\H l=some (.lst (x.2.2.map nV))
def DcC (c:Col)(H:Hp)(x:Nat×Str)(v:V):Prop:=∃t,v=.ref t/\TupAt c H t [nV x.1,.str x.2]
structure StX (c:Col)(H:Hp)(st:Ch)(ns:List Int)(u l1 R l2:Addr)(ys ds:List V):Prop where
 cu:c u=none
 hu:H u=some (.tup [.int st.aq,.bl st.closed,.ref l1,.ref R,.ref l2])
 c1:c l1=none
 h1:H l1=some (.lst (st.au.map nV))
 cR:c R=none
 hR:H R=some (.lst ys)
 asd:bS (AsC c H) (ns.map (CW st)) ys
 c2:c l2=none
 h2:H l2=some (.lst ds)
 dec:bS (DcC c H) st.decided ds
def M7 (c:Col)(H:Hp)(st:Ch)(ns:List Int)(u:Addr):Prop:=∃l1 R l2 ys ds,StX c H st ns u l1 R l2 ys ds
theorem AsC.step {W:Option (Nat×Rl)->Prop}{c c':Col}{H H':Hp}{x:Nat×Int×List Nat}{v:V}(s:Step W c c' H H'):AsC c H x v->AsC c' H' x v
 |⟨u,l,e,⟨h1,h2⟩,h3,h4⟩=>⟨u,l,e,ef s h1 h2,ef s h3 h4⟩
theorem DcC.step {W:Option (Nat×Rl)->Prop}{c c':Col}{H H':Hp}{x:Nat×Str}{v:V}(s:Step W c c' H H'):DcC c H x v->DcC c' H' x v
 |⟨t,e,h⟩=>⟨t,e,h.step s⟩
theorem StX.step {W:Option (Nat×Rl)->Prop}{c c':Col}{H H':Hp}{st:Ch}{ns:List Int}{u l1 R l2:Addr}{ys ds:List V}(s:Step W c c' H H')(h:StX c H st ns u l1 R l2 ys ds):StX c' H' st ns u l1 R l2 ys ds :=
 ⟨(ef s h.cu h.hu).1,(ef s h.cu h.hu).2,(ef s h.c1 h.h1).1,(ef s h.c1 h.h1).2,(ef s h.cR h.hR).1,(ef s h.cR h.hR).2,h.asd.imp λ_ _ z=>z.step s,(ef s h.c2 h.h2).1,(ef s h.c2 h.h2).2,h.dec.imp λ_ _ z=>z.step s⟩
theorem M7.step {W:Option (Nat×Rl)->Prop}{c c':Col}{H H':Hp}{st:Ch}{ns:List Int}{u:Addr}(s:Step W c c' H H'):M7 c H st ns u->M7 c' H' st ns u
 |⟨l1,R,l2,ys,ds,h⟩=>⟨l1,R,l2,ys,ds,h.step s⟩
theorem AsC.dv {K:ba}{c:Col}{H:Hp}{x:Nat×Int×List Nat}{v:V}:AsC c H x v->DV K H (asD x) v
 |⟨u,l,e,⟨_,h3⟩,_,h4⟩=>by
  unfold asD DV;refine⟨u,_,e,SqT.of h3,?_⟩;unfold DVs;refine⟨_,_,rfl,by unfold DV;rfl,?_⟩
  unfold DVs;refine⟨_,_,rfl,by unfold DV;rfl,?_⟩
  unfold DVs;exact⟨_,_,rfl,oX (SqL.of h4),by unfold DVs;rfl⟩
theorem DcC.dv {K:ba}{c:Col}{H:Hp}{x:Nat×Str}{v:V}:DcC c H x v->DV K H (dcD x) v
 |⟨t,e,h⟩=>by
  subst e;unfold dcD DV;refine⟨t,_,rfl,h.sq,?_⟩;unfold DVs;refine⟨_,_,rfl,by unfold DV;rfl,?_⟩
  unfold DVs;exact⟨_,_,rfl,by unfold DV;rfl,by unfold DVs;rfl⟩
theorem StX.dv {K:ba}{c:Col}{H:Hp}{st:Ch}{ns:List Int}{u l1 R l2:Addr}{ys ds:List V}(h:StX c H st ns u l1 R l2 ys ds):DV K H (stD st ns) (.ref u):=by
 unfold stD DV;refine⟨u,_,rfl,SqT.of h.hu,?_⟩;unfold DVs;refine⟨_,_,rfl,by unfold DV;rfl,?_⟩
 unfold DVs;refine⟨_,_,rfl,by unfold DV;rfl,?_⟩
 unfold DVs;refine⟨_,_,rfl,oX (SqL.of h.h1),?_⟩;unfold DVs;refine⟨_,_,rfl,?_,?_⟩
 ·unfold DV;refine⟨R,ys,rfl,SqL.of h.hR,?_⟩;rw[show (ns.map λn=>asD (CW st n))=(ns.map (CW st)).map asD by rw[List.map_map];rfl]
  exact bS.dvs (λx v h=>h.dv) h.asd
 ·unfold DVs;refine⟨_,_,rfl,?_,by unfold DVs;rfl⟩
  unfold DV;exact⟨l2,_,rfl,SqL.of h.h2,bS.dvs (λx v h=>h.dv) h.dec⟩
def zS (A:Adr)(i:Nat):Sp:=λvs H Q _=>∃(o:Addr) (c:Col) (st:Ch),vs=[.ref o]/\d9 A i c H o st/\st.aI.length < 64 /\
 ∀(ns:List Int) (u:Addr) (H':Hp),afc ns (st.aI.map λx=>(x.1:Int))->ns.Pairwise (·<=·)->bJ H H'->M7 (bP c H) H' st ns u->Q (.ref u) H'
def AsN (H0 H:Hp)(R:Addr)(x:Nat×Int×List Nat)(v:V):Prop:=∃u l,v=.ref u/\(u≠R/\l≠R)/\(H0 u=none/\H0 l=none)/\H u=some (.tup [nV x.1,.int x.2.1,.ref l])/\H l=some (.lst (x.2.2.map nV))
theorem AsN.same {H0 H H':Hp}{R:Addr}{x:Nat×Int×List Nat}{v:V}(s:bJ H H'):AsN H0 H R x v->AsN H0 H' R x v
 |⟨u,l,e,h1,h2,h3,h4⟩=>⟨u,l,e,h1,h2,s _ _ h3,s _ _ h4⟩
theorem AsN.upd {H0 H:Hp}{R:Addr}{o:HO}{x:Nat×Int×List Nat}{v:V}:AsN H0 H R x v->AsN H0 (L2.upd H R o) R x v
 |⟨u,l,e,h1,h2,h3,h4⟩=>⟨u,l,e,h1,h2,(aw h1.1).trans h3,(aw h1.2).trans h4⟩
section
variable{P:ku}{w:World}{K:ba}{mg:Str->Option Value}{base:Heap}{A:Adr}
theorem Bz (T:Txt w.params K mg A){i:Nat}:ay P w K mg base CX0 2 A.bO A.eI ["self"] (zS A i):=by
 have qL:ay P w K mg base CX0 1 A.br A.dG ["self","number"] (Xy A i):=Au T;refine T.fw.ok uS (λvs H Q E h=>?_) (λcdv A' outer s H vs Q E hr h=>?_)
 ·obtain⟨o,c,st,rfl,_⟩:=h;rfl
 ·obtain⟨o,c,st,rfl,hc,hal,q⟩:=h;obtain⟨dx,aM,aP,aA,aD,aF,aE,aR,ms,ds,ws,fs,es,X⟩:=hc.ex;have pO:Room 1 _:=hr;have lim:gp=16777216:=by decide
  refine⟨_,(ai (yC (i:=1) (scope:=kF) r8 rfl rfl (aec rfl) (mr (nr (B6 hr.hd) (by rfl) T.DB JH (aa (aZ (pv 0) rfl) ah))) (λ_ _ _ _ _=>(bQ (pv 1) T.ag T.jU qL pO T.d6 .nil aV (aa (pv 0) ah))))
 (aj (aL (bH (aa (aZ (pv 0) rfl) (aa (aZ (pv 0) rfl) (aa (gC eY (by rfl) T.qo ot (aa (aZ (pv 0) rfl) ah)) (aa (pv 1) (aa (gC eY (by rfl) T.qo ot (aa (aZ (pv 0) rfl) ah)) ah))))))))),?_⟩
  refine eT rfl X.ob T.ag T.jq3 js ⟨aA,_,_,rfl,X.aI.2,M6 st.aI ws X.wait.len,by rw[cb];exact hal,λl0 ns pm so hl0=>?_⟩
  have nl:ns.length=st.aI.length:=by rw[pm.length_eq,cb]
  have s0:=aK (o:=.lst (ns.map V.int)) hl0;have hB:SqL K (upd H l0 (.lst (ns.map V.int))) l0 (ns.map V.int):=SqL.of ae;generalize upd H l0 (.lst (ns.map V.int))=H1 at s0 hB ⊢;refine⟨l0,rfl,⟨_,hB⟩,λR hR=>?_⟩
  have hR0:=same_none s0 hR;refine rb (K:=K) (a:=l0) (xs:=ns.map V.int) (λj ys H2=>bJ H1 H2/\H2 R=some (.lst ys)/\bS (AsN H H2 R) ((ns.take j).map (CW st)) ys) ⟨aK hR,ae,.nil⟩ (by rw[cb];omega) ?_ ?_ ?_
  ·rintro j ys H2 hj ⟨s2,hR2,ha⟩;refine⟨s2.seq hB,hR2,?_⟩;rw[<-ha.len,cb,aeu];rw[cb]at hj;omega
  ·rintro j y ys H2 hy ⟨s2,hR2,ha⟩;refine hide λGg hGg=>?_
   obtain⟨n,hn1,rfl⟩:∃n,ns[j]?=some n/\V.int n=y:=by
    rw[aeD]at hy;cases ht:ns[j]? with
    |none=>rw[ht]at hy;cases hy
    |some t=>rw[ht]at hy;exact⟨t,rfl,ad8 hy⟩
   have Sq:n∈st.aI.map λx=>(x.1:Int):=pm.mem_iff.mp (aei hn1)
   obtain⟨x0,hx0,e0⟩:=List.mem_map.mp Sq;obtain⟨x,hx⟩:∃x,at1 x0.1 st.aI=some x:=by
    cases z:at1 x0.1 st.aI with
    |some x=>exact⟨x,rfl⟩
    |none=>exact absurd (List.mem_map_of_mem hx0) (zC z)
   have e0':((x0.1:Nat):Int)=n:=e0;subst e0';have s02:=s0.trans s2;have X2:=X.same s02;have ea:CW st ((x0.1:Nat):Int)=x:=by unfold CW;rw[aeP,hx];rfl
   refine hGg ?_;refine mtv rfl X2.ob (dJ (by decide +kernel)) ⟨_,rfl,o,x0.1,c,st,x,rfl,X2.at,hx,λl u H3 hl hu s3 h1 h2=>?_⟩
   have hR3:=s3 _ _ hR2;refine gg.mk (List.getElem?_eq_some_iff.mp hy).1 hR3 ⟨(s2.trans s3).own hR,ae,?_⟩;rw[List.take_succ,hn1,ky];refine bS.snoc (ha.imp λ_ _ z=>(z.same s3).upd) ?_
   rw[ea];refine AsN.upd ⟨u,l,rfl,⟨(λz=>by rw[z,hR2]at hu;cases hu),(λz=>by rw[z,hR2]at hl;cases hl)⟩,⟨same_none s02 hu,same_none s02 hl⟩,?_,h1⟩
   rw[(mH hx).1];exact h2
  ·rintro ys H2 ⟨s2,hR2,ha⟩;rw[cb,afh]at ha;have s02:=s0.trans s2;have X2:=X.same s02;refine eT rfl X2.ob T.ag T.jq1 iE (eT rfl X2.ob T.ag T.jq4 oS (eT rfl X2.ob T.ag T.jq0 eP ⟨aP,_,rfl,.inl (SqL.of X2.au.2),λl1 hl1=>?_⟩))
   have s3:=aK (o:=.lst (st.au.map nV)) hl1;have X3:=X2.same s3;have s03:=s02.trans s3;refine⟨_,rfl,eT rfl X3.ob T.ag T.jqc vZ ⟨aD,_,rfl,.inl (SqL.of X3.dec.2),λl2 hl2=>⟨(sl 5),λu hu=>?_⟩⟩⟩
   have s4:=aK (o:=.lst (ds.map V.ref)) hl2;have s5:=aK (o:=.tup [V.int st.aq,.bl st.closed,.ref l1,.ref R,.ref l2]) hu;have s45:=s4.trans s5;have s05:=s03.trans s45;have X5:=X3.same s45;refine q ns u _ pm so s05 ⟨l1,R,l2,ys,ds.map V.ref,dI (same_none (s03.trans s4) hu),ae,dI (same_none s02 hl1),s45 _ _ ae,dI hR0,(s3.trans s45) _ _ hR2,?_,dI (same_none s03 hl2),s5 _ _ ae,?_⟩
   ·refine ha.imp λx v z=>?_
    refine hide λGg hGg=>?_
    obtain⟨u',l',e,_,⟨z1,z2⟩,z3,z4⟩:=z.same (s3.trans s45);refine hGg ?_;exact⟨u',l',e,⟨dI z1,z3⟩,dI z2,z4⟩
   ·refine bS.mapR (X5.wL.imp λx t h=>⟨t,rfl,?_,h.2⟩)
    unfold bP;split
    ·exact h.1
    ·rfl
end
theorem wg {K:ba}{H:Hp}{p:Addr}{z:Str}{n:Int}(h:SqT K H p [.str z,.int n]):DV K H (.tuple [.str z,.int n]) (.ref p):=by
 unfold DV;refine⟨p,_,rfl,h,?_⟩;unfold DVs;refine⟨_,_,rfl,by unfold DV;rfl,?_⟩
 unfold DVs;exact⟨_,_,rfl,by unfold DV;rfl,by unfold DVs;rfl⟩
theorem kB {z:Str}(h:aef z=true)(n:Int):rf (.tuple [.str z,.int n])=true/\ae5 (.tuple [.str z,.int n])=true:=by
 have h1:rf (.tuple [.str z,.int n])=true:=by simp only[rf,ra,h,aew]
 exact⟨h1,vx h1 (by simp only[aet,aed];omega)⟩
def Jk (A:Adr):Sp:=λvs H Q _=>∃(o:Addr) (n:Nat) (u cell:Int) (pl:List Nat) (L0:Nat) (mo0:Nat->Mn) (s:Int) (N:Nat) (c:Col) (st:Ch),vs=[.ref o,nV n,.int u,.int cell]/\bT A o L0 [(n,u,pl)] mo0 s N c H st []/\N+6<=800/\n < 10 ^ 10 /\
 ∀c' H' st',Step (cB 1) c c' H H'->bT A o L0 [(n,u,pl)] mo0 s (N+6) c' H' st' []->st'.aq=st.aq->Q (.bl true) H'
theorem M8 {N:Nat}{s:Int}{st:Ch}{m:Mn}(f:Fl N s st [m])(n:Nat):stepT st n=(.exc (.qB (m.k:Int)),st):=by
 unfold stepT;rw[if_neg (λz=>by have h:=f.shape;rw[z]at h;cases h),f.shape,f.cl]
 rfl
theorem nZ {N:Nat}{s:Int}{st:Ch}(f:Fl N s st []):st.au=[]:=List.map_eq_nil_iff.mp f.shape
theorem C1 (n:Nat)(u:Int)(pl:List Nat):at1 n [(n,u,pl)]=some (n,u,pl):=by
 unfold at1;rw[aeU,decide_eq_true rfl]
theorem M9 {N:Nat}{s:Int}{st:Ch}(f:Fl N s st []){n:Nat}{u:Int}{pl:List Nat}(ha:st.aI=[(n,u,pl)])(h:st.aq < u):stepT st n=(.exc (.vk u),st):=by
 unfold stepT;rw[if_pos (nZ f),ha,C1];dsimp only;rw[if_pos h]
section
variable{P:ku}{w:World}{K:ba}{mg:Str->Option Value}{base:Heap}{A:Adr}
theorem GY (T:Txt w.params K mg A):ay P w K mg base CX0 9 A.yg A.oG ["_law_chamber","_law_number","_law_until","_law_cell"] (Jk A):=by
 have rJ:ay P w K mg base CX0 8 A.rm A.jg ["_law_chamber","_law_number"] (yo A):=zR T;have gy:ay P w K mg base (CXX P w) 6 A.bN A.dS ["self"] (zH A 1):=CT T;have bu:ay P w K mg base (CXX P w) 7 A.bD A.dc ["self","told"] (vv A 1):=yn T;have cJ:ay P w K mg base CX0 2 A.bO A.eI ["self"] (zS A 1):=Bz T;refine T.vb.ok oy (λvs H Q E h=>?_) (λcdv A' outer s H vs Q E hr h=>?_)
 ·obtain⟨o,n,u,cell,pl,L0,mo0,s,N,c,st,rfl,_⟩:=h;rfl
 ·obtain⟨o,n,u,cell,pl,L0,mo0,sn,N,c,st,rfl,w0,hN,hn,q⟩:=h;have oY:Room 8 _:=hr;have fB:Room 6 _:=hr.mono (by decide)
  have bj:Room 7 _:=hr.mono (by decide)
  have cq:Room 2 _:=hr.mono (by decide)
  have wF:=hr.units;refine⟨_,(ai (bh (i:=4) oy.nd rfl (aec rfl) (bH (aa az (aa (pv 2) ah))))
 (ai (bI (aJ bY (bA dn (pv 3) ak) ak (aS _))
 (ai (a6 (bQ (pv 0) T.ag T.bF bu bj T.bt .nil cY (aa (bH (aa az ah)) ah)))
 (aj (bh (i:=4) oy.nd rfl (aec rfl) (bH (aa az (aa ak ah))))))
 (aj (bI (aJ PH (bp bf (cw (pv 0) T.ag T.cG cJ cq T.bX .nil aV) ak (λ_ _=>rfl)) (pv 2) (aS _))
 (aj (aL pY))
 aQ)))
 (ai (bh (i:=5) oy.nd rfl (aec rfl) (bb rJ oY rfl T.rz T.nM.kp T.rq .nil aV (aa (pv 0) (aa (pv 1) ah))))
 (ai (bI (aJ bY (bA dn (pv 3) ak) ak (aS _))
 (aj (a6 (cw (pv 0) T.ag T.iO gy fB T.eJ .nil cY)))
 aQ)
 (aj (aL (oo (K9 wF) (pv 5) (pv 4) (aS _)))))))),?_⟩
  have no:∀ {a b:Int},a≠b->decide (V.int a=V.int b)=false:=λh=>decide_eq_false λz=>h (by cases z;rfl)
  have ye:∀ {a b:Int},a=b->decide (V.int a=V.int b)=true:=λh=>decide_eq_true (by rw[h])
  refine⟨_,rfl,(sl 2),λd hd=>?_⟩
  have w1:=w0.new (u:=.tup [.str (ar "yet"),.int u]) hd;have x1:Step (cB 1) c (aH c d none) H (upd H d (.tup [.str (ar "yet"),.int u])):=Step.new av hd;have d1:(aH c d none) d=none/\upd H d (.tup [.str (ar "yet"),.int u]) d=some (.tup [.str (ar "yet"),.int u]):=⟨a7,ae⟩;generalize upd H d (.tup [.str (ar "yet"),.int u])=H1 at w1 x1 d1 ⊢;generalize aH c d none=c1 at w1 x1 d1;refine hide λGg hGg=>?_
  obtain⟨dx,fs,hob,hfs⟩:=w1.ob;refine hGg ?_;dsimp only[df];refine⟨_,rfl,_,_,rfl,rfl,(by show (0:Int) < 6;decide),rfl,_,rfl,?_⟩
  by_cases c5:cell % 6=5
  ·refine AO (ye c5) ?_;refine⟨_,rfl,o,dx,fs,rfl,hob,hfs _ (by decide +kernel),(sl 1),λt ht=>?_⟩
   refine bT.move (w1.new ht) (by omega) vA vB uq (GW w0.f (.inr (.inl rfl))) λc2 H2 st2 s2 e2 _ w2=>?_
   have x2:=x1.trans ((Step.new (x:=none) (o:=.tup [.str (ar "rest")]) av ht).trans s2);refine⟨(sl 2),λd2 hd2=>?_⟩
   have w3:=w2.new (u:=.tup [.str (ar "bar"),.int 6]) hd2;have x3:Step (cB 1) c2 (aH c2 d2 none) H2 (upd H2 d2 (.tup [.str (ar "bar"),.int 6])):=Step.new av hd2;have hd3:(aH c2 d2 none) d2=none/\upd H2 d2 (.tup [.str (ar "bar"),.int 6]) d2=some (.tup [.str (ar "bar"),.int 6]):=⟨a7,ae⟩;generalize upd H2 d2 (.tup [.str (ar "bar"),.int 6])=H3 at w3 x3 hd3 ⊢;generalize aH c2 d2 none=c3 at w3 x3 hd3;have e3:=M8 w3.f n;dsimp only[df];refine⟨_,rfl,_,rfl,o,n,c3,st2,N+3,rfl,w3.ch,w3.f.inv,by omega,by omega,by omega,λc4 H4 u4 s4 ch4 cu4 hu4=>?_⟩
   refine hide λGg hGg=>?_
   rw[aeP,e3]at ch4 hu4;have w4:bT A o L0 [(n,u,pl)] mo0 sn (N+3) c4 H4 st2 [.rst]:=⟨ch4,w3.f,w3.t⟩;have hd4:=ef s4 hd3.1 hd3.2;obtain⟨dx4,fs4,abZ,ab0⟩:=w4.ob;obtain⟨st5,e5,f5,t5,es5,_⟩:=Fl.drop (ms:=[]) w4.f w4.t;refine hGg ?_;dsimp only[df];refine⟨_,rfl,_,_,rfl,rfl,(by show (0:Int) < 6;decide),rfl,tst (ye c5) ?_⟩
   refine⟨_,rfl,o,dx4,fs4,rfl,abZ,ab0 _ (by decide +kernel),bT.drop w4 (by omega) e5 λc6 H6 s6 ch6=>?_⟩
   have hd6:=ef s6 hd4.1 hd4.2;have hu6:=ef s6 cu4 hu4;refine⟨_,rfl,_,rfl,.tuple [.str (ar "bar"),.int 6],.tuple [.str (ar "bar"),.int 6],wg (SqT.of hu6.2),wg (SqT.of hd6.2),(kB (by decide +kernel) 6).2,(kB (by decide +kernel) 6).2,?_⟩
   rw[eqv_refl _ (kB (by decide +kernel) 6).1]
   exact q c6 H6 st5 (((x2.trans x3).trans s4).trans s6) ⟨ch6,f5,t5⟩ (by omega)
  ·refine Dj (no c5) ?_;refine hide λGg hGg=>?_
   obtain⟨dx1,aM1,aP1,aA1,aD1,aF1,aE1,aR1,ms1,ds1,ws1,fs1,es1,X1⟩:=w1.ch.ex;refine hGg ?_;refine⟨_,rfl,o,dx,fs,rfl,hob,hfs _ (by decide +kernel),o,c1,st,rfl,w1.ch,by rw[w1.t.al];show 1 < 64;decide,λns2 u2 H2 pm2 so2 s2 at2=>?_⟩
   refine hide λGg hGg=>?_
   obtain⟨l1,R,l2,ys,ds,S⟩:=at2;have x2:Step (cB 1) c1 (bP c1 H1) H1 H2:=Step.cl av s2;have w2:=w1.free (W:=λ_=>False) (λ_=>id) (Step.cl id s2)
   have hd2:=ef x2 d1.1 d1.2;refine hGg ?_;refine⟨u2,_,_,_,rfl,rfl,SqT.of S.hu,rfl,_,rfl,_,_,rfl,rfl,_,rfl,nv (λ_=>?_) (λz=>?_)⟩
   ·exact q _ H2 st (x1.trans x2) (w2.mono (by omega)) rfl
   ·have hlt:st.aq < u:=by
     have z':¬(u<=st.aq):=λy=>z (decide_eq_true y)
     omega
    have e3:=M9 w2.f w2.t.al hlt;refine⟨_,rfl,_,rfl,o,n,_,st,N,rfl,w2.ch,w2.f.inv,by omega,by omega,by omega,λc4 H4 u4 s4 ch4 cu4 hu4=>?_⟩
    rw[aeP,e3]at ch4 hu4;have w4:bT A o L0 [(n,u,pl)] mo0 sn N c4 H4 st []:=⟨ch4,w2.f,w2.t⟩;have hd4:=ef s4 hd2.1 hd2.2;dsimp only[df];refine⟨_,rfl,_,_,rfl,rfl,(by show (0:Int) < 6;decide),rfl,tsf (no c5) ?_⟩
    refine⟨_,rfl,_,rfl,.tuple [.str (ar "yet"),.int u],.tuple [.str (ar "yet"),.int u],wg (SqT.of hu4),wg (SqT.of hd4.2),(kB (by decide +kernel) u).2,(kB (by decide +kernel) u).2,?_⟩
    rw[eqv_refl _ (kB (by decide +kernel) u).1]
    exact q c4 H4 st ((x1.trans x2).trans s4) (w4.mono (by omega)) rfl
end
end My
set_option maxHeartbeats 1000000
namespace My
open PySem L2
seal PySem.wpAny
def Bg (ms:List Mn):Prop:=∃tx r,ms=.mat tx::r/\∀b∈ms,b.k < 3
def Jl (A:Adr)(K:ba):Sp:=λvs H Q _=>∃(o a:Addr) (ns:List Int) (s:Int) (c:Col) (mo0:Nat->Mn),vs=[.ref o,.ref a]/\Ro K c H a (ns.map V.int)/\bT A o 0 [] mo0 s 0 c H (Jh s) []/\1<=s /\
 ∀c' H' st' n r ms,Step (cB 1) c c' H H'->bT A o 0 [] mo0 s 15 c' H' st' ms->st'.aq=1->st'.au=n::r->Bg ms->Q (nV n) H'
theorem XC:kf R.bl1 []=ar "":=by rfl
theorem XD (x:Str):kf R.bl1 [x]=x:=by rfl
theorem ws0:R.wG 12 []:=⟨by decide,λ_ h=>nomatch h⟩
section
variable{P:ku}{w:World}{K:ba}{mg:Str->Option Value}{base:Heap}{A:Adr}
set_option maxHeartbeats 4000000 in
theorem GZ (T:Txt w.params K mg A):ay P w K mg base CX0 8 A.yd A.oE ["_law_chamber","_law_script"] (Jl A K):=by
 have gz:ay P w K mg base CX0 1 A.nJ A.iM ["_law_script","_law_k"] (GU K):=uk T;have jw:ay P w K mg base CX0 2 A.qg A.jS ["_law_cell"] sL:=we T;have zO:ay P w K mg base CX0 1 A.yY A.nK ["_law_cell"] zN:=Bx T;have cU:ay P w K mg base (CXX P w) 6 A.bM A.dR ["self","ayes","noes"] (zG A 1):=CS T;have bu:ay P w K mg base (CXX P w) 7 A.bD A.dc ["self","told"] (vv A 1):=yn T;refine T.uY.ok lG (λvs H Q E h=>?_) (λcdv A' outer s H vs Q E hr h=>?_)
 ·obtain⟨o,a,ns,s,c,mo0,rfl,_⟩:=h;rfl
 ·obtain⟨o,a,ns,sn,c,mo0,rfl,ro,w0,s1,q⟩:=h;have fm:Room 1 _:=hr.mono (by decide)
  have iF:Room 2 _:=hr.mono (by decide)
  have vw:Room 1 _:=hr.mono (by decide)
  have cI:Room 6 _:=hr.mono (by decide)
  have bj:Room 7 _:=hr;have sz:gp=16777216:=by decide
  refine⟨_,(ai (bh (i:=2) lG.nd rfl (aec rfl) (bb gz fm rfl T.gk T.eW.kp T.gj .nil aV (aa (pv 1) (aa ak ah))))
 (ai (bI (aJ bY (bA dn (pv 2) ak) ak (aS _))
 (ai (a6 (bQ (pv 0) T.ag T.bF bu bj T.bt .nil cY (aa (bH (aa az (aa az ah))) ah)))
 (aj (a6 (bQ (pv 0) T.ag T.dD cU cI T.cy .nil cY (aa ak (aa ak ah))))))
 aQ)
 (ai (bh (i:=3) lG.nd rfl (aec rfl) (bQ (pv 0) T.ag T.bF bu bj T.bt .nil cY (aa (bH (aa az (aa (tH (scope:=rP) Cg rfl (uK rfl T.yh (aa (bA j7 ak (bA dn (bA dU (pv 2) ak) ak)) ah)) (λ_ _ _ _ _=>(bb jw iF rfl T.jn T.ic.kp T.jm .nil aV (aa (bb gz fm rfl T.gk T.eW.kp T.gj .nil aV (aa (pv 2) (aa (bA j7 ak (pv 0)) ah))) ah)))) ah))) ah)))
 (ai (bI (aJ Iv (bA dn (bA dU (pv 2) ak) ak) ak (aS _))
 (ai (bh (i:=4) lG.nd rfl (aec rfl) (bb jw iF rfl T.jn T.ic.kp T.jm .nil aV (aa (bb gz fm rfl T.gk T.eW.kp T.gj .nil aV (aa (pv 1) (aa ak ah))) ah)))
 (ai (bh (i:=5) lG.nd rfl (aec rfl) (bp iH (gQ (aa (bH (aa az (aa ak (aa (pv 4) ah)))) (aa (bH (aa az (aa (bA dn (bA dU (pv 2) ak) (bA j7 ak (bA dn (bA dU (pv 2) ak) ak))) (aa (pv 4) ah)))) ah))) (bA dn (bA dU (pv 2) ak) ak) (λ_ _=>rfl)))
 (ai (a6 (bQ (pv 0) T.ag T.bF bu bj T.bt .nil cY (aa (bH (aa az (aa (pv 5) ah))) ah)))
 (aj (bI (aJ bY (bA dn (bA dU (pv 2) ak) ak) ak (aS _))
 (aj (a6 (bQ (pv 0) T.ag T.bF bu bj T.bt .nil cY (aa (bH (aa az (aa (bH (aa az (aa ak (aa (bb zO vw rfl T.y4 T.tS.kp T.y3 .nil aV (aa (bb gz fm rfl T.gk T.eW.kp T.gj .nil aV (aa (pv 1) (aa ak ah))) ah)) ah)))) ah))) ah))))
 aQ)))))
 aQ)
 (aj (aL (pv 3))))))),?_⟩
  have no:∀ {a b:Int},a≠b->decide (V.int a=V.int b)=false:=λh=>decide_eq_false λz=>h (by cases z;rfl)
  have ye:∀ {a b:Int},a=b->decide (V.int a=V.int b)=true:=λh=>decide_eq_true (by rw[h])
  have t00:(0:Int)<=0/\(0:Int) < 10 ^ 10:=⟨by decide,by decide⟩
  refine⟨_,rfl,a,ns,1,rfl,ro.sq,by decide,λsh=>?_⟩
  dsimp only[df];refine oV (λσ' H'=>σ'=[some (.ref o),some (.ref a),some (.int sh),none,none,none]/\∃c' st',Step (cB 1) c c' H H'/\bT A o 0 [] mo0 sn 6 c' H' st' []/\st'.aq=1) ?r1 (λN1 n1=>?f1)
  case f1 =>
   refine⟨_,rfl,_,_,rfl,rfl,(by show (0:Int) < 2;decide),rfl,_,rfl,?_⟩
   by_cases h1:sh % 2=1
   ·obtain⟨dx,fs,hob,hfs⟩:=w0.ob;refine AO (ye h1) ⟨_,rfl,o,dx,fs,rfl,hob,hfs _ (by decide +kernel),(sl 2),λt ht=>?_⟩
    refine bT.move (w0.new ht) (by omega) (d:=.pt []) rfl ws0 (by rw[<-XC];exact Qf) (GW w0.f (.inr (.inr rfl))) λc2 H2 st2 s2 e2 _ w2=>?_
    refine hide λGg hGg=>?_
    obtain⟨dx2,fs2,M4,M5⟩:=w2.ob;obtain⟨st3,e3,f3,t3,es3⟩:=Fl.XA (ms:=[]) w2.f w2.t (by omega) (a:=0) (b:=0) (by omega) (by decide)
    refine hGg ?_;refine⟨_,rfl,o,dx2,fs2,rfl,M4,M5 _ (by decide +kernel),bT.sH w2 (by omega) t00 t00 e3 λc3 H3 s3 ch3=>n1 _ _ ⟨rfl,c3,st3,((Step.new av ht).trans s2).trans s3,⟨ch3,f3,t3⟩,?_⟩⟩
    rw[es3,e2];rfl
   ·exact Dj (no h1) (n1 _ _ ⟨rfl,c,_,Step.refl av,w0.mono (by omega),rfl⟩)
  case r1 =>
   rintro σ1 H1 ⟨rfl,c1,st1,x1,w1,ab1⟩;refine hide λGg hGg=>?_
   have ro1:=ro.step x1;obtain⟨dx,fs,hob,hfs⟩:=w1.ob;have a0:0<=sh / 2 % 3:=ae4 _ (by decide)
   have a1:sh / 2 % 3 < 3:=aeL _ (by decide)
   refine hGg ?_;refine⟨_,rfl,o,dx,fs,rfl,hob,hfs _ (by decide +kernel),_,rfl,_,_,rfl,rfl,⟨by decide,by decide⟩,_,_,rfl,rfl,(by show (0:Int) < 3;decide),_,_,rfl,rfl,_,rfl,by omega,by omega,λD hD=>?_⟩
   dsimp only;generalize hm:(1+sh / 2 % 3).toNat=mm;have m3:1<=mm/\mm<=3/\(mm:Int)=1+sh / 2 % 3:=by omega
   refine Gi (lo:=0) (n:=mm) (λi ys H3=>∃cs:List (List Str),ys=(cs.map (kf R.bl1)).map V.str/\cs.length=i/\(∀x∈cs,R.wG 12 x)/\bJ H1 H3/\H3 D=some (.lst ys))
    ⟨[],rfl,rfl,(λx hx=>nomatch hx),aK hD,ae⟩ (by omega) ?_ ?_ ?_
   ·rintro i ys H3 hi ⟨cs,rfl,hl,hg,s3,h3⟩;exact⟨h3,by rw[cb,cb];exact hl⟩
   ·rintro i ys H3 hi ⟨cs,rfl,hl,hg,s3,h3⟩;refine⟨_,rfl,_,rfl,_,_,rfl,rfl,a,ns,_,rfl,s3.seq ro1.sq,by omega,λce=>⟨ce,rfl,λus H4 hus s4=>?_⟩⟩
    refine gg.mk hi (s4 _ _ h3) ⟨cs++[us],by simp,by simp[hl],λe he=>?_,(s3.trans s4).own hD,ae⟩
    rcases List.mem_append.mp he with he | he
    ·exact hg e he
    ·rw[List.mem_singleton.mp he];exact hus
   ·rintro ys H3 ⟨cs,rfl,hl,hg,s3,h3⟩;refine⟨(sl 2),λt ht=>?_⟩
    have x3:Step (cB 1) c1 (bP c1 H1) H1 H3:=Step.cl av s3;have w3:=w1.free (W:=λ_=>False) (λ_=>id) (Step.cl id s3)
    have ro3:=ro1.step x3;have hl3:(cs.map (kf R.bl1)).length=mm:=by rw[cb];exact hl
    refine bT.move (w3.new ht) (by omega) (d:=.mat cs) (m:=.mat (cs.map (kf R.bl1))) rfl ⟨by omega,hg⟩ (M0 h3 (by rw[dI hD];exact av) ht) (GW w1.f (.inl rfl)) λc4 H4 st4 s4 e4 p4 w4=>?_
    have x4:=x1.trans (x3.trans ((Step.new (x:=none) (o:=.tup [.str (ar "matter"),.ref D]) av ht).trans s4));have ro4:=ro3.step ((Step.new (x:=none) (o:=.tup [.str (ar "matter"),.ref D]) av ht).trans s4);have p4':st4.au=[st1.made.length+1]:=by rw[p4,nZ w1.f];rfl
    have es4:st4.aq=1:=e4.trans ab1;have w4:bT A o 0 [] mo0 sn (6+3) c4 H4 st4 [.mat (cs.map (kf R.bl1))]:=w4;generalize cs.map (kf R.bl1)=tx at w4 hl3;dsimp only[df];refine oV (λσ' H'=>(∃v4 v5,σ'=[some (.ref o),some (.ref a),some (.int sh),some (nV (st1.made.length+1)),v4,v5])/\∃c' st' r ms,Step (cB 1) c c' H H'/\bT A o 0 [] mo0 sn 15 c' H' st' ms/\st'.aq=1/\st'.au=(st1.made.length+1)::r/\Bg ms) ?r2 (λN1 n1=>?f2)
    case r2 =>
     rintro σ5 H5 ⟨⟨v4,v5,rfl⟩,c5,st5,r5,ms5,x5,w5,es5,p5,bg⟩;exact⟨_,rfl,q c5 H5 st5 _ r5 ms5 x5 w5 es5 p5 bg⟩
    case f2 =>
     have b0:0<=sh / 6 % 3:=ae4 _ (by decide)
     have b1:sh / 6 % 3 < 3:=aeL _ (by decide)
     refine⟨_,rfl,_,_,rfl,rfl,⟨by decide,by decide⟩,_,_,rfl,rfl,(by show (0:Int) < 3;decide),_,_,rfl,rfl,_,rfl,nv (λg=>?_) (λ_=>?_)⟩
     ·have g':0 < sh / 6 % 3:=of_decide_eq_true g;refine⟨_,rfl,a,ns,5,rfl,ro4.sq,by decide,λce=>⟨ce,rfl,λus H5 hus s5=>?_⟩⟩
      have x5:Step (cB 1) c4 (bP c4 H4) H4 H5:=Step.cl av s5;have w5:=w4.free (W:=λ_=>False) (λ_=>id) (Step.cl id s5)
      have ro5:=ro4.step x5;dsimp only[df];refine⟨_,rfl,(sl 3),λe1 he1=>?_⟩
      have d0:0 < 1+sh / 2 % 3:=by omega
      refine⟨_,rfl,_,_,rfl,rfl,⟨by decide,by decide⟩,_,rfl,_,_,rfl,rfl,⟨by decide,by decide⟩,_,_,rfl,rfl,(by show (0:Int) < 3;decide),_,_,rfl,rfl,_,_,rfl,rfl,d0,?_⟩
      have j0:0<=sh / 36 % (1+sh / 2 % 3):=ae4 _ (by omega)
      have j1:sh / 36 % (1+sh / 2 % 3) < 1+sh / 2 % 3:=aeL _ (by omega)
      refine⟨_,rfl,(sl 3),λe2 he2=>⟨(sl 2),λl hl'=>?_⟩⟩
      refine hide λGg hGg=>?_
      have u1:=aK (o:=.tup [.str (ar "put"),.int 0,.str (kf R.bl1 us)]) he1;have u2:=aK (o:=.tup [.str (ar "turn"),.int (sh / 36 % (1+sh / 2 % 3)),.str (kf R.bl1 us)]) he2;have u3:=aK (o:=.lst [.ref e1,.ref e2]) hl';have k0:0<=sh / 18 % 2:=ae4 _ (by decide)
      have k1:sh / 18 % 2 < 2:=aeL _ (by decide)
      obtain⟨e,k,j,hat,hke,hj0,hj1,hne,hee,ab2⟩:∃(e:Addr) (k:Nat) (j:Int),atI [V.ref e1,V.ref e2] (sh / 18 % 2)=some (.ref e)/\(k=0\/k=2)/\0<=j/\j<=3/\H5 e=none/\(upd (upd (upd H5 e1 (.tup [.str (ar "put"),.int 0,.str (kf R.bl1 us)])) e2 (.tup [.str (ar "turn"),.int (sh / 36 % (1+sh / 2 % 3)),.str (kf R.bl1 us)])) l (.lst [.ref e1,.ref e2])) e=some (.tup (R.edR k j (kf R.bl1 us)))/\et tx.length ⟨k,j,kf R.bl1 us⟩=true:=by
       by_cases hz:sh / 18 % 2=0
       ·exact⟨e1,0,0,by rw[hz];rfl,.inl rfl,by omega,by omega,he1,u3 _ _ (u2 _ _ ae),DY _ _⟩
       ·have ho:sh / 18 % 2=1:=by omega
        refine⟨e2,2,sh / 36 % (1+sh / 2 % 3),by rw[ho];rfl,.inr rfl,j0,by omega,same_none u1 he2,u3 _ _ ae,?_⟩
        unfold et;show (decide (0<=sh / 36 % (1+sh / 2 % 3)) && decide (sh / 36 % (1+sh / 2 % 3) < (tx.length:Int)+0))=true;rw[decide_eq_true j0,decide_eq_true (by rw[hl3];omega)]
        rfl
      have s6:=(u1.trans u2).trans u3;have hl6:(upd (upd (upd H5 e1 (.tup [.str (ar "put"),.int 0,.str (kf R.bl1 us)])) e2 (.tup [.str (ar "turn"),.int (sh / 36 % (1+sh / 2 % 3)),.str (kf R.bl1 us)])) l (.lst [.ref e1,.ref e2])) l=some (.lst [.ref e1,.ref e2]):=ae;refine hGg ?_;generalize upd (upd (upd H5 e1 (.tup [.str (ar "put"),.int 0,.str (kf R.bl1 us)])) e2 (.tup [.str (ar "turn"),.int (sh / 36 % (1+sh / 2 % 3)),.str (kf R.bl1 us)])) l (.lst [.ref e1,.ref e2])=H6 at hee s6 hl6 ⊢;refine⟨_,rfl,_,_,rfl,rfl,⟨by decide,by decide⟩,_,_,rfl,rfl,(by show (0:Int) < 2;decide),l,_,_,_,rfl,rfl,SqL.of hl6,hat,?_⟩
      have x6:Step (cB 1) (bP c4 H4) (bP (bP c4 H4) H5) H5 H6:=Step.cl av s6;have w6:=w5.free (W:=λ_=>False) (λ_=>id) (Step.cl id s6)
      have ro6:=ro5.step x6;have ce6:bP (bP c4 H4) H5 e=none:=dI hne;generalize bP (bP c4 H4) H5=c6 at x6 w6 ro6 ce6;refine hide λGg hGg=>?_
      obtain⟨dx6,fs6,JT,JU⟩:=w6.ob;refine hGg ?_;dsimp only[df];refine⟨_,rfl,o,dx6,fs6,rfl,JT,JU _ (by decide +kernel),_,rfl,(sl 2),λt2 ht2=>?_⟩
      refine bT.move (w6.new ht2) (by omega) (d:=.ed false k j us) (m:=.chg ⟨k,j,kf R.bl1 us⟩) rfl ⟨by rcases hke with z | z <;> omega,⟨by omega,by omega⟩,hus,λz=>nomatch z⟩ (M3 hee ce6 ht2) (XB w6.f ab2) λc7 H7 st7 s7 es7 p7 w7=>?_
      have y7:=(Step.new (x:=none) (o:=.tup [.str (ar "change"),.ref e]) av ht2).trans s7;have x7:=x4.trans (x5.trans (x6.trans y7));have ro7:=ro6.step y7;have w7:bT A o 0 [] mo0 sn (6+3+3) c7 H7 st7 [.mat tx,.chg ⟨k,j,kf R.bl1 us⟩]:=w7;have p7':st7.au=[st1.made.length+1,st4.made.length+1]:=by rw[p7,p4'];rfl
      have XE:st7.aq=1:=es7.trans es4;dsimp only[df];refine⟨_,rfl,_,_,rfl,rfl,⟨by decide,by decide⟩,_,_,rfl,rfl,(by show (0:Int) < 3;decide),rfl,_,rfl,nv (λ_=>?_) (λ_=>?_)⟩
      ·obtain⟨dx7,fs7,O9,Pa⟩:=w7.ob;refine⟨_,rfl,o,dx7,fs7,rfl,O9,Pa _ (by decide +kernel),_,rfl,a,ns,6,rfl,ro7.sq,by decide,λce2=>⟨ce2,rfl,λx hx=>⟨(sl 3),λe3 he3=>⟨(sl 2),λt3 ht3=>?_⟩⟩⟩⟩
       have w8:=w7.new (u:=.tup [.str (ar "put"),.int 0,.str x]) he3;have x8:Step (cB 1) c7 (aH c7 e3 none) H7 (upd H7 e3 (.tup [.str (ar "put"),.int 0,.str x])):=Step.new av he3;refine bT.move (w8.new ht3) (by omega) (d:=.ed true 0 0 [x]) (m:=.mnd ⟨0,0,kf R.bl1 [x]⟩) rfl ⟨.inl rfl,⟨by decide,by decide⟩,⟨by show 1<=12;decide,λz hz=>by rw[tu]at hz;rw[hz];exact hx⟩,λ_=>rfl⟩ (M3 (ws:=[x]) (by rw[XD];exact ae) a7 ht3) (abX w8.f (by show k≠1;rcases hke with z | z <;> omega) (DY _ _)) λc9 H9 st9 s9 es9 p9 w9=>?_
       exact n1 _ _ ⟨⟨_,_,rfl⟩,c9,st9,[st4.made.length+1,st7.made.length+1],_,x7.trans (x8.trans ((Step.new av ht3).trans s9)),w9,es9.trans XE,by rw[p9,p7'];rfl,tx,_,rfl,λb hb=>by
        rcases List.mem_cons.mp hb with z | hb
        ·rw[z];show 0 < 3;decide
        ·rcases List.mem_cons.mp hb with z | hb
         ·rw[z];show 1 < 3;decide
         ·have hb:b∈[Mn.mnd ⟨0,0,kf R.bl1 [x]⟩]:=hb;rw[tu]at hb;rw[hb];show 2 < 3;decide⟩
      ·exact n1 _ _ ⟨⟨_,_,rfl⟩,c7,st7,[st4.made.length+1],_,x7,w7.mono (by omega),XE,p7',tx,_,rfl,λb hb=>by
        rcases List.mem_cons.mp hb with z | hb
        ·rw[z];show 0 < 3;decide
        ·rw[tu]at hb;rw[hb];show 1 < 3;decide⟩
     ·exact n1 _ _ ⟨⟨_,_,rfl⟩,c4,st4,[],_,x4,w4.mono (by omega),es4,p4',tx,[],rfl,λb hb=>by rw[tu]at hb;rw[hb];show 0 < 3;decide⟩
end
end My
set_option maxHeartbeats 1000000
namespace My
open PySem L2
seal PySem.wpAny
def MnT (c:Col)(H:Hp)(m:Mn)(t:Addr):Prop:=c t=none/\∃v,H t=some (.tup (rowOf m.k v))/\m.Val c H v
theorem MnT.step {W:Option (Nat×Rl)->Prop}{c c':Col}{H H':Hp}{m:Mn}{t:Addr}(s:Step W c c' H H')(h:MnT c H m t):MnT c' H' m t:=by
 obtain⟨n,v,h,hv⟩:=h;have hn:¬W (c t):=by rw[n];exact s.nn
 exact⟨by rw[s.col t _ h hn];exact n,v,s.keep _ _ h hn,hv.step s⟩
theorem G0:ae5 (.list [])=true:=by rfl
theorem G1 {K:ba}{H:Hp}{p:Addr}(h:SqL K H p []):DV K H (.list []) (.ref p):=by
 unfold DV;exact⟨p,[],rfl,h,by unfold DVs;rfl⟩
theorem Pb (ns:List Nat):ae9 (g8 ns) (.list [])=ns.isEmpty:=by
 cases ns with
 |nil=>simp[g8,ae9,PyData.eqvAll]
 |cons n ns=>simp[g8,ae9,PyData.eqvAll]
theorem zT:∀ns:List Nat,aed (ns.map λn:Nat=>PyData.int (n:Int))<=1
 |[]=>by simp only[aeE,aed];omega
 |n::ns=>by
  have:=zT ns;simp only[kc,aed,aet];omega
theorem C2 (ns:List Nat):ae5 (g8 ns)=true:=by
 have h1:(g8 ns).canLay0=true:=by
  unfold g8;simp only[rf]
  induction ns with
  |nil=>simp only[aeE,ra]
  |cons n ns ih=>simp only[kc,ra,rf,ih,aew]
 have h2:(g8 ns).depth<=64:=by
  have:=zT ns;unfold g8;simp only[aet];omega
 show ((g8 ns).canLay0 && decide ((g8 ns).depth<=64))=true;rw[h1,decide_eq_true h2];rfl
theorem MnT.dv {K:ba}{c:Col}{H:Hp}{m:Mn}{t:Addr}(h:MnT c H m t):DV K H (mnD m) (.ref t):=by
 obtain⟨_,v,ht,hv⟩:=h
 by_cases h0:m.k=0
 ·obtain⟨tx,rfl⟩:∃tx,m=.mat tx:=by cases m <;> first | exact⟨_,rfl⟩ | exact absurd h0 (by simp[Mn.k])
  obtain⟨p,rfl,hp⟩:=hv;unfold mnD DV;refine⟨t,_,rfl,SqT.of ht,?_⟩;unfold DVs;refine⟨_,_,rfl,by unfold DV;rfl,?_⟩
  unfold DVs;exact⟨_,_,rfl,Od (SqL.of hp.2),by unfold DVs;rfl⟩
 ·exact Sx (by omega) hv (SqT.of ht)
def BA (A:Adr)(i:Nat):Sp:=λvs H Q _=>∃(o:Addr) (n:Nat) (c:Col) (st:Ch),vs=[.ref o,nV n]/\d9 A i c H o st/\fA st n/\∀u H',bJ H H'->MnT (bP c H) H' (st.mo n) u->Q (.ref u) H'
section
variable{P:ku}{w:World}{K:ba}{mg:Str->Option Value}{base:Heap}{A:Adr}
theorem G2 (T:Txt w.params K mg A){i:Nat}:ay P w K mg base (CXX P w) 3 A.bR A.fY ["self","number"] (BA A i):=by
 have GI:∀k,k < 8->ay P w K mg base CX0 2 (A.ft k) (A.ftd k) ["self"] (CG A K k):=DN T;refine T.eK.okX tL (λvs H Q E h=>?_) (λcdv A' outer s H vs Q E hr h=>?_)
 ·obtain⟨o,n,c,st,rfl,_⟩:=h;rfl
 ·obtain⟨o,n,c,st,rfl,hc,hn,q⟩:=h;obtain⟨dx,aM,aP,aA,aD,aF,aE,aR,ms,ds,ws,fs,es,X⟩:=hc.ex;have hu1:=hr.u1;have hgd:=hr.gd;have CJ:Room 2 _:=hr;refine⟨_,(aW (i9 (KI (AZ hu1 (pv 1) (aZ (pv 0) rfl)))
 (bC (ja T.vX rfl rfl T.zd (aa (AV (lC (uQ (pv 1) uP))) ah)))
 (yD aQ))
 (bC (psx (aL (kZ (n:=8) (Cf:=A.C) (mz hu1 (aZ (pv 0) rfl) (pv 1) (λ_ _=>rfl)) T.cl T.Gy GI CJ T.Gz aV))))),?_⟩
  refine⟨_,rfl,eT rfl X.ob T.ag T.jq2 g0 ⟨aM,_,rfl,.inl ⟨_,km (n:Int),.inl X.made.2,rfl,rfl⟩,_,rfl,?_⟩⟩;refine hide λGg hGg=>?_
  obtain⟨mo,hv,hmo⟩:=X.OX hn;refine hGg ?_;rw[hv];refine gf ?_;refine hide λGg hGg=>?_
  obtain⟨_,dm,v,hm,hvv⟩:=hmo;refine hGg ?_;refine⟨_,rfl,o,A.ao,dx,_,.ref aM,rfl,X.ob,T.ag,T.jq2,g0,_,rfl,aM,_,rfl,.inl ⟨_,km (n:Int),.inl X.made.2,rfl,hv.symm⟩,(st.mo n).k,(st.mo n).k8,mo,dm,_,rfl,hm,IL _ v,?_⟩;generalize st.mo n=m at hm hvv q
  by_cases h0:m.k=0
  ·obtain⟨tx,rfl⟩:∃tx,m=.mat tx:=by cases m <;> first | exact⟨_,rfl⟩ | exact absurd h0 (by simp[Mn.k])
   refine hide λGg hGg=>?_
   obtain⟨p,rfl,hp⟩:=hvv;refine hGg ?_;refine .inl ⟨rfl,mo,dm,p,tx.map V.str,rfl,hm,SqL.of hp.2,λp2 u hp2 hu npu=>?_⟩
   have nu:(upd H p2 (.lst (tx.map V.str))) u=none:=(aw (ad9 npu)).trans hu;exact q u _ ((aK hp2).new nu) ⟨dI hu,.ref p2,ae,p2,rfl,dI hp2,(aw npu).trans ae⟩
  ·refine .inr ⟨by omega,mo,dm,v,rfl,hm,λu hu=>?_⟩
   have su:=aK (o:=.tup (rowOf m.k v)) hu;exact q u _ su ⟨dI hu,v,ae,hvv.step (Step.cl (W:=λ_=>False) id su)⟩
end
section
variable{L0:Nat}{as0:List (Nat×Int×List Nat)}{mo0:Nat->Mn}{st:Ch}{N:Nat}{s:Int}{ms:List Mn}
theorem Bg.kW {ms:List Mn}(b:Bg ms):kW ms < 3/\CF ms=true:=by
 obtain⟨tx,r,e,h⟩:=b;refine⟨?_,by rw[e];rfl⟩
 unfold My.kW;split
 ·decide
 ·rename_i m hm;have:=h m (List.mem_of_getLast? hm);omega
theorem Pc (f:Fl N s st ms)(b:Bg ms){u:Int}(h:st.aq < u):kY st (.off u)=none:=by
 obtain⟨h1,h2⟩:=b.kW;have ho:qC false ms 3=none:=by
  unfold qC wb;rw[if_neg (by show ¬(3:Int)<=kW ms;omega)]
  show (if CF ms=true then none else _)=none
  rw[if_pos h2]
 unfold kY nW;rw[f.shape,f.cl,show (Mn.off u).k=3 from rfl,ho]
 show (if u<=st.aq then _ else none)=none
 rw[if_neg (by omega)]
theorem Pd (f:Fl N s st ms)(b:Bg ms):kY st .lay=none:=by
 obtain⟨h1,h2⟩:=b.kW;have ho:qC false ms 5=none:=by
  unfold qC wb;rw[if_neg (by show ¬(5:Int)<=kW ms;omega)]
  show (if CF ms=true then none else _)=none
  rw[if_pos h2]
 unfold kY nW;rw[f.shape,f.cl,show (Mn.lay).k=5 from rfl,ho]
theorem Fl.aI {m:Mn}{u:Int}(hm:m=.off u\/(m=.lay/\u=st.aq))(f:Fl N s st (ms++[m]))(hN:N<=800)(h1s:1<=s){n k:Nat}{r:List Nat}(e:st.au=(n::r)++[k])(ha:st.aI=[]) :
  ∃st',gx st 1 0=(.txt DR,st')/\Fl (N+3) s st' []/\st'.aI=[(n,u,n::r)]/\st'.mo=st.mo/\st'.aq=st.aq/\st'.made.length=st.made.length:=by
 obtain⟨pre,k',e',h1,h2⟩:=f.top;obtain⟨e1,e2⟩:=List.append_inj' (e'.symm.trans e) rfl;cases e2;subst e1;have kb:gY (nd m.k) 1 0=true:=by
  rcases hm with z | ⟨z,_⟩ <;> rw[z]
  ·exact rH (by show 3≠4;decide) (by decide)
  ·exact rH (by show 5≠4;decide) (by decide)
 have h:=f.sH (a:=1) (b:=0) (by omega) e' h2
 have I:=f.inv.gx hN 1 0;rw[kb,if_pos rfl]at h;have e3:(st.popped (n::r) k (qI true)).carry m=(st.popped (n::r) k (qI true)).qG n u:=by
  rcases hm with z | ⟨z,zu⟩
  ·rw[z];rfl
  ·rw[z,zu];rfl
 rw[e3]at h;rw[h]at I;refine⟨_,h,⟨I,f.cH,rfl,rfl⟩,?_,rfl,rfl,rfl⟩;show st.aI++[(n,u,n::r)]=_;rw[ha];rfl
theorem Fl.take (f:Fl N s st []){n:Nat}{u:Int}{pl:List Nat}(ha:st.aI=[(n,u,pl)])(h:u<=st.aq) :
  ∃st',stepT st n=(.num n,st')/\Inv (N+3) st'/\st'.au=pl/\st'.aI=[]/\st'.mo=st.mo/\st'.closed=false/\st'.cH=s:=by
 have e:stepT st n=(.num n,{ st.rV n pl with rows:=st.rows++[R.nS (.nums (ar "take") [(n:Int)])] }):=by
  unfold stepT;rw[if_pos (nZ f),ha,C1];dsimp only;rw[if_neg (by omega)]
 have I:=f.inv.stepT n;rw[e]at I;refine⟨_,e,I,rfl,?_,rfl,f.cl,f.cH⟩;show st.aI.filter _=[];rw[ha,ae2 (by simp)]
 rfl
theorem JV (f:Fl N s st [])(ha:st.aI=[])(n:Nat):stepT st n=(.exc .yk,st):=by
 unfold stepT;rw[if_pos (nZ f),ha];rfl
end
theorem Qg {W:Option (Nat×Rl)->Prop}{c c':Col}{H H':Hp}(x:Step W c c' H H'){a:Addr}{v:HO}{y:Option (Nat×Rl)}(h:c a=y)(n:¬W y)(hv:H a=some v):c' a=y/\H' a=some v :=
 ⟨(x.col a v hv (by rw[h];exact n)).trans h,x.keep a v hv (by rw[h];exact n)⟩
def sM (c:Col)(H:Hp)(D:Addr)(ms:List Mn):Prop:=c D=some (0,.ob)/\∃us:List Addr,H D=some (.lst (us.map V.ref))/\bS (MnT c H) ms us
theorem sM.step {W:Option (Nat×Rl)->Prop}{c c':Col}{H H':Hp}{D:Addr}{ms:List Mn}(n:¬W (some (0,.ob)))(x:Step W c c' H H'):sM c H D ms->sM c' H' D ms
 |⟨h,us,h1,h2⟩=>⟨(Qg x h n h1).1,us,(Qg x h n h1).2,h2.imp λ_ _ z=>z.step x⟩
theorem sM.dv {K:ba}{c:Col}{H:Hp}{D:Addr}{ms:List Mn}:sM c H D ms->DV K H (.list (ms.map mnD)) (.ref D)
 |⟨_,us,h1,h2⟩=>by
  unfold DV;refine⟨D,_,rfl,SqL.of h1,?_⟩;exact bS.dvs (R:=λm v=>∃u,v=.ref u/\MnT c H m u) (λm v ⟨u,e,h⟩=>by rw[e];exact h.dv) (bS.mapR (h2.imp λm u h=>⟨u,rfl,h⟩))
theorem XF {A:Adr}{K:ba}{o p D:Addr}{c:Col}{H:Hp}{st:Ch}{ks:List Nat}{te:TE}{σ:St}{Q:VK}
  (hte:∀(k:Nat) (c:Col) (H:Hp) (Q:VK),d9 A 1 c H o st->fA st k->(∀u H',bJ H H'->MnT (bP c H) H' (st.mo k) u->Q (.ref u) H')->te (some (nV k)::σ) H Q)
  (ch:d9 A 1 c H o st) (hp:H p=some (.lst (ks.map nV))) (hk:∀k∈ks,fA st k) (hl:ks.length<=8) (hD:H D=none)
  (q:∀c' H',bJ H H'->Step (cB 0) c c' H H'->d9 A 1 c' H' o st->sM c' H' D (ks.map st.mo)->Q (.ref D) H'):qa (Itl K p) te σ D H Q:=by
 have lim:gp=16777216:=by decide
 have stD:Step (cB 0) c (aH c D (some (0,.ob))) H (upd H D (.lst [])):=Step.new av hD;refine rb (K:=K) (a:=p) (xs:=ks.map nV) (λj zs H4=>bJ H H4/\H4 D=some (.lst zs)/\∃(c4:Col) (us:List Addr),Step (cB 0) c c4 H H4/\c4 D=some (0,.ob)/\d9 A 1 c4 H4 o st/\zs=us.map V.ref/\bS (MnT c4 H4) ((ks.take j).map st.mo) us)
  ⟨aK hD,ae,aH c D (some (0,.ob)),[],stD,a7,ch.free (λr=>oR (by decide) r) stD,rfl,.nil⟩ (by rw[cb];omega) ?_ ?_ ?_
 ·rintro j zs H4 hj ⟨s4,hD4,c4,us,_,_,_,rfl,ha⟩;refine⟨SqL.of (s4 _ _ hp),hD4,?_⟩;rw[cb]at hj ⊢;rw[<-ha.len,cb,aeu];omega
 ·rintro j y zs H4 hj ⟨s4,hD4,c4,us,x4,cD,ch4,rfl,ha⟩;obtain⟨k,hk1,rfl⟩:∃k,ks[j]?=some k/\nV k=y:=by
   rw[aeD]at hj;cases ht:ks[j]? with
   |none=>rw[ht]at hj;cases hj
   |some t=>rw[ht]at hj;exact⟨t,rfl,ad8 hj⟩
  refine hte k c4 H4 _ ch4 (hk k (aei hk1)) λu5 H5 s5 mn5=>?_
  have hD5:=s5 _ _ hD4;have e5:Step (cB 0) c4 (bP c4 H4) H4 H5:=Step.cl av s5;have cD5:bP c4 H4 D=some (0,.ob):=(Mt hD4).trans cD;have e6:Step (cB 0) (bP c4 H4) (bP c4 H4) H5 (upd H5 D (.lst (us.map V.ref++[.ref u5]))):=Step.upd av ⟨.ob,cD5⟩;refine gg.mk (List.getElem?_eq_some_iff.mp hj).1 hD5 ⟨(s4.trans s5).own hD,ae,bP c4 H4,us++[u5],x4.trans (e5.trans e6),cD5,ch4.free (λr=>oR (by decide) r) (e5.trans e6),by rw[ky];rfl,?_⟩
  rw[List.take_succ,hk1,ky];exact bS.snoc (ha.imp λ_ _ z=>z.step (e5.trans e6)) (mn5.step e6)
 ·rintro zs H4 ⟨s4,hD4,c4,us,x4,cD,ch4,rfl,ha⟩;rw[cb,afh]at ha;exact q c4 H4 s4 x4 ch4 ⟨cD,us,hD4,ha⟩
theorem Na {K:ba}{c:Col}{H:Hp}{st:Ch}{ns:List Int}{u l1 R l2:Addr}{ys ds:List V}{n:Nat}{v:Int}{pl:List Nat}(S:StX c H st ns u l1 R l2 ys ds)(pm:afc ns (st.aI.map λx=>(x.1:Int)))(ha:st.aI=[(n,v,pl)]):DV K H (.list [asD (n,v,pl)]) (.ref R):=by
 rw[ha]at pm;have e:ns=[(n:Int)]:=List.perm_singleton.mp pm;subst e;have h:=S.asd;rw[kc,aeE,show CW st (n:Int)=(n,v,pl) by unfold CW;rw[aeP,ha,C1];rfl]at h
 unfold DV;exact⟨R,ys,rfl,SqL.of S.hR,bS.dvs (f:=asD) (xs:=[(n,v,pl)]) (λx v h=>h.dv) h⟩
theorem as_none {K:ba}{c:Col}{H:Hp}{st:Ch}{ns:List Int}{u l1 R l2:Addr}{ys ds:List V}(S:StX c H st ns u l1 R l2 ys ds)(pm:afc ns (st.aI.map λx=>(x.1:Int)))(ha:st.aI=[]):DV K H (.list []) (.ref R):=by
 rw[ha]at pm;have e:ns=[]:=List.perm_nil.mp pm;subst e;have h:=S.asd;cases h;exact G1 (SqL.of S.hR)
theorem rK (x:Nat×Int×List Nat):rf (.list [asD x])=true/\ae5 (.list [asD x])=true:=by
 have h:rf (.list [asD x])=true:=by simp only[rf,ra,SA,aew]
 have:=SD x;exact⟨h,vx h (by simp only[aet,aed];omega)⟩
theorem Nb (m:Mn):(mnD m).depth<=20:=by
 cases m with
 |mat tx =>
  have:=MV tx;unfold mnD;simp only[aet,aed]at this ⊢;omega
 |chg e =>
  have:=MT e;unfold mnD;simp only[aet,aed];omega
 |mnd e =>
  have:=MT e;unfold mnD;simp only[aet,aed];omega
 |_=>unfold mnD;simp only[aet,aed];omega
theorem G3 {N:Nat}{ms:List Mn}(h:∀m∈ms,MOk N m):rf (.list (ms.map mnD))=true/\ae5 (.list (ms.map mnD))=true:=by
 have h1:rf (.list (ms.map mnD))=true:=by
  simp only[rf];exact CY λm hm=>SE (h m hm)
 refine⟨h1,vx h1 ?_⟩;have:=vy (f:=mnD) (k:=20) Nb ms;simp only[aet];omega
end My
set_option maxHeartbeats 1000000
namespace My
open PySem L2
seal PySem.wpAny
theorem Pe (n:Int):Inv 0 (Jh n) :=
 ⟨kg 0,kg 0,kg 0,kg 0,(λ_ h=>nomatch h),⟨by show (1:Int)<=1;decide,by show (1:Int)<=_;decide⟩,(λ_ h=>nomatch h),(λ_ h=>nomatch h),List.nodup_nil,.nil,(λ_ h=>nomatch h),rfl,rfl,(λ_ h=>nomatch h)⟩
theorem JW {W:Option (Nat×Rl)->Prop}(n:¬W none){c c':Col}{H1 H2:Hp}{x dx:Addr}{o:HO}(hx:H1 x=none)(hdx:H1 dx=none)(hk:∀a v,(upd (upd H1 dx (.own x)) x o) a=some v->a≠x->H2 a=some v/\c' a=c a):Step W c c' H1 H2:=by
 have old:∀a v,H1 a=some v->H2 a=some v/\c' a=c a:=λa v h =>
  hk a v ((aw (aN h hx)).trans ((aw (aN h hdx)).trans h)) (aN h hx)
 exact⟨n,λa v h _=>(old a v h).1,λa v h=>⟨v,(old a v h).1⟩,λa v h _=>(old a v h).2⟩
def Jm (K:ba):Sp:=λvs H Q _=>∃(a:Addr) (ns:List Int),vs=[.ref a]/\SqL K H a (ns.map V.int)/\ns.length<=63/\∀H',Q (.bl true) H'
theorem JX (xs:List V):(pL xs (some 8) (some 48)).length<=40:=by
 unfold pL;rw[show (8:Int)=((8:Nat):Int) from rfl,show (48:Int)=((48:Nat):Int) from rfl,HT.xX,HT.xX,aeu,ae6]
 omega
theorem Nc {u:Int}(h0:-10000000000 < u)(h1:u < 10 ^ 10):zJ (.nums (ar "put off") [u]):=⟨by show (ar "put off",1)∈yl;decide +kernel,λi hi=>by rw[tu]at hi;rw[hi];exact⟨h0,h1⟩⟩
theorem Pf {v:V}{i:Nat}{t2:TS}{D:Ends}{σ:St}{H:Hp}(h:t2 D (σ.set i (some v)) H):Q7 (NY (tC v) (df i)) t2 D σ H:=h
structure P20 (K:ba)(a:Addr)(ns:List Int)(l1 D1:Addr)(pl:List Nat)(ms:List Mn)(c:Col)(H:Hp):Prop where
 ro:Ro K c H a (ns.map V.int)
 pc:c l1=none
 ph:H l1=some (.lst (pl.map nV))
 mo:sM c H D1 ms
theorem P20.step {K:ba}{a:Addr}{ns:List Int}{l1 D1:Addr}{pl:List Nat}{ms:List Mn}{W:Option (Nat×Rl)->Prop}{c c':Col}{H H':Hp}(n:¬W (some (0,.ob)))(x:Step W c c' H H')(p:P20 K a ns l1 D1 pl ms c H):P20 K a ns l1 D1 pl ms c' H' :=
 ⟨p.ro.step x,(ef x p.pc p.ph).1,(ef x p.pc p.ph).2,p.mo.step n x⟩
theorem n01:¬cB 1 (some (0,Rl.ob)):=oR (by decide) _
theorem bT.JY {A:Adr}{o:Addr}{L0:Nat}{as0:List (Nat×Int×List Nat)}{mo0:Nat->Mn}{s:Int}{N:Nat}{c:Col}{H:Hp}{st:Ch}{ms:List Mn}(w:bT A o L0 as0 mo0 s N c H st ms)(h:as0.length < 64):st.aI.length < 64:=by rw[w.t.al];exact h
theorem bT.stQ {A:Adr}{o:Addr}{L0:Nat}{as0:List (Nat×Int×List Nat)}{mo0:Nat->Mn}{s:Int}{N:Nat}{c:Col}{H:Hp}{st:Ch}{ms:List Mn}(w:bT A o L0 as0 mo0 s N c H st ms){Q:Addr->Hp->Prop}
  (q:∀ns u l1 R l2 ys ds c' H',afc ns (st.aI.map λx=>(x.1:Int))->bJ H H'->Step (λ_=>False) c c' H H'->StX c' H' st ns u l1 R l2 ys ds->bT A o L0 as0 mo0 s N c' H' st ms->Q u H') :
  ∀(ns:List Int) (u:Addr) (H':Hp),afc ns (st.aI.map λx=>(x.1:Int))->ns.Pairwise (·<=·)->bJ H H'->M7 (bP c H) H' st ns u->Q u H':=by
 intro ns u H' pm so sm at_;obtain⟨l1,R,l2,ys,ds,S⟩:=at_;have x:Step (λ_=>False) c (bP c H) H H':=Step.cl id sm
 exact q ns u l1 R l2 ys ds _ H' pm sm x S (w.free (λ_=>id) x)
theorem Qh {K:ba}{H:Hp}{t l:Addr}{n:Nat}{u:Int}{pl:List Nat}(ht:SqT K H t [nV n,.int u,.ref l])(hl:SqL K H l (pl.map nV)):DV K H (asD (n,u,pl)) (.ref t):=by
 unfold asD DV;refine⟨t,_,rfl,ht,?_⟩;unfold DVs;refine⟨_,_,rfl,by unfold DV;rfl,?_⟩
 unfold DVs;refine⟨_,_,rfl,by unfold DV;rfl,?_⟩
 unfold DVs;exact⟨_,_,rfl,oX hl,by unfold DVs;rfl⟩
theorem Qi {K:ba}{H:Hp}{p:Addr}{v:V}{d:PyData}(hp:SqL K H p [v])(h:DV K H d v):DV K H (.list [d]) (.ref p):=by
 unfold DV;refine⟨p,_,rfl,hp,?_⟩;unfold DVs;exact⟨_,_,rfl,h,by unfold DVs;rfl⟩
section
variable{P:ku}{w:World}{K:ba}{mg:Str->Option Value}{base:Heap}{A:Adr}
set_option maxHeartbeats 20000000 in
theorem SH {f:Addr}{fd:gr}(F:Fun K "law" "law" qf f fd)(T:Txt w.params K mg A):ay P w K mg base CX0 20 f fd ["_law_script"] (Jm K):=by
 have gz:ay P w K mg base CX0 1 A.nJ A.iM ["_law_script","_law_k"] (GU K):=uk T;have JZ:ay P w K mg base CX0 1 A.yc A.oB ["_law_cell"] By:=GV T;have J0:ay P w K mg base CX0 8 A.yd A.oE ["_law_chamber","_law_script"] (Jl A K):=GZ T;have BB:ay P w K mg base CX0 8 A.yf A.oF ["_law_chamber","_law_cell"] (Jj A):=GX T;have J1:ay P w K mg base CX0 9 A.yg A.oG ["_law_chamber","_law_number","_law_until","_law_cell"] (Jk A):=GY T;have rJ:ay P w K mg base CX0 8 A.rm A.jg ["_law_chamber","_law_number"] (yo A):=zR T;have J2:ay P w K mg base CX0 2 A.b9 A.hU ["self","seats"] (Qe A):=Sw T;have cJ:ay P w K mg base CX0 2 A.bO A.eI ["self"] (zS A 1):=Bz T;have n0:ay P w K mg base (CXX P w) 3 A.bR A.fY ["self","number"] (BA A 1):=G2 T;have cU:ay P w K mg base (CXX P w) 6 A.bM A.dR ["self","ayes","noes"] (zG A 1):=CS T;have gy:ay P w K mg base (CXX P w) 6 A.bN A.dS ["self"] (zH A 1):=CT T;have bu:ay P w K mg base (CXX P w) 7 A.bD A.dc ["self","told"] (vv A 1):=yn T;refine F.ok lH (λvs H Q E h=>?_) (λcdv A' outer s H vs Q E hr h=>?_)
 ·obtain⟨a,ns,rfl,_⟩:=h;rfl
 ·obtain⟨a,ns,rfl,hS,hlen,q⟩:=h;have fm:Room 1 _:=hr.mono (by decide)
  have G4:Room 1 _:=hr.mono (by decide)
  have G5:Room 8 _:=hr.mono (by decide)
  have zU:Room 8 _:=hr.mono (by decide)
  have G6:Room 9 _:=hr.mono (by decide)
  have oY:Room 8 _:=hr.mono (by decide)
  have G7:Room 3 _:=hr.mono (by decide)
  have cq:Room 2 _:=hr.mono (by decide)
  have mI:Room 3 _:=hr.mono (by decide)
  have cI:Room 6 _:=hr.mono (by decide)
  have fB:Room 6 _:=hr.mono (by decide)
  have bj:Room 7 _:=hr.mono (by decide)
  have hu1:=hr.u1;have wF:=hr.units;have sz:gp=16777216:=by decide
  have t10:(0:Int)<=0/\(0:Int) < 10 ^ 10:=⟨by decide,by decide⟩
  have t11:(0:Int)<=1/\(1:Int) < 10 ^ 10:=⟨by decide,by decide⟩
  refine⟨_,(ai (bh (i:=1) lH.nd rfl (aec rfl) (bb JZ G4 rfl T.A8 T.uX.kp T.A7 .nil aV (aa (bb gz fm rfl T.gk T.eW.kp T.gj .nil aV (aa (pv 0) (aa ak ah))) ah)))
 (ai (bh (i:=2) lH.nd rfl (Or.inr rfl) (gB T.Be J2 G7 rfl T.Bd T.iN .nil aV (aa (pv 1) ah)))
 (ai (bh (i:=3) lH.nd rfl (aec rfl) (bb J0 G5 rfl T.Ba T.uY.kp T.A9 .nil aV (aa (pv 2) (aa (pv 0) ah))))
 (ai (bh (i:=4) lH.nd rfl (aec rfl) (bp bf (cw (pv 2) T.ag T.cG cJ cq T.bX .nil aV) ak (λ_ _=>rfl)))
 (ai (yC (i:=5) (scope:=A1) LH rfl rfl (aec rfl) (mr (pv 4)) (λ_ _ _ _ _=>(bQ (pv 3) T.ag T.jo n0 mI T.eL .nil cY (aa (pv 0) ah))))
 (ai (bh (i:=6) lH.nd rfl (aec rfl) (bb gz fm rfl T.gk T.eW.kp T.gj .nil aV (aa (pv 0) (aa ak ah))))
 (ai (bh (i:=7) lH.nd rfl (aec rfl) ak)
 (ai (bI (aJ Iv (bA dn (pv 6) ak) ak (aS _))
 (ai (bh (i:=7) lH.nd rfl (aec rfl) (bA j7 ak (bA dn (bA dU (pv 6) ak) ak)))
 (aj (a6 (bQ (pv 2) T.ag T.bF bu bj T.bt .nil cY (aa (bH (aa az (aa (pv 7) ah))) ah)))))
 (aj (a6 (bQ (pv 2) T.ag T.bF bu bj T.bt .nil cY (aa (bH (aa az ah)) ah)))))
 (ai (a6 (bQ (pv 2) T.ag T.dD cU cI T.cy .nil cY (aa ak (aa ak ah))))
 (ai (bI (PW.pt (pw_or (aJ (r6 wF) (bp bf (cw (pv 2) T.ag T.cG cJ cq T.bX .nil aV) ak (λ_ _=>rfl)) (gQ ah) (aS _)) (pw_or1 (aJ (r6 wF) (bp bf (cw (pv 2) T.ag T.cG cJ cq T.bX .nil aV) ak (λ_ _=>rfl)) (gQ (aa (bH (aa (pv 3) (aa (pv 7) (aa (pv 4) ah)))) ah)) (aS _)))))
 (aj (aL pY))
 aQ)
 (ai (yr afl rfl (mr (C9 N8 (pv 0) (BO ak) (BO ak))) (tw (i:=6) lH.nd rfl (aec rfl))
 (ai (a6 (bb BB zU rfl T.va T.rA.kp T.uZ .nil aV (aa (pv 2) (aa (pv 6) ah))))
 (aj (bI (PW.pt (pw_and (aJ Iv (bA dn (pv 6) ak) ak (aS _)) (pw_and1 (uJ (rZ (bb J1 G6 rfl T.Bc T.vb.kp T.Bb .nil aV (aa (pv 2) (aa (pv 3) (aa (pv 7) (aa (pv 6) ah))))))))))
 (aj (aL pY))
 aQ))))
 (ai (KN afl (aJ Ir (bp bf (cw (pv 2) T.ag T.cG cJ cq T.bX .nil aV) ak (λ_ _=>rfl)) (pv 7) (aS _))
 (aj (a6 (bb BB zU rfl T.va T.rA.kp T.uZ .nil aV (aa (pv 2) (aa ak ah))))))
 (ai (bI (PW.pt (pw_or (aJ (r6 wF) (bp bf (cw (pv 2) T.ag T.cG cJ cq T.bX .nil aV) ak (λ_ _=>rfl)) (gQ (aa (bH (aa (pv 3) (aa (pv 7) (aa (pv 4) ah)))) ah)) (aS _)) (pw_or1 (aJ (r6 wF) (bb rJ oY rfl T.rz T.nM.kp T.rq .nil aV (aa (pv 2) (aa (pv 3) ah))) (bH (aa az (aa (pv 3) ah))) (aS _)))))
 (aj (aL pY))
 aQ)
 (ai (bh (i:=8) lH.nd rfl (aec rfl) (cw (pv 2) T.ag T.cG cJ cq T.bX .nil aV))
 (ai (bI (PW.pt (pw_or (rZ (bp bf (pv 8) ak (λ_ _=>rfl))) (pw_or (aJ (r6 wF) (bp bf (pv 8) ak (λ_ _=>rfl)) (pv 4) (aS _)) (pw_or (aJ (r6 wF) (bp bf (pv 8) ak (λ_ _=>rfl)) (gQ ah) (aS _)) (pw_or1 (aJ (r6 wF) (tH (scope:=A2) LI rfl (mr (pv 4)) (λ_ _ _ _ _=>(bQ (pv 3) T.ag T.jo n0 mI T.eL .nil cY (aa (pv 0) ah)))) (pv 5) (aS _)))))))
 (aj (aL pY))
 aQ)
 (ai (yr afl rfl (mr (pv 4)) (tw (i:=9) lH.nd rfl (aec rfl))
 (aj (a6 (cw (pv 2) T.ag T.iO gy fB T.eJ .nil cY))))
 (aj (aL (oo (K9 wF) (bb rJ oY rfl T.rz T.nM.kp T.rq .nil aV (aa (pv 2) (aa (pv 3) ah))) (bH (aa az (aa ak ah))) (aS _)))))))))))))))))))),?_⟩
  refine⟨_,rfl,a,ns,0,rfl,hS,Int.le_refl _,λfi=>⟨fi,rfl,λn n1 n2=>?_⟩⟩
  try dsimp only[df]
  refine⟨_,rfl,λo d1 ho1 hd1 ne1=>⟨o,d1,n,rfl,ae,λH2 h2=>⟨rfl,?_⟩⟩⟩
  refine hide λGg hGg=>?_
  obtain⟨c1,k1,ch1⟩:=h2 1 (λ_=>none)
  have st1:Step (λ_=>False) (λ_=>none) c1 H H2:=JW id ho1 hd1 k1
  have ro2:=(Ro.of hS).step st1;have w2:bT A o 0 [] (λ_=>.cls) n 0 c1 H2 (Jh n) []:=⟨ch1,⟨Pe n,rfl,rfl,rfl⟩,⟨rfl,λk h1 h2=>by omega,(λk hk=>nomatch hk),kg 0⟩⟩
  clear k1 ho1 hd1 ne1 h2 st1 ch1;refine hGg ?_
  try dsimp only[df]
  refine⟨_,rfl,_,rfl,o,a,ns,n,c1,_,rfl,ro2,w2,n1,λc3 H3 st3 k r ms x3 w3 SI p3 bg=>?_⟩
  refine hide λGg hGg=>?_
  have ro3:=ro2.step x3;clear x3 ro2 w2;obtain⟨dx3,fs3,CZ,C0⟩:=w3.ob;refine hGg ?_
  try dsimp only[df]
  refine⟨_,rfl,o,dx3,fs3,rfl,CZ,C0 _ (by decide +kernel),o,c3,st3,rfl,w3.ch,w3.JY (by decide),w3.stQ λns4 u4 l1 R4 l2 ys4 ds4 c4 H4 pm4 s4 x4 S4 w4=>?_⟩
  have ro4:=ro3.step x4;refine⟨u4,_,_,_,rfl,rfl,SqT.of S4.hu,rfl,?_⟩;have pc4:=S4.c1;have ph4:=S4.h1;clear S4 pm4 s4 x4 ro3 w3 CZ C0
  try dsimp only[df]
  have XG:=w4.f.inv.cS;have kl:st3.au.length<=8:=by have h:=w4.f.inv.pil.GK;rw[cb]at h;exact h
  refine⟨_,rfl,l1,rfl,⟨_,SqL.of ph4⟩,λD1 hD1=>XF (A:=A) (o:=o) (st:=st3) (ks:=st3.au) ?m1 w4.ch ph4 XG kl hD1 λc5 H5 s5 x5 ch5 mo5=>?q5⟩
  case m1 =>
   intro k' c' H' Q' ch' hn' q';refine hide λGg hGg=>?_
   obtain⟨dx,aM,aP,aA,aD,aF,aE,aR,ms,ds,ws,fs,es,X⟩:=ch'.ex;refine hGg ?_;exact mtv rfl X.ob (dJ (by decide +kernel)) ⟨_,rfl,o,k',c',st3,rfl,ch',hn',q'⟩
  case q5 =>
  have w5:bT A o 0 [] (λ_=>.cls) n 15 c5 H5 st3 ms:=⟨ch5,w4.f,w4.t⟩
  have p5:P20 K a ns l1 D1 st3.au ms c5 H5:=⟨ro4.step x5,(ef x5 pc4 ph4).1,(ef x5 pc4 ph4).2,by rw[<-w4.f.shape];exact mo5⟩
  clear mo5 ch5 x5 s5 hD1 ro4 pc4 ph4 w4
  try dsimp only[df]
  refine⟨_,rfl,a,ns,7,rfl,p5.ro.sq,by decide,λce=>?_⟩
  try dsimp only[df]
  refine Pf ?_;refine oV (λσ' H'=>∃(u:Int) (m:Mn) (c':Col) (st':Ch) (kk:Nat),σ'=[some (.ref a),some (.int n),some (.ref o),some (nV k),some (.ref l1),some (.ref D1),some (.int ce),some (.int u),none,none]/\Step (cB 1) c5 c' H5 H'/\bT A o 0 [] (λ_=>.cls) n 18 c' H' st' (ms++[m])/\st'.au=st3.au++[kk]/\st'.aq=1/\(m=.off u\/(m=.lay/\u=1))/\1<=u/\u<=6) ?r1 (λN1 m1=>?f1)
  case f1 =>
   refine hide λGg hGg=>?_
   obtain⟨dx5,fs5,O7,O8⟩:=w5.ob;refine hGg ?_;refine⟨_,rfl,_,_,rfl,rfl,(by show (0:Int) < 3;decide),_,_,rfl,rfl,_,rfl,nv (λ_=>?_) (λ_=>?_)⟩
   ·have u0:0<=ce / 3 % 5:=ae4 _ (by decide)
    have u1:ce / 3 % 5 < 5:=aeL _ (by decide)
    refine⟨_,rfl,_,_,rfl,rfl,⟨by decide,by decide⟩,_,_,rfl,rfl,(by show (0:Int) < 5;decide),_,_,rfl,rfl,?_⟩
    try dsimp only[df]
    refine⟨_,rfl,o,dx5,fs5,rfl,O7,O8 _ (by decide +kernel),_,rfl,(sl 2),λt ht=>?_⟩
    refine bT.move (w5.new ht) (by omega) (MX (2+ce / 3 % 5)) (Nc (by omega) (by omega)) uq (Pc w5.f bg (by omega)) λc6 H6 st6 s6 e6 p6 w6=>?_
    exact m1 _ _ ⟨_,_,c6,st6,_,rfl,(Step.new av ht).trans s6,w6,p6,e6.trans SI,.inl rfl,by omega,by omega⟩
   ·refine⟨_,rfl,o,dx5,fs5,rfl,O7,O8 _ (by decide +kernel),(sl 1),λt ht=>?_⟩
    refine bT.move (w5.new ht) (by omega) MW MY uq (Pd w5.f bg) λc6 H6 st6 s6 e6 p6 w6=>?_
    exact m1 _ _ ⟨_,_,c6,st6,_,rfl,(Step.new av ht).trans s6,w6,p6,e6.trans SI,.inr ⟨rfl,rfl⟩,by omega,by omega⟩
  case r1 =>
  rintro σ6 H6 ⟨u,m,c6,st6,kk,rfl,x6,w6,pp6,XH,hm,u1,u6⟩;refine hide λGg hGg=>?_
  have p6:=p5.step n01 x6;have hsh:st3.au.map st6.mo=ms:=by
   have h:=w6.f.shape;rw[pp6,ky]at h;exact(List.append_inj' h rfl).1
  obtain⟨st7,e7,f7,as7,mo7,ab3,ab4⟩:=Fl.aI (n:=k) (k:=kk) (r:=r) (u:=u) (by rcases hm with z | ⟨z,zu⟩;exact .inl z;exact .inr ⟨z,by rw[zu,XH]⟩) w6.f (by omega) n1 (by rw[pp6,p3]) w6.t.al
  obtain⟨dx6,fs6,JT,JU⟩:=w6.ob;clear p5 w5 x6;refine hGg ?_
  try dsimp only[df]
  refine⟨_,rfl,o,dx6,fs6,rfl,JT,JU _ (by decide +kernel),bT.sH w6 (by omega) t11 t10 e7 λc7 H7 s7 ch7=>?_⟩
  have p7:=p6.step n01 s7;rw[<-p3]at as7;have w7:bT A o st7.made.length [(k,u,st3.au)] st7.mo n 21 c7 H7 st7 []:=⟨ch7,f7,⟨as7,λ_ _ _=>rfl,(λj hj=>by rw[nZ f7]at hj;cases hj),kg _⟩⟩
  have adT:st7.aq=1:=ab3.trans XH;have Nd:∀j∈st3.au,fA st7 j:=λj hj=>f7.inv.ui (x:=(k,u,st3.au)) (by rw[as7];exact fu) j hj
  have SJ:st3.au.map st7.mo=ms:=by rw[mo7];exact hsh
  have k10:k < 10 ^ 10:=by
   have h1:=(Nd k (by rw[p3];exact fu)).2
   have h2:=f7.inv.lm;omega
  have mok:∀x∈ms,MOk 21 x:=λx hx=>by
   rw[<-SJ]at hx;obtain⟨j,hj,rfl⟩:=List.mem_map.mp hx;exact f7.inv.DQ (Nd j hj)
  generalize st3.au=pl at p7 w7 Nd SJ kl;refine hide λGg hGg=>?_
  clear p6 w6 JT JU e7 f7 as7 s7 ch7 hsh pp6 XG p3 bg SI mo7 ab4;obtain⟨dx7,fs7,O9,Pa⟩:=w7.ob;refine hGg ?_
  try dsimp only[df]
  refine⟨_,rfl,o,dx7,fs7,rfl,O9,Pa _ (by decide +kernel),o,c7,st7,rfl,w7.ch,w7.JY (by show 1 < 64;decide),w7.stQ λns8 u8 l8 R8 l28 ys8 ds8 c8 H8 pm8 s8 x8 S8 w8=>?_⟩
  have p8:=p7.step id x8;refine⟨u8,_,_,_,rfl,rfl,SqT.of S8.hu,rfl,(sl 0),λp9 hp9=>?_⟩
  have s9:=aK (o:=.lst []) hp9;refine⟨g8 st7.au,.list [],oX (SqL.of (s9 _ _ S8.h1)),G1 (SqL.of ae),C2 _,G0,_,rfl,?_⟩;rw[Pb,nZ w7.f];refine gf ?_;have x9:Step (λ_=>False) c8 (aH c8 p9 none) H8 (upd H8 p9 (.lst [])):=Step.new id hp9
  have w9:=w8.free (λ_=>id) x9
  have p9':=p8.step id x9;generalize upd H8 p9 (.lst [])=H9 at w9 p9' ⊢;generalize aH c8 p9 none=c9 at w9 p9';refine hide λGg hGg=>?_
  clear x9 s9 hp9 S8 pm8 s8 x8 w8 p8 w7 p7 O9 Pa;obtain⟨dx9,fs9,XI,XJ⟩:=w9.ob;refine hGg ?_;refine⟨_,rfl,o,dx9,fs9,rfl,XI,XJ _ (by decide +kernel),o,c9,st7,rfl,w9.ch,w9.JY (by show 1 < 64;decide),w9.stQ λadY u10 l10 R10 adZ ad0 ad1 c10 H10 XM s10 x10 S10 w10=>?_⟩
  have p10:=p9'.step id x10;refine⟨u10,_,_,_,rfl,rfl,SqT.of S10.hu,rfl,_,rfl,_,rfl,_,rfl,(sl 3),λt11 XN=>⟨(sl 1),λL11 XO=>?_⟩⟩
  have s11:=aK (o:=.tup [nV k,.int u,.ref l1]) XN;have s12:=aK (o:=.lst [.ref t11]) XO;have Pg:=s11.trans s12;refine⟨.list [asD (k,u,pl)],.list [asD (k,u,pl)],DV.same Pg _ (Na S10 XM w10.t.al),Qi (SqL.of ae) (Qh (SqT.of (s12 _ _ ae)) (SqL.of (Pg _ _ p10.ph))),(rK _).2,(rK _).2,_,rfl,?_⟩;rw[eqv_refl _ (rK _).1];refine gf ?_;have x12:Step (λ_=>False) c10 (bP c10 H10) H10 _:=Step.cl id Pg
  have w12:=w10.free (λ_=>id) x12
  have p12:=p10.step id x12;generalize upd (upd H10 t11 _) L11 _=H12 at w12 p12 ⊢;generalize bP c10 H10=c12 at w12 p12;clear x12 Pg s12 s11 S10 XM s10 x10 w10 p10 w9 p9' XI XJ XN XO;refine⟨_,rfl,_,rfl,_,rfl,a,_,rfl,p12.ro.sq,λl hl=>⟨l,rfl,⟨_,SqL.of ae⟩,?_⟩⟩
  have hcl:=JX (ns.map V.int);have isI:∀x∈pL (ns.map V.int) (some 8) (some 48),∃z,x=V.int z:=λx hx=>by
   obtain⟨z,_,e⟩:=List.mem_map.mp (O5 hx);exact⟨z,e.symm⟩
  have x13:Step (λ_=>False) c12 (aH c12 l none) H12 (upd H12 l (.lst (pL (ns.map V.int) (some 8) (some 48)))):=Step.new id hl
  have w13:=w12.free (λ_=>id) x13
  have p13:=p12.step id x13;have l13:aH c12 l none l=none/\upd H12 l (.lst (pL (ns.map V.int) (some 8) (some 48))) l=some (.lst (pL (ns.map V.int) (some 8) (some 48))):=⟨a7,ae⟩;generalize upd H12 l (.lst (pL (ns.map V.int) (some 8) (some 48)))=H13 at w13 p13 l13 ⊢;generalize aH c12 l none=c13 at w13 p13 l13;generalize pL (ns.map V.int) (some 8) (some 48)=cs at hcl isI l13 ⊢;clear x13 w12 p12 hl;refine yt (K:=K) (a:=l) (xs:=cs) (λj σ Hj=>∃(v6:Option V) (c:Col) (st:Ch) (N:Nat),σ=[some (.ref a),some (.int n),some (.ref o),some (nV k),some (.ref l1),some (.ref D1),v6,some (.int u),none,none]/\N<=21+12 * j/\bT A o st7.made.length [(k,u,pl)] st7.mo n N c Hj st []/\P20 K a ns l1 D1 pl ms c Hj/\(c l=none/\Hj l=some (.lst cs))/\1<=st.aq)
   ⟨_,c13,st7,21,rfl,by omega,w13,p13,l13,by omega⟩ (λj σ Hj _ ⟨_,_,_,_,_,_,_,_,h,_⟩=>SqL.of h.2) ?_ ?_
  ·rintro j y σ Hj hy ⟨v6,c,st,N,rfl,hN,wj,pj,lj,sj⟩;refine hide λGg hGg=>?_
   obtain⟨z,rfl⟩:=isI _ (aei hy);have jl:j < cs.length:=(List.getElem?_eq_some_iff.mp hy).1;refine hGg ?_
   try dsimp only[df]
   refine⟨_,rfl,_,rfl,o,z,_,_,_,n,N,c,st,rfl,wj,by omega,n1,λc2 H2 st2 M m12 m6 m0 x2 w2 hs2 _=>?_⟩
   have p2:=pj.step n01 x2;have l2':=ef x2 lj.1 lj.2
   try dsimp only[df]
   refine⟨_,rfl,_,_,rfl,rfl,(by show (0:Int) < 6;decide),_,_,rfl,rfl,_,rfl,nv (λg=>?_) (λ_=>?_)⟩
   ·have g':3 < z % 6:=of_decide_eq_true g;have eM:=m0 g';subst eM;refine⟨_,rfl,_,rfl,_,rfl,_,rfl,o,k,u,z,pl,_,_,n,N+0,c2,st2,rfl,w2,by omega,k10,λc3 H3 G8 x3 w3 es3=>⟨true,rfl,gf ?_⟩⟩
    exact⟨_,c3,G8,N+0+6,rfl,by omega,w3,p2.step n01 x3,ef x3 l2'.1 l2'.2,by omega⟩
   ·exact gf ⟨_,c2,st2,N+M,rfl,by omega,w2,p2,l2',by omega⟩
  ·rintro σ Hj ⟨v6,c,st,N,rfl,hN,wj,pj,_,sj⟩;clear w13 p13 l13 isI
   try dsimp only[df]
   refine oV (λσ' H'=>∃(c':Col) (st':Ch) (N':Nat),σ'=[some (.ref a),some (.int n),some (.ref o),some (nV k),some (.ref l1),some (.ref D1),v6,some (.int u),none,none]/\N'<=560/\bT A o st7.made.length [(k,u,pl)] st7.mo n N' c' H' st' []/\P20 K a ns l1 D1 pl ms c' H'/\u<=st'.aq) ?r2 (λN1 m1=>?f2)
   case f2 =>
    refine⟨λm σ' H'=>∃(c':Col) (st':Ch) (N':Nat),σ'=[some (.ref a),some (.int n),some (.ref o),some (nV k),some (.ref l1),some (.ref D1),v6,some (.int u),none,none]/\N'+6 * m<=560/\m=(u - st'.aq).toNat/\bT A o st7.made.length [(k,u,pl)] st7.mo n N' c' H' st' []/\P20 K a ns l1 D1 pl ms c' H',
     ⟨_,c,st,N,rfl,by omega,rfl,wj,pj⟩,?_⟩
    rintro m σ' H' ⟨c',st',N',rfl,hN',hm',w',p'⟩;refine hide λGg hGg=>?_
    obtain⟨dx,fs,hob,hfs⟩:=w'.ob;refine hGg ?_;refine⟨_,rfl,o,dx,fs,rfl,hob,hfs _ (by decide +kernel),o,c',st',rfl,w'.ch,w'.JY (by show 1 < 64;decide),w'.stQ λns2 u2 l2 R2 l22 ys2 ds2 c2 H2 pm2 s2 x2 S2 w2=>?_⟩
    have p2:=p'.step id x2;refine⟨u2,_,_,_,rfl,rfl,SqT.of S2.hu,rfl,_,rfl,_,_,rfl,rfl,_,rfl,nv (λg=>?_) (λg=>?_)⟩
    ·have g':st'.aq < u:=of_decide_eq_true g;refine⟨λσ3 H3=>∃m',m' < m/\∃(c':Col) (st':Ch) (N':Nat),σ3=[some (.ref a),some (.int n),some (.ref o),some (nV k),some (.ref l1),some (.ref D1),v6,some (.int u),none,none]/\N'+6 * m'<=560/\m'=(u - st'.aq).toNat/\bT A o st7.made.length [(k,u,pl)] st7.mo n N' c' H3 st' []/\P20 K a ns l1 D1 pl ms c' H3,λ_ _ h=>h,?_⟩
     refine⟨_,rfl,o,0,_,_,_,n,N',c2,st',rfl,w2,by omega,n1,λc3 H3 G8 M m12 m6 m0 x3 w3 hs3 ab5=>?_⟩
     have e3:=ab5 rfl;have e6:=m6 rfl;exact⟨(u - G8.aq).toNat,by omega,c3,G8,N'+M,rfl,by omega,rfl,w3,p2.step n01 x3⟩
    ·have g':¬st'.aq < u:=λy=>g (decide_eq_true y)
     exact m1 _ _ ⟨c2,st',N',rfl,by omega,w2,p2,by omega⟩
   case r2 =>
   rintro σ3 H3 ⟨c3,G8,N3,rfl,hN3,w3,p3',ab6⟩;refine hide λGg hGg=>?_
   clear wj pj;obtain⟨dx3,fs3,CZ,C0⟩:=w3.ob;refine hGg ?_
   try dsimp only[df]
   refine⟨_,rfl,o,dx3,fs3,rfl,CZ,C0 _ (by decide +kernel),o,c3,G8,rfl,w3.ch,w3.JY (by show 1 < 64;decide),w3.stQ λns4 u4 l4 R4 l24 ys4 ds4 c4 H4 pm4 s4 x4 S4 w4=>?_⟩
   have p4:=p3'.step id x4;refine⟨u4,_,_,_,rfl,rfl,SqT.of S4.hu,rfl,_,rfl,_,rfl,_,rfl,(sl 3),λt5 ht5=>⟨(sl 1),λL5 hL5=>?_⟩⟩
   have s5:=aK (o:=.tup [nV k,.int u,.ref l1]) ht5;have s6:=aK (o:=.lst [.ref t5]) hL5;have s56:=s5.trans s6;refine⟨.list [asD (k,u,pl)],.list [asD (k,u,pl)],DV.same s56 _ (Na S4 pm4 w4.t.al),Qi (SqL.of ae) (Qh (SqT.of (s6 _ _ ae)) (SqL.of (s56 _ _ p4.ph))),(rK _).2,(rK _).2,_,rfl,?_⟩;rw[eqv_refl _ (rK _).1];refine gf ?_;have x6:Step (λ_=>False) c4 (bP c4 H4) H4 _:=Step.cl id s56
   have w6:=w4.free (λ_=>id) x6
   have p6:=p4.step id x6;generalize upd (upd H4 t5 _) L5 _=H6 at w6 p6 ⊢;generalize bP c4 H4=c6 at w6 p6;refine hide λGg hGg=>?_
   clear x6 s56 s6 s5 S4 pm4 s4 x4 w4 p4 w3 p3' CZ C0 ht5 hL5;obtain⟨st8,e8,I8,Nf,as8,mo8,cl8,SK⟩:=Fl.take w6.f w6.t.al ab6;refine hGg ?_;refine⟨_,rfl,_,rfl,o,k,c6,G8,N3,rfl,w6.ch,w6.f.inv,by omega,by omega,by omega,λc7 H7 u7 x7 ch7 cu7 hu7=>?_⟩
   rw[aeP,e8]at ch7 hu7;have p7:=p6.step n01 x7;have ab7:∀j∈pl,fA st8 j:=λj hj=>I8.cS j (by rw[Nf];exact hj)
   have w7:bT A o 0 [] (λ_=>.cls) n (N3+3) c7 H7 st8 (st8.au.map st8.mo):=⟨ch7,⟨I8,SK,rfl,cl8⟩,⟨as8,λj h1 h2=>by omega,λj hj=>(I8.cS j hj).1,aeM _⟩⟩
   have ems:pl.map st8.mo=ms:=by
    rw[<-SJ,mo8];exact aeR λj hj=>w6.t.mo j (Nd j hj).1 (Nd j hj).2
   clear w6 p6 x7 ch7 e8;refine⟨_,rfl,(sl 2),λt8 ht8=>?_⟩
   have s8:=aK (o:=.tup [.str (ar "told"),nV k]) ht8;refine⟨.tuple [.str (ar "told"),.int k],.tuple [.str (ar "told"),.int k],wg (SqT.of (s8 _ _ hu7)),wg (SqT.of ae),(kB (by decide +kernel) _).2,(kB (by decide +kernel) _).2,_,rfl,?_⟩
   rw[eqv_refl _ (kB (by decide +kernel) _).1]
   refine gf ?_;have x8:Step (λ_=>False) c7 (aH c7 t8 none) H7 (upd H7 t8 (.tup [.str (ar "told"),nV k])):=Step.new id ht8
   have w8:=w7.free (λ_=>id) x8
   have p8:=p7.step id x8;generalize upd H7 t8 (.tup [.str (ar "told"),nV k])=H8 at w8 p8 ⊢;generalize aH c7 t8 none=c8 at w8 p8;refine hide λGg hGg=>?_
   clear x8 s8 ht8 w7 p7 hu7 cu7;obtain⟨dx8,fs8,XQ,XR⟩:=w8.ob;refine hGg ?_
   try dsimp only[df]
   refine⟨_,rfl,o,dx8,fs8,rfl,XQ,XR _ (by decide +kernel),o,c8,st8,rfl,w8.ch,w8.JY (by decide),w8.stQ λns9 u9 l9 R9 l29 ys9 ds9 c9 H9 pm9 s9 x9 S9 w9=>?_⟩
   have p9:=p8.step id x9;clear s9 x9 w8 p8 XQ XR
   try dsimp only[df]
   refine oV (λσ' H'=>∃c',σ'=[some (.ref a),some (.int n),some (.ref o),some (nV k),some (.ref l1),some (.ref D1),v6,some (.int u),some (.ref u9),none]/\bT A o 0 [] (λ_=>.cls) n (N3+3) c' H' st8 (st8.au.map st8.mo)/\(c' l1=none/\H' l1=some (.lst (pl.map nV)))) ?r3 (λN1 m1=>?f3)
   case f3 =>
    refine ixv rfl (SqT.of S9.hu) rfl ⟨st8.closed,rfl,?_⟩;rw[cl8];refine gf (ixv rfl (SqT.of S9.hu) rfl ⟨_,rfl,g8 st8.au,g8 pl,oX (SqL.of S9.h1),oX (SqL.of p9.ph),C2 _,C2 _,_,rfl,?_⟩);rw[Nf,eqv_refl _ (DX pl)];refine gf (ixv rfl (SqT.of S9.hu) rfl ⟨(sl 0),λp10 XS=>?_⟩)
    have s10:=aK (o:=.lst []) XS;refine⟨.list [],.list [],DV.same s10 _ (as_none S9 pm9 as8),G1 (SqL.of ae),G0,G0,_,rfl,?_⟩;rw[eqv_refl _ (by simp only[rf,ra])]
    refine gf ?_;have x10:Step (λ_=>False) c9 (aH c9 p10 none) H9 (upd H9 p10 (.lst [])):=Step.new id XS
    have w10:=w9.free (λ_=>id) x10
    have G9:=p9.step id x10;generalize upd H9 p10 (.lst [])=H10 at w10 G9 ⊢;generalize aH c9 p10 none=c10 at w10 G9;refine⟨_,rfl,l1,rfl,⟨_,SqL.of G9.ph⟩,λD2 hD2=>XF (A:=A) (o:=o) (st:=st8) (ks:=pl) ?m2 w10.ch G9.ph ab7 kl hD2 λc11 H11 s11 x11 ab8 XT=>?q11⟩
    case m2 =>
     intro k' c' H' Q' ch' hn' q';refine hide λGg hGg=>?_
     obtain⟨dx,aM,aP,aA,aD,aF,aE,aR,ms,ds,ws,fs,es,X⟩:=ch'.ex;refine hGg ?_;exact mtv rfl X.ob (dJ (by decide +kernel)) ⟨_,rfl,o,k',c',st8,rfl,ch',hn',q'⟩
    case q11 =>
     rw[ems]at XT;refine⟨_,rfl,.list (ms.map mnD),.list (ms.map mnD),XT.dv,DV.same s11 _ G9.mo.dv,(G3 mok).2,(G3 mok).2,_,rfl,?_⟩;rw[eqv_refl _ (G3 mok).1];exact gf (m1 _ _ ⟨c11,rfl,⟨ab8,w10.f,w10.t⟩,ef x11 G9.pc G9.ph⟩)
   case r3 =>
    rintro σ4 H4 ⟨c4,rfl,w4,p4⟩;clear w9 p9 S9 pm9
    try dsimp only[df]
    refine oV (λσ' H'=>∃(v9:Option V) (c':Col) (st':Ch) (N':Nat),σ'=[some (.ref a),some (.int n),some (.ref o),some (nV k),some (.ref l1),some (.ref D1),v6,some (.int u),some (.ref u9),v9]/\N'<=790/\bT A o 0 [] (λ_=>.cls) n N' c' H' st' []) ?r4 (λN1 m1=>?f4)
    case f4 =>
     refine⟨_,rfl,l1,rfl,⟨_,SqL.of p4.2⟩,?_⟩;refine yt (K:=K) (a:=l1) (xs:=pl.map nV) (λi σ Hi=>∃(v9:Option V) (c:Col) (st:Ch) (N:Nat),σ=[some (.ref a),some (.int n),some (.ref o),some (nV k),some (.ref l1),some (.ref D1),v6,some (.int u),some (.ref u9),v9]/\N<=570+3 * i/\st.au.length=pl.length - i/\bT A o 0 [] (λ_=>.cls) n N c Hi st (st.au.map st.mo)/\(c l1=none/\Hi l1=some (.lst (pl.map nV))))
      ⟨_,c4,st8,N3+3,rfl,by omega,by rw[Nf];rfl,w4,p4⟩ (λi σ Hi _ ⟨_,_,_,_,_,_,_,_,h⟩=>SqL.of h.2) ?_ ?_
     ·rintro i y σ Hi hi ⟨v9,c,st,N,rfl,hN,hpl,wi,li⟩;have il:i < pl.length:=by
       have h:=(List.getElem?_eq_some_iff.mp hi).1;rw[cb]at h;exact h
      rcases aej st.au with e | ⟨pre,t,e⟩
      ·rw[e,afk]at hpl;omega
      ·rw[aek]at e;refine hide λGg hGg=>?_
       have f':Fl N n st (pre.map st.mo++[st.mo t]):=⟨wi.f.inv,wi.f.cH,by rw[e,ky];rfl,wi.f.cl⟩
       obtain⟨st2,e2,f2,t2,_,nn,ep⟩:=f'.drop wi.t;obtain⟨dx,fs,hob,hfs⟩:=wi.ob;refine hGg ?_
       try dsimp only[df]
       refine⟨_,rfl,o,dx,fs,rfl,hob,hfs _ (by decide +kernel),bT.drop wi (by omega) e2 λc2 H2 x2 ch2=>?_⟩
       refine⟨_,c2,st2,N+3,rfl,by omega,?_,⟨ch2,⟨f2.inv,f2.cH,rfl,f2.cl⟩,t2⟩,ef x2 li.1 li.2⟩
       rw[ep,kr,ad4]at hpl;omega
     ·rintro σ Hi ⟨v9,c,st,N,rfl,hN,hpl,wi,li⟩;rw[cb]at hN hpl;have e0:st.au=[]:=List.length_eq_zero_iff.mp (by omega)
      exact m1 _ _ ⟨v9,c,st,N,rfl,by omega,⟨wi.ch,⟨wi.f.inv,wi.f.cH,by rw[e0];rfl,wi.f.cl⟩,wi.t⟩⟩
    case r4 =>
     rintro σ5 H5 ⟨v9,c5,st5,N5,rfl,hN5,w5⟩;have e5:=JV w5.f w5.t.al k
     try dsimp only[df]
     refine⟨_,rfl,_,rfl,o,k,c5,st5,N5,rfl,w5.ch,w5.f.inv,by omega,by omega,by omega,λc6 H6 u6 x6 ch6 cu6 hu6=>?_⟩
     rw[aeP,e5]at hu6;refine⟨(sl 2),λt7 ht7=>?_⟩
     have s7:=aK (o:=.tup [.str (ar "none"),.int 0]) ht7;refine⟨.tuple [.str (ar "none"),.int 0],.tuple [.str (ar "none"),.int 0],wg (SqT.of (s7 _ _ hu6)),wg (SqT.of ae),(kB (by decide +kernel) _).2,(kB (by decide +kernel) _).2,?_⟩
     rw[eqv_refl _ (kB (by decide +kernel) _).1]
     exact q _
end
end My
set_option maxHeartbeats 1000000
namespace My
open PySem L2
seal PySem.wpAny
set_option maxHeartbeats 0 in
theorem all_mk {l:PySem.W.OpenLaw}{w:World}{K:ba}{h:Heap}{mg:Str->Option Value}{P:Params}{fa f_1 f_2 f_3 f_4 f_5 f_6 f_7 f_8 f_9 Ph Pj Pk Pl Pm Pn Po Pp Pq Pr Pt Pu Pw Px Py SM c0 c1 c2 c3 c4 c5 c6 c7 cm tb D3 D4 D5 D6 D7 D8 D9 Ea wQ zV Eb Ha Ec Ee Ef Eg Eh Ei Ej Ek El Em aX b9 bD bM bN cc bO bR bB br aO aT bE aY bx a8 a9 bz bq oZ eh ij ip ej jx jy eR ei iq lX i3 lY:Addr}(X:K.In h)(G:h.Ns gn mg)(hfa:mg "law"=some (.ref fa))(hP:w.params=P)
  {ab9 aca acb acd ace acf acg ach aci acj ack acn aco acp acq acr acs acu XU XW XX XY XZ X0 X9 Ya Yb Yc Yd Ye Yf Yg Yh Yi Yj Yk Yl Ym Yn Yo Yp Yq Yr Ys Yt Yu Yv Yw Yx Qj SN SO SQ SR SS SU SV SW SX SY S0 S1 S3 S5 S6 S7 Yy Yz YA YB Ta Tb YC YD Tc Td Te Tf Tg Th Ti Tj Tn To Tp Tq Ts Tt Tu Tv Tw Tx Tz TB wR wU wV wW wX wY wZ xa xb xc vC vD ur uu sN sO pP pQ jz jA lZ l5 uv uw n5 n6 qM qN mS mT mU mV qO qP En Eo Av Aw Ep Er:Option Addr} {acv acw acx acy acz acA acB acC acD YE YF YG YH YI YJ YK YL YM YN YO YQ YR YS YT YU TC TF TH TK TL TM TN TQ YV YW TR YX TU TV TX TY TZ T2 T3 T4 T5 T6 xg xh xj xl xm vE ux sP pR jB l6 uy n8 qQ mW mX qR Es Ax Et:Array (Option Value)} {acE acF acG acH YY acI acJ acK acL acM YZ acN acO acP acQ acR Y0 acS acT acU acV acW Y1 acX acY acZ ac8 ac9 Y2 ada adb ade adf adg Y3 adh adi adj adk adl Y4 adn ado adp adq ads Y5 adt adu adv adw adx Y6 ady Y7 Y8 Y9 Za Qk Zb Zc Zd Ze Zf Ql Zg Zh Zi Zj Zk Qm Zl Zm Zn Zo Zp Qn Zq Zr Zs Zt Zu Qo Zv Zw Zx Zy Zz Qp ZA ZC ZD ZE ZF Qq ZG ZH ZI ZJ ZK Qr ZL ZM ZN ZO ZP Qs ZQ ZR ZS ZT ZU Qt ZV ZW ZX ZY ZZ Qu Z0 Z1 Z2 Z3 Z4 Qv Z5 Z6 Z7 Z8 Z9 Qw aaa aab aac aad aae Qx aaf aag aah aai aaj Qy aak aal Qz QA QB Ng QC T7 T8 T9 Ua Nh Ub Uc Ud Ue Ug Ni Uh Ui Uj Uk Ul Nj Um Uo Up Uq Ur Nk Us Ut Uu Uv Uw Nl Ux Uy Uz UA UB Nm UC UD UE UG UH Nn UI UJ UK UL UM Np UN aam aan aao aap QD aaq aar aas aat aau QE aav UO UP UQ UR Nq US aaw aax aay aaz QF aaA UT UU UW UX Nr UY UZ U0 U4 U5 Nt U6 U7 U8 U9 Va Nu Vb Vc Vd Ve Vf Nv Vg Vh Vi Vj Vk Nw Vl Vm Vn Vo Vp Nx Vq Vr Vs Vt Vu Ny Vv Vw Vx Vy Vz Nz VA VB VC VD VE NA VF VG VH VI VJ NB VL xn xp xq xr pE xt xu xw xx xy pF xA xB xC xD xE pG xF xG xH xI xJ pH xK xM xN xO xP pI xQ vF vG vH vI n9 vJ uz uA uB uC mJ uD sQ sS sT sU l7 sV pS pT pU pV i6 pW jC jD jE jF eS jG md mf mh mi gA mj uE uF uG uH mK uI oa oe og oh iG oi qS qT qU qV j4 qW mY mZ m5 m7 g9 m8 m9 nc ng nh hG ni qX qY qZ q0 j5 q8 Eu Ew Ex Ey wk Ez Ay Az AA AB rW AD EA EB EC ED wm EE:Value} {jK tr0 tr1 tr2 tr3 tr4 tr5 tr6 tr7:Tok} {est:Array aeN} {nt:Nat} {C3:Addr} {NC:Value} {ND:Option Addr} {EF:Array aeN} {NF:Nat} {NG:Array (Option Value)} {mn:Addr} {xR:Value} {xS:Option Addr} {pJ:Array aeN} {xT:Nat} {xU:Array (Option Value)} {sW:Addr} {EG:Value} {EH:Option Addr} {wo:Array aeN} {EI:Nat} {EJ:Array (Option Value)} {sX:Addr} {EK:Value} {EL:Option Addr} {wq:Array aeN} {EM:Nat} {EN:Array (Option Value)} {vK:Addr} {Hb:Value} {Hc:Option Addr} {zW:Array aeN} {Hd:Nat} {He:Array (Option Value)} {vL:Addr} {Hf:Value} {Hg:Option Addr} {zX:Array aeN} {Hh:Nat} {Hk:Array (Option Value)} {vM:Addr} {Hl:Value} {Hm:Option Addr} {zY:Array aeN} {Hn:Nat} {Ho:Array (Option Value)} {sY:Addr} {EO:Value} {ER:Option Addr} {wu:Array aeN} {ES:Nat} {ET:Array (Option Value)} {zZ:Addr} {J3:Value} {J4:Option Addr} {BC:Array aeN} {J5:Nat} {J6:Array (Option Value)} {sZ:Addr} {EU:Value} {EV:Option Addr} {wy:Array aeN} {EW:Nat} {EX:Array (Option Value)} {Aa:Addr} {J7:Value} {J8:Option Addr} {BD:Array aeN} {J9:Nat} {Ka:Array (Option Value)} {NH Pz:Str} {NI:List Value} {NJ:List Str} {NK:List Value} {NL:Bool} {NM:Option Bool} {NN:Option Addr} {NO NP NQ NR NS:Option Value} {NT:Bool} {EY Hq:Str} {EZ:List Value} {E1:List Str} {E2:List Value} {E3:Bool} {E4:Option Bool} {E5:Option Addr} {E6 E7 E8 E9 Fb:Option Value} {Fc:Bool} {Fd Hr:Str} {Fe:List Value} {Ff:List Str} {Fg:List Value} {Fh:Bool} {Fi:Option Bool} {Fj:Option Addr} {Fm Fn Fo Fp Fq:Option Value} {Fs:Bool} {Hs Kb:Str} {Ht:List Value} {Hu:List Str} {Hv:List Value} {Hw:Bool} {Hx:Option Bool} {Hy:Option Addr} {Hz HA HB HC HD:Option Value} {HE:Bool} {HF Kc:Str} {HG:List Value} {HI:List Str} {HJ:List Value} {HK:Bool} {HL:Option Bool} {HM:Option Addr} {HN HP HQ HR HS:Option Value} {HU:Bool} {HV Kd:Str} {HW:List Value} {HX:List Str} {HY:List Value} {HZ:Bool} {Ia:Option Bool} {Ib:Option Addr} {Ic Ie Ig Ih Ii:Option Value} {Ij:Bool} {Ft Ik:Str} {Fu:List Value} {Fv:List Str} {Fw:List Value} {Fx:Bool} {Fy:Option Bool} {Fz:Option Addr} {FA FC FD FE FF:Option Value} {FG:Bool} {Ke NU:Str} {Kf:List Value} {Kg:List Str} {Kh:List Value} {Ki:Bool} {Kj:Option Bool} {Kk:Option Addr} {Kl Km Kn Ko Kp:Option Value}  {FH Il:Str} {FI:List Value} {FJ:List Str} {FK:List Value} {FL:Bool} {FN:Option Bool} {FO:Option Addr} {FP FQ FR FT FU:Option Value}  {Kq NV:Str} {Kr:List Value} {Ks:List Str} {Kt:List Value} {Ku:Bool} {Kv:Option Bool} {Kw:Option Addr} {Kx Ky Kz KA KC:Option Value}  {Ab:Value} {xV:Option Addr} {pK:ClassData} {xW:Array (Option Value)}
  (a_1:eg K gn "fits"=some (some (.ref f_1)))
  (l_1:K.lookup f_1=some ⟨acE,ab9,.func (fe "fits" "fits" (aC uT) (aB uT) (af uT) .none acF acG acH aca YY acI),acv⟩)
  (cc_1:di K YY "fits"=true)
  (kp_1:da K (.ref f_1)=true)
  (a_2:eg K gn "require_fit"=some (some (.ref f_2)))
  (l_2:K.lookup f_2=some ⟨acJ,acb,.func (fe "require_fit" "require_fit" (aC fU) (aB fU) (af fU) .none acK acL acM acd YZ acN),acw⟩)
  (cc_2:di K YZ "require_fit"=true)
  (kp_2:da K (.ref f_2)=true)
  (a_3:eg K gn "laid"=some (some (.ref f_3)))
  (l_3:K.lookup f_3=some ⟨acO,ace,.func (fe "laid" "laid" (aC uU) (aB uU) (af uU) .none acP acQ acR acf Y0 acS),acx⟩)
  (cc_3:di K Y0 "laid"=true)
  (kp_3:da K (.ref f_3)=true)
  (a_4:eg K gn "words_of"=some (some (.ref f_4)))
  (l_4:K.lookup f_4=some ⟨acT,acg,.func (fe "words_of" "words_of" (aC jc) (aB jc) (af jc) .none acU acV acW ach Y1 acX),acy⟩)
  (cc_4:di K Y1 "words_of"=true)
  (kp_4:da K (.ref f_4)=true)
  (a_5:eg K gn "clause_of"=some (some (.ref f_5)))
  (l_5:K.lookup f_5=some ⟨acY,aci,.func (fe "clause_of" "clause_of" (aC iy) (aB iy) (af iy) .none acZ ac8 ac9 acj Y2 ada),acz⟩)
  (cc_5:di K Y2 "clause_of"=true)
  (kp_5:da K (.ref f_5)=true)
  (a_6:eg K gn "motion_of"=some (some (.ref f_6)))
  (l_6:K.lookup f_6=some ⟨adb,ack,.func (fe "motion_of" "motion_of" (aC iz) (aB iz) (af iz) .none ade adf adg acn Y3 adh),acA⟩)
  (cc_6:di K Y3 "motion_of"=true)
  (kp_6:da K (.ref f_6)=true)
  (a_7:eg K gn "bar_of"=some (some (.ref f_7)))
  (l_7:K.lookup f_7=some ⟨adi,aco,.func (fe "bar_of" "bar_of" (aC nA) (aB nA) (af nA) .none adj adk adl acp Y4 adn),acB⟩)
  (cc_7:di K Y4 "bar_of"=true)
  (kp_7:da K (.ref f_7)=true)
  (a_8:eg K gn "has_matter"=some (some (.ref f_8)))
  (l_8:K.lookup f_8=some ⟨ado,acq,.func (fe "has_matter" "has_matter" (aC e9) (aB e9) (af e9) .none adp adq ads acr Y5 adt),acC⟩)
  (cc_8:di K Y5 "has_matter"=true)
  (kp_8:da K (.ref f_8)=true)
  (a_9:eg K gn "can_be_mended"=some (some (.ref f_9)))
  (l_9:K.lookup f_9=some ⟨adu,acs,.func (fe "can_be_mended" "can_be_mended" (aC dO) (aB dO) (af dO) .none adv adw adx acu Y6 ady),acD⟩)
  (cc_9:di K Y6 "can_be_mended"=true)
  (kp_9:da K (.ref f_9)=true)
  (a_10:eg K gn "has_what_it_needs"=some (some (.ref Ph)))
  (l_10:K.lookup Ph=some ⟨Y7,XU,.func (fe "has_what_it_needs" "has_what_it_needs" (aC cF) (aB cF) (af cF) .none Y8 Y9 Za XW Qk Zb),YE⟩)
  (jq59:di K Qk "has_what_it_needs"=true)
  (jq5a:da K (.ref Ph)=true)
  (a_11:eg K gn "require_in_order"=some (some (.ref Pj)))
  (l_11:K.lookup Pj=some ⟨Zc,XX,.func (fe "require_in_order" "require_in_order" (aC cM) (aB cM) (af cM) .none Zd Ze Zf XY Ql Zg),YF⟩)
  (jq5b:di K Ql "require_in_order"=true)
  (jq5c:da K (.ref Pj)=true)
  (a_12:eg K gn "words_of_text"=some (some (.ref Pk)))
  (l_12:K.lookup Pk=some ⟨Zh,XZ,.func (fe "words_of_text" "words_of_text" (aC dP) (aB dP) (af dP) .none Zi Zj Zk X0 Qm Zl),YG⟩)
  (jq5d:di K Qm "words_of_text"=true)
  (jq5e:da K (.ref Pk)=true)
  (a_13:eg K gn "words_of_edit"=some (some (.ref Pl)))
  (l_13:K.lookup Pl=some ⟨Zm,X9,.func (fe "words_of_edit" "words_of_edit" (aC dQ) (aB dQ) (af dQ) .none Zn Zo Zp Ya Qn Zq),YH⟩)
  (jq5f:di K Qn "words_of_edit"=true)
  (jq5g:da K (.ref Pl)=true)
  (a_14:eg K gn "words_behind"=some (some (.ref Pm)))
  (l_14:K.lookup Pm=some ⟨Zr,Yb,.func (fe "words_behind" "words_behind" (aC dB) (aB dB) (af dB) .none Zs Zt Zu Yc Qo Zv),YI⟩)
  (jq5h:di K Qo "words_behind"=true)
  (jq5i:da K (.ref Pm)=true)
  (a_15:eg K gn "show_deed"=some (some (.ref Pn)))
  (l_15:K.lookup Pn=some ⟨Zw,Yd,.func (fe "show_deed" "show_deed" (aC iA) (aB iA) (af iA) .none Zx Zy Zz Ye Qp ZA),YJ⟩)
  (jq5j:di K Qp "show_deed"=true)
  (jq5k:da K (.ref Pn)=true)
  (a_16:eg K gn "is_kept"=some (some (.ref Po)))
  (l_16:K.lookup Po=some ⟨ZC,Yf,.func (fe "is_kept" "is_kept" (aC k9) (aB k9) (af k9) .none ZD ZE ZF Yg Qq ZG),YK⟩)
  (jq5l:di K Qq "is_kept"=true)
  (jq5m:da K (.ref Po)=true)
  (a_17:eg K gn "_law_cell_at"=some (some (.ref Pp)))
  (l_17:K.lookup Pp=some ⟨ZH,Yh,.func (fe "_law_cell_at" "_law_cell_at" (aC iB) (aB iB) (af iB) .none ZI ZJ ZK Yi Qr ZL),YL⟩)
  (jq5n:di K Qr "_law_cell_at"=true)
  (jq5o:da K (.ref Pp)=true)
  (a_18:eg K gn "_law_word"=some (some (.ref Pq)))
  (l_18:K.lookup Pq=some ⟨ZM,Yj,.func (fe "_law_word" "_law_word" (aC nF) (aB nF) (af nF) .none ZN ZO ZP Yk Qs ZQ),YM⟩)
  (jq5p:di K Qs "_law_word"=true)
  (jq5q:da K (.ref Pq)=true)
  (a_19:eg K gn "_law_clause"=some (some (.ref Pr)))
  (l_19:K.lookup Pr=some ⟨ZR,Yl,.func (fe "_law_clause" "_law_clause" (aC je) (aB je) (af je) .none ZS ZT ZU Ym Qt ZV),YN⟩)
  (jq5r:di K Qt "_law_clause"=true)
  (jq5s:da K (.ref Pr)=true)
  (a_20:eg K gn "_law_seats"=some (some (.ref Pt)))
  (l_20:K.lookup Pt=some ⟨ZW,Yn,.func (fe "_law_seats" "_law_seats" (aC lb) (aB lb) (af lb) .none ZX ZY ZZ Yo Qu Z0),YO⟩)
  (jq5t:di K Qu "_law_seats"=true)
  (jq5u:da K (.ref Pt)=true)
  (a_21:eg K gn "_law_begun"=some (some (.ref Pu)))
  (l_21:K.lookup Pu=some ⟨Z1,Yp,.func (fe "_law_begun" "_law_begun" (aC jf) (aB jf) (af jf) .none Z2 Z3 Z4 Yq Qv Z5),YQ⟩)
  (jq5v:di K Qv "_law_begun"=true)
  (jq5w:da K (.ref Pu)=true)
  (a_22:eg K gn "_law_taken"=some (some (.ref Pw)))
  (l_22:K.lookup Pw=some ⟨Z6,Yr,.func (fe "_law_taken" "_law_taken" (aC lh) (aB lh) (af lh) .none Z7 Z8 Z9 Ys Qw aaa),YR⟩)
  (jq5x:di K Qw "_law_taken"=true)
  (jq5y:da K (.ref Pw)=true)
  (a_23:eg K gn "_law_other"=some (some (.ref Px)))
  (l_23:K.lookup Px=some ⟨aab,Yt,.func (fe "_law_other" "_law_other" (aC ll) (aB ll) (af ll) .none aac aad aae Yu Qx aaf),YS⟩)
  (jq5z:di K Qx "_law_other"=true)
  (jq5A:da K (.ref Px)=true)
  (a_24:eg K gn "_law_early"=some (some (.ref Py)))
  (l_24:K.lookup Py=some ⟨aag,Yv,.func (fe "_law_early" "_law_early" (aC lq) (aB lq) (af lq) .none aah aai aaj Yw Qy aak),YT⟩)
  (jq5B:di K Qy "_law_early"=true)
  (jq5C:da K (.ref Py)=true)
  (a_25:eg K gn "law"=some (some (.ref SM)))
  (l_25:K.lookup SM=some ⟨aal,Yx,.func (fe "law" "law" (aC qf) (aB qf) (af qf) .none Qz QA QB Qj Ng QC),YU⟩)
  (jq5D:di K Ng "law"=true)
  (jq5E:da K (.ref SM)=true)
  (z1:eg K gn "range"=some none)
  (z2:eg K gn "list"=some none)
  (z3:eg K gn "isinstance"=some none)
  (z4:eg K gn "len"=some none)
  (z5:eg K gn "max"=some none)
  (z6:eg K gn "any"=some none)
  (z7:eg K gn "str"=some none)
  (z8:eg K gn "sorted"=some none)
  (z9:eg K gn "int"=some none)
  (z10:eg K gn "bool"=some none)
  (z11:eg K gn "ValueError"=some none)
  (jq1N:eg K gn "CLOSED_BAR"=some (some (.int 4 jK)))
  (ac0:eg K gn "Matter"=some (some (.ref c0)))
  (ac1:eg K gn "Change"=some (some (.ref c1)))
  (ac2:eg K gn "Mend"=some (some (.ref c2)))
  (ac3:eg K gn "PutOff"=some (some (.ref c3)))
  (ac4:eg K gn "Close"=some (some (.ref c4)))
  (ac5:eg K gn "Lay"=some (some (.ref c5)))
  (ac6:eg K gn "Rest"=some (some (.ref c6)))
  (ac7:eg K gn "Point"=some (some (.ref c7)))
  (acm:eg K gn "Motion"=some (some (.ref cm)))
  (atb:eg K gn "RANKS"=some (some (.ref tb)))
  (ltb:K.lookup tb=some ⟨.type "dict",none,.dict est nt,#[]⟩)
  (ktb:PySem.W.KeysLit P est.toList)
  (rk0:eg K tb (ar "matter")=some (some (.int 0 tr0)))
  (rk1:eg K tb (ar "change")=some (some (.int 1 tr1)))
  (rk2:eg K tb (ar "mend")=some (some (.int 2 tr2)))
  (rk3:eg K tb (ar "put off")=some (some (.int 3 tr3)))
  (rk4:eg K tb (ar "close")=some (some (.int 4 tr4)))
  (rk5:eg K tb (ar "lay")=some (some (.int 5 tr5)))
  (rk6:eg K tb (ar "rest")=some (some (.int 6 tr6)))
  (rk7:eg K tb (ar "point")=some (some (.int 7 tr7)))
  (pg0:aeo K c0 ael=true)
  (hd0:aeb K c0=true)
  (po0:aev K c0=true)
  (sa0:bo K (.ref c0) "__setattr__"=some (some (.builtin "object.__setattr__")))
  (mk0:aeA K c0=true)
  (kc0:da K (.ref c0)=true)
  (pg1:aeo K c1 ael=true)
  (hd1:aeb K c1=true)
  (po1:aev K c1=true)
  (sa1:bo K (.ref c1) "__setattr__"=some (some (.builtin "object.__setattr__")))
  (mk1:aeA K c1=true)
  (kc1:da K (.ref c1)=true)
  (pg2:aeo K c2 ael=true)
  (hd2:aeb K c2=true)
  (po2:aev K c2=true)
  (sa2:bo K (.ref c2) "__setattr__"=some (some (.builtin "object.__setattr__")))
  (mk2:aeA K c2=true)
  (kc2:da K (.ref c2)=true)
  (pg3:aeo K c3 ael=true)
  (hd3:aeb K c3=true)
  (po3:aev K c3=true)
  (sa3:bo K (.ref c3) "__setattr__"=some (some (.builtin "object.__setattr__")))
  (mk3:aeA K c3=true)
  (kc3:da K (.ref c3)=true)
  (pg4:aeo K c4 ael=true)
  (hd4:aeb K c4=true)
  (po4:aev K c4=true)
  (sa4:bo K (.ref c4) "__setattr__"=some (some (.builtin "object.__setattr__")))
  (mk4:aeA K c4=true)
  (kc4:da K (.ref c4)=true)
  (pg5:aeo K c5 ael=true)
  (hd5:aeb K c5=true)
  (po5:aev K c5=true)
  (sa5:bo K (.ref c5) "__setattr__"=some (some (.builtin "object.__setattr__")))
  (mk5:aeA K c5=true)
  (kc5:da K (.ref c5)=true)
  (pg6:aeo K c6 ael=true)
  (hd6:aeb K c6=true)
  (po6:aev K c6=true)
  (sa6:bo K (.ref c6) "__setattr__"=some (some (.builtin "object.__setattr__")))
  (mk6:aeA K c6=true)
  (kc6:da K (.ref c6)=true)
  (pg7:aeo K c7 ael=true)
  (hd7:aeb K c7=true)
  (po7:aev K c7=true)
  (sa7:bo K (.ref c7) "__setattr__"=some (some (.builtin "object.__setattr__")))
  (mk7:aeA K c7=true)
  (kc7:da K (.ref c7)=true)
  (jq3A:bo K (.ref c0) "kind"=some (some (.ref D3)))
  (jq5F:K.lookup D3=some ⟨T7,SN,.func (fe "kind" "Matter.kind" (aC fE) (aB fE) (af fE) .none T8 T9 Ua SO Nh Ub),TC⟩)
  (jq4a:di K Nh "Matter.kind"=true)
  (jq3B:da K (.ref D3)=true)
  (jq4b:kq K (.ref D3)=true)
  (jq3C:bo K (.ref c1) "kind"=some (some (.ref D4)))
  (jq5G:K.lookup D4=some ⟨Uc,SQ,.func (fe "kind" "Change.kind" (aC fF) (aB fF) (af fF) .none Ud Ue Ug SR Ni Uh),TF⟩)
  (jq4c:di K Ni "Change.kind"=true)
  (jq3D:da K (.ref D4)=true)
  (jq4d:kq K (.ref D4)=true)
  (jq3E:bo K (.ref c2) "kind"=some (some (.ref D5)))
  (jq5H:K.lookup D5=some ⟨Ui,SS,.func (fe "kind" "Mend.kind" (aC ir) (aB ir) (af ir) .none Uj Uk Ul SU Nj Um),TH⟩)
  (jq4e:di K Nj "Mend.kind"=true)
  (jq3F:da K (.ref D5)=true)
  (jq4f:kq K (.ref D5)=true)
  (jq3G:bo K (.ref c3) "kind"=some (some (.ref D6)))
  (jq5I:K.lookup D6=some ⟨Uo,SV,.func (fe "kind" "PutOff.kind" (aC fG) (aB fG) (af fG) .none Up Uq Ur SW Nk Us),TK⟩)
  (jq4g:di K Nk "PutOff.kind"=true)
  (jq3H:da K (.ref D6)=true)
  (jq4h:kq K (.ref D6)=true)
  (jq3I:bo K (.ref c4) "kind"=some (some (.ref D7)))
  (jq5J:K.lookup D7=some ⟨Ut,SX,.func (fe "kind" "Close.kind" (aC gF) (aB gF) (af gF) .none Uu Uv Uw SY Nl Ux),TL⟩)
  (jq4i:di K Nl "Close.kind"=true)
  (jq3J:da K (.ref D7)=true)
  (jq4j:kq K (.ref D7)=true)
  (jq3K:bo K (.ref c5) "kind"=some (some (.ref D8)))
  (jq5K:K.lookup D8=some ⟨Uy,S0,.func (fe "kind" "Lay.kind" (aC jb) (aB jb) (af jb) .none Uz UA UB S1 Nm UC),TM⟩)
  (jq4k:di K Nm "Lay.kind"=true)
  (jq3L:da K (.ref D8)=true)
  (jq4l:kq K (.ref D8)=true)
  (jq3M:bo K (.ref c6) "kind"=some (some (.ref D9)))
  (jq5L:K.lookup D9=some ⟨UD,S3,.func (fe "kind" "Rest.kind" (aC iu) (aB iu) (af iu) .none UE UG UH S5 Nn UI),TN⟩)
  (jq4m:di K Nn "Rest.kind"=true)
  (jq3N:da K (.ref D9)=true)
  (jq4n:kq K (.ref D9)=true)
  (jq3O:bo K (.ref c7) "kind"=some (some (.ref Ea)))
  (jq5M:K.lookup Ea=some ⟨UJ,S6,.func (fe "kind" "Point.kind" (aC gG) (aB gG) (af gG) .none UK UL UM S7 Np UN),TQ⟩)
  (jq4o:di K Np "Point.kind"=true)
  (jq3P:da K (.ref Ea)=true)
  (jq4p:kq K (.ref Ea)=true)
  (jq4q:bo K (.ref c0) "rank"=some (some (.ref wQ)))
  (jq4r:bo K (.ref c1) "rank"=some (some (.ref wQ)))
  (jq4s:bo K (.ref c2) "rank"=some (some (.ref wQ)))
  (jq4t:bo K (.ref c3) "rank"=some (some (.ref wQ)))
  (jq4u:bo K (.ref c4) "rank"=some (some (.ref wQ)))
  (jq4v:bo K (.ref c5) "rank"=some (some (.ref wQ)))
  (jq4w:bo K (.ref c6) "rank"=some (some (.ref wQ)))
  (jq4x:bo K (.ref c7) "rank"=some (some (.ref wQ)))
  (l_mr:K.lookup wQ=some ⟨aam,Yy,.func (fe "rank" "Motion.rank" (aC fH) (aB fH) (af fH) .none aan aao aap Yz QD aaq),YV⟩)
  (jq5N:di K QD "Motion.rank"=true)
  (jq1S:da K (.ref wQ)=true)
  (jq2o:kq K (.ref wQ)=true)
  (jq4y:bo K (.ref c0) "need"=some (some (.ref zV)))
  (jq4z:bo K (.ref c1) "need"=some (some (.ref zV)))
  (jq4A:bo K (.ref c2) "need"=some (some (.ref zV)))
  (jq4B:bo K (.ref c3) "need"=some (some (.ref zV)))
  (jq4C:bo K (.ref c5) "need"=some (some (.ref zV)))
  (jq4D:bo K (.ref c6) "need"=some (some (.ref zV)))
  (jq4E:bo K (.ref c7) "need"=some (some (.ref zV)))
  (l_mn:K.lookup zV=some ⟨aar,YA,.func (fe "need" "Motion.need" (aC fJ) (aB fJ) (af fJ) .none aas aat aau YB QE aav),YW⟩)
  (jq5O:di K QE "Motion.need"=true)
  (jq2p:da K (.ref zV)=true)
  (jq2Q:kq K (.ref zV)=true)
  (jq3Q:bo K (.ref c4) "need"=some (some (.ref Eb)))
  (jq5P:K.lookup Eb=some ⟨UO,Ta,.func (fe "need" "Close.need" (aC gH) (aB gH) (af gH) .none UP UQ UR Tb Nq US),TR⟩)
  (jq4F:di K Nq "Close.need"=true)
  (jq3R:da K (.ref Eb)=true)
  (jq4G:kq K (.ref Eb)=true)
  (jq4H:bo K (.ref c4) "told"=some (some (.ref Ha)))
  (jq4I:bo K (.ref c5) "told"=some (some (.ref Ha)))
  (jq4J:bo K (.ref c6) "told"=some (some (.ref Ha)))
  (l_mt:K.lookup Ha=some ⟨aaw,YC,.func (fe "told" "Motion.told" (aC fK) (aB fK) (af fK) .none aax aay aaz YD QF aaA),YX⟩)
  (jq5Q:di K QF "Motion.told"=true)
  (jq3y:da K (.ref Ha)=true)
  (jq47:kq K (.ref Ha)=true)
  (jq3S:bo K (.ref c0) "told"=some (some (.ref Ec)))
  (jq5R:K.lookup Ec=some ⟨UT,Tc,.func (fe "told" "Matter.told" (aC fL) (aB fL) (af fL) .none UU UW UX Td Nr UY),TU⟩)
  (jq4K:di K Nr "Matter.told"=true)
  (jq3T:da K (.ref Ec)=true)
  (jq4L:kq K (.ref Ec)=true)
  (jq3U:bo K (.ref c1) "told"=some (some (.ref Ee)))
  (jq5S:K.lookup Ee=some ⟨UZ,Te,.func (fe "told" "Change.told" (aC fM) (aB fM) (af fM) .none U0 U4 U5 Tf Nt U6),TV⟩)
  (jq4M:di K Nt "Change.told"=true)
  (jq3V:da K (.ref Ee)=true)
  (jq4N:kq K (.ref Ee)=true)
  (jq3W:bo K (.ref c2) "told"=some (some (.ref Ef)))
  (jq5T:K.lookup Ef=some ⟨U7,Tg,.func (fe "told" "Mend.told" (aC iw) (aB iw) (af iw) .none U8 U9 Va Th Nu Vb),TX⟩)
  (jq4O:di K Nu "Mend.told"=true)
  (jq3X:da K (.ref Ef)=true)
  (jq4P:kq K (.ref Ef)=true)
  (jq3Y:bo K (.ref c3) "told"=some (some (.ref Eg)))
  (jq5U:K.lookup Eg=some ⟨Vc,Ti,.func (fe "told" "PutOff.told" (aC fN) (aB fN) (af fN) .none Vd Ve Vf Tj Nv Vg),TY⟩)
  (jq4Q:di K Nv "PutOff.told"=true)
  (jq3Z:da K (.ref Eg)=true)
  (jq4R:kq K (.ref Eg)=true)
  (jq40:bo K (.ref c7) "told"=some (some (.ref Eh)))
  (jq5V:K.lookup Eh=some ⟨Vh,Tn,.func (fe "told" "Point.told" (aC gI) (aB gI) (af gI) .none Vi Vj Vk To Nw Vl),TZ⟩)
  (jq4S:di K Nw "Point.told"=true)
  (jq41:da K (.ref Eh)=true)
  (jq4T:kq K (.ref Eh)=true)
  (jq42:bo K (.ref c0) "__init__"=some (some (.ref Ei)))
  (jq5W:K.lookup Ei=some ⟨Vm,Tp,.func (fe "__init__" "Matter.__init__" (aC fO) (aB fO) (af fO) .none Vn Vo Vp Tq Nx Vq),T2⟩)
  (jq4U:di K Nx "Matter.__init__"=true)
  (jq4V:da K (.ref Ei)=true)
  (jq4W:kq K (.ref Ei)=true)
  (jq43:bo K (.ref c1) "__init__"=some (some (.ref Ej)))
  (jq5X:K.lookup Ej=some ⟨Vr,Ts,.func (fe "__init__" "Change.__init__" (aC fP) (aB fP) (af fP) .none Vs Vt Vu Tt Ny Vv),T3⟩)
  (jq4X:di K Ny "Change.__init__"=true)
  (jq4Y:da K (.ref Ej)=true)
  (jq4Z:kq K (.ref Ej)=true)
  (jq44:bo K (.ref c2) "__init__"=some (some (.ref Ek)))
  (jq5Y:K.lookup Ek=some ⟨Vw,Tu,.func (fe "__init__" "Mend.__init__" (aC ix) (aB ix) (af ix) .none Vx Vy Vz Tv Nz VA),T4⟩)
  (jq50:di K Nz "Mend.__init__"=true)
  (jq51:da K (.ref Ek)=true)
  (jq52:kq K (.ref Ek)=true)
  (jq45:bo K (.ref c3) "__init__"=some (some (.ref El)))
  (jq5Z:K.lookup El=some ⟨VB,Tw,.func (fe "__init__" "PutOff.__init__" (aC fQ) (aB fQ) (af fQ) .none VC VD VE Tx NA VF),T5⟩)
  (jq53:di K NA "PutOff.__init__"=true)
  (jq54:da K (.ref El)=true)
  (jq55:kq K (.ref El)=true)
  (jq46:bo K (.ref c7) "__init__"=some (some (.ref Em)))
  (jq60:K.lookup Em=some ⟨VG,Tz,.func (fe "__init__" "Point.__init__" (aC gJ) (aB gJ) (af gJ) .none VH VI VJ TB NB VL),T6⟩)
  (jq56:di K NB "Point.__init__"=true)
  (jq57:da K (.ref Em)=true)
  (jq58:kq K (.ref Em)=true)
  (na0:bo K (.ref c0) "text"=some none)
  (na1:bo K (.ref c1) "edit"=some none)
  (na2:bo K (.ref c2) "edit"=some none)
  (na3:bo K (.ref c3) "sitting"=some none)
  (na7:bo K (.ref c7) "clause"=some none)
  (ni4:bo K (.ref c4) "__init__"=some (some (.builtin "object.__init__")))
  (ni5:bo K (.ref c5) "__init__"=some (some (.builtin "object.__init__")))
  (ni6:bo K (.ref c6) "__init__"=some (some (.builtin "object.__init__")))
  (jq2q:eg K gn "Chamber"=some (some (.ref aX)))
  (jq2r:aeo K aX ael=true)
  (jq2s:aeb K aX=true)
  (jq2t:aev K aX=true)
  (jq2u:bo K (.ref aX) "__setattr__"=some (some (.builtin "object.__setattr__")))
  (jq2v:aeA K aX=true)
  (jq2w:da K (.ref aX)=true)
  (jq1p:bo K (.ref aX) "__init__"=some (some (.ref b9)))
  (jq1H:K.lookup b9=some ⟨xn,wR,.func (fe "__init__" "Chamber.__init__" (aC eC) (aB eC) (af eC) .none xp xq xr wU pE xt),xg⟩)
  (jq1q:di K pE "Chamber.__init__"=true)
  (jq1r:da K (.ref b9)=true)
  (jq1s:kq K (.ref b9)=true)
  (jq1t:bo K (.ref aX) "move"=some (some (.ref bD)))
  (jq1I:K.lookup bD=some ⟨xu,wV,.func (fe "move" "Chamber.move" (aC eD) (aB eD) (af eD) .none xw xx xy wW pF xA),xh⟩)
  (jq1u:di K pF "Chamber.move"=true)
  (jq13:da K (.ref bD)=true)
  (jq1v:kq K (.ref bD)=true)
  (jq1w:bo K (.ref aX) "vote"=some (some (.ref bM)))
  (jq1J:K.lookup bM=some ⟨xB,wX,.func (fe "vote" "Chamber.vote" (aC eE) (aB eE) (af eE) .none xC xD xE wY pG xF),xj⟩)
  (jq1x:di K pG "Chamber.vote"=true)
  (jq14:da K (.ref bM)=true)
  (jq1y:kq K (.ref bM)=true)
  (jq1z:bo K (.ref aX) "drop"=some (some (.ref bN)))
  (jq1K:K.lookup bN=some ⟨xG,wZ,.func (fe "drop" "Chamber.drop" (aC eF) (aB eF) (af eF) .none xH xI xJ xa pH xK),xl⟩)
  (jq1A:di K pH "Chamber.drop"=true)
  (jq15:da K (.ref bN)=true)
  (jq1B:kq K (.ref bN)=true)
  (jq1C:bo K (.ref aX) "take"=some (some (.ref cc)))
  (jq1L:K.lookup cc=some ⟨xM,xb,.func (fe "take" "Chamber.take" (aC eG) (aB eG) (af eG) .none xN xO xP xc pI xQ),xm⟩)
  (jq1D:di K pI "Chamber.take"=true)
  (jq16:da K (.ref cc)=true)
  (jq1E:kq K (.ref cc)=true)
  (jq1h:bo K (.ref aX) "state"=some (some (.ref bO)))
  (jq1F:K.lookup bO=some ⟨vF,vC,.func (fe "state" "Chamber.state" (aC cZ) (aB cZ) (af cZ) .none vG vH vI vD n9 vJ),vE⟩)
  (jq1i:di K n9 "Chamber.state"=true)
  (jq10:da K (.ref bO)=true)
  (jq1j:kq K (.ref bO)=true)
  (jq1a:bo K (.ref aX) "motion"=some (some (.ref bR)))
  (jq1k:K.lookup bR=some ⟨uz,ur,.func (fe "motion" "Chamber.motion" (aC du) (aB du) (af du) .none uA uB uC uu mJ uD),ux⟩)
  (jq1b:di K mJ "Chamber.motion"=true)
  (jqR:da K (.ref bR)=true)
  (jq1c:kq K (.ref bR)=true)
  (jq17:bo K (.ref aX) "pending"=some (some (.ref bB)))
  (jq1d:K.lookup bB=some ⟨sQ,sN,.func (fe "pending" "Chamber.pending" (aC cx) (aB cx) (af cx) .none sS sT sU sO l7 sV),sP⟩)
  (jq18:di K l7 "Chamber.pending"=true)
  (jqM:da K (.ref bB)=true)
  (jq19:kq K (.ref bB)=true)
  (jqO:bo K (.ref aX) "told_aside"=some (some (.ref br)))
  (jqT:K.lookup br=some ⟨pS,pP,.func (fe "told_aside" "Chamber.told_aside" (aC cf) (aB cf) (af cf) .none pT pU pV pQ i6 pW),pR⟩)
  (jqP:di K i6 "Chamber.told_aside"=true)
  (jqx:da K (.ref br)=true)
  (jqQ:kq K (.ref br)=true)
  (jqi:bo K (.ref aX) "require_can_be_made"=some (some (.ref aO)))
  (jqn:K.lookup aO=some ⟨jC,jz,.func (fe "require_can_be_made" "Chamber.require_can_be_made" (aC bw) (aB bw) (af bw) .none jD jE jF jA eS jG),jB⟩)
  (jqj:di K eS "Chamber.require_can_be_made"=true)
  (jqe:da K (.ref aO)=true)
  (jqk:kq K (.ref aO)=true)
  (jqu:bo K (.ref aX) "require_pending"=some (some (.ref aT)))
  (jqy:K.lookup aT=some ⟨md,lZ,.func (fe "require_pending" "Chamber.require_pending" (aC bL) (aB bL) (af bL) .none mf mh mi l5 gA mj),l6⟩)
  (jqv:di K gA "Chamber.require_pending"=true)
  (jqf:da K (.ref aT)=true)
  (jqw:kq K (.ref aT)=true)
  (jq1e:bo K (.ref aX) "decide"=some (some (.ref bE)))
  (jq1l:K.lookup bE=some ⟨uE,uv,.func (fe "decide" "Chamber.decide" (aC dz) (aB dz) (af dz) .none uF uG uH uw mK uI),uy⟩)
  (jq1f:di K mK "Chamber.decide"=true)
  (jqS:da K (.ref bE)=true)
  (jq1g:kq K (.ref bE)=true)
  (jqH:bo K (.ref aX) "end_decision"=some (some (.ref aY)))
  (jqN:K.lookup aY=some ⟨oa,n5,.func (fe "end_decision" "Chamber.end_decision" (aC bZ) (aB bZ) (af bZ) .none oe og oh n6 iG oi),n8⟩)
  (jqI:di K iG "Chamber.end_decision"=true)
  (jqq:da K (.ref aY)=true)
  (jqJ:kq K (.ref aY)=true)
  (jqU:bo K (.ref aX) "carry_out"=some (some (.ref bx)))
  (jq11:K.lookup bx=some ⟨qS,qM,.func (fe "carry_out" "Chamber.carry_out" (aC cC) (aB cC) (af cC) .none qT qU qV qN j4 qW),qQ⟩)
  (jqV:di K j4 "Chamber.carry_out"=true)
  (jqz:da K (.ref bx)=true)
  (jqW:kq K (.ref bx)=true)
  (jqB:bo K (.ref aX) "lay_on_matter"=some (some (.ref a8)))
  (jqK:K.lookup a8=some ⟨mY,mS,.func (fe "lay_on_matter" "Chamber.lay_on_matter" (aC bU) (aB bU) (af bU) .none mZ m5 m7 mT g9 m8),mW⟩)
  (jqC:di K g9 "Chamber.lay_on_matter"=true)
  (jql:da K (.ref a8)=true)
  (jqD:kq K (.ref a8)=true)
  (jqE:bo K (.ref aX) "lay_on_change"=some (some (.ref a9)))
  (jqL:K.lookup a9=some ⟨m9,mU,.func (fe "lay_on_change" "Chamber.lay_on_change" (aC bV) (aB bV) (af bV) .none nc ng nh mV hG ni),mX⟩)
  (jqF:di K hG "Chamber.lay_on_change"=true)
  (jqm:da K (.ref a9)=true)
  (jqG:kq K (.ref a9)=true)
  (jqX:bo K (.ref aX) "put_aside"=some (some (.ref bz)))
  (jq12:K.lookup bz=some ⟨qX,qO,.func (fe "put_aside" "Chamber.put_aside" (aC cE) (aB cE) (af cE) .none qY qZ q0 qP j5 q8),qR⟩)
  (jqY:di K j5 "Chamber.put_aside"=true)
  (jqA:da K (.ref bz)=true)
  (jqZ:kq K (.ref bz)=true)
  (jqg:bo K (.ref aX) "seats"=some none)
  (jq1:bo K (.ref aX) "sitting"=some none)
  (jq4:bo K (.ref aX) "closed"=some none)
  (jq2:bo K (.ref aX) "made"=some none)
  (jq0:bo K (.ref aX) "pile"=some none)
  (jq3:bo K (.ref aX) "aside"=some none)
  (jqc:bo K (.ref aX) "decided"=some none)
  (jqb:bo K (.ref aX) "first_texts"=some none)
  (jq5:bo K (.ref aX) "edits_kept"=some none)
  (jqd:bo K (.ref aX) "rows"=some none)
  (jq1G:eg K gn "ChamberError"=some (some (.ref bq)))
  (jq3n:eg K gn "NoFit"=some (some (.ref oZ)))
  (jq2U:eg K gn "Barred"=some (some (.ref eh)))
  (jq1T:eg K gn "NoMatter"=some (some (.ref ij)))
  (jq1U:eg K gn "NoChange"=some (some (.ref ip)))
  (jq1V:eg K gn "NotLater"=some (some (.ref ej)))
  (jq2x:eg K gn "Nothing"=some (some (.ref jx)))
  (jq2y:eg K gn "TooMany"=some (some (.ref jy)))
  (jq2z:eg K gn "NoAside"=some (some (.ref eR)))
  (jq2V:eg K gn "NotYet"=some (some (.ref ei)))
  (jq1W:eg K gn "NoNumber"=some (some (.ref iq)))
  (jq3o:K.lookup oZ=some (aep NH Pz oZ C3 NI (.ref bq::o8) NT NJ NK NL NM NN NO NP NQ NR NS "ValueError.__new__"))
  (jq1X:K.lookup ij=some (aep EY Hq ij sW EZ (.ref bq::o8) Fc E1 E2 E3 E4 E5 E6 E7 E8 E9 Fb "ValueError.__new__"))
  (jq1Y:K.lookup ip=some (aep Fd Hr ip sX Fe (.ref bq::o8) Fs Ff Fg Fh Fi Fj Fm Fn Fo Fp Fq "ValueError.__new__"))
  (jq2A:K.lookup jx=some (aep Hs Kb jx vK Ht (.ref bq::o8) HE Hu Hv Hw Hx Hy Hz HA HB HC HD "ValueError.__new__"))
  (jq2B:K.lookup jy=some (aep HF Kc jy vL HG (.ref bq::o8) HU HI HJ HK HL HM HN HP HQ HR HS "ValueError.__new__"))
  (jq2C:K.lookup eR=some (aep HV Kd eR vM HW (.ref bq::o8) Ij HX HY HZ Ia Ib Ic Ie Ig Ih Ii "ValueError.__new__"))
  (jq1Z:K.lookup iq=some (aep Ft Ik iq sY Fu (.ref bq::o8) FG Fv Fw Fx Fy Fz FA FC FD FE FF "ValueError.__new__"))
  (jq2W:K.lookup eh=some (aep Ke NU eh zZ Kf (.ref bq::o8) true Kg Kh Ki Kj Kk Kl Km Kn Ko Kp "ValueError.__new__"))
  (jq20:K.lookup ej=some (aep FH Il ej sZ FI (.ref bq::o8) true FJ FK FL FN FO FP FQ FR FT FU "ValueError.__new__"))
  (jq2X:K.lookup ei=some (aep Kq NV ei Aa Kr (.ref bq::o8) true Ks Kt Ku Kv Kw Kx Ky Kz KA KC "ValueError.__new__"))
  (jq6:K.lookup bq=some ⟨Ab,xV,.cls pK,xW⟩)
  (jq7:pK.ns=mn)
  (jq3p:K.lookup C3=some ⟨NC,ND,.dict EF NF,NG⟩)
  (jq3q:strKeys EF=true)
  (jq3r:eg K C3 "__init__"=some none)
  (jq8:K.lookup mn=some ⟨xR,xS,.dict pJ xT,xU⟩)
  (jq9:strKeys pJ=true)
  (jqa:eg K mn "__init__"=some none)
  (jq21:K.lookup sW=some ⟨EG,EH,.dict wo EI,EJ⟩)
  (jq22:strKeys wo=true)
  (jq23:eg K sW "__init__"=some none)
  (jq24:K.lookup sX=some ⟨EK,EL,.dict wq EM,EN⟩)
  (jq25:strKeys wq=true)
  (jq26:eg K sX "__init__"=some none)
  (jq2D:K.lookup vK=some ⟨Hb,Hc,.dict zW Hd,He⟩)
  (jq2E:strKeys zW=true)
  (jq2F:eg K vK "__init__"=some none)
  (jq2G:K.lookup vL=some ⟨Hf,Hg,.dict zX Hh,Hk⟩)
  (jq2H:strKeys zX=true)
  (jq2I:eg K vL "__init__"=some none)
  (jq2J:K.lookup vM=some ⟨Hl,Hm,.dict zY Hn,Ho⟩)
  (jq2K:strKeys zY=true)
  (jq2L:eg K vM "__init__"=some none)
  (jq27:K.lookup sY=some ⟨EO,ER,.dict wu ES,ET⟩)
  (jq28:strKeys wu=true)
  (jq29:eg K sY "__init__"=some none)
  (jq2Y:K.lookup zZ=some ⟨J3,J4,.dict BC J5,J6⟩)
  (jq2Z:strKeys BC=true)
  (jq30:eg K zZ "__init__"=some (some (.ref lX)))
  (jq2a:K.lookup sZ=some ⟨EU,EV,.dict wy EW,EX⟩)
  (jq2b:strKeys wy=true)
  (jq2c:eg K sZ "__init__"=some (some (.ref i3)))
  (jq31:K.lookup Aa=some ⟨J7,J8,.dict BD J9,Ka⟩)
  (jq32:strKeys BD=true)
  (jq33:eg K Aa "__init__"=some (some (.ref lY)))
  (jq1m:PySem.W.readsIn K bq (.type "type")=true)
  (jq1n:PySem.W.specialIn K (.ref bq) "__getattribute__"=some (some (.builtin "type.__getattribute__")))
  (jq1o:PySem.W.findCls K (.ref bq) (.type "type") "__init__"=some (.val (.builtin "ValueError.__init__")))
  (jq48:bo K (.ref oZ) "__getattribute__"=some (some (.builtin "BaseException.__getattribute__")))
  (jq3z:bo K (.ref oZ) "__getattr__"=some none)
  (jq49:aeB K oZ (.type "BaseException")=some true)
  (jq3e:bo K (.ref ij) "__getattribute__"=some (some (.builtin "BaseException.__getattribute__")))
  (jq2R:bo K (.ref ij) "__getattr__"=some none)
  (jq3f:aeB K ij (.type "BaseException")=some true)
  (jq3g:bo K (.ref ip) "__getattribute__"=some (some (.builtin "BaseException.__getattribute__")))
  (jq2S:bo K (.ref ip) "__getattr__"=some none)
  (jq3h:aeB K ip (.type "BaseException")=some true)
  (jq3s:bo K (.ref jx) "__getattribute__"=some (some (.builtin "BaseException.__getattribute__")))
  (jq3i:bo K (.ref jx) "__getattr__"=some none)
  (jq3t:aeB K jx (.type "BaseException")=some true)
  (jq3u:bo K (.ref jy) "__getattribute__"=some (some (.builtin "BaseException.__getattribute__")))
  (jq3j:bo K (.ref jy) "__getattr__"=some none)
  (jq3v:aeB K jy (.type "BaseException")=some true)
  (jq3w:bo K (.ref eR) "__getattribute__"=some (some (.builtin "BaseException.__getattribute__")))
  (jq3k:bo K (.ref eR) "__getattr__"=some none)
  (jq3x:aeB K eR (.type "BaseException")=some true)
  (jqo:aeh K (.ref eR) (.ref eh)=some false)
  (jqp:aeh K (.ref eR) (.ref ei)=some false)
  (jqh:aeh K (.ref eR) (.ref eR)=some true)
  (jq3l:bo K (.ref iq) "__getattribute__"=some (some (.builtin "BaseException.__getattribute__")))
  (jq2T:bo K (.ref iq) "__getattr__"=some none)
  (jq3m:aeB K iq (.type "BaseException")=some true)
  (jq34:bo K (.ref eh) "__getattribute__"=some (some (.builtin "BaseException.__getattribute__")))
  (jq2M:bo K (.ref eh) "__getattr__"=some none)
  (jq35:aeB K eh (.type "BaseException")=some true)
  (jq2N:K.lookup lX=some ⟨Eu,En,.func (fe "__init__" "Barred.__init__" (aC fR) (aB fR) (af fR) .none Ew Ex Ey Eo wk Ez),Es⟩)
  (jq2d:di K wk "Barred.__init__"=true)
  (jq2e:da K (.ref lX)=true)
  (jq36:kq K (.ref lX)=true)
  (jq37:bo K (.ref eh) "__setattr__"=some (some (.builtin "object.__setattr__")))
  (jq2m:bo K (.ref eh) "bar"=some none)
  (jq38:aeb K eh=true)
  (jqr:aeh K (.ref eh) (.ref eh)=some true)
  (jq2f:bo K (.ref ej) "__getattribute__"=some (some (.builtin "BaseException.__getattribute__")))
  (jq1Q:bo K (.ref ej) "__getattr__"=some none)
  (jq2g:aeB K ej (.type "BaseException")=some true)
  (jq1R:K.lookup i3=some ⟨Ay,Av,.func (fe "__init__" "NotLater.__init__" (aC dN) (aB dN) (af dN) .none Az AA AB Aw rW AD),Ax⟩)
  (jq1O:di K rW "NotLater.__init__"=true)
  (jq1P:da K (.ref i3)=true)
  (jq2h:kq K (.ref i3)=true)
  (jq2i:bo K (.ref ej) "__setattr__"=some (some (.builtin "object.__setattr__")))
  (jq1M:bo K (.ref ej) "sitting"=some none)
  (jq2j:aeb K ej=true)
  (jq39:bo K (.ref ei) "__getattribute__"=some (some (.builtin "BaseException.__getattribute__")))
  (jq2O:bo K (.ref ei) "__getattr__"=some none)
  (jq3a:aeB K ei (.type "BaseException")=some true)
  (jq2P:K.lookup lY=some ⟨EA,Ep,.func (fe "__init__" "NotYet.__init__" (aC fS) (aB fS) (af fS) .none EB EC ED Er wm EE),Et⟩)
  (jq2k:di K wm "NotYet.__init__"=true)
  (jq2l:da K (.ref lY)=true)
  (jq3b:kq K (.ref lY)=true)
  (jq3c:bo K (.ref ei) "__setattr__"=some (some (.builtin "object.__setattr__")))
  (jq2n:bo K (.ref ei) "sitting"=some none)
  (jq3d:aeb K ei=true)
  (jqs:aeh K (.ref ei) (.ref eh)=some false)
  (jqt:aeh K (.ref ei) (.ref ei)=some true) :
  ∃fd:gr,(∀(s:Shared) (v:Value),BindsTo s fd ⟨[v],[]⟩ [("_law_script",v)])/\∀base:Heap,K.In base->base.Ns gn mg->ay l.prog w K mg base CX0 20 fa fd ["_law_script"] (Jm K):=by
 have e:=hfa.symm.trans (ka X G a_25);cases e;have F_1:=aU (st:=uT) l_1 cc_1 kp_1;have b_1:=F_1.binds (ps:=["things","edit"]) λ_ _ _ _ _ _ us hl=>match us,hl with | [_,_],_=>rfl
 have F_2:=aU (st:=fU) l_2 cc_2 kp_2;have b_2:=F_2.binds (ps:=["things","edit"]) λ_ _ _ _ _ _ us hl=>match us,hl with | [_,_],_=>rfl
 have F_3:=aU (st:=uU) l_3 cc_3 kp_3;have b_3:=F_3.binds (ps:=["things","edit"]) λ_ _ _ _ _ _ us hl=>match us,hl with | [_,_],_=>rfl
 have F_4:=aU (st:=jc) l_4 cc_4 kp_4;have b_4:=F_4.binds (ps:=["clause"]) λ_ _ _ _ _ _ us hl=>match us,hl with | [_],_=>rfl
 have F_5:=aU (st:=iy) l_5 cc_5 kp_5;have b_5:=F_5.binds (ps:=["words"]) λ_ _ _ _ _ _ us hl=>match us,hl with | [_],_=>rfl
 have F_6:=aU (st:=iz) l_6 cc_6 kp_6;have b_6:=F_6.binds (ps:=["told"]) λ_ _ _ _ _ _ us hl=>match us,hl with | [_],_=>rfl
 have F_7:=aU (st:=nA) l_7 cc_7 kp_7;have b_7:=F_7.binds (ps:=["pile","closed"]) λ_ _ _ _ _ _ us hl=>match us,hl with | [_,_],_=>rfl
 have F_8:=aU (st:=e9) l_8 cc_8 kp_8;have b_8:=F_8.binds (ps:=["pile"]) λ_ _ _ _ _ _ us hl=>match us,hl with | [_],_=>rfl
 have F_9:=aU (st:=dO) l_9 cc_9 kp_9;have b_9:=F_9.binds (ps:=["pile"]) λ_ _ _ _ _ _ us hl=>match us,hl with | [_],_=>rfl
 have aaB:=aU (st:=cF) l_10 jq59 jq5a;have adz:=aaB.binds (ps:=["kind","pile"]) λ_ _ _ _ _ _ us hl=>match us,hl with | [_,_],_=>rfl
 have aaC:=aU (st:=cM) l_11 jq5b jq5c;have adA:=aaC.binds (ps:=["kind","pile","closed"]) λ_ _ _ _ _ _ us hl=>match us,hl with | [_,_,_],_=>rfl
 have aaD:=aU (st:=dP) l_12 jq5d jq5e;have adB:=aaD.binds (ps:=["text"]) λ_ _ _ _ _ _ us hl=>match us,hl with | [_],_=>rfl
 have aaE:=aU (st:=dQ) l_13 jq5f jq5g;have adC:=aaE.binds (ps:=["edit"]) λ_ _ _ _ _ _ us hl=>match us,hl with | [_],_=>rfl
 have aaF:=aU (st:=dB) l_14 jq5h jq5i;have adD:=aaF.binds (ps:=["deed"]) λ_ _ _ _ _ _ us hl=>match us,hl with | [_],_=>rfl
 have aaG:=aU (st:=iA) l_15 jq5j jq5k;have adE:=aaG.binds (ps:=["deed"]) λ_ _ _ _ _ _ us hl=>match us,hl with | [_],_=>rfl
 have aaH:=aU (st:=k9) l_16 jq5l jq5m;have adF:=aaH.binds (ps:=["need","ayes","noes"]) λ_ _ _ _ _ _ us hl=>match us,hl with | [_,_,_],_=>rfl
 have aaI:=aU (st:=iB) l_17 jq5n jq5o;have adG:=aaI.binds (ps:=["_law_script","_law_k"]) λ_ _ _ _ _ _ us hl=>match us,hl with | [_,_],_=>rfl
 have aaJ:=aU (st:=nF) l_18 jq5p jq5q;have adH:=aaJ.binds (ps:=["_law_cell"]) λ_ _ _ _ _ _ us hl=>match us,hl with | [_],_=>rfl
 have aaK:=aU (st:=je) l_19 jq5r jq5s;have adI:=aaK.binds (ps:=["_law_cell"]) λ_ _ _ _ _ _ us hl=>match us,hl with | [_],_=>rfl
 have aaL:=aU (st:=lb) l_20 jq5t jq5u;have adJ:=aaL.binds (ps:=["_law_cell"]) λ_ _ _ _ _ _ us hl=>match us,hl with | [_],_=>rfl
 have aaM:=aU (st:=jf) l_21 jq5v jq5w;have adK:=aaM.binds (ps:=["_law_chamber","_law_script"]) λ_ _ _ _ _ _ us hl=>match us,hl with | [_,_],_=>rfl
 have aaN:=aU (st:=lh) l_22 jq5x jq5y;have adL:=aaN.binds (ps:=["_law_chamber","_law_number"]) λ_ _ _ _ _ _ us hl=>match us,hl with | [_,_],_=>rfl
 have aaO:=aU (st:=ll) l_23 jq5z jq5A;have adM:=aaO.binds (ps:=["_law_chamber","_law_cell"]) λ_ _ _ _ _ _ us hl=>match us,hl with | [_,_],_=>rfl
 have aaP:=aU (st:=lq) l_24 jq5B jq5C;have adN:=aaP.binds (ps:=["_law_chamber","_law_number","_law_until","_law_cell"]) λ_ _ _ _ _ _ us hl=>match us,hl with | [_,_,_,_],_=>rfl
 have adO:=aU (st:=qf) l_25 jq5D jq5E;have QG:=aU (st:=fE) jq5F jq4a jq3B;have aaQ:=QG.binds (ps:=["self"]) λ_ _ _ _ _ _ us hl=>match us,hl with | [_],_=>rfl
 have QH:=aU (st:=fF) jq5G jq4c jq3D;have aaR:=QH.binds (ps:=["self"]) λ_ _ _ _ _ _ us hl=>match us,hl with | [_],_=>rfl
 have QI:=aU (st:=ir) jq5H jq4e jq3F;have aaS:=QI.binds (ps:=["self"]) λ_ _ _ _ _ _ us hl=>match us,hl with | [_],_=>rfl
 have QJ:=aU (st:=fG) jq5I jq4g jq3H;have aaT:=QJ.binds (ps:=["self"]) λ_ _ _ _ _ _ us hl=>match us,hl with | [_],_=>rfl
 have QK:=aU (st:=gF) jq5J jq4i jq3J;have aaU:=QK.binds (ps:=["self"]) λ_ _ _ _ _ _ us hl=>match us,hl with | [_],_=>rfl
 have QL:=aU (st:=jb) jq5K jq4k jq3L;have aaV:=QL.binds (ps:=["self"]) λ_ _ _ _ _ _ us hl=>match us,hl with | [_],_=>rfl
 have QM:=aU (st:=iu) jq5L jq4m jq3N;have aaW:=QM.binds (ps:=["self"]) λ_ _ _ _ _ _ us hl=>match us,hl with | [_],_=>rfl
 have QN:=aU (st:=gG) jq5M jq4o jq3P;have aaX:=QN.binds (ps:=["self"]) λ_ _ _ _ _ _ us hl=>match us,hl with | [_],_=>rfl
 have aaY:=aU (st:=fH) l_mr jq5N jq1S;have adP:=aaY.binds (ps:=["self"]) λ_ _ _ _ _ _ us hl=>match us,hl with | [_],_=>rfl
 have aaZ:=aU (st:=fJ) l_mn jq5O jq2p;have Im:=aaZ.binds (ps:=["self"]) λ_ _ _ _ _ _ us hl=>match us,hl with | [_],_=>rfl
 have QO:=aU (st:=gH) jq5P jq4F jq3R;have aa0:=QO.binds (ps:=["self"]) λ_ _ _ _ _ _ us hl=>match us,hl with | [_],_=>rfl
 have aa1:=aU (st:=fK) l_mt jq5Q jq3y;have VM:=aa1.binds (ps:=["self"]) λ_ _ _ _ _ _ us hl=>match us,hl with | [_],_=>rfl
 have QP:=aU (st:=fL) jq5R jq4K jq3T;have aa2:=QP.binds (ps:=["self"]) λ_ _ _ _ _ _ us hl=>match us,hl with | [_],_=>rfl
 have QQ:=aU (st:=fM) jq5S jq4M jq3V;have aa3:=QQ.binds (ps:=["self"]) λ_ _ _ _ _ _ us hl=>match us,hl with | [_],_=>rfl
 have QR:=aU (st:=iw) jq5T jq4O jq3X;have aa4:=QR.binds (ps:=["self"]) λ_ _ _ _ _ _ us hl=>match us,hl with | [_],_=>rfl
 have QS:=aU (st:=fN) jq5U jq4Q jq3Z;have aa5:=QS.binds (ps:=["self"]) λ_ _ _ _ _ _ us hl=>match us,hl with | [_],_=>rfl
 have QT:=aU (st:=gI) jq5V jq4S jq41;have aa6:=QT.binds (ps:=["self"]) λ_ _ _ _ _ _ us hl=>match us,hl with | [_],_=>rfl
 have QU:=aU (st:=fO) jq5W jq4U jq4V;have aa7:=QU.binds (ps:=["self","text"]) λ_ _ _ _ _ _ us hl=>match us,hl with | [_,_],_=>rfl
 have QV:=aU (st:=fP) jq5X jq4X jq4Y;have aa8:=QV.binds (ps:=["self","edit"]) λ_ _ _ _ _ _ us hl=>match us,hl with | [_,_],_=>rfl
 have QW:=aU (st:=ix) jq5Y jq50 jq51;have aa9:=QW.binds (ps:=["self","edit"]) λ_ _ _ _ _ _ us hl=>match us,hl with | [_,_],_=>rfl
 have QX:=aU (st:=fQ) jq5Z jq53 jq54;have aba:=QX.binds (ps:=["self","sitting"]) λ_ _ _ _ _ _ us hl=>match us,hl with | [_,_],_=>rfl
 have QY:=aU (st:=gJ) jq60 jq56 jq57;have abb:=QY.binds (ps:=["self","clause"]) λ_ _ _ _ _ _ us hl=>match us,hl with | [_,_],_=>rfl
 have gm:=aU (st:=eC) jq1H jq1q jq1r;have iN:=gm.binds (ps:=["self","seats"]) λ_ _ _ _ _ _ us hl=>match us,hl with | [_,_],_=>rfl
 have gq:=aU (st:=eD) jq1I jq1u jq13;have bt:=gq.binds (ps:=["self","told"]) λ_ _ _ _ _ _ us hl=>match us,hl with | [_,_],_=>rfl
 have gs:=aU (st:=eE) jq1J jq1x jq14;have cy:=gs.binds (ps:=["self","ayes","noes"]) λ_ _ _ _ _ _ us hl=>match us,hl with | [_,_,_],_=>rfl
 have gu:=aU (st:=eF) jq1K jq1A jq15;have eJ:=gu.binds (ps:=["self"]) λ_ _ _ _ _ _ us hl=>match us,hl with | [_],_=>rfl
 have gv:=aU (st:=eG) jq1L jq1D jq16;have iP:=gv.binds (ps:=["self","number"]) λ_ _ _ _ _ _ us hl=>match us,hl with | [_,_],_=>rfl
 have fw:=aU (st:=cZ) jq1F jq1i jq10;have bX:=fw.binds (ps:=["self"]) λ_ _ _ _ _ _ us hl=>match us,hl with | [_],_=>rfl
 have eK:=aU (st:=du) jq1k jq1b jqR;have eL:=eK.binds (ps:=["self","number"]) λ_ _ _ _ _ _ us hl=>match us,hl with | [_,_],_=>rfl
 have d4:=aU (st:=cx) jq1d jq18 jqM;have d5:=d4.binds (ps:=["self"]) λ_ _ _ _ _ _ us hl=>match us,hl with | [_],_=>rfl
 have cT:=aU (st:=cf) jqT jqP jqx;have d6:=cT.binds (ps:=["self","number"]) λ_ _ _ _ _ _ us hl=>match us,hl with | [_,_],_=>rfl
 have bK:=aU (st:=bw) jqn jqj jqe;have b8:=bK.binds (ps:=["self","told"]) λ_ _ _ _ _ _ us hl=>match us,hl with | [_,_],_=>rfl
 have b6:=aU (st:=bL) jqy jqv jqf;have b7:=b6.binds (ps:=["self"]) λ_ _ _ _ _ _ us hl=>match us,hl with | [_],_=>rfl
 have eN:=aU (st:=dz) jq1l jq1f jqS;have eO:=eN.binds (ps:=["self","word"]) λ_ _ _ _ _ _ us hl=>match us,hl with | [_,_],_=>rfl
 have cz:=aU (st:=bZ) jqN jqI jqq;have cA:=cz.binds (ps:=["self","deed"]) λ_ _ _ _ _ _ us hl=>match us,hl with | [_,_],_=>rfl
 have dg:=aU (st:=cC) jq11 jqV jqz;have ez:=dg.binds (ps:=["self","motion"]) λ_ _ _ _ _ _ us hl=>match us,hl with | [_,_],_=>rfl
 have cj:=aU (st:=bU) jqK jqC jql;have cW:=cj.binds (ps:=["self","edit"]) λ_ _ _ _ _ _ us hl=>match us,hl with | [_,_],_=>rfl
 have ck:=aU (st:=bV) jqL jqF jqm;have cX:=ck.binds (ps:=["self","edit"]) λ_ _ _ _ _ _ us hl=>match us,hl with | [_,_],_=>rfl
 have dh:=aU (st:=cE) jq12 jqY jqA;have dj:=dh.binds (ps:=["self","until"]) λ_ _ _ _ _ _ us hl=>match us,hl with | [_,_],_=>rfl
 have lN:=aU (st:=fR) jq2N jq2d jq2e;have lO:=lN.binds (ps:=["self","bar"]) λ_ _ _ _ _ _ us hl=>match us,hl with | [_,_],_=>rfl
 have iS:=aU (st:=dN) jq1R jq1O jq1P;have kR:=iS.binds (ps:=["self","sitting"]) λ_ _ _ _ _ _ us hl=>match us,hl with | [_,_],_=>rfl
 have lP:=aU (st:=fS) jq2P jq2k jq2l;have oK:=lP.binds (ps:=["self","sitting"]) λ_ _ _ _ _ _ us hl=>match us,hl with | [_,_],_=>rfl
 have T:Txt P K mg ⟨f_1,_,f_2,_,f_3,_,f_4,_,f_5,_,f_6,_,f_7,_,f_8,_,f_9,_,Ph,_,Pj,_,Pk,_,Pl,_,Pm,_,Pn,_,Po,_,Pp,_,Pq,_,Pr,_,Pt,_,Pu,_,Pw,_,Px,_,Py,_,jK,c0,c1,c2,c3,c4,c5,c6,c7,cm,tb,D3,_,D4,_,D5,_,D6,_,D7,_,D8,_,D9,_,Ea,_,wQ,_,zV,_,Eb,_,Ha,_,Ec,_,Ee,_,Ef,_,Eg,_,Eh,_,Ei,_,Ej,_,Ek,_,El,_,Em,_,aX,b9,_,bD,_,bM,_,bN,_,cc,_,bO,_,bR,_,bB,_,br,_,aO,_,aT,_,bE,_,aY,_,bx,_,a8,_,a9,_,bz,_,bq,oZ,eh,ij,ip,ej,jx,jy,eR,ei,iq,lX,_,i3,_,lY,_⟩:={
  Gs:=F_1,
  L6:=b_1,
  L7:=ka X G a_1,
  gX:=F_2,
  jL:=b_2,
  jM:=ka X G a_2,
  Cj:=F_3,
  Gu:=b_3,
  Gv:=ka X G a_3,
  ia:=F_4,
  jj:=b_4,
  jk:=ka X G a_4,
  mC:=F_5,
  qj:=b_5,
  qk:=ka X G a_5,
  mD:=F_6,
  vT:=b_6,
  vU:=ka X G a_6,
  tR:=F_7,
  yZ:=b_7,
  y0:=ka X G a_7,
  kQ:=F_8,
  oI:=b_8,
  oJ:=ka X G a_8,
  j9:=F_9,
  pe:=b_9,
  pf:=ka X G a_9,
  gR:=aaB,
  kH:=adz,
  kJ:=ka X G a_10,
  ib:=aaC,
  lJ:=adA,
  lK:=ka X G a_11,
  kh:=aaD,
  pq:=adB,
  pw:=ka X G a_12,
  kz:=aaE,
  pz:=adC,
  pA:=ka X G a_13,
  lL:=aaF,
  ql:=adD,
  qm:=ka X G a_14,
  jT:=aaG,
  mE:=adE,
  mF:=ka X G a_15,
  uW:=aaH,
  A5:=adF,
  A6:=ka X G a_16,
  eW:=aaI,
  gj:=adG,
  gk:=ka X G a_17,
  tS:=aaJ,
  y3:=adH,
  y4:=ka X G a_18,
  ic:=aaK,
  jm:=adI,
  jn:=ka X G a_19,
  uX:=aaL,
  A7:=adJ,
  A8:=ka X G a_20,
  uY:=aaM,
  A9:=adK,
  Ba:=ka X G a_21,
  nM:=aaN,
  rq:=adL,
  rz:=ka X G a_22,
  rA:=aaO,
  uZ:=adM,
  va:=ka X G a_23,
  vb:=aaP,
  Bb:=adN,
  Bc:=ka X G a_24,
  yh:=aes X G z1,
  qo:=aes X G z2,
  Ck:=aes X G z3,
  IH:=aes X G z4,
  P2:=aes X G z5,
  P4:=aes X G z6,
  L8:=aes X G z7,
  DB:=aes X G z8,
  WB:=aes X G z9,
  R6:=aes X G z10,
  Cn:=aes X G z11,
  tT:=ka X G jq1N,
  cl:=λk hk=>match k,hk with | 0,_=>⟨pg0,hd0,po0,sa0⟩ | 1,_=>⟨pg1,hd1,po1,sa1⟩ | 2,_=>⟨pg2,hd2,po2,sa2⟩ | 3,_=>⟨pg3,hd3,po3,sa3⟩ | 4,_=>⟨pg4,hd4,po4,sa4⟩ | 5,_=>⟨pg5,hd5,po5,sa5⟩ | 6,_=>⟨pg6,hd6,po6,sa6⟩ | 7,_=>⟨pg7,hd7,po7,sa7⟩ | n+8,h=>absurd h (by omega),
  tU:=ka X G ac0,
  tV:=ka X G ac1,
  Gw:=ka X G ac2,
  y6:=ka X G ac3,
  Co:=ka X G ac4,
  L9:=ka X G ac5,
  Gx:=ka X G ac6,
  Cp:=ka X G ac7,
  Cq:=ka X G atb,
  tb:=⟨est,nt,ltb,ktb⟩,
  rk:=λk hk=>match k,hk with | 0,_=>⟨_,rk0⟩ | 1,_=>⟨_,rk1⟩ | 2,_=>⟨_,rk2⟩ | 3,_=>⟨_,rk3⟩ | 4,_=>⟨_,rk4⟩ | 5,_=>⟨_,rk5⟩ | 6,_=>⟨_,rk6⟩ | 7,_=>⟨_,rk7⟩ | n+8,h=>absurd h (by omega),
  mL:=λk hk=>match k,hk with | 0,_=>⟨jq3A,jq4b,jq3B⟩ | 1,_=>⟨jq3C,jq4d,jq3D⟩ | 2,_=>⟨jq3E,jq4f,jq3F⟩ | 3,_=>⟨jq3G,jq4h,jq3H⟩ | 4,_=>⟨jq3I,jq4j,jq3J⟩ | 5,_=>⟨jq3K,jq4l,jq3L⟩ | 6,_=>⟨jq3M,jq4n,jq3N⟩ | 7,_=>⟨jq3O,jq4p,jq3P⟩ | n+8,h=>absurd h (by omega),
  mM:=λk hk=>match k,hk with | 0,_=>aaQ | 1,_=>aaR | 2,_=>aaS | 3,_=>aaT | 4,_=>aaU | 5,_=>aaV | 6,_=>aaW | 7,_=>aaX | n+8,h=>absurd h (by omega),
  Ma:=λk hk=>match k,hk with | 0,_=>⟨jq4y,jq2Q,jq2p⟩ | 1,_=>⟨jq4z,jq2Q,jq2p⟩ | 2,_=>⟨jq4A,jq2Q,jq2p⟩ | 3,_=>⟨jq4B,jq2Q,jq2p⟩ | 4,_=>⟨jq3Q,jq4G,jq3R⟩ | 5,_=>⟨jq4C,jq2Q,jq2p⟩ | 6,_=>⟨jq4D,jq2Q,jq2p⟩ | 7,_=>⟨jq4E,jq2Q,jq2p⟩ | n+8,h=>absurd h (by omega),
  Mb:=λk hk=>match k,hk with | 0,_=>Im | 1,_=>Im | 2,_=>Im | 3,_=>Im | 4,_=>aa0 | 5,_=>Im | 6,_=>Im | 7,_=>Im | n+8,h=>absurd h (by omega),
  Gy:=λk hk=>match k,hk with | 0,_=>⟨jq3S,jq4L,jq3T⟩ | 1,_=>⟨jq3U,jq4N,jq3V⟩ | 2,_=>⟨jq3W,jq4P,jq3X⟩ | 3,_=>⟨jq3Y,jq4R,jq3Z⟩ | 4,_=>⟨jq4H,jq47,jq3y⟩ | 5,_=>⟨jq4I,jq47,jq3y⟩ | 6,_=>⟨jq4J,jq47,jq3y⟩ | 7,_=>⟨jq40,jq4T,jq41⟩ | n+8,h=>absurd h (by omega),
  Gz:=λk hk=>match k,hk with | 0,_=>aa2 | 1,_=>aa3 | 2,_=>aa4 | 3,_=>aa5 | 4,_=>VM | 5,_=>VM | 6,_=>VM | 7,_=>aa6 | n+8,h=>absurd h (by omega),
  Mc:=λk hk=>match k,hk with | 0,_=>⟨jq4q,jq2o,jq1S⟩ | 1,_=>⟨jq4r,jq2o,jq1S⟩ | 2,_=>⟨jq4s,jq2o,jq1S⟩ | 3,_=>⟨jq4t,jq2o,jq1S⟩ | 4,_=>⟨jq4u,jq2o,jq1S⟩ | 5,_=>⟨jq4v,jq2o,jq1S⟩ | 6,_=>⟨jq4w,jq2o,jq1S⟩ | 7,_=>⟨jq4x,jq2o,jq1S⟩ | n+8,h=>absurd h (by omega),
  Md:=λ_ _=>adP,
  WC:=QG,
  WD:=QH,
  WE:=QI,
  WG:=QJ,
  WH:=QK,
  WI:=QL,
  WJ:=QM,
  WK:=QN,
  F_r:=aaY,
  F_n:=aaZ,
  WL:=QO,
  F_t:=aa1,
  WM:=QP,
  WN:=QQ,
  WO:=QR,
  WQ:=QS,
  WR:=QT,
  WS:=QU,
  WT:=QV,
  WU:=QW,
  WV:=QX,
  WW:=QY,
  tW:=⟨mk0,jq42,jq4W,kc0⟩,
  OE:=aa7,
  na0:=na0,
  tX:=⟨mk1,jq43,jq4Z,kc1⟩,
  OF:=aa8,
  na1:=na1,
  GA:=⟨mk2,jq44,jq52,kc2⟩,
  R7:=aa9,
  na2:=na2,
  y8:=⟨mk3,jq45,jq55,kc3⟩,
  Sa:=aba,
  na3:=na3,
  Cr:=⟨mk7,jq46,jq58,kc7⟩,
  Sb:=abb,
  na7:=na7,
  mkn:=λk hk=>by
   rcases hk with rfl | rfl | rfl
   ·exact⟨mk4,ni4,kc4⟩
   ·exact⟨mk5,ni5,kc5⟩
   ·exact⟨mk6,ni6,kc6⟩,
  Bd:=ka X G jq2q,
  ag:=⟨jq2r,jq2s,jq2t,jq2u⟩,
  gm:=gm,
  iN:=iN,
  Be:=⟨jq2v,jq1p,jq1s,jq2w⟩,
  gq:=gq,
  bt:=bt,
  bF:=⟨jq1t,jq1v,jq13⟩,
  gs:=gs,
  cy:=cy,
  dD:=⟨jq1w,jq1y,jq14⟩,
  gu:=gu,
  eJ:=eJ,
  iO:=⟨jq1z,jq1B,jq15⟩,
  gv:=gv,
  iP:=iP,
  qp:=⟨jq1C,jq1E,jq16⟩,
  fw:=fw,
  bX:=bX,
  cG:=⟨jq1h,jq1j,jq10⟩,
  eK:=eK,
  eL:=eL,
  jo:=⟨jq1a,jq1c,jqR⟩,
  d4:=d4,
  d5:=d5,
  iQ:=⟨jq17,jq19,jqM⟩,
  cT:=cT,
  d6:=d6,
  jU:=⟨jqO,jqQ,jqx⟩,
  bK:=bK,
  b8:=b8,
  eX:=⟨jqi,jqk,jqe⟩,
  b6:=b6,
  b7:=b7,
  dH:=⟨jqu,jqw,jqf⟩,
  eN:=eN,
  eO:=eO,
  jq:=⟨jq1e,jq1g,jqS⟩,
  cz:=cz,
  cA:=cA,
  fb:=⟨jqH,jqJ,jqq⟩,
  dg:=dg,
  ez:=ez,
  kK:=⟨jqU,jqW,jqz⟩,
  cj:=cj,
  cW:=cW,
  iC:=⟨jqB,jqD,jql⟩,
  ck:=ck,
  cX:=cX,
  iD:=⟨jqE,jqG,jqm⟩,
  dh:=dh,
  dj:=dj,
  gS:=⟨jqX,jqZ,jqA⟩,
  jqg:=jqg,
  jq1:=jq1,
  jq4:=jq4,
  jq2:=jq2,
  jq0:=jq0,
  jq3:=jq3,
  jqc:=jqc,
  jqb:=jqb,
  jq5:=jq5,
  jqd:=jqd,
  iR:=ka X G jq1G,
  II:=ka X G jq3n,
  tY:=ka X G jq2U,
  y9:=ka X G jq1T,
  za:=ka X G jq1U,
  zb:=ka X G jq1V,
  Bf:=ka X G jq2x,
  Bh:=ka X G jq2y,
  vc:=ka X G jq2z,
  zc:=ka X G jq2V,
  zd:=ka X G jq1W,
  hX:=⟨jq1m,jq1n,jq1o⟩,
  DC:=⟨⟨_,_,_,_,_,_,_,_,_,_,_,_,_,_,_,_,jq3o,⟨⟨_,_,_,_,_,jq3p,jq3q⟩,jq3r⟩,(iJ.own jq6 (by rw[jq7];exact⟨⟨_,_,_,_,_,jq8,jq9⟩,jqa⟩) iJ.base)⟩⟩,
  vV:=⟨⟨_,_,_,_,_,_,_,_,_,_,_,_,_,_,_,_,jq1X,⟨⟨_,_,_,_,_,jq21,jq22⟩,jq23⟩,(iJ.own jq6 (by rw[jq7];exact⟨⟨_,_,_,_,_,jq8,jq9⟩,jqa⟩) iJ.base)⟩⟩,
  vW:=⟨⟨_,_,_,_,_,_,_,_,_,_,_,_,_,_,_,_,jq1Y,⟨⟨_,_,_,_,_,jq24,jq25⟩,jq26⟩,(iJ.own jq6 (by rw[jq7];exact⟨⟨_,_,_,_,_,jq8,jq9⟩,jqa⟩) iJ.base)⟩⟩,
  ze:=⟨⟨_,_,_,_,_,_,_,_,_,_,_,_,_,_,_,_,jq2A,⟨⟨_,_,_,_,_,jq2D,jq2E⟩,jq2F⟩,(iJ.own jq6 (by rw[jq7];exact⟨⟨_,_,_,_,_,jq8,jq9⟩,jqa⟩) iJ.base)⟩⟩,
  zf:=⟨⟨_,_,_,_,_,_,_,_,_,_,_,_,_,_,_,_,jq2B,⟨⟨_,_,_,_,_,jq2G,jq2H⟩,jq2I⟩,(iJ.own jq6 (by rw[jq7];exact⟨⟨_,_,_,_,_,jq8,jq9⟩,jqa⟩) iJ.base)⟩⟩,
  zg:=⟨⟨_,_,_,_,_,_,_,_,_,_,_,_,_,_,_,_,jq2C,⟨⟨_,_,_,_,_,jq2J,jq2K⟩,jq2L⟩,(iJ.own jq6 (by rw[jq7];exact⟨⟨_,_,_,_,_,jq8,jq9⟩,jqa⟩) iJ.base)⟩⟩,
  jqo:=jqo,
  jqp:=jqp,
  jqh:=jqh,
  vX:=⟨⟨_,_,_,_,_,_,_,_,_,_,_,_,_,_,_,_,jq1Z,⟨⟨_,_,_,_,_,jq27,jq28⟩,jq29⟩,(iJ.own jq6 (by rw[jq7];exact⟨⟨_,_,_,_,_,jq8,jq9⟩,jqa⟩) iJ.base)⟩⟩,
  lN:=lN,
  lO:=lO,
  nO:=⟨⟨_,_,_,_,_,_,_,_,_,_,_,_,_,_,_,_,jq2W,(iJ.own jq6 (by rw[jq7];exact⟨⟨_,_,_,_,_,jq8,jq9⟩,jqa⟩) iJ.base),rfl,⟨⟨_,_,_,_,_,jq2Y,jq2Z⟩,jq30⟩⟩,jq36,jq37,jq2m⟩,
  Bi:=⟨⟨jq34,jq2M,jq35⟩,jq2m,jq38⟩,
  jqr:=jqr,
  iS:=iS,
  kR:=kR,
  mG:=⟨⟨_,_,_,_,_,_,_,_,_,_,_,_,_,_,_,_,jq20,(iJ.own jq6 (by rw[jq7];exact⟨⟨_,_,_,_,_,jq8,jq9⟩,jqa⟩) iJ.base),rfl,⟨⟨_,_,_,_,_,jq2a,jq2b⟩,jq2c⟩⟩,jq2h,jq2i,jq1M⟩,
  DD:=⟨⟨jq2f,jq1Q,jq2g⟩,jq1M,jq2j⟩,
  lP:=lP,
  oK:=oK,
  rB:=⟨⟨_,_,_,_,_,_,_,_,_,_,_,_,_,_,_,_,jq2X,(iJ.own jq6 (by rw[jq7];exact⟨⟨_,_,_,_,_,jq8,jq9⟩,jqa⟩) iJ.base),rfl,⟨⟨_,_,_,_,_,jq31,jq32⟩,jq33⟩⟩,jq3b,jq3c,jq2n⟩,
  Bj:=⟨⟨jq39,jq2O,jq3a⟩,jq2n,jq3d⟩,
  jqs:=jqs,
  jqt:=jqt }
 subst hP;exact⟨fe "law" "law" (aC qf) (aB qf) (af qf) .none Qz QA QB Qj Ng QC,λs v=>.of_eq rfl,λbase _ _=>SH adO T⟩
theorem walk {l:PySem.W.OpenLaw}{q:ku}{loose:List Str}{XP:(Str->Option Value)->Heap->Prop}{YP:World->Heap->Prop}{d:DefRec}{K:Params->ba}(hn:l.most=some 63)(hdf:d.params.defaults=[])
  (hY:∀(w:World) (h:Heap),YP w h->(K w.params).In h)
  (F:∀(w:World) (mg:Str->Option Value) (fa:Addr) (h:Heap),(K w.params).In h->h.Ns gn mg->mg d.name=some (.ref fa) ->
   ∃fd:gr,(∀(s:Shared) (u:Value),BindsTo s fd ⟨[u],[]⟩ [("_law_script",u)])/\∀base:Heap,(K w.params).In base->base.Ns gn mg->ay l.prog w (K w.params) mg base CX0 20 fa fd ["_law_script"] (Jm (K w.params))) :
  PySem.W.WalkO q loose XP YP l.row.toRowW d [] (λf vs=>PySem.call f vs) :=
 L2.Oc (n:=63) (k:=20) (x:="_law_script") (CX:=λ_=>CX0) (sp:=λw=>Jm (K w.params)) hn (by decide) hdf ⟨rfl,by decide,by decide,rfl⟩ hY F (λ_ _ a ns hl _ hS=>⟨a,ns,rfl,hS,hl,λ_=>rfl⟩) λ_ _ _ _ _ z=>z
end My
structure PySem.W.Fast:Prop where
 (tw4824068387313594644
 tw10446858645361605787
 tw14848387430084456024
 tw1600467091401405435
 tw15352233371539217266
 tw1180103887784589680
 tw10699157694012599301
 tw4696947584482231261
 tw11066835557134667511
 tw8211292977766060204
 tw1919626903570347448
 tw13274593998661438294
 tw16268984841006423443
 tw6083873176907012065
 tw11357796319293360490
 tw14598122092857677771
 tw11010189139261619890
 tw15981881593811600582
 tw7604950876518867812
 tw10775836348379363023
 tw9119547293292106051
 tw3532675204141420628
 tw10471983934333774126
 tw11650081383025943360
 tw1215740756730672717
 tw6191391912972053163
 tw9913449131550340299
 tw8881337445420145747
 tw9626556659999804238
 tw2767164791266129279
 tw9153822524517108300
 tw1055456571126446439
 tw17467532267141005851
 tw4382817897604299356
 tw4138141934561477310
 tw9005245118959156894
 tw12126133707006540713
 tw11759923036872858144
 tw4829142002466999605
 tw15207799663616276990
 tw2589502875313439257
 tw11305130229590921931
 tw7435246032862756329
 tw1465498561287909688
 tw5481253500615635938
 tw9720779939083697668
 tw13228378716075872604
 tw13964943081605336011
 tw4107521720082037900
 tw1458462660981788486
 tw3238062837993682490
 tw885472056266696198
 tw11624463411020679865
 tw82292432020507689
 tw9852992910536269282
 tw13962068019464262458
 tw12616880751696638759
 tw9986863447520562493
 tw8922975306375641451
 tw1892690536850624204
 tw12968580712573313819
 tw14420536281504764584
 tw6326714803637092083
 tw13629871554083089988
 tw8638686345964284009
 tw18015963237628648231
 tw16090724379648023194
 tw7501674155521297826
 tw8900428127326875993
 tw12459520730719854779
 tw16599148232209997920
 tw7329259425024847082
 tw4226155719431618565
 tw730946667976482791
 tw4176558738754141219
 tw1358374044848832338
 tw16734230285646114269
 tw11167653605108026589
 tw2303966798490944048
 tw15822839491531723483
 tw603502904315154236
 tw11588106938680790506
 tw11908372001713797435
 tw2768133135864914309
 tw2227391020995382748
 tw12120990796797412841
 tw104675306401975064
 tw2090768806363843538
 tw16543578401301076797
 tw4609774603201369708
 tw12384466643807591894
 tw15117971499079295451
 tw15453693958876028531
 tw14448742581656413393
 tw15271041875694743392
 tw18435341142271500122
 tw13797062024776550359
 tw17677896603532297113
 tw7260771339324794438
 tw15059987195068368142
 tw5473642649875909553
 tw11838982425808355928
 tw294297804026276680
 tw17647212768118432351
 tw13202334755018129935
 tw16806217556004741863
 tw18035122358052978054
 tw17551109228861941107
 tw8963498464789248088
 tw755919643481490663
 tw1449281238845500007
 tw106952154623940396
 tw7801956194960457821
 tw15777860485310187878
 tw16472653703204050745
 tw1601070623805242733
 tw12253198473215633504
 tw5282267424509695629
 tw5799311164020519977
 tw2984985848180254625
 tw10126185061587714167
 tw9649001760719464731
 tw5353762471456750231
 tw12026985393033656121
 tw8882988601357505838
 tw13041199326382838419
 tw10950875267281116369
 tw10402953639334618572
 tw14705441731970119495
 tw14472550719393663580
 tw7976251684029883716
 tw2449425305659976395
 tw6131016493467556502
 tw11247041193852871014
 tw11033731111446395354
 tw6643614159297141714
 tw17790198504371761104
 tw7012490039301075718
 tw910634939758733186
 tw5239863986461166657
 tw17747729772211893225
 tw9398296113101028895
 tw11123941910615268736
 tw17454756683343563949
 tw14007707713595878733
 tw17162806875106916392
 tw1461396541664084975
 tw261089473769900474
 tw10145115907229700481
 tw9880238967688012400
 tw17034098197361811644
 tw8809091720541106647
 tw11975268613093250406
 tw12400627017775300133
 tw8342316102748458975
 tw2994546447569824710
 tw7589030066117810678
 tw510211757053043816
 tw13161122396970023357
 tw6599314920302803683
 tw17014855325754794226
 tw5739432755455378745
 tw12597351894995343865
 tw16712976460512571280
 tw16777189322137247128
 tw15948850248190292158
 tw6724609321330110762
 tw13130743498241893440
 tw7603329216072251494
 tw15310246331722249448
 tw8472307299345330986
 tw4495283292822221579
 tw5880381058309618018
 tw2423432548181600911
 tw6299680177539296073
 tw978322108847927312
 tw17100361470102250636
 tw17441012188985532911
 tw1503475094298018366
 tw8274659008652187243
 tw6504109904392076997
 tw5132768060201360109
 tw2235921126037193737
 tw17275944801366809846
 tw14355831249292215877
 tw12446077298637043781
 tw14121111250972717251
 tw13320314830270783186
 tw263550036605740855
 tw14523396127830981340
 tw4391902580034359196
 tw7271781700991227308
 tw10313521869599705601
 tw18342410970111292095
 tw16318405456602813074
 tw14386698982707137190
 tw15648678708230480724
 tw13318527943489913032
 tw9695911832261371990
 tw13014009474766855174
 tw2979237660938727748
 tw15292077309556727759
 tw1094735161224527556
 tw1386319394055731240
 tw13393412079909728364
 tw13934720081509205707
 tw10860669028144719646
 tw15712639225224389695
 tw9154628359955018908
 tw13421337152178403060
 tw15278839764781546377
 tw12578705487263853623
 tw5479513797695406200
 tw4201538505499400507
 tw12435839877685761265
 tw5681831200757288367
 tw18290056743686987372
 tw7085594112503014679
 tw4106467729903178363
 tw6636777969670676378
 tw2444093842405456848
 tw13706915753448727017
 tw12213389116008172306
 tw9878527178872278013
 tw15832043711825441573
 tw582172188401692416
 tw15334788275003275756
 tw14517799800193899223
 tw11575635346718611540
 tw11408583607867047026
 tw18236742348131471769
 tw10650806593334755496
 tw16260711053474362294
 tw16825671609530876041
 tw14527515720625514329
 tw8690450278732287681
 tw5972566072110227367
 tw12956473283165784168
 tw2417491059850451116
 tw14796056729982718382
 tw8612535588840764697
 tw7076462868774933537
 tw5978946110053300739
 tw4746728654799722199
 tw9963382169719932059
 tw13213946300261881639
 tw12205954315717671543
 tw12158744930698576482
 tw3630247059635518628
 tw7069306804418440710
 tw8064562926166042479
 tw16829381332815739783
 tw10127839132731915366
 tw11601694152460852718
 tw2308366870587212435
 tw7245287808337094064
 tw18306314180091582987
 tw7275968444167956613
 tw5525233421251879581
 tw12121265969892699201
 tw5341079786966467005
 tw3738770747726399595
 tw13813008420002993700
 tw15454005816556945544
 tw5568263658514273182
 tw14156586356036911197
 tw7963579764878410558
 tw875719891104006374
 tw12960848833358772062
 tw18216361769139654929
 tw18010562392475245704
 tw122147302730638094
 tw4736106403618264936
 tw10460175683058215107
 tw7326503108606672369
 tw5725502941816666639
 tw4427072311619865786
 tw5257710344905721377
 tw14765384418404824614
 tw13893790959387370743
 tw3306466055268814713
 tw9898503399747683871
 tw1553552910865015273
 tw2485400253631207327
 tw11054327275289292279
 tw10466972702984061063
 tw15844962485190194047
 tw10485309763534082451
 tw3948788623381158635
 tw5229085332213735677
 tw17024987446042442346
 tw10028563350418452422
 tw15982393542033840703
 tw17793299009931892210
 tw10213325457317410005
 tw11815220677997406162
 tw12525589218702783367
 tw11359992671573590456
 tw7305324128383073453
 tw2629960653784390932
 tw1756720606469301853
 tw2579171528768232887
 tw18407851907292974160
 tw1651602131615953278
 tw202275684435616832
 tw13635377590520024555
 tw18170261717433731651
 tw16630043105921816378
 tw7089073216355625307
 tw3179929213752961478
 tw9765098343169108253
 tw14061724767907714344
 tw16626597935621305422
 tw7169330093697845423
 tw17918094426621995004
 tw9227310842945853632
 tw2109041367210783735
 tw10124808722164324240
 tw12475230818388347361
 tw10843059395518412747
 tw13439479943814013928
 tw8526176771427074803
 tw4579965823563846108
 tw3602067810312836559
 tw15906658972480001302
 tw7393799549262707559
 tw13455411019690578667
 tw11291081587364101179
 tw14615628139497207040
 tw15056718424749608000
 tw16314351695645917733
 tw17197361460267839486
 tw14223698160195666953
 tw1633010755841908709
 tw12321541151456240007
 tw16501072023565655460
 tw15316419598874095253
 tw586490650900571058
 tw3729823191068985446
 tw13486405485390392395
 tw17784760045850396076
 tw12327735958170493158
 tw1703191314490443216
 tw12394245833823252986
 tw9303530266377153427
 tw527113864529490276
 tw8405976091789641910
 tw2689177167206744952
 tw9836846339896013218
 tw9742409851429938971
 tw1738680525519813769
 tw17038465210708672641
 tw9186474313834454856
 tw10115063046013968976
 tw13531402211124672978
 tw15410084752515463762
 tw5904690807718631632
 tw2993653805015183660
 tw18191965760025018669
 tw6213820140181153134
 tw16767230974837549787
 tw16475943096842421436
 tw7873491485207065643
 tw16120931085087217298
 tw18136510879790751590
 tw4526509905729384852
 tw1952811925144495395
 tw8662012892173458509
 tw4218572365551202200
 tw5354871663275202720
 tw15825937494902751103
 tw6695565151543172357
 tw16975409543254619935
 tw9411893210780552051
 tw10440588032277689979
 tw14204099160250321702
 tw12314649335817561913
 tw15835089061795461318
 tw8601337088475201601
 tw1850947457437886205
 tw15211744284347581802
 tw9492233023782805257
 tw4419756005341146728
 tw11959190625536929160
 tw13223478002238621790
 tw12519650056294484901
 tw9906611344944618145
 tw11605475084718489150
 tw7971097254109618163
 tw18219704699993446675
 tw955425478529637663
 tw4894567607989637032
 tw15652218718473820987
 tw13645615232061748859
 tw9326936049947359337
 tw15639577917821818908
 tw11094457086060666865
 tw12033952610997518451
 tw13087657437757416149
 tw5154924649009105884
 tw8046855516766864687
 tw16574050264281170149
 tw6926439601672664049
 tw15125362626517606412
 tw14028739506549840225
 tw9721638133633239454
 tw8953738377554885977
 tw727167565159166940
 tw11175328790562459526
 tw925359281842835700
 tw14052924380375466244
 tw12280997334611656043
 tw1863348058454755728
 tw9064800427805849075
 tw17300759754004184324
 tw17865959280900036365
 tw13627340853012674756
 tw14257401484489738604
 tw5418395996152028728
 tw14925405839015260961
 tw13526464174621747242
 tw8605223755919793338
 tw6750785490531941358
 tw5709267025431819707
 tw9245291574106106420
 tw9474686694094643714
 tw57323379610320087
 tw7132420726980603710
 tw16218620140592504294
 tw4473721068522710407
 tw278325969883200135
 tw15576086625949397415
 tw10736051057948066472
 tw12466998815108098948
 tw9673506798425287046
 tw4098781161366784685
 tw10738795519989973752
 tw10830806991762009461
 tw16454091828437143687
 tw15800017241595016224
 tw7772159556955761305
 tw11287197166880972480
 tw3361538259931265672
 tw3671911891920361753
 tw7489737989730877128
 tw10977193302139023227
 tw18391830716105527803
 tw5630436324601740146
 tw7666416519272316871
 tw6508917138517405361
 tw15130089319738015003:True)
open PySem PySem.W PyProof.Rows
set_option maxRecDepth 100000 in
set_option maxHeartbeats 0 in
theorem PySem.Challenge.cw_moot_k20_whole_aside_and_taken_up_holds : PySem.Challenge.rw_moot_k20_whole_aside_and_taken_up.Holds := by
 w_on;o_law;k_head;(case hw=>w_witness2)
 k_fill;refine My.walk (l:=PySem.Challenge.rw_moot_k20_whole_aside_and_taken_up) rfl rfl (λw h Y=>PySem.W.kIn_of Y) ?F
 case F =>
  intro w mg fa h KX G hmg;refine' My.all_mk KX G hmg rfl ?a_1 ?l_1 ?cc_1 ?kp_1 ?a_2 ?l_2 ?cc_2 ?kp_2 ?a_3 ?l_3 ?cc_3 ?kp_3 ?a_4 ?l_4 ?cc_4 ?kp_4 ?a_5 ?l_5 ?cc_5 ?kp_5 ?a_6 ?l_6 ?cc_6 ?kp_6 ?a_7 ?l_7 ?cc_7 ?kp_7 ?a_8 ?l_8 ?cc_8 ?kp_8 ?a_9 ?l_9 ?cc_9 ?kp_9 ?a_10 ?l_10 ?jq59 ?jq5a ?a_11 ?l_11 ?jq5b ?jq5c ?a_12 ?l_12 ?jq5d ?jq5e ?a_13 ?l_13 ?jq5f ?jq5g ?a_14 ?l_14 ?jq5h ?jq5i ?a_15 ?l_15 ?jq5j ?jq5k ?a_16 ?l_16 ?jq5l ?jq5m ?a_17 ?l_17 ?jq5n ?jq5o ?a_18 ?l_18 ?jq5p ?jq5q ?a_19 ?l_19 ?jq5r ?jq5s ?a_20 ?l_20 ?jq5t ?jq5u ?a_21 ?l_21 ?jq5v ?jq5w ?a_22 ?l_22 ?jq5x ?jq5y ?a_23 ?l_23 ?jq5z ?jq5A ?a_24 ?l_24 ?jq5B ?jq5C ?a_25 ?l_25 ?jq5D ?jq5E ?z1 ?z2 ?z3 ?z4 ?z5 ?z6 ?z7 ?z8 ?z9 ?z10 ?z11 ?jq1N ?ac0 ?ac1 ?ac2 ?ac3 ?ac4 ?ac5 ?ac6 ?ac7 ?acm ?atb ?ltb ?ktb ?rk0 ?rk1 ?rk2 ?rk3 ?rk4 ?rk5 ?rk6 ?rk7 ?pg0 ?hd0 ?po0 ?sa0 ?mk0 ?kc0 ?pg1 ?hd1 ?po1 ?sa1 ?mk1 ?kc1 ?pg2 ?hd2 ?po2 ?sa2 ?mk2 ?kc2 ?pg3 ?hd3 ?po3 ?sa3 ?mk3 ?kc3 ?pg4 ?hd4 ?po4 ?sa4 ?mk4 ?kc4 ?pg5 ?hd5 ?po5 ?sa5 ?mk5 ?kc5 ?pg6 ?hd6 ?po6 ?sa6 ?mk6 ?kc6 ?pg7 ?hd7 ?po7 ?sa7 ?mk7 ?kc7 ?jq3A ?jq5F ?jq4a ?jq3B ?jq4b ?jq3C ?jq5G ?jq4c ?jq3D ?jq4d ?jq3E ?jq5H ?jq4e ?jq3F ?jq4f ?jq3G ?jq5I ?jq4g ?jq3H ?jq4h ?jq3I ?jq5J ?jq4i ?jq3J ?jq4j ?jq3K ?jq5K ?jq4k ?jq3L ?jq4l ?jq3M ?jq5L ?jq4m ?jq3N ?jq4n ?jq3O ?jq5M ?jq4o ?jq3P ?jq4p ?jq4q ?jq4r ?jq4s ?jq4t ?jq4u ?jq4v ?jq4w ?jq4x ?l_mr ?jq5N ?jq1S ?jq2o ?jq4y ?jq4z ?jq4A ?jq4B ?jq4C ?jq4D ?jq4E ?l_mn ?jq5O ?jq2p ?jq2Q ?jq3Q ?jq5P ?jq4F ?jq3R ?jq4G ?jq4H ?jq4I ?jq4J ?l_mt ?jq5Q ?jq3y ?jq47 ?jq3S ?jq5R ?jq4K ?jq3T ?jq4L ?jq3U ?jq5S ?jq4M ?jq3V ?jq4N ?jq3W ?jq5T ?jq4O ?jq3X ?jq4P ?jq3Y ?jq5U ?jq4Q ?jq3Z ?jq4R ?jq40 ?jq5V ?jq4S ?jq41 ?jq4T ?jq42 ?jq5W ?jq4U ?jq4V ?jq4W ?jq43 ?jq5X ?jq4X ?jq4Y ?jq4Z ?jq44 ?jq5Y ?jq50 ?jq51 ?jq52 ?jq45 ?jq5Z ?jq53 ?jq54 ?jq55 ?jq46 ?jq60 ?jq56 ?jq57 ?jq58 ?na0 ?na1 ?na2 ?na3 ?na7 ?ni4 ?ni5 ?ni6 ?jq2q ?jq2r ?jq2s ?jq2t ?jq2u ?jq2v ?jq2w ?jq1p ?jq1H ?jq1q ?jq1r ?jq1s ?jq1t ?jq1I ?jq1u ?jq13 ?jq1v ?jq1w ?jq1J ?jq1x ?jq14 ?jq1y ?jq1z ?jq1K ?jq1A ?jq15 ?jq1B ?jq1C ?jq1L ?jq1D ?jq16 ?jq1E ?jq1h ?jq1F ?jq1i ?jq10 ?jq1j ?jq1a ?jq1k ?jq1b ?jqR ?jq1c ?jq17 ?jq1d ?jq18 ?jqM ?jq19 ?jqO ?jqT ?jqP ?jqx ?jqQ ?jqi ?jqn ?jqj ?jqe ?jqk ?jqu ?jqy ?jqv ?jqf ?jqw ?jq1e ?jq1l ?jq1f ?jqS ?jq1g ?jqH ?jqN ?jqI ?jqq ?jqJ ?jqU ?jq11 ?jqV ?jqz ?jqW ?jqB ?jqK ?jqC ?jql ?jqD ?jqE ?jqL ?jqF ?jqm ?jqG ?jqX ?jq12 ?jqY ?jqA ?jqZ ?jqg ?jq1 ?jq4 ?jq2 ?jq0 ?jq3 ?jqc ?jqb ?jq5 ?jqd ?jq1G ?jq3n ?jq2U ?jq1T ?jq1U ?jq1V ?jq2x ?jq2y ?jq2z ?jq2V ?jq1W ?jq3o ?jq1X ?jq1Y ?jq2A ?jq2B ?jq2C ?jq1Z ?jq2W ?jq20 ?jq2X ?jq6 ?jq7 ?jq3p ?jq3q ?jq3r ?jq8 ?jq9 ?jqa ?jq21 ?jq22 ?jq23 ?jq24 ?jq25 ?jq26 ?jq2D ?jq2E ?jq2F ?jq2G ?jq2H ?jq2I ?jq2J ?jq2K ?jq2L ?jq27 ?jq28 ?jq29 ?jq2Y ?jq2Z ?jq30 ?jq2a ?jq2b ?jq2c ?jq31 ?jq32 ?jq33 ?jq1m ?jq1n ?jq1o ?jq48 ?jq3z ?jq49 ?jq3e ?jq2R ?jq3f ?jq3g ?jq2S ?jq3h ?jq3s ?jq3i ?jq3t ?jq3u ?jq3j ?jq3v ?jq3w ?jq3k ?jq3x ?jqo ?jqp ?jqh ?jq3l ?jq2T ?jq3m ?jq34 ?jq2M ?jq35 ?jq2N ?jq2d ?jq2e ?jq36 ?jq37 ?jq2m ?jq38 ?jqr ?jq2f ?jq1Q ?jq2g ?jq1R ?jq1O ?jq1P ?jq2h ?jq2i ?jq1M ?jq2j ?jq39 ?jq2O ?jq3a ?jq2P ?jq2k ?jq2l ?jq3b ?jq3c ?jq2n ?jq3d ?jqs ?jqt
  (case a_1=>k_is)
  (case l_1=>k_is)
  (case cc_1=>k_is)
  (case kp_1=>k_is)
  (case a_2=>k_is)
  (case l_2=>k_is)
  (case cc_2=>k_is)
  (case kp_2=>k_is)
  (case a_3=>k_is)
  (case l_3=>k_is)
  (case cc_3=>k_is)
  (case kp_3=>k_is)
  (case a_4=>k_is)
  (case l_4=>k_is)
  (case cc_4=>k_is)
  (case kp_4=>k_is)
  (case a_5=>k_is)
  (case l_5=>k_is)
  (case cc_5=>k_is)
  (case kp_5=>k_is)
  (case a_6=>k_is)
  (case l_6=>k_is)
  (case cc_6=>k_is)
  (case kp_6=>k_is)
  (case a_7=>k_is)
  (case l_7=>k_is)
  (case cc_7=>k_is)
  (case kp_7=>k_is)
  (case a_8=>k_is)
  (case l_8=>k_is)
  (case cc_8=>k_is)
  (case kp_8=>k_is)
  (case a_9=>k_is)
  (case l_9=>k_is)
  (case cc_9=>k_is)
  (case kp_9=>k_is)
  (case a_10=>k_is)
  (case l_10=>k_is)
  (case jq59=>k_is)
  (case jq5a=>k_is)
  (case a_11=>k_is)
  (case l_11=>k_is)
  (case jq5b=>k_is)
  (case jq5c=>k_is)
  (case a_12=>k_is)
  (case l_12=>k_is)
  (case jq5d=>k_is)
  (case jq5e=>k_is)
  (case a_13=>k_is)
  (case l_13=>k_is)
  (case jq5f=>k_is)
  (case jq5g=>k_is)
  (case a_14=>k_is)
  (case l_14=>k_is)
  (case jq5h=>k_is)
  (case jq5i=>k_is)
  (case a_15=>k_is)
  (case l_15=>k_is)
  (case jq5j=>k_is)
  (case jq5k=>k_is)
  (case a_16=>k_is)
  (case l_16=>k_is)
  (case jq5l=>k_is)
  (case jq5m=>k_is)
  (case a_17=>k_is)
  (case l_17=>k_is)
  (case jq5n=>k_is)
  (case jq5o=>k_is)
  (case a_18=>k_is)
  (case l_18=>k_is)
  (case jq5p=>k_is)
  (case jq5q=>k_is)
  (case a_19=>k_is)
  (case l_19=>k_is)
  (case jq5r=>k_is)
  (case jq5s=>k_is)
  (case a_20=>k_is)
  (case l_20=>k_is)
  (case jq5t=>k_is)
  (case jq5u=>k_is)
  (case a_21=>k_is)
  (case l_21=>k_is)
  (case jq5v=>k_is)
  (case jq5w=>k_is)
  (case a_22=>k_is)
  (case l_22=>k_is)
  (case jq5x=>k_is)
  (case jq5y=>k_is)
  (case a_23=>k_is)
  (case l_23=>k_is)
  (case jq5z=>k_is)
  (case jq5A=>k_is)
  (case a_24=>k_is)
  (case l_24=>k_is)
  (case jq5B=>k_is)
  (case jq5C=>k_is)
  (case a_25=>k_is)
  (case l_25=>k_is)
  (case jq5D=>k_is)
  (case jq5E=>k_is)
  (case z1=>k_is)
  (case z2=>k_is)
  (case z3=>k_is)
  (case z4=>k_is)
  (case z5=>k_is)
  (case z6=>k_is)
  (case z7=>k_is)
  (case z8=>k_is)
  (case z9=>k_is)
  (case z10=>k_is)
  (case z11=>k_is)
  (case jq1N=>k_is)
  (case ac0=>k_is)
  (case ac1=>k_is)
  (case ac2=>k_is)
  (case ac3=>k_is)
  (case ac4=>k_is)
  (case ac5=>k_is)
  (case ac6=>k_is)
  (case ac7=>k_is)
  (case acm=>k_is)
  (case atb=>k_is)
  (case ltb=>k_is)
  (case ktb=>k_keys)
  (case rk0=>k_is)
  (case rk1=>k_is)
  (case rk2=>k_is)
  (case rk3=>k_is)
  (case rk4=>k_is)
  (case rk5=>k_is)
  (case rk6=>k_is)
  (case rk7=>k_is)
  (case pg0=>k_is)
  (case hd0=>k_is)
  (case po0=>k_is)
  (case sa0=>k_is)
  (case mk0=>k_is)
  (case kc0=>k_is)
  (case pg1=>k_is)
  (case hd1=>k_is)
  (case po1=>k_is)
  (case sa1=>k_is)
  (case mk1=>k_is)
  (case kc1=>k_is)
  (case pg2=>k_is)
  (case hd2=>k_is)
  (case po2=>k_is)
  (case sa2=>k_is)
  (case mk2=>k_is)
  (case kc2=>k_is)
  (case pg3=>k_is)
  (case hd3=>k_is)
  (case po3=>k_is)
  (case sa3=>k_is)
  (case mk3=>k_is)
  (case kc3=>k_is)
  (case pg4=>k_is)
  (case hd4=>k_is)
  (case po4=>k_is)
  (case sa4=>k_is)
  (case mk4=>k_is)
  (case kc4=>k_is)
  (case pg5=>k_is)
  (case hd5=>k_is)
  (case po5=>k_is)
  (case sa5=>k_is)
  (case mk5=>k_is)
  (case kc5=>k_is)
  (case pg6=>k_is)
  (case hd6=>k_is)
  (case po6=>k_is)
  (case sa6=>k_is)
  (case mk6=>k_is)
  (case kc6=>k_is)
  (case pg7=>k_is)
  (case hd7=>k_is)
  (case po7=>k_is)
  (case sa7=>k_is)
  (case mk7=>k_is)
  (case kc7=>k_is)
  (case jq3A=>k_is)
  (case jq5F=>k_is)
  (case jq4a=>k_is)
  (case jq3B=>k_is)
  (case jq4b=>k_is)
  (case jq3C=>k_is)
  (case jq5G=>k_is)
  (case jq4c=>k_is)
  (case jq3D=>k_is)
  (case jq4d=>k_is)
  (case jq3E=>k_is)
  (case jq5H=>k_is)
  (case jq4e=>k_is)
  (case jq3F=>k_is)
  (case jq4f=>k_is)
  (case jq3G=>k_is)
  (case jq5I=>k_is)
  (case jq4g=>k_is)
  (case jq3H=>k_is)
  (case jq4h=>k_is)
  (case jq3I=>k_is)
  (case jq5J=>k_is)
  (case jq4i=>k_is)
  (case jq3J=>k_is)
  (case jq4j=>k_is)
  (case jq3K=>k_is)
  (case jq5K=>k_is)
  (case jq4k=>k_is)
  (case jq3L=>k_is)
  (case jq4l=>k_is)
  (case jq3M=>k_is)
  (case jq5L=>k_is)
  (case jq4m=>k_is)
  (case jq3N=>k_is)
  (case jq4n=>k_is)
  (case jq3O=>k_is)
  (case jq5M=>k_is)
  (case jq4o=>k_is)
  (case jq3P=>k_is)
  (case jq4p=>k_is)
  (case jq4q=>k_is)
  (case jq4r=>k_is)
  (case jq4s=>k_is)
  (case jq4t=>k_is)
  (case jq4u=>k_is)
  (case jq4v=>k_is)
  (case jq4w=>k_is)
  (case jq4x=>k_is)
  (case l_mr=>k_is)
  (case jq5N=>k_is)
  (case jq1S=>k_is)
  (case jq2o=>k_is)
  (case jq4y=>k_is)
  (case jq4z=>k_is)
  (case jq4A=>k_is)
  (case jq4B=>k_is)
  (case jq4C=>k_is)
  (case jq4D=>k_is)
  (case jq4E=>k_is)
  (case l_mn=>k_is)
  (case jq5O=>k_is)
  (case jq2p=>k_is)
  (case jq2Q=>k_is)
  (case jq3Q=>k_is)
  (case jq5P=>k_is)
  (case jq4F=>k_is)
  (case jq3R=>k_is)
  (case jq4G=>k_is)
  (case jq4H=>k_is)
  (case jq4I=>k_is)
  (case jq4J=>k_is)
  (case l_mt=>k_is)
  (case jq5Q=>k_is)
  (case jq3y=>k_is)
  (case jq47=>k_is)
  (case jq3S=>k_is)
  (case jq5R=>k_is)
  (case jq4K=>k_is)
  (case jq3T=>k_is)
  (case jq4L=>k_is)
  (case jq3U=>k_is)
  (case jq5S=>k_is)
  (case jq4M=>k_is)
  (case jq3V=>k_is)
  (case jq4N=>k_is)
  (case jq3W=>k_is)
  (case jq5T=>k_is)
  (case jq4O=>k_is)
  (case jq3X=>k_is)
  (case jq4P=>k_is)
  (case jq3Y=>k_is)
  (case jq5U=>k_is)
  (case jq4Q=>k_is)
  (case jq3Z=>k_is)
  (case jq4R=>k_is)
  (case jq40=>k_is)
  (case jq5V=>k_is)
  (case jq4S=>k_is)
  (case jq41=>k_is)
  (case jq4T=>k_is)
  (case jq42=>k_is)
  (case jq5W=>k_is)
  (case jq4U=>k_is)
  (case jq4V=>k_is)
  (case jq4W=>k_is)
  (case jq43=>k_is)
  (case jq5X=>k_is)
  (case jq4X=>k_is)
  (case jq4Y=>k_is)
  (case jq4Z=>k_is)
  (case jq44=>k_is)
  (case jq5Y=>k_is)
  (case jq50=>k_is)
  (case jq51=>k_is)
  (case jq52=>k_is)
  (case jq45=>k_is)
  (case jq5Z=>k_is)
  (case jq53=>k_is)
  (case jq54=>k_is)
  (case jq55=>k_is)
  (case jq46=>k_is)
  (case jq60=>k_is)
  (case jq56=>k_is)
  (case jq57=>k_is)
  (case jq58=>k_is)
  (case na0=>k_is)
  (case na1=>k_is)
  (case na2=>k_is)
  (case na3=>k_is)
  (case na7=>k_is)
  (case ni4=>k_is)
  (case ni5=>k_is)
  (case ni6=>k_is)
  (case jq2q=>k_is)
  (case jq2r=>k_is)
  (case jq2s=>k_is)
  (case jq2t=>k_is)
  (case jq2u=>k_is)
  (case jq2v=>k_is)
  (case jq2w=>k_is)
  (case jq1p=>k_is)
  (case jq1H=>k_is)
  (case jq1q=>k_is)
  (case jq1r=>k_is)
  (case jq1s=>k_is)
  (case jq1t=>k_is)
  (case jq1I=>k_is)
  (case jq1u=>k_is)
  (case jq13=>k_is)
  (case jq1v=>k_is)
  (case jq1w=>k_is)
  (case jq1J=>k_is)
  (case jq1x=>k_is)
  (case jq14=>k_is)
  (case jq1y=>k_is)
  (case jq1z=>k_is)
  (case jq1K=>k_is)
  (case jq1A=>k_is)
  (case jq15=>k_is)
  (case jq1B=>k_is)
  (case jq1C=>k_is)
  (case jq1L=>k_is)
  (case jq1D=>k_is)
  (case jq16=>k_is)
  (case jq1E=>k_is)
  (case jq1h=>k_is)
  (case jq1F=>k_is)
  (case jq1i=>k_is)
  (case jq10=>k_is)
  (case jq1j=>k_is)
  (case jq1a=>k_is)
  (case jq1k=>k_is)
  (case jq1b=>k_is)
  (case jqR=>k_is)
  (case jq1c=>k_is)
  (case jq17=>k_is)
  (case jq1d=>k_is)
  (case jq18=>k_is)
  (case jqM=>k_is)
  (case jq19=>k_is)
  (case jqO=>k_is)
  (case jqT=>k_is)
  (case jqP=>k_is)
  (case jqx=>k_is)
  (case jqQ=>k_is)
  (case jqi=>k_is)
  (case jqn=>k_is)
  (case jqj=>k_is)
  (case jqe=>k_is)
  (case jqk=>k_is)
  (case jqu=>k_is)
  (case jqy=>k_is)
  (case jqv=>k_is)
  (case jqf=>k_is)
  (case jqw=>k_is)
  (case jq1e=>k_is)
  (case jq1l=>k_is)
  (case jq1f=>k_is)
  (case jqS=>k_is)
  (case jq1g=>k_is)
  (case jqH=>k_is)
  (case jqN=>k_is)
  (case jqI=>k_is)
  (case jqq=>k_is)
  (case jqJ=>k_is)
  (case jqU=>k_is)
  (case jq11=>k_is)
  (case jqV=>k_is)
  (case jqz=>k_is)
  (case jqW=>k_is)
  (case jqB=>k_is)
  (case jqK=>k_is)
  (case jqC=>k_is)
  (case jql=>k_is)
  (case jqD=>k_is)
  (case jqE=>k_is)
  (case jqL=>k_is)
  (case jqF=>k_is)
  (case jqm=>k_is)
  (case jqG=>k_is)
  (case jqX=>k_is)
  (case jq12=>k_is)
  (case jqY=>k_is)
  (case jqA=>k_is)
  (case jqZ=>k_is)
  (case jqg=>k_is)
  (case jq1=>k_is)
  (case jq4=>k_is)
  (case jq2=>k_is)
  (case jq0=>k_is)
  (case jq3=>k_is)
  (case jqc=>k_is)
  (case jqb=>k_is)
  (case jq5=>k_is)
  (case jqd=>k_is)
  (case jq1G=>k_is)
  (case jq3n=>k_is)
  (case jq2U=>k_is)
  (case jq1T=>k_is)
  (case jq1U=>k_is)
  (case jq1V=>k_is)
  (case jq2x=>k_is)
  (case jq2y=>k_is)
  (case jq2z=>k_is)
  (case jq2V=>k_is)
  (case jq1W=>k_is)
  (case jq3o=>k_is)
  (case jq1X=>k_is)
  (case jq1Y=>k_is)
  (case jq2A=>k_is)
  (case jq2B=>k_is)
  (case jq2C=>k_is)
  (case jq1Z=>k_is)
  (case jq2W=>k_is)
  (case jq20=>k_is)
  (case jq2X=>k_is)
  (case jq6=>k_is)
  (case jq7=>rfl)
  (case jq3p=>k_is)
  (case jq3q=>with_unfolding_all rfl)
  (case jq3r=>k_is)
  (case jq8=>k_is)
  (case jq9=>with_unfolding_all rfl)
  (case jqa=>k_is)
  (case jq21=>k_is)
  (case jq22=>with_unfolding_all rfl)
  (case jq23=>k_is)
  (case jq24=>k_is)
  (case jq25=>with_unfolding_all rfl)
  (case jq26=>k_is)
  (case jq2D=>k_is)
  (case jq2E=>with_unfolding_all rfl)
  (case jq2F=>k_is)
  (case jq2G=>k_is)
  (case jq2H=>with_unfolding_all rfl)
  (case jq2I=>k_is)
  (case jq2J=>k_is)
  (case jq2K=>with_unfolding_all rfl)
  (case jq2L=>k_is)
  (case jq27=>k_is)
  (case jq28=>with_unfolding_all rfl)
  (case jq29=>k_is)
  (case jq2Y=>k_is)
  (case jq2Z=>with_unfolding_all rfl)
  (case jq30=>k_is)
  (case jq2a=>k_is)
  (case jq2b=>with_unfolding_all rfl)
  (case jq2c=>k_is)
  (case jq31=>k_is)
  (case jq32=>with_unfolding_all rfl)
  (case jq33=>k_is)
  (case jq1m=>k_is)
  (case jq1n=>k_is)
  (case jq1o=>k_is)
  (case jq48=>k_is)
  (case jq3z=>k_is)
  (case jq49=>k_is)
  (case jq3e=>k_is)
  (case jq2R=>k_is)
  (case jq3f=>k_is)
  (case jq3g=>k_is)
  (case jq2S=>k_is)
  (case jq3h=>k_is)
  (case jq3s=>k_is)
  (case jq3i=>k_is)
  (case jq3t=>k_is)
  (case jq3u=>k_is)
  (case jq3j=>k_is)
  (case jq3v=>k_is)
  (case jq3w=>k_is)
  (case jq3k=>k_is)
  (case jq3x=>k_is)
  (case jqo=>kts_exm)
  (case jqp=>kts_exm)
  (case jqh=>kts_exm)
  (case jq3l=>k_is)
  (case jq2T=>k_is)
  (case jq3m=>k_is)
  (case jq34=>k_is)
  (case jq2M=>k_is)
  (case jq35=>k_is)
  (case jq2N=>k_is)
  (case jq2d=>k_is)
  (case jq2e=>k_is)
  (case jq36=>k_is)
  (case jq37=>k_is)
  (case jq2m=>k_is)
  (case jq38=>k_is)
  (case jqr=>kts_exm)
  (case jq2f=>k_is)
  (case jq1Q=>k_is)
  (case jq2g=>k_is)
  (case jq1R=>k_is)
  (case jq1O=>k_is)
  (case jq1P=>k_is)
  (case jq2h=>k_is)
  (case jq2i=>k_is)
  (case jq1M=>k_is)
  (case jq2j=>k_is)
  (case jq39=>k_is)
  (case jq2O=>k_is)
  (case jq3a=>k_is)
  (case jq2P=>k_is)
  (case jq2k=>k_is)
  (case jq2l=>k_is)
  (case jq3b=>k_is)
  (case jq3c=>k_is)
  (case jq2n=>k_is)
  (case jq3d=>k_is)
  (case jqs=>kts_exm)
  (case jqt=>kts_exm)
