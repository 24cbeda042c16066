import PyProof.Rows.All
import Wide.All
import OpenK.AllK
import Wide.FinOn
import Lean
import PyProof.EqAt
import PyProof.EqKinds
import PyProof.TupleCall
import PySem.Challenge.RW_moot_k16_whole_each_motion_once
set_option Elab.async false
set_option linter.all false
set_option maxRecDepth 100000
open PySem.Str renaming ofString → ar, join → sr, empty → akP
open PySem.W renaming Frag → ba, findIn → cb, keepIn → da, codeIn → de, nsIn → di, fnOf → fe, mg_of → kg, isFn → ma, exmOne → akA, emptyDict → akN, hasDictIn → akQ, instObj → akS, plainGet → akT, plainOver → akY, mg_none_of → ak4, makesIn → ak5, methodCall_KW → alg, callWith_K0 → alU, callWith_K → alW
open List renaming length_map → bo, mem_cons_self → fu, length_append → gn, mem_append_right → kj, map_cons → ko, size_toArray → kr, map_append → ku, mem_cons_of_mem → ky, length_singleton → tu, getElem?_eq_getElem → wt, length_cons → akp, getD_eq_getElem?_getD → akw, eq_nil_or_concat → aky, concat_eq_append → akz, getElem?_cons_zero → akE, cons_ne_nil → akH, getElem?_cons_succ → akJ, getElem?_map → akK, range' → akL, mem_of_getElem? → akM, mem_singleton → akR, find?_cons → akU, map_nil → akW, length_take → akX, mem_append_left → akZ, lookup → ak0, getLast?_concat → ak1, Perm → ak2, getElem?_append_right → ak8, length_range' → ak9, dropLast_concat → ala, length_set → ald, map_congr_left → ale, append_assoc → alf, append_nil → alj, take_length → alr, length_replicate → aly, mem_range'_1 → alC, range → alD, length_nil → alE, length_zip → alF, flatMap_append → alG, map_map → alK, length_drop → alL, take_succ → alQ, flatMap_cons → alS, replicate → alV, nil_append → alY
open PySem renaming wpAny_bind → eg, mainGlobals → ka, sizeLine → kf, FuncData → ki, Program → me, wpAny_pure → si, starEach → adm, wpAny_mono → ako, wpAny → akr, Spec → akv, excClassObj → akV, wpAny_standAt → alc, bootBuiltins → ali, compareOp → alo, DictEntry → alq, mem_of_lookup → alv, sizeLine_eq → alw, sysModules → alN
open PySem.Heap renaming get?_push_of_some → gr, lt_size → om, get?_push_size → aku, get?_update_other → ak3, get?_update_self → alz, size_push → alA
open Nat renaming le_refl → km, le_trans → tm, lt_of_lt_of_le → akq, ne_of_lt → aks, le_succ_of_le → akD, zero_le → ak6, le_succ → ak7, lt_irrefl → alZ
open Sum renaming inl → kq, inr → wa
open Bool renaming false_ne_true → kx, and_eq_true → alp, and_self → al0
open PySem.F renaming plainAttrs_list → rf, slot_list_append → akB, type_list_append → akC, plainAttrs_str → alJ
open Or renaming inl → Lk
open PySem.Value renaming ref → akt, none → alM
open Option.some renaming inj → akx
open False renaming elim → akF
open PySem.PyData renaming canLay0 → akG, canLayAll0 → akO, strOk → alk, depth → alm, depthAll → aln, eqv → alP, int → al1
open Ne renaming symm → akI
open Int renaming emod_lt_of_pos → alb, emod_nonneg → alx
open PySem.NameKind renaming free → alh
open PySem.Obj renaming mapFields → als
open Array renaming length_toList → alu
open PySem.Builtin.Str renaming occurrences → alB
open PyProof.Rows renaming callWith_type1 → alH
open PySem.SeqAt renaming shaped → alI
open True renaming intro → alO
open PySem.Builtin.Slice renaming slicePlaces → alR
open PySem.Builtin.Tuple renaming tupleExact → alT
open List.Perm renaming append_right → alX
namespace L2
open PySem PySem.Spec PyProof.Rows
abbrev Key:=Sum Int Str
def AI:Key->Value->Bool
 | .inl k,v=>Value.isInt k v
 | .inr x,v=>Value.isStrOf x v
def ahK (w:World):Key->Int
 | .inl k=>hashInt k
 | .inr x=>hashStr w x
theorem dj:∀ {k:Key} {v:Value},AI k v=true->(∃i t,k=kq i/\v=Value.int i t)\/(∃x t,k=wa x/\v=Value.str x t)
 | .inl i,v,h=>by
  obtain⟨t,e⟩:=Value.isInt_shape (k:=i) (v:=v) h;exact .inl ⟨i,t,rfl,e⟩
 | .inr x,v,h=>by
  obtain⟨t,e⟩:=Value.isStrOf_shape (x:=x) (v:=v) h;exact .inr ⟨x,t,rfl,e⟩
theorem M0 (i:Int)(t:Tok):AI (.inl i) (.int i t)=true:=by simp[AI,Value.isInt]
theorem M3 (x:Str)(t:Tok):AI (.inr x) (.str x t)=true:=by simp[AI,Value.isStrOf]
theorem VO (a b:Int):decide ((kq a:Key)=kq b)=(a == b):=by
 by_cases e:a=b
 ·subst e;simp
 ·have h:¬(kq a:Key)=kq b:=λq=>e (Sum.inl.inj q)
  rw[decide_eq_false h];exact(beq_eq_false_iff_ne.mpr e).symm
theorem VP (a b:Str):decide ((wa a:Key)=wa b)=decide (a=b):=by
 by_cases e:a=b
 ·subst e;simp
 ·have h:¬(wa a:Key)=wa b:=λq=>e (Sum.inr.inj q)
  rw[decide_eq_false h,decide_eq_false e]
theorem VQ (a:Int)(b:Str):decide ((kq a:Key)=wa b)=false:=decide_eq_false (λq=>nomatch q)
theorem VR (a:Str)(b:Int):decide ((wa a:Key)=kq b)=false:=decide_eq_false (λq=>nomatch q)
def cO (prog:me)(w:World):PySem.KeyKind prog w Key where
 is:=AI
 hash:=ahK w
 inj:=λv a b ha hb=>by
  rcases dj ha with ⟨i,t,rfl,rfl⟩ | ⟨x,t,rfl,rfl⟩
  ·rcases dj hb with ⟨j,u,rfl,e⟩ | ⟨y,u,rfl,e⟩
   ·injection e with e1 _;rw[e1]
   ·exact nomatch e
  ·rcases dj hb with ⟨j,u,rfl,e⟩ | ⟨y,u,rfl,e⟩
   ·exact nomatch e
   ·injection e with e1 _;rw[e1]
 byValue:=λk v h=>by
  rcases dj h with ⟨i,t,rfl,rfl⟩ | ⟨x,t,rfl,rfl⟩ <;> rfl
 pyHash:=λhv h=>by
  rcases dj hv with ⟨i,t,rfl,rfl⟩ | ⟨x,t,rfl,rfl⟩
  ·exact wpAny_pyHash_int h
  ·exact wpAny_pyHash_str h
 eqBool:=λhu hv h=>by
  rcases dj hu with ⟨i,t,rfl,rfl⟩ | ⟨x,t,rfl,rfl⟩
  ·rcases dj hv with ⟨j,u,rfl,rfl⟩ | ⟨y,u,rfl,rfl⟩
   ·rw[VO]at h;exact wpAny_eqBool_int h
   ·rw[VQ]at h;exact SeqAt.EqAt.int_str i t y u _ _ _ _ h
  ·rcases dj hv with ⟨j,u,rfl,rfl⟩ | ⟨y,u,rfl,rfl⟩
   ·rw[VR]at h;exact SeqAt.EqAt.str_int x t j u _ _ _ _ h
   ·rw[VP]at h;exact wpAny_eqBool_str h
 «strs»:=λk x t v h=>by
  rcases dj h with ⟨i,u,rfl,e⟩ | ⟨y,u,rfl,e⟩
  ·exact nomatch e
  ·injection e with e1 _
   subst e1;cases v <;> rfl
theorem FY (prog:me)(w:World)(i:Int)(t:Tok):(cO prog w).is (.inl i) (.int i t)=true:=M0 i t
theorem FZ (prog:me)(w:World)(x:Str)(t:Tok):(cO prog w).is (.inr x) (.str x t)=true:=M3 x t
end L2
namespace L2
open PySem PySem.Spec PyProof.Rows
inductive V where
 |non | bl (b:Bool) | int (i:Int) | str (x:Str) | byt (b:Array UInt8) | flt (b:UInt64) | ref (a:Addr) | ty (n:String)
 deriving DecidableEq
def RelV:V->Value->Prop
 | .non,u=>u=alM
 | .bl b,u=>u=Value.bool b
 | .int i,u=>∃t,u=Value.int i t
 | .str x,u=>∃t,u=Value.str x t
 | .byt b,u=>∃t,u=Value.bytes b t
 | .flt b,u=>∃t,u=Value.float b t
 | .ref a,u=>u=akt a
 | .ty n,u=>u=Value.type n
abbrev Vals:List V->List Value->Prop:=Paired RelV
theorem Vals.length {xs:List V}{us:List Value}(r:Vals xs us):xs.length=us.length:=Paired.length r
theorem Vals.get:∀ {xs:List V} {us:List Value} {i:Nat} {x:V},Vals xs us->xs[i]?=some x->∃u,us[i]?=some u/\RelV x u
 |_,_,_,_,.nil,e=>by simp at e
 |_,_,0,_,.cons r _,e=>by simp at e;subst e;exact⟨_,rfl,r⟩
 |_,_,i+1,x,.cons _ t,e=>by
  obtain⟨u,h1,h2⟩:=Vals.get (i:=i) (x:=x) t (by simpa using e)
  exact⟨u,by simpa using h1,h2⟩
theorem Vals.set {x:V}{u:Value}(r:RelV x u):∀ {xs:List V} {us:List Value} (i:Nat),Vals xs us->Vals (xs.set i x) (us.set i u)
 |_,_,_,.nil=>.nil
 |_,_,0,.cons _ t=>.cons r t
 |_,_,i+1,.cons q t=>.cons q (Vals.set r i t)
theorem Vals.append:∀ {xs ys:List V} {us ws:List Value},Vals xs us->Vals ys ws->Vals (xs++ys) (us++ws)
 |_,_,_,_,.nil,s=>s
 |_,_,_,_,.cons r t,s=>.cons r (Vals.append t s)
theorem Vals.take:∀ {xs:List V} {us:List Value} (n:Nat),Vals xs us->Vals (xs.take n) (us.take n)
 |_,_,0,_=>.nil
 |_,_,_+1,.nil=>.nil
 |_,_,n+1,.cons r t=>.cons r (Vals.take n t)
theorem Vals.drop:∀ {xs:List V} {us:List Value} (n:Nat),Vals xs us->Vals (xs.drop n) (us.drop n)
 |_,_,0,r=>r
 |_,_,_+1,.nil=>.nil
 |_,_,n+1,.cons _ t=>Vals.drop n t
theorem Vals.none_of:∀ {xs:List V} {us:List Value} {i:Nat},Vals xs us->xs[i]?=none->us[i]?=none:=λ{xs us i} r e=>by
 have h1:=r.length;have h2:xs.length<=i:=List.getElem?_eq_none_iff.mp e;exact List.getElem?_eq_none_iff.mpr (by omega)
def qm:Option V->Option Value->Prop
 |some v,some u=>RelV v u
 |none,none=>True
 |_,_=>False
def KV {κ:Type}:List (κ×V)->List (κ×Value)->Prop:=Paired λ(p:κ×V) (q:κ×Value)=>p.1=q.1/\RelV p.2 q.2
def kV:Key->V
 | .inl i=>.int i
 | .inr x=>.str x
inductive HO where
 |lst (xs:List V)
 |tup (xs:List V)
 |dK (kvs:List (Key×V)) | dT (kvs:List (List Key×V))
 |set (S:Int->Bool) (n:Nat)
 |ins (C dx:Addr) (fs:List (Str×V))
 |own (x:Addr)
 |xd (fs:List (Str×V))
 |met (f x:Addr)
 |rng (lo hi:Int)
 |frz (o:Obj) (u:HO)
 |tbl (ps:Array Value)
 |ext (φ:Heap->Prop)
abbrev Hp:=Addr->Option HO
def upd (H:Hp)(a:Addr)(o:HO):Hp:=λb=>if b=a then some o else H b
theorem ae {H:Hp}{a:Addr}{o:HO}:upd H a o a=some o:=by unfold upd;rw[if_pos rfl]
theorem aw {H:Hp}{a b:Addr}{o:HO}(h:b≠a):upd H a o b=H b:=by unfold upd;rw[if_neg h]
theorem nz {H:Hp}{a:Addr}{o u:HO}:upd (upd H a o) a u=upd H a u:=by
 funext b;unfold upd;split <;> rfl
theorem aah {H:Hp}{a b:Addr}{o u:HO}(h:H a=some o)(h':H b=some u)(d:o≠u):a≠b:=by
 intro e;subst e;rw[h]at h';exact d (akx h')
theorem aJ {H:Hp}{a b:Addr}{o:HO}(h:H a=some o)(h':H b=none):a≠b:=by
 intro e;subst e;rw[h]at h';cases h'
section
variable(P:me)(w:World)
def eU (H:Hp)(h:Heap)(a:Addr):HO->Prop
 | .lst xs=>xs.length<=kf/\∃(its:List Value) (n:Nat),Vals xs its/\h.get? a=some { cls:=.type "list",data:=.seq its.toArray n }
 | .tup xs=>xs.length<=kf/\∃its:List Value,Vals xs its/\IsTup h a its.toArray
 | .dK kvs=>kvs.length<=kf/\(a == alN)=false/\∃vs,KV kvs vs/\h.DictOf (cO P w) a vs
 | .dT kvs=>kvs.length<=kf/\(a == alN)=false/\∃xs:List (List Key×Addr×Value),
   Paired (λ(p:List Key×V) (q:List Key×Addr×Value)=>p.1=q.1/\H q.2.1=some (.tup (p.1.map kV))/\RelV p.2 q.2.2) kvs xs /\
   ∃o es ep,h.get? a=some o/\o.ExactDict/\o.data=.dict es ep/\es.toList=xs.map (entryOfKey (tupleKind (cO P w)))/\(xs.map (·.1)).Nodup
 | .set S n=>h.SetOf (intKind P w) a S n
 | .ins C dx fs=>H dx=some (.own a)/\fs.length<=1000/\dx≠a/\h.get? a=some (akS C dx) /\
   ∃mA,h.Ns1 dx mA/\(∀f,qm (fs.lookup f) (mA f))/\PySem.Within mA (fs.map (·.1))
 | .own _=>∃o,h.get? a=some o
 | .xd fs=>∃mA,h.Ns1 a mA/\∀f,qm (fs.lookup f) (mA f)
 | .rng lo hi=>∃t u v,h.get? a=some { cls:=.type "range",data:=.fields #[.int lo t,.int hi u,.int 1 v] }
 | .frz o u=>h.get? a=some o/\eU H h a u
 | .tbl ps=>h.get? a=some { cls:=.none,data:=.fields ps }
 | .met f x=>h.get? a=some (PySem.W.methodObj (.ref f) (.ref x))
 | .ext φ=>φ h/\(∃o,h.get? a=some o)/\∀h1 h2:Heap,φ h1->(∀o,h1.get? a=some o->h2.get? a=some o)->φ h2
def HOk (H:Hp)(h:Heap):Prop:=∀a o,H a=some o->eU P w H h a o
end
section
variable{P:me}{w:World}{H H':Hp}{h h':Heap}{a:Addr}{o:HO}
theorem eU.lt (x:eU P w H h a o):a < h.objs.size:=by
 cases o with
 |lst xs=>obtain⟨_,_,_,_,e⟩:=x;exact om e
 |tup xs=>obtain⟨_,_,_,p⟩:=x;exact p.lt
 |dK kvs=>obtain⟨_,_,_,_,o,_,_,e,_⟩:=x;exact om e
 |dT kvs=>obtain⟨_,_,_,_,o,_,_,e,_⟩:=x;exact om e
 |set S n=>obtain⟨o,_,_,_,e,_⟩:=x;exact om e
 |ins C dx fs=>obtain⟨_,_,_,e,_⟩:=x;exact om e
 |own y=>obtain⟨_,e⟩:=x;exact om e
 |xd fs=>obtain⟨_,⟨_,_,_,e,_⟩,_⟩:=x;exact om e
 |rng lo hi=>obtain⟨_,_,_,e⟩:=x;exact om e
 |frz ob u=>obtain⟨e,_⟩:=x;exact om e
 |tbl ps=>exact om (show h.get? a=some _ from x)
 |met f y=>exact om (show h.get? a=some _ from x)
 |ext φ=>obtain⟨_,⟨_,e⟩,_⟩:=x;exact om e
theorem Paired.VS {α β:Type}{F G:α->β->Prop}:∀ {l₁:List α} {l₂:List β},Paired F l₁ l₂->(∀a b,F a b->G a b)->Paired G l₁ l₂
 |_,_,.nil,_=>.nil
 |_,_,.cons r t,f=>.cons (f _ _ r) (Paired.VS t f)
theorem eU.F0 (x:eU P w H h a o)(k:∀b u,(b=a\/H b=some (.own a))->h.get? b=some u->h'.get? b=some u)
  (ho:∀b,H b=some (.own a)->H' b=some (.own a)) (ht:∀b xs,H b=some (.tup xs)->H' b=some (.tup xs)):eU P w H' h' a o:=by
 induction o with
 |lst xs=>obtain⟨z,its,n,r,e⟩:=x;exact⟨z,its,n,r,k _ _ (.inl rfl) e⟩
 |tup xs=>obtain⟨z,its,r,ob,e,c⟩:=x;exact⟨z,its,r,ob,k _ _ (.inl rfl) e,c⟩
 |dK kvs=>obtain⟨z,y,vs,r,ob,es,ep,e,c⟩:=x;exact⟨z,y,vs,r,ob,es,ep,k _ _ (.inl rfl) e,c⟩
 |dT kvs =>
  obtain⟨z,y,xs,r,ob,es,ep,e,c⟩:=x;exact⟨z,y,xs,Paired.VS r λp q z=>⟨z.1,ht _ _ z.2.1,z.2.2⟩,ob,es,ep,k _ _ (.inl rfl) e,c⟩
 |set S n=>obtain⟨ob,es,ep,t,e,c⟩:=x;exact⟨ob,es,ep,t,k _ _ (.inl rfl) e,c⟩
 |ins C dx fs =>
  obtain⟨d,z,ne,e,mA,⟨od,es,ep,e2,c⟩,r⟩:=x;exact⟨ho _ d,z,ne,k _ _ (.inl rfl) e,mA,⟨od,es,ep,k _ _ (.inr d) e2,c⟩,r⟩
 |own y=>obtain⟨ob,e⟩:=x;exact⟨ob,k _ _ (.inl rfl) e⟩
 |xd fs=>obtain⟨mA,⟨od,es,ep,e,c⟩,r⟩:=x;exact⟨mA,⟨od,es,ep,k _ _ (.inl rfl) e,c⟩,r⟩
 |rng lo hi=>obtain⟨t,u,v,e⟩:=x;exact⟨t,u,v,k _ _ (.inl rfl) e⟩
 |frz ob u ih=>obtain⟨e,q⟩:=x;exact⟨k _ _ (.inl rfl) e,ih q⟩
 |tbl ps =>
  have e:h.get? a=some { cls:=.none,data:=.fields ps }:=x;show h'.get? a=some { cls:=.none,data:=.fields ps };exact k a _ (.inl rfl) e
 |met f y =>
  have e:h.get? a=some (PySem.W.methodObj (.ref f) (.ref y)):=x;show h'.get? a=some (PySem.W.methodObj (.ref f) (.ref y));exact k a _ (.inl rfl) e
 |ext φ=>obtain⟨p,⟨o,e⟩,st⟩:=x;exact⟨st _ _ p λo q=>k _ _ (.inl rfl) q,⟨o,k _ _ (.inl rfl) e⟩,st⟩
theorem HOk.lt (x:HOk P w H h)(e:H a=some o):a < h.objs.size:=(x a o e).lt
theorem HOk.fresh (x:HOk P w H h)(e:h.objs.size<=a):H a=none:=by
 cases q:H a with
 |none=>rfl
 |some u=>exact absurd (akq (x.lt q) e) (alZ _)
theorem HOk.kept (x:HOk P w H h)(k:∀b u,h.get? b=some u->h'.get? b=some u):HOk P w H h':=λa o e =>
 (x a o e).F0 (λb u _ q=>k b u q) (λ_ q=>q) λ_ _ q=>q
theorem HOk.laid (x:HOk P w H h)(k:∀b u,h.get? b=some u->h'.get? b=some u)(hp:h.objs.size<=a)(new:eU P w (upd H a o) h' a o):HOk P w (upd H a o) h':=λb u e=>by
 have hn:=x.fresh hp
 by_cases hb:b=a
 ·subst hb;rw[ae]at e;cases e;exact new
 ·rw[aw hb]at e;exact(x b u e).F0 (λc v _ q=>k c v q) (λc q=>by rw[aw (aJ q hn)];exact q) λc xs q=>by rw[aw (aJ q hn)];exact q
end
def Rd (H:Hp)(a:Addr)(u:HO):Prop:=H a=some u\/∃o,H a=some (.frz o u)
theorem Rd.of {H:Hp}{a:Addr}{u:HO}(h:H a=some u):Rd H a u:=.inl h
theorem Rd.ok {P:me}{w:World}{H:Hp}{h:Heap}{a:Addr}{u:HO}(r:Rd H a u)(x:HOk P w H h):eU P w H h a u:=by
 rcases r with r | ⟨o,r⟩
 ·exact x a u r
 ·obtain⟨_,q⟩:=x a _ r;exact q
def Mut:Option HO->Prop
 |some (.lst _)=>True
 |some (.dK _)=>True
 |some (.dT _)=>True
 |some (.set _ _)=>True
 |some (.ins _ _ _)=>True
 |some (.ext _)=>True
 |_=>False
section
variable{P:me}{w:World}{H:Hp}{h h':Heap}{x e:Addr}{o':HO}
theorem HOk.write (ok:HOk P w H h)(mu:Mut (H x))(he:e=x\/H e=some (.own x))(k:∀b u,b≠e->h.get? b=some u->h'.get? b=some u)(heo:∃u,h'.get? e=some u)
  (new:eU P w (upd H x o') h' x o'):HOk P w (upd H x o') h':=λb u q=>by
 have aai:∀c y,H c=some (.own y)->c≠x:=λc y r z=>by subst z;rw[r]at mu;exact mu
 have ahL:∀c xs,H c=some (.tup xs)->c≠x:=λc xs r z=>by subst z;rw[r]at mu;exact mu
 by_cases hb:b=x
 ·subst hb;rw[ae]at q;cases q;exact new
 ·rw[aw hb]at q
  by_cases hbe:b=e
  ·have q':H b=some (.own x):=by
    rcases he with z | z
    ·exact absurd (hbe.trans z) hb
    ·rw[hbe];exact z
   rw[q]at q';cases q';obtain⟨v,hv⟩:=heo;exact⟨v,by rw[hbe];exact hv⟩
  ·refine(ok b u q).F0 (λc v hc r=>k c v ?_ r) (λc r=>by rw[aw (aai c b r)];exact r) λc xs r=>by rw[aw (ahL c xs r)];exact r
   rcases hc with rfl | hc
   ·exact hbe
   ·rintro rfl;rcases he with z | z
    ·exact aai c b hc z
    ·rw[hc]at z;cases z;exact hb rfl
end
structure Un (fs ex:List Addr)(H H':Hp)(h h':Heap):Prop where
 keep:∀b o,h.get? b=some o->H b=none->b∉fs->b∉ex->h'.get? b=some o
 slot:∀b o,h.get? b=some o->H b=none->b∈fs->b∉ex->∃sl,h'.get? b=some { o with slots:=sl }
 free:∀b o,h.get? b=some o->H b=none->b∉ex->H' b=none
 there:∀b o,h.get? b=some o->b∉ex->∃o',h'.get? b=some o'
 xl:∀b xs,H b=some (.tup xs)->H' b=some (.tup xs)
 vq:∀b o u,H b=some (.frz o u)->H' b=some (.frz o u)
 xm:∀b ps,H b=some (.tbl ps)->∃more,H' b=some (.tbl (ps++more))
section
variable{fs fs' ex ex':List Addr}{H H1 H2:Hp}{h h1 h2 h':Heap}{a x e:Addr}{o:HO}
theorem Un.any (u:Un fs ex H H1 h h1){b:Addr}{ob:Obj}(q:h.get? b=some ob)(n:H b=none)(hx:b∉ex):∃sl,h1.get? b=some { ob with slots:=sl }:=by
 by_cases hb:b∈fs
 ·exact u.slot b ob q n hb hx
 ·exact⟨ob.slots,u.keep b ob q n hb hx⟩
theorem Un.trans (a:Un fs ex H H1 h h1)(b:Un fs ex H1 H2 h1 h2):Un fs ex H H2 h h2 where
 keep:=λc ob q n hc hx=>b.keep c ob (a.keep c ob q n hc hx) (a.free c ob q n hx) hc hx
 slot:=λc ob q n hc hx=>by
  obtain⟨sl,e1⟩:=a.slot c ob q n hc hx;obtain⟨sl',e2⟩:=b.slot c _ e1 (a.free c ob q n hx) hc hx;exact⟨sl',e2⟩
 free:=λc ob q n hx=>by
  obtain⟨o',e1⟩:=a.there c ob q hx;exact b.free c o' e1 (a.free c ob q n hx) hx
 there:=λc ob q hx=>by
  obtain⟨o',e1⟩:=a.there c ob q hx;exact b.there c o' e1 hx
 xl:=λc xs q=>b.xl c xs (a.xl c xs q)
 vq:=λc ob xs q=>b.vq c ob xs (a.vq c ob xs q)
 xm:=λc ps q=>by
  obtain⟨m1,e1⟩:=a.xm c ps q;obtain⟨m2,e2⟩:=b.xm c _ e1;exact⟨m1++m2,by rw[e2,Array.append_assoc]⟩
theorem Un.kept (k:∀b u,h.get? b=some u->h'.get? b=some u):Un fs ex H H h h' :=
 ⟨λb ob q _ _ _=>k b ob q,λb ob q _ _ _=>⟨ob.slots,k b ob q⟩,λ_ _ _ n _=>n,λb ob q _=>⟨ob,k b ob q⟩,λ_ _ q=>q,λ_ _ _ q=>q,λ_ ps q=>⟨#[],by rw[q];simp⟩⟩
theorem Un.refl:Un fs ex H H h h:=Un.kept λ_ _ q=>q
theorem Un.laid (k:∀b u,h.get? b=some u->h'.get? b=some u)(hp:h.objs.size<=a)(hn:H a=none):Un fs ex H (upd H a o) h h' where
 keep:=λb u q _ _ _=>k b u q
 slot:=λb u q _ _ _=>⟨u.slots,k b u q⟩
 free:=λb u q n _=>by rw[aw (aks (akq (om q) hp))];exact n
 there:=λb u q _=>⟨u,k b u q⟩
 xl:=λb xs q=>by rw[aw (aJ q hn)];exact q
 vq:=λb u xs q=>by rw[aw (aJ q hn)];exact q
 xm:=λb ps q=>⟨#[],by rw[aw (aJ q hn),q];simp⟩
theorem Un.write (mu:Mut (H x))(he:e=x\/H e=some (.own x))(k:∀b u,b≠e->h.get? b=some u->h'.get? b=some u)(heo:∃u,h'.get? e=some u):Un fs ex H (upd H x o) h h':=by
 have hx:∀b,H b=none->b≠x:=λb n z=>by subst z;rw[n]at mu;exact mu
 have hb:∀b,H b=none->b≠e:=λb n z=>by
  subst z;rcases he with r | r
  ·exact hx b n r
  ·rw[n]at r;cases r
 have hm:∀b u,H b=some u->¬Mut (some u)->b≠x:=λb u q nm z=>by subst z;rw[q]at mu;exact nm mu
 refine⟨λb u q n _ _=>k b u (hb b n) q,λb u q n _ _=>⟨u.slots,k b u (hb b n) q⟩,λb u q n _=>by rw[aw (hx b n)];exact n,λb u q _=>?_,
  λb xs q=>by rw[aw (hm b _ q λz=>z)];exact q,λb u xs q=>by rw[aw (hm b _ q λz=>z)];exact q,λb ps q=>⟨#[],by rw[aw (hm b _ q λz=>z),q];simp⟩⟩
 by_cases hbe:b=e
 ·subst hbe;exact heo
 ·exact⟨u,k b u hbe q⟩
theorem Un.mono (u:Un fs ex H H1 h h1)(hs:∀b∈fs,b∈fs')(hx:∀b∈ex,b∈ex'):Un fs' ex' H H1 h h1 :=
 ⟨λb ob q n hb he=>u.keep b ob q n (λz=>hb (hs b z)) λz=>he (hx b z),λ_ _ q n _ he=>u.any q n λz=>he (hx _ z),λb ob q n he=>u.free b ob q n λz=>he (hx b z),λb ob q he=>u.there b ob q λz=>he (hx b z),u.xl,u.vq,u.xm⟩
end
def trk (h:Heap)(H:Hp):List Addr:=(alD h.objs.size).filter λa=>(H a).isSome
def Er (h:Heap)(H:Hp):Heap:=PySem.W.hideAll h (trk h H)
theorem M4 (h:Heap)(H:Hp):(Er h H).objs.size=h.objs.size:=PySem.W.hideAll_size _ _
theorem OL {h:Heap}{H:Hp}{b:Addr}{o:Obj}(e:h.get? b=some o)(n:H b=none):(Er h H).get? b=some o :=
 PySem.W.hideAll_get _ e λhm=>by
  have q:(H b).isSome=true:=(List.mem_filter.mp hm).2;rw[n]at q;simp at q
theorem R9 {h:Heap}{H:Hp}{b:Addr}{o:Obj}(e:(Er h H).get? b=some o):h.get? b=some o/\H b=none:=by
 have e':h.get? b=some o:=PySem.W.of_hideAll (trk h H) e;refine⟨e',?_⟩;cases q:H b with
 |none=>rfl
 |some x =>
  have hm:b∈trk h H:=List.mem_filter.mpr ⟨List.mem_range.mpr (om e'),by simp[q]⟩
  have z:(Er h H).get? b=none:=PySem.W.hideAll_none (trk h H) hm;rw[z]at e;cases e
def Sa (g h:Heap)(L:Addr):List (Addr×Obj):=(alD h.objs.size).filterMap λa=>if a=L\/(g.get? a).isSome=true then none else (h.get? a).map λo=>(a,o)
def rest (g h:Heap)(L d:Addr):List (Addr×Obj):=(Sa g h L).filter λp=>decide (p.1≠d)
end L2
namespace L2
open PySem PySem.Spec PyProof.Rows
structure Mod (K:ba)(mg:Str->Option Value)(base:Heap):Prop where
 kin:K.In base
 glob:base.Ns ka mg
 blt:∃mb,base.Ns builtinsNs mb/\∀x:Str,x≠"__name__"->mb x=ali x
 nolimit:base.NoLimit
structure Cx where
 prog:me
 w:World
 K:ba
 mg:Str->Option Value
 base:Heap
 A:Around
 N:List Str
 s₀:Shared
 H₀:Hp
 env:Env
 outer:List Env
 stack:List Env
 ex:List Addr
 fn:Str->Bool
 calm:Bool
 pn:List (Addr×Obj)
 xe:Value->Shared->Prop
def frs (l:List Env):List Addr:=l.filterMap (·.frame)
abbrev Cx.fs (X:Cx):List Addr:=frs X.outer
def Vis (sc:Scope)(x:Str):Prop:=sc.names.lookup x=some .local\/sc.names.lookup x=some .cell\/sc.names.lookup x=some .free
def Loc (sc:Scope)(x:Str):Prop:=sc.names.lookup x=some .local\/sc.names.lookup x=some .cell
def Look (env:Env)(h:Heap)(m:Str->Option Value)(x:Str)(u:Value):Prop :=
 (env.kindOf x=some .local/\m x=some u)\/((env.kindOf x=some .cell\/env.kindOf x=some .free)/\∃c,env.cells.lookup x=some c/\h.IsCell c (some u))
structure Cx.Ok (X:Cx):Prop where
 mod:Mod X.K X.mg X.base
 kind:X.env.scope.kind=.function
 glob:X.env.globals=ka
 blt:X.env.builtins=builtinsNs
 above:X.s₀.heap.objs.size<=X.env.locals
 inj:∀x y c,X.env.cells.lookup x=some c->X.env.cells.lookup y=some c->x=y
 has:∀x,(X.env.kindOf x=some .cell\/X.env.kindOf x=some .free)->∃c,X.env.cells.lookup x=some c
 cab:∀x c,X.fn x=true->X.env.cells.lookup x=some c->X.s₀.heap.objs.size<=c
 hd:X.calm=true->X.A.handled=none
 frames:X.A.frames=some X.stack
 stk:X.stack=X.outer\/(X.stack=X.env::X.outer/\X.env.frame=some X.env.locals)
 exf:∀b∈X.ex,b≠X.env.locals/\∀x c,X.env.cells.lookup x=some c->c≠b
 bs:∀b o,X.base.get? b=some o->X.s₀.heap.get? b=some o/\X.H₀ b=none
 bsz:X.base.objs.size<=X.s₀.heap.objs.size
 Es:∀b o,X.base.get? b=some o->b∉X.ex
 Et:∀b∈X.ex,b∉X.fs
 uw:X.s₀.heap.FunFrames X.base X.outer
 frf:∀b∈X.fs,X.H₀ b=none
structure Inv (X:Cx)(pins:List (Addr×Obj))(σ:List (Option V))(H:Hp)(s:Shared):Prop where
 ok:X.Ok
 os:s.os=X.s₀.os
 bare:AllBare s.gens
 base:Un X.fs X.ex X.H₀ H X.s₀.heap s.heap
 loc:∃m,s.heap.Ns X.env.locals m/\∀(i:Nat) (x:Str) (v:V),X.N[i]?=some x->σ[i]?=some (some v)->Vis X.env.scope x->∃u,RelV v u/\Look X.env s.heap m x u
 cell:∀x c,X.env.cells.lookup x=some c->∃v,s.heap.IsCell c v
 free:H X.env.locals=none
 oN:∀x c,X.env.cells.lookup x=some c->H c=none
 pin:∀p∈X.pn++pins,s.heap.get? p.1=some p.2/\H p.1=none/\p.1≠X.env.locals/\p.1∉X.fs/\∀v,p.2.data≠.cell v
 hok:HOk X.prog X.w H s.heap
 len:σ.length=X.N.length
section
variable{X:Cx}{pins:List (Addr×Obj)}{σ:List (Option V)}{H H':Hp}{s:Shared}{h':Heap}
theorem Cx.Ok.ahM (ok:X.Ok){b:Addr}{o:Obj}(e:X.base.get? b=some o):b∉X.fs:=λhb=>by
 have:=(ok.uw.mem hb).1;rw[e]at this;cases this
theorem Inv.bs (I:Inv X pins σ H s):∀b o,X.base.get? b=some o->s.heap.get? b=some o/\H b=none:=λb o e =>
 ⟨I.base.keep b o (I.ok.bs b o e).1 (I.ok.bs b o e).2 (I.ok.ahM e) (I.ok.Es b o e),I.base.free b o (I.ok.bs b o e).1 (I.ok.bs b o e).2 (I.ok.Es b o e)⟩
theorem Inv.bk (I:Inv X pins σ H s):∀b o,X.base.get? b=some o->s.heap.get? b=some o:=λb o e=>(I.bs b o e).1
theorem Inv.mod (I:Inv X pins σ H s):Mod X.K X.mg X.base:=I.ok.mod
theorem Inv.kIn (I:Inv X pins σ H s):X.K.In s.heap:=I.ok.mod.kin.keeps I.bk
theorem Inv.nolimit (I:Inv X pins σ H s):s.heap.NoLimit:=I.ok.mod.nolimit.keeps I.bk
theorem Inv.fr (I:Inv X pins σ H s):∃m,Fr X.base X.env.locals s.heap m :=
 let ⟨m,hn,_⟩:=I.loc
 ⟨m,hn,I.bk,tm I.ok.bsz I.ok.above⟩
theorem Inv.lt (I:Inv X pins σ H s):X.env.locals < s.heap.objs.size:=let ⟨_,hn,_⟩:=I.loc;hn.lt
theorem Inv.sz (I:Inv X pins σ H s):X.s₀.heap.objs.size<=s.heap.objs.size:=tm I.ok.above (Nat.le_of_lt I.lt)
theorem Inv.ahN (I:Inv X pins σ H s){a:Addr}(h:s.heap.objs.size<=a):a∉X.fs:=λhb=>by
 obtain⟨_,o,ho,_⟩:=I.ok.uw.mem hb;exact absurd (akq (om ho) (tm I.sz h)) (alZ _)
theorem Inv.cne (I:Inv X pins σ H s):∀x c,X.env.cells.lookup x=some c->c≠X.env.locals:=λx c e z=>by
 obtain⟨v,o,ho,hd⟩:=I.cell x c e;obtain⟨m,⟨o',es,ep,ho',hd',_⟩,_⟩:=I.loc;rw[z,ho']at ho;cases ho;rw[hd']at hd;cases hd
theorem Inv.uw (I:Inv X pins σ H s):s.heap.FunFrames X.base X.outer:=by
 have all:∀(l:List Env),(∀b∈frs l,b∈X.fs)->X.s₀.heap.FunFrames X.base l->s.heap.FunFrames X.base l:=by
  intro l
  induction l with
  |nil=>intro _ _;trivial
  |cons env r ih =>
   intro hs hl;obtain⟨hk,⟨L,o,hf,hn,ho,hd⟩,hr⟩:=hl;have hL:L∈X.fs:=hs L (by unfold frs;rw[List.filterMap_cons,hf];exact fu)
   obtain⟨sl,e⟩:=I.base.slot L o ho (I.ok.frf L hL) hL λz=>I.ok.Et L z hL
   exact⟨hk,⟨L,_,hf,hn,e,hd⟩,ih (λb hb=>hs b (by unfold frs;rw[List.filterMap_cons,hf];exact ky _ hb)) hr⟩
 exact all X.outer (λ_ hb=>hb) I.ok.uw
theorem Inv.stack (I:Inv X pins σ H s):s.heap.FunFrames X.base X.stack:=by
 rcases I.ok.stk with e | ⟨e,hf⟩
 ·rw[e];exact I.uw
 ·rw[e];obtain⟨m,hn,_⟩:=I.loc;refine .cons (by rw[I.ok.kind];decide) hf hn ?_ I.uw
  exact Heap.get?_none_of_le (tm I.ok.bsz I.ok.above)
theorem Inv.AJ (I:Inv X pins σ H s):∀b∈frs X.stack,b∈X.env.locals::X.fs:=λb hb=>by
 rcases I.ok.stk with e | ⟨e,hf⟩
 ·rw[e]at hb;exact ky _ hb
 ·rw[e]at hb;unfold frs at hb;rw[List.filterMap_cons,hf]at hb;exact hb
theorem Inv.Al (I:Inv X pins σ H s):∀b∈frs X.stack,H b=none:=λb hb=>by
 rcases List.mem_cons.mp (I.AJ b hb) with e | hb
 ·rw[e];exact I.free
 ·obtain⟨_,o,ho,_⟩:=I.ok.uw.mem hb;exact I.base.free b o ho (I.ok.frf b hb) λz=>I.ok.Et b z hb
theorem Inv.step {g':Array GenState}{t':Nat}{d':Drawn}{ch:List Addr}(I:Inv X pins σ H s)
  (hch:∀b∈ch,(b∈X.ex\/X.s₀.heap.objs.size<=b)/\b≠X.env.locals/\(∀x c,X.env.cells.lookup x=some c->c≠b)/\∀p∈X.pn++pins,p.1≠b)
  (keep:∀b o,b≠X.env.locals->b∉X.fs->b∉ch->s.heap.get? b=some o->H b=none->h'.get? b=some o)
  (slot:∀b o,b≠X.env.locals->b∈X.fs->b∉ch->s.heap.get? b=some o->H b=none->∃sl,h'.get? b=some { o with slots:=sl }) (free:∀b o,b∉ch->s.heap.get? b=some o->H b=none->H' b=none)
  (there:∀b o,b∉ch->s.heap.get? b=some o->∃o',h'.get? b=some o')
  (xl:∀b xs,H b=some (.tup xs)->H' b=some (.tup xs)) (vq:∀b o u,H b=some (.frz o u)->H' b=some (.frz o u)) (xm:∀b ps,H b=some (.tbl ps)->∃more,H' b=some (.tbl (ps++more)))
  (ns:∀m,s.heap.Ns X.env.locals m->h'.Ns X.env.locals m) (hok:HOk X.prog X.w H' h') (hg:AllBare g') :
  Inv X pins σ H' { s with heap:=h',gens:=g',drawn:=d',toks:=t' }:=by
 have neL:∀b o,X.s₀.heap.get? b=some o->b≠X.env.locals:=λb o e=>aks (akq (om e) I.ok.above)
 have neC:∀b o,X.s₀.heap.get? b=some o->b∉X.ex->b∉ch:=λb o e hx hb=>by
  rcases (hch b hb).1 with z | z
  ·exact hx z
  ·exact absurd (akq (om e) z) (alZ _)
 have cellK:∀x c,X.env.cells.lookup x=some c->∀v,s.heap.IsCell c v->h'.IsCell c v:=λx c e v ⟨o,ho,hd⟩=>by
  have nch:c∉ch:=λz=>(hch c z).2.2.1 x c e rfl
  by_cases hc:c∈X.fs
  ·obtain⟨sl,q⟩:=slot c o (I.cne x c e) hc nch ho (I.oN x c e);exact⟨_,q,hd⟩
  ·exact⟨o,keep c o (I.cne x c e) hc nch ho (I.oN x c e),hd⟩
 refine⟨I.ok,I.os,hg,⟨λb o e n hb hx=>?_,λb o e n hb hx=>?_,λb o e n hx=>?_,λb o e hx=>?_,λb xs e=>xl b xs (I.base.xl b xs e),λb o xs e=>vq b o xs (I.base.vq b o xs e),λb ps e=>?_⟩,?_,λx c e=>?_,?_,λx c e=>?_,λp hp=>?_,hok,I.len⟩
 ·exact keep b o (neL b o e) hb (neC b o e hx) (I.base.keep b o e n hb hx) (I.base.free b o e n hx)
 ·obtain⟨sl,e1⟩:=I.base.slot b o e n hb hx;obtain⟨sl',e2⟩:=slot b _ (neL b o e) hb (neC b o e hx) e1 (I.base.free b o e n hx);exact⟨sl',e2⟩
 ·obtain⟨o',e1⟩:=I.base.there b o e hx;exact free b o' (neC b o e hx) e1 (I.base.free b o e n hx)
 ·obtain⟨o',e1⟩:=I.base.there b o e hx;exact there b o' (neC b o e hx) e1
 ·obtain⟨m1,e1⟩:=I.base.xm b ps e;obtain⟨m2,e2⟩:=xm b _ e1;exact⟨m1++m2,by rw[e2,Array.append_assoc]⟩
 ·obtain⟨m,hn,hl⟩:=I.loc;refine⟨m,ns m hn,λi x v e1 e2 e3=>?_⟩
  obtain⟨u,r,l⟩:=hl i x v e1 e2 e3;refine⟨u,r,?_⟩;rcases l with l | ⟨k,c,e,z⟩
  ·exact .inl l
  ·exact .inr ⟨k,c,e,cellK x c e _ z⟩
 ·obtain⟨v,z⟩:=I.cell x c e;exact⟨v,cellK x c e v z⟩
 ·obtain⟨m,⟨o,_,_,ho,_⟩,_⟩:=I.loc;exact free _ o (λz=>(hch _ z).2.1 rfl) ho I.free
 ·obtain⟨v,o,ho,hd⟩:=I.cell x c e;exact free c o (λz=>(hch c z).2.2.1 x c e rfl) ho (I.oN x c e)
 ·obtain⟨e,n,ne,nf,d⟩:=I.pin p hp;have nch:p.1∉ch:=λz=>(hch p.1 z).2.2.2 p hp rfl
  exact⟨keep p.1 p.2 ne nf nch e n,free p.1 p.2 nch e n,ne,nf,d⟩
theorem Inv.un {t':Nat}(I:Inv X pins σ H s)(u:Un X.fs [] H H' s.heap h')(hok:HOk X.prog X.w H' h'):Inv X pins σ H' { s with heap:=h',toks:=t' }:=by
 obtain⟨m,⟨o,es,ep,ho,r⟩,_⟩:=id I.loc;obtain⟨sl,hL⟩:=u.any ho I.free (by simp)
 exact I.step (g':=s.gens) (d':=s.drawn) (ch:=[]) (λ_ z=>nomatch z) (λb o _ hb _ e n=>u.keep b o e n hb (by simp)) (λb o _ hb _ e n=>u.slot b o e n hb (by simp)) (λb o _ e n=>u.free b o e n (by simp)) (λb o _ e=>u.there b o e (by simp)) u.xl u.vq u.xm (λm' hm=>by
  obtain⟨o',es',ep',ho',r'⟩:=hm;rw[ho]at ho';cases ho';exact⟨_,es',ep',hL,r'⟩) hok I.bare
theorem Inv.call {g':Array GenState}{t':Nat}{d':Drawn}{ch:List Addr}(I:Inv X pins σ H s)(u:Un (frs X.stack) ch H H' s.heap h')(hok:HOk X.prog X.w H' h')(hg:AllBare g')
  (hch:∀b∈ch,(b∈X.ex\/X.s₀.heap.objs.size<=b)/\b≠X.env.locals/\(∀x c,X.env.cells.lookup x=some c->c≠b)/\∀p∈X.pn++pins,p.1≠b) :
  Inv X pins σ H' { s with heap:=h',gens:=g',drawn:=d',toks:=t' }:=by
 obtain⟨m,⟨o,es,ep,ho,r⟩,_⟩:=id I.loc;obtain⟨sl,hL⟩:=u.any ho I.free λz=>(hch _ z).2.1 rfl
 exact I.step (ch:=ch) hch (λb o hL hb hc e n=>u.keep b o e n (λz=>(List.mem_cons.mp (I.AJ b z)).elim hL hb) hc) (λb o _ _ hc e n=>u.any e n hc) (λb o hc e n=>u.free b o e n hc) (λb o hc e=>u.there b o e hc) u.xl u.vq u.xm (λm' hm=>by
  obtain⟨o',es',ep',ho',r'⟩:=hm;rw[ho]at ho';cases ho';exact⟨_,es',ep',hL,r'⟩) hok hg
theorem Inv.turned {t':Nat}{it:Addr}(I:Inv X pins σ H s)(k:∀b o,b≠it->s.heap.get? b=some o->h'.get? b=some o)(hn:H it=none)(hL:it≠X.env.locals)
  (h1:it∈X.ex\/X.s₀.heap.objs.size<=it) (h2:∀x c,X.env.cells.lookup x=some c->c≠it) (h3:∀p∈X.pn++pins,p.1≠it):Inv X pins σ H { s with heap:=h',toks:=t' }:=by
 have nit:∀b u,H b=some u->b≠it:=λb u e z=>by rw[z,hn]at e;cases e
 refine I.step (g':=s.gens) (d':=s.drawn) (ch:=[it]) (λb hb=>?_) (λb o _ _ hc e _=>k b o (λz=>hc (by simp[z])) e) (λb o _ _ hc e _=>⟨o.slots,k b o (λz=>hc (by simp[z])) e⟩) (λ_ _ _ _ n=>n)
  (λb o hc e=>⟨o,k b o (λz=>hc (by simp[z])) e⟩) (λ_ _ e=>e) (λ_ _ _ e=>e) (λb ps e=>⟨#[],by rw[e];simp⟩) (λm hm=>?_) (λb u e=>?_) I.bare
 ·have e:b=it:=by simpa using hb
  subst e;exact⟨h1,hL,h2,h3⟩
 ·obtain⟨o,es,ep,ho,r⟩:=hm;exact⟨o,es,ep,k _ o (akI hL) ho,r⟩
 ·refine(I.hok b u e).F0 (λc v hc q=>k c v ?_ q) (λ_ q=>q) λ_ _ q=>q
  rcases hc with z | z
  ·rw[z];exact nit b u e
  ·exact nit c _ z
theorem Inv.tok (I:Inv X pins σ H s)(t:Nat):Inv X pins σ H { s with toks:=t }:=I.un (h':=s.heap) (t':=t) Un.refl I.hok
theorem Inv.kept {t':Nat}(I:Inv X pins σ H s)(k:∀b u,s.heap.get? b=some u->h'.get? b=some u):Inv X pins σ H { s with heap:=h',toks:=t' }:=I.un (Un.kept k) (I.hok.kept k)
theorem Inv.laid {a:Addr}{o:HO}{t':Nat}(I:Inv X pins σ H s)(k:∀b u,s.heap.get? b=some u->h'.get? b=some u)(hp:s.heap.objs.size<=a)(new:eU X.prog X.w (upd H a o) h' a o) :
  Inv X pins σ (upd H a o) { s with heap:=h',toks:=t' }:=I.un (Un.laid k hp (I.hok.fresh hp)) (I.hok.laid k hp new)
theorem Inv.write {x e:Addr}{o:HO}{t':Nat}(I:Inv X pins σ H s)(mu:Mut (H x))(he:e=x\/H e=some (.own x))(k:∀b u,b≠e->s.heap.get? b=some u->h'.get? b=some u)(heo:∃u,h'.get? e=some u)
  (new:eU X.prog X.w (upd H x o) h' x o):Inv X pins σ (upd H x o) { s with heap:=h',toks:=t' }:=I.un (Un.write mu he k heo) (I.hok.write mu he k heo new)
theorem Inv.Am {Uj:List (Addr×Obj)}(I:Inv X pins σ H s)(h:∀p∈Uj,s.heap.get? p.1=some p.2/\H p.1=none/\p.1≠X.env.locals/\p.1∉X.fs/\∀v,p.2.data≠.cell v):Inv X Uj σ H s :=
 ⟨I.ok,I.os,I.bare,I.base,I.loc,I.cell,I.free,I.oN,λp hp=>(List.mem_append.mp hp).elim (λz=>I.pin p (akZ _ z)) (h p),I.hok,I.len⟩
theorem F2 {N:List Str}(hN:N.Nodup){i j:Nat}{x:Str}(a:N[i]?=some x)(b:N[j]?=some x):i=j:=by
 obtain⟨h1,e1⟩:=List.getElem?_eq_some_iff.mp a;obtain⟨h2,e2⟩:=List.getElem?_eq_some_iff.mp b;exact(List.getElem_inj hN).mp (e1.trans e2.symm)
theorem M5 {M:Model}{A:Around}{E:Value->Shared->Prop}{i:Nat}{x:Str}{v:V}{u:Value}{Q:Unit->Shared->Prop}(I:Inv X pins σ H s)(hN:X.N.Nodup)(hi:X.N[i]?=some x)(hx:Loc X.env.scope x)(r:RelV v u)
  (h:∀s',Inv X pins (σ.set i (some v)) H s'->(∃a,Heap.SameBut a s.heap s'.heap/\(a=X.env.locals\/X.env.cells.lookup x=some a))->Q () s') (hf:X.fn x=true\/X.env.scope.names.lookup x=some .local:=by first | exact .inl rfl | exact .inr rfl | assumption):wpAny M A (storeName X.env x u) Q E s:=by
 obtain⟨m,hn,hl⟩:=id I.loc;have ahO:(X.env.scope.kind == .class || (X.env.scope.kind == .module && X.env.locals != X.env.globals))=false:=by rw[I.ok.kind];rfl
 have hiσ:i < σ.length:=by rw[I.len];exact(List.getElem?_eq_some_iff.mp hi).1
 have cne:=I.cne;have tracked:∀ {a:Addr} {h':Heap},(∃o,s.heap.get? a=some o/\H a=none)->Heap.SameBut a s.heap h'->HOk X.prog X.w H h':=λ{a h'} ha hs b ob e=>by
  obtain⟨_,_,Uk⟩:=ha;refine(I.hok b ob e).F0 (λc w' hc q=>(hs.2 c ?_).trans q) (λ_ q=>q) λ_ _ q=>q
  rintro rfl;rcases hc with rfl | hc
  ·rw[Uk]at e;cases e
  ·rw[Uk]at hc;cases hc
 rcases hx with hk | hk
 ·refine wpAny_storeName_local hk hn (λh' hn' hs=>?_) ahO
  obtain⟨oL,_,_,hoL,_⟩:=id hn;refine h _ ⟨I.ok,I.os,I.bare,⟨λb o e n hb hx=>?_,λb o e n hb hx=>?_,I.base.free,λb o e hx=>?_,I.base.xl,I.base.vq,I.base.xm⟩,⟨_,hn',λj y v' e1 e2 e3=>?_⟩,λy c e=>?_,I.free,I.oN,λp hp=>?_,tracked ⟨oL,hoL,I.free⟩ hs,by simpa using I.len⟩ ⟨_,hs,.inl rfl⟩
  ·exact(hs.2 b (aks (akq (om e) I.ok.above))).trans (I.base.keep b o e n hb hx)
  ·obtain⟨sl,e1⟩:=I.base.slot b o e n hb hx;exact⟨sl,(hs.2 b (aks (akq (om e) I.ok.above))).trans e1⟩
  ·obtain⟨o',e1⟩:=I.base.there b o e hx;exact⟨o',(hs.2 b (aks (akq (om e) I.ok.above))).trans e1⟩
  ·by_cases hj:j=i
   ·subst hj;rw[hi]at e1;cases e1;rw[List.getElem?_set_self hiσ]at e2;cases e2;exact⟨u,r,.inl ⟨hk,by simp⟩⟩
   ·rw[List.getElem?_set_ne (akI hj)]at e2;obtain⟨u',r',q⟩:=hl j y v' e1 e2 e3;refine⟨u',r',?_⟩;rcases q with ⟨k,e⟩ | ⟨k,c,e,z⟩
    ·refine .inl ⟨k,?_⟩;have:y≠x:=λe=>hj (F2 hN e1 (e▸hi))
     simp[this,e]
    ·exact .inr ⟨k,c,e,z.sameBut hs (cne y c e)⟩
  ·obtain⟨w',z⟩:=I.cell y c e;exact⟨w',z.sameBut hs (cne y c e)⟩
  ·obtain⟨e,n,ne,nf,d⟩:=I.pin p hp;exact⟨(hs.2 p.1 ne).trans e,n,ne,nf,d⟩
 ·have hfn:X.fn x=true:=by
   rcases hf with z | z
   ·exact z
   ·rw[z]at hk;cases hk
  obtain⟨c,hc⟩:=I.ok.has x (.inl hk);obtain⟨w',z⟩:=I.cell x c hc;refine wpAny_storeName_cell I.ok.kind hk hc z (λh' hc' hs=>?_)
  obtain⟨oc,hoc,ahP⟩:=id z;refine h { s with heap:=h' } ⟨I.ok,I.os,I.bare,⟨λb o e n hb hx=>?_,λb o e n hb hx=>?_,I.base.free,λb o e hx=>?_,I.base.xl,I.base.vq,I.base.xm⟩,⟨m,hn.sameBut hs (akI (cne x c hc)),λj y v' e1 e2 e3=>?_⟩,λy c' e=>?_,I.free,I.oN,λp hp=>?_,tracked ⟨oc,hoc,I.oN x c hc⟩ hs,by simpa using I.len⟩ ⟨c,hs,.inr hc⟩
  ·exact(hs.2 b (aks (akq (om e) (I.ok.cab x c hfn hc)))).trans (I.base.keep b o e n hb hx)
  ·obtain⟨sl,e1⟩:=I.base.slot b o e n hb hx;exact⟨sl,(hs.2 b (aks (akq (om e) (I.ok.cab x c hfn hc)))).trans e1⟩
  ·obtain⟨o',e1⟩:=I.base.there b o e hx;exact⟨o',(hs.2 b (aks (akq (om e) (I.ok.cab x c hfn hc)))).trans e1⟩
  ·by_cases hj:j=i
   ·subst hj;rw[hi]at e1;cases e1;rw[List.getElem?_set_self hiσ]at e2;cases e2;exact⟨u,r,.inr ⟨.inl hk,c,hc,hc'⟩⟩
   ·rw[List.getElem?_set_ne (akI hj)]at e2;obtain⟨u',r',q⟩:=hl j y v' e1 e2 e3;refine⟨u',r',?_⟩;rcases q with q | ⟨k,c',e,z'⟩
    ·exact .inl q
    ·refine .inr ⟨k,c',e,z'.sameBut hs ?_⟩;rintro rfl;exact hj (F2 hN e1 (I.ok.inj _ _ _ e hc▸hi))
  ·by_cases hcc:c'=c
   ·subst hcc;exact⟨_,hc'⟩
   ·obtain⟨w2,z2⟩:=I.cell y c' e;exact⟨w2,z2.sameBut hs hcc⟩
  ·obtain⟨e,n,ne,nf,d⟩:=I.pin p hp;refine⟨(hs.2 p.1 ?_).trans e,n,ne,nf,d⟩;intro q;rw[q,hoc]at e;have q':oc=p.2:=akx e;exact d w' (by rw[<-q'];exact ahP)
theorem vv {M:Model}{A:Around}{E:Value->Shared->Prop}{i:Nat}{x:Str}{v:V}{u:Value}{Q:Unit->Shared->Prop}(I:Inv X pins σ H s)(hN:X.N.Nodup)(hi:X.N[i]?=some x)(hx:Loc X.env.scope x)(r:RelV v u)
  (h:∀s',Inv X pins (σ.set i (some v)) H s'->Q () s') (hf:X.fn x=true\/X.env.scope.names.lookup x=some .local:=by first | exact .inl rfl | exact .inr rfl | assumption):wpAny M A (storeName X.env x u) Q E s :=
 M5 I hN hi hx r (λs' I' _=>h s' I') hf
theorem Inv.L9 {s':Shared}{ch:List Addr}(I:Inv X pins σ H s)(ho:s'.os=s.os)(u:Un (frs X.stack) ch H H' s.heap s'.heap)(hok:HOk X.prog X.w H' s'.heap)(hg:AllBare s'.gens)
  (hch:∀b∈ch,(b∈X.ex\/X.s₀.heap.objs.size<=b)/\b≠X.env.locals/\(∀x c,X.env.cells.lookup x=some c->c≠b)/\∀p∈X.pn++pins,p.1≠b):Inv X pins σ H' s':=by
 obtain⟨h',g',d',t',o'⟩:=s';have e:o'=s.os:=ho;subst e;exact I.call (g':=g') (t':=t') (d':=d') u hok hg hch
end
abbrev XK:=Value->Option Addr->Hp->Prop
abbrev St:=List (Option V)
abbrev VK:=V->Hp->Prop
abbrev TE:=St->Hp->VK->Prop
abbrev TT:=St->Hp->(Bool->Hp->Prop)->Prop
abbrev TA:=St->Hp->(List V->Hp->Prop)->Prop
structure Ends where
 nx:St->Hp->Prop
 rt:VK
 bk:St->Hp->Prop:=λ_ _=>False
 ct:St->Hp->Prop:=λ_ _=>False
abbrev TS:=Ends->St->Hp->Prop
def EP (X:Cx)(pins:List (Addr×Obj))(σ:St)(Q:VK)(u:Value)(s':Shared):Prop:=∃v H',Inv X pins σ H' s'/\RelV v u/\Q v H'
def TP (X:Cx)(pins:List (Addr×Obj))(σ:St)(Q:Bool->Hp->Prop)(b:Bool)(s':Shared):Prop:=∃H',Inv X pins σ H' s'/\Q b H'
def AP (X:Cx)(pins:List (Addr×Obj))(σ:St)(Q:List V->Hp->Prop)(us:List Value)(s':Shared):Prop:=∃vs H',Inv X pins σ H' s'/\Vals vs us/\Q vs H'
def SP (X:Cx)(pins:List (Addr×Obj))(D:Ends)(f:Flow)(s':Shared):Prop :=
 match f with
 | .next=>∃σ' H',Inv X pins σ' H' s'/\D.nx σ' H'
 | .brk=>∃σ' H',Inv X pins σ' H' s'/\D.bk σ' H'
 | .cont=>∃σ' H',Inv X pins σ' H' s'/\D.ct σ' H'
 | .ret u=>∃v σ' H',Inv X pins σ' H' s'/\RelV v u/\D.rt v H'
def PE (X:Cx)(e:Expr)(t:TE):Prop :=
 ∀(pins:List (Addr×Obj)) (s:Shared) (σ:St) (H:Hp) (Q:VK),Inv X pins σ H s->t σ H Q->wpAny (model X.prog X.w) X.A (eval e X.env) (EP X pins σ Q) X.xe s
def PT (X:Cx)(e:Expr)(t:TT):Prop :=
 ∀(pins:List (Addr×Obj)) (s:Shared) (σ:St) (H:Hp) (Q:Bool->Hp->Prop),Inv X pins σ H s->t σ H Q->wpAny (model X.prog X.w) X.A (isTrue e X.env (eval e X.env)) (TP X pins σ Q) X.xe s
def PW (X:Cx)(e:Expr)(t:TT):Prop :=
 ∀(whole:Sem Value) (pins:List (Addr×Obj)) (s:Shared) (σ:St) (H:Hp) (Q:Bool->Hp->Prop),Inv X pins σ H s->t σ H Q->wpAny (model X.prog X.w) X.A (isTrue e X.env whole) (TP X pins σ Q) X.xe s
theorem PW.pt {X:Cx}{e:Expr}{t:TT}(h:PW X e t):PT X e t:=h _
def PA (X:Cx)(es:List Expr)(t:TA):Prop :=
 ∀(pos:Pos) (pins:List (Addr×Obj)) (s:Shared) (σ:St) (H:Hp) (Q:List V->Hp->Prop),Inv X pins σ H s->t σ H Q->wpAny (model X.prog X.w) X.A (spliced (backTo pos (adm es X.env))) (AP X pins σ Q) X.xe s
def PS (X:Cx)(st:Stmt)(t:TS):Prop :=
 ∀(pins:List (Addr×Obj)) (s:Shared) (σ:St) (H:Hp) (D:Ends),Inv X pins σ H s->t D σ H->wpAny (model X.prog X.w) X.A (exec st X.env) (SP X pins D) X.xe s
def PSs (X:Cx)(st:List Stmt)(t:TS):Prop :=
 ∀(pins:List (Addr×Obj)) (s:Shared) (σ:St) (H:Hp) (D:Ends),Inv X pins σ H s->t D σ H->wpAny (model X.prog X.w) X.A (execs st X.env) (SP X pins D) X.xe s
theorem thn {α:Type}{t:Sem α}{Q Q':α->Shared->Prop}{M:Model}{A:Around}{E:Value->Shared->Prop}{s:Shared}(h:wpAny M A t Q E s)(hQ:∀a s,Q a s->Q' a s):wpAny M A t Q' E s:=ako h hQ λ_ _ x=>x
end L2
namespace L2
open PySem PySem.Spec PyProof.Rows
section
variable{X:Cx}
theorem bin {a b:Expr}{ta tb:TE}(ha:PE X a ta)(hb:PE X b tb){pins:List (Addr×Obj)}{s:Shared}{σ:St}{H:Hp}{R:V->V->Hp->Prop}(I:Inv X pins σ H s)(h:ta σ H λx H1=>tb σ H1 λy H2=>R x y H2)
  {α:Type} {Q:α->Shared->Prop} {f:Value->Value->Sem α}
  (hf:∀v u s2 x y H2,Inv X pins σ H2 s2->RelV x v->RelV y u->R x y H2->wpAny (model X.prog X.w) X.A (f v u) Q X.xe s2) :
  wpAny (model X.prog X.w) X.A (eval a X.env) (λv s₁=>wpAny (model X.prog X.w) X.A (eval b X.env) (λu s₂=>wpAny (model X.prog X.w) X.A (f v u) Q X.xe s₂) X.xe s₁) X.xe s:=by
 refine thn (ha pins s σ H _ I h) λv s1 ⟨x,H1,I1,r1,q1⟩=>?_
 refine thn (hb pins s1 σ H1 _ I1 q1) λu s2 ⟨y,H2,I2,r2,q2⟩=>?_
 exact hf v u s2 x y H2 I2 r1 r2 q2
def aaj (i:Nat):TE:=λσ H Q=>∃v,σ[i]?=some (some v)/\Q v H
def tC (v:V):TE:=λ_ H Q=>Q v H
theorem VT {i:Nat}{x:Str}{pos:Pos}(hN:X.N[i]?=some x)(hv:Vis X.env.scope x)(hd:(x == ("__debug__":Str))=false:=by decide)(hcd:(x == ("__classdict__":Str))=false:=by decide):PE X (.Name x pos) (aaj i):=by
 intro pins s σ H Q I h;obtain⟨v,e,h⟩:=h;obtain⟨m,hn,hl⟩:=I.loc;obtain⟨u,r,l⟩:=hl i x v hN e hv;have fin:EP X pins σ Q u s:=⟨v,H,I,r,h⟩;rcases l with ⟨hk,hm⟩ | ⟨hk,c,hc,lB⟩
 ·exact wpAny_Name (wpAny_loadName_local I.ok.kind hk hn hm fin) hd
 ·rcases hk with hk | hk
  ·exact wpAny_Name (wpAny_loadName_cell I.ok.kind hk hc lB fin) hd
  ·exact wpAny_Name (wpAny_loadName_free I.ok.kind hk hc lB fin hcd) hd
theorem af {i j pos}:PE X (.Constant (.int i) j pos) (tC (.int i)):=λ_ _ _ H _ I h=>wpAny_Constant_int ⟨.int i,H,I.tok _,⟨_,rfl⟩,h⟩
theorem g9 {b j pos}:PE X (.Constant (.bool b) j pos) (tC (.bl b)):=λ_ _ _ H _ I h=>Constant_bool ⟨.bl b,H,I,rfl,h⟩
theorem AK {j pos}:PE X (.Constant .none j pos) (tC .non):=λ_ _ _ H _ I h=>Constant_none ⟨.non,H,I,rfl,h⟩
theorem ao {x j pos}:PE X (.Constant (.str x) j pos) (tC (.str x)):=λ_ _ _ H _ I h=>Calls.Constant_str ⟨.str x,H,I.tok _,⟨_,rfl⟩,h⟩
def Gl (X:Cx)(x:Str):Prop:=X.env.kindOf x=some .globalImplicit
theorem j6 {E:Value->Shared->Prop}{pins:List (Addr×Obj)}{s:Shared}{σ:St}{H:Hp}{x:Str}{u:Value}{pos:Pos}{Q:Value->Shared->Prop}(I:Inv X pins σ H s)(hg:Gl X x)(hm:X.mg x=some u)(h:Q u s)
  (hd:(x == ("__debug__":Str))=false:=by decide):wpAny (model X.prog X.w) X.A (eval (.Name x pos) X.env) Q E s :=
 Calls.Name_function_global I.ok.kind hg (Calls.loadGlobal_global (by rw[I.ok.glob];exact I.mod.glob.keeps I.bk) hm h) hd
theorem AL {E:Value->Shared->Prop}{pins:List (Addr×Obj)}{s:Shared}{σ:St}{H:Hp}{x:Str}{u:Value}{pos:Pos}{Q:Value->Shared->Prop}(I:Inv X pins σ H s)(hg:Gl X x)(hm:X.mg x=none)(hv:ali x=some u)(h:Q u s)
  (hn:x≠"__name__":=by decide) (hd:(x == ("__debug__":Str))=false:=by decide):wpAny (model X.prog X.w) X.A (eval (.Name x pos) X.env) Q E s:=by
 obtain⟨mb,h1,h2⟩:=I.mod.blt;exact Calls.Name_function_global I.ok.kind hg (Calls.loadGlobal_builtin (by rw[I.ok.glob];exact I.mod.glob.keeps I.bk) hm (by rw[I.ok.blt];exact h1.keeps I.bk) ((h2 x hn).trans hv) h) hd
theorem Eu {x:Str}{v:V}{u:Value}{pos:Pos}(hg:Gl X x)(hm:X.mg x=some u)(r:RelV v u)(hd:(x == ("__debug__":Str))=false:=by decide):PE X (.Name x pos) (tC v) :=
 λ_ _ _ H _ I h=>j6 I hg hm ⟨v,H,I,r,h⟩ hd
variable{a b:Expr}{ta tb:TE}{pos:Pos}
def PC (X:Cx)(op:CmpOp)(a b:Expr)(t:TE):Prop :=
 ∀(pins:List (Addr×Obj)) (s:Shared) (σ:St) (H:Hp) (Q:VK),Inv X pins σ H s->t σ H Q ->
  wpAny (model X.prog X.w) X.A (eval a X.env) (λv s₁=>wpAny (model X.prog X.w) X.A (eval b X.env) (λu s₂=>wpAny (model X.prog X.w) X.A (alo op v u) (EP X pins σ Q) X.xe s₂) X.xe s₁) X.xe s
theorem OM (b:Expr){op:CmpOp}(h:op≠.In)(h2:op≠.NotIn):behindInMarks op b=false:=by
 have e1:(op == CmpOp.In)=false:=by cases op <;> first | rfl | exact absurd rfl h
 have e2:(op == CmpOp.NotIn)=false:=by cases op <;> first | rfl | exact absurd rfl h2
 cases b <;> simp[behindInMarks,e1,e2]
def tB (t:TE):TT:=λσ H Q=>t σ H λx H1=>∃c,x=.bl c/\Q c H1
theorem ON {op:CmpOp}{t:TE}(h:PC X op a b t)(h1:behindInMarks op b=false:=by first | exact OM _ (by decide) (by decide) | rfl):PT X (.Compare a [op] [b] pos) (tB t):=by
 intro pins s σ H Q I hw;refine wpAny_isTrue_Compare1 (thn (h pins s σ H _ I hw) λv s1 h1=>thn h1 λu s2 h2=>thn h2 λc s3 ⟨x,H1,I1,r1,q1⟩=>?_) h1
 obtain⟨d,rfl,q⟩:=q1;cases r1;exact wpAny_truthy_bool ⟨H1,I1,q⟩
theorem mi {e:Expr}{t:TE}(h:PE X e t)(he:∀whole,isTrue e X.env whole=(do let v <-whole;standAt e.pos;holding [v] (truthy v)):=by intro _;rfl):PT X e (tB t):=by
 intro pins s σ H Q I hw;refine isTrue_plain (thn (h pins s σ H _ I hw) λv s1 ⟨x,H1,I1,r1,q1⟩=>?_) (he _)
 obtain⟨d,rfl,q⟩:=q1;cases r1;exact wpAny_truthy_bool ⟨H1,I1,q⟩
variable{tA tB':TT}{rest:List Expr}
def ahQ (t u:TT):TT:=λσ H Q=>t σ H λc H1=>if c=true then u σ H1 Q else Q false H1
def tOr (t u:TT):TT:=λσ H Q=>t σ H λc H1=>if c=true then Q true H1 else u σ H1 Q
def ahR (t:TT):TT:=λσ H Q=>t σ H λc H1=>Q (!c) H1
theorem pw_and1 (ha:PT X a tA):PW X (.BoolOp .And [a] pos) tA:=by
 intro wh pins s σ H Q I h;refine isTrue_and (thn (ha pins s σ H Q I h) λc s1 e=>?_)
 cases c with
 |true=>exact isTrue_and_nil e
 |false=>exact e
theorem pw_or1 (ha:PT X a tA):PW X (.BoolOp .Or [a] pos) tA:=by
 intro wh pins s σ H Q I h;refine isTrue_or (thn (ha pins s σ H Q I h) λc s1 e=>?_)
 cases c with
 |false=>exact isTrue_or_nil e
 |true=>exact e
theorem pw_and (ha:PT X a tA)(hb:PW X (.BoolOp .And (b::rest) pos) tB'):PW X (.BoolOp .And (a::b::rest) pos) (ahQ tA tB'):=by
 intro wh pins s σ H Q I h;refine isTrue_and (thn (ha pins s σ H _ I h) λc s1 ⟨H1,I1,q1⟩=>?_)
 cases c with
 |true=>exact hb wh pins s1 σ H1 Q I1 q1
 |false=>exact⟨H1,I1,q1⟩
theorem pw_or (ha:PT X a tA)(hb:PW X (.BoolOp .Or (b::rest) pos) tB'):PW X (.BoolOp .Or (a::b::rest) pos) (tOr tA tB'):=by
 intro wh pins s σ H Q I h;refine isTrue_or (thn (ha pins s σ H _ I h) λc s1 ⟨H1,I1,q1⟩=>?_)
 cases c with
 |true=>exact⟨H1,I1,q1⟩
 |false=>exact hb wh pins s1 σ H1 Q I1 q1
theorem qo (ha:PT X a tA):PT X (.UnaryOp .Not a pos) (ahR tA):=by
 intro pins s σ H Q I h;exact isTrue_not (ha pins s σ H (λc H1=>Q (!c) H1) I h)
def aak (ta tb:TE):TE:=λσ H Q=>ta σ H λx H1=>∃c,x=.bl c/\if c=true then tb σ H1 Q else Q (.bl false) H1
def ahS (ta tb:TE):TE:=λσ H Q=>ta σ H λx H1=>∃c,x=.bl c/\if c=true then Q (.bl true) H1 else tb σ H1 Q
theorem Ew {op}{t:TE}(h:PE X a t):PE X (.BoolOp op [a] pos) t:=λpins s σ H Q I hw=>BoolOp_one (h pins s σ H Q I hw)
theorem Ex (ha:PE X a ta)(hb:PE X (.BoolOp .And (b::rest) pos) tb):PE X (.BoolOp .And (a::b::rest) pos) (aak ta tb):=by
 intro pins s σ H Q I h;refine BoolOp_and (thn (ha pins s σ H _ I h) λv s1 ⟨x,H1,I1,r1,q1⟩=>?_)
 obtain⟨c,rfl,q1⟩:=q1;cases r1;refine wpAny_truthy_bool ?_;cases c with
 |true=>exact hb pins s1 σ H1 Q I1 q1
 |false=>exact⟨.bl false,H1,I1,rfl,q1⟩
theorem aal (ha:PE X a ta)(hb:PE X (.BoolOp .Or (b::rest) pos) tb):PE X (.BoolOp .Or (a::b::rest) pos) (ahS ta tb):=by
 intro pins s σ H Q I h;refine BoolOp_or (thn (ha pins s σ H _ I h) λv s1 ⟨x,H1,I1,r1,q1⟩=>?_)
 obtain⟨c,rfl,q1⟩:=q1;cases r1;refine wpAny_truthy_bool ?_;cases c with
 |false=>exact hb pins s1 σ H1 Q I1 q1
 |true=>exact⟨.bl true,H1,I1,rfl,q1⟩
def tIf (t:TT)(ta tb:TE):TE:=λσ H Q=>t σ H λc H1=>if c=true then ta σ H1 Q else tb σ H1 Q
theorem F3 {c:Expr}(hc:PT X c tA)(ha:PE X a ta)(hb:PE X b tb):PE X (.IfExp c a b pos) (tIf tA ta tb):=by
 intro pins s σ H Q I h;refine wpAny_IfExp (thn (hc pins s σ H _ I h) λd s1 ⟨H1,I1,q1⟩=>?_)
 cases d with
 |true=>exact ha pins s1 σ H1 Q I1 q1
 |false=>exact hb pins s1 σ H1 Q I1 q1
end
end L2
namespace L2
open PySem PySem.Spec PyProof.Rows
def SqL (K:ba)(H:Hp)(a:Addr)(xs:List V):Prop :=
 Rd H a (.lst xs) \/
  ∃(o:Obj) (its:Array Value) (n:Nat),K.lookup a=some o/\o.cls=.type "list"/\o.dict=none/\o.data=.seq its n/\its.size<=kf/\Vals xs its.toList
def SqT (K:ba)(H:Hp)(a:Addr)(xs:List V):Prop :=
 Rd H a (.tup xs) \/
  ∃(o:Obj) (its:Array Value) (n:Nat),K.lookup a=some o/\o.cls=.type "tuple"/\o.data=.seq its n/\its.size<=kf/\Vals xs its.toList
def ahT:Value->Option V
 | .none=>some .non
 | .bool b=>some (.bl b)
 | .int i _=>some (.int i)
 | .str x _=>some (.str x)
 | .bytes b _=>some (.byt b)
 | .float b _=>some (.flt b)
 | .ref a=>some (.ref a)
 | .type n=>some (.ty n)
 |_=>none
theorem RelV.abs {x:V}{u:Value}(r:RelV x u):ahT u=some x:=by
 cases x with
 |non=>cases r;rfl
 |bl _=>cases r;rfl
 |int _=>obtain⟨t,rfl⟩:=r;rfl
 |str _=>obtain⟨t,rfl⟩:=r;rfl
 |byt _=>obtain⟨t,rfl⟩:=r;rfl
 |flt _=>obtain⟨t,rfl⟩:=r;rfl
 |ref _=>cases r;rfl
 |ty _=>cases r;rfl
theorem RelV.inj {x y:V}{u:Value}(r:RelV x u)(q:RelV y u):x=y:=akx (r.abs.symm.trans q.abs)
theorem Vals.inj:∀ {xs ys:List V} {us:List Value},Vals xs us->Vals ys us->xs=ys
 |_,_,_,.nil,.nil=>rfl
 |_,_,_,.cons r t,.cons r' t'=>by rw[r.inj r',Vals.inj t t']
section
variable{X:Cx}{pins:List (Addr×Obj)}{σ:St}{H:Hp}{s:Shared}{a:Addr}{xs ys:List V}
theorem SqL.of {K:ba}(h:H a=some (.lst xs)):SqL K H a xs:=.inl (.inl h)
theorem SqT.of {K:ba}(h:H a=some (.tup xs)):SqT K H a xs:=.inl (.inl h)
theorem Inv.list (I:Inv X pins σ H s)(h:SqL X.K H a xs):∃its:List Value,Vals xs its/\PlainL s.heap a its.toArray/\xs.length<=kf:=by
 rcases h with h | ⟨o,its,n,hk,hc,hd,hs,hz,r⟩
 ·obtain⟨z,its,n,r,e⟩:=h.ok I.hok;exact⟨its,r,⟨_,n,e,rfl,rfl,rfl⟩,z⟩
 ·refine⟨its.toList,r,⟨o,n,I.kIn a o hk,hc,hd,by simpa using hs⟩,?_⟩
  have e:=r.length;simp only[alu]at e;omega
theorem Inv.tuple (I:Inv X pins σ H s)(h:SqT X.K H a xs):∃its:List Value,Vals xs its/\IsTup s.heap a its.toArray/\xs.length<=kf:=by
 rcases h with h | ⟨o,its,n,hk,hc,hs,hz,r⟩
 ·obtain⟨z,its,r,p⟩:=h.ok I.hok;exact⟨its,r,p,z⟩
 ·refine⟨its.toList,r,⟨o,I.kIn a o hk,hc,n,by simpa using hs⟩,?_⟩
  have e:=r.length;simp only[alu]at e;omega
theorem Inv.OO (I:Inv X pins σ H s)(h:SqL X.K H a xs)(h':SqL X.K H a ys):xs=ys:=by
 obtain⟨its,r,⟨o,n,e,_,_,d⟩,_⟩:=I.list h;obtain⟨its',r',⟨o',n',e',_,_,d'⟩,_⟩:=I.list h';rw[e]at e';cases e';rw[d]at d';injection d' with d1 _
 have:its=its':=by simpa using congrArg Array.toList d1
 subst this;exact r.inj r'
theorem Inv.M6 (I:Inv X pins σ H s)(h:SqT X.K H a xs)(h':SqT X.K H a ys):xs=ys:=by
 obtain⟨its,r,⟨o,e,_,n,d⟩,_⟩:=I.tuple h;obtain⟨its',r',⟨o',e',_,n',d'⟩,_⟩:=I.tuple h';rw[e]at e';cases e';rw[d]at d';injection d' with d1 _
 have:its=its':=by simpa using congrArg Array.toList d1
 subst this;exact r.inj r'
end
abbrev Cx.nU (X:Cx)(E:Value->Shared->Prop):Cx:={ X with xe:=E }
abbrev Cx.nox (X:Cx):Cx:=X.nU λ_ _=>False
theorem Cx.Ok.nU {X:Cx}(ok:X.Ok)(E:Value->Shared->Prop):(X.nU E).Ok :=
 ⟨ok.mod,ok.kind,ok.glob,ok.blt,ok.above,ok.inj,ok.has,ok.cab,ok.hd,ok.frames,ok.stk,ok.exf,ok.bs,ok.bsz,ok.Es,ok.Et,ok.uw,ok.frf⟩
theorem Cx.Ok.d9 {X:Cx}{E:Value->Shared->Prop}(ok:(X.nU E).Ok):X.Ok :=
 ⟨ok.mod,ok.kind,ok.glob,ok.blt,ok.above,ok.inj,ok.has,ok.cab,ok.hd,ok.frames,ok.stk,ok.exf,ok.bs,ok.bsz,ok.Es,ok.Et,ok.uw,ok.frf⟩
section
variable{X:Cx}{pins:List (Addr×Obj)}{σ:St}{H:Hp}{s:Shared}{E:Value->Shared->Prop}
theorem Inv.nU (I:Inv X pins σ H s)(E:Value->Shared->Prop):Inv (X.nU E) pins σ H s:=⟨I.ok.nU E,I.os,I.bare,I.base,I.loc,I.cell,I.free,I.oN,I.pin,I.hok,I.len⟩
theorem Inv.d9 (I:Inv (X.nU E) pins σ H s):Inv X pins σ H s:=⟨I.ok.d9,I.os,I.bare,I.base,I.loc,I.cell,I.free,I.oN,I.pin,I.hok,I.len⟩
theorem SP.d9 {D:Ends}{f:Flow}{s':Shared}(h:SP (X.nU E) pins D f s'):SP X pins D f s':=by
 cases f with
 |next=>obtain⟨σ',H',I,q⟩:=h;exact⟨σ',H',I.d9,q⟩
 |brk=>obtain⟨σ',H',I,q⟩:=h;exact⟨σ',H',I.d9,q⟩
 |cont=>obtain⟨σ',H',I,q⟩:=h;exact⟨σ',H',I.d9,q⟩
 |ret u=>obtain⟨v,σ',H',I,r,q⟩:=h;exact⟨v,σ',H',I.d9,r,q⟩
theorem PE.nox {e:Expr}{t:TE}(h:PE X.nox e t):PE X e t:=λpins s σ H Q I hw =>
 ako (h pins s σ H Q (I.nU _) hw) (λ_ _ ⟨v,H',I',r,q⟩=>⟨v,H',I'.d9,r,q⟩) λ_ _ z=>akF z
theorem PT.nox {e:Expr}{t:TT}(h:PT X.nox e t):PT X e t:=λpins s σ H Q I hw =>
 ako (h pins s σ H Q (I.nU _) hw) (λ_ _ ⟨H',I',q⟩=>⟨H',I'.d9,q⟩) λ_ _ z=>akF z
theorem PSs.nox {st:List Stmt}{t:TS}(h:PSs X.nox st t):PSs X st t:=λpins s σ H D I hw =>
 ako (h pins s σ H D (I.nU _) hw) (λ_ _ q=>q.d9) λ_ _ z=>akF z
end
section
variable{X:Cx}{st:Stmt}{rest:List Stmt}{t u:TS}{e:Expr}{te:TE}{pos:Pos}
def aam:TS:=λD σ H=>D.nx σ H
def aan (t u:TS):TS:=λD σ H=>t { D with nx:=u D } σ H
theorem aH:PSs X [] aam:=λ_ _ σ H _ I h=>wpAny_execs_nil ⟨σ,H,I,h⟩
theorem ai (h1:PS X st t)(h2:PSs X rest u):PSs X (st::rest) (aan t u):=by
 intro pins s σ H D I h;refine wpAny_execs_cons (thn (h1 pins s σ H { D with nx:=u D } I h) λf s1 q=>?_)
 cases f with
 |next =>
  obtain⟨σ',H',I',q⟩:=q;exact h2 pins s1 σ' H' D I' q
 |ret v=>exact q
 |brk=>exact q
 |cont=>exact q
theorem aj (h1:PS X st t):PSs X [st] t:=by
 intro pins s σ H D I h;refine wpAny_execs_cons (thn (h1 pins s σ H D I h) λf s1 q=>?_)
 cases f with
 |next=>exact wpAny_execs_nil q
 |ret v=>exact q
 |brk=>exact q
 |cont=>exact q
theorem Inv.quiet {pins:List (Addr×Obj)}{σ:St}{H:Hp}{s:Shared}(I:Inv X pins σ H s):interactive X.env=false:=by simp[interactive,I.ok.kind]
def aao (te:TE):TS:=λD σ H=>te σ H λ_ H1=>D.nx σ H1
theorem bL (he:PE X e te)(hs:swapsWith e none pos.line X.env=pure false:=by rfl):PS X (.Expr e pos) (aao te):=by
 intro pins s σ H D I h;exact wpAny_Expr_any (thn (he pins s σ H _ I h) λv s1 ⟨x,H1,I1,r1,q1⟩=>⟨σ,H1,I1,q1⟩) I.quiet hs
def ahU (te:TE):TS:=λD σ H=>te σ H D.rt
theorem aG (he:PE X e te):PS X (.Return (some e) pos) (ahU te):=by
 intro pins s σ H D I h;exact wpAny_Return_some (thn (he pins s σ H _ I h) λv s1 ⟨x,H1,I1,r1,q1⟩=>⟨x,σ,H1,I1,r1,q1⟩)
def ahV (c:TT)(t u:TS):TS:=λD σ H=>c σ H λb H1=>if b=true then t D σ H1 else u D σ H1
theorem a7 {c:Expr}{a b:List Stmt}{tc:TT}(hc:PT X c tc)(ha:PSs X a t)(hb:PSs X b u):PS X (.If c a b pos) (ahV tc t u):=by
 intro pins s σ H D I h;refine wpAny_If (thn (hc pins s σ H _ I h) λd s1 ⟨H1,I1,q1⟩=>?_)
 cases d with
 |true=>exact ha pins s1 σ H1 D I1 q1
 |false=>exact hb pins s1 σ H1 D I1 q1
end
abbrev TG:=V->St->Hp->(St->Hp->Prop)->Prop
abbrev TGs:=List V->St->Hp->(St->Hp->Prop)->Prop
def PG (X:Cx)(target:Expr)(t:TG):Prop :=
 ∀(pins:List (Addr×Obj)) (s:Shared) (σ:St) (H:Hp) (v:V) (u:Value) (Q:St->Hp->Prop),Inv X pins σ H s->RelV v u->t v σ H Q ->
  wpAny (model X.prog X.w) X.A (assign target X.env u) (λ_ s'=>∃σ' H',Inv X pins σ' H' s'/\Q σ' H') X.xe s
def PGs (X:Cx)(ts:List Expr)(t:TGs):Prop :=
 ∀(pins:List (Addr×Obj)) (s:Shared) (σ:St) (H:Hp) (vs:List V) (us:List Value) (Q:St->Hp->Prop),Inv X pins σ H s->Vals vs us->t vs σ H Q ->
  wpAny (model X.prog X.w) X.A (assignInOrder ((assignEach ts X.env).map (·.2)) us) (λ_ s'=>∃σ' H',Inv X pins σ' H' s'/\Q σ' H') X.xe s
abbrev VU:=V->V->V->Hp->(Hp->Prop)->Prop
def aap (X:Cx)(t:VU):Prop :=
 ∀(pins:List (Addr×Obj)) (s:Shared) (σ:St) (H:Hp) (o i v:V) (ov iv u:Value) (Q:Hp->Prop),Inv X pins σ H s->RelV o ov->RelV i iv->RelV v u->t o i v H Q ->
  wpAny (model X.prog X.w) X.A (setItem ov iv u) (λ_ s'=>∃H',Inv X pins σ H' s'/\Q H') X.xe s
section
variable{X:Cx}{pos:Pos}
def f9 (i:Nat):TG:=λv σ H Q=>Q (σ.set i (some v)) H
theorem ei {i:Nat}{x:Str}(hN:X.N.Nodup)(hi:X.N[i]?=some x)(hx:Loc X.env.scope x)(hf:X.fn x=true\/X.env.scope.names.lookup x=some .local:=by first | exact .inl rfl | exact .inr rfl | assumption):PG X (.Name x pos) (f9 i):=by
 intro pins s σ H v u Q I r h;exact wpAny_assign_Name (vv I hN hi hx r (λs' I'=>⟨_,H,I',h⟩) hf)
def aaq:TGs:=λvs σ H Q=>vs=[]/\Q σ H
def OP (t:TG)(u:TGs):TGs:=λvs σ H Q=>∃v r,vs=v::r/\t v σ H λσ' H'=>u r σ' H' Q
theorem vw:PGs X [] aaq:=by
 intro pins s σ H vs us Q I r h;obtain⟨e,h⟩:=h;subst e;cases r;exact assignInOrder_nil ⟨σ,H,I,h⟩
theorem fA {e:Expr}{es:List Expr}{t:TG}{u:TGs}(h1:PG X e t)(h2:PGs X es u)
  (hs:(assignEach (e::es) X.env).map (·.2)=assign e X.env::(assignEach es X.env).map (·.2):=by rfl):PGs X (e::es) (OP t u):=by
 intro pins s σ H vs us Q I r h;obtain⟨v,vr,e1,h⟩:=h;subst e1;cases r with
 |cons r rr =>
  rw[hs];refine assignInOrder_cons (thn (h1 pins s σ H _ _ _ I r h) λ_ s1 ⟨σ1,H1,I1,q1⟩=>?_)
  exact h2 pins s1 σ1 H1 _ _ Q I1 rr q1
def VW (K:ba)(n:Nat)(t:TGs):TG:=λv σ H Q=>∃a xs,v=.ref a/\SqT K H a xs/\xs.length=n/\t xs σ H Q
theorem AM {es:List Expr}{k:Nat}{t:TGs}{n:Nat}(hc:X.calm=true)(h:PGs X es t)
  (hn:(assignEach es X.env).length=n:=by rfl) (hst:(assignEach es X.env).findIdx? (·.1)=none:=by rfl):PG X (.Tuple es k pos) (VW X.K n t):=by
 intro pins s σ H v u Q I r hw;obtain⟨a,xs,e1,hq,hl,hw⟩:=hw;subst e1;cases r;obtain⟨its,rv,ht,hz⟩:=I.tuple hq;refine assign_Tuple_tuple (I.ok.hd hc) ht (by simp[hn,<-hl,rv.length]) hst λh' hx=>?_
 have I1:Inv X pins σ H { s with heap:=h' }:=I.kept (t':=s.toks) λb o e=>hx b o (aks (om e)) e
 exact h pins _ σ H xs _ Q I1 (by simpa using rv) hw
def ahW (to ti:TE)(t:VU):TG:=λv σ H Q=>to σ H λo H1=>ti σ H1 λi H2=>t o i v H2 λH3=>Q σ H3
theorem JO {o i:Expr}{to ti:TE}{t:VU}(ho:PE X o to)(hi:PE X i ti)(hs:aap X t)
  (ha:∀v,assign (.Subscript o i pos) X.env v=(do
   let ov <-holding [v] (eval o X.env)
   let iv <-holding [v,ov] (eval i X.env)
   standAt pos
   holding [v,ov,iv] (setItem ov iv v)
   release [v,ov,iv] []):=by intro _;rfl):PG X (.Subscript o i pos) (ahW to ti t):=by
 intro pins s σ H v u Q I r h;rw[ha];refine eg (wpAny_holding (thn (ho pins s σ H _ I h) λov s1 ⟨x,H1,I1,r1,q1⟩=>?_))
 refine eg (wpAny_holding (thn (hi pins s1 σ H1 _ I1 q1) λiv s2 ⟨y,H2,I2,r2,q2⟩=>?_))
 refine eg (alc (eg (wpAny_holding (thn (hs pins s2 σ H2 x y v ov iv u _ I2 r1 r2 r q2) λ_ s3 ⟨H3,I3,q3⟩=>?_))))
 exact wpAny_release ⟨σ,H3,I3,q3⟩
def VX (te:TE)(g:TG):TS:=λD σ H=>te σ H λx H1=>g x σ H1 D.nx
theorem xn {tg e:Expr}{te:TE}{g:TG}(he:PE X e te)(hg:PG X tg g)(hs:swapsWithSole [tg] e pos.line X.env=pure false:=by rfl)(hw:swappedStores [tg] e X.env=pure none:=by rfl)
  (h1:(assignEach [tg] X.env).map (·.2)=[assign tg X.env]:=by rfl):PS X (.Assign [tg] e pos) (VX te g):=by
 intro pins s σ H D I h;refine wpAny_Assign_stores (thn (he pins s σ H _ I h) λv s1 ⟨x,H1,I1,r1,q1⟩=>?_) hs hw
 rw[h1];exact thn (hg pins s1 σ H1 x v _ I1 r1 q1) λ_ s2 q=>q
theorem a6 {i:Nat}{x:Str}{e:Expr}{te:TE}{pos':Pos}(hN:X.N.Nodup)(hi:X.N[i]?=some x)(hx:Loc X.env.scope x)(he:PE X e te)(hs:swapsWith e (some (.Name x pos')) pos.line X.env=pure false:=by rfl)(hf:X.fn x=true\/X.env.scope.names.lookup x=some .local:=by first | exact .inl rfl | exact .inr rfl | assumption) :
  PS X (.Assign [.Name x pos'] e pos) (VX te (f9 i)):=by
 intro pins s σ H D I h;refine wpAny_Assign_Name (thn (he pins s σ H _ I h) λv s1 ⟨y,H1,I1,r1,q1⟩=>?_) hs
 exact vv I1 hN hi hx r1 (λs2 I2=>⟨_,H1,I2,q1⟩) hf
end
structure It where
 go:Nat->Hp->Prop
 yld:Nat->Hp->V->Hp->Prop
 stop:Nat->Hp->Prop
def gJ (X:Cx)(pins:List (Addr×Obj))(H:Hp)(b:Addr):Prop :=
 H b=none/\b≠X.env.locals/\b∉X.fs/\(b∈X.ex\/X.s₀.heap.objs.size<=b)/\(∀x c,X.env.cells.lookup x=some c->c≠b)/\∀p∈X.pn++pins,p.1≠b
theorem Inv.AN {X:Cx}{pins:List (Addr×Obj)}{σ:St}{H H':Hp}{s:Shared}{b:Addr}(I:Inv X pins σ H s)(hb:s.heap.objs.size<=b)(hn:H' b=none):gJ X pins H' b:=by
 refine⟨hn,Nat.ne_of_gt (akq I.lt hb),I.ahN hb,.inr (tm I.sz hb),λx c e z=>?_,λp hp z=>?_⟩
 ·obtain⟨v,q⟩:=I.cell x c e;exact absurd (akq q.lt (by rw[z];exact hb)) (alZ _)
 ·exact absurd (akq (om (I.pin p hp).1) (by rw[z];exact hb)) (alZ _)
structure Turn (P:me)(w:World)(K:ba)(tg:Expr)(J:It)(fp:List Addr)(it:Addr)(tn:Nat->Heap->Prop):Prop where
 mem:it∈fp
 obj:∀i h,tn i h->∀b∈fp,∃o,h.get? b=some o/\∀v,o.data≠.cell v
 keep:∀i h h',tn i h->(∀b∈fp,∀o,h.get? b=some o->h'.get? b=some o)->tn i h'
 item:∀(X:Cx),X.prog=P->X.w=w->X.K=K->X.calm=true->∀(i:Nat) (pins:List (Addr×Obj)) (s:Shared) (σ:St) (H:Hp) (E:Value->Shared->Prop),Inv X pins σ H s->(∀b∈fp,gJ X pins H b)->tn i s.heap->J.go i H ->
  wpAny (model P w) X.A (pyNext (.ref it)) (λr s1=>∃u,r=some u /\
   wpAny (model P w) X.A (letOwnedTupleGo tg (.ref it) u) (λ_ s2=>∃x H',Inv X pins σ H' s2/\RelV x u/\J.yld i H x H'/\tn (i+1) s2.heap/\∀b∈fp,H' b=none) E s1) E s
 done:∀(X:Cx),X.prog=P->X.w=w->X.K=K->X.calm=true->∀(i:Nat) (pins:List (Addr×Obj)) (s:Shared) (σ:St) (H:Hp) (E:Value->Shared->Prop),Inv X pins σ H s->(∀b∈fp,gJ X pins H b)->tn i s.heap->J.stop i H ->
  wpAny (model P w) X.A (pyNext (.ref it)) (λr s1=>r=none/\Inv X pins σ H s1) E s
 self:∀(A:Around) (i:Nat) (s:Shared) (Q:Value->Shared->Prop) (E:Value->Shared->Prop),tn i s.heap->Q (.ref it) s->wpAny (model P w) A (pyIter (.ref it)) Q E s
abbrev TI:=St->Hp->(It->Hp->Prop)->Prop
def PIE (X:Cx)(pins:List (Addr×Obj))(σ:St)(tg:Expr)(R:It->Hp->Prop)(itv:Value)(s2:Shared):Prop :=
 ∃(it:Addr) (fp:List Addr) (tn:Nat->Heap->Prop) (J:It) (H':Hp),itv=.ref it/\Inv X pins σ H' s2/\Turn X.prog X.w X.K tg J fp it tn/\tn 0 s2.heap/\(∀b∈fp,gJ X pins H' b)/\R J H'
def PI (X:Cx)(tg iter:Expr)(wi:TI):Prop :=
 ∀(pins:List (Addr×Obj)) (s:Shared) (σ:St) (H:Hp) (R:It->Hp->Prop),Inv X pins σ H s->wi σ H R ->
  wpAny (model X.prog X.w) X.A (eval iter X.env) (λv s1=>wpAny (model X.prog X.w) X.A (pyIter v) (PIE X pins σ tg R) X.xe s1) X.xe s
theorem OQ {M:Model}{A:Around}{E:Value->Shared->Prop}{s:Shared}{tg:Expr}{it:Addr}{u:Value}{o:Obj}{n:String}{vs:Array Value}{Q:Unit->Shared->Prop}(ho:s.heap.get? it=some o)(hc:o.cls=.type n)(hd:o.data=.fields vs)
    (hn:["enumerate","zip","dict_itemiterator","dict_reverseitemiterator","odict_iterator","itertools.zip_longest","itertools.pairwise"].contains n=false) (hQ:Q () s):wpAny M A (letOwnedTupleGo tg (.ref it) u) Q E s:=by
  unfold letOwnedTupleGo
  cases tg <;> first
    |exact si hQ
    | (cases u <;> first
        |exact si hQ
        | (refine eg (wpAny_load ho ?_)
           rw[hc,hd]
           show wpAny M A (if (["enumerate","zip","dict_itemiterator","dict_reverseitemiterator","odict_iterator","itertools.zip_longest","itertools.pairwise"].contains n && vs[0]? == some (rawInt _))=true then _ else _) Q E s
           rw[if_neg (by intro h;rw[hn,Bool.false_and]at h;cases h)]
           exact si hQ))
def Itl (K:ba)(a:Addr):It :=
 ⟨λi H=>∃xs x,SqL K H a xs/\xs[i]?=some x,λi H x H'=>H'=H/\∀xs,SqL K H a xs->xs[i]?=some x,λi H=>∃xs,SqL K H a xs/\xs.length<=i⟩
def Itt (K:ba)(a:Addr):It :=
 ⟨λi H=>∃xs x,SqT K H a xs/\xs[i]?=some x,λi H x H'=>H'=H/\∀xs,SqT K H a xs->xs[i]?=some x,λi H=>∃xs,SqT K H a xs/\xs.length<=i⟩
def Itr (lo:Int)(n:Nat):It:=⟨λi _=>i < n,λi H x H'=>H'=H/\x=.int (lo+i),λi _=>n<=i⟩
theorem M7 {P:me}{w:World}{K:ba}{tg:Expr}(a it:Addr):Turn P w K tg (Itl K a) [it] it (λi h=>h.IsListIter it a i) where
 mem:=by simp
 obj:=λi h st b hb=>by
  have e:b=it:=by simpa using hb
  subst e;obtain⟨o,e,c,d⟩:=st;exact⟨o,e,λv z=>by rw[d]at z;cases z⟩
 keep:=λi h h' st k=>st.at λo e=>k it (by simp) o e
 item:=by
  intro X hP hw hK hc i pins s σ H E I hf st hg;subst hP hw hK;obtain⟨xs,x,hq,hx⟩:=hg;obtain⟨its,rv,p,hz⟩:=I.list hq;obtain⟨u,hu,ru⟩:=rv.get hx;obtain⟨f0,f1,f2,f3,f4,f5⟩:=hf it (by simp)
  refine wpAny_pyNext_list_item st p.isList (x:=u) (by simpa using hu) λh' st' sb=>?_
  have I1:Inv X pins σ H { s with heap:=h' }:=I.turned (t':=s.toks) (λb o hb e=>(sb.2 b hb).trans e) f0 f1 f3 f4 f5
  obtain⟨o,e,c,d⟩:=id st';exact⟨u,rfl,OQ (s:={ s with heap:=h' }) e c d (by decide) ⟨x,H,I1,ru,⟨rfl,λys hy=>by rw[I.OO hy hq];exact hx⟩,st',λb hb=>(hf b hb).1⟩⟩
 done:=by
  intro X hP hw hK hc i pins s σ H E I hf st hg;subst hP hw hK;obtain⟨xs,hq,hx⟩:=hg;obtain⟨its,rv,p,hz⟩:=I.list hq;obtain⟨f0,f1,f2,f3,f4,f5⟩:=hf it (by simp)
  have hl:=rv.length;exact wpAny_pyNext_list_end (I.ok.hd hc) st p.isList (by simp;omega) λh' eb=>⟨rfl,I.turned (t':=s.toks) (λb o hb e=>eb b o hb e) f0 f1 f3 f4 f5⟩
 self:=λ_ _ _ _ _ st h=>wpAny_pyIter_listiter st h
theorem JP {P:me}{w:World}{K:ba}{tg:Expr}(a it:Addr):Turn P w K tg (Itt K a) [it] it (λi h=>h.IsTupleIter it a i) where
 mem:=by simp
 obj:=λi h st b hb=>by
  have e:b=it:=by simpa using hb
  subst e;obtain⟨o,e,c,d⟩:=st;exact⟨o,e,λv z=>by rw[d]at z;cases z⟩
 keep:=λi h h' st k=>st.at λo e=>k it (by simp) o e
 item:=by
  intro X hP hw hK hc i pins s σ H E I hf st hg;subst hP hw hK;obtain⟨xs,x,hq,hx⟩:=hg;obtain⟨its,rv,p,hz⟩:=I.tuple hq;obtain⟨u,hu,ru⟩:=rv.get hx;obtain⟨f0,f1,f2,f3,f4,f5⟩:=hf it (by simp)
  refine wpAny_pyNext_tuple_item st (show s.heap.IsTuple a its.toArray from p) (x:=u) (by simpa using hu) λh' st' sb=>?_
  have I1:Inv X pins σ H { s with heap:=h' }:=I.turned (t':=s.toks) (λb o hb e=>(sb.2 b hb).trans e) f0 f1 f3 f4 f5
  obtain⟨o,e,c,d⟩:=id st';exact⟨u,rfl,OQ (s:={ s with heap:=h' }) e c d (by decide) ⟨x,H,I1,ru,⟨rfl,λys hy=>by rw[I.M6 hy hq];exact hx⟩,st',λb hb=>(hf b hb).1⟩⟩
 done:=by
  intro X hP hw hK hc i pins s σ H E I hf st hg;subst hP hw hK;obtain⟨xs,hq,hx⟩:=hg;obtain⟨its,rv,p,hz⟩:=I.tuple hq;obtain⟨f0,f1,f2,f3,f4,f5⟩:=hf it (by simp)
  have hl:=rv.length;exact wpAny_pyNext_tuple_end (I.ok.hd hc) st (show s.heap.IsTuple a its.toArray from p) (by simp;omega) λh' eb=>⟨rfl,I.turned (t':=s.toks) (λb o hb e=>eb b o hb e) f0 f1 f3 f4 f5⟩
 self:=λ_ _ _ _ _ st h=>wpAny_pyIter_tupleiter st h
theorem JQ {P:me}{w:World}{K:ba}{tg:Expr}(it:Addr)(lo:Int)(n:Nat):Turn P w K tg (Itr lo n) [it] it (λi h=>IsRangeIter h it (lo+(i:Nat) * 1) ((n:Int) - (i:Nat)) 1) where
 mem:=by simp
 obj:=λi h st b hb=>by
  have e:b=it:=by simpa using hb
  subst e;exact⟨_,st,λv z=>by
   have z':Data.fields _=Data.cell v:=z;cases z'⟩
 keep:=λi h h' st k=>k it (by simp) _ st
 item:=by
  intro X hP hw hK hc i pins s σ H E I hf st hg;subst hP hw hK;obtain⟨f0,f1,f2,f3,f4,f5⟩:=hf it (by simp)
  have W:=Walks.range (prog:=X.prog) (w:=X.w) (I.ok.hd hc) it lo 1 n;refine W.item i s _ _ hg st λv h' tk hv st' kk=>?_
  obtain⟨t,rfl⟩:=hv;have I1:Inv X pins σ H { s with heap:=h',toks:=tk }:=I.turned (λb o hb e=>kk b o (by simpa using hb) e) f0 f1 f3 f4 f5
  refine⟨_,rfl,OQ (s:={ s with heap:=h',toks:=tk }) (n:="range_iterator") st' rfl rfl (by decide) ⟨.int (lo+i),H,I1,⟨t,?_⟩,⟨rfl,rfl⟩,st',λb hb=>(hf b hb).1⟩⟩
  rw[Int.mul_one]
 done:=by
  intro X hP hw hK hc i pins s σ H E I hf st hg;subst hP hw hK;obtain⟨f0,f1,f2,f3,f4,f5⟩:=hf it (by simp)
  exact wpAny_pyNext_range_end (I.ok.hd hc) st (by have:n<=i:=hg;omega) λh' eb=>⟨rfl,I.turned (t':=s.toks) (λb o hb e=>eb b o hb e) f0 f1 f3 f4 f5⟩
 self:=λ_ _ _ _ _ st h=>wpAny_pyIter_rangeiter st h
end L2
namespace L2
open PySem PySem.Spec PyProof.Rows
section
variable{X:Cx}{tg:Expr}
def aar (K:ba)(tl:TE):TI:=λσ H R=>tl σ H λx H1=>∃a,x=.ref a/\(∃xs,SqL K H1 a xs)/\R (Itl K a) H1
def ahX (K:ba)(tl:TE):TI:=λσ H R=>tl σ H λx H1=>∃a,x=.ref a/\(∃xs,SqT K H1 a xs)/\R (Itt K a) H1
theorem qp {l:Expr}{tl:TE}(hl:PE X l tl):PI X tg l (aar X.K tl):=by
 intro pins s σ H R I h;refine thn (hl pins s σ H _ I h) λv s1 ⟨x,H1,I1,r1,q1⟩=>?_
 obtain⟨a,e,⟨xs,hq⟩,q⟩:=q1;subst e;cases r1;obtain⟨its,rv,p,hz⟩:=I1.list hq;refine wpAny_pyIter_list p.isList ?_;refine⟨s1.heap.objs.size,[s1.heap.objs.size],_,_,H1,rfl,I1.kept (t':=s1.toks) λb o e=>gr _ e,M7 a _,⟨_,aku _ rfl,rfl,rfl⟩,λb hb=>?_,q⟩
 have e:b=s1.heap.objs.size:=by simpa using hb
 subst e;exact I1.AN (km _) (I1.hok.fresh (km _))
theorem VY {l:Expr}{tl:TE}(hl:PE X l tl):PI X tg l (ahX X.K tl):=by
 intro pins s σ H R I h;refine thn (hl pins s σ H _ I h) λv s1 ⟨x,H1,I1,r1,q1⟩=>?_
 obtain⟨a,e,⟨xs,hq⟩,q⟩:=q1;subst e;cases r1;obtain⟨its,rv,p,hz⟩:=I1.tuple hq;refine wpAny_pyIter_tuple (show s1.heap.IsTuple a its.toArray from p) ?_
 refine⟨s1.heap.objs.size,[s1.heap.objs.size],_,_,H1,rfl,I1.kept (t':=s1.toks) λb o e=>gr _ e,JP a _,⟨_,aku _ rfl,rfl,rfl⟩,λb hb=>?_,q⟩
 have e:b=s1.heap.objs.size:=by simpa using hb
 subst e;exact I1.AN (km _) (I1.hok.fresh (km _))
theorem OR {pins:List (Addr×Obj)}{σ:St}{H:Hp}{s:Shared}{R:It->Hp->Prop}{E:Value->Shared->Prop}{lo hi:Int}{t u v:Tok}{tk:Nat}(I:Inv X pins σ H s)(h1:-(2 ^ 62)<=lo)(h2:lo < 2 ^ 62)(h3:-(2 ^ 62)<=hi)(h4:hi < 2 ^ 62)
  (q:R (Itr lo (hi - lo).toNat) H):wpAny (model X.prog X.w) X.A (pyIter (.ref s.heap.objs.size)) (PIE X pins σ tg R) E { s with heap:=s.heap.push { cls:=.type "range",data:=.fields #[.int lo t,.int hi u,.int 1 v] },toks:=tk }:=by
 refine wpAny_pyIter_range (IsRange.new ..) (small_one h1 h2 h3 h4) ?_;have I1:Inv X pins σ H { s with heap:=s.heap.push { cls:=.type "range",data:=.fields #[.int lo t,.int hi u,.int 1 v] },toks:=tk }:=I.kept λb o e=>gr _ e
 refine⟨(s.heap.push { cls:=.type "range",data:=.fields #[.int lo t,.int hi u,.int 1 v] }).objs.size,[(s.heap.push { cls:=.type "range",data:=.fields #[.int lo t,.int hi u,.int 1 v] }).objs.size],_,_,H,rfl,
  I1.kept (t':=tk) λb o e=>gr _ e,JQ _ lo (hi - lo).toNat,?_,λb hb=>?_,q⟩
 ·have e1:lo+((0:Nat):Int) * 1=lo:=by simp
  have e2:(((hi - lo).toNat:Nat):Int) - ((0:Nat):Int)=Builtin.Range.rangeSize lo hi 1:=by rw[rangeSize_one];split <;> omega
  show IsRangeIter _ _ (lo+((0:Nat):Int) * 1) ((((hi - lo).toNat:Nat):Int) - ((0:Nat):Int)) 1;rw[e1,e2];exact aku _ rfl
 ·have e:b=(s.heap.push { cls:=.type "range",data:=.fields #[.int lo t,.int hi u,.int 1 v] }).objs.size:=by simpa using hb
  subst e;exact I1.AN (km _) (I1.hok.fresh (km _))
def aas (ta:TA):TI:=λσ H R=>ta σ H λvs H1=>∃j:Int,vs=[.int j]/\-(2 ^ 62)<=j/\j < 2 ^ 62/\R (Itr 0 j.toNat) H1
theorem xo {a:Expr}{ta:TA}{p pos:Pos}(hg:Gl X "range")(hm:X.mg "range"=none)(ha:PA X [a] ta)(hs:adm [a] X.env=[(false,eval a X.env)]:=by rfl):PI X tg (.Call (.Name "range" p) [a] [] pos) (aas ta):=by
 intro pins s σ H R I h;refine Call_ (AL I hg hm boot_range (alH (thn (ha pos pins s σ H _ I h) λus s1 ⟨vs,H1,I1,r1,q1⟩=>?_) hs rfl))
 obtain⟨j,e,q1,q2,q⟩:=q1;subst e;cases r1 with
 |cons r rr =>
  cases rr;obtain⟨t,rfl⟩:=r;exact call_range_1 (OR I1 (by omega) (by omega) q1 q2 (by simpa using q))
def ahY (wi:TI)(g:TG)(tb:TS):TS:=λD σ H=>wi σ H λJ H1=>∃W:Nat->Nat->St->Hp->Prop,(∃m,W 0 m σ H1)/\∀i m σ H,W i m σ H ->
 (J.stop i H/\D.nx σ H)\/(J.go i H/\∃N:St->Hp->Prop,(∀σ' H',N σ' H'->∃m',m' < m/\W (i+1) m' σ' H')/\∀x H',J.yld i H x H'->g x σ H' λσ2 H2=>tb { D with nx:=N,ct:=N,bk:=D.nx } σ2 H2)
def Ey (fp:List Addr)(h:Heap):List (Addr×Obj):=fp.filterMap λb=>(h.get? b).map λo=>(b,o)
theorem jw {fp:List Addr}{h:Heap}{b:Addr}{o:Obj}(hb:b∈fp)(e:h.get? b=some o):(b,o)∈Ey fp h:=List.mem_filterMap.mpr ⟨b,hb,by rw[e];rfl⟩
theorem M8 {fp:List Addr}{h:Heap}{p:Addr×Obj}(hp:p∈Ey fp h):p.1∈fp/\h.get? p.1=some p.2:=by
 obtain⟨b,hb,e⟩:=List.mem_filterMap.mp hp;cases q:h.get? b with
 |none=>rw[q]at e;cases e
 |some o =>
  rw[q]at e;have e':(b,o)=p:=akx e;subst e';exact⟨hb,q⟩
theorem Inv.pinned {pins:List (Addr×Obj)}{σ:St}{H:Hp}{s:Shared}{fp:List Addr}(I:Inv X pins σ H s)(hf:∀b∈fp,gJ X pins H b)(ho:∀b∈fp,∃o,s.heap.get? b=some o/\∀v,o.data≠.cell v):Inv X (pins++Ey fp s.heap) σ H s :=
 I.Am λp hp=>(List.mem_append.mp hp).elim (λz=>I.pin p (kj _ z)) λz=>by
  obtain⟨hb,e⟩:=M8 z;obtain⟨f0,f1,f2,_⟩:=hf p.1 hb;obtain⟨o,e',d⟩:=ho p.1 hb;rw[e]at e';cases e';exact⟨e,f0,f1,f2,d⟩
theorem Inv.hZ {pins pl:List (Addr×Obj)}{σ:St}{H:Hp}{s:Shared}(I:Inv X (pins++pl) σ H s):Inv X pins σ H s:=I.Am λp hp=>I.pin p (kj _ (akZ _ hp))
theorem AO {iter:Expr}{body:List Stmt}{wi:TI}{g:TG}{tb:TS}{pos:Pos}(hp:PassesOwn (model X.prog X.w) X.A X.env X.xe)(hc:X.calm=true)(hi:PI X tg iter wi)(hg:PG X tg g)(hb:PSs X body tb)
  (hs:∀x,foldedSetIterable iter X.env x=pure x:=by intro _;rfl):PS X (.For tg iter body [] pos) (ahY wi g tb):=by
 intro pins s σ H D I h;refine wpAny_For (thn (hi pins s σ H _ I h) λv s1 h1=>thn h1 λitv s2 h2=>?_) hs
 obtain⟨it,fp,tn,J,H2,e,I2,T,st2,f2,W,⟨m0,w0⟩,turn⟩:=h2;subst e;have stat:∀ {H':Hp},(∀b∈fp,H' b=none)->∀b∈fp,gJ X pins H' b:=λhn b hb=>⟨hn b hb,(f2 b hb).2⟩
 refine codeAny_forLoop_any (λn s'=>∃i σ' H',Inv X pins σ' H' s'/\tn i s'.heap/\(∀b∈fp,H' b=none)/\W i n σ' H') ?_ m0 ⟨0,σ,H2,I2,st2,λb hb=>(f2 b hb).1,w0⟩
 rintro n s3 ⟨i,σ3,H3,I3,st3,fr3,w3⟩;rcases turn i n σ3 H3 w3 with ⟨stop,qn⟩ | ⟨go,N,hN,step⟩
 ·refine wpAny_passesOwn hp (thn (T.done X rfl rfl rfl hc i pins s3 σ3 H3 X.xe I3 (stat fr3) st3 stop) λr s4 ⟨hr,I4⟩=>?_)
  subst hr;exact wpAny_execs_nil ⟨σ3,H3,I4,qn⟩
 ·refine wpAny_passesOwn hp (thn (T.item X rfl rfl rfl hc i pins s3 σ3 H3 X.xe I3 (stat fr3) st3 go) λr s4 ⟨u,hr,h4⟩=>?_)
  subst hr;refine wpAny_passesOwn hp (thn h4 λ_ s5 ⟨x,H5,I5,r5,y5,st5,fr5⟩=>?_)
  have I5':=I5.pinned (stat fr5) (T.obj _ _ st5);refine wpAny_passesOwn hp (thn (hg _ s5 σ3 H5 x u _ I5' r5 (step x H5 y5)) λ_ s6 ⟨σ6,H6,I6,q6⟩=>?_)
  refine wpAny_passesOwn hp (thn (hb _ s6 σ6 H6 _ I6 q6) λf s7 q7=>?_)
  have again:∀ {σ7:St} {H7:Hp},Inv X (pins++Ey fp s5.heap) σ7 H7 s7->N σ7 H7->∃m,m < n/\∃i σ' H',Inv X pins σ' H' s7/\tn i s7.heap/\(∀b∈fp,H' b=none)/\W i m σ' H':=λ{σ7 H7} I7 n7=>by
   obtain⟨m',hm,w7⟩:=hN σ7 H7 n7;refine⟨m',hm,i+1,σ7,H7,I7.hZ,T.keep _ _ _ st5 λb hb o e=>(I7.pin (b,o) (kj _ (kj _ (jw hb e)))).1,λb hb=>?_,w7⟩
   obtain⟨o,e,d⟩:=T.obj _ _ st5 b hb;exact(I7.pin (b,o) (kj _ (kj _ (jw hb e)))).2.1
  cases f with
  |next=>obtain⟨σ7,H7,I7,n7⟩:=q7;exact again I7 n7
  |cont=>obtain⟨σ7,H7,I7,n7⟩:=q7;exact again I7 n7
  |brk=>obtain⟨σ7,H7,I7,q7⟩:=q7;exact⟨σ7,H7,I7.hZ,q7⟩
  |ret v=>obtain⟨x7,σ7,H7,I7,r7,q7⟩:=q7;exact⟨x7,σ7,H7,I7.hZ,r7,q7⟩
end
theorem AQ {K:ba}{a:Addr}{xs:List V}{g:TG}{tb:TS}{D:Ends}{σ:St}{H:Hp}(Pv:Nat->St->Hp->Prop)(h0:Pv 0 σ H)(hl:∀i σ H,i<=xs.length->Pv i σ H->SqL K H a xs)
  (hs:∀i x σ H,xs[i]?=some x->Pv i σ H->g x σ H λσ2 H2=>tb { D with nx:=Pv (i+1),ct:=Pv (i+1),bk:=D.nx } σ2 H2) (hd:∀σ H,Pv xs.length σ H->D.nx σ H) :
  ∃W:Nat->Nat->St->Hp->Prop,(∃m,W 0 m σ H)/\∀i m σ H,W i m σ H ->
   ((Itl K a).stop i H/\D.nx σ H)\/((Itl K a).go i H/\∃N:St->Hp->Prop,(∀σ' H',N σ' H'->∃m',m' < m/\W (i+1) m' σ' H')/\∀x H',(Itl K a).yld i H x H'->g x σ H' λσ2 H2=>tb { D with nx:=N,ct:=N,bk:=D.nx } σ2 H2):=by
 refine⟨λi m σ H=>m=xs.length - i/\i<=xs.length/\Pv i σ H,⟨xs.length,by simp,ak6 _,h0⟩,?_⟩
 rintro i m σ H ⟨rfl,hi,p⟩;have q:=hl i σ H hi p
 by_cases hlt:i < xs.length
 ·refine .inr ⟨⟨xs,xs[i],q,by simp[hlt]⟩,Pv (i+1),λσ' H' p'=>⟨xs.length - (i+1),by omega,rfl,hlt,p'⟩,λx H' y=>?_⟩
  obtain⟨e,y⟩:=y;subst e;exact hs i x σ _ (y xs q) p
 ·have e:i=xs.length:=by omega
  subst e;exact .inl ⟨⟨xs,q,km _⟩,hd σ H p⟩
theorem Dm {lo:Int}{n:Nat}{g:TG}{tb:TS}{D:Ends}{σ:St}{H:Hp}(Pv:Nat->St->Hp->Prop)(h0:Pv 0 σ H)
  (hs:∀i σ H,i < n->Pv i σ H->g (.int (lo+i)) σ H λσ2 H2=>tb { D with nx:=Pv (i+1),ct:=Pv (i+1),bk:=D.nx } σ2 H2) (hd:∀σ H,Pv n σ H->D.nx σ H) :
  ∃W:Nat->Nat->St->Hp->Prop,(∃m,W 0 m σ H)/\∀i m σ H,W i m σ H ->
   ((Itr lo n).stop i H/\D.nx σ H)\/((Itr lo n).go i H/\∃N:St->Hp->Prop,(∀σ' H',N σ' H'->∃m',m' < m/\W (i+1) m' σ' H')/\∀x H',(Itr lo n).yld i H x H'->g x σ H' λσ2 H2=>tb { D with nx:=N,ct:=N,bk:=D.nx } σ2 H2):=by
 refine⟨λi m σ H=>m=n - i/\i<=n/\Pv i σ H,⟨n,by simp,ak6 _,h0⟩,?_⟩
 rintro i m σ H ⟨rfl,hi,p⟩
 by_cases hlt:i < n
 ·refine .inr ⟨hlt,Pv (i+1),λσ' H' p'=>⟨n - (i+1),by omega,rfl,hlt,p'⟩,λx H' y=>?_⟩
  obtain⟨e,y⟩:=y;subst e y;exact hs i σ _ hlt p
 ·have e:i=n:=by omega
  subst e;exact .inl ⟨km _,hd σ H p⟩
end L2
namespace L2
open PySem PySem.Spec PyProof.Rows
abbrev R2:=V->V->Hp->VK->Prop
def OpR (X:Cx)(f:Value->Value->Sem Value)(r:R2):Prop :=
 ∀(pins:List (Addr×Obj)) (s:Shared) (σ:St) (H:Hp) (x y:V) (v u:Value) (Q:VK),Inv X pins σ H s->RelV x v->RelV y u->r x y H Q ->
  wpAny (model X.prog X.w) X.A (f v u) (EP X pins σ Q) X.xe s
def UnR (X:Cx)(f:Value->Sem Value)(r:V->Hp->VK->Prop):Prop :=
 ∀(pins:List (Addr×Obj)) (s:Shared) (σ:St) (H:Hp) (x:V) (v:Value) (Q:VK),Inv X pins σ H s->RelV x v->r x H Q ->
  wpAny (model X.prog X.w) X.A (f v) (EP X pins σ Q) X.xe s
def lC (X:Cx)(f:Value)(r:List V->Hp->VK->Prop):Prop :=
 ∀(pins:List (Addr×Obj)) (s:Shared) (σ:St) (H:Hp) (xs:List V) (us:List Value) (Q:VK),Inv X pins σ H s->Vals xs us->r xs H Q ->
  wpAny (model X.prog X.w) X.A (call f us) (EP X pins σ Q) X.xe s
def ahZ (X:Cx)(r:V->Hp->(Bool->Hp->Prop)->Prop):Prop :=
 ∀(pins:List (Addr×Obj)) (s:Shared) (σ:St) (H:Hp) (x:V) (v:Value) (Q:Bool->Hp->Prop),Inv X pins σ H s->RelV x v->r x H Q ->
  wpAny (model X.prog X.w) X.A (truthy v) (TP X pins σ Q) X.xe s
def tOp (r:R2)(ta tb:TE):TE:=λσ H Q=>ta σ H λx H1=>tb σ H1 λy H2=>r x y H2 Q
def tUn (r:V->Hp->VK->Prop)(ta:TE):TE:=λσ H Q=>ta σ H λx H1=>r x H1 Q
def rI (C:Int->Int->Prop)(g:Int->Int->V):R2:=λx y H Q=>∃i j,x=.int i/\y=.int j/\C i j/\Q (g i j) H
def rI0 (g:Int->Int->V):R2:=λx y H Q=>∃i j,x=.int i/\y=.int j/\Q (g i j) H
def rU (g:Int->V):V->Hp->VK->Prop:=λx H Q=>∃i,x=.int i/\Q (g i) H
section
variable{X:Cx}{a b c:Expr}{ta tb tc:TE}{pos:Pos}
theorem VZ (ha:PE X a ta)(hb:PE X b tb){pins:List (Addr×Obj)}{s:Shared}{σ:St}{H:Hp}{R:V->V->Hp->Prop}(I:Inv X pins σ H s)
  (h:ta σ H λx H1=>tb σ H1 λy H2=>R x y H2) {Q:Value->Shared->Prop} {f:Value->Value->Sem Value}
  (hf:∀v u s2 x y H2,Inv X pins σ H2 s2->RelV x v->RelV y u->R x y H2->wpAny (model X.prog X.w) X.A (f v u) Q X.xe s2) :
  wpAny (model X.prog X.w) X.A (eval a X.env) (λv s₁=>wpAny (model X.prog X.w) X.A (eval b X.env) (λu s₂=>wpAny (model X.prog X.w) X.A (f v u) Q X.xe s₂) X.xe s₁) X.xe s:=by
 refine thn (ha pins s σ H _ I h) λv s1 ⟨x,H1,I1,r1,q1⟩=>?_
 refine thn (hb pins s1 σ H1 _ I1 q1) λu s2 ⟨y,H2,I2,r2,q2⟩=>?_
 exact hf v u s2 x y H2 I2 r1 r2 q2
theorem a4 {op:Operator}{r:R2}(ho:OpR X (binaryOp op) r)(ha:PE X a ta)(hb:PE X b tb):PE X (.BinOp a op b pos) (tOp r ta tb):=by
 intro pins s σ H Q I h;exact wpAny_BinOp (VZ ha hb I h λv u s2 x y H2 I2 rx ry q=>ho pins s2 σ H2 x y v u Q I2 rx ry q)
theorem mj {op:UnaryOp}{r:V->Hp->VK->Prop}(ho:UnR X (unaryOp op) r)(ha:PE X a ta):PE X (.UnaryOp op a pos) (tUn r ta):=by
 intro pins s σ H Q I h;exact UnaryOp_ (thn (ha pins s σ H _ I h) λv s1 ⟨x,H1,I1,r1,q1⟩=>ho pins s1 σ H1 x v Q I1 r1 q1)
theorem opI {f:Value->Value->Sem Value}{C:Int->Int->Prop}{g:Int->Int->Int}
  (rule:∀(i j:Int) (t u:Tok) (s:Shared) (Q:Value->Shared->Prop) (E:Value->Shared->Prop),C i j->Q (.int (g i j) s.toks) { s with toks:=s.toks+1 }->wpAny (model X.prog X.w) X.A (f (.int i t) (.int j u)) Q E s) :
  OpR X f (rI C λi j=>.int (g i j)):=by
 intro pins s σ H x y v u Q I rx ry h;obtain⟨i,j,rfl,rfl,hc,q⟩:=h;obtain⟨t,rfl⟩:=rx;obtain⟨t',rfl⟩:=ry;exact rule i j t t' s _ _ hc ⟨.int (g i j),H,I.tok _,⟨_,rfl⟩,q⟩
theorem aat {f:Value->Value->Sem Value}{g:Int->Int->Int}
  (rule:∀(i j:Int) (t u:Tok) (s:Shared) (Q:Value->Shared->Prop) (E:Value->Shared->Prop),Q (.int (g i j) s.toks) { s with toks:=s.toks+1 }->wpAny (model X.prog X.w) X.A (f (.int i t) (.int j u)) Q E s) :
  OpR X f (rI0 λi j=>.int (g i j)):=by
 intro pins s σ H x y v u Q I rx ry h;obtain⟨i,j,rfl,rfl,q⟩:=h;obtain⟨t,rfl⟩:=rx;obtain⟨t',rfl⟩:=ry;exact rule i j t t' s _ _ ⟨.int (g i j),H,I.tok _,⟨_,rfl⟩,q⟩
theorem Sb {f:Value->Value->Sem Value}{g:Int->Int->Bool}
  (rule:∀(i j:Int) (t u:Tok) (s:Shared) (Q:Value->Shared->Prop) (E:Value->Shared->Prop),Q (.bool (g i j)) s->wpAny (model X.prog X.w) X.A (f (.int i t) (.int j u)) Q E s) :
  OpR X f (rI0 λi j=>.bl (g i j)):=by
 intro pins s σ H x y v u Q I rx ry h;obtain⟨i,j,rfl,rfl,q⟩:=h;obtain⟨t,rfl⟩:=rx;obtain⟨t',rfl⟩:=ry;exact rule i j t t' s _ _ ⟨.bl (g i j),H,I,rfl,q⟩
def ah0 (i j:Int):Prop:=0 < j/\j < 1073741824
def ah1 (i j:Int):Prop:=0<=j/\j<=1000000/\i.natAbs < 2 ^ 64
def V0 (i j:Int):Prop:=(-(2 ^ 64) < i/\i < 2 ^ 64)\/(-(2 ^ 64) < j/\j < 2 ^ 64)
theorem V0.ok {i j:Int}(h:V0 i j):IntMulOk i j:=by
 rcases h with ⟨h1,h2⟩ | ⟨h1,h2⟩
 ·exact .of_left (intBits_le_64 h1 h2)
 ·exact .of_right (intBits_le_64 h1 h2)
theorem cX:OpR X (binaryOp .Add) (rI0 λi j=>.int (i+j)):=aat λ_ _ _ _ _ _ _ q=>add_int q
theorem nX:OpR X (binaryOp .Sub) (rI0 λi j=>.int (i - j)):=aat λ_ _ _ _ _ _ _ q=>sub_int q
theorem xq:OpR X (binaryOp .Mult) (rI V0 λi j=>.int (i * j)):=opI λ_ _ _ _ _ _ _ hc q=>mul_int q hc.ok
theorem dg:OpR X (binaryOp .FloorDiv) (rI ah0 λi j=>.int (i / j)):=opI λi j _ _ _ _ _ hc q=>by
 have h1:(0:Int) < j:=hc.1;have h2:j < 1073741824:=hc.2;exact floordiv_int (by omega) (by rw[Int.fdiv_eq_ediv_of_nonneg i (by omega)];exact q) (.inl (PyProof.noPylong_small (by omega)))
theorem cB:OpR X (binaryOp .Mod) (rI (λ_ j=>0 < j) λi j=>.int (i % j)):=opI λi j _ _ _ _ _ hc q=>by
 have h1:(0:Int) < j:=hc;exact mod_int' (by omega) (by rw[Int.fmod_eq_emod_of_nonneg i (by omega)];exact q)
theorem V1:OpR X (binaryOp .Pow) (rI ah1 λi j=>.int (i ^ j.toNat)):=opI λ_ _ _ _ _ _ _ hc q=>pow_int_small hc.1 hc.2.1 hc.2.2 q
theorem unI {f:Value->Sem Value}{g:Int->Int}
  (rule:∀(i:Int) (t:Tok) (s:Shared) (Q:Value->Shared->Prop) (E:Value->Shared->Prop),Q (.int (g i) s.toks) { s with toks:=s.toks+1 }->wpAny (model X.prog X.w) X.A (f (.int i t)) Q E s) :
  UnR X f (rU λi=>.int (g i)):=by
 intro pins s σ H x v Q I rx h;obtain⟨i,rfl,q⟩:=h;obtain⟨t,rfl⟩:=rx;exact rule i t s _ _ ⟨.int (g i),H,I.tok _,⟨_,rfl⟩,q⟩
theorem iA:UnR X (unaryOp .USub) (rU λi=>.int (-i)):=unI λ_ _ _ _ _ q=>neg_int q
end
def aau:V->V->Bool
 | .non,.non=>true | .non,.int _=>true | .int _,.non=>true | .non,.bl _=>true | .bl _,.non=>true | .non,.str _=>true | .str _,.non=>true
 | .int _,.int _=>true | .bl _,.bl _=>true | .str _,.str _=>true | .byt _,.byt _=>true
 | .int _,.str _=>true | .str _,.int _=>true | .bl _,.str _=>true | .str _,.bl _=>true
 |_,_=>false
def rEq:R2:=λx y H Q=>aau x y=true/\Q (.bl (decide (x=y))) H
def rNe:R2:=λx y H Q=>aau x y=true/\Q (.bl (!decide (x=y))) H
theorem Ma {i j:Int}:decide (V.int i=V.int j)=(i == j):=by
 rw[Bool.eq_iff_iff];simp
theorem OS {i j:Bool}:decide (V.bl i=V.bl j)=(i == j):=by
 rw[Bool.eq_iff_iff];simp
theorem Mb {i j:Str}:decide (V.str i=V.str j)=(i == j):=by
 rw[Bool.eq_iff_iff];simp
theorem Mc {i j:Array UInt8}:decide (V.byt i=V.byt j)=(i.toList == j.toList):=by
 rw[Bool.eq_iff_iff];cases i;cases j;simp
section
variable{X:Cx}{a b c:Expr}{ta tb tc:TE}{pos:Pos}
theorem cq {pins:List (Addr×Obj)}{σ:St}{H:Hp}{s:Shared}{Q:VK}{k k':Bool}(I:Inv X pins σ H s)(q:Q (.bl k) H)(e:k=k'):EP X pins σ Q (.bool k') s:=by
 subst e;exact⟨.bl k,H,I,rfl,q⟩
theorem bt:OpR X (alo .Eq) rEq:=by
 intro pins s σ H x y v u Q I rx ry h;obtain⟨hs,q⟩:=h;cases x with
 |non =>
  cases rx;cases y with
  |non=>cases ry;exact PySem.EqNone.eq_none_none (cq I q (by simp))
  |bl j=>cases ry;exact PySem.EqNone.eq_none_bool (cq I q (by simp))
  |int j=>obtain⟨t',rfl⟩:=ry;exact PySem.EqNone.eq_none_int (cq I q (by simp))
  |str j=>obtain⟨t',rfl⟩:=ry;exact PySem.EqNone.eq_none_str (cq I q (by simp))
  |_=>exact absurd (show false=true from hs) kx
 |bl i =>
  cases rx;cases y with
  |non=>cases ry;exact PySem.EqNone.eq_bool_none (cq I q (by simp))
  |bl j=>cases ry;exact eq_bool (cq I q OS)
  |str j=>obtain⟨t',rfl⟩:=ry;exact PySem.EqMixed.eq_bool_str (cq I q (by simp))
  |_=>exact absurd (show false=true from hs) kx
 |int i =>
  obtain⟨t,rfl⟩:=rx;cases y with
  |non=>cases ry;exact PySem.EqNone.eq_int_none (cq I q (by simp))
  |int j=>obtain⟨t',rfl⟩:=ry;exact eq_int (cq I q Ma)
  |str j=>obtain⟨t',rfl⟩:=ry;exact PySem.EqMixed.eq_int_str (cq I q (by simp))
  |_=>exact absurd (show false=true from hs) kx
 |str i =>
  obtain⟨t,rfl⟩:=rx;cases y with
  |non=>cases ry;exact PySem.EqNone.eq_str_none (cq I q (by simp))
  |bl j=>cases ry;exact PySem.EqMixed.eq_str_bool (cq I q (by simp))
  |int j=>obtain⟨t',rfl⟩:=ry;exact PySem.EqMixed.eq_str_int (cq I q (by simp))
  |str j=>obtain⟨t',rfl⟩:=ry;exact eq_str (cq I q Mb)
  |_=>exact absurd (show false=true from hs) kx
 |byt i =>
  obtain⟨t,rfl⟩:=rx;cases y with
  |byt j=>obtain⟨t',rfl⟩:=ry;exact PySem.W.eq_bytes (cq I q Mc)
  |_=>exact absurd (show false=true from hs) kx
 |_=>cases y <;> exact absurd (show false=true from hs) kx
theorem AR:OpR X (alo .NotEq) rNe:=by
 intro pins s σ H x y v u Q I rx ry h;obtain⟨hs,q⟩:=h;cases x with
 |non =>
  cases rx;cases y with
  |non=>cases ry;exact PySem.EqNone.ne_none_none (cq I q (by simp))
  |bl j=>cases ry;exact PySem.EqNone.ne_none_bool (cq I q (by simp))
  |int j=>obtain⟨t',rfl⟩:=ry;exact PySem.EqNone.ne_none_int (cq I q (by simp))
  |str j=>obtain⟨t',rfl⟩:=ry;exact PySem.EqNone.ne_none_str (cq I q (by simp))
  |_=>exact absurd (show false=true from hs) kx
 |bl i =>
  cases rx;cases y with
  |non=>cases ry;exact PySem.EqNone.ne_bool_none (cq I q (by simp))
  |bl j=>cases ry;exact ne_bool (cq I q (congrArg not OS))
  |str j=>obtain⟨t',rfl⟩:=ry;exact PySem.EqMixed.ne_bool_str (cq I q (by simp))
  |_=>exact absurd (show false=true from hs) kx
 |int i =>
  obtain⟨t,rfl⟩:=rx;cases y with
  |non=>cases ry;exact PySem.EqNone.ne_int_none (cq I q (by simp))
  |int j=>obtain⟨t',rfl⟩:=ry;exact ne_int (cq I q (congrArg not Ma))
  |str j=>obtain⟨t',rfl⟩:=ry;exact PySem.EqMixed.ne_int_str (cq I q (by simp))
  |_=>exact absurd (show false=true from hs) kx
 |str i =>
  obtain⟨t,rfl⟩:=rx;cases y with
  |non=>cases ry;exact PySem.EqNone.ne_str_none (cq I q (by simp))
  |bl j=>cases ry;exact PySem.EqMixed.ne_str_bool (cq I q (by simp))
  |int j=>obtain⟨t',rfl⟩:=ry;exact PySem.EqMixed.ne_str_int (cq I q (by simp))
  |str j=>obtain⟨t',rfl⟩:=ry;exact ne_str (cq I q (congrArg not Mb))
  |_=>exact absurd (show false=true from hs) kx
 |byt i =>
  obtain⟨t,rfl⟩:=rx;cases y with
  |byt j=>obtain⟨t',rfl⟩:=ry;exact PySem.W.ne_bytes (cq I q (congrArg not Mc))
  |_=>exact absurd (show false=true from hs) kx
 |_=>cases y <;> exact absurd (show false=true from hs) kx
theorem rP:OpR X (alo .Lt) (rI0 λi j=>.bl (decide (i < j))):=Sb λ_ _ _ _ _ _ _ q=>lt_int q
theorem vx:OpR X (alo .LtE) (rI0 λi j=>.bl (decide (i<=j))):=Sb λ_ _ _ _ _ _ _ q=>le_int q
theorem AS:OpR X (alo .Gt) (rI0 λi j=>.bl (decide (j < i))):=Sb λ_ _ _ _ _ _ _ q=>gt_int q
theorem Ul:OpR X (alo .GtE) (rI0 λi j=>.bl (decide (j<=i))):=Sb λ_ _ _ _ _ _ _ q=>ge_int q
theorem Sd:OpR X (alo .IsNot) (λx y H Q=>y=.non/\Q (.bl (!decide (x=.non))) H):=by
 intro pins s σ H x y v u Q I rx ry h;obtain⟨rfl,q⟩:=h;cases ry;refine isnot_none_gen (cq I q ?_);cases x <;> first
  | (cases rx;rfl)
  | (obtain⟨t,rfl⟩:=rx;rfl)
theorem OpR.or {f:Value->Value->Sem Value}{r r':R2}(h:OpR X f r)(h':OpR X f r'):OpR X f (λx y H Q=>r x y H Q\/r' x y H Q):=by
 intro pins s σ H x y v u Q I rx ry q;rcases q with q | q
 ·exact h pins s σ H x y v u Q I rx ry q
 ·exact h' pins s σ H x y v u Q I rx ry q
theorem aL (b:Expr){op:CmpOp}(h:op≠.In:=by decide)(h2:op≠.NotIn:=by decide):behindInMarks op b=false:=by
 have e1:(op == CmpOp.In)=false:=by cases op <;> first | rfl | exact absurd rfl h
 have e2:(op == CmpOp.NotIn)=false:=by cases op <;> first | rfl | exact absurd rfl h2
 cases b <;> simp[behindInMarks,e1,e2]
theorem iX {op:CmpOp}{r:R2}(ho:OpR X (alo op) r)(ha:PE X a ta)(hb:PE X b tb)(hm:behindInMarks op b=false):PE X (.Compare a [op] [b] pos) (tOp r ta tb):=by
 intro pins s σ H Q I h;exact wpAny_Compare1 (VZ ha hb I h λv u s2 x y H2 I2 rx ry q=>ho pins s2 σ H2 x y v u Q I2 rx ry q) hm
def aav (t:TE):TT:=λσ H Q=>t σ H λx H'=>∃k,x=.bl k/\Q k H'
theorem az {op:CmpOp}{r:R2}(ho:OpR X (alo op) r)(ha:PE X a ta)(hb:PE X b tb)(hm:behindInMarks op b=false):PT X (.Compare a [op] [b] pos) (aav (tOp r ta tb)):=by
 intro pins s σ H Q I h;refine wpAny_isTrue_Compare1 (thn (ha pins s σ H _ I h) λv s1 ⟨x,H1,I1,r1,q1⟩=>thn (hb pins s1 σ H1 _ I1 q1) λu s2 ⟨y,H2,I2,r2,q2⟩ =>
  thn (ho pins s2 σ H2 x y v u _ I2 r1 r2 q2) λc s3 ⟨z,H3,I3,r3,k,e,q3⟩=>?_) hm
 subst e;cases r3;exact wpAny_truthy_bool ⟨H3,I3,q3⟩
def V2 (r r':R2)(ta tb tc:TE):TE:=λσ H Q=>ta σ H λx H1=>tb σ H1 λy H2=>r x y H2 λz H3=>∃k,z=.bl k /\
 (if k=true then tc σ H3 λw' H4=>r' y w' H4 Q else Q (.bl false) H3)
theorem AU {op op':CmpOp}{r r':R2}(ho:OpR X (alo op) r)(ho':OpR X (alo op') r')(ha:PE X a ta)(hb:PE X b tb)(hc:PE X c tc)
  (hm:lastMarks [op,op'] [b,c]=false:=by with_unfolding_all rfl):PE X (.Compare a [op,op'] [b,c] pos) (V2 r r' ta tb tc):=by
 intro pins s σ H Q I h;refine Compare_chain (thn (ha pins s σ H _ I h) λv s1 ⟨x,H1,I1,r1,q1⟩=>chain_link (thn (hb pins s1 σ H1 _ I1 q1) λu s2 ⟨y,H2,I2,r2,q2⟩ =>
  thn (ho pins s2 σ H2 x y v u _ I2 r1 r2 q2) λd s3 ⟨z,H3,I3,r3,k,e,q3⟩=>?_)) hm
 subst e;cases r3;refine wpAny_truthy_bool ?_;cases k with
 |false=>exact ite_ff ⟨.bl false,H3,I3,rfl,q3⟩
 |true=>exact ite_tt (chain_last (thn (hc pins s3 σ H3 _ I3 q3) λw' s4 ⟨z',H4,I4,r4,q4⟩=>ho' pins s4 σ H4 y z' u w' Q I4 r2 r4 q4))
def aaw (K:ba)(x:V)(H:Hp)(k:Bool):Prop :=
 match x with
 | .non=>k=false
 | .bl b=>k=b
 | .int i=>k=(i != 0)
 | .str y=>y.length<=kf/\k=((y.length:Int) != 0)
 | .byt y=>y.size<=kf/\k=((y.size:Int) != 0)
 | .ref p=>(∃xs,SqL K H p xs/\k=!xs.isEmpty)\/(∃xs,SqT K H p xs/\k=!xs.isEmpty)\/∃kvs,H p=some (.dK kvs)/\k=!kvs.isEmpty
 |_=>False
theorem JR {κ:Type}{kvs:List (κ×V)}{vs:List (κ×Value)}(r:KV kvs vs):(!vs.isEmpty)=!kvs.isEmpty:=by
 cases r <;> rfl
theorem AV {xs:List V}{its:List Value}(r:Vals xs its):(!its.toArray.isEmpty)=!xs.isEmpty:=by
 cases r <;> simp
theorem uH:(kf:Nat) < 2 ^ 63:=by rw[alw];decide
theorem V3:ahZ X (λx H Q=>∃k,aaw X.K x H k/\Q k H):=by
 intro pins s σ H x v Q I rx h;obtain⟨k,e,q⟩:=h;have hl:=uH;have hs:kf=16777216:=alw;cases x with
 |non =>
  cases rx;have e':k=false:=e;subst e';exact truthy_none ⟨H,I,q⟩
 |bl b =>
  cases rx;have e':k=b:=e;subst e';exact wpAny_truthy_bool ⟨H,I,q⟩
 |int i =>
  obtain⟨t,rfl⟩:=rx;have e':k=(i != 0):=e;subst e';exact PySem.P.truthy_int ⟨H,I,q⟩
 |str y =>
  obtain⟨t,rfl⟩:=rx;obtain⟨hy,e'⟩:y.length<=kf/\k=((y.length:Int) != 0):=e;subst e';exact PySem.P.truthy_str (by omega) ⟨H,I.tok _,q⟩
 |byt y =>
  obtain⟨t,rfl⟩:=rx;obtain⟨hy,e'⟩:y.size<=kf/\k=((y.size:Int) != 0):=e;subst e';exact PySem.W.truthy_bytes (by omega) ⟨H,I.tok _,q⟩
 |ref p =>
  cases rx;have e':(∃xs,SqL X.K H p xs/\k=!xs.isEmpty)\/(∃xs,SqT X.K H p xs/\k=!xs.isEmpty)\/∃kvs,H p=some (.dK kvs)/\k=!kvs.isEmpty:=e;rcases e' with ⟨xs,hx,e'⟩ | ⟨xs,hx,e'⟩ | ⟨kvs,hx,e'⟩
  ·subst e';obtain⟨its,r,pl,hz⟩:=I.list hx;have hlen:=r.length;exact wpAny_truthy_list pl.isList (by simp only[kr];omega) ⟨H,I.tok _,by rw[AV r];exact q⟩
  ·subst e';obtain⟨its,r,pl,hz⟩:=I.tuple hx;have hlen:=r.length;exact truthy_tuple pl (by simp only[kr];omega) ⟨H,I.tok _,by rw[AV r];exact q⟩
  ·subst e';obtain⟨hz,hS,vs,r,m⟩:kvs.length<=kf/\(p == alN)=false/\∃vs,KV kvs vs/\s.heap.DictOf (cO X.prog X.w) p vs:=I.hok p _ hx;have hlen:kvs.length=vs.length:=Paired.length r;exact wpAny_truthy_dict hS m (by omega) ⟨H,I.tok _,by rw[JR r];exact q⟩
 |_=>exact(show False from e).elim
theorem rQ (ha:PE X a ta)(he:∀whole,isTrue a X.env whole=(do let v <-whole;standAt a.pos;holding [v] (truthy v))) :
  PT X a (λσ H Q=>ta σ H λx H'=>∃k,aaw X.K x H' k/\Q k H'):=by
 intro pins s σ H Q I h;exact isTrue_plain (thn (ha pins s σ H _ I h) λv s1 ⟨x,H1,I1,r1,q1⟩=>V3 pins s1 σ H1 x v Q I1 r1 q1) (he _)
theorem JS:OpR X (binaryOp .Add) (λx y H Q=>∃i j,x=.str i/\y=.str j/\i.length+j.length<=kf/\Q (.str (i++j)) H):=by
 intro pins s σ H x y v u Q I rx ry h;obtain⟨i,j,rfl,rfl,hz,q⟩:=h;obtain⟨t,rfl⟩:=rx;obtain⟨t',rfl⟩:=ry;exact add_str (λt' tk=>⟨.str (i++j),H,I.tok _,⟨_,rfl⟩,q⟩) hz
theorem vals1 {x:V}{us:List Value}(r:Vals [x] us):∃u,us=[u]/\RelV x u:=by
 cases r with
 |cons r1 r2=>cases r2;exact⟨_,rfl,r1⟩
theorem vals2 {x y:V}{us:List Value}(r:Vals [x,y] us):∃u w',us=[u,w']/\RelV x u/\RelV y w':=by
 cases r with
 |cons r1 r2 =>
  cases r2 with
  |cons r3 r4=>cases r4;exact⟨_,_,rfl,r1,r3⟩
theorem tN (hc:X.calm=true):lC X (.builtin "max") (λxs H Q=>∃i j,xs=[.int i,.int j]/\Q (.int (if j > i then j else i)) H):=by
 intro pins s σ H xs us Q I r h;obtain⟨i,j,rfl,q⟩:=h;obtain⟨u,w',rfl,⟨t,rfl⟩,⟨t',rfl⟩⟩:=vals2 r;refine max_two_ints (I.ok.hd hc) λh' tk k=>⟨_,H,I.kept k,?_,q⟩
 by_cases hj:j > i
 ·rw[if_pos hj,if_pos hj];exact⟨_,rfl⟩
 ·rw[if_neg hj,if_neg hj];exact⟨_,rfl⟩
theorem Dn:lC X (.type "int") (λxs H Q=>(∃i,xs=[.int i]/\Q (.int i) H)\/∃k,xs=[.bl k]/\Q (.int (if k then 1 else 0)) H):=by
 intro pins s σ H xs us Q I r h;rcases h with ⟨i,rfl,q⟩ | ⟨k,rfl,q⟩
 ·obtain⟨u,rfl,t,rfl⟩:=vals1 r;exact call_int_int ⟨.int i,H,I,⟨_,rfl⟩,q⟩
 ·obtain⟨u,rfl,r1⟩:=vals1 r;cases r1;exact call_int_bool ⟨.int (if k then 1 else 0),H,I.tok _,⟨_,rfl⟩,q⟩
theorem vy:lC X (.type "str") (λxs H Q=>∃i,xs=[.int i]/\i.natAbs.log2 < 1920/\Q (.str (toString i)) H):=by
 intro pins s σ H xs us Q I r h;obtain⟨i,rfl,hz,q⟩:=h;obtain⟨u,rfl,t,rfl⟩:=vals1 r;exact PySem.P.str_of_int hz ⟨.str _,H,I.tok _,⟨_,rfl⟩,q⟩
end
end L2
namespace L2
open PySem PySem.Spec PyProof.Rows
structure JT (h:Heap)(x dx C:Addr)(mA:Str->Option Value):Prop where
 obj:h.get? x=some (akS C dx)
 ns:h.Ns1 dx mA
 ne:dx≠x
theorem M9 {h:Heap}{dx:Addr}{mA:Str->Option Value}(n:h.Ns1 dx mA):∃od,h.get? dx=some od/\∀name,PySem.W.lookIn name od=some (mA name):=by
 obtain⟨o,es,ep,ho,hd,hk,_,hm⟩:=n;refine⟨o,ho,λname=>?_⟩
 have e:=hm name;unfold nsFind findBy at e;rw[<-Array.find?_toList]at e;unfold PySem.W.lookIn;rw[hd];dsimp only;split
 ·rename_i y q;rw[q]at e;exact congrArg some e
 ·rename_i q;rw[q]at e;have a:es.toList.any (·.refKey)=false:=by
   rw[List.any_eq_false];intro y hy;obtain⟨z,t,ah2⟩:=hk y (Array.mem_toList_iff.mp hy);simp[DictEntry.refKey,ah2]
  have a':¬es.toList.any (·.refKey)=true:=by rw[a];exact kx
  rw[if_neg a'];exact congrArg some e
theorem JT.look {h:Heap}{x dx C:Addr}{mA:Str->Option Value}(I:JT h x dx C mA):∃od,PySem.W.InstAt h x (akS C dx) C (some od)/\∀name,PySem.W.lookIn name od=some (mA name) :=
 let ⟨od,ho,hl⟩:=M9 I.ns
 ⟨od,⟨I.obj,rfl,rfl,ho⟩,hl⟩
section
variable{prog:me}{w:World}{A:Around}{E:Value->Shared->Prop}{s:Shared}{K:ba}{x dx C f:Addr}{mA:Str->Option Value}{name:Str}{v:Value}
theorem get_map {expr:Bool}{Q:Value->Shared->Prop}(X:K.In s.heap)(I:JT s.heap x dx C mA)(hg:akT K C name=true)(hh:akQ K C=true)
  (ha:cb K (.ref C) name=some none) (hv:mA name=some v) (hv':PySem.W.handedIn v=true) (h:Q v { s with toks:=s.toks+1 }) :
  wpAny (model prog w) A (getAttr (.ref x) name expr) Q E s:=by
 obtain⟨od,J,hl⟩:=I.look;exact PySem.W.get_value X J (PySem.W.plainGet_of hg).1 (PySem.W.findObj_own hh ha rfl (by rw[hl,hv])) hv' h
theorem OT {pl:Sem Bool}{Q:Value×List Value->Shared->Prop}(X:K.In s.heap)(I:JT s.heap x dx C mA)(hg:akT K C name=true)
  (hf:cb K (.ref C) name=some (some (.ref f))) (ht:ma K (.ref f)=true) (hv:mA name=none) (h:Q (.ref f,[.ref x]) s) :
  wpAny (model prog w) A (getMethod (.ref x) name pl) Q E s:=by
 obtain⟨od,J,hl⟩:=I.look;exact PySem.W.method_fn X J (PySem.W.plainGet_of hg).1 (PySem.W.plainGet_of hg).2 hf (beq_iff_eq.mp ht) (by show (PySem.W.lookIn name od).map (·.isSome)=some false;rw[hl,hv];rfl) h
theorem Se {ns:List Str}{Q:Unit->Shared->Prop}(X:K.In s.heap)(I:JT s.heap x dx C mA)
  (hs:cb K (.ref C) "__setattr__"=some (some (.builtin "object.__setattr__"))) (hp:akY K C=true) (ht:PySem.W.takerIn K C name=some none) (hh:akQ K C=true)
  (hw:PySem.Within mA ns) (hsz:ns.length<=kf)
  (h:∀h',JT h' x dx C (λy=>if y=name then some v else mA y)->Heap.SameBut dx s.heap h'->Q () { s with heap:=h',toks:=s.toks+2 }) :
  wpAny (model prog w) A (setAttr (.ref x) name v) Q E s:=by
 obtain⟨od,J,hl⟩:=I.look;refine PySem.W.set_plain X J hs (PySem.W.osa_open (s:={ s with toks:=s.toks+1 }) (r:=none) X J hp ht λb=>?_)
 obtain⟨cd,hc,hd'⟩:=PySem.W.any_some hh;have hx:s.heap.get? x=some ⟨.ref C,some dx,.plain,#[]⟩:=I.obj;refine eg (si (eg (eg (wpAny_loadPart hx (eg (PySem.W.Looks.here (s:={ s with toks:=s.toks+1 }) (PySem.W.looks_clsIn X hc) ?_))))))
 rw[hd'];refine si (a:=some dx) (eg (si (eg ?_)));refine wpAny_nsSet1 (s:={ s with toks:=s.toks+1 }) I.ns λh' hn2 hs2=>?_
 obtain⟨oD,esD,epD,hoD,hdD,hcD⟩:=hn2.count (PySem.Within.cons name v hw);refine eg (wpAny_lookBehind hoD (by rw[hdD];exact pastItsLine_dict (tm hcD (by rw[akp];omega))) ?_)
 exact si (h _ ⟨(hs2.2 _ (akI I.ne)).trans I.obj,hn2,I.ne⟩ hs2)
theorem OU {R:Result->Shared->Prop}{vs:List Value}{kw:List (Str×Value)}(X:K.In s.heap)(hm:ak5 K C=true)
  (hi:cb K (.ref C) "__init__"=some (some (.ref f))) (hf:PySem.W.typeIn K (.ref f)=some (.type "function"))
  (h:codeAny (model prog w) (A.under (.builtin "type.__call__" ⟨.ref C::vs,kw⟩)) (.call (.ref f) ⟨.ref (s.heap.objs.size+1)::vs,kw⟩) (PySem.W.InitBack (s.heap.objs.size+1) R)
   { s with heap:=(s.heap.push akN).push (akS C s.heap.objs.size) }) :
  codeAny (model prog w) A (.call (.ref C) ⟨vs,kw⟩) R s:=by
 obtain⟨hh,g,d,t,os⟩:=s;exact PySem.W.make_core (PySem.W.makes_of X hm) (PySem.W.looks_findIn X hi) (λself=>PySem.W.bind_fn X self hf) (.inl rfl) h
end
def gj (f:Str)(v:V):List (Str×V)->List (Str×V)
 |[]=>[(f,v)]
 | (g,x)::r=>if g=f then (g,v)::r else (g,x)::gj f v r
theorem yC (f g:Str)(v:V):∀fs:List (Str×V),(gj f v fs).lookup g=if g=f then some v else fs.lookup g
 |[]=>by
  show ak0 g [(f,v)]=_
  by_cases h:g=f
  ·have hb:(g == f)=true:=beq_iff_eq.mpr h;simp only[ak0,hb,if_pos h]
  ·have hb:(g == f)=false:=beq_eq_false_iff_ne.mpr h;simp only[ak0,hb,if_neg h]
 | (k,x)::r=>by
  have ih:=yC f g v r;rw[show gj f v ((k,x)::r)=(if k=f then (k,v)::r else (k,x)::gj f v r) from rfl]
  by_cases hk:k=f
  ·rw[if_pos hk]
   by_cases h:g=k
   ·have hb:(g == k)=true:=beq_iff_eq.mpr h;simp only[ak0,hb,if_pos (h.trans hk)]
   ·have hb:(g == k)=false:=beq_eq_false_iff_ne.mpr h;simp only[ak0,hb,if_neg (λe:g=f=>h (e.trans hk.symm))]
  ·rw[if_neg hk]
   by_cases h:g=k
   ·have hb:(g == k)=true:=beq_iff_eq.mpr h;simp only[ak0,hb,if_neg (λe:g=f=>hk (h.symm.trans e))]
   ·have hb:(g == k)=false:=beq_eq_false_iff_ne.mpr h;simp only[ak0,hb];exact ih
theorem xr (f:Str)(v:V):∀fs:List (Str×V),f∈(gj f v fs).map (·.1)/\∀g,g∈fs.map (·.1)->g∈(gj f v fs).map (·.1)
 |[]=>⟨by simp[gj],λg h=>by simp at h⟩
 | (k,x)::r=>by
  obtain⟨i1,i2⟩:=xr f v r;rw[show gj f v ((k,x)::r)=(if k=f then (k,v)::r else (k,x)::gj f v r) from rfl]
  by_cases hk:k=f
  ·rw[if_pos hk];subst hk;exact⟨by simp,λg h=>by simpa using h⟩
  ·rw[if_neg hk];refine⟨?_,λg h=>?_⟩
   ·rw[ko];exact ky _ i1
   ·rw[ko]at h ⊢;rcases List.mem_cons.mp h with e | e
    ·exact List.mem_cons.mpr (.inl e)
    ·exact ky _ (i2 g e)
theorem yD (f:Str)(v:V):∀fs:List (Str×V),(gj f v fs).length<=fs.length+1
 |[]=>by simp[gj]
 | (k,x)::r=>by
  have ih:=yD f v r;rw[show gj f v ((k,x)::r)=(if k=f then (k,v)::r else (k,x)::gj f v r) from rfl]
  by_cases hk:k=f
  ·rw[if_pos hk,akp,akp];omega
  ·rw[if_neg hk,akp,akp];omega
theorem qm.some_of {v:V}{o:Option Value}(r:qm (some v) o):∃u,o=some u/\RelV v u:=by
 cases o with
 |none=>exact(show False from r).elim
 |some u=>exact⟨u,rfl,r⟩
theorem qm.none_of {o:Option Value}(r:qm none o):o=none:=by
 cases o with
 |none=>rfl
 |some u=>exact(show False from r).elim
theorem Na {v:V}{u:Value}(r:RelV v u):PySem.W.handedIn u=true:=by
 cases v with
 |non=>cases (show u=alM from r);rfl
 |bl b=>cases (show u=Value.bool b from r);rfl
 |int i=>obtain⟨t,e⟩:=(show ∃t,u=Value.int i t from r);cases e;rfl
 |str x=>obtain⟨t,e⟩:=(show ∃t,u=Value.str x t from r);cases e;rfl
 |byt b=>obtain⟨t,e⟩:=(show ∃t,u=Value.bytes b t from r);cases e;rfl
 |flt b=>obtain⟨t,e⟩:=(show ∃t,u=Value.float b t from r);cases e;rfl
 |ref a=>cases (show u=akt a from r);rfl
 |ty n=>cases (show u=Value.type n from r);rfl
section
variable{P:me}{w:World}{H H':Hp}{h h':Heap}{a C dx:Addr}{fs fs':List (Str×V)}
theorem Ez (hok:HOk P w H h)(e:H a=some (.ins C dx fs)):∃mA,JT h a dx C mA/\(∀f,qm (fs.lookup f) (mA f))/\PySem.Within mA (fs.map (·.1))/\fs.length<=1000/\H dx=some (.own a):=by
 obtain⟨d,z,ne,ob,mA,n,r,q⟩:=(show eU P w H h a (.ins C dx fs) from hok a _ e)
 exact⟨mA,⟨ob,n,ne⟩,r,q,z,d⟩
end
structure Cls (K:ba)(C:Addr):Prop where
 pg:akT K C akP=true
 hd:akQ K C=true
 po:akY K C=true
 sa:cb K (.ref C) "__setattr__"=some (some (.builtin "object.__setattr__"))
theorem Cls.get {K:ba}{C:Addr}(c:Cls K C)(f:Str):akT K C f=true:=c.pg
def dq (K:ba)(C:Addr)(f:Str):Prop:=cb K (.ref C) f=some none
theorem dq.aax {K:ba}{C:Addr}{f:Str}(n:dq K C f):PySem.W.takerIn K C f=some none:=by
 unfold PySem.W.takerIn;rw[show cb K (.ref C) f=some none from n]
 rfl
structure Con (K:ba)(C:Addr)(f:Str)(v:V)(u:Value):Prop where
 at_:cb K (.ref C) f=some (some u)
 rel:RelV v u
 get:PySem.W.specialIn K u "__get__"=some none
 cp:PySem.W.copiedNames.contains f=false
structure Meth (K:ba)(C:Addr)(m:Str)(f:Addr):Prop where
 at_:cb K (.ref C) m=some (some (.ref f))
 fn:ma K (.ref f)=true
 kp:da K (.ref f)=true
section
variable{X:Cx}{pins:List (Addr×Obj)}{σ:St}{H:Hp}{s:Shared}{a C dx:Addr}{fs:List (Str×V)}{f:Str}{v:V}{A:Around}{E:Value->Shared->Prop}
theorem JU {b:Bool}{Q:Value->Shared->Prop}(I:Inv X pins σ H s)(e:H a=some (.ins C dx fs))(c:Cls X.K C)(n:dq X.K C f)(l:fs.lookup f=some v)
  (h:∀u s',Inv X pins σ H s'->RelV v u->Q u s'):wpAny (model X.prog X.w) A (getAttr (.ref a) f b) Q E s:=by
 obtain⟨mA,O,r,_,_,_⟩:=Ez I.hok e;obtain⟨u,hu,ru⟩:=qm.some_of (v:=v) (o:=mA f) (by rw[<-l];exact r f)
 exact get_map I.kIn O (c.get f) c.hd n hu (Na ru) (h u _ (I.tok _) ru)
theorem jx {m:Str}{g:Addr}{pl:Sem Bool}{Q:Value×List Value->Shared->Prop}(I:Inv X pins σ H s)(e:H a=some (.ins C dx fs))(c:Cls X.K C)(k:Meth X.K C m g)(l:fs.lookup m=none)
  (h:Q (.ref g,[.ref a]) s):wpAny (model X.prog X.w) A (getMethod (.ref a) m pl) Q E s:=by
 obtain⟨mA,O,r,_,_,_⟩:=Ez I.hok e;have hn:mA m=none:=qm.none_of (by rw[<-l];exact r m)
 exact OT I.kIn O (c.get m) k.at_ k.fn hn h
theorem JV {y:V}{u:Value}{Q:Unit->Shared->Prop}(I:Inv X pins σ H s)(e:H a=some (.ins C dx fs))(c:Cls X.K C)(n:dq X.K C f)(hl:fs.length < 1000)(ry:RelV y u)
  (h:∀s',Inv X pins σ (upd H a (.ins C dx (gj f y fs))) s'->Q () s'):wpAny (model X.prog X.w) A (setAttr (.ref a) f u) Q E s:=by
 obtain⟨mA,O,r,wi,_,ho⟩:=Ez I.hok e;have hz:(fs.map (·.1)).length<=kf:=by rw[bo,alw];omega
 refine Se I.kIn O c.sa c.po n.aax c.hd wi hz λh' O' sb=>h _ ?_
 have hd:∃o,h'.get? dx=some o:=let ⟨o,_,_,e',_⟩:=O'.ns;⟨o,e'⟩
 refine I.write (x:=a) (e:=dx) (by rw[e];exact alO) (.inr ho) (λb q hb z=>(sb.2 b hb).trans z) hd ?_
 refine⟨by rw[aw O.ne];exact ho,?_,O.ne,O'.obj,_,O'.ns,λg=>?_,λg hg=>?_⟩
 ·have:=yD f y fs;omega
 ·show qm ((gj f y fs).lookup g) (if g=f then some u else mA g)
  rw[yC]
  by_cases q:g=f
  ·rw[if_pos q,if_pos q];exact ry
  ·rw[if_neg q,if_neg q];exact r g
 ·by_cases q:g=f
  ·rw[q];exact(xr f y fs).1
  ·refine(xr f y fs).2 g (wi g λz=>hg ?_)
   show (if g=f then some u else mA g)=none
   rw[if_neg q];exact z
theorem Inv.made (I:Inv X pins σ H s):Inv X pins σ (upd (upd H s.heap.objs.size (.own (s.heap.objs.size+1))) (s.heap.objs.size+1) (.ins C s.heap.objs.size []))
  { s with heap:=(s.heap.push akN).push (akS C s.heap.objs.size) }:=by
 have e1:(s.heap.push akN).get? s.heap.objs.size=some akN:=aku s.heap rfl;have e2:((s.heap.push akN).push (akS C s.heap.objs.size)).get? (s.heap.objs.size+1)=some (akS C s.heap.objs.size):=by
  have:=aku (s.heap.push akN) (o:=akS C s.heap.objs.size) rfl
  rwa [alA]at this
 have e3:(s.heap.push akN).Ns s.heap.objs.size (λ_=>none):=⟨akN,#[],_,e1,rfl,(λe he=>absurd he (by simp)),λ_=>rfl⟩
 have I1:=I.laid (a:=s.heap.objs.size) (o:=.own (s.heap.objs.size+1)) (h':=s.heap.push akN) (t':=s.toks) (λb u q=>gr _ q) (km _) ⟨_,e1⟩
 refine I1.laid (a:=s.heap.objs.size+1) (o:=.ins C s.heap.objs.size []) (t':=s.toks) (λb u q=>gr _ q) (Nat.le_of_eq (alA _ _)) ?_
 have ne:s.heap.objs.size≠s.heap.objs.size+1:=aks (Nat.lt_succ_self _);refine⟨by rw[aw ne,ae],ak6 _,ne,e2,λ_=>none,(Heap.Ns1.of_empty e3).at λo q=>gr _ q,λ_=>alO,λy hy=>absurd rfl hy⟩
theorem Sf {prog:me}{w:World}{env:Env}{e:Expr}{f:Str}{pos:Pos}{s:Shared}{Q:Value->Shared->Prop}(hb:attributeBase e f env (eval e env)=eval e env)
  (h:wpAny (model prog w) A (eval e env) (λo s₁=>wpAny (model prog w) A (getAttr o f true) Q E s₁) E s):wpAny (model prog w) A (eval (.Attribute e f pos) env) Q E s :=
 Attribute_any_ h (by rw[arm_eval_Attribute,hb])
end
def aay (K:ba)(ta:TE)(f:Str):TE:=λσ H Q=>ta σ H λx H1=>∃a C dx fs v,x=.ref a/\H1 a=some (.ins C dx fs)/\Cls K C/\dq K C f/\fs.lookup f=some v/\Q v H1
def ah3 (K:ba)(ta tv:TE)(f:Str):TS:=λD σ H=>tv σ H λy H1=>ta σ H1 λx H2=>∃a C dx fs,x=.ref a/\H2 a=some (.ins C dx fs)/\Cls K C/\dq K C f/\fs.length < 1000 /\
 D.nx σ (upd H2 a (.ins C dx (gj f y fs)))
section
variable{X:Cx}{o e value:Expr}{f:Str}{pos pos' ah4:Pos}{ta tv:TE}
theorem br (he:PE X e ta)(hb:attributeBase e f X.env (eval e X.env)=eval e X.env):PE X (.Attribute e f pos) (aay X.K ta f):=by
 intro pins s σ H Q I h;refine Sf hb (thn (he pins s σ H _ I h) λu s1 ⟨x,H1,I1,rx,a,C,dx,fs,v,ex,ea,c,n,l,q⟩=>?_)
 subst ex;obtain rfl:u=akt a:=rx;exact JU I1 ea c n l λu' s2 I2 ru=>⟨v,H1,I2,ru,q⟩
theorem eA (ha:PE X o ta)(hv:PE X value tv)(hs:swapsWith value (some (.Attribute o f pos')) pos.line X.env=pure false):PS X (.Assign [.Attribute o f pos'] value pos) (ah3 X.K ta tv f):=by
 intro pins s σ H D I h;refine plainObj_wpAny_Assign_Attribute (thn (hv pins s σ H _ I h) λu s1 ⟨y,H1,I1,ry,q⟩=>thn (ha pins s1 σ H1 _ I1 q) λov s2 ⟨x,H2,I2,rx,a,C,dx,fs,ex,ea,c,n,l,q2⟩=>?_) hs
 subst ex;obtain rfl:ov=akt a:=rx;exact JV I2 ea c n l ry λs3 I3=>⟨σ,_,I3,q2⟩
theorem Um {pl:Sem Bool}{m:Str}{apos:Pos}{args:List Expr}{pins:List (Addr×Obj)}{s:Shared}{σ:St}{H:Hp}{Q:Value->Shared->Prop}{te:TE}(he:PE X e te)(I:Inv X pins σ H s)
  (h:te σ H λx H1=>∃a C dx fs g,x=.ref a/\H1 a=some (.ins C dx fs)/\Cls X.K C/\Meth X.K C m g/\fs.lookup m=none /\
   ∀s1,Inv X pins σ H1 s1->wpAny (model X.prog X.w) X.A (callWith pos (.ref g) [.ref a] (backTo pos (adm args X.env)) (backToKw pos (keywordEach [] X.env))) Q X.xe s1)
  (ht:eval (.Call (.Attribute e m apos) args [] pos) X.env=(do
   let ov <-eval e X.env
   standAt apos.atName
   let (f,first) <-holding [ov] (getMethod ov m pl)
   callWith pos f first (backTo pos (adm args X.env)) (backToKw pos (keywordEach [] X.env)))) :
  wpAny (model X.prog X.w) X.A (eval (.Call (.Attribute e m apos) args [] pos) X.env) Q X.xe s:=by
 refine alg (pl:=pl) (thn (he pins s σ H _ I h) λu s1 ⟨x,H1,I1,rx,a,C,dx,fs,g,ex,ea,c,k,l,q⟩=>?_) ht
 subst ex;obtain rfl:u=akt a:=rx;exact jx I1 ea c k l (q s1 I1)
end
section
variable{X:Cx}{pins:List (Addr×Obj)}{σ:St}{H:Hp}{s:Shared}{A:Around}{E:Value->Shared->Prop}{Q:Value->Shared->Prop}{c:Value}{b:Bool}
inductive AW (K:ba)(H:Hp):V->Value->Prop where
 |non:AW K H .non (.type "NoneType")
 |bl (x:Bool):AW K H (.bl x) (.type "bool")
 |int (i:Int):AW K H (.int i) (.type "int")
 |str (x:Str):AW K H (.str x) (.type "str")
 |flt (x:UInt64):AW K H (.flt x) (.type "float")
 |lst {a:Addr} {xs:List V} (e:H a=some (.lst xs)):AW K H (.ref a) (.type "list")
 |frz {a:Addr} {o:Obj} {xs:List V} (e:H a=some (.frz o (.lst xs))):AW K H (.ref a) (.type "list")
 |tup {a:Addr} {xs:List V} (e:H a=some (.tup xs)):AW K H (.ref a) (.type "tuple")
 |dK {a:Addr} {kvs:List (Key×V)} (e:H a=some (.dK kvs)):AW K H (.ref a) (.type "dict")
 |dT {a:Addr} {kvs:List (List Key×V)} (e:H a=some (.dT kvs)):AW K H (.ref a) (.type "dict")
 |ins {a C dx:Addr} {fs:List (Str×V)} (e:H a=some (.ins C dx fs)) (cl:Cls K C) (ha:cb K (.ref C) "__class__"=some (some (.builtin "object.__class__")))
   (hn:PySem.W.specialIn K (.builtin "object.__class__") "__get__"=some (some (.builtin "getset_descriptor.__get__"))) (htk:PySem.W.takesIn K (.builtin "object.__class__")=some true)
   (hm:PySem.W.mroIn K C (.type "object")=some true):AW K H (.ref a) (.ref C)
end
end L2
namespace L2
open PySem PySem.Spec PyProof.Rows
structure Room (k:Nat)(A:Around):Prop where
 hd:A.handled=none
 dp:A.depth+3 * k+5 < recursionLimit
 un:A.units+16 * k+200 < cLine
 gd:A.guards=some []
theorem Room.mono {j k:Nat}{A:Around}(r:Room k A)(h:j<=k):Room j A:=⟨r.hd,by have:=r.dp;omega,by have:=r.un;omega,r.gd⟩
theorem Room.deeper {k:Nat}{A:Around}(r:Room (k+1) A)(env:Env):Room k (A.deeper env) :=
 ⟨r.hd,by have:=r.dp;show A.depth+1+3 * k+5 < _;omega,by have:=r.un;show A.units+3+16 * k+200 < _;omega,r.gd⟩
theorem Room.in1 {k:Nat}{A:Around}(r:Room (k+1) A):Room k A.in1 :=
 ⟨r.hd,by have:=r.dp;show A.depth+3 * k+5 < _;omega,by have:=r.un;show A.units+1+16 * k+200 < _;omega,r.gd⟩
theorem JW {A:Around}{C:Addr}{us:List Value}{kw:List (Str×Value)}:(A.under (.builtin "type.__call__" ⟨.ref C::us,kw⟩)).depth=A.depth+1:=by
 first | rfl | simp[Around.under,Code.weight,Code.isCreation,Code.isGuard,Code.isCaller,Code.frames,Code.isFrame,guardIds]
theorem JX {A:Around}{C:Addr}{us:List Value}{kw:List (Str×Value)}:(A.under (.builtin "type.__call__" ⟨.ref C::us,kw⟩)).units=A.units+1:=by
 first | rfl | simp[Around.under,Code.cUnits,Code.frames,Code.isFrame]
theorem Room.make {k:Nat}{A:Around}(r:Room (k+1) A)(C:Addr)(us:List Value)(kw:List (Str×Value)):Room k (A.under (.builtin "type.__call__" ⟨.ref C::us,kw⟩)) :=
 ⟨r.hd,by have:=r.dp;rw[JW];omega,by have:=r.un;rw[JX];omega,by
  have g:=r.gd
  first | exact g | simp[Around.under,Code.guards,Code.isGuard,guardIds,pushGuards,g]⟩
theorem Room.depth {k:Nat}{A:Around}(r:Room k A):A.depth < recursionLimit:=by have:=r.dp;omega
theorem Room.units {k:Nat}{A:Around}(r:Room k A):A.units+64 < cLine:=by have:=r.un;omega
def V4:TA:=λ_ H Q=>Q [] H
def aaz (ta:TE)(tr:TA):TA:=λσ H Q=>ta σ H λx H1=>tr σ H1 λxs H2=>Q (x::xs) H2
section
variable{X:Cx}{e:Expr}{es:List Expr}{te:TE}{t:TA}{pos:Pos}
theorem ah:PA X [] V4:=λ_ _ _ _ H Q I h=>Calls.spliced_nil ⟨[],H,I,.nil,h⟩
theorem aa (ha:PE X e te)(hr:PA X es t)(hs:adm (e::es) X.env=(false,eval e X.env)::adm es X.env:=by rfl):PA X (e::es) (aaz te t):=by
 intro pos pins s σ H Q I h;rw[hs];show wpAny _ _ (spliced ((false,eval e X.env)::backTo pos (adm es X.env))) _ _ s;refine Calls.spliced_cons (thn (ha pins s σ H _ I h) λu s1 ⟨x,H1,I1,r1,q1⟩=>?_)
 exact thn (hr pos pins s1 σ H1 _ I1 q1) λus s2 ⟨xs,H2,I2,r2,q2⟩=>⟨x::xs,H2,I2,.cons r1 r2,q2⟩
def ah5 (t:TA):TE:=λσ H Q=>t σ H λxs H1=>xs.length<=kf/\∀p,H1 p=none->Q (.ref p) (upd H1 p (.tup xs))
def ah6 (t:TA):TE:=λσ H Q=>t σ H λxs H1=>xs.length<=kf/\∀p,H1 p=none->Q (.ref p) (upd H1 p (.lst xs))
theorem bj {x1}(h:PA X es t):PE X (.Tuple es x1 pos) (ah5 t):=by
 intro pins s σ H Q I hq;refine wpAny_Tuple_spliced (thn (h pos pins s σ H _ I hq) λus s1 ⟨xs,H1,I1,r,z,q⟩=>⟨by rw[<-r.length];exact z,?_⟩)
 have hf:H1 s1.heap.objs.size=none:=I1.hok.fresh (km _);refine⟨.ref s1.heap.objs.size,upd H1 s1.heap.objs.size (.tup xs),I1.laid (t':=s1.toks) (λb u e=>gr _ e) (km _) ?_,rfl,q _ hf⟩
 exact⟨z,us,r,⟨_,aku _ rfl,rfl,_,rfl⟩⟩
theorem bI (h:PA X es t):PE X (.List es pos) (ah6 t):=by
 intro pins s σ H Q I hq;refine wpAny_List_spliced (thn (h pos pins s σ H _ I hq) λus s1 ⟨xs,H1,I1,r,z,q⟩=>⟨by rw[<-r.length];exact z,?_⟩)
 have hf:H1 s1.heap.objs.size=none:=I1.hok.fresh (km _);refine⟨.ref s1.heap.objs.size,upd H1 s1.heap.objs.size (.lst xs),I1.laid (t':=s1.toks) (λb u e=>gr _ e) (km _) ?_,rfl,q _ hf⟩
 exact⟨z,us,0,r,aku _ rfl⟩
end
abbrev Sp:=List V->Hp->VK->XK->Prop
abbrev CXT:=List Env->Hp->Shared->XK->Value->Shared->Prop
structure CQ (P:me)(w:World)(K:ba)(mg:Str->Option Value)(base:Heap)(A:Around)(outer:List Env)(s:Shared)(H:Hp):Prop where
 frames:A.frames=some outer
 mod:Mod K mg base
 bs:∀b o,base.get? b=some o->s.heap.get? b=some o/\H b=none
 bsz:base.objs.size<=s.heap.objs.size
 uw:s.heap.FunFrames base outer
 frf:∀b∈frs outer,H b=none
 hok:HOk P w H s.heap
 bare:AllBare s.gens
def CE (outer:List Env)(P:me)(w:World)(H:Hp)(s:Shared)(Q:VK)(u:Value)(s':Shared):Prop :=
 ∃v H',s'.os=s.os/\AllBare s'.gens/\Un (frs outer) [] H H' s.heap s'.heap/\HOk P w H' s'.heap/\RelV v u/\Q v H'
def CR (CX:CXT)(outer:List Env)(P:me)(w:World)(H:Hp)(s:Shared)(Q:VK)(E:XK)(r:Result)(s':Shared):Prop :=
 match r with
 | .ok (.ret u)=>CE outer P w H s Q u s'
 | .ok _=>False
 | .error e=>CX outer H s E e s'
structure aO (P:me)(w:World)(K:ba)(mg:Str->Option Value)(base:Heap)(CX:CXT)(k:Nat)(f:Addr)(fd:ki)(ps:List Str)(sp:Sp):Prop where
 len:∀vs H Q E,sp vs H Q E->vs.length=ps.length
 run:∀(A:Around) (outer:List Env) (s:Shared) (H:Hp) (args:Args) (us:List Value) (vs:List V) (Q:VK) (E:XK),Room k A->CQ P w K mg base A outer s H->BindsTo s fd args (ps.zip us)->Vals vs us->sp vs H Q E ->
  codeAny (model P w) A (.call (.ref f) args) (CR CX outer P w H s Q E) s
theorem aO.mono {P:me}{w:World}{K:ba}{mg:Str->Option Value}{base:Heap}{CX:CXT}{j k:Nat}{f:Addr}{fd:ki}{ps:List Str}{sp:Sp}(F:aO P w K mg base CX j f fd ps sp)(h:j<=k) :
  aO P w K mg base CX k f fd ps sp:=⟨F.len,λA outer s H args us vs Q E hr=>F.run A outer s H args us vs Q E (hr.mono h)⟩
theorem aO.imp {P:me}{w:World}{K:ba}{mg:Str->Option Value}{base:Heap}{CX:CXT}{k:Nat}{f:Addr}{fd:ki}{ps:List Str}{sp sp':Sp}(F:aO P w K mg base CX k f fd ps sp)
  (h:∀vs H Q E,sp' vs H Q E->sp vs H Q E):aO P w K mg base CX k f fd ps sp' :=
 ⟨λvs H Q E q=>F.len vs H Q E (h _ _ _ _ q),λA outer s H args us vs Q E hr he hb hv hs=>F.run A outer s H args us vs Q E hr he hb hv (h _ _ _ _ hs)⟩
theorem CQ.make {P:me}{w:World}{K:ba}{mg:Str->Option Value}{base:Heap}{A:Around}{outer:List Env}{s:Shared}{H:Hp}(e:CQ P w K mg base A outer s H)(C:Addr)(us:List Value)(kw:List (Str×Value)) :
  CQ P w K mg base (A.under (.builtin "type.__call__" ⟨.ref C::us,kw⟩)) outer s H:=⟨by first | exact e.frames | (simpa [Around.under,Code.envs,Code.isFrame,pushEnvs] using e.frames),e.mod,e.bs,e.bsz,e.uw,e.frf,e.hok,e.bare⟩
theorem CQ.in1 {P:me}{w:World}{K:ba}{mg:Str->Option Value}{base:Heap}{A:Around}{outer:List Env}{s:Shared}{H:Hp}(e:CQ P w K mg base A outer s H) :
  CQ P w K mg base A.in1 outer s H:=⟨e.frames,e.mod,e.bs,e.bsz,e.uw,e.frf,e.hok,e.bare⟩
section
variable{X:Cx}{pins:List (Addr×Obj)}{σ:St}{H:Hp}{s s':Shared}
theorem Inv.Sg (I:Inv X pins σ H s):CQ X.prog X.w X.K X.mg X.base X.A X.stack s H :=
 ⟨I.ok.frames,I.ok.mod,I.bs,tm I.ok.bsz I.sz,I.stack,I.Al,I.hok,I.bare⟩
theorem Inv.after {Q:VK}{u:Value}(I:Inv X pins σ H s)(h:CE X.stack X.prog X.w H s Q u s'):EP X pins σ Q u s':=by
 obtain⟨v,H',os,bare,un,hok,r,q⟩:=h;obtain⟨hh,g,d,t,os'⟩:=s';obtain rfl:os'=s.os:=os;exact⟨v,H',I.call (h':=hh) (g':=g) (d':=d) (t':=t) (ch:=[]) un hok bare (λb z=>absurd z (by simp)),r,q⟩
end
def Uo (sp:Sp)(dvs:List V)(E:XK)(t:TA):TE:=λσ H Q=>t σ H λvs H1=>sp (vs++dvs) H1 Q E
def Up (C:Addr)(m:Str)(sp:Sp)(dvs:List V)(E:XK)(ta:TE)(t:TA):TE:=λσ H Q=>ta σ H λx H1=>∃a dx fs,x=.ref a/\H1 a=some (.ins C dx fs)/\fs.lookup m=none /\
 t σ H1 λvs H2=>sp (x::(vs++dvs)) H2 Q E
def aaA (C:Addr)(sp:Sp)(dvs:List V)(E:XK)(t:TA):TE:=λσ H Q=>t σ H λvs H1=>∀x dx,H1 x=none->H1 dx=none->dx≠x ->
 sp (.ref x::(vs++dvs)) (upd (upd H1 dx (.own x)) x (.ins C dx [])) (λv H2=>v=.non/\Q (.ref x) H2) E
def Binds (K:ba)(fd:ki)(ps:List Str)(ds:List Value):Prop :=
 ∀(s:Shared) (us:List Value),K.In s.heap->(us++ds).length=ps.length->BindsTo s fd ⟨us,[]⟩ (ps.zip (us++ds))
theorem Binds.all {K:ba}{fd:ki}{ps:List Str}(h:∀us:List Value,us.length=ps.length->bindArgs fd ⟨us,[]⟩=pure (ps.zip us)):Binds K fd ps []:=λs us _ hl=>by
 rw[alj]at hl ⊢;exact .of_eq (h us hl)
def Passes (CX:CXT)(X:Cx)(E:XK):Prop:=∀(pins:List (Addr×Obj)) (σ:St) (H:Hp) (s:Shared) (e:Value) (s':Shared),Inv X pins σ H s->CX X.stack H s E e s'->X.xe e s'
section
variable{X:Cx}{CX:CXT}{k:Nat}{f C:Addr}{fd:ki}{ps:List Str}{sp:Sp}{dvs:List V}{ds:List Value}{E:XK}{x m:Str}{p pos apos:Pos}{e o:Expr}{es:List Expr}{ta:TE}{t:TA}
theorem AX {pins:List (Addr×Obj)}{σ:St}{H:Hp}{s:Shared}{Q:VK}{us:List Value}{vs:List V}(F:aO X.prog X.w X.K X.mg X.base CX k f fd ps sp)(hr:Room k X.A)(hb:Binds X.K fd ps ds)(hd:Vals dvs ds)(hx:Passes CX X E)
  (I:Inv X pins σ H s) (r:Vals vs us) (h:sp (vs++dvs) H Q E):wpAny (model X.prog X.w) X.A (call (.ref f) us) (EP X pins σ Q) X.xe s:=by
 have r2:Vals (vs++dvs) (us++ds):=r.append hd;have hl:(us++ds).length=ps.length:=by rw[<-r2.length];exact F.len _ _ _ _ h
 refine wpAny_call (codeAny_mono (F.run X.A X.stack s H ⟨us,[]⟩ (us++ds) (vs++dvs) Q E hr I.Sg (hb s us I.kIn hl) r2 h) λr s' hq=>?_)
 cases r with
 |error e=>exact hx pins σ H s e s' I hq
 |ok fl =>
  cases fl with
  |ret u=>exact I.after hq
  |next=>exact akF hq
  |brk=>exact akF hq
  |cont=>exact akF hq
theorem aW (F:aO X.prog X.w X.K X.mg X.base CX k f fd ps sp)(hr:Room k X.A)(hg:Gl X x)(hm:X.mg x=some (.ref f))(hk:da X.K (.ref f)=true)(hb:Binds X.K fd ps ds)(hd:Vals dvs ds)(hx:Passes CX X E)
  (ha:PA X (e::es) t) (hdb:(x == ("__debug__":Str))=false:=by decide) (he:adm (e::es) X.env=(false,eval e X.env)::adm es X.env:=by rfl) (hpl:(backTo pos (adm es X.env)).any (·.1)=false:=by rfl) :
  PE X (.Call (.Name x p) (e::es) [] pos) (Uo sp dvs E t):=by
 intro pins s σ H Q I h;refine wpAny_Call_Name_kw (j6 I hg hm ?_ hdb);refine alW (h₀:=X.base) I.ok.mod.kin hk (thn (ha pos pins s σ H _ I h) λus s1 ⟨vs,H1,I1,r,q⟩=>⟨I1.kIn,?_⟩) he hpl
 exact AX F hr hb hd hx I1 r q
theorem OV (F:aO X.prog X.w X.K X.mg X.base CX k f fd ps sp)(hr:Room k X.A)(hg:Gl X x)(hm:X.mg x=some (.ref f))(hk:da X.K (.ref f)=true)(hb:Binds X.K fd ps ds)(hd:Vals dvs ds)(hx:Passes CX X E)
  (hdb:(x == ("__debug__":Str))=false:=by decide):PE X (.Call (.Name x p) [] [] pos) (Uo sp dvs E V4):=by
 intro pins s σ H Q I h;refine wpAny_Call_Name_kw (j6 I hg hm ?_ hdb);exact alU I.kIn hk (AX (us:=[]) F hr hb hd hx I .nil h)
theorem j7 {pl:Sem Bool}(he:PE X o ta)(c:Cls X.K C)(hm:Meth X.K C m f)(F:aO X.prog X.w X.K X.mg X.base CX k f fd ps sp)(hr:Room k X.A)(hb:Binds X.K fd ps ds)(hd:Vals dvs ds)(hx:Passes CX X E)(ha:PA X (e::es) t)
  (hst:adm (e::es) X.env=(false,eval e X.env)::adm es X.env:=by rfl) (hpl:(backTo pos (adm es X.env)).any (·.1)=false:=by rfl)
  (ht:eval (.Call (.Attribute o m apos) (e::es) [] pos) X.env=(do
   let ov <-eval o X.env
   standAt apos.atName
   let (f,first) <-holding [ov] (getMethod ov m pl)
   callWith pos f first (backTo pos (adm (e::es) X.env)) (backToKw pos (keywordEach [] X.env))):=by rfl) :
  PE X (.Call (.Attribute o m apos) (e::es) [] pos) (Up C m sp dvs E ta t):=by
 intro pins s σ H Q I h;refine alg (pl:=pl) (thn (he pins s σ H _ I h) λu s1 ⟨x,H1,I1,rx,a,dx,fs,ex,ea,l,q⟩=>?_) ht
 subst ex;obtain rfl:u=akt a:=rx;refine jx I1 ea c hm l ?_;refine alW (first:=[.ref a]) (h₀:=X.base) I.ok.mod.kin hm.kp (thn (ha pos pins s1 σ H1 _ I1 q) λus s2 ⟨vs,H2,I2,r,q2⟩=>⟨I2.kIn,?_⟩) hst hpl
 exact AX (us:=.ref a::us) (vs:=.ref a::vs) F hr hb hd hx I2 (.cons rfl r) q2
theorem gk {pl:Sem Bool}(he:PE X o ta)(c:Cls X.K C)(hm:Meth X.K C m f)(F:aO X.prog X.w X.K X.mg X.base CX k f fd ps sp)(hr:Room k X.A)(hb:Binds X.K fd ps ds)(hd:Vals dvs ds)(hx:Passes CX X E)
  (ht:eval (.Call (.Attribute o m apos) [] [] pos) X.env=(do
   let ov <-eval o X.env
   standAt apos.atName
   let (f,first) <-holding [ov] (getMethod ov m pl)
   callWith pos f first (backTo pos (adm [] X.env)) (backToKw pos (keywordEach [] X.env))):=by rfl) :
  PE X (.Call (.Attribute o m apos) [] [] pos) (Up C m sp dvs E ta V4):=by
 intro pins s σ H Q I h;refine alg (pl:=pl) (thn (he pins s σ H _ I h) λu s1 ⟨x,H1,I1,rx,a,dx,fs,ex,ea,l,q⟩=>?_) ht
 subst ex;obtain rfl:u=akt a:=rx;refine jx I1 ea c hm l ?_;exact alU (first:=[.ref a]) I1.kIn hm.kp (AX (us:=[.ref a]) (vs:=[.ref a]) F hr hb hd hx I1 (.cons rfl .nil) q)
structure Mk (K:ba)(C f:Addr):Prop where
 makes:ak5 K C=true
 init:cb K (.ref C) "__init__"=some (some (.ref f))
 fn:ma K (.ref f)=true
 kp:da K (.ref C)=true
theorem OW {pins:List (Addr×Obj)}{σ:St}{H:Hp}{s:Shared}{Q:VK}{us:List Value}{vs:List V}(M:Mk X.K C f)(F:aO X.prog X.w X.K X.mg X.base CX k f fd ps sp)(hr:Room (k+1) X.A)(hb:Binds X.K fd ps ds)(hd:Vals dvs ds)
  (hx:Passes CX X E) (I:Inv X pins σ H s) (r:Vals vs us)
  (h:∀x dx,H x=none->H dx=none->dx≠x->sp (.ref x::(vs++dvs)) (upd (upd H dx (.own x)) x (.ins C dx [])) (λv H2=>v=.non/\Q (.ref x) H2) E) :
  wpAny (model X.prog X.w) X.A (call (.ref C) us) (EP X pins σ Q) X.xe s:=by
 have hq:=h (s.heap.objs.size+1) s.heap.objs.size (I.hok.fresh (ak7 _)) (I.hok.fresh (km _)) (aks (Nat.lt_succ_self _));have I2:=Inv.made (C:=C) I;have r2:Vals (V.ref (s.heap.objs.size+1)::(vs++dvs)) (akt (s.heap.objs.size+1)::(us++ds)):=.cons rfl (r.append hd);have hl:(akt (s.heap.objs.size+1)::us++ds).length=ps.length:=by
  have e:=r2.length;rw[F.len _ _ _ _ hq]at e;exact e.symm
 refine wpAny_call (OU (f:=f) I.kIn M.makes M.init (beq_iff_eq.mp M.fn) (codeAny_mono (F.run _ X.stack _ _ ⟨akt (s.heap.objs.size+1)::us,[]⟩ (akt (s.heap.objs.size+1)::(us++ds)) _ _ E (hr.make C us [])
  (I2.Sg.make C us []) (hb _ (akt (s.heap.objs.size+1)::us) I2.kIn hl) r2 hq) λr s' hq'=>?_))
 cases r with
 |error e=>exact hx pins σ _ _ e s' I2 hq'
 |ok fl =>
  cases fl with
  |ret u =>
   obtain⟨v,H',I3,rv,ev,q3⟩:=I2.after hq';subst ev;exact⟨rv,⟨V.ref (s.heap.objs.size+1),H',I3,rfl,q3⟩⟩
  |next=>exact akF hq'
  |brk=>exact akF hq'
  |cont=>exact akF hq'
theorem gK (M:Mk X.K C f)(F:aO X.prog X.w X.K X.mg X.base CX k f fd ps sp)(hr:Room (k+1) X.A)(hg:Gl X x)(hm:X.mg x=some (.ref C))(hb:Binds X.K fd ps ds)(hd:Vals dvs ds)(hx:Passes CX X E)
  (ha:PA X (e::es) t) (hdb:(x == ("__debug__":Str))=false:=by decide) (he:adm (e::es) X.env=(false,eval e X.env)::adm es X.env:=by rfl) (hpl:(backTo pos (adm es X.env)).any (·.1)=false:=by rfl) :
  PE X (.Call (.Name x p) (e::es) [] pos) (aaA C sp dvs E t):=by
 intro pins s σ H Q I h;refine wpAny_Call_Name_kw (j6 I hg hm ?_ hdb);refine alW (h₀:=X.base) I.ok.mod.kin M.kp (thn (ha pos pins s σ H _ I h) λus s1 ⟨vs,H1,I1,r,q⟩=>⟨I1.kIn,?_⟩) he hpl
 exact OW M F hr hb hd hx I1 r q
end
section
variable{X:Cx}{CX:CXT}{k:Nat}{f C:Addr}{fd:ki}{ps ks:List Str}{sp:Sp}{E:XK}{x m:Str}{p pos apos akj:Pos}{e o:Expr}{es:List Expr}{kws:List Keyword}{te ta:TE}{t tk:TA}{nm:Option Str}
structure ah7 (K:ba)(fd:ki)(ps ks:List Str)(g:List Value->List Value->List Value)(gV:List V->List V->List V):Prop where
 to:∀(s:Shared) (us ws:List Value),K.In s.heap->(g us ws).length=ps.length->BindsTo s fd ⟨us,ks.zip ws⟩ (ps.zip (g us ws))
 rel:∀ {vs:List V} {us:List Value} {zs:List V} {ws:List Value},Vals vs us->Vals zs ws->Vals (gV vs zs) (g us ws)
variable{g:List Value->List Value->List Value}{gV:List V->List V->List V}
end
structure aT (N P:List Str)(sc:Scope):Prop where
 kind:sc.kind=.function
 co:sc.isCoroutine=false
 gen:sc.isGenerator=false
 nd:N.Nodup
 pre:N.take P.length=P
 par:∀x∈P,sc.names.lookup x=some .local\/sc.names.lookup x=some .cell
 V5:∀y∈sc.names,y.2≠.free
theorem Dp {kindOf:Str->Option NameKind}{x:Str}:∀ {binds:List (Str×Value)} {m:Str->Option Value},(∀v,(x,v)∉binds)->bindL kindOf binds m x=m x
 |[],_,_=>rfl
 | (n,v)::r,m,h=>by
  unfold bindL;rw[Dp λw hw=>h w (ky _ hw)]
  split
  ·have:x≠n:=by rintro rfl;exact h v fu
   simp[this]
  ·rfl
theorem Dq {kindOf:Str->Option NameKind}{x:Str}:∀ {binds:List (Str×Value)} {m:Str->Option Value},(∀v,(x,v)∉binds)->bindC kindOf binds m x=m x
 |[],_,_=>rfl
 | (n,v)::r,m,h=>by
  unfold bindC;rw[Dq λw hw=>h w (ky _ hw)]
  split
  ·rfl
  ·have:x≠n:=by rintro rfl;exact h v fu
   simp[this]
theorem Dr {kindOf:Str->Option NameKind}{x:Str}{v:Value}:∀ {P:List Str} {vs:List Value} {i:Nat} {m:Str->Option Value},P.Nodup->P[i]?=some x->vs[i]?=some v->kindOf x=some .local ->
  bindL kindOf (P.zip vs) m x=some v
 |[],_,_,_,_,h,_,_=>by simp at h
 |_::_,[],_,_,_,_,h,_=>by simp at h
 |p::P,w::vs,0,m,nd,h1,h2,hk=>by
  simp at h1 h2;subst h1;subst h2;show bindL kindOf ((p,w)::P.zip vs) m p=_;unfold bindL;rw[Dp λv hv=>(List.nodup_cons.mp nd).1 (List.of_mem_zip hv).1,if_pos hk]
  simp
 |p::P,w::vs,i+1,m,nd,h1,h2,hk=>by
  show bindL kindOf ((p,w)::P.zip vs) m x=_;unfold bindL;exact Dr (i:=i) (List.nodup_cons.mp nd).2 (by simpa using h1) (by simpa using h2) hk
theorem Ds {kindOf:Str->Option NameKind}{x:Str}{v:Value}:∀ {P:List Str} {vs:List Value} {i:Nat} {m:Str->Option Value},P.Nodup->P[i]?=some x->vs[i]?=some v->kindOf x≠some .local ->
  bindC kindOf (P.zip vs) m x=some v
 |[],_,_,_,_,h,_,_=>by simp at h
 |_::_,[],_,_,_,_,h,_=>by simp at h
 |p::P,w::vs,0,m,nd,h1,h2,hk=>by
  simp at h1 h2;subst h1;subst h2;show bindC kindOf ((p,w)::P.zip vs) m p=_;unfold bindC;rw[Dq λv hv=>(List.nodup_cons.mp nd).1 (List.of_mem_zip hv).1,if_neg hk]
  simp
 |p::P,w::vs,i+1,m,nd,h1,h2,hk=>by
  show bindC kindOf ((p,w)::P.zip vs) m x=_;unfold bindC;exact Ds (i:=i) (List.nodup_cons.mp nd).2 (by simpa using h1) (by simpa using h2) hk
def start (N:List Str)(vs:List V):St:=vs.map some++alV (N.length - vs.length) none
def vz (CX:CXT)(P:me)(w:World)(K:ba)(mg:Str->Option Value)(base:Heap)(N:List Str)(qual:Str)(scope:Scope)(f:Addr)(cd:Value)(A:Around)(outer:List Env)(s:Shared)(H:Hp)(E:XK):Cx where
 prog:=P
 w:=w
 K:=K
 mg:=mg
 base:=base
 A:=A.deeper (envOfC qual scope s.heap.objs.size f cd)
 N:=N
 s₀:=s
 H₀:=H
 env:=envOfC qual scope s.heap.objs.size f cd
 outer:=outer
 stack:=envOfC qual scope s.heap.objs.size f cd::outer
 ex:=[]
 calm:=true
 fn:=λ_=>true
 pn:=[]
 xe:=λe s'=>wpAny (model P w) (A.deeper (envOfC qual scope s.heap.objs.size f cd)) (leaving (envOfC qual scope s.heap.objs.size f cd) e) (λ_ s''=>CX outer H s E e s'') (λe' s''=>CX outer H s E e' s'') s'
theorem F4 {sc:Scope}{n:Nat}{x:Str}(h:sc.names.lookup x=some .cell):∃c,(cellsFrom n sc.names []).lookup x=some c:=by
 have q:=PySem.W.cellsFrom_some sc.names n [] (.inl h);exact Option.isSome_iff_exists.mp q
theorem Nb {CX:CXT}{P:me}{w:World}{K:ba}{mg:Str->Option Value}{base:Heap}{N ps:List Str}{qual:Str}{scope:Scope}{f:Addr}{cd:Value}{A:Around}{outer:List Env}{s s1:Shared}{H:Hp}{E:XK}{us:List Value}{vs:List V}
  (S:aT N ps scope) (hd:A.handled=none) (e0:CQ P w K mg base A outer s H) (hl:vs.length=ps.length) (r:Vals vs us)
  (x:InCallC s s.heap.objs.size (bindL (envOfC qual scope s.heap.objs.size f cd).kindOf (ps.zip us) λ_=>none) (cellsFrom (s.heap.objs.size+1) scope.names []) (bindC (envOfC qual scope s.heap.objs.size f cd).kindOf (ps.zip us) λ_=>none) s1) :
  Inv (vz CX P w K mg base N qual scope f cd A outer s H E) [] (start N vs) H s1:=by
 have hpl:ps.length<=N.length:=by have:=congrArg List.length S.pre;rw[akX]at this;omega
 obtain⟨h1,tk,rfl,hk⟩:=x.done;have noA:∀b:Addr,b∉(vz CX P w K mg base N qual scope f cd A outer s H E).ex:=λb z=>absurd (show b∈([]:List Addr) from z) (by simp)
 refine⟨⟨e0.mod,S.kind,rfl,rfl,km _,λy z c h1 h2=>?_,λy hy=>?_,λy c _ h=>?_,λ_=>hd,Around.frames_deeper e0.frames,.inr ⟨rfl,rfl⟩,λb z=>absurd z (noA b),e0.bs,e0.bsz,λb _ _=>noA b,λb z=>absurd z (noA b),e0.uw,e0.frf⟩,
  rfl,e0.bare,Un.kept hk,⟨_,x.toInCall.ns,λi y v h1 h2 h3=>?_⟩,λy c h=>⟨_,x.cell y c h⟩,e0.hok.fresh (km _),λy c h=>?_,λp hp=>absurd (show p∈([]:List (Addr×Obj)) from hp) (by simp),e0.hok.kept hk,?_⟩
 ·exact name_of_addr x.apart (alv h1) (alv h2)
 ·have hy:scope.names.lookup y=some .cell\/scope.names.lookup y=some .free:=hy;rcases hy with hy | hy
  ·exact F4 hy
  ·exact absurd rfl (S.V5 _ (alv hy))
 ·exact Nat.le_of_lt (x.above y c (alv h))
 ·have hi:i < vs.length:=by
   unfold start at h2
   by_cases hi:i < vs.length
   ·exact hi
   ·rw[ak8 (by simpa using hi)]at h2
    rw[List.getElem?_replicate]at h2;split at h2 <;> cases h2
  have ha:vs[i]?=some v:=by
   unfold start at h2;rw[List.getElem?_append_left (by simpa using hi),akK]at h2
   cases e:vs[i]? with
   |none=>rw[e]at h2;cases h2
   |some a=>rw[e]at h2;cases h2;rfl
  obtain⟨u,hu,rv⟩:=r.get ha;have hp:ps[i]?=some y:=by
   rw[<-S.pre,List.getElem?_take_of_lt (by omega)];exact h1
  have ndP:ps.Nodup:=by rw[<-S.pre];exact S.nd.sublist (List.take_sublist _ _)
  refine⟨u,rv,?_⟩;rcases S.par y (akM hp) with k | k
  ·exact .inl ⟨k,Dr ndP hp hu k⟩
  ·obtain⟨c,e⟩:=F4 (n:=s.heap.objs.size+1) k;refine .inr ⟨.inl k,c,e,?_⟩;have q:=x.cell y c e;rw[Ds ndP hp hu (by show scope.names.lookup y≠_;rw[k];decide)]at q
   exact q
 ·exact e0.hok.fresh (Nat.le_of_lt (x.above y c (alv h)))
 ·unfold start;show _=N.length;rw[gn,bo,aly];omega
theorem Uq {CX:CXT}{P:me}{w:World}{K:ba}{mg:Str->Option Value}{base:Heap}{k:Nat}{f:Addr}{name qual:Str}{params:Arguments}{body:List Stmt}{scope:Scope}{dV kV doc pm cdv ct oc:Value}{an od:Option Addr}
  {osl:Array (Option Value)} {N ps:List Str} {sp:Sp} (lk:K.lookup f=some ⟨oc,od,.func (fe name qual params body scope dV kV doc pm an cdv ct),osl⟩) (hcd:de K cdv qual=true) (S:aT N ps scope)
  (len:∀vs H Q E,sp vs H Q E->vs.length=ps.length)
  (F5:∀(A:Around) (outer:List Env) (s:Shared) (H:Hp) (vs:List V) (Q:VK) (E:XK),Room k (A.deeper (envOfC qual scope s.heap.objs.size f cdv))->sp vs H Q E ->
   ∃t,PSs (vz CX P w K mg base N qual scope f cdv A outer s H E) body t/\t { nx:=λ_ H'=>Q .non H',rt:=Q } (start N vs) H) :
  aO P w K mg base CX (k+1) f (fe name qual params body scope dV kV doc pm an cdv ct) ps sp:=by
 refine⟨len,λA outer s H args us vs Q E hr e0 hb r hsp=>?_⟩
 have hl:=len _ _ _ _ hsp;have KX:K.In s.heap:=e0.mod.kin.keeps λb o e=>(e0.bs b o e).1
 have lim:s.heap.NoLimit:=e0.mod.nolimit.keeps λb o e=>(e0.bs b o e).1
 have aaB:∀y∈ps.zip us,scope.names.lookup y.1=some .local\/(scope.names.lookup y.1=some .cell/\((cellsFrom (s.heap.objs.size+1) scope.names []).lookup y.1).isSome=true):=λ⟨n,v⟩ hy=>by
  rcases S.par n (List.of_mem_zip hy).1 with q | q
  ·exact .inl q
  ·exact .inr ⟨q,PySem.W.cellsFrom_some _ _ _ (.inl q)⟩
 refine codeAny_call_function hr.depth (KX _ _ lk) rfl S.co S.gen rfl (PySem.W.codeRec_of KX hcd) (hb _ _ _ _ ?_);refine wpAny_newFunctionEnv_cells S.kind aaB λenv he s1 x=>?_
 subst he;refine⟨lim.keeps x.toInCall.keep,codeAny_func ?_⟩;obtain⟨t,ht,hq⟩:=F5 A outer s H vs Q E (hr.deeper _) hsp;have I:Inv (vz CX P w K mg base N qual scope f cdv A outer s H E) [] (start N vs) H s1:=Nb S hr.hd e0 hl r x;refine ako (ht [] s1 (start N vs) H _ I hq) (λfl s' hs=>?_) λe s' hs=>hs
 have fin:∀ {σ':St} {H':Hp} {v:V} {u:Value},Inv (vz CX P w K mg base N qual scope f cdv A outer s H E) [] σ' H' s'->RelV v u->Q v H'->CE outer P w H s Q u s' :=
  λ{σ' H' v u} J rv q=>⟨v,H',J.os,J.bare,J.base,J.hok,rv,q⟩
 cases fl with
 |ret u =>
  obtain⟨v,σ',H',J,rv,q⟩:=hs;exact fin J rv q
 |next =>
  obtain⟨σ',H',J,q⟩:=hs;exact fin (v:=V.non) (u:=alM) J rfl q
 |brk =>
  obtain⟨_,_,_,q⟩:=hs;exact akF q
 |cont =>
  obtain⟨_,_,_,q⟩:=hs;exact akF q
end L2
namespace L2
open PySem PySem.Spec PyProof.Rows
section
variable{X:Cx}{x:Str}{p pos:Pos}{e:Expr}{es:List Expr}{t:TA}{id T:String}{r:List V->Hp->VK->Prop}
def tCB (r:List V->Hp->VK->Prop)(t:TA):TE:=λσ H Q=>t σ H λvs H1=>r vs H1 Q
theorem bN (hc:lC X (.builtin id) r)(hg:Gl X x)(hm:X.mg x=none)(hv:ali x=some (.builtin id))(ha:PA X (e::es) t)(hn:x≠"__name__":=by decide)(hdb:(x == ("__debug__":Str))=false:=by decide)
  (he:adm (e::es) X.env=(false,eval e X.env)::adm es X.env:=by rfl) (hpl:(backTo pos (adm es X.env)).any (·.1)=false:=by rfl):PE X (.Call (.Name x p) (e::es) [] pos) (tCB r t):=by
 intro pins s σ H Q I h;refine wpAny_Call_Name_kw (AL I hg hm hv ?_ hn hdb);exact PyProof.Rows.callWith_builtin1 (thn (ha pos pins s σ H _ I h) λus s1 ⟨vs,H1,I1,r1,q1⟩=>hc pins s1 σ H1 vs us Q I1 r1 q1) he hpl
theorem dO (hc:lC X (.type T) r)(hg:Gl X x)(hm:X.mg x=none)(hv:ali x=some (.type T))(ha:PA X (e::es) t)(hn:x≠"__name__":=by decide)(hdb:(x == ("__debug__":Str))=false:=by decide)
  (he:adm (e::es) X.env=(false,eval e X.env)::adm es X.env:=by rfl) (hpl:(backTo pos (adm es X.env)).any (·.1)=false:=by rfl):PE X (.Call (.Name x p) (e::es) [] pos) (tCB r t):=by
 intro pins s σ H Q I h;refine wpAny_Call_Name_kw (AL I hg hm hv ?_ hn hdb);exact alH (thn (ha pos pins s σ H _ I h) λus s1 ⟨vs,H1,I1,r1,q1⟩=>hc pins s1 σ H1 vs us Q I1 r1 q1) he hpl
end
end L2
namespace HT
open PySem PyProof.Rows
section
open PySem.SeqAt
open PySem.AutoSeq1 (wpAny_loadPart')
open PySem.MeetsSeq PySem.MeetsSeq2 PySem.MeetsSeq3
end
section
variable{prog:me}{w:World}{A:Around}{E:Value->Shared->Prop}{s:Shared}
theorem Si {t b:Addr}{vs ws:List Value}{Q:Value->Shared->Prop}(ht:IsTup s.heap t vs.toArray)(hb:IsTup s.heap b ws.toArray)(hv:vs≠[])
  (h1:ws=[]->Q (.ref t) s) (h2:ws≠[]->Q (.ref s.heap.objs.size) { s with heap:=s.heap.push { cls:=.type "tuple",data:=.seq (vs++ws).toArray } })
  (hsz:vs.length+ws.length<=kf):wpAny (model prog w) A (binaryOp .Add (.ref t) (.ref b)) Q E s:=by
 obtain⟨⟨cls,dd,data,sl⟩,ho,hc,n,hd⟩:=id ht;obtain⟨⟨akk,dd2,data2,sl2⟩,ho2,hc2,n2,hd2⟩:=id hb;simp only at hc hd hc2 hd2;subst hc hd hc2 hd2;have e:vs.toArray++ws.toArray=(vs++ws).toArray:=by simp
 by_cases hw:ws=[]
 ·exact concat_meets ⟨_,ho,rfl⟩ ⟨_,ho2,rfl⟩ noFill_tuple_add seq_tuple_add PySem.F.slot_tuple_add PySem.F.entry_tuple_add (PySem.F.args_tuple_add_2 _ _)
   (tuple_addW1 t b vs.toArray ws.toArray n n2 dd dd2 sl sl2 (by simpa using hv) (by simp[hw])) ⟨ho,ho2,h1 hw⟩
 ·refine concat_meets ⟨_,ho,rfl⟩ ⟨_,ho2,rfl⟩ noFill_tuple_add seq_tuple_add PySem.F.slot_tuple_add PySem.F.entry_tuple_add (PySem.F.args_tuple_add_2 _ _)
   (tuple_addW2 t b vs.toArray ws.toArray n n2 dd dd2 sl sl2 (by simpa using hv) (by simpa using hw) (by rw[kr,kr];exact hsz)) ⟨ho,ho2,?_⟩
  rw[e];exact h2 hw
def sIx (n d:Nat):Option Int->Nat
 |none=>d
 |some v=>if v < 0 then (v+(n:Int)).toNat else min v.toNat n
theorem F6 (n d:Nat):sIx n d none=d:=rfl
theorem tO (n d k:Nat):sIx n d (some (k:Int))=min k n:=by
 show (if (k:Int) < 0 then ((k:Int)+(n:Int)).toNat else min (k:Int).toNat n)=min k n
 rw[if_neg (by omega),Int.toNat_natCast]
theorem V6 (n d:Nat)(hd:d<=n)(o:Option Int):sIx n d o<=n:=by
 cases o with
 |none=>exact hd
 |some v =>
  show (if v < 0 then (v+(n:Int)).toNat else min v.toNat n)<=n
  by_cases hv:v < 0
  ·rw[if_pos hv];omega
  ·rw[if_neg hv];exact Nat.min_le_right _ _
theorem Md (v:Int)(n d:Nat):(if v < 0 then max (v+(n:Int)) 0 else min v (n:Int))=((sIx n d (some v):Nat):Int):=by
 show (if v < 0 then max (v+(n:Int)) 0 else min v (n:Int))=(((if v < 0 then (v+(n:Int)).toNat else min v.toNat n):Nat):Int)
 by_cases hv:v < 0
 ·simp only[if_pos hv];omega
 ·simp only[if_neg hv];omega
theorem JY (lo hi:Option Int)(n:Nat):Builtin.Slice.sliceAdjust lo hi 1 (n:Int)=(((sIx n 0 lo:Nat):Int),((sIx n n hi:Nat):Int)):=by
 have h1:¬((1:Int) < 0):=by omega
 unfold Builtin.Slice.sliceAdjust;simp only[h1,if_false];refine Prod.ext ?_ ?_
 ·cases lo with
  |none=>rfl
  |some v=>exact Md v n 0
 ·cases hi with
  |none=>rfl
  |some v=>exact Md v n n
theorem JZ (i j:Nat):alR (i:Int) (j:Int) 1=j - i:=by
 unfold alR;have h1:(1:Int) > 0:=by omega
 simp only[h1,if_true,Int.ediv_one];split <;> omega
theorem AY {v:Value}{o:Option Int}{Q:Option Int->Shared->Prop}(p:IsPart v o)(h:Q o s):wpAny (model prog w) A (Builtin.Slice.slicePartIndex v) Q E s:=by
 cases p with
 |none=>exact slicePart_none h
 |int i t=>exact slicePart_int h
theorem xt {sl:Addr}{vl vu:Value}{lo hi:Option Int}{n:Nat}{Q:Int×Int×Nat->Shared->Prop}(hs:s.heap.IsSliceOf sl vl vu .none)(pl:IsPart vl lo)(pu:IsPart vu hi)
  (h:Q (((sIx n 0 lo:Nat):Int),1,sIx n n hi - sIx n 0 lo) s):wpAny (model prog w) A (Builtin.Slice.sliceApplied (.ref sl) (pure (n:Int))) Q E s:=by
 obtain⟨os,hos,hcs,hds⟩:=id hs;unfold Builtin.Slice.sliceApplied Builtin.Slice.sliceFields;refine eg (eg (wpAny_field hos hds (x:=vl) rfl (eg (wpAny_field hos hds (x:=vu) rfl (eg (wpAny_field hos hds (x:=.none) rfl (si ?_)))))));refine eg (slicePart_none ?_);show wpAny _ _ (if ((1:Int) == 0)=true then _ else _) _ _ s
 rw[if_neg (by decide)]
 refine eg (AY pl (eg (AY pu (eg (si ?_)))));show wpAny _ _ (match Builtin.Slice.sliceAdjust lo hi 1 (n:Int) with | (lo,hi)=>pure (lo,(1:Int),alR lo hi 1)) _ _ s
 rw[JY lo hi n];show wpAny _ _ (pure (((sIx n 0 lo:Nat):Int),(1:Int),alR ((sIx n 0 lo:Nat):Int) ((sIx n n hi:Nat):Int) 1)) _ _ s;rw[JZ];exact si h
theorem OX (xs:Array Value)(i k:Nat):((alD k).filterMap λ(m:Nat)=>xs[((i:Int)+(m:Int) * 1).toNat]?).toArray=((xs.toList.drop i).take k).toArray:=by
 have e:(λ(m:Nat)=>xs[((i:Int)+(m:Int) * 1).toNat]?)=λm=>xs[i+m]?:=by
  funext m
  have:((i:Int)+(m:Int) * 1).toNat=i+m:=by omega
  rw[this]
 rw[e];have:=pick_run xs i k;rw[List.filterMap_map]at this;have e2:((λx=>xs[x]?)∘λx=>i+x)=λm=>xs[i+m]?:=rfl
 rw[e2]at this;rw[this]
theorem vA {t sl:Addr}{items:Array Value}{vl vu:Value}{lo hi:Option Int}{Q:Value->Shared->Prop}(ht:IsTup s.heap t items)(hs:s.heap.IsSliceOf sl vl vu .none)(pl:IsPart vl lo)(pu:IsPart vu hi)
  (hw:¬(sIx items.size 0 lo=0/\sIx items.size items.size hi=items.size))
  (h:Q (.ref s.heap.objs.size) { s with heap:=s.heap.push { cls:=.type "tuple",data:=.seq ((items.toList.drop (sIx items.size 0 lo)).take (sIx items.size items.size hi - sIx items.size 0 lo)).toArray } })
  (hsz:items.size<=kf):wpAny (model prog w) A (getItem (.ref t) (.ref sl)) Q E s:=by
 have Me:sizeOk (.seq ((items.toList.drop (sIx items.size 0 lo)).take (sIx items.size items.size hi - sIx items.size 0 lo)).toArray):=by
  show ((items.toList.drop (sIx items.size 0 lo)).take (sIx items.size items.size hi - sIx items.size 0 lo)).toArray.size<=kf;rw[kr,akX,alL,alu];omega
 have hj:sIx items.size items.size hi<=items.size:=V6 _ _ (km _) hi;obtain⟨os,hos,hcs,hds⟩:=id hs;have hTs:s.TypeIs (.ref sl) "slice":=⟨os,hos,hcs⟩;unfold getItem
 try with_reducible refine wpAny_holding ?_
 first | refine eg (si ?_) | skip
 refine eg (wpAny_sequenceKey ht.typeIs (by decide) ?_)
 refine eg (wpAny_callSpecial?_slot (name:=ar "__getitem__") ht.typeIs PyProof.Rows.slot_tuple_getitem
  (wpAny_call_entry PyProof.Rows.slot_tuple_getitem ht.typeIs entry_tuple_getitem ?_ (args_tuple_getitem _ _)))
 show wpAny _ _ (Builtin.Tuple.tupleItemsOf (.ref t) >>= _) _ _ s;refine eg (tupleItemsOf_ ht ?_);refine eg (wpAny_typeOf hTs ?_);rw[if_pos (by decide)]
 refine eg (xt hs pl pu ?_);have hno:¬((((sIx items.size 0 lo:Nat):Int) == 0 && (1:Int) == 1 && (sIx items.size items.size hi - sIx items.size 0 lo) == items.size)=true):=by
  intro q;rw[alp,alp]at q;have q1:((sIx items.size 0 lo:Nat):Int)=0:=eq_of_beq q.1.1;have q2:sIx items.size items.size hi - sIx items.size 0 lo=items.size:=eq_of_beq q.2;exact hw ⟨by omega,by omega⟩
 show wpAny _ _ (if (((sIx items.size 0 lo:Nat):Int) == 0 && (1:Int) == 1 && (sIx items.size items.size hi - sIx items.size 0 lo) == items.size)=true then _ else _) _ _ s
 rw[if_neg hno,OX]
 first
  |exact eg (m:=alT _) (wpAny_newObj_type (si ⟨_,rfl,si h⟩) Me)
  |exact eg (m:=alT _) (wpAny_newObj_type (eg (si (si ⟨_,rfl,si h⟩))) Me)
  |exact eg (eg (m:=alT _) (wpAny_newObj_type (si (si ⟨_,rfl,si h⟩)) Me))
  |exact eg (eg (m:=alT _) (wpAny_newObj_type (si ⟨_,rfl,si h⟩) Me))
end
end HT
namespace L2
open PySem PySem.Spec PyProof.Rows
abbrev TO:=St->Hp->(Option Int->Hp->Prop)->Prop
def PO (X:Cx)(e:Option Expr)(t:TO):Prop :=
 ∀(pins:List (Addr×Obj)) (s:Shared) (σ:St) (H:Hp) (Q:Option Int->Hp->Prop),Inv X pins σ H s->t σ H Q ->
  wpAny (model X.prog X.w) X.A (evalPart e X.env) (λu s'=>∃o H',Inv X pins σ H' s'/\IsPart u o/\Q o H') X.xe s
def Sj:TO:=λ_ H Q=>Q none H
def aaC (t:TE):TO:=λσ H Q=>t σ H λx H1=>∃i,x=.int i/\Q (some i) H1
section
variable{X:Cx}{e:Expr}{te:TE}{lo hi:Option Expr}{tl th:TO}{pos p2:Pos}
theorem tP:PO X none Sj:=by
 intro pins s σ H Q I h;rw[evalPart_none];exact si ⟨none,H,I,.none,h⟩
theorem nA (h:PE X e te):PO X (some e) (aaC te):=by
 intro pins s σ H Q I hw;rw[evalPart_some];refine thn (h pins s σ H _ I hw) λu s1 ⟨x,H1,I1,r1,q1⟩=>?_
 obtain⟨i,rfl,q⟩:=q1;obtain⟨t,rfl⟩:=r1;exact⟨some i,H1,I1,.int i t,q⟩
def SlR (X:Cx)(r:V->Option Int->Option Int->Hp->VK->Prop):Prop :=
 ∀(pins:List (Addr×Obj)) (s:Shared) (σ:St) (H:Hp) (x:V) (v vl vu:Value) (lo hi:Option Int) (sl:Addr) (Q:VK),Inv X pins σ H s->RelV x v->s.heap.IsSliceOf sl vl vu .none->IsPart vl lo->IsPart vu hi->r x lo hi H Q ->
  ∃T id,typeLookup (.type T) "__getitem__"=pure (some (.builtin id))/\s.TypeIs v T/\wpAny (model X.prog X.w) X.A (getItem v (.ref sl)) (EP X pins σ Q) X.xe s
theorem SlR.or {r r':V->Option Int->Option Int->Hp->VK->Prop}(h:SlR X r)(h':SlR X r'):SlR X (λx lo hi H Q=>r x lo hi H Q\/r' x lo hi H Q):=by
 intro pins s σ H x v vl vu lo hi sl Q I rx hs pl pu q;rcases q with q | q
 ·exact h pins s σ H x v vl vu lo hi sl Q I rx hs pl pu q
 ·exact h' pins s σ H x v vl vu lo hi sl Q I rx hs pl pu q
def tSl (r:V->Option Int->Option Int->Hp->VK->Prop)(te:TE)(tl th:TO):TE:=λσ H Q=>te σ H λx H1=>tl σ H1 λl H2=>th σ H2 λu H3=>r x l u H3 Q
theorem mq {r:V->Option Int->Option Int->Hp->VK->Prop}(hr:SlR X r)(he:PE X e te)(hl:PO X lo tl)(hu:PO X hi th):PE X (.Subscript e (.Slice lo hi none p2) pos) (tSl r te tl th):=by
 intro pins s σ H Q I h;refine Subscript_ (thn (he pins s σ H _ I h) λv s1 ⟨x,H1,I1,r1,q1⟩=>?_)
 refine wpAny_Slice (thn (hl pins s1 σ H1 _ I1 q1) λvl s2 ⟨l,H2,I2,pl,q2⟩=>thn (hu pins s2 σ H2 _ I2 q2) λvu s3 ⟨u,H3,I3,pu,q3⟩=>?_)
 rw[evalPart_none];refine si ?_;have I4:Inv X pins σ H3 { s3 with heap:=s3.heap.push { cls:=.type "slice",data:=.fields #[vl,vu,.none] } }:=I3.kept (t':=s3.toks) λb ob q=>gr _ q
 obtain⟨T,id,hT,ht,hg⟩:=hr pins { s3 with heap:=s3.heap.push { cls:=.type "slice",data:=.fields #[vl,vu,.none] } } σ H3 x v vl vu l u s3.heap.objs.size Q I4 r1 (Heap.IsSliceOf.new ..) pl pu q3
 show wpAny (model X.prog X.w) X.A (subscriptTail e (.Slice lo hi none p2) v (.ref s3.heap.objs.size)) (EP X pins σ Q) X.xe { s3 with heap:=s3.heap.push { cls:=.type "slice",data:=.fields #[vl,vu,.none] } }
 exact tail_any (ops:=[.ref s3.heap.objs.size,v]) ht hT hg (by with_unfolding_all rfl)
def fB (xs:List V)(lo hi:Option Int):List V:=(xs.drop (HT.sIx xs.length 0 lo)).take (HT.sIx xs.length xs.length hi - HT.sIx xs.length 0 lo)
theorem iI (xs:List V)(lo hi:Option Int):(fB xs lo hi).length<=xs.length:=by
 unfold fB;rw[akX,alL];omega
def ah8 (K:ba):V->Option Int->Option Int->Hp->VK->Prop:=λx lo hi H Q=>∃a xs,x=.ref a/\SqT K H a xs /\
 ¬(HT.sIx xs.length 0 lo=0/\HT.sIx xs.length xs.length hi=xs.length)/\∀p,H p=none->Q (.ref p) (upd H p (.tup (fB xs lo hi)))
theorem V7:SlR X (ah8 X.K):=by
 intro pins s σ H x v vl vu lo hi sl Q I rx hs pl pu h;obtain⟨a,xs,rfl,hx,hw,q⟩:=h;cases rx;obtain⟨its,r,ht,hz⟩:=I.tuple hx;have hlen:its.toArray.size=xs.length:=by rw[kr];exact r.length.symm
 refine⟨"tuple",_,PyProof.Rows.slot_tuple_getitem.lookup,ht.typeIs,?_⟩;refine HT.vA ht hs pl pu (by rw[hlen];exact hw) ?_ (by rw[hlen];exact hz)
 rw[hlen];refine⟨.ref s.heap.objs.size,_,I.laid (t':=s.toks) (o:=.tup (fB xs lo hi)) (λb ob q=>gr _ q) (km _) ?_,rfl,q _ (I.hok.fresh (km _))⟩
 exact⟨tm (iI xs lo hi) hz,_,(r.drop (HT.sIx xs.length 0 lo)).take (HT.sIx xs.length xs.length hi - HT.sIx xs.length 0 lo),IsTup.new _ _⟩
def aaD (K:ba):R2:=λx y H Q=>∃a b xs ys,x=.ref a/\y=.ref b/\SqT K H a xs/\SqT K H b ys/\xs≠[]/\xs.length+ys.length<=kf /\
 (ys=[]->Q (.ref a) H)/\(ys≠[]->∀p,H p=none->Q (.ref p) (upd H p (.tup (xs++ys))))
theorem Vals.EA {xs:List V}{us:List Value}(r:Vals xs us):us=[]↔xs=[]:=by
 cases r with
 |nil=>simp
 |cons _ _=>simp
theorem Sk:OpR X (binaryOp .Add) (aaD X.K):=by
 intro pins s σ H x y v u Q I rx ry h;obtain⟨a,b,xs,ys,rfl,rfl,ha,hb,hx,hz,q1,q2⟩:=h;cases rx;cases ry;obtain⟨its,r1,p1,_⟩:=I.tuple ha;obtain⟨F7,r2,p2,_⟩:=I.tuple hb;refine HT.Si p1 p2 (λz=>hx (r1.EA.mp z)) (λz=>⟨.ref a,H,I,rfl,q1 (r2.EA.mp z)⟩) (λz=>?_) (by rw[<-r1.length,<-r2.length];exact hz)
 refine⟨.ref s.heap.objs.size,_,I.laid (t':=s.toks) (o:=.tup (xs++ys)) (λb ob q=>gr _ q) (km _) ?_,rfl,q2 (λw=>z (r2.EA.mpr w)) _ (I.hok.fresh (km _))⟩
 exact⟨by rw[gn];exact hz,_,r1.append r2,IsTup.new _ _⟩
end
end L2
namespace L2
open PySem PySem.Spec PyProof.Rows
def ixN (n:Nat)(i:Int):Option Nat:=if 0<=i then (if i < n then some i.toNat else none) else if -(n:Int)<=i then some (i+n).toNat else none
def atI {α:Type}(xs:List α)(i:Int):Option α:=(ixN xs.length i).bind λj=>xs[j]?
theorem EB {n:Nat}{i:Int}{j:Nat}(h:ixN n i=some j):seqIndex? i n=some j/\j < n/\-(n:Int)<=i/\i < n:=by
 unfold ixN at h
 by_cases h0:0<=i
 ·rw[if_pos h0]at h
  by_cases h1:i < n
  ·rw[if_pos h1]at h;have e:i.toNat=j:=akx h;exact⟨by rw[seqIndex_of h0 h1,e],by omega,by omega,h1⟩
  ·rw[if_neg h1]at h;cases h
 ·rw[if_neg h0]at h
  by_cases h1:-(n:Int)<=i
  ·rw[if_pos h1]at h;have e:(i+n).toNat=j:=akx h;exact⟨by rw[seqIndex_neg (by omega) h1,e],by omega,h1,by omega⟩
  ·rw[if_neg h1]at h;cases h
theorem EC {α:Type}{xs:List α}{i:Int}{v:α}(h:atI xs i=some v):∃j,seqIndex? i xs.length=some j/\xs[j]?=some v/\j < xs.length/\-(xs.length:Int)<=i/\i < xs.length:=by
 unfold atI at h;cases e:ixN xs.length i with
 |none=>rw[e]at h;cases h
 |some j =>
  rw[e]at h;obtain⟨h1,h2,h3,h4⟩:=EB e;exact⟨j,h1,h,h2,h3,h4⟩
theorem dD {α:Type}{xs:List α}{j:Nat}{v:α}(h:xs[j]?=some v):atI xs (j:Int)=some v:=by
 have hj:j < xs.length:=(List.getElem?_eq_some_iff.mp h).1;have e:ixN xs.length (j:Int)=some j:=by
  unfold ixN;rw[if_pos (by omega),if_pos (by omega)];simp
 unfold atI;rw[e];exact h
theorem gq {α:Type}(xs:List α)(v:α):atI (xs++[v]) (-1)=some v:=by
 have hl:(xs++[v]).length=xs.length+1:=by simp
 have e:ixN (xs++[v]).length (-1)=some xs.length:=by
  unfold ixN;rw[hl,if_neg (by decide),if_pos (by omega)]
  congr 1
  omega
 unfold atI;rw[e];show (xs++[v])[xs.length]?=some v;simp
def Sl (b:Expr):Prop:=∀o i,subscripted b false o i=operate [o,i] (getItem o i)
def IxR (X:Cx)(r:R2):Prop :=
 ∀(value slice:Expr) (pins:List (Addr×Obj)) (s:Shared) (σ:St) (H:Hp) (x y:V) (v u:Value) (Q:VK),Inv X pins σ H s->RelV x v->RelV y u->r x y H Q ->
  subscripted slice false v u=operate [v,u] (getItem v u)->wpAny (model X.prog X.w) X.A (subscriptTail value slice v u) (EP X pins σ Q) X.xe s
def MtR (X:Cx)(id:String)(r:V->List V->Hp->VK->Prop):Prop :=
 ∀(pins:List (Addr×Obj)) (s:Shared) (σ:St) (H:Hp) (x:V) (xs:List V) (v:Value) (us:List Value) (Q:VK),Inv X pins σ H s->RelV x v->Vals xs us->r x xs H Q ->
  wpAny (model X.prog X.w) X.A (call (.builtin id) (v::us)) (EP X pins σ Q) X.xe s
section
variable{X:Cx}{a b:Expr}{ta tb:TE}{pos:Pos}
theorem IxR.or {r r':R2}(h:IxR X r)(h':IxR X r'):IxR X (λx y H Q=>r x y H Q\/r' x y H Q):=by
 intro value slice pins s σ H x y v u Q I rx ry q hs;rcases q with q | q
 ·exact h value slice pins s σ H x y v u Q I rx ry q hs
 ·exact h' value slice pins s σ H x y v u Q I rx ry q hs
theorem MtR.or {id:String}{r r':V->List V->Hp->VK->Prop}(h:MtR X id r)(h':MtR X id r'):MtR X id (λx xs H Q=>r x xs H Q\/r' x xs H Q):=by
 intro pins s σ H x xs v us Q I rx rs q;rcases q with q | q
 ·exact h pins s σ H x xs v us Q I rx rs q
 ·exact h' pins s σ H x xs v us Q I rx rs q
theorem aK {r:R2}(hr:IxR X r)(ha:PE X a ta)(hb:PE X b tb)(hs:Sl b):PE X (.Subscript a b pos) (tOp r ta tb):=by
 intro pins s σ H Q I h;exact Subscript_ (VZ ha hb I h λv u s2 x y H2 I2 rx ry q=>hr a b pins s2 σ H2 x y v u Q I2 rx ry q (hs _ _))
def aaE (K:ba):R2:=λx y H Q=>∃p xs i v,x=.ref p/\y=.int i/\SqL K H p xs/\atI xs i=some v/\Q v H
def aaF (K:ba):R2:=λx y H Q=>∃p xs i v,x=.ref p/\y=.int i/\SqT K H p xs/\atI xs i=some v/\Q v H
def aaG:R2:=λx y H Q=>∃z i c,x=.str z/\y=.int i/\z.length<=kf/\atI z.cps.toList i=some c/\Q (.str ⟨#[c]⟩) H
theorem bw:IxR X (aaE X.K):=by
 intro value slice pins s σ H x y v u Q I rx ry h hs;obtain⟨p,xs,i,z,rfl,rfl,hq,he,q⟩:=h;cases rx;obtain⟨t,rfl⟩:=ry;obtain⟨its,r,pl,hz⟩:=I.list hq;obtain⟨j,h1,h2,h3,h4,h5⟩:=EC he;obtain⟨w,ew,rw'⟩:=r.get h2;have hl:=r.length;have hn:=uH;have fin:EP X pins σ Q w s:=⟨z,H,I,rw',q⟩
 by_cases h0:0<=i
 ·have hj:i.toNat=j:=by
   rw[seqIndex_of h0 h5]at h1;exact akx h1
  exact item_listR pl.isList h0 (by omega) (by rw[hj];simpa using ew) fin hs
 ·have hj:(i+(its.toArray.size:Int)).toNat=j:=by
   rw[seqIndex_neg (by omega) h4]at h1
   rw[kr,<-hl];exact akx h1
  exact subscriptTail_builtinR (x:=w) pl.isList.typeIs slot_list_getitem.lookup
   (wpAny_getItem_list_neg (Q:=λr s'=>r=w/\EP X pins σ Q r s') pl.isList (by omega) (by rw[kr] <;> omega) (by omega) (by rw[hj];simpa using ew) ⟨rfl,fin⟩) hs
theorem aN:IxR X (aaF X.K):=by
 intro value slice pins s σ H x y v u Q I rx ry h hs;obtain⟨p,xs,i,z,rfl,rfl,hq,he,q⟩:=h;cases rx;obtain⟨t,rfl⟩:=ry;obtain⟨its,r,pl,hz⟩:=I.tuple hq;obtain⟨j,h1,h2,h3,h4,h5⟩:=EC he;obtain⟨w,ew,rw'⟩:=r.get h2;have hl:=r.length;have hn:=uH;have fin:EP X pins σ Q w s:=⟨z,H,I,rw',q⟩;exact subscriptTail_builtinR (x:=w) pl.typeIs slot_tuple_getitem.lookup
  (getItem_tuple (j:=j) (Q:=λr s'=>r=w/\EP X pins σ Q r s') pl (by omega) (by omega) (by rw[kr,<-hl];exact h1) (by simpa using ew) ⟨rfl,fin⟩) hs
theorem J0:IxR X aaG:=by
 intro value slice pins s σ H x y v u Q I rx ry h hs;obtain⟨z,i,c,rfl,rfl,hz,he,q⟩:=h;obtain⟨t,rfl⟩:=rx;obtain⟨t',rfl⟩:=ry;obtain⟨j,h1,h2,h3,h4,h5⟩:=EC he;have hl:z.cps.toList.length=z.length:=by simp[Str.length]
 rw[hl]at h1 h4 h5;have hn:=uH;exact tail_any (typeIs_str s z t) slot_str_getitem.lookup (getItem_str (c:=c) (by
  have e1:decide (i < -(2 ^ 63:Int))=false:=decide_eq_false (by omega)
  have e2:decide (i≥2 ^ 63)=false:=decide_eq_false (by omega)
  rw[e1,e2,Bool.or_false]) (by rw[h1];simpa using h2) ⟨.str ⟨#[c]⟩,H,I.tok _,⟨_,rfl⟩,q⟩) hs
def rIx (K:ba):R2:=λx y H Q=>aaE K x y H Q\/aaF K x y H Q\/aaG x y H Q
theorem V8:IxR X (rIx X.K):=bw.or (aN.or J0)
theorem J1 (its:List Value)(n j:Nat)(u:Value):Obj.mapSeq (·.setIfInBounds j u) { cls:=.type "list",data:=.seq its.toArray n }={ cls:=.type "list",data:=.seq (its.set j u).toArray n }:=by
 simp[Obj.mapSeq]
theorem Inv.lst {pins:List (Addr×Obj)}{σ:St}{H:Hp}{s:Shared}{p:Addr}{xs:List V}(I:Inv X pins σ H s)(h:H p=some (.lst xs)) :
  ∃(its:List Value) (n:Nat),Vals xs its/\s.heap.get? p=some { cls:=.type "list",data:=.seq its.toArray n }/\xs.length<=kf:=by
 obtain⟨z,its,n,r,e⟩:=I.hok p _ h;exact⟨its,n,r,e,z⟩
theorem Inv.V9 {pins:List (Addr×Obj)}{σ:St}{H:Hp}{s:Shared}{p:Addr}{xs ys:List V}{its its':List Value}{n n':Nat}{f:Obj->Obj}(I:Inv X pins σ H s)(h:H p=some (.lst xs))
  (ho:s.heap.get? p=some { cls:=.type "list",data:=.seq its.toArray n }) (hf:f { cls:=.type "list",data:=.seq its.toArray n }={ cls:=.type "list",data:=.seq its'.toArray n' }) (r:Vals ys its') (hz:ys.length<=kf) (t:Nat) :
  Inv X pins σ (upd H p (.lst ys)) { s with heap:=s.heap.update p f,toks:=t }:=by
 have e:(s.heap.update p f).get? p=some { cls:=.type "list",data:=.seq its'.toArray n' }:=by
  rw[alz f ho (by rw[hf] <;> rfl),hf]
 refine I.write (x:=p) (e:=p) (by rw[h];trivial) (.inl rfl) (λb u hb q=>(ak3 _ _ (akI hb)).trans q) ⟨_,e⟩ ?_
 exact⟨hz,its',n',r,e⟩
def aaH:V->V->V->Hp->(Hp->Prop)->Prop:=λo i v H Q=>∃p xs k j,o=.ref p/\i=.int k/\H p=some (.lst xs)/\ixN xs.length k=some j/\Q (upd H p (.lst (xs.set j v)))
theorem set_list:aap X aaH:=by
 intro pins s σ H o i v ov iv u Q I ro ri rv h;obtain⟨p,xs,k,j,rfl,rfl,hp,hj,q⟩:=h;cases ro;obtain⟨t,rfl⟩:=ri;obtain⟨its,n,r,ho,hz⟩:=I.lst hp;obtain⟨h1,h2,h3,h4⟩:=EB hj;have hl:=r.length;have hn:=uH;have I':Inv X pins σ (upd H p (.lst (xs.set j v))) { s with heap:=s.heap.update p (Obj.mapSeq (·.setIfInBounds j u)) } :=
  I.V9 hp ho (J1 its n j u) (r.set rv j) (by rw[ald];exact hz) s.toks
 by_cases h0:0<=k
 ·have hk:k.toNat=j:=by
   rw[seqIndex_of h0 h4]at h1;exact akx h1
  exact PySem.W.ki_setAt ho h0 (by omega) (by rw[kr,<-hl];exact h4) (by rw[hk];exact⟨_,I',q⟩)
 ·have hk:(k+(its.toArray.size:Int)).toNat=j:=by
   rw[seqIndex_neg (by omega) h3]at h1
   rw[kr,<-hl];exact akx h1
  exact PySem.W.ki_setBack ho (by omega) (by rw[kr,<-hl];exact h3) (by omega) (by rw[hk];exact⟨_,I',q⟩)
theorem ED (lo hi:Option Int)(n:Nat):(sliceBounds lo hi none n).1=((HT.sIx n 0 lo:Nat):Int)/\(sliceBounds lo hi none n).2.1=((HT.sIx n n hi:Nat):Int)/\(sliceBounds lo hi none n).2.2=1:=by
 refine⟨?_,?_,rfl⟩
 ·cases lo with
  |none=>simp[sliceBounds,HT.sIx]
  |some i =>
   simp only[sliceBounds,HT.sIx,Option.getD_none,show (1:Int) > 0 by decide,if_true]
   by_cases h:i < 0
   ·simp only[h,if_true] <;> omega
   ·simp only[h,if_false] <;> omega
 ·cases hi with
  |none=>simp[sliceBounds,HT.sIx]
  |some i =>
   simp only[sliceBounds,HT.sIx,Option.getD_none,show (1:Int) > 0 by decide,if_true]
   by_cases h:i < 0
   ·simp only[h,if_true] <;> omega
   ·simp only[h,if_false] <;> omega
theorem CS (its:List Value)(lo hi:Option Int):slicePick its.toArray lo hi none=((its.drop (HT.sIx its.length 0 lo)).take (HT.sIx its.length its.length hi - HT.sIx its.length 0 lo)).toArray:=by
 obtain⟨h1,h2,h3⟩:=ED lo hi its.toArray.size;unfold slicePick;rw[h1,h2,h3];simp only[sliceRange_one,pick_run,kr] <;> rfl
def ah9 (K:ba):V->Option Int->Option Int->Hp->VK->Prop:=λx lo hi H Q=>∃a xs,x=.ref a/\SqL K H a xs/\∀p,H p=none->Q (.ref p) (upd H p (.lst (fB xs lo hi)))
theorem tQ:SlR X (ah9 X.K):=by
 intro pins s σ H x v vl vu lo hi sl Q I rx hs pl pu h;obtain⟨a,xs,rfl,hx,q⟩:=h;cases rx;obtain⟨its,r,ht,hz⟩:=I.list hx;have hlen:=r.length;refine⟨"list",_,slot_list_getitem.lookup,ht.isList.typeIs,?_⟩;refine wpAny_getItem_list_slice ht.isList hs pl pu .none (by simp) ?_ (by rw[kr] <;> omega)
 rw[CS,<-hlen];refine⟨.ref s.heap.objs.size,_,I.laid (t':=s.toks) (o:=.lst (fB xs lo hi)) (λb ob q=>gr _ q) (km _) ?_,rfl,q _ (I.hok.fresh (km _))⟩
 exact⟨tm (iI xs lo hi) hz,_,0,(r.drop (HT.sIx xs.length 0 lo)).take (HT.sIx xs.length xs.length hi - HT.sIx xs.length 0 lo),aku _ rfl⟩
def vB:V->Bool
 | .non=>true
 | .bl _=>true
 | .int _=>true
 | .str _=>true
 |_=>false
def eqV:V->V->Bool
 | .non,.non=>true
 | .bl a,.bl b=>a == b
 | .bl a,.int b=>(if a then 1 else 0) == b
 | .int a,.bl b=>a == (if b then 1 else 0)
 | .int a,.int b=>a == b
 | .str a,.str b=>a == b
 |_,_=>false
theorem Wa {A:Around}{s:Shared}{y x:V}{u v:Value}(ry:RelV y u)(rx:RelV x v)(fy:vB y=true)(fx:vB x=true):SeqAt.EqAt A s u v (eqV y x):=by
 cases y with
 |non =>
  cases ry;cases x with
  |non=>cases rx;exact SeqAt.EqAt.same _
  |bl b=>cases rx;exact SeqAt.EqAt.none_bool b
  |int b=>obtain⟨t,rfl⟩:=rx;exact SeqAt.EqAt.none_int b t
  |str b=>obtain⟨t,rfl⟩:=rx;exact SeqAt.EqAt.none_str b t
  |_=>exact absurd (show false=true from fx) kx
 |bl a =>
  cases ry;cases x with
  |non=>cases rx;exact SeqAt.EqAt.bool_none a
  |bl b=>cases rx;exact SeqAt.EqAt.bool_bool a b
  |int b=>obtain⟨t,rfl⟩:=rx;exact SeqAt.EqAt.bool_int a b t
  |str b=>obtain⟨t,rfl⟩:=rx;exact SeqAt.EqAt.bool_str a b t
  |_=>exact absurd (show false=true from fx) kx
 |int a =>
  obtain⟨t',rfl⟩:=ry;cases x with
  |non=>cases rx;exact SeqAt.EqAt.int_none a t'
  |bl b=>cases rx;exact SeqAt.EqAt.int_bool a t' b
  |int b=>obtain⟨t,rfl⟩:=rx;exact SeqAt.EqAt.int_int a t' b t
  |str b=>obtain⟨t,rfl⟩:=rx;exact SeqAt.EqAt.int_str a t' b t
  |_=>exact absurd (show false=true from fx) kx
 |str a =>
  obtain⟨t',rfl⟩:=ry;cases x with
  |non=>cases rx;exact SeqAt.EqAt.str_none a t'
  |bl b=>cases rx;exact SeqAt.EqAt.str_bool a t' b
  |int b=>obtain⟨t,rfl⟩:=rx;exact SeqAt.EqAt.str_int a t' b t
  |str b=>obtain⟨t,rfl⟩:=rx;exact SeqAt.EqAt.str_str a t' b t
  |_=>exact absurd (show false=true from fx) kx
 |_=>exact absurd (show false=true from fy) kx
def eqU (x:V)(u:Value):Bool:=match u with
 | .none=>eqV .non x
 | .bool b=>eqV (.bl b) x
 | .int i _=>eqV (.int i) x
 | .str z _=>eqV (.str z) x
 |_=>false
theorem J2 {x y:V}{u:Value}(r:RelV y u)(f:vB y=true):eqU x u=eqV y x:=by
 cases y with
 |non=>cases r;rfl
 |bl b=>cases r;rfl
 |int i=>obtain⟨t,rfl⟩:=r;rfl
 |str z=>obtain⟨t,rfl⟩:=r;rfl
 |_=>exact absurd (show false=true from f) kx
theorem vC {x:V}:∀ {xs:List V} {us:List Value},Vals xs us->xs.all vB=true->us.any (eqU x)=xs.any λy=>eqV y x
 |_,_,.nil,_=>rfl
 |y::xs,u::us,.cons r t,f=>by
  rw[List.all_cons,alp]at f;rw[List.any_cons,List.any_cons,J2 r f.1,vC t f.2]
theorem oO {A:Around}{s:Shared}{x:V}{v:Value}(rx:RelV x v)(fx:vB x=true):∀ {xs:List V} {us:List Value},Vals xs us->xs.all vB=true->∀u∈us,SeqAt.EqAt A s u v (eqU x u)
 |_,_,.nil,_=>λu hu=>by cases hu
 |y::xs,u::us,.cons r t,f=>λu' hu=>by
  rw[List.all_cons,alp]at f;rcases List.mem_cons.mp hu with rfl | hu
  ·rw[J2 r f.1];exact Wa r rx f.1 fx
  ·exact oO rx fx t f.2 u' hu
def inV (x:V)(xs:List V):Bool:=xs.any λy=>eqV y x
def rIn (K:ba)(neg:Bool):R2:=λx y H Q=>∃p xs,y=.ref p/\(SqL K H p xs\/SqT K H p xs)/\vB x=true/\xs.all vB=true/\Q (.bl (if neg then !inV x xs else inV x xs)) H
theorem tR:OpR X (alo .In) (rIn X.K false):=by
 intro pins s σ H x y v u Q I rx ry h;obtain⟨p,xs,rfl,hq,fx,fs,q⟩:=h;cases ry;rcases hq with hq | hq
 ·obtain⟨its,r,pl,hz⟩:=I.list hq;refine SeqAt.in_listAt (eqU x) pl.isList (λw hw=>oO rx fx r fs w (by simpa using hw)) ⟨.bl _,H,I,rfl,?_⟩
  rw[show its.toArray.any (eqU x)=its.any (eqU x) by simp,vC r fs]
  exact q
 ·obtain⟨its,r,pl,hz⟩:=I.tuple hq;refine SeqAt.in_tupleAt (eqU x) pl (λw hw=>oO rx fx r fs w (by simpa using hw)) ⟨.bl _,H,I,rfl,?_⟩
  rw[show its.toArray.any (eqU x)=its.any (eqU x) by simp,vC r fs]
  exact q
theorem vD:OpR X (alo .NotIn) (rIn X.K true):=by
 intro pins s σ H x y v u Q I rx ry h;obtain⟨p,xs,rfl,hq,fx,fs,q⟩:=h;cases ry;rcases hq with hq | hq
 ·obtain⟨its,r,pl,hz⟩:=I.list hq;refine SeqAt.notIn_listAt (eqU x) pl.isList (λw hw=>oO rx fx r fs w (by simpa using hw)) ⟨.bl _,H,I,rfl,?_⟩
  rw[show its.toArray.any (eqU x)=its.any (eqU x) by simp,vC r fs]
  exact q
 ·obtain⟨its,r,pl,hz⟩:=I.tuple hq;refine SeqAt.notIn_tupleAt (eqU x) pl (λw hw=>oO rx fx r fs w (by simpa using hw)) ⟨.bl _,H,I,rfl,?_⟩
  rw[show its.toArray.any (eqU x)=its.any (eqU x) by simp,vC r fs]
  exact q
theorem bO:lC X (.builtin "len") (λxs H Q=>∃p ys,xs=[.ref p]/\(SqL X.K H p ys\/SqT X.K H p ys)/\Q (.int ys.length) H):=by
 intro pins s σ H xs us Q I r h;obtain⟨p,ys,rfl,hq,q⟩:=h;obtain⟨u,rfl,rx⟩:=vals1 r;cases rx;have hn:=uH;rcases hq with hq | hq
 ·obtain⟨its,r',pl,hz⟩:=I.list hq;have hlen:=r'.length;exact Calls.call_len_list pl.isList (by simp only[kr] <;> omega) ⟨.int ys.length,H,I.tok _,⟨s.toks+1,by rw[kr,hlen]⟩,q⟩
 ·obtain⟨its,r',pl,hz⟩:=I.tuple hq;have hlen:=r'.length;exact len_tuple pl (by simp only[kr] <;> omega) ⟨.int ys.length,H,I.tok _,⟨s.toks+1,by rw[kr,hlen]⟩,q⟩
theorem lC.or {f:Value}{r r':List V->Hp->VK->Prop}(h:lC X f r)(h':lC X f r'):lC X f (λxs H Q=>r xs H Q\/r' xs H Q):=by
 intro pins s σ H xs us Q I rs q;rcases q with q | q
 ·exact h pins s σ H xs us Q I rs q
 ·exact h' pins s σ H xs us Q I rs q
theorem dW:lC X (.type "list") (λxs H Q=>∃p ys,xs=[.ref p]/\(SqL X.K H p ys\/SqT X.K H p ys)/\∀l,H l=none->Q (.ref l) (upd H l (.lst ys))):=by
 intro pins s σ H xs us Q I r h;obtain⟨p,ys,rfl,hq,q⟩:=h;obtain⟨u,rfl,rx⟩:=vals1 r;cases rx;have fin:∀(its:List Value),Vals ys its->ys.length<=kf->∀(h':Heap) (c':Nat),(∀b o',s.heap.get? b=some o'->h'.get? b=some o') ->
   h'.get? s.heap.objs.size=some { cls:=.type "list",dict:=none,data:=.seq its.toArray c',slots:=#[] }->EP X pins σ Q (.ref s.heap.objs.size) { s with heap:=h' }:=λits r' hz h' c' kp e =>
  ⟨.ref s.heap.objs.size,_,I.laid (t':=s.toks) kp (km _) (show eU X.prog X.w _ h' _ (.lst ys) from ⟨hz,its,c',r',e⟩),rfl,q _ (I.hok.fresh (km _))⟩
 rcases hq with hq | hq
 ·obtain⟨its,r',pl,hz⟩:=I.list hq;have hlen:=r'.length;obtain⟨o,ho,hc,n,hd⟩:=pl.isList;exact call_list_seq p (.inl rfl) ho hc hd (λh' c' kp e=>fin its r' hz h' c' kp e) (by simp only[kr] <;> omega)
 ·obtain⟨its,r',pl,hz⟩:=I.tuple hq;have hlen:=r'.length;obtain⟨o,ho,hc,n,hd⟩:=pl;exact call_list_seq p (.inr rfl) ho hc hd (λh' c' kp e=>fin its r' hz h' c' kp e) (by simp only[kr] <;> omega)
def tyV (K:ba)(T:String)(x:V)(H:Hp):Prop:=match x with
 | .str _=>T="str"
 | .int _=>T="int"
 | .ref p=>(T="list"/\∃xs,SqL K H p xs)\/(T="tuple"/\∃o,K.lookup p=some o/\o.cls=.type "tuple"/\o.dict=none) \/
   (T="dict"/\((∃kvs,H p=some (.dK kvs))\/∃kvs,H p=some (.dT kvs)))\/(T="set"/\∃S n,H p=some (.set S n))
 |_=>False
theorem OY {pins:List (Addr×Obj)}{σ:St}{H:Hp}{s:Shared}{T:String}{x:V}{v:Value}(I:Inv X pins σ H s)(r:RelV x v)(ty:tyV X.K T x H) :
  s.TypeIs v T/\∀a,v=.ref a->∃ob,s.heap.get? a=some ob/\ob.dict=none:=by
 cases x with
 |str z =>
  obtain⟨t,rfl⟩:=r;cases (show T="str" from ty)
  exact⟨typeIs_str s z t,λ_ e=>nomatch e⟩
 |int i =>
  obtain⟨t,rfl⟩:=r;cases (show T="int" from ty)
  exact⟨typeIs_int s i t,λ_ e=>nomatch e⟩
 |ref p =>
  cases r;rcases ty with ⟨rfl,xs,hq⟩ | ⟨rfl,o,hk,hc,hd⟩ | ⟨rfl,hk⟩ | ⟨rfl,S,n,hk⟩
  ·obtain⟨its,_,pl,_⟩:=I.list hq;refine⟨pl.isList.typeIs,λa e=>?_⟩
   cases e;obtain⟨o,n,e,c,hd,_⟩:=pl;exact⟨o,e,hd⟩
  ·refine⟨⟨o,I.kIn p o hk,hc⟩,λa e=>?_⟩
   cases e;exact⟨o,I.kIn _ o hk,hd⟩
  ·have z:∃o,s.heap.get? p=some o/\o.ExactDict:=by
    rcases hk with ⟨kvs,hk⟩ | ⟨kvs,hk⟩
    ·obtain⟨_,_,_,_,o,_,_,e,ex,_⟩:=I.hok p _ hk;exact⟨o,e,ex⟩
    ·obtain⟨_,_,_,_,o,_,_,e,ex,_⟩:=I.hok p _ hk;exact⟨o,e,ex⟩
   obtain⟨o,e,ex⟩:=z;refine⟨⟨o,e,ex.1⟩,λa e2=>?_⟩
   cases e2;exact⟨o,e,ex.2.1⟩
  ·obtain⟨o,_,_,_,e,ex,_⟩:=I.hok p _ hk;refine⟨⟨o,e,ex.1⟩,λa e2=>?_⟩
   cases e2;exact⟨o,e,ex.2.1⟩
 |_=>exact akF ty
def aia (K:ba)(T:String)(r:V->List V->Hp->VK->Prop)(to:TE):TE:=λσ H Q=>to σ H λx H1=>tyV K T x H1/\r x [] H1 Q
def tBM (K:ba)(T:String)(r:V->List V->Hp->VK->Prop)(to:TE)(t:TA):TE:=λσ H Q=>to σ H λx H1=>tyV K T x H1/\t σ H1 λxs H2=>r x xs H2 Q
variable{o e:Expr}{es:List Expr}{to:TE}{t:TA}{name:Str}{apos gu:Pos}{T id:String}{r:V->List V->Hp->VK->Prop}
theorem OZ (pa:PlainAttrs T)(slot:Slot T name id)(hty:typeOf (.builtin id)=pure (.type "method_descriptor"))(hm:MtR X id r)(ho:PE X o to)
  (F8:attributeBase o name X.env (eval o X.env)=eval o X.env:=by rfl) (O0:(apos.endLine == gu.line)=true:=by rfl):PE X (.Call (.Attribute o name apos) [] [] gu) (aia X.K T r to):=by
 intro pins s σ H Q I h;refine wpAny_Call_method0_late F8 O0 (thn (ho pins s σ H _ I h) λv s1 ⟨x,H1,I1,r1,ty,q1⟩=>?_)
 obtain⟨h1,h2⟩:=OY I1 r1 ty;exact⟨T,id,pa,slot,hty,h1,h2,Calls.callWith_builtin rfl (PySem.evalArgs_none (hm pins s1 σ H1 x [] v [] Q I1 r1 .nil q1))⟩
theorem hG (pa:PlainAttrs T)(slot:Slot T name id)(hty:typeOf (.builtin id)=pure (.type "method_descriptor"))(hm:MtR X id r)(ho:PE X o to)(ha:PA X (e::es) t)
  (F8:attributeBase o name X.env (eval o X.env)=eval o X.env:=by rfl)
  (aib:((backTo gu (adm (e::es) X.env)).all (λx=>!x.1) && (backToKw gu (keywordEach [] X.env)).all (λx=>x.1.isSome)
   && decide ((e::es).length+([]:List Keyword).length+(if ([]:List Keyword).isEmpty then 0 else 1) < 30))=true:=by rfl)
  (O0:(apos.endLine == gu.line)=true:=by rfl) (hs:adm (e::es) X.env=(false,eval e X.env)::adm es X.env:=by rfl) (Wb:(backTo gu (adm es X.env)).any (·.1)=false:=by rfl) :
  PE X (.Call (.Attribute o name apos) (e::es) [] gu) (tBM X.K T r to t):=by
 intro pins s σ H Q I h;refine wpAny_Call_method_late F8 aib O0 rfl (thn (ho pins s σ H _ I h) λv s1 ⟨x,H1,I1,r1,ty,q1⟩=>?_)
 obtain⟨h1,h2⟩:=OY I1 r1 ty;refine⟨T,id,pa,slot,hty,h1,h2,?_⟩;have hA:=ha gu pins s1 σ H1 _ I1 q1;rw[hs]at hA ⊢;refine Calls.callWith_builtin (by show (false || (backTo gu (adm es X.env)).any (·.1))=false;rw[Wb] <;> rfl) (Calls.evalArgs_plain ?_)
 exact thn hA λus s2 ⟨vs,H2,I2,r2,q2⟩=>hm pins s2 σ H2 x vs v us Q I2 r1 r2 q2
end
end L2
namespace L2
open PySem PySem.Spec PyProof.Rows
def MtM (X:Cx)(id:String)(r:V->List V->Hp->VK->Prop):Prop :=
 ∀(pins:List (Addr×Obj)) (s:Shared) (σ:St) (H:Hp) (x:V) (xs:List V) (v:Value) (us:List Value) (Q:VK),Inv X pins σ H s->RelV x v->Vals xs us->r x xs H Q ->
  wpAny (model X.prog X.w) X.A (call (.builtin id) (v::us)) (EP X pins σ Q) X.xe s
theorem Vals.one:∀ {x:V} {us:List Value},Vals [x] us->∃u,us=[u]/\RelV x u
 |_,_,.cons r .nil=>⟨_,rfl,r⟩
theorem Vals.two:∀ {x y:V} {us:List Value},Vals [x,y] us->∃u v,us=[u,v]/\RelV x u/\RelV y v
 |_,_,_,.cons r (.cons q .nil)=>⟨_,_,rfl,r,q⟩
theorem Vals.zero:∀ {us:List Value},Vals [] us->us=[]
 |_,.nil=>rfl
theorem Vals.dropLast {xs:List V}{us:List Value}(h:Vals xs us):Vals xs.dropLast us.dropLast:=by
 induction h with
 |nil=>exact .nil
 |cons r t ih =>
  cases t with
  |nil=>exact .nil
  |cons q t'=>exact .cons r ih
theorem Vals.eraseIdx:∀ {xs:List V} {us:List Value} (i:Nat),Vals xs us->Vals (xs.eraseIdx i) (us.eraseIdx i)
 |_,_,_,.nil=>.nil
 |_,_,0,.cons _ t=>t
 |_,_,i+1,.cons r t=>.cons r (Vals.eraseIdx i t)
theorem Vals.rep {xs:List V}{us:List Value}(h:Vals xs us):∀k:Nat,Vals (alV k xs).flatten (alV k us).flatten
 | 0=>.nil
 |k+1=>by
  rw[List.replicate_succ,List.replicate_succ,List.flatten_cons,List.flatten_cons];exact Vals.append h (Vals.rep h k)
theorem J3 {α:Type}(l:List α):l.eraseIdx (l.length - 1)=l.dropLast:=by
 induction l with
 |nil=>rfl
 |cons a r ih =>
  cases r with
  |nil=>rfl
  |cons b r =>
   have e:(a::b::r).length - 1=((b::r).length - 1)+1:=by
    have h1:(a::b::r).length=r.length+2:=rfl;have h2:(b::r).length=r.length+1:=rfl;omega
   rw[e,List.eraseIdx_cons_succ,ih]
   all_goals rfl
theorem Dt {α:Type}:∀(l:List α) (i:Nat),(l.eraseIdx i).length<=l.length
 |[],_=>km _
 |_::_,0=>ak7 _
 |_::r,i+1=>Nat.succ_le_succ (Dt r i)
section
variable{X:Cx}{pins:List (Addr×Obj)}{σ:St}{H:Hp}{s:Shared}{l b:Addr}{xs ys zs:List V}
theorem Inv.O1 {its its':List Value}{n:Nat}{f:Array Value->Array Value}{t':Nat}(I:Inv X pins σ H s)(hH:H l=some (.lst xs))
  (e:s.heap.get? l=some { cls:=.type "list",data:=.seq its.toArray n }) (hf:f its.toArray=its'.toArray) (hv:Vals ys its') (hz:ys.length<=kf) :
  Inv X pins σ (upd H l (.lst ys)) { s with heap:=s.heap.update l (Obj.mapSeq f),toks:=t' }:=by
 have q:=PySem.IsL.update e f;rw[hf]at q;refine I.write (x:=l) (e:=l) (by rw[hH];exact trivial) (.inl rfl) (λb' u hb hu=>(ak3 s.heap (Obj.mapSeq f) (akI hb)).trans hu) ⟨_,q⟩ ?_
 exact⟨hz,its',_,hv,q⟩
theorem Inv.aaI {its:List Value}{t':Nat}(I:Inv X pins σ H s)(hv:Vals ys its)(hz:ys.length<=kf) :
  Inv X pins σ (upd H s.heap.objs.size (.lst ys)) { s with heap:=s.heap.push { cls:=.type "list",data:=.seq its.toArray },toks:=t' } :=
 I.laid (λ_ _ q=>gr _ q) (km _) ⟨hz,its,0,hv,aku _ rfl⟩
theorem Inv.fresh (I:Inv X pins σ H s):H s.heap.objs.size=none:=I.hok.fresh (km _)
theorem Inv.F9 (I:Inv X pins σ H s)(hH:H l=some (.lst xs)):xs.length<=kf/\∃(its:List Value) (n:Nat),Vals xs its/\xs.length=its.length/\s.heap.get? l=some { cls:=.type "list",data:=.seq its.toArray n }:=by
 obtain⟨z,its,n,r,e⟩:=I.hok l _ hH;exact⟨z,its,n,r,r.length,e⟩
theorem O2 {n:Nat}(h:n<=kf):Builtin.List.listTooLong n=false:=by
 unfold Builtin.List.listTooLong;exact decide_eq_false (by omega)
end
section
variable{X:Cx}
def Sm:V->List V->Hp->VK->Prop:=λx vs H Q=>∃l xs y,x=.ref l/\vs=[y]/\H l=some (.lst xs)/\xs.length < kf/\Q .non (upd H l (.lst (xs++[y])))
theorem cU:MtM X "list.append" Sm:=by
 intro pins s σ H x vs v us Q I rx rv h;obtain⟨l,xs,y,rfl,rfl,hH,hz,q⟩:=h;cases rx;obtain⟨u,rfl,ru⟩:=rv.one;obtain⟨z,its,n,r,hl,e⟩:=I.F9 hH;refine call_meets F.slot_list_append ⟨_,e,rfl⟩ F.entry_list_append (F.args_list_append_2 _ _) (PySem.list_append l its.toArray n u (by rw[kr];omega)) ⟨e,?_⟩
 refine⟨.non,_,I.O1 (its':=its++[u]) hH e (by simp) (r.append (.cons ru .nil)) ?_,rfl,q⟩
 rw[gn,tu];omega
def Sn:V->List V->Hp->VK->Prop:=λx vs H Q=>∃l b xs zs,x=.ref l/\vs=[.ref b]/\H l=some (.lst xs)/\H b=some (.lst zs)/\xs.length+zs.length<=kf/\Q .non (upd H l (.lst (xs++zs)))
theorem Du:MtM X "list.extend" Sn:=by
 intro pins s σ H x vs v us Q I rx rv h;obtain⟨l,b,xs,zs,rfl,rfl,hH,hB,hz,q⟩:=h;cases rx;obtain⟨u,rfl,ru⟩:=rv.one;cases ru;obtain⟨z,its,n,r,hl,e⟩:=I.F9 hH;obtain⟨z2,F7,n2,r2,hl2,e2⟩:=I.F9 hB;have hsz:its.toArray.size+F7.toArray.size<=kf:=by rw[kr,kr];omega
 have aaJ:¬(!its.toArray.isEmpty && Builtin.List.listTooLong (its.toArray.size+F7.toArray.size))=true:=by
  rw[O2 hsz,Bool.and_false];exact kx
 refine call_meets F.slot_list_extend ⟨_,e,rfl⟩ F.entry_list_extend (F.args_list_extend_2 _ _)
  (AutoSeq1.list_extend_list_list_0 l its.toArray n b F7.toArray n2 aaJ (by rw[kr];omega) (by omega)) ⟨e,e2,?_⟩
 refine⟨.non,_,I.O1 (its':=its++F7) hH e (by simp) (r.append r2) ?_,rfl,q⟩
 rw[gn];omega
def aic:V->List V->Hp->VK->Prop:=λx vs H Q=>∃l xs y,x=.ref l/\vs=[]/\H l=some (.lst xs)/\xs[xs.length - 1]?=some y/\Q y (upd H l (.lst xs.dropLast))
theorem O3:MtM X "list.pop" aic:=by
 intro pins s σ H x vs v us Q I rx rv h;obtain⟨l,xs,y,rfl,rfl,hH,hy,q⟩:=h;cases rx;have hus:=rv.zero;subst hus;obtain⟨z,its,n,r,hl,e⟩:=I.F9 hH;obtain⟨u,hu,ru⟩:=r.get hy;have hy':its.toArray[its.toArray.size - 1]?=some u:=by
  show its.toArray[its.length - 1]?=some u;rw[<-Array.getElem?_toList,<-hl];exact hu
 refine call_meets F.slot_list_pop ⟨_,e,rfl⟩ F.entry_list_pop (F.args_list_pop_1 _) (MeetsSeq.list_pop_last l its.toArray n u hy' (by rw[kr];omega)) ⟨e,?_⟩
 refine⟨y,_,I.O1 (its':=its.dropLast) hH e ?_ r.dropLast ?_,ru,q⟩
 ·show its.toArray.eraseIdxIfInBounds (its.toArray.size - 1)=its.dropLast.toArray;rw[kr,List.eraseIdxIfInBounds_toArray,J3]
 ·rw[List.length_dropLast];omega
def Wc:V->List V->Hp->VK->Prop:=λx vs H Q=>∃l xs i k y,x=.ref l/\vs=[.int i]/\H l=some (.lst xs)/\-(2 ^ 63)<=i/\i < 2 ^ 63/\seqIndex? i xs.length=some k/\xs[k]?=some y/\Q y (upd H l (.lst (xs.eraseIdx k)))
theorem O4:MtM X "list.pop" Wc:=by
 intro pins s σ H x vs v us Q I rx rv h;obtain⟨l,xs,i,k,y,rfl,rfl,hH,h1,h2,hk,hy,q⟩:=h;cases rx;obtain⟨u,rfl,ru⟩:=rv.one;obtain⟨t,rfl⟩:=ru;obtain⟨z,its,n,r,hl,e⟩:=I.F9 hH;obtain⟨w,hw,rw'⟩:=r.get hy;refine call_meets F.slot_list_pop ⟨_,e,rfl⟩ F.entry_list_pop (F.args_list_pop_2 _ _)
  (MeetsSeq.list_pop_at l its.toArray n i t k w (fitsIndex_both h1 h2) (by rw[kr,<-hl];exact hk) (by rw[<-Array.getElem?_toList];exact hw) (by rw[kr];omega)) ⟨e,?_⟩
 refine⟨y,_,I.O1 (its':=its.eraseIdx k) hH e ?_ (r.eraseIdx k) ?_,rw',q⟩
 ·show its.toArray.eraseIdxIfInBounds k=(its.eraseIdx k).toArray;rw[List.eraseIdxIfInBounds_toArray]
 ·have:=Dt xs k;omega
def aid:R2:=λx y H Q=>∃l b xs zs,x=.ref l/\y=.ref b/\H l=some (.lst xs)/\H b=some (.lst zs)/\xs.length+zs.length<=kf/\∀p,H p=none->Q (.ref p) (upd H p (.lst (xs++zs)))
theorem We:OpR X (binaryOp .Add) aid:=by
 intro pins s σ H x y v u Q I rx ry h;obtain⟨l,b,xs,zs,rfl,rfl,hH,hB,hz,q⟩:=h;cases rx;cases ry;obtain⟨z,its,n,r,hl,e⟩:=I.F9 hH;obtain⟨z2,F7,n2,r2,hl2,e2⟩:=I.F9 hB;refine PySem.P.add_list e e2 ?_ (by rw[kr,kr];omega)
 have ea:its.toArray++F7.toArray=(its++F7).toArray:=by simp
 rw[ea];exact⟨.ref _,_,I.aaI (t':=s.toks) (r.append r2) (by rw[gn];omega),rfl,q _ I.fresh⟩
end
end L2
namespace Att
open PySem PySem.W PySem.Calls PyProof.Rows
theorem y9 {P:Params}{h:Heap}:∀(ns:List Int) (vs:List Value),WellAll P h vs (ns.map WData.int)->IntsAre vs ns:=by
 intro ns
 induction ns with
 |nil =>
  intro vs w;rw[akW]at w;cases w;exact .nil
 |cons n ns ih =>
  intro vs w;rw[ko]at w;cases w with
  |cons a b =>
   cases a;exact .cons _ _ (ih _ b)
theorem Nc {l:OpenLaw}{n:Nat}(hn:l.most=some n){P:Params}{h:Heap}{args:List WData}{vals:List Value}
  (So:l.row.toRowW.claim.pre args=true) (hwl:WellAll P h vals args) :
  ∃a vs ns,vals=[akt a]/\args=[WData.list (ns.map WData.int)]/\h.get? a=some { cls:=.type "list",data:=.seq vs.toArray }/\IntsAre vs ns/\ns.length<=n:=by
 have hsh:WShape.hasAll [] args [.list .int]=true:=(pre_splitW So).1;have hc:l.pre.holds [] { args:=args }=true:=(pre_splitW So).2;obtain⟨d,r,rfl,h1,h2⟩:=hasAllW_cons hsh;obtain rfl:=hasAllW_nil h2;obtain⟨xs,rfl,h3⟩:=hasW_list h1;obtain⟨ns,rfl⟩:=items_int h3;have hlen:ns.length<=n:=by
  unfold OpenLaw.pre at hc;have h4:(WTm.not (.lt (.lit (.int (n:Int))) (.len (.arg 0)))).holds [] { args:=[.list (ns.map .int)] }=true:=by
   have h4:=(holds_andW hc).1;rw[hn]at h4;exact h4
  have h5:=condW_of h4 (w_not (w_lt w_lit (w_len_list (w_arg rfl))));rw[bo]at h5;refine Nat.le_of_not_lt λq=>?_
  have q':(n:Int) < ((ns.length:Nat):Int):=by omega
  first
   | (rw[decide_eq_true q']at h5;exact absurd h5 (by decide))
   | (simp at h5;omega)
 cases hwl with
 |cons w1 w2 =>
  cases w2;cases w1 with
  |list ho Wf=>exact⟨_,_,ns,rfl,rfl,ho,y9 ns _ Wf,hlen⟩
theorem Nd (l:OpenLaw)(args:List WData):l.row.toRowW.claim.post args (.bool true) args=true :=
 postW_of (r:=l.row.toRowW) (X:=(true == true))
  (show WShape.has [] (.bool true) .bool=true by first | rfl | decide | simp[WShape.has,WShape.arms,WShape.armsAll])
  (show (WTm.eq .res (.lit (.bool true))).value [] { args:=args,res:=some (.bool true),after:=args }=some (.bool (true == true)) from w_eq_bool (w_res rfl) w_lit) rfl
theorem Ga {l:OpenLaw}{n:Nat}{q:me}{loose:List Str}{XP:(Str->Option Value)->Heap->Prop}{YP:World->Heap->Prop}{d:DefRec}
  (hn:l.most=some n) (hdf:d.params.defaults=[])
  (call:∀(w:World) (s₀ s₁:Shared) (mg mb:Str->Option Value) (fa:Addr) (o:Obj) (pm cd doc:Value) (a:Addr) (vs:List Value) (ns:List Int),
   Ground q loose [] XP w s₀ mg mb s₁.heap->YP w s₁.heap ->
   s₁.heap.get? fa=some o->o.data=.func (docDef d.name d.params d.body d.scope pm cd doc)->s₁.heap.CodeRec cd d.name->mg d.name=some (.ref fa) ->
   s₁.heap.get? a=some { cls:=.type "list",data:=.seq vs.toArray }->IntsAre vs ns->ns.length<=n->s₁.gens=#[] ->
   codeAny (model l.prog w) callerA (.call (.ref fa) ⟨[.ref a],[]⟩) (λr s'=>r=.ok (.ret (.bool true))/\OldK s₁.heap s'.heap/\s'.os=s₁.os/\AllBare s'.gens) s₁) :
  WalkO q loose XP YP l.row.toRowW d [] (λf vs=>PySem.call f vs):=by
 intro w s₀ s₁ mg mb G Y fa o pm cd doc dV kV ho hd hcd hD hmg hg args vals as So akl hrd hwl hlo;obtain rfl:dV=.none:=Dflts.none hD hdf;obtain rfl:kV=.none:=Dflts.noKw hD;obtain⟨a,vs,ns,rfl,rfl,Wg,hints,hlen⟩:=Nc hn So hwl;refine enter_call (codeAny_mono (call w s₀ s₁ mg mb fa o pm cd doc a vs ns G Y ho (fd_plain hd) hcd hmg Wg hints hlen hg) λr s' hq=>?_)
 obtain⟨rfl,h2,h3,h4⟩:=hq;exact⟨.inl ⟨.bool true,.bool true,[],rfl,λ_=>rfl,.bool true,Nd l _,λ_=>⟨List.Pairwise.nil,λ_ hm=>(nomatch hm)⟩⟩,h2,h3,h4⟩
section
variable{prog:me}{w:World}{A:Around}{E:Value->Shared->Prop}{s:Shared}{K:Frag}
def ledger (h:Heap)(L d:Addr):List (Addr×Obj):=(alD h.objs.size).filterMap λa=>if a=L\/a=d then none else (h.get? a).map λo=>(a,o)
end
end Att
namespace L2
open PySem PySem.Spec PyProof.Rows
theorem Dv:∀ {vs:List Value} {ns:List Int},IntsAre vs ns->Vals (ns.map V.int) vs
 |_,_,.nil=>.nil
 |_,_,.cons n t h=>.cons ⟨t,rfl⟩ (Dv h)
def Wh (H:Hp):Prop:=∀b,H b=none\/∃o xs,H b=some (.frz o (.lst xs))
theorem O5 {P:me}{w:World}{K:ba}{mg mb:Str->Option Value}{CX:CXT}{k:Nat}{fa a:Addr}{fd:ki}{x:Str}{sp:Sp}{s₁:Shared}{vs:List Value}{ns:List Int}
  (KX:K.In s₁.heap) (hns:s₁.heap.Ns ka mg) (hb:s₁.heap.Ns builtinsNs mb) (hbb:∀x:Str,x≠"__name__"->mb x=ali x) (aie:s₁.heap.NoLimit) (hg:s₁.gens=#[])
  (ha:s₁.heap.get? a=some { cls:=.type "list",data:=.seq vs.toArray }) (hi:IntsAre vs ns) (hl:ns.length<=kf) (hr:Room k callerA)
  (F:∀base:Heap,K.In base->base.Ns ka mg->aO P w K mg base CX k fa fd [x] sp) (aaK:∀(s:Shared) (u:Value),BindsTo s fd ⟨[u],[]⟩ [(x,u)])
  (hsp:∀H:Hp,Wh H->SqL K H a (ns.map V.int)->sp [.ref a] H (λv _=>v=.bl true) λ_ _ _=>False)
  (hCX:∀H e s',CX [] H s₁ (λ_ _ _=>False) e s'->False) :
  codeAny (model P w) callerA (.call (.ref fa) ⟨[.ref a],[]⟩) (λr s'=>r=.ok (.ret (.bool true))/\OldK s₁.heap s'.heap/\s'.os=s₁.os/\AllBare s'.gens) s₁:=by
 have rv:=Dv hi;have aif:=hi.length;have core:∀H:Hp,Wh H->SqL K H a (ns.map V.int)->HOk P w H s₁.heap->(∀b,H b≠none->b=a)->(H a≠none->K.lookup a=none) ->
   codeAny (model P w) callerA (.call (.ref fa) ⟨[.ref a],[]⟩) (λr s'=>r=.ok (.ret (.bool true))/\OldK s₁.heap s'.heap/\s'.os=s₁.os/\AllBare s'.gens) s₁:=by
  intro H hO hS hok hA hK;have Mf:∀ {b:Addr} {o:Obj},s₁.heap.get? b=some o->H b=none->(Er s₁.heap H).get? b=some o:=λe n=>OL e n
  have noA:∀ {b:Addr} {o:Obj} {es:Array alq} {ep:Nat},s₁.heap.get? b=some o->o.data=.dict es ep->H b=none:=λ{b o es ep} e d=>by
   cases q:H b with
   |none=>rfl
   |some u =>
    have e':b=a:=hA b (by rw[q];simp)
    subst e';rw[ha]at e;cases e;have d':Data.seq vs.toArray _=Data.dict es ep:=d;cases d'
  have nsK:∀ {b:Addr} {m:Str->Option Value},s₁.heap.Ns b m->(Er s₁.heap H).Ns b m:=λ{b m} ⟨o,es,ep,e,d,r⟩=>⟨o,es,ep,Mf e (noA e d),d,r⟩
  have hKb:K.In (Er s₁.heap H):=λb o e=>Mf (KX b o e) (by
   cases q:H b with
   |none=>rfl
   |some u =>
    have e':b=a:=hA b (by rw[q];simp)
    subst e';rw[hK (by rw[q];simp)]at e;cases e)
  have hM:Mod K mg (Er s₁.heap H):=⟨hKb,nsK hns,⟨mb,nsK hb,hbb⟩,let ⟨mc,h1,h2⟩:=aie;⟨mc,nsK h1,h2⟩⟩
  have e0:CQ P w K mg (Er s₁.heap H) callerA [] s₁ H:=⟨rfl,hM,λb o e=>R9 e,Nat.le_of_eq (M4 _ _),trivial,λb hb=>absurd (show b∈([]:List Addr) from hb) (by simp),hok,.of_eq hg⟩
  refine codeAny_mono ((F _ hKb (nsK hns)).run callerA [] s₁ H ⟨[.ref a],[]⟩ [.ref a] [.ref a] _ _ hr e0 (aaK s₁ (.ref a)) (.cons rfl .nil) (hsp H hO hS)) λr s' h=>?_
  cases r with
  |error e=>exact(hCX H e s' h).elim
  |ok fl =>
   cases fl with
   |next=>exact akF h
   |brk=>exact akF h
   |cont=>exact akF h
   |ret u =>
    obtain⟨v,H',os,bare,un,aih,r',q⟩:=h;have q':v=.bl true:=q;subst q';obtain rfl:u=Value.bool true:=r';refine⟨rfl,OldK.of_keep λb o e=>?_,os,bare⟩
    cases q:H b with
    |none=>exact un.keep b o e q (by intro z;exact absurd (show b∈([]:List Addr) from z) (by simp)) (by simp)
    |some u =>
     rcases hO b with z | ⟨ob,xs,z⟩
     ·rw[q]at z;cases z
     ·have z2:=un.vq b ob _ z;obtain⟨e1,_⟩:=hok b _ z;obtain⟨e2,_⟩:=aih b _ z2;rw[e]at e1;cases e1;exact e2
 cases hk:K.lookup a with
 |some o =>
  have e:=KX a o hk;rw[ha]at e;cases e;refine core (λ_=>none) (λ_=>.inl rfl) (.inr ⟨_,vs.toArray,_,hk,rfl,rfl,rfl,by rw[kr,aif];exact hl,by simpa using rv⟩) (λb u z=>by have z':(none:Option HO)=some u:=z;cases z') (λb z=>absurd rfl z) λz=>absurd rfl z
 |none =>
  refine core (λb=>if b=a then some (.frz { cls:=.type "list",data:=.seq vs.toArray } (.lst (ns.map V.int))) else none) (λb=>?_) (.inl (.inr ⟨{ cls:=.type "list",data:=.seq vs.toArray },if_pos rfl⟩)) (λb u z=>?_) (λb z=>?_) λ_=>hk
  ·by_cases hb:b=a
   ·exact .inr ⟨_,_,if_pos hb⟩
   ·exact .inl (if_neg hb)
  ·by_cases hb:b=a
   ·have z':=(if_pos hb).symm.trans z;cases z';subst hb;exact⟨ha,by rw[bo];exact hl,vs,_,rv,ha⟩
   ·have z':=(if_neg hb).symm.trans z;cases z'
  ·by_cases hb:b=a
   ·exact hb
   ·exact absurd (if_neg hb) z
end L2
namespace L2
open PySem PySem.Spec PyProof.Rows
theorem Sq {l:PySem.W.OpenLaw}{n k:Nat}{q:me}{loose:List Str}{XP:(Str->Option Value)->Heap->Prop}{YP:World->Heap->Prop}{d:DefRec}{K:Params->ba}{CX:World->CXT}{sp:World->Sp}{x:Str}
  (hn:l.most=some n) (hn2:n<=kf) (hdf:d.params.defaults=[]) (hr:Room k callerA)
  (hY:∀(w:World) (h:Heap),YP w h->(K w.params).In h)
  (F:∀(w:World) (mg:Str->Option Value) (fa:Addr) (h:Heap),(K w.params).In h->h.Ns ka mg->mg d.name=some (.ref fa) ->
   ∃fd:ki,(∀(s:Shared) (u:Value),BindsTo s fd ⟨[u],[]⟩ [(x,u)]) /\
    ∀base:Heap,(K w.params).In base->base.Ns ka mg->aO l.prog w (K w.params) mg base (CX w) k fa fd [x] (sp w))
  (hsp:∀(w:World) (H:Hp) (a:Addr) (ns:List Int),ns.length<=n->Wh H->SqL (K w.params) H a (ns.map V.int)->sp w [.ref a] H (λv _=>v=.bl true) λ_ _ _=>False)
  (hCX:∀(w:World) (H:Hp) (s:Shared) (e:Value) (s':Shared),CX w [] H s (λ_ _ _=>False) e s'->False) :
  PySem.W.WalkO q loose XP YP l.row.toRowW d [] (λf vs=>PySem.call f vs):=by
 refine Att.Ga hn hdf λw s₀ s₁ mg mb fa o pm cd doc a vs ns G Y ho hd hcd hmg Wg hints hlen hg=>?_
 have KX:=hY w _ Y;obtain⟨fd,hb,hF⟩:=F w mg fa _ KX G.T.g hmg;exact O5 KX G.T.g G.T.b G.T.builtins G.T.nolimit hg Wg hints (tm hlen hn2) hr hF hb (λH hO hS=>hsp w H a ns hlen hO hS) λH e s'=>hCX w H s₁ e s'
end L2
namespace L2
open PySem PySem.Spec PyProof.Rows
def inClass (s:Stmt)(j:Nat):Stmt:=match s with
 | .ClassDef _ _ _ body _ _ _ _ _ _ _=>body.getD j (.Pass ⟨0,0,0,0⟩)
 |_=>.Pass ⟨0,0,0,0⟩
def aS (s:Stmt):Arguments:=match s with
 | .FunctionDef _ a _ _ _ _ _ _ _ _=>a
 |_=>{ posonlyargs:=[],args:=[],vararg:=none,kwonlyargs:=[],kw_defaults:=[],kwarg:=none,defaults:=[] }
def aQ (s:Stmt):List Stmt:=match s with
 | .FunctionDef _ _ b _ _ _ _ _ _ _=>b
 |_=>[]
def ag (s:Stmt):Scope:=match s with
 | .FunctionDef _ _ _ _ _ _ sc _ _ _=>sc
 |_=>{ kind:=.function,names:=[],isGenerator:=false,isCoroutine:=false }
abbrev CX0:CXT:=λ_ _ _ _ _ _=>False
abbrev E0:XK:=λ_ _ _=>False
theorem aZ {X:Cx}:Passes CX0 X E0:=λ_ _ _ _ _ _ _ h=>h.elim
structure Fun (K:ba)(x qual:Str)(st:Stmt)(f:Addr)(fd:ki):Prop where
 ex:∃(oc:Value) (od:Option Addr) (kV doc pm:Value) (an:Option Addr) (cdv ct:Value) (osl:Array (Option Value)),
  fd=fe x qual (aS st) (aQ st) (ag st) .none kV doc pm an cdv ct/\K.lookup f=some ⟨oc,od,.func fd,osl⟩/\de K cdv qual=true
 kp:da K (.ref f)=true
section
variable{P:me}{w:World}{K:ba}{mg:Str->Option Value}{base:Heap}
theorem Fun.ok {x qual:Str}{st:Stmt}{f:Addr}{fd:ki}{N ps:List Str}{k:Nat}{sp:Sp}(F:Fun K x qual st f fd)(S:aT N ps (ag st))(len:∀vs H Q E,sp vs H Q E->vs.length=ps.length)
  (F5:∀(cdv:Value) (A:Around) (outer:List Env) (s:Shared) (H:Hp) (vs:List V) (Q:VK) (E:XK),Room k (A.deeper (envOfC qual (ag st) s.heap.objs.size f cdv))->sp vs H Q E ->
   ∃t,PSs (vz CX0 P w K mg base N qual (ag st) f cdv A outer s H E).nox (aQ st) t/\t { nx:=λ_ H'=>Q .non H',rt:=Q } (start N vs) H):aO P w K mg base CX0 (k+1) f fd ps sp:=by
 obtain⟨oc,od,kV,doc,pm,an,cdv,ct,osl,rfl,lk,hcd⟩:=F.ex;refine Uq lk hcd S len λA outer s H vs Q E hr hsp=>?_
 obtain⟨t,h,q⟩:=F5 cdv A outer s H vs Q E hr hsp;exact⟨t,h.nox,q⟩
theorem Fun.binds {x qual:Str}{st:Stmt}{f:Addr}{fd:ki}{ps:List Str}(F:Fun K x qual st f fd)
  (h:∀(kV doc pm:Value) (an:Option Addr) (cdv ct:Value) (us:List Value),us.length=ps.length->bindArgs (fe x qual (aS st) (aQ st) (ag st) .none kV doc pm an cdv ct) ⟨us,[]⟩=pure (ps.zip us)):Binds K fd ps []:=by
 obtain⟨oc,od,kV,doc,pm,an,cdv,ct,osl,rfl,lk,hcd⟩:=F.ex;exact .all (h kV doc pm an cdv ct)
theorem aX {x qual:Str}{st:Stmt}{f:Addr}{oc:Value}{od an:Option Addr}{osl:Array (Option Value)}{kV doc pm cdv ct:Value}(l:K.lookup f=some ⟨oc,od,.func (fe x qual (aS st) (aQ st) (ag st) .none kV doc pm an cdv ct),osl⟩)
  (c:de K cdv qual=true) (k:da K (.ref f)=true):Fun K x qual st f (fe x qual (aS st) (aQ st) (ag st) .none kV doc pm an cdv ct):=⟨⟨oc,od,kV,doc,pm,an,cdv,ct,osl,rfl,l,c⟩,k⟩
end
section
variable{X:Cx}
theorem pv (i:Nat){x:Str}{pos:Pos}(hN:X.N[i]?=some x:=by rfl)(hv:Vis X.env.scope x:=by first | exact Lk rfl | exact Or.inr (Lk rfl) | exact Or.inr (Or.inr rfl))(hd:(x == ("__debug__":Str))=false:=by decide)
  (hcd:(x == ("__classdict__":Str))=false:=by decide):PE X (.Name x pos) (aaj i):=VT hN hv hd hcd
end
theorem bS {A B:Prop}(h:B):if false=true then A else B:=by
 rw[if_neg kx];exact h
theorem dJ {A B:Prop}(h:A):if true=true then A else B:=by
 rw[if_pos rfl];exact h
theorem eR {c A B:Prop}[Decidable c](h1:c->A)(h2:¬c->B):if c then A else B:=by
 by_cases h:c
 ·rw[if_pos h];exact h1 h
 ·rw[if_neg h];exact h2 h
def bu (H H':Hp):Prop:=∀b o,H b=some o->H' b=some o
theorem bu.refl (H:Hp):bu H H:=λ_ _ h=>h
theorem bu.trans {H H1 H2:Hp}(a:bu H H1)(b:bu H1 H2):bu H H2:=λc o h=>b c o (a c o h)
theorem bu.free {H H':Hp}(e:bu H H'){l:Addr}(h:H' l=Option.none):H l=Option.none:=by
 cases q:H l with
 |none=>rfl
 |some o =>
  rw[e l o q]at h;cases h
theorem bu.seq {K:ba}{H H':Hp}{a:Addr}{xs:List V}(e:bu H H')(h:SqL K H a xs):SqL K H' a xs:=by
 rcases h with (h | ⟨o,h⟩) | h
 ·exact .inl (.inl (e _ _ h))
 ·exact .inl (.inr ⟨o,e _ _ h⟩)
 ·exact .inr h
end L2
set_option maxHeartbeats 4000000
namespace L2
open PySem PySem.Spec PyProof.Rows
theorem hU:ali "len"=some (.builtin "len"):=by decide +kernel
theorem EE:ali "max"=some (.builtin "max"):=by decide +kernel
theorem Wi:ali "any"=some (.builtin "any"):=by decide +kernel
theorem O6:ali "int"=some (.type "int"):=by decide +kernel
theorem O7:ali "str"=some (.type "str"):=by decide +kernel
theorem nB:ali "list"=some (.type "list"):=by decide +kernel
mutual
def DV (K:ba)(H:Hp):PyData->V->Prop
 | .none,x=>x=.non
 | .bool b,x=>x=.bl b
 | .int i,x=>x=.int i
 | .str y,x=>x=.str y
 | .list ds,x=>∃a xs,x=.ref a/\SqL K H a xs/\DVs K H ds xs
 | .tuple ds,x=>∃a xs,x=.ref a/\SqT K H a xs/\DVs K H ds xs
 | .dict _,_=>False
def DVs (K:ba)(H:Hp):List PyData->List V->Prop
 |[],xs=>xs=[]
 |d::ds,xs=>∃x r,xs=x::r/\DV K H d x/\DVs K H ds r
end
section
variable{X:Cx}{pins:List (Addr×Obj)}{σ:St}{H:Hp}{s:Shared}
mutual
theorem DV.reads (I:Inv X pins σ H s):∀(d:PyData) {x:V} {u:Value},DV X.K H d x->RelV x u->∃as,Reads s.heap u d as
 | .none,_,_,h,r=>by
  have h':=h;unfold DV at h';subst h';cases r;exact⟨_,.none⟩
 | .bool b,_,_,h,r=>by
  have h':=h;unfold DV at h';subst h';cases r;exact⟨_,.bool b⟩
 | .int i,_,_,h,r=>by
  have h':=h;unfold DV at h';subst h';obtain⟨t,rfl⟩:=r;exact⟨_,.int i t⟩
 | .str y,_,_,h,r=>by
  have h':=h;unfold DV at h';subst h';obtain⟨t,rfl⟩:=r;exact⟨_,.str y t⟩
 | .list ds,_,_,h,r=>by
  have h':=h;unfold DV at h';obtain⟨a,xs,rfl,hq,hs⟩:=h';cases r;obtain⟨its,rv,⟨o,n,e,c,_,dt⟩,_⟩:=I.list hq;obtain⟨as,q⟩:=DVs.reads I ds hs rv;exact⟨_,.list e c dt (by simpa using q)⟩
 | .tuple ds,_,_,h,r=>by
  have h':=h;unfold DV at h';obtain⟨a,xs,rfl,hq,hs⟩:=h';cases r;obtain⟨its,rv,⟨o,e,c,n,dt⟩,_⟩:=I.tuple hq;obtain⟨as,q⟩:=DVs.reads I ds hs rv;exact⟨_,.tuple e c dt (by simpa using q)⟩
 | .dict _,_,_,h,_=>by
  have h':=h;unfold DV at h';exact h'.elim
theorem DVs.reads (I:Inv X pins σ H s):∀(ds:List PyData) {xs:List V} {us:List Value},DVs X.K H ds xs->Vals xs us->∃as,ReadsAll s.heap us ds as
 |[],_,_,h,r=>by
  have h':=h;unfold DVs at h';subst h';cases r;exact⟨_,.nil⟩
 |d::ds,_,_,h,r=>by
  have h':=h;unfold DVs at h';obtain⟨x,q,rfl,h1,h2⟩:=h';cases r with
  |cons r1 r2 =>
   obtain⟨as,e1⟩:=DV.reads I d h1 r1;obtain⟨bs,e2⟩:=DVs.reads I ds h2 r2;exact⟨_,.cons e1 e2⟩
end
def aii (K:ba):R2:=λx y H Q=>∃d e,DV K H d x/\DV K H e y/\alI d=true/\alI e=true/\Q (.bl (alP d e)) H
def aij (K:ba):R2:=λx y H Q=>∃d e,DV K H d x/\DV K H e y/\alI d=true/\alI e=true/\Q (.bl (!alP d e)) H
theorem xu (hu:X.A.units+64 < cLine):OpR X (alo .Eq) (aii X.K):=by
 intro pins s σ H x y v u Q I rx ry h;obtain⟨d,e,hd,he,sd,se,q⟩:=h;obtain⟨as,r1⟩:=DV.reads I d hd rx;obtain⟨bs,r2⟩:=DV.reads I e he ry;exact eq_dataH r1 r2 sd se hu ⟨.bl _,H,I,rfl,q⟩
theorem qr (hu:X.A.units+64 < cLine):OpR X (alo .NotEq) (aij X.K):=by
 intro pins s σ H x y v u Q I rx ry h;obtain⟨d,e,hd,he,sd,se,q⟩:=h;obtain⟨as,r1⟩:=DV.reads I d hd rx;obtain⟨bs,r2⟩:=DV.reads I e he ry;exact ne_dataH r1 r2 sd se hu ⟨.bl _,H,I,rfl,q⟩
end
theorem AZ:∀ {ys:List Str} {us:List Value},Vals (ys.map V.str) us->StrsAre us ys
 |[],_,.nil=>.nil
 |y::ys,_,.cons r t=>by
  obtain⟨tk,rfl⟩:=r;exact .cons y tk (AZ t)
theorem rR:∀l:List (Str×Tok),Vals ((l.map (·.1)).map V.str) (strValues l)
 |[]=>.nil
 |p::l=>.cons ⟨p.2,rfl⟩ (rR l)
section
variable{X:Cx}
def rJoin (K:ba):V->List V->Hp->VK->Prop:=λx vs H Q=>∃sep a ys,x=.str sep/\vs=[.ref a]/\SqL K H a (ys.map V.str)/\(ys.map (·.length)).sum+ys.length * sep.length<=16777216/\Q (.str (sr sep ys)) H
theorem EF:MtR X "str.join" (rJoin X.K):=by
 intro pins s σ H x vs v us Q I rx rv h;obtain⟨sep,a,ys,rfl,rfl,hq,hz,q⟩:=h;obtain⟨t,rfl⟩:=rx;obtain⟨u,rfl,ru⟩:=rv.one;cases ru;obtain⟨its,r,pl,_⟩:=I.list hq;refine join_list pl.isList (AZ (by simpa using r)) hz λt' k=>?_
 rw[show Txt.join sep ys=sr sep ys from StrLaws.glued_eq_join sep ys]
 exact⟨.str _,H,I.tok _,⟨_,rfl⟩,q⟩
def Wj:V->List V->Hp->VK->Prop:=λx vs H Q=>∃z y,x=.str z/\vs=[.str y]/\(y.length == 0)=false/\z.length+2<=kf/\∀p,H p=none->Q (.ref p) (upd H p (.lst ((Txt.split z y).map V.str)))
theorem Gb:MtR X "str.split" Wj:=by
 intro pins s σ H x vs v us Q I rx rv h;obtain⟨x,y,rfl,rfl,hy,hsz,q⟩:=h;obtain⟨t,rfl⟩:=rx;obtain⟨_,rfl,u,rfl⟩:=rv.one;have hn:(Builtin.Str.partsBetween x (alB x y 0 x.length (x.length+1)) y.length).length<=kf:=by
  have e1:=StrLaws.occ_length_le x y 0 x.length (x.length+1);rw[length_partsBetween];omega
 have fin:∀(l:List (Str×Tok)) (tk:Nat),l.map (·.1)=Txt.split x y->(Txt.split x y).length<=kf ->
   EP X pins σ Q (.ref s.heap.objs.size) { s with heap:=s.heap.push { cls:=.type "list",data:=.seq (strValues l).toArray },toks:=tk }:=λl tk e hz=>by
  refine⟨.ref _,_,I.aaI (t':=tk) (ys:=(Txt.split x y).map V.str) (by rw[<-e];exact rR l) (by rw[bo];exact hz),rfl,q _ I.fresh⟩
 have aaL:1<=kf:=by omega
 cases h1:(decide (x.length < y.length) || decide (Builtin.Str.strKind x < Builtin.Str.strKind y))
 ·cases hf:(alB x y 0 x.length (x.length+1)).isEmpty
  ·refine call_meets F.slot_str_split (typeIs_str _ _ _) F.entry_str_split (F.args_str_split_2 _ _) (meets_str_split_sep x y t u h1 hy hf (by omega) hn) ?_
   have e:Txt.split x y=Builtin.Str.partsBetween x (alB x y 0 x.length (x.length+1)) y.length:=(if_neg (ne_true_of_eq_false h1)).trans (if_neg (ne_true_of_eq_false hf));show wants (EP X pins σ Q) X.xe _ { s with toks:=_,heap:=s.heap.push { cls:=.type "list",data:=.seq (strsFrom s.toks (Builtin.Str.partsBetween x (alB x y 0 x.length (x.length+1)) y.length)).toArray } }
   rw[strsFrom_eq];exact fin (numbered s.toks _) _ ((numbered_texts _ _).trans e.symm) (by rw[e];exact hn)
  ·have e:Txt.split x y=[x]:=(if_neg (ne_true_of_eq_false h1)).trans (if_pos hf);exact call_meets F.slot_str_split (typeIs_str _ _ _) F.entry_str_split (F.args_str_split_2 _ _) (meets_str_split_not_found x y t u h1 hy hf)
    (fin [(x,t)] s.toks e.symm (by rw[e];exact aaL))
 ·have e:Txt.split x y=[x]:=if_pos h1;exact call_meets F.slot_str_split (typeIs_str _ _ _) F.entry_str_split (F.args_str_split_2 _ _) (meets_str_split_cannot_occur x y t u h1)
   (fin [(x,t)] s.toks e.symm (by rw[e];exact aaL))
end
section
variable{X:Cx}
theorem tS:OpR X (binaryOp .Add) (λx y H Q=>∃l b xs zs,x=.ref l/\y=.ref b/\H l=some (.lst xs)/\H b=some (.lst zs)/\xs.length+zs.length<=kf/\∀p,H p=none->Q (.ref p) (upd H p (.lst (xs++zs)))):=We
end
theorem eY (a b:Str):(a++b).cps.toList=a.cps.toList++b.cps.toList:=by
 show (a.cps++b.cps).toList=_;simp
theorem Gd (c:Nat):∀(a b p q:List Nat),c∉a->c∉b->a++c::p=b++c::q->a=b/\p=q
 |[],[],p,q,_,_,e=>by simpa using e
 |[],y::b,p,q,_,hb,e=>by
  have e':c::p=y::(b++c::q):=e;injection e' with e1 _
  exact absurd (by rw[e1];exact fu) hb
 |x::a,[],p,q,ha,_,e=>by
  have e':x::(a++c::p)=c::q:=e;injection e' with e1 _
  exact absurd (by rw[<-e1];exact fu) ha
 |x::a,y::b,p,q,ha,hb,e=>by
  have e':x::(a++c::p)=y::(b++c::q):=e;injection e' with e1 e2
  obtain⟨h1,h2⟩:=Gd c a b p q (λh=>ha (ky _ h)) (λh=>hb (ky _ h)) e2
  exact⟨by rw[e1,h1],h2⟩
theorem EG {a b:Str}(h:a.cps.toList=b.cps.toList):a=b:=by
 cases a;cases b;have:=Array.toList_inj.mp h;subst this;rfl
theorem jy (c:Nat)(x y:Str)(r:List Str):(sr ⟨#[c]⟩ (x::y::r)).cps.toList=x.cps.toList++c::(sr ⟨#[c]⟩ (y::r)).cps.toList:=by
 show ((x++⟨#[c]⟩)++sr ⟨#[c]⟩ (y::r)).cps.toList=_;rw[eY,eY];simp
theorem Ge (c:Nat):∀(vs ws:List Str),vs≠[]->ws≠[]->(∀v∈vs,c∉v.cps.toList)->(∀w∈ws,c∉w.cps.toList)->sr ⟨#[c]⟩ vs=sr ⟨#[c]⟩ ws->vs=ws
 |[],_,h,_,_,_,_=>absurd rfl h
 |_,[],_,h,_,_,_=>absurd rfl h
 |[x],[y],_,_,_,_,e=>by rw[show x=y from e]
 |[x],y::z::r,_,_,hv,_,e=>by
  have e1:=congrArg (λt:Str=>t.cps.toList) e
  have e2:x.cps.toList=y.cps.toList++c::(sr ⟨#[c]⟩ (z::r)).cps.toList:=e1.trans (jy c y z r);exact absurd (by rw[e2];exact kj _ fu) (hv x fu)
 |x::z::r,[y],_,_,_,hw,e=>by
  have e1:=congrArg (λt:Str=>t.cps.toList) e
  have e2:x.cps.toList++c::(sr ⟨#[c]⟩ (z::r)).cps.toList=y.cps.toList:=(jy c x z r).symm.trans e1;exact absurd (by rw[<-e2];exact kj _ fu) (hw y fu)
 |x::x2::r,y::y2::q,_,_,hv,hw,e=>by
  have e1:=congrArg (λt:Str=>t.cps.toList) e
  have e2:=(jy c x x2 r).symm.trans (e1.trans (jy c y y2 q));obtain⟨h1,h2⟩:=Gd c _ _ _ _ (hv x fu) (hw y fu) e2;have h3:=Ge c (x2::r) (y2::q) (akH _ _) (akH _ _) (λv h=>hv v (ky _ h)) (λw h=>hw w (ky _ h)) (EG h2)
  rw[EG h1,h3]
theorem O8 (x y:Str):Txt.split x y≠[]:=by
 unfold Txt.split;split
 ·exact akH _ _
 ·split
  ·exact akH _ _
  ·rw[StrLaws.partsBetween_eq];intro h;have:=congrArg List.length h;revert this;cases (alB x y 0 x.length (x.length+1)) <;> simp[StrLaws.partsFrom]
theorem J4 {c:Nat}{ws:List Str}(h0:ws≠[])(h:∀w∈ws,c∉w.cps.toList):Txt.split (sr ⟨#[c]⟩ ws) ⟨#[c]⟩=ws :=
 Ge c _ _ (O8 _ _) h0 (StrLaws.split_free _ c) h (StrLaws.join_split _ _)
theorem tT (c:Nat):∀ws:List Str,(sr ⟨#[c]⟩ ws).length<=(ws.map (·.length)).sum+ws.length
 |[]=>ak6 _
 |[x]=>by show x.length<=_;simp
 |x::y::r=>by
  have ih:=tT c (y::r);have e:(sr ⟨#[c]⟩ (x::y::r)).length=x.length+1+(sr ⟨#[c]⟩ (y::r)).length:=by
   have:=congrArg List.length (jy c x y r);rw[gn,akp]at this;have l1:∀z:Str,z.cps.toList.length=z.length:=λz=>by simp[Str.length]
   rw[l1,l1,l1]at this;omega
  simp only[ko,List.sum_cons,akp]at ih ⊢;omega
theorem CT {c:Nat}:∀ {ws:List Str},ws≠[]->(∀w∈ws,1<=w.length)->1<=(sr ⟨#[c]⟩ ws).length
 |[],h,_=>absurd rfl h
 |[x],_,h=>h x fu
 |x::y::r,_,h=>by
  have h1:=h x fu;have:=congrArg List.length (jy c x y r);rw[gn]at this;have l1:∀z:Str,z.cps.toList.length=z.length:=λz=>by simp[Str.length]
  rw[l1,l1]at this;omega
theorem vE {b:Bool}{A B:Prop}(hb:b=true)(h:A):if b=true then A else B:=by
 subst hb;exact dJ h
theorem vF {b:Bool}{A B:Prop}(hb:b=false)(h:B):if b=true then A else B:=by
 subst hb;exact bS h
theorem aB {H:Hp}{p:Addr}{o:HO}(h:H p=none):bu H (upd H p o):=λb u e=>by
 rw[aw (aJ e h)];exact e
theorem bu.own {H H':Hp}{p:Addr}{o:HO}(s:bu H H')(h:H p=none):bu H (upd H' p o):=λb u e=>by
 rw[aw (aJ e h)];exact s b u e
theorem bu.new {H H':Hp}{p:Addr}{o:HO}(s:bu H H')(h:H' p=none):bu H (upd H' p o):=s.trans (aB h)
theorem bu.nn {H H':Hp}(s:bu H H'){p:Addr}{o:HO}(h:H p=none)(e:H' p=some o){b:Addr}{u:HO}(eb:H b=some u):b≠p:=aJ eb h
theorem A0 (xs:List V)(k:Nat):fB xs (some (k:Int)) none=xs.drop k:=by
 unfold fB;rw[HT.tO,HT.F6]
 by_cases h:k<=xs.length
 ·rw[Nat.min_eq_left h];exact List.take_of_length_le (by rw[alL];exact km _)
 ·have h':xs.length<=k:=by omega
  rw[Nat.min_eq_right h',List.drop_of_length_le h',List.drop_of_length_le (km _)];simp
theorem Ur {α:Type}{xs:List α}{i:Int}{n:Nat}(hn:xs.length=n)(h0:0<=i)(h1:i < n):∃c,atI xs i=some c/\c∈xs:=by
 have hi:i.toNat < xs.length:=by omega
 have e:((i.toNat:Nat):Int)=i:=by omega
 refine⟨xs[i.toNat],?_,List.getElem_mem hi⟩;have q:=dD (wt hi);rw[e]at q;exact q
end L2
namespace L2
open PySem PySem.Spec PyProof.Rows
def cJ (scope outer:Scope):Scope :=
 { scope with names:=scope.names.map λ(n,k)=>if (k == .free && outer.kind == .function && outer.names.lookup n == some .cell) then (n,.cell) else (n,k) }
structure dP (scope outer:Scope)(x:Str)(N M:List Str):Prop where
 kind:scope.kind=.function
 O9:outer.kind=.function
 A1:∀y∈scope.names,y.2≠.cell
 names:∀y∈scope.names,y.2=.local->scope.names.lookup y.1=some .local
 hx:scope.names.lookup x=some .local
 free:∀y∈scope.names,y.2=.free->outer.names.lookup y.1=some .cell
 nl:∀n∈M,(cJ scope outer).names.lookup n≠some .local
 ndM:M.Nodup
 nd:N.Nodup
 len:M.length=N.length
 rel:∀i:Nat,i < N.length->M[i]?=N[i]?\/M[i]?=some akP
 em:(cJ scope outer).names.lookup akP=none
theorem dP.mem {scope outer:Scope}{x:Str}{N M:List Str}(S:dP scope outer x N M){n:Str}{k:NameKind}(h:(cJ scope outer).names.lookup n=some k)(hk:k=.cell\/k=.free) :
  k=.cell/\(n,alh)∈scope.names/\outer.names.lookup n=some .cell:=by
 obtain⟨⟨n',k'⟩,hm,e⟩:=List.mem_map.mp (alv h);dsimp only at e
 by_cases hc:(k' == alh && outer.kind == .function && outer.names.lookup n' == some .cell)=true
 ·rw[if_pos hc]at e;injection e with e1 e2
  subst e1 e2;rw[alp,alp]at hc;have hk':k'=.free:=beq_iff_eq.mp hc.1.1;subst hk';exact⟨rfl,hm,beq_iff_eq.mp hc.2⟩
 ·rw[if_neg hc]at e;injection e with e1 e2
  subst e1 e2;rcases hk with z | z
  ·exact absurd z (S.A1 _ hm)
  ·subst z
   exfalso
   refine hc ?_;rw[S.free _ hm rfl,S.O9];rfl
theorem EH {env:Env}{f:Str×NameKind->List (Str×Addr)->Sem (ForInStep (List (Str×Addr)))}
  (h1:∀n k r,k≠alh->f (n,k) r=pure (.yield r)) (h2:∀n r c,env.cells.lookup n=some c->f (n,.free) r=pure (.yield ((n,c)::r))) :
  ∀(ns:List (Str×NameKind)) (acc:List (Str×Addr)),(∀y∈ns,y.2=.free->∃c,env.cells.lookup y.1=some c)->(∀n c,acc.lookup n=some c->env.cells.lookup n=some c) ->
   ∃cl,(forIn ns acc f:Sem (List (Str×Addr)))=pure cl/\(∀n c,cl.lookup n=some c->env.cells.lookup n=some c)/\(∀n c,acc.lookup n=some c->(cl.lookup n).isSome=true)/\∀y∈ns,y.2=.free->(cl.lookup y.1).isSome=true
 |[],acc,_,ha=>⟨acc,by simp,ha,λn c e=>by rw[e];rfl,λy hy=>nomatch hy⟩
 | (n,k)::ns,acc,hn,ha=>by
  by_cases hk:k=alh
  ·subst hk;obtain⟨c,hc⟩:=hn (n,.free) fu rfl;have ha':∀m d,((n,c)::acc).lookup m=some d->env.cells.lookup m=some d:=λm d e=>by
    rw[List.lookup_cons]at e;split at e
    ·rename_i hb;have:m=n:=beq_iff_eq.mp hb;subst this;rw[<-akx e];exact hc
    ·exact ha m d e
   obtain⟨cl,e,p1,p2,p3⟩:=EH h1 h2 ns ((n,c)::acc) (λy hy=>hn y (ky _ hy)) ha'
   have hnn:(cl.lookup n).isSome=true:=p2 n c (by simp[List.lookup_cons])
   refine⟨cl,?_,p1,λm d em=>?_,λy hy hf=>?_⟩
   ·rw[List.forIn_cons,h2 n acc c hc,pure_bind];exact e
   ·by_cases hm:m=n
    ·subst hm;exact hnn
    ·exact p2 m d (by rw[List.lookup_cons,show (m == n)=false from beq_eq_false_iff_ne.mpr hm];exact em)
   ·rcases List.mem_cons.mp hy with rfl | hy
    ·exact hnn
    ·exact p3 y hy hf
  ·obtain⟨cl,e,p1,p2,p3⟩:=EH h1 h2 ns acc (λy hy=>hn y (ky _ hy)) ha
   refine⟨cl,?_,p1,p2,λy hy hf=>?_⟩
   ·rw[List.forIn_cons,h1 n k acc hk,pure_bind];exact e
   ·rcases List.mem_cons.mp hy with rfl | hy
    ·exact absurd hf hk
    ·exact p3 y hy hf
theorem xw {scope:Scope}{env:Env}(h:∀y∈scope.names,y.2=.free->∃c,env.cells.lookup y.1=some c) :
  ∃cl,closureFor scope env=pure cl/\(∀n c,cl.lookup n=some c->env.cells.lookup n=some c)/\∀y∈scope.names,y.2=.free->(cl.lookup y.1).isSome=true:=by
 unfold closureFor;obtain⟨cl,e,p1,_,p3⟩:=EH (env:=env) (f:=λx r=>match x with | (name,kind)=>if (kind == alh)=true then do let a <-cellOf env name;pure (.yield ((name,a)::r)) else pure (.yield r))
  (λn k r hk=>by
   have:(k == alh)=false:=beq_eq_false_iff_ne.mpr hk;simp only[this,Bool.false_eq_true,if_false])
  (λn r c hc=>by
   simp only[beq_self_eq_true,if_true];unfold cellOf;rw[hc];rw[pure_bind])
  scope.names [] h (λn c e=>by simp at e)
 refine⟨cl,?_,p1,p3⟩;have e':=congrArg (λz:Sem (List (Str×Addr))=>z >>= λcs=>pure cs) e
 simp only[pure_bind]at e';exact e'
def iY (X:Cx)(x:Str)(M:List Str)(scope:Scope)(cl:List (Str×Addr))(C:Addr)(s:Shared)(H:Hp)(fp:List Addr):Cx :=
 { X with N:=x::M,s₀:=s,H₀:=H,env:=compEnvC scope cl C X.env,outer:=X.stack,ex:=fp,fn:=λ_=>false,pn:=[],xe:=λ_ _=>False }
def vG (J:It)(te:TE)(σ:St)(D:Addr)(H1:Hp)(Q:VK):Prop:=∃W:Nat->Nat->List V->Hp->Prop,(∃m,W 0 m [] (upd H1 D (.lst [])))/\∀i m ys H2,W i m ys H2 ->
 H2 D=some (.lst ys)/\((J.stop i H2/\Q (.ref D) H2)\/(J.go i H2/\ys.length < kf/\∀x H3,J.yld i H2 x H3->te (some x::σ) H3 λy H4=>H4 D=some (.lst ys)/\∃m',m' < m/\W (i+1) m' (ys++[y]) (upd H4 D (.lst (ys++[y])))))
def Pa (wi:TI)(te:TE):TE:=λσ H Q=>wi σ H λJ H1=>∀D,H1 D=none->vG J te σ D H1 Q
section
variable{X:Cx}{pins:List (Addr×Obj)}{σ:St}{H:Hp}{s:Shared}{elt iter:Expr}{x:Str}{px pos:Pos}{scope:Scope}{wi:TI}{te:TE}{Q:VK}{M:List Str}
theorem Sr {cl:List (Str×Addr)}{C:Addr}{fp:List Addr}(S:dP scope X.env.scope x X.N M)(I:Inv X pins σ H s)(hC:s.heap.objs.size<=C)(p1:∀n c,cl.lookup n=some c->X.env.cells.lookup n=some c)
  (p3:∀y∈scope.names,y.2=.free->(cl.lookup y.1).isSome=true) (f2:∀b∈fp,gJ X pins H b) (fo:∀b∈fp,b < s.heap.objs.size):(iY X x M scope cl C s H fp).Ok where
 mod:=I.ok.mod
 kind:=S.kind
 glob:=I.ok.glob
 blt:=I.ok.blt
 above:=hC
 inj:=λy z c h1 h2=>I.ok.inj y z c (p1 y c h1) (p1 z c h2)
 has:=λy hy=>by
  have hy':(cJ scope X.env.scope).names.lookup y=some .cell\/(cJ scope X.env.scope).names.lookup y=some .free:=hy;have hm:(y,alh)∈scope.names:=by
   rcases hy' with z | z
   ·exact(S.mem z (.inl rfl)).2.1
   ·exact(S.mem z (.inr rfl)).2.1
  exact Option.isSome_iff_exists.mp (p3 _ hm rfl)
 cab:=λy c h=>absurd h kx
 hd:=I.ok.hd
 frames:=I.ok.frames
 stk:=.inl rfl
 exf:=λb hb=>⟨aks (akq (fo b hb) hC),λy c e=>(f2 b hb).2.2.2.2.1 y c (p1 y c e)⟩
 bs:=I.bs
 bsz:=tm I.ok.bsz I.sz
 Es:=λb o e hb=>by
  rcases (f2 b hb).2.2.2.1 with z | z
  ·exact I.ok.Es b o e z
  ·exact absurd (akq (om (I.ok.bs b o e).1) z) (alZ _)
 Et:=λb hb z=>by
  rcases List.mem_cons.mp (I.AJ b z) with e | e
  ·exact(f2 b hb).2.1 e
  ·exact(f2 b hb).2.2.1 e
 uw:=I.stack
 frf:=I.Al
theorem Pb {cl:List (Str×Addr)}{C D:Addr}{fp:List Addr}{h₁:Heap}{tk:Nat}{m:Str->Option Value}(S:dP scope X.env.scope x X.N M)(I:Inv X pins σ H s)(hC:s.heap.objs.size<=C)(hD:s.heap.objs.size<=D)(hDC:D≠C)
  (p1:∀n c,cl.lookup n=some c->X.env.cells.lookup n=some c)
  (p3:∀y∈scope.names,y.2=.free->(cl.lookup y.1).isSome=true) (f2:∀b∈fp,gJ X pins H b) (fo:∀b∈fp,b < s.heap.objs.size)
  (old:∀b o,s.heap.get? b=some o->h₁.get? b=some o) (hn:h₁.Ns C m) (hl:h₁.get? D=some { cls:=.type "list",data:=.seq ([]:List Value).toArray }) :
  Inv (iY X x M scope cl C s H fp) [] (none::σ) (upd H D (.lst [])) { s with heap:=h₁,toks:=tk }:=by
 have cellK:∀c v,s.heap.IsCell c v->h₁.IsCell c v:=λc v ⟨o,e,d⟩=>⟨o,old c o e,d⟩
 refine⟨Sr S I hC p1 p3 f2 fo,rfl,I.bare,Un.laid old hD (I.hok.fresh hD),⟨m,hn,λi n v h1 h2 h3=>?_⟩,λy c e=>?_,?_,λy c e=>?_,λp hp=>absurd (show p∈([]:List (Addr×Obj)) from hp) (by simp),I.hok.laid old hD ⟨ak6 _,[],0,.nil,hl⟩,?_⟩
 ·cases i with
  |zero =>
   have h2':(none:Option V)=some v:=by simpa using h2
   cases h2'
  |succ i =>
   have h0':M[i]?=some n:=by simpa [iY] using h1
   have h2':σ[i]?=some (some v):=by simpa using h2
   have h3':(cJ scope X.env.scope).names.lookup n=some .local\/(cJ scope X.env.scope).names.lookup n=some .cell\/(cJ scope X.env.scope).names.lookup n=some .free:=h3;have lB:(cJ scope X.env.scope).names.lookup n=some .cell/\(n,alh)∈scope.names/\X.env.scope.names.lookup n=some .cell:=by
    rcases h3' with z | z | z
    ·exact absurd z (S.nl n (akM h0'))
    ·exact⟨z,(S.mem z (.inl rfl)).2⟩
    ·exact absurd (S.mem z (.inr rfl)).1 (by decide)
   have h1':X.N[i]?=some n:=by
    have hi:i < X.N.length:=by rw[<-S.len];exact(List.getElem?_eq_some_iff.mp h0').1
    rcases S.rel i hi with z | z
    ·rw[<-z];exact h0'
    ·rw[h0']at z;have e:n=akP:=akx z;rw[e,S.em]at lB;cases lB.1
   obtain⟨m0,hn0,hl0⟩:=I.loc;obtain⟨u,r,l⟩:=hl0 i n v h1' h2' (.inr (.inl lB.2.2));refine⟨u,r,.inr ⟨.inl lB.1,?_⟩⟩;obtain⟨c,hc⟩:=Option.isSome_iff_exists.mp (p3 _ lB.2.1 rfl);refine⟨c,hc,?_⟩;rcases l with ⟨k,_⟩ | ⟨_,c',hc',z⟩
   ·have k':X.env.scope.names.lookup n=some .local:=k;rw[lB.2.2]at k';cases k'
   ·rw[p1 n c hc]at hc';cases hc';exact cellK c _ z
 ·obtain⟨v,z⟩:=I.cell y c (p1 y c e);exact⟨v,cellK c v z⟩
 ·show (upd H D (.lst [])) C=none;rw[aw (akI hDC)];exact I.hok.fresh hC
 ·obtain⟨v,z⟩:=I.cell y c (p1 y c e);rw[aw (aks (akq z.lt hD))];exact I.oN y c (p1 y c e)
 ·show (none::σ).length=(x::M).length;rw[akp,akp,I.len,S.len]
theorem Dw {cl:List (Str×Addr)}{RR:Value->Addr->Result->Shared->Prop}(S:dP scope X.env.scope x X.N M)(hc:X.calm=true)(hi:PI X (.Name x px) iter wi)
  (he:∀cl C s H fp,PE (iY X x M scope cl C s H fp) elt te) (I:Inv X pins σ H s) (h:Pa wi te σ H Q)
  (p1:∀n c,cl.lookup n=some c->X.env.cells.lookup n=some c) (p3:∀y∈scope.names,y.2=.free->(cl.lookup y.1).isSome=true)
  (hRR:∀D C H' s' o m,Inv X (pins++[(C,o)]) σ H' s'->s'.heap.get? C=some o->s'.heap.Ns C m->X.s₀.heap.objs.size<=C->(∀y c,X.env.cells.lookup y=some c->c≠C)->(∀p∈X.pn++pins,p.1≠C)->Q (.ref D) H'->RR (.ref D) C (.ok .next) s') :
  wpAny (model X.prog X.w) X.A (eval iter X.env) (λxv s₁=>wpAny (model X.prog X.w) X.A (pyIter xv) (λit s₂=>wpAny (model X.prog X.w) X.A (newList []) (λacc s₃ =>
   wpAny (model X.prog X.w) X.A (newFunctionEnv scope X.env.globals cl [] X.env.qual none .none (some X.env)) (λEI s₄ =>
    codeAny (model X.prog X.w) X.A (.compStart (.ListComp elt [⟨.Name x px,iter,[],0⟩] scope pos) 0 it acc { EI with scope:=relabel scope X.env }) (RR acc EI.locals) s₄) X.xe s₃) X.xe s₂) X.xe s₁) X.xe s:=by
 refine thn (hi pins s σ H _ I h) λv s1 h1=>thn h1 λitv s2 h2=>?_
 obtain⟨it,fp,tn,J,H2,rfl,I2,T,st2,f2,q⟩:=h2;refine wpAny_newObj_type (wpAny_newFunctionEnv S.A1 (by intro y hy;simp at hy) (λh₁ hns₁ hsb₁=>?_) S.kind)
 dsimp only at hns₁ hsb₁ ⊢;generalize hHH:s2.heap.push { cls:=.type "list",dict:=none,data:=.seq ([]:List Value).toArray }=HH at hns₁ hsb₁ ⊢;have hCs:HH.objs.size=s2.heap.objs.size+1:=by rw[<-hHH,alA]
 have hDC:s2.heap.objs.size≠HH.objs.size:=by rw[hCs];exact aks (Nat.lt_succ_self _)
 have Pc:s2.heap.objs.size<=HH.objs.size:=by rw[hCs];exact ak7 _
 have below:∀b,b < s2.heap.objs.size->b≠HH.objs.size:=λb hb=>by rw[hCs];exact aks (Nat.lt_succ_of_lt hb)
 have old:∀b o,s2.heap.get? b=some o->h₁.get? b=some o:=λb o e=>hsb₁.extBut b o (below b (om e)) (gr _ (hHH▸gr _ e))
 have Nf:h₁.get? s2.heap.objs.size=some { cls:=.type "list",data:=.seq ([]:List Value).toArray }:=hsb₁.extBut _ _ hDC (gr _ (hHH▸aku _ rfl));have fo:∀b∈fp,b < s2.heap.objs.size:=λb hb=>by
  obtain⟨o,e,_⟩:=T.obj _ _ st2 b hb;exact om e
 have IY:=Pb (tk:=s2.toks+([]:List (Str×Value)).length) S I2 Pc (km _) hDC p1 p3 f2 fo old hns₁ Nf;have st1:tn 0 h₁:=T.keep _ _ _ st2 λb _ o e=>old b o e
 obtain⟨W,⟨m0,w0⟩,turn⟩:=q _ (I2.hok.fresh (km _));generalize hC:HH.objs.size=C at *;generalize hDD:s2.heap.objs.size=D at *;have ndY:(iY X x M scope cl C s2 H2 fp).N.Nodup:=by
  refine List.nodup_cons.mpr ⟨λhm=>S.nl x hm (lookup_relabel_local S.hx),S.ndM⟩
 have stat:∀ {H':Hp},(∀b∈fp,H' b=none)->∀b∈fp,gJ (iY X x M scope cl C s2 H2 fp) [] H' b:=λhn b hb =>
  ⟨hn b hb,below b (fo b hb),IY.ok.Et b hb,.inl hb,λy c e=>(f2 b hb).2.2.2.2.1 y c (p1 y c e),λp hp=>absurd (show p∈([]:List (Addr×Obj)) from hp) (by simp)⟩
 have loop:codeAny (model X.prog X.w) X.A (.compLoop (.ListComp elt [⟨.Name x px,iter,[],0⟩] scope pos) 0 (.ref it) (.ref D) (compEnvC scope cl C X.env)) (RR (.ref D) C) { s2 with heap:=h₁,toks:=s2.toks+([]:List (Str×Value)).length }:=by
  refine codeAny_compLoop_tests (λn s'=>∃i v0 ys H',Inv (iY X x M scope cl C s2 H2 fp) [] (v0::σ) H' s'/\tn i s'.heap/\(∀b∈fp,H' b=none)/\W i n ys H') ?_ m0 ⟨0,none,[],_,IY,st1,λb hb=>?_,w0⟩
  ·rintro n s3 ⟨i,v0,ys,H3,I3,st3,fr3,w3⟩;obtain⟨hDl,hw⟩:=turn i n ys H3 w3;rcases hw with ⟨stop,qn⟩ | ⟨go,hsz,step⟩
   ·refine thn (T.done (iY X x M scope cl C s2 H2 fp) rfl rfl rfl hc i [] s3 _ H3 _ I3 (stat fr3) st3 stop) λr s4 ⟨hr,I4⟩=>?_
    subst hr;obtain⟨m4,hn4,_⟩:=I4.loc;obtain⟨oC,es4,ep4,e4,r4⟩:=id hn4;have Ng:s2.heap.objs.size<=C:=by rw[hDD];exact Pc
    have IX:Inv X pins σ H3 s4:=I2.L9 (ch:=fp) I4.os I4.base I4.hok I4.bare λb hb=>⟨(f2 b hb).2.2.2.1,(f2 b hb).2.1,(f2 b hb).2.2.2.2.1,(f2 b hb).2.2.2.2.2⟩
    have fC:=I2.AN (H':=H3) Ng I4.free;have IX2:Inv X (pins++[(C,oC)]) σ H3 s4:=IX.Am λp hp=>(List.mem_append.mp hp).elim (λz=>IX.pin p (kj _ z)) λz=>by
     have e:p=(C,oC):=by simpa using z
     subst e;exact⟨e4,fC.1,fC.2.1,fC.2.2.1,λv z=>by rw[r4.1]at z;cases z⟩
    exact hRR D C H3 s4 oC m4 IX2 e4 hn4 (tm I2.sz Ng) fC.2.2.2.2.1 fC.2.2.2.2.2 qn
   ·refine thn (T.item (iY X x M scope cl C s2 H2 fp) rfl rfl rfl hc i [] s3 _ H3 _ I3 (stat fr3) st3 go) λr s4 ⟨u,hr,h4⟩=>?_
    subst hr;have e0:∀k:Sem Unit,(letOwnedTupleGo (.Name x px) (.ref it) u >>= λ_=>k)=k:=λk=>by
     rw[show letOwnedTupleGo (.Name x px) (.ref it) u=pure () from rfl,pure_bind]
    show wpAny _ _ (assign (.Name x px) (compEnvC scope cl C X.env) u) _ _ s4;rw[<-e0 (assign (.Name x px) (compEnvC scope cl C X.env) u)];refine eg (thn h4 λ_ s5 ⟨xv,H5,I5,r5,y5,st5,fr5⟩=>?_)
    have I5':=I5.pinned (stat fr5) (T.obj _ _ st5);have hxl:(iY X x M scope cl C s2 H2 fp).env.scope.names.lookup x=some .local:=lookup_relabel_local S.hx;refine wpAny_assign_Name (vv (X:=iY X x M scope cl C s2 H2 fp) (i:=0) I5' ndY rfl (Lk hxl) r5 (λs6 I6=>?_) (.inr hxl))
    refine wpAny_tests_nil ?_;rw[if_pos rfl];refine ako (he cl C s2 H2 fp _ s6 _ H5 _ I6 (step xv H5 y5)) (λy s7 ⟨yv,H7,I7,r7,hD7,m',hm',w7⟩=>?_) (λ_ _ f=>f.elim)
    refine ako (cU (X:=iY X x M scope cl C s2 H2 fp) _ s7 _ H7 (.ref D) [yv] (.ref D) [y] (λ_ H8=>H8=upd H7 D (.lst (ys++[yv]))) I7 rfl (.cons r7 .nil) ⟨D,ys,yv,rfl,rfl,hD7,hsz,rfl⟩)
     (λ_ s8 ⟨_,H8,I8,_,e8⟩=>?_) (λ_ _ f=>f.elim)
    subst e8;refine⟨m',hm',i+1,some xv,ys++[yv],_,I8.hZ,T.keep _ _ _ st5 λb hb o e=>(I8.pin (b,o) (kj _ (kj _ (jw hb e)))).1,λb hb=>?_,w7⟩
    obtain⟨o,e,d⟩:=T.obj _ _ st5 b hb;exact(I8.pin (b,o) (kj _ (kj _ (jw hb e)))).2.1
  ·show (upd H2 D (.lst [])) b=none;rw[aw (aks (fo b hb))];exact(f2 b hb).1
 exact codeAny_compStart_list loop (T.self _ 0 _ _ _ st1 loop)
theorem An (S:dP scope X.env.scope x X.N M)(hc:X.calm=true)(hi:PI X (.Name x px) iter wi)(he:∀cl C s H fp,PE (iY X x M scope cl C s H fp) elt te)
  (hs:∀x,foldedSetIterable iter X.env x=pure x:=by intro _;rfl):PE X (.ListComp elt [⟨.Name x px,iter,[],0⟩] scope pos) (Pa wi te):=by
 intro pins s σ H Q I h;obtain⟨cl,Gf,p1,p3⟩:=xw (scope:=scope) (env:=X.env) (λy hy hf=>I.ok.has y.1 (.inl (S.free y hy hf)))
 rw[eval_ListComp];refine wpAny_comprehension_free (use:=none) rfl hs Gf S.kind S.names (Dw (RR:=λacc C=>compPost (model X.prog X.w) X.A X.xe none (EP X pins σ Q) acc C) S hc hi he I h p1 p3 ?_)
 intro D C H' s' o m I' e hn h0 h1 h2 q;refine⟨m,hn,λh' hs'=>?_⟩
 have pC:=I'.pin (C,o) (kj _ (kj _ (by simp)))
 have IX:Inv X pins σ H' s':=I'.hZ;exact⟨.ref D,H',IX.turned (t':=s'.toks) (λb ob hb e=>(hs'.2 b hb).trans e) pC.2.1 pC.2.2.1 (.inr h0) h1 h2,rfl,q⟩
theorem J5 {i:Nat}{y:Str}{py aaM:Pos}(S:dP scope X.env.scope x X.N M)(hc:X.calm=true)(hj:X.N[i]?=some y)(hy:Loc X.env.scope y)(hi:PI X (.Name x px) iter wi)(he:∀cl C s H fp,PE (iY X x M scope cl C s H fp) elt te)
  (hsw:swapsWith (.ListComp elt [⟨.Name x px,iter,[],0⟩] scope pos) (some (.Name y py)) aaM.line X.env=pure true:=by rfl)
  (hf:X.fn y=true\/X.env.scope.names.lookup y=some .local:=by first | exact .inl rfl | exact .inr rfl | assumption)
  (hs:∀x,foldedSetIterable iter X.env x=pure x:=by intro _;rfl):PS X (.Assign [.Name y py] (.ListComp elt [⟨.Name x px,iter,[],0⟩] scope pos) aaM) (VX (Pa wi te) (f9 i)):=by
 intro pins s σ H D I h;obtain⟨cl,Gf,p1,p3⟩:=xw (scope:=scope) (env:=X.env) (λy hy hf=>I.ok.has y.1 (.inl (S.free y hy hf)))
 rw[exec_Assign_Name_used _ _ _ _ hsw];refine eg (alc (eg ?_));show wpAny _ _ (do let _ <-comprehension (.ListComp elt [⟨.Name x px,iter,[],0⟩] scope pos) scope X.env _ (newList []) false (eval iter X.env) (some (assign (.Name y py) X.env))) _ _ s
 refine eg (ako (wpAny_comprehension_free (use:=some (assign (.Name y py) X.env)) (Q:=λ_ s'=>SP X pins D .next s') rfl hs Gf S.kind S.names
  (Dw (RR:=λacc C=>compPost (model X.prog X.w) X.A X.xe (some (assign (.Name y py) X.env)) (λ_ s'=>SP X pins D .next s') acc C) S hc hi he I h p1 p3 ?_)) (λ_ s' hq=>si (si hq)) λ_ _ e=>e)
 intro Dd C H' s' o m I' e hn h0 h1 h2 q;show wpAny _ _ (assign (.Name y py) X.env (.ref Dd)) _ _ s';refine wpAny_assign_Name (vv I' S.nd hj hy (v:=.ref Dd) rfl (λs'' I''=>?_) hf)
 have pC:=I''.pin (C,o) (kj _ (kj _ (by simp)))
 obtain⟨o',es,ep,e0,r⟩:=hn;rw[e]at e0;cases e0;have IX:Inv X pins _ H' s'':=I''.hZ;refine⟨m,⟨o,es,ep,pC.1,r⟩,λh' hs'=>?_⟩
 exact⟨_,H',IX.turned (t':=s''.toks) (λb ob hb e=>(hs'.2 b hb).trans e) pC.2.1 pC.2.2.1 (.inr h0) h1 h2,q⟩
def eB (D:Addr)(n:Nat)(Pv:Nat->List V->Hp->Prop)(i:Nat)(ys:List V):VK:=λy H4=>H4 D=some (.lst ys)/\∃m',m' < n - i/\m'=n - (i+1)/\i+1<=n/\Pv (i+1) (ys++[y]) (upd H4 D (.lst (ys++[y])))
theorem eB.mk {D:Addr}{n:Nat}{Pv:Nat->List V->Hp->Prop}{i:Nat}{ys:List V}{y:V}{H4:Hp}(hi:i < n)(h1:H4 D=some (.lst ys))(h2:Pv (i+1) (ys++[y]) (upd H4 D (.lst (ys++[y])))):eB D n Pv i ys y H4 :=
 ⟨h1,n - (i+1),by omega,rfl,hi,h2⟩
theorem xx {K:ba}{a D:Addr}{xs:List V}{te:TE}{Q:VK}{σ:St}{H1:Hp}(Pv:Nat->List V->Hp->Prop)(h0:Pv 0 [] (upd H1 D (.lst [])))(hz:xs.length<=kf)
  (hl:∀i ys H2,i<=xs.length->Pv i ys H2->SqL K H2 a xs/\H2 D=some (.lst ys)/\ys.length=i)
  (hs:∀i x ys H2,xs[i]?=some x->Pv i ys H2->te (some x::σ) H2 (eB D xs.length Pv i ys)) (hd:∀ys H2,Pv xs.length ys H2->Q (.ref D) H2) :
  vG (Itl K a) te σ D H1 Q:=by
 refine⟨λi m ys H=>m=xs.length - i/\i<=xs.length/\Pv i ys H,⟨xs.length,by simp,ak6 _,h0⟩,?_⟩
 rintro i m ys H2 ⟨rfl,hi,p⟩;obtain⟨q,q2,q3⟩:=hl i ys H2 hi p;refine⟨q2,?_⟩
 by_cases hlt:i < xs.length
 ·refine .inr ⟨⟨xs,xs[i],q,by simp[hlt]⟩,by omega,λx H3 y=>?_⟩
  obtain⟨e,y⟩:=y;subst e;exact hs i x ys _ (y xs q) p
 ·have e:i=xs.length:=by omega
  subst e;exact .inl ⟨⟨xs,q,km _⟩,hd ys H2 p⟩
theorem J6 {lo:Int}{n:Nat}{D:Addr}{te:TE}{Q:VK}{σ:St}{H1:Hp}(Pv:Nat->List V->Hp->Prop)(h0:Pv 0 [] (upd H1 D (.lst [])))(hz:n<=kf)
  (hl:∀i ys H2,i<=n->Pv i ys H2->H2 D=some (.lst ys)/\ys.length=i)
  (hs:∀i ys H2,i < n->Pv i ys H2->te (some (.int (lo+i))::σ) H2 (eB D n Pv i ys)) (hd:∀ys H2,Pv n ys H2->Q (.ref D) H2) :
  vG (Itr lo n) te σ D H1 Q:=by
 refine⟨λi m ys H=>m=n - i/\i<=n/\Pv i ys H,⟨n,by simp,ak6 _,h0⟩,?_⟩
 rintro i m ys H2 ⟨rfl,hi,p⟩;obtain⟨q2,q3⟩:=hl i ys H2 hi p;refine⟨q2,?_⟩
 by_cases hlt:i < n
 ·refine .inr ⟨hlt,by omega,λx H3 y=>?_⟩
  obtain⟨e,y⟩:=y;subst e y;exact hs i ys _ hlt p
 ·have e:i=n:=by omega
  subst e;exact .inl ⟨km _,hd ys H2 p⟩
end
end L2
namespace L2
open PySem PySem.Spec PyProof.Rows
structure MkN (K:ba)(C:Addr):Prop where
 makes:ak5 K C=true
 init:cb K (.ref C) "__init__"=some (some (.builtin "object.__init__"))
 kp:da K (.ref C)=true
def Wk (C:Addr):TE:=λ_ H Q=>∀x dx,H x=none->H dx=none->dx≠x->Q (.ref x) (upd (upd H dx (.own x)) x (.ins C dx []))
section
variable{X:Cx}{C:Addr}{x:Str}{p pos:Pos}
theorem oQ (M:MkN X.K C)(hg:Gl X x)(hm:X.mg x=some (.ref C))(hdb:(x == ("__debug__":Str))=false:=by decide):PE X (.Call (.Name x p) [] [] pos) (Wk C):=by
 intro pins s σ H Q I h;refine wpAny_Call_Name_kw (j6 I hg hm ?_ hdb);refine alU I.kIn M.kp (wpAny_call ?_);have I2:=Inv.made (C:=C) I;have q:=h (s.heap.objs.size+1) s.heap.objs.size (I.hok.fresh (ak7 _)) (I.hok.fresh (km _)) (aks (Nat.lt_succ_self _));have fin:EP X pins σ Q (.ref (s.heap.objs.size+1)) { s with heap:=(s.heap.push akN).push (akS C s.heap.objs.size) }:=⟨.ref _,_,I2,rfl,q⟩
 have X1:=I.kIn;have e2:((s.heap.push akN).push (akS C s.heap.objs.size)).get? (s.heap.objs.size+1)=some (akS C s.heap.objs.size):=by
  have:=aku (s.heap.push akN) (o:=akS C s.heap.objs.size) rfl
  rwa [alA]at this
 clear I2 q h I;obtain⟨hh,g,d,t,os⟩:=s;have Y:=PySem.W.makes_of (M:=model X.prog X.w) X1 M.makes;refine PySem.W.make_core Y (PySem.W.looks_findIn X1 M.init) (λself=>PySem.W.Looks.of_pure (PySem.W.oi_bind self)) (.inr ⟨rfl,rfl⟩) ?_
 have t1:PySem.W.Looks (model X.prog X.w) ((hh.push akN).push (akS C hh.objs.size)) (typeOf (.ref (hh.objs.size+1))) (.ref C):=(PySem.W.Looks.ld e2).andThen .now;have t2:PySem.W.Looks (model X.prog X.w) ((hh.push akN).push (akS C hh.objs.size)) (isInstance (.ref (hh.objs.size+1)) (.type "object")) true:=t1.andThen (Y.top.keeps λb o e=>gr _ (gr _ e))
 refine codeAny_call_builtin PySem.W.oi_plain PySem.W.entry_oi (@PySem.W.check_slot (model X.prog X.w) _ _ _ "object.__init__" "object" "__init__" (.ref (hh.objs.size+1)) [] [] _ PySem.W.oi_kind PySem.W.oi_split t2 (PySem.W.oi_args (.ref (hh.objs.size+1))) ?_);show wpAny _ _ (Builtin.«object.__init__» ⟨[.ref (hh.objs.size+1)],[]⟩) _ _ _;rw[PySem.W.oi_run];exact si (And.intro rfl fin)
end
structure aaN (P:Params)(K:ba)(a:Addr):Prop where
 ex:∃es n,K.lookup a=some ⟨.type "dict",none,.dict es n,#[]⟩/\PySem.W.KeysLit P es.toList
section
variable{X:Cx}
theorem Pd:IxR X (λx y H Q=>∃a z v u,x=.ref a/\y=.str z/\aaN X.w.params X.K a/\di X.K a z=some (some u)/\RelV v u/\Q v H):=by
 intro value slice pins s σ H x y v u Q I rx ry h hs;obtain⟨a,z,w',u',rfl,rfl,⟨es,n,hl,hk⟩,e,r,q⟩:=h;cases rx;obtain⟨t,rfl⟩:=ry;have hm:=PySem.W.mapOf_K (prog:=X.prog) I.kIn hl hk;exact tail_any hm.typeIs slot_dict_getitem.lookup (wpAny_getItem_of (strKind_is X.prog X.w z t) hm (PySem.W.find_K hl e) ⟨w',H,I.tok _,r,q⟩) hs
end
end L2
namespace L2
open PySem PySem.Spec PyProof.Rows
theorem Ss (bs:List Bool):(alD bs.length).any (λi=>bs.getD i false)=bs.any id:=by
 have e:(alD bs.length).map (λi=>bs.getD i false)=bs:=by
  apply List.ext_getElem
  ·simp
  ·intro i h1 h2;simp[h2]
 calc _=((alD bs.length).map (λi=>bs.getD i false)).any id:=by rw[List.any_map];rfl
  _=_:=by rw[e]
theorem Gh:∀ {bs:List Bool} {us:List Value},Vals (bs.map V.bl) us->us=bs.map Value.bool
 |[],_,.nil=>rfl
 |b::bs,_,.cons r t=>by
  cases r;rw[Gh t];rfl
section
variable{X:Cx}
theorem Pe (hc:X.calm=true):lC X (.builtin "any") (λxs H Q=>∃(p:Addr) (bs:List Bool),xs=[.ref p]/\SqL X.K H p (bs.map V.bl)/\Q (.bl (bs.any id)) H):=by
 intro pins s σ H xs us Q I r h;obtain⟨p,bs,rfl,hq,q⟩:=h;obtain⟨u,rfl,rx⟩:=vals1 r;cases rx;obtain⟨its,rv,pl,hz⟩:=I.list hq;obtain rfl:=Gh rv;refine call_any_walk (wpAny_pyIter_list pl.isList ?_);obtain⟨o,n,e,_⟩:=id pl;have hlt:p < s.heap.objs.size:=om e;refine⟨s.heap.objs.size,_,_,_,_,_,λi=>bs.getD i false,rfl,Walks.list (A:=X.A.in1) (show X.A.in1.handled=none from I.ok.hd hc) s.heap.objs.size p (aks hlt) (bs.map Value.bool).toArray,⟨⟨_,aku _ rfl,rfl,rfl⟩,pl.isList.at λo e=>gr _ e⟩,?_,λh' tk kk=>?_⟩
 ·intro i v s' Q' E' hv q';have hv':v=Value.bool (bs.getD i false):=by
   have h2:(bs.map Value.bool)[i]?=some v:=by simpa using hv
   rw[akK]at h2;cases hb:bs[i]? with
   |none=>rw[hb]at h2;cases h2
   |some b =>
    rw[hb]at h2;rw[akw,hb];exact(akx h2).symm
  rw[hv'];exact wpAny_truthy_bool q'
 ·have I1:Inv X pins σ H { s with heap:=h',toks:=tk }:=I.kept λb o e=>kk b o (by simp;exact aks (om e)) (gr _ e)
  refine⟨.bl _,H,I1,rfl,?_⟩;have e1:(bs.map Value.bool).toArray.size=bs.length:=by simp
  rw[e1,Ss];exact q
end
end L2
set_option maxHeartbeats 4000000
namespace L2
open PySem PySem.Spec PyProof.Rows
def aaO (X:Cx)(pins:List (Addr×Obj))(H:Hp)(h:Heap)(e:Addr)(vs:Array Value):Option Value->Prop
 |none=>vs[1]?=some .none
 |some m=>∃(T:Addr) (oT:Obj) (ts:Array Value),vs[1]?=some (.ref T)/\T≠e/\gJ X pins H T/\h.get? T=some oT/\oT.data=.fields ts/\ts[3]?=some m
structure XAt (X:Cx)(pins:List (Addr×Obj))(H:Hp)(h:Heap)(e:Addr)(cls:Value)(xd:Option Addr)(m:Option Value):Prop where
 ok:gJ X pins H e
 ex:∃(sl:Array (Option Value)) (vs:Array Value),h.get? e=some ⟨cls,xd,.fields vs,sl⟩/\1 < vs.size/\aaO X pins H h e vs m
def MOk (_:Cx)(m:Option Value):Prop:=m=none\/m=some .none\/∃v,m=some v
def XP (X:Cx)(pins:List (Addr×Obj))(σ:St)(E:XK)(e:Value)(s':Shared):Prop :=
 ∃(ea:Addr) (cls:Value) (xd:Option Addr) (m:Option Value) (H':Hp),e=.ref ea/\Inv X pins σ H' s'/\XAt X pins H' s'.heap ea cls xd m/\MOk X m/\E cls xd H'
abbrev SXK:=St->XK
def XPS (X:Cx)(pins:List (Addr×Obj))(E:SXK)(e:Value)(s':Shared):Prop:=∃σ',XP X pins σ' (E σ') e s'
structure Fr1 (X:Cx):Prop where
 stk:X.stack=X.env::X.outer
 fr:X.env.frame=some X.env.locals
section
variable{X:Cx}{pins:List (Addr×Obj)}{σ:St}{H H':Hp}{s:Shared}{e:Addr}{cls:Value}{xd:Option Addr}{m:Option Value}
theorem gJ.aik {b:Addr}(I:Inv X pins σ H s)(f:gJ X pins H' b):b∉frs X.stack:=λz=>by
 rcases List.mem_cons.mp (I.AJ b z) with q | q
 ·exact f.2.1 q
 ·exact f.2.2.1 q
theorem gJ.drop {pl:List (Addr×Obj)}{b:Addr}(f:gJ X (pins++pl) H b):gJ X pins H b :=
 ⟨f.1,f.2.1,f.2.2.1,f.2.2.2.1,f.2.2.2.2.1,λp hp=>f.2.2.2.2.2 p ((List.mem_append.mp hp).elim (λz=>akZ _ z) λz=>kj _ (akZ _ z))⟩
theorem gJ.clear {b:Addr}(f:gJ X pins H b):gJ X [] H b :=
 ⟨f.1,f.2.1,f.2.2.1,f.2.2.2.1,f.2.2.2.2.1,λp hp=>f.2.2.2.2.2 p ((List.mem_append.mp hp).elim (λz=>akZ _ z) λz=>nomatch z)⟩
theorem XAt.drop {pl:List (Addr×Obj)}{h:Heap}(x:XAt X (pins++pl) H h e cls xd m):XAt X pins H h e cls xd m:=by
 obtain⟨ok,sl,vs,he,hz,hm⟩:=x;refine⟨ok.drop,sl,vs,he,hz,?_⟩;cases m with
 |none=>exact hm
 |some m=>obtain⟨T,oT,ts,a,b,c,d⟩:=hm;exact⟨T,oT,ts,a,b,c.drop,d⟩
theorem XAt.clear {h:Heap}(x:XAt X pins H h e cls xd m):XAt X [] H h e cls xd m:=by
 obtain⟨ok,sl,vs,he,hz,hm⟩:=x;refine⟨ok.clear,sl,vs,he,hz,?_⟩;cases m with
 |none=>exact hm
 |some m=>obtain⟨T,oT,ts,a,b,c,d⟩:=hm;exact⟨T,oT,ts,a,b,c.clear,d⟩
theorem XP.drop {pl:List (Addr×Obj)}{E:XK}{v:Value}(x:XP X (pins++pl) σ E v s):XP X pins σ E v s:=by
 obtain⟨ea,cls,xd,m,H',rfl,I,hx,hm,q⟩:=x;exact⟨ea,cls,xd,m,H',rfl,I.hZ,hx.drop,hm,q⟩
theorem Wl {h':Heap}(I:Inv X pins σ H s)(he:gJ X pins H e)(k1:∀b o,b∉frs X.stack->b≠e->s.heap.get? b=some o->h'.get? b=some o)
  (k2:∀b o,b≠e->s.heap.get? b=some o->∃sl,h'.get? b=some { o with slots:=sl }):Un (frs X.stack) [e] H H s.heap h'/\HOk X.prog X.w H h':=by
 refine⟨⟨λb o q _ hb hx=>k1 b o hb (by simpa using hx) q,λb o q _ _ hx=>k2 b o (by simpa using hx) q,λb o _ n _=>n,λb o q hx=>?_,λ_ _ q=>q,λ_ _ _ q=>q,λ_ ps q=>⟨#[],by rw[q];simp⟩⟩,λa o q=>?_⟩
 ·obtain⟨sl,z⟩:=k2 b o (by simpa using hx) q
  exact⟨_,z⟩
 ·refine(I.hok a o q).F0 (λb u hb r=>k1 b u (λz=>?_) (λz=>?_) r) (λ_ z=>z) (λ_ _ z=>z)
  ·have n:=I.Al b z;rcases hb with rfl | hb
   ·rw[q]at n;cases n
   ·rw[hb]at n;cases n
  ·have n:=he.1;rw[<-z]at n;rcases hb with rfl | hb
   ·rw[q]at n;cases n
   ·rw[hb]at n;cases n
theorem Su {h':Heap}(I:Inv X pins σ H s)(he:gJ X pins H e)(k1:∀b o,b∉frs X.stack->b≠e->s.heap.get? b=some o->h'.get? b=some o)
  (k2:∀b o,b≠e->s.heap.get? b=some o->∃sl,h'.get? b=some { o with slots:=sl }):Inv X pins σ H { s with heap:=h' }:=by
 obtain⟨u,ok⟩:=Wl I he k1 k2;refine I.call (g':=s.gens) (t':=s.toks) (d':=s.drawn) u ok I.bare λb hb=>?_
 obtain rfl:b=e:=by simpa using hb
 exact⟨he.2.2.2.1,he.2.1,he.2.2.2.2.1,he.2.2.2.2.2⟩
theorem Mg {M:Model}{A:Around}{E:Value->Shared->Prop}{head:Value}{Sv:Bool}{sl:Array (Option Value)}{vs:Array Value}{Q:Unit->Shared->Prop}(F:Fr1 X)(hA:A.frames=some X.stack)(I:Inv X pins σ H s)(ok:gJ X pins H e)
  (he:s.heap.get? e=some ⟨cls,xd,.fields vs,sl⟩) (hz:1 < vs.size) (h:∀s',Inv X pins σ H s'->XAt X pins H s'.heap e cls xd (some (rawInt X.env.locals))->Q () s') :
  wpAny M A (do let a <-frameOf X.env;let pl <-entryPlaceOf X.env.locals Sv;let b <-EntryCells.newEntry head a .none (rawInt X.env.locals) .none pl;setField (.ref e) 1 b) Q E s:=by
 have nE:e∉frs X.stack:=ok.aik I;have fs:=I.stack;rw[F.stk]at hA fs nE;refine eg (wpAny_frameOf_fun hA fs F.fr λh₁ so=>?_)
 refine eg (wpAny_entryPlaceOf λpl hpl=>?_)
 unfold EntryCells.newEntry newFields;refine eg (wpAny_newObj_type ?_ (hpl.sizeOk5 _ _ _ _ _));generalize ht:([head,.ref X.env.locals,.none,rawInt X.env.locals,.none]++(if pl.isEmpty then alV 6 alM else pl)).toArray=ts
 have t3:ts[3]?=some (rawInt X.env.locals):=by rw[<-ht];simp
 have e1:h₁.get? e=some ⟨cls,xd,.fields vs,sl⟩:=(so.2.1 e nE).trans he;have e2:=gr (h:=h₁) { cls:=.type "traceback",dict:=none,data:=.fields ts } e1;refine wpAny_setField e2 rfl hz ?_;have sz:h₁.objs.size=s.heap.objs.size:=so.1;have nT:h₁.objs.size≠e:=Nat.ne_of_gt (om e1);have k0:∀b o,b≠e->h₁.get? b=some o->((h₁.push { cls:=.type "traceback",dict:=none,data:=.fields ts }).update e (als (·.setIfInBounds 1 (akt h₁.objs.size)))).get? b=some o:=λb o hb q =>
  (ak3 _ _ (akI hb)).trans (gr _ q)
 have I':=Su (h':=(h₁.push { cls:=.type "traceback",dict:=none,data:=.fields ts }).update e (als (·.setIfInBounds 1 (akt h₁.objs.size)))) I ok
  (λb o hb hbe q=>k0 b o hbe ((so.2.1 b (by rw[<-F.stk];exact hb)).trans q)) (λb o hbe q=>by obtain⟨sl,z⟩:=so.2.2 b o q;exact⟨sl,k0 b _ hbe z⟩)
 have fT:gJ X pins H h₁.objs.size:=I.AN (by rw[sz];exact km _) (by rw[sz];exact I.fresh)
 have gE:((h₁.push { cls:=.type "traceback",dict:=none,data:=.fields ts }).update e (als (·.setIfInBounds 1 (akt h₁.objs.size)))).get? e=some ⟨cls,xd,.fields (vs.setIfInBounds 1 (akt h₁.objs.size)),sl⟩ :=
  alz (als (·.setIfInBounds 1 (akt h₁.objs.size))) e2 rfl
 have gT:((h₁.push { cls:=.type "traceback",dict:=none,data:=.fields ts }).update e (als (·.setIfInBounds 1 (akt h₁.objs.size)))).get? h₁.objs.size=some { cls:=.type "traceback",dict:=none,data:=.fields ts } :=
  (ak3 _ _ (akI nT)).trans (aku h₁ rfl)
 exact h _ I' ⟨ok,sl,_,gE,by simpa using hz,h₁.objs.size,_,ts,by simp[hz],nT,fT,gT,rfl,t3⟩
theorem rS {M:Model}{A:Around}{E:Value->Shared->Prop}{f:Option Addr}{mv:Value}{Q:Unit->Shared->Prop}(I:Inv X pins σ H s)(x:XAt X pins H s.heap e cls xd (some mv))
  (h:∀s',Inv X pins σ H s'->XAt X pins H s'.heap e cls xd (some (f.elim .none λb=>rawInt b))->Q () s'):wpAny M A (setFlight (.ref e) f) Q E s:=by
 obtain⟨ok,sl,vs,he,hz,T,oT,ts,h1,nT,fT,hT,hd,h3⟩:=x;unfold setFlight;refine eg (wpAny_field he rfl h1 ?_);rw[if_pos (show (akt T != alM)=true by simp)]
 have z3:3 < ts.size:=(Array.getElem?_eq_some_iff.mp h3).1;refine wpAny_setField hT hd z3 ?_;have other:∀b,b≠T->(s.heap.update T (als (·.setIfInBounds 3 (f.elim alM λb=>rawInt b)))).get? b=s.heap.get? b:=λb hb=>ak3 _ _ (akI hb)
 have I':=I.turned (t':=s.toks) (h':=s.heap.update T (als (·.setIfInBounds 3 (f.elim alM λb=>rawInt b)))) (λb o hb q=>(other b hb).trans q) fT.1 fT.2.1 fT.2.2.2.1 fT.2.2.2.2.1 fT.2.2.2.2.2
 exact h _ I' ⟨ok,sl,vs,(other e (akI nT)).trans he,hz,T,_,_,h1,nT,fT,alz _ hT (Obj.isFreed_of_fields (Obj.data_mapFields hd _)),Obj.data_mapFields hd _,by simp[z3]⟩
theorem J7 {M:Model}{A:Around}{E:Value->Shared->Prop}{Q:Unit->Shared->Prop}(F:Fr1 X)(hA:A.frames=some X.stack)(I:Inv X pins σ H s)(x:XAt X pins H s.heap e cls xd m)(hm:MOk X m)
  (h:∀s',Inv X pins σ H s'->XAt X pins H s'.heap e cls xd (some (rawInt X.env.locals))->Q () s'):wpAny M A (noteFrame (.ref e) X.env) Q E s:=by
 obtain⟨ok,sl,vs,he,hz,hv⟩:=x;unfold noteFrame;simp only[F.fr];cases m with
 |none =>
  refine eg (wpAny_field he rfl hv ?_);rw[if_neg (by decide)]
  exact Mg F hA I ok he hz h
 |some mv =>
  obtain⟨T,oT,ts,h1,nT,fT,hT,hd,h3⟩:=hv;refine eg (wpAny_field he rfl h1 ?_);rw[if_pos (show (akt T != alM)=true by simp)]
  refine eg (wpAny_field hT hd h3 ?_)
  by_cases hmv:mv=rawInt X.env.locals
  ·subst hmv;rw[if_pos (show (rawInt X.env.locals == rawInt X.env.locals)=true by simp)]
   exact si (h s I ⟨ok,sl,vs,he,hz,T,oT,ts,h1,nT,fT,hT,hd,h3⟩)
  ·rw[if_neg (show ¬(mv == rawInt X.env.locals)=true from λz=>hmv (beq_iff_eq.mp z))]
   have z3:3 < ts.size:=(Array.getElem?_eq_some_iff.mp h3).1;refine eg (wpAny_setField hT hd z3 ?_);have other:∀b,b≠T->(s.heap.update T (als (·.setIfInBounds 3 alM))).get? b=s.heap.get? b:=λb hb=>ak3 _ _ (akI hb)
   have I':=I.turned (t':=s.toks) (h':=s.heap.update T (als (·.setIfInBounds 3 alM))) (λb o hb q=>(other b hb).trans q) fT.1 fT.2.1 fT.2.2.2.1 fT.2.2.2.2.1 fT.2.2.2.2.2
   exact Mg F hA I' ok ((other e (akI nT)).trans he) hz h
end
abbrev CXX (P:me)(w:World):CXT:=λouter H s E e s'=>∃(ea T:Addr) (cls:Value) (xd:Option Addr) (H':Hp),e=.ref ea/\s'.os=s.os/\AllBare s'.gens/\Un (frs outer) [] H H' s.heap s'.heap/\HOk P w H' s'.heap /\
 (H' ea=none/\s.heap.objs.size<=ea)/\(H' T=none/\s.heap.objs.size<=T)/\T≠ea /\
 (∃(sl:Array (Option Value)) (vs:Array Value) (oT:Obj) (ts:Array Value),s'.heap.get? ea=some ⟨cls,xd,.fields vs,sl⟩/\1 < vs.size/\vs[1]?=some (.ref T)/\s'.heap.get? T=some oT/\oT.data=.fields ts/\ts[3]?=some .none)/\E cls xd H'
section
variable{X:Cx}{pins:List (Addr×Obj)}{σ:St}{H:Hp}{s s':Shared}
theorem Wm {E:XK}{e:Value}(I:Inv X pins σ H s)(h:CXX X.prog X.w X.stack H s E e s'):XP X pins σ E e s':=by
 obtain⟨ea,T,cls,xd,H',rfl,os,bare,un,hok,⟨e1,e2⟩,⟨t1,t2⟩,ne,⟨sl,vs,oT,ts,g1,g2,g3,g4,g5,g6⟩,q⟩:=h;have I':Inv X pins σ H' s':=I.L9 (ch:=[]) os un hok bare λb z=>absurd z (by simp)
 exact⟨ea,cls,xd,some .none,H',rfl,I',⟨I.AN e2 e1,sl,vs,g1,g2,T,oT,ts,g3,ne,I.AN t2 t1,g4,g5,g6⟩,.inr (.inl rfl),q⟩
theorem Pf:Passes (CXX X.prog X.w) X E0:=λ_ _ _ _ _ _ _ ⟨_,_,_,_,_,_,_,_,_,_,_,_,_,_,z⟩=>z.elim
end
section
variable{P:me}{w:World}{K:ba}{mg:Str->Option Value}{base:Heap}{k:Nat}{f:Addr}{fd:ki}{ps:List Str}{sp:Sp}
theorem aO.calm (F:aO P w K mg base (CXX P w) k f fd ps sp)(h:∀vs H Q E,sp vs H Q E->sp vs H Q E0):aO P w K mg base CX0 k f fd ps sp:=by
 refine⟨F.len,λA outer s H args us vs Q E hr he hb hv hs=>codeAny_mono (F.run A outer s H args us vs Q E0 hr he hb hv (h _ _ _ _ hs)) λr s' q=>?_⟩
 cases r with
 |error e=>obtain⟨_,_,_,_,_,_,_,_,_,_,_,_,_,_,z⟩:=q;exact z.elim
 |ok fl=>cases fl <;> exact q
theorem Sw {N:List Str}{qual:Str}{scope:Scope}{cd:Value}{A:Around}{outer:List Env}{s s':Shared}{H:Hp}{E:XK}{e:Value}{pins:List (Addr×Obj)}
  (h:XPS (vz (CXX P w) P w K mg base N qual scope f cd A outer s H E) pins (λ_=>E) e s'):(vz (CXX P w) P w K mg base N qual scope f cd A outer s H E).xe e s':=by
 obtain⟨σ',ea,cls,xd,m,H',rfl,I,hx,hm,q⟩:=h;have fr:(vz (CXX P w) P w K mg base N qual scope f cd A outer s H E).A.frames=some (vz (CXX P w) P w K mg base N qual scope f cd A outer s H E).stack:=I.ok.frames;have F1:Fr1 (vz (CXX P w) P w K mg base N qual scope f cd A outer s H E):=⟨rfl,rfl⟩;show wpAny _ _ (leaving (vz (CXX P w) P w K mg base N qual scope f cd A outer s H E).env (.ref ea)) _ _ s';unfold leaving;refine eg (J7 F1 fr I hx hm λs1 I1 x1=>rS I1 x1 λs2 I2 x2=>?_)
 obtain⟨ok,sl,vs,he,hz,T,oT,ts,h1,nT,fT,hT,hd,h3⟩:=x2;have old:∀ {b:Addr},gJ (vz (CXX P w) P w K mg base N qual scope f cd A outer s H E) pins H' b->s.heap.objs.size<=b:=λ{b} z=>by
  rcases z.2.2.2.1 with y | y
  ·exact absurd (show b∈([]:List Addr) from y) (by simp)
  ·exact y
 exact⟨ea,T,cls,xd,H',rfl,I2.os,I2.bare,I2.base,I2.hok,⟨ok.1,old ok⟩,⟨fT.1,old fT⟩,nT,⟨sl,vs,oT,ts,he,hz,h1,hT,hd,h3⟩,q⟩
end
abbrev TEX:=St->Hp->VK->XK->Prop
abbrev TAX:=St->Hp->(List V->Hp->Prop)->XK->Prop
abbrev TSX:=Ends->SXK->St->Hp->Prop
def PEX (X:Cx)(e:Expr)(t:TEX):Prop :=
 ∀(pins:List (Addr×Obj)) (s:Shared) (σ:St) (H:Hp) (Q:VK) (E:XK),Inv X pins σ H s->t σ H Q E->wpAny (model X.prog X.w) X.A (eval e X.env) (EP X pins σ Q) (XP X pins σ E) s
def PAX (X:Cx)(es:List Expr)(t:TAX):Prop :=
 ∀(pos:Pos) (pins:List (Addr×Obj)) (s:Shared) (σ:St) (H:Hp) (Q:List V->Hp->Prop) (E:XK),Inv X pins σ H s->t σ H Q E->wpAny (model X.prog X.w) X.A (spliced (backTo pos (adm es X.env))) (AP X pins σ Q) (XP X pins σ E) s
def PSX (X:Cx)(st:Stmt)(t:TSX):Prop :=
 ∀(pins:List (Addr×Obj)) (s:Shared) (σ:St) (H:Hp) (D:Ends) (E:SXK),Inv X pins σ H s->t D E σ H->wpAny (model X.prog X.w) X.A (exec st X.env) (SP X pins D) (XPS X pins E) s
def Gi (X:Cx)(st:List Stmt)(t:TSX):Prop :=
 ∀(pins:List (Addr×Obj)) (s:Shared) (σ:St) (H:Hp) (D:Ends) (E:SXK),Inv X pins σ H s->t D E σ H->wpAny (model X.prog X.w) X.A (execs st X.env) (SP X pins D) (XPS X pins E) s
def Wn (te:TE):TEX:=λσ H Q _=>te σ H Q
def Wo (ta:TA):TAX:=λσ H Q _=>ta σ H Q
def Pg (ts:TS):TSX:=λD _ σ H=>ts D σ H
def Ph (t1:TEX)(t2:TAX):TAX:=λσ H Q E=>t1 σ H (λx H1=>t2 σ H1 (λxs H2=>Q (x::xs) H2) E) E
def Us (t1 t2:TSX):TSX:=λD E σ H=>t1 { D with nx:=t2 D E } E σ H
def aaP (tc:TT)(t1 t2:TSX):TSX:=λD E σ H=>tc σ H λd H1=>if d=true then t1 D E σ H1 else t2 D E σ H1
def Pj (t:TEX):TSX:=λD E σ H=>t σ H (λ_ H1=>D.nx σ H1) (E σ)
def Ut (t:TEX):TSX:=λD E σ H=>t σ H D.rt (E σ)
def Pk (t:TAX)(sp:Sp):TEX:=λσ H Q E=>t σ H (λvs H1=>sp vs H1 Q E) E
def Pl (C:Addr)(m:Str)(ta:TEX)(t:TAX)(sp:Sp):TEX:=λσ H Q E=>ta σ H (λx H1=>∃a dx fs,x=.ref a/\H1 a=some (.ins C dx fs)/\fs.lookup m=none/\t σ H1 (λvs H2=>sp (x::vs) H2 Q E) E) E
def Mh (C:Addr)(m:Str)(ta:TEX)(sp:Sp):TEX:=λσ H Q E=>ta σ H (λx H1=>∃a dx fs,x=.ref a/\H1 a=some (.ins C dx fs)/\fs.lookup m=none/\sp [x] H1 Q E) E
section
variable{X:Cx}{e:Expr}{es:List Expr}{st:Stmt}{sts:List Stmt}{te:TE}{ta:TA}{ts:TS}{pos:Pos}
theorem EP.d9 {pins:List (Addr×Obj)}{σ:St}{Q:VK}{u:Value}{s':Shared}{W:Value->Shared->Prop}(h:EP (X.nU W) pins σ Q u s'):EP X pins σ Q u s':=by
 obtain⟨v,H',I,r,q⟩:=h;exact⟨v,H',I.d9,r,q⟩
theorem px (h:PE X.nox e te):PEX X e (Wn te):=λpins s σ H Q _ I hw =>
 ako (h pins s σ H Q (I.nU _) hw) (λ_ _ q=>q.d9) λ_ _ z=>akF z
theorem pax (h:PA X.nox es ta):PAX X es (Wo ta):=λpos pins s σ H Q _ I hw =>
 ako (h pos pins s σ H Q (I.nU _) hw) (λ_ _ ⟨vs,H',I',r,q⟩=>⟨vs,H',I'.d9,r,q⟩) λ_ _ z=>akF z
theorem psx (h:PS X.nox st ts):PSX X st (Pg ts):=λpins s σ H D _ I hw =>
 ako (h pins s σ H D (I.nU _) hw) (λ_ _ q=>q.d9) λ_ _ z=>akF z
theorem xy (h:PSs X.nox sts ts):Gi X sts (Pg ts):=λpins s σ H D _ I hw =>
 ako (h pins s σ H D (I.nU _) hw) (λ_ _ q=>q.d9) λ_ _ z=>akF z
theorem Ao:PAX X [] (λ_ H Q _=>Q [] H):=λ_ _ _ _ H Q _ I h=>Calls.spliced_nil ⟨[],H,I,.nil,h⟩
theorem kK {t1:TEX}{t2:TAX}(ha:PEX X e t1)(hr:PAX X es t2)(hs:adm (e::es) X.env=(false,eval e X.env)::adm es X.env:=by rfl) :
  PAX X (e::es) (Ph t1 t2):=by
 intro pos pins s σ H Q E I h;unfold Ph at h;rw[hs];refine Calls.spliced_cons (ako (ha pins s σ H _ E I h) (λu s1 ⟨x,H1,I1,r1,q1⟩=>?_) λ_ _ z=>z)
 exact ako (hr pos pins s1 σ H1 _ E I1 q1) (λus s2 ⟨xs,H2,I2,r2,q2⟩=>⟨x::xs,H2,I2,.cons r1 r2,q2⟩) λ_ _ z=>z
theorem bb {t1 t2:TSX}(h1:PSX X st t1)(h2:Gi X sts t2):Gi X (st::sts) (Us t1 t2):=by
 intro pins s σ H D E I h;unfold Us at h;refine wpAny_execs_cons (thn (h1 pins s σ H { D with nx:=t2 D E } E I h) λf s1 q=>?_)
 cases f with
 |next =>
  obtain⟨σ',H',I',q⟩:=q;exact h2 pins s1 σ' H' D E I' q
 |ret v=>exact q
 |brk=>exact q
 |cont=>exact q
theorem bE {t1:TSX}(h1:PSX X st t1):Gi X [st] t1:=by
 intro pins s σ H D E I h;refine wpAny_execs_cons (thn (h1 pins s σ H D E I h) λf s1 q=>?_)
 cases f with
 |next=>exact wpAny_execs_nil q
 |ret v=>exact q
 |brk=>exact q
 |cont=>exact q
theorem iB {c:Expr}{a b:List Stmt}{tc:TT}{t1 t2:TSX}(hc:PT X.nox c tc)(ha:Gi X a t1)(hb:Gi X b t2):PSX X (.If c a b pos) (aaP tc t1 t2):=by
 intro pins s σ H D E I h;unfold aaP at h;refine wpAny_If (ako (hc pins s σ H _ (I.nU _) h) (λd s1 ⟨H1,I1,q1⟩=>?_) λ_ _ z=>akF z)
 cases d with
 |true=>exact ha pins s1 σ H1 D E I1.d9 q1
 |false=>exact hb pins s1 σ H1 D E I1.d9 q1
theorem mr {t:TEX}(he:PEX X e t)(hs:swapsWith e none pos.line X.env=pure false:=by rfl):PSX X (.Expr e pos) (Pj t):=by
 intro pins s σ H D E I h;unfold Pj at h;exact wpAny_Expr_any (ako (he pins s σ H _ _ I h) (λv s1 ⟨x,H1,I1,r1,q1⟩=>⟨σ,H1,I1,q1⟩) λ_ _ z=>⟨σ,z⟩) I.quiet hs
theorem Aq {t:TEX}(he:PEX X e t):PSX X (.Return (some e) pos) (Ut t):=by
 intro pins s σ H D E I h;unfold Ut at h;exact wpAny_Return_some (ako (he pins s σ H _ _ I h) (λv s1 ⟨x,H1,I1,r1,q1⟩=>⟨x,σ,H1,I1,r1,q1⟩) λ_ _ z=>⟨σ,z⟩)
end
section
variable{X:Cx}{k:Nat}{f C:Addr}{fd:ki}{ps:List Str}{sp:Sp}{x m:Str}{p pos apos:Pos}{e o:Expr}{es:List Expr}{t:TAX}
theorem EJ {pins:List (Addr×Obj)}{σ:St}{H:Hp}{s:Shared}{Q:VK}{E:XK}{us:List Value}{vs:List V}(F:aO X.prog X.w X.K X.mg X.base (CXX X.prog X.w) k f fd ps sp)(hr:Room k X.A)(hb:Binds X.K fd ps [])
  (I:Inv X pins σ H s) (r:Vals vs us) (h:sp vs H Q E):wpAny (model X.prog X.w) X.A (call (.ref f) us) (EP X pins σ Q) (XP X pins σ E) s:=by
 have hl:(us++[]).length=ps.length:=by rw[alj,<-r.length];exact F.len _ _ _ _ h
 have b:=hb s us I.kIn hl;rw[alj]at b;refine wpAny_call (codeAny_mono (F.run X.A X.stack s H ⟨us,[]⟩ us vs Q E hr I.Sg b r h) λr s' hq=>?_)
 cases r with
 |error e=>exact Wm I hq
 |ok fl =>
  cases fl with
  |ret u=>exact I.after hq
  |next=>exact akF hq
  |brk=>exact akF hq
  |cont=>exact akF hq
theorem vH (F:aO X.prog X.w X.K X.mg X.base (CXX X.prog X.w) k f fd ps sp)(hr:Room k X.A)(hg:Gl X x)(hm:X.mg x=some (.ref f))(hk:da X.K (.ref f)=true)(hb:Binds X.K fd ps [])(ha:PAX X (e::es) t)
  (hdb:(x == ("__debug__":Str))=false:=by decide) (he:adm (e::es) X.env=(false,eval e X.env)::adm es X.env:=by rfl) (hpl:(backTo pos (adm es X.env)).any (·.1)=false:=by rfl) :
  PEX X (.Call (.Name x p) (e::es) [] pos) (Pk t sp):=by
 intro pins s σ H Q E I h;unfold Pk at h;refine wpAny_Call_Name_kw (j6 I hg hm ?_ hdb);exact alW (h₀:=X.base) I.ok.mod.kin hk (thn (ha pos pins s σ H _ E I h) λus s1 ⟨vs,H1,I1,r,q⟩=>⟨I1.kIn,EJ F hr hb I1 r q⟩) he hpl
theorem vI {pl:Sem Bool}{ta:TEX}(he:PEX X o ta)(c:Cls X.K C)(hm:Meth X.K C m f)(F:aO X.prog X.w X.K X.mg X.base (CXX X.prog X.w) k f fd ps sp)(hr:Room k X.A)(hb:Binds X.K fd ps [])(ha:PAX X (e::es) t)
  (hst:adm (e::es) X.env=(false,eval e X.env)::adm es X.env:=by rfl) (hpl:(backTo pos (adm es X.env)).any (·.1)=false:=by rfl)
  (ht:eval (.Call (.Attribute o m apos) (e::es) [] pos) X.env=(do
   let ov <-eval o X.env
   standAt apos.atName
   let (f,first) <-holding [ov] (getMethod ov m pl)
   callWith pos f first (backTo pos (adm (e::es) X.env)) (backToKw pos (keywordEach [] X.env))):=by rfl) :
  PEX X (.Call (.Attribute o m apos) (e::es) [] pos) (Pl C m ta t sp):=by
 intro pins s σ H Q E I h;unfold Pl at h;refine alg (pl:=pl) (thn (he pins s σ H _ E I h) λu s1 ⟨x,H1,I1,rx,a,dx,fs,ex,ea,l,q⟩=>?_) ht
 subst ex;obtain rfl:u=akt a:=rx;refine jx I1 ea c hm l ?_;exact alW (first:=[.ref a]) (h₀:=X.base) I.ok.mod.kin hm.kp (thn (ha pos pins s1 σ H1 _ E I1 q) λus s2 ⟨vs,H2,I2,r,q2⟩=>⟨I2.kIn,EJ (us:=.ref a::us) (vs:=.ref a::vs) F hr hb I2 (.cons rfl r) q2⟩) hst hpl
theorem xA {pl:Sem Bool}{ta:TEX}(he:PEX X o ta)(c:Cls X.K C)(hm:Meth X.K C m f)(F:aO X.prog X.w X.K X.mg X.base (CXX X.prog X.w) k f fd ps sp)(hr:Room k X.A)(hb:Binds X.K fd ps [])
  (ht:eval (.Call (.Attribute o m apos) [] [] pos) X.env=(do
   let ov <-eval o X.env
   standAt apos.atName
   let (f,first) <-holding [ov] (getMethod ov m pl)
   callWith pos f first (backTo pos (adm [] X.env)) (backToKw pos (keywordEach [] X.env))):=by rfl) :
  PEX X (.Call (.Attribute o m apos) [] [] pos) (Mh C m ta sp):=by
 intro pins s σ H Q E I h;unfold Mh at h;refine alg (pl:=pl) (thn (he pins s σ H _ E I h) λu s1 ⟨x,H1,I1,rx,a,dx,fs,ex,ea,l,q⟩=>?_) ht
 subst ex;obtain rfl:u=akt a:=rx;refine jx I1 ea c hm l ?_;exact alU (first:=[.ref a]) I1.kIn hm.kp (EJ (us:=[.ref a]) (vs:=[.ref a]) F hr hb I1 (.cons rfl .nil) q)
end
section
variable{P:me}{w:World}{K:ba}{mg:Str->Option Value}{base:Heap}
theorem Fun.okX {x qual:Str}{st:Stmt}{f:Addr}{fd:ki}{N ps:List Str}{k:Nat}{sp:Sp}(F:Fun K x qual st f fd)(S:aT N ps (ag st))(len:∀vs H Q E,sp vs H Q E->vs.length=ps.length)
  (F5:∀(cdv:Value) (A:Around) (outer:List Env) (s:Shared) (H:Hp) (vs:List V) (Q:VK) (E:XK),Room k (A.deeper (envOfC qual (ag st) s.heap.objs.size f cdv))->sp vs H Q E ->
   ∃t,Gi (vz (CXX P w) P w K mg base N qual (ag st) f cdv A outer s H E) (aQ st) t/\t { nx:=λ_ H'=>Q .non H',rt:=Q } (λ_=>E) (start N vs) H):aO P w K mg base (CXX P w) (k+1) f fd ps sp:=by
 obtain⟨oc,od,kV,doc,pm,an,cdv,ct,osl,rfl,lk,hcd⟩:=F.ex;refine Uq lk hcd S len λA outer s H vs Q E hr hsp=>?_
 obtain⟨t,h,q⟩:=F5 cdv A outer s H vs Q E hr hsp;exact⟨λD σ H=>t D (λ_=>E) σ H,λpins s1 σ H1 D I hw=>ako (h pins s1 σ H1 D _ I hw) (λ_ _ z=>z) λ_ _ z=>Sw z,q⟩
end
end L2
set_option maxHeartbeats 4000000
namespace L2
open PySem PySem.Spec PyProof.Rows
abbrev hcx (X:Cx)(e:Addr):Cx:={ X with A:=X.A.mark (some (.ref e)),calm:=false,xe:=λ_ _=>False }
section
variable{X:Cx}{pins:List (Addr×Obj)}{σ:St}{H:Hp}{s:Shared}{e:Addr}{cls:Value}{xd:Option Addr}{m:Option Value}
theorem Pm (I:Inv X pins σ H s)(e:Addr):Inv (hcx X e) pins σ H s :=
 ⟨⟨I.ok.mod,I.ok.kind,I.ok.glob,I.ok.blt,I.ok.above,I.ok.inj,I.ok.has,I.ok.cab,λz=>absurd (show false=true from z) kx,I.ok.frames,I.ok.stk,I.ok.exf,I.ok.bs,I.ok.bsz,I.ok.Es,I.ok.Et,I.ok.uw,I.ok.frf⟩,I.os,I.bare,I.base,I.loc,I.cell,I.free,I.oN,I.pin,I.hok,I.len⟩
theorem Ar (ok:X.Ok)(I:Inv (hcx X e) pins σ H s):Inv X pins σ H s:=⟨ok,I.os,I.bare,I.base,I.loc,I.cell,I.free,I.oN,I.pin,I.hok,I.len⟩
end
abbrev THX:=Ends->SXK->St->XK
def Uu (K:ba)(C:Addr)(ts:TS)(tr:THX):THX:=λD E σ cls xd H=>∃b,akA K cls (.ref C)=some b/\if b=true then ts D σ H else tr D E σ cls xd H
def Uv (tb:TSX)(th:THX):TSX:=λD E σ H=>tb D (λσ' cls xd H'=>th D E σ' cls xd H') σ H
def PHX (X:Cx)(hs:List ExceptHandler)(t:THX):Prop :=
 ∀(pins:List (Addr×Obj)) (s:Shared) (σ:St) (H:Hp) (D:Ends) (E:SXK) (ea:Addr) (cls:Value) (xd:Option Addr),Inv X pins σ H s->XAt X pins H s.heap ea cls xd (some .none)->t D E σ cls xd H ->
  wpAny (model X.prog X.w) X.A (handleBy (.ref ea) X.env hs) (SP X pins D) (XPS X pins E) s
section
variable{X:Cx}{x n:Str}{C:Addr}{np pos:Pos}{b₀:Stmt}{Uw:List Stmt}{rest:List ExceptHandler}{ts:TS}{tr:THX}
theorem Sx (F:Fr1 X):PHX X [] (λ_ E σ cls xd H=>E σ cls xd H):=by
 intro pins s σ H D E ea cls xd I hx h;refine wpAny_handleBy_nil ?_;unfold PySem.passOn;obtain⟨ok,sl,vs,he,hz,T,oT,ts,h1,r⟩:=id hx;refine eg (wpAny_field he rfl h1 ?_);rw[if_neg (show ¬((akt T == alM)=true) by simp)]
 have step:wpAny (model X.prog X.w) X.A (do setFlight (.ref ea) X.env.frame;throw (.ref ea):Sem Flow) (SP X pins D) (XPS X pins E) s :=
  eg (rS I hx λs2 I2 x2=>wpAny_throw ⟨σ,ea,cls,xd,_,H,rfl,I2,x2,by rw[F.fr];exact .inr (.inr ⟨_,rfl⟩),h⟩)
 first
  |exact step
  |exact eg (si step)
theorem aaQ {pins:List (Addr×Obj)}{s:Shared}{σ:St}{H:Hp}{ea:Addr}{cls:Value}{xd:Option Addr}{b:Bool}{E:Value->Shared->Prop}{R:Bool->Shared->Prop}(I:Inv X pins σ H s)(hx:XAt X pins H s.heap ea cls xd (some .none))
  (hg:Gl X x) (hm:X.mg x=some (.ref C)) (eb:akA X.K cls (.ref C)=some b) (h:R b s) (hd:(x == ("__debug__":Str))=false:=by decide) :
  wpAny (model X.prog X.w) (X.A.mark (some (.ref ea))) (eval (.Name x np) X.env) (λc s₁=>wpAny (model X.prog X.w) (X.A.mark (some (.ref ea))) (excMatches (.ref ea) c) R E s₁) E s:=by
 obtain⟨_,sl,vs,he,_⟩:=hx;refine j6 (Pm I ea) hg hm ?_ hd;have lt:PySem.W.Looks (model X.prog X.w) s.heap (typeOf (.ref ea)) cls:=(PySem.W.Looks.ld he).andThen .now;exact PySem.W.exm_one I.kIn lt eb _ _ _ s (λ_ _ q=>q) h
theorem Pn (hg:Gl X x)(hm:X.mg x=some (.ref C))(hs:∀e,PSs (hcx X e) (b₀::Uw) ts)(hr:PHX X rest tr)(hd:(x == ("__debug__":Str))=false:=by decide) :
  PHX X (.ExceptHandler (some (.Name x np)) none (b₀::Uw) pos::rest) (Uu X.K C ts tr):=by
 intro pins s σ H D E ea cls xd I hx h;unfold Uu at h;obtain⟨b,eb,h⟩:=h;refine wpAny_handleBy_cons (codeAny_handlers_test (aaQ I hx hg hm eb ?_ hd)) (by intro q;cases q)
 cases b with
 |true =>
  refine codeAny_handlers_suite (rS I hx λs1 I1 x1=>?_)
  refine ako (hs ea pins s1 σ H D (Pm I1 ea) h) (λf s2 q=>?_) λ_ _ z=>akF z
  cases f with
  |next=>obtain⟨σ',H',I',q⟩:=q;exact⟨σ',H',Ar I.ok I',q⟩
  |brk=>obtain⟨σ',H',I',q⟩:=q;exact⟨σ',H',Ar I.ok I',q⟩
  |cont=>obtain⟨σ',H',I',q⟩:=q;exact⟨σ',H',Ar I.ok I',q⟩
  |ret u=>obtain⟨v,σ',H',I',r,q⟩:=q;exact⟨v,σ',H',Ar I.ok I',r,q⟩
 |false=>exact hr pins s σ H D E ea cls xd I hx h
theorem Sy {body:List Stmt}{h₀:ExceptHandler}{hs:List ExceptHandler}{tb:TSX}{th:THX}(F:Fr1 X)(hb:Gi X body tb)(hh:PHX X (h₀::hs) th) :
  PSX X (.Try body (h₀::hs) [] [] pos) (Uv tb th):=by
 intro pins s σ H D E I h;unfold Uv at h;refine wpAny_Try_except (ako (hb pins s σ H D _ I h) (λf s1 q=>?_) (λv s1 q=>?_))
 ·cases f with
  |next=>exact wpAny_execs_nil q
  |ret v=>exact q
  |brk=>exact q
  |cont=>exact q
 ·obtain⟨σ',ea,cls,xd,m,H',rfl,I1,hx,hm,q⟩:=q;exact J7 F I1.ok.frames I1 hx hm λs2 I2 x2=>rS I2 x2 λs3 I3 x3=>hh pins s3 σ' H' D E ea cls xd I3 x3 q
end
structure GaX (K:ba)(C:Addr):Prop where
 ga:cb K (.ref C) "__getattribute__"=some (some (.builtin "BaseException.__getattribute__"))
 hk:cb K (.ref C) "__getattr__"=some none
 mb:PySem.W.mroIn K C (.type "BaseException")=some true
structure akg (K:ba)(C:Addr):Prop where
 ga:GaX K C
 cd:(PySem.W.clsIn K C).isSome=true
 ha:cb K (.ref C) "__class__"=some (some (.builtin "object.__class__"))
 hn:PySem.W.specialIn K (.builtin "object.__class__") "__get__"=some (some (.builtin "getset_descriptor.__get__"))
 htk:PySem.W.takesIn K (.builtin "object.__class__")=some true
 hm:PySem.W.mroIn K C (.type "object")=some true
end L2
set_option maxHeartbeats 4000000
namespace L2
open PySem PySem.Spec PyProof.Rows
section
variable{prog:me}{w:World}{A:Around}{E:Value->Shared->Prop}{h:Heap}{g:Array GenState}{d:Drawn}{t:Nat}{os:OsState}
variable{nm q:Str}{C N:Addr}{bs bm bmB:List Value}{hdct:Bool}{sn:List Str}{sub:List Value}{ab:Bool}{col:Option Bool}{dd:Option Addr}{k0 k1 k2 k3 k5:Option Value}{B nid iid:String}
abbrev nC (h:Heap)(C:Addr)(us:List Value):Heap:=(h.push { cls:=.type "tuple",data:=.seq us.toArray }).push ⟨.ref C,none,.fields #[.ref h.objs.size,.none,.none,.none,.bool false,.none],#[]⟩
theorem fG {us:List Value}{b:Addr}{o:Obj}(e:h.get? b=some o):(nC h C us).get? b=some o:=gr _ (gr _ e)
theorem A2 {us:List Value}:(nC h C us).get? (h.objs.size+1)=some ⟨.ref C,none,.fields #[.ref h.objs.size,.none,.none,.none,.bool false,.none],#[]⟩:=by
 have:=aku (h.push { cls:=.type "tuple",data:=.seq us.toArray }) (o:=⟨.ref C,none,.fields #[.ref h.objs.size,.none,.none,.none,.bool false,.none],#[]⟩) rfl
 rwa [alA]at this
theorem J8 (F:ExcBaseFacts B nid iid bmB)(T:OwnTail h bmB bm){mN:Str->Option Value}{us:List Value}{Q:Fin->Shared->Prop}
  (kC:h.get? C=some (akV nm q C N bs bm hdct sn sub ab col dd k0 k1 k2 k3 k5 nid)) (kN:h.Ns N mN) (kI:mN "__init__"=none) (hz:us.length<=kf)
  (hq:∀h',(∀b o,h.get? b=some o->h'.get? b=some o)->(∃tp,h'.get? (h.objs.size+1)=some ⟨.ref C,none,.fields #[.ref tp,.none,.none,.none,.bool false,.none],#[]⟩)->Q (.done (.ret (.ref (h.objs.size+1)))) ⟨h',g,d,t,os⟩) :
  wpAny (model prog w) A (Builtin.«type.__call__» ⟨.ref C::us,[]⟩) Q E ⟨h,g,d,t,os⟩:=by
 repeat (first | with_reducible refine wpAny_loadPart_at kC ?_ | with_reducible refine wpAny_madeBy_exc kC ?_ | wp_step)
 refine codeAny_call_builtin_code (Code.quiet_builtin _ F.quiet) (wpAny_check_new_subT F T kC (codeAny_exc_new_subT F T kC ?_ hz));show wpAny _ _ _ _ _ _;have kC1:(nC h C us).get? C=_:=fG kC;have kN1:(nC h C us).Ns N mN:=kN.keeps λb o e=>fG e
 have T1:OwnTail (nC h C us) bmB bm:=T.keeps λb o e=>fG e
 have kE:=A2 (h:=h) (C:=C) (us:=us);have self:(akt C::bm).contains (.ref C)=true:=by simp
 unfold isInstance
 repeat (first | with_reducible refine wpAny_loadPart_at kE ?_ | (with_reducible refine wpAny_isSubtype_exc kC1 ?_;rw[self]) | wp_step)
 show wpAny _ _ (typeLookup (.ref C) _) _ _ _;refine wpAny_typeLookup_tail kC1 kN1 T1 F.mroIs F.init.lookup ?_;rw[kI];refine wpAny_holding (eg (wpAny_of_eq (F.init.bind _) ?_));refine eg (wpAny_call (codeAny_call_builtin F.init.plain F.initEntry (wpAny_check_init_subT F T1 kC1 kE rfl ?_)))
 wp_walk
 refine hq _ (λb o e=>?_) ⟨h.objs.size+2,?_⟩
 ·rw[ak3 _ _ (Nat.ne_of_gt (Nat.lt_succ_of_lt (om e)))];exact gr _ (fG e)
 ·refine(alz _ (gr _ kE) rfl).trans ?_;simp only[alA];rfl
theorem Nh (F:ExcBaseFacts B nid iid bmB)(T:OwnTail h bmB bm){mN:Str->Option Value}{us:List Value}{Q:Value->Shared->Prop}
  (kC:h.get? C=some (akV nm q C N bs bm hdct sn sub ab col dd k0 k1 k2 k3 k5 nid)) (kN:h.Ns N mN) (kI:mN "__init__"=none) (hz:us.length<=kf)
  (hq:∀h',(∀b o,h.get? b=some o->h'.get? b=some o)->(∃tp,h'.get? (h.objs.size+1)=some ⟨.ref C,none,.fields #[.ref tp,.none,.none,.none,.bool false,.none],#[]⟩)->Q (.ref (h.objs.size+1)) ⟨h',g,d,t,os⟩) :
  wpAny (model prog w) A (call (.ref C) us) Q E ⟨h,g,d,t,os⟩:=by
 have l1:=tc_lookup;have l2:=tc_bind (.ref C);have ty:(⟨h,g,d,t,os⟩:Shared).TypeIs (.ref C) "type":=⟨_,kC,rfl⟩;refine wpAny_call (codeAny_of_tree ?_);show wpAny _ _ (callAny (.ref C) _) _ _ _
 repeat (any_goals (first | assumption | with_reducible refine wpAny_loadPart_at kC ?_ | wp_step))
 refine⟨rfl,codeAny_call_builtin_at (Code.quiet_builtin _ (by decide +kernel)) entry_typeCall (wpAny_check_type_call_sub kC (J8 F T kC kN kI hz λh' k e=>?_))⟩
 exact hq h' k e
theorem tU {M:Model}{env:Env}{s:Shared}{x:Sem Value}{Q:Flow->Shared->Prop}(F8:bm.contains (.type "BaseException")=true)(hh:A.handled=none)
  (hx:wpAny M A x (λv s₁=>∃(e:Addr) (xd:Option Addr) (a0:Value) (sl:Array (Option Value)),v=.ref e/\s₁.heap.get? C=some (akV nm q C N bs bm hdct sn sub ab col dd k0 k1 k2 k3 k5 nid) /\
   s₁.heap.get? e=some ⟨.ref C,xd,.fields #[a0,.none,.none,.none,.bool false,.none],sl⟩/\E (.ref e) s₁) E s):wpAny M A (raiseStmt env (some x) none) Q E s:=by
 have top:(akt C::bm).contains (.type "BaseException")=true:=by rw[List.contains_cons,F8,Bool.or_true]
 unfold raiseStmt;refine eg (ako hx (λv s₁ h₁=>?_) λ_ _ z=>z)
 obtain⟨e,xd,a0,sl,rfl,kC,kE,fin⟩:=h₁;obtain⟨hp,g',d',tk,os'⟩:=s₁
 repeat (first | with_reducible refine wpAny_loadPart_at kE ?_ | with_reducible refine wpAny_loadPart_at kC ?_ | (with_reducible refine wpAny_isSubtype_exc kC ?_;rw[top]) | wp_step)
 exact wpAny_raiseNew_none hh fin
end
abbrev qR:List Value:=[.type "ValueError",.type "Exception",.type "BaseException",.type "object"]
def strKeys (es:Array alq):Bool:=es.toList.all λe=>match e.key with | .str _ _=>true | _=>false
structure EK (K:ba)(N:Addr):Prop where
 ex:∃(c:Value) (dd:Option Addr) (es:Array alq) (n:Nat) (sl:Array (Option Value)),K.lookup N=some ⟨c,dd,.dict es n,sl⟩/\strKeys es=true
 no:di K N "__init__"=some none
theorem EK.ns {K:ba}{N:Addr}(x:EK K N){h:Heap}(X:K.In h):∃mN,h.Ns N mN/\mN "__init__"=none:=by
 obtain⟨⟨c,dd,es,n,sl,l,sk⟩,no⟩:=x;have ns:h.Ns N (nsFind es):=⟨_,es,n,X _ _ l,rfl,λe he=>by
  have z:=List.all_eq_true.mp sk e (Array.mem_toList_iff.mpr he);cases hk:e.key with
  |str y t=>exact⟨y,t,rfl⟩
  |_=>rw[hk]at z;exact absurd z kx,λ_=>rfl⟩
 refine⟨_,ns,?_⟩;unfold di at no;rw[l]at no;dsimp only at no;unfold nsFind findBy;rw[<-Array.find?_toList];cases hf:es.toList.find? (λe=>e.key.isStr "__init__") with
 |none=>rfl
 |some e=>rw[hf]at no;cases no
inductive iZ (K:ba):List Value->Prop
 |base:iZ K qR
 |own {D:Addr} {c0:Value} {dd:Option Addr} {cd:ClassData} {sl:Array (Option Value)} {tl:List Value}:K.lookup D=some ⟨c0,dd,.cls cd,sl⟩->EK K cd.ns->iZ K tl->iZ K (.ref D::tl)
theorem iZ.tail {K:ba}{bm:List Value}(x:iZ K bm){h:Heap}(X:K.In h):OwnTail h qR bm:=by
 induction x with
 |base=>exact .base
 |own l n _ ih =>
  obtain⟨mA,a,b⟩:=n.ns X;exact .own (X _ _ l) a b ih
structure Gj (K:ba)(C:Addr):Prop where
 ex:∃(nm q:Str) (N:Addr) (bs bm:List Value) (hdct:Bool) (sn:List Str) (sub:List Value) (ab:Bool) (col:Option Bool) (dd:Option Addr) (k0 k1 k2 k3 k5:Option Value),
  K.lookup C=some (akV nm q C N bs bm hdct sn sub ab col dd k0 k1 k2 k3 k5 "ValueError.__new__")/\EK K N/\iZ K bm
section
variable{X:Cx}{x:Str}{C:Addr}{np gu pos:Pos}{e₀:Expr}{rest:List Expr}{ta:TA}
theorem lY (ek:Gj X.K C)(hc:X.calm=true)(hg:Gl X x)(hm:X.mg x=some (.ref C))(ha:PA X.nox (e₀::rest) ta)(hdb:(x == ("__debug__":Str))=false:=by decide)
  (he:adm (e₀::rest) X.env=(false,eval e₀ X.env)::adm rest X.env:=by rfl) (hpl:(backTo gu (adm rest X.env)).any (·.1)=false:=by rfl) :
  PSX X (.Raise (some (.Call (.Name x np) (e₀::rest) [] gu)) none pos) (λ_ E σ H=>ta σ H λvs H1=>vs.length<=kf/\E σ (.ref C) none H1):=by
 intro pins s σ H D E I h;obtain⟨nm,q,N,bs,bm,hdct,sn,sub,ab,col,dd,k0,k1,k2,k3,k5,l,n,T⟩:=ek.ex;have go:wpAny (model X.prog X.w) X.A (eval (.Call (.Name x np) (e₀::rest) [] gu) X.env) (λv s₁=>∃(e:Addr) (xd:Option Addr) (a0:Value) (sl:Array (Option Value)),v=.ref e/\s₁.heap.get? C=some (akV nm q C N bs bm hdct sn sub ab col dd k0 k1 k2 k3 k5 "ValueError.__new__") /\
   s₁.heap.get? e=some ⟨.ref C,xd,.fields #[a0,.none,.none,.none,.bool false,.none],sl⟩/\XPS X pins E (.ref e) s₁) (XPS X pins E) s:=by
  refine wpAny_Call_Name_kw (j6 I hg hm ?_ hdb);unfold callWith;rw[he];refine eg (wpAny_holding (Calls.evalArgs_plain ?_));have ha':=ha gu pins s σ H _ (I.nU _) h;rw[show X.nox.env=X.env from rfl,he]at ha'
  refine ako ha' (λus s₁ ⟨vs,H1,I1,r,hz,q1⟩=>eg (alc ?_)) λ_ _ z=>akF z
  have I1':=I1.d9;have kC:=I1'.kIn _ _ l;obtain⟨mN,kN,kI⟩:=n.ns I1'.kIn;have T1:=T.tail I1'.kIn;have pl:(backTo gu ((false,eval e₀ X.env)::adm rest X.env)).any (·.1)=false:=by
   show (false || (backTo gu (adm rest X.env)).any (·.1))=false
   rw[hpl];rfl
  obtain⟨hp,g',d',tk,os'⟩:=s₁;simp only[pl];refine eg (wpAny_keeperOf_exc kC ?_);refine eg (Nh (F:=PySem.F.excBase_ValueError) T1 kC kN kI (by rw[alY,<-r.length];exact hz) λh' k ⟨tp,ke⟩=>eg (wpAny_holding (wpAny_point (si ?_))))
  have I2:Inv X pins σ H1 ⟨h',g',d',tk,os'⟩:=I1'.kept (t':=tk) k;refine⟨_,none,_,#[],rfl,k _ _ kC,ke,σ,_,_,none,none,H1,rfl,I2,⟨I1'.AN (ak7 _) (I1'.hok.fresh (ak7 _)),_,_,ke,(by show 1 < 6;decide),rfl⟩,.inl rfl,q1⟩
 rw[arm_exec_Raise];have hb:bm.contains (.type "BaseException")=true:=(T.tail I.kIn).hasType (b:=true) (by decide +kernel)
 first
  |exact eg (alc (tU (C:=C) (nm:=nm) (q:=q) (N:=N) (bs:=bs) (bm:=bm) (hdct:=hdct) (sn:=sn) (sub:=sub) (ab:=ab) (col:=col) (dd:=dd) (k0:=k0) (k1:=k1) (k2:=k2) (k3:=k3) (k5:=k5) hb (I.ok.hd hc) (eg (ako go (λv s₃ h₃=>eg (alc (si h₃))) λ_ _ z=>z))))
  | (simp only[evalOpt,Option.map];exact eg (alc (tU (C:=C) (nm:=nm) (q:=q) (N:=N) (bs:=bs) (bm:=bm) (hdct:=hdct) (sn:=sn) (sub:=sub) (ab:=ab) (col:=col) (dd:=dd) (k0:=k0) (k1:=k1) (k2:=k2) (k3:=k3) (k5:=k5) hb (I.ok.hd hc) (eg (ako go (λv s₃ h₃=>eg (alc (si h₃))) λ_ _ z=>z)))))
end
end L2
set_option maxHeartbeats 4000000
namespace L2
open PySem PySem.Spec PyProof.Rows
theorem Dx {α β:Type}(f:α->β):∀(xs:List α) (n:Nat),(xs.eraseIdx n).map f=(xs.map f).eraseIdx n
 |[],_=>rfl
 |_::_,0=>rfl
 |x::xs,n+1=>by
  show f x::(xs.eraseIdx n).map f=f x::(xs.map f).eraseIdx n;rw[Dx f xs n]
section
variable{X:Cx}{pos:Pos}
theorem Vals.insert {xs:List V}{us:List Value}(r:Vals xs us){y:V}{u:Value}(ry:RelV y u)(k:Nat):Vals (xs.take k++y::xs.drop k) (us.take k++u::us.drop k):=(r.take k).append (.cons ry (r.drop k))
def Sz:V->List V->Hp->VK->Prop:=λx vs H Q=>∃(l:Addr) (xs:List V) (i:Int) (k:Nat) (y:V),x=.ref l/\vs=[.int i,y]/\i=(k:Int)/\H l=some (.lst xs)/\k<=xs.length/\xs.length < kf/\Q .non (upd H l (.lst (xs.take k++y::xs.drop k)))
theorem Ni:MtM X "list.insert" Sz:=by
 intro pins s σ H x vs v us Q I rx rv h;obtain⟨l,xs,i,k,y,rfl,rfl,hi,hH,hk,hz,q⟩:=h;cases rx;obtain⟨u1,u2,rfl,r1,r2⟩:=rv.two;obtain⟨t,rfl⟩:=r1;obtain⟨z,its,n,r,hl,e⟩:=I.F9 hH;have lim:kf=16777216:=by decide
 have a2:its.toArray.size<=kf:=by rw[kr];omega
 have b:Builtin.List.listFitsIndex i=true:=fitsIndex_both (by omega) (by omega)
 have nb:¬(!Builtin.List.listFitsIndex i)=true:=by rw[b];decide
 refine call_meets F.slot_list_insert ⟨_,e,rfl⟩ F.entry_list_insert (F.args_list_insert_3 _ _ _) (AutoSeq1.list_insert_list_int_val_1 l its.toArray n i t u2 nb a2) ⟨e,?_⟩;refine⟨.non,_,I.O1 (its':=its.take k++u2::its.drop k) hH e ?_ (r.insert r2 k) ?_,rfl,q⟩
 ·show (its.toArray.extract 0 (if i < 0 then (i+(its.toArray.size:Int)).toNat else min i.toNat its.toArray.size)).push u2++its.toArray.extract (if i < 0 then (i+(its.toArray.size:Int)).toNat else min i.toNat its.toArray.size)=_
  have e1:(if i < 0 then (i+(its.toArray.size:Int)).toNat else min i.toNat its.toArray.size)=k:=by
   rw[kr,if_neg (by omega)]
   omega
  rw[e1];apply Array.toList_inj.mp;simp;exact List.take_of_length_le (by rw[alL];omega)
 ·rw[gn,akp,akX,alL];omega
end
section
variable{X:Cx}{e:Expr}{te:TE}{y:Str}{j:Nat}{p1 p2 pos:Pos}
def tFR (K:ba)(te:TE)(y:Str):TE:=λσ H Q=>te σ H λx H1=>∃(a:Addr) (d:PyData),x=.ref a/\DV K H1 d x/\d.showable=true/\d.hasDict=false/\d.depth<=60/\d.shown.length+y.length<=kf/\∀z:Str,Q (.str z) H1
theorem len_app (a b:Str):(a++b).length=a.length+b.length:=by
 show (a.cps++b.cps).size=_;simp[Str.length]
theorem aaR (hg:X.A.guards=some [])(hu:X.A.units+64 < cLine)(he:PE X e te):PE X (.JoinedStr [.FormattedValue e 114 none p1,.Constant (.str y) j p2] pos) (tFR X.K te y):=by
 intro pins s σ H Q I h;refine wpAny_JoinedStr ?_;show Joins _ _ _ [eval (.FormattedValue e 114 none p1) X.env,eval (.Constant (.str y) j p2) X.env] _ _ _;refine wpAny_FormattedValue_repr (thn (he pins s σ H _ I h) λv s1 ⟨x,H1,I1,r1,a,d,e1,hd,sh,nd,dp,sz,q⟩=>?_)
 subst e1;obtain rfl:v=akt a:=r1;obtain⟨as,rd⟩:=DV.reads I1 d hd rfl;refine pyReprObj_of_reads (h₀:=s1.heap) rd sh (λz=>absurd z (by rw[nd];decide)) hg (by omega) (λ_ _ z=>z) (λh' u tk hk=>?_) (by omega)
 have I2:Inv X pins σ H1 { s1 with heap:=h',toks:=tk }:=I1.kept hk
 have emp:(akP++d.shown:Str)=d.shown:=by
  apply EG;rw[eY];rfl
 have go:∀(t:Tok) (s2:Shared),Inv X pins σ H1 s2->∃z t',Value.str d.shown t=.str z t'/\(akP++z).length<=kf/\Joins (model X.prog X.w) X.A X.xe [eval (.Constant (.str y) j p2) X.env] (akP++z) (λout s₁=>out.length<=kf/\EP X pins σ Q (.str out s₁.toks) { s₁ with toks:=s₁.toks+1 }) s2:=λt s2 I3=>by
  refine⟨_,_,rfl,by rw[emp];omega,Calls.Constant_str ⟨y,_,rfl,?_,?_⟩⟩
  ·rw[emp,len_app];omega
  ·refine⟨by rw[emp,len_app];omega,.str _,H1,(I3.tok _).tok _,⟨_,rfl⟩,q _⟩
 exact wpAny_formatField_str (go _ _ I2) (go _ _ (I2.tok _)) (by omega)
end
theorem Po {K:ba}{a D:Addr}{xs:List V}{te:TE}{Q:VK}{σ:St}{H1:Hp}(Pv:Nat->List V->Hp->Prop)(h0:Pv 0 [] (upd H1 D (.lst [])))(hz:xs.length<=kf)
  (hl:∀i ys H2,i<=xs.length->Pv i ys H2->SqT K H2 a xs/\H2 D=some (.lst ys)/\ys.length=i)
  (hs:∀i x ys H2,xs[i]?=some x->Pv i ys H2->te (some x::σ) H2 (eB D xs.length Pv i ys)) (hd:∀ys H2,Pv xs.length ys H2->Q (.ref D) H2) :
  vG (Itt K a) te σ D H1 Q:=by
 refine⟨λi m ys H=>m=xs.length - i/\i<=xs.length/\Pv i ys H,⟨xs.length,by simp,ak6 _,h0⟩,?_⟩
 rintro i m ys H2 ⟨rfl,hi,p⟩;obtain⟨q,q2,q3⟩:=hl i ys H2 hi p;refine⟨q2,?_⟩
 by_cases hlt:i < xs.length
 ·refine .inr ⟨⟨xs,xs[i],q,by simp[hlt]⟩,by omega,λx H3 y=>?_⟩
  obtain⟨e,y⟩:=y;subst e;exact hs i x ys _ (y xs q) p
 ·have e:i=xs.length:=by omega
  subst e;exact .inl ⟨⟨xs,q,km _⟩,hd ys H2 p⟩
theorem bM {K:ba}{H H':Hp}{t:Addr}{xs:List V}(s:bu H H')(h:SqT K H t xs):SqT K H' t xs:=by
 rcases h with (h | ⟨o,h⟩) | h
 ·exact .inl (.inl (s _ _ h))
 ·exact .inl (.inr ⟨o,s _ _ h⟩)
 ·exact .inr h
end L2
set_option maxHeartbeats 4000000
namespace L2
open PySem PySem.Spec PySem.Calls PyProof.Rows
theorem yE:∀(xs:List V) (us:List Value),xs.length=us.length->(∀(i:Nat) (x:V) (u:Value),xs[i]?=some x->us[i]?=some u->RelV x u)->Vals xs us
 |[],[],_,_=>.nil
 |[],_::_,h,_=>by simp at h
 |_::_,[],h,_=>by simp at h
 |x::xs,u::us,h,g=>.cons (g 0 x u rfl rfl) (yE xs us (by simpa using h) λi y v e1 e2=>g (i+1) y v e1 e2)
end L2
set_option maxHeartbeats 4000000
namespace L2
open PySem PySem.Spec PySem.Calls PyProof.Rows
def Wq (n:Nat)(Cf:Nat->Addr)(m:Str)(spf:Nat->Sp)(E:XK)(ta:TE):TE:=λσ H Q=>ta σ H λx H1=>∃k,k < n/\∃a dx fs,x=.ref a/\H1 a=some (.ins (Cf k) dx fs)/\fs.lookup m=none/\spf k [x] H1 Q E
section
variable{X:Cx}{o:Expr}{ta:TE}{m:Str}{apos pos:Pos}{n:Nat}{Cf ff:Nat->Addr}{fdf:Nat->ki}{spf:Nat->Sp}{kk:Nat}{ps:List Str}{CX:CXT}{E:XK}
theorem oR {pl:Sem Bool}(he:PE X o ta)(c:∀k,k < n->Cls X.K (Cf k))(hm:∀k,k < n->Meth X.K (Cf k) m (ff k))(F:∀k,k < n->aO X.prog X.w X.K X.mg X.base CX kk (ff k) (fdf k) ps (spf k))(hr:Room kk X.A)(hb:∀k,k < n->Binds X.K (fdf k) ps [])
  (hx:Passes CX X E)
  (ht:eval (.Call (.Attribute o m apos) [] [] pos) X.env=(do
   let ov <-eval o X.env
   standAt apos.atName
   let (f,first) <-holding [ov] (getMethod ov m pl)
   callWith pos f first (backTo pos (adm [] X.env)) (backToKw pos (keywordEach [] X.env))):=by rfl) :
  PE X (.Call (.Attribute o m apos) [] [] pos) (Wq n Cf m spf E ta):=by
 intro pins s σ H Q I h;refine alg (pl:=pl) (thn (he pins s σ H _ I h) λu s1 ⟨x,H1,I1,rx,k,hk,a,dx,fs,ex,ea,l,q⟩=>?_) ht
 subst ex;obtain rfl:u=akt a:=rx;refine jx I1 ea (c k hk) (hm k hk) l ?_;exact alU (first:=[.ref a]) I1.kIn (hm k hk).kp (AX (us:=[.ref a]) (vs:=[.ref a]) (dvs:=[]) (F k hk) hr (hb k hk) .nil hx I1 (.cons rfl .nil) q)
theorem aaS {P:me}{w:World}{K:ba}{mg:Str->Option Value}{base:Heap}{CX:CXT}{k:Nat}{f:Addr}{fd:ki}{ps:List Str}{sp sp':Sp}(F:aO P w K mg base CX k f fd ps sp)(G:aO P w K mg base CX k f fd ps sp') :
  aO P w K mg base CX k f fd ps (λvs H Q E=>sp vs H Q E\/sp' vs H Q E) :=
 ⟨λvs H Q E z=>z.elim (F.len vs H Q E) (G.len vs H Q E),λa b c H d e vs Q E p q r s z=>z.elim (F.run a b c H d e vs Q E p q r s) (G.run a b c H d e vs Q E p q r s)⟩
end
section
variable{X:Cx}
def Ws (K:ba):V->List V->Hp->VK->Prop:=λx vs H Q=>∃(l:Addr) (ws:List Str) (z:Str) (j:Nat),x=.ref l/\vs=[.str z]/\SqL K H l (ws.map V.str)/\ws[j]?=some z/\(∀m,m < j->ws[m]?≠some z)/\Q (.int j) H
theorem Pp:MtR X "list.index" (Ws X.K):=by
 intro pins s σ H x vs v us Q I rx rv h;obtain⟨l,ws,z,j,rfl,rfl,hq,hj,hno,q⟩:=h;cases rx;obtain⟨u,rfl,t,rfl⟩:=vals1 rv;obtain⟨its,r,pl,hz⟩:=I.list hq;have hlen:=r.length;rw[bo]at hlen;obtain⟨⟨cls,dd,data,sl⟩,ho,hc,n,hd⟩:=pl.isList;simp only at hc hd;subst hc hd;have flat:(ws.map V.str).all vB=true:=by
  rw[List.all_eq_true];intro y hy;obtain⟨w,_,rfl⟩:=List.mem_map.mp hy;rfl
 have at_:∀(i:Nat) (h:i < its.toArray.size),∃w,ws[i]?=some w/\eqU (.str z) its.toArray[i]=(w == z):=λi h=>by
  have h':i < ws.length:=by rw[kr]at h;omega
  refine⟨ws[i],wt h',?_⟩;obtain⟨u,hu,ru⟩:=Vals.get r (show (ws.map V.str)[i]?=some (V.str ws[i]) by rw[akK,wt h'];rfl)
  have e:its.toArray[i]=u:=by
   rw[wt (by rw[kr]at h;exact h)]at hu
   simpa using akx hu
  rw[e,J2 ru rfl];rfl
 have jl:j < ws.length:=(List.getElem?_eq_some_iff.mp hj).1;have hn:=uH;have hsz:ws.length<=kf:=by rw[bo]at hz;exact hz
 refine call_meets PySem.F.slot_list_index ⟨_,ho,rfl⟩ PySem.F.entry_list_index (PySem.F.args_list_index_2 _ _) (SeqAt.list_indexAt l its.toArray n dd sl (.str z t) (eqU (.str z)) j (by rw[kr];omega) (by rw[alw]at hsz;omega) ?_ ?_) ⟨ho,λy hy=>oO (x:=.str z) (v:=.str z t) ⟨t,rfl⟩ rfl r flat y (by simpa using hy),?_⟩
 ·obtain⟨w,h1,h2⟩:=at_ j (by rw[kr];omega)
  rw[h2];obtain rfl:=akx (h1.symm.trans hj);exact beq_self_eq_true _
 ·intro m hm hmj;obtain⟨w,h1,h2⟩:=at_ m hm;rw[h2];exact beq_eq_false_iff_ne.mpr λe=>hno m hmj (by rw[h1,e])
 ·exact⟨.int j,H,I.tok _,⟨_,rfl⟩,q⟩
end
end L2
set_option maxHeartbeats 4000000
set_option maxHeartbeats 4000000
namespace L2
open PySem PySem.Spec PySem.Calls PyProof.Rows
def KeysAre:List alq->List Str->Prop
 |[],ns=>ns=[]
 |e::r,ns=>∃x xs t,ns=x::xs/\e.key=.str x t/\KeysAre r xs
structure Mi (P:Params)(K:ba)(a:Addr)(ns:List Str):Prop where
 ex:∃es n,K.lookup a=some ⟨.type "dict",none,.dict es n,#[]⟩/\PySem.W.KeysLit P es.toList/\KeysAre es.toList ns
 nd:ns.Nodup
 lo:(a == alN)=false
theorem J9 {prog:me}{w:World}:∀(es:List alq) (ns:List Str),PySem.W.KeysLit w.params es->KeysAre es ns->∃kvs:List (Str×Value),Pairs (strKind prog w) es kvs/\kvs.map (·.1)=ns:=by
 intro es
 induction es with
 |nil =>
  intro ns _ h;have h':ns=[]:=h;subst h';exact⟨[],by first | exact .nil | exact trivial | exact rfl | constructor,rfl⟩
 |cons e r ih =>
  rintro ns ⟨⟨x,t,e1,e2⟩,hk⟩ ⟨y,ys,t',rfl,e3,hr⟩;obtain⟨kvs,h1,h2⟩:=ih ys hk hr;rw[e1]at e3;injection e3 with e4 _
  subst e4;exact⟨(x,e.val)::kvs,.cons (by rw[e1];exact strKind_is prog w x t) rfl h1,by rw[ko,h2]⟩
theorem Mi.at {prog:me}{w:World}{K:ba}{a:Addr}{ns:List Str}(T:Mi w.params K a ns):∃(kvs:List (Str×Value)) (n:Nat),kvs.map (·.1)=ns/\∀h:Heap,K.In h->h.DictAt (strKind prog w) a kvs n:=by
 obtain⟨es,n,hl,hk,ha⟩:=T.ex;obtain⟨kvs,h1,h2⟩:=J9 (prog:=prog) es.toList ns hk ha;refine⟨kvs,n,h2,λh X=>⟨_,es,X _ _ hl,⟨rfl,rfl,rfl⟩,rfl,λe he=>?_,h1,by rw[h2];exact T.nd⟩⟩
 obtain⟨x,t,e1,e2⟩:=hk.all e (Array.mem_toList_iff.mpr he);exact⟨x,by rw[e1];exact strKind_is prog w x t,e2⟩
def Gk (n:Nat)(Pv:Nat->List V->Hp->Prop)(i:Nat)(ys:List V)(H4:Hp):Prop:=∃m',m' < n - i/\m'=n - (i+1)/\i+1<=n/\Pv (i+1) ys H4
theorem Gk.mk {n:Nat}{Pv:Nat->List V->Hp->Prop}{i:Nat}{ys:List V}{H4:Hp}(hi:i < n)(h:Pv (i+1) ys H4):Gk n Pv i ys H4:=⟨n - (i+1),by omega,rfl,hi,h⟩
end L2
set_option maxHeartbeats 4000000
namespace L2
open PySem PySem.Spec PyProof.Rows
inductive Wt:List Expr->List Str->Prop
 |nil:Wt [] []
 |cons {x:Str} {j:_} {p:Pos} {es:List Expr} {ss:List Str}:Wt es ss->Wt (.Constant (.str x) j p::es) (x::ss)
end L2
set_option maxHeartbeats 4000000
namespace L2
open PySem PySem.Spec PyProof.Rows
structure iC (scope outer:Scope)(xs N M:List Str):Prop where
 kind:scope.kind=.function
 O9:outer.kind=.function
 A1:∀y∈scope.names,y.2≠.cell
 names:∀y∈scope.names,y.2=.local->scope.names.lookup y.1=some .local
 hx:∀x∈xs,scope.names.lookup x=some .local
 free:∀y∈scope.names,y.2=.free->outer.names.lookup y.1=some .cell
 nl:∀n∈M,(cJ scope outer).names.lookup n≠some .local
 nd2:(xs++M).Nodup
 nd:N.Nodup
 len:M.length=N.length
 rel:∀i:Nat,i < N.length->M[i]?=N[i]?\/M[i]?=some akP
 em:(cJ scope outer).names.lookup akP=none
theorem iC.mem {scope outer:Scope}{xs:List Str}{N M:List Str}(S:iC scope outer xs N M){n:Str}{k:NameKind}(h:(cJ scope outer).names.lookup n=some k)(hk:k=.cell\/k=.free) :
  k=.cell/\(n,alh)∈scope.names/\outer.names.lookup n=some .cell:=by
 obtain⟨⟨n',k'⟩,hm,e⟩:=List.mem_map.mp (alv h);dsimp only at e
 by_cases hc:(k' == alh && outer.kind == .function && outer.names.lookup n' == some .cell)=true
 ·rw[if_pos hc]at e;injection e with e1 e2
  subst e1 e2;rw[alp,alp]at hc;have hk':k'=.free:=beq_iff_eq.mp hc.1.1;subst hk';exact⟨rfl,hm,beq_iff_eq.mp hc.2⟩
 ·rw[if_neg hc]at e;injection e with e1 e2
  subst e1 e2;rcases hk with z | z
  ·exact absurd z (S.A1 _ hm)
  ·subst z
   exfalso
   refine hc ?_;rw[S.free _ hm rfl,S.O9];rfl
def gb (X:Cx)(xs M:List Str)(scope:Scope)(cl:List (Str×Addr))(C:Addr)(s:Shared)(H:Hp)(fp:List Addr):Cx :=
 { X with N:=xs++M,s₀:=s,H₀:=H,env:=compEnvC scope cl C X.env,outer:=X.stack,ex:=fp,fn:=λ_=>false,pn:=[],xe:=λ_ _=>False }
def xB (n:Nat)(J:It)(g:TG)(te:TEX)(σ:St)(D:Addr)(H1:Hp)(Q:VK)(E:XK):Prop:=∃W:Nat->Nat->List V->Hp->Prop,(∃m,W 0 m [] (upd H1 D (.lst [])))/\∀i m ys H2,W i m ys H2 ->
 H2 D=some (.lst ys)/\((J.stop i H2/\Q (.ref D) H2)\/(J.go i H2/\ys.length < kf/\∀x H3,J.yld i H2 x H3->∀vs:St,vs.length=n->g x (vs++σ) H3 λσ' H4=>∃ws:St,ws.length=n/\σ'=ws++σ /\
  te σ' H4 (λy H5=>H5 D=some (.lst ys)/\∃m',m' < m/\W (i+1) m' (ys++[y]) (upd H5 D (.lst (ys++[y])))) E))
def Pq (n:Nat)(wi:TI)(g:TG)(te:TEX):TEX:=λσ H Q E=>wi σ H λJ H1=>∀D,H1 D=none->xB n J g te σ D H1 Q E
section
variable{prog:me}{w:World}{A:Around}{R:Result->Shared->Prop}{s:Shared}
theorem Ka {elt target iter:Expr}{scope:Scope}{pos:Pos}{it acc:Value}{env:Env}(I:Nat->Shared->Prop)
  (turn:∀n s,I n s->wpAny (model prog w) A (pyNext it) (λr s₁=>match r with
   |none=>R (.ok .next) s₁
   |some v=>wpAny (model prog w) A (letOwnedTupleGo target it v) (λ_ s₀=>wpAny (model prog w) A (assign target env v) (λ_ s₂ =>
     wpAny (model prog w) A (eval elt env) (λx s₄ =>
       wpAny (model prog w) A (call (.builtin "list.append") [acc,x]) (λ_ s₅=>∃m,m < n/\I m s₅) (notedBy (model prog w) A env λe s'=>R (.error e) s') s₄) (notedBy (model prog w) A env λe s'=>R (.error e) s') s₂)
      (notedBy (model prog w) A env λe s'=>R (.error e) s') s₀) (notedBy (model prog w) A env λe s'=>R (.error e) s') s₁) (notedBy (model prog w) A env λe s'=>R (.error e) s') s)
  (n:Nat) (h:I n s) :
  codeAny (model prog w) A (.compLoop (.ListComp elt [⟨target,iter,[],0⟩] scope pos) 0 it acc env) R s:=by
 refine codeAny_loop rfl I (λn s hI=>?_) n h
 show wpAny _ A ((compTurn (.ListComp elt [⟨target,iter,[],0⟩] scope pos) 0 it acc env).onRaise (λx=>do noteFrame x env;theTreesLotGoes x)) _ _ s
 refine wpAny_noted ?_;rw[compTurn_list];refine eg (alc (eg (ako (turn n s hI) (λr s₁ h₁=>?_) λ_ _ h'=>h')))
 cases r with
 |none=>exact si h₁
 |some v =>
  refine eg (ako h₁ (λ_ s₀ h₀=>?_) λ_ _ h'=>h')
  refine eg (ako h₀ (λ_ s₂ h₂=>eg (wpAny_tests_nil ?_)) λ_ _ h'=>h')
  exact eg (eg (ako h₂ (λx s₄ h₄=>eg (ako h₄ (λ_ s₅ h₅=>si (si ⟨rfl,h₅⟩)) λ_ _ h'=>h')) λ_ _ h'=>h'))
end
section
variable{X:Cx}{pins:List (Addr×Obj)}{σ:St}{H:Hp}{s:Shared}{elt iter tg:Expr}{xs:List Str}{px pos:Pos}{scope:Scope}{wi:TI}{te:TEX}{g:TG}{Q:VK}{E:XK}{M:List Str}
theorem Pr {cl:List (Str×Addr)}{C:Addr}{fp:List Addr}(S:iC scope X.env.scope xs X.N M)(I:Inv X pins σ H s)(hC:s.heap.objs.size<=C)(p1:∀n c,cl.lookup n=some c->X.env.cells.lookup n=some c)
  (p3:∀y∈scope.names,y.2=.free->(cl.lookup y.1).isSome=true) (f2:∀b∈fp,gJ X pins H b) (fo:∀b∈fp,b < s.heap.objs.size):(gb X xs M scope cl C s H fp).Ok where
 mod:=I.ok.mod
 kind:=S.kind
 glob:=I.ok.glob
 blt:=I.ok.blt
 above:=hC
 inj:=λy z c h1 h2=>I.ok.inj y z c (p1 y c h1) (p1 z c h2)
 has:=λy hy=>by
  have hy':(cJ scope X.env.scope).names.lookup y=some .cell\/(cJ scope X.env.scope).names.lookup y=some .free:=hy;have hm:(y,alh)∈scope.names:=by
   rcases hy' with z | z
   ·exact(S.mem z (.inl rfl)).2.1
   ·exact(S.mem z (.inr rfl)).2.1
  exact Option.isSome_iff_exists.mp (p3 _ hm rfl)
 cab:=λy c h=>absurd h kx
 hd:=I.ok.hd
 frames:=I.ok.frames
 stk:=.inl rfl
 exf:=λb hb=>⟨aks (akq (fo b hb) hC),λy c e=>(f2 b hb).2.2.2.2.1 y c (p1 y c e)⟩
 bs:=I.bs
 bsz:=tm I.ok.bsz I.sz
 Es:=λb o e hb=>by
  rcases (f2 b hb).2.2.2.1 with z | z
  ·exact I.ok.Es b o e z
  ·exact absurd (akq (om (I.ok.bs b o e).1) z) (alZ _)
 Et:=λb hb z=>by
  rcases List.mem_cons.mp (I.AJ b z) with e | e
  ·exact(f2 b hb).2.1 e
  ·exact(f2 b hb).2.2.1 e
 uw:=I.stack
 frf:=I.Al
theorem Nj {cl:List (Str×Addr)}{C D:Addr}{fp:List Addr}{h₁:Heap}{tk:Nat}{m:Str->Option Value}(S:iC scope X.env.scope xs X.N M)(I:Inv X pins σ H s)(hC:s.heap.objs.size<=C)(hD:s.heap.objs.size<=D)(hDC:D≠C)
  (p1:∀n c,cl.lookup n=some c->X.env.cells.lookup n=some c)
  (p3:∀y∈scope.names,y.2=.free->(cl.lookup y.1).isSome=true) (f2:∀b∈fp,gJ X pins H b) (fo:∀b∈fp,b < s.heap.objs.size)
  (old:∀b o,s.heap.get? b=some o->h₁.get? b=some o) (hn:h₁.Ns C m) (hl:h₁.get? D=some { cls:=.type "list",data:=.seq ([]:List Value).toArray }) :
  Inv (gb X xs M scope cl C s H fp) [] (alV xs.length none++σ) (upd H D (.lst [])) { s with heap:=h₁,toks:=tk }:=by
 have cellK:∀c v,s.heap.IsCell c v->h₁.IsCell c v:=λc v ⟨o,e,d⟩=>⟨o,old c o e,d⟩
 refine⟨Pr S I hC p1 p3 f2 fo,rfl,I.bare,Un.laid old hD (I.hok.fresh hD),⟨m,hn,λi n v h1 h2 h3=>?_⟩,λy c e=>?_,?_,λy c e=>?_,λp hp=>absurd (show p∈([]:List (Addr×Obj)) from hp) (by simp),I.hok.laid old hD ⟨ak6 _,[],0,.nil,hl⟩,?_⟩
 ·have h1':(xs++M)[i]?=some n:=h1
  by_cases hi:i < xs.length
  ·rw[List.getElem?_append_left (by rw[aly];exact hi),List.getElem?_replicate,if_pos hi]at h2
   cases h2
  ·rw[ak8 (by omega)]at h1'
   rw[ak8 (by rw[aly];omega),aly]at h2
   generalize i - xs.length=i at h1' h2;have h3':(cJ scope X.env.scope).names.lookup n=some .local\/(cJ scope X.env.scope).names.lookup n=some .cell\/(cJ scope X.env.scope).names.lookup n=some .free:=h3;have lB:(cJ scope X.env.scope).names.lookup n=some .cell/\(n,alh)∈scope.names/\X.env.scope.names.lookup n=some .cell:=by
    rcases h3' with z | z | z
    ·exact absurd z (S.nl n (akM h1'))
    ·exact⟨z,(S.mem z (.inl rfl)).2⟩
    ·exact absurd (S.mem z (.inr rfl)).1 (by decide)
   have ail:X.N[i]?=some n:=by
    have hi:i < X.N.length:=by rw[<-S.len];exact(List.getElem?_eq_some_iff.mp h1').1
    rcases S.rel i hi with z | z
    ·rw[<-z];exact h1'
    ·rw[h1']at z;have e:n=akP:=akx z;rw[e,S.em]at lB;cases lB.1
   obtain⟨m0,hn0,hl0⟩:=I.loc;obtain⟨u,r,l⟩:=hl0 i n v ail h2 (.inr (.inl lB.2.2));refine⟨u,r,.inr ⟨.inl lB.1,?_⟩⟩;obtain⟨c,hc⟩:=Option.isSome_iff_exists.mp (p3 _ lB.2.1 rfl);refine⟨c,hc,?_⟩;rcases l with ⟨k,_⟩ | ⟨_,c',hc',z⟩
   ·have k':X.env.scope.names.lookup n=some .local:=k;rw[lB.2.2]at k';cases k'
   ·rw[p1 n c hc]at hc';cases hc';exact cellK c _ z
 ·obtain⟨v,z⟩:=I.cell y c (p1 y c e);exact⟨v,cellK c v z⟩
 ·show (upd H D (.lst [])) C=none;rw[aw (akI hDC)];exact I.hok.fresh hC
 ·obtain⟨v,z⟩:=I.cell y c (p1 y c e);rw[aw (aks (akq z.lt hD))];exact I.oN y c (p1 y c e)
 ·show (alV xs.length none++σ).length=(xs++M).length;rw[gn,gn,aly,I.len,S.len]
def XPC (X:Cx)(pins:List (Addr×Obj))(σ:St)(E:XK)(C:Addr)(ea:Addr)(s':Shared):Prop :=
 ∃(cls:Value) (xd:Option Addr) (m:Value) (H':Hp) (o:Obj),Inv X (pins++[(C,o)]) σ H' s'/\(∃mC,s'.heap.Ns C mC)/\X.s₀.heap.objs.size<=C/\(∀y c,X.env.cells.lookup y=some c->c≠C)/\(∀p∈X.pn++pins,p.1≠C)/\XAt X (pins++[(C,o)]) H' s'.heap ea cls xd (some m)/\E cls xd H'
theorem Kb {cl:List (Str×Addr)}{RR:Value->Addr->Result->Shared->Prop}{xe:Value->Shared->Prop}(F1:Fr1 X)(S:iC scope X.env.scope xs X.N M)(hc:X.calm=true)(hi:PI X.nox tg iter wi)
  (hg:∀cl C s H fp,PG (gb X xs M scope cl C s H fp) tg g)
  (he:∀cl C s H fp,PEX (gb X xs M scope cl C s H fp) elt te) (I:Inv X pins σ H s) (h:Pq xs.length wi g te σ H Q E)
  (p1:∀n c,cl.lookup n=some c->X.env.cells.lookup n=some c) (p3:∀y∈scope.names,y.2=.free->(cl.lookup y.1).isSome=true)
  (hRR:∀D C H' s' o m,Inv X (pins++[(C,o)]) σ H' s'->s'.heap.get? C=some o->s'.heap.Ns C m->X.s₀.heap.objs.size<=C->(∀y c,X.env.cells.lookup y=some c->c≠C)->(∀p∈X.pn++pins,p.1≠C)->Q (.ref D) H'->RR (.ref D) C (.ok .next) s')
  (hRX:∀D C ea s',XPC X pins σ E C ea s'->RR (.ref D) C (.error (.ref ea)) s') :
  wpAny (model X.prog X.w) X.A (eval iter X.env) (λxv s₁=>wpAny (model X.prog X.w) X.A (pyIter xv) (λit s₂=>wpAny (model X.prog X.w) X.A (newList []) (λacc s₃ =>
   wpAny (model X.prog X.w) X.A (newFunctionEnv scope X.env.globals cl [] X.env.qual none .none (some X.env)) (λEI s₄ =>
    codeAny (model X.prog X.w) X.A (.compStart (.ListComp elt [⟨tg,iter,[],0⟩] scope pos) 0 it acc { EI with scope:=relabel scope X.env }) (RR acc EI.locals) s₄) xe s₃) xe s₂) xe s₁) xe s:=by
 refine ako (hi pins s σ H _ (I.nU _) h) (λv s1 h1=>ako h1 (λitv s2 h2=>?_) λ_ _ z=>akF z) λ_ _ z=>akF z
 obtain⟨it,fp,tn,J,H2,rfl,I2',T,st2,f2',q⟩:=h2;have I2:Inv X pins σ H2 s2:=I2'.d9;have f2:∀b∈fp,gJ X pins H2 b:=f2';refine wpAny_newObj_type (wpAny_newFunctionEnv S.A1 (by intro y hy;simp at hy) (λh₁ hns₁ hsb₁=>?_) S.kind)
 dsimp only at hns₁ hsb₁ ⊢;generalize hHH:s2.heap.push { cls:=.type "list",dict:=none,data:=.seq ([]:List Value).toArray }=HH at hns₁ hsb₁ ⊢;have hCs:HH.objs.size=s2.heap.objs.size+1:=by rw[<-hHH,alA]
 have hDC:s2.heap.objs.size≠HH.objs.size:=by rw[hCs];exact aks (Nat.lt_succ_self _)
 have Pc:s2.heap.objs.size<=HH.objs.size:=by rw[hCs];exact ak7 _
 have below:∀b,b < s2.heap.objs.size->b≠HH.objs.size:=λb hb=>by rw[hCs];exact aks (Nat.lt_succ_of_lt hb)
 have old:∀b o,s2.heap.get? b=some o->h₁.get? b=some o:=λb o e=>hsb₁.extBut b o (below b (om e)) (gr _ (hHH▸gr _ e))
 have Nf:h₁.get? s2.heap.objs.size=some { cls:=.type "list",data:=.seq ([]:List Value).toArray }:=hsb₁.extBut _ _ hDC (gr _ (hHH▸aku _ rfl));have fo:∀b∈fp,b < s2.heap.objs.size:=λb hb=>by
  obtain⟨o,e,_⟩:=T.obj _ _ st2 b hb;exact om e
 have IY:=Nj (tk:=s2.toks+([]:List (Str×Value)).length) S I2 Pc (km _) hDC p1 p3 f2 fo old hns₁ Nf;have st1:tn 0 h₁:=T.keep _ _ _ st2 λb _ o e=>old b o e
 obtain⟨W,⟨m0,w0⟩,turn⟩:=q _ (I2.hok.fresh (km _));generalize hC:HH.objs.size=C at *;generalize hDD:s2.heap.objs.size=D at *;have Ng:s2.heap.objs.size<=C:=by rw[hDD];exact Pc
 have stat:∀ {H':Hp},(∀b∈fp,H' b=none)->∀b∈fp,gJ (gb X xs M scope cl C s2 H2 fp) [] H' b:=λhn b hb =>
  ⟨hn b hb,below b (fo b hb),IY.ok.Et b hb,.inl hb,λy c e=>(f2 b hb).2.2.2.2.1 y c (p1 y c e),λp hp=>absurd (show p∈([]:List (Addr×Obj)) from hp) (by simp)⟩
 have out:∀ {H':Hp} {s':Shared} {σ':St} {pl:List (Addr×Obj)},Inv (gb X xs M scope cl C s2 H2 fp) pl σ' H' s'->∃oC mC,Inv X (pins++[(C,oC)]) σ H' s'/\s'.heap.get? C=some oC/\s'.heap.Ns C mC/\gJ X pins H' C:=λ{H' s' σ' pl} I4=>by
  obtain⟨m4,hn4,_⟩:=I4.loc;obtain⟨oC,es4,ep4,e4,r4⟩:=id hn4;have IX:Inv X pins σ H' s':=I2.L9 (ch:=fp) I4.os I4.base I4.hok I4.bare λb hb=>⟨(f2 b hb).2.2.2.1,(f2 b hb).2.1,(f2 b hb).2.2.2.2.1,(f2 b hb).2.2.2.2.2⟩
  have fC:=I2.AN (H':=H') Ng I4.free;have IX2:Inv X (pins++[(C,oC)]) σ H' s':=IX.Am λp hp=>(List.mem_append.mp hp).elim (λz=>IX.pin p (kj _ z)) λz=>by
   have e:p=(C,oC):=by simpa using z
   subst e;exact⟨e4,fC.1,fC.2.1,fC.2.2.1,λv z=>by rw[r4.1]at z;cases z⟩
  exact⟨oC,m4,IX2,e4,hn4,fC⟩
 have exo:∀ {e:Value} {s':Shared} {σ':St} {pl:List (Addr×Obj)},XP (gb X xs M scope cl C s2 H2 fp) pl σ' E e s'->notedBy (model X.prog X.w) X.A (compEnvC scope cl C X.env) (λe s''=>RR (.ref D) C (.error e) s'') e s':=λ{e s' σ' pl} xp=>by
  obtain⟨ea,cls,xd,m,H',rfl,I4,hx,_,qe⟩:=xp;obtain⟨oC,mC,IX2,e4,hn4,fC⟩:=out I4;have fpx:∀ {b:Addr},gJ (gb X xs M scope cl C s2 H2 fp) pl H' b->gJ X (pins++[(C,oC)]) H' b:=λ{b} z=>by
   have base:gJ X pins H' b:=by
    rcases z.2.2.2.1 with y | y
    ·exact⟨z.1,(f2 b y).2⟩
    ·exact I2.AN y z.1
   refine⟨base.1,base.2.1,base.2.2.1,base.2.2.2.1,base.2.2.2.2.1,λp hp=>?_⟩
   rcases List.mem_append.mp hp with y | y
   ·exact base.2.2.2.2.2 p (akZ _ y)
   ·rcases List.mem_append.mp y with y | y
    ·exact base.2.2.2.2.2 p (kj _ y)
    ·have e:p=(C,oC):=by simpa using y
     subst e;exactλe=>z.2.1 e.symm
  have hx':XAt X (pins++[(C,oC)]) H' s'.heap ea cls xd m:=by
   obtain⟨ok,sl,vs,he',hz,hm⟩:=hx;refine⟨fpx ok,sl,vs,he',hz,?_⟩;cases m with
   |none=>exact hm
   |some m=>obtain⟨T',oT,ts,a,b,c,d⟩:=hm;exact⟨T',oT,ts,a,b,fpx c,d⟩
  have hmk:MOk X m:=by cases m with | none=>exact .inl rfl | some m=>exact .inr (.inr ⟨m,rfl⟩)
  show wpAny _ _ (noteFrame (.ref ea) X.env) _ _ s';refine J7 F1 IX2.ok.frames IX2 hx' hmk λs5 I5 x5=>?_
  refine hRX D C ea s5 ⟨cls,xd,_,H',oC,I5,?_,tm I2.sz Ng,fC.2.2.2.2.1,fC.2.2.2.2.2,x5,qe⟩;have pC:=I5.pin (C,oC) (kj _ (kj _ (by simp)))
  obtain⟨o',es,ep,e0,r⟩:=hn4;rw[e4]at e0;cases e0;exact⟨mC,oC,es,ep,pC.1,r⟩
 have loop:codeAny (model X.prog X.w) X.A (.compLoop (.ListComp elt [⟨tg,iter,[],0⟩] scope pos) 0 (.ref it) (.ref D) (compEnvC scope cl C X.env)) (RR (.ref D) C) { s2 with heap:=h₁,toks:=s2.toks+([]:List (Str×Value)).length }:=by
  refine Ka (λn s'=>∃i vs ys H',Inv (gb X xs M scope cl C s2 H2 fp) [] (vs++σ) H' s'/\vs.length=xs.length/\tn i s'.heap/\(∀b∈fp,H' b=none)/\W i n ys H') ?_ m0 ⟨0,alV xs.length none,[],_,IY,aly,st1,λb hb=>?_,w0⟩
  ·rintro n s3 ⟨i,vs,ys,H3,I3,hvs,st3,fr3,w3⟩;obtain⟨hDl,hw⟩:=turn i n ys H3 w3;rcases hw with ⟨stop,qn⟩ | ⟨go,hsz,step⟩
   ·refine thn (T.done (gb X xs M scope cl C s2 H2 fp) rfl rfl rfl hc i [] s3 _ H3 _ I3 (stat fr3) st3 stop) λr s4 ⟨hr,I4⟩=>?_
    subst hr;obtain⟨oC,m4,IX2,e4,hn4,fC⟩:=out I4;exact hRR D C H3 s4 oC m4 IX2 e4 hn4 (tm I2.sz Ng) fC.2.2.2.2.1 fC.2.2.2.2.2 qn
   ·refine thn (T.item (gb X xs M scope cl C s2 H2 fp) rfl rfl rfl hc i [] s3 _ H3 _ I3 (stat fr3) st3 go) λr s4 ⟨u,hr,h4⟩=>?_
    subst hr;refine thn h4 λ_ s5 ⟨xv,H5,I5,r5,y5,st5,fr5⟩=>?_
    have I5':=I5.pinned (stat fr5) (T.obj _ _ st5);refine ako (hg cl C s2 H2 fp _ s5 _ H5 xv u _ I5' r5 (step xv H5 y5 vs hvs)) (λ_ s6 ⟨σ6,H6,I6,ws,hws,e6,q6⟩=>?_) (λ_ _ f=>f.elim)
    subst e6;refine ako (he cl C s2 H2 fp _ s6 _ H6 _ E I6 q6) (λy s7 ⟨yv,H7,I7,r7,hD7,m',hm',w7⟩=>?_) (λ_ _ f=>exo f)
    refine ako (cU (X:=gb X xs M scope cl C s2 H2 fp) _ s7 _ H7 (.ref D) [yv] (.ref D) [y] (λ_ H8=>H8=upd H7 D (.lst (ys++[yv]))) I7 rfl (.cons r7 .nil) ⟨D,ys,yv,rfl,rfl,hD7,hsz,rfl⟩)
     (λ_ s8 ⟨_,H8,I8,_,e8⟩=>?_) (λ_ _ f=>f.elim)
    subst e8;refine⟨m',hm',i+1,ws,ys++[yv],_,I8.hZ,hws,T.keep _ _ _ st5 λb hb o e=>(I8.pin (b,o) (kj _ (kj _ (jw hb e)))).1,λb hb=>?_,w7⟩
    obtain⟨o,e,d⟩:=T.obj _ _ st5 b hb;exact(I8.pin (b,o) (kj _ (kj _ (jw hb e)))).2.1
  ·show (upd H2 D (.lst [])) b=none;rw[aw (aks (fo b hb))];exact(f2 b hb).1
 exact codeAny_compStart_list loop (T.self _ 0 _ _ _ st1 loop)
theorem SA {C ea:Addr}{s':Shared}{h':Heap}{EI:Env}{α:Type}{w1:String}{Q':α->Shared->Prop}(x:XPC X pins σ E C ea s')(hs':Heap.SameBut C s'.heap h') :
  wpAny (model X.prog X.w) X.A (passOn w1 (.ref ea) EI:Sem α) Q' (XP X pins σ E) { s' with heap:=h' }:=by
 obtain⟨cls,xd,m,H',o,I5,⟨mC,hn⟩,h0,h1,h2,hx,qe⟩:=x;have pC:=I5.pin (C,o) (kj _ (kj _ (by simp)))
 have IX:Inv X pins σ H' s':=I5.hZ;have I6:Inv X pins σ H' { s' with heap:=h' }:=IX.turned (t':=s'.toks) (λb ob hb e=>(hs'.2 b hb).trans e) pC.2.1 pC.2.2.1 (.inr h0) h1 h2
 have ne:∀ {b:Addr},gJ X (pins++[(C,o)]) H' b->b≠C:=λ{b} z e=>z.2.2.2.2.2 (C,o) (kj _ (kj _ (by simp))) e.symm
 obtain⟨ok,sl,vs,he,hz,T,oT,ts,a1,nT,fT,hT,hd,h3⟩:=hx;have x6:XAt X pins H' h' ea cls xd (some m):=⟨ok.drop,sl,vs,(hs'.2 ea (ne ok)).trans he,hz,T,oT,ts,a1,nT,fT.drop,(hs'.2 T (ne fT)).trans hT,hd,h3⟩;unfold PySem.passOn;refine eg (wpAny_field (s:={ s' with heap:=h' }) ((hs'.2 ea (ne ok)).trans he) rfl a1 ?_)
 rw[if_neg (show ¬((akt T == alM)=true) by simp)]
 have step:wpAny (model X.prog X.w) X.A (do setFlight (.ref ea) EI.frame;throw (.ref ea):Sem α) Q' (XP X pins σ E) { s' with heap:=h' } :=
  eg (rS I6 x6 λs2 I2 x2=>wpAny_throw ⟨ea,cls,xd,_,H',rfl,I2,x2,.inr (.inr ⟨_,rfl⟩),qe⟩)
 first
  |exact step
  |exact eg (si step)
theorem PEX.pe {e:Expr}{t:TEX}(h:PEX X e t):PE X e (λσ H Q=>t σ H Q E0):=λpins s σ H Q I hw =>
 ako (h pins s σ H Q E0 I hw) (λ_ _ z=>z) λ_ _ ⟨_,_,_,_,_,_,_,_,_,z⟩=>z.elim
theorem Pt (F1:Fr1 X)(S:iC scope X.env.scope xs X.N M)(hc:X.calm=true)(hi:PI X.nox tg iter wi)(hg:∀cl C s H fp,PG (gb X xs M scope cl C s H fp) tg g)
  (he:∀cl C s H fp,PEX (gb X xs M scope cl C s H fp) elt te)
  (hs:∀x,foldedSetIterable iter X.env x=pure x:=by intro _;rfl):PEX X (.ListComp elt [⟨tg,iter,[],0⟩] scope pos) (Pq xs.length wi g te):=by
 intro pins s σ H Q E I h;obtain⟨cl,Gf,p1,p3⟩:=xw (scope:=scope) (env:=X.env) (λy hy hf=>I.ok.has y.1 (.inl (S.free y hy hf)))
 rw[eval_ListComp];refine wpAny_comprehension_free (use:=none) rfl hs Gf S.kind S.names (Kb (RR:=λacc C=>compPost (model X.prog X.w) X.A (XP X pins σ E) none (EP X pins σ Q) acc C) F1 S hc hi hg he I h p1 p3 ?_ ?_)
 ·intro D C H' s' o m I' e hn h0 h1 h2 q;refine⟨m,hn,λh' hs'=>?_⟩
  have pC:=I'.pin (C,o) (kj _ (kj _ (by simp)))
  have IX:Inv X pins σ H' s':=I'.hZ;exact⟨.ref D,H',IX.turned (t':=s'.toks) (λb ob hb e=>(hs'.2 b hb).trans e) pC.2.1 pC.2.2.1 (.inr h0) h1 h2,rfl,q⟩
 ·intro D C ea s' x;obtain⟨_,_,_,_,_,_,⟨mC,hn⟩,_⟩:=id x;exact⟨mC,hn,λh' hs' EI _=>SA x hs'⟩
end
theorem SD {X:Cx}{K:ba}{es:List Expr}{k:Nat}{t:TGs}{n:Nat}{pos:Pos}(ek:X.K=K)(hc:X.calm=true)(h:PGs X es t)
  (hn:(assignEach es X.env).length=n:=by rfl) (hst:(assignEach es X.env).findIdx? (·.1)=none:=by rfl):PG X (.Tuple es k pos) (VW K n t):=by
 subst ek;exact AM hc h hn hst
def aaT (t:TAX):TEX:=λσ H Q E=>t σ H (λxs H1=>xs.length<=kf/\∀p,H1 p=none->Q (.ref p) (upd H1 p (.tup xs))) E
theorem As {X:Cx}{es:List Expr}{t:TAX}{x1:_}{pos:Pos}(h:PAX X es t):PEX X (.Tuple es x1 pos) (aaT t):=by
 intro pins s σ H Q E I hq;refine wpAny_Tuple_spliced (thn (h pos pins s σ H _ E I hq) λus s1 ⟨xs,H1,I1,r,z,q⟩=>⟨by rw[<-r.length];exact z,?_⟩)
 have hf:H1 s1.heap.objs.size=none:=I1.hok.fresh (km _);refine⟨.ref s1.heap.objs.size,upd H1 s1.heap.objs.size (.tup xs),I1.laid (t':=s1.toks) (λb u e=>gr _ e) (km _) ?_,rfl,q _ hf⟩
 exact⟨z,us,r,⟨_,aku _ rfl,rfl,_,rfl⟩⟩
theorem Wu {K:ba}{a D:Addr}{xs:List V}{te:TEX}{Q:VK}{E:XK}{σ:St}{H1:Hp}(Pv:Nat->List V->Hp->Prop)(h0:Pv 0 [] (upd H1 D (.lst [])))(hz:xs.length<=kf)
  (hl:∀i ys H2,i<=xs.length->Pv i ys H2->SqL K H2 a xs/\H2 D=some (.lst ys)/\ys.length=i)
  (hs:∀i x ys H2,xs[i]?=some x->Pv i ys H2->te (some x::σ) H2 (eB D xs.length Pv i ys) E) (hd:∀ys H2,Pv xs.length ys H2->Q (.ref D) H2) :
  xB 1 (Itl K a) (f9 0) te σ D H1 Q E:=by
 refine⟨λi m ys H=>m=xs.length - i/\i<=xs.length/\Pv i ys H,⟨xs.length,by simp,ak6 _,h0⟩,?_⟩
 rintro i m ys H2 ⟨rfl,hi,p⟩;obtain⟨q,q2,q3⟩:=hl i ys H2 hi p;refine⟨q2,?_⟩
 by_cases hlt:i < xs.length
 ·refine .inr ⟨⟨xs,xs[i],q,by simp[hlt]⟩,by omega,λx H3 y vs hv=>?_⟩
  obtain⟨e,y⟩:=y;subst e;obtain⟨v0,rfl⟩:=List.length_eq_one_iff.mp hv;exact⟨[some x],rfl,rfl,hs i x ys _ (y xs q) p⟩
 ·have e:i=xs.length:=by omega
  subst e;exact .inl ⟨⟨xs,q,km _⟩,hd ys H2 p⟩
theorem Kc {K:ba}{a D:Addr}{xs:List V}{te:TEX}{Q:VK}{E:XK}{σ:St}{H1:Hp}(Pv:Nat->List V->Hp->Prop)(h0:Pv 0 [] (upd H1 D (.lst [])))(hz:xs.length<=kf)
  (hl:∀i ys H2,i<=xs.length->Pv i ys H2->SqL K H2 a xs/\H2 D=some (.lst ys)/\ys.length=i)
  (hs:∀i x ys H2,xs[i]?=some x->Pv i ys H2->∃p t0 t1,x=.ref p/\SqT K H2 p [t0,t1]/\te (some t0::some t1::σ) H2 (eB D xs.length Pv i ys) E) (hd:∀ys H2,Pv xs.length ys H2->Q (.ref D) H2) :
  xB 2 (Itl K a) (VW K 2 (OP (f9 0) (OP (f9 1) aaq))) te σ D H1 Q E:=by
 refine⟨λi m ys H=>m=xs.length - i/\i<=xs.length/\Pv i ys H,⟨xs.length,by simp,ak6 _,h0⟩,?_⟩
 rintro i m ys H2 ⟨rfl,hi,p⟩;obtain⟨q,q2,q3⟩:=hl i ys H2 hi p;refine⟨q2,?_⟩
 by_cases hlt:i < xs.length
 ·refine .inr ⟨⟨xs,xs[i],q,by simp[hlt]⟩,by omega,λx H3 y vs hv=>?_⟩
  obtain⟨e,y⟩:=y;subst e;obtain⟨v0,v1,rfl⟩:∃v0 v1,vs=[v0,v1]:=by
   match vs,hv with
   |[v0,v1],_=>exact⟨v0,v1,rfl⟩
  obtain⟨p',t0,t1,rfl,ht,hw⟩:=hs i x ys _ (y xs q) p;exact⟨p',_,rfl,ht,rfl,t0,_,rfl,t1,_,rfl,rfl,[some t0,some t1],rfl,rfl,hw⟩
 ·have e:i=xs.length:=by omega
  subst e;exact .inl ⟨⟨xs,q,km _⟩,hd ys H2 p⟩
end L2
set_option maxHeartbeats 4000000
namespace L2
open PySem PySem.Spec PyProof.Rows
abbrev TJ:=St->Hp->Str->(Str->Hp->Prop)->Prop
def PJ (X:Cx)(es:List Expr)(t:TJ):Prop :=
 ∀(pins:List (Addr×Obj)) (s:Shared) (σ:St) (H:Hp) (acc:Str) (Q:Str->Hp->Prop),Inv X pins σ H s->t σ H acc Q ->
  Joins (model X.prog X.w) X.A X.xe (evalEach es X.env) acc (λout s1=>∃H1,Inv X pins σ H1 s1/\out.length<=kf/\Q out H1) s
theorem Joins.mono {M:Model}{A:Around}{E:Value->Shared->Prop}{Q Q':Str->Shared->Prop}(hQ:∀o s,Q o s->Q' o s):∀ {ps:List (Sem Value)} {acc:Str} {s:Shared},Joins M A E ps acc Q s->Joins M A E ps acc Q' s
 |[],_,_,h=>hQ _ _ h
 |_::_,_,_,h=>ako h (λ_ _ ⟨y,t,e,l,r⟩=>⟨y,t,e,l,Joins.mono hQ r⟩) λ_ _ z=>z
inductive Kd:V->Str->Prop
 |int {i:Int}:i.natAbs.log2 < 1920->Kd (.int i) (toString i)
 |str {x:Str}:Kd (.str x) x
section
variable{X:Cx}{e:Expr}{es:List Expr}{te:TE}{t:TJ}{y:Str}{j:Nat}{p1 p2 pos:Pos}
theorem A3:PJ X [] (λ_ H acc Q=>acc.length<=kf/\Q acc H):=λ_ _ _ H _ _ I h=>⟨H,I,h.1,h.2⟩
theorem oS (h:PJ X es t):PJ X (.Constant (.str y) j p1::es) (λσ H acc Q=>(acc++y).length<=kf/\t σ H (acc++y) Q):=by
 intro pins s σ H acc Q I hw;show wpAny _ _ (eval (.Constant (.str y) j p1) X.env) _ _ s;exact Calls.Constant_str ⟨y,_,rfl,hw.1,h pins _ σ H _ Q (I.tok _) hw.2⟩
theorem A4 (he:PE X e te)(h:PJ X es t):PJ X (.FormattedValue e (-1) none p1::es) (λσ H acc Q=>te σ H λx H1=>∃z,Kd x z/\z.length<=kf/\(acc++z).length<=kf/\t σ H1 (acc++z) Q):=by
 intro pins s σ H acc Q I hw;show wpAny _ _ (eval (.FormattedValue e (-1) none p1) X.env) _ _ s;refine wpAny_FormattedValue_plain (thn (he pins s σ H _ I hw) λv s1 ⟨x,H1,I1,r1,z,fz,l1,l2,q⟩=>?_)
 cases fz with
 |int hl =>
  obtain⟨tk,rfl⟩:=r1;exact wpAny_formatField_int hl ⟨_,_,rfl,l2,h pins _ σ H1 _ Q ((I1.tok _).tok _) q⟩
 |str =>
  obtain⟨tk,rfl⟩:=r1;exact wpAny_formatField_str ⟨_,_,rfl,l2,h pins _ σ H1 _ Q I1 q⟩ ⟨_,_,rfl,l2,h pins _ σ H1 _ Q (I1.tok _) q⟩ l1
theorem Gm {e₂:Expr}(h:PJ X (e::e₂::es) t):PE X (.JoinedStr (e::e₂::es) pos) (λσ H Q=>t σ H akP λz H1=>Q (.str z) H1):=by
 intro pins s σ H Q I hw;refine wpAny_JoinedStr ?_;have:=h pins s σ H akP _ I hw;refine Joins.mono ?_ this;rintro out s1 ⟨H1,I1,l,q⟩;exact⟨l,.str out,H1,I1.tok _,⟨_,rfl⟩,q⟩
end
def xi (a C:Addr)(xd:Option Addr):HO:=.ext λh=>∃a0:Addr,h.get? a=some ⟨.ref C,xd,.fields #[.ref a0,.none,.none,.none,.bool false,.none],#[]⟩
section
variable{P:me}{w:World}{H:Hp}{h:Heap}{a C:Addr}{xd:Option Addr}
theorem Pu {a0:Addr}(e:h.get? a=some ⟨.ref C,xd,.fields #[.ref a0,.none,.none,.none,.bool false,.none],#[]⟩):eU P w H h a (xi a C xd) :=
 ⟨⟨a0,e⟩,⟨_,e⟩,λ_ _ ⟨b,z⟩ k=>⟨b,k _ z⟩⟩
theorem Pw (x:eU P w H h a (xi a C xd)):∃a0:Addr,h.get? a=some ⟨.ref C,xd,.fields #[.ref a0,.none,.none,.none,.bool false,.none],#[]⟩:=x.1
end
structure Ux (K:ba)(D:Addr):Prop where
 rd:PySem.W.readsIn K D (.type "type")=true
 sp:PySem.W.specialIn K (.ref D) "__getattribute__"=some (some (.builtin "type.__getattribute__"))
 fc:PySem.W.findCls K (.ref D) (.type "type") "__init__"=some (.val (.builtin "ValueError.__init__"))
structure EL (K:ba)(N f:Addr):Prop where
 ex:∃(c:Value) (dd:Option Addr) (es:Array alq) (n:Nat) (sl:Array (Option Value)),K.lookup N=some ⟨c,dd,.dict es n,sl⟩/\strKeys es=true
 at_:di K N "__init__"=some (some (.ref f))
theorem EL.ns {K:ba}{N f:Addr}(x:EL K N f){h:Heap}(X:K.In h):∃mN,h.Ns N mN/\mN "__init__"=some (.ref f):=by
 obtain⟨⟨c,dd,es,n,sl,l,sk⟩,no⟩:=x;have ns:h.Ns N (nsFind es):=⟨_,es,n,X _ _ l,rfl,λe he=>by
  have z:=List.all_eq_true.mp sk e (Array.mem_toList_iff.mpr he);cases hk:e.key with
  |str y t=>exact⟨y,t,rfl⟩
  |_=>rw[hk]at z;exact absurd z kx,λ_=>rfl⟩
 refine⟨_,ns,?_⟩;unfold di at no;rw[l]at no;dsimp only at no;unfold nsFind findBy;rw[<-Array.find?_toList];cases hf:es.toList.find? (λe=>e.key.isStr "__init__") with
 |none =>
  rw[hf]at no;dsimp only at no
  by_cases q:es.toList.any (·.refKey)=true
  ·rw[if_pos q]at no;cases no
  ·rw[if_neg q]at no;cases no
 |some e=>rw[hf]at no;exact akx no
structure EM (K:ba)(C f:Addr)(name:Str):Prop where
 ex:∃(nm q:Str) (N:Addr) (bs bm:List Value) (hdct:Bool) (sn:List Str) (sub:List Value) (ab:Bool) (col:Option Bool) (dd:Option Addr) (k0 k1 k2 k3 k5:Option Value),
  K.lookup C=some (akV nm q C N bs bm hdct sn sub ab col dd k0 k1 k2 k3 k5 "ValueError.__new__")/\iZ K bm/\hdct=true/\EL K N f
 fn:ma K (.ref f)=true
 sa:cb K (.ref C) "__setattr__"=some (some (.builtin "object.__setattr__"))
 na:cb K (.ref C) name=some none
section
variable{X:Cx}{pins:List (Addr×Obj)}{σ:St}{H:Hp}{s:Shared}{C f:Addr}{name:Str}
theorem iZ.pass {K:ba}{bm:List Value}(x:iZ K bm)(self:Value):refuseLoop self "__setattr__" bm=pure ():=by
 induction x with
 |base=>exact PySem.F.store_ValueError.passes self
 |own _ _ _ ih=>rw[refuseLoop_ref];exact ih
theorem Ke {xk:EM X.K C f name}:lC X (.builtin "ValueError.__init__") (λxs H Q=>∃ea v,xs=[.ref ea,v]/\H ea=some (xi ea C none)/\Q .non H):=by
 intro pins s σ H xs us Q I r h;obtain⟨ea,v,rfl,hx,q⟩:=h;obtain⟨nm,qn,N,bs,bm,hdct,sn,sub,ab,col,dd,k0,k1,k2,k3,k5,l,T,hd,hi⟩:=xk.ex;obtain⟨u,u2,rfl,rx,rv⟩:=vals2 r;cases rx;obtain⟨a0,e⟩:=Pw (P:=X.prog) (w:=X.w) (I.hok _ _ hx);have kC:=I.kIn _ _ l;have T1:=T.tail I.kIn;have F:=PySem.F.excBase_ValueError;have ha:X.A.handled=X.A.handled:=rfl;obtain⟨hp,g,d,tk,os⟩:=s;dsimp only at e kC T1;refine wpAny_call (codeAny_call_builtin F.init.plain F.initEntry (wpAny_check_init_subT F T1 kC e rfl ?_))
 wp_walk
 have hE:ea≠hp.objs.size:=aks (om e);have e1:(hp.push { cls:=.type "tuple",data:=.seq #[u2] }).get? ea=_:=gr _ e;have k:∀b o,b≠ea->hp.get? b=some o->((hp.push { cls:=.type "tuple",data:=.seq #[u2] }).update ea (als λx=>x.setIfInBounds 0 (.ref hp.objs.size))).get? b=some o:=λb o hb q =>
  (ak3 _ _ (akI hb)).trans (gr _ q)
 have e2:((hp.push { cls:=.type "tuple",data:=.seq #[u2] }).update ea (als λx=>x.setIfInBounds 0 (.ref hp.objs.size))).get? ea=some ⟨.ref C,none,.fields #[.ref hp.objs.size,.none,.none,.none,.bool false,.none],#[]⟩:=alz _ e1 rfl
 have un:upd H ea (xi ea C none)=H:=by
  funext b
  by_cases z:b=ea
  ·rw[z,ae,hx]
  ·rw[aw z]
 have I2:=I.write (x:=ea) (e:=ea) (o:=xi ea C none) (t':=tk) (by rw[hx];exact alO) (.inl rfl) k ⟨_,e2⟩ (Pu e2)
 rw[un]at I2;exact⟨.non,H,I2,rfl,q⟩
end
end L2
set_option maxHeartbeats 4000000
namespace L2
open PySem PySem.Spec PyProof.Rows PySem.Builtin PySem.Builtin.ObjectAttr
section
variable{prog:me}{w:World}{A:Around}{E:Value->Shared->Prop}{K:ba}{x C f:Addr}{name:Str}{v:Value}
theorem Px {s:Shared}{vs:Array Value}{sl:Array (Option Value)}{Q:Unit->Shared->Prop}(X:K.In s.heap)(xk:EM K C f name)(hx:s.heap.get? x=some ⟨.ref C,none,.fields vs,sl⟩)
  (h:∀h' tk,h'.get? x=some ⟨.ref C,some s.heap.objs.size,.fields vs,sl⟩->h'.Ns1 s.heap.objs.size (λy=>if y=name then some v else none)->(∀b o,b≠x->s.heap.get? b=some o->h'.get? b=some o) ->
   Q () { s with heap:=h',toks:=tk }):wpAny (model prog w) A (setAttr (.ref x) name v) Q E s:=by
 obtain⟨nm,qn,N,bs,bm,hdct,sn,sub,ab,col,dd,k0,k1,k2,k3,k5,l,T,hd,hi⟩:=xk.ex;subst hd;obtain⟨hp,g,d,tk,os⟩:=s;dsimp only at hx h X;have J:PySem.W.InstAt hp x ⟨.ref C,none,.fields vs,sl⟩ C none:=⟨hx,rfl,rfl,trivial⟩;have SF:=PySem.F.store_object;have kC:=X _ _ l;have hT:=T.tail X;have hob:(akt C::bm).contains (.type "object")=true:=by rw[List.contains_cons,hT.hasType (b:=true) (by decide +kernel),Bool.or_true]
 have pass:refuseLoop (.ref x) "__setattr__" (.ref C::bm)=pure ():=by rw[refuseLoop_ref];exact T.pass _
 refine PySem.W.set_plain X J xk.sa ?_;have sb:PySem.W.Looks (model prog w) hp (isInstance (.ref x) (.type "object")) true:=J.type.andThen (PySem.W.looks_mroIn X (by unfold PySem.W.mroIn PySem.W.clsIn;rw[l];simpa using hob))
 refine codeAny_call_builtin SF.slot.plain SF.entry (@PySem.W.check_slot (model prog w) _ _ ⟨hp,g,d,tk+1,os⟩ "object.__setattr__" "object" "__setattr__" (.ref x) [.str name tk,v] [] _ SF.kind SF.split sb (SF.args (.ref x) (.str name tk) v) ?_);have hm:PySem.W.Looks (model prog w) hp (mroOf (.ref C)) (.ref C::bm):=(PySem.W.looks_clsIn X (by unfold PySem.W.clsIn;rw[l])).andThen .now
 rw[PySem.W.osa_eq,refuse_eq];refine eg (eg ((J.type (M:=model prog w)).at (eg (hm.at ?_))));rw[pass];refine si (eg ((J.type (M:=model prog w)).at (eg ((PySem.W.looks_findIn X xk.na).at (eg ((show PySem.W.Looks (model prog w) hp (storeTaker? none) none from .now).at ?_))))))
 have hxs:x≠hp.objs.size:=aks (om hx);obtain⟨cd,hcl,hdd⟩:∃cd,PySem.W.clsIn K C=some cd/\cd.hasDict=true:=⟨_,by unfold PySem.W.clsIn;rw[l],rfl⟩
 refine eg (si (eg (eg (wpAny_loadPart hx (eg ((PySem.W.looks_clsIn X hcl).at ?_))))));rw[hdd];have hx₁:(hp.push { cls:=.type "dict",data:=.dict #[] }).get? x=some _:=gr _ hx;refine eg (wpAny_alloc' ?_);refine eg (wpAny_update' hx₁ ?_);refine si ?_;have hgd:((hp.push { cls:=.type "dict",data:=.dict #[] }).update x λo=>{ cls:=o.cls,dict:=some hp.objs.size,data:=o.data,slots:=o.slots }).get? hp.objs.size
   = some { cls:=.type "dict",data:=.dict #[] } :=
  (Heap.get?_update_ne _ _ _ _ hxs.symm).trans (Heap.get?_push_at rfl rfl)
 have hnd:((hp.push { cls:=.type "dict",data:=.dict #[] }).update x λo=>{ cls:=o.cls,dict:=some hp.objs.size,data:=o.data,slots:=o.slots }).Ns hp.objs.size (λ_=>none) :=
  ⟨_,#[],_,hgd,rfl,λe he=>absurd he (by simp),λ_=>rfl⟩
 show wpAny _ _ (storeInDict hp.objs.size (.str name tk) name v) _ _ _;unfold storeInDict newKeyGuard;refine eg (si (eg (wpAny_nsSet1 (Heap.Ns1.of_empty hnd) λh' hn' hs=>?_)))
 obtain⟨oD,esD,epD,hoD,hdD,hcD⟩:=hn'.count (Within.cons name v Within.nil);refine eg (wpAny_lookBehind hoD (by rw[hdD];exact pastItsLine_dict (tm hcD (by rw[akp,alE,alw];omega))) ?_)
 refine si (h h' _ ?_ hn' λb ob hbx hb=>(hs.2 b (aks (om hb))).trans ((Heap.get?_update_ne _ _ _ _ hbx).trans (gr _ hb)))
 exact(hs.2 x hxs).trans (alz _ hx₁ rfl)
end
end L2
set_option maxHeartbeats 4000000
namespace L2
open PySem PySem.Spec PyProof.Rows
section
variable{prog:me}{w:World}{A:Around}{E:Value->Shared->Prop}{h:Heap}{g:Array GenState}{d:Drawn}{t:Nat}{os:OsState}
variable{nm q:Str}{C N fI:Addr}{bs bm bmB:List Value}{hdct:Bool}{sn:List Str}{sub:List Value}{ab:Bool}{col:Option Bool}{dd:Option Addr}{k0 k1 k2 k3 k5:Option Value}{B nid iid:String}{K:ba}
theorem Nk (X:K.In h)(F:ExcBaseFacts B nid iid bmB)(T:OwnTail h bmB bm){mN:Str->Option Value}{us:List Value}{Q:Fin->Shared->Prop}
  (kC:h.get? C=some (akV nm q C N bs bm hdct sn sub ab col dd k0 k1 k2 k3 k5 nid)) (kN:h.Ns N mN) (kI:mN "__init__"=some (.ref fI)) (hf:PySem.W.typeIn K (.ref fI)=some (.type "function")) (hz:us.length<=kf)
  (hq:wpAny (model prog w) A (call (.ref fI) (.ref (h.objs.size+1)::us)) (λr s'=>r=.none/\Q (.done (.ret (.ref (h.objs.size+1)))) s') E ⟨nC h C us,g,d,t,os⟩) :
  wpAny (model prog w) A (Builtin.«type.__call__» ⟨.ref C::us,[]⟩) Q E ⟨h,g,d,t,os⟩:=by
 repeat (first | with_reducible refine wpAny_loadPart_at kC ?_ | with_reducible refine wpAny_madeBy_exc kC ?_ | wp_step)
 refine codeAny_call_builtin_code (Code.quiet_builtin _ F.quiet) (wpAny_check_new_subT F T kC (codeAny_exc_new_subT F T kC ?_ hz));show wpAny _ _ _ _ _ _;have kC1:(nC h C us).get? C=_:=fG kC;have kN1:(nC h C us).Ns N mN:=kN.keeps λb o e=>fG e
 have X1:K.In (nC h C us):=X.keeps λb o e=>fG e
 have T1:OwnTail (nC h C us) bmB bm:=T.keeps λb o e=>fG e
 have kE:=A2 (h:=h) (C:=C) (us:=us);have self:(akt C::bm).contains (.ref C)=true:=by simp
 unfold isInstance
 repeat (first | with_reducible refine wpAny_loadPart_at kE ?_ | (with_reducible refine wpAny_isSubtype_exc kC1 ?_;rw[self]) | wp_step)
 show wpAny _ _ (typeLookup (.ref C) _) _ _ _;refine wpAny_typeLookup_tail kC1 kN1 T1 F.mroIs F.init.lookup ?_;rw[kI];refine wpAny_holding (eg ((PySem.W.bind_fn X1 (.ref (h.objs.size+1)) hf).at ?_));refine eg (ako hq (λr s' hr=>?_) λ_ _ z=>z)
 obtain⟨rfl,hQ⟩:=hr
 wp_walk
 exact hQ
theorem Py (X:K.In h)(F:ExcBaseFacts B nid iid bmB)(T:OwnTail h bmB bm){mN:Str->Option Value}{us:List Value}{Q:Value->Shared->Prop}
  (kC:h.get? C=some (akV nm q C N bs bm hdct sn sub ab col dd k0 k1 k2 k3 k5 nid)) (kN:h.Ns N mN) (kI:mN "__init__"=some (.ref fI)) (hf:PySem.W.typeIn K (.ref fI)=some (.type "function")) (hz:us.length<=kf)
  (hq:wpAny (model prog w) (A.under (.builtin "type.__call__" ⟨.ref C::us,[]⟩)) (call (.ref fI) (.ref (h.objs.size+1)::us)) (λr s'=>r=.none/\Q (.ref (h.objs.size+1)) s') E ⟨nC h C us,g,d,t,os⟩) :
  wpAny (model prog w) A (call (.ref C) us) Q E ⟨h,g,d,t,os⟩:=by
 have l1:=tc_lookup;have l2:=tc_bind (.ref C);have ty:(⟨h,g,d,t,os⟩:Shared).TypeIs (.ref C) "type":=⟨_,kC,rfl⟩;refine wpAny_call (codeAny_of_tree ?_);show wpAny _ _ (callAny (.ref C) _) _ _ _
 repeat (any_goals (first | assumption | with_reducible refine wpAny_loadPart_at kC ?_ | wp_step))
 exact⟨rfl,codeAny_call_builtin_at (Code.quiet_builtin _ (by decide +kernel)) entry_typeCall (wpAny_check_type_call_sub kC (Nk X F T kC kN kI hf hz hq))⟩
end
def CU (C:Addr)(name:Str):Sp:=λvs H Q _=>∃(e:Addr) (v:V),vs=[.ref e,v]/\H e=some (xi e C none)/\(∃z,Kd v z/\z.length<=10000)/\∀d,H d=none->Q .non (upd (upd H d (.xd [(name,v)])) e (xi e C (some d)))
section
variable{X:Cx}{pins:List (Addr×Obj)}{σ:St}{H:Hp}{s:Shared}{C f:Addr}{name x:Str}{fd:ki}{ps:List Str}{k:Nat}{np gu pos:Pos}{e₀:Expr}{ta:TA}
theorem Nl {E:Value->Shared->Prop}{v:V}{u:Value}{Q:Value->Shared->Prop}(xk:EM X.K C f name)(F:aO X.prog X.w X.K X.mg X.base CX0 k f fd ps (CU C name))(hr:Room (k+1) X.A)(hb:Binds X.K fd ps [])(I:Inv X pins σ H s)(r:RelV v u)
  (hv:∃z,Kd v z/\z.length<=10000)
  (h:∀(e d:Addr) (a0:Value) (s':Shared),H d=none->Inv X pins σ (upd H d (.xd [(name,v)])) s'->gJ X pins (upd H d (.xd [(name,v)])) e->s'.heap.get? e=some ⟨.ref C,some d,.fields #[a0,.none,.none,.none,.bool false,.none],#[]⟩->Q (.ref e) s') :
  wpAny (model X.prog X.w) X.A (call (.ref C) [u]) Q E s:=by
 obtain⟨nm,qn,N,bs,bm,hdct,sn,sub,ab,col,dd,k0,k1,k2,k3,k5,l,T,hd,hi⟩:=xk.ex;obtain⟨mN,kN,kI⟩:=hi.ns I.kIn;have fre:=I.hok.fresh (km _);obtain⟨hp,g,dr,tk,os⟩:=s;have ne:H (hp.objs.size+1)=none:=I.hok.fresh (ak7 _);have I2:Inv X pins σ (upd H (hp.objs.size+1) (xi (hp.objs.size+1) C none)) ⟨nC hp C [u],g,dr,tk,os⟩ :=
  I.laid (h':=nC hp C [u]) (t':=tk) (λb o q=>fG q) (ak7 _) (Pu A2)
 have r2:Vals [V.ref (hp.objs.size+1),v] [akt (hp.objs.size+1),u]:=.cons rfl (.cons r .nil);have hsp:CU C name [V.ref (hp.objs.size+1),v] (upd H (hp.objs.size+1) (xi (hp.objs.size+1) C none))
   (λv' H'=>v'=.non/\∃d,H d=none/\d≠hp.objs.size+1/\H'=upd (upd (upd H (hp.objs.size+1) (xi (hp.objs.size+1) C none)) d (.xd [(name,v)])) (hp.objs.size+1) (xi (hp.objs.size+1) C (some d))) E0:=by
  refine⟨_,v,rfl,ae,hv,λd hd=>⟨rfl,d,?_,?_,rfl⟩⟩
  ·by_cases z:d=hp.objs.size+1
   ·rw[z,ae]at hd;cases hd
   ·rwa [aw z]at hd
  ·intro z;rw[z,ae]at hd;cases hd
 have hl:[akt (hp.objs.size+1),u].length=ps.length:=by rw[<-r2.length];exact F.len _ _ _ _ hsp
 refine Py I.kIn (F:=PySem.F.excBase_ValueError) (T.tail I.kIn) (I.kIn _ _ l) kN kI (beq_iff_eq.mp xk.fn) (show 1<=kf by decide) (wpAny_call (codeAny_mono (F.run _ X.stack _ _ ⟨[akt (hp.objs.size+1),u],[]⟩ _ _ _ E0 (hr.make C [u] [])
  (I2.Sg.make C [u] []) (hb _ [akt (hp.objs.size+1),u] I2.kIn (by rw[alj];exact hl)) (by rw[alj];exact r2) hsp) λrr s' hq=>?_))
 cases rr with
 |error e=>exact hq.elim
 |ok fl =>
  cases fl with
  |ret u' =>
   obtain⟨v',H',os',bare,un,hok,rv,rfl,d,hd1,hd2,rfl⟩:=hq;cases rv;refine⟨rfl,?_⟩;have HeE:∀ {o:HO},upd (upd (upd H (hp.objs.size+1) (xi (hp.objs.size+1) C none)) d (.xd [(name,v)])) (hp.objs.size+1) o (hp.objs.size+1)=some o:=ae;have Hne:∀b,b≠hp.objs.size+1->upd (upd (upd H (hp.objs.size+1) (xi (hp.objs.size+1) C none)) d (.xd [(name,v)])) (hp.objs.size+1) (xi (hp.objs.size+1) C (some d)) b=upd H d (.xd [(name,v)]) b:=λb hb=>by
    rw[aw hb]
    by_cases z:b=d
    ·rw[z,ae,ae]
    ·rw[aw z,aw z,aw hb]
   have He2:upd H d (.xd [(name,v)]) (hp.objs.size+1)=none:=by rw[aw (akI hd2)];exact ne
   have U1:Un (frs X.stack) [] H (upd H (hp.objs.size+1) (xi (hp.objs.size+1) C none)) hp (nC hp C [u]):=Un.laid (λb o q=>fG q) (ak7 _) ne
   have U2:=U1.trans un;have lt:∀b o,hp.get? b=some o->b≠hp.objs.size+1:=λb o q=>aks (Nat.lt_succ_of_lt (om q))
   have U3:Un (frs X.stack) [] H (upd H d (.xd [(name,v)])) hp s'.heap:=by
    refine⟨U2.keep,U2.slot,λb o q n hx=>?_,U2.there,λb xs q=>?_,λb o u q=>?_,λb p q=>?_⟩
    ·have z:=U2.free b o q n hx
     rwa [Hne b (lt b o q)]at z
    ·have z:=U2.xl b xs q
     rwa [Hne b (λe=>by rw[e,ne]at q;cases q)]at z
    ·have z:=U2.vq b o u q
     rwa [Hne b (λe=>by rw[e,ne]at q;cases q)]at z
    ·obtain⟨m,z⟩:=U2.xm b p q;rw[Hne b (λe=>by rw[e,ne]at q;cases q)]at z
     exact⟨m,z⟩
   have K3:HOk X.prog X.w (upd H d (.xd [(name,v)])) s'.heap:=λa o q=>by
    have ha:a≠hp.objs.size+1:=λe=>by rw[e,He2]at q;cases q
    refine(hok a o (by rw[Hne a ha];exact q)).F0 (λb u _ z=>z) (λb z=>?_) (λb xs z=>?_)
    ·rwa [Hne b (λe=>by rw[e,HeE]at z;cases z)]at z
    ·rwa [Hne b (λe=>by rw[e,HeE]at z;cases z)]at z
   obtain⟨a0,ea⟩:=Pw (P:=X.prog) (w:=X.w) (hok _ _ HeE);have I3:Inv X pins σ (upd H d (.xd [(name,v)])) s':=I.L9 (ch:=[]) os' U3 K3 bare λb z=>absurd z (by simp)
   exact h _ d (.ref a0) s' hd1 I3 (I.AN (ak7 _) He2) ea
  |next=>exact akF hq
  |brk=>exact akF hq
  |cont=>exact akF hq
theorem qt (xk:EM X.K C f name)(F:aO X.prog X.w X.K X.mg X.base CX0 k f fd ps (CU C name))(hr:Room (k+1) X.A)(hb:Binds X.K fd ps [])(hc:X.calm=true)(hg:Gl X x)(hm:X.mg x=some (.ref C))(ha:PA X.nox [e₀] ta)
  (hdb:(x == ("__debug__":Str))=false:=by decide) (he:adm [e₀] X.env=[(false,eval e₀ X.env)]:=by rfl) :
  PSX X (.Raise (some (.Call (.Name x np) [e₀] [] gu)) none pos) (λ_ E σ H=>ta σ H λvs H1=>∃v,vs=[v]/\(∃z,Kd v z/\z.length<=10000)/\∀d,H1 d=none->E σ (.ref C) (some d) (upd H1 d (.xd [(name,v)]))):=by
 intro pins s σ H D E I h;obtain⟨nm,q,N,bs,bm,hdct,sn,sub,ab,col,dd,k0,k1,k2,k3,k5,l,T,hd,hi⟩:=xk.ex;have go:wpAny (model X.prog X.w) X.A (eval (.Call (.Name x np) [e₀] [] gu) X.env) (λv s₁=>∃(e:Addr) (xd:Option Addr) (a0:Value) (sl:Array (Option Value)),v=.ref e/\s₁.heap.get? C=some (akV nm q C N bs bm hdct sn sub ab col dd k0 k1 k2 k3 k5 "ValueError.__new__") /\
   s₁.heap.get? e=some ⟨.ref C,xd,.fields #[a0,.none,.none,.none,.bool false,.none],sl⟩/\XPS X pins E (.ref e) s₁) (XPS X pins E) s:=by
  refine wpAny_Call_Name_kw (j6 I hg hm ?_ hdb);unfold callWith;rw[he];refine eg (wpAny_holding (Calls.evalArgs_plain ?_));have ha':=ha gu pins s σ H _ (I.nU _) h;rw[show X.nox.env=X.env from rfl,he]at ha'
  refine ako ha' (λus s₁ ⟨vs,H1,I1,r,v,hvs,hv,q1⟩=>eg (alc ?_)) λ_ _ z=>akF z
  subst hvs;obtain⟨u,rfl,rv⟩:=Vals.one r;have I1':=I1.d9;have kC:=I1'.kIn _ _ l;have pl:(backTo gu [(false,eval e₀ X.env)]).any (·.1)=false:=rfl
  have fin:wpAny (model X.prog X.w) X.A (call (.ref C) ([]++[u])) (λr s'=>∃(e:Addr) (xd:Option Addr) (a0:Value) (sl:Array (Option Value)),r=.ref e/\s'.heap.get? C=some (akV nm q C N bs bm hdct sn sub ab col dd k0 k1 k2 k3 k5 "ValueError.__new__") /\
   s'.heap.get? e=some ⟨.ref C,xd,.fields #[a0,.none,.none,.none,.bool false,.none],sl⟩/\XPS X pins E (.ref e) s') (XPS X pins E) s₁:=by
   refine Nl xk F hr hb I1' rv hv λe d a0 s' hd1 I2 fp ke=>?_
   exact⟨e,some d,a0,#[],rfl,I2.kIn _ _ l,ke,σ,e,.ref C,some d,none,_,rfl,I2,⟨fp,_,_,ke,(by show 1 < 6;decide),rfl⟩,.inl rfl,q1 d hd1⟩
  obtain⟨hp,g',d',tk,os'⟩:=s₁;simp only[pl];refine eg (wpAny_keeperOf_exc kC ?_);exact eg (ako fin (λv s2 z=>eg (wpAny_holding (wpAny_point (si z)))) λ_ _ z=>z)
 rw[arm_exec_Raise];have hbx:bm.contains (.type "BaseException")=true:=(T.tail I.kIn).hasType (b:=true) (by decide +kernel)
 first
  |exact eg (alc (tU (C:=C) (nm:=nm) (q:=q) (N:=N) (bs:=bs) (bm:=bm) (hdct:=hdct) (sn:=sn) (sub:=sub) (ab:=ab) (col:=col) (dd:=dd) (k0:=k0) (k1:=k1) (k2:=k2) (k3:=k3) (k5:=k5) hbx (I.ok.hd hc) (eg (ako go (λv s₃ h₃=>eg (alc (si h₃))) λ_ _ z=>z))))
  | (simp only[evalOpt,Option.map];exact eg (alc (tU (C:=C) (nm:=nm) (q:=q) (N:=N) (bs:=bs) (bm:=bm) (hdct:=hdct) (sn:=sn) (sub:=sub) (ab:=ab) (col:=col) (dd:=dd) (k0:=k0) (k1:=k1) (k2:=k2) (k3:=k3) (k5:=k5) hbx (I.ok.hd hc) (eg (ako go (λv s₃ h₃=>eg (alc (si h₃))) λ_ _ z=>z)))))
end
end L2
set_option maxHeartbeats 4000000
namespace L2
open PySem PySem.Spec PyProof.Rows
section
variable{X:Cx}{pins:List (Addr×Obj)}{σ:St}{H:Hp}{s:Shared}{C D f:Addr}{name x:Str}{np apos gu pos pos':Pos}{o e value:Expr}{ta tv:TE}{t:TA}
theorem A5 {pl:Sem Bool}(ik:Ux X.K D)(xk:EM X.K C f name)(hg:Gl X x)(hm:X.mg x=some (.ref D))(ha:PA X [o,e] t)(hdb:(x == ("__debug__":Str))=false:=by decide)
  (hst:adm [o,e] X.env=(false,eval o X.env)::adm [e] X.env:=by rfl) (hpl:(backTo pos (adm [e] X.env)).any (·.1)=false:=by rfl)
  (ht:eval (.Call (.Attribute (.Name x np) "__init__" apos) [o,e] [] pos) X.env=(do
   let ov <-eval (.Name x np) X.env
   standAt apos.atName
   let (f,first) <-holding [ov] (getMethod ov "__init__" pl)
   callWith pos f first (backTo pos (adm [o,e] X.env)) (backToKw pos (keywordEach [] X.env))):=by rfl) :
  PE X (.Call (.Attribute (.Name x np) "__init__" apos) [o,e] [] pos) (λσ H Q=>t σ H λvs H1=>∃ea v,vs=[.ref ea,v]/\H1 ea=some (xi ea C none)/\Q .non H1):=by
 intro pins s σ H Q I h;refine alg (pl:=pl) (j6 I hg hm ?_ hdb) ht;refine PySem.W.method_cls I.kIn ik.sp (PySem.W.cls_value I.kIn ik.rd ik.fc (by decide +kernel) ?_)
 show wpAny _ _ (callWith pos (.builtin "ValueError.__init__") [] (backTo pos (adm [o,e] X.env)) []) _ _ _;exact PyProof.Rows.callWith_builtin1 (thn (ha pos pins _ σ H _ (I.tok _) h) λus s1 ⟨vs,H1,I1,r1,ea,v,hv,hx,q⟩=>Ke (xk:=xk) pins s1 σ H1 vs us Q I1 r1 ⟨ea,v,hv,hx,q⟩) hst hpl
theorem EN (xk:EM X.K C f name)(ha:PE X o ta)(hv:PE X value tv)(hs:swapsWith value (some (.Attribute o name pos')) pos.line X.env=pure false:=by rfl):PS X (.Assign [.Attribute o name pos'] value pos)
  (λD σ H=>tv σ H λy H1=>ta σ H1 λx H2=>∃ea,x=.ref ea/\H2 ea=some (xi ea C none)/\∀d,H2 d=none->D.nx σ (upd (upd H2 d (.xd [(name,y)])) ea (xi ea C (some d)))):=by
 intro pins s σ H D I h;refine plainObj_wpAny_Assign_Attribute (thn (hv pins s σ H _ I h) λu s1 ⟨y,H1,I1,ry,q⟩=>thn (ha pins s1 σ H1 _ I1 q) λov s2 ⟨x,H2,I2,rx,ea,ex,hx,q2⟩=>?_) hs
 subst ex;obtain rfl:ov=akt ea:=rx;obtain⟨a0,e0⟩:=Pw (P:=X.prog) (w:=X.w) (I2.hok _ _ hx);have fr:H2 s2.heap.objs.size=none:=I2.hok.fresh (km _);refine Px I2.kIn xk e0 λh' tk hx' ns kk=>⟨σ,_,?_,q2 _ fr⟩
 have hde:ea≠s2.heap.objs.size:=aJ hx fr;have old:∀b,b≠ea->b≠s2.heap.objs.size->upd (upd H2 s2.heap.objs.size (.xd [(name,y)])) ea (xi ea C (some s2.heap.objs.size)) b=H2 b:=λb h1 h2=>by rw[aw h1,aw h2]
 have lt:∀b ob,s2.heap.get? b=some ob->b≠s2.heap.objs.size:=λb ob q=>aks (om q)
 have nx:∀b,H2 b=none->b≠ea:=λb n z=>by rw[z,hx]at n;cases n
 have ns':∀b {o:HO},H2 b=some o->b≠s2.heap.objs.size:=λb _ n z=>by rw[z,fr]at n;cases n
 refine I2.un (t':=tk) ⟨λb ob q n _ _=>kk b ob (nx b n) q,λb ob q n _ _=>⟨ob.slots,kk b ob (nx b n) q⟩,λb ob q n _=>by rw[old b (nx b n) (lt b ob q)];exact n,λb ob q _=>?_,λb xs q=>?_,λb ob u q=>?_,λb ps q=>?_⟩ λa ob q=>?_
 ·by_cases z:b=ea
  ·exact⟨_,by rw[z];exact hx'⟩
  ·exact⟨ob,kk b ob z q⟩
 ·rw[old b (λz=>by rw[z,hx]at q;cases q) (ns' b q)];exact q
 ·rw[old b (λz=>by rw[z,hx]at q;cases q) (ns' b q)];exact q
 ·exact⟨#[],by rw[old b (λz=>by rw[z,hx]at q;cases q) (ns' b q),q];simp⟩
 ·by_cases z:a=ea
  ·subst z;rw[ae]at q;cases q;exact Pu hx'
  ·rw[aw z]at q
   by_cases z2:a=s2.heap.objs.size
   ·rw[z2,ae]at q;cases q;refine⟨_,by rw[z2];exact ns,λg=>?_⟩
    rw[List.lookup_cons]
    by_cases hg:g=name
    ·rw[if_pos hg,show (g == name)=true from beq_iff_eq.mpr hg];exact ry
    ·rw[if_neg hg,show (g == name)=false from beq_eq_false_iff_ne.mpr hg];exact alO
   ·rw[aw z2]at q;refine(I2.hok a ob q).F0 (λb u hb r=>kk b u ?_ r) (λb r=>?_) (λb xs r=>?_)
    ·rintro rfl;rcases hb with hb | hb
     ·exact z hb.symm
     ·rw[hx]at hb;cases hb
    ·rw[old b (λz=>by rw[z,hx]at r;cases r) (ns' b r)];exact r
    ·rw[old b (λz=>by rw[z,hx]at r;cases r) (ns' b r)];exact r
structure akm (K:ba)(C:Addr)(name:Str):Prop where
 ga:GaX K C
 na:cb K (.ref C) name=some none
 hd:akQ K C=true
end
end L2
set_option maxHeartbeats 4000000
namespace L2
open PySem PySem.Spec PyProof.Rows
section
variable{κ:Type}[DecidableEq κ]
def gL (kvs:List (κ×V))(k:κ):Option V:=(kvs.find? λkv=>decide (kv.1=k)).map (·.2)
def putK (kvs:List (κ×V))(k:κ)(v:V):List (κ×V) :=
 if (kvs.any λkv=>decide (kv.1=k))=true then kvs.map (λkv=>if kv.1=k then (kv.1,v) else kv) else kvs++[(k,v)]
def iJ (kvs:List (κ×V))(k:κ):List (κ×V):=kvs.filter λkv=>decide (kv.1≠k)
theorem eC {p:κ×V}{r:List (κ×V)}{k:κ}(e:p.1=k):gL (p::r) k=some p.2:=by simp[gL,akU,e]
theorem bP {p:κ×V}{r:List (κ×V)}{k:κ}(e:¬p.1=k):gL (p::r) k=gL r k:=by simp[gL,akU,e]
theorem rT (k:κ):∀kvs:List (κ×V),(kvs.any λkv=>decide (kv.1=k))=(gL kvs k).isSome
 |[]=>rfl
 |p::r=>by
  rw[List.any_cons]
  by_cases e:p.1=k
  ·simp only[eC e,decide_eq_true e,Bool.true_or,Option.isSome_some]
  ·rw[bP e,decide_eq_false e,Bool.false_or];exact rT k r
theorem rV (kvs:List (κ×V))(k:κ)(v:V):(putK kvs k v).length<=kvs.length+1:=by
 unfold putK;split
 ·rw[bo];omega
 ·rw[gn,akp,alE];omega
theorem Pz {kvs:List (κ×V)}{k:κ}(v:V)(h:gL kvs k=none):putK kvs k v=kvs++[(k,v)]:=by
 unfold putK;rw[rT,h];exact if_neg (by decide)
theorem qm.tV {o:Option V}{u:Option Value}(r:qm o u):o.isSome=u.isSome:=by
 cases o with
 |none=>cases u with
  |none=>rfl
  |some _=>exact(show False from r).elim
 |some _=>cases u with
  |none=>exact(show False from r).elim
  |some _=>rfl
theorem qm.getD {o:Option V}{u:Option Value}{d:V}{d':Value}(r:qm o u)(rd:RelV d d'):RelV (o.getD d) (u.getD d'):=by
 cases o with
 |none=>cases u with
  |none=>exact rd
  |some _=>exact(show False from r).elim
 |some _=>cases u with
  |none=>exact(show False from r).elim
  |some _=>exact r
theorem KV.val {kvs:List (κ×V)}{vs:List (κ×Value)}(r:KV kvs vs)(k:κ):qm (gL kvs k) (valueAt vs k):=by
 unfold KV at r
 induction r with
 |nil=>exact alO
 | @cons p q ps qs h t ih =>
  obtain⟨h1,h2⟩:=h
  by_cases e:p.1=k
  ·have e':q.1=k:=h1.symm.trans e;have b:valueAt (q::qs) k=some q.2:=by simp[valueAt,akU,e']
   rw[eC e,b];exact h2
  ·have e':¬q.1=k:=λz=>e (h1.trans z)
   have b:valueAt (q::qs) k=valueAt qs k:=by simp[valueAt,akU,e']
   rw[bP e,b];exact ih
theorem KV.any {kvs:List (κ×V)}{vs:List (κ×Value)}(r:KV kvs vs)(k:κ):(kvs.any λkv=>decide (kv.1=k))=vs.any λkv=>decide (kv.1=k):=by
 unfold KV at r
 induction r with
 |nil=>rfl
 |cons h t ih=>rw[List.any_cons,List.any_cons,ih,h.1]
theorem KV.Wv {kvs:List (κ×V)}{vs:List (κ×Value)}(r:KV kvs vs)(k:κ){y:V}{u:Value}(ry:RelV y u) :
  KV (kvs.map λkv=>if kv.1=k then (kv.1,y) else kv) (vs.map λkv=>if kv.1=k then (kv.1,u) else kv):=by
 unfold KV at r ⊢
 induction r with
 |nil=>exact .nil
 | @cons p q ps qs h t ih =>
  rw[ko,ko];refine .cons ?_ ih;obtain⟨h1,h2⟩:=h
  by_cases e:p.1=k
  ·rw[if_pos e,if_pos (h1.symm.trans e)];exact⟨h1,ry⟩
  ·rw[if_neg e,if_neg (λz=>e (h1.trans z))];exact⟨h1,h2⟩
theorem KV.put {kvs:List (κ×V)}{vs:List (κ×Value)}(r:KV kvs vs)(k:κ){y:V}{u:Value}(ry:RelV y u):KV (putK kvs k y) (stored vs k u):=by
 unfold putK stored;rw[r.any k]
 by_cases e:(vs.any λkv=>decide (kv.1=k))=true
 ·rw[if_pos e,if_pos e];exact r.Wv k ry
 ·rw[if_neg e,if_neg e];exact Paired.snoc r ⟨rfl,ry⟩
theorem KV.drop {kvs:List (κ×V)}{vs:List (κ×Value)}(r:KV kvs vs)(k:κ):KV (iJ kvs k) (without vs k):=by
 unfold KV at r ⊢;unfold iJ without
 induction r with
 |nil=>exact .nil
 | @cons p q ps qs h t ih =>
  obtain⟨h1,h2⟩:=h;rw[List.filter_cons,List.filter_cons]
  by_cases e:p.1=k
  ·have a:¬decide (p.1≠k)=true:=by simp[e]
   have b:¬decide (q.1≠k)=true:=by simp[h1.symm.trans e]
   rw[if_neg a,if_neg b];exact ih
  ·have e':¬q.1=k:=λz=>e (h1.trans z)
   have a:decide (p.1≠k)=true:=by simp[e]
   have b:decide (q.1≠k)=true:=by simp[e']
   rw[if_pos a,if_pos b];exact .cons ⟨h1,h2⟩ ih
theorem KV.keys {kvs:List (κ×V)}{vs:List (κ×Value)}(r:KV kvs vs):kvs.map (·.1)=vs.map (·.1):=by
 unfold KV at r
 induction r with
 |nil=>rfl
 |cons h t ih=>rw[ko,ko,ih,h.1]
theorem KV.length {kvs:List (κ×V)}{vs:List (κ×Value)}(r:KV kvs vs):kvs.length=vs.length:=Paired.length r
theorem Gn (kvs:List (κ×V))(k:κ):(iJ kvs k).length<=kvs.length:=List.length_filter_le _ _
end
theorem A6 {P:me}{w:World}{k:Key}{u:Value}(r:RelV (kV k) u):(cO P w).is k u=true:=by
 cases k with
 |inl i=>obtain⟨t,e⟩:=(show ∃t,u=Value.int i t from r);subst e;exact FY P w i t
 |inr x=>obtain⟨t,e⟩:=(show ∃t,u=Value.str x t from r);subst e;exact FZ P w x t
theorem Dy {P:me}{w:World}:∀ {ks:List Key} {us:List Value},Vals (ks.map kV) us->ItemsAre (cO P w) ks us
 |[],_,r=>by rw[akW]at r;cases r;exact .nil
 |k::ks,_,r=>by
  rw[ko]at r;cases r with
  |cons h t=>exact .cons (A6 h) (Dy t)
abbrev KT (H:Hp):List (List Key×V)->List (List Key×Addr×Value)->Prop:=Paired λp q=>p.1=q.1/\H q.2.1=some (.tup (p.1.map kV))/\RelV p.2 q.2.2
theorem KT.val {H:Hp}{kvs:List (List Key×V)}{xs:List (List Key×Addr×Value)}(r:KT H kvs xs)(k:List Key):qm (gL kvs k) ((atKey xs k).map (·.2)):=by
 induction r with
 |nil=>exact alO
 | @cons p q ps qs h t ih =>
  obtain⟨h1,_,h2⟩:=h
  by_cases e:p.1=k
  ·have e':q.1=k:=h1.symm.trans e;have b:atKey (q::qs) k=some q.2:=by simp[atKey,akU,e']
   rw[eC e,b];exact h2
  ·have e':¬q.1=k:=λz=>e (h1.trans z)
   have b:atKey (q::qs) k=atKey qs k:=by simp[atKey,akU,e']
   rw[bP e,b];exact ih
theorem KT.Wv {H:Hp}{kvs:List (List Key×V)}{xs:List (List Key×Addr×Value)}(r:KT H kvs xs)(k:List Key){y:V}{u:Value}(ry:RelV y u) :
  KT H (kvs.map λkv=>if kv.1=k then (kv.1,y) else kv) (xs.map (putAt k u)):=by
 induction r with
 |nil=>exact .nil
 | @cons p q ps qs h t ih =>
  rw[ko,ko];refine .cons ?_ ih;obtain⟨h1,h2,h3⟩:=h;unfold putAt
  by_cases e:p.1=k
  ·rw[if_pos e,if_pos (h1.symm.trans e)];exact⟨h1,h2,ry⟩
  ·rw[if_neg e,if_neg (λz=>e (h1.trans z))];exact⟨h1,h2,h3⟩
theorem KT.put {H:Hp}{kvs:List (List Key×V)}{xs:List (List Key×Addr×Value)}(r:KT H kvs xs)(k:List Key){b:Addr}{y:V}{u:Value}(hb:H b=some (.tup (k.map kV)))(ry:RelV y u) :
  KT H (putK kvs k y) (storedH xs k b u):=by
 have e:(kvs.any λkv=>decide (kv.1=k))=(atKey xs k).isSome:=by
  rw[rT,(r.val k).tV,Option.isSome_map]
 unfold putK storedH;rw[e]
 by_cases q:(atKey xs k).isSome=true
 ·rw[if_pos q,if_pos q];exact r.Wv k ry
 ·rw[if_neg q,if_neg q];exact Paired.snoc r ⟨rfl,hb,ry⟩
theorem KT.keeps {H H':Hp}{kvs:List (List Key×V)}{xs:List (List Key×Addr×Value)}(r:KT H kvs xs)(ht:∀b ys,H b=some (.tup ys)->H' b=some (.tup ys)):KT H' kvs xs :=
 Paired.VS r λ_ _ z=>⟨z.1,ht _ _ z.2.1,z.2.2⟩
section
variable{P:me}{w:World}{H:Hp}{h:Heap}{a:Addr}
theorem Uy {u:HO}(ok:HOk P w H h)(e:Rd H a u):eU P w H h a u:=e.ok ok
theorem Dz {kvs:List (Key×V)}(ok:HOk P w H h)(e:Rd H a (.dK kvs)):kvs.length<=kf/\(a == alN)=false/\∃vs,KV kvs vs/\h.DictOf (cO P w) a vs :=
 show eU P w H h a (.dK kvs) from Uy ok e
theorem A7 {kvs:List (Key×V)}(ok:HOk P w H h)(e:H a=some (.dK kvs)):kvs.length<=kf/\(a == alN)=false/\∃vs,KV kvs vs/\h.DictOf (cO P w) a vs:=Dz ok (.inl e)
theorem EO {ks:List Key}(ok:HOk P w H h)(e:H a=some (.tup (ks.map kV))):(tupleKind (cO P w)).is h ks a:=by
 obtain⟨_,its,r,o,h1,h2,n,h3⟩:=(show eU P w H h a (.tup (ks.map kV)) from ok a _ e)
 exact⟨o,its.toArray,n,h1,h2,h3,by simpa using Dy r⟩
theorem Gp {kvs:List (List Key×V)}(ok:HOk P w H h)(e:Rd H a (.dT kvs)):kvs.length<=kf/\(a == alN)=false /\
  ∃xs,KT H kvs xs/\h.DictOfH (tupleKind (cO P w)) a xs:=by
 obtain⟨z,y,xs,r,o,es,ep,h1,h2,h3,h4,h5⟩:=(show eU P w H h a (.dT kvs) from Uy ok e)
 refine⟨z,y,xs,r,o,es,ep,h1,h2,h3,h4,λx hx=>?_,h5⟩
 have all:∀ {l:List (List Key×V)} {m:List (List Key×Addr×Value)},KT H l m->∀x∈m,(tupleKind (cO P w)).is h x.1 x.2.1:=by
  intro l m q
  induction q with
  |nil=>intro x hx;exact nomatch hx
  | @cons p q ps qs hq t ih =>
   intro x hx;rcases List.mem_cons.mp hx with e | hx
   ·subst e;exact EO ok (by rw[<-hq.1];exact hq.2.1)
   ·exact ih x hx
 exact all r x hx
theorem aaU {kvs:List (List Key×V)}(ok:HOk P w H h)(e:H a=some (.dT kvs)):kvs.length<=kf/\(a == alN)=false /\
  ∃xs,KT H kvs xs/\h.DictOfH (tupleKind (cO P w)) a xs:=Gp ok (.inl e)
end
def uI (H:Hp)(a:Addr)(y:V)(r:Option V):Prop :=
 (∃kvs k,Rd H a (.dK kvs)/\y=kV k/\r=gL kvs k)\/∃kvs k b,Rd H a (.dT kvs)/\y=.ref b/\H b=some (.tup (k.map kV))/\r=gL kvs k
def oU (H:Hp)(a:Addr)(y v:V)(H':Hp):Prop :=
 (∃kvs k,H a=some (.dK kvs)/\y=kV k/\kvs.length < kf/\H'=upd H a (.dK (putK kvs k v))) \/
 ∃kvs k b,H a=some (.dT kvs)/\y=.ref b/\H b=some (.tup (k.map kV))/\kvs.length < kf/\H'=upd H a (.dT (putK kvs k v))
theorem uI.k {H:Hp}{a:Addr}{kvs:List (Key×V)}{k:Key}(e:H a=some (.dK kvs)):uI H a (kV k) (gL kvs k):=.inl ⟨kvs,k,.inl e,rfl,rfl⟩
theorem uI.t {H:Hp}{a b:Addr}{kvs:List (List Key×V)}{k:List Key}(e:H a=some (.dT kvs))(eb:H b=some (.tup (k.map kV))):uI H a (.ref b) (gL kvs k):=.inr ⟨kvs,k,b,.inl e,rfl,eb,rfl⟩
theorem oU.k {H:Hp}{a:Addr}{kvs:List (Key×V)}{k:Key}{v:V}(e:H a=some (.dK kvs))(hl:kvs.length < kf):oU H a (kV k) v (upd H a (.dK (putK kvs k v))):=.inl ⟨kvs,k,e,rfl,hl,rfl⟩
theorem oU.t {H:Hp}{a b:Addr}{kvs:List (List Key×V)}{k:List Key}{v:V}(e:H a=some (.dT kvs))(eb:H b=some (.tup (k.map kV)))(hl:kvs.length < kf) :
  oU H a (.ref b) v (upd H a (.dT (putK kvs k v))):=.inr ⟨kvs,k,b,e,rfl,eb,hl,rfl⟩
section
variable{X:Cx}{pins:List (Addr×Obj)}{σ:St}{H:Hp}{s:Shared}{a:Addr}{y v:V}{u r:Value}{o:Option V}{A:Around}{E:Value->Shared->Prop}
theorem Inv.big (I:Inv X pins σ H s):alN < s.heap.objs.size:=by
 have h:ka < s.heap.objs.size:=(I.mod.glob.keeps I.bk).lt;exact Nat.lt_trans (by decide) h
theorem Nm {Q:Value->Shared->Prop}(hu:A.units+1 < cLine)(I:Inv X pins σ H s)(g:uI H a y (some v))(ry:RelV y u)(h:∀w' s',Inv X pins σ H s'->RelV v w'->Q w' s') :
  wpAny (model X.prog X.w) A (getItem (.ref a) u) Q E s:=by
 rcases g with ⟨kvs,k,e,ey,l⟩ | ⟨kvs,k,b,e,ey,eb,l⟩
 ·subst ey;obtain⟨z,hd,vs,rel,dd⟩:=Dz I.hok e;obtain⟨w',hw,rw'⟩:=qm.some_of (v:=v) (o:=valueAt vs k) (by rw[l];exact rel.val k)
  exact wpAny_getItem_of (A6 ry) dd.mapOf hw (h w' _ (I.tok _) rw')
 ·subst ey;cases (show u=akt b from ry)
  obtain⟨z,hd,xs,rel,dd⟩:=Gp I.hok e;obtain⟨w',hw,rw'⟩:=qm.some_of (v:=v) (o:=(atKey xs k).map (·.2)) (by rw[l];exact rel.val k)
  obtain⟨p,hp,hp2⟩:=Option.map_eq_some_iff.mp hw;refine wpAny_getItem_heap (tupleKind_room_in1 hu) (EO I.hok eb) dd hp ?_;rw[hp2];exact h w' _ (I.tok _) rw'
theorem SE {Q:Value->Shared->Prop}(hu:A.units+1 < cLine)(I:Inv X pins σ H s)(g:uI H a y o)(ry:RelV y u)(h:∀s',Inv X pins σ H s'->Q (.bool (!o.isSome)) s') :
  wpAny (model X.prog X.w) A (alo .NotIn u (.ref a)) Q E s:=by
 rcases g with ⟨kvs,k,e,ey,l⟩ | ⟨kvs,k,b,e,ey,eb,l⟩
 ·subst ey;obtain⟨z,hd,vs,rel,dd⟩:=Dz I.hok e;refine wpAny_notIn_of (A6 ry) hd dd.mapOf ?_;rw[<-(rel.val k).tV,<-l];exact h _ (I.tok _)
 ·subst ey;cases (show u=akt b from ry)
  obtain⟨z,hd,xs,rel,dd⟩:=Gp I.hok e;refine wpAny_notIn_heap (tupleKind_room_in1 hu) (EO I.hok eb) hd dd ?_;have q:=(rel.val k).tV;rw[Option.isSome_map]at q;rw[<-q,<-l];exact h _ (I.tok _)
theorem vJ {h':Heap}{t':Nat}{ob:HO}(I:Inv X pins σ H s)(mu:Mut (H a))(hs:Heap.SameBut a s.heap h')(he:∃q,h'.get? a=some q)(new:eU X.prog X.w (upd H a ob) h' a ob) :
  Inv X pins σ (upd H a ob) { s with heap:=h',toks:=t' } :=
 I.write (x:=a) (e:=a) mu (.inl rfl) (λb q hb z=>(hs.2 b hb).trans z) he new
theorem ER {P:me}{w:World}{H':Hp}{h':Heap}{kvs:List (Key×V)}{vs:List (Key×Value)}(z:kvs.length<=kf)(hd:(a == alN)=false)(rel:KV kvs vs)(dd:h'.DictOf (cO P w) a vs) :
  eU P w H' h' a (.dK kvs):=⟨z,hd,vs,rel,dd⟩
theorem Nn {H':Hp}{Q:Unit->Shared->Prop}(hu:A.units+1 < cLine)(I:Inv X pins σ H s)(g:oU H a y v H')(ry:RelV y u)(rv:RelV v r)(h:∀s',Inv X pins σ H' s'->Q () s') :
  wpAny (model X.prog X.w) A (setItem (.ref a) u r) Q E s:=by
 rcases g with ⟨kvs,k,e,ey,l,eH⟩ | ⟨kvs,k,b,e,ey,eb,l,eH⟩
 ·subst ey eH;obtain⟨z,hd,vs,rel,dd⟩:=A7 I.hok e;have hz:vs.length<=kf:=by rw[<-rel.length];exact z
  have hl:(putK kvs k v).length<=kf:=by have:=rV kvs k v;omega
  refine wpAny_setItem_pairs (hsz:=hz) (A6 ry) dd λh' dd' hs=>h _ ?_
  have he:∃q,h'.get? a=some q:=let ⟨q,_,_,hq,_⟩:=dd';⟨q,hq⟩
  exact vJ I (by rw[e];exact alO) hs he (ER hl hd (rel.put k rv) dd')
 ·subst ey eH;cases (show u=akt b from ry)
  obtain⟨z,hd,xs,rel,dd⟩:=aaU I.hok e;have hz:xs.length<=kf:=by rw[<-Paired.length rel];exact z
  have hl:(putK kvs k v).length<=kf:=by have:=rV kvs k v;omega
  refine wpAny_setItem_heap (hsz:=hz) (tupleKind_room_in1 hu) (EO I.hok eb) dd λh' dd' hs=>h _ ?_
  obtain⟨q,es,ep,hq,h2,h3,h4,_,h5⟩:=dd';refine vJ I (by rw[e];exact alO) hs ⟨q,hq⟩ ⟨hl,hd,_,(rel.put k eb rv).keeps λc ys ec=>?_,q,es,ep,hq,h2,h3,h4,h5⟩
  rw[aw (aah ec e (λz=>nomatch z))]
  exact ec
end
section
variable{X:Cx}{pins:List (Addr×Obj)}{σ:St}{H:Hp}{s:Shared}{a:Addr}{kvs:List (Key×V)}{k:Key}{u:Value}{A:Around}{E:Value->Shared->Prop}
theorem aag {Q:Unit->Shared->Prop}(I:Inv X pins σ H s)(e:H a=some (.dK kvs))(ry:RelV (kV k) u)(l:(gL kvs k).isSome=true)(h:∀s',Inv X pins σ (upd H a (.dK (iJ kvs k))) s'->Q () s') :
  wpAny (model X.prog X.w) A (delItem (.ref a) u) Q E s:=by
 obtain⟨z,hd,vs,rel,dd⟩:=A7 I.hok e;refine wpAny_delItem_slot dd.typeIs (by decide) PySem.F.slot_dict_delitem
  (call_meetsIn PySem.F.slot_dict_delitem dd.typeIs PySem.F.entry_dict_delitem (PySem.F.args_dict_delitem_2 _ _) (meets_dict_delitem_pairs (cO X.prog X.w) a (A6 ry)) ⟨vs,dd,by rw[<-rel.length];exact z,by rw[<-(rel.val k).tV];exact l,λh' dd' hs=>h _ ?_⟩)
 have he:∃q,h'.get? a=some q:=let ⟨q,_,_,hq,_⟩:=dd';⟨q,hq⟩
 exact vJ I (by rw[e];exact alO) hs he (ER (tm (Gn kvs k) z) hd (rel.drop k) dd')
theorem aaV {v:V}{more:List Value}{Q:Value->Shared->Prop}(I:Inv X pins σ H s)(e:H a=some (.dK kvs))(ry:RelV (kV k) u)(l:gL kvs k=some v)(hm:more=[]\/∃x,more=[x])
  (h:∀w' s',Inv X pins σ (upd H a (.dK (iJ kvs k))) s'->RelV v w'->Q w' s'):wpAny (model X.prog X.w) A (call (.builtin "dict.pop") (.ref a::u::more)) Q E s:=by
 obtain⟨z,hd,vs,rel,dd⟩:=A7 I.hok e;obtain⟨w',hw,rw'⟩:=qm.some_of (v:=v) (o:=valueAt vs k) (by rw[<-l];exact rel.val k)
 have hp:(keyPart u).isSome=true:=by
  cases k with
  |inl i=>obtain⟨t,q⟩:=(show ∃t,u=Value.int i t from ry);subst q;rfl
  |inr x=>obtain⟨t,q⟩:=(show ∃t,u=Value.str x t from ry);subst q;rfl
 have ha:argsOk "dict.pop" ⟨.ref a::u::more,[]⟩:=by
  rcases hm with q | ⟨x,q⟩
  ·subst q;exact PySem.F.args_dict_pop_2 _ _
  ·subst q;exact PySem.F.args_dict_pop_3 _ _ _
 refine call_meetsIn PySem.F.slot_dict_pop dd.typeIs PySem.F.entry_dict_pop ha (meets_dict_pop_there (cO X.prog X.w) a (A6 ry) more hm hp)
  ⟨vs,w',dd,by rw[<-rel.length];exact z,hw,λh' dd' hs=>h w' _ ?_ rw'⟩
 have he:∃q,h'.get? a=some q:=let ⟨q,_,_,hq,_⟩:=dd';⟨q,hq⟩
 exact vJ I (by rw[e];exact alO) hs he (ER (tm (Gn kvs k) z) hd (rel.drop k) dd')
theorem aaW {Q:Value->Shared->Prop}(I:Inv X pins σ H s)(e:Rd H a (.dK kvs))(h:∀t s',Inv X pins σ H s'->Q (.int kvs.length t) s'):wpAny (model X.prog X.w) A (call (.builtin "len") [.ref a]) Q E s:=by
 obtain⟨z,hd,vs,rel,dd⟩:=Dz I.hok e;refine call_len_dict hd dd (by rw[<-rel.length];rw[alw]at z;omega) ?_
 rw[<-rel.length];exact h _ _ (I.tok _)
end
def aaX (i:Expr):Prop:=∀ov iv,subscripted i false ov iv=operate [ov,iv] (getItem ov iv)
theorem SG {prog:me}{w:World}{A:Around}{E:Value->Shared->Prop}{s:Shared}{env:Env}{value slice:Expr}{pos:Pos}{T id:String}{Q:Value->Shared->Prop}
  (hl:typeLookup (.type T) "__getitem__"=pure (some (.builtin id))) (hs:aaX slice)
  (h:wpAny (model prog w) A (eval value env) (λo s₁=>wpAny (model prog w) A (eval slice env) (λi s₂=>s₂.TypeIs o T/\wpAny (model prog w) A (getItem o i) Q E s₂) E s₁) E s) :
  wpAny (model prog w) A (eval (.Subscript value slice pos) env) Q E s:=by
 refine Subscript_ (ako h (λo s₁ h₁=>ako h₁ (λi s₂ h₂=>?_) λ_ _ x=>x) λ_ _ x=>x)
 obtain⟨hT,h₂⟩:=h₂;unfold subscriptTail;refine eg ?_;rw[getitemInPython_of_ne hT.not_modules];refine eg (wpAny_specialOf hT hl ?_);have fin:wpAny (model prog w) A (subscripted slice false o i) (λr s₃=>wpAny (model prog w) A (letTemporaryGo value o r >>= λ_=>pure r) Q E s₃) E s₂:=by
  rw[hs o i];exact wpAny_operating (ako h₂ (λr s₃ h₃=>eg (wpAny_letTemporaryGo (si h₃))) λ_ _ x=>x)
 first
  |exact si (eg fin)
  |exact eg (si (eg fin))
  |exact eg fin
theorem Gq {X:Cx}{pins:List (Addr×Obj)}{σ:St}{H:Hp}{s:Shared}{a:Addr}{y:V}{o:Option V}(I:Inv X pins σ H s)(g:uI H a y o):s.TypeIs (.ref a) "dict":=by
 rcases g with ⟨kvs,k,e,_,_⟩ | ⟨kvs,k,b,e,_,_,_⟩
 ·obtain⟨_,_,vs,_,dd⟩:=Dz I.hok e;exact dd.typeIs
 ·obtain⟨_,_,xs,_,dd⟩:=Gp I.hok e;exact dd.typeIs
def aaY (td ty:TE):TE:=λσ H Q=>td σ H λx H1=>ty σ H1 λy H2=>∃a v,x=.ref a/\uI H2 a y (some v)/\Q v H2
def SH (ty td:TE):TE:=λσ H Q=>ty σ H λy H1=>td σ H1 λx H2=>∃a o,x=.ref a/\uI H2 a y o/\Q (.bl (!o.isSome)) H2
def aaZ (td ty tv:TE):TS:=λD σ H=>tv σ H λv H1=>td σ H1 λx H2=>ty σ H2 λy H3=>∃a H4,x=.ref a/\oU H3 a y v H4/\D.nx σ H4
section
variable{X:Cx}{o i e value:Expr}{pos pos' ah4:Pos}{td ty tv:TE}
theorem bc (hu:X.A.units+1 < cLine)(ho:PE X o td)(hi:PE X i ty)(hs:aaX i):PE X (.Subscript o i pos) (aaY td ty):=by
 intro pins s σ H Q I h;refine SG PySem.F.slot_dict_getitem.lookup hs (thn (ho pins s σ H _ I h) λu s1 ⟨x,H1,I1,rx,q1⟩=>thn (hi pins s1 σ H1 _ I1 q1) λiv s2 ⟨y,H2,I2,ry,a,v,ex,g,q2⟩=>?_)
 subst ex;obtain rfl:u=akt a:=rx;exact⟨Gq I2 g,Nm hu I2 g ry λw' s3 I3 rw'=>⟨v,H2,I3,rw',q2⟩⟩
theorem DA (hu:X.A.units+1 < cLine)(hi:PE X i ty)(ho:PE X o td):PC X .NotIn i o (SH ty td):=by
 intro pins s σ H Q I h;refine thn (hi pins s σ H _ I h) λiv s1 ⟨y,H1,I1,ry,q1⟩=>thn (ho pins s1 σ H1 _ I1 q1) λu s2 ⟨x,H2,I2,rx,a,ov,ex,g,q2⟩=>?_
 subst ex;obtain rfl:u=akt a:=rx;exact SE hu I2 g ry λs3 I3=>⟨.bl (!ov.isSome),H2,I3,rfl,q2⟩
theorem ip (hu:X.A.units+1 < cLine)(ho:PE X o td)(hi:PE X i ty)(hv:PE X value tv)(hs:swapsWith value (some (.Subscript o i pos')) pos.line X.env=pure false) :
  PS X (.Assign [.Subscript o i pos'] value pos) (aaZ td ty tv):=by
 intro pins s σ H D I h;refine wpAny_Assign_Subscript (thn (hv pins s σ H _ I h) λr s1 ⟨v,H1,I1,rv,q1⟩=>thn (ho pins s1 σ H1 _ I1 q1) λu s2 ⟨x,H2,I2,rx,q2⟩=>thn (hi pins s2 σ H2 _ I2 q2) λiv s3 ⟨y,H3,I3,ry,a,H4,ex,g,q3⟩=>?_) hs
 subst ex;obtain rfl:u=akt a:=rx;exact Nn hu I3 g ry rv λs4 I4=>⟨σ,H4,I4,q3⟩
end
theorem Gr {P:me}{w:World}{H:Hp}(h:Heap)(hb:alN < h.objs.size):eU P w H (h.push { cls:=.type "dict",data:=.dict #[] }) h.objs.size (.dK []) :=
 ⟨ak6 _,beq_eq_false_iff_ne.mpr (akI (aks hb)),[],.nil,Heap.DictOf.new h⟩
def Ww:TE:=λ_ H Q=>∀p,H p=none->Q (.ref p) (upd H p (.dK []))
section
variable{X:Cx}{pos:Pos}
theorem oV:PE X (.Dict [] [] pos) Ww:=λpins s σ H Q I h =>
 wpAny_Dict_empty ⟨.ref s.heap.objs.size,_,I.laid (a:=s.heap.objs.size) (o:=.dK []) (t':=s.toks) (λ_ _ q=>gr _ q) (km _) (Gr s.heap I.big),rfl,h _ (I.hok.fresh (km _))⟩
end
def Kf:List (TE×TE)->St->Hp->(List (V×V)->Hp->Prop)->Prop
 |[],_,H,Q=>Q [] H
 | (tk,tv)::r,σ,H,Q=>tk σ H λx H1=>tv σ H1 λy H2=>Kf r σ H2 λps H3=>Q ((x,y)::ps) H3
abbrev VV:List (V×V)->List (Value×Value)->Prop:=Paired λp q=>RelV p.1 q.1/\RelV p.2 q.2
def PPs (X:Cx)(pos:Pos)(keys:List (Option Expr))(values:List Expr)(trs:List (TE×TE)):Prop :=
 ∀(pins:List (Addr×Obj)) (s:Shared) (σ:St) (H:Hp) (Q:List (V×V)->Hp->Prop),Inv X pins σ H s->Kf trs σ H Q ->
  wpAny (model X.prog X.w) X.A (evalPairs (pairTrees keys values X.env pos)) (λvs s'=>∃ps H',Inv X pins σ H' s'/\VV ps vs/\Q ps H') X.xe s
theorem SI {X:Cx}{pos:Pos}:PPs X pos [] [] []:=λpins s σ H Q I h=>pairTrees_nil_walk ⟨[],H,I,.nil,h⟩
theorem oW {X:Cx}{pos:Pos}{k v:Expr}{ks:List (Option Expr)}{vs:List Expr}{tk tv:TE}{trs:List (TE×TE)}(hk:PE X k tk)(hv:PE X v tv)(hr:PPs X pos ks vs trs) :
  PPs X pos (some k::ks) (v::vs) ((tk,tv)::trs):=λpins s σ H Q I h =>
 pairTrees_cons_walk (thn (hk pins s σ H _ I h) λu s1 ⟨x,H1,I1,rx,q1⟩=>thn (hv pins s1 σ H1 _ I1 q1) λw2 s2 ⟨y,H2,I2,ry,q2⟩ =>
  thn (hr pins s2 σ H2 _ I2 q2) λws s3 ⟨ps,H3,I3,rel,q3⟩=>⟨(x,y)::ps,H3,I3,.cons ⟨rx,ry⟩ rel,q3⟩)
def xC (kvs more:List (Key×V)):List (Key×V):=more.foldl (λacc kv=>putK acc kv.1 kv.2) kvs
theorem KV.merge:∀ {more:List (Key×V)} {rs:List (Key×Value)} {kvs:List (Key×V)} {vs:List (Key×Value)},KV more rs->KV kvs vs->KV (xC kvs more) (merged vs rs):=by
 intro more rs kvs vs r;unfold KV at r
 induction r generalizing kvs vs with
 |nil=>intro q;exact q
 | @cons p q ps qs h t ih =>
  intro r0;have e:KV (putK kvs p.1 p.2) (stored vs q.1 q.2):=by
   have:=r0.put p.1 h.2;rw[<-h.1];exact this
  exact ih e
theorem uC:∀(more kvs:List (Key×V)),(xC kvs more).length<=kvs.length+more.length
 |[],kvs=>by show kvs.length<=kvs.length+0;omega
 |p::r,kvs=>by
  have h1:=uC r (putK kvs p.1 p.2);have h2:=rV kvs p.1 p.2;show (xC (putK kvs p.1 p.2) r).length<=_;rw[akp];omega
theorem A8 {P:me}{w:World}:∀ {kvs:List (Key×V)} {ws:List (Value×Value)},VV (kvs.map λkv=>(kV kv.1,kv.2)) ws->∃rs,Carries (cO P w) ws rs/\KV kvs rs
 |[],_,r=>by rw[akW]at r;cases r;exact⟨[],alO,.nil⟩
 |p::kvs,_,r=>by
  rw[ko]at r;cases r with
  | @cons a b as bs h t =>
   obtain⟨rs,c,q⟩:=A8 (P:=P) (w:=w) t;obtain⟨b1,b2⟩:=b;exact⟨(p.1,b2)::rs,⟨A6 h.1,rfl,c⟩,.cons ⟨rfl,h.2⟩ q⟩
def aa0 (trs:List (TE×TE)):TE:=λσ H Q=>∀p,H p=none->Kf trs σ (upd H p (.dK [])) λps H2=>H2 p=some (.dK [])/\∃kvs:List (Key×V),ps=kvs.map (λkv=>(kV kv.1,kv.2))/\kvs.length<=15/\Q (.ref p) (upd H2 p (.dK (xC [] kvs)))
theorem SJ {X:Cx}{pos:Pos}{keys:List (Option Expr)}{values:List Expr}{trs:List (TE×TE)}(h:PPs X pos keys values trs)(Wf:keys.all (·.isSome)=true)(hl:keys.length=values.length)(h0:keys≠[])
  (h15:keys.length<=15):PE X (.Dict keys values pos) (aa0 trs):=by
 intro pins s σ H Q I q;have hn:=I.hok.fresh (km s.heap.objs.size);have I1:=I.laid (a:=s.heap.objs.size) (o:=.dK []) (h':=s.heap.push { cls:=.type "dict",data:=.dict #[] }) (t':=s.toks) (λ_ _ q=>gr _ q) (km _) (Gr s.heap I.big)
 refine wpAny_Dict_walk (knd:=cO X.prog X.w) Wf hl h0 h15 (thn (h pins _ σ _ _ I1 (q _ hn)) λws s2 ⟨ps,H2,I2,rel,e,kvs,ep,lk,q2⟩=>?_)
 subst ep;obtain⟨rs,c,rk⟩:=A8 (P:=X.prog) (w:=X.w) rel;obtain⟨z,hd,vs0,r0,dd⟩:=A7 I2.hok e;cases r0;refine⟨rs,c,dd,λh' dd' hs=>⟨.ref s.heap.objs.size,_,?_,rfl,q2⟩⟩
 have hz:(xC [] kvs).length<=kf:=by
  have h1:=uC kvs [];rw[alE]at h1;rw[alw];omega
 have he:∃q,h'.get? s.heap.objs.size=some q:=let ⟨q,_,_,hq,_⟩:=dd';⟨q,hq⟩
 exact vJ I2 (by rw[e];exact alO) hs he (ER hz hd (rk.merge .nil) dd')
structure M1 (X:Cx)(o:Expr)(m:Str)(apos:Pos)(e:Expr)(gu:Pos):Prop where
 base:attributeBase o m X.env (eval o X.env)=eval o X.env
 few:((backTo gu (adm [e] X.env)).all (λx=>!x.1) && (backToKw gu (keywordEach [] X.env)).all (λx=>x.1.isSome)
  && decide (([e]:List Expr).length+([]:List Keyword).length+(if ([]:List Keyword).isEmpty then 0 else 1) < 30))=true
 line:(apos.endLine == gu.line)=true
 trees:backTo gu (adm [e] X.env)=[(false,eval e X.env)]
structure M2 (X:Cx)(o:Expr)(m:Str)(apos:Pos)(e f:Expr)(gu:Pos):Prop where
 base:attributeBase o m X.env (eval o X.env)=eval o X.env
 few:((backTo gu (adm [e,f] X.env)).all (λx=>!x.1) && (backToKw gu (keywordEach [] X.env)).all (λx=>x.1.isSome)
  && decide (([e,f]:List Expr).length+([]:List Keyword).length+(if ([]:List Keyword).isEmpty then 0 else 1) < 30))=true
 line:(apos.endLine == gu.line)=true
 trees:backTo gu (adm [e,f] X.env)=[(false,eval e X.env),(false,eval f X.env)]
def IsD (H:Hp)(a:Addr):Prop:=(∃kvs,Rd H a (.dK kvs))\/∃kvs,Rd H a (.dT kvs)
theorem Wx {X:Cx}{pins:List (Addr×Obj)}{σ:St}{H:Hp}{s:Shared}{a:Addr}(I:Inv X pins σ H s)(d:IsD H a) :
  s.TypeIs (.ref a) "dict"/\(∀b,akt a=.ref b->∃ob,s.heap.get? b=some ob/\ob.dict=none)/\(a == alN)=false:=by
 rcases d with ⟨kvs,e⟩ | ⟨kvs,e⟩
 ·obtain⟨_,hd,vs,_,dd⟩:=Dz I.hok e;refine⟨dd.typeIs,λb q=>?_,hd⟩
  cases q;obtain⟨ob,_,_,h1,h2,_⟩:=dd;exact⟨ob,h1,h2.2.1⟩
 ·obtain⟨_,hd,xs,_,dd⟩:=Gp I.hok e;refine⟨dd.typeIs,λb q=>?_,hd⟩
  cases q;obtain⟨ob,_,_,h1,h2,_⟩:=dd;exact⟨ob,h1,h2.2.1⟩
def Wy (td ty:TE):TE:=λσ H Q=>td σ H λx H1=>∃a,x=.ref a/\IsD H1 a/\ty σ H1 λy H2=>∃kvs k v,H2 a=some (.dK kvs)/\y=kV k/\gL kvs k=some v/\Q v (upd H2 a (.dK (iJ kvs k)))
section
variable{X:Cx}{o e f:Expr}{apos gu:Pos}{td ty tx:TE}
theorem Gs (ho:PE X o td)(he:PE X e ty)(m:M1 X o "pop" apos e gu):PE X (.Call (.Attribute o "pop" apos) [e] [] gu) (Wy td ty):=by
 intro pins s σ H Q I h;refine wpAny_Call_method m.base m.few m.line PySem.F.plainAttrs_dict PySem.F.slot_dict_pop PySem.F.type_dict_pop (thn (ho pins s σ H _ I h) λu s1 ⟨x,H1,I1,rx,a,ex,d,q1⟩=>?_)
 subst ex;obtain rfl:u=akt a:=rx;obtain⟨t1,t2,_⟩:=Wx I1 d;refine⟨t1,t2,?_⟩;rw[m.trees];refine Calls.callWith_builtin rfl (Calls.evalArgs_plain (Calls.spliced_cons (thn (he pins s1 σ H1 _ I1 q1) λiv s2 ⟨y,H2,I2,ry,kvs,k,v,ea,ey,l,q2⟩=>Calls.spliced_nil ?_)))
 subst ey;exact aaV I2 ea ry l (.inl rfl) λw' s3 I3 rw'=>⟨v,_,I3,rw',q2⟩
end
end L2
namespace L2
open PySem PySem.Spec PyProof.Rows
section
variable{X:Cx}
theorem DB:lC X (.builtin "len") (λxs H Q=>∃a kvs,xs=[V.ref a]/\H a=some (.dK kvs)/\Q (.int kvs.length) H):=by
 intro pins s σ H xs us Q I r h;obtain⟨a,kvs,rfl,ha,q⟩:=h;obtain⟨u,rfl,ru⟩:=vals1 r;cases ru;exact aaW I (.inl ha) λt s' I'=>⟨.int kvs.length,H,I',⟨t,rfl⟩,q⟩
end
end L2
set_option maxHeartbeats 1000000
namespace L2
open PySem PySem.Spec PyProof.Rows
theorem Room.u1 {k:Nat}{A:Around}(r:Room k A):A.units+1 < cLine:=by have:=r.un;omega
theorem SK {X:Cx}{K:ba}{e:Expr}{f:Str}{pos:Pos}{ta:TE}(ek:X.K=K)(he:PE X e ta)(hb:attributeBase e f X.env (eval e X.env)=eval e X.env):PE X (.Attribute e f pos) (aay K ta f):=by
 subst ek;exact br he hb
theorem ints_of:∀(l:List Value) (ns:List Int),l.length=ns.length->(∀(j:Nat) (v:Value),l[j]?=some v->∃n t,ns[j]?=some n/\v=Value.int n t)->IntsAre l ns
 |[],[],_,_=>.nil
 |[],_::_,h,_=>nomatch h
 |_::_,[],h,_=>nomatch h
 |v::l,n::ns,h,g=>by
  obtain⟨n',t,e1,e2⟩:=g 0 v rfl;have e3:n=n':=by simpa using e1
  subst e3;subst e2;exact .cons n t (ints_of l ns (by simpa using h) λj v hv=>g (j+1) v (by simpa using hv))
theorem A9:∀ {vs:List Value} {ns:List Int},IntsAre vs ns->Vals (ns.map V.int) vs
 |_,_,.nil=>.nil
 |_,_,.cons n t h=>.cons ⟨t,rfl⟩ (A9 h)
theorem Uz {κ:Type}:∀ {kvs:List (κ×V)} {vs:List (κ×Value)},KV kvs vs->∀(j:Nat) (q:κ×Value),vs[j]?=some q->(kvs.map (·.1))[j]?=some q.1
 |_,_,.nil,j,q,h=>by simp at h
 |_,_,.cons a r,0,q,h=>by
  rw[akE]at h;cases h;rw[ko,akE,a.1]
 |_,_,.cons a r,j+1,q,h=>by
  have:=Uz r j q (by simpa using h)
  simpa using this
theorem SM {P:me}{w:World}{n:Int}{v:Value}(h:(cO P w).is (kq n) v=true):∃t,v=Value.int n t:=by
 rcases dj (k:=kq n) (v:=v) (show AI (kq n) v=true from h) with ⟨i,t,e,rfl⟩ | ⟨x,t,e,rfl⟩
 ·cases e;exact⟨t,rfl⟩
 ·cases e
theorem vK {X:Cx}(hh:X.A.handled=none):lC X (.builtin "sorted") (λxs H Q=>∃a kvs ns,xs=[V.ref a]/\H a=some (.dK kvs)/\kvs.map (·.1)=ns.map kq/\ns.length < 64 /\
  ∀l ns',ak2 ns' ns->ns'.Pairwise (·<=·)->H l=none->Q (.ref l) (upd H l (.lst (ns'.map V.int)))):=by
 intro pins s σ H xs us Q I r h;obtain⟨a,kvs,ns,rfl,ha,hk,h64,q⟩:=h;obtain⟨u,rfl,ru⟩:=vals1 r;cases ru;obtain⟨z,hd,vs,rel,dd⟩:=A7 I.hok ha;obtain⟨ep,hat⟩:=dd.dictAt;have hlen:vs.length=ns.length:=by
  have e1:=congrArg List.length hk;simp only[bo]at e1;rw[<-rel.length];exact e1
 refine Calls.call_function_entry kind_sorted plain_sorted entry_sorted (args_sorted1 _) ?_;unfold Builtin.«sorted»;refine eg (m:=checkCount "sorted" 1 1 _) (si ?_);refine eg (PySem.W.kdu_collect (A:=X.A.in1) (PySem.W.kdl_dict (knd:=cO X.prog X.w) (kvs:=vs) (ep:=ep) hd) hh hat (by rw[<-rel.length];exact z) λh' tk acc kp Nf=>?_)
 have hsz:acc.toList.length=ns.length:=by rw[alu];exact Nf.1.trans hlen
 have hI:IntsAre acc.toList ns:=ints_of _ _ hsz λj v hv=>by
  obtain⟨k,x,hx,hkv⟩:=Nf.2 j v (by rw[<-Array.getElem?_toList];exact hv)
  have e:=Uz rel j _ hx;rw[hk,akK]at e;cases en:ns[j]? with
  |none=>rw[en]at e;cases e
  |some n =>
   rw[en]at e;have e':kq n=k:=by simpa using e
   subst e';obtain⟨t,rfl⟩:=SM hkv;exact⟨n,t,rfl,rfl⟩
 refine eg (wpAny_newList ?_ (by rw[hsz];rw[alw];omega))
 have hoL:(h'.push (seqObj "list" acc.toList.toArray 0)).get? h'.objs.size=some (seqObj "list" acc.toList.toArray 0):=aku _ rfl;refine eg (wpAny_holding (wpAny_call_entry slot_list_sort ⟨_,hoL,rfl⟩ entry_list_sort (list_sort_tree hoL hI (by omega) λout ns' a1 a2 a3=>⟨_,rfl,?_⟩) (args_list_sort _)))
 refine si ⟨_,rfl,?_⟩;obtain⟨e,he⟩:=sortedHeap_at (out:=out) hoL;have I1:Inv X pins σ H { s with heap:=h',toks:=tk }:=I.un (Un.kept kp) (I.hok.kept kp)
 refine⟨.ref h'.objs.size,_,I1.laid (t':=tk) (λb o hb=>?_) (km _) (show eU X.prog X.w _ _ _ (.lst (ns'.map V.int)) from ⟨?_,_,e,A9 a1,?_⟩),rfl,q _ ns' a2 a3 (I1.hok.fresh (km _))⟩
 ·have hb':h'.get? b=some o:=hb;have hlt:=om hb';rw[sortedHeap_old (aks hlt) (by rw[size_push'];exact Nat.lt_succ_of_lt hlt)]
  exact gr _ hb'
 ·rw[bo,a2.length_eq,alw];omega
 ·rw[Array.toArray_toList];exact he
theorem xD:ali "sorted"=some (.builtin "sorted"):=by decide +kernel
theorem SN {X:Cx}(hu:X.A.units+1 < cLine):OpR X (alo .NotEq) (λx y H Q=>∃a b kvs,x=.ref a/\y=.ref b/\H a=some (.dK kvs)/\H b=some (.dK [])/\Q (.bl (!kvs.isEmpty)) H):=by
 intro pins s σ H x y v u Q I rx ry h;obtain⟨a,b,kvs,rfl,rfl,ha,hb,q⟩:=h;cases rx;cases ry;obtain⟨_,h1,vs,r1,d1⟩:=A7 I.hok ha;obtain⟨_,h2,ws,r2,d2⟩:=A7 I.hok hb;cases r2;refine PySem.W.keq_ne (knd:=cO X.prog X.w) (r:=true) h1 h2 d1 d2 (by omega) (λe=>?_) ⟨.bl _,H,I,?_,q⟩
 ·have:vs=[]:=List.length_eq_zero_iff.mp e;subst this;exact .nil
 ·have hl:=r1.length;cases kvs with
  |nil =>
   have:vs=[]:=List.length_eq_zero_iff.mp (by rw[<-hl];rfl)
   subst this;rfl
  |cons p r =>
   cases vs with
   |nil=>simp at hl
   |cons _ _=>rfl
theorem DC:∀ {ns:List Int} {vs:List Value},Vals (ns.map V.int) vs->IntsAre vs ns
 |[],_,.nil=>.nil
 |n::ns,_,.cons ⟨t,e⟩ r=>by subst e;exact .cons n t (DC r)
theorem ES {X:Cx}:lC X (.builtin "sorted") (λxs H Q=>∃a ns,xs=[V.ref a]/\SqL X.K H a (ns.map V.int)/\ns.length < 64 /\
  ∀l ns',ak2 ns' ns->ns'.Pairwise (·<=·)->H l=none->Q (.ref l) (upd H l (.lst (ns'.map V.int)))):=by
 intro pins s σ H xs us Q I r h;obtain⟨a,ns,rfl,ha,h64,q⟩:=h;obtain⟨u,rfl,ru⟩:=vals1 r;cases ru;obtain⟨its,r',pl,hz⟩:=I.list ha;have hl:=r'.length;rw[bo]at hl;refine sorted_ints pl.isList (DC r') (by omega) λout ns' a1 a2 a3=>?_
 obtain⟨e,he⟩:=sortedAll_at s.heap its out;refine⟨.ref (s.heap.objs.size+1),_,I.laid (t':=s.toks) (λb o hb=>sortedAll_old hb) (ak7 _) (show eU X.prog X.w _ _ _ (.lst (ns'.map V.int)) from ⟨?_,_,e,A9 a1,?_⟩),rfl,q _ ns' a2 a3 (I.hok.fresh (ak7 _))⟩
 ·rw[bo,a2.length_eq,alw];omega
 ·rw[Array.toArray_toList];exact he
def PB (ta:TA):TE:=λσ H Q=>ta σ H λvs H1=>∃(i:Int) (n:Nat),vs=[.int i,.int (i+n)]/\(-(2 ^ 62)<=i/\i+n < 2 ^ 62/\n<=16777216)/\∀l,H1 l=none->Q (.ref l) (upd H1 l (.lst (((alD n).map λj:Nat=>i+(j:Int)).map V.int)))
theorem Kg {X:Cx}{a b:Expr}{ta:TA}{p0 p1 q0 q1:Pos}(hc:X.calm=true)(hg:Gl X "list")(hm:X.mg "list"=none)(hg2:Gl X "range")(hm2:X.mg "range"=none)(ha:PA X [a,b] ta)
  (hs:adm [a,b] X.env=[(false,eval a X.env),(false,eval b X.env)]:=by rfl) (hs1:adm [b] X.env=[(false,eval b X.env)]:=by rfl)
  (hs2:adm [Expr.Call (.Name "range" p1) [a,b] [] q1] X.env=[(false,eval (Expr.Call (.Name "range" p1) [a,b] [] q1) X.env)]:=by rfl):PE X (.Call (.Name "list" p0) [.Call (.Name "range" p1) [a,b] [] q1] [] q0) (PB ta):=by
 intro pins s σ H Q I h;refine wpAny_Call_Name_kw (AL I hg hm (by decide +kernel:ali "list"=some (.type "list")) ?_ (by decide) (by decide))
 refine alH ?_ hs2 rfl;rw[hs2];show wpAny _ _ (spliced ((false,eval (Expr.Call (.Name "range" p1) [a,b] [] q1) X.env)::backTo q0 (adm [] X.env))) _ _ s;refine Calls.spliced_cons ?_;refine wpAny_Call_Name_kw (AL I hg2 hm2 boot_range (alH (thn (ha q1 pins s σ H _ I h) λus s1 ⟨vs,H1,I1,r1,q⟩=>?_) (by rw[hs,hs1]) (by rw[hs1];rfl)) (by decide) (by decide))
 obtain⟨i,n,e,⟨b1,b2,hn⟩,q⟩:=q;subst e;cases r1 with
 |cons r rr =>
  cases rr with
  |cons r' rr =>
   cases rr;obtain⟨t,rfl⟩:=r;obtain⟨t',rfl⟩:=r';refine call_range_2 (Calls.spliced_nil ?_);have hsz:Builtin.Range.rangeSize i (i+n) 1=(n:Int):=by rw[rangeSize_one];split <;> omega
   refine call_list_range (I1.ok.hd hc) (IsRange.new ..) (small_one (by omega) (by omega) (by omega) (by omega)) hsz hn λh' tk aa1 c' kp eS hI=>?_
   have kp':∀b o,s1.heap.get? b=some o->h'.get? b=some o:=λb o e=>kp b o (gr _ e)
   have hv:Vals (((alD n).map λj:Nat=>i+(j:Int)).map V.int) aa1.toList:=by
    refine yE _ _ (by rw[bo,bo,List.length_range,alu];exact hI.1.symm) λk x u g1 g2=>?_
    obtain⟨t2,e2⟩:=hI.2 k u (by rw[<-Array.getElem?_toList];exact g2)
    rw[akK,akK]at g1;have hk:k < n:=by
     have h1:=(List.getElem?_eq_some_iff.mp g2).1;rw[alu,hI.1]at h1;exact h1
    rw[List.getElem?_range hk]at g1;cases g1;exact⟨t2,by rw[e2,Int.mul_one]⟩
   refine⟨.ref _,_,I1.laid (t':=tk) kp' ?_ (show eU X.prog X.w _ h' _ (.lst _) from ⟨?_,aa1.toList,c',hv,by rw[Array.toArray_toList];exact eS⟩),rfl,q _ (I1.hok.fresh ?_)⟩
   ·rw[alA];omega
   ·rw[bo,bo,List.length_range,alw];omega
   ·rw[alA];omega
theorem hide {P:Prop}(h:∀G:Prop,(P->G)->G):P:=h P id
theorem ixv {s:Option (Option V)}{p:Addr}{n:Int}{S:Addr->List V->Prop}{xs:List V}{z:V}{R:V->Prop}(h0:s=some (some (.ref p)))(h1:S p xs)(h2:atI xs n=some z)(h:R z):∃v,s=some (some v)/\∃q ys i w,v=.ref q/\V.int n=.int i/\S q ys/\atI ys i=some w/\R w :=
 ⟨_,h0,p,xs,n,z,rfl,rfl,h1,h2,h⟩
theorem eZ {K:ba}{s:Option (Option V)}{H:Hp}{a C dx:Addr}{fs:List (Str×V)}{f:Str}{w:V}{R:V->Prop}(h0:s=some (some (.ref a)))(h1:H a=some (.ins C dx fs))(h2:Cls K C)(h3:dq K C f)(h4:fs.lookup f=some w)(h:R w) :
  ∃v,s=some (some v)/\∃a C dx fs w,v=.ref a/\H a=some (.ins C dx fs)/\Cls K C/\dq K C f/\fs.lookup f=some w/\R w:=⟨_,h0,a,C,dx,fs,w,rfl,h1,h2,h3,h4,h⟩
theorem dgv {s:Option (Option V)}{a:Addr}{v:V}{D:Addr->V->Prop}{R:V->Prop}(h0:s=some (some (.ref a)))(h1:D a v)(h:R v):∃x,s=some (some x)/\∃a v,x=.ref a/\D a v/\R v:=⟨_,h0,a,v,rfl,h1,h⟩
theorem mtv {s:Option (Option V)}{H:Hp}{a C dx:Addr}{fs:List (Str×V)}{m:Str}{R:V->Prop}(h0:s=some (some (.ref a)))(h1:H a=some (.ins C dx fs))(h2:fs.lookup m=none)(h:R (.ref a)) :
  ∃v,s=some (some v)/\∃a dx fs,v=.ref a/\H a=some (.ins C dx fs)/\fs.lookup m=none/\R v:=⟨_,h0,a,dx,fs,rfl,h1,h2,h⟩
theorem tsf {b:Bool}{P Q:Prop}(h:b=false)(q:Q):∃k,V.bl b=.bl k/\if k=true then P else Q:=⟨b,rfl,by rw[h];exact q⟩
theorem tst {b:Bool}{P Q:Prop}(h:b=true)(q:P):∃k,V.bl b=.bl k/\if k=true then P else Q:=⟨b,rfl,by rw[h];exact q⟩
end L2
set_option maxHeartbeats 1000000
namespace My
open PySem L2
seal PySem.wpAny
def top (i:Nat):Stmt:=PySem.Challenge.pw_moot_k16_whole_each_motion_once.main.body.getD i (.Pass ⟨0,0,0,0⟩)
abbrev fH:Stmt:=inClass (top 22) 1
theorem Ba:aT ["self"] ["self"] (ag fH):=⟨rfl,rfl,rfl,by decide +kernel,rfl,by decide +kernel,by decide +kernel⟩
abbrev fJ:Stmt:=inClass (top 23) 1
theorem Bb:aT ["self"] ["self"] (ag fJ):=⟨rfl,rfl,rfl,by decide +kernel,rfl,by decide +kernel,by decide +kernel⟩
abbrev iK:Stmt:=inClass (top 24) 1
theorem ET:aT ["self"] ["self"] (ag iK):=⟨rfl,rfl,rfl,by decide +kernel,rfl,by decide +kernel,by decide +kernel⟩
abbrev fK:Stmt:=inClass (top 25) 1
theorem Bc:aT ["self"] ["self"] (ag fK):=⟨rfl,rfl,rfl,by decide +kernel,rfl,by decide +kernel,by decide +kernel⟩
abbrev gM:Stmt:=inClass (top 26) 0
theorem CV:aT ["self"] ["self"] (ag gM):=⟨rfl,rfl,rfl,by decide +kernel,rfl,by decide +kernel,by decide +kernel⟩
abbrev jz:Stmt:=inClass (top 27) 0
theorem Gu:aT ["self"] ["self"] (ag jz):=⟨rfl,rfl,rfl,by decide +kernel,rfl,by decide +kernel,by decide +kernel⟩
abbrev iL:Stmt:=inClass (top 28) 0
theorem EU:aT ["self"] ["self"] (ag iL):=⟨rfl,rfl,rfl,by decide +kernel,rfl,by decide +kernel,by decide +kernel⟩
abbrev gN:Stmt:=inClass (top 29) 1
theorem CW:aT ["self"] ["self"] (ag gN):=⟨rfl,rfl,rfl,by decide +kernel,rfl,by decide +kernel,by decide +kernel⟩
abbrev fL:Stmt:=inClass (top 21) 1
theorem Bd:aT ["self"] ["self"] (ag fL):=⟨rfl,rfl,rfl,by decide +kernel,rfl,by decide +kernel,by decide +kernel⟩
abbrev fM:Stmt:=inClass (top 21) 2
theorem Be:aT ["self"] ["self"] (ag fM):=⟨rfl,rfl,rfl,by decide +kernel,rfl,by decide +kernel,by decide +kernel⟩
abbrev gO:Stmt:=inClass (top 26) 1
theorem CY:aT ["self"] ["self"] (ag gO):=⟨rfl,rfl,rfl,by decide +kernel,rfl,by decide +kernel,by decide +kernel⟩
abbrev fN:Stmt:=inClass (top 21) 3
theorem Bf:aT ["self"] ["self"] (ag fN):=⟨rfl,rfl,rfl,by decide +kernel,rfl,by decide +kernel,by decide +kernel⟩
abbrev fO:Stmt:=inClass (top 22) 2
theorem Bg:aT ["self"] ["self"] (ag fO):=⟨rfl,rfl,rfl,by decide +kernel,rfl,by decide +kernel,by decide +kernel⟩
abbrev fP:Stmt:=inClass (top 23) 2
theorem Bh:aT ["self"] ["self"] (ag fP):=⟨rfl,rfl,rfl,by decide +kernel,rfl,by decide +kernel,by decide +kernel⟩
abbrev iM:Stmt:=inClass (top 24) 2
theorem EV:aT ["self"] ["self"] (ag iM):=⟨rfl,rfl,rfl,by decide +kernel,rfl,by decide +kernel,by decide +kernel⟩
abbrev fQ:Stmt:=inClass (top 25) 2
theorem Bi:aT ["self"] ["self"] (ag fQ):=⟨rfl,rfl,rfl,by decide +kernel,rfl,by decide +kernel,by decide +kernel⟩
abbrev gP:Stmt:=inClass (top 29) 2
theorem CZ:aT ["self"] ["self"] (ag gP):=⟨rfl,rfl,rfl,by decide +kernel,rfl,by decide +kernel,by decide +kernel⟩
abbrev fR:Stmt:=inClass (top 22) 0
theorem Bj:aT ["self","text"] ["self","text"] (ag fR):=⟨rfl,rfl,rfl,by decide +kernel,rfl,by decide +kernel,by decide +kernel⟩
abbrev fS:Stmt:=inClass (top 23) 0
theorem Bk:aT ["self","edit"] ["self","edit"] (ag fS):=⟨rfl,rfl,rfl,by decide +kernel,rfl,by decide +kernel,by decide +kernel⟩
abbrev iN:Stmt:=inClass (top 24) 0
theorem EW:aT ["self","edit"] ["self","edit"] (ag iN):=⟨rfl,rfl,rfl,by decide +kernel,rfl,by decide +kernel,by decide +kernel⟩
abbrev fU:Stmt:=inClass (top 25) 0
theorem Bl:aT ["self","sitting"] ["self","sitting"] (ag fU):=⟨rfl,rfl,rfl,by decide +kernel,rfl,by decide +kernel,by decide +kernel⟩
abbrev gQ:Stmt:=inClass (top 29) 0
theorem C0:aT ["self","clause"] ["self","clause"] (ag gQ):=⟨rfl,rfl,rfl,by decide +kernel,rfl,by decide +kernel,by decide +kernel⟩
abbrev fV:Stmt:=inClass (top 4) 0
theorem Bm:aT ["self","bar"] ["self","bar"] (ag fV):=⟨rfl,rfl,rfl,by decide +kernel,rfl,by decide +kernel,by decide +kernel⟩
abbrev dQ:Stmt:=inClass (top 7) 0
theorem xE:aT ["self","sitting"] ["self","sitting"] (ag dQ):=⟨rfl,rfl,rfl,by decide +kernel,rfl,by decide +kernel,by decide +kernel⟩
abbrev fW:Stmt:=inClass (top 11) 0
theorem Bn:aT ["self","sitting"] ["self","sitting"] (ag fW):=⟨rfl,rfl,rfl,by decide +kernel,rfl,by decide +kernel,by decide +kernel⟩
abbrev eD:Stmt:=inClass (top 46) 0
theorem za:aT ["self","seats"] ["self","seats"] (ag eD):=⟨rfl,rfl,rfl,by decide +kernel,rfl,by decide +kernel,by decide +kernel⟩
abbrev eE:Stmt:=inClass (top 46) 1
theorem qS:aT ["self","told","number"] ["self","told"] (ag eE):=⟨rfl,rfl,rfl,by decide +kernel,rfl,by decide +kernel,by decide +kernel⟩
abbrev eF:Stmt:=inClass (top 46) 2
theorem ll:aT ["self","ayes","noes","motion","word"] ["self","ayes","noes"] (ag eF):=⟨rfl,rfl,rfl,by decide +kernel,rfl,by decide +kernel,by decide +kernel⟩
abbrev eG:Stmt:=inClass (top 46) 3
theorem zb:aT ["self"] ["self"] (ag eG):=⟨rfl,rfl,rfl,by decide +kernel,rfl,by decide +kernel,by decide +kernel⟩
abbrev eI:Stmt:=inClass (top 46) 4
theorem qT:aT ["self","number","until"] ["self","number"] (ag eI):=⟨rfl,rfl,rfl,by decide +kernel,rfl,by decide +kernel,by decide +kernel⟩
abbrev cY:Stmt:=inClass (top 46) 6
theorem xF:aT ["self","aside"] ["self"] (ag cY):=⟨rfl,rfl,rfl,by decide +kernel,rfl,by decide +kernel,by decide +kernel⟩
abbrev lD:Scope:={ kind:=.function,names:=[(ar ".0",.local),(ar "number",.local),(ar "self",.free)],isGenerator:=false,isCoroutine:=false,more:=[] }
theorem uJ:dP lD (ag cY) "number" ["self","aside"] ["self","aside"]:=⟨rfl,rfl,by decide +kernel,by decide +kernel,rfl,by decide +kernel,by decide +kernel,by decide +kernel,by decide +kernel,rfl,by decide +kernel,by decide +kernel⟩
abbrev eJ:Stmt:=inClass (top 46) 7
abbrev cD:Stmt:=inClass (top 46) 12
theorem uK:aT ["self"] ["self"] (ag cD):=⟨rfl,rfl,rfl,by decide +kernel,rfl,by decide +kernel,by decide +kernel⟩
abbrev jr:Scope:={ kind:=.function,names:=[(ar ".0",.local),(ar "number",.local),(ar "self",.free)],isGenerator:=false,isCoroutine:=false,more:=[] }
theorem rW:dP jr (ag cD) "number" ["self"] ["self"]:=⟨rfl,rfl,by decide +kernel,by decide +kernel,rfl,by decide +kernel,by decide +kernel,by decide +kernel,by decide +kernel,rfl,by decide +kernel,by decide +kernel⟩
abbrev cv:Stmt:=inClass (top 46) 13
theorem js:aT ["self","number","waiting"] ["self","number"] (ag cv):=⟨rfl,rfl,rfl,by decide +kernel,rfl,by decide +kernel,by decide +kernel⟩
abbrev bz:Stmt:=inClass (top 46) 14
theorem cK:aT ["self","told","kind","pile"] ["self","told"] (ag bz):=⟨rfl,rfl,rfl,by decide +kernel,rfl,by decide +kernel,by decide +kernel⟩
abbrev bK:Stmt:=inClass (top 46) 15
theorem mw:aT ["self"] ["self"] (ag bK):=⟨rfl,rfl,rfl,by decide +kernel,rfl,by decide +kernel,by decide +kernel⟩
abbrev dn:Stmt:=inClass (top 46) 17
theorem vL:aT ["self","word"] ["self","word"] (ag dn):=⟨rfl,rfl,rfl,by decide +kernel,rfl,by decide +kernel,by decide +kernel⟩
abbrev bW:Stmt:=inClass (top 46) 18
theorem oX:aT ["self","deed"] ["self","deed"] (ag bW):=⟨rfl,rfl,rfl,by decide +kernel,rfl,by decide +kernel,by decide +kernel⟩
abbrev cG:Stmt:=inClass (top 46) 19
theorem kL:aT ["self","motion","kind"] ["self","motion"] (ag cG):=⟨rfl,rfl,rfl,by decide +kernel,rfl,by decide +kernel,by decide +kernel⟩
abbrev bQ:Stmt:=inClass (top 46) 20
theorem ia:aT ["self","edit","number"] ["self","edit"] (ag bQ):=⟨rfl,rfl,rfl,by decide +kernel,rfl,by decide +kernel,by decide +kernel⟩
abbrev bR:Stmt:=inClass (top 46) 21
theorem cP:aT ["self","edit","number","change","words"] ["self","edit"] (ag bR):=⟨rfl,rfl,rfl,by decide +kernel,rfl,by decide +kernel,by decide +kernel⟩
abbrev cH:Stmt:=inClass (top 46) 22
theorem rX:aT ["self","until"] ["self","until"] (ag cH):=⟨rfl,rfl,rfl,by decide +kernel,rfl,by decide +kernel,by decide +kernel⟩
abbrev xG:Stmt:=top 14
theorem EX:aT ["things","edit","places"] ["things","edit"] (ag xG):=⟨rfl,rfl,rfl,by decide +kernel,rfl,by decide +kernel,by decide +kernel⟩
abbrev fX:Stmt:=top 15
theorem Bo:aT ["things","edit"] ["things","edit"] (ag fX):=⟨rfl,rfl,rfl,by decide +kernel,rfl,by decide +kernel,by decide +kernel⟩
abbrev xH:Stmt:=top 16
theorem Au:aT ["things","edit","kind","place","behind"] ["things","edit"] (ag xH):=⟨rfl,rfl,rfl,by decide +kernel,rfl,by decide +kernel,by decide +kernel⟩
abbrev jA:Stmt:=top 17
theorem Gv:aT ["clause"] ["clause"] (ag jA):=⟨rfl,rfl,rfl,by decide +kernel,rfl,by decide +kernel,by decide +kernel⟩
abbrev iO:Stmt:=top 18
theorem EY:aT ["words"] ["words"] (ag iO):=⟨rfl,rfl,rfl,by decide +kernel,rfl,by decide +kernel,by decide +kernel⟩
abbrev iP:Stmt:=top 30
theorem lL:aT ["told","kind"] ["told"] (ag iP):=⟨rfl,rfl,rfl,by decide +kernel,rfl,by decide +kernel,by decide +kernel⟩
abbrev oY:Stmt:=top 33
theorem DD:aT ["pile","closed","bar"] ["pile","closed"] (ag oY):=⟨rfl,rfl,rfl,by decide +kernel,rfl,by decide +kernel,by decide +kernel⟩
abbrev fg:Stmt:=top 34
theorem C1:aT ["pile"] ["pile"] (ag fg):=⟨rfl,rfl,rfl,by decide +kernel,rfl,by decide +kernel,by decide +kernel⟩
abbrev oZ:Scope:={ kind:=.function,names:=[(ar ".0",.local),(ar "motion",.local)],isGenerator:=false,isCoroutine:=false,more:=[] }
theorem zc:dP oZ (ag fg) "motion" ["pile"] ["pile"]:=⟨rfl,rfl,by decide +kernel,by decide +kernel,rfl,by decide +kernel,by decide +kernel,by decide +kernel,by decide +kernel,rfl,by decide +kernel,by decide +kernel⟩
abbrev dR:Stmt:=top 35
theorem o8:aT ["pile","told"] ["pile"] (ag dR):=⟨rfl,rfl,rfl,by decide +kernel,rfl,by decide +kernel,by decide +kernel⟩
abbrev cI:Stmt:=top 36
theorem rY:aT ["kind","pile"] ["kind","pile"] (ag cI):=⟨rfl,rfl,rfl,by decide +kernel,rfl,by decide +kernel,by decide +kernel⟩
abbrev cL:Stmt:=top 37
theorem lE:aT ["kind","pile","closed","bar"] ["kind","pile","closed"] (ag cL):=⟨rfl,rfl,rfl,by decide +kernel,rfl,by decide +kernel,by decide +kernel⟩
abbrev dS:Stmt:=top 39
theorem jB:aT ["text","words","clause"] ["text"] (ag dS):=⟨rfl,rfl,rfl,by decide +kernel,rfl,by decide +kernel,by decide +kernel⟩
abbrev dU:Stmt:=top 40
theorem o9:aT ["edit","words"] ["edit"] (ag dU):=⟨rfl,rfl,rfl,by decide +kernel,rfl,by decide +kernel,by decide +kernel⟩
abbrev du:Stmt:=top 41
theorem qU:aT ["deed","kind"] ["deed"] (ag du):=⟨rfl,rfl,rfl,by decide +kernel,rfl,by decide +kernel,by decide +kernel⟩
abbrev mx:Scope:={ kind:=.function,names:=[(ar ".0",.local),(ar "number",.local),(ar "str",.globalImplicit)],isGenerator:=false,isCoroutine:=false,more:=[] }
theorem vM:dP mx (ag du) "number" ["deed","kind"] ["deed","kind"]:=⟨rfl,rfl,by decide +kernel,by decide +kernel,rfl,by decide +kernel,by decide +kernel,by decide +kernel,by decide +kernel,rfl,by decide +kernel,by decide +kernel⟩
abbrev iQ:Stmt:=top 42
theorem EZ:aT ["deed"] ["deed"] (ag iQ):=⟨rfl,rfl,rfl,by decide +kernel,rfl,by decide +kernel,by decide +kernel⟩
abbrev lZ:Stmt:=top 44
theorem Kh:aT ["need","ayes","noes"] ["need","ayes","noes"] (ag lZ):=⟨rfl,rfl,rfl,by decide +kernel,rfl,by decide +kernel,by decide +kernel⟩
abbrev iR:Stmt:=top 48
theorem E1:aT ["_law_script","_law_k"] ["_law_script","_law_k"] (ag iR):=⟨rfl,rfl,rfl,by decide +kernel,rfl,by decide +kernel,by decide +kernel⟩
abbrev pb:Stmt:=top 49
theorem pd:aT ["_law_cell","_law_signs","_law_word_here","_law_k"] ["_law_cell"] (ag pb):=⟨rfl,rfl,rfl,by decide +kernel,rfl,by decide +kernel,by decide +kernel⟩
abbrev jC:Stmt:=top 50
theorem kM:aT ["_law_cell","_law_words_here","_law_number","_law_k"] ["_law_cell"] (ag jC):=⟨rfl,rfl,rfl,by decide +kernel,rfl,by decide +kernel,by decide +kernel⟩
abbrev pf:Stmt:=top 51
theorem DE:aT ["_law_cell","_law_size","_law_thing","_law_place"] ["_law_cell","_law_size","_law_thing"] (ag pf):=⟨rfl,rfl,rfl,by decide +kernel,rfl,by decide +kernel,by decide +kernel⟩
abbrev ph:Stmt:=top 52
theorem Np:aT ["_law_things","_law_edit_here"] ["_law_things","_law_edit_here"] (ag ph):=⟨rfl,rfl,rfl,by decide +kernel,rfl,by decide +kernel,by decide +kernel⟩
abbrev pj:Stmt:=top 53
theorem DF:aT ["_law_things","_law_edit_here","_law_at"] ["_law_things","_law_edit_here"] (ag pj):=⟨rfl,rfl,rfl,by decide +kernel,rfl,by decide +kernel,by decide +kernel⟩
abbrev l4:Stmt:=top 54
theorem Ki:aT ["_law_clause_here"] ["_law_clause_here"] (ag l4):=⟨rfl,rfl,rfl,by decide +kernel,rfl,by decide +kernel,by decide +kernel⟩
abbrev pq:Stmt:=top 55
theorem Nq:aT ["_law_kind"] ["_law_kind"] (ag pq):=⟨rfl,rfl,rfl,by decide +kernel,rfl,by decide +kernel,by decide +kernel⟩
abbrev tW:Stmt:=top 56
theorem PD:aT [] [] (ag tW):=⟨rfl,rfl,rfl,by decide +kernel,rfl,by decide +kernel,by decide +kernel⟩
abbrev tX:Stmt:=top 57
theorem PF:aT ["_law_m","_law_number"] ["_law_m","_law_number"] (ag tX):=⟨rfl,rfl,rfl,by decide +kernel,rfl,by decide +kernel,by decide +kernel⟩
abbrev tY:Stmt:=top 58
theorem Bp:aT ["_law_m","_law_bar_here"] ["_law_m"] (ag tY):=⟨rfl,rfl,rfl,by decide +kernel,rfl,by decide +kernel,by decide +kernel⟩
abbrev l5:Stmt:=top 59
theorem uL:aT ["_law_m","_law_motion","_law_kind","_law_top"] ["_law_m","_law_motion"] (ag l5):=⟨rfl,rfl,rfl,by decide +kernel,rfl,by decide +kernel,by decide +kernel⟩
abbrev pw:Stmt:=top 60
theorem jD:aT ["_law_m","_law_motion","_law_matter","_law_change","_law_word_here","_law_at","_law_clause_here","_law_until"] ["_law_m","_law_motion"] (ag pw):=⟨rfl,rfl,rfl,by decide +kernel,rfl,by decide +kernel,by decide +kernel⟩
abbrev l6:Stmt:=top 61
theorem Bq:aT ["_law_m","_law_word_here","_law_number"] ["_law_m","_law_word_here"] (ag l6):=⟨rfl,rfl,rfl,by decide +kernel,rfl,by decide +kernel,by decide +kernel⟩
abbrev l7:Stmt:=top 62
theorem uM:aT ["_law_m","_law_ayes","_law_noes","_law_seats_here","_law_kept"] ["_law_m","_law_ayes","_law_noes","_law_seats_here"] (ag l7):=⟨rfl,rfl,rfl,by decide +kernel,rfl,by decide +kernel,by decide +kernel⟩
abbrev l8:Stmt:=top 63
theorem uN:aT ["_law_m","_law_number","_law_until","_law_pile"] ["_law_m","_law_number"] (ag l8):=⟨rfl,rfl,rfl,by decide +kernel,rfl,by decide +kernel,by decide +kernel⟩
abbrev tZ:Stmt:=top 64
theorem Gw:aT ["_law_m","_law_deed_here","_law_seats_here","_law_lack"] ["_law_m","_law_deed_here","_law_seats_here"] (ag tZ):=⟨rfl,rfl,rfl,by decide +kernel,rfl,by decide +kernel,by decide +kernel⟩
abbrev pz:Stmt:=top 66
theorem pA:aT ["_law_cell","_law_seats_here","_law_ayes","_law_noes"] ["_law_cell","_law_seats_here"] (ag pz):=⟨rfl,rfl,rfl,by decide +kernel,rfl,by decide +kernel,by decide +kernel⟩
abbrev jE:Stmt:=top 67
theorem yF:aT ["_law_m","_law_way","_law_top"] ["_law_m","_law_way"] (ag jE):=⟨rfl,rfl,rfl,by decide +kernel,rfl,by decide +kernel,by decide +kernel⟩
abbrev my:Stmt:=top 68
theorem eK:aT ["_law_m","_law_cell","_law_seats_here","_law_way","_law_more","_law_size","_law_clause_here","_law_bottom","_law_top"] ["_law_m","_law_cell","_law_seats_here"] (ag my):=⟨rfl,rfl,rfl,by decide +kernel,rfl,by decide +kernel,by decide +kernel⟩
abbrev vN:Scope:={ kind:=.function,names:=[(ar ".0",.local),(ar "_law_k",.local),(ar "_law_clause",.globalImplicit),(ar "_law_more",.free)],isGenerator:=false,isCoroutine:=false,more:=[] }
theorem Gx:dP vN (ag my) "_law_k" ["_law_m","_law_cell","_law_seats_here","_law_way","_law_more","_law_size","_law_clause_here","_law_bottom","_law_top"] ["_law_m","_law_cell","_law_seats_here","_law_way","_law_more","_law_size","_law_clause_here","_law_bottom","_law_top"]:=⟨rfl,rfl,by decide +kernel,by decide +kernel,rfl,by decide +kernel,by decide +kernel,by decide +kernel,by decide +kernel,rfl,by decide +kernel,by decide +kernel⟩
abbrev pB:Stmt:=top 69
theorem xI:aT ["_law_chamber","_law_deed_here","_law_found"] ["_law_chamber","_law_deed_here"] (ag pB):=⟨rfl,rfl,rfl,by decide +kernel,rfl,by decide +kernel,by decide +kernel⟩
abbrev l9:Stmt:=top 70
theorem Kj:aT ["_law_cell"] ["_law_cell"] (ag l9):=⟨rfl,rfl,rfl,by decide +kernel,rfl,by decide +kernel,by decide +kernel⟩
abbrev gv:Stmt:=top 71
theorem gR:aT ["_law_state_here","_law_numbers_here","_law_number","_law_until","_law_pile"] ["_law_state_here"] (ag gv):=⟨rfl,rfl,rfl,by decide +kernel,rfl,by decide +kernel,by decide +kernel⟩
abbrev qV:Scope:={ kind:=.function,names:=[(ar ".0",.local),(ar "_law_number",.local),(ar "_law_word_here",.local)],isGenerator:=false,isCoroutine:=false,more:=[] }
theorem mz:iC qV (ag gv) ["_law_number","_law_word_here"] ["_law_state_here","_law_numbers_here","_law_number","_law_until","_law_pile"] ["_law_state_here","_law_numbers_here","","_law_until","_law_pile"]:=⟨rfl,rfl,by decide +kernel,by decide +kernel,by decide +kernel,by decide +kernel,by decide +kernel,by decide +kernel,by decide +kernel,rfl,by decide +kernel,by decide +kernel⟩
abbrev pD:Stmt:=top 72
theorem xJ:aT ["_law_old","_law_new_here","_law_number","_law_word_here"] ["_law_old","_law_new_here"] (ag pD):=⟨rfl,rfl,rfl,by decide +kernel,rfl,by decide +kernel,by decide +kernel⟩
abbrev vO:Stmt:=top 73
theorem lq:aT ["_law_script","_law_seats_here","_law_chamber","_law_m","_law_made","_law_old","_law_cell","_law_deed_here","_law_found","_law_new_here"] ["_law_script"] (ag vO):=⟨rfl,rfl,rfl,by decide +kernel,rfl,by decide +kernel,by decide +kernel⟩
structure Adr where
 fits:Addr
 Av:ki
 kO:Addr
 gw:ki
 laid:Addr
 vP:ki
 words_of:Addr
 eV:ki
 pE:Addr
 i3:ki
 md:Addr
 gS:ki
 Br:Addr
 pF:ki
 mB:Addr
 ib:ki
 j8:Addr
 gU:ki
 gf:Addr
 dX:ki
 gW:Addr
 eu:ki
 j9:Addr
 gX:ki
 kh:Addr
 gY:ki
 lN:Addr
 iq:ki
 mf:Addr
 gZ:ki
 Aw:Addr
 qu:ki
 t5:Addr
 lO:ki
 Bs:Addr
 pG:ki
 vQ:Addr
 nD:ki
 E2:Addr
 t6:ki
 E3:Addr
 t7:ki
 E4:Addr
 t8:ki
 t9:Addr
 jF:ki
 Bt:Addr
 pH:ki
 Mj:Addr
 vR:ki
 vS:Addr
 i4:ki
 Gy:Addr
 rZ:ki
 Ax:Addr
 qv:ki
 E5:Addr
 ua:ki
 vT:Addr
 mD:ki
 Ay:Addr
 qw:ki
 Az:Addr
 qy:ki
 Ml:Addr
 vU:ki
 E6:Addr
 ub:ki
 vV:Addr
 nF:ki
 E7:Addr
 uc:ki
 Bu:Addr
 pI:ki
 AA:Addr
 qz:ki
 ud:Addr
 lP:ki
 E8:Addr
 ue:ki
 kz:Tok
 c0:Addr
 c1:Addr
 c2:Addr
 c3:Addr
 c4:Addr
 c5:Addr
 c6:Addr
 c7:Addr
 Cm:Addr
 tab:Addr
 Wz:Addr
 PH:ki
 WA:Addr
 PK:ki
 WB:Addr
 PL:ki
 WC:Addr
 PM:ki
 WD:Addr
 PN:ki
 WE:Addr
 PQ:ki
 WG:Addr
 PR:ki
 WH:Addr
 PU:ki
 f_r:Addr
 SO:ki
 f_n:Addr
 E9:ki
 WI:Addr
 PV:ki
 f_t:Addr
 PX:ki
 WJ:Addr
 PY:ki
 WK:Addr
 PZ:ki
 WL:Addr
 P0:ki
 WM:Addr
 P1:ki
 WN:Addr
 P2:ki
 Nr:Addr
 DG:ki
 Nt:Addr
 DH:ki
 P4:Addr
 Gz:ki
 P5:Addr
 GA:ki
 P6:Addr
 GB:ki
 ax:Addr
 cf:Addr
 ir:ki
 cg:Addr
 iu:ki
 cj:Addr
 iw:ki
 ck:Addr
 ix:ki
 cn:Addr
 iy:ki
 bV:Addr
 g0:ki
 cw:Addr
 nG:ki
 bC:Addr
 dA:ki
 bx:Addr
 dE:ki
 a5:Addr
 bX:ki
 a9:Addr
 bU:ki
 bF:Addr
 dY:ki
 bg:Addr
 cx:ki
 bA:Addr
 dZ:ki
 bp:Addr
 cQ:ki
 bq:Addr
 cS:ki
 bB:Addr
 d0:ki
 bG:Addr
 uf:Addr
 mE:Addr
 qA:Addr
 qB:Addr
 jG:Addr
 pJ:Addr
 ug:Addr
 uh:Addr
 pK:Addr
 qC:Addr
 r6:Addr
 pL:ki
 qD:Addr
 nH:ki
 vW:Addr
 ui:ki
def Adr.C (A:Adr):Nat->Addr
 | 0=>A.c0
 | 1=>A.c1
 | 2=>A.c2
 | 3=>A.c3
 | 4=>A.c4
 | 5=>A.c5
 | 6=>A.c6
 |_=>A.c7
def Adr.fk (A:Adr):Nat->Addr
 | 0=>A.Wz
 | 1=>A.WA
 | 2=>A.WB
 | 3=>A.WC
 | 4=>A.WD
 | 5=>A.WE
 | 6=>A.WG
 |_=>A.WH
def Adr.fkd (A:Adr):Nat->ki
 | 0=>A.PH
 | 1=>A.PK
 | 2=>A.PL
 | 3=>A.PM
 | 4=>A.PN
 | 5=>A.PQ
 | 6=>A.PR
 |_=>A.PU
def Adr.fn (A:Adr):Nat->Addr
 | 0=>A.f_n
 | 1=>A.f_n
 | 2=>A.f_n
 | 3=>A.f_n
 | 4=>A.WI
 | 5=>A.f_n
 | 6=>A.f_n
 |_=>A.f_n
def Adr.fnd (A:Adr):Nat->ki
 | 0=>A.E9
 | 1=>A.E9
 | 2=>A.E9
 | 3=>A.E9
 | 4=>A.PV
 | 5=>A.E9
 | 6=>A.E9
 |_=>A.E9
def Adr.ft (A:Adr):Nat->Addr
 | 0=>A.WJ
 | 1=>A.WK
 | 2=>A.WL
 | 3=>A.WM
 | 4=>A.f_t
 | 5=>A.f_t
 | 6=>A.f_t
 |_=>A.WN
def Adr.ftd (A:Adr):Nat->ki
 | 0=>A.PY
 | 1=>A.PZ
 | 2=>A.P0
 | 3=>A.P1
 | 4=>A.PX
 | 5=>A.PX
 | 6=>A.PX
 |_=>A.P2
def nm:Nat->Str
 | 0=>ar "matter"
 | 1=>ar "change"
 | 2=>ar "mend"
 | 3=>ar "put off"
 | 4=>ar "close"
 | 5=>ar "lay"
 | 6=>ar "rest"
 |_=>ar "point"
structure Txt (P:Params)(K:ba)(mg:Str->Option Value)(A:Adr):Prop where
 Kk:Fun K "fits" "fits" xG A.fits A.Av
 P7:Binds K A.Av ["things","edit"] []
 P8:mg "fits"=some (.ref A.fits)
 ic:Fun K "require_fit" "require_fit" fX A.kO A.gw
 kA:Binds K A.gw ["things","edit"] []
 kB:mg "require_fit"=some (.ref A.kO)
 Fb:Fun K "laid" "laid" xH A.laid A.vP
 Kl:Binds K A.vP ["things","edit"] []
 Km:mg "laid"=some (.ref A.laid)
 iD:Fun K "words_of" "words_of" jA A.words_of A.eV
 jH:Binds K A.eV ["clause"] []
 jI:mg "words_of"=some (.ref A.words_of)
 nI:Fun K "clause_of" "clause_of" iO A.pE A.i3
 r8:Binds K A.i3 ["words"] []
 r9:mg "clause_of"=some (.ref A.pE)
 nJ:Fun K "motion_of" "motion_of" iP A.md A.gS
 yG:Binds K A.gS ["told"] []
 yH:mg "motion_of"=some (.ref A.md)
 vX:Fun K "bar_of" "bar_of" oY A.Br A.pF
 Bv:Binds K A.pF ["pile","closed"] []
 Bw:mg "bar_of"=some (.ref A.Br)
 lQ:Fun K "has_matter" "has_matter" fg A.mB A.ib
 qE:Binds K A.ib ["pile"] []
 qF:mg "has_matter"=some (.ref A.mB)
 lu:Fun K "can_be_mended" "can_be_mended" dR A.j8 A.gU
 qW:Binds K A.gU ["pile"] []
 qX:mg "can_be_mended"=some (.ref A.j8)
 hV:Fun K "has_what_it_needs" "has_what_it_needs" cI A.gf A.dX
 lF:Binds K A.dX ["kind","pile"] []
 lG:mg "has_what_it_needs"=some (.ref A.gf)
 iE:Fun K "require_in_order" "require_in_order" cL A.gW A.eu
 mF:Binds K A.eu ["kind","pile","closed"] []
 mG:mg "require_in_order"=some (.ref A.gW)
 lx:Fun K "words_of_text" "words_of_text" dS A.j9 A.gX
 qY:Binds K A.gX ["text"] []
 qZ:mg "words_of_text"=some (.ref A.j9)
 ly:Fun K "words_of_edit" "words_of_edit" dU A.kh A.gY
 q5:Binds K A.gY ["edit"] []
 q8:mg "words_of_edit"=some (.ref A.kh)
 mH:Fun K "words_behind" "words_behind" du A.lN A.iq
 sf:Binds K A.iq ["deed"] []
 sg:mg "words_behind"=some (.ref A.lN)
 kP:Fun K "show_deed" "show_deed" iQ A.mf A.gZ
 nK:Binds K A.gZ ["deed"] []
 nL:mg "show_deed"=some (.ref A.mf)
 xK:Fun K "is_kept" "is_kept" lZ A.Aw A.qu
 DI:Binds K A.qu ["need","ayes","noes"] []
 DJ:mg "is_kept"=some (.ref A.Aw)
 sj:Fun K "_law_cell_at" "_law_cell_at" iR A.t5 A.lO
 yI:Binds K A.lO ["_law_script","_law_k"] []
 yJ:mg "_law_cell_at"=some (.ref A.t5)
 vY:Fun K "_law_word" "_law_word" pb A.Bs A.pG
 Bx:Binds K A.pG ["_law_cell"] []
 By:mg "_law_word"=some (.ref A.Bs)
 mI:Fun K "_law_clause" "_law_clause" jC A.vQ A.nD
 qG:Binds K A.nD ["_law_cell"] []
 qH:mg "_law_clause"=some (.ref A.vQ)
 vZ:Fun K "_law_edit" "_law_edit" pf A.E2 A.t6
 Bz:Binds K A.t6 ["_law_cell","_law_size","_law_thing"] []
 BA:mg "_law_edit"=some (.ref A.E2)
 wb:Fun K "_law_fits" "_law_fits" ph A.E3 A.t7
 BB:Binds K A.t7 ["_law_things","_law_edit_here"] []
 BC:mg "_law_fits"=some (.ref A.E3)
 wc:Fun K "_law_laid" "_law_laid" pj A.E4 A.t8
 BD:Binds K A.t8 ["_law_things","_law_edit_here"] []
 BE:mg "_law_laid"=some (.ref A.E4)
 pM:Fun K "_law_words" "_law_words" l4 A.t9 A.jF
 uj:Binds K A.jF ["_law_clause_here"] []
 uk:mg "_law_words"=some (.ref A.t9)
 we:Fun K "_law_rank" "_law_rank" pq A.Bt A.pH
 BF:Binds K A.pH ["_law_kind"] []
 BG:mg "_law_rank"=some (.ref A.Bt)
 Fc:Fun K "_law_new" "_law_new" tW A.Mj A.vR
 Mm:Binds K A.vR [] []
 Mo:mg "_law_new"=some (.ref A.Mj)
 i5:Fun K "_law_now" "_law_now" tX A.vS A.i4
 kD:Binds K A.i4 ["_law_m","_law_number"] []
 kF:mg "_law_now"=some (.ref A.vS)
 wg:Fun K "_law_bar" "_law_bar" tY A.Gy A.rZ
 AB:Binds K A.rZ ["_law_m"] []
 AD:mg "_law_bar"=some (.ref A.Gy)
 xM:Fun K "_law_lacks" "_law_lacks" l5 A.Ax A.qv
 DK:Binds K A.qv ["_law_m","_law_motion"] []
 DL:mg "_law_lacks"=some (.ref A.Ax)
 BH:Fun K "_law_keep" "_law_keep" pw A.E5 A.ua
 GC:Binds K A.ua ["_law_m","_law_motion"] []
 GD:mg "_law_keep"=some (.ref A.E5)
 um:Fun K "_law_ended" "_law_ended" l6 A.vT A.mD
 xN:Binds K A.mD ["_law_m","_law_word_here"] []
 xO:mg "_law_ended"=some (.ref A.vT)
 xP:Fun K "_law_voted" "_law_voted" l7 A.Ay A.qw
 DM:Binds K A.qw ["_law_m","_law_ayes","_law_noes","_law_seats_here"] []
 DN:mg "_law_voted"=some (.ref A.Ay)
 xQ:Fun K "_law_taken" "_law_taken" l8 A.Az A.qy
 DO:Binds K A.qy ["_law_m","_law_number"] []
 DQ:mg "_law_taken"=some (.ref A.Az)
 Fd:Fun K "_law_due" "_law_due" tZ A.Ml A.vU
 Mp:Binds K A.vU ["_law_m","_law_deed_here","_law_seats_here"] []
 Mq:mg "_law_due"=some (.ref A.Ml)
 BI:Fun K "_law_vote" "_law_vote" pz A.E6 A.ub
 GF:Binds K A.ub ["_law_cell","_law_seats_here"] []
 GG:mg "_law_vote"=some (.ref A.E6)
 uO:Fun K "_law_guided" "_law_guided" jE A.vV A.nF
 BJ:Binds K A.nF ["_law_m","_law_way"] []
 BK:mg "_law_guided"=some (.ref A.vV)
 BL:Fun K "_law_deed" "_law_deed" my A.E7 A.uc
 GH:Binds K A.uc ["_law_m","_law_cell","_law_seats_here"] []
 GI:mg "_law_deed"=some (.ref A.E7)
 BM:Fun K "_law_done" "_law_done" pB A.Bu A.pI
 GJ:Binds K A.pI ["_law_chamber","_law_deed_here"] []
 GK:mg "_law_done"=some (.ref A.Bu)
 xR:Fun K "_law_seats" "_law_seats" l9 A.AA A.qz
 DR:Binds K A.qz ["_law_cell"] []
 DS:mg "_law_seats"=some (.ref A.AA)
 sv:Fun K "_law_numbers" "_law_numbers" gv A.ud A.lP
 yK:Binds K A.lP ["_law_state_here"] []
 yL:mg "_law_numbers"=some (.ref A.ud)
 BN:Fun K "_law_step" "_law_step" pD A.E8 A.ue
 GL:Binds K A.ue ["_law_old","_law_new_here"] []
 GN:mg "_law_step"=some (.ref A.E8)
 wj:mg "range"=none
 nY:mg "list"=none
 Fe:mg "isinstance"=none
 kQ:mg "len"=none
 GO:mg "max"=none
 UA:mg "any"=none
 P9:mg "str"=none
 wm:mg "sorted"=none
 Qa:mg "int"=none
 Ff:mg "ValueError"=none
 wo:mg "CLOSED_BAR"=some (.int 4 A.kz)
 cl:∀k,k < 8->Cls K (A.C k)
 wq:mg "Matter"=some (.ref (A.C 0))
 wu:mg "Change"=some (.ref (A.C 1))
 Kn:mg "Mend"=some (.ref (A.C 2))
 BO:mg "PutOff"=some (.ref (A.C 3))
 Fg:mg "Close"=some (.ref (A.C 4))
 Qb:mg "Lay"=some (.ref (A.C 5))
 Ko:mg "Rest"=some (.ref (A.C 6))
 Fh:mg "Point"=some (.ref (A.C 7))
 Fi:mg "RANKS"=some (.ref A.tab)
 tb:aaN P K A.tab
 rk:∀k,k < 8->∃t,di K A.tab (nm k)=some (some (.int k t))
 nZ:∀k,k < 8->Meth K (A.C k) "kind" (A.fk k)
 n5:∀k,k < 8->Binds K (A.fkd k) ["self"] []
 Qc:∀k,k < 8->Meth K (A.C k) "need" (A.fn k)
 Qd:∀k,k < 8->Binds K (A.fnd k) ["self"] []
 Qe:∀k,k < 8->Meth K (A.C k) "told" (A.ft k)
 Qf:∀k,k < 8->Binds K (A.ftd k) ["self"] []
 Qg:∀k,k < 8->Meth K (A.C k) "rank" A.f_r
 Qh:∀k,k < 8->Binds K A.SO ["self"] []
 aa2:Fun K "kind" "Matter.kind" fH A.Wz A.PH
 aa3:Fun K "kind" "Change.kind" fJ A.WA A.PK
 aa4:Fun K "kind" "Mend.kind" iK A.WB A.PL
 aa5:Fun K "kind" "PutOff.kind" fK A.WC A.PM
 aa6:Fun K "kind" "Close.kind" gM A.WD A.PN
 aa7:Fun K "kind" "Lay.kind" jz A.WE A.PQ
 aa8:Fun K "kind" "Rest.kind" iL A.WG A.PR
 aa9:Fun K "kind" "Point.kind" gN A.WH A.PU
 F_r:Fun K "rank" "Motion.rank" fL A.f_r A.SO
 F_n:Fun K "need" "Motion.need" fM A.f_n A.E9
 aba:Fun K "need" "Close.need" gO A.WI A.PV
 F_t:Fun K "told" "Motion.told" fN A.f_t A.PX
 abb:Fun K "told" "Matter.told" fO A.WJ A.PY
 abc:Fun K "told" "Change.told" fP A.WK A.PZ
 abd:Fun K "told" "Mend.told" iM A.WL A.P0
 abe:Fun K "told" "PutOff.told" fQ A.WM A.P1
 abf:Fun K "told" "Point.told" gP A.WN A.P2
 abg:Fun K "__init__" "Matter.__init__" fR A.Nr A.DG
 abh:Fun K "__init__" "Change.__init__" fS A.Nt A.DH
 abi:Fun K "__init__" "Mend.__init__" iN A.P4 A.Gz
 abj:Fun K "__init__" "PutOff.__init__" fU A.P5 A.GA
 abk:Fun K "__init__" "Point.__init__" gQ A.P6 A.GB
 wy:Mk K (A.C 0) A.Nr
 SQ:Binds K A.DG ["self","text"] []
 na0:dq K (A.C 0) "text"
 wz:Mk K (A.C 1) A.Nt
 SR:Binds K A.DH ["self","edit"] []
 na1:dq K (A.C 1) "edit"
 Kp:Mk K (A.C 2) A.P4
 WO:Binds K A.Gz ["self","edit"] []
 na2:dq K (A.C 2) "edit"
 BP:Mk K (A.C 3) A.P5
 WQ:Binds K A.GA ["self","sitting"] []
 na3:dq K (A.C 3) "sitting"
 Fj:Mk K (A.C 7) A.P6
 WR:Binds K A.GB ["self","clause"] []
 na7:dq K (A.C 7) "clause"
 mkn:∀k,k=4\/k=5\/k=6->MkN K (A.C k)
 DT:mg "Chamber"=some (.ref A.ax)
 au:Cls K A.ax
 gx:Fun K "__init__" "Chamber.__init__" eD A.cf A.ir
 i6:Binds K A.ir ["self","seats"] []
 DU:Mk K A.ax A.cf
 gy:Fun K "move" "Chamber.move" eE A.cg A.iu
 i7:Binds K A.iu ["self","told"] []
 sx:Meth K A.ax "move" A.cg
 gz:Fun K "vote" "Chamber.vote" eF A.cj A.iw
 i8:Binds K A.iw ["self","ayes","noes"] []
 sy:Meth K A.ax "vote" A.cj
 gA:Fun K "drop" "Chamber.drop" eG A.ck A.ix
 i9:Binds K A.ix ["self"] []
 sA:Meth K A.ax "drop" A.ck
 gB:Fun K "take" "Chamber.take" eI A.cn A.iy
 ja:Binds K A.iy ["self","number"] []
 sC:Meth K A.ax "take" A.cn
 fD:Fun K "state" "Chamber.state" cY A.bV A.g0
 fE:Binds K A.g0 ["self"] []
 lz:Meth K A.ax "state" A.bV
 g7:Fun K "motion" "Chamber.motion" eJ A.cw A.nG
 jJ:Binds K A.nG ["self","number"] []
 xS:Meth K A.ax "motion" A.cw
 d3:Fun K "pending" "Chamber.pending" cD A.bC A.dA
 d4:Binds K A.dA ["self"] []
 jb:Meth K A.ax "pending" A.bC
 cT:Fun K "told_aside" "Chamber.told_aside" cv A.bx A.dE
 d5:Binds K A.dE ["self","number"] []
 kR:Meth K A.ax "told_aside" A.bx
 bJ:Fun K "require_can_be_made" "Chamber.require_can_be_made" bz A.a5 A.bX
 b9:Binds K A.bX ["self","told"] []
 eW:Meth K A.ax "require_can_be_made" A.a5
 b6:Fun K "require_pending" "Chamber.require_pending" bK A.a9 A.bU
 b7:Binds K A.bU ["self"] []
 dM:Meth K A.ax "require_pending" A.a9
 eL:Fun K "decide" "Chamber.decide" dn A.bF A.dY
 eM:Binds K A.dY ["self","word"] []
 jK:Meth K A.ax "decide" A.bF
 cE:Fun K "end_decision" "Chamber.end_decision" bW A.bg A.cx
 cF:Binds K A.cx ["self","deed"] []
 fh:Meth K A.ax "end_decision" A.bg
 cZ:Fun K "carry_out" "Chamber.carry_out" cG A.bA A.dZ
 ez:Binds K A.dZ ["self","motion"] []
 lH:Meth K A.ax "carry_out" A.bA
 cy:Fun K "lay_on_matter" "Chamber.lay_on_matter" bQ A.bp A.cQ
 cV:Binds K A.cQ ["self","edit"] []
 iS:Meth K A.ax "lay_on_matter" A.bp
 cz:Fun K "lay_on_change" "Chamber.lay_on_change" bR A.bq A.cS
 cW:Binds K A.cS ["self","edit"] []
 iT:Meth K A.ax "lay_on_change" A.bq
 dc:Fun K "put_aside" "Chamber.put_aside" cH A.bB A.d0
 df:Binds K A.d0 ["self","until"] []
 hX:Meth K A.ax "put_aside" A.bB
 jqq:dq K A.ax "seats"
 jq1:dq K A.ax "sitting"
 jq3:dq K A.ax "closed"
 jq4:dq K A.ax "made"
 jq0:dq K A.ax "pile"
 jq2:dq K A.ax "aside"
 jqj:dq K A.ax "decided"
 jqb:dq K A.ax "first_texts"
 jq5:dq K A.ax "edits_kept"
 jqk:dq K A.ax "rows"
 gC:mg "ChamberError"=some (.ref A.bG)
 Mr:mg "NoFit"=some (.ref A.uf)
 BQ:mg "Barred"=some (.ref A.mE)
 BR:mg "NoMatter"=some (.ref A.qA)
 BS:mg "NoChange"=some (.ref A.qB)
 BU:mg "NotLater"=some (.ref A.jG)
 DW:mg "Nothing"=some (.ref A.pJ)
 DX:mg "TooMany"=some (.ref A.ug)
 DY:mg "NoAside"=some (.ref A.uh)
 GP:mg "NotYet"=some (.ref A.pK)
 Kq:mg "NoNumber"=some (.ref A.qC)
 iz:Ux K A.bG
 GQ:Gj K A.uf
 jqo:akA K (.ref A.uf) (.ref A.bG)=some true
 yM:Gj K A.qA
 jqc:akA K (.ref A.qA) (.ref A.bG)=some true
 yN:Gj K A.qB
 jqd:akA K (.ref A.qB) (.ref A.bG)=some true
 BV:Gj K A.pJ
 jqg:akA K (.ref A.pJ) (.ref A.bG)=some true
 BW:Gj K A.ug
 jqh:akA K (.ref A.ug) (.ref A.bG)=some true
 BX:Gj K A.uh
 jqi:akA K (.ref A.uh) (.ref A.bG)=some true
 GR:Gj K A.qC
 jqe:akA K (.ref A.qC) (.ref A.bG)=some true
 mJ:Fun K "__init__" "Barred.__init__" fV A.r6 A.pL
 mK:Binds K A.pL ["self","bar"] []
 pN:EM K A.mE A.r6 "bar"
 jql:akA K (.ref A.mE) (.ref A.bG)=some true
 jc:Fun K "__init__" "NotLater.__init__" dQ A.qD A.nH
 lR:Binds K A.nH ["self","sitting"] []
 nM:EM K A.jG A.qD "sitting"
 jqf:akA K (.ref A.jG) (.ref A.bG)=some true
 mL:Fun K "__init__" "NotYet.__init__" fW A.vW A.ui
 qI:Binds K A.ui ["self","sitting"] []
 uo:EM K A.pK A.vW "sitting"
 jqm:akA K (.ref A.pK) (.ref A.bG)=some true
end My
set_option maxHeartbeats 1000000
namespace My
open PySem L2
seal PySem.wpAny
theorem sl (n:Nat)(h:n<=64:=by decide):n<=kf:=tm h (by decide)
abbrev bl1:Str:=ar " "
def Asc (x:Str):Prop:=∀c∈x.cps.toList,c < 128
theorem Asc.ok {x:Str}(h:Asc x):alk x=true:=by
 unfold alk;rw[Array.all_eq_true];intro i hi;have:=h x.cps[i] (by simp)
 exact decide_eq_true (by omega)
theorem pO {sep:Str}(hs:Asc sep):∀ws:List Str,(∀w∈ws,Asc w)->Asc (sr sep ws)
 |[],_=>λc hc=>by
  have:c∈([]:List Nat):=hc;cases this
 |[x],h=>h x fu
 |x::y::r,h=>λc hc=>by
  have hc':c∈((x++sep)++sr sep (y::r)).cps.toList:=hc;rw[eY,eY,List.mem_append,List.mem_append]at hc';rcases hc' with (h1 | h1) | h1
  ·exact h x fu c h1
  ·exact hs c h1
  ·exact pO hs (y::r) (λw hw=>h w (ky _ hw)) c h1
structure Sh (n:Nat)(x:Str):Prop where
 asc:Asc x
 len:x.length<=n
structure Ed where
 k:Nat
 at_:Int
 th:Str
def kn:Nat->Str
 | 0=>ar "put"
 | 1=>ar "cut"
 |_=>ar "turn"
def gg (e:Ed):List V:=match e.k with
 | 0=>[.str (kn 0),.int e.at_,.str e.th]
 | 1=>[.str (kn 1),.int e.at_]
 |_=>[.str (kn 2),.int e.at_,.str e.th]
def edD (e:Ed):PyData:=match e.k with
 | 0=>.tuple [.str (kn 0),.int e.at_,.str e.th]
 | 1=>.tuple [.str (kn 1),.int e.at_]
 |_=>.tuple [.str (kn 2),.int e.at_,.str e.th]
structure rB (e:Ed):Prop where
 k3:e.k=0\/e.k=1\/e.k=2
 lo:-1000<=e.at_
 hi:e.at_<=1000
 th:Sh 100000 e.th
def gD (n:Nat)(e:Ed):Bool:=decide (0<=e.at_) && decide (e.at_ < (n:Int)+(if e.k=0 then 1 else 0))
def bH (xs:List Str)(e:Ed):List Str:=match e.k with
 | 0=>xs.take e.at_.toNat++e.th::xs.drop e.at_.toNat
 | 1=>xs.eraseIdx e.at_.toNat
 |_=>xs.set e.at_.toNat e.th
theorem n6 (e:Ed):atI (gg e) 0=some (.str (kn e.k)):=by
 unfold gg;split
 ·rename_i h;rw[h];rfl
 ·rename_i h;rw[h];rfl
 ·rename_i h1 h2;have:kn e.k=kn 2:=by
   unfold kn;split
   ·rename_i h;exact absurd h h1
   ·rename_i h;exact absurd h h2
   ·rfl
  rw[this];rfl
theorem uP (e:Ed):atI (gg e) 1=some (.int e.at_):=by
 unfold gg;split <;> rfl
theorem uQ {e:Ed}(h:e.k≠1):atI (gg e) 2=some (.str e.th):=by
 unfold gg;split
 ·rfl
 ·rename_i z;exact absurd z h
 ·rfl
theorem WS (e:Ed){K:ba}{H:Hp}{t:Addr}(h:SqT K H t (gg e)):DV K H (edD e) (.ref t):=by
 unfold gg at h;unfold edD;split
 ·rename_i z;rw[z]at h;unfold DV;exact⟨t,_,rfl,h,by unfold DVs;exact⟨_,_,rfl,by unfold DV;rfl,by unfold DVs;exact⟨_,_,rfl,by unfold DV;rfl,by unfold DVs;exact⟨_,_,rfl,by unfold DV;rfl,by unfold DVs;rfl⟩⟩⟩⟩
 ·rename_i z;rw[z]at h;unfold DV;exact⟨t,_,rfl,h,by unfold DVs;exact⟨_,_,rfl,by unfold DV;rfl,by unfold DVs;exact⟨_,_,rfl,by unfold DV;rfl,by unfold DVs;rfl⟩⟩⟩
 ·rename_i z1 z2;split at h
  ·rename_i z;exact absurd z z1
  ·rename_i z;exact absurd z z2
  ·unfold DV;exact⟨t,_,rfl,h,by unfold DVs;exact⟨_,_,rfl,by unfold DV;rfl,by unfold DVs;exact⟨_,_,rfl,by unfold DV;rfl,by unfold DVs;exact⟨_,_,rfl,by unfold DV;rfl,by unfold DVs;rfl⟩⟩⟩⟩
theorem DZ {i:Int}(h0:-1000<=i)(h1:i<=1000):i.natAbs.log2 < 1920:=by
 have h:i.natAbs < 2 ^ 10:=by omega
 by_cases hz:i.natAbs=0
 ·rw[hz];decide
 ·exact Nat.lt_trans ((Nat.log2_lt hz).mpr h) (by decide)
theorem Qi {e:Ed}(o:rB e):(edD e).showable=true/\(edD e).hasDict=false/\(edD e).depth<=60:=by
 have lg:=DZ o.lo o.hi;unfold edD;split <;> simp[PyData.showable,PyData.showableAll,PyData.hasDict,PyData.hasDictAll,alm,aln,lg]
theorem SS {i:Int}(h0:-1000<=i)(h1:i<=1000):(ar (toString i)).length<=1921:=by
 have h:=int_text_length_le (a:=i) (k:=1920) (by decide) (DZ h0 h1)
 have e:(ar (toString i)).length=(toString i).length:=by first | exact PySem.ofString_length _ | exact ofString_length _
 omega
theorem Sh.rep {n:Nat}{x:Str}(s:Sh n x):(reprText x).length<=10 * n+2:=by
 have h:=StrLaws.reprText_len x λc hc=>Nat.lt_trans (s.asc c hc) (by decide)
 have:=s.len;omega
theorem Qj (k:Nat):Sh 4 (kn k):=by
 unfold kn;split <;> exact⟨by unfold Asc;decide +kernel,by decide +kernel⟩
theorem SU {e:Ed}(o:rB e):(edD e).shown.length<=1100000:=by
 have a:=(Qj 0).rep;have b:=(Qj 1).rep;have c:=(Qj 2).rep;have d:=o.th.rep;have i:=SS o.lo o.hi;unfold edD;split
 ·have h:=tupleText_len_le [reprText (kn 0),ar (toString e.at_),reprText e.th];simp only[ko,akW,List.sum_cons,List.sum_nil,akp,alE]at h;show (tupleText [reprText (kn 0),ar (toString e.at_),reprText e.th]).length<=_;omega
 ·have h:=tupleText_len_le [reprText (kn 1),ar (toString e.at_)];simp only[ko,akW,List.sum_cons,List.sum_nil,akp,alE]at h;show (tupleText [reprText (kn 1),ar (toString e.at_)]).length<=_;omega
 ·have h:=tupleText_len_le [reprText (kn 2),ar (toString e.at_),reprText e.th];simp only[ko,akW,List.sum_cons,List.sum_nil,akp,alE]at h;show (tupleText [reprText (kn 2),ar (toString e.at_),reprText e.th]).length<=_;omega
theorem xT {e:Ed}(o:rB e):(V.str (kn e.k)=V.str (ar "put"))↔e.k=0:=by
 rcases o.k3 with h | h | h <;> rw[h] <;> decide +kernel
theorem uR {e:Ed}(o:rB e):(V.str (kn e.k)=V.str (ar "cut"))↔e.k=1:=by
 rcases o.k3 with h | h | h <;> rw[h] <;> decide +kernel
theorem Ms {e:Ed}(o:rB e):(V.str (kn e.k)=V.str (ar "turn"))↔e.k=2:=by
 rcases o.k3 with h | h | h <;> rw[h] <;> decide +kernel
def Fl (K:ba):Sp:=λvs H Q _=>∃(a t:Addr) (xs:List V) (e:Ed),vs=[.ref a,.ref t]/\SqL K H a xs/\SqT K H t (gg e)/\rB e/\Q (.bl (gD xs.length e)) H
def Qk (A:Adr)(K:ba):Sp:=λvs H Q E=>∃(a t:Addr) (xs:List V) (e:Ed),vs=[.ref a,.ref t]/\SqL K H a xs/\SqT K H t (gg e)/\rB e/\(gD xs.length e=true->Q .non H)/\(gD xs.length e=false->E (.ref A.uf) none H)
def Kr (A:Adr)(K:ba):Sp:=λvs H Q E=>∃(a t:Addr) (xs:List Str) (e:Ed),vs=[.ref a,.ref t]/\SqL K H a (xs.map V.str)/\xs.length<=1000/\SqT K H t (gg e)/\rB e /\
 (gD xs.length e=true->∀p,H p=none->Q (.ref p) (upd H p (.lst ((bH xs e).map V.str))))/\(gD xs.length e=false->E (.ref A.uf) none H)
theorem BY {n:Nat}{e:Ed}:gD n e=true↔0<=e.at_/\e.at_ < (n:Int)+(if e.k=0 then 1 else 0):=by
 unfold gD;rw[alp,decide_eq_true_iff,decide_eq_true_iff]
section
variable{P:me}{w:World}{K:ba}{mg:Str->Option Value}{base:Heap}{A:Adr}
theorem Ql {H H':Hp}{t:Addr}{xs:List V}(s:bu H H')(h:SqT K H t xs):SqT K H' t xs:=by
 rcases h with (h | ⟨o,h⟩) | h
 ·exact .inl (.inl (s _ _ h))
 ·exact .inl (.inr ⟨o,s _ _ h⟩)
 ·exact .inr h
theorem SV (T:Txt w.params K mg A):aO P w K mg base CX0 1 A.fits A.Av ["things","edit"] (Fl K):=by
 refine T.Kk.ok EX (λvs H Q E h=>?_) (λcdv A' outer s H vs Q E hr h=>?_)
 ·obtain⟨a,t,xs,e,rfl,_⟩:=h;rfl
 ·obtain⟨a,t,xs,e,rfl,ha,ht,o,q⟩:=h;refine⟨_,(ai (a6 (i:=2) EX.nd rfl (Lk rfl) (bN bO (by rfl) T.kQ hU (aa (pv 0) ah)))
 (ai (a7 (az bt (aK aN (pv 1) af (λ_ _=>rfl)) ao (aL _))
 (aj (a6 (i:=2) EX.nd rfl (Lk rfl) (a4 cX (pv 2) af)))
 aH)
 (aj (aG (AU vx rP af (aK aN (pv 1) af (λ_ _=>rfl)) (pv 2)))))),?_⟩
  refine⟨_,rfl,a,xs,rfl,.inl ha,?_⟩;refine ixv rfl ht (n6 e) ⟨rfl,_,rfl,eR (λz=>?_) (λz=>?_)⟩
  ·have hk:e.k=0:=(xT o).mp (of_decide_eq_true z);refine⟨_,rfl,_,_,rfl,rfl,?_⟩;unfold gD at q;rw[if_pos hk]at q;refine ixv rfl ht (uP e) ⟨_,_,rfl,rfl,_,rfl,eR (λz1=>?_) (λz1=>?_)⟩
   ·have h1:0<=e.at_:=of_decide_eq_true z1;rw[decide_eq_true h1,Bool.true_and]at q;exact⟨_,rfl,_,_,rfl,rfl,q⟩
   ·have h1:¬0<=e.at_:=λy=>z1 (decide_eq_true y)
    rw[decide_eq_false h1,Bool.false_and]at q;exact q
  ·have hk:¬e.k=0:=λy=>z (decide_eq_true ((xT o).mpr y))
   unfold gD at q;rw[if_neg hk,Int.add_zero]at q;refine ixv rfl ht (uP e) ⟨_,_,rfl,rfl,_,rfl,eR (λz1=>?_) (λz1=>?_)⟩
   ·have h1:0<=e.at_:=of_decide_eq_true z1;rw[decide_eq_true h1,Bool.true_and]at q;exact⟨_,rfl,_,_,rfl,rfl,q⟩
   ·have h1:¬0<=e.at_:=λy=>z1 (decide_eq_true y)
    rw[decide_eq_false h1,Bool.false_and]at q;exact q
theorem sD (T:Txt w.params K mg A):aO P w K mg base (CXX P w) 2 A.kO A.gw ["things","edit"] (Qk A K):=by
 have WT:aO P w K mg base CX0 1 A.fits A.Av ["things","edit"] (Fl K):=SV T;refine T.ic.okX Bo (λvs H Q E h=>?_) (λcdv A' outer s H vs Q E hr h=>?_)
 ·obtain⟨a,t,xs,e,rfl,_⟩:=h;rfl
 ·obtain⟨a,t,xs,e,rfl,ha,ht,o,q1,q2⟩:=h;have SW:=hr;have hgd:=hr.gd;have jo:=hr.units;refine⟨_,(bE (iB (qo (mi (aW WT SW rfl T.P8 T.Kk.kp T.P7 .nil aZ (aa (pv 0) (aa (pv 1) ah)))))
 (bE (lY T.GQ rfl rfl T.Mr (aa (aaR hgd jo (pv 1)) ah)))
 (xy aH))),?_⟩
  refine⟨_,rfl,_,rfl,a,t,xs,e,rfl,ha,ht,o,_,rfl,?_⟩;cases hf:gD xs.length e with
  |true=>exact bS (q1 hf)
  |false =>
   refine hide λGg hGg=>?_
   obtain⟨s1,s2,s3⟩:=Qi o;have s4:=SU o;refine hGg ?_;refine dJ ⟨_,rfl,t,edD e,rfl,WS e ht,s1,s2,s3,tm (Nat.add_le_add_right s4 _) (by decide +kernel),λz=>?_⟩
   exact⟨(sl 1),q2 hf⟩
theorem Mt (T:Txt w.params K mg A):aO P w K mg base (CXX P w) 3 A.laid A.vP ["things","edit"] (Kr A K):=by
 have kG:aO P w K mg base (CXX P w) 2 A.kO A.gw ["things","edit"] (Qk A K):=sD T;refine T.Fb.okX Au (λvs H Q E h=>?_) (λcdv A' outer s H vs Q E hr h=>?_)
 ·obtain⟨a,t,xs,e,rfl,_⟩:=h;rfl
 ·obtain⟨a,t,xs,e,rfl,ha,hz,ht,o,q1,q2⟩:=h;have jd:=hr;refine⟨_,(bb (mr (vH kG jd rfl T.kB T.ic.kp T.kA (pax (aa (pv 0) (aa (pv 1) ah)))))
 (bb (psx (a6 (i:=2) Au.nd rfl (Lk rfl) (aK aN (pv 1) af (λ_ _=>rfl))))
 (bb (psx (a6 (i:=3) Au.nd rfl (Lk rfl) (aK aN (pv 1) af (λ_ _=>rfl))))
 (bb (psx (a6 (i:=4) Au.nd rfl (Lk rfl) (dO dW (by rfl) T.nY nB (aa (pv 0) ah))))
 (bb (psx (a7 (az bt (pv 2) ao (aL _))
 (aj (bL (hG rf PySem.F.slot_list_insert PySem.F.type_list_insert Ni (pv 4) (aa (pv 3) (aa (aK aN (pv 1) af (λ_ _=>rfl)) ah)))))
 (aj (a7 (az bt (pv 2) ao (aL _))
 (aj (bL (hG rf PySem.F.slot_list_pop PySem.F.type_list_pop O4 (pv 4) (aa (pv 3) ah))))
 (aj (xn (aK aN (pv 1) af (λ_ _=>rfl)) (JO (pv 4) (pv 3) set_list)))))))
 (bE (psx (aG (pv 4))))))))),?_⟩
  refine⟨_,rfl,_,rfl,a,t,_,e,rfl,ha,ht,o,λhf=>?_,λhf=>q2 (by rw[bo]at hf;exact hf)⟩
  refine hide λGg hGg=>?_
  rw[bo]at hf;obtain⟨f0,f1⟩:=BY.mp hf;have q:=q1 hf;have lim:(1001:Nat) < kf:=by decide
  obtain⟨n,hn⟩:∃n:Nat,e.at_=(n:Int):=⟨e.at_.toNat,by omega⟩
  refine hGg ?_;refine ixv rfl ht (n6 e) ?_;refine ixv rfl ht (uP e) ?_;refine⟨_,rfl,a,_,rfl,.inl ha,λp hp=>?_⟩
  have sp:bu H (upd H p (.lst (xs.map V.str))):=aB hp;have ht':=Ql sp ht;have q:=q p hp;rw[hn];rw[hn]at f1;refine⟨_,rfl,rfl,_,rfl,eR (λz=>?_) (λz=>?_)⟩
  ·have hk:e.k=0:=(xT o).mp (of_decide_eq_true z);rw[if_pos hk]at f1;refine⟨_,rfl,.inl ⟨rfl,_,SqL.of ae⟩,_,rfl,ixv rfl ht' (uQ (by omega)) ⟨p,_,_,n,_,rfl,rfl,rfl,ae,(by rw[bo];omega),(by rw[bo];omega),?_⟩⟩
   rw[nz];refine⟨_,rfl,?_⟩;have e1:(bH xs e).map V.str=(xs.map V.str).take n++V.str e.th::(xs.map V.str).drop n:=by
    unfold bH;rw[hk,hn];simp
   rw[e1]at q;exact q
  ·have hk0:¬e.k=0:=λy=>z (decide_eq_true ((xT o).mpr y))
   rw[if_neg hk0,Int.add_zero]at f1;have hlt:n < xs.length:=by omega
   refine⟨_,rfl,rfl,_,rfl,eR (λz2=>?_) (λz2=>?_)⟩
   ·have hk:e.k=1:=(uR o).mp (of_decide_eq_true z2);refine⟨_,rfl,.inl ⟨rfl,_,SqL.of ae⟩,_,rfl,p,_,(n:Int),n,_,rfl,rfl,ae,by omega,by omega,?_,(by rw[wt (by rw[bo];exact hlt)]),?_⟩
    ·rw[bo];exact(EB (by unfold ixN;rw[if_pos (by omega),if_pos (by omega)];rfl)).1
    ·rw[nz];refine⟨_,rfl,?_⟩;have e1:(bH xs e).map V.str=(xs.map V.str).eraseIdx n:=by
      unfold bH;rw[hk,hn];exact Dx V.str xs _
     rw[e1]at q;exact q
   ·have hk1:¬e.k=1:=λy=>z2 (decide_eq_true ((uR o).mpr y))
    have hk:e.k=2:=by have:=o.k3;omega
    refine ixv rfl ht' (uQ (by omega)) ⟨_,rfl,_,rfl,p,_,(n:Int),n,rfl,rfl,ae,?_,?_⟩
    ·rw[bo];unfold ixN;rw[if_pos (by omega),if_pos (by omega)];rfl
    ·rw[nz];refine⟨_,rfl,?_⟩;have e1:(bH xs e).map V.str=(xs.map V.str).set n (V.str e.th):=by
      unfold bH;rw[hk,hn];simp[List.map_set]
     rw[e1]at q;exact q
end
mutual
theorem eqv_refl:∀d:PyData,d.canLay0=true->alP d d=true
 | .none,_=>by simp[alP]
 | .bool _,_=>by simp[alP]
 | .int _,_=>by simp[alP]
 | .str _,_=>by simp[alP]
 | .list xs,h=>by simp only[alP];exact eqvAll_refl xs (by simpa [akG] using h)
 | .tuple xs,h=>by simp only[alP];exact eqvAll_refl xs (by simpa [akG] using h)
 | .dict _,h=>by simp[akG]at h
theorem eqvAll_refl:∀xs:List PyData,akO xs=true->PyData.eqvAll xs xs=true
 |[],_=>by simp[PyData.eqvAll]
 |x::xs,h=>by
  have h':x.canLay0=true/\akO xs=true:=by simpa [akO] using h
  simp only[PyData.eqvAll,eqv_refl x h'.1,eqvAll_refl xs h'.2,al0]
end
theorem akh:∀k,k < 8->alk (nm k)=true
 | 0,_=>by decide +kernel
 | 1,_=>by decide +kernel
 | 2,_=>by decide +kernel
 | 3,_=>by decide +kernel
 | 4,_=>by decide +kernel
 | 5,_=>by decide +kernel
 | 6,_=>by decide +kernel
 | 7,_=>by decide +kernel
 |n+8,h=>absurd h (by omega)
def nd (k:Nat):Str:=if k=4 then ar "two thirds" else ar "more"
def rowOf (k:Nat)(v:V):List V:=match k with
 | 4=>[.str (nm 4)]
 | 5=>[.str (nm 5)]
 | 6=>[.str (nm 6)]
 |k=>[.str (nm k),v]
def pP (k:Nat)(v:V):List (Str×V):=match k with
 | 0=>[(ar "text",v)]
 | 1=>[(ar "edit",v)]
 | 2=>[(ar "edit",v)]
 | 3=>[(ar "sitting",v)]
 | 4=>[]
 | 5=>[]
 | 6=>[]
 |_=>[(ar "clause",v)]
theorem Mu {m:Str}(h:m≠ar "text"/\m≠ar "edit"/\m≠ar "sitting"/\m≠ar "clause")(k:Nat)(v:V):(pP k v).lookup m=none:=by
 obtain⟨h1,h2,h3,h4⟩:=h;have b1:(m == ar "text")=false:=beq_eq_false_iff_ne.mpr h1;have b2:(m == ar "edit")=false:=beq_eq_false_iff_ne.mpr h2;have b3:(m == ar "sitting")=false:=beq_eq_false_iff_ne.mpr h3;have b4:(m == ar "clause")=false:=beq_eq_false_iff_ne.mpr h4;unfold pP;split <;> simp[List.lookup_cons,b1,b2,b3,b4]
theorem lS (k:Nat)(v:V):(pP k v).lookup (ar "kind")=none:=Mu (by decide +kernel) k v
theorem SX (k:Nat)(v:V):(pP k v).lookup (ar "rank")=none:=Mu (by decide +kernel) k v
theorem SY (k:Nat)(v:V):(pP k v).lookup (ar "need")=none:=Mu (by decide +kernel) k v
theorem S0 (k:Nat)(v:V):(pP k v).lookup (ar "told")=none:=Mu (by decide +kernel) k v
def fZ (k:Nat):Sp:=λvs H Q _=>∃m:Addr,vs=[.ref m]/\Q (.str (nm k)) H
def Qm (A:Adr):Sp:=λvs H Q _=>∃(m:Addr) (k:Nat) (dx:Addr) (fs:List (Str×V)),k < 8/\vs=[.ref m]/\H m=some (.ins (A.C k) dx fs)/\fs.lookup (ar "kind")=none/\Q (.int k) H
def Fm (k:Nat):Sp:=λvs H Q _=>∃m:Addr,vs=[.ref m]/\Q (.str (nd k)) H
def Mv (A:Adr):Sp:=λvs H Q _=>∃(m:Addr) (k:Nat) (dx:Addr) (fs:List (Str×V)),k < 8/\vs=[.ref m]/\H m=some (.ins (A.C k) dx fs)/\fs.lookup (ar "kind")=none/\∀p,H p=none->Q (.ref p) (upd H p (.tup [.str (nm k)]))
def AE (A:Adr)(k:Nat)(a:Str):Sp:=λvs H Q _=>∃(m dx:Addr) (fs:List (Str×V)) (v:V),vs=[.ref m]/\H m=some (.ins (A.C k) dx fs)/\fs.lookup (ar "kind")=none/\fs.lookup a=some v/\∀p,H p=none->Q (.ref p) (upd H p (.tup [.str (nm k),v]))
def Ks (A:Adr)(k:Nat):Sp:=λvs H Q _=>1<=k/\∃(m dx:Addr) (v:V),vs=[.ref m]/\H m=some (.ins (A.C k) dx (pP k v))/\∀p,H p=none->Q (.ref p) (upd H p (.tup (rowOf k v)))
def jL (A:Adr)(k:Nat):Sp:=λvs H Q _=>∃(m dx:Addr) (v:V),vs=[.ref m,v]/\H m=some (.ins (A.C k) dx [])/\Q .non (upd H m (.ins (A.C k) dx (pP k v)))
def Mw (A:Adr)(K:ba):Sp:=λvs H Q _=>∃(m dx L:Addr) (xs:List V),vs=[.ref m]/\H m=some (.ins (A.C 0) dx (pP 0 (.ref L)))/\SqL K H L xs/\∀p q,H p=none->H q=none->p≠q->Q (.ref q) (upd (upd H p (.lst xs)) q (.tup [.str (nm 0),.ref p]))
def AF (A:Adr)(K:ba):Sp:=λvs H Q _=>∃(m dx L:Addr) (xs:List V),vs=[.ref m,.ref L]/\H m=some (.ins (A.C 0) dx [])/\SqL K H L xs/\∀p,H p=none->Q .non (upd (upd H p (.lst xs)) m (.ins (A.C 0) dx (pP 0 (.ref p))))
def Mx (A:Adr):Sp:=λvs H Q _=>∃(t:Addr) (k:Nat) (v:V),1<=k/\k < 8/\vs=[.ref t]/\H t=some (.tup (rowOf k v))/\∀m H',bu H H'->H m=none->(∃dx,H' m=some (.ins (A.C k) dx (pP k v)))->Q (.ref m) H'
def GS (A:Adr)(K:ba):Sp:=λvs H Q _=>∃(t L:Addr) (xs:List V),vs=[.ref t]/\H t=some (.tup [.str (nm 0),.ref L])/\SqL K H L xs /\
 ∀m p H',bu H H'->H m=none->H p=none->H' p=some (.lst xs)->(∃dx,H' m=some (.ins (A.C 0) dx (pP 0 (.ref p))))->Q (.ref m) H'
section
variable{P:me}{w:World}{K:ba}{mg:Str->Option Value}{base:Heap}{A:Adr}
theorem BZ (T:Txt w.params K mg A):aO P w K mg base CX0 1 A.Wz A.PH ["self"] (fZ 0):=by
 refine T.aa2.ok Ba (λvs H Q E h=>?_) (λcdv A' outer s H vs Q E hr h=>?_)
 ·obtain⟨m,rfl,_⟩:=h;rfl
 ·obtain⟨m,rfl,q⟩:=h;exact⟨_,(aj (aG ao)),q⟩
theorem B0 (T:Txt w.params K mg A):aO P w K mg base CX0 1 A.WA A.PK ["self"] (fZ 1):=by
 refine T.aa3.ok Bb (λvs H Q E h=>?_) (λcdv A' outer s H vs Q E hr h=>?_)
 ·obtain⟨m,rfl,_⟩:=h;rfl
 ·obtain⟨m,rfl,q⟩:=h;exact⟨_,(aj (aG ao)),q⟩
theorem Fn (T:Txt w.params K mg A):aO P w K mg base CX0 1 A.WB A.PL ["self"] (fZ 2):=by
 refine T.aa4.ok ET (λvs H Q E h=>?_) (λcdv A' outer s H vs Q E hr h=>?_)
 ·obtain⟨m,rfl,_⟩:=h;rfl
 ·obtain⟨m,rfl,q⟩:=h;exact⟨_,(aj (aG ao)),q⟩
theorem B1 (T:Txt w.params K mg A):aO P w K mg base CX0 1 A.WC A.PM ["self"] (fZ 3):=by
 refine T.aa5.ok Bc (λvs H Q E h=>?_) (λcdv A' outer s H vs Q E hr h=>?_)
 ·obtain⟨m,rfl,_⟩:=h;rfl
 ·obtain⟨m,rfl,q⟩:=h;exact⟨_,(aj (aG ao)),q⟩
theorem C2 (T:Txt w.params K mg A):aO P w K mg base CX0 1 A.WD A.PN ["self"] (fZ 4):=by
 refine T.aa6.ok CV (λvs H Q E h=>?_) (λcdv A' outer s H vs Q E hr h=>?_)
 ·obtain⟨m,rfl,_⟩:=h;rfl
 ·obtain⟨m,rfl,q⟩:=h;exact⟨_,(aj (aG ao)),q⟩
theorem GU (T:Txt w.params K mg A):aO P w K mg base CX0 1 A.WE A.PQ ["self"] (fZ 5):=by
 refine T.aa7.ok Gu (λvs H Q E h=>?_) (λcdv A' outer s H vs Q E hr h=>?_)
 ·obtain⟨m,rfl,_⟩:=h;rfl
 ·obtain⟨m,rfl,q⟩:=h;exact⟨_,(aj (aG ao)),q⟩
theorem Fo (T:Txt w.params K mg A):aO P w K mg base CX0 1 A.WG A.PR ["self"] (fZ 6):=by
 refine T.aa8.ok EU (λvs H Q E h=>?_) (λcdv A' outer s H vs Q E hr h=>?_)
 ·obtain⟨m,rfl,_⟩:=h;rfl
 ·obtain⟨m,rfl,q⟩:=h;exact⟨_,(aj (aG ao)),q⟩
theorem C3 (T:Txt w.params K mg A):aO P w K mg base CX0 1 A.WH A.PU ["self"] (fZ 7):=by
 refine T.aa9.ok CW (λvs H Q E h=>?_) (λcdv A' outer s H vs Q E hr h=>?_)
 ·obtain⟨m,rfl,_⟩:=h;rfl
 ·obtain⟨m,rfl,q⟩:=h;exact⟨_,(aj (aG ao)),q⟩
theorem lT (T:Txt w.params K mg A):∀k,k < 8->aO P w K mg base CX0 1 (A.fk k) (A.fkd k) ["self"] (fZ k)
 | 0,_=>BZ T
 | 1,_=>B0 T
 | 2,_=>Fn T
 | 3,_=>B1 T
 | 4,_=>C2 T
 | 5,_=>GU T
 | 6,_=>Fo T
 | 7,_=>C3 T
 |n+8,h=>absurd h (by omega)
theorem S1 (T:Txt w.params K mg A):aO P w K mg base CX0 2 A.f_r A.SO ["self"] (Qm A):=by
 have gF:∀k,k < 8->aO P w K mg base CX0 1 (A.fk k) (A.fkd k) ["self"] (fZ k):=lT T;refine T.F_r.ok Bd (λvs H Q E h=>?_) (λcdv A' outer s H vs Q E hr h=>?_)
 ·obtain⟨m,k,dx,fs,_,rfl,_⟩:=h;rfl
 ·obtain⟨m,k,dx,fs,hk,rfl,hm,hl,q⟩:=h;have d6:=hr;obtain⟨t,ht⟩:=T.rk k hk;refine⟨_,(aj (aG (aK Pd (Eu (v:=V.ref A.tab) rfl T.Fi rfl) (gk (pv 0) (T.cl k hk) (T.nZ k hk) (gF k hk) d6 (T.n5 k hk) .nil aZ) (λ_ _=>rfl)))),?_⟩
  exact⟨_,rfl,m,dx,fs,rfl,hm,hl,m,rfl,A.tab,nm k,.int k,_,rfl,rfl,T.tb,ht,⟨_,rfl⟩,q⟩
theorem xU (T:Txt w.params K mg A):aO P w K mg base CX0 2 A.f_t A.PX ["self"] (Mv A):=by
 have gF:∀k,k < 8->aO P w K mg base CX0 1 (A.fk k) (A.fkd k) ["self"] (fZ k):=lT T;refine T.F_t.ok Bf (λvs H Q E h=>?_) (λcdv A' outer s H vs Q E hr h=>?_)
 ·obtain⟨m,k,dx,fs,_,rfl,_⟩:=h;rfl
 ·obtain⟨m,k,dx,fs,hk,rfl,hm,hl,q⟩:=h;have d6:=hr;refine⟨_,(aj (aG (bj (aa (gk (pv 0) (T.cl k hk) (T.nZ k hk) (gF k hk) d6 (T.n5 k hk) .nil aZ) ah)))),?_⟩;exact⟨_,rfl,m,dx,fs,rfl,hm,hl,m,rfl,(sl 1),λp hp=>q p hp⟩
theorem B2 (T:Txt w.params K mg A):aO P w K mg base CX0 2 A.WK A.PZ ["self"] (AE A 1 "edit"):=by
 have gF:∀k,k < 8->aO P w K mg base CX0 1 (A.fk k) (A.fkd k) ["self"] (fZ k):=lT T;refine T.abc.ok Bh (λvs H Q E h=>?_) (λcdv A' outer s H vs Q E hr h=>?_)
 ·obtain⟨m,dx,fs,v,rfl,_⟩:=h;rfl
 ·obtain⟨m,dx,fs,v,rfl,hm,hl,hv,q⟩:=h;have d6:=hr;obtain⟨k,hk,ek⟩:∃k,k < 8/\k=1:=⟨1,by decide,rfl⟩
  have hm':H m=some (.ins (A.C k) dx fs):=by rw[ek];exact hm
  refine⟨_,(aj (aG (bj (aa (gk (pv 0) (T.cl k hk) (T.nZ k hk) (gF k hk) d6 (T.n5 k hk) .nil aZ) (aa (br (pv 0) rfl) ah))))),?_⟩;subst ek;exact⟨_,rfl,m,dx,fs,rfl,hm,hl,m,rfl,_,rfl,m,A.C 1,dx,fs,v,rfl,hm,T.cl 1 hk,T.na1,hv,(sl 2),λp hp=>q p hp⟩
theorem mM (T:Txt w.params K mg A):aO P w K mg base CX0 1 A.Nt A.DH ["self","edit"] (jL A 1):=by
 refine T.abh.ok Bk (λvs H Q E h=>?_) (λcdv A' outer s H vs Q E hr h=>?_)
 ·obtain⟨m,dx,v,rfl,_⟩:=h;rfl
 ·obtain⟨m,dx,v,rfl,hm,q⟩:=h;refine⟨_,(aj (eA (pv 0) (pv 1) rfl)),?_⟩;exact⟨_,rfl,_,rfl,m,A.C 1,dx,[],rfl,hm,T.cl 1 (by decide),T.na1,by decide,q⟩
theorem Fp (T:Txt w.params K mg A):aO P w K mg base CX0 2 A.WL A.P0 ["self"] (AE A 2 "edit"):=by
 have gF:∀k,k < 8->aO P w K mg base CX0 1 (A.fk k) (A.fkd k) ["self"] (fZ k):=lT T;refine T.abd.ok EV (λvs H Q E h=>?_) (λcdv A' outer s H vs Q E hr h=>?_)
 ·obtain⟨m,dx,fs,v,rfl,_⟩:=h;rfl
 ·obtain⟨m,dx,fs,v,rfl,hm,hl,hv,q⟩:=h;have d6:=hr;obtain⟨k,hk,ek⟩:∃k,k < 8/\k=2:=⟨2,by decide,rfl⟩
  have hm':H m=some (.ins (A.C k) dx fs):=by rw[ek];exact hm
  refine⟨_,(aj (aG (bj (aa (gk (pv 0) (T.cl k hk) (T.nZ k hk) (gF k hk) d6 (T.n5 k hk) .nil aZ) (aa (br (pv 0) rfl) ah))))),?_⟩;subst ek;exact⟨_,rfl,m,dx,fs,rfl,hm,hl,m,rfl,_,rfl,m,A.C 2,dx,fs,v,rfl,hm,T.cl 2 hk,T.na2,hv,(sl 2),λp hp=>q p hp⟩
theorem wA (T:Txt w.params K mg A):aO P w K mg base CX0 1 A.P4 A.Gz ["self","edit"] (jL A 2):=by
 refine T.abi.ok EW (λvs H Q E h=>?_) (λcdv A' outer s H vs Q E hr h=>?_)
 ·obtain⟨m,dx,v,rfl,_⟩:=h;rfl
 ·obtain⟨m,dx,v,rfl,hm,q⟩:=h;refine⟨_,(aj (eA (pv 0) (pv 1) rfl)),?_⟩;exact⟨_,rfl,_,rfl,m,A.C 2,dx,[],rfl,hm,T.cl 2 (by decide),T.na2,by decide,q⟩
theorem B3 (T:Txt w.params K mg A):aO P w K mg base CX0 2 A.WM A.P1 ["self"] (AE A 3 "sitting"):=by
 have gF:∀k,k < 8->aO P w K mg base CX0 1 (A.fk k) (A.fkd k) ["self"] (fZ k):=lT T;refine T.abe.ok Bi (λvs H Q E h=>?_) (λcdv A' outer s H vs Q E hr h=>?_)
 ·obtain⟨m,dx,fs,v,rfl,_⟩:=h;rfl
 ·obtain⟨m,dx,fs,v,rfl,hm,hl,hv,q⟩:=h;have d6:=hr;obtain⟨k,hk,ek⟩:∃k,k < 8/\k=3:=⟨3,by decide,rfl⟩
  have hm':H m=some (.ins (A.C k) dx fs):=by rw[ek];exact hm
  refine⟨_,(aj (aG (bj (aa (gk (pv 0) (T.cl k hk) (T.nZ k hk) (gF k hk) d6 (T.n5 k hk) .nil aZ) (aa (br (pv 0) rfl) ah))))),?_⟩;subst ek;exact⟨_,rfl,m,dx,fs,rfl,hm,hl,m,rfl,_,rfl,m,A.C 3,dx,fs,v,rfl,hm,T.cl 3 hk,T.na3,hv,(sl 2),λp hp=>q p hp⟩
theorem sE (T:Txt w.params K mg A):aO P w K mg base CX0 1 A.P5 A.GA ["self","sitting"] (jL A 3):=by
 refine T.abj.ok Bl (λvs H Q E h=>?_) (λcdv A' outer s H vs Q E hr h=>?_)
 ·obtain⟨m,dx,v,rfl,_⟩:=h;rfl
 ·obtain⟨m,dx,v,rfl,hm,q⟩:=h;refine⟨_,(aj (eA (pv 0) (pv 1) rfl)),?_⟩;exact⟨_,rfl,_,rfl,m,A.C 3,dx,[],rfl,hm,T.cl 3 (by decide),T.na3,by decide,q⟩
theorem C4 (T:Txt w.params K mg A):aO P w K mg base CX0 2 A.WN A.P2 ["self"] (AE A 7 "clause"):=by
 have gF:∀k,k < 8->aO P w K mg base CX0 1 (A.fk k) (A.fkd k) ["self"] (fZ k):=lT T;refine T.abf.ok CZ (λvs H Q E h=>?_) (λcdv A' outer s H vs Q E hr h=>?_)
 ·obtain⟨m,dx,fs,v,rfl,_⟩:=h;rfl
 ·obtain⟨m,dx,fs,v,rfl,hm,hl,hv,q⟩:=h;have d6:=hr;obtain⟨k,hk,ek⟩:∃k,k < 8/\k=7:=⟨7,by decide,rfl⟩
  have hm':H m=some (.ins (A.C k) dx fs):=by rw[ek];exact hm
  refine⟨_,(aj (aG (bj (aa (gk (pv 0) (T.cl k hk) (T.nZ k hk) (gF k hk) d6 (T.n5 k hk) .nil aZ) (aa (br (pv 0) rfl) ah))))),?_⟩;subst ek;exact⟨_,rfl,m,dx,fs,rfl,hm,hl,m,rfl,_,rfl,m,A.C 7,dx,fs,v,rfl,hm,T.cl 7 hk,T.na7,hv,(sl 2),λp hp=>q p hp⟩
theorem uD (T:Txt w.params K mg A):aO P w K mg base CX0 1 A.P6 A.GB ["self","clause"] (jL A 7):=by
 refine T.abk.ok C0 (λvs H Q E h=>?_) (λcdv A' outer s H vs Q E hr h=>?_)
 ·obtain⟨m,dx,v,rfl,_⟩:=h;rfl
 ·obtain⟨m,dx,v,rfl,hm,q⟩:=h;refine⟨_,(aj (eA (pv 0) (pv 1) rfl)),?_⟩;exact⟨_,rfl,_,rfl,m,A.C 7,dx,[],rfl,hm,T.cl 7 (by decide),T.na7,by decide,q⟩
theorem Qn {k:Nat}{f:Addr}{fd:ki}{ps:List Str}{sp:Sp}(h:∀vs H Q E,¬sp vs H Q E):aO P w K mg base CX0 k f fd ps sp :=
 ⟨λvs H Q E z=>(h vs H Q E z).elim,λ_ _ _ H _ _ vs Q E _ _ _ _ z=>(h vs H Q E z).elim⟩
theorem uS {k:Nat}(hk:k=4\/k=5\/k=6):∀vs H Q E,Ks A k vs H Q E->Mv A vs H Q E:=λvs H Q E ⟨_,m,dx,v,e,hm,q⟩ =>
 ⟨m,k,dx,pP k v,by omega,e,hm,lS k v,λp hp=>by
  have:=q p hp;rcases hk with rfl | rfl | rfl <;> exact this⟩
theorem qJ (T:Txt w.params K mg A):∀k,k < 8->aO P w K mg base CX0 2 (A.ft k) (A.ftd k) ["self"] (Ks A k)
 | 0,_=>Qn λvs H Q E h=>absurd h.1 (by decide)
 | 1,_=>(B2 T).imp λvs H Q E ⟨_,m,dx,v,e,hm,q⟩=>⟨m,dx,_,v,e,hm,lS 1 v,rfl,q⟩
 | 2,_=>(Fp T).imp λvs H Q E ⟨_,m,dx,v,e,hm,q⟩=>⟨m,dx,_,v,e,hm,lS 2 v,rfl,q⟩
 | 3,_=>(B3 T).imp λvs H Q E ⟨_,m,dx,v,e,hm,q⟩=>⟨m,dx,_,v,e,hm,lS 3 v,rfl,q⟩
 | 4,_=>(xU T).imp (uS (.inl rfl))
 | 5,_=>(xU T).imp (uS (.inr (.inl rfl)))
 | 6,_=>(xU T).imp (uS (.inr (.inr rfl)))
 | 7,_=>(C4 T).imp λvs H Q E ⟨_,m,dx,v,e,hm,q⟩=>⟨m,dx,_,v,e,hm,lS 7 v,rfl,q⟩
 |n+8,h=>absurd h (by omega)
theorem B4 (T:Txt w.params K mg A):aO P w K mg base CX0 1 A.Nr A.DG ["self","text"] (AF A K):=by
 refine T.abg.ok Bj (λvs H Q E h=>?_) (λcdv A' outer s H vs Q E hr h=>?_)
 ·obtain⟨m,dx,L,xs,rfl,_⟩:=h;rfl
 ·obtain⟨m,dx,L,xs,rfl,hm,hL,q⟩:=h;refine⟨_,(aj (eA (pv 0) (dO dW (by rfl) T.nY nB (aa (pv 1) ah)) rfl)),?_⟩
  refine⟨_,rfl,L,xs,rfl,.inl hL,λp hp=>?_⟩
  have nmp:m≠p:=aJ hm hp;exact⟨_,rfl,m,A.C 0,dx,[],rfl,(aw nmp).trans hm,T.cl 0 (by decide),T.na0,by decide,q p hp⟩
theorem Qo (T:Txt w.params K mg A):aO P w K mg base CX0 2 A.WJ A.PY ["self"] (Mw A K):=by
 have gF:∀k,k < 8->aO P w K mg base CX0 1 (A.fk k) (A.fkd k) ["self"] (fZ k):=lT T;refine T.abb.ok Bg (λvs H Q E h=>?_) (λcdv A' outer s H vs Q E hr h=>?_)
 ·obtain⟨m,dx,L,xs,rfl,_⟩:=h;rfl
 ·obtain⟨m,dx,L,xs,rfl,hm,hL,q⟩:=h;have d6:=hr;obtain⟨k,hk,ek⟩:∃k,k < 8/\k=0:=⟨0,by decide,rfl⟩
  refine⟨_,(aj (aG (bj (aa (gk (pv 0) (T.cl k hk) (T.nZ k hk) (gF k hk) d6 (T.n5 k hk) .nil aZ) (aa (dO dW (by rfl) T.nY nB (aa (br (pv 0) rfl) ah)) ah))))),?_⟩
  subst ek;refine⟨_,rfl,m,dx,_,rfl,hm,lS 0 _,m,rfl,_,rfl,m,A.C 0,dx,_,_,rfl,hm,T.cl 0 hk,T.na0,rfl,L,xs,rfl,.inl hL,λp hp=>⟨(sl 2),λq' hq'=>?_⟩⟩
  have npq:p≠q':=aJ ae hq';have hq:H q'=none:=by rw[aw (akI npq)]at hq';exact hq'
  exact q p q' hp hq npq
theorem Fq (T:Txt w.params K mg A):aO P w K mg base CX0 3 A.md A.gS ["told"] (Mx A):=by
 have Qp:aO P w K mg base CX0 1 A.Nr A.DG ["self","text"] (AF A K):=B4 T;have Qq:aO P w K mg base CX0 1 A.Nt A.DH ["self","edit"] (jL A 1):=mM T;have WU:aO P w K mg base CX0 1 A.P4 A.Gz ["self","edit"] (jL A 2):=wA T;have WV:aO P w K mg base CX0 1 A.P5 A.GA ["self","sitting"] (jL A 3):=sE T;have WW:aO P w K mg base CX0 1 A.P6 A.GB ["self","clause"] (jL A 7):=uD T;refine T.nJ.ok lL (λvs H Q E h=>?_) (λcdv A' outer s H vs Q E hr h=>?_)
 ·obtain⟨t,k,v,_,_,rfl,_⟩:=h;rfl
 ·obtain⟨t,k,v,h1,h8,rfl,ht,q⟩:=h;have fj:=hr;refine⟨_,(ai (a6 (i:=1) lL.nd rfl (Lk rfl) (aK aN (pv 0) af (λ_ _=>rfl)))
 (ai (a7 (az bt (pv 1) ao (aL _))
 (aj (aG (gK T.wy Qp fj rfl T.wq T.SQ .nil aZ (aa (aK aN (pv 0) af (λ_ _=>rfl)) ah))))
 aH)
 (ai (a7 (az bt (pv 1) ao (aL _))
 (aj (aG (gK T.wz Qq fj rfl T.wu T.SR .nil aZ (aa (aK aN (pv 0) af (λ_ _=>rfl)) ah))))
 aH)
 (ai (a7 (az bt (pv 1) ao (aL _))
 (aj (aG (gK T.Kp WU fj rfl T.Kn T.WO .nil aZ (aa (aK aN (pv 0) af (λ_ _=>rfl)) ah))))
 aH)
 (ai (a7 (az bt (pv 1) ao (aL _))
 (aj (aG (gK T.BP WV fj rfl T.BO T.WQ .nil aZ (aa (aK aN (pv 0) af (λ_ _=>rfl)) ah))))
 aH)
 (ai (a7 (az bt (pv 1) ao (aL _))
 (aj (aG (oQ (T.mkn 4 (by decide)) rfl T.Fg)))
 aH)
 (ai (a7 (az bt (pv 1) ao (aL _))
 (aj (aG (oQ (T.mkn 5 (by decide)) rfl T.Qb)))
 aH)
 (ai (a7 (az bt (pv 1) ao (aL _))
 (aj (aG (oQ (T.mkn 6 (by decide)) rfl T.Ko)))
 aH)
 (aj (aG (gK T.Fj WW fj rfl T.Fh T.WR .nil aZ (aa (aK aN (pv 0) af (λ_ _=>rfl)) ah)))))))))))),?_⟩
  have h0:atI (rowOf k v) 0=some (.str (nm k)):=by
   have hk:k=1\/k=2\/k=3\/k=4\/k=5\/k=6\/k=7:=by omega
   rcases hk with rfl | rfl | rfl | rfl | rfl | rfl | rfl <;> rfl
  refine ixv rfl (SqT.of ht) h0 ?_;have hk:k=1\/k=2\/k=3\/k=4\/k=5\/k=6\/k=7:=by omega
  rcases hk with rfl | rfl | rfl | rfl | rfl | rfl | rfl
  ·refine⟨_,rfl,rfl,tsf (by decide +kernel) ⟨_,rfl,rfl,tst (by decide +kernel) ?_⟩⟩
   exact⟨_,rfl,t,_,_,v,rfl,rfl,SqT.of ht,rfl,λm dx nm ndx ne=>⟨m,dx,v,rfl,ae,rfl,q m _ ((((bu.refl H).own ndx).own nm).own nm) nm ⟨dx,ae⟩⟩⟩
  ·refine⟨_,rfl,rfl,tsf (by decide +kernel) ⟨_,rfl,rfl,tsf (by decide +kernel) ⟨_,rfl,rfl,tst (by decide +kernel) ?_⟩⟩⟩
   exact⟨_,rfl,t,_,_,v,rfl,rfl,SqT.of ht,rfl,λm dx nm ndx ne=>⟨m,dx,v,rfl,ae,rfl,q m _ ((((bu.refl H).own ndx).own nm).own nm) nm ⟨dx,ae⟩⟩⟩
  ·refine⟨_,rfl,rfl,tsf (by decide +kernel) ⟨_,rfl,rfl,tsf (by decide +kernel) ⟨_,rfl,rfl,tsf (by decide +kernel) ⟨_,rfl,rfl,tst (by decide +kernel) ?_⟩⟩⟩⟩
   exact⟨_,rfl,t,_,_,v,rfl,rfl,SqT.of ht,rfl,λm dx nm ndx ne=>⟨m,dx,v,rfl,ae,rfl,q m _ ((((bu.refl H).own ndx).own nm).own nm) nm ⟨dx,ae⟩⟩⟩
  ·refine⟨_,rfl,rfl,tsf (by decide +kernel) ⟨_,rfl,rfl,tsf (by decide +kernel) ⟨_,rfl,rfl,tsf (by decide +kernel) ⟨_,rfl,rfl,tsf (by decide +kernel) ⟨_,rfl,rfl,tst (by decide +kernel) ?_⟩⟩⟩⟩⟩
   exactλm dx nm ndx ne=>q m _ (((bu.refl H).own ndx).own nm) nm ⟨dx,ae⟩
  ·refine⟨_,rfl,rfl,tsf (by decide +kernel) ⟨_,rfl,rfl,tsf (by decide +kernel) ⟨_,rfl,rfl,tsf (by decide +kernel) ⟨_,rfl,rfl,tsf (by decide +kernel) ⟨_,rfl,rfl,tsf (by decide +kernel) ⟨_,rfl,rfl,tst (by decide +kernel) ?_⟩⟩⟩⟩⟩⟩
   exactλm dx nm ndx ne=>q m _ (((bu.refl H).own ndx).own nm) nm ⟨dx,ae⟩
  ·refine⟨_,rfl,rfl,tsf (by decide +kernel) ⟨_,rfl,rfl,tsf (by decide +kernel) ⟨_,rfl,rfl,tsf (by decide +kernel) ⟨_,rfl,rfl,tsf (by decide +kernel) ⟨_,rfl,rfl,tsf (by decide +kernel) ⟨_,rfl,rfl,tsf (by decide +kernel) ⟨_,rfl,rfl,tst (by decide +kernel) ?_⟩⟩⟩⟩⟩⟩⟩
   exactλm dx nm ndx ne=>q m _ (((bu.refl H).own ndx).own nm) nm ⟨dx,ae⟩
  ·refine⟨_,rfl,rfl,tsf (by decide +kernel) ⟨_,rfl,rfl,tsf (by decide +kernel) ⟨_,rfl,rfl,tsf (by decide +kernel) ⟨_,rfl,rfl,tsf (by decide +kernel) ⟨_,rfl,rfl,tsf (by decide +kernel) ⟨_,rfl,rfl,tsf (by decide +kernel) ⟨_,rfl,rfl,tsf (by decide +kernel) ?_⟩⟩⟩⟩⟩⟩⟩
   exact⟨_,rfl,t,_,_,v,rfl,rfl,SqT.of ht,rfl,λm dx nm ndx ne=>⟨m,dx,v,rfl,ae,rfl,q m _ ((((bu.refl H).own ndx).own nm).own nm) nm ⟨dx,ae⟩⟩⟩
end
section
variable{P:me}{w:World}{K:ba}{mg:Str->Option Value}{base:Heap}{A:Adr}
theorem C5 (T:Txt w.params K mg A):aO P w K mg base CX0 3 A.md A.gS ["told"] (GS A K):=by
 have Qp:aO P w K mg base CX0 1 A.Nr A.DG ["self","text"] (AF A K):=B4 T;have Qq:aO P w K mg base CX0 1 A.Nt A.DH ["self","edit"] (jL A 1):=mM T;have WU:aO P w K mg base CX0 1 A.P4 A.Gz ["self","edit"] (jL A 2):=wA T;have WV:aO P w K mg base CX0 1 A.P5 A.GA ["self","sitting"] (jL A 3):=sE T;have WW:aO P w K mg base CX0 1 A.P6 A.GB ["self","clause"] (jL A 7):=uD T;refine T.nJ.ok lL (λvs H Q E h=>?_) (λcdv A' outer s H vs Q E hr h=>?_)
 ·obtain⟨t,L,xs,rfl,_⟩:=h;rfl
 ·obtain⟨t,L,xs,rfl,ht,hL,q⟩:=h;have fj:=hr;refine⟨_,(ai (a6 (i:=1) lL.nd rfl (Lk rfl) (aK aN (pv 0) af (λ_ _=>rfl)))
 (ai (a7 (az bt (pv 1) ao (aL _))
 (aj (aG (gK T.wy Qp fj rfl T.wq T.SQ .nil aZ (aa (aK aN (pv 0) af (λ_ _=>rfl)) ah))))
 aH)
 (ai (a7 (az bt (pv 1) ao (aL _))
 (aj (aG (gK T.wz Qq fj rfl T.wu T.SR .nil aZ (aa (aK aN (pv 0) af (λ_ _=>rfl)) ah))))
 aH)
 (ai (a7 (az bt (pv 1) ao (aL _))
 (aj (aG (gK T.Kp WU fj rfl T.Kn T.WO .nil aZ (aa (aK aN (pv 0) af (λ_ _=>rfl)) ah))))
 aH)
 (ai (a7 (az bt (pv 1) ao (aL _))
 (aj (aG (gK T.BP WV fj rfl T.BO T.WQ .nil aZ (aa (aK aN (pv 0) af (λ_ _=>rfl)) ah))))
 aH)
 (ai (a7 (az bt (pv 1) ao (aL _))
 (aj (aG (oQ (T.mkn 4 (by decide)) rfl T.Fg)))
 aH)
 (ai (a7 (az bt (pv 1) ao (aL _))
 (aj (aG (oQ (T.mkn 5 (by decide)) rfl T.Qb)))
 aH)
 (ai (a7 (az bt (pv 1) ao (aL _))
 (aj (aG (oQ (T.mkn 6 (by decide)) rfl T.Ko)))
 aH)
 (aj (aG (gK T.Fj WW fj rfl T.Fh T.WR .nil aZ (aa (aK aN (pv 0) af (λ_ _=>rfl)) ah)))))))))))),?_⟩
  refine ixv rfl (SqT.of ht) rfl ?_;refine⟨_,rfl,rfl,tst (by decide +kernel) ?_⟩
  refine⟨_,rfl,t,_,_,.ref L,rfl,rfl,SqT.of ht,rfl,λm dx nm ndx ne=>⟨m,dx,L,xs,rfl,ae,(((bu.refl H).own ndx).own nm).seq hL,λp hp=>⟨rfl,?_⟩⟩⟩
  have s1:bu H (upd (upd H dx (.own m)) m (.ins (A.C 0) dx [])):=((bu.refl H).own ndx).own nm;have npm:p≠m:=λz=>by rw[z,ae]at hp;cases hp
  exact q m p _ ((s1.new hp).own nm) nm (s1.free hp) ((aw npm).trans ae) ⟨dx,ae⟩
end
abbrev GV:Str:=ar "more"
def lI (n:Str)(a b:Int):Bool:=if a<=b then false else (decide (n=GV) || decide (2 * b<=a))
def Qr:Sp:=λvs H Q _=>∃(n:Str) (a b:Int),vs=[.str n,.int a,.int b]/\Q (.bl (lI n a b)) H
section
variable{P:me}{w:World}{K:ba}{mg:Str->Option Value}{base:Heap}{A:Adr}
theorem Kt (T:Txt w.params K mg A):aO P w K mg base CX0 1 A.Aw A.qu ["need","ayes","noes"] Qr:=by
 refine T.xK.ok Kh (λvs H Q E h=>?_) (λcdv A' outer s H vs Q E hr h=>?_)
 ·obtain⟨n,a,b,rfl,_⟩:=h;rfl
 ·obtain⟨n,a,b,rfl,q⟩:=h;refine⟨_,(ai (a7 (az vx (pv 1) (pv 2) (aL _))
 (aj (aG g9))
 aH)
 (aj (aG (aal (iX bt (pv 0) ao (aL _)) (Ew (iX Ul (pv 1) (a4 xq af (pv 2)) (aL _))))))),?_⟩
  refine⟨_,rfl,_,rfl,_,_,rfl,rfl,_,rfl,eR (λe=>?_) (λe=>?_)⟩
  ·have e':a<=b:=of_decide_eq_true e;rw[lI,if_pos e']at q;exact q
  ·have e':¬a<=b:=λz=>e (decide_eq_true z)
   rw[lI,if_neg e']at q;refine⟨_,rfl,rfl,_,rfl,eR (λe2=>?_) (λe2=>?_)⟩
   ·have h2:n=GV:=by injection of_decide_eq_true e2
    rw[decide_eq_true h2,Bool.true_or]at q;exact q
   ·have h2:¬n=GV:=λz=>e2 (decide_eq_true (by rw[z]))
    rw[decide_eq_false h2,Bool.false_or]at q;exact⟨_,rfl,_,rfl,_,_,rfl,rfl,.inl ⟨by decide,by decide⟩,_,_,rfl,rfl,q⟩
end
end My
set_option maxHeartbeats 1000000
namespace My
open PySem L2
seal PySem.wpAny
namespace R
abbrev bl1:Str:=ar " "
abbrev em:Str:=ar ""
theorem n8:bl1=⟨#[32]⟩:=by decide +kernel
theorem UB:em=⟨#[]⟩:=by decide +kernel
def Sign (c:Nat):Prop:=33<=c/\c<=126/\c≠37
instance:DecidablePred Sign:=λc=>by unfold Sign;exact inferInstance
structure n9 (x:Str):Prop where
 l1:1<=x.length
 l2:x.length<=20
 sgn:∀c∈x.cps.toList,Sign c
 ns:x≠ar "/"
def Asc (x:Str):Prop:=∀c∈x.cps.toList,c < 128
theorem Asc.ok {x:Str}(h:Asc x):alk x=true:=by
 unfold alk;rw[Array.all_eq_true];intro i hi;have:=h x.cps[i] (by simp)
 exact decide_eq_true (by omega)
theorem n9.asc {x:Str}(w:n9 x):Asc x:=λc hc=>by have:=w.sgn c hc;unfold Sign at this;omega
theorem pO {sep:Str}(hs:Asc sep):∀ws:List Str,(∀w∈ws,Asc w)->Asc (sr sep ws)
 |[],_=>λc hc=>by
  have:c∈([]:List Nat):=hc;cases this
 |[x],h=>h x fu
 |x::y::r,h=>λc hc=>by
  have hc':c∈((x++sep)++sr sep (y::r)).cps.toList:=hc;rw[eY,eY,List.mem_append,List.mem_append]at hc';rcases hc' with (h1 | h1) | h1
  ·exact h x fu c h1
  ·exact hs c h1
  ·exact pO hs (y::r) (λw hw=>h w (ky _ hw)) c h1
abbrev abl:List Str:=[ar "-",ar "put",ar "/a",ar "0",ar "off",ar "//",ar "matter",ar "a"]
theorem Qs {x:Str}(h:decide (1<=x.length/\x.length<=20/\(∀c∈x.cps.toList,Sign c)/\x≠ar "/")=true):n9 x:=by
 obtain⟨a,b,c,d⟩:=of_decide_eq_true h;exact⟨a,b,c,d⟩
theorem WX:∀x∈abl,n9 x:=by
 intro x hx;simp only[List.mem_cons,List.not_mem_nil,or_false]at hx;rcases hx with rfl | rfl | rfl | rfl | rfl | rfl | rfl | rfl <;> exact Qs (by decide +kernel)
structure Clause (n:Nat)(x:Str)(ws:List Str):Prop where
 eq:x=sr bl1 ws
 len:ws.length<=n
 wd:∀w∈ws,n9 w
theorem Clause.asc {n:Nat}{x:Str}{ws:List Str}(c:Clause n x ws):Asc x:=by
 rw[c.eq];exact pO (by rw[n8];intro d hd;have:d=32:=(by simpa using hd);omega) ws λw hw=>(c.wd w hw).asc
theorem D0 {ws:List Str}(h:∀w∈ws,n9 w):(ws.map (·.length)).sum<=ws.length * 20:=StrLaws.sumLen_le ws λw hw=>(h w hw).l2
theorem Clause.size {n:Nat}{x:Str}{ws:List Str}(c:Clause n x ws):x.length<=n * 21:=by
 rw[c.eq,n8];have h1:=tT 32 ws;have h2:=D0 c.wd;have h3:=c.len;omega
abbrev sl1:Str:=ar "/"
def num (i:Int):Str:=ar (toString i)
theorem Mz {i:Int}(h0:0<=i)(h1:i < 10 ^ 10):(num i).length<=10:=PyProof.Rows.toString_length_le h0 (by decide) h1
theorem MA {i:Int}(h0:0<=i)(h1:i < 10 ^ 10):i.natAbs.log2 < 1920:=by
 have h:i.natAbs < 2 ^ 34:=by
  have:(10:Int) ^ 10<=2 ^ 34:=by decide
  omega
 by_cases hz:i.natAbs=0
 ·rw[hz];decide
 ·exact Nat.lt_trans ((Nat.log2_lt hz).mpr h) (by decide)
def bh (z:Str):List Str:=if z=em then [] else PySem.Txt.split z bl1
theorem n9.free {x:Str}(w:n9 x):32∉x.cps.toList:=λz=>by have:=w.sgn _ z;unfold Sign at this;omega
theorem lU {ws:List Str}(h:∀w∈ws,n9 w):bh (sr bl1 ws)=ws:=by
 cases ws with
 |nil=>exact if_pos (by rw[UB];rfl)
 |cons x r =>
  have l:=CT (c:=32) (akH x r) λw hw=>(h w hw).l1
  have ne:¬sr bl1 (x::r)=em:=λe=>by
   rw[n8]at e;rw[e,UB]at l;exact absurd l (by decide)
  unfold bh;rw[if_neg ne,n8];exact J4 (akH x r) λw hw=>(h w hw).free
inductive eT where
 |mat (cs:List (List Str))
 |ed (m:Bool) (k:Nat) (i:Int) (ws:List Str)
 |pt (ws:List Str)
 |nums (kd:Str) (ns:List Int)
def kEd (m:Bool):Str:=if m then ar "mend" else ar "change"
def kn:Nat->Str
 | 0=>ar "put"
 | 1=>ar "cut"
 |_=>ar "turn"
def edR (k:Nat)(i:Int)(x:Str):List V:=if k=1 then [.str (kn 1),.int i] else [.str (kn k),.int i,.str x]
def je:List (Str×Nat):=[(ar "put off",1),(ar "vote",2),(ar "take",1),(ar "close",0),(ar "lay",0),(ar "rest",0),(ar "drop",0)]
structure B5 (n:Nat)(ws:List Str):Prop where
 len:ws.length<=n
 wd:∀w∈ws,n9 w
def DOk:eT->Prop
 | .mat cs=>cs.length<=12/\∀ws∈cs,B5 12 ws
 | .ed m k i ws=>(k=0\/k=1\/k=2)/\(0<=i/\i < 10 ^ 10)/\B5 12 ws/\(m=true->ws.length=1)
 | .pt ws=>B5 12 ws
 | .nums kd ns=>(kd,ns.length)∈je/\∀i∈ns,0<=i/\i < 10 ^ 10
def sF (K:ba)(H:Hp):eT->Addr->Prop
 | .mat cs,t=>∃L,SqT K H t [.str (ar "matter"),.ref L]/\SqL K H L ((cs.map (sr bl1)).map V.str)
 | .ed m k i ws,t=>∃e,SqT K H t [.str (kEd m),.ref e]/\SqT K H e (edR k i (sr bl1 ws))
 | .pt ws,t=>SqT K H t [.str (ar "point"),.str (sr bl1 ws)]
 | .nums kd ns,t=>SqT K H t (.str kd::ns.map V.int)
theorem sF.same {K:ba}{H H':Hp}(s:bu H H'):∀ {d:eT} {t:Addr},sF K H d t->sF K H' d t
 | .mat _,_,⟨L,a,b⟩=>⟨L,bM s a,s.seq b⟩
 | .ed _ _ _ _,_,⟨e,a,b⟩=>⟨e,bM s a,bM s b⟩
 | .pt _,_,a=>bM s a
 | .nums _ _,_,a=>bM s a
def B6:eT->Str
 | .mat _=>ar "matter"
 | .ed m _ _ _=>kEd m
 | .pt _=>ar "point"
 | .nums kd _=>kd
def jf:eT->List Str
 | .mat cs=>cs.flatMap λws=>sl1::ws
 | .ed _ k i ws=>kn k::num i::(if k=1 then [] else ws)
 | .pt ws=>ws
 | .nums _ ns=>ns.map num
def sG (d:eT):Str:=sr bl1 (B6 d::jf d)
theorem WY (k:Nat):(kn k).length<=4:=by
 unfold kn;split <;> decide +kernel
theorem S2 (m:Bool):(kEd m).length<=6:=by cases m <;> decide +kernel
theorem kd_len {kd:Str}{n:Nat}(h:(kd,n)∈je):kd.length<=7/\n<=2:=by
 simp only[je,List.mem_cons,List.not_mem_nil,or_false,Prod.mk.injEq]at h;rcases h with ⟨rfl,rfl⟩ | ⟨rfl,rfl⟩ | ⟨rfl,rfl⟩ | ⟨rfl,rfl⟩ | ⟨rfl,rfl⟩ | ⟨rfl,rfl⟩ | ⟨rfl,rfl⟩ <;> decide +kernel
theorem D1 {d:eT}(o:DOk d):(jf d).length<=200/\(∀w∈jf d,w.length<=20)/\(B6 d).length<=20:=by
 cases d with
 |mat cs =>
  obtain⟨o1,o2⟩:=o;refine⟨?_,λw hw=>?_,by show (ar "matter").length<=20;decide +kernel⟩
  ·show (cs.flatMap λws=>sl1::ws).length<=200
   have:∀l:List (List Str),(∀ws∈l,B5 12 ws)->(l.flatMap λws=>sl1::ws).length<=l.length * 13:=λl=>by
    induction l with
    |nil=>intro _;exact km _
    |cons x l ih =>
     intro h;have h1:=(h x fu).len;have h2:=ih λw hw=>h w (ky _ hw)
     rw[alS,gn,akp,akp];omega
   have:=this cs o2;omega
  ·obtain⟨ws,h1,h2⟩:=List.mem_flatMap.mp hw;rcases List.mem_cons.mp h2 with rfl | h2
   ·decide +kernel
   ·exact((o2 ws h1).wd w h2).l2
 |ed m k i ws =>
  obtain⟨o1,⟨i0,i1⟩,o3,_⟩:=o;have l:=o3.len;refine⟨?_,λw hw=>?_,?_⟩
  ·show (kn k::num i::(if k=1 then [] else ws)).length<=200
   split <;> simp <;> omega
  ·have hw':w∈kn k::num i::(if k=1 then [] else ws):=hw
   rcases List.mem_cons.mp hw' with rfl | hw'
   ·have:=WY k;omega
   ·rcases List.mem_cons.mp hw' with rfl | hw'
    ·have:=Mz i0 i1;omega
    ·split at hw'
     ·cases hw'
     ·exact(o3.wd w hw').l2
  ·have:=S2 m;show (kEd m).length<=20;omega
 |pt ws=>exact⟨by have:=o.len;show ws.length<=200;omega,λw hw=>(o.wd w hw).l2,by show (ar "point").length<=20;decide +kernel⟩
 |nums kd ns =>
  obtain⟨o1,o2⟩:=o;have:=kd_len o1;refine⟨by show (ns.map num).length<=200;rw[bo];omega,λw hw=>?_,by show kd.length<=20;omega⟩
  obtain⟨i,hi,rfl⟩:=List.mem_map.mp hw;have:=Mz (o2 i hi).1 (o2 i hi).2;omega
def fY:Sp:=λvs H Q _=>∃z,vs=[.str z]/\z.length+2<=kf/\∀p,H p=none->Q (.ref p) (upd H p (.lst ((bh z).map V.str)))
def uT (K:ba):Sp:=λvs H Q _=>∃a ws,vs=[.ref a]/\SqL K H a (ws.map V.str)/\(ws.map (·.length)).sum+ws.length<=16777216/\Q (.str (sr bl1 ws)) H
def Qt (K:ba):Sp:=λvs H Q _=>∃(L:Addr) (cs:List (List Str)),vs=[.ref L]/\SqL K H L ((cs.map (sr bl1)).map V.str)/\DOk (.mat cs)/\∀p H',bu H H'->H p=none->H' p=some (.lst ((jf (.mat cs)).map V.str))->Q (.ref p) H'
def MB (K:ba):Sp:=λvs H Q _=>∃(t:Addr) (m:Bool) (k:Nat) (i:Int) (ws:List Str),vs=[.ref t]/\SqT K H t (edR k i (sr bl1 ws))/\DOk (.ed m k i ws)/\∀p H',bu H H'->H p=none->H' p=some (.lst ((jf (.ed m k i ws)).map V.str))->Q (.ref p) H'
def GW (K:ba):Sp:=λvs H Q _=>∃(t:Addr) (d:eT),vs=[.ref t]/\sF K H d t/\DOk d/\∀p H',bu H H'->H p=none->H' p=some (.lst ((jf d).map V.str))->Q (.ref p) H'
def Fs (K:ba):Sp:=λvs H Q _=>∃(t:Addr) (d:eT),vs=[.ref t]/\sF K H d t/\DOk d/\∀H',bu H H'->Q (.str (sG d)) H'
theorem uR {k:Nat}(h:k=0\/k=1\/k=2):(V.str (kn k)=V.str (ar "cut"))↔k=1:=by
 rcases h with rfl | rfl | rfl <;> decide +kernel
theorem MC (k:Nat)(i:Int)(x:Str):atI (edR k i x) 0=some (.str (kn k)):=by
 unfold edR;split
 ·rename_i h;rw[h];rfl
 ·rfl
theorem S3 (k:Nat)(i:Int)(x:Str):atI (edR k i x) 1=some (.int i):=by
 unfold edR;split <;> rfl
theorem S4 {k:Nat}(h:k≠1)(i:Int)(x:Str):atI (edR k i x) 2=some (.str x):=by
 unfold edR;rw[if_neg h];rfl
theorem uU {ws:List Str}(o:B5 12 ws):(sr bl1 ws).length<=300:=by
 have h1:=tT 32 ws;have h2:=D0 o.wd;have h3:=o.len;rw[n8];omega
theorem abm {kd:Str}{n:Nat}(h:(kd,n)∈je):V.str kd≠V.str (ar "matter")/\V.str kd≠V.str (ar "change")/\V.str kd≠V.str (ar "mend")/\V.str kd≠V.str (ar "point"):=by
 simp only[je,List.mem_cons,List.not_mem_nil,or_false,Prod.mk.injEq]at h;rcases h with ⟨rfl,rfl⟩ | ⟨rfl,rfl⟩ | ⟨rfl,rfl⟩ | ⟨rfl,rfl⟩ | ⟨rfl,rfl⟩ | ⟨rfl,rfl⟩ | ⟨rfl,rfl⟩ <;> decide +kernel
section
variable{K:ba}
theorem sF.at0 {H:Hp}{d:eT}{t:Addr}(h:sF K H d t):∃xs,SqT K H t xs/\atI xs 0=some (.str (B6 d)):=by
 cases d with
 |mat cs=>obtain⟨L,a,b⟩:=h;exact⟨_,a,rfl⟩
 |ed m k i ws=>obtain⟨e,a,b⟩:=h;exact⟨_,a,rfl⟩
 |pt ws=>exact⟨_,h,rfl⟩
 |nums kd ns=>exact⟨_,h,dD (j:=0) rfl⟩
end
section
variable{P:me}{w:World}{K:ba}{mg:Str->Option Value}{base:Heap}{A:Adr}
theorem wB (T:Txt w.params K mg A):aO P w K mg base CX0 1 A.pE A.i3 ["words"] (uT K):=by
 refine T.nI.ok EY (λvs H Q E h=>?_) (λcdv A' outer s H vs Q E hr h=>?_)
 ·obtain⟨a,ws,rfl,_⟩:=h;rfl
 ·obtain⟨a,ws,rfl,hq,hz,k⟩:=h;refine⟨_,(aj (aG (hG alJ PySem.F.slot_str_join PySem.F.type_str_join EF ao (aa (pv 0) ah)))),?_⟩;exact⟨rfl,_,rfl,bl1,a,ws,rfl,rfl,hq,by rw[n8];show _+ws.length * 1<=_;omega,k⟩
end
section
variable{P:me}{w:World}{K:ba}{mg:Str->Option Value}{base:Heap}{A:Adr}
theorem kS (T:Txt w.params K mg A):aO P w K mg base CX0 1 A.words_of A.eV ["clause"] fY:=by
 refine T.iD.ok Gv (λvs H Q E h=>?_) (λcdv A' outer s H vs Q E hr h=>?_)
 ·obtain⟨z,rfl,_⟩:=h;rfl
 ·obtain⟨z,rfl,hz,k⟩:=h;refine⟨_,(ai (a7 (az bt (pv 0) ao (aL _))
 (aj (aG (bI ah)))
 aH)
 (aj (aG (hG alJ PySem.F.slot_str_split PySem.F.type_str_split Gb (pv 0) (aa ao ah))))),?_⟩
  refine⟨_,rfl,rfl,_,rfl,eR (λe=>?_) (λe=>?_)⟩
  ·have e':z=em:=by injection of_decide_eq_true e
   refine⟨ak6 _,λp hp=>?_⟩
   have:=k p hp;rw[bh,if_pos e']at this;exact this
  ·have e':¬z=em:=λq=>e (decide_eq_true (by rw[q]))
   refine⟨_,rfl,rfl,z,bl1,rfl,rfl,by rw[n8];rfl,hz,λp hp=>?_⟩
   have:=k p hp;rw[bh,if_neg e']at this;exact this
theorem xV (T:Txt w.params K mg A):aO P w K mg base CX0 2 A.j9 A.gX ["text"] (Qt K):=by
 have fm:aO P w K mg base CX0 1 A.words_of A.eV ["clause"] fY:=kS T;refine T.lx.ok jB (λvs H Q E h=>?_) (λcdv A' outer s H vs Q E hr h=>?_)
 ·obtain⟨L,cs,rfl,_⟩:=h;rfl
 ·obtain⟨L,cs,rfl,hL,o,k⟩:=h;have d7:=hr;refine⟨_,(ai (a6 (i:=1) jB.nd rfl (Lk rfl) (bI ah))
 (ai (AO PassesOwn.never rfl (qp (pv 0)) (ei (i:=2) jB.nd rfl (Lk rfl))
 (ai (bL (hG rf akB akC cU (pv 1) (aa ao ah)))
 (aj (bL (hG rf PySem.F.slot_list_extend PySem.F.type_list_extend Du (pv 1) (aa (aW fm d7 rfl T.jI T.iD.kp T.jH .nil aZ (aa (pv 2) ah)) ah))))))
 (aj (aG (pv 1))))),?_⟩
  have lim:kf=16777216:=by decide
  refine⟨ak6 _,λW hW=>?_⟩
  refine⟨_,rfl,L,rfl,⟨_,(aB hW).seq hL⟩,?_⟩;refine AQ (K:=K) (a:=L) (xs:=(cs.map (sr bl1)).map V.str) (λi σ H2=>∃v2:Option V,σ=[some (.ref L),some (.ref W),v2]/\bu H H2/\H2 W=some (.lst ((jf (.mat (cs.take i))).map V.str)))
   ⟨_,rfl,aB hW,ae⟩ (λi σ H2 _ ⟨_,_,s2,_⟩=>s2.seq hL) ?_ ?_
  ·rintro i y σ H2 hi ⟨v2,rfl,s2,h2⟩;rw[akK,akK]at hi;cases hc:cs[i]? with
   |none=>rw[hc]at hi;cases hi
   |some ws =>
    rw[hc]at hi;obtain rfl:V.str (sr bl1 ws)=y:=akx hi;have ow:=o.2 ws (akM hc);have hcl:=uU ow;have hil:i < cs.length:=(List.getElem?_eq_some_iff.mp hc).1;have hb:(jf (.mat (cs.take i))).length<=200:=(D1 (d:=.mat (cs.take i)) ⟨by rw[akX];have:=o.1;omega,λws hw=>o.2 ws (List.mem_of_mem_take hw)⟩).1
    refine⟨_,rfl,.inl ⟨rfl,_,SqL.of h2⟩,W,_,_,rfl,rfl,h2,(by rw[bo];omega),?_⟩
    refine⟨_,rfl,.inl ⟨rfl,_,SqL.of ae⟩,_,rfl,_,rfl,by omega,λp hp=>?_⟩
    rw[lU ow.wd];have nWp:W≠p:=aJ ae hp;have wl:=ow.len;refine⟨W,p,_,_,rfl,rfl,(aw nWp).trans ae,ae,(by rw[gn,bo,bo];show _+1+_<=_;omega),?_⟩
    refine⟨_,rfl,((s2.own hW).new hp).own hW,?_⟩;rw[ae,alQ,hc];show some (HO.lst _)=some (HO.lst (((cs.take i++[ws]).flatMap λws=>sl1::ws).map V.str))
    rw[alG];simp[jf]
  ·rintro σ H2 ⟨v2,rfl,s2,h2⟩;rw[bo,bo,alr]at h2;exact⟨_,rfl,k W H2 s2 hW h2⟩
theorem xW (T:Txt w.params K mg A):aO P w K mg base CX0 2 A.kh A.gY ["edit"] (MB K):=by
 have fm:aO P w K mg base CX0 1 A.words_of A.eV ["clause"] fY:=kS T;refine T.ly.ok o9 (λvs H Q E h=>?_) (λcdv A' outer s H vs Q E hr h=>?_)
 ·obtain⟨t,m,k,i,ws,rfl,_⟩:=h;rfl
 ·obtain⟨t,m,k,i,ws,rfl,ht,⟨o1,⟨i0,i1⟩,o3,_⟩,q⟩:=h;have d7:=hr;refine⟨_,(ai (a6 (i:=1) o9.nd rfl (Lk rfl) (bI (aa (aK aN (pv 0) af (λ_ _=>rfl)) (aa (dO vy (by rfl) T.P9 O7 (aa (aK aN (pv 0) af (λ_ _=>rfl)) ah)) ah))))
 (ai (a7 (az AR (aK aN (pv 0) af (λ_ _=>rfl)) ao (aL _))
 (aj (bL (hG rf PySem.F.slot_list_extend PySem.F.type_list_extend Du (pv 1) (aa (aW fm d7 rfl T.jI T.iD.kp T.jH .nil aZ (aa (aK aN (pv 0) af (λ_ _=>rfl)) ah)) ah))))
 aH)
 (aj (aG (pv 1))))),?_⟩
  have lim:kf=16777216:=by decide
  refine ixv rfl ht (MC k i _) (ixv rfl ht (S3 k i _) ⟨_,rfl,MA i0 i1,(sl 2),λW hW=>?_⟩)
  have s1:bu H (upd H W (.lst [V.str (kn k),V.str (num i)])):=aB hW;have hcl:=uU o3;refine ixv rfl (bM s1 ht) (MC k i _) ⟨rfl,_,rfl,?_⟩
  by_cases hk:k=1
  ·rw[decide_eq_true ((uR o1).mpr hk)];refine bS ⟨_,rfl,q W _ s1 hW ?_⟩;show (upd H W (.lst [V.str (kn k),V.str (num i)])) W=some (.lst ((kn k::num i::(if k=1 then [] else ws)).map V.str))
   rw[ae,if_pos hk];rfl
  ·rw[decide_eq_false λz=>hk ((uR o1).mp z)]
   refine dJ ⟨_,rfl,.inl ⟨rfl,_,SqL.of ae⟩,ixv rfl (bM s1 ht) (S4 hk i _) ⟨_,rfl,by omega,λp hp=>?_⟩⟩
   rw[lU o3.wd];have nWp:W≠p:=aJ ae hp;have wl:=o3.len;refine⟨W,p,_,_,rfl,rfl,(aw nWp).trans ae,ae,(by rw[bo];show 2+_<=_;omega),_,rfl,q W _ ((s1.new hp).own hW) hW ?_⟩
   show (upd (upd (upd H W (.lst [V.str (kn k),V.str (num i)])) p (.lst (ws.map V.str))) W (.lst ([V.str (kn k),V.str (num i)]++ws.map V.str))) W=some (.lst ((kn k::num i::(if k=1 then [] else ws)).map V.str))
   rw[ae,if_neg hk];rfl
theorem zd (T:Txt w.params K mg A):aO P w K mg base CX0 3 A.lN A.iq ["deed"] (GW K):=by
 have fm:aO P w K mg base CX0 2 A.words_of A.eV ["clause"] fY:=(kS T).mono (by decide)
 have ze:aO P w K mg base CX0 2 A.j9 A.gX ["text"] (Qt K):=xV T;have zf:aO P w K mg base CX0 2 A.kh A.gY ["edit"] (MB K):=xW T;refine T.mH.ok qU (λvs H Q E h=>?_) (λcdv A' outer s H vs Q E hr h=>?_)
 ·obtain⟨t,d,rfl,_⟩:=h;rfl
 ·obtain⟨t,d,rfl,hd,o,q⟩:=h;have d7:=hr;have xX:=hr;have xY:=hr;refine⟨_,(ai (a6 (i:=1) qU.nd rfl (Lk rfl) (aK aN (pv 0) af (λ_ _=>rfl)))
 (ai (a7 (az bt (pv 1) ao (aL _))
 (aj (aG (aW ze xX rfl T.qZ T.lx.kp T.qY .nil aZ (aa (aK aN (pv 0) af (λ_ _=>rfl)) ah))))
 aH)
 (ai (a7 (PW.pt (pw_or (az bt (pv 1) ao (aL _)) (pw_or1 (az bt (pv 1) ao (aL _)))))
 (aj (aG (aW zf xY rfl T.q8 T.ly.kp T.q5 .nil aZ (aa (aK aN (pv 0) af (λ_ _=>rfl)) ah))))
 aH)
 (ai (a7 (az bt (pv 1) ao (aL _))
 (aj (aG (aW fm d7 rfl T.jI T.iD.kp T.jH .nil aZ (aa (aK aN (pv 0) af (λ_ _=>rfl)) ah))))
 aH)
 (aj (aG (An (scope:=mx) vM rfl (VY (mq V7 (pv 0) (nA af) tP)) (λ_ _ _ _ _=>(dO vy (by rfl) T.P9 O7 (aa (pv 0) ah)))))))))),?_⟩
  have lim:kf=16777216:=by decide
  cases d with
  |mat cs =>
   refine hide λGg hGg=>?_
   obtain⟨L,ht,hL⟩:=hd;refine hGg ?_;refine ixv rfl ht rfl ?_;refine⟨_,rfl,rfl,tst (decide_eq_true rfl) ?_⟩;exact ixv rfl ht rfl ⟨L,cs,rfl,hL,o,q⟩
  |ed m k i ws =>
   refine hide λGg hGg=>?_
   obtain⟨e,ht,he⟩:=hd;refine hGg ?_;refine ixv rfl ht rfl ?_;refine⟨_,rfl,rfl,tsf (decide_eq_false (by cases m <;> decide +kernel)) ?_⟩
   cases m with
   |false =>
    refine⟨_,rfl,rfl,tst (decide_eq_true rfl) ?_⟩;exact ixv rfl ht rfl ⟨e,false,k,i,ws,rfl,he,o,q⟩
   |true =>
    refine⟨_,rfl,rfl,tsf (decide_eq_false (by decide +kernel)) ?_⟩
    refine⟨_,rfl,rfl,tst (decide_eq_true rfl) ?_⟩;exact ixv rfl ht rfl ⟨e,true,k,i,ws,rfl,he,o,q⟩
  |pt ws =>
   have ht:=hd;refine ixv rfl ht rfl ?_;refine⟨_,rfl,rfl,tsf (decide_eq_false (by decide +kernel)) ?_⟩
   refine⟨_,rfl,rfl,tsf (decide_eq_false (by decide +kernel)) ?_⟩
   refine⟨_,rfl,rfl,tsf (decide_eq_false (by decide +kernel)) ?_⟩
   refine⟨_,rfl,rfl,tst (decide_eq_true rfl) ?_⟩;have hcl:=uU o;refine ixv rfl ht rfl ⟨_,rfl,by omega,λp hp=>q p _ (aB hp) hp ?_⟩
   rw[ae,lU o.wd];rfl
  |nums kd ns =>
   refine hide λGg hGg=>?_
   have ht:=hd;obtain⟨o1,o2⟩:=o;obtain⟨n1,n2,n3,n4⟩:=abm o1;have kl:=(kd_len o1).2;refine hGg ?_;refine ixv rfl ht (dD (j:=0) rfl) ?_;refine⟨_,rfl,rfl,tsf (decide_eq_false n1) ?_⟩;refine⟨_,rfl,rfl,tsf (decide_eq_false n2) ?_⟩;refine⟨_,rfl,rfl,tsf (decide_eq_false n3) ?_⟩;refine⟨_,rfl,rfl,tsf (decide_eq_false n4) ?_⟩;refine⟨_,rfl,_,rfl,t,_,rfl,ht,λz=>?_,λp hp=>?_⟩
   ·have z1:=z.1;rw[show (1:Int)=((1:Nat):Int) from rfl,HT.tO,akp]at z1
    omega
   ·rw[show (1:Int)=((1:Nat):Int) from rfl,A0]
    show _;have hs1:bu H (upd H p (.tup (ns.map V.int))):=aB hp;have hpp:(upd H p (.tup (ns.map V.int))) p=some (.tup (ns.map V.int)):=ae;refine⟨p,rfl,⟨_,SqT.of hpp⟩,λD hD=>?_⟩
    have npD:p≠D:=aJ hpp hD;refine Po (K:=K) (a:=p) (xs:=ns.map V.int) (λi ys H3=>ys=(ns.take i).map (λn=>V.str (num n))/\H3=upd (upd H p (.tup (ns.map V.int))) D (.lst ys)) ⟨rfl,rfl⟩ (by rw[bo];omega) ?_ ?_ ?_
    ·rintro i ys H3 hi ⟨rfl,rfl⟩;rw[bo]at hi;exact⟨SqT.of ((aw npD).trans hpp),ae,by rw[bo,akX];omega⟩
    ·rintro i y ys H3 hi ⟨rfl,rfl⟩;rw[akK]at hi;cases hc:ns[i]? with
     |none=>rw[hc]at hi;cases hi
     |some n =>
      refine hide λGg hGg=>?_
      rw[hc]at hi;obtain rfl:V.int n=y:=akx hi;obtain⟨b0,b1⟩:=o2 n (akM hc);refine hGg ?_;refine⟨_,rfl,_,rfl,MA b0 b1,?_⟩;refine eB.mk (by rw[bo];exact(List.getElem?_eq_some_iff.mp hc).1) ae ⟨?_,by rw[nz]⟩
      rw[alQ,hc,ku];rfl
    ·rintro ys H3 ⟨rfl,rfl⟩;rw[bo,alr];refine q D _ (hs1.new hD) (hs1.free hD) ?_;rw[ae];show some (HO.lst _)=some (HO.lst ((ns.map num).map V.str));rw[alK];rfl
theorem qK (T:Txt w.params K mg A):aO P w K mg base CX0 4 A.mf A.gZ ["deed"] (Fs K):=by
 have sH:aO P w K mg base CX0 3 A.pE A.i3 ["words"] (uT K):=(wB T).mono (by decide)
 have B7:aO P w K mg base CX0 3 A.lN A.iq ["deed"] (GW K):=zd T;refine T.kP.ok EZ (λvs H Q E h=>?_) (λcdv A' outer s H vs Q E hr h=>?_)
 ·obtain⟨t,d,rfl,_⟩:=h;rfl
 ·obtain⟨t,d,rfl,hd,o,q⟩:=h;have qL:=hr;have zg:=hr;refine⟨_,(aj (aG (aW sH qL rfl T.r9 T.nI.kp T.r8 .nil aZ (aa (a4 tS (bI (aa (aK aN (pv 0) af (λ_ _=>rfl)) ah)) (aW B7 zg rfl T.sg T.mH.kp T.sf .nil aZ (aa (pv 0) ah))) ah)))),?_⟩
  refine hide λGg hGg=>?_
  have lim:kf=16777216:=by decide
  obtain⟨b1,b2,b3⟩:=D1 o;obtain⟨xs,hx,hx0⟩:=hd.at0;refine hGg ?_;refine ixv rfl hx hx0 ⟨(sl 1),λp hp=>?_⟩
  refine⟨_,rfl,t,d,rfl,hd.same (aB hp),o,λp2 H2 s2 hn2 h2=>?_⟩
  have hp2:H2 p=some (.lst [V.str (B6 d)]):=s2 _ _ ae;refine⟨p,p2,_,_,rfl,rfl,hp2,h2,(by rw[bo];show 1+_<=_;omega),λp3 hp3=>?_⟩
  refine⟨p3,B6 d::jf d,rfl,SqL.of (by rw[ae];rfl),?_,q _ (((aB hp).trans s2).new hp3)⟩
  have:=StrLaws.sumLen_le (B:=20) (B6 d::jf d) (λw hw=>by
   rcases List.mem_cons.mp hw with rfl | hw
   ·exact b3
   ·exact b2 w hw)
  rw[akp]at this ⊢;omega
end
end R
end My
set_option maxHeartbeats 1000000
namespace My
open PySem L2
seal PySem.wpAny
inductive Rl where
 |ob | made | aq | ay | decided | firsts | kept | rows
 |eN (n:Nat) | gG (n:Nat) | cM (n:Nat)
abbrev Col:=Addr->Option (Nat×Rl)
def dG (i:Nat)(x:Option (Nat×Rl)):Prop:=∃r,x=some (i,r)
theorem B8 {i j:Nat}(n:i≠j)(r:Rl):¬dG j (some (i,r)):=λ⟨_,e⟩=>by cases e;exact n rfl
theorem aU {i:Nat}:¬dG i none:=λ⟨_,e⟩=>by cases e
structure Step (W:Option (Nat×Rl)->Prop)(c c':Col)(H H':Hp):Prop where
 nn:¬W none
 keep:∀a v,H a=some v->¬W (c a)->H' a=some v
 there:∀a v,H a=some v->∃v',H' a=some v'
 col:∀a v,H a=some v->¬W (c a)->c' a=c a
section
variable{W W':Option (Nat×Rl)->Prop}{c c1 c2:Col}{H H' H1 H2:Hp}{a:Addr}{o:HO}
theorem Step.refl (n:¬W none):Step W c c H H:=⟨n,λ_ _ h _=>h,λ_ v h=>⟨v,h⟩,λ_ _ _ _=>rfl⟩
theorem Step.same (n:¬W none)(s:bu H H'):Step W c c H H':=⟨n,λa v h _=>s a v h,λa v h=>⟨v,s a v h⟩,λ_ _ _ _=>rfl⟩
theorem Step.mono (f:∀x,W x->W' x)(n:¬W' none)(s:Step W c c1 H H1):Step W' c c1 H H1 where
 nn:=n
 keep:=λa v h m=>s.keep a v h λz=>m (f _ z)
 there:=s.there
 col:=λa v h m=>s.col a v h λz=>m (f _ z)
theorem Step.trans (x:Step W c c1 H H1)(y:Step W c1 c2 H1 H2):Step W c c2 H H2 where
 nn:=x.nn
 keep:=λa v h n=>y.keep a v (x.keep a v h n) (by rw[x.col a v h n];exact n)
 there:=λa v h=>let ⟨v1,h1⟩:=x.there a v h;y.there a v1 h1
 col:=λa v h n=>(y.col a v (x.keep a v h n) (by rw[x.col a v h n];exact n)).trans (x.col a v h n)
theorem Step.upd (n:¬W none)(m:W (c a)):Step W c c H (L2.upd H a o) where
 nn:=n
 keep:=λb v h n=>by rw[aw (λz=>n (by rw[z];exact m))];exact h
 there:=λb v h=>by
  by_cases z:b=a
  ·rw[z];exact⟨o,ae⟩
  ·exact⟨v,by rw[aw z];exact h⟩
 col:=λ_ _ _ _=>rfl
def aC (c:Col)(a:Addr)(x:Option (Nat×Rl)):Col:=λb=>if b=a then x else c b
theorem aV {x:Option (Nat×Rl)}:aC c a x a=x:=if_pos rfl
theorem av {b:Addr}{x:Option (Nat×Rl)}(h:b≠a):aC c a x b=c b:=if_neg h
theorem Step.new {x:Option (Nat×Rl)}(n:¬W none)(h:H a=none):Step W c (aC c a x) H (L2.upd H a o) where
 nn:=n
 keep:=λb v e _=>aB h b v e
 there:=λb v e=>⟨v,aB h b v e⟩
 col:=λb v e _=>av (λz=>by rw[z,h]at e;cases e)
theorem Step.role {x:Option (Nat×Rl)}(n:¬W none)(m:W (c a)):Step W c (aC c a x) H H where
 nn:=n
 keep:=λ_ _ h _=>h
 there:=λ_ v h=>⟨v,h⟩
 col:=λb _ _ n=>av (λz=>n (by rw[z];exact m))
def cc (c:Col)(H:Hp):Col:=λa=>if (H a).isSome then c a else none
theorem bY (h:H a=none):cc c H a=none:=by unfold cc;rw[h];rfl
theorem WZ {v:HO}(h:H a=some v):cc c H a=c a:=by unfold cc;rw[h];rfl
theorem Step.cl (n:¬W none)(s:bu H H'):Step W c (cc c H) H H':=⟨n,λa v h _=>s a v h,λa v h=>⟨v,s a v h⟩,λ_ _ h _=>WZ h⟩
end
def Wr (i:Nat)(p:Rl->Bool)(x:Option (Nat×Rl)):Prop:=∃r,x=some (i,r)/\p r=true
section
variable{i:Nat}{p:Rl->Bool}{r:Rl}{c c':Col}{H H':Hp}{a:Addr}
theorem Wr.nn:¬Wr i p none:=λ⟨_,e,_⟩=>nomatch e
theorem Wr.no (h:p r=false):¬Wr i p (some (i,r)):=λ⟨_,e,z⟩=>by cases e;rw[h]at z;cases z
theorem Wr.yes (e:c a=some (i,r))(h:p r=true):Wr i p (c a):=⟨r,e,h⟩
theorem Step.ie (s:Step (Wr i p) c c' H H'):Step (dG i) c c' H H':=s.mono (λ_ ⟨r,e,_⟩=>⟨r,e⟩) aU
theorem mO {o:Addr}{v:HO}(h:p .ob=false)(s:Step (Wr i p) c c' H H')(h1:c o=some (i,.ob))(h2:H o=some v):c' o=some (i,.ob)/\H' o=some v:=by
 have hn:¬Wr i p (c o):=by rw[h1];exact Wr.no h
 exact⟨by rw[s.col o _ h2 hn];exact h1,s.keep _ _ h2 hn⟩
end
inductive Mn where
 |mat (tx:List Str) | chg (e:Ed) | mnd (e:Ed) | off (n:Int) | cls | lay | rst | pnt (z:Str)
def Mn.k:Mn->Nat
 | .mat _=>0 | .chg _=>1 | .mnd _=>2 | .off _=>3 | .cls=>4 | .lay=>5 | .rst=>6 | .pnt _=>7
theorem Mn.k8 (m:Mn):m.k < 8:=by cases m <;> simp only[Mn.k] <;> omega
def TupAt (c:Col)(H:Hp)(t:Addr)(xs:List V):Prop:=c t=none/\Rd H t (.tup xs)
theorem TupAt.sq {K:ba}{c:Col}{H:Hp}{t:Addr}{xs:List V}(h:TupAt c H t xs):SqT K H t xs:=.inl h.2
theorem TupAt.step {W:Option (Nat×Rl)->Prop}{c c':Col}{H H':Hp}{t:Addr}{xs:List V}(s:Step W c c' H H')(h:TupAt c H t xs):TupAt c' H' t xs:=by
 obtain⟨n,h⟩:=h;have hn:¬W (c t):=by rw[n];exact s.nn
 rcases h with h | ⟨o,h⟩
 ·exact⟨by rw[s.col t _ h hn];exact n,.inl (s.keep _ _ h hn)⟩
 ·exact⟨by rw[s.col t _ h hn];exact n,.inr ⟨o,s.keep _ _ h hn⟩⟩
def MD (c:Col)(H:Hp)(p:Addr)(tx:List Str):Prop:=c p=none/\H p=some (.lst (tx.map V.str))
theorem MD.step {W:Option (Nat×Rl)->Prop}{c c':Col}{H H':Hp}{p:Addr}{tx:List Str}(s:Step W c c' H H')(h:MD c H p tx):MD c' H' p tx :=
 have hn:¬W (c p):=by rw[h.1];exact s.nn
 ⟨by rw[s.col p _ h.2 hn];exact h.1,s.keep _ _ h.2 hn⟩
def Mn.Val (c:Col)(H:Hp):Mn->V->Prop
 | .mat tx,v=>∃p,v=.ref p/\MD c H p tx
 | .chg e,v=>∃t,v=.ref t/\TupAt c H t (gg e)
 | .mnd e,v=>∃t,v=.ref t/\TupAt c H t (gg e)
 | .off n,v=>v=.int n
 | .pnt z,v=>v=.str z
 |_,_=>True
theorem Mn.Val.step {W:Option (Nat×Rl)->Prop}{c c':Col}{H H':Hp}(s:Step W c c' H H'):∀ {m:Mn} {v:V},m.Val c H v->m.Val c' H' v
 | .mat _,_,⟨p,e,h⟩=>⟨p,e,h.step s⟩
 | .chg _,_,⟨t,e,h⟩=>⟨t,e,h.step s⟩
 | .mnd _,_,⟨t,e,h⟩=>⟨t,e,h.step s⟩
 | .off _,_,h=>h
 | .pnt _,_,h=>h
 | .cls,_,_=>trivial
 | .lay,_,_=>trivial
 | .rst,_,_=>trivial
def mP (A:Adr)(c:Col)(H:Hp)(m:Mn)(o:Addr):Prop:=c o=none/\∃dx v,H o=some (.ins (A.C m.k) dx (pP m.k v))/\m.Val c H v
theorem mP.step {A:Adr}{W:Option (Nat×Rl)->Prop}{c c':Col}{H H':Hp}{m:Mn}{o:Addr}(s:Step W c c' H H')(h:mP A c H m o):mP A c' H' m o:=by
 obtain⟨n,dx,v,h,hv⟩:=h;have hn:¬W (c o):=by rw[n];exact s.nn
 exact⟨by rw[s.col o _ h hn];exact n,dx,v,s.keep _ _ h hn,hv.step s⟩
structure Ch where
 cC:Int
 aI:Int
 closed:Bool
 made:List Mn
 aq:List Nat
 ay:List (Nat×Int×List Nat)
 decided:List (Nat×Str)
 firsts:List (Nat×List Str)
 kept:List (Nat×List Ed)
 rows:List Str
def nV (n:Nat):V:=.int (n:Int)
def a8 (xs:List (Nat×V)):List (Key×V):=xs.map λp=>(kq (p.1:Int),p.2)
inductive bD {α β:Type}(R:α->β->Prop):List α->List β->Prop
 |nil:bD R [] []
 |cons {a b as bs}:R a b->bD R as bs->bD R (a::as) (b::bs)
theorem bD.imp {α β:Type}{R R':α->β->Prop}(f:∀a b,R a b->R' a b):∀ {as:List α} {bs:List β},bD R as bs->bD R' as bs
 |_,_,.nil=>.nil
 |_,_,.cons h t=>.cons (f _ _ h) (t.imp f)
def LstAt (i:Nat)(c:Col)(H:Hp)(r:Rl)(a:Addr)(xs:List V):Prop:=c a=some (i,r)/\H a=some (.lst xs)
def jt (i:Nat)(c:Col)(H:Hp)(r:Rl)(a:Addr)(xs:List (Nat×V)):Prop:=c a=some (i,r)/\H a=some (.dK (a8 xs))
def chF (v0 v1 v2 v3 v4 v5 v6 v7 v8 v9:V):List (Str×V):=[(ar "seats",v0),(ar "sitting",v1),(ar "closed",v2),(ar "made",v3),(ar "pile",v4),(ar "aside",v5),(ar "decided",v6),(ar "first_texts",v7),(ar "edits_kept",v8),(ar "rows",v9)]
abbrev ME (i:Nat)(c:Col)(H:Hp)(x:Nat×Int×List Nat)(v:V):Prop:=∃t p,v=.ref t/\TupAt c H t [.int x.2.1,.ref p]/\LstAt i c H (.eN x.1) p (x.2.2.map nV)
abbrev Ft (i:Nat)(c:Col)(H:Hp)(x:Nat×List Str)(v:V):Prop:=∃p,v=.ref p/\LstAt i c H (.cM x.1) p (x.2.map V.str)
abbrev MF (i:Nat)(c:Col)(H:Hp)(x:Nat×List Ed)(v:V):Prop:=∃p ts,v=.ref p/\LstAt i c H (.gG x.1) p (ts.map V.ref)/\bD (λe t=>TupAt c H t (gg e)) x.2 ts
structure ChX (A:Adr)(i:Nat)(c:Col)(H:Hp)(o:Addr)(st:Ch)(dx aM aP aA aD aF aE aR:Addr)(ms ds:List Addr)(ws fs es:List V):Prop where
 co:c o=some (i,.ob)
 ob:H o=some (.ins A.ax dx (chF (.int st.cC) (.int st.aI) (.bl st.closed) (.ref aM) (.ref aP) (.ref aA) (.ref aD) (.ref aF) (.ref aE) (.ref aR)))
 made:jt i c H .made aM ((akL 1 st.made.length).zip (ms.map V.ref))
 mot:bD (λm p=>mP A c H m p) st.made ms
 aq:LstAt i c H .aq aP (st.aq.map nV)
 ay:jt i c H .ay aA ((st.ay.map (·.1)).zip ws)
 wait:bD (ME i c H) st.ay ws
 dec:LstAt i c H .decided aD (ds.map V.ref)
 mQ:bD (λ(x:Nat×Str) t=>TupAt c H t [nV x.1,.str x.2]) st.decided ds
 firsts:jt i c H .firsts aF ((st.firsts.map (·.1)).zip fs)
 first:bD (Ft i c H) st.firsts fs
 kT:jt i c H .kept aE ((st.kept.map (·.1)).zip es)
 kept:bD (MF i c H) st.kept es
 rows:LstAt i c H .rows aR (st.rows.map V.str)
structure f6 (A:Adr)(i:Nat)(c:Col)(H:Hp)(o:Addr)(st:Ch):Prop where
 ex:∃(dx aM aP aA aD aF aE aR:Addr) (ms ds:List Addr) (ws fs es:List V),ChX A i c H o st dx aM aP aA aD aF aE aR ms ds ws fs es
theorem LstAt.keep {i:Nat}{W:Option (Nat×Rl)->Prop}{c c':Col}{H H':Hp}{r:Rl}{a:Addr}{xs:List V}(n:¬W (some (i,r)))(s:Step W c c' H H')(h:LstAt i c H r a xs):LstAt i c' H' r a xs:=by
 have hn:¬W (c a):=by rw[h.1];exact n
 exact⟨by rw[s.col a _ h.2 hn];exact h.1,s.keep _ _ h.2 hn⟩
theorem jt.keep {i:Nat}{W:Option (Nat×Rl)->Prop}{c c':Col}{H H':Hp}{r:Rl}{a:Addr}{xs:List (Nat×V)}(n:¬W (some (i,r)))(s:Step W c c' H H')(h:jt i c H r a xs):jt i c' H' r a xs:=by
 have hn:¬W (c a):=by rw[h.1];exact n
 exact⟨by rw[s.col a _ h.2 hn];exact h.1,s.keep _ _ h.2 hn⟩
section
variable{A:Adr}{i:Nat}{p:Rl->Bool}{r:Rl}{c c':Col}{H H':Hp}{a o:Addr}
theorem LstAt.kp {xs:List V}(h:p r=false)(s:Step (Wr i p) c c' H H')(z:LstAt i c H r a xs):LstAt i c' H' r a xs:=z.keep (Wr.no h) s
theorem jt.kp {xs:List (Nat×V)}(h:p r=false)(s:Step (Wr i p) c c' H H')(z:jt i c H r a xs):jt i c' H' r a xs:=z.keep (Wr.no h) s
theorem bD.imp_mem {α β:Type}{R R':α->β->Prop}:∀ {as:List α} {bs:List β},(∀a∈as,∀b,R a b->R' a b)->bD R as bs->bD R' as bs
 |_,_,_,.nil=>.nil
 |_,_,f,.cons h t=>.cons (f _ fu _ h) (t.imp_mem λa m b=>f a (ky _ m) b)
theorem sI {as:List Mn}{ms:List Addr}{W:Option (Nat×Rl)->Prop}(s:Step W c c' H H')(z:bD (λm p=>mP A c H m p) as ms):bD (λm p=>mP A c' H' m p) as ms:=z.imp λ_ _ y=>y.step s
theorem jg {as:List (Nat×Str)}{ds:List Addr}{W:Option (Nat×Rl)->Prop}(s:Step W c c' H H')(z:bD (λ(x:Nat×Str) t=>TupAt c H t [nV x.1,.str x.2]) as ds):bD (λ(x:Nat×Str) t=>TupAt c' H' t [nV x.1,.str x.2]) as ds:=z.imp λ_ _ y=>y.step s
theorem kU {as:List (Nat×Int×List Nat)}{ws:List V}(h:∀x∈as,p (.eN x.1)=false)(s:Step (Wr i p) c c' H H')(z:bD (ME i c H) as ws):bD (ME i c' H') as ws :=
 z.imp_mem λx m v ⟨t,q,e,z1,z2⟩=>⟨t,q,e,z1.step s,z2.kp (h x m) s⟩
theorem uE {as:List (Nat×List Str)}{ws:List V}(h:∀x∈as,p (.cM x.1)=false)(s:Step (Wr i p) c c' H H')(z:bD (Ft i c H) as ws):bD (Ft i c' H') as ws :=
 z.imp_mem λx m v ⟨q,e,z2⟩=>⟨q,e,z2.kp (h x m) s⟩
theorem wC {as:List (Nat×List Ed)}{ws:List V}(h:∀x∈as,p (.gG x.1)=false)(s:Step (Wr i p) c c' H H')(z:bD (MF i c H) as ws):bD (MF i c' H') as ws :=
 z.imp_mem λx m v ⟨q,ts,e,z2,z3⟩=>⟨q,ts,e,z2.kp (h x m) s,z3.imp λ_ _ y=>y.step s⟩
end
theorem f6.other {A:Adr}{i j:Nat}(n:i≠j){c c':Col}{H H':Hp}{o:Addr}{st:Ch}(s:Step (dG j) c c' H H')(h:f6 A i c H o st):f6 A i c' H' o st:=by
 obtain⟨dx,aM,aP,aA,aD,aF,aE,aR,ms,ds,ws,fs,es,h1,h2,h3,h4,h5,h6,h7,h8,h9,h10,h11,h12,h13,h14⟩:=h.ex;have no:=λr=>B8 n r
 have hn:¬dG j (c o):=by rw[h1];exact no _
 refine⟨dx,aM,aP,aA,aD,aF,aE,aR,ms,ds,ws,fs,es,by rw[s.col o _ h2 hn];exact h1,s.keep _ _ h2 hn,h3.keep (no _) s,h4.imp λ_ _ z=>z.step s,h5.keep (no _) s,h6.keep (no _) s,h7.imp ?_,h8.keep (no _) s,h9.imp λ_ _ z=>z.step s,
  h10.keep (no _) s,h11.imp ?_,h12.keep (no _) s,h13.imp ?_,h14.keep (no _) s⟩
 ·rintro x v ⟨t,p,e,z1,z2⟩;exact⟨t,p,e,z1.step s,z2.keep (no _) s⟩
 ·rintro x v ⟨p,e,z⟩;exact⟨p,e,z.keep (no _) s⟩
 ·rintro x v ⟨p,ts,e,z1,z2⟩;exact⟨p,ts,e,z1.keep (no _) s,z2.imp λ_ _ y=>y.step s⟩
end My
set_option maxHeartbeats 1000000
namespace My
open PySem L2
seal PySem.wpAny
section
variable{v0 v1 v2 v3 v4 v5 v6 v7 v8 v9 y:V}
theorem Nu:(chF v0 v1 v2 v3 v4 v5 v6 v7 v8 v9).lookup (ar "seats")=some v0:=by simp only[chF,ak0,show (ar "seats" == ar "seats")=true from by decide +kernel]
theorem iU:(chF v0 v1 v2 v3 v4 v5 v6 v7 v8 v9).lookup (ar "sitting")=some v1:=by simp only[chF,ak0,show (ar "sitting" == ar "seats")=false from by decide +kernel,show (ar "sitting" == ar "sitting")=true from by decide +kernel]
theorem qM:(chF v0 v1 v2 v3 v4 v5 v6 v7 v8 v9).lookup (ar "closed")=some v2:=by simp only[chF,ak0,show (ar "closed" == ar "seats")=false from by decide +kernel,show (ar "closed" == ar "sitting")=false from by decide +kernel,show (ar "closed" == ar "closed")=true from by decide +kernel]
theorem kW:(chF v0 v1 v2 v3 v4 v5 v6 v7 v8 v9).lookup (ar "made")=some v3:=by simp only[chF,ak0,show (ar "made" == ar "seats")=false from by decide +kernel,show (ar "made" == ar "sitting")=false from by decide +kernel,show (ar "made" == ar "closed")=false from by decide +kernel,show (ar "made" == ar "made")=true from by decide +kernel]
theorem eO:(chF v0 v1 v2 v3 v4 v5 v6 v7 v8 v9).lookup (ar "pile")=some v4:=by simp only[chF,ak0,show (ar "pile" == ar "seats")=false from by decide +kernel,show (ar "pile" == ar "sitting")=false from by decide +kernel,show (ar "pile" == ar "closed")=false from by decide +kernel,show (ar "pile" == ar "made")=false from by decide +kernel,show (ar "pile" == ar "pile")=true from by decide +kernel]
theorem jM:(chF v0 v1 v2 v3 v4 v5 v6 v7 v8 v9).lookup (ar "aside")=some v5:=by simp only[chF,ak0,show (ar "aside" == ar "seats")=false from by decide +kernel,show (ar "aside" == ar "sitting")=false from by decide +kernel,show (ar "aside" == ar "closed")=false from by decide +kernel,show (ar "aside" == ar "made")=false from by decide +kernel,show (ar "aside" == ar "pile")=false from by decide +kernel,show (ar "aside" == ar "aside")=true from by decide +kernel]
theorem yO:(chF v0 v1 v2 v3 v4 v5 v6 v7 v8 v9).lookup (ar "decided")=some v6:=by simp only[chF,ak0,show (ar "decided" == ar "seats")=false from by decide +kernel,show (ar "decided" == ar "sitting")=false from by decide +kernel,show (ar "decided" == ar "closed")=false from by decide +kernel,show (ar "decided" == ar "made")=false from by decide +kernel,show (ar "decided" == ar "pile")=false from by decide +kernel,show (ar "decided" == ar "aside")=false from by decide +kernel,show (ar "decided" == ar "decided")=true from by decide +kernel]
theorem zh:(chF v0 v1 v2 v3 v4 v5 v6 v7 v8 v9).lookup (ar "first_texts")=some v7:=by simp only[chF,ak0,show (ar "first_texts" == ar "seats")=false from by decide +kernel,show (ar "first_texts" == ar "sitting")=false from by decide +kernel,show (ar "first_texts" == ar "closed")=false from by decide +kernel,show (ar "first_texts" == ar "made")=false from by decide +kernel,show (ar "first_texts" == ar "pile")=false from by decide +kernel,show (ar "first_texts" == ar "aside")=false from by decide +kernel,show (ar "first_texts" == ar "decided")=false from by decide +kernel,show (ar "first_texts" == ar "first_texts")=true from by decide +kernel]
theorem sJ:(chF v0 v1 v2 v3 v4 v5 v6 v7 v8 v9).lookup (ar "edits_kept")=some v8:=by simp only[chF,ak0,show (ar "edits_kept" == ar "seats")=false from by decide +kernel,show (ar "edits_kept" == ar "sitting")=false from by decide +kernel,show (ar "edits_kept" == ar "closed")=false from by decide +kernel,show (ar "edits_kept" == ar "made")=false from by decide +kernel,show (ar "edits_kept" == ar "pile")=false from by decide +kernel,show (ar "edits_kept" == ar "aside")=false from by decide +kernel,show (ar "edits_kept" == ar "decided")=false from by decide +kernel,show (ar "edits_kept" == ar "first_texts")=false from by decide +kernel,show (ar "edits_kept" == ar "edits_kept")=true from by decide +kernel]
theorem wD:(chF v0 v1 v2 v3 v4 v5 v6 v7 v8 v9).lookup (ar "rows")=some v9:=by simp only[chF,ak0,show (ar "rows" == ar "seats")=false from by decide +kernel,show (ar "rows" == ar "sitting")=false from by decide +kernel,show (ar "rows" == ar "closed")=false from by decide +kernel,show (ar "rows" == ar "made")=false from by decide +kernel,show (ar "rows" == ar "pile")=false from by decide +kernel,show (ar "rows" == ar "aside")=false from by decide +kernel,show (ar "rows" == ar "decided")=false from by decide +kernel,show (ar "rows" == ar "first_texts")=false from by decide +kernel,show (ar "rows" == ar "edits_kept")=false from by decide +kernel,show (ar "rows" == ar "rows")=true from by decide +kernel]
theorem GX:gj (ar "sitting") y (chF v0 v1 v2 v3 v4 v5 v6 v7 v8 v9)=chF v0 y v2 v3 v4 v5 v6 v7 v8 v9:=by
 unfold chF;simp only[gj];rw[if_neg (by decide +kernel),if_pos trivial]
theorem B9:gj (ar "closed") y (chF v0 v1 v2 v3 v4 v5 v6 v7 v8 v9)=chF v0 v1 y v3 v4 v5 v6 v7 v8 v9:=by
 unfold chF;simp only[gj];rw[if_neg (by decide +kernel),if_neg (by decide +kernel),if_pos trivial]
theorem GY:gj (ar "pile") y (chF v0 v1 v2 v3 v4 v5 v6 v7 v8 v9)=chF v0 v1 v2 v3 y v5 v6 v7 v8 v9:=by
 unfold chF;simp only[gj];rw[if_neg (by decide +kernel),if_neg (by decide +kernel),if_neg (by decide +kernel),if_neg (by decide +kernel),if_pos trivial]
end
def xZ (A:Adr)(i:Nat):Sp:=λvs H Q E=>∃(o:Addr) (c:Col) (st:Ch),vs=[.ref o]/\f6 A i c H o st/\(st.aq≠[]->Q .non H)/\(st.aq=[]->E (.ref A.pJ) none H)
section
variable{P:me}{w:World}{K:ba}{mg:Str->Option Value}{base:Heap}{A:Adr}
theorem mR (T:Txt w.params K mg A){i:Nat}:aO P w K mg base (CXX P w) 1 A.a9 A.bU ["self"] (xZ A i):=by
 refine T.b6.okX mw (λvs H Q E h=>?_) (λcdv A' outer s H vs Q E hr h=>?_)
 ·obtain⟨o,c,st,rfl,_⟩:=h;rfl
 ·obtain⟨o,c,st,rfl,hc,q1,q2⟩:=h;obtain⟨dx,aM,aP,aA,aD,aF,aE,aR,ms,ds,ws,fs,es,h1,h2,h3,h4,h5,h6,h7,h8,h9,h10,h11,h12,h13,h14⟩:=hc.ex;refine⟨_,(bE (iB (qo (rQ (br (pv 0) rfl) (λ_=>rfl)))
 (bE (lY T.BV rfl rfl T.DW (aa ao ah)))
 (xy aH))),?_⟩
  refine eZ rfl h2 T.au T.jq0 eO ?_;refine⟨_,.inl ⟨_,.inl (.inl h5.2),rfl⟩,?_⟩;cases e:st.aq with
  |nil=>exact dJ ⟨by decide,q2 e⟩
  |cons x r=>exact bS (q1 (by rw[e];exact akH _ _))
end
end My
set_option maxHeartbeats 1000000
namespace My
open PySem L2
seal PySem.wpAny
theorem bD.len {α β:Type}{R:α->β->Prop}:∀ {as:List α} {bs:List β},bD R as bs->as.length=bs.length
 |_,_,.nil=>rfl
 |_,_,.cons _ t=>by rw[akp,akp,t.len]
theorem bD.get {α β:Type}{R:α->β->Prop}:∀ {as:List α} {bs:List β} {i:Nat} {a:α},bD R as bs->as[i]?=some a->∃b,bs[i]?=some b/\R a b
 |_,_,_,_,.nil,h=>by simp at h
 |_,_,0,_,.cons h t,e=>by
  rw[akE]at e;cases e;exact⟨_,akE,h⟩
 |_,_,i+1,_,.cons h t,e=>by
  rw[akJ]at e;obtain⟨b,e1,e2⟩:=t.get e;exact⟨b,by rw[akJ];exact e1,e2⟩
theorem Ca:∀(ms:List Addr) (s k:Nat) {o:Addr},ms[k]?=some o->gL (a8 ((akL s ms.length).zip (ms.map V.ref))) (kq ((s+k:Nat):Int))=some (.ref o)
 |[],_,_,_,h=>by simp at h
 |m::ms,s,0,o,h=>by
  rw[akE]at h;cases h;exact eC (p:=(kq ((s:Nat):Int),V.ref m)) rfl
 |m::ms,s,k+1,o,h=>by
  rw[akJ]at h;have ih:=Ca ms (s+1) k h;have e:s+(k+1)=s+1+k:=by omega
  rw[e];refine(bP (p:=(kq ((s:Nat):Int),V.ref m)) ?_).trans ih;intro z;have z':((s:Nat):Int)=((s+1+k:Nat):Int):=Sum.inl.inj z;omega
def Ch.mo (st:Ch)(n:Nat):Mn:=st.made.getD (n - 1) .cls
def dI (st:Ch)(n:Nat):Prop:=1<=n/\n<=st.made.length
def x8 (A:Adr)(i:Nat):Sp:=λvs H Q _=>∃(o:Addr) (c:Col) (st:Ch),vs=[.ref o]/\f6 A i c H o st/\(∀n∈st.aq,dI st n)/\st.aq.length<=1000 /\
 ∀R os,H R=none->bD (λn m=>mP A c H (st.mo n) m) st.aq os->Q (.ref R) (upd H R (.lst (os.map V.ref)))
theorem MG {A:Adr}{c:Col}{H:Hp}{st:Ch}{ms:List Addr}(h:bD (λm p=>mP A c H m p) st.made ms):∀(ns:List Nat),(∀n∈ns,dI st n)->bD (λn m=>mP A c H (st.mo n) m) ns (ns.map λn=>ms.getD (n - 1) 0)
 |[],_=>.nil
 |n::ns,g=>by
  have hn:=g n fu;have hlt:n - 1 < st.made.length:=by have:=hn.1;have:=hn.2;omega
  obtain⟨b,e1,e2⟩:=h.get (wt hlt);refine .cons ?_ (MG h ns λn hn=>g n (ky _ hn))
  have e3:st.mo n=st.made[n - 1]:=by unfold Ch.mo;rw[akw,wt hlt];rfl
  have e4:ms.getD (n - 1) 0=b:=by rw[akw,e1];rfl
  show mP A c H (st.mo n) (ms.getD (n - 1) 0);rw[e3,e4];exact e2
section
variable{P:me}{w:World}{K:ba}{mg:Str->Option Value}{base:Heap}{A:Adr}
theorem Cb (T:Txt w.params K mg A){i:Nat}:aO P w K mg base CX0 1 A.bC A.dA ["self"] (x8 A i):=by
 refine T.d3.ok uK (λvs H Q E h=>?_) (λcdv A' outer s H vs Q E hr h=>?_)
 ·obtain⟨o,c,st,rfl,_⟩:=h;rfl
 ·obtain⟨o,c,st,rfl,hc,hp,hpl,q⟩:=h;obtain⟨dx,aM,aP,aA,aD,aF,aE,aR,ms,ds,ws,fs,es,h1,h2,h3,h4,h5,h6,h7,h8,h9,h10,h11,h12,h13,h14⟩:=hc.ex;have hu1:=hr.u1;refine⟨_,(aj (aG (An (scope:=jr) rW rfl (qp (br (pv 0) rfl)) (λ_ _ _ _ _=>(bc hu1 (SK (K:=K) rfl (pv 1) rfl) (pv 0) (λ_ _=>rfl)))))),?_⟩
  have ml:=h4.len;refine eZ rfl h2 T.au T.jq0 eO ?_;have hB:SqL K H aP (st.aq.map nV):=SqL.of h5.2;refine⟨aP,rfl,⟨_,hB⟩,λR hR=>?_⟩
  have sR:∀ {o:HO},bu H (upd H R o):=aB hR;refine xx (K:=K) (a:=aP) (xs:=st.aq.map nV) (λi ys H2=>ys=((st.aq.take i).map λn=>V.ref (ms.getD (n - 1) 0))/\H2=upd H R (.lst ys)) ⟨rfl,rfl⟩ (by rw[bo,alw];omega) ?_ ?_ ?_
  ·rintro i ys H2 hi ⟨rfl,rfl⟩;rw[bo]at hi;exact⟨sR.seq hB,ae,by rw[bo,akX];omega⟩
  ·rintro i y ys H2 hy ⟨rfl,rfl⟩;refine hide λGg hGg=>?_
   obtain⟨n,hn1,rfl⟩:∃n,st.aq[i]?=some n/\nV n=y:=by
    rw[akK]at hy;cases ht:st.aq[i]? with
    |none=>rw[ht]at hy;cases hy
    |some t=>rw[ht]at hy;exact⟨t,rfl,akx hy⟩
   have hn:=hp n (akM hn1);have hlt:n - 1 < ms.length:=by have:=hn.1;have:=hn.2;omega
   have hm:ms[n - 1]?=some (ms.getD (n - 1) 0):=by rw[akw,wt hlt];rfl
   have hv:=Ca ms 1 (n - 1) hm;rw[<-ml,show 1+(n - 1)=n by have:=hn.1;omega]at hv
   refine hGg ?_;refine eZ rfl (sR _ _ h2) T.au T.jq4 kW ?_;refine⟨_,rfl,aM,_,rfl,.inl ⟨_,kq (n:Int),.inl (sR _ _ h3.2),rfl,hv.symm⟩,?_⟩;refine eB.mk (List.getElem?_eq_some_iff.mp hy).1 ae ⟨?_,by rw[nz]⟩
   rw[alQ,hn1,ku];rfl
  ·rintro ys H2 ⟨rfl,rfl⟩;rw[bo,alr];have:=q R _ hR (MG h4 st.aq hp);rw[alK]at this;exact this
end
end My
set_option maxHeartbeats 1000000
namespace My
open PySem L2
seal PySem.wpAny
theorem bD.snoc {α β:Type}{R:α->β->Prop}:∀ {as:List α} {bs:List β} {a:α} {b:β},bD R as bs->R a b->bD R (as++[a]) (bs++[b])
 |_,_,_,_,.nil,h=>.cons h .nil
 |_,_,_,_,.cons g t,h=>.cons g (t.snoc h)
def Cc (A:Adr)(i:Nat):Sp:=λvs H Q _=>∃(o:Addr) (wd:Str) (c:Col) (st:Ch) (pre:List Nat) (n:Nat),vs=[.ref o,.str wd]/\f6 A i c H o st/\st.aq=pre++[n]/\st.aq.length<=1000/\st.decided.length<=1000 /\
 ∀c' H',Step (dG i) c c' H H'->f6 A i c' H' o { st with aq:=pre,decided:=st.decided++[(n,wd)] }->Q .non H'
section
variable{P:me}{w:World}{K:ba}{mg:Str->Option Value}{base:Heap}{A:Adr}
theorem D2 (T:Txt w.params K mg A){i:Nat}:aO P w K mg base CX0 1 A.bF A.dY ["self","word"] (Cc A i):=by
 refine T.eL.ok vL (λvs H Q E h=>?_) (λcdv A' outer s H vs Q E hr h=>?_)
 ·obtain⟨o,wd,c,st,pre,n,rfl,_⟩:=h;rfl
 ·obtain⟨o,wd,c,st,pre,n,rfl,hc,hp,hpl,hdl,q⟩:=h;obtain⟨dx,aM,aP,aA,aD,aF,aE,aR,ms,ds,ws,fs,es,h1,h2,h3,h4,h5,h6,h7,h8,h9,h10,h11,h12,h13,h14⟩:=hc.ex;refine⟨_,(aj (bL (hG rf akB akC cU (br (pv 0) rfl) (aa (bj (aa (OZ rf PySem.F.slot_list_pop PySem.F.type_list_pop O3 (br (pv 0) rfl)) (aa (pv 1) ah))) ah)))),?_⟩;refine eZ rfl h2 T.au T.jqj yO ?_;have hy:(st.aq.map nV)[(st.aq.map nV).length - 1]?=some (nV n):=by rw[hp];simp
  have hdr:(st.aq.map nV).dropLast=pre.map nV:=by rw[hp,ku];simp
  have nPD:aD≠aP:=λz=>by have:=h8.1;rw[z,h5.1]at this;cases this
  refine⟨.inl ⟨rfl,_,SqL.of h8.2⟩,eZ rfl h2 T.au T.jq0 eO ?_⟩;refine⟨.inl ⟨rfl,_,SqL.of h5.2⟩,aP,_,_,rfl,rfl,h5.2,hy,_,rfl,(sl 2),λp hp0=>?_⟩
  have np:∀ {a:Addr} {v:HO},H a=some v->a≠p:=by
   intro a v e z;subst z
   by_cases y:a=aP
   ·subst y;rw[ae]at hp0;cases hp0
   ·rw[aw y,e]at hp0;cases hp0
  have nn:¬(λx=>x=some (i,Rl.aq)\/x=some (i,Rl.decided)) (none:Option (Nat×Rl)):=by rintro (z | z) <;> cases z
  refine⟨aD,_,_,rfl,rfl,(aw (np h8.2)).trans ((aw nPD).trans h8.2),?_,?_⟩
  ·rw[bo,<-h9.len,alw];omega
  have sp:Step (λx=>x=some (i,Rl.aq)\/x=some (i,Rl.decided)) c (aC c p none) H (upd (upd (upd H aP (.lst (st.aq.map nV).dropLast)) p (.tup [nV n,.str wd])) aD (.lst (ds.map V.ref++[.ref p]))) :=
   ((Step.upd nn (.inl h5.1)).trans (Step.new nn hp0)).trans (Step.upd nn (.inr (by rw[av (np h8.2)];exact h8.1)))
  have ht:TupAt (aC c p none) (upd (upd (upd H aP (.lst (st.aq.map nV).dropLast)) p (.tup [nV n,.str wd])) aD (.lst (ds.map V.ref++[.ref p]))) p [nV n,.str wd] :=
   ⟨aV,.inl ((aw (np h8.2).symm).trans ae)⟩
  have kp:LstAt i (aC c p none) (upd (upd (upd H aP (.lst (st.aq.map nV).dropLast)) p (.tup [nV n,.str wd])) aD (.lst (ds.map V.ref++[.ref p]))) .aq aP (pre.map nV) :=
   ⟨by rw[av (np h5.2)];exact h5.1,by rw[aw nPD.symm,aw (np h5.2),ae,hdr]⟩
  have kd:LstAt i (aC c p none) (upd (upd (upd H aP (.lst (st.aq.map nV).dropLast)) p (.tup [nV n,.str wd])) aD (.lst (ds.map V.ref++[.ref p]))) .decided aD ((ds++[p]).map V.ref) :=
   ⟨by rw[av (np h8.2)];exact h8.1,by rw[ae,ku];rfl⟩
  generalize upd (upd (upd H aP (.lst (st.aq.map nV).dropLast)) p (.tup [nV n,.str wd])) aD (.lst (ds.map V.ref++[.ref p]))=H' at sp ht kp kd ⊢;generalize aC c p none=c' at sp ht kp kd;have no:∀r,r≠Rl.aq->r≠Rl.decided->¬(λx=>x=some (i,Rl.aq)\/x=some (i,Rl.decided)) (some (i,r)):=λr y1 y2=>by
   rintro (z | z)
   ·cases z;exact y1 rfl
   ·cases z;exact y2 rfl
  have hno:=no .ob (λz=>nomatch z) (λz=>nomatch z)
  refine q c' H' (sp.mono (by rintro x (z | z) <;> exact⟨_,z⟩) aU) ⟨dx,aM,aP,aA,aD,aF,aE,aR,ms,ds++[p],ws,fs,es,by rw[sp.col o _ h2 (by rw[h1];exact hno)];exact h1,sp.keep _ _ h2 (by rw[h1];exact hno),
   h3.keep (no .made (λz=>nomatch z) (λz=>nomatch z)) sp,h4.imp λ_ _ z=>z.step sp,kp,h6.keep (no .ay (λz=>nomatch z) (λz=>nomatch z)) sp,h7.imp ?_,kd,(h9.imp λ_ _ z=>z.step sp).snoc ht,
   h10.keep (no .firsts (λz=>nomatch z) (λz=>nomatch z)) sp,h11.imp ?_,h12.keep (no .kept (λz=>nomatch z) (λz=>nomatch z)) sp,h13.imp ?_,h14.keep (no .rows (λz=>nomatch z) (λz=>nomatch z)) sp⟩
  ·rintro x v ⟨t,a,e,z1,z2⟩;exact⟨t,a,e,z1.step sp,z2.keep (no (.eN x.1) (λz=>nomatch z) (λz=>nomatch z)) sp⟩
  ·rintro x v ⟨a,e,z⟩;exact⟨a,e,z.keep (no (.cM x.1) (λz=>nomatch z) (λz=>nomatch z)) sp⟩
  ·rintro x v ⟨a,ts,e,z1,z2⟩;exact⟨a,ts,e,z1.keep (no (.gG x.1) (λz=>nomatch z) (λz=>nomatch z)) sp,z2.imp λ_ _ y=>y.step sp⟩
end
end My
set_option maxHeartbeats 1000000
namespace My
open PySem L2
seal PySem.wpAny
inductive Xc where
 |uV (b:Int) | mS | noChange | noFit | pQ (n:Int) | nothing | tooMany | uq | Fu (n:Int) | Cd
def Xc.At (A:Adr)(H:Hp):Xc->Value->Option Addr->Prop
 | .uV b,C,d=>C=.ref A.mE/\∃a,d=some a/\H a=some (.xd [(ar "bar",.int b)])
 | .mS,C,d=>C=.ref A.qA/\d=none
 | .noChange,C,d=>C=.ref A.qB/\d=none
 | .noFit,C,d=>C=.ref A.uf/\d=none
 | .pQ n,C,d=>C=.ref A.jG/\∃a,d=some a/\H a=some (.xd [(ar "sitting",.int n)])
 | .nothing,C,d=>C=.ref A.pJ/\d=none
 | .tooMany,C,d=>C=.ref A.ug/\d=none
 | .uq,C,d=>C=.ref A.uh/\d=none
 | .Fu n,C,d=>C=.ref A.pK/\∃a,d=some a/\H a=some (.xd [(ar "sitting",.int n)])
 | .Cd,C,d=>C=.ref A.qC/\d=none
def Xc.New (A:Adr)(H H':Hp)(x:Xc)(C:Value)(d:Option Addr):Prop:=x.At A H' C d/\∀a,d=some a->H a=none
theorem same_none {H H':Hp}(s:bu H H'){a:Addr}(h:H' a=none):H a=none:=by
 cases z:H a with
 |none=>rfl
 |some v=>rw[s _ _ z]at h;cases h
theorem D3 {i:Int}(h0:-10000000000 < i)(h1:i < 10000000000):i.natAbs.log2 < 1920:=by
 have h:i.natAbs < 2 ^ 34:=by
  have:(10000000000:Int)<=2 ^ 34:=by decide
  omega
 by_cases hz:i.natAbs=0
 ·rw[hz];decide
 ·exact Nat.lt_trans ((Nat.log2_lt hz).mpr h) (by decide)
theorem D4 {i:Int}(h0:0<=i)(h1:i < 10000000000):(ar (toString i)).length<=20 :=
 tm (PyProof.Rows.toString_length_le h0 (by decide:(1:Nat)<=11) (by show i < (10:Int) ^ 11;omega)) (by decide)
theorem pR {i:Int}(h0:0<=i)(h1:i < 10000000000):∃z,Kd (.int i) z/\z.length<=10000 :=
 ⟨_,.int (D3 (by omega) h1),tm (D4 h0 h1) (by decide)⟩
def rC (ms:List Mn):Int:=match ms.getLast? with
 |none=>-1
 |some m=>(m.k:Int)
def oa (cl:Bool)(ms:List Mn):Int:=if cl=true then (if (4:Int) > rC ms then 4 else rC ms) else rC ms
def ux (ms:List Mn):Bool:=ms.any λm=>decide (m.k=0)
def fq (ms:List Mn):Bool:=match ms.getLast? with
 |some (.chg e)=>!decide (e.k=1)
 |_=>false
def sL (ms:List Mn)(k:Nat):Bool:=if k=2 then fq ms else if k=1\/k=3\/k=4\/k=5 then ux ms else true
def uW (cl:Bool)(ms:List Mn)(k:Nat):Option Xc :=
 if (k:Int)<=oa cl ms then some (.uV (oa cl ms)) else if sL ms k=true then none else if ux ms=true then some .noChange else some .mS
theorem Qu (ms:List Mn):-1<=rC ms/\rC ms < 8:=by
 unfold rC;split
 ·omega
 ·rename_i m _;have:=m.k8;omega
theorem Ku (cl:Bool)(ms:List Mn):-1<=oa cl ms/\oa cl ms < 8:=by
 have:=Qu ms;unfold oa;split
 ·split <;> omega
 ·omega
def wF (A:Adr)(K:ba)(c:Col)(H:Hp)(B:Addr)(ms:List Mn)(os:List Addr):Prop:=SqL K H B (os.map V.ref)/\bD (λm p=>mP A c H m p) ms os
theorem mP.same {A:Adr}{c:Col}{H H':Hp}{m:Mn}{o:Addr}(s:bu H H')(h:mP A c H m o):mP A c H' m o:=h.step (Step.same (W:=λ_=>False) id s)
theorem wF.same {A:Adr}{K:ba}{c:Col}{H H':Hp}{B:Addr}{ms:List Mn}{os:List Addr}(s:bu H H')(h:wF A K c H B ms os):wF A K c H' B ms os:=⟨s.seq h.1,h.2.imp λ_ _ y=>y.same s⟩
def Qv (A:Adr)(K:ba):Sp:=λvs H Q _=>∃(B:Addr) (cl:Bool) (c:Col) (ms:List Mn) (os:List Addr),vs=[.ref B,.bl cl]/\wF A K c H B ms os/\Q (.int (oa cl ms)) H
def Qw (A:Adr)(K:ba):Sp:=λvs H Q _=>∃(B:Addr) (c:Col) (ms:List Mn) (os:List Addr),vs=[.ref B]/\wF A K c H B ms os/\ms.length<=1000/\∀H',bu H H'->Q (.bl (ux ms)) H'
def Qx (A:Adr)(K:ba):Sp:=λvs H Q _=>∃(B:Addr) (c:Col) (ms:List Mn) (os:List Addr),vs=[.ref B]/\wF A K c H B ms os/\∀H',bu H H'->Q (.bl (fq ms)) H'
def MH (A:Adr)(K:ba):Sp:=λvs H Q _=>∃(k:Nat) (B:Addr) (c:Col) (ms:List Mn) (os:List Addr),vs=[.str (nm k),.ref B]/\k < 8/\wF A K c H B ms os/\ms.length<=1000/\∀H',bu H H'->Q (.bl (sL ms k)) H'
def UC (A:Adr)(K:ba):Sp:=λvs H Q E=>∃(k:Nat) (B:Addr) (cl:Bool) (c:Col) (ms:List Mn) (os:List Addr),vs=[.str (nm k),.ref B,.bl cl]/\k < 8/\wF A K c H B ms os/\ms.length<=1000 /\
 (uW cl ms k=none->∀H',bu H H'->Q .non H')/\∀x,uW cl ms k=some x->∀C d H',bu H H'->x.New A H H' C d->E C d H'
def MI (A:Adr)(K:ba)(k:Nat):Sp:=λvs H Q E=>(k=0/\Mw A K vs H Q E)\/Ks A k vs H Q E
theorem Ce (pre:List Addr)(q:Addr):atI ((pre++[q]).map V.ref) (-1)=some (.ref q):=by
 rw[ku];exact gq _ _
theorem Cg:∀k,k < 8->decide (V.str (nm k)=V.str (ar "matter"))=decide (k=0):=by decide +kernel
theorem bZ:∀k,k < 8->decide (V.str (nm k)=V.str (ar "change"))=decide (k=1):=by decide +kernel
theorem b8:∀k,k < 8->decide (V.str (nm k)=V.str (ar "mend"))=decide (k=2):=by decide +kernel
theorem gH:∀k,k < 8->decide (V.str (nm k)=V.str (ar "put off"))=decide (k=3):=by decide +kernel
theorem jh:∀k,k < 8->decide (V.str (nm k)=V.str (ar "close"))=decide (k=4):=by decide +kernel
theorem Fv:∀k,k < 8->decide (V.str (nm k)=V.str (ar "lay"))=decide (k=5):=by decide +kernel
theorem mT:∀k,k < 8->decide (V.str (nm k)=V.str (ar "rest"))=decide (k=6):=by decide +kernel
theorem dF:∀ {k:Nat} {v:V},atI (rowOf k v) 0=some (.str (nm k))
 | 0,_=>rfl
 | 1,_=>rfl
 | 2,_=>rfl
 | 3,_=>rfl
 | 4,_=>rfl
 | 5,_=>rfl
 | 6,_=>rfl
 | 7,_=>rfl
 |_+8,_=>rfl
theorem Fw:∀k,decide (V.str (kn k)=V.str (ar "cut"))=decide (k=1)
 | 0=>by decide +kernel
 | 1=>by decide +kernel
 |n+2=>by rw[decide_eq_false (show ¬n+2=1 by omega)];show decide (V.str (ar "turn")=_)=_;decide +kernel
theorem bD.last {α β:Type}{R:α->β->Prop}{as:List α}{pre:List β}{b:β}(h:bD R as (pre++[b])):∃as' a,as=as'++[a]/\bD R as' pre/\R a b:=by
 induction pre generalizing as with
 |nil =>
  cases h with
  |cons h t=>cases t;exact⟨[],_,rfl,.nil,h⟩
 |cons x r ih =>
  cases h with
  |cons h t =>
   obtain⟨as',a,rfl,h1,h2⟩:=ih t;exact⟨_::as',a,rfl,.cons h h1,h2⟩
theorem pS (ms:List Mn)(m:Mn):rC (ms++[m])=(m.k:Int):=by unfold rC;rw[ak1]
section
variable{P:me}{w:World}{K:ba}{mg:Str->Option Value}{base:Heap}{A:Adr}
theorem yP (T:Txt w.params K mg A):aO P w K mg base CX0 1 A.r6 A.pL ["self","bar"] (CU A.mE "bar"):=by
 refine T.mJ.ok Bm (λvs H Q E h=>?_) (λcdv A' outer s H vs Q E hr h=>?_)
 ·obtain⟨e,v,rfl,_⟩:=h;rfl
 ·obtain⟨e,v,rfl,hx,⟨z,fz,zl⟩,q⟩:=h;refine⟨_,(ai (bL (A5 T.iz T.pN rfl T.gC (aa (pv 0) (aa (Gm (oS (A4 (pv 1) A3))) ah))))
 (aj (EN T.pN (pv 0) (pv 1)))),?_⟩
  have sz:kf=16777216:=by decide
  have c5:(ar "barred by the bar ").length=18:=by decide +kernel
  have e5:(akP++ar "barred by the bar ":Str).length=18:=by decide +kernel
  refine⟨_,rfl,by rw[e5];omega,_,rfl,z,fz,by omega,by rw[len_app,e5];omega,by rw[len_app,e5];omega,e,_,rfl,hx,?_⟩
  exact⟨_,rfl,_,rfl,e,rfl,hx,λd hd=>q d hd⟩
theorem C6 (T:Txt w.params K mg A):aO P w K mg base CX0 1 A.qD A.nH ["self","sitting"] (CU A.jG "sitting"):=by
 refine T.jc.ok xE (λvs H Q E h=>?_) (λcdv A' outer s H vs Q E hr h=>?_)
 ·obtain⟨e,v,rfl,_⟩:=h;rfl
 ·obtain⟨e,v,rfl,hx,⟨z,fz,zl⟩,q⟩:=h;refine⟨_,(ai (bL (A5 T.iz T.nM rfl T.gC (aa (pv 0) (aa (Gm (oS (A4 (pv 1) A3))) ah))))
 (aj (EN T.nM (pv 0) (pv 1)))),?_⟩
  have sz:kf=16777216:=by decide
  have c5:(ar "not later than the sitting ").length=27:=by decide +kernel
  have e5:(akP++ar "not later than the sitting ":Str).length=27:=by decide +kernel
  refine⟨_,rfl,by rw[e5];omega,_,rfl,z,fz,by omega,by rw[len_app,e5];omega,by rw[len_app,e5];omega,e,_,rfl,hx,?_⟩
  exact⟨_,rfl,_,rfl,e,rfl,hx,λd hd=>q d hd⟩
theorem GZ (T:Txt w.params K mg A):aO P w K mg base CX0 1 A.vW A.ui ["self","sitting"] (CU A.pK "sitting"):=by
 refine T.mL.ok Bn (λvs H Q E h=>?_) (λcdv A' outer s H vs Q E hr h=>?_)
 ·obtain⟨e,v,rfl,_⟩:=h;rfl
 ·obtain⟨e,v,rfl,hx,⟨z,fz,zl⟩,q⟩:=h;refine⟨_,(ai (bL (A5 T.iz T.uo rfl T.gC (aa (pv 0) (aa (Gm (oS (A4 (pv 1) A3))) ah))))
 (aj (EN T.uo (pv 0) (pv 1)))),?_⟩
  have sz:kf=16777216:=by decide
  have c5:(ar "aside until the sitting ").length=24:=by decide +kernel
  have e5:(akP++ar "aside until the sitting ":Str).length=24:=by decide +kernel
  refine⟨_,rfl,by rw[e5];omega,_,rfl,z,fz,by omega,by rw[len_app,e5];omega,by rw[len_app,e5];omega,e,_,rfl,hx,?_⟩
  exact⟨_,rfl,_,rfl,e,rfl,hx,λd hd=>q d hd⟩
theorem Qy (T:Txt w.params K mg A):∀k,k < 8->aO P w K mg base CX0 2 (A.ft k) (A.ftd k) ["self"] (MI A K k)
 | 0,_=>(Qo T).imp λvs H Q E h=>h.elim (λz=>z.2) (λz=>absurd z.1 (by decide))
 | 1,h=>(qJ T 1 h).imp λvs H Q E h=>h.elim (λz=>absurd z.1 (by decide)) id
 | 2,h=>(qJ T 2 h).imp λvs H Q E h=>h.elim (λz=>absurd z.1 (by decide)) id
 | 3,h=>(qJ T 3 h).imp λvs H Q E h=>h.elim (λz=>absurd z.1 (by decide)) id
 | 4,h=>(qJ T 4 h).imp λvs H Q E h=>h.elim (λz=>absurd z.1 (by decide)) id
 | 5,h=>(qJ T 5 h).imp λvs H Q E h=>h.elim (λz=>absurd z.1 (by decide)) id
 | 6,h=>(qJ T 6 h).imp λvs H Q E h=>h.elim (λz=>absurd z.1 (by decide)) id
 | 7,h=>(qJ T 7 h).imp λvs H Q E h=>h.elim (λz=>absurd z.1 (by decide)) id
 |n+8,h=>absurd h (by omega)
theorem D5 (T:Txt w.params K mg A):aO P w K mg base CX0 3 A.Br A.pF ["pile","closed"] (Qv A K):=by
 have W0:∀k,k < 8->aO P w K mg base CX0 2 A.f_r A.SO ["self"] (Qm A):=λ_ _=>S1 T
 refine T.vX.ok DD (λvs H Q E h=>?_) (λcdv A' outer s H vs Q E hr h=>?_)
 ·obtain⟨B,cl,c,ms,os,rfl,_⟩:=h;rfl
 ·obtain⟨B,cl,c,ms,os,rfl,⟨hB,ho⟩,q⟩:=h;have S5:=hr;refine⟨_,(ai (a6 (i:=2) DD.nd rfl (Lk rfl) (F3 (rQ (pv 0) (λ_=>rfl)) (oR (n:=8) (Cf:=A.C) (aK bw (pv 0) (mj iA af) (λ_ _=>rfl)) T.cl T.Qg W0 S5 T.Qh aZ) (mj iA af)))
 (ai (a7 (mi (pv 1))
 (aj (aG (bN (tN rfl) (by rfl) T.GO EE (aa (pv 2) (aa (Eu (v:=V.int 4) rfl T.wo ⟨_,rfl⟩) ah)))))
 aH)
 (aj (aG (pv 2))))),?_⟩
  unfold oa at q;rcases aky os with h | ⟨pre,o,h⟩
  ·subst h;cases ho;refine⟨_,rfl,_,.inl ⟨_,hB,rfl⟩,bS ⟨_,rfl,?_⟩⟩;refine⟨_,rfl,_,rfl,?_⟩;cases cl with
   |true=>exact dJ ⟨_,rfl,_,_,rfl,q⟩
   |false=>exact bS ⟨_,rfl,q⟩
  ·rw[akz]at h;refine hide λGg hGg=>?_
   subst h;obtain⟨ms',m,rfl,_,_,dx,v,hm,_⟩:=ho.last;rw[pS]at q;refine hGg ?_;refine⟨_,rfl,_,.inl ⟨_,hB,rfl⟩,vE (by simp) ⟨_,rfl,_,rfl,B,_,_,_,rfl,rfl,hB,Ce pre o,m.k,m.k8,o,dx,_,rfl,hm,SX m.k v,o,m.k,dx,_,m.k8,rfl,hm,lS m.k v,?_⟩⟩
   refine⟨_,rfl,_,rfl,?_⟩;cases cl with
   |true=>exact dJ ⟨_,rfl,_,_,rfl,q⟩
   |false=>exact bS ⟨_,rfl,q⟩
theorem uF (T:Txt w.params K mg A):aO P w K mg base CX0 2 A.mB A.ib ["pile"] (Qw A K):=by
 have gF:∀k,k < 8->aO P w K mg base CX0 1 (A.fk k) (A.fkd k) ["self"] (fZ k):=lT T;refine T.lQ.ok C1 (λvs H Q E h=>?_) (λcdv A' outer s H vs Q E hr h=>?_)
 ·obtain⟨B,c,ms,os,rfl,_⟩:=h;rfl
 ·obtain⟨B,c,ms,os,rfl,⟨hB,ho⟩,hl,q⟩:=h;have d6:=hr;refine⟨_,(aj (aG (bN (Pe rfl) (by rfl) T.UA Wi (aa (An (scope:=oZ) zc rfl (qp (pv 0)) (λ_ _ _ _ _=>(iX bt (oR (n:=8) (Cf:=A.C) (pv 0) T.cl T.nZ gF d6 T.n5 aZ) ao (aL _)))) ah)))),?_⟩
  have lim:kf=16777216:=by decide
  have ol:=ho.len;refine⟨_,rfl,B,rfl,⟨_,hB⟩,λR hR=>?_⟩
  have sR:∀ {o:HO},bu H (upd H R o):=aB hR;refine xx (K:=K) (a:=B) (xs:=os.map V.ref) (λi ys H2=>ys=(ms.take i).map (λm=>V.bl (decide (m.k=0)))/\H2=upd H R (.lst ys)) ⟨rfl,rfl⟩ (by rw[bo];omega) ?_ ?_ ?_
  ·rintro i ys H2 hi ⟨rfl,rfl⟩;rw[bo]at hi;exact⟨sR.seq hB,ae,by rw[bo,akX];omega⟩
  ·rintro i y ys H2 hy ⟨rfl,rfl⟩;refine hide λGg hGg=>?_
   have hi:i < ms.length:=by have:=(List.getElem?_eq_some_iff.mp hy).1;rw[bo]at this;omega
   obtain⟨o,ho1,_,dx,v,ho2,_⟩:=ho.get (wt hi);rw[akK,ho1]at hy;cases hy;refine hGg ?_;refine⟨_,rfl,ms[i].k,ms[i].k8,o,dx,_,rfl,sR _ _ ho2,lS _ v,o,rfl,rfl,?_⟩;rw[Cg _ ms[i].k8];refine eB.mk (by rw[bo];omega) ae ⟨?_,by rw[nz]⟩
   rw[alQ,wt hi,ku];rfl
  ·rintro ys H2 ⟨rfl,rfl⟩;rw[bo,<-ol,alr];refine⟨R,ms.map (λm=>decide (m.k=0)),rfl,SqL.of (by rw[ae,alK];rfl),?_⟩
   rw[List.any_map];exact q _ sR
theorem x9 (T:Txt w.params K mg A):aO P w K mg base CX0 3 A.j8 A.gU ["pile"] (Qx A K):=by
 have W2:∀k,k < 8->aO P w K mg base CX0 2 (A.ft k) (A.ftd k) ["self"] (MI A K k):=Qy T;refine T.lu.ok o8 (λvs H Q E h=>?_) (λcdv A' outer s H vs Q E hr h=>?_)
 ·obtain⟨B,c,ms,os,rfl,_⟩:=h;rfl
 ·obtain⟨B,c,ms,os,rfl,⟨hB,ho⟩,q⟩:=h;have S6:=hr;refine⟨_,(ai (a7 (qo (rQ (pv 0) (λ_=>rfl)))
 (aj (aG g9))
 aH)
 (ai (a6 (i:=1) o8.nd rfl (Lk rfl) (oR (n:=8) (Cf:=A.C) (aK bw (pv 0) (mj iA af) (λ_ _=>rfl)) T.cl T.Qe W2 S6 T.Qf aZ))
 (aj (aG (Ex (iX bt (aK aN (pv 1) af (λ_ _=>rfl)) ao (aL _)) (Ew (iX AR (aK aN (aK aN (pv 1) af (λ_ _=>rfl)) af (λ_ _=>rfl)) ao (aL _)))))))),?_⟩
  rcases aky os with h | ⟨pre,o,h⟩
  ·subst h;cases ho;refine⟨_,rfl,_,.inl ⟨_,hB,rfl⟩,dJ ?_⟩;exact q H (bu.refl _)
  ·rw[akz]at h;subst h;refine⟨_,rfl,_,.inl ⟨_,hB,rfl⟩,vF (by simp) ?_⟩
   refine hide λGg hGg=>?_
   obtain⟨ms',m,rfl,_,_,dx,v,hm,hv⟩:=ho.last;have gl:(ms'++[m]).getLast?=some m:=ak1;unfold fq at q;rw[gl]at q;refine hGg ?_;refine⟨_,rfl,_,rfl,B,_,_,_,rfl,rfl,hB,Ce pre o,m.k,m.k8,o,dx,_,rfl,hm,S0 m.k v,?_⟩
   by_cases h0:m.k=0
   ·obtain⟨tx,rfl⟩:∃tx,m=.mat tx:=by cases m <;> first | exact⟨_,rfl⟩ | exact absurd h0 (by simp[Mn.k])
    refine hide λGg hGg=>?_
    obtain⟨p,rfl,_,hp⟩:=hv;refine hGg ?_;refine .inl ⟨rfl,o,dx,p,tx.map V.str,rfl,hm,SqL.of hp,λp2 u hp2 hu npu=>?_⟩
    have nu:(upd H p2 (.lst (tx.map V.str))) u=none:=(aw (akI npu)).trans hu;refine ixv rfl (SqT.of ae) rfl ⟨rfl,_,rfl,?_⟩;rw[bZ 0 (by decide)]
    exact bS (q _ ((aB hp2).new nu))
   ·refine .inr ⟨by omega,o,dx,v,rfl,hm,λu hu=>?_⟩
    have su:=aB (o:=.tup (rowOf m.k v)) hu;refine ixv rfl (SqT.of ae) dF ⟨rfl,_,rfl,?_⟩;rw[bZ m.k m.k8]
    by_cases h1:m.k=1
    ·obtain⟨e,rfl⟩:∃e,m=.chg e:=by cases m <;> first | exact⟨_,rfl⟩ | exact absurd h1 (by simp[Mn.k])
     refine hide λGg hGg=>?_
     obtain⟨t,rfl,ht⟩:=hv;refine hGg ?_;refine vE (decide_eq_true rfl) (ixv rfl (SqT.of ae) rfl ⟨t,_,_,_,rfl,rfl,bM su ht.sq,n6 e,rfl,?_⟩);rw[Fw];exact q _ su
    ·rw[decide_eq_false h1];have q':∀H',bu H H'->Q (.bl false) H':=by
      cases m with
      |chg e=>exact absurd rfl h1
      |_=>exact q
     exact bS (q' _ su)
theorem sM (T:Txt w.params K mg A):aO P w K mg base CX0 4 A.gf A.dX ["kind","pile"] (MH A K):=by
 have qN:aO P w K mg base CX0 2 A.mB A.ib ["pile"] (Qw A K):=uF T;have zi:aO P w K mg base CX0 3 A.j8 A.gU ["pile"] (Qx A K):=x9 T;refine T.hV.ok rY (λvs H Q E h=>?_) (λcdv A' outer s H vs Q E hr h=>?_)
 ·obtain⟨k,B,c,ms,os,rfl,_⟩:=h;rfl
 ·obtain⟨k,B,c,ms,os,rfl,k8,hp,hl,q⟩:=h;have oe:Room 2 _:=hr.mono (by decide)
  have ya:=hr;refine⟨_,(ai (a7 (az bt (pv 0) ao (aL _))
 (aj (aG (aW zi ya rfl T.qX T.lu.kp T.qW .nil aZ (aa (pv 1) ah))))
 aH)
 (ai (a7 (az tR (pv 0) (bj (aa ao (aa ao (aa ao (aa ao ah))))) rfl)
 (aj (aG (aW qN oe rfl T.qF T.lQ.kp T.qE .nil aZ (aa (pv 1) ah))))
 aH)
 (aj (aG g9)))),?_⟩
  refine⟨_,rfl,rfl,_,rfl,?_⟩;rw[b8 k k8];unfold sL at q
  by_cases h2:k=2
  ·rw[if_pos h2]at q;exact vE (decide_eq_true h2) ⟨_,rfl,B,c,ms,os,rfl,hp,q⟩
  ·rw[if_neg h2]at q;refine vF (decide_eq_false h2) ?_;refine⟨_,rfl,(sl 4),λt ht=>?_⟩
   have st:=aB (o:=.tup [V.str (ar "change"),V.str (ar "put off"),V.str (ar "close"),V.str (ar "lay")]) ht;refine⟨t,_,rfl,.inr (SqT.of ae),rfl,rfl,_,rfl,?_⟩;have ein:(if false=true then !inV (V.str (nm k)) [V.str (ar "change"),V.str (ar "put off"),V.str (ar "close"),V.str (ar "lay")] else inV (V.str (nm k)) [V.str (ar "change"),V.str (ar "put off"),V.str (ar "close"),V.str (ar "lay")])=decide (k=1\/k=3\/k=4\/k=5):=by
    have:∀k,k < 8->inV (V.str (nm k)) [V.str (ar "change"),V.str (ar "put off"),V.str (ar "close"),V.str (ar "lay")]=decide (k=1\/k=3\/k=4\/k=5):=by decide +kernel
    exact this k k8
   rw[ein]
   by_cases h3:k=1\/k=3\/k=4\/k=5
   ·rw[if_pos h3]at q;exact vE (decide_eq_true h3) ⟨_,rfl,B,c,ms,os,rfl,hp.same st,hl,λH' s'=>q H' (st.trans s')⟩
   ·rw[if_neg h3]at q;exact vF (decide_eq_false h3) (q _ st)
theorem uy (T:Txt w.params K mg A):aO P w K mg base (CXX P w) 5 A.gW A.eu ["kind","pile","closed"] (UC A K):=by
 have Ci:aO P w K mg base CX0 3 A.Br A.pF ["pile","closed"] (Qv A K):=D5 T;have qN:aO P w K mg base CX0 2 A.mB A.ib ["pile"] (Qw A K):=uF T;have uz:aO P w K mg base CX0 4 A.gf A.dX ["kind","pile"] (MH A K):=sM T;have uX:aO P w K mg base CX0 1 A.r6 A.pL ["self","bar"] (CU A.mE "bar"):=yP T;refine T.iE.okX lE (λvs H Q E h=>?_) (λcdv A' outer s H vs Q E hr h=>?_)
 ·obtain⟨k,B,cl,c,ms,os,rfl,_⟩:=h;rfl
 ·obtain⟨k,B,cl,c,ms,os,rfl,k8,hp,hl,q,qx⟩:=h;have yb:Room 3 _:=hr.mono (by decide)
  have oe:Room 2 _:=hr.mono (by decide)
  have sN:Room 4 _:=hr;have Nv:Room 2 _:=hr.mono (by decide)
  refine⟨_,(bb (psx (a6 (i:=3) lE.nd rfl (Lk rfl) (aW Ci yb rfl T.Bw T.vX.kp T.Bv .nil aZ (aa (pv 1) (aa (pv 2) ah)))))
 (bb (iB (az vx (aK Pd (Eu (v:=V.ref A.tab) rfl T.Fi rfl) (pv 0) (λ_ _=>rfl)) (pv 3) (aL _))
 (bE (qt T.pN uX Nv T.mK rfl rfl T.BQ (aa (pv 3) ah)))
 (xy aH))
 (bE (iB (qo (mi (aW uz sN rfl T.lG T.hV.kp T.lF .nil aZ (aa (pv 0) (aa (pv 1) ah)))))
 (bb (iB (mi (aW qN oe rfl T.qF T.lQ.kp T.qE .nil aZ (aa (pv 1) ah)))
 (bE (lY T.yN rfl rfl T.BS (aa ao ah)))
 (xy aH))
 (bE (lY T.yM rfl rfl T.BR (aa (Gm (A4 (pv 0) (oS A3))) ah))))
 (xy aH))))),?_⟩
  refine⟨_,rfl,_,rfl,B,cl,c,ms,os,rfl,hp,?_⟩;obtain⟨tk,htk⟩:=T.rk k k8;refine⟨_,rfl,A.tab,nm k,.int k,_,rfl,rfl,T.tb,htk,⟨_,rfl⟩,_,rfl,_,_,rfl,rfl,_,rfl,eR (λe=>?_) (λe=>?_)⟩
  ·have e':(k:Int)<=oa cl ms:=of_decide_eq_true e;have hb:=Ku cl ms;refine⟨_,rfl,_,rfl,pR (by omega) (by omega),λd hd=>qx (.uV (oa cl ms)) (by unfold uW;rw[if_pos e']) _ _ _ (aB hd) ⟨⟨rfl,d,rfl,ae⟩,λ_ z=>by cases z;exact hd⟩⟩
  ·have e':¬(k:Int)<=oa cl ms:=λz=>e (decide_eq_true z)
   unfold uW at q qx;rw[if_neg e']at q qx;refine⟨_,rfl,_,rfl,k,B,c,ms,os,rfl,k8,hp,hl,λH' s'=>⟨_,rfl,?_⟩⟩
   cases hn:sL ms k with
   |true =>
    rw[hn,if_pos rfl]at q;exact bS (q rfl _ s')
   |false =>
    rw[hn,if_neg kx]at qx;refine dJ ⟨_,rfl,B,c,ms,os,rfl,hp.same s',hl,λH2 s2=>⟨_,rfl,?_⟩⟩
    cases hm:ux ms with
    |true =>
     rw[hm,if_pos rfl]at qx;exact dJ ⟨by decide,qx _ rfl _ _ _ (s'.trans s2) ⟨⟨rfl,rfl⟩,λ_ z=>nomatch z⟩⟩
    |false =>
     rw[hm,if_neg kx]at qx;refine bS ⟨_,rfl,nm k,.str,?_,?_,?_⟩
     ·have:∀k,k < 8->(nm k).length<=10:=by decide +kernel
      exact tm (this k k8) (by decide)
     ·have:∀k,k < 8->(akP++nm k:Str).length<=10:=by decide +kernel
      exact tm (this k k8) (by decide)
     ·have:∀k,k < 8->((akP++nm k)++ar " needs a matter on the pile":Str).length<=100:=by decide +kernel
      have l:=tm (this k k8) (show 100<=kf by decide)
      exact⟨l,l,(sl 1),qx _ rfl _ _ _ (s'.trans s2) ⟨⟨rfl,rfl⟩,λ_ z=>nomatch z⟩⟩
end
section
variable{P:me}{w:World}{K:ba}{mg:Str->Option Value}{base:Heap}{A:Adr}
theorem jN (T:Txt w.params K mg A):aO P w K mg base CX0 1 A.f_n A.E9 ["self"] (Fm 0):=by
 refine T.F_n.ok Be (λvs H Q E h=>?_) (λcdv A' outer s H vs Q E hr h=>?_)
 ·obtain⟨m,rfl,_⟩:=h;rfl
 ·obtain⟨m,rfl,q⟩:=h;exact⟨_,(aj (aG ao)),q⟩
theorem Nw (T:Txt w.params K mg A):aO P w K mg base CX0 1 A.WI A.PV ["self"] (Fm 4):=by
 refine T.aba.ok CY (λvs H Q E h=>?_) (λcdv A' outer s H vs Q E hr h=>?_)
 ·obtain⟨m,rfl,_⟩:=h;rfl
 ·obtain⟨m,rfl,q⟩:=h;exact⟨_,(aj (aG ao)),q⟩
theorem S7 (T:Txt w.params K mg A):∀k,k < 8->aO P w K mg base CX0 1 (A.fn k) (A.fnd k) ["self"] (Fm k)
 | 0,_=>jN T
 | 1,_=>jN T
 | 2,_=>jN T
 | 3,_=>jN T
 | 4,_=>Nw T
 | 5,_=>jN T
 | 6,_=>jN T
 | 7,_=>jN T
 |n+8,h=>absurd h (by omega)
end
end My
set_option maxHeartbeats 1000000
namespace My
open PySem L2
seal PySem.wpAny
theorem lV {a b:Nat}:((kq (a:Int):Key)=kq (b:Int))↔a=b:=⟨λh=>by have:=Sum.inl.inj h;omega,λh=>by rw[h]⟩
theorem cN {k:Nat}{v:V}{ks:List Nat}{vs:List V}:a8 ((k::ks).zip (v::vs))=(kq (k:Int),v)::a8 (ks.zip vs):=rfl
theorem qO {n:Nat}:∀ {ks:List Nat} {vs:List V},n∉ks->gL (a8 (ks.zip vs)) (kq (n:Int))=none
 |[],_,_=>rfl
 |_::_,[],_=>rfl
 |k::ks,v::vs,h=>by
  rw[cN,bP (λz=>h (by rw[lV.mp z];exact fu))]
  exact qO λz=>h (ky _ z)
theorem D6 {n:Nat}{v:V}:∀ {ks:List Nat} {vs:List V} {j:Nat},ks.Nodup->ks[j]?=some n->vs[j]?=some v->gL (a8 (ks.zip vs)) (kq (n:Int))=some v
 |[],_,_,_,h,_=>by simp at h
 |_::_,[],_,_,_,h=>by simp at h
 |k::ks,u::vs,0,_,h,g=>by
  rw[akE]at h g;cases h;cases g;exact eC rfl
 |k::ks,u::vs,j+1,nd,h,g=>by
  rw[akJ]at h g;obtain⟨n1,n2⟩:=List.nodup_cons.mp nd;rw[cN,bP (λz=>n1 (by rw[lV.mp z];exact akM h))]
  exact D6 n2 h g
theorem wG {n:Nat}{v:V}:∀ {ks:List Nat} {vs:List V},n∉ks->(a8 (ks.zip vs)).map (λkv=>if kv.1=(kq (n:Int):Key) then (kv.1,v) else kv)=a8 (ks.zip vs)
 |[],_,_=>rfl
 |_::_,[],_=>rfl
 |k::ks,u::vs,h=>by
  rw[cN,ko,wG λz=>h (ky _ z),if_neg (λz=>h (by rw[lV.mp z];exact fu))]
theorem D7 {n:Nat}{v:V}:∀ {ks:List Nat} {vs:List V} {j:Nat},ks.Nodup->ks[j]?=some n->(a8 (ks.zip vs)).map (λkv=>if kv.1=(kq (n:Int):Key) then (kv.1,v) else kv)=a8 (ks.zip (vs.set j v))
 |[],_,_,_,h=>by simp at h
 |k::ks,[],_,_,_=>by simp[a8]
 |k::ks,u::vs,0,nd,h=>by
  rw[akE]at h;cases h;rw[cN,ko,wG (List.nodup_cons.mp nd).1,if_pos rfl];rfl
 |k::ks,u::vs,j+1,nd,h=>by
  rw[akJ]at h;obtain⟨n1,n2⟩:=List.nodup_cons.mp nd;rw[cN,ko,D7 n2 h,if_neg (λz=>n1 (by rw[lV.mp z];exact akM h))]
  rfl
theorem Nx {n:Nat}{v:V}{ks:List Nat}{vs:List V}{j:Nat}(nd:ks.Nodup)(h:ks[j]?=some n)(l:ks.length=vs.length):putK (a8 (ks.zip vs)) (kq (n:Int)) v=a8 (ks.zip (vs.set j v)):=by
 have hj:j < vs.length:=by rw[<-l];exact(List.getElem?_eq_some_iff.mp h).1
 unfold putK;rw[rT,D6 nd h (wt hj)];exact(if_pos rfl).trans (D7 nd h)
theorem pT {n:Nat}{v:V}{ks:List Nat}{vs:List V}(h:n∉ks)(l:ks.length=vs.length):putK (a8 (ks.zip vs)) (kq (n:Int)) v=a8 ((ks++[n]).zip (vs++[v])):=by
 rw[Pz v (qO h),List.zip_append l];unfold a8;rw[ku];rfl
section
variable{β:Type}{R:Nat×β->V->Prop}
def at1 (n:Nat)(xs:List (Nat×β)):Option (Nat×β):=xs.find? λx=>decide (x.1=n)
theorem ji {n:Nat}{xs:List (Nat×β)}{x:Nat×β}(h:at1 n xs=some x):x.1=n/\x∈xs:=by
 unfold at1 at h;have:=List.find?_some h;exact⟨of_decide_eq_true this,List.mem_of_find?_eq_some h⟩
theorem wH {n:Nat}{xs:List (Nat×β)}(h:at1 n xs=none):n∉xs.map (·.1):=λz=>by
 obtain⟨x,hx,e⟩:=List.mem_map.mp z;have:=List.find?_eq_none.mp h x hx;exact this (decide_eq_true e)
theorem bD.val {n:Nat}:∀ {xs:List (Nat×β)} {ws:List V} {x:Nat×β},bD R xs ws->at1 n xs=some x->∃v,gL (a8 ((xs.map (·.1)).zip ws)) (kq (n:Int))=some v/\R x v
 |_,_,_,.nil,h=>nomatch h
 |y::xs,w::ws,x,.cons g t,h=>by
  unfold at1 at h;rw[akU]at h
  by_cases e:y.1=n
  ·rw[decide_eq_true e]at h;cases h;exact⟨w,by rw[ko,cN];exact eC (lV.mpr e),g⟩
  ·rw[decide_eq_false e]at h;obtain⟨v,h1,h2⟩:=bD.val t h;exact⟨v,by rw[ko,cN,bP (λz=>e (lV.mp z))];exact h1,h2⟩
theorem bD.drop {n:Nat}:∀ {xs:List (Nat×β)} {ws:List V},bD R xs ws->∃ws',iJ (a8 ((xs.map (·.1)).zip ws)) (kq (n:Int))=a8 (((xs.filter λx=>decide (x.1≠n)).map (·.1)).zip ws')/\bD R (xs.filter λx=>decide (x.1≠n)) ws'
 |_,_,.nil=>⟨[],rfl,.nil⟩
 |y::xs,w::ws,.cons g t=>by
  obtain⟨ws',h1,h2⟩:=bD.drop (n:=n) t
  by_cases e:y.1=n
  ·refine⟨ws',?_,?_⟩
   ·rw[List.filter_cons_of_neg (by simp[e]),<-h1,ko,cN]
    unfold iJ;rw[List.filter_cons_of_neg (by simp[e])]
   ·rw[List.filter_cons_of_neg (by simp[e])];exact h2
  ·refine⟨w::ws',?_,?_⟩
   ·rw[List.filter_cons_of_pos (by simp[e]),ko,ko,cN,cN,<-h1]
    unfold iJ;have hne:(kq (y.1:Int):Key)≠kq (n:Int):=λz=>e (lV.mp z)
    rw[List.filter_cons_of_pos (by exact decide_eq_true hne)]
   ·rw[List.filter_cons_of_pos (by simp[e])];exact .cons g h2
theorem bD.abn {R':Nat×β->V->Prop}{n:Nat}{f:Nat×β->Nat×β}{v:V}(h1:∀x,x.1=n->R x v->R' (f x) v)(h2:∀x u,x.1≠n->R x u->R' x u):∀ {xs:List (Nat×β)} {ws:List V},bD R xs ws->(xs.map (·.1)).Nodup->gL (a8 ((xs.map (·.1)).zip ws)) (kq (n:Int))=some v ->
  bD R' (xs.map λx=>if x.1=n then f x else x) ws
 |_,_,.nil,_,h=>nomatch h
 |y::xs,w::ws,.cons g t,nd,h=>by
  rw[ko]at nd;obtain⟨n1,n2⟩:=List.nodup_cons.mp nd;rw[ko,cN]at h;rw[ko]
  by_cases e:y.1=n
  ·rw[eC (lV.mpr e)]at h;cases h;rw[if_pos e];refine .cons (h1 y e g) ?_;have hne:∀x∈xs,x.1≠n:=λx hx z=>n1 (by rw[e,<-z];exact List.mem_map_of_mem hx)
   have em:xs.map (λx=>if x.1=n then f x else x)=xs:=by
    have:xs.map (λx=>if x.1=n then f x else x)=xs.map id:=ale λx hx=>if_neg (hne x hx)
    rw[this,List.map_id]
   rw[em];exact t.imp_mem λx hx u=>h2 x u (hne x hx)
  ·rw[bP (λz=>e (lV.mp z))]at h
   rw[if_neg e];exact .cons (h2 y w e g) (bD.abn h1 h2 t n2 h)
end
theorem bD.set {α β:Type}{R:α->β->Prop}:∀ {as:List α} {bs:List β} {a:α} {b:β} (j:Nat),bD R as bs->R a b->bD R (as.set j a) (bs.set j b)
 |_,_,_,_,_,.nil,_=>.nil
 |_,_,_,_,0,.cons _ t,h=>.cons h t
 |_,_,_,_,j+1,.cons g t,h=>.cons g (t.set j h)
def pOb:Rl->Bool | .ob=>true | _=>false
def UD:Rl->Bool | .rows=>true | _=>false
def MJ:Rl->Bool | .made=>true | _=>false
def UE:Rl->Bool | .aq=>true | _=>false
def S8:Rl->Bool | .ob=>true | .aq=>true | .ay=>true | _=>false
def MK (n:Nat):Rl->Bool | .gG m=>decide (m=n) | _=>false
def abo:Rl->Bool | .firsts=>true | _=>false
def abp:Rl->Bool | .kept=>true | _=>false
def ML (n:Nat):Rl->Bool | .ob=>true | .ay=>true | .eN m=>decide (m=n) | _=>false
theorem dB {i:Nat}{c:Col}{a b:Addr}{r r':Rl}(h:c a=some (i,r))(h':c b=some (i,r'))(n:r≠r'):a≠b:=λz=>by
 rw[z,h']at h;cases h;exact n rfl
section
variable{A:Adr}{i:Nat}{c c':Col}{H H':Hp}{o dx aM aP aA aD aF aE aR:Addr}{st:Ch}{ms ds:List Addr}{ws fs es:List V}
theorem ChX.free {W:Option (Nat×Rl)->Prop}(h:∀r,¬W (some (i,r)))(s:Step W c c' H H')(X:ChX A i c H o st dx aM aP aA aD aF aE aR ms ds ws fs es):ChX A i c' H' o st dx aM aP aA aD aF aE aR ms ds ws fs es:=by
 have hn:¬W (c o):=by rw[X.co];exact h _
 refine⟨by rw[s.col o _ X.ob hn];exact X.co,s.keep _ _ X.ob hn,X.made.keep (h _) s,sI s X.mot,X.aq.keep (h _) s,X.ay.keep (h _) s,X.wait.imp ?_,X.dec.keep (h _) s,jg s X.mQ,X.firsts.keep (h _) s,X.first.imp ?_,X.kT.keep (h _) s,X.kept.imp ?_,X.rows.keep (h _) s⟩
 ·rintro x v ⟨t,p,e,z1,z2⟩;exact⟨t,p,e,z1.step s,z2.keep (h _) s⟩
 ·rintro x v ⟨p,e,z⟩;exact⟨p,e,z.keep (h _) s⟩
 ·rintro x v ⟨p,ts,e,z1,z2⟩;exact⟨p,ts,e,z1.keep (h _) s,z2.imp λ_ _ y=>y.step s⟩
theorem ChX.same (s:bu H H')(X:ChX A i c H o st dx aM aP aA aD aF aE aR ms ds ws fs es):ChX A i c H' o st dx aM aP aA aD aF aE aR ms ds ws fs es:=X.free (W:=λ_=>False) (λ_=>id) (Step.same id s)
theorem ChX.cl (s:bu H H')(X:ChX A i c H o st dx aM aP aA aD aF aE aR ms ds ws fs es):ChX A i (cc c H) H' o st dx aM aP aA aD aF aE aR ms ds ws fs es:=X.free (W:=λ_=>False) (λ_=>id) (Step.cl id s)
theorem ChX.at (X:ChX A i c H o st dx aM aP aA aD aF aE aR ms ds ws fs es):f6 A i c H o st:=⟨_,_,_,_,_,_,_,_,_,_,_,_,_,X⟩
theorem ChX.attr (X:ChX A i c H o st dx aM aP aA aD aF aE aR ms ds ws fs es)(n:Int)(b:Bool) :
  Step (Wr i pOb) c c H (upd H o (.ins A.ax dx (chF (.int st.cC) (.int n) (.bl b) (.ref aM) (.ref aP) (.ref aA) (.ref aD) (.ref aF) (.ref aE) (.ref aR)))) /\
  ChX A i c (upd H o (.ins A.ax dx (chF (.int st.cC) (.int n) (.bl b) (.ref aM) (.ref aP) (.ref aA) (.ref aD) (.ref aF) (.ref aE) (.ref aR)))) o { st with aI:=n,closed:=b } dx aM aP aA aD aF aE aR ms ds ws fs es:=by
 have s:Step (Wr i pOb) c c H (upd H o (.ins A.ax dx (chF (.int st.cC) (.int n) (.bl b) (.ref aM) (.ref aP) (.ref aA) (.ref aD) (.ref aF) (.ref aE) (.ref aR)))):=Step.upd Wr.nn (Wr.yes X.co rfl);exact⟨s,X.co,ae,X.made.kp rfl s,sI s X.mot,X.aq.kp rfl s,X.ay.kp rfl s,kU (λ_ _=>rfl) s X.wait,X.dec.kp rfl s,jg s X.mQ,X.firsts.kp rfl s,uE (λ_ _=>rfl) s X.first,X.kT.kp rfl s,wC (λ_ _=>rfl) s X.kept,X.rows.kp rfl s⟩
theorem ChX.row (X:ChX A i c H o st dx aM aP aA aD aF aE aR ms ds ws fs es)(z:Str) :
  Step (Wr i UD) c c H (upd H aR (.lst (st.rows.map V.str++[.str z])))/\ChX A i c (upd H aR (.lst (st.rows.map V.str++[.str z]))) o { st with rows:=st.rows++[z] } dx aM aP aA aD aF aE aR ms ds ws fs es:=by
 have s:Step (Wr i UD) c c H (upd H aR (.lst (st.rows.map V.str++[.str z]))):=Step.upd Wr.nn (Wr.yes X.rows.1 rfl);have k:=mO rfl s X.co X.ob;exact⟨s,k.1,k.2,X.made.kp rfl s,sI s X.mot,X.aq.kp rfl s,X.ay.kp rfl s,kU (λ_ _=>rfl) s X.wait,X.dec.kp rfl s,jg s X.mQ,X.firsts.kp rfl s,uE (λ_ _=>rfl) s X.first,X.kT.kp rfl s,wC (λ_ _=>rfl) s X.kept,X.rows.1,by rw[ae,ku];rfl⟩
theorem ChX.push (X:ChX A i c H o st dx aM aP aA aD aF aE aR ms ds ws fs es)(n:Nat) :
  Step (Wr i UE) c c H (upd H aP (.lst (st.aq.map nV++[nV n])))/\ChX A i c (upd H aP (.lst (st.aq.map nV++[nV n]))) o { st with aq:=st.aq++[n] } dx aM aP aA aD aF aE aR ms ds ws fs es:=by
 have s:Step (Wr i UE) c c H (upd H aP (.lst (st.aq.map nV++[nV n]))):=Step.upd Wr.nn (Wr.yes X.aq.1 rfl);have k:=mO rfl s X.co X.ob;exact⟨s,k.1,k.2,X.made.kp rfl s,sI s X.mot,⟨X.aq.1,by rw[ae,ku];rfl⟩,X.ay.kp rfl s,kU (λ_ _=>rfl) s X.wait,X.dec.kp rfl s,jg s X.mQ,X.firsts.kp rfl s,uE (λ_ _=>rfl) s X.first,X.kT.kp rfl s,wC (λ_ _=>rfl) s X.kept,X.rows.kp rfl s⟩
theorem G0 {n k:Nat}(h1:1<=n)(h2:n<=k):(akL 1 k)[n - 1]?=some n:=by
 rw[List.getElem?_range' (by omega)]
 congr 1
 omega
theorem ChX.MM (X:ChX A i c H o st dx aM aP aA aD aF aE aR ms ds ws fs es){n:Nat}{m:Mn}{x:Addr}(hn:dI st n)(hm:mP A c H m x) :
  Step (Wr i MJ) c c H (upd H aM (.dK (putK (a8 ((akL 1 st.made.length).zip (ms.map V.ref))) (kq (n:Int)) (.ref x)))) /\
  ChX A i c (upd H aM (.dK (putK (a8 ((akL 1 st.made.length).zip (ms.map V.ref))) (kq (n:Int)) (.ref x)))) o { st with made:=st.made.set (n - 1) m } dx aM aP aA aD aF aE aR (ms.set (n - 1) x) ds ws fs es:=by
 have s:Step (Wr i MJ) c c H (upd H aM (.dK (putK (a8 ((akL 1 st.made.length).zip (ms.map V.ref))) (kq (n:Int)) (.ref x)))):=Step.upd Wr.nn (Wr.yes X.made.1 rfl);have k:=mO rfl s X.co X.ob;have ml:=X.mot.len;have e:=Nx (v:=.ref x) (List.nodup_range' (s:=1) (n:=st.made.length)) (G0 hn.1 hn.2) (vs:=ms.map V.ref) (by rw[ak9,bo];exact ml)
 have hd:jt i c (upd H aM (.dK (putK (a8 ((akL 1 st.made.length).zip (ms.map V.ref))) (kq (n:Int)) (.ref x)))) .made aM ((akL 1 (st.made.set (n - 1) m).length).zip ((ms.set (n - 1) x).map V.ref)) :=
  ⟨X.made.1,by rw[ae,e,ald,List.map_set]⟩
 exact⟨s,k.1,k.2,hd,(sI s X.mot).set _ (hm.step s),X.aq.kp rfl s,X.ay.kp rfl s,kU (λ_ _=>rfl) s X.wait,X.dec.kp rfl s,jg s X.mQ,X.firsts.kp rfl s,uE (λ_ _=>rfl) s X.first,X.kT.kp rfl s,wC (λ_ _=>rfl) s X.kept,X.rows.kp rfl s⟩
theorem ChX.S9 (X:ChX A i c H o st dx aM aP aA aD aF aE aR ms ds ws fs es){m:Mn}{x:Addr}(hm:mP A c H m x) :
  Step (Wr i MJ) c c H (upd H aM (.dK (putK (a8 ((akL 1 st.made.length).zip (ms.map V.ref))) (kq ((st.made.length+1:Nat):Int)) (.ref x)))) /\
  ChX A i c (upd H aM (.dK (putK (a8 ((akL 1 st.made.length).zip (ms.map V.ref))) (kq ((st.made.length+1:Nat):Int)) (.ref x)))) o { st with made:=st.made++[m] } dx aM aP aA aD aF aE aR (ms++[x]) ds ws fs es:=by
 have s:Step (Wr i MJ) c c H (upd H aM (.dK (putK (a8 ((akL 1 st.made.length).zip (ms.map V.ref))) (kq ((st.made.length+1:Nat):Int)) (.ref x)))):=Step.upd Wr.nn (Wr.yes X.made.1 rfl);have k:=mO rfl s X.co X.ob;have ml:=X.mot.len;have e:=pT (v:=.ref x) (n:=st.made.length+1) (ks:=akL 1 st.made.length) (vs:=ms.map V.ref) (by rw[alC];omega) (by rw[ak9,bo];exact ml)
 have hd:jt i c (upd H aM (.dK (putK (a8 ((akL 1 st.made.length).zip (ms.map V.ref))) (kq ((st.made.length+1:Nat):Int)) (.ref x)))) .made aM ((akL 1 (st.made++[m]).length).zip ((ms++[x]).map V.ref)) :=
  ⟨X.made.1,by rw[ae,e,gn,tu,List.range'_concat,ku,Nat.one_mul,Nat.add_comm 1];rfl⟩
 exact⟨s,k.1,k.2,hd,(sI s X.mot).snoc (hm.step s),X.aq.kp rfl s,X.ay.kp rfl s,kU (λ_ _=>rfl) s X.wait,X.dec.kp rfl s,jg s X.mQ,X.firsts.kp rfl s,uE (λ_ _=>rfl) s X.first,X.kT.kp rfl s,wC (λ_ _=>rfl) s X.kept,X.rows.kp rfl s⟩
def rD (n:Nat)(e:Ed)(xs:List (Nat×List Ed)):List (Nat×List Ed):=xs.map λx=>if x.1=n then (x.1,x.2++[e]) else x
theorem ChX.f7 (X:ChX A i c H o st dx aM aP aA aD aF aE aR ms ds ws fs es){n:Nat}{x:Nat×List Ed}(hx:at1 n st.kept=some x):∃(p:Addr) (ts:List Addr),gL (a8 ((st.kept.map (·.1)).zip es)) (kq (n:Int))=some (.ref p)/\LstAt i c H (.gG n) p (ts.map V.ref)/\ts.length=x.2.length:=by
 obtain⟨v,h1,p,ts,rfl,h2,h3⟩:=X.kept.val hx;rw[(ji hx).1]at h2;exact⟨p,ts,h1,h2,h3.len.symm⟩
theorem ChX.Fx (X:ChX A i c H o st dx aM aP aA aD aF aE aR ms ds ws fs es){n:Nat}{e:Ed}{t p:Addr}{ts:List Addr}(hv:gL (a8 ((st.kept.map (·.1)).zip es)) (kq (n:Int))=some (.ref p))(hl:LstAt i c H (.gG n) p (ts.map V.ref))(nd:(st.kept.map (·.1)).Nodup)(ht:TupAt c H t (gg e)) :
  Step (Wr i (MK n)) c c H (upd H p (.lst (ts.map V.ref++[.ref t])))/\ChX A i c (upd H p (.lst (ts.map V.ref++[.ref t]))) o { st with kept:=rD n e st.kept } dx aM aP aA aD aF aE aR ms ds ws fs es:=by
 have s:Step (Wr i (MK n)) c c H (upd H p (.lst (ts.map V.ref++[.ref t]))):=Step.upd Wr.nn (Wr.yes hl.1 (decide_eq_true rfl));have k:=mO rfl s X.co X.ob;have ek:(rD n e st.kept).map (·.1)=st.kept.map (·.1):=by
  unfold rD;rw[alK];refine ale λx _=>?_
  show (if x.1=n then (x.1,x.2++[e]) else x).1=x.1
  split <;> rfl
 refine⟨s,k.1,k.2,X.made.kp rfl s,sI s X.mot,X.aq.kp rfl s,X.ay.kp rfl s,kU (λ_ _=>rfl) s X.wait,X.dec.kp rfl s,jg s X.mQ,X.firsts.kp rfl s,uE (λ_ _=>rfl) s X.first,by show jt i c _ .kept aE (((rD n e st.kept).map (·.1)).zip es);rw[ek];exact X.kT.kp rfl s,?_,X.rows.kp rfl s⟩
 refine bD.abn (f:=λx=>(x.1,x.2++[e])) (v:=.ref p) ?_ ?_ X.kept nd hv
 ·rintro x e1 ⟨q,us,e2,z1,z2⟩;cases e2;have e3:us.map V.ref=ts.map V.ref:=by
   have:=z1.2;rw[hl.2]at this;injection this with this
   injection this with this
   exact this.symm
  refine⟨p,us++[t],rfl,⟨z1.1,?_⟩,(z2.imp λ_ _ y=>y.step s).snoc (ht.step s)⟩
  rw[ae,<-e3,ku];rfl
 ·rintro x u e1 ⟨q,us,rfl,z1,z2⟩;exact⟨q,us,rfl,z1.kp (decide_eq_false e1) s,z2.imp λ_ _ y=>y.step s⟩
theorem ChX.Qz (X:ChX A i c H o st dx aM aP aA aD aF aE aR ms ds ws fs es){n:Nat}{tx:List Str}{p:Addr}(hp:H p=none)(hn:n∉st.firsts.map (·.1)) :
  Step (Wr i abo) c (aC c p (some (i,.cM n))) H (upd (upd H p (.lst (tx.map V.str))) aF (.dK (putK (a8 ((st.firsts.map (·.1)).zip fs)) (kq (n:Int)) (.ref p)))) /\
  ChX A i (aC c p (some (i,.cM n))) (upd (upd H p (.lst (tx.map V.str))) aF (.dK (putK (a8 ((st.firsts.map (·.1)).zip fs)) (kq (n:Int)) (.ref p)))) o { st with firsts:=st.firsts++[(n,tx)] } dx aM aP aA aD aF aE aR ms ds ws (fs++[.ref p]) es:=by
 have np:∀ {a:Addr} {v:HO},H a=some v->a≠p:=λe=>aJ e hp
 have s:Step (Wr i abo) c (aC c p (some (i,.cM n))) H (upd (upd H p (.lst (tx.map V.str))) aF (.dK (putK (a8 ((st.firsts.map (·.1)).zip fs)) (kq (n:Int)) (.ref p)))) :=
  (Step.new Wr.nn hp).trans (Step.upd Wr.nn ⟨.firsts,by rw[av (np X.firsts.2)];exact X.firsts.1,rfl⟩)
 have k:=mO rfl s X.co X.ob;have e:=pT (v:=.ref p) hn (vs:=fs) (by rw[bo];exact X.first.len)
 have hd:jt i (aC c p (some (i,.cM n))) (upd (upd H p (.lst (tx.map V.str))) aF (.dK (putK (a8 ((st.firsts.map (·.1)).zip fs)) (kq (n:Int)) (.ref p)))) .firsts aF (((st.firsts++[(n,tx)]).map (·.1)).zip (fs++[.ref p])) :=
  ⟨by rw[av (np X.firsts.2)];exact X.firsts.1,by rw[ae,e,ku];rfl⟩
 have hl:Ft i (aC c p (some (i,.cM n))) (upd (upd H p (.lst (tx.map V.str))) aF (.dK (putK (a8 ((st.firsts.map (·.1)).zip fs)) (kq (n:Int)) (.ref p)))) (n,tx) (.ref p) :=
  ⟨p,rfl,aV,(aw (np X.firsts.2).symm).trans ae⟩
 exact⟨s,k.1,k.2,X.made.kp rfl s,sI s X.mot,X.aq.kp rfl s,X.ay.kp rfl s,kU (λ_ _=>rfl) s X.wait,X.dec.kp rfl s,jg s X.mQ,hd,(uE (λ_ _=>rfl) s X.first).snoc hl,X.kT.kp rfl s,wC (λ_ _=>rfl) s X.kept,X.rows.kp rfl s⟩
theorem ChX.Ta (X:ChX A i c H o st dx aM aP aA aD aF aE aR ms ds ws fs es){n:Nat}{p:Addr}(hp:H p=none)(hn:n∉st.kept.map (·.1)) :
  Step (Wr i abp) c (aC c p (some (i,.gG n))) H (upd (upd H p (.lst [])) aE (.dK (putK (a8 ((st.kept.map (·.1)).zip es)) (kq (n:Int)) (.ref p)))) /\
  ChX A i (aC c p (some (i,.gG n))) (upd (upd H p (.lst [])) aE (.dK (putK (a8 ((st.kept.map (·.1)).zip es)) (kq (n:Int)) (.ref p)))) o { st with kept:=st.kept++[(n,([]:List Ed))] } dx aM aP aA aD aF aE aR ms ds ws fs (es++[.ref p]):=by
 have np:∀ {a:Addr} {v:HO},H a=some v->a≠p:=λe=>aJ e hp
 have s:Step (Wr i abp) c (aC c p (some (i,.gG n))) H (upd (upd H p (.lst [])) aE (.dK (putK (a8 ((st.kept.map (·.1)).zip es)) (kq (n:Int)) (.ref p)))) :=
  (Step.new Wr.nn hp).trans (Step.upd Wr.nn ⟨.kept,by rw[av (np X.kT.2)];exact X.kT.1,rfl⟩)
 have k:=mO rfl s X.co X.ob;have e:=pT (v:=.ref p) hn (vs:=es) (by rw[bo];exact X.kept.len)
 have hd:jt i (aC c p (some (i,.gG n))) (upd (upd H p (.lst [])) aE (.dK (putK (a8 ((st.kept.map (·.1)).zip es)) (kq (n:Int)) (.ref p)))) .kept aE (((st.kept++[(n,([]:List Ed))]).map (·.1)).zip (es++[.ref p])) :=
  ⟨by rw[av (np X.kT.2)];exact X.kT.1,by rw[ae,e,ku];rfl⟩
 have hl:MF i (aC c p (some (i,.gG n))) (upd (upd H p (.lst [])) aE (.dK (putK (a8 ((st.kept.map (·.1)).zip es)) (kq (n:Int)) (.ref p)))) (n,[]) (.ref p) :=
  ⟨p,[],rfl,⟨aV,(aw (np X.kT.2).symm).trans ae⟩,.nil⟩
 exact⟨s,k.1,k.2,X.made.kp rfl s,sI s X.mot,X.aq.kp rfl s,X.ay.kp rfl s,kU (λ_ _=>rfl) s X.wait,X.dec.kp rfl s,jg s X.mQ,X.firsts.kp rfl s,uE (λ_ _=>rfl) s X.first,hd,(wC (λ_ _=>rfl) s X.kept).snoc hl,X.rows.kp rfl s⟩
def Ch.lW (st:Ch)(n:Nat)(u:Int):Ch:={ st with aq:=[],ay:=st.ay++[(n,u,st.aq)] }
theorem ChX.lW (X:ChX A i c H o st dx aM aP aA aD aF aE aR ms ds ws fs es){n:Nat}{u:Int}{t p:Addr}(ht:H t=none)(hp:H p=none)(ntp:p≠t)(hn:n∉st.ay.map (·.1)) :
  ∃c',Step (Wr i S8) c c' H (upd (upd (upd (upd H t (.tup [.int u,.ref aP])) aA (.dK (putK (a8 ((st.ay.map (·.1)).zip ws)) (kq (n:Int)) (.ref t)))) p (.lst [])) o (.ins A.ax dx (chF (.int st.cC) (.int st.aI) (.bl st.closed) (.ref aM) (.ref p) (.ref aA) (.ref aD) (.ref aF) (.ref aE) (.ref aR)))) /\
  ChX A i c' (upd (upd (upd (upd H t (.tup [.int u,.ref aP])) aA (.dK (putK (a8 ((st.ay.map (·.1)).zip ws)) (kq (n:Int)) (.ref t)))) p (.lst [])) o (.ins A.ax dx (chF (.int st.cC) (.int st.aI) (.bl st.closed) (.ref aM) (.ref p) (.ref aA) (.ref aD) (.ref aF) (.ref aE) (.ref aR)))) o (st.lW n u) dx aM p aA aD aF aE aR ms ds (ws++[.ref t]) fs es:=by
 have nt:∀ {a:Addr} {v:HO},H a=some v->a≠t:=λe=>aJ e ht
 have np:∀ {a:Addr} {v:HO},H a=some v->a≠p:=λe=>aJ e hp
 have oA:o≠aA:=dB X.co X.ay.1 (λz=>nomatch z)
 have oP:o≠aP:=dB X.co X.aq.1 (λz=>nomatch z)
 have AP:aA≠aP:=dB X.ay.1 X.aq.1 (λz=>nomatch z)
 have e:=pT (v:=.ref t) hn (vs:=ws) (by rw[bo];exact X.wait.len)
 have hp2:(upd (upd H t (.tup [.int u,.ref aP])) aA (.dK (putK (a8 ((st.ay.map (·.1)).zip ws)) (kq (n:Int)) (.ref t)))) p=none:=by
  rw[aw (np X.ay.2).symm,aw ntp];exact hp
 refine⟨aC (aC (aC c t none) p (some (i,.aq))) aP (some (i,.eN n)),?_⟩;have s:Step (Wr i S8) c (aC (aC (aC c t none) p (some (i,.aq))) aP (some (i,.eN n))) H (upd (upd (upd (upd H t (.tup [.int u,.ref aP])) aA (.dK (putK (a8 ((st.ay.map (·.1)).zip ws)) (kq (n:Int)) (.ref t)))) p (.lst [])) o (.ins A.ax dx (chF (.int st.cC) (.int st.aI) (.bl st.closed) (.ref aM) (.ref p) (.ref aA) (.ref aD) (.ref aF) (.ref aE) (.ref aR)))):=by
  refine((((Step.new Wr.nn ht).trans (Step.upd Wr.nn ⟨.ay,?_,rfl⟩)).trans (Step.new Wr.nn hp2)).trans (Step.upd Wr.nn ⟨.ob,?_,rfl⟩)).trans (Step.role Wr.nn ⟨.aq,?_,rfl⟩)
  ·rw[av (nt X.ay.2)];exact X.ay.1
  ·rw[av (np X.ob),av (nt X.ob)];exact X.co
  ·rw[av (np X.aq.2),av (nt X.aq.2)];exact X.aq.1
 have k1:aC (aC (aC c t none) p (some (i,.aq))) aP (some (i,.eN n)) o=some (i,.ob):=by
  rw[av oP,av (np X.ob),av (nt X.ob)];exact X.co
 have hd:jt i (aC (aC (aC c t none) p (some (i,.aq))) aP (some (i,.eN n))) (upd (upd (upd (upd H t (.tup [.int u,.ref aP])) aA (.dK (putK (a8 ((st.ay.map (·.1)).zip ws)) (kq (n:Int)) (.ref t)))) p (.lst [])) o (.ins A.ax dx (chF (.int st.cC) (.int st.aI) (.bl st.closed) (.ref aM) (.ref p) (.ref aA) (.ref aD) (.ref aF) (.ref aE) (.ref aR)))) .ay aA (((st.ay++[(n,u,st.aq)]).map (·.1)).zip (ws++[.ref t])) :=
  ⟨by rw[av AP,av (np X.ay.2),av (nt X.ay.2)];exact X.ay.1,by rw[aw oA.symm,aw (np X.ay.2),ae,e,ku];rfl⟩
 have hl:LstAt i (aC (aC (aC c t none) p (some (i,.aq))) aP (some (i,.eN n))) (upd (upd (upd (upd H t (.tup [.int u,.ref aP])) aA (.dK (putK (a8 ((st.ay.map (·.1)).zip ws)) (kq (n:Int)) (.ref t)))) p (.lst [])) o (.ins A.ax dx (chF (.int st.cC) (.int st.aI) (.bl st.closed) (.ref aM) (.ref p) (.ref aA) (.ref aD) (.ref aF) (.ref aE) (.ref aR)))) (.eN n) aP (st.aq.map nV) :=
  ⟨aV,by rw[aw oP.symm,aw (np X.aq.2),aw AP.symm,aw (nt X.aq.2)];exact X.aq.2⟩
 have hn':LstAt i (aC (aC (aC c t none) p (some (i,.aq))) aP (some (i,.eN n))) (upd (upd (upd (upd H t (.tup [.int u,.ref aP])) aA (.dK (putK (a8 ((st.ay.map (·.1)).zip ws)) (kq (n:Int)) (.ref t)))) p (.lst [])) o (.ins A.ax dx (chF (.int st.cC) (.int st.aI) (.bl st.closed) (.ref aM) (.ref p) (.ref aA) (.ref aD) (.ref aF) (.ref aE) (.ref aR)))) .aq p [] :=
  ⟨by rw[av (np X.aq.2).symm,aV],by rw[aw (np X.ob).symm,ae]⟩
 have htt:TupAt (aC (aC (aC c t none) p (some (i,.aq))) aP (some (i,.eN n))) (upd (upd (upd (upd H t (.tup [.int u,.ref aP])) aA (.dK (putK (a8 ((st.ay.map (·.1)).zip ws)) (kq (n:Int)) (.ref t)))) p (.lst [])) o (.ins A.ax dx (chF (.int st.cC) (.int st.aI) (.bl st.closed) (.ref aM) (.ref p) (.ref aA) (.ref aD) (.ref aF) (.ref aE) (.ref aR)))) t [.int u,.ref aP] :=
  ⟨by rw[av (nt X.aq.2).symm,av ntp.symm,aV],.inl (by rw[aw (nt X.ob).symm,aw ntp.symm,aw (nt X.ay.2).symm,ae])⟩
 exact⟨s,k1,ae,X.made.kp rfl s,sI s X.mot,hn',hd,(kU (λ_ _=>rfl) s X.wait).snoc ⟨t,aP,rfl,htt,hl⟩,X.dec.kp rfl s,jg s X.mQ,X.firsts.kp rfl s,uE (λ_ _=>rfl) s X.first,X.kT.kp rfl s,wC (λ_ _=>rfl) s X.kept,X.rows.kp rfl s⟩
def Ch.q9 (st:Ch)(n:Nat)(pl:List Nat):Ch:={ st with aq:=pl,ay:=st.ay.filter λx=>decide (x.1≠n) }
theorem ChX.waitOf (X:ChX A i c H o st dx aM aP aA aD aF aE aR ms ds ws fs es){n:Nat}{x:Nat×Int×List Nat}(hx:at1 n st.ay=some x):∃t p,gL (a8 ((st.ay.map (·.1)).zip ws)) (kq (n:Int))=some (.ref t)/\TupAt c H t [.int x.2.1,.ref p]/\LstAt i c H (.eN n) p (x.2.2.map nV):=by
 obtain⟨v,h1,t,p,rfl,h2,h3⟩:=X.wait.val hx;rw[(ji hx).1]at h3;exact⟨t,p,h1,h2,h3⟩
theorem ChX.q9 (X:ChX A i c H o st dx aM aP aA aD aF aE aR ms ds ws fs es){n:Nat}{p:Addr}{pl:List Nat}(hl:LstAt i c H (.eN n) p (pl.map nV)) :
  ∃c' ws',Step (Wr i (ML n)) c c' H (upd (upd H aA (.dK (iJ (a8 ((st.ay.map (·.1)).zip ws)) (kq (n:Int))))) o (.ins A.ax dx (chF (.int st.cC) (.int st.aI) (.bl st.closed) (.ref aM) (.ref p) (.ref aA) (.ref aD) (.ref aF) (.ref aE) (.ref aR)))) /\
  ChX A i c' (upd (upd H aA (.dK (iJ (a8 ((st.ay.map (·.1)).zip ws)) (kq (n:Int))))) o (.ins A.ax dx (chF (.int st.cC) (.int st.aI) (.bl st.closed) (.ref aM) (.ref p) (.ref aA) (.ref aD) (.ref aF) (.ref aE) (.ref aR)))) o (st.q9 n pl) dx aM p aA aD aF aE aR ms ds ws' fs es:=by
 have oA:o≠aA:=dB X.co X.ay.1 (λz=>nomatch z)
 have op:o≠p:=dB X.co hl.1 (λz=>nomatch z)
 have Ap:aA≠p:=dB X.ay.1 hl.1 (λz=>nomatch z)
 obtain⟨ws',e1,e2⟩:=X.wait.drop (n:=n);refine⟨aC c p (some (i,.aq)),ws',?_⟩;have s:Step (Wr i (ML n)) c (aC c p (some (i,.aq))) H (upd (upd H aA (.dK (iJ (a8 ((st.ay.map (·.1)).zip ws)) (kq (n:Int))))) o (.ins A.ax dx (chF (.int st.cC) (.int st.aI) (.bl st.closed) (.ref aM) (.ref p) (.ref aA) (.ref aD) (.ref aF) (.ref aE) (.ref aR)))) :=
  ((Step.upd Wr.nn ⟨.ay,X.ay.1,rfl⟩).trans (Step.upd Wr.nn ⟨.ob,X.co,rfl⟩)).trans (Step.role Wr.nn ⟨.eN n,hl.1,decide_eq_true rfl⟩)
 have k1:aC c p (some (i,.aq)) o=some (i,.ob):=by rw[av op];exact X.co
 have hd:jt i (aC c p (some (i,.aq))) (upd (upd H aA (.dK (iJ (a8 ((st.ay.map (·.1)).zip ws)) (kq (n:Int))))) o (.ins A.ax dx (chF (.int st.cC) (.int st.aI) (.bl st.closed) (.ref aM) (.ref p) (.ref aA) (.ref aD) (.ref aF) (.ref aE) (.ref aR)))) .ay aA (((st.ay.filter λx=>decide (x.1≠n)).map (·.1)).zip ws') :=
  ⟨by rw[av Ap];exact X.ay.1,by rw[aw oA.symm,ae,e1]⟩
 have hpl:LstAt i (aC c p (some (i,.aq))) (upd (upd H aA (.dK (iJ (a8 ((st.ay.map (·.1)).zip ws)) (kq (n:Int))))) o (.ins A.ax dx (chF (.int st.cC) (.int st.aI) (.bl st.closed) (.ref aM) (.ref p) (.ref aA) (.ref aD) (.ref aF) (.ref aE) (.ref aR)))) .aq p (pl.map nV) :=
  ⟨aV,by rw[aw op.symm,aw Ap.symm];exact hl.2⟩
 exact⟨s,k1,ae,X.made.kp rfl s,sI s X.mot,hpl,hd,kU (λx hx=>decide_eq_false (of_decide_eq_true (List.mem_filter.mp hx).2)) s e2,X.dec.kp rfl s,jg s X.mQ,X.firsts.kp rfl s,uE (λ_ _=>rfl) s X.first,X.kT.kp rfl s,wC (λ_ _=>rfl) s X.kept,X.rows.kp rfl s⟩
end
end My
set_option maxHeartbeats 1000000
namespace My
open PySem L2
seal PySem.wpAny
def yc (i:Nat)(c:Col)(H:Hp)(t:Addr)(xs:List V):Prop:=¬dG i (c t)/\H t=some (.tup xs)
def Ny (i:Nat)(c:Col)(H:Hp)(t:Addr)(xs:List V):Prop:=¬dG i (c t)/\H t=some (.lst xs)
def pU (i:Nat)(c:Col)(H:Hp):R.eT->Addr->Prop
 | .mat cs,t=>∃L,yc i c H t [.str (ar "matter"),.ref L]/\Ny i c H L ((cs.map (sr R.bl1)).map V.str)
 | .ed m k j ws,t=>∃e,yc i c H t [.str (R.kEd m),.ref e]/\TupAt c H e (R.edR k j (sr R.bl1 ws))
 | .pt ws,t=>yc i c H t [.str (ar "point"),.str (sr R.bl1 ws)]
 | .nums kd ns,t=>yc i c H t (.str kd::ns.map V.int)
section
variable{i:Nat}{c c':Col}{H H':Hp}{t:Addr}{xs:List V}
theorem yc.step (s:Step (dG i) c c' H H')(h:yc i c H t xs):yc i c' H' t xs:=⟨by rw[s.col t _ h.2 h.1];exact h.1,s.keep _ _ h.2 h.1⟩
theorem Ny.step (s:Step (dG i) c c' H H')(h:Ny i c H t xs):Ny i c' H' t xs:=⟨by rw[s.col t _ h.2 h.1];exact h.1,s.keep _ _ h.2 h.1⟩
theorem pU.step (s:Step (dG i) c c' H H'):∀ {d:R.eT},pU i c H d t->pU i c' H' d t
 | .mat _,⟨L,a,b⟩=>⟨L,a.step s,b.step s⟩
 | .ed _ _ _ _,⟨e,a,b⟩=>⟨e,a.step s,b.step s⟩
 | .pt _,h=>yc.step s h
 | .nums _ _,h=>yc.step s h
theorem pU.at {K:ba}:∀ {d:R.eT},pU i c H d t->R.sF K H d t
 | .mat _,⟨L,a,b⟩=>⟨L,SqT.of a.2,SqL.of b.2⟩
 | .ed _ _ _ _,⟨e,a,b⟩=>⟨e,SqT.of a.2,b.sq⟩
 | .pt _,h=>SqT.of h.2
 | .nums _ _,h=>SqT.of h.2
end
theorem Fy {k:Nat}{j:Int}{x:Str}(h:k=0\/k=1\/k=2):R.edR k j x=gg ⟨k,j,x⟩:=by
 rcases h with rfl | rfl | rfl <;> rfl
theorem gh {t1 t2:TS}{D:Ends}{σ:St}{H:Hp}(J:St->Hp->Prop)(h2:∀σ' H',J σ' H'->t2 D σ' H')(h1:∀N:St->Hp->Prop,(∀σ' H',J σ' H'->N σ' H')->t1 { D with nx:=N } σ H):aan t1 t2 D σ H:=h1 (t2 D) h2
def Ch.opened (st:Ch):Ch:={ st with closed:=if st.aq=[] then false else st.closed }
def Ch.uY (st:Ch)(row:Str):Ch:={ st.opened with rows:=st.rows++[row] }
def QA (A:Adr)(i:Nat):Sp:=λvs H Q _=>∃(o t:Addr) (c:Col) (st:Ch) (d:R.eT),vs=[.ref o,.ref t]/\f6 A i c H o st/\pU i c H d t/\R.DOk d/\st.rows.length<=1000 /\
 ∀c' H',Step (dG i) c c' H H'->f6 A i c' H' o (st.uY (R.sG d))->Q .non H'
def QB (A:Adr)(i:Nat):Sp:=λvs H Q _=>∃(o:Addr) (u:Int) (c:Col) (st:Ch) (n:Nat) (r:List Nat),vs=[.ref o,.int u]/\f6 A i c H o st/\st.aq=n::r/\n∉st.ay.map (·.1)/\st.ay.length<=1000 /\
 ∀c' H',Step (dG i) c c' H H'->f6 A i c' H' o (st.lW n u)->Q .non H'
def Ch.QC (st:Ch)(n:Nat)(tx:List Str)(e:Ed):Ch:={ st with made:=st.made.set (n - 1) (.mat (bH tx e)),kept:=rD n e st.kept }
def QD (A:Adr)(i:Nat):Sp:=λvs H Q _=>∃(o t:Addr) (c:Col) (st:Ch) (n:Nat) (r:List Nat) (tx:List Str) (e:Ed) (x:Nat×List Ed),vs=[.ref o,.ref t]/\f6 A i c H o st/\st.aq=n::r/\dI st n/\st.mo n=.mat tx/\tx.length<=1000/\st.made.length<=1000 /\
 TupAt c H t (gg e)/\rB e/\gD tx.length e=true/\at1 n st.kept=some x/\x.2.length<=1000/\(st.kept.map (·.1)).Nodup /\
 ∀c' H',Step (dG i) c c' H H'->f6 A i c' H' o (st.QC n tx e)->Q .non H'
def Ch.QE (st:Ch)(n:Nat)(e:Ed)(ws:List Str):Ch:={ st with made:=st.made.set (n - 1) (.chg ⟨e.k,e.at_,sr R.bl1 ws⟩) }
def QF (A:Adr)(i:Nat):Sp:=λvs H Q _=>∃(o t:Addr) (c:Col) (st:Ch) (n:Nat) (r:List Nat) (e f:Ed),vs=[.ref o,.ref t]/\f6 A i c H o st/\st.aq=r++[n]/\dI st n/\st.mo n=.chg e/\e.k≠1/\rB e/\(R.bh e.th).length<=1000/\st.made.length<=1000 /\
 TupAt c H t (gg f)/\rB f/\gD (R.bh e.th).length f=true/\((bH (R.bh e.th) f).map (·.length)).sum+(bH (R.bh e.th) f).length<=16777216 /\
 ∀c' H',Step (dG i) c c' H H'->f6 A i c' H' o (st.QE n e (bH (R.bh e.th) f))->Q .non H'
theorem ChX.W3 {A:Adr}{i:Nat}{c:Col}{H:Hp}{o dx aM aP aA aD aF aE aR:Addr}{st:Ch}{ms ds:List Addr}{ws fs es:List V}(X:ChX A i c H o st dx aM aP aA aD aF aE aR ms ds ws fs es){n:Nat}(hn:dI st n) :
  ∃x,gL (a8 ((akL 1 st.made.length).zip (ms.map V.ref))) (kq (n:Int))=some (.ref x)/\mP A c H (st.mo n) x:=by
 have ml:=X.mot.len;have hlt:n - 1 < st.made.length:=by have:=hn.1;have:=hn.2;omega
 obtain⟨x,e1,e2⟩:=X.mot.get (wt hlt);have hv:=Ca ms 1 (n - 1) e1;rw[<-ml,show 1+(n - 1)=n by have:=hn.1;omega]at hv
 have e3:st.mo n=st.made[n - 1]:=by unfold Ch.mo;rw[akw,wt hlt];rfl
 exact⟨x,hv,by rw[e3];exact e2⟩
section
variable{P:me}{w:World}{K:ba}{mg:Str->Option Value}{base:Heap}{A:Adr}
theorem rg (T:Txt w.params K mg A){i:Nat}:aO P w K mg base CX0 5 A.bg A.cx ["self","deed"] (QA A i):=by
 have kX:aO P w K mg base CX0 4 A.mf A.gZ ["deed"] (R.Fs K):=R.qK T;refine T.cE.ok oX (λvs H Q E h=>?_) (λcdv A' outer s H vs Q E hr h=>?_)
 ·obtain⟨o,t,c,st,d,rfl,_⟩:=h;rfl
 ·obtain⟨o,t,c,st,d,rfl,hc,hd,hk,hl,q⟩:=h;have jj:=hr;refine⟨_,(ai (a7 (qo (rQ (br (pv 0) rfl) (λ_=>rfl)))
 (aj (eA (pv 0) g9 rfl))
 aH)
 (aj (bL (hG rf akB akC cU (br (pv 0) rfl) (aa (aW kX jj rfl T.nL T.kP.kp T.nK .nil aZ (aa (pv 1) ah)) ah))))),?_⟩
  have lim:kf=16777216:=by decide
  refine gh (λσ' H'=>σ'=[some (.ref o),some (.ref t)]/\Step (dG i) c c H H'/\f6 A i c H' o st.opened) ?r (λN nN=>?f)
  case f =>
   refine hide λGg hGg=>?_
   obtain⟨dx,aM,aP,aA,aD,aF,aE,aR,ms,ds,ws,fs,es,X⟩:=hc.ex;refine hGg ?_;refine eZ rfl X.ob T.au T.jq0 eO ?_;refine⟨_,.inl ⟨_,.inl (.inl X.aq.2),rfl⟩,?_⟩;cases e:st.aq with
   |nil =>
    refine dJ ⟨_,rfl,o,A.ax,dx,_,rfl,X.ob,T.au,T.jq3,(by show 10 < 1000;decide),?_⟩
    rw[B9];obtain⟨s1,X1⟩:=X.attr st.aI false;refine nN _ _ ⟨rfl,s1.ie,?_⟩;have e1:st.opened={ st with aI:=st.aI,closed:=false }:=by unfold Ch.opened;rw[e,if_pos rfl]
    rw[e1];exact X1.at
   |cons x r =>
    refine bS (nN _ _ ⟨rfl,Step.refl aU,?_⟩);have e1:st.opened=st:=by unfold Ch.opened;rw[e,if_neg (akH _ _)];cases st;cases e;rfl
    rw[e1];exact hc
  case r =>
   rintro σ' H1 ⟨rfl,s1,hc1⟩;refine hide λGg hGg=>?_
   obtain⟨dx,aM,aP,aA,aD,aF,aE,aR,ms,ds,ws,fs,es,X⟩:=hc1.ex;refine hGg ?_;refine eZ rfl X.ob T.au T.jqk wD ?_;refine⟨.inl ⟨rfl,_,SqL.of X.rows.2⟩,_,rfl,t,d,rfl,(hd.step s1).at,hk,λH2 s2=>?_⟩
   have X2:=X.same s2;obtain⟨s3,X3⟩:=X2.row (R.sG d);refine⟨aR,_,_,rfl,rfl,X2.rows.2,by rw[bo];show st.rows.length < _;omega,?_⟩
   exact q c _ ((s1.trans (Step.same aU s2)).trans s3.ie) X3.at
theorem Fz (T:Txt w.params K mg A){i:Nat}:aO P w K mg base CX0 1 A.bB A.d0 ["self","until"] (QB A i):=by
 refine T.dc.ok rX (λvs H Q E h=>?_) (λcdv A' outer s H vs Q E hr h=>?_)
 ·obtain⟨o,u,c,st,n,r,rfl,_⟩:=h;rfl
 ·obtain⟨o,u,c,st,n,r,rfl,hc,hp,hn,hl,q⟩:=h;obtain⟨dx,aM,aP,aA,aD,aF,aE,aR,ms,ds,ws,fs,es,X⟩:=hc.ex;have hu1:=hr.u1;have lim:kf=16777216:=by decide
  refine⟨_,(ai (ip hu1 (br (pv 0) rfl) (aK bw (br (pv 0) rfl) af (λ_ _=>rfl)) (bj (aa (pv 1) (aa (br (pv 0) rfl) ah))) rfl)
 (aj (eA (pv 0) (bI ah) rfl))),?_⟩
  refine⟨_,rfl,eZ rfl X.ob T.au T.jq0 eO ⟨(sl 2),λt ht=>?_⟩⟩
  have s1:=aB (o:=.tup [V.int u,.ref aP]) ht;refine eZ rfl (s1 _ _ X.ob) T.au T.jq2 jM ?_;have h0:atI (st.aq.map nV) 0=some (nV n):=by rw[hp];exact dD (j:=0) rfl
  refine eZ rfl (s1 _ _ X.ob) T.au T.jq0 eO ⟨aP,_,_,_,rfl,rfl,SqL.of (s1 _ _ X.aq.2),h0,?_⟩;refine⟨aA,_,rfl,oU.k (k:=kq (n:Int)) (s1 _ _ X.ay.2) ?_,?_⟩
  ·unfold a8;rw[bo,alF,bo];omega
  have oA:o≠aA:=dB X.co X.ay.1 (λz=>nomatch z)
  refine⟨(sl 0),λp hp0=>?_⟩
  have npA:p≠aA:=λz=>by rw[z,ae]at hp0;cases hp0
  have npt:p≠t:=λz=>by rw[aw npA,z,ae]at hp0;cases hp0
  have hp1:H p=none:=by rw[aw npA,aw npt]at hp0;exact hp0
  have hob:(upd (upd (upd H t (.tup [V.int u,.ref aP])) aA (.dK (putK (a8 ((st.ay.map (·.1)).zip ws)) (kq (n:Int)) (.ref t)))) p (.lst [])) o=some (.ins A.ax dx (chF (.int st.cC) (.int st.aI) (.bl st.closed) (.ref aM) (.ref aP) (.ref aA) (.ref aD) (.ref aF) (.ref aE) (.ref aR))):=by
   rw[aw (aJ X.ob hp1),aw oA];exact s1 _ _ X.ob
  refine⟨_,rfl,o,A.ax,dx,_,rfl,hob,T.au,T.jq0,(by show 10 < 1000;decide),?_⟩
  rw[GY];refine hide λGg hGg=>?_
  obtain⟨c',s2,X2⟩:=X.lW (u:=u) ht hp1 npt hn;refine hGg ?_;exact q c' _ s2.ie X2.at
theorem yd (T:Txt w.params K mg A){i:Nat}:aO P w K mg base CX0 4 A.bp A.cQ ["self","edit"] (QD A i):=by
 have Qp:aO P w K mg base CX0 1 A.Nr A.DG ["self","text"] (AF A K):=B4 T;have Kv:aO P w K mg base (CXX P w) 3 A.laid A.vP ["things","edit"] (Kr A K):=Mt T;refine T.cy.ok ia (λvs H Q E h=>?_) (λcdv A' outer s H vs Q E hr h=>?_)
 ·obtain⟨o,t,c,st,n,r,tx,e,x,rfl,_⟩:=h;rfl
 ·obtain⟨o,t,c,st,n,r,tx,e,x,rfl,hc,hp,hn,hm,htx,hml,ht,he,hf,hx,hxl,hnd,q⟩:=h;obtain⟨dx,aM,aP,aA,aD,aF,aE,aR,ms,ds,ws,fs,es,X⟩:=hc.ex;have hu1:=hr.u1;have FA:Room 3 _:=hr;have fj:Room 2 _:=hr.mono (by decide)
  have lim:kf=16777216:=by decide
  refine⟨_,(ai (a6 (i:=2) ia.nd rfl (Lk rfl) (aK bw (br (pv 0) rfl) af (λ_ _=>rfl)))
 (ai (ip hu1 (br (pv 0) rfl) (pv 2) (gK T.wy Qp fj rfl T.wq T.SQ .nil aZ (aa (aW Kv FA rfl T.Km T.Fb.kp T.Kl .nil Pf (aa (br (bc hu1 (br (pv 0) rfl) (pv 2) (λ_ _=>rfl)) rfl) (aa (pv 1) ah))) ah)) rfl)
 (aj (bL (hG rf akB akC cU (bc hu1 (br (pv 0) rfl) (pv 2) (λ_ _=>rfl)) (aa (pv 1) ah)))))),?_⟩
  refine hide λGg hGg=>?_
  have h0:atI (st.aq.map nV) 0=some (nV n):=by rw[hp];exact dD (j:=0) rfl
  obtain⟨m,hv,hmo⟩:=X.W3 hn;rw[hm]at hmo;obtain⟨_,dm,v,W4,L,rfl,hL⟩:=hmo;refine hGg ?_;refine eZ rfl X.ob T.au T.jq0 eO ⟨aP,_,_,_,rfl,rfl,SqL.of X.aq.2,h0,?_⟩;refine⟨_,rfl,o,A.ax,dx,_,.ref aM,rfl,X.ob,T.au,T.jq4,kW,_,rfl,aM,_,rfl,.inl ⟨_,kq (n:Int),.inl X.made.2,rfl,hv.symm⟩,?_⟩;refine⟨m,A.C 0,dm,_,.ref L,rfl,W4,T.cl 0 (by decide),T.na0,rfl,_,rfl,?_⟩
  refine⟨L,t,tx,e,rfl,SqL.of hL.2,htx,ht.sq,he,λ_ p hp0=>?_,λz=>by rw[hf]at z;cases z⟩
  refineλy dy hy hdy ndy=>?_
  refine⟨y,dy,p,(bH tx e).map V.str,rfl,ae,?_,λp2 hp2=>⟨rfl,?_⟩⟩
  ·exact(((aB hdy).new ((aw (akI ndy)).trans hy)).seq (SqL.of ae))
  have hy0:H y=none:=by
   by_cases z:y=p
   ·rw[z,ae]at hy;cases hy
   ·rw[aw z]at hy;exact hy
  have aim:H dy=none:=by
   by_cases z:dy=p
   ·rw[z,ae]at hdy;cases hdy
   ·rw[aw z]at hdy;exact hdy
  have sm0:bu H (upd (upd (upd H p (.lst ((bH tx e).map V.str))) dy (.own y)) y (.ins (A.C 0) dy [])):=((aB hp0).own aim).own hy0;have abq:H p2=none:=by
   cases z:H p2 with
   |none=>rfl
   |some v=>rw[sm0 _ _ z]at hp2;cases hp2
  have sm:bu H (upd (upd (upd (upd (upd H p (.lst ((bH tx e).map V.str))) dy (.own y)) y (.ins (A.C 0) dy [])) p2 (.lst ((bH tx e).map V.str))) y (.ins (A.C 0) dy (pP 0 (.ref p2)))):=(sm0.own abq).own hy0;have nyp:y≠p2:=λz=>by rw[<-z,ae]at hp2;cases hp2
  have X1:=X.cl sm;have hmn:mP A (cc c H) (upd (upd (upd (upd (upd H p (.lst ((bH tx e).map V.str))) dy (.own y)) y (.ins (A.C 0) dy [])) p2 (.lst ((bH tx e).map V.str))) y (.ins (A.C 0) dy (pP 0 (.ref p2)))) (.mat (bH tx e)) y :=
   ⟨bY hy0,dy,.ref p2,ae,p2,rfl,bY abq,(aw (akI nyp)).trans ae⟩
  have st1:Step (dG i) c (cc c H) H _:=Step.cl aU sm;have ht1:=ht.step st1;generalize upd (upd (upd (upd (upd H p (.lst ((bH tx e).map V.str))) dy (.own y)) y (.ins (A.C 0) dy [])) p2 (.lst ((bH tx e).map V.str))) y (.ins (A.C 0) dy (pP 0 (.ref p2)))=H1 at X1 hmn st1 ht1 ⊢;generalize cc c H=c1 at X1 hmn st1 ht1;refine eZ rfl X1.ob T.au T.jq4 kW ⟨_,rfl,aM,_,rfl,oU.k (k:=kq (n:Int)) X1.made.2 ?_,?_⟩
  ·unfold a8;rw[bo,alF,ak9];omega
  obtain⟨s2,X2⟩:=X1.MM hn hmn;have ht2:=ht1.step s2.ie;generalize upd H1 aM (.dK (putK (a8 ((akL 1 st.made.length).zip (ms.map V.ref))) (kq (n:Int)) (.ref y)))=H2 at s2 X2 ht2 ⊢;refine hide λGg hGg=>?_
  obtain⟨pk,ts,hv2,hl2,tl⟩:=X2.f7 hx;refine hGg ?_;refine⟨_,rfl,o,A.ax,dx,_,.ref aE,rfl,X2.ob,T.au,T.jq5,sJ,_,rfl,aE,_,rfl,.inl ⟨_,kq (n:Int),.inl X2.kT.2,rfl,hv2.symm⟩,?_⟩;refine⟨.inl ⟨rfl,_,SqL.of hl2.2⟩,_,rfl,pk,_,_,rfl,rfl,hl2.2,by rw[bo];omega,?_⟩
  obtain⟨s3,X3⟩:=X2.Fx hv2 hl2 hnd ht2;exact q c1 _ ((st1.trans s2.ie).trans s3.ie) X3.at
theorem ye (T:Txt w.params K mg A){i:Nat}:aO P w K mg base CX0 4 A.bq A.cS ["self","edit"] (QF A i):=by
 have Qq:aO P w K mg base CX0 1 A.Nt A.DH ["self","edit"] (jL A 1):=mM T;have Kv:aO P w K mg base (CXX P w) 3 A.laid A.vP ["things","edit"] (Kr A K):=Mt T;have fm:aO P w K mg base CX0 1 A.words_of A.eV ["clause"] R.fY:=R.kS T;have sH:aO P w K mg base CX0 1 A.pE A.i3 ["words"] (R.uT K):=R.wB T;refine T.cz.ok cP (λvs H Q E h=>?_) (λcdv A' outer s H vs Q E hr h=>?_)
 ·obtain⟨o,t,c,st,n,r,e,f,rfl,_⟩:=h;rfl
 ·obtain⟨o,t,c,st,n,r,e,f,rfl,hc,hp,hn,hm,hk1,heo,hwl,hml,ht,hfo,hf,hsz,q⟩:=h;obtain⟨dx,aM,aP,aA,aD,aF,aE,aR,ms,ds,ws,fs,es,X⟩:=hc.ex;have hu1:=hr.u1;have FA:Room 3 _:=hr;have fj:Room 2 _:=hr.mono (by decide)
  have d7:Room 1 _:=hr.mono (by decide)
  have qL:Room 1 _:=hr.mono (by decide)
  have lim:kf=16777216:=by decide
  refine⟨_,(ai (a6 (i:=2) cP.nd rfl (Lk rfl) (aK bw (br (pv 0) rfl) (mj iA af) (λ_ _=>rfl)))
 (ai (a6 (i:=3) cP.nd rfl (Lk rfl) (br (bc hu1 (br (pv 0) rfl) (pv 2) (λ_ _=>rfl)) rfl))
 (ai (a6 (i:=4) cP.nd rfl (Lk rfl) (aW Kv FA rfl T.Km T.Fb.kp T.Kl .nil Pf (aa (aW fm d7 rfl T.jI T.iD.kp T.jH .nil aZ (aa (aK aN (pv 3) af (λ_ _=>rfl)) ah)) (aa (pv 1) ah))))
 (aj (ip hu1 (br (pv 0) rfl) (pv 2) (gK T.wz Qq fj rfl T.wu T.SR .nil aZ (aa (bj (aa (aK aN (pv 3) af (λ_ _=>rfl)) (aa (aK aN (pv 3) af (λ_ _=>rfl)) (aa (aW sH qL rfl T.r9 T.nI.kp T.r8 .nil aZ (aa (pv 4) ah)) ah)))) ah)) rfl))))),?_⟩
  refine hide λGg hGg=>?_
  have h0:atI (st.aq.map nV) (-1)=some (nV n):=by rw[hp,ku];exact gq _ _
  obtain⟨m,hv,hmo⟩:=X.W3 hn;rw[hm]at hmo;obtain⟨_,dm,v,W4,te,rfl,hte⟩:=hmo;refine hGg ?_;refine⟨_,rfl,o,A.ax,dx,_,.ref aP,rfl,X.ob,T.au,T.jq0,eO,_,rfl,aP,_,_,_,rfl,rfl,SqL.of X.aq.2,h0,?_⟩;refine⟨_,rfl,o,A.ax,dx,_,.ref aM,rfl,X.ob,T.au,T.jq4,kW,_,rfl,aM,_,rfl,.inl ⟨_,kq (n:Int),.inl X.made.2,rfl,hv.symm⟩,?_⟩;refine⟨m,A.C 1,dm,_,.ref te,rfl,W4,T.cl 1 (by decide),T.na1,rfl,?_⟩
  have h2:=uQ (e:=e) hk1;refine ixv rfl hte.sq h2 ⟨e.th,rfl,?_,λp1 hp1=>?_⟩
  ·have:=heo.th.len;omega
  have s1:=aB (o:=.lst ((R.bh e.th).map V.str)) hp1;refine⟨_,rfl,p1,t,R.bh e.th,f,rfl,SqL.of ae,hwl,bM s1 ht.sq,hfo,λ_ p2 hp2=>?_,λz=>by rw[hf]at z;cases z⟩
  have s2:=s1.new (o:=.lst ((bH (R.bh e.th) f).map V.str)) hp2;refine ixv rfl (bM s2 hte.sq) (n6 e) (ixv rfl (bM s2 hte.sq) (uP e) ⟨_,rfl,p2,_,rfl,SqL.of ae,hsz,(sl 3),λtn htn=>?_⟩)
  have s3:=s2.new (o:=.tup [V.str (kn e.k),.int e.at_,.str (sr R.bl1 (bH (R.bh e.th) f))]) htn;refineλy dy hy hdy ndy=>?_
  refine⟨y,dy,.ref tn,rfl,ae,rfl,?_⟩;have hno:∀ {a:Addr},(upd (upd (upd H p1 (.lst ((R.bh e.th).map V.str))) p2 (.lst ((bH (R.bh e.th) f).map V.str))) tn (.tup [V.str (kn e.k),.int e.at_,.str (sr R.bl1 (bH (R.bh e.th) f))])) a=none->H a=none:=by
   intro a ha;cases z:H a with
   |none=>rfl
   |some v=>rw[s3 _ _ z]at ha;cases ha
  have nyt:y≠tn:=λz=>by rw[z,ae]at hy;cases hy
  have ndt:dy≠tn:=λz=>by rw[z,ae]at hdy;cases hdy
  have ain:H tn=none:=by
   cases z:H tn with
   |none=>rfl
   |some v=>rw[s2 _ _ z]at htn;cases htn
  have sm:=((s3.own (o:=.own y) (hno hdy)).own (o:=.ins (A.C 1) dy []) (hno hy)).own (o:=.ins (A.C 1) dy (pP 1 (.ref tn))) (hno hy);have X1:=X.cl sm;have er:gg ⟨e.k,e.at_,sr R.bl1 (bH (R.bh e.th) f)⟩=[V.str (kn e.k),.int e.at_,.str (sr R.bl1 (bH (R.bh e.th) f))]:=by
   obtain⟨k,a,th⟩:=e;have h3:=heo.k3;dsimp only at h3 hk1 ⊢;rcases h3 with rfl | rfl | rfl
   ·rfl
   ·exact absurd rfl hk1
   ·rfl
  have hmn:=(⟨bY (hno hy),dy,.ref tn,ae,tn,rfl,bY ain,.inl (by rw[aw (akI nyt),aw (akI nyt),aw (akI ndt),ae,er])⟩:mP A (cc c H) (upd (upd (upd (upd (upd (upd H p1 (.lst ((R.bh e.th).map V.str))) p2 (.lst ((bH (R.bh e.th) f).map V.str))) tn (.tup [V.str (kn e.k),.int e.at_,.str (sr R.bl1 (bH (R.bh e.th) f))])) dy (.own y)) y (.ins (A.C 1) dy [])) y (.ins (A.C 1) dy (pP 1 (.ref tn)))) (.chg ⟨e.k,e.at_,sr R.bl1 (bH (R.bh e.th) f)⟩) y)
  have st1:Step (dG i) c (cc c H) H _:=Step.cl aU sm;generalize upd (upd (upd (upd (upd (upd H p1 (.lst ((R.bh e.th).map V.str))) p2 (.lst ((bH (R.bh e.th) f).map V.str))) tn (.tup [V.str (kn e.k),.int e.at_,.str (sr R.bl1 (bH (R.bh e.th) f))])) dy (.own y)) y (.ins (A.C 1) dy [])) y (.ins (A.C 1) dy (pP 1 (.ref tn)))=H1 at X1 hmn st1 ⊢;generalize cc c H=c1 at X1 hmn st1;refine eZ rfl X1.ob T.au T.jq4 kW ⟨_,rfl,aM,_,rfl,oU.k (k:=kq (n:Int)) X1.made.2 ?_,?_⟩
  ·unfold a8;rw[bo,alF,ak9];omega
  obtain⟨s4,X2⟩:=X1.MM hn hmn;exact q c1 _ (st1.trans s4.ie) X2.at
end
end My
set_option maxHeartbeats 1000000
namespace My
open PySem L2
seal PySem.wpAny
def yQ (below:List Mn):Mn->Prop
 | .mat _=>below=[]
 | .chg e=>∃tx,below=[.mat tx]/\gD tx.length e=true
 | .mnd f=>∃tx e,below=[.mat tx,.chg e]/\e.k≠1/\gD (R.bh e.th).length f=true
 | .off _=>(∃tx r,below=.mat tx::r)/\∀b∈below,b.k < 3
 | .cls=>(∃tx r,below=.mat tx::r)/\∀b∈below,b.k < 4
 | .lay=>(∃tx r,below=.mat tx::r)/\∀b∈below,b.k < 5
 | .rst=>∀b∈below,b.k < 6
 | .pnt _=>∀b∈below,b.k < 7
inductive PMs:List Mn->Prop
 |nil:PMs []
 |snoc {ms:List Mn} {m:Mn}:PMs ms->yQ ms m->PMs (ms++[m])
theorem PMs.pop {ms:List Mn}{m:Mn}(h:PMs (ms++[m])):PMs ms/\yQ ms m:=by
 generalize e:ms++[m]=l at h;cases h with
 |nil=>simp at e
 |snoc h1 h2 =>
  obtain⟨e1,e2⟩:=List.append_inj' e rfl;cases e2;subst e1;exact⟨h1,h2⟩
theorem yQ.lt {below:List Mn}:∀ {m:Mn},yQ below m->∀b∈below,b.k < m.k
 | .mat _,h,b,hb=>by rw[h]at hb;cases hb
 | .chg _,⟨tx,h,_⟩,b,hb=>by
  rw[h,akR]at hb;rw[hb];show 0 < 1;decide
 | .mnd _,⟨tx,e,h,_,_⟩,b,hb=>by
  rw[h]at hb;rcases List.mem_cons.mp hb with rfl | hb
  ·show 0 < 2;decide
  ·rw[akR]at hb;rw[hb];show 1 < 2;decide
 | .off _,h,b,hb=>h.2 b hb
 | .cls,h,b,hb=>h.2 b hb
 | .lay,h,b,hb=>h.2 b hb
 | .rst,h,b,hb=>h b hb
 | .pnt _,h,b,hb=>h b hb
theorem PMs.le_top {ms:List Mn}(h:PMs ms):∀b∈ms,(b.k:Int)<=rC ms:=by
 cases h with
 |nil=>intro b hb;cases hb
 |snoc h1 h2 =>
  intro b hb;rw[pS];rcases List.mem_append.mp hb with hb | hb
  ·have:=h2.lt b hb;omega
  ·rw[akR]at hb;rw[hb];exact Int.le_refl _
theorem PMs.Kw {ms:List Mn}(h:PMs ms):ux ms=true->∃tx r,ms=.mat tx::r:=by
 induction h with
 |nil=>intro h;cases h
 | @snoc ms m h1 h2 ih =>
  intro h;unfold ux at h ih;rw[List.any_append,Bool.or_eq_true]at h;rcases h with h | h
  ·obtain⟨tx,r,e⟩:=ih h;exact⟨tx,r++[m],by rw[e];rfl⟩
  ·cases m with
   |mat tx =>
    have:ms=[]:=h2;rw[this];exact⟨tx,[],rfl⟩
   |_=>simp[Mn.k]at h
theorem PMs.len {ms:List Mn}(h:PMs ms):(ms.length:Int)<=rC ms+1:=by
 induction h with
 |nil=>decide
 | @snoc ms m h1 h2 ih =>
  rw[pS,gn,tu];have:rC ms < (m.k:Int):=by
   unfold rC;split
   ·omega
   ·rename_i b hb;have:=h2.lt b (List.mem_of_getLast? hb);omega
  omega
theorem PMs.Kx {ms:List Mn}(h:PMs ms):ms.length<=8:=by
 have:=h.len;have:=Qu ms;omega
theorem sO (cl:Bool)(ms:List Mn):rC ms<=oa cl ms:=by
 unfold oa;split
 ·split <;> omega
 ·exact Int.le_refl _
theorem wI {cl:Bool}{ms:List Mn}{k:Nat}(h:uW cl ms k=none):rC ms < (k:Int)/\sL ms k=true:=by
 have hb:=sO cl ms;unfold uW at h;split at h
 ·cases h
 ·split at h
  ·exact⟨by omega,by assumption⟩
  ·split at h <;> cases h
theorem Cj {ms:List Mn}(h:rC ms < 0):ms=[]:=by
 rcases aky ms with e | ⟨r,b,e⟩
 ·exact e
 ·rw[e,akz,pS]at h;omega
def abr (ms:List Mn):Mn->Prop
 | .chg e=>∀tx r,ms=.mat tx::r->gD tx.length e=true
 | .mnd f=>∀r e,ms=r++[.chg e]->gD (R.bh e.th).length f=true
 |_=>True
theorem iV {α:Type}{xs:List α}{x:α}(h:xs.getLast?=some x):∃r,xs=r++[x]:=by
 rcases aky xs with e | ⟨r,b,e⟩
 ·rw[e]at h;cases h
 ·rw[akz]at e;rw[e,ak1]at h;cases h;exact⟨r,e⟩
theorem PMs.push {cl:Bool}{ms:List Mn}(h:PMs ms){m:Mn}(ho:uW cl ms m.k=none)(hf:abr ms m):PMs (ms++[m]):=by
 obtain⟨h1,h2⟩:=wI ho;have lt:∀b∈ms,b.k < m.k:=λb hb=>by have:=h.le_top b hb;omega
 refine .snoc h ?_;cases m with
 |mat tx=>exact Cj h1
 |chg e =>
  obtain⟨tx,r,e1⟩:=h.Kw h2;refine⟨tx,?_,hf tx r e1⟩;rcases aky r with e2 | ⟨r',b,e2⟩
  ·rw[e1,e2]
  ·rw[akz]at e2;have hb:b.k < 1:=lt b (by rw[e1,e2];simp)
   rw[e1,e2,<-List.cons_append]at h;have ht:=h.pop.2;cases b with
   |mat ty=>exact absurd ht (akH _ _)
   |_=>simp[Mn.k]at hb
 |mnd f =>
  have h3:fq ms=true:=h2;unfold fq at h3;split at h3
  ·rename_i e he;obtain⟨r,e1⟩:=iV he;rw[e1]at h;obtain⟨tx,e2,_⟩:=h.pop.2;refine⟨tx,e,by rw[e1,e2];rfl,?_,hf r e e1⟩
   intro z;rw[z]at h3;cases h3
  ·cases h3
 |off n=>exact⟨h.Kw h2,lt⟩
 |cls=>exact⟨h.Kw h2,lt⟩
 |lay=>exact⟨h.Kw h2,lt⟩
 |rst=>exact lt
 |pnt z=>exact lt
theorem FC {st:Ch}{n:Nat}{m:Mn}(hn:dI st n){st':Ch}(h:st'.made=st.made.set (n - 1) m):st'.mo n=m:=by
 unfold Ch.mo;have:=hn.1;have:=hn.2;rw[h,akw,List.getElem?_set_self (by omega)]
 rfl
theorem ur {st:Ch}{n k:Nat}{m:Mn}(hn:dI st n)(h1:1<=k)(ne:k≠n){st':Ch}(h:st'.made=st.made.set (n - 1) m):st'.mo k=st.mo k:=by
 unfold Ch.mo;have:=hn.1;rw[h,akw,List.getElem?_set_ne (by omega),<-akw]
theorem Ky {st:Ch}{m:Mn}{st':Ch}(h:st'.made=st.made++[m]){k:Nat}(hk:dI st k):st'.mo k=st.mo k:=by
 unfold Ch.mo;have:=hk.1;have:=hk.2;rw[h,akw,List.getElem?_append_left (by omega),<-akw]
theorem Kz {st:Ch}{m:Mn}{st':Ch}(h:st'.made=st.made++[m]):st'.mo (st.made.length+1)=m:=by
 unfold Ch.mo;rw[h,akw,Nat.add_sub_cancel,ak8 (km _),Nat.sub_self];rfl
def EdB (N:Nat)(e:Ed):Prop:=(e.k=0\/e.k=1\/e.k=2)/\-1000<=e.at_/\e.at_<=1000/\∃ws,e.th=sr R.bl1 ws/\(∀w∈ws,R.n9 w)/\ws.length<=N
def MOk (N:Nat):Mn->Prop
 | .mat tx=>tx.length<=12+N/\∀x∈tx,alk x=true
 | .chg e=>EdB (12+N) e
 | .mnd f=>EdB 1 f/\∃w,f.th=w/\R.n9 w
 | .off u=>-10000000000 < u/\u < 10000000000
 | .pnt z=>alk z=true
 |_=>True
theorem EdB.mono {N M:Nat}(h:N<=M){e:Ed}(z:EdB N e):EdB M e:=by
 obtain⟨a,b,c,ws,d,f,g⟩:=z;exact⟨a,b,c,ws,d,f,tm g h⟩
theorem MOk.mono {N M:Nat}(h:N<=M):∀ {m:Mn},MOk N m->MOk M m
 | .mat tx,z=>⟨tm z.1 (by omega),z.2⟩
 | .chg e,z=>EdB.mono (by omega) z
 | .mnd f,z=>z
 | .off u,z=>z
 | .cls,_=>trivial
 | .lay,_=>trivial
 | .rst,_=>trivial
 | .pnt _,z=>z
def Ch.all (st:Ch):List Nat:=st.aq++(st.ay.flatMap (·.2.2)++st.decided.map (·.1))
def Ch.wJ (st:Ch):List Nat:=(akL 1 st.made.length).filter λn=>decide ((st.mo n).k=0)
structure Inv (N:Nat)(st:Ch):Prop where
 lm:3 * st.made.length<=N
 lr:st.rows.length<=N
 ld:st.decided.length<=N
 la:st.ay.length<=N
 lk:∀x∈st.kept,x.2.length<=N
 sit:1<=st.aI/\st.aI<=N+1
 mok:∀m∈st.made,MOk N m
 num:∀n∈st.all,dI st n
 nd:st.all.Nodup
 pil:PMs (st.aq.map st.mo)
 asd:∀x∈st.ay,PMs (x.2.2.map st.mo)/\(∃r,x.2.2=x.1::r)/\-10000000000 < x.2.1/\x.2.1 < 10000000000
 kk:st.kept.map (·.1)=st.wJ
 ff:st.firsts.map (·.1)=st.wJ
 dw:∀x∈st.decided,alk x.2=true
theorem Inv.mono {N M:Nat}(h:N<=M){st:Ch}(I:Inv N st):Inv M st where
 lm:=tm I.lm h
 lr:=tm I.lr h
 ld:=tm I.ld h
 la:=tm I.la h
 lk:=λx hx=>tm (I.lk x hx) h
 sit:=⟨I.sit.1,by have:=I.sit.2;omega⟩
 mok:=λm hm=>(I.mok m hm).mono h
 num:=I.num
 nd:=I.nd
 pil:=I.pil
 asd:=I.asd
 kk:=I.kk
 ff:=I.ff
 dw:=I.dw
theorem Inv.yf {N:Nat}{st:Ch}(I:Inv N st){n:Nat}(hn:dI st n):MOk N (st.mo n):=by
 have:=hn.1;have:=hn.2;have hlt:n - 1 < st.made.length:=by omega
 have e:st.mo n=st.made[n - 1]:=by unfold Ch.mo;rw[akw,wt hlt];rfl
 rw[e];exact I.mok _ (List.getElem_mem hlt)
theorem Inv.bT {N:Nat}{st:Ch}(I:Inv N st):∀n∈st.aq,dI st n:=λn hn=>I.num n (akZ _ hn)
theorem Inv.sP {N:Nat}{st:Ch}(I:Inv N st){x:Nat×Int×List Nat}(hx:x∈st.ay):∀n∈x.2.2,dI st n:=λn hn =>
 I.num n (kj _ (akZ _ (List.mem_flatMap.mpr ⟨x,hx,hn⟩)))
theorem Inv.MN {N:Nat}{st:Ch}(I:Inv N st){n:Nat}(hn:n∈st.aq){x:Nat×Int×List Nat}(hx:x∈st.ay):n∉x.2.2:=λz =>
 (List.nodup_append.mp I.nd).2.2 n hn n (akZ _ (List.mem_flatMap.mpr ⟨x,hx,z⟩)) rfl
theorem Inv.FD {N:Nat}{st:Ch}(I:Inv N st){n:Nat}(hn:n∈st.aq):n∉st.ay.map (·.1):=λz=>by
 obtain⟨x,hx,e⟩:=List.mem_map.mp z;obtain⟨r,er⟩:=(I.asd x hx).2.1;exact I.MN hn hx (by rw[er,e];exact fu)
theorem Tb {st st':Ch}(hl:st'.made.length=st.made.length)(hk:∀n,dI st n->(st'.mo n).k=(st.mo n).k):st'.wJ=st.wJ:=by
 unfold Ch.wJ;rw[hl];refine List.filter_congr λn hn=>?_
 rw[alC]at hn;rw[hk n ⟨hn.1,by omega⟩]
theorem KA (st:Ch):st.wJ.Nodup:=List.filter_sublist.nodup List.nodup_range'
theorem Inv.keptAt {N:Nat}{st:Ch}(I:Inv N st){n:Nat}(hn:dI st n)(hk:(st.mo n).k=0):∃x,at1 n st.kept=some x/\x.2.length<=N:=by
 cases e:at1 n st.kept with
 |some x=>exact⟨x,rfl,I.lk x (ji e).2⟩
 |none =>
  have h:=wH e;rw[I.kk]at h;have hr:n∈akL 1 st.made.length:=by
   rw[alC];have:=hn.1;have:=hn.2;omega
  exact absurd (show n∈st.wJ from List.mem_filter.mpr ⟨hr,by exact decide_eq_true hk⟩) h
def Ch.popped (st:Ch)(pre:List Nat)(n:Nat)(wd:Str):Ch:={ st with aq:=pre,decided:=st.decided++[(n,wd)] }
theorem Inv.pop {N:Nat}{st:Ch}(I:Inv N st){pre:List Nat}{n:Nat}(e:st.aq=pre++[n])(wd:Str)(hw:alk wd=true):Inv (N+1) (st.popped pre n wd)/\yQ (pre.map st.mo) (st.mo n):=by
 have hp:=I.pil;rw[e,ku]at hp;obtain⟨p1,p2⟩:=PMs.pop hp;have perm:ak2 (st.popped pre n wd).all st.all:=by
  unfold Ch.all Ch.popped;rw[e,ku];have:ak2 (st.ay.flatMap (·.2.2)++(st.decided.map (·.1)++[(n,wd)].map (·.1))) ([n]++(st.ay.flatMap (·.2.2)++st.decided.map (·.1))):=by
   rw[<-alf];exact List.perm_append_comm
  exact(List.Perm.append_left pre this).trans (by rw[alf])
 refine⟨⟨akD I.lm,akD I.lr,?_,akD I.la,λx hx=>akD (I.lk x hx),⟨I.sit.1,by have:=I.sit.2;show st.aI<=_;omega⟩,λm hm=>(I.mok m hm).mono (by omega),λk hk=>I.num k (perm.mem_iff.mp hk),perm.nodup_iff.mpr I.nd,p1,I.asd,I.kk,I.ff,?_⟩,p2⟩
 ·show (st.decided++[(n,wd)]).length<=_;rw[gn,tu];have:=I.ld;omega
 ·intro x hx;rcases List.mem_append.mp hx with h | h
  ·exact I.dw x h
  ·rw[akR]at h;rw[h];exact hw
theorem Inv.uY {N:Nat}{st:Ch}(I:Inv N st)(z:Str):Inv (N+1) (st.uY z):=by
 refine⟨akD I.lm,?_,akD I.ld,akD I.la,λx hx=>akD (I.lk x hx),⟨I.sit.1,by have:=I.sit.2;show st.aI<=_;omega⟩,λm hm=>(I.mok m hm).mono (by omega),I.num,I.nd,I.pil,I.asd,I.kk,I.ff,I.dw⟩
 show (st.rows++[z]).length<=_;rw[gn,tu];have:=I.lr;omega
theorem Inv.UG {N:Nat}{st:Ch}(I:Inv N st){n:Nat}{m:Mn}(hn:n∈st.aq)(hk:m.k=(st.mo n).k)(hm:MOk (N+1) m){kp:List (Nat×List Ed)}(ek:kp.map (·.1)=st.kept.map (·.1))(lk:∀x∈kp,x.2.length<=N+1)
  (hp:PMs (st.aq.map (Ch.mo { st with made:=st.made.set (n - 1) m,kept:=kp }))):Inv (N+1) { st with made:=st.made.set (n - 1) m,kept:=kp }:=by
 have hno:=I.bT n hn;have kinds:∀k,dI st k->(Ch.mo { st with made:=st.made.set (n - 1) m,kept:=kp } k).k=(st.mo k).k:=λk h=>by
  by_cases z:k=n
  ·subst z;rw[FC hno rfl,hk]
  ·rw[ur hno h.1 z rfl]
 have em:Ch.wJ { st with made:=st.made.set (n - 1) m,kept:=kp }=st.wJ:=Tb (by show (st.made.set (n - 1) m).length=_;rw[ald]) kinds
 refine⟨?_,akD I.lr,akD I.ld,akD I.la,lk,⟨I.sit.1,by have:=I.sit.2;show st.aI<=_;omega⟩,?_,?_,I.nd,hp,?_,by rw[em,<-I.kk];exact ek,by rw[em];exact I.ff,I.dw⟩
 ·show 3 * (st.made.set (n - 1) m).length<=_;rw[ald];have:=I.lm;omega
 ·intro x hx;rcases List.mem_or_eq_of_mem_set hx with h | h
  ·exact(I.mok x h).mono (by omega)
  ·rw[h];exact hm
 ·intro k hk;have:=I.num k hk;exact⟨this.1,by show k<=(st.made.set (n - 1) m).length;rw[ald];exact this.2⟩
 ·intro x hx;obtain⟨h1,h2⟩:=I.asd x hx;refine⟨?_,h2⟩;have:x.2.2.map (Ch.mo { st with made:=st.made.set (n - 1) m,kept:=kp })=x.2.2.map st.mo:=ale λk hk =>
   ur hno (I.sP hx k hk).1 (λz=>I.MN hn hx (by rw[<-z];exact hk)) rfl
  rw[this];exact h1
theorem Inv.lW {N:Nat}{st:Ch}(I:Inv N st){n:Nat}{r:List Nat}(e:st.aq=n::r){u:Int}(h0:-10000000000 < u)(h1:u < 10000000000):Inv (N+1) (st.lW n u):=by
 have perm:ak2 (st.lW n u).all st.all:=by
  unfold Ch.all Ch.lW;rw[alG,alY];show ak2 ((st.ay.flatMap (·.2.2)++[(n,u,st.aq)].flatMap (·.2.2))++st.decided.map (·.1)) _
  rw[show [(n,u,st.aq)].flatMap (·.2.2)=st.aq by simp,<-alf]
  exact alX _ List.perm_append_comm
 refine⟨akD I.lm,akD I.lr,akD I.ld,?_,λx hx=>akD (I.lk x hx),⟨I.sit.1,by have:=I.sit.2;show st.aI<=_;omega⟩,λm hm=>(I.mok m hm).mono (by omega),λk hk=>I.num k (perm.mem_iff.mp hk),perm.nodup_iff.mpr I.nd,.nil,?_,I.kk,I.ff,I.dw⟩
 ·show (st.ay++[(n,u,st.aq)]).length<=_;rw[gn,tu];have:=I.la;omega
 ·intro x hx;rcases List.mem_append.mp hx with hx | hx
  ·exact I.asd x hx
  ·rw[akR]at hx;subst hx;exact⟨I.pil,⟨r,e⟩,h0,h1⟩
def Ch.carry (st:Ch):Mn->Ch
 | .chg e=>match st.aq with
  |n::_=>(match st.mo n with
   | .mat tx=>st.QC n tx e
   |_=>st)
  |[]=>st
 | .mnd f=>match st.aq.getLast? with
  |some n=>(match st.mo n with
   | .chg e=>st.QE n e (bH (R.bh e.th) f)
   |_=>st)
  |none=>st
 | .off u=>match st.aq with
  |n::_=>st.lW n u
  |[]=>st
 | .cls=>{ st with closed:=true }
 | .lay=>match st.aq with
  |n::_=>st.lW n st.aI
  |[]=>st
 | .rst=>{ st with aI:=st.aI+1 }
 |_=>st
end My
set_option maxHeartbeats 1000000
namespace My
open PySem L2
seal PySem.wpAny
theorem uu (xs:List Str)(e:Ed):(bH xs e).length<=xs.length+1:=by
 unfold bH;split
 ·rw[gn,akp,akX,alL];omega
 ·exact akD (List.length_eraseIdx_le _ _)
 ·rw[ald];omega
theorem D8 {xs:List Str}{e:Ed}{x:Str}(h:x∈bH xs e):x∈xs\/x=e.th:=by
 unfold bH at h;split at h
 ·rcases List.mem_append.mp h with h | h
  ·exact .inl (List.mem_of_mem_take h)
  ·rcases List.mem_cons.mp h with h | h
   ·exact .inr h
   ·exact .inl (List.mem_of_mem_drop h)
 ·exact .inl (List.mem_of_mem_eraseIdx h)
 ·exact List.mem_or_eq_of_mem_set h
theorem Tc {α β:Type}{f:α->β}{xs:List α}{y:β}(h:xs.map f=[y]):∃a,xs=[a]/\f a=y:=by
 cases xs with
 |nil=>cases h
 |cons a r =>
  cases r with
  |nil=>exact⟨a,rfl,by simpa using h⟩
  |cons b r=>simp at h
theorem W5 {α β:Type}{f:α->β}{xs:List α}{y z:β}(h:xs.map f=[y,z]):∃a b,xs=[a,b]/\f a=y/\f b=z:=by
 cases xs with
 |nil=>cases h
 |cons a r =>
  rw[ko]at h;obtain⟨b,rfl,e⟩:=Tc (List.cons.inj h).2;exact⟨a,b,rfl,(List.cons.inj h).1,e⟩
theorem Nz {α β:Type}{f:α->β}{xs:List α}{y:β}{r:List β}(h:xs.map f=y::r):∃a s,xs=a::s/\f a=y:=by
 cases xs with
 |nil=>cases h
 |cons a s=>exact⟨a,s,rfl,(List.cons.inj h).1⟩
theorem EdB.ok {N:Nat}{e:Ed}(h:EdB N e)(hN:N<=4000):rB e:=by
 obtain⟨a,b,c,ws,d,f,g⟩:=h;refine⟨a,b,c,?_,?_⟩
 ·rw[d];exact pO (λx hx=>by
   rw[show (R.bl1:Str).cps.toList=[32] by decide +kernel,akR]at hx
   omega) ws λw hw=>λx hx=>by have:=(f w hw).sgn x hx;unfold R.Sign at this;omega
 ·rw[d,R.n8];have h1:=tT 32 ws;have h2:=R.D0 f;omega
theorem EdB.str {N:Nat}{e:Ed}(h:EdB N e):alk e.th=true:=by
 obtain⟨a,b,c,ws,d,f,g⟩:=h;rw[d];exact(pO (λx hx=>by
  rw[show (R.bl1:Str).cps.toList=[32] by decide +kernel,akR]at hx
  omega) ws λw hw=>λx hx=>by have:=(f w hw).sgn x hx;unfold R.Sign at this;omega).ok
theorem EdB.words {N:Nat}{e:Ed}(h:EdB N e):(∀w∈R.bh e.th,R.n9 w)/\(R.bh e.th).length<=N:=by
 obtain⟨a,b,c,ws,d,f,g⟩:=h;rw[d,R.lU f];exact⟨f,g⟩
theorem uZ {ws:List Str}{f:Ed}(h:∀w∈ws,R.n9 w)(hf:R.n9 f.th):∀w∈bH ws f,R.n9 w:=λw hw=>by
 rcases D8 hw with h1 | h1
 ·exact h w h1
 ·rw[h1];exact hf
theorem NA (n:Nat)(e:Ed)(xs:List (Nat×List Ed)):(rD n e xs).map (·.1)=xs.map (·.1):=by
 unfold rD;rw[alK];refine ale λx _=>?_
 show (if x.1=n then (x.1,x.2++[e]) else x).1=x.1
 split <;> rfl
theorem QG {n N:Nat}{e:Ed}{xs:List (Nat×List Ed)}(h:∀x∈xs,x.2.length<=N):∀x∈rD n e xs,x.2.length<=N+1:=by
 intro x hx;obtain⟨y,hy,rfl⟩:=List.mem_map.mp hx;have:=h y hy;split
 ·show (y.2++[e]).length<=_;rw[gn,tu];omega
 ·omega
theorem Inv.carry {N:Nat}{st:Ch}(I:Inv N st)(hN:N<=900){m:Mn}(ht:yQ (st.aq.map st.mo) m)(hm:MOk N m):Inv (N+1) (st.carry m):=by
 have J:=I.mono (ak7 N);cases m with
 |mat tx=>exact J
 |pnt z=>exact J
 |chg e =>
  obtain⟨tx,h1,hf⟩:=ht;obtain⟨k,e1,e2⟩:=Tc h1;have hn:k∈st.aq:=by rw[e1];exact fu
  have htx:=I.yf (I.bT k hn);rw[e2]at htx;have e3:st.carry (.chg e)=st.QC k tx e:=by unfold Ch.carry;rw[e1];dsimp only;rw[e2]
  rw[e3];refine I.UG hn (by rw[e2];rfl) ?_ (NA k e st.kept) (QG I.lk) ?_
  ·have:=uu tx e;have h3:tx.length<=12+N:=htx.1;refine⟨by omega,λx hx=>?_⟩
   rcases D8 hx with h | h
   ·exact htx.2 x h
   ·rw[h];exact EdB.str hm
  ·rw[e1,ko,akW,FC (I.bT k hn) rfl];exact PMs.snoc (ms:=[]) .nil rfl
 |mnd f =>
  obtain⟨tx,e,h1,hk,hf⟩:=ht;obtain⟨a,b,e1,e2,e3⟩:=W5 h1;have ha:a∈st.aq:=by rw[e1];exact fu
  have hb:b∈st.aq:=by rw[e1];exact ky _ fu
  have he:=I.yf (I.bT b hb);rw[e3]at he;have he':EdB (12+N) e:=he;obtain⟨w1,w2⟩:=he'.words;have e4:st.carry (.mnd f)=st.QE b e (bH (R.bh e.th) f):=by unfold Ch.carry;rw[e1];show (match st.mo b with | .chg e=>_ | _=>st)=_;rw[e3];rfl
  rw[e4];obtain⟨_,w,hw,hw2⟩:=hm;refine I.UG (kp:=st.kept) hb (by rw[e3];rfl) ?_ rfl (λx hx=>akD (I.lk x hx)) ?_
  ·refine⟨he'.1,he'.2.1,he'.2.2.1,_,rfl,uZ w1 (by rw[hw];exact hw2),?_⟩
   have:=uu (R.bh e.th) f;omega
  ·have ne:a≠b:=λz=>by rw[z,e3]at e2;cases e2
   have hp:=I.pil;rw[h1]at hp;obtain⟨tx',e5,e6⟩:=(PMs.pop (ms:=[.mat tx]) hp).2;cases e5;rw[e1,ko,ko,akW,FC (I.bT b hb) rfl,ur (I.bT b hb) (I.bT a ha).1 ne rfl,e2];exact PMs.snoc (ms:=[.mat tx]) (PMs.snoc (ms:=[]) .nil rfl) ⟨tx,rfl,e6⟩
 |off u =>
  obtain⟨⟨tx,r,h1⟩,_⟩:=ht;obtain⟨k,s,e1,_⟩:=Nz h1;have e3:st.carry (.off u)=st.lW k u:=by unfold Ch.carry;rw[e1]
  rw[e3];exact I.lW e1 hm.1 hm.2
 |lay =>
  obtain⟨⟨tx,r,h1⟩,_⟩:=ht;obtain⟨k,s,e1,_⟩:=Nz h1;have e3:st.carry .lay=st.lW k st.aI:=by unfold Ch.carry;rw[e1]
  rw[e3];have:=I.sit;exact I.lW e1 (by omega) (by omega)
 |cls=>exact⟨J.lm,J.lr,J.ld,J.la,J.lk,J.sit,J.mok,J.num,J.nd,J.pil,J.asd,J.kk,J.ff,J.dw⟩
 |rst=>exact⟨J.lm,J.lr,J.ld,J.la,J.lk,⟨by have:=I.sit.1;show 1<=st.aI+1;omega,by have:=I.sit.2;show st.aI+1<=_;omega⟩,J.mok,J.num,J.nd,J.pil,J.asd,J.kk,J.ff,J.dw⟩
inductive Rs where
 |num (n:Nat) | txt (z:Str) | exc (x:Xc)
abbrev sQ:Str:=ar "kept"
abbrev D9:Str:=ar "lost"
abbrev fF:Str:=ar "dropped"
def pV (b:Bool):Str:=if b=true then sQ else D9
theorem FE (b:Bool):alk (pV b)=true:=by
 unfold pV;split <;> decide +kernel
def kY (st:Ch)(a b:Int):Rs×Ch:=match st.aq.getLast? with
 |none=>(.exc .nothing,st)
 |some n=>if a+b > st.cC then (.exc .tooMany,st) else
  (.txt (pV (lI (nd (st.mo n).k) a b)),(if lI (nd (st.mo n).k) a b=true then (st.popped st.aq.dropLast n (pV (lI (nd (st.mo n).k) a b))).carry (st.mo n) else st.popped st.aq.dropLast n (pV (lI (nd (st.mo n).k) a b))).uY (R.sG (.nums (ar "vote") [a,b])))
def lJ (st:Ch):Rs×Ch:=match st.aq.getLast? with
 |none=>(.exc .nothing,st)
 |some n=>(.txt fF,(st.popped st.aq.dropLast n fF).uY (R.sG (.nums (ar "drop") [])))
def stepT (st:Ch)(n:Nat):Rs×Ch:=if st.aq=[] then (match at1 n st.ay with
 |none=>(.exc .uq,st)
 |some x=>if st.aI < x.2.1 then (.exc (.Fu x.2.1),st) else (.num n,{ st.q9 n x.2.2 with rows:=st.rows++[R.sG (.nums (ar "take") [(n:Int)])] })) else (.exc (.uV (oa st.closed (st.aq.map st.mo))),st)
def lA (st:Ch):Mn->Option Xc
 | .chg e=>match st.aq.map st.mo with
  | .mat tx::_=>if gD tx.length e=true then none else some .noFit
  |_=>none
 | .mnd f=>match (st.aq.map st.mo).getLast? with
  |some (.chg e)=>if gD (R.bh e.th).length f=true then none else some .noFit
  |_=>none
 | .off u=>if u<=st.aI then some (.pQ st.aI) else none
 |_=>none
def kZ (st:Ch)(m:Mn):Option Xc:=match uW st.closed (st.aq.map st.mo) m.k with
 |some x=>some x
 |none=>lA st m
def Ch.moved (st:Ch)(m:Mn)(row:Str):Ch:={ st with made:=st.made++[m],aq:=st.aq++[st.made.length+1],firsts:=(match m with | .mat tx=>st.firsts++[(st.made.length+1,tx)] | _=>st.firsts),kept:=(match m with | .mat _=>st.kept++[(st.made.length+1,([]:List Ed))] | _=>st.kept),rows:=st.rows++[row] }
def mU (st:Ch)(m:Mn)(row:Str):Rs×Ch:=match kZ st m with
 |some x=>(.exc x,st)
 |none=>(.num (st.made.length+1),st.moved m row)
theorem Inv.moved {N:Nat}{st:Ch}(I:Inv N st){m:Mn}(hm:MOk N m)(hc:kZ st m=none)(row:Str):Inv (N+3) (st.moved m row):=by
 have J:=I.mono (show N<=N+3 by omega)
 have ho:uW st.closed (st.aq.map st.mo) m.k=none/\lA st m=none:=by
  unfold kZ at hc;split at hc
  ·cases hc
  ·exact⟨by assumption,hc⟩
 have hf:abr (st.aq.map st.mo) m:=by
  have h:=ho.2;cases m with
  |chg e =>
   intro tx r e1;unfold lA at h;dsimp only at h;rw[e1]at h;dsimp only at h;split at h
   ·assumption
   ·cases h
  |mnd f =>
   intro r e e1;unfold lA at h;dsimp only at h;rw[e1,ak1]at h;dsimp only at h;split at h
   ·assumption
   ·cases h
  |_=>trivial
 have em:(st.moved m row).made=st.made++[m]:=rfl;have old:∀ks:List Nat,(∀k∈ks,dI st k)->ks.map (st.moved m row).mo=ks.map st.mo:=λks h=>ale λk hk=>Ky em (h k hk)
 have nok:∀k,dI st k->dI (st.moved m row) k:=λk h=>⟨h.1,by show k<=(st.made++[m]).length;rw[gn];have:=h.2;omega⟩
 have perm:ak2 (st.moved m row).all ((st.made.length+1)::st.all):=by
  unfold Ch.all Ch.moved;rw[alf];exact List.perm_middle
 have mt:(st.moved m row).wJ=st.wJ++(if m.k=0 then [st.made.length+1] else []):=by
  unfold Ch.wJ;rw[em,gn,tu,List.range'_concat,List.filter_append,Nat.one_mul,Nat.add_comm 1]
  congr 1
  ·refine List.filter_congr λk hk=>?_
   rw[alC]at hk;rw[Ky em ⟨hk.1,by omega⟩]
  ·rw[List.filter_cons,Kz em]
   by_cases z:m.k=0
   ·rw[if_pos (decide_eq_true z),if_pos z];rfl
   ·rw[if_neg (by rw[decide_eq_false z];decide),if_neg z];rfl
 refine⟨?_,?_,J.ld,J.la,?_,J.sit,?_,?_,?_,?_,?_,?_,?_,J.dw⟩
 ·show 3 * (st.made++[m]).length<=_;rw[gn,tu];have:=I.lm;omega
 ·show (st.rows++[row]).length<=_;rw[gn,tu];have:=I.lr;omega
 ·intro x hx;have hx':x∈(match m with | .mat _=>st.kept++[(st.made.length+1,([]:List Ed))] | _=>st.kept):=hx
  cases m with
  |mat tx =>
   rcases List.mem_append.mp hx' with h | h
   ·exact J.lk x h
   ·rw[akR]at h;rw[h];exact ak6 _
  |_=>exact J.lk x hx'
 ·intro x hx;rcases List.mem_append.mp (show x∈st.made++[m] from hx) with h | h
  ·exact J.mok x h
  ·rw[akR]at h;rw[h];exact hm.mono (by omega)
 ·intro k hk;rcases List.mem_cons.mp (perm.mem_iff.mp hk) with h | h
  ·rw[h];exact⟨by omega,by show _<=(st.made++[m]).length;rw[gn,tu];omega⟩
  ·exact nok k (I.num k h)
 ·rw[perm.nodup_iff,List.nodup_cons];exact⟨λz=>by have:=(I.num _ z).2;omega,I.nd⟩
 ·show PMs ((st.aq++[st.made.length+1]).map (st.moved m row).mo);rw[ku,old st.aq I.bT,ko,akW,Kz em];exact I.pil.push ho.1 hf
 ·intro x hx;obtain⟨h1,h2⟩:=I.asd x hx;exact⟨by rw[old _ (I.sP hx)];exact h1,h2⟩
 ·rw[mt,<-I.kk];cases m with
  |mat tx=>show (st.kept++[(st.made.length+1,([]:List Ed))]).map (·.1)=_;rw[ku,if_pos (show (Mn.mat tx).k=0 from rfl)];rfl
  |_=>exact(alj _).symm
 ·rw[mt,<-I.ff];cases m with
  |mat tx=>show (st.firsts++[(st.made.length+1,tx)]).map (·.1)=_;rw[ku,if_pos (show (Mn.mat tx).k=0 from rfl)];rfl
  |_=>exact(alj _).symm
theorem yg {n:Nat}{x:Nat×Int×List Nat}:∀ {as:List (Nat×Int×List Nat)},(as.flatMap (·.2.2)).Nodup->(∀y∈as,∃r,y.2.2=y.1::r)->at1 n as=some x->ak2 (x.2.2++(as.filter λy=>decide (y.1≠n)).flatMap (·.2.2)) (as.flatMap (·.2.2))
 |[],_,_,h=>nomatch h
 |y::as,nd,hd,h=>by
  rw[alS]at nd ⊢;obtain⟨n1,n2,n3⟩:=List.nodup_append.mp nd;unfold at1 at h;rw[akU]at h
  by_cases e:y.1=n
  ·rw[decide_eq_true e]at h;cases h;have:as.filter (λz=>decide (z.1≠n))=as:=by
    rw[List.filter_eq_self];intro z hz;refine decide_eq_true λq=>?_
    obtain⟨r,hr⟩:=hd z (ky _ hz);obtain⟨r',hr'⟩:=hd x fu;exact n3 n (by rw[hr',e];exact fu) n (List.mem_flatMap.mpr ⟨z,hz,by rw[hr,q];exact fu⟩) rfl
   rw[List.filter_cons_of_neg (by simp[e]),this]
  ·rw[decide_eq_false e]at h;have ih:=yg n2 (λz hz=>hd z (ky _ hz)) h
   rw[List.filter_cons_of_pos (by simp[e]),alS,<-alf]
   exact(alX _ List.perm_append_comm).trans (by rw[alf];exact List.Perm.append_left _ ih)
theorem Inv.q9 {N:Nat}{st:Ch}(I:Inv N st){n:Nat}{x:Nat×Int×List Nat}(hp:st.aq=[])(hx:at1 n st.ay=some x)(row:Str):Inv (N+1) { st.q9 n x.2.2 with rows:=st.rows++[row] }:=by
 have J:=I.mono (ak7 N);have hm:=(ji hx).2;have nd:=I.nd;unfold Ch.all at nd;rw[hp,alY]at nd;have pm:=yg (List.nodup_append.mp nd).1 (λy hy=>(I.asd y hy).2.1) hx
 have perm:ak2 (Ch.all { st.q9 n x.2.2 with rows:=st.rows++[row] }) st.all:=by
  unfold Ch.all Ch.q9;rw[hp,alY,<-alf];exact alX _ pm
 refine⟨J.lm,?_,J.ld,?_,J.lk,J.sit,J.mok,λk hk=>I.num k (perm.mem_iff.mp hk),perm.nodup_iff.mpr I.nd,(I.asd x hm).1,λy hy=>I.asd y (List.mem_filter.mp hy).1,I.kk,I.ff,I.dw⟩
 ·show (st.rows++[row]).length<=_;rw[gn,tu];have:=I.lr;omega
 ·exact tm (List.length_filter_le _ _) J.la
theorem Inv.kY {N:Nat}{st:Ch}(I:Inv N st)(hN:N<=800)(a b:Int):Inv (N+3) (kY st a b).2:=by
 unfold My.kY;split
 ·exact I.mono (by omega)
 ·rename_i n h;obtain⟨pre,e⟩:=iV h;split
  ·exact I.mono (by omega)
  ·have ed:st.aq.dropLast=pre:=by rw[e];exact ala
   obtain⟨I1,ht⟩:=I.pop e (pV (lI (My.nd (st.mo n).k) a b)) (FE _);rw[ed];have hn:n∈st.aq:=by rw[e];simp
   split
   ·exact(I1.carry (by omega) ht ((I.yf (I.bT n hn)).mono (by omega))).uY _
   ·exact(I1.uY _).mono (by omega)
theorem Inv.lJ {N:Nat}{st:Ch}(I:Inv N st):Inv (N+3) (lJ st).2:=by
 unfold My.lJ;split
 ·exact I.mono (by omega)
 ·rename_i n h;obtain⟨pre,e⟩:=iV h;have ed:st.aq.dropLast=pre:=by rw[e];exact ala
  rw[ed];exact((I.pop e fF (by decide +kernel)).1.uY _).mono (by omega)
theorem Inv.stepT {N:Nat}{st:Ch}(I:Inv N st)(n:Nat):Inv (N+3) (stepT st n).2:=by
 unfold My.stepT;split
 ·split
  ·exact I.mono (by omega)
  ·split
   ·exact I.mono (by omega)
   ·exact(I.q9 (by assumption) (by assumption) _).mono (by omega)
 ·exact I.mono (by omega)
theorem Inv.mU {N:Nat}{st:Ch}(I:Inv N st){m:Mn}(hm:MOk N m)(row:Str):Inv (N+3) (mU st m row).2:=by
 unfold My.mU;split
 ·exact I.mono (by omega)
 ·exact I.moved hm (by assumption) row
theorem wK:∀(L:Nat) (l:List Nat),l.Nodup->(∀n∈l,1<=n/\n<=L)->l.length<=L
 | 0,l,_,h=>by
  cases l with
  |nil=>exact km 0
  |cons x r=>have:=h x fu;omega
 |L+1,l,nd,h=>by
  by_cases m:L+1∈l
  ·have ih:=wK L (l.erase (L+1)) (nd.erase _) (λn hn=>by
    obtain⟨h1,h2⟩:=nd.mem_erase_iff.mp hn;have:=h n h2;omega)
   rw[List.length_erase_of_mem m]at ih;omega
  ·have ih:=wK L l nd (λn hn=>by
    have:=h n hn;have:n≠L+1:=λz=>m (by rw[<-z];exact hn)
    omega)
   omega
theorem G1:∀ {as:List (Nat×Int×List Nat)},(∀y∈as,∃r,y.2.2=y.1::r)->List.Sublist (as.map (·.1)) (as.flatMap (·.2.2))
 |[],_=>.slnil
 |y::as,h=>by
  obtain⟨r,hr⟩:=h y fu;rw[ko,alS,hr,List.cons_append];exact .cons₂ _ ((G1 λz hz=>h z (ky _ hz)).trans (List.sublist_append_right _ _))
theorem Inv.QH {N:Nat}{st:Ch}(I:Inv N st):(st.ay.map (·.1)).Nodup:=by
 have nd:=I.nd;unfold Ch.all at nd;exact(G1 λy hy=>(I.asd y hy).2.1).nodup (List.nodup_append.mp (List.nodup_append.mp nd).2.1).1
theorem Inv.G2 {N:Nat}{st:Ch}(I:Inv N st):st.ay.length<=st.made.length:=by
 have h:=wK st.made.length (st.ay.map (·.1)) I.QH (λn hn=>by
  obtain⟨x,hx,e⟩:=List.mem_map.mp hn;obtain⟨r,hr⟩:=(I.asd x hx).2.1;exact I.sP hx n (by rw[hr,e];exact fu))
 rw[bo]at h;exact h
theorem Ea (st:Ch)(m:Mn):(st.carry m).made.length=st.made.length:=by
 unfold Ch.carry;split
 ·split
  ·split
   ·show (st.made.set _ _).length=_;rw[ald]
   ·rfl
  ·rfl
 ·split
  ·split
   ·show (st.made.set _ _).length=_;rw[ald]
   ·rfl
  ·rfl
 ·split <;> rfl
 ·rfl
 ·split <;> rfl
 ·rfl
 ·rfl
theorem NB (st:Ch)(a b:Int):(kY st a b).2.made.length=st.made.length:=by
 unfold kY;split
 ·rfl
 ·split
  ·rfl
  ·show (if _ then _ else _:Ch).made.length=_
   split
   ·exact Ea _ _
   ·rfl
theorem NC (st:Ch):(lJ st).2.made.length=st.made.length:=by
 unfold lJ;split <;> rfl
theorem ND (st:Ch)(n:Nat):(stepT st n).2.made.length=st.made.length:=by
 unfold stepT;split
 ·split
  ·rfl
  ·split <;> rfl
 ·rfl
end My
set_option maxHeartbeats 1000000
namespace My
open PySem L2
seal PySem.wpAny
def MO (A:Adr)(i:Nat)(c:Col)(H:Hp)(o:Addr):Rs×Ch->VK->XK->Prop
 | (.num n,st),Q,_=>∀c' H',Step (dG i) c c' H H'->f6 A i c' H' o st->Q (nV n) H'
 | (.txt z,st),Q,_=>∀c' H',Step (dG i) c c' H H'->f6 A i c' H' o st->Q (.str z) H'
 | (.exc x,st),_,E=>∀c' H' C d,Step (dG i) c c' H H'->f6 A i c' H' o st->x.At A H' C d->(∀a,d=some a->c' a=none)->E C d H'
def MQ:List Str:=[ar "seats",ar "sitting",ar "closed",ar "made",ar "pile",ar "aside",ar "decided",ar "first_texts",ar "edits_kept",ar "rows"]
theorem dh {m:Str}{v0 v1 v2 v3 v4 v5 v6 v7 v8 v9:V}(h:m∉MQ):(chF v0 v1 v2 v3 v4 v5 v6 v7 v8 v9).lookup m=none:=by
 unfold MQ at h;simp only[List.mem_cons,List.not_mem_nil,or_false,not_or]at h;obtain⟨h0,h1,h2,h3,h4,h5,h6,h7,h8,h9⟩:=h;unfold chF;simp only[ak0,beq_eq_false_iff_ne.mpr h0,beq_eq_false_iff_ne.mpr h1,beq_eq_false_iff_ne.mpr h2,beq_eq_false_iff_ne.mpr h3,beq_eq_false_iff_ne.mpr h4,beq_eq_false_iff_ne.mpr h5,beq_eq_false_iff_ne.mpr h6,beq_eq_false_iff_ne.mpr h7,beq_eq_false_iff_ne.mpr h8,beq_eq_false_iff_ne.mpr h9]
def MR (A:Adr)(i:Nat):Sp:=λvs H Q _=>∃(o mo:Addr) (c:Col) (st:Ch) (m:Mn) (N:Nat),vs=[.ref o,.ref mo]/\f6 A i c H o st/\mP A c H m mo/\Inv N st/\N<=900/\yQ (st.aq.map st.mo) m/\MOk N m /\
 ∀c' H',Step (dG i) c c' H H'->f6 A i c' H' o (st.carry m)->Q .non H'
def QI (A:Adr)(i:Nat):Sp:=λvs H Q E=>∃(o:Addr) (a b:Int) (c:Col) (st:Ch) (N:Nat),vs=[.ref o,.int a,.int b]/\f6 A i c H o st/\Inv N st/\N<=800/\(0<=a/\a < 10 ^ 10)/\(0<=b/\b < 10 ^ 10)/\MO A i c H o (kY st a b) Q E
def QJ (A:Adr)(i:Nat):Sp:=λvs H Q E=>∃(o:Addr) (c:Col) (st:Ch) (N:Nat),vs=[.ref o]/\f6 A i c H o st/\Inv N st/\N<=800/\MO A i c H o (lJ st) Q E
def QK (A:Adr)(i:Nat):Sp:=λvs H Q E=>∃(o:Addr) (z:Int) (c:Col) (st:Ch) (N:Nat),vs=[.ref o,.int z]/\f6 A i c H o st/\Inv N st/\N<=800/\-1<=z/\z < 10 ^ 10/\MO A i c H o (stepT st z.toNat) Q E
theorem yh:∀ {ks:List Nat} {vs:List V},gL (a8 (ks.zip vs)) (kq (-1))=none
 |[],_=>rfl
 |_::_,[]=>rfl
 |k::ks,v::vs=>by
  rw[cN,bP (λz=>by have:=Sum.inl.inj z;omega)]
  exact yh
theorem Inv.no0 {N:Nat}{st:Ch}(I:Inv N st):at1 0 st.ay=none:=by
 cases e:at1 0 st.ay with
 |none=>rfl
 |some x =>
  obtain⟨h1,h2⟩:=ji e;obtain⟨r,hr⟩:=(I.asd x h2).2.1;have:=(I.sP h2 x.1 (by rw[hr];exact fu)).1
  omega
theorem FF {i:Nat}{c:Col}{H:Hp}{t:Addr}{xs:List V}:yc i (aC c t none) (upd H t (.tup xs)) t xs:=⟨by rw[aV];exact aU,ae⟩
theorem wL {A:Adr}{c:Col}{H H':Hp}{f:Nat->Mn}(s:bu H H'):∀ {ns:List Nat} {os:List Addr},bD (λn m=>mP A c H (f n) m) ns os->bD (λm p=>mP A c H' m p) (ns.map f) os
 |_,_,.nil=>.nil
 |_,_,.cons h t=>.cons (h.same s) (wL s t)
theorem Ck {kd:Str}{ns:List Int}(h:(kd,ns.length)∈R.je)(hn:∀i∈ns,0<=i/\i < 10 ^ 10):R.DOk (.nums kd ns):=⟨h,hn⟩
section
variable{P:me}{w:World}{K:ba}{mg:Str->Option Value}{base:Heap}{A:Adr}
theorem FG (T:Txt w.params K mg A){i:Nat}:aO P w K mg base CX0 5 A.bA A.dZ ["self","motion"] (MR A i):=by
 have gF:∀k,k < 8->aO P w K mg base CX0 1 (A.fk k) (A.fkd k) ["self"] (fZ k):=lT T;have pW:aO P w K mg base CX0 4 A.bp A.cQ ["self","edit"] (QD A i):=yd T;have pX:aO P w K mg base CX0 4 A.bq A.cS ["self","edit"] (QF A i):=ye T;have lK:aO P w K mg base CX0 1 A.bB A.d0 ["self","until"] (QB A i):=Fz T;refine T.cZ.ok kL (λvs H Q E h=>?_) (λcdv A' outer s H vs Q E hr h=>?_)
 ·obtain⟨o,mo,c,st,m,N,rfl,_⟩:=h;rfl
 ·obtain⟨o,mo,c,st,m,N,rfl,hc,hmo,I,hN,wM,C7,q⟩:=h;obtain⟨dx,aM,aP,aA,aD,aF,aE,aR,ms,ds,ws,fs,es,X⟩:=hc.ex;have d6:Room 1 _:=hr.mono (by decide)
  have og:Room 4 _:=hr;have oh:Room 4 _:=hr;have k9:Room 1 _:=hr.mono (by decide)
  refine⟨_,(ai (a6 (i:=2) kL.nd rfl (Lk rfl) (oR (n:=8) (Cf:=A.C) (pv 1) T.cl T.nZ gF d6 T.n5 aZ))
 (aj (a7 (az bt (pv 2) ao (aL _))
 (aj (bL (j7 (pv 0) T.au T.iS pW og T.cV .nil aZ (aa (br (pv 1) rfl) ah))))
 (aj (a7 (az bt (pv 2) ao (aL _))
 (aj (bL (j7 (pv 0) T.au T.iT pX oh T.cW .nil aZ (aa (br (pv 1) rfl) ah))))
 (aj (a7 (az bt (pv 2) ao (aL _))
 (aj (bL (j7 (pv 0) T.au T.hX lK k9 T.df .nil aZ (aa (br (pv 1) rfl) ah))))
 (aj (a7 (az bt (pv 2) ao (aL _))
 (aj (eA (pv 0) g9 rfl))
 (aj (a7 (az bt (pv 2) ao (aL _))
 (aj (bL (j7 (pv 0) T.au T.hX lK k9 T.df .nil aZ (aa (br (pv 0) rfl) ah))))
 (aj (a7 (az bt (pv 2) ao (aL _))
 (aj (eA (pv 0) (a4 cX (br (pv 0) rfl) af) rfl))
 aH))))))))))))),?_⟩
  refine hide λGg hGg=>?_
  obtain⟨hcn,dm,v,hm,hv⟩:=hmo;refine hGg ?_;refine⟨_,rfl,m.k,m.k8,mo,dm,_,rfl,hm,lS m.k v,mo,rfl,?_⟩;have lM:=I.lm;cases m with
  |mat tx=>exact⟨_,rfl,rfl,tsf (bZ 0 (by decide)) ⟨_,rfl,rfl,tsf (b8 0 (by decide)) ⟨_,rfl,rfl,tsf (gH 0 (by decide)) ⟨_,rfl,rfl,tsf (jh 0 (by decide)) ⟨_,rfl,rfl,tsf (Fv 0 (by decide)) ⟨_,rfl,rfl,tsf (mT 0 (by decide)) (q c H (Step.refl aU) hc)⟩⟩⟩⟩⟩⟩
  |pnt z=>exact⟨_,rfl,rfl,tsf (bZ 7 (by decide)) ⟨_,rfl,rfl,tsf (b8 7 (by decide)) ⟨_,rfl,rfl,tsf (gH 7 (by decide)) ⟨_,rfl,rfl,tsf (jh 7 (by decide)) ⟨_,rfl,rfl,tsf (Fv 7 (by decide)) ⟨_,rfl,rfl,tsf (mT 7 (by decide)) (q c H (Step.refl aU) hc)⟩⟩⟩⟩⟩⟩
  |chg e =>
   refine⟨_,rfl,rfl,tst (bZ 1 (by decide)) ?_⟩
   refine hide λGg hGg=>?_
   obtain⟨tx,h1,hf⟩:=wM;obtain⟨k,e1,e2⟩:=Tc h1;have hn:k∈st.aq:=by rw[e1];exact fu
   have hno:=I.bT k hn;have htx:=I.yf hno;rw[e2]at htx;have aio:tx.length<=12+N:=htx.1;obtain⟨x,hx,hxl⟩:=I.keptAt hno (by rw[e2];rfl)
   have e3:st.carry (.chg e)=st.QC k tx e:=by unfold Ch.carry;rw[e1];dsimp only;rw[e2]
   rw[e3]at q;have QL:EdB (12+N) e:=C7;obtain⟨t,rfl,ht⟩:=hv;refine hGg ?_;refine mtv rfl X.ob (dh (by decide +kernel)) ⟨_,rfl,mo,A.C 1,dm,_,.ref t,rfl,hm,T.cl 1 (by decide),T.na1,rfl,?_⟩
   exact⟨o,t,c,st,k,[],tx,e,x,rfl,hc,e1,hno,e2,by omega,by omega,ht,QL.ok (by omega),hf,hx,by omega,by rw[I.kk];exact KA st,q⟩
  |mnd f =>
   refine⟨_,rfl,rfl,tsf (bZ 2 (by decide)) ⟨_,rfl,rfl,tst (b8 2 (by decide)) ?_⟩⟩
   refine hide λGg hGg=>?_
   obtain⟨tx,e,h1,hk,hf⟩:=wM;obtain⟨a,b,e1,e2,e3⟩:=W5 h1;have hb:b∈st.aq:=by rw[e1];exact ky _ fu
   have hno:=I.bT b hb;have he:=I.yf hno;rw[e3]at he;have he':EdB (12+N) e:=he;obtain⟨w1,w2⟩:=he'.words;have e4:st.carry (.mnd f)=st.QE b e (bH (R.bh e.th) f):=by unfold Ch.carry;rw[e1];show (match st.mo b with | .chg e=>_ | _=>st)=_;rw[e3];rfl
   rw[e4]at q;obtain⟨hf1,w0,hw0,hw1⟩:=C7;have l1:=uu (R.bh e.th) f;have l2:=R.D0 (uZ w1 (by rw[hw0];exact hw1):∀w∈bH (R.bh e.th) f,R.n9 w)
   obtain⟨t,rfl,ht⟩:=hv;refine hGg ?_;refine mtv rfl X.ob (dh (by decide +kernel)) ⟨_,rfl,mo,A.C 2,dm,_,.ref t,rfl,hm,T.cl 2 (by decide),T.na2,rfl,?_⟩
   exact⟨o,t,c,st,b,[a],e,f,rfl,hc,e1,hno,e3,hk,he'.ok (by omega),by omega,by omega,ht,hf1.ok (by omega),hf,by omega,q⟩
  |off u =>
   refine⟨_,rfl,rfl,tsf (bZ 3 (by decide)) ⟨_,rfl,rfl,tsf (b8 3 (by decide)) ⟨_,rfl,rfl,tst (gH 3 (by decide)) ?_⟩⟩⟩
   refine hide λGg hGg=>?_
   obtain⟨⟨tx,r,h1⟩,_⟩:=wM;obtain⟨k,r',e1,_⟩:=Nz h1;have e3:st.carry (.off u)=st.lW k u:=by unfold Ch.carry;rw[e1]
   rw[e3]at q;have hv':v=.int u:=hv;subst hv';have:=I.la;refine hGg ?_;refine mtv rfl X.ob (dh (by decide +kernel)) ⟨_,rfl,mo,A.C 3,dm,_,.int u,rfl,hm,T.cl 3 (by decide),T.na3,rfl,?_⟩
   exact⟨o,u,c,st,k,r',rfl,hc,e1,I.FD (by rw[e1];exact fu),by omega,q⟩
  |cls =>
   refine⟨_,rfl,rfl,tsf (bZ 4 (by decide)) ⟨_,rfl,rfl,tsf (b8 4 (by decide)) ⟨_,rfl,rfl,tsf (gH 4 (by decide)) ⟨_,rfl,rfl,tst (jh 4 (by decide)) ?_⟩⟩⟩⟩
   refine⟨_,rfl,o,A.ax,dx,_,rfl,X.ob,T.au,T.jq3,(by show 10 < 1000;decide),?_⟩
   rw[B9];obtain⟨s1,X1⟩:=X.attr st.aI true;exact q c _ s1.ie X1.at
  |lay =>
   refine⟨_,rfl,rfl,tsf (bZ 5 (by decide)) ⟨_,rfl,rfl,tsf (b8 5 (by decide)) ⟨_,rfl,rfl,tsf (gH 5 (by decide)) ⟨_,rfl,rfl,tsf (jh 5 (by decide)) ⟨_,rfl,rfl,tst (Fv 5 (by decide)) ?_⟩⟩⟩⟩⟩
   refine hide λGg hGg=>?_
   obtain⟨⟨tx,r,h1⟩,_⟩:=wM;obtain⟨k,r',e1,_⟩:=Nz h1;have e3:st.carry .lay=st.lW k st.aI:=by unfold Ch.carry;rw[e1]
   rw[e3]at q;have:=I.la;refine hGg ?_;refine mtv rfl X.ob (dh (by decide +kernel)) (eZ rfl X.ob T.au T.jq1 iU ?_)
   exact⟨o,st.aI,c,st,k,r',rfl,hc,e1,I.FD (by rw[e1];exact fu),by omega,q⟩
  |rst =>
   refine⟨_,rfl,rfl,tsf (bZ 6 (by decide)) ⟨_,rfl,rfl,tsf (b8 6 (by decide)) ⟨_,rfl,rfl,tsf (gH 6 (by decide)) ⟨_,rfl,rfl,tsf (jh 6 (by decide)) ⟨_,rfl,rfl,tsf (Fv 6 (by decide)) ⟨_,rfl,rfl,tst (mT 6 (by decide)) ?_⟩⟩⟩⟩⟩⟩
   refine eZ rfl X.ob T.au T.jq1 iU ⟨_,_,rfl,rfl,_,rfl,o,A.ax,dx,_,rfl,X.ob,T.au,T.jq1,(by show 10 < 1000;decide),?_⟩
   rw[GX];obtain⟨s1,X1⟩:=X.attr (st.aI+1) st.closed;exact q c _ s1.ie X1.at
theorem Td (T:Txt w.params K mg A){i:Nat}:aO P w K mg base (CXX P w) 6 A.cj A.iw ["self","ayes","noes"] (QI A i):=by
 have dN:aO P w K mg base (CXX P w) 1 A.a9 A.bU ["self"] (xZ A i):=mR T;have jO:aO P w K mg base CX0 1 A.bF A.dY ["self","word"] (Cc A i):=D2 T;have uA:aO P w K mg base CX0 5 A.bA A.dZ ["self","motion"] (MR A i):=FG T;have fw:aO P w K mg base CX0 5 A.bg A.cx ["self","deed"] (QA A i):=rg T;have NF:aO P w K mg base CX0 1 A.Aw A.qu ["need","ayes","noes"] Qr:=Kt T;have W6:∀k,k < 8->aO P w K mg base CX0 1 (A.fn k) (A.fnd k) ["self"] (Fm k):=S7 T;refine T.gz.okX ll (λvs H Q E h=>?_) (λcdv A' outer s H vs Q E hr h=>?_)
 ·obtain⟨o,a,b,c,st,N,rfl,_⟩:=h;rfl
 ·obtain⟨o,a,b,c,st,N,rfl,hc,I,hN,ha,hb,q⟩:=h;obtain⟨dx,aM,aP,aA,aD,aF,aE,aR,ms,ds,ws,fs,es,X⟩:=hc.ex;have hu1:=hr.u1;have dC:Room 1 _:=hr.mono (by decide)
  have jk:Room 1 _:=hr.mono (by decide)
  have sS:Room 5 _:=hr;have eP:Room 5 _:=hr;have KC:Room 1 _:=hr.mono (by decide)
  have Te:Room 1 _:=hr.mono (by decide)
  refine⟨_,(bb (mr (xA (px (pv 0)) T.au T.dM dN dC T.b7))
 (bb (iB (az AS (a4 cX (pv 1) (pv 2)) (br (pv 0) rfl) (aL _))
 (bE (lY T.BW rfl rfl T.DX (aa ao ah)))
 (xy aH))
 (bb (psx (a6 (i:=3) ll.nd rfl (Lk rfl) (bc hu1 (br (pv 0) rfl) (aK bw (br (pv 0) rfl) (mj iA af) (λ_ _=>rfl)) (λ_ _=>rfl))))
 (bb (psx (a6 (i:=4) ll.nd rfl (Lk rfl) (F3 (mi (aW NF KC rfl T.DJ T.xK.kp T.DI .nil aZ (aa (oR (n:=8) (Cf:=A.C) (pv 3) T.cl T.Qc W6 Te T.Qd aZ) (aa (pv 1) (aa (pv 2) ah))))) ao ao)))
 (bb (psx (bL (j7 (pv 0) T.au T.jK jO jk T.eM .nil aZ (aa (pv 4) ah))))
 (bb (psx (a7 (az bt (pv 4) ao (aL _))
 (aj (bL (j7 (pv 0) T.au T.lH uA sS T.ez .nil aZ (aa (pv 3) ah))))
 aH))
 (bb (psx (bL (j7 (pv 0) T.au T.fh fw eP T.cF .nil aZ (aa (bj (aa ao (aa (pv 1) (aa (pv 2) ah)))) ah))))
 (bE (psx (aG (pv 4))))))))))),?_⟩
  refine mtv rfl X.ob (dh (by decide +kernel)) ⟨o,c,st,rfl,hc,λhne=>?_,λhe=>?_⟩
  case refine_2 =>
   unfold kY at q;rw[he]at q;exact q c H _ _ (Step.refl aU) hc ⟨rfl,rfl⟩ (λ_ z=>nomatch z)
  refine hide λGg hGg=>?_
  obtain⟨pre,n,e⟩:∃pre n,st.aq=pre++[n]:=by
   rcases aky st.aq with e | ⟨pre,n,e⟩
   ·exact absurd e hne
   ·exact⟨pre,n,by rw[e,akz]⟩
  have gl:st.aq.getLast?=some n:=by rw[e];exact ak1
  have ed:st.aq.dropLast=pre:=by rw[e];exact ala
  unfold kY at q;rw[gl]at q;dsimp only at q;rw[ed]at q;refine hGg ?_;refine⟨_,rfl,_,rfl,_,_,rfl,rfl,eZ rfl X.ob T.au T.jqq Nu ⟨_,_,rfl,rfl,_,rfl,eR (λz=>?_) (λz=>?_)⟩⟩
  ·have z':a+b > st.cC:=of_decide_eq_true z;rw[if_pos z']at q;exact⟨by decide,q c H _ _ (Step.refl aU) hc ⟨rfl,rfl⟩ (λ_ z=>nomatch z)⟩
  refine hide λGg hGg=>?_
  have z':¬a+b > st.cC:=λy=>z (decide_eq_true y)
  rw[if_neg z']at q;have hn:n∈st.aq:=by rw[e];simp
  have hno:=I.bT n hn;obtain⟨mo,hv,hmo⟩:=X.W3 hno;have hcp:=hmo;obtain⟨_,dm,v,hm,_⟩:=hmo;have h0:atI (st.aq.map nV) (-1)=some (nV n):=by rw[e,ku];exact gq _ _
  refine hGg ?_;refine⟨_,rfl,o,A.ax,dx,_,.ref aM,rfl,X.ob,T.au,T.jq4,kW,_,rfl,o,A.ax,dx,_,.ref aP,rfl,X.ob,T.au,T.jq0,eO,_,rfl,aP,_,_,_,rfl,rfl,SqL.of X.aq.2,h0,aM,_,rfl,.inl ⟨_,kq (n:Int),.inl X.made.2,rfl,hv.symm⟩,?_⟩;refine⟨_,rfl,(st.mo n).k,(st.mo n).k8,mo,dm,_,rfl,hm,SY _ v,mo,rfl,_,rfl,_,rfl,nd (st.mo n).k,a,b,rfl,_,rfl,?_⟩;obtain⟨I1,wM⟩:=I.pop e (pV (lI (nd (st.mo n).k) a b)) (FE _);have C7:=(I.yf hno).mono (ak7 N);have lp:=I.pil.Kx;rw[bo]at lp;have ld:=I.ld;have lr:=I.lr;have dk:R.DOk (.nums (ar "vote") [a,b]):=Ck (by show (ar "vote",2)∈R.je;decide +kernel) (by
   intro i hi;rcases List.mem_cons.mp hi with h | hi
   ·rw[h];exact ha
   ·rw[akR]at hi;rw[hi];exact hb)
  cases hk:lI (nd (st.mo n).k) a b with
  |true =>
   rw[hk]at q I1;rw[if_pos rfl]at q;refine dJ (mtv rfl X.ob (dh (by decide +kernel)) ⟨_,rfl,o,sQ,c,st,pre,n,rfl,hc,e,by omega,by omega,λc1 H1 s1 hc1=>?_⟩)
   refine hide λGg hGg=>?_
   obtain⟨dx1,aM1,aP1,aA1,aD1,aF1,aE1,aR1,ms1,ds1,ws1,fs1,es1,X1⟩:=hc1.ex;refine hGg ?_;refine⟨_,rfl,rfl,tst (by decide +kernel) (mtv rfl X1.ob (dh (by decide +kernel)) ⟨_,rfl,o,mo,c1,_,st.mo n,N+1,rfl,hc1,hcp.step s1,I1,by omega,wM,C7,λc2 H2 s2 hc2=>?_⟩)⟩
   refine hide λGg hGg=>?_
   obtain⟨dx2,aM2,aP2,aA2,aD2,aF2,aE2,aR2,ms2,ds2,ws2,fs2,es2,X2⟩:=hc2.ex;have I2:=I1.carry (by omega) wM C7
   refine hGg ?_;refine mtv rfl X2.ob (dh (by decide +kernel)) ⟨_,rfl,_,rfl,(sl 3),λt ht=>?_⟩
   have s3:Step (dG i) c2 (aC c2 t none) H2 (upd H2 t (.tup [V.str (ar "vote"),.int a,.int b])):=Step.new aU ht;have X3:=X2.free (W:=λ_=>False) (λ_=>id) (Step.new (x:=none) (o:=.tup [V.str (ar "vote"),.int a,.int b]) id ht)
   have lr2:=I2.lr;refine⟨o,t,_,_,.nums (ar "vote") [a,b],rfl,X3.at,FF,dk,tm lr2 (by omega),λc4 H4 s4 hc4=>⟨_,rfl,?_⟩⟩
   exact q c4 H4 (((s1.trans s2).trans s3).trans s4) hc4
  |false =>
   rw[hk]at q I1;rw[if_neg kx]at q;refine bS (mtv rfl X.ob (dh (by decide +kernel)) ⟨_,rfl,o,D9,c,st,pre,n,rfl,hc,e,by omega,by omega,λc1 H1 s1 hc1=>?_⟩)
   refine hide λGg hGg=>?_
   obtain⟨dx2,aM2,aP2,aA2,aD2,aF2,aE2,aR2,ms2,ds2,ws2,fs2,es2,X2⟩:=hc1.ex;refine hGg ?_;refine⟨_,rfl,rfl,tsf (by decide +kernel) ?_⟩
   refine mtv rfl X2.ob (dh (by decide +kernel)) ⟨_,rfl,_,rfl,(sl 3),λt ht=>?_⟩
   have s3:Step (dG i) c1 (aC c1 t none) H1 (upd H1 t (.tup [V.str (ar "vote"),.int a,.int b])):=Step.new aU ht;have X3:=X2.free (W:=λ_=>False) (λ_=>id) (Step.new (x:=none) (o:=.tup [V.str (ar "vote"),.int a,.int b]) id ht)
   refine⟨o,t,_,_,.nums (ar "vote") [a,b],rfl,X3.at,FF,dk,by show st.rows.length<=1000;omega,λc4 H4 s4 hc4=>⟨_,rfl,?_⟩⟩
   exact q c4 H4 ((s1.trans s3).trans s4) hc4
theorem Tf (T:Txt w.params K mg A){i:Nat}:aO P w K mg base (CXX P w) 6 A.ck A.ix ["self"] (QJ A i):=by
 have dN:aO P w K mg base (CXX P w) 1 A.a9 A.bU ["self"] (xZ A i):=mR T;have jO:aO P w K mg base CX0 1 A.bF A.dY ["self","word"] (Cc A i):=D2 T;have fw:aO P w K mg base CX0 5 A.bg A.cx ["self","deed"] (QA A i):=rg T;refine T.gA.okX zb (λvs H Q E h=>?_) (λcdv A' outer s H vs Q E hr h=>?_)
 ·obtain⟨o,c,st,N,rfl,_⟩:=h;rfl
 ·obtain⟨o,c,st,N,rfl,hc,I,hN,q⟩:=h;obtain⟨dx,aM,aP,aA,aD,aF,aE,aR,ms,ds,ws,fs,es,X⟩:=hc.ex;have dC:Room 1 _:=hr.mono (by decide)
  have jk:Room 1 _:=hr.mono (by decide)
  have eP:Room 5 _:=hr;refine⟨_,(bb (mr (xA (px (pv 0)) T.au T.dM dN dC T.b7))
 (bb (psx (bL (j7 (pv 0) T.au T.jK jO jk T.eM .nil aZ (aa ao ah))))
 (bb (psx (bL (j7 (pv 0) T.au T.fh fw eP T.cF .nil aZ (aa (bj (aa ao ah)) ah))))
 (bE (psx (aG ao)))))),?_⟩
  refine mtv rfl X.ob (dh (by decide +kernel)) ⟨o,c,st,rfl,hc,λhne=>?_,λhe=>?_⟩
  case refine_2 =>
   unfold lJ at q;rw[he]at q;exact q c H _ _ (Step.refl aU) hc ⟨rfl,rfl⟩ (λ_ z=>nomatch z)
  refine hide λGg hGg=>?_
  obtain⟨pre,n,e⟩:∃pre n,st.aq=pre++[n]:=by
   rcases aky st.aq with e | ⟨pre,n,e⟩
   ·exact absurd e hne
   ·exact⟨pre,n,by rw[e,akz]⟩
  have gl:st.aq.getLast?=some n:=by rw[e];exact ak1
  have ed:st.aq.dropLast=pre:=by rw[e];exact ala
  unfold lJ at q;rw[gl]at q;dsimp only at q;rw[ed]at q;have lp:=I.pil.Kx;rw[bo]at lp;have ld:=I.ld;have lr:=I.lr;refine hGg ?_;refine mtv rfl X.ob (dh (by decide +kernel)) ⟨o,fF,c,st,pre,n,rfl,hc,e,by omega,by omega,λc1 H1 s1 hc1=>?_⟩
  refine hide λGg hGg=>?_
  obtain⟨dx2,aM2,aP2,aA2,aD2,aF2,aE2,aR2,ms2,ds2,ws2,fs2,es2,X2⟩:=hc1.ex;refine hGg ?_;refine mtv rfl X2.ob (dh (by decide +kernel)) ⟨(sl 1),λt ht=>?_⟩
  have s3:Step (dG i) c1 (aC c1 t none) H1 (upd H1 t (.tup [V.str (ar "drop")])):=Step.new aU ht;have X3:=X2.free (W:=λ_=>False) (λ_=>id) (Step.new (x:=none) (o:=.tup [V.str (ar "drop")]) id ht)
  refine⟨o,t,_,_,.nums (ar "drop") [],rfl,X3.at,FF,Ck (by decide +kernel) (λ_ h=>nomatch h),by show st.rows.length<=1000;omega,λc4 H4 s4 hc4=>?_⟩
  exact q c4 H4 ((s1.trans s3).trans s4) hc4
theorem Tg (T:Txt w.params K mg A){i:Nat}:aO P w K mg base (CXX P w) 6 A.cn A.iy ["self","number"] (QK A i):=by
 have kX:aO P w K mg base CX0 4 A.mf A.gZ ["deed"] (R.Fs K):=R.qK T;have Ci:aO P w K mg base CX0 3 A.Br A.pF ["pile","closed"] (Qv A K):=D5 T;have jm:aO P w K mg base CX0 1 A.bC A.dA ["self"] (x8 A i):=Cb T;have uX:aO P w K mg base CX0 1 A.r6 A.pL ["self","bar"] (CU A.mE "bar"):=yP T;have KD:aO P w K mg base CX0 1 A.vW A.ui ["self","sitting"] (CU A.pK "sitting"):=GZ T;refine T.gB.okX qT (λvs H Q E h=>?_) (λcdv A' outer s H vs Q E hr h=>?_)
 ·obtain⟨o,z,c,st,N,rfl,_⟩:=h;rfl
 ·obtain⟨o,z,c,st,N,rfl,hc,I,hN,hz0,hz1,q⟩:=h;obtain⟨dx,aM,aP,aA,aD,aF,aE,aR,ms,ds,ws,fs,es,X⟩:=hc.ex;have hu1:=hr.u1;have hgd:=hr.gd;have jj:Room 4 _:=hr.mono (by decide)
  have yb:Room 3 _:=hr.mono (by decide)
  have iF:Room 1 _:=hr.mono (by decide)
  have Nv:Room 2 _:=hr.mono (by decide)
  have lim:kf=16777216:=by decide
  refine⟨_,(bb (iB (rQ (br (pv 0) rfl) (λ_=>rfl))
 (bE (qt T.pN uX Nv T.mK rfl rfl T.BQ (aa (aW Ci yb rfl T.Bw T.vX.kp T.Bv .nil aZ (aa (gk (pv 0) T.au T.jb jm iF T.d4 .nil aZ) (aa (br (pv 0) rfl) ah))) ah)))
 (xy aH))
 (bb (iB (ON (DA hu1 (pv 1) (br (pv 0) rfl)))
 (bE (lY T.BX rfl rfl T.DY (aa (Gm (oS (A4 (pv 1) (oS A3)))) ah)))
 (xy aH))
 (bb (psx (a6 (i:=2) qT.nd rfl (Lk rfl) (aK aN (bc hu1 (br (pv 0) rfl) (pv 1) (λ_ _=>rfl)) af (λ_ _=>rfl))))
 (bb (iB (az rP (br (pv 0) rfl) (pv 2) (aL _))
 (bE (qt T.uo KD Nv T.qI rfl rfl T.GP (aa (pv 2) ah)))
 (xy aH))
 (bb (psx (eA (pv 0) (aK V8 (Gs (br (pv 0) rfl) (pv 1) ⟨rfl,rfl,rfl,rfl⟩) af (λ_ _=>rfl)) rfl))
 (bb (psx (bL (hG rf akB akC cU (br (pv 0) rfl) (aa (aW kX jj rfl T.nL T.kP.kp T.nK .nil aZ (aa (bj (aa ao (aa (pv 1) ah))) ah)) ah))))
 (bE (psx (aG (pv 1)))))))))),?_⟩
  by_cases hz:z=-1
  ·subst hz;refine eZ rfl X.ob T.au T.jq0 eO ⟨_,.inl ⟨_,.inl (.inl X.aq.2),rfl⟩,?_⟩;rw[show ((-1:Int).toNat)=0 from rfl]at q
   unfold stepT at q;cases e:st.aq with
   |cons k0 r0 =>
    rw[if_neg (by rw[e];exact akH _ _)]at q
    have lp:=I.pil.Kx;rw[bo]at lp;have hb:=Ku st.closed (st.aq.map st.mo);have hb0:0<=oa st.closed (st.aq.map st.mo):=Int.le_trans (by
     by_cases z:rC (st.aq.map st.mo) < 0
     ·have:=Cj z;rw[e]at this;cases this
     ·omega) (sO _ _)
    refine dJ (mtv rfl X.ob (dh (by decide +kernel)) ⟨o,c,st,rfl,hc,I.bT,by omega,λB os hB hos=>?_⟩)
    have sB:=aB (o:=.lst (os.map V.ref)) hB;refine eZ rfl (sB _ _ X.ob) T.au T.jq3 qM ⟨B,st.closed,c,st.aq.map st.mo,os,rfl,⟨SqL.of ae,wL sB hos⟩,?_⟩;refine⟨_,rfl,pR (by omega) (by omega),λd hd=>?_⟩
    exact q (cc c H) _ _ _ (Step.cl aU (sB.new hd)) (X.cl (sB.new hd)).at ⟨rfl,d,rfl,ae⟩ (λ_ z=>by cases z;exact bY (same_none sB hd))
   |nil =>
    rw[if_pos e,I.no0]at q;refine bS ?_;refine⟨_,rfl,eZ rfl X.ob T.au T.jq2 jM ⟨aA,_,rfl,.inl ⟨_,kq (-1),.inl X.ay.2,rfl,rfl⟩,_,rfl,?_⟩⟩;rw[yh];have l1:(akP++ar "no matter of the number ":Str).length=24:=by decide +kernel
    have l2:(ar " is aside").length=9:=by decide +kernel
    have l3:(ar (toString (-1:Int))).length=2:=by decide +kernel
    refine dJ ⟨by rw[l1];omega,_,rfl,_,.int (by decide),by rw[l3];omega,by rw[len_app,l1,l3];omega,by rw[len_app,len_app,l1,l2,l3];omega,by rw[len_app,len_app,l1,l2,l3];omega,(sl 1),?_⟩
    exact q c H _ _ (Step.refl aU) hc ⟨rfl,rfl⟩ (λ_ z=>nomatch z)
  refine hide λGg hGg=>?_
  obtain⟨n,rfl⟩:∃n:Nat,z=(n:Int):=⟨z.toNat,by omega⟩
  rw[Int.toNat_natCast]at q;have akn:n < 10 ^ 10:=by
   have:(10:Nat) ^ 10=10000000000:=by decide
   have:(10:Int) ^ 10=10000000000:=by decide
   omega
  clear hz hz0 hz1;refine hGg ?_;refine eZ rfl X.ob T.au T.jq0 eO ⟨_,.inl ⟨_,.inl (.inl X.aq.2),rfl⟩,?_⟩;unfold stepT at q;cases e:st.aq with
  |cons k0 r0 =>
   rw[if_neg (by rw[e];exact akH _ _)]at q
   have lp:=I.pil.Kx;rw[bo]at lp;have hb:=Ku st.closed (st.aq.map st.mo);have hb0:0<=oa st.closed (st.aq.map st.mo):=Int.le_trans (by
    by_cases z:rC (st.aq.map st.mo) < 0
    ·have:=Cj z;rw[e]at this;cases this
    ·omega) (sO _ _)
   refine dJ (mtv rfl X.ob (dh (by decide +kernel)) ⟨o,c,st,rfl,hc,I.bT,by omega,λB os hB hos=>?_⟩)
   have sB:=aB (o:=.lst (os.map V.ref)) hB;refine eZ rfl (sB _ _ X.ob) T.au T.jq3 qM ⟨B,st.closed,c,st.aq.map st.mo,os,rfl,⟨SqL.of ae,wL sB hos⟩,?_⟩;refine⟨_,rfl,pR (by omega) (by omega),λd hd=>?_⟩
   exact q (cc c H) _ _ _ (Step.cl aU (sB.new hd)) (X.cl (sB.new hd)).at ⟨rfl,d,rfl,ae⟩ (λ_ z=>by cases z;exact bY (same_none sB hd))
  |nil =>
   rw[if_pos e]at q;refine bS ?_;refine⟨_,rfl,eZ rfl X.ob T.au T.jq2 jM ⟨aA,_,rfl,.inl ⟨_,kq (n:Int),.inl X.ay.2,rfl,rfl⟩,_,rfl,?_⟩⟩;cases hx:at1 n st.ay with
   |none =>
    rw[hx]at q;rw[qO (wH hx)];have l1:(akP++ar "no matter of the number ":Str).length=24:=by decide +kernel
    have l2:(ar " is aside").length=9:=by decide +kernel
    have e10:(10:Nat) ^ 10=10000000000:=by decide
    have l3:(ar (toString (n:Int))).length<=20:=D4 (by omega) (by omega)
    refine dJ ⟨by rw[l1];omega,_,rfl,_,.int (D3 (by omega) (by omega)),by omega,by rw[len_app,l1];omega,by rw[len_app,len_app,l1,l2];omega,by rw[len_app,len_app,l1,l2];omega,(sl 1),?_⟩
    exact q c H _ _ (Step.refl aU) hc ⟨rfl,rfl⟩ (λ_ z=>nomatch z)
   |some x =>
    refine hide λGg hGg=>?_
    rw[hx]at q;dsimp only at q;obtain⟨t,p,hv,ht,hl⟩:=X.waitOf hx;refine hGg ?_;rw[hv];refine bS ?_;refine⟨_,rfl,o,A.ax,dx,_,.ref aA,rfl,X.ob,T.au,T.jq2,jM,_,rfl,aA,_,rfl,.inl ⟨_,kq (n:Int),.inl X.ay.2,rfl,hv.symm⟩,t,_,_,_,rfl,rfl,ht.sq,rfl,?_⟩;refine⟨_,rfl,o,A.ax,dx,_,.int st.aI,rfl,X.ob,T.au,T.jq1,iU,_,rfl,_,_,rfl,rfl,_,rfl,eR (λz=>?_) (λz=>?_)⟩
    ·have z':st.aI < x.2.1:=of_decide_eq_true z;refine hide λGg hGg=>?_
     rw[if_pos z']at q;obtain⟨_,_,b1,b2⟩:=I.asd x (ji hx).2;refine hGg ?_;refine⟨_,rfl,_,rfl,pR (by have:=I.sit.1;omega) b2,λd hd=>?_⟩
     exact q (cc c H) _ _ _ (Step.cl aU (aB hd)) (X.cl (aB hd)).at ⟨rfl,d,rfl,ae⟩ (λ_ z=>by cases z;exact bY hd)
    ·have z':¬st.aI < x.2.1:=λy=>z (decide_eq_true y)
     rw[if_neg z']at q;have nAt:t≠aA:=λy=>by have:=ht.1;rw[y,X.ay.1]at this;cases this
     have ht':SqT K (upd H aA (.dK (iJ (a8 ((st.ay.map (·.1)).zip ws)) (kq (n:Int))))) t [.int x.2.1,.ref p]:=by
      rcases ht.2 with h | ⟨u,h⟩
      ·exact .inl (.inl ((aw nAt).trans h))
      ·exact .inl (.inr ⟨u,(aw nAt).trans h⟩)
     have oA:o≠aA:=dB X.co X.ay.1 (λz=>nomatch z)
     refine eZ rfl X.ob T.au T.jq2 jM ⟨aA,rfl,.inl ⟨_,.inl X.ay.2⟩,_,rfl,_,kq (n:Int),_,X.ay.2,rfl,hv,.inr (.inl ⟨t,_,1,.ref p,rfl,rfl,ht',rfl,?_⟩)⟩;refine⟨_,rfl,o,A.ax,dx,_,rfl,(aw oA).trans X.ob,T.au,T.jq0,(by show 10 < 1000;decide),?_⟩
     rw[GY];refine hide λGg hGg=>?_
     obtain⟨c1,ws1,s1,X1⟩:=X.q9 hl;refine hGg ?_;generalize upd (upd H aA (.dK (iJ (a8 ((st.ay.map (·.1)).zip ws)) (kq (n:Int))))) o (.ins A.ax dx (chF (.int st.cC) (.int st.aI) (.bl st.closed) (.ref aM) (.ref p) (.ref aA) (.ref aD) (.ref aF) (.ref aE) (.ref aR)))=H1 at s1 X1 ⊢
     have lr:=I.lr;have h10:(n:Int) < 10 ^ 10:=by
      have:(10:Nat) ^ 10=10000000000:=by decide
      have:(10:Int) ^ 10=10000000000:=by decide
      omega
     refine eZ rfl X1.ob T.au T.jqk wD ⟨.inl ⟨rfl,_,SqL.of X1.rows.2⟩,_,rfl,(sl 2),λu hu=>?_⟩
     have s2:=aB (o:=.tup [V.str (ar "take"),nV n]) hu;refine⟨u,.nums (ar "take") [(n:Int)],rfl,SqT.of ae,Ck (by show (ar "take",1)∈R.je;decide +kernel) (by intro i hi;rw[akR]at hi;rw[hi];exact⟨by omega,h10⟩),λH2 s3=>?_⟩
     have X2:=X1.same (s2.trans s3);obtain⟨s4,X3⟩:=X2.row (R.sG (.nums (ar "take") [(n:Int)]));refine⟨aR,_,_,rfl,rfl,X2.rows.2,by rw[bo];show st.rows.length < _;omega,_,rfl,?_⟩
     exact q c1 _ ((s1.ie.trans (Step.same aU (s2.trans s3))).trans s4.ie) X3.at
end
end My
set_option maxHeartbeats 1000000
namespace My
open PySem L2
seal PySem.wpAny
def dH:R.eT->Mn
 | .mat cs=>.mat (cs.map (sr R.bl1))
 | .ed m k j ws=>if m=true then .mnd ⟨k,j,sr R.bl1 ws⟩ else .chg ⟨k,j,sr R.bl1 ws⟩
 | .pt ws=>.pnt (sr R.bl1 ws)
 | .nums kd ns=>if kd=ar "put off" then .off (ns.getD 0 0) else if kd=ar "close" then .cls else if kd=ar "lay" then .lay else .rst
def nO:List (Str×Nat):=[(ar "put off",1),(ar "close",0),(ar "lay",0),(ar "rest",0)]
def C8:R.eT->Prop
 | .mat cs=>cs.length<=12/\∀ws∈cs,R.B5 12 ws
 | .ed m k j ws=>(k=0\/k=1\/k=2)/\(-1000<=j/\j<=1000)/\R.B5 12 ws/\(m=true->ws.length=1)
 | .pt ws=>R.B5 12 ws
 | .nums kd ns=>(kd,ns.length)∈nO/\∀i∈ns,-10000000000 < i/\i < 10 ^ 10
theorem wN {kd:Str}{ns:List Int}(h:(kd,ns.length)∈nO):(∃u,kd=ar "put off"/\ns=[u])\/(kd=ar "close"/\ns=[])\/(kd=ar "lay"/\ns=[])\/(kd=ar "rest"/\ns=[]):=by
 unfold nO at h;simp only[List.mem_cons,List.not_mem_nil,or_false,Prod.mk.injEq]at h;rcases h with ⟨h1,h2⟩ | ⟨h1,h2⟩ | ⟨h1,h2⟩ | ⟨h1,h2⟩
 ·cases ns with
  |nil=>simp at h2
  |cons u r =>
   cases r with
   |nil=>exact .inl ⟨u,h1,rfl⟩
   |cons _ _=>simp at h2
 ·exact .inr (.inl ⟨h1,List.length_eq_zero_iff.mp h2⟩)
 ·exact .inr (.inr (.inl ⟨h1,List.length_eq_zero_iff.mp h2⟩))
 ·exact .inr (.inr (.inr ⟨h1,List.length_eq_zero_iff.mp h2⟩))
theorem G3 {n:Nat}{ws:List Str}(h:R.B5 n ws):alk (sr R.bl1 ws)=true:=(R.Clause.asc (n:=n) ⟨rfl,h.len,h.wd⟩).ok
theorem KG {N:Nat}:∀ {d:R.eT},C8 d->MOk N (dH d)
 | .mat cs,h=>by
  refine⟨?_,?_⟩
  ·rw[bo];have:=h.1;omega
  ·intro x hx;obtain⟨ws,hw,rfl⟩:=List.mem_map.mp hx;exact G3 (h.2 ws hw)
 | .ed m k j ws,h=>by
  obtain⟨h1,⟨h2,h3⟩,h4,h5⟩:=h;cases m with
  |true =>
   show EdB 1 ⟨k,j,sr R.bl1 ws⟩/\_;have hl:=h5 rfl
   match ws,hl,h4 with
   |[x],_,h4=>exact⟨⟨h1,h2,h3,[x],rfl,h4.wd,km 1⟩,x,rfl,h4.wd x fu⟩
  |false =>
   show EdB (12+N) ⟨k,j,sr R.bl1 ws⟩;exact⟨h1,h2,h3,ws,rfl,h4.wd,by have:=h4.len;omega⟩
 | .pt ws,h=>G3 h
 | .nums kd ns,h=>by
  obtain⟨h1,h2⟩:=h;rcases wN h1 with ⟨u,rfl,rfl⟩ | ⟨rfl,rfl⟩ | ⟨rfl,rfl⟩ | ⟨rfl,rfl⟩
  ·rw[dH,if_pos rfl];obtain⟨a,b⟩:=h2 u fu;have:(10:Int) ^ 10=10000000000:=by decide
   exact⟨a,by show u < _;omega⟩
  ·rw[dH,if_neg (by decide +kernel),if_pos rfl];trivial
  ·rw[dH,if_neg (by decide +kernel),if_neg (by decide +kernel),if_pos rfl];trivial
  ·rw[dH,if_neg (by decide +kernel),if_neg (by decide +kernel),if_neg (by decide +kernel)];trivial
theorem UH {M:Nat}{e:Ed}(h:gD M e=true):0<=e.at_:=(BY.mp h).1
theorem W7 {N:Nat}{st:Ch}(I:Inv N st){d:R.eT}(h:C8 d)(hc:kZ st (dH d)=none):R.DOk d:=by
 have ho:uW st.closed (st.aq.map st.mo) (dH d).k=none/\lA st (dH d)=none:=by
  unfold kZ at hc;split at hc
  ·cases hc
  ·exact⟨by assumption,hc⟩
 obtain⟨h0,hf⟩:=ho;cases d with
 |mat cs=>exact h
 |pt ws=>exact h
 |ed m k j ws =>
  obtain⟨h1,⟨h2,h3⟩,h4,h5⟩:=h;have e10:(10:Int) ^ 10=10000000000:=by decide
  refine⟨h1,⟨?_,by omega⟩,h4,h5⟩
  cases m with
  |true =>
   rw[dH,if_pos rfl]at h0 hf;have h3:fq (st.aq.map st.mo)=true:=(wI h0).2;unfold fq at h3;split at h3
   ·rename_i e he;unfold lA at hf;dsimp only at hf;rw[he]at hf;dsimp only at hf;split at hf
    ·rename_i h6;exact UH h6
    ·cases hf
   ·cases h3
  |false =>
   rw[dH,if_neg kx]at h0 hf;obtain⟨tx,r,e1⟩:=I.pil.Kw (wI h0).2;unfold lA at hf;dsimp only at hf;rw[e1]at hf;dsimp only at hf;split at hf
   ·rename_i h6;exact UH h6
   ·cases hf
 |nums kd ns =>
  obtain⟨h1,h2⟩:=h;have s1:=I.sit.1;rcases wN h1 with ⟨u,rfl,rfl⟩ | ⟨rfl,rfl⟩ | ⟨rfl,rfl⟩ | ⟨rfl,rfl⟩
  ·rw[dH,if_pos rfl]at hf;refine⟨by show (ar "put off",1)∈R.je;decide +kernel,λi hi=>?_⟩
   rw[akR]at hi;subst hi;unfold lA at hf;dsimp only at hf;split at hf
   ·cases hf
   ·rename_i h6;have h7:¬i<=st.aI:=h6;exact⟨by omega,(h2 i fu).2⟩
  ·exact⟨by decide +kernel,λ_ h=>nomatch h⟩
  ·exact⟨by decide +kernel,λ_ h=>nomatch h⟩
  ·exact⟨by decide +kernel,λ_ h=>nomatch h⟩
theorem sT {i:Nat}{c:Col}{H:Hp}{t:Addr}:∀ {d:R.eT},C8 d->pU i c H d t->∃v,yc i c H t (rowOf (dH d).k v)/\((dH d).k=0->∃L tx,v=.ref L/\dH d=.mat tx/\Ny i c H L (tx.map V.str))/\((dH d).k≠0->(dH d).Val c H v)
 | .mat cs,_,⟨L,a,b⟩=>⟨.ref L,a,λ_=>⟨L,_,rfl,rfl,b⟩,λz=>absurd rfl z⟩
 | .ed true k j ws,h,⟨e,a,b⟩=>⟨.ref e,a,λz=>(nomatch z),λ_=>⟨e,rfl,by rw[<-Fy h.1];exact b⟩⟩
 | .ed false k j ws,h,⟨e,a,b⟩=>⟨.ref e,a,λz=>(nomatch z),λ_=>⟨e,rfl,by rw[<-Fy h.1];exact b⟩⟩
 | .pt ws,_,a=>⟨.str (sr R.bl1 ws),a,λz=>(nomatch z),λ_=>rfl⟩
 | .nums kd ns,h,a=>by
  rcases wN h.1 with ⟨u,rfl,rfl⟩ | ⟨rfl,rfl⟩ | ⟨rfl,rfl⟩ | ⟨rfl,rfl⟩
  ·rw[dH,if_pos rfl];exact⟨.int u,a,λz=>(nomatch z),λ_=>rfl⟩
  ·rw[dH,if_neg (by decide +kernel),if_pos rfl]
   exact⟨.non,a,λz=>(nomatch z),λ_=>trivial⟩
  ·rw[dH,if_neg (by decide +kernel),if_neg (by decide +kernel),if_pos rfl]
   exact⟨.non,a,λz=>(nomatch z),λ_=>trivial⟩
  ·rw[dH,if_neg (by decide +kernel),if_neg (by decide +kernel),if_neg (by decide +kernel)]
   exact⟨.non,a,λz=>(nomatch z),λ_=>trivial⟩
def KH (A:Adr)(K:ba):Sp:=λvs H Q E=>Mx A vs H Q E\/GS A K vs H Q E
def UI (A:Adr)(i:Nat):Sp:=λvs H Q E=>∃(o t:Addr) (c:Col) (st:Ch) (N:Nat) (d:R.eT),vs=[.ref o,.ref t]/\f6 A i c H o st/\Inv N st/\N<=800/\C8 d/\pU i c H d t /\
 (kZ st (dH d)=none->∀H',bu H H'->Q .non H')/\∀x,kZ st (dH d)=some x->∀C e H',bu H H'->x.New A H H' C e->E C e H'
def QM (A:Adr)(i:Nat):Sp:=λvs H Q E=>∃(o t:Addr) (c:Col) (st:Ch) (N:Nat) (d:R.eT),vs=[.ref o,.ref t]/\f6 A i c H o st/\Inv N st/\N<=800/\C8 d/\pU i c H d t/\MO A i c H o (mU st (dH d) (R.sG d)) Q E
theorem MOk.ed1 {N:Nat}{e:Ed}(h:MOk N (.chg e))(hN:N<=800):rB e:=EdB.ok h (by omega)
theorem MOk.ed2 {N:Nat}{e:Ed}(h:MOk N (.mnd e)):rB e:=EdB.ok h.1 (by decide)
section
variable{P:me}{w:World}{K:ba}{mg:Str->Option Value}{base:Heap}{A:Adr}
theorem qP (T:Txt w.params K mg A){i:Nat}:aO P w K mg base (CXX P w) 6 A.a5 A.bX ["self","told"] (UI A i):=by
 have jm:aO P w K mg base CX0 1 A.bC A.dA ["self"] (x8 A i):=Cb T;have u3:aO P w K mg base (CXX P w) 5 A.gW A.eu ["kind","pile","closed"] (UC A K):=uy T;have kG:aO P w K mg base (CXX P w) 2 A.kO A.gw ["things","edit"] (Qk A K):=sD T;have fm:aO P w K mg base CX0 1 A.words_of A.eV ["clause"] R.fY:=R.kS T;have FH:aO P w K mg base CX0 1 A.qD A.nH ["self","sitting"] (CU A.jG "sitting"):=C6 T;refine T.bJ.okX cK (λvs H Q E h=>?_) (λcdv A' outer s H vs Q E hr h=>?_)
 ·obtain⟨o,t,c,st,N,d,rfl,_⟩:=h;rfl
 ·obtain⟨o,t,c,st,N,d,rfl,hc,I,hN,hd,hdc,q,qx⟩:=h;obtain⟨dx,aM,aP,aA,aD,aF,aE,aR,ms,ds,ws,fs,es,X⟩:=hc.ex;have hu1:=hr.u1;have iF:Room 1 _:=hr.mono (by decide)
  have uB:Room 5 _:=hr;have jd:Room 2 _:=hr.mono (by decide)
  have d7:Room 1 _:=hr.mono (by decide)
  have Nv:Room 2 _:=hr.mono (by decide)
  refine⟨_,(bb (psx (a6 (i:=2) cK.nd rfl (Lk rfl) (aK aN (pv 1) af (λ_ _=>rfl))))
 (bb (psx (a6 (i:=3) cK.nd rfl (Lk rfl) (gk (pv 0) T.au T.jb jm iF T.d4 .nil aZ)))
 (bb (mr (vH u3 uB rfl T.mG T.iE.kp T.mF (pax (aa (pv 2) (aa (pv 3) (aa (br (pv 0) rfl) ah))))))
 (bE (iB (az bt (pv 2) ao (aL _))
 (bE (mr (vH kG jd rfl T.kB T.ic.kp T.kA (pax (aa (br (aK bw (pv 3) af (λ_ _=>rfl)) rfl) (aa (aK aN (pv 1) af (λ_ _=>rfl)) ah))))))
 (bE (iB (az bt (pv 2) ao (aL _))
 (bE (mr (vH kG jd rfl T.kB T.ic.kp T.kA (pax (aa (aW fm d7 rfl T.jI T.iD.kp T.jH .nil aZ (aa (aK aN (br (aK bw (pv 3) (mj iA af) (λ_ _=>rfl)) rfl) af (λ_ _=>rfl)) ah)) (aa (aK aN (pv 1) af (λ_ _=>rfl)) ah))))))
 (bE (iB (PW.pt (pw_and (az bt (pv 2) ao (aL _)) (pw_and1 (az vx (aK aN (pv 1) af (λ_ _=>rfl)) (br (pv 0) rfl) (aL _)))))
 (bE (qt T.nM FH Nv T.lR rfl rfl T.BU (aa (br (pv 0) rfl) ah)))
 (xy aH)))))))))),?_⟩
  refine hide λGg hGg=>?_
  obtain⟨v,ht,hv0,hv1⟩:=sT hd hdc;have hmk:=KG (N:=N) hd;refine hGg ?_;generalize dH d=m at ht hv0 hv1 hmk q qx;have lp:=I.pil.Kx;rw[bo]at lp;refine ixv rfl (SqT.of ht.2) dF ?_;refine mtv rfl X.ob (dh (by decide +kernel)) ⟨o,c,st,rfl,hc,I.bT,by omega,λB os hB hos=>?_⟩
  have sB:=aB (o:=.lst (os.map V.ref)) hB;have hp:wF A K c (upd H B (.lst (os.map V.ref))) B (st.aq.map st.mo) os:=⟨SqL.of ae,wL sB hos⟩;generalize upd H B (.lst (os.map V.ref))=H1 at sB hp;refine⟨_,rfl,_,rfl,eZ rfl (sB _ _ X.ob) T.au T.jq3 qM ⟨m.k,B,st.closed,c,st.aq.map st.mo,os,rfl,m.k8,hp,by rw[bo];omega,λho H2 s2=>?_,λx hx C e H2 s2 hat=>?_⟩⟩
  case refine_2=>exact qx x (by unfold kZ;rw[hx]) C e H2 (sB.trans s2) ⟨hat.1,λa z=>same_none sB (hat.2 a z)⟩
  have ec:kZ st m=lA st m:=by unfold kZ;rw[ho]
  rw[ec]at q qx;have s12:=sB.trans s2;have hp2:=hp.same s2;obtain⟨h1,h2⟩:=wI ho;have X2:=X.same s12;have ht2:H2 t=some (.tup (rowOf m.k v)):=s12 _ _ ht.2;cases m with
  |mat tx=>exact⟨_,rfl,rfl,tsf (bZ 0 (by decide)) ⟨_,rfl,rfl,tsf (b8 0 (by decide)) ⟨_,rfl,rfl,tsf (gH 0 (by decide)) (bS (q rfl H2 s12))⟩⟩⟩
  |pnt z=>exact⟨_,rfl,rfl,tsf (bZ 7 (by decide)) ⟨_,rfl,rfl,tsf (b8 7 (by decide)) ⟨_,rfl,rfl,tsf (gH 7 (by decide)) (bS (q rfl H2 s12))⟩⟩⟩
  |cls=>exact⟨_,rfl,rfl,tsf (bZ 4 (by decide)) ⟨_,rfl,rfl,tsf (b8 4 (by decide)) ⟨_,rfl,rfl,tsf (gH 4 (by decide)) (bS (q rfl H2 s12))⟩⟩⟩
  |lay=>exact⟨_,rfl,rfl,tsf (bZ 5 (by decide)) ⟨_,rfl,rfl,tsf (b8 5 (by decide)) ⟨_,rfl,rfl,tsf (gH 5 (by decide)) (bS (q rfl H2 s12))⟩⟩⟩
  |rst=>exact⟨_,rfl,rfl,tsf (bZ 6 (by decide)) ⟨_,rfl,rfl,tsf (b8 6 (by decide)) ⟨_,rfl,rfl,tsf (gH 6 (by decide)) (bS (q rfl H2 s12))⟩⟩⟩
  |chg e =>
   refine⟨_,rfl,rfl,tst (bZ 1 (by decide)) ?_⟩
   refine hide λGg hGg=>?_
   obtain⟨tx,r,e1⟩:=I.pil.Kw h2;obtain⟨te,rfl,hte⟩:=hv1 (by simp[Mn.k])
   rw[e1]at hp2;obtain⟨hB2,ho2⟩:=hp2;refine hGg ?_;cases ho2 with
   | @cons _ ob _ bs hm aki =>
    refine hide λGg hGg=>?_
    obtain⟨_,dm,v,hm2,L,rfl,hL⟩:=hm;refine hGg ?_;refine ixv rfl hB2 (dD (j:=0) rfl) ⟨ob,A.C 0,dm,_,.ref L,rfl,hm2,T.cl 0 (by decide),T.na0,rfl,ixv rfl (SqT.of ht2) rfl ?_⟩
    refine⟨L,te,tx.map V.str,e,rfl,SqL.of hL.2,bM s12 hte.sq,hmk.ed1 hN,λhf=>?_,λhf=>?_⟩
    ·rw[bo]at hf;refine q ?_ H2 s12;unfold lA;dsimp only;rw[e1];dsimp only;rw[if_pos hf]
    ·rw[bo]at hf;refine qx .noFit ?_ _ _ H2 s12 ⟨⟨rfl,rfl⟩,λ_ z=>nomatch z⟩
     unfold lA;dsimp only;rw[e1];dsimp only;rw[if_neg (by rw[hf];decide)]
  |mnd f =>
   refine⟨_,rfl,rfl,tsf (bZ 2 (by decide)) ⟨_,rfl,rfl,tst (b8 2 (by decide)) ?_⟩⟩
   refine hide λGg hGg=>?_
   have h3:fq (st.aq.map st.mo)=true:=h2;unfold fq at h3;obtain⟨e,he,hk1⟩:∃e,(st.aq.map st.mo).getLast?=some (.chg e)/\e.k≠1:=by
    split at h3
    ·rename_i e he;exact⟨e,he,λz=>by rw[z]at h3;cases h3⟩
    ·cases h3
   obtain⟨r,e1⟩:=iV he;obtain⟨te,rfl,hte⟩:=hv1 (by simp[Mn.k])
   obtain⟨hB2,ho2⟩:=hp2;obtain⟨pre,ob,eo⟩:∃pre ob,os=pre++[ob]:=by
    have hl:=ho2.len;rw[e1,gn,tu]at hl;rcases aky os with e | ⟨pre,n,e⟩
    ·rw[e]at hl;simp at hl
    ·exact⟨pre,n,by rw[e,akz]⟩
   subst eo;obtain⟨as',a,e3,_,hm⟩:=ho2.last;rw[e1]at e3;obtain⟨_,e4⟩:=List.append_inj' e3 rfl;cases e4;obtain⟨_,dm,v,hm2,tc,rfl,htc⟩:=hm;have hem:EdB (12+N) e:=by
    have QN:Mn.chg e∈st.aq.map st.mo:=by rw[e1];simp
    obtain⟨k,hk,ek⟩:=List.mem_map.mp QN;have:=I.yf (I.bT k hk);rw[ek]at this;exact this
   have heo:rB e:=hem.ok (by omega)
   refine hGg ?_;refine⟨_,rfl,_,rfl,B,_,_,_,rfl,rfl,hB2,Ce pre ob,ob,A.C 1,dm,_,.ref tc,rfl,hm2,T.cl 1 (by decide),T.na1,rfl,tc,_,_,_,rfl,rfl,htc.sq,uQ hk1,e.th,rfl,?_,λp1 hp1=>?_⟩
   ·have:=heo.th.len;have lim:kf=16777216:=by decide
    omega
   have s3:=aB (o:=.lst ((R.bh e.th).map V.str)) hp1;have s13:=s12.trans s3;refine ixv rfl (SqT.of (s3 _ _ ht2)) rfl ?_;refine⟨p1,te,(R.bh e.th).map V.str,f,rfl,SqL.of ae,bM s13 hte.sq,hmk.ed2,λhf=>?_,λhf=>?_⟩
   ·rw[bo]at hf;refine q ?_ _ s13;unfold lA;dsimp only;rw[he];dsimp only;rw[if_pos hf]
   ·rw[bo]at hf;refine qx .noFit ?_ _ _ _ s13 ⟨⟨rfl,rfl⟩,λ_ z=>nomatch z⟩
    unfold lA;dsimp only;rw[he];dsimp only;rw[if_neg (by rw[hf];decide)]
  |off u =>
   have hv':v=.int u:=hv1 (by simp[Mn.k])
   subst hv';refine⟨_,rfl,rfl,tsf (bZ 3 (by decide)) ⟨_,rfl,rfl,tsf (b8 3 (by decide)) ⟨_,rfl,rfl,tst (gH 3 (by decide)) ?_⟩⟩⟩
   refine ixv rfl (SqT.of ht2) rfl (eZ rfl X2.ob T.au T.jq1 iU ⟨_,_,rfl,rfl,_,rfl,eR (λz=>?_) (λz=>?_)⟩)
   ·have z':u<=st.aI:=of_decide_eq_true z;have:=I.sit;refine eZ rfl X2.ob T.au T.jq1 iU ⟨_,rfl,pR (by omega) (by omega),λd hd=>?_⟩
    refine qx (.pQ st.aI) ?_ _ _ _ (s12.new hd) ⟨⟨rfl,d,rfl,ae⟩,λ_ z=>by cases z;exact same_none s12 hd⟩
    unfold lA;dsimp only;rw[if_pos z']
   ·have z':¬u<=st.aI:=λy=>z (decide_eq_true y)
    refine q ?_ _ s12;unfold lA;dsimp only;rw[if_neg z']
end
end My
set_option maxHeartbeats 1000000
namespace My
open PySem L2
seal PySem.wpAny
section
variable{P:me}{w:World}{K:ba}{mg:Str->Option Value}{base:Heap}{A:Adr}
theorem Th (T:Txt w.params K mg A):aO P w K mg base CX0 3 A.md A.gS ["told"] (KH A K):=aaS (Fq T) (C5 T)
theorem QO {i:Nat}{c:Col}{H:Hp}{t:Addr}{m:Mn}{v:V}{Q:VK}{E:XK}(ht:yc i c H t (rowOf m.k v))(hv0:m.k=0->∃L tx,v=.ref L/\m=.mat tx/\Ny i c H L (tx.map V.str))(hv1:m.k≠0->m.Val c H v)
  (q:∀mo H',bu H H'->mP A (cc c H) H' m mo->Q (.ref mo) H'):KH A K [.ref t] H Q E:=by
 by_cases h0:m.k=0
 ·obtain⟨L,tx,rfl,rfl,hL⟩:=hv0 h0;refine .inr ⟨t,L,tx.map V.str,rfl,ht.2,SqL.of hL.2,λmo p H' s hm hp hp' hmo=>q mo H' s ?_⟩
  obtain⟨dx,hmo⟩:=hmo;exact⟨bY hm,dx,.ref p,hmo,p,rfl,bY hp,hp'⟩
 ·refine .inl ⟨t,m.k,v,by omega,m.k8,rfl,ht.2,λmo H' s hm hmo=>q mo H' s ?_⟩
  obtain⟨dx,hmo⟩:=hmo;exact⟨bY hm,dx,v,hmo,(hv1 h0).step (Step.cl (W:=λ_=>False) id s)⟩
theorem Ti (T:Txt w.params K mg A){i:Nat}:aO P w K mg base (CXX P w) 7 A.cg A.iu ["self","told"] (QM A i):=by
 have lb:aO P w K mg base (CXX P w) 6 A.a5 A.bX ["self","told"] (UI A i):=qP T;have G4:aO P w K mg base CX0 3 A.md A.gS ["told"] (KH A K):=Th T;have kX:aO P w K mg base CX0 4 A.mf A.gZ ["deed"] (R.Fs K):=R.qK T;refine T.gy.okX qS (λvs H Q E h=>?_) (λcdv A' outer s H vs Q E hr h=>?_)
 ·obtain⟨o,t,c,st,N,d,rfl,_⟩:=h;rfl
 ·obtain⟨o,t,c,st,N,d,rfl,hc,I,hN,hd,hdc,q⟩:=h;obtain⟨dx,aM,aP,aA,aD,aF,aE,aR,ms,ds,ws,fs,es,X⟩:=hc.ex;have hu1:=hr.u1;have jP:Room 6 _:=hr;have FI:Room 3 _:=hr.mono (by decide)
  have jj:Room 4 _:=hr.mono (by decide)
  have lim:kf=16777216:=by decide
  refine⟨_,(bb (mr (vI (px (pv 0)) T.au T.eW lb jP T.b9 (pax (aa (pv 1) ah))))
 (bb (psx (a6 (i:=2) qS.nd rfl (Lk rfl) (a4 cX (bN DB (by rfl) T.kQ hU (aa (br (pv 0) rfl) ah)) af)))
 (bb (psx (ip hu1 (br (pv 0) rfl) (pv 2) (aW G4 FI rfl T.yH T.nJ.kp T.yG .nil aZ (aa (pv 1) ah)) rfl))
 (bb (psx (bL (hG rf akB akC cU (br (pv 0) rfl) (aa (pv 2) ah))))
 (bb (psx (a7 (az bt (aK aN (pv 1) af (λ_ _=>rfl)) ao (aL _))
 (ai (ip hu1 (br (pv 0) rfl) (pv 2) (dO dW (by rfl) T.nY nB (aa (aK aN (pv 1) af (λ_ _=>rfl)) ah)) rfl)
 (aj (ip hu1 (br (pv 0) rfl) (pv 2) (bI ah) rfl)))
 aH))
 (bb (psx (bL (hG rf akB akC cU (br (pv 0) rfl) (aa (aW kX jj rfl T.nL T.kP.kp T.nK .nil aZ (aa (pv 1) ah)) ah))))
 (bE (psx (aG (pv 2)))))))))),?_⟩
  unfold mU at q;refine mtv rfl X.ob (dh (by decide +kernel)) ⟨_,rfl,o,t,c,st,N,d,rfl,hc,I,hN,hd,hdc,λTj H1 s1=>?_,λx hx C e H1 s1 hat=>?_⟩
  case refine_2 =>
   rw[hx]at q;exact q (cc c H) H1 C e (Step.cl aU s1) (X.cl s1).at hat.1 (λa z=>bY (hat.2 a z))
  refine hide λGg hGg=>?_
  rw[Tj]at q;have abt:=W7 I hd Tj;have X1:=X.same s1;have st1:Step (dG i) c c H H1:=Step.same aU s1;have W8:=hdc.step st1;obtain⟨v,ht,hv0,hv1⟩:=sT hd W8;obtain⟨m,em⟩:∃m,m=dH d:=⟨_,rfl⟩;rw[<-em]at ht hv0 hv1 q;have lm:=I.lm;have lr:=I.lr;have ml:=X1.mot.len;have lp:=I.pil.Kx;rw[bo]at lp;have el:(a8 ((akL 1 st.made.length).zip (ms.map V.ref))).length=st.made.length:=by
   unfold a8;rw[bo,alF,ak9,bo,<-ml,Nat.min_self]
  have en:(((a8 ((akL 1 st.made.length).zip (ms.map V.ref))).length:Nat):Int)+1=((st.made.length+1:Nat):Int):=by rw[el];omega
  refine hGg ?_;refine eZ rfl X1.ob T.au T.jq4 kW ⟨aM,_,rfl,X1.made.2,_,_,rfl,rfl,?_⟩;dsimp only[f9];rw[en];refine⟨_,rfl,QO ht hv0 hv1 λmo H2 s2 hmo=>?_⟩
  have X2:=X1.cl s2;have st2:Step (dG i) c (cc c H1) H1 H2:=Step.cl aU s2;refine eZ rfl X2.ob T.au T.jq4 kW ⟨_,rfl,aM,_,rfl,oU.k (k:=kq ((st.made.length+1:Nat):Int)) X2.made.2 (by omega),?_⟩
  obtain⟨st3,X3⟩:=X2.S9 hmo;have W9:=st2.trans st3.ie;generalize upd H2 aM (.dK (putK (a8 ((akL 1 st.made.length).zip (ms.map V.ref))) (kq ((st.made.length+1:Nat):Int)) (.ref mo)))=H3 at W9 X3 ⊢;clear hmo st2 X2;generalize cc c H1=c3 at W9 X3;refine eZ rfl X3.ob T.au T.jq0 eO ⟨.inl ⟨rfl,_,SqL.of X3.aq.2⟩,_,rfl,aP,_,_,rfl,rfl,X3.aq.2,by rw[bo];show st.aq.length < _;omega,?_⟩
  obtain⟨st4,X4⟩:=X3.push (st.made.length+1);have abu:=W9.trans st4.ie;have X4':ChX A i c3 (upd H3 aP (.lst (st.aq.map nV++[V.int ((st.made.length+1:Nat):Int)]))) o { st with made:=st.made++[m],aq:=st.aq++[st.made.length+1] } dx aM aP aA aD aF aE aR (ms++[mo]) ds ws fs es:=X4
  have Eb:Step (dG i) c c3 H1 (upd H3 aP (.lst (st.aq.map nV++[V.int ((st.made.length+1:Nat):Int)]))):=abu;clear X4 abu st4;generalize upd H3 aP (.lst (st.aq.map nV++[V.int ((st.made.length+1:Nat):Int)]))=H4 at X4' Eb ⊢;have nf:st.made.length+1∉st.wJ:=λz=>by
   have:=(List.mem_filter.mp z).1;rw[alC]at this;omega
  have ht4:=ht.step Eb
  by_cases h0:m.k=0
  ·obtain⟨L,tx,rfl,rfl,hL⟩:=hv0 h0;have hL4:=hL.step Eb;refine ixv rfl (SqT.of ht4.2) rfl ⟨rfl,tst (Cg 0 (by decide)) ?_⟩
   refine ixv rfl (SqT.of ht4.2) rfl ⟨L,_,rfl,.inl (SqL.of hL4.2),λp hp=>?_⟩
   have lf:st.firsts.length=fs.length:=X4'.first.len;have lff:st.firsts.length<=st.made.length:=by
    have:=congrArg List.length I.ff;rw[bo]at this;rw[this];exact tm (List.length_filter_le _ _) (by rw[ak9];exact km _)
   have lkk:st.kept.length<=st.made.length:=by
    have:=congrArg List.length I.kk;rw[bo]at this;rw[this];exact tm (List.length_filter_le _ _) (by rw[ak9];exact km _)
   have sp:=aB (o:=.lst (tx.map V.str)) hp;refine eZ rfl (sp _ _ X4'.ob) T.au T.jqb zh ⟨_,rfl,aF,_,rfl,oU.k (k:=kq ((st.made.length+1:Nat):Int)) (sp _ _ X4'.firsts.2) ?_,?_⟩
   ·unfold a8;rw[bo,alF,bo];show min st.firsts.length _ < _;omega
   obtain⟨st5,X5⟩:=X4'.Qz (tx:=tx) hp (n:=st.made.length+1) (by show _∉st.firsts.map (·.1);rw[I.ff];exact nf)
   have X5':ChX A i (aC c3 p (some (i,.cM (st.made.length+1)))) (upd (upd H4 p (.lst (tx.map V.str))) aF (.dK (putK (a8 ((st.firsts.map (·.1)).zip fs)) (kq ((st.made.length+1:Nat):Int)) (.ref p)))) o { st with made:=st.made++[.mat tx],aq:=st.aq++[st.made.length+1],firsts:=st.firsts++[(st.made.length+1,tx)] } dx aM aP aA aD aF aE aR (ms++[mo]) ds ws (fs++[.ref p]) es:=X5
   have Xa:Step (dG i) c (aC c3 p (some (i,.cM (st.made.length+1)))) H1 (upd (upd H4 p (.lst (tx.map V.str))) aF (.dK (putK (a8 ((st.firsts.map (·.1)).zip fs)) (kq ((st.made.length+1:Nat):Int)) (.ref p)))):=Eb.trans st5.ie
   clear X5 st5;generalize aC c3 p (some (i,.cM (st.made.length+1)))=c5 at X5' Xa;generalize upd (upd H4 p (.lst (tx.map V.str))) aF (.dK (putK (a8 ((st.firsts.map (·.1)).zip fs)) (kq ((st.made.length+1:Nat):Int)) (.ref p)))=H5 at X5' Xa ⊢
   refine⟨(sl 0),λp2 hp2=>?_⟩
   have sp2:=aB (o:=.lst []) hp2;refine eZ rfl (sp2 _ _ X5'.ob) T.au T.jq5 sJ ⟨_,rfl,aE,_,rfl,oU.k (k:=kq ((st.made.length+1:Nat):Int)) (sp2 _ _ X5'.kT.2) ?_,?_⟩
   ·unfold a8;rw[bo,alF,bo];show min st.kept.length _ < _;omega
   obtain⟨st6,X6⟩:=X5'.Ta hp2 (n:=st.made.length+1) (by show _∉st.kept.map (·.1);rw[I.kk];exact nf)
   have abv:=Xa.trans st6.ie;have Xb:=W8.step abv;refine eZ rfl X6.ob T.au T.jqk wD ⟨.inl ⟨rfl,_,SqL.of X6.rows.2⟩,_,rfl,t,d,rfl,Xb.at,abt,λH7 s7=>?_⟩
   have X7:=X6.same s7;obtain⟨st8,X8⟩:=X7.row (R.sG d);refine⟨aR,_,_,rfl,rfl,X7.rows.2,by rw[bo];show st.rows.length < _;omega,_,rfl,?_⟩
   exact q _ _ (((st1.trans abv).trans (Step.same aU s7)).trans st8.ie) X8.at
  ·refine ixv rfl (SqT.of ht4.2) dF ⟨rfl,tsf ((Cg m.k m.k8).trans (decide_eq_false h0)) ?_⟩;have Xb:=W8.step Eb;refine eZ rfl X4'.ob T.au T.jqk wD ⟨.inl ⟨rfl,_,SqL.of X4'.rows.2⟩,_,rfl,t,d,rfl,Xb.at,abt,λH7 s7=>?_⟩
   have X7:=X4'.same s7;obtain⟨st8,X8⟩:=X7.row (R.sG d);refine⟨aR,_,_,rfl,rfl,X7.rows.2,by rw[bo];show st.rows.length < _;omega,_,rfl,?_⟩
   have e8:st.moved m (R.sG d)={ st with made:=st.made++[m],aq:=st.aq++[st.made.length+1],rows:=st.rows++[R.sG d] }:=by
    unfold Ch.moved;cases m with
    |mat tx=>exact absurd rfl h0
    |_=>rfl
   rw[e8]at q;exact q _ _ (((st1.trans Eb).trans (Step.same aU s7)).trans st8.ie) X8.at
end
end My
set_option maxHeartbeats 1000000
namespace My
open PySem L2
seal PySem.wpAny
def yR (n:Int):Ch:=⟨n,1,false,[],[],[],[],[],[],[]⟩
def UJ (A:Adr):Sp:=λvs H Q _=>∃(o dx:Addr) (n:Int),vs=[.ref o,.int n]/\H o=some (.ins A.ax dx []) /\
 ∀H',(∀(i:Nat) (c:Col),∃c',(∀a v,H a=some v->a≠o->H' a=some v/\c' a=c a)/\f6 A i c' H' o (yR n))->Q .non H'
theorem ig {f:Str}{v:V}:∀ {fs:List (Str×V)},f∉fs.map (·.1)->gj f v fs=fs++[(f,v)]
 |[],_=>rfl
 | (g,x)::r,h=>by
  rw[gj,if_neg (λz=>h (by rw[<-z];exact fu)),ig λz=>h (ky _ z)]
  rfl
theorem nxt {H:Hp}{o a C dx:Addr}{fs fs':List (Str×V)}{v:HO}(ho:H o=some (.ins C dx fs))(ha:H a=none) :
  (upd (upd H a v) o (.ins C dx fs')) a=some v/\(upd (upd H a v) o (.ins C dx fs')) o=some (.ins C dx fs')/\a≠o/\∀b u,H b=some u->b≠o->(upd (upd H a v) o (.ins C dx fs')) b=some u/\b≠a:=by
 have na:a≠o:=(aJ ho ha).symm;refine⟨(aw na).trans ae,ae,na,λb u hb hbo=>?_⟩
 have nb:b≠a:=aJ hb ha;exact⟨(aw hbo).trans ((aw nb).trans hb),nb⟩
section
variable{P:me}{w:World}{K:ba}{mg:Str->Option Value}{base:Heap}{A:Adr}
theorem Xd (T:Txt w.params K mg A):aO P w K mg base CX0 2 A.cf A.ir ["self","seats"] (UJ A):=by
 refine T.gx.ok za (λvs H Q E h=>?_) (λcdv A' outer s H vs Q E hr h=>?_)
 ·obtain⟨o,dx,n,rfl,_⟩:=h;rfl
 ·obtain⟨o,dx,n,rfl,ho,q⟩:=h;refine⟨_,(ai (eA (pv 0) (pv 1) rfl)
 (ai (eA (pv 0) af rfl)
 (ai (eA (pv 0) g9 rfl)
 (ai (eA (pv 0) oV rfl)
 (ai (eA (pv 0) (bI ah) rfl)
 (ai (eA (pv 0) oV rfl)
 (ai (eA (pv 0) (bI ah) rfl)
 (ai (eA (pv 0) oV rfl)
 (ai (eA (pv 0) oV rfl)
 (aj (eA (pv 0) (bI ah) rfl))))))))))),?_⟩
  refine⟨_,rfl,_,rfl,o,A.ax,dx,_,rfl,ho,T.au,T.jqq,(by show 0 < 1000;decide),?_⟩
  refine⟨_,rfl,o,A.ax,dx,_,rfl,ae,T.au,T.jq1,(by show 1 < 1000;decide),?_⟩
  rw[nz];refine⟨_,rfl,o,A.ax,dx,_,rfl,ae,T.au,T.jq3,(by show 2 < 1000;decide),?_⟩
  rw[nz];have e0:gj (ar "closed") (V.bl false) (gj (ar "sitting") (V.int 1) (gj (ar "seats") (V.int n) []))=[(ar "seats",V.int n),(ar "sitting",V.int 1),(ar "closed",V.bl false)]:=by
   have f1:gj (ar "seats") (V.int n) []=[(ar "seats",V.int n)]:=rfl;have f2:gj (ar "sitting") (V.int 1) [(ar "seats",V.int n)]=[(ar "seats",V.int n),(ar "sitting",V.int 1)]:=ig (by show _∉[ar "seats"];decide +kernel)
   rw[f1,f2];exact ig (by show _∉[ar "seats",ar "sitting"];decide +kernel)
  rw[e0];have o0:(upd H o (.ins A.ax dx [(ar "seats",V.int n),(ar "sitting",V.int 1),(ar "closed",V.bl false)])) o=some (.ins A.ax dx [(ar "seats",V.int n),(ar "sitting",V.int 1),(ar "closed",V.bl false)]):=ae;have k0:∀b u,H b=some u->b≠o->(upd H o (.ins A.ax dx [(ar "seats",V.int n),(ar "sitting",V.int 1),(ar "closed",V.bl false)])) b=some u:=λb u hb hbo=>(aw hbo).trans hb
  generalize upd H o (.ins A.ax dx [(ar "seats",V.int n),(ar "sitting",V.int 1),(ar "closed",V.bl false)])=H0 at o0 k0 ⊢;refineλaM zaM=>?_
  have naM:o≠aM:=aJ o0 zaM;refine⟨_,rfl,o,A.ax,dx,_,rfl,(aw naM).trans o0,T.au,T.jq4,(by show 3 < 1000;decide),?_⟩
  have e1:gj (ar "made") (V.ref aM) [(ar "seats",V.int n),(ar "sitting",V.int 1),(ar "closed",V.bl false)]=[(ar "seats",V.int n),(ar "sitting",V.int 1),(ar "closed",V.bl false),(ar "made",V.ref aM)]:=ig (by show _∉[ar "seats",ar "sitting",ar "closed"];decide +kernel)
  rw[e1];refine hide λGg hGg=>?_
  obtain⟨yaM,o1,_,waM⟩:=nxt (v:=.dK []) (fs':=[(ar "seats",V.int n),(ar "sitting",V.int 1),(ar "closed",V.bl false),(ar "made",V.ref aM)]) o0 zaM;have k1:=λb u (hb:H b=some u) (hbo:b≠o)=>waM b u (k0 b u hb hbo) hbo
  refine hGg ?_;generalize upd (upd H0 aM (.dK [])) o (.ins A.ax dx [(ar "seats",V.int n),(ar "sitting",V.int 1),(ar "closed",V.bl false),(ar "made",V.ref aM)])=H1 at o1 k1 waM yaM ⊢;clear waM;refine⟨(sl 0),λaP zaP=>?_⟩
  have naP:o≠aP:=aJ o1 zaP;refine⟨_,rfl,o,A.ax,dx,_,rfl,(aw naP).trans o1,T.au,T.jq0,(by show 4 < 1000;decide),?_⟩
  have e2:gj (ar "pile") (V.ref aP) [(ar "seats",V.int n),(ar "sitting",V.int 1),(ar "closed",V.bl false),(ar "made",V.ref aM)]=[(ar "seats",V.int n),(ar "sitting",V.int 1),(ar "closed",V.bl false),(ar "made",V.ref aM),(ar "pile",V.ref aP)]:=ig (by show _∉[ar "seats",ar "sitting",ar "closed",ar "made"];decide +kernel)
  rw[e2];refine hide λGg hGg=>?_
  obtain⟨yaP,o2,_,waP⟩:=nxt (v:=.lst []) (fs':=[(ar "seats",V.int n),(ar "sitting",V.int 1),(ar "closed",V.bl false),(ar "made",V.ref aM),(ar "pile",V.ref aP)]) o1 zaP;obtain⟨yaM,abw⟩:=waP _ _ yaM (akI naM);have k2:=λb u (hb:H b=some u) (hbo:b≠o)=>waP b u ((k1 b u hb hbo).1) hbo
  refine hGg ?_;generalize upd (upd H1 aP (.lst [])) o (.ins A.ax dx [(ar "seats",V.int n),(ar "sitting",V.int 1),(ar "closed",V.bl false),(ar "made",V.ref aM),(ar "pile",V.ref aP)])=H2 at o2 k2 waP yaM yaP ⊢;clear waP;refineλaA zaA=>?_
  have naA:o≠aA:=aJ o2 zaA;refine⟨_,rfl,o,A.ax,dx,_,rfl,(aw naA).trans o2,T.au,T.jq2,(by show 5 < 1000;decide),?_⟩
  have e3:gj (ar "aside") (V.ref aA) [(ar "seats",V.int n),(ar "sitting",V.int 1),(ar "closed",V.bl false),(ar "made",V.ref aM),(ar "pile",V.ref aP)]=[(ar "seats",V.int n),(ar "sitting",V.int 1),(ar "closed",V.bl false),(ar "made",V.ref aM),(ar "pile",V.ref aP),(ar "aside",V.ref aA)]:=ig (by show _∉[ar "seats",ar "sitting",ar "closed",ar "made",ar "pile"];decide +kernel)
  rw[e3];refine hide λGg hGg=>?_
  obtain⟨yaA,o3,_,waA⟩:=nxt (v:=.dK []) (fs':=[(ar "seats",V.int n),(ar "sitting",V.int 1),(ar "closed",V.bl false),(ar "made",V.ref aM),(ar "pile",V.ref aP),(ar "aside",V.ref aA)]) o2 zaA;obtain⟨yaM,abx⟩:=waA _ _ yaM (akI naM);obtain⟨yaP,aby⟩:=waA _ _ yaP (akI naP);have k3:=λb u (hb:H b=some u) (hbo:b≠o)=>waA b u ((k2 b u hb hbo).1) hbo
  refine hGg ?_;generalize upd (upd H2 aA (.dK [])) o (.ins A.ax dx [(ar "seats",V.int n),(ar "sitting",V.int 1),(ar "closed",V.bl false),(ar "made",V.ref aM),(ar "pile",V.ref aP),(ar "aside",V.ref aA)])=H3 at o3 k3 waA yaM yaP yaA ⊢;clear waA;refine⟨(sl 0),λaD zaD=>?_⟩
  have naD:o≠aD:=aJ o3 zaD;refine⟨_,rfl,o,A.ax,dx,_,rfl,(aw naD).trans o3,T.au,T.jqj,(by show 6 < 1000;decide),?_⟩
  have e4:gj (ar "decided") (V.ref aD) [(ar "seats",V.int n),(ar "sitting",V.int 1),(ar "closed",V.bl false),(ar "made",V.ref aM),(ar "pile",V.ref aP),(ar "aside",V.ref aA)]=[(ar "seats",V.int n),(ar "sitting",V.int 1),(ar "closed",V.bl false),(ar "made",V.ref aM),(ar "pile",V.ref aP),(ar "aside",V.ref aA),(ar "decided",V.ref aD)]:=ig (by show _∉[ar "seats",ar "sitting",ar "closed",ar "made",ar "pile",ar "aside"];decide +kernel)
  rw[e4];refine hide λGg hGg=>?_
  obtain⟨yaD,o4,_,waD⟩:=nxt (v:=.lst []) (fs':=[(ar "seats",V.int n),(ar "sitting",V.int 1),(ar "closed",V.bl false),(ar "made",V.ref aM),(ar "pile",V.ref aP),(ar "aside",V.ref aA),(ar "decided",V.ref aD)]) o3 zaD;obtain⟨yaM,abz⟩:=waD _ _ yaM (akI naM);obtain⟨yaP,abA⟩:=waD _ _ yaP (akI naP);obtain⟨yaA,abB⟩:=waD _ _ yaA (akI naA);have k4:=λb u (hb:H b=some u) (hbo:b≠o)=>waD b u ((k3 b u hb hbo).1) hbo
  refine hGg ?_;generalize upd (upd H3 aD (.lst [])) o (.ins A.ax dx [(ar "seats",V.int n),(ar "sitting",V.int 1),(ar "closed",V.bl false),(ar "made",V.ref aM),(ar "pile",V.ref aP),(ar "aside",V.ref aA),(ar "decided",V.ref aD)])=H4 at o4 k4 waD yaM yaP yaA yaD ⊢;clear waD;refineλaF zaF=>?_
  have naF:o≠aF:=aJ o4 zaF;refine⟨_,rfl,o,A.ax,dx,_,rfl,(aw naF).trans o4,T.au,T.jqb,(by show 7 < 1000;decide),?_⟩
  have e5:gj (ar "first_texts") (V.ref aF) [(ar "seats",V.int n),(ar "sitting",V.int 1),(ar "closed",V.bl false),(ar "made",V.ref aM),(ar "pile",V.ref aP),(ar "aside",V.ref aA),(ar "decided",V.ref aD)]=[(ar "seats",V.int n),(ar "sitting",V.int 1),(ar "closed",V.bl false),(ar "made",V.ref aM),(ar "pile",V.ref aP),(ar "aside",V.ref aA),(ar "decided",V.ref aD),(ar "first_texts",V.ref aF)]:=ig (by show _∉[ar "seats",ar "sitting",ar "closed",ar "made",ar "pile",ar "aside",ar "decided"];decide +kernel)
  rw[e5];refine hide λGg hGg=>?_
  obtain⟨yaF,o5,_,waF⟩:=nxt (v:=.dK []) (fs':=[(ar "seats",V.int n),(ar "sitting",V.int 1),(ar "closed",V.bl false),(ar "made",V.ref aM),(ar "pile",V.ref aP),(ar "aside",V.ref aA),(ar "decided",V.ref aD),(ar "first_texts",V.ref aF)]) o4 zaF;obtain⟨yaM,abC⟩:=waF _ _ yaM (akI naM);obtain⟨yaP,abD⟩:=waF _ _ yaP (akI naP);obtain⟨yaA,abE⟩:=waF _ _ yaA (akI naA);obtain⟨yaD,abF⟩:=waF _ _ yaD (akI naD);have k5:=λb u (hb:H b=some u) (hbo:b≠o)=>waF b u ((k4 b u hb hbo).1) hbo
  refine hGg ?_;generalize upd (upd H4 aF (.dK [])) o (.ins A.ax dx [(ar "seats",V.int n),(ar "sitting",V.int 1),(ar "closed",V.bl false),(ar "made",V.ref aM),(ar "pile",V.ref aP),(ar "aside",V.ref aA),(ar "decided",V.ref aD),(ar "first_texts",V.ref aF)])=H5 at o5 k5 waF yaM yaP yaA yaD yaF ⊢;clear waF;refineλaE zaE=>?_
  have naE:o≠aE:=aJ o5 zaE;refine⟨_,rfl,o,A.ax,dx,_,rfl,(aw naE).trans o5,T.au,T.jq5,(by show 8 < 1000;decide),?_⟩
  have e6:gj (ar "edits_kept") (V.ref aE) [(ar "seats",V.int n),(ar "sitting",V.int 1),(ar "closed",V.bl false),(ar "made",V.ref aM),(ar "pile",V.ref aP),(ar "aside",V.ref aA),(ar "decided",V.ref aD),(ar "first_texts",V.ref aF)]=[(ar "seats",V.int n),(ar "sitting",V.int 1),(ar "closed",V.bl false),(ar "made",V.ref aM),(ar "pile",V.ref aP),(ar "aside",V.ref aA),(ar "decided",V.ref aD),(ar "first_texts",V.ref aF),(ar "edits_kept",V.ref aE)]:=ig (by show _∉[ar "seats",ar "sitting",ar "closed",ar "made",ar "pile",ar "aside",ar "decided",ar "first_texts"];decide +kernel)
  rw[e6];refine hide λGg hGg=>?_
  obtain⟨yaE,o6,_,waE⟩:=nxt (v:=.dK []) (fs':=[(ar "seats",V.int n),(ar "sitting",V.int 1),(ar "closed",V.bl false),(ar "made",V.ref aM),(ar "pile",V.ref aP),(ar "aside",V.ref aA),(ar "decided",V.ref aD),(ar "first_texts",V.ref aF),(ar "edits_kept",V.ref aE)]) o5 zaE;obtain⟨yaM,abG⟩:=waE _ _ yaM (akI naM);obtain⟨yaP,abH⟩:=waE _ _ yaP (akI naP);obtain⟨yaA,abI⟩:=waE _ _ yaA (akI naA);obtain⟨yaD,abJ⟩:=waE _ _ yaD (akI naD);obtain⟨yaF,abK⟩:=waE _ _ yaF (akI naF);have k6:=λb u (hb:H b=some u) (hbo:b≠o)=>waE b u ((k5 b u hb hbo).1) hbo
  refine hGg ?_;generalize upd (upd H5 aE (.dK [])) o (.ins A.ax dx [(ar "seats",V.int n),(ar "sitting",V.int 1),(ar "closed",V.bl false),(ar "made",V.ref aM),(ar "pile",V.ref aP),(ar "aside",V.ref aA),(ar "decided",V.ref aD),(ar "first_texts",V.ref aF),(ar "edits_kept",V.ref aE)])=H6 at o6 k6 waE yaM yaP yaA yaD yaF yaE ⊢;clear waE;refine⟨(sl 0),λaR zaR=>?_⟩
  have naR:o≠aR:=aJ o6 zaR;refine⟨_,rfl,o,A.ax,dx,_,rfl,(aw naR).trans o6,T.au,T.jqk,(by show 9 < 1000;decide),?_⟩
  have e7:gj (ar "rows") (V.ref aR) [(ar "seats",V.int n),(ar "sitting",V.int 1),(ar "closed",V.bl false),(ar "made",V.ref aM),(ar "pile",V.ref aP),(ar "aside",V.ref aA),(ar "decided",V.ref aD),(ar "first_texts",V.ref aF),(ar "edits_kept",V.ref aE)]=[(ar "seats",V.int n),(ar "sitting",V.int 1),(ar "closed",V.bl false),(ar "made",V.ref aM),(ar "pile",V.ref aP),(ar "aside",V.ref aA),(ar "decided",V.ref aD),(ar "first_texts",V.ref aF),(ar "edits_kept",V.ref aE),(ar "rows",V.ref aR)]:=ig (by show _∉[ar "seats",ar "sitting",ar "closed",ar "made",ar "pile",ar "aside",ar "decided",ar "first_texts",ar "edits_kept"];decide +kernel)
  rw[e7];refine hide λGg hGg=>?_
  obtain⟨yaR,o7,_,waR⟩:=nxt (v:=.lst []) (fs':=[(ar "seats",V.int n),(ar "sitting",V.int 1),(ar "closed",V.bl false),(ar "made",V.ref aM),(ar "pile",V.ref aP),(ar "aside",V.ref aA),(ar "decided",V.ref aD),(ar "first_texts",V.ref aF),(ar "edits_kept",V.ref aE),(ar "rows",V.ref aR)]) o6 zaR;obtain⟨yaM,abL⟩:=waR _ _ yaM (akI naM);obtain⟨yaP,abM⟩:=waR _ _ yaP (akI naP);obtain⟨yaA,abN⟩:=waR _ _ yaA (akI naA);obtain⟨yaD,abO⟩:=waR _ _ yaD (akI naD);obtain⟨yaF,abP⟩:=waR _ _ yaF (akI naF);obtain⟨yaE,abQ⟩:=waR _ _ yaE (akI naE);have k7:=λb u (hb:H b=some u) (hbo:b≠o)=>waR b u ((k6 b u hb hbo).1) hbo
  refine hGg ?_;generalize upd (upd H6 aR (.lst [])) o (.ins A.ax dx [(ar "seats",V.int n),(ar "sitting",V.int 1),(ar "closed",V.bl false),(ar "made",V.ref aM),(ar "pile",V.ref aP),(ar "aside",V.ref aA),(ar "decided",V.ref aD),(ar "first_texts",V.ref aF),(ar "edits_kept",V.ref aE),(ar "rows",V.ref aR)])=H7 at o7 k7 waR yaM yaP yaA yaD yaF yaE yaR ⊢;clear waR;refine q H7 λi c=>⟨aC (aC (aC (aC (aC (aC (aC (aC c o (some (i,Rl.ob))) aM (some (i,Rl.made))) aP (some (i,Rl.aq))) aA (some (i,Rl.ay))) aD (some (i,Rl.decided))) aF (some (i,Rl.firsts))) aE (some (i,Rl.kept))) aR (some (i,Rl.rows)),λb u hb hbo=>⟨(k7 b u hb hbo).1,?_⟩,⟨dx,aM,aP,aA,aD,aF,aE,aR,[],[],[],[],[],?_⟩⟩
  ·rw[av (k7 b u hb hbo).2,av (k6 b u hb hbo).2,av (k5 b u hb hbo).2,av (k4 b u hb hbo).2,av (k3 b u hb hbo).2,av (k2 b u hb hbo).2,av (k1 b u hb hbo).2,av hbo]
  ·exact⟨by rw[av naR,av naE,av naF,av naD,av naA,av naP,av naM,aV],o7,⟨by rw[av abL,av abG,av abC,av abz,av abx,av abw,aV],yaM⟩,.nil,⟨by rw[av abM,av abH,av abD,av abA,av aby,aV],yaP⟩,⟨by rw[av abN,av abI,av abE,av abB,aV],yaA⟩,.nil,⟨by rw[av abO,av abJ,av abF,aV],yaD⟩,.nil,⟨by rw[av abP,av abK,aV],yaF⟩,.nil,⟨by rw[av abQ,aV],yaE⟩,.nil,⟨by rw[aV],yaR⟩⟩
end
end My
set_option maxHeartbeats 1000000
namespace My
open PySem L2
seal PySem.wpAny
def abR (A:Adr)(i:Nat):Sp:=λvs H Q _=>∃(o:Addr) (n:Nat) (c:Col) (st:Ch) (x:Nat×Int×List Nat),vs=[.ref o,nV n]/\f6 A i c H o st/\at1 n st.ay=some x /\
 ∀l u H',H l=none->H u=none->bu H H'->H' l=some (.lst (x.2.2.map nV))->H' u=some (.tup [nV n,.int x.2.1,.ref l])->Q (.ref u) H'
def eh (ns:List Nat):PyData:=.list (ns.map λn:Nat=>.int (n:Int))
def asD (x:Nat×Int×List Nat):PyData:=.tuple [.int (x.1:Int),.int x.2.1,eh x.2.2]
def dcD (x:Nat×Str):PyData:=.tuple [.int (x.1:Int),.str x.2]
def rE (st:Ch)(n:Int):Nat×Int×List Nat:=(at1 n.toNat st.ay).getD (0,0,[])
def stD (st:Ch)(ns:List Int):PyData:=.tuple [.int st.aI,.bool st.closed,eh st.aq,.list (ns.map λn=>asD (rE st n)),.list (st.decided.map dcD)]
theorem FJ {α:Type}{K:ba}{H:Hp}{f:α->PyData}{g:α->V}:∀ {xs:List α},(∀x∈xs,DV K H (f x) (g x))->DVs K H (xs.map f) (xs.map g)
 |[],_=>by unfold DVs;rfl
 |x::xs,h=>by
  rw[ko,ko];unfold DVs;exact⟨g x,xs.map g,rfl,h x fu,FJ λy hy=>h y (ky _ hy)⟩
theorem g8 {K:ba}{H:Hp}{a:Addr}{ns:List Nat}(h:SqL K H a (ns.map nV)):DV K H (eh ns) (.ref a):=by
 unfold eh DV;exact⟨a,_,rfl,h,FJ (f:=λn:Nat=>al1 (n:Int)) (g:=nV) λn _=>by unfold DV;rfl⟩
theorem bD.dvs {α:Type}{K:ba}{H:Hp}{f:α->PyData}{R:α->V->Prop}(g:∀x v,R x v->DV K H (f x) v):∀ {xs:List α} {vs:List V},bD R xs vs->DVs K H (xs.map f) vs
 |_,_,.nil=>by unfold DVs;rfl
 |_,_,.cons h t=>by
  rw[ko];unfold DVs;exact⟨_,_,rfl,g _ _ h,t.dvs g⟩
theorem bD.mapR {α β γ:Type}{R:α->γ->Prop}{f:β->γ}:∀ {xs:List α} {ys:List β},bD (λa b=>R a (f b)) xs ys->bD R xs (ys.map f)
 |_,_,.nil=>.nil
 |_,_,.cons h t=>.cons h t.mapR
def G5 (H:Hp)(R:Addr)(x:Nat×Int×List Nat)(v:V):Prop:=∃u l,v=.ref u/\u≠R/\l≠R/\H u=some (.tup [nV x.1,.int x.2.1,.ref l])/\H l=some (.lst (x.2.2.map nV))
theorem G5.same {H H':Hp}{R:Addr}{x:Nat×Int×List Nat}{v:V}(s:bu H H'):G5 H R x v->G5 H' R x v
 |⟨u,l,e,h1,h2,h3,h4⟩=>⟨u,l,e,h1,h2,s _ _ h3,s _ _ h4⟩
theorem G5.upd {H:Hp}{R:Addr}{o:HO}{x:Nat×Int×List Nat}{v:V}:G5 H R x v->G5 (L2.upd H R o) R x v
 |⟨u,l,e,h1,h2,h3,h4⟩=>⟨u,l,e,h1,h2,(aw h1).trans h3,(aw h2).trans h4⟩
theorem G5.dv {K:ba}{H:Hp}{R:Addr}{x:Nat×Int×List Nat}{v:V}:G5 H R x v->DV K H (asD x) v
 |⟨u,l,e,h1,h2,h3,h4⟩=>by
  unfold asD DV;refine⟨u,_,e,SqT.of h3,?_⟩;unfold DVs;refine⟨_,_,rfl,by unfold DV;rfl,?_⟩
  unfold DVs;refine⟨_,_,rfl,by unfold DV;rfl,?_⟩
  unfold DVs;exact⟨_,_,rfl,g8 (SqL.of h4),by unfold DVs;rfl⟩
section
variable{P:me}{w:World}{K:ba}{mg:Str->Option Value}{base:Heap}{A:Adr}
theorem C9 (T:Txt w.params K mg A){i:Nat}:aO P w K mg base CX0 1 A.bx A.dE ["self","number"] (abR A i):=by
 refine T.cT.ok js (λvs H Q E h=>?_) (λcdv A' outer s H vs Q E hr h=>?_)
 ·obtain⟨o,n,c,st,x,rfl,_⟩:=h;rfl
 ·obtain⟨o,n,c,st,x,rfl,hc,hx,q⟩:=h;obtain⟨dx,aM,aP,aA,aD,aF,aE,aR,ms,ds,ws,fs,es,X⟩:=hc.ex;have hu1:=hr.u1;refine⟨_,(ai (a6 (i:=2) js.nd rfl (Lk rfl) (bc hu1 (br (pv 0) rfl) (pv 1) (λ_ _=>rfl)))
 (aj (aG (bj (aa (pv 1) (aa (aK aN (pv 2) af (λ_ _=>rfl)) (aa (dO dW (by rfl) T.nY nB (aa (aK aN (pv 2) af (λ_ _=>rfl)) ah)) ah))))))),?_⟩
  refine hide λGg hGg=>?_
  obtain⟨t,p,hv,ht,hl⟩:=X.waitOf hx;refine hGg ?_;refine⟨_,rfl,o,A.ax,dx,_,.ref aA,rfl,X.ob,T.au,T.jq2,jM,_,rfl,aA,_,rfl,.inl ⟨_,kq (n:Int),.inl X.ay.2,rfl,hv.symm⟩,?_⟩;refine⟨_,rfl,_,rfl,t,_,_,_,rfl,rfl,ht.sq,rfl,_,rfl,t,_,_,_,rfl,rfl,ht.sq,rfl,p,_,rfl,.inl (SqL.of hl.2),λl hl0=>⟨(sl 3),λu hu=>?_⟩⟩
  have nul:u≠l:=λz=>by rw[z,ae]at hu;cases hu
  have hu0:H u=none:=by rw[aw nul]at hu;exact hu
  exact q l u _ hl0 hu0 ((aB hl0).new hu) ((aw (akI nul)).trans ae) ae
end
end My
set_option maxHeartbeats 1000000
namespace My
open PySem L2
seal PySem.wpAny
def cA (st:Ch):R.eT->Rs×Ch
 | .nums kd ns=>if kd=ar "vote" then kY st (ns.getD 0 0) (ns.getD 1 0) else if kd=ar "drop" then lJ st else if kd=ar "take" then stepT st (ns.getD 0 0).toNat else mU st (dH (.nums kd ns)) (R.sG (.nums kd ns))
 |d=>mU st (dH d) (R.sG d)
inductive wO:R.eT->Prop
 |G6 {a b:Int}:(0<=a/\a < 10 ^ 10)->(0<=b/\b < 10 ^ 10)->wO (.nums (ar "vote") [a,b])
 |drop:wO (.nums (ar "drop") [])
 |take {z:Int}:-1<=z->z < 10 ^ 10->wO (.nums (ar "take") [z])
 |move {d:R.eT}:C8 d->wO d
theorem jQ {st:Ch}{a b:Int}:cA st (.nums (ar "vote") [a,b])=kY st a b:=by rw[cA,if_pos rfl];rfl
theorem jR {st:Ch}:cA st (.nums (ar "drop") [])=lJ st:=by rw[cA,if_neg (by decide +kernel),if_pos rfl]
theorem jS {st:Ch}{z:Int}:cA st (.nums (ar "take") [z])=stepT st z.toNat:=by
 rw[cA,if_neg (by decide +kernel),if_neg (by decide +kernel),if_pos rfl]
 rfl
theorem jT {st:Ch}{d:R.eT}(h:C8 d):cA st d=mU st (dH d) (R.sG d):=by
 cases d with
 |nums kd ns =>
  rcases wN h.1 with ⟨u,rfl,rfl⟩ | ⟨rfl,rfl⟩ | ⟨rfl,rfl⟩ | ⟨rfl,rfl⟩ <;> rw[cA,if_neg (by decide +kernel),if_neg (by decide +kernel),if_neg (by decide +kernel)]
 |_=>rfl
theorem Inv.cA {N:Nat}{st:Ch}(I:Inv N st)(hN:N<=800){d:R.eT}(h:wO d):Inv (N+3) (cA st d).2:=by
 cases h with
 |G6=>rw[jQ];exact I.kY hN _ _
 |drop=>rw[jR];exact I.lJ
 |take=>rw[jS];exact I.stepT _
 |move h=>rw[jT h];exact I.mU (KG h) _
theorem eX {W:Option (Nat×Rl)->Prop}{c c':Col}{H H':Hp}(s:Step W c c' H H'){a:Addr}{v:HO}(h:c a=none)(hv:H a=some v):c' a=none/\H' a=some v:=by
 have hn:¬W (c a):=by rw[h];exact s.nn
 exact⟨by rw[s.col a _ hv hn];exact h,s.keep _ _ hv hn⟩
def mdF (v0 v1 v2 v3 v4 v5:V):List (Key×V):=[(wa (ar "sitting"),v0),(wa (ar "closed"),v1),(wa (ar "pile"),v2),(wa (ar "aside"),v3),(wa (ar "decided"),v4),(wa (ar "motions"),v5)]
theorem key_ne {a b:Str}(h:a≠b){v:V}:¬((wa a,v):Key×V).1=(wa b:Key):=λz=>h (Sum.inr.inj z)
theorem Cn {kvs:List (Key×V)}{k:Key}{v y:V}(h:gL kvs k=some v):putK kvs k y=kvs.map (λkv=>if kv.1=k then (kv.1,y) else kv):=by
 unfold putK;rw[rT,h];exact if_pos rfl
section
variable{v0 v1 v2 v3 v4 v5 y:V}
theorem nP:gL (mdF v0 v1 v2 v3 v4 v5) (wa (ar "sitting"))=some v0:=eC rfl
theorem Co:gL (mdF v0 v1 v2 v3 v4 v5) (wa (ar "closed"))=some v1:=(bP (key_ne (by decide +kernel))).trans (eC rfl)
theorem sU:gL (mdF v0 v1 v2 v3 v4 v5) (wa (ar "pile"))=some v2:=(bP (key_ne (by decide +kernel))).trans ((bP (key_ne (by decide +kernel))).trans (eC rfl))
theorem yi:gL (mdF v0 v1 v2 v3 v4 v5) (wa (ar "aside"))=some v3:=(bP (key_ne (by decide +kernel))).trans ((bP (key_ne (by decide +kernel))).trans ((bP (key_ne (by decide +kernel))).trans (eC rfl)))
theorem yS:gL (mdF v0 v1 v2 v3 v4 v5) (wa (ar "decided"))=some v4:=(bP (key_ne (by decide +kernel))).trans ((bP (key_ne (by decide +kernel))).trans ((bP (key_ne (by decide +kernel))).trans ((bP (key_ne (by decide +kernel))).trans (eC rfl))))
theorem yT:gL (mdF v0 v1 v2 v3 v4 v5) (wa (ar "motions"))=some v5:=(bP (key_ne (by decide +kernel))).trans ((bP (key_ne (by decide +kernel))).trans ((bP (key_ne (by decide +kernel))).trans ((bP (key_ne (by decide +kernel))).trans ((bP (key_ne (by decide +kernel))).trans (eC rfl)))))
theorem G7:putK (mdF v0 v1 v2 v3 v4 v5) (wa (ar "sitting")) y=mdF y v1 v2 v3 v4 v5:=by
 rw[Cn nP];unfold mdF;simp only[ko,akW,if_neg (show ¬(wa (ar "closed"):Key)=wa (ar "sitting") by decide +kernel),if_neg (show ¬(wa (ar "pile"):Key)=wa (ar "sitting") by decide +kernel),if_neg (show ¬(wa (ar "aside"):Key)=wa (ar "sitting") by decide +kernel),if_neg (show ¬(wa (ar "decided"):Key)=wa (ar "sitting") by decide +kernel),if_neg (show ¬(wa (ar "motions"):Key)=wa (ar "sitting") by decide +kernel),if_true]
theorem Cp:putK (mdF v0 v1 v2 v3 v4 v5) (wa (ar "closed")) y=mdF v0 y v2 v3 v4 v5:=by
 rw[Cn Co];unfold mdF;simp only[ko,akW,if_neg (show ¬(wa (ar "sitting"):Key)=wa (ar "closed") by decide +kernel),if_neg (show ¬(wa (ar "pile"):Key)=wa (ar "closed") by decide +kernel),if_neg (show ¬(wa (ar "aside"):Key)=wa (ar "closed") by decide +kernel),if_neg (show ¬(wa (ar "decided"):Key)=wa (ar "closed") by decide +kernel),if_neg (show ¬(wa (ar "motions"):Key)=wa (ar "closed") by decide +kernel),if_true]
theorem Cq:putK (mdF v0 v1 v2 v3 v4 v5) (wa (ar "pile")) y=mdF v0 v1 y v3 v4 v5:=by
 rw[Cn sU];unfold mdF;simp only[ko,akW,if_neg (show ¬(wa (ar "sitting"):Key)=wa (ar "pile") by decide +kernel),if_neg (show ¬(wa (ar "closed"):Key)=wa (ar "pile") by decide +kernel),if_neg (show ¬(wa (ar "aside"):Key)=wa (ar "pile") by decide +kernel),if_neg (show ¬(wa (ar "decided"):Key)=wa (ar "pile") by decide +kernel),if_neg (show ¬(wa (ar "motions"):Key)=wa (ar "pile") by decide +kernel),if_true]
end
def MnT (c:Col)(H:Hp)(m:Mn)(t:Addr):Prop:=c t=none/\∃v,H t=some (.tup (rowOf m.k v))/\m.Val c H v
theorem MnT.step {W:Option (Nat×Rl)->Prop}{c c':Col}{H H':Hp}{m:Mn}{t:Addr}(s:Step W c c' H H')(h:MnT c H m t):MnT c' H' m t:=by
 obtain⟨n,v,h,hv⟩:=h;have hn:¬W (c t):=by rw[n];exact s.nn
 exact⟨by rw[s.col t _ h hn];exact n,v,s.keep _ _ h hn,hv.step s⟩
def f7 (st:Ch)(n:Nat):List Ed:=((at1 n st.kept).map (·.2)).getD []
def Cr (st:Ch)(n:Nat):Option (List Str):=(at1 n st.firsts).map (·.2)
abbrev Ent:=Nat×Mn×List Ed×Option (List Str)
def hJ (st:Ch)(n:Nat):Ent:=(n,st.mo n,f7 st n,Cr st n)
def iG (st:Ch):List Ent:=(akL 1 st.made.length).map (hJ st)
abbrev Xe (i:Nat)(c:Col)(H:Hp)(x:Ent)(v:V):Prop:=∃(p t1 t2 k:Addr) (ts:List Addr),v=.ref p/\LstAt i c H (.cM x.1) p [.ref t1,.ref t2,.ref k]/\MnT c H x.2.1 t1/\(∀tx,x.2.2.2=some tx->MnT c H (.mat tx) t2)/\LstAt i c H (.gG x.1) k (ts.map V.ref)/\bD (λe t=>TupAt c H t (gg e)) x.2.2.1 ts
structure MdX (i:Nat)(c:Col)(H:Hp)(m:Addr)(st:Ch)(aP aA aD aM:Addr)(ds:List Addr)(ws es:List V):Prop where
 co:c m=some (i,.ob)
 ob:H m=some (.dK (mdF (.int st.aI) (.bl st.closed) (.ref aP) (.ref aA) (.ref aD) (.ref aM)))
 aq:LstAt i c H .aq aP (st.aq.map nV)
 ay:jt i c H .ay aA ((st.ay.map (·.1)).zip ws)
 wait:bD (ME i c H) st.ay ws
 dec:LstAt i c H .decided aD (ds.map V.ref)
 mQ:bD (λ(x:Nat×Str) t=>TupAt c H t [nV x.1,.str x.2]) st.decided ds
 lX:LstAt i c H .made aM es
 ent:bD (Xe i c H) (iG st) es
structure jq (i:Nat)(c:Col)(H:Hp)(m:Addr)(st:Ch):Prop where
 ex:∃(aP aA aD aM:Addr) (ds:List Addr) (ws es:List V),MdX i c H m st aP aA aD aM ds ws es
section
variable{i:Nat}{p:Rl->Bool}{c c':Col}{H H':Hp}{m aP aA aD aM:Addr}{st:Ch}{ds:List Addr}{ws es:List V}
theorem MdX.at (X:MdX i c H m st aP aA aD aM ds ws es):jq i c H m st:=⟨_,_,_,_,_,_,_,X⟩
theorem G8 {xs:List Ent}{vs:List V}(h1:∀x∈xs,p (.cM x.1)=false)(h2:∀x∈xs,p (.gG x.1)=false)(s:Step (Wr i p) c c' H H')(z:bD (Xe i c H) xs vs):bD (Xe i c' H') xs vs :=
 z.imp_mem λx m v ⟨q,t1,t2,k,ts,e,z1,z2,z3,z4,z5⟩=>⟨q,t1,t2,k,ts,e,z1.kp (h1 x m) s,z2.step s,λtx ht=>(z3 tx ht).step s,z4.kp (h2 x m) s,z5.imp λ_ _ y=>y.step s⟩
theorem MdX.free {W:Option (Nat×Rl)->Prop}(h:∀r,¬W (some (i,r)))(s:Step W c c' H H')(X:MdX i c H m st aP aA aD aM ds ws es):MdX i c' H' m st aP aA aD aM ds ws es:=by
 have hn:¬W (c m):=by rw[X.co];exact h _
 refine⟨by rw[s.col m _ X.ob hn];exact X.co,s.keep _ _ X.ob hn,X.aq.keep (h _) s,X.ay.keep (h _) s,X.wait.imp ?_,X.dec.keep (h _) s,jg s X.mQ,X.lX.keep (h _) s,X.ent.imp ?_⟩
 ·rintro x v ⟨t,p,e,z1,z2⟩;exact⟨t,p,e,z1.step s,z2.keep (h _) s⟩
 ·rintro x v ⟨q,t1,t2,k,ts,e,z1,z2,z3,z4,z5⟩;exact⟨q,t1,t2,k,ts,e,z1.keep (h _) s,z2.step s,λtx ht=>(z3 tx ht).step s,z4.keep (h _) s,z5.imp λ_ _ y=>y.step s⟩
theorem MdX.same (s:bu H H')(X:MdX i c H m st aP aA aD aM ds ws es):MdX i c H' m st aP aA aD aM ds ws es:=X.free (W:=λ_=>False) (λ_=>id) (Step.same id s)
theorem MdX.cl (s:bu H H')(X:MdX i c H m st aP aA aD aM ds ws es):MdX i (cc c H) H' m st aP aA aD aM ds ws es:=X.free (W:=λ_=>False) (λ_=>id) (Step.cl id s)
theorem jq.free {W:Option (Nat×Rl)->Prop}(h:∀r,¬W (some (i,r)))(s:Step W c c' H H')(X:jq i c H m st):jq i c' H' m st:=by
 obtain⟨aP,aA,aD,aM,ds,ws,es,X⟩:=X.ex;exact(X.free h s).at
theorem MdX.attr (X:MdX i c H m st aP aA aD aM ds ws es)(n:Int)(b:Bool) :
  Step (Wr i pOb) c c H (upd H m (.dK (mdF (.int n) (.bl b) (.ref aP) (.ref aA) (.ref aD) (.ref aM))))/\MdX i c (upd H m (.dK (mdF (.int n) (.bl b) (.ref aP) (.ref aA) (.ref aD) (.ref aM)))) m { st with aI:=n,closed:=b } aP aA aD aM ds ws es:=by
 have s:Step (Wr i pOb) c c H (upd H m (.dK (mdF (.int n) (.bl b) (.ref aP) (.ref aA) (.ref aD) (.ref aM)))):=Step.upd Wr.nn (Wr.yes X.co rfl);exact⟨s,X.co,ae,X.aq.kp rfl s,X.ay.kp rfl s,kU (λ_ _=>rfl) s X.wait,X.dec.kp rfl s,jg s X.mQ,X.lX.kp rfl s,G8 (λ_ _=>rfl) (λ_ _=>rfl) s X.ent⟩
def abS:Rl->Bool | .aq=>true | .decided=>true | _=>false
theorem MdX.pop (X:MdX i c H m st aP aA aD aM ds ws es){pre:List Nat}{n:Nat}{t:Addr}{wd:Str}(ht:(upd H aP (.lst (pre.map nV))) t=none) :
  Step (Wr i abS) c (aC c t none) H (upd (upd (upd H aP (.lst (pre.map nV))) t (.tup [nV n,.str wd])) aD (.lst (ds.map V.ref++[.ref t]))) /\
  MdX i (aC c t none) (upd (upd (upd H aP (.lst (pre.map nV))) t (.tup [nV n,.str wd])) aD (.lst (ds.map V.ref++[.ref t]))) m (st.popped pre n wd) aP aA aD aM (ds++[t]) ws es:=by
 have nt:∀ {a:Addr} {v:HO},H a=some v->a≠t:=by
  intro a v e z;subst z
  by_cases y:a=aP
  ·subst y;rw[ae]at ht;cases ht
  ·rw[aw y,e]at ht;cases ht
 have nPD:aD≠aP:=dB X.dec.1 X.aq.1 (λz=>nomatch z)
 have s:Step (Wr i abS) c (aC c t none) H (upd (upd (upd H aP (.lst (pre.map nV))) t (.tup [nV n,.str wd])) aD (.lst (ds.map V.ref++[.ref t]))) :=
  ((Step.upd Wr.nn (Wr.yes X.aq.1 rfl)).trans (Step.new Wr.nn ht)).trans (Step.upd Wr.nn ⟨.decided,by rw[av (nt X.dec.2)];exact X.dec.1,rfl⟩)
 have htt:TupAt (aC c t none) (upd (upd (upd H aP (.lst (pre.map nV))) t (.tup [nV n,.str wd])) aD (.lst (ds.map V.ref++[.ref t]))) t [nV n,.str wd]:=⟨aV,.inl ((aw (nt X.dec.2).symm).trans ae)⟩;have kp:LstAt i (aC c t none) (upd (upd (upd H aP (.lst (pre.map nV))) t (.tup [nV n,.str wd])) aD (.lst (ds.map V.ref++[.ref t]))) .aq aP (pre.map nV) :=
  ⟨by rw[av (nt X.aq.2)];exact X.aq.1,by rw[aw nPD.symm,aw (nt X.aq.2),ae]⟩
 have kd:LstAt i (aC c t none) (upd (upd (upd H aP (.lst (pre.map nV))) t (.tup [nV n,.str wd])) aD (.lst (ds.map V.ref++[.ref t]))) .decided aD ((ds++[t]).map V.ref) :=
  ⟨by rw[av (nt X.dec.2)];exact X.dec.1,by rw[ae,ku];rfl⟩
 have k:=mO rfl s X.co X.ob;exact⟨s,k.1,k.2,kp,X.ay.kp rfl s,kU (λ_ _=>rfl) s X.wait,kd,(jg s X.mQ).snoc htt,X.lX.kp rfl s,G8 (λ_ _=>rfl) (λ_ _=>rfl) s X.ent⟩
theorem MdX.gs (X:MdX i c H m st aP aA aD aM ds ws es):uI H m (V.str (ar "sitting")) (some (.int st.aI)):=.inl ⟨_,wa (ar "sitting"),.inl X.ob,rfl,nP.symm⟩
theorem MdX.gc (X:MdX i c H m st aP aA aD aM ds ws es):uI H m (V.str (ar "closed")) (some (.bl st.closed)):=.inl ⟨_,wa (ar "closed"),.inl X.ob,rfl,Co.symm⟩
theorem MdX.gp (X:MdX i c H m st aP aA aD aM ds ws es):uI H m (V.str (ar "pile")) (some (.ref aP)):=.inl ⟨_,wa (ar "pile"),.inl X.ob,rfl,sU.symm⟩
theorem MdX.ga (X:MdX i c H m st aP aA aD aM ds ws es):uI H m (V.str (ar "aside")) (some (.ref aA)):=.inl ⟨_,wa (ar "aside"),.inl X.ob,rfl,yi.symm⟩
theorem MdX.gd (X:MdX i c H m st aP aA aD aM ds ws es):uI H m (V.str (ar "decided")) (some (.ref aD)):=.inl ⟨_,wa (ar "decided"),.inl X.ob,rfl,yS.symm⟩
theorem MdX.gm (X:MdX i c H m st aP aA aD aM ds ws es):uI H m (V.str (ar "motions")) (some (.ref aM)):=.inl ⟨_,wa (ar "motions"),.inl X.ob,rfl,yT.symm⟩
end
end My
set_option maxHeartbeats 1000000
namespace My
open PySem L2
seal PySem.wpAny
theorem QP (xs:List V)(k:Nat):fB xs none (some (k:Int))=xs.take k:=by
 unfold fB;rw[HT.tO,HT.F6,List.drop_zero,Nat.sub_zero,<-List.take_eq_take_min]
theorem Tn {xs:List V}{lo hi:Option Int}{x:V}(h:x∈fB xs lo hi):x∈xs:=by
 unfold fB at h;exact List.mem_of_mem_drop (List.mem_of_mem_take h)
abbrev u4:Str:=ar "abcdefghijklmnopqrstuvwxyzAZ09-#./"
theorem QQ:u4.length=34:=by decide +kernel
theorem Ec:u4.cps.toList.length=34:=by decide +kernel
theorem Ee:∀c∈u4.cps.toList,R.Sign c:=by decide +kernel
theorem To:∀c∈u4.cps.toList.take 33,c≠47:=by decide +kernel
theorem aip {i:Int}(h0:0<=i)(h1:i < 34):∃c,atI u4.cps.toList i=some c/\R.Sign c:=by
 obtain⟨c,hc,hm⟩:=Ur (xs:=u4.cps.toList) (i:=i) (n:=34) Ec h0 (by omega)
 exact⟨c,hc,Ee c hm⟩
theorem aiq {i:Int}(h0:0<=i)(h1:i < 33):∃c,atI u4.cps.toList i=some c/\R.Sign c/\c≠47:=by
 obtain⟨n,rfl⟩:∃n:Nat,i=(n:Int):=⟨i.toNat,by omega⟩
 have hn:n < 33:=by omega
 have hl:=Ec;have e:u4.cps.toList[n]?=some u4.cps.toList[n]:=wt (by omega)
 refine⟨_,dD e,Ee _ (List.getElem_mem _),To _ ?_⟩;have e2:(u4.cps.toList.take 33)[n]?=some u4.cps.toList[n]:=by rw[List.getElem?_take,if_pos hn];exact e
 exact akM e2
structure Wd (n:Nat)(x:Str):Prop where
 len:x.length<=n
 hd:∃d r,x.cps.toList=d::r/\d≠47
 sgn:∀c∈x.cps.toList,R.Sign c
theorem Xf {c:Nat}(h:R.Sign c)(n:c≠47):Wd 1 ⟨#[c]⟩:=⟨km 1,⟨c,[],rfl,n⟩,λd hd=>by
 have:d=c:=by simpa using hd
 rw[this];exact h⟩
theorem Xg {x:Str}{n c:Nat}(w:Wd n x)(h:R.Sign c):Wd (n+1) (x++⟨#[c]⟩):=by
 obtain⟨d,r,e,hd⟩:=w.hd;refine⟨?_,⟨d,r++[c],?_,hd⟩,λy hy=>?_⟩
 ·have:=w.len;rw[len_app];show _+1<=_;omega
 ·rw[eY,e];rfl
 ·rw[eY,List.mem_append]at hy;rcases hy with hy | hy
  ·exact w.sgn y hy
  ·have:y=c:=by simpa using hy
   rw[this];exact h
theorem Wd.word {n:Nat}{x:Str}(w:Wd n x)(h:n<=20):R.n9 x:=by
 obtain⟨d,r,e,hd⟩:=w.hd;have hl:x.cps.toList.length=x.length:=by rw[alu];rfl
 refine⟨?_,tm w.len h,w.sgn,λz=>?_⟩
 ·rw[<-hl,e];simp
 ·rw[z]at e;have:(ar "/").cps.toList=[47]:=by decide +kernel
  rw[this]at e;cases e;exact hd rfl
def Cs:Sp:=λvs H Q _=>∃c:Int,vs=[.int c]/\∀x,R.n9 x->Q (.str x) H
def Ct:Sp:=λvs H Q _=>∃c:Int,vs=[.int c]/\∀(ws:List Str) (H':Hp),R.B5 12 ws->bu H H'->Q (.str (sr R.bl1 ws)) H'
def QR (K:ba):Sp:=λvs H Q _=>∃(a:Addr) (ns:List Int) (k:Int),vs=[.ref a,.int k]/\SqL K H a (ns.map V.int)/\0<=k/\∀z:Int,Q (.int z) H
def G9:Sp:=λvs H Q _=>∃(c n:Int) (z:Str),vs=[.int c,.int n,.str z]/\0<=n/\n<=900/\∀(k:Nat) (j:Int) (t:Addr) (H':Hp),(k=0\/k=1\/k=2)->-1<=j->j<=1000->bu H H'->H t=none->H' t=some (.tup (R.edR k j z))->Q (.ref t) H'
def Cu:Sp:=λvs H Q _=>∃k:Nat,k < 8/\vs=[.str (nm k)]/\∀H',bu H H'->Q (.int (k:Int)) H'
def KI:List Str:=[ar "matter",ar "change",ar "mend",ar "put off",ar "close",ar "lay",ar "rest",ar "point"]
theorem QS:∀k,k < 8->KI[k]?=some (nm k)/\∀m,m < k->KI[m]?≠some (nm k):=by decide +kernel
section
variable{P:me}{w:World}{K:ba}{mg:Str->Option Value}{base:Heap}{A:Adr}
theorem FK (T:Txt w.params K mg A):aO P w K mg base CX0 1 A.t5 A.lO ["_law_script","_law_k"] (QR K):=by
 refine T.sj.ok E1 (λvs H Q E h=>?_) (λcdv A' outer s H vs Q E hr h=>?_)
 ·obtain⟨a,ns,k,rfl,_⟩:=h;rfl
 ·obtain⟨a,ns,k,rfl,hS,h0,q⟩:=h;refine⟨_,(ai (a7 (az rP (pv 1) (bN bO (by rfl) T.kQ hU (aa (pv 0) ah)) (aL _))
 (aj (aG (aK bw (pv 0) (pv 1) (λ_ _=>rfl))))
 aH)
 (aj (aG af))),?_⟩
  refine⟨_,rfl,_,rfl,a,_,rfl,.inl hS,_,_,rfl,rfl,_,rfl,eR (λe=>?_) (λ_=>q 0)⟩
  refine hide λGg hGg=>?_
  have e':k < ((ns.map V.int).length:Int):=of_decide_eq_true e;rw[bo]at e';obtain⟨c,hc,hm⟩:=Ur (xs:=ns.map V.int) (i:=k) (n:=ns.length) (bo _) h0 e';obtain⟨z,_,rfl⟩:=List.mem_map.mp hm;refine hGg ?_;exact⟨_,rfl,_,rfl,a,_,_,_,rfl,rfl,hS,hc,q z⟩
theorem Ef (T:Txt w.params K mg A):aO P w K mg base CX0 1 A.Bs A.pG ["_law_cell"] Cs:=by
 refine T.vY.ok pd (λvs H Q E h=>?_) (λcdv A' outer s H vs Q E hr h=>?_)
 ·obtain⟨c,rfl,_⟩:=h;rfl
 ·obtain⟨c,rfl,k⟩:=h;refine⟨_,(ai (a6 (i:=1) pd.nd rfl (Lk rfl) ao)
 (ai (a6 (i:=2) pd.nd rfl (Lk rfl) (aK J0 (pv 1) (a4 cB (pv 0) af) (λ_ _=>rfl)))
 (ai (AO PassesOwn.never rfl (xo rfl T.wj (aa (a4 cB (a4 dg (pv 0) af) af) ah)) (ei (i:=3) pd.nd rfl (Lk rfl))
 (aj (a6 (i:=2) pd.nd rfl (Lk rfl) (a4 JS (pv 2) (aK J0 (pv 1) (a4 cB (a4 dg (pv 0) (a4 xq af (a4 cX af (a4 xq af (pv 3))))) af) (λ_ _=>rfl))))))
 (aj (aG (pv 2)))))),?_⟩
  refine hide λGg hGg=>?_
  have s34:u4.length<=kf:=by rw[QQ];decide
  obtain⟨d,hd,hd',air⟩:=aiq (i:=c % 33) (by omega) (by omega)
  refine hGg ?_;refine⟨_,rfl,_,rfl,_,_,rfl,rfl,(by show (0:Int) < 33;decide),u4,_,d,rfl,rfl,s34,hd,?_⟩
  refine⟨_,rfl,_,_,rfl,rfl,⟨by decide,by decide⟩,_,_,rfl,rfl,(by show (0:Int) < 3;decide),_,rfl,by omega,by omega,?_⟩
  refine Dm (lo:=0) (n:=(c / 33 % 3).toNat) (λi σ H'=>H'=H/\∃x kv,σ=[some (.int c),some (.str u4),some (.str x),kv]/\Wd (1+i) x) ⟨rfl,_,_,rfl,Xf hd' air⟩ ?_ ?_
  ·rintro i σ H' hi ⟨rfl,x,kv,rfl,wx⟩;refine hide λGg hGg=>?_
   obtain⟨d2,hd2,ais⟩:=aip (i:=c / (99 * (1+33 * (0+(i:Int)))) % 34) (by omega) (by omega)
   refine hGg ?_;refine⟨_,rfl,_,rfl,_,rfl,_,rfl,_,_,rfl,rfl,.inl ⟨by decide,by decide⟩,_,_,rfl,rfl,_,_,rfl,rfl,.inl ⟨by decide,by decide⟩,_,_,rfl,rfl,⟨by omega,by omega⟩,_,_,rfl,rfl,(by show (0:Int) < 34;decide),u4,_,d2,rfl,rfl,s34,hd2,_,_,rfl,rfl,?_,rfl,_,_,rfl,?_⟩
   ·have:=wx.len;rw[show (⟨#[d2]⟩:Str).length=1 from rfl]
    have:i < 3:=by omega
    exact tm (by omega:x.length+1<=10) (by decide)
   ·exact Xg wx ais
  ·rintro σ H' ⟨rfl,x,kv,rfl,wx⟩;exact⟨_,rfl,k x (wx.word (by omega))⟩
theorem Hb (T:Txt w.params K mg A):aO P w K mg base CX0 2 A.vQ A.nD ["_law_cell"] Ct:=by
 have Cv:aO P w K mg base CX0 1 A.Bs A.pG ["_law_cell"] Cs:=Ef T;refine T.mI.ok kM (λvs H Q E h=>?_) (λcdv A' outer s H vs Q E hr h=>?_)
 ·obtain⟨c,rfl,_⟩:=h;rfl
 ·obtain⟨c,rfl,k⟩:=h;have yj:=hr;refine⟨_,(ai (a6 (i:=1) kM.nd rfl (Lk rfl) (bI ah))
 (ai (a6 (i:=2) kM.nd rfl (Lk rfl) (a4 cX (a4 cB (pv 0) af) af))
 (ai (AO PassesOwn.never rfl (xo rfl T.wj (aa (a4 cB (pv 0) af) ah)) (ei (i:=3) kM.nd rfl (Lk rfl))
 (ai (a6 (i:=2) kM.nd rfl (Lk rfl) (a4 cB (a4 xq (pv 2) af) af))
 (aj (bL (hG rf akB akC cU (pv 1) (aa (aW Cv yj rfl T.By T.vY.kp T.Bx .nil aZ (aa (a4 dg (pv 2) af) ah)) ah))))))
 (aj (aG (hG alJ PySem.F.slot_str_join PySem.F.type_str_join EF ao (aa (pv 1) ah))))))),?_⟩
  have sz:kf=16777216:=by decide
  refine⟨ak6 _,λW hW=>?_⟩
  refine⟨_,rfl,_,_,rfl,rfl,(by show (0:Int) < 4294967311;decide),_,_,rfl,rfl,?_⟩
  refine⟨_,rfl,_,_,rfl,rfl,(by show (0:Int) < 4;decide),_,rfl,by omega,by omega,?_⟩
  refine Dm (lo:=0) (n:=(c % 4).toNat) (λi σ H2=>∃(ws:List Str) (m:Int) (kv:Option V),σ=[some (.int c),some (.ref W),some (.int m),kv]/\0<=m/\m<=4294967311/\H2 W=some (.lst (ws.map V.str))/\ws.length=i/\(∀w∈ws,R.n9 w)/\bu H H2)
   ⟨[],_,_,rfl,by omega,by omega,ae,rfl,(λz hz=>nomatch hz),aB hW⟩ ?_ ?_
  ·rintro i σ H2 hi ⟨ws,m,kv,rfl,m0,m1,h2,hl,hg,s2⟩;refine⟨_,rfl,_,_,rfl,rfl,.inl ⟨by omega,by omega⟩,_,_,rfl,rfl,(by show (0:Int) < 4294967311;decide),?_⟩
   refine⟨_,rfl,.inl ⟨rfl,_,SqL.of h2⟩,_,rfl,_,_,rfl,rfl,⟨by decide,by decide⟩,_,rfl,λx hx=>?_⟩
   refine⟨W,_,_,rfl,rfl,h2,(by rw[bo];omega),?_⟩
   refine⟨ws++[x],_,_,rfl,by omega,by omega,?_,?_,λz h=>?_,s2.own hW⟩
   ·rw[ae,ku];rfl
   ·rw[gn,hl];rfl
   ·rcases List.mem_append.mp h with h | h
    ·exact hg z h
    ·rw[List.mem_singleton.mp h];exact hx
  ·rintro σ H2 ⟨ws,m,kv,rfl,m0,m1,h2,hl,hg,s2⟩;have hs:=R.D0 hg;refine⟨rfl,_,rfl,R.bl1,W,ws,rfl,rfl,SqL.of h2,(by rw[R.n8];show _+_ * 1<=_;omega),?_⟩
   exact k ws _ ⟨by omega,hg⟩ s2
theorem NG (T:Txt w.params K mg A):aO P w K mg base CX0 1 A.E2 A.t6 ["_law_cell","_law_size","_law_thing"] G9:=by
 refine T.vZ.ok DE (λvs H Q E h=>?_) (λcdv A' outer s H vs Q E hr h=>?_)
 ·obtain⟨c,n,z,rfl,_⟩:=h;rfl
 ·obtain⟨c,n,z,rfl,n0,n1,q⟩:=h;refine⟨_,(ai (a6 (i:=3) DE.nd rfl (Lk rfl) (a4 nX (a4 cB (a4 dg (pv 0) af) (a4 cX (pv 1) af)) af))
 (ai (a7 (az bt (a4 cB (pv 0) af) af (aL _))
 (aj (aG (bj (aa ao (aa (pv 3) ah)))))
 aH)
 (aj (aG (bj (aa (aK bw (bI (aa ao (aa ao (aa ao ah)))) (a4 cB (pv 0) af) (λ_ _=>rfl)) (aa (pv 3) (aa (pv 2) ah)))))))),?_⟩
  refine⟨_,rfl,_,_,rfl,rfl,⟨by decide,by decide⟩,_,rfl,_,_,rfl,rfl,_,_,rfl,rfl,(by show (0:Int) < n+3;omega),_,_,rfl,rfl,?_⟩
  have j0:0<=c / 3 % (n+3):=alx _ (by omega)
  have j1:c / 3 % (n+3) < n+3:=alb _ (by omega)
  dsimp only[f9];obtain⟨j,ej⟩:∃j,c / 3 % (n+3) - 1=j:=⟨_,rfl⟩;rw[ej];refine⟨_,rfl,_,_,rfl,rfl,(by show (0:Int) < 3;decide),rfl,_,rfl,eR (λh=>?_) (λh=>?_)⟩
  ·refine⟨_,rfl,(sl 2),λt ht=>?_⟩
   exact q 1 j t _ (.inr (.inl rfl)) (by omega) (by omega) (aB ht) ht ae
  ·have h':¬c % 3=1:=λe=>h (decide_eq_true (by show V.int (c % 3)=V.int 1;rw[e]))
   refine⟨(sl 3),λp hp=>?_⟩
   refine hide λGg hGg=>?_
   have s1:=aB (o:=.lst [V.str (ar "put"),.str (ar ""),.str (ar "turn")]) hp;obtain⟨k,hk3,hk1,hk⟩:∃k:Nat,(k=0\/k=1\/k=2)/\k≠1/\atI [V.str (ar "put"),.str (ar ""),.str (ar "turn")] (c % 3)=some (.str (R.kn k)):=by
    have h3:c % 3=0\/c % 3=2:=by omega
    rcases h3 with e | e
    ·exact⟨0,.inl rfl,by decide,by rw[e];rfl⟩
    ·exact⟨2,.inr (.inr rfl),by decide,by rw[e];rfl⟩
   refine hGg ?_;refine⟨_,rfl,_,_,rfl,rfl,(by show (0:Int) < 3;decide),p,_,_,_,rfl,rfl,SqL.of ae,hk,_,rfl,_,rfl,(sl 3),λt ht=>?_⟩
   refine q k j t _ hk3 (by omega) (by omega) (s1.new ht) (same_none s1 ht) ?_
   rw[ae,R.edR,if_neg hk1]
theorem u5 (T:Txt w.params K mg A):aO P w K mg base CX0 1 A.t9 A.jF ["_law_clause_here"] R.fY:=by
 refine T.pM.ok Ki (λvs H Q E h=>?_) (λcdv A' outer s H vs Q E hr h=>?_)
 ·obtain⟨z,rfl,_⟩:=h;rfl
 ·obtain⟨z,rfl,hz,k⟩:=h;refine⟨_,(ai (a7 (az bt (pv 0) ao (aL _))
 (aj (aG (bI ah)))
 aH)
 (aj (aG (hG alJ PySem.F.slot_str_split PySem.F.type_str_split Gb (pv 0) (aa ao ah))))),?_⟩
  refine⟨_,rfl,rfl,_,rfl,eR (λe=>?_) (λe=>?_)⟩
  ·have e':z=R.em:=by injection of_decide_eq_true e
   refine⟨ak6 _,λp hp=>?_⟩
   have:=k p hp;rw[R.bh,if_pos e']at this;exact this
  ·have e':¬z=R.em:=λq=>e (decide_eq_true (by rw[q]))
   refine⟨_,rfl,rfl,z,R.bl1,rfl,rfl,by rw[R.n8];rfl,hz,λp hp=>?_⟩
   have:=k p hp;rw[R.bh,if_neg e']at this;exact this
theorem Eg (T:Txt w.params K mg A):aO P w K mg base CX0 1 A.Bt A.pH ["_law_kind"] Cu:=by
 refine T.we.ok Nq (λvs H Q E h=>?_) (λcdv A' outer s H vs Q E hr h=>?_)
 ·obtain⟨k,_,rfl,_⟩:=h;rfl
 ·obtain⟨k,k8,rfl,q⟩:=h;refine⟨_,(aj (aG (hG rf PySem.F.slot_list_index PySem.F.type_list_index Pp (bI (aa ao (aa ao (aa ao (aa ao (aa ao (aa ao (aa ao (aa ao ah))))))))) (aa (pv 0) ah)))),?_⟩;obtain⟨h1,h2⟩:=QS k k8;refine⟨(sl 8),λp hp=>?_⟩
  refine⟨.inl ⟨rfl,_,SqL.of ae⟩,_,rfl,p,KI,nm k,k,rfl,rfl,SqL.of ae,h1,h2,?_⟩;exact q _ (aB hp)
theorem NH (T:Txt w.params K mg A):aO P w K mg base CX0 1 A.E3 A.t7 ["_law_things","_law_edit_here"] (Fl K):=by
 refine T.wb.ok Np (λvs H Q E h=>?_) (λcdv A' outer s H vs Q E hr h=>?_)
 ·obtain⟨a,t,xs,e,rfl,_⟩:=h;rfl
 ·obtain⟨a,t,xs,e,rfl,ha,ht,o,q⟩:=h;refine⟨_,(ai (a7 (az bt (aK aN (pv 1) af (λ_ _=>rfl)) ao (aL _))
 (aj (aG (AU vx vx af (aK aN (pv 1) af (λ_ _=>rfl)) (bN bO (by rfl) T.kQ hU (aa (pv 0) ah)))))
 aH)
 (aj (aG (AU vx rP af (aK aN (pv 1) af (λ_ _=>rfl)) (bN bO (by rfl) T.kQ hU (aa (pv 0) ah)))))),?_⟩
  unfold gD at q;refine ixv rfl ht (n6 e) ⟨rfl,_,rfl,eR (λz=>?_) (λz=>?_)⟩
  ·have hk:e.k=0:=(xT o).mp (of_decide_eq_true z);rw[if_pos hk]at q;refine ixv rfl ht (uP e) ⟨_,_,rfl,rfl,_,rfl,eR (λz1=>?_) (λz1=>?_)⟩
   ·have h1:0<=e.at_:=of_decide_eq_true z1;rw[decide_eq_true h1,Bool.true_and]at q;refine⟨_,rfl,a,_,rfl,.inl ha,_,_,rfl,rfl,?_⟩;dsimp only;rw[show decide (e.at_<=(xs.length:Int))=decide (e.at_ < (xs.length:Int)+1) by simp only[decide_eq_decide];omega]
    exact q
   ·have h1:¬0<=e.at_:=λy=>z1 (decide_eq_true y)
    rw[decide_eq_false h1,Bool.false_and]at q;exact q
  ·have hk:¬e.k=0:=λy=>z (decide_eq_true ((xT o).mpr y))
   rw[if_neg hk,Int.add_zero]at q;refine ixv rfl ht (uP e) ⟨_,_,rfl,rfl,_,rfl,eR (λz1=>?_) (λz1=>?_)⟩
   ·have h1:0<=e.at_:=of_decide_eq_true z1;rw[decide_eq_true h1,Bool.true_and]at q;exact⟨_,rfl,a,_,rfl,.inl ha,_,_,rfl,rfl,q⟩
   ·have h1:¬0<=e.at_:=λy=>z1 (decide_eq_true y)
    rw[decide_eq_false h1,Bool.false_and]at q;exact q
end
end My
set_option maxHeartbeats 1000000
namespace My
open PySem L2
seal PySem.wpAny
def Hc (K:ba):Sp:=λvs H Q _=>∃(a t:Addr) (xs:List Str) (e:Ed),vs=[.ref a,.ref t]/\SqL K H a (xs.map V.str)/\xs.length<=1000/\SqT K H t (gg e)/\rB e/\gD xs.length e=true /\
 ∀p H',bu H H'->H p=none->H' p=some (.lst ((bH xs e).map V.str))->Q (.ref p) H'
def MS:Sp:=λvs H Q _=>vs=[]/\∀m H',(∀(i:Nat) (c:Col) (n:Int),∃c',Step (λ_=>False) c c' H H'/\jq i c' H' m (yR n))->Q (.ref m) H'
def qQ (i:Nat):Sp:=λvs H Q _=>∃(m:Addr) (n:Nat) (c:Col) (st:Ch),vs=[.ref m,nV n]/\jq i c H m st/\dI st n/\∀t,MnT c H (st.mo n) t->Q (.ref t) H
def FL (i:Nat):Sp:=λvs H Q _=>∃(m:Addr) (c:Col) (st:Ch),vs=[.ref m]/\jq i c H m st/\(∀n∈st.aq,dI st n)/\∀H',bu H H'->Q (.int (oa st.closed (st.aq.map st.mo))) H'
theorem kH (ns:List Nat):alP (eh ns) (.list [])=ns.isEmpty:=by
 cases ns with
 |nil=>simp[eh,alP,PyData.eqvAll]
 |cons n ns=>simp[eh,alP,PyData.eqvAll]
theorem Cw:∀ns:List Nat,aln (ns.map λn:Nat=>al1 (n:Int))<=1
 |[]=>by simp only[akW,aln];omega
 |n::ns=>by
  have:=Cw ns;simp only[ko,aln,alm];omega
theorem kJ (ns:List Nat):alI (eh ns)=true:=by
 have h1:(eh ns).canLay0=true:=by
  unfold eh;simp only[akG]
  induction ns with
  |nil=>simp only[akW,akO]
  |cons n ns ih=>simp only[ko,akO,akG,ih,al0]
 have h2:(eh ns).depth<=64:=by
  have:=Cw ns;unfold eh;simp only[alm];omega
 show ((eh ns).canLay0 && decide ((eh ns).depth<=64))=true;rw[h1,decide_eq_true h2];rfl
theorem oi:alI (.list [])=true:=by rfl
theorem jU {K:ba}{H:Hp}{p:Addr}(h:SqL K H p []):DV K H (.list []) (.ref p):=by
 unfold DV;exact⟨p,[],rfl,h,by unfold DVs;rfl⟩
theorem nQ {st:Ch}{n:Nat}(hn:dI st n):(iG st)[n - 1]?=some (hJ st n):=by
 unfold iG;rw[akK,G0 hn.1 hn.2];rfl
theorem MnT.kind {c:Col}{H:Hp}{m:Mn}{t:Addr}(h:MnT c H m t):∃v,H t=some (.tup (rowOf m.k v)):=⟨_,h.2.choose_spec.1⟩
theorem Xh {v0 v1 v2 v3 v4 v5:V}:xC [] (mdF v0 v1 v2 v3 v4 v5)=mdF v0 v1 v2 v3 v4 v5:=by kernel_rfl
section
variable{P:me}{w:World}{K:ba}{mg:Str->Option Value}{base:Heap}{A:Adr}
theorem NI (T:Txt w.params K mg A):aO P w K mg base CX0 1 A.E4 A.t8 ["_law_things","_law_edit_here"] (Hc K):=by
 refine T.wc.ok DF (λvs H Q E h=>?_) (λcdv A' outer s H vs Q E hr h=>?_)
 ·obtain⟨a,t,xs,e,rfl,_⟩:=h;rfl
 ·obtain⟨a,t,xs,e,rfl,ha,hl,ht,o,hf,q⟩:=h;refine⟨_,(ai (a6 (i:=2) DF.nd rfl (Lk rfl) (aK aN (pv 1) af (λ_ _=>rfl)))
 (ai (a7 (az bt (aK aN (pv 1) af (λ_ _=>rfl)) ao (aL _))
 (aj (aG (a4 tS (mq tQ (pv 0) tP (nA (pv 2))) (mq tQ (pv 0) (nA (a4 cX (pv 2) af)) tP))))
 aH)
 (aj (aG (a4 tS (a4 tS (mq tQ (pv 0) tP (nA (pv 2))) (bI (aa (aK aN (pv 1) af (λ_ _=>rfl)) ah))) (mq tQ (pv 0) (nA (a4 cX (pv 2) (dO Dn (by rfl) T.Qa O6 (aa (iX bt (aK aN (pv 1) af (λ_ _=>rfl)) ao (aL _)) ah)))) tP)))))),?_⟩
  refine hide λGg hGg=>?_
  have sz:kf=16777216:=by decide
  obtain⟨f0,f1⟩:=BY.mp hf;obtain⟨n,hn⟩:∃n:Nat,e.at_=(n:Int):=⟨e.at_.toNat,by omega⟩
  refine hGg ?_;refine ixv rfl ht (uP e) ?_;rw[hn];rw[hn]at f1;have en:e.at_.toNat=n:=by rw[hn];rfl
  refine ixv rfl ht (n6 e) ⟨rfl,_,rfl,eR (λz=>?_) (λz=>?_)⟩
  ·have hk:e.k=1:=(uR o).mp (of_decide_eq_true z);refine⟨_,rfl,_,rfl,_,rfl,a,_,rfl,ha,λp1 hp1=>?_⟩
   have s1:=aB (o:=.lst (fB (xs.map V.str) none (some (n:Int)))) hp1;refine⟨_,rfl,_,rfl,_,_,rfl,rfl,_,rfl,a,_,rfl,s1.seq ha,λp2 hp2=>?_⟩
   have n12:p1≠p2:=aJ ae hp2;have s2:=s1.new (o:=.lst (fB (xs.map V.str) (some ((n:Int)+1)) none)) hp2;have e1:fB (xs.map V.str) none (some (n:Int))=(xs.take n).map V.str:=by rw[QP,List.map_take]
   have e2:fB (xs.map V.str) (some ((n:Int)+1)) none=(xs.drop (n+1)).map V.str:=by rw[show (n:Int)+1=((n+1:Nat):Int) by omega,A0,List.map_drop]
   refine⟨p1,p2,_,_,rfl,rfl,(aw n12).trans ae,ae,?_,λp3 hp3=>?_⟩
   ·have h1:=iI (xs.map V.str) none (some (n:Int));have h2:=iI (xs.map V.str) (some ((n:Int)+1)) none;rw[bo]at h1 h2;show (fB (xs.map V.str) none (some (n:Int))).length+(fB (xs.map V.str) (some ((n:Int)+1)) none).length<=_;omega
   ·refine q p3 _ (s2.new hp3) (same_none s2 hp3) ?_;have el:(bH xs e).map V.str=fB (xs.map V.str) none (some (n:Int))++fB (xs.map V.str) (some ((n:Int)+1)) none:=by
     rw[e1,e2,<-ku];unfold bH;rw[hk,en];show (xs.eraseIdx n).map V.str=_;rw[List.eraseIdx_eq_take_drop_succ]
    rw[el];exact ae
  ·have hk:¬e.k=1:=λy=>z (decide_eq_true ((uR o).mpr y))
   refine⟨_,rfl,_,rfl,_,rfl,a,_,rfl,ha,λp1 hp1=>?_⟩
   have s1:=aB (o:=.lst (fB (xs.map V.str) none (some (n:Int)))) hp1;refine ixv rfl (bM s1 ht) (uQ hk) ⟨(sl 1),λp2 hp2=>?_⟩
   have n12:p1≠p2:=aJ ae hp2;have s2:=s1.new (o:=.lst [V.str e.th]) hp2;have h1:=iI (xs.map V.str) none (some (n:Int));rw[bo]at h1;refine⟨p1,p2,_,_,rfl,rfl,(aw n12).trans ae,ae,by show (fB (xs.map V.str) none (some (n:Int))).length+1<=_;omega,λp3 hp3=>?_⟩
   refine hide λGg hGg=>?_
   have s3:=s2.new (o:=.lst (fB (xs.map V.str) none (some (n:Int))++[V.str e.th])) hp3;obtain⟨b,hb,hb2⟩:∃b:Nat,(if decide (V.str (kn e.k)=V.str (ar "turn"))=true then (1:Int) else 0)=(b:Int)/\b=if e.k=2 then 1 else 0:=by
    by_cases h2:e.k=2
    ·exact⟨1,by rw[decide_eq_true ((Ms o).mpr h2)];rfl,by rw[if_pos h2]⟩
    ·exact⟨0,by rw[decide_eq_false (λy=>h2 ((Ms o).mp y))];rfl,by rw[if_neg h2]⟩
   refine hGg ?_;refine⟨_,rfl,_,rfl,ixv rfl (bM s3 ht) (n6 e) ⟨rfl,.inr ⟨_,rfl,_,_,rfl,rfl,_,rfl,?_⟩⟩⟩;dsimp only;rw[hb,show (n:Int)+(b:Int)=((n+b:Nat):Int) by omega]
   refine⟨a,_,rfl,s3.seq ha,λp4 hp4=>?_⟩
   have n34:p3≠p4:=aJ ae hp4;have s4:=s3.new (o:=.lst (fB (xs.map V.str) (some ((n+b:Nat):Int)) none)) hp4;have h2:=iI (xs.map V.str) (some ((n+b:Nat):Int)) none;rw[bo]at h2;refine⟨p3,p4,_,_,rfl,rfl,(aw n34).trans ae,ae,?_,λp5 hp5=>?_⟩
   ·show (fB (xs.map V.str) none (some (n:Int))++[V.str e.th]).length+(fB (xs.map V.str) (some ((n+b:Nat):Int)) none).length<=_;rw[gn,tu];omega
   ·refine q p5 _ (s4.new hp5) (same_none s4 hp5) ?_;have el:(bH xs e).map V.str=fB (xs.map V.str) none (some (n:Int))++[V.str e.th]++fB (xs.map V.str) (some ((n+b:Nat):Int)) none:=by
     rw[QP,A0,<-List.map_take,<-List.map_drop];unfold bH;rcases o.k3 with h | h | h
     ·rw[h]at hb2 ⊢;rw[hb2,en];simp
     ·exact absurd h hk
     ·rw[h,if_neg (by decide)]at f1
      rw[h]at hb2 ⊢;rw[hb2,en];show (xs.set n e.th).map V.str=_;rw[List.set_eq_take_append_cons_drop,if_pos (by omega)]
      simp
    rw[el];exact ae
theorem pY (T:Txt w.params K mg A){i:Nat}:aO P w K mg base CX0 1 A.vS A.i4 ["_law_m","_law_number"] (qQ i):=by
 refine T.i5.ok PF (λvs H Q E h=>?_) (λcdv A' outer s H vs Q E hr h=>?_)
 ·obtain⟨m,n,c,st,rfl,_⟩:=h;rfl
 ·obtain⟨m,n,c,st,rfl,hm,hn,q⟩:=h;obtain⟨aP,aA,aD,aM,ds,ws,es,X⟩:=hm.ex;have hu1:=hr.u1;refine⟨_,(aj (aG (aK bw (aK bw (bc hu1 (pv 0) ao (λ_ _=>rfl)) (a4 nX (pv 1) af) (λ_ _=>rfl)) af (λ_ _=>rfl)))),?_⟩
  refine hide λGg hGg=>?_
  obtain⟨v,ev,p,t1,t2,k,ts,rfl,z1,z2,z3,z4,z5⟩:=X.ent.get (nQ hn);have h1:=hn.1;have ea:atI es ((n:Int) - 1)=some (.ref p):=by
   rw[show (n:Int) - 1=((n - 1:Nat):Int) by omega]
   exact dD ev
  refine hGg ?_;refine dgv rfl X.gm ⟨_,rfl,_,_,rfl,rfl,aM,_,_,_,rfl,rfl,SqL.of X.lX.2,ea,p,_,_,_,rfl,rfl,SqL.of z1.2,rfl,?_⟩;exact q t1 z2
theorem Hd (T:Txt w.params K mg A){i:Nat}:aO P w K mg base CX0 2 A.Gy A.rZ ["_law_m"] (FL i):=by
 have Cy:aO P w K mg base CX0 1 A.Bt A.pH ["_law_kind"] Cu:=Eg T;have gi:aO P w K mg base CX0 1 A.vS A.i4 ["_law_m","_law_number"] (qQ i):=pY T;refine T.wg.ok Bp (λvs H Q E h=>?_) (λcdv A' outer s H vs Q E hr h=>?_)
 ·obtain⟨m,c,st,rfl,_⟩:=h;rfl
 ·obtain⟨m,c,st,rfl,hm,hp,q⟩:=h;obtain⟨aP,aA,aD,aM,ds,ws,es,X⟩:=hm.ex;have hu1:=hr.u1;have jo:=hr.units;have yk:=hr;have d8:=hr;refine⟨_,(ai (a6 (i:=1) Bp.nd rfl (Lk rfl) (mj iA af))
 (ai (a7 (az (qr jo) (bc hu1 (pv 0) ao (λ_ _=>rfl)) (bI ah) (aL _))
 (aj (a6 (i:=1) Bp.nd rfl (Lk rfl) (aW Cy yk rfl T.BG T.we.kp T.BF .nil aZ (aa (aK aN (aW gi d8 rfl T.kF T.i5.kp T.kD .nil aZ (aa (pv 0) (aa (aK bw (bc hu1 (pv 0) ao (λ_ _=>rfl)) (mj iA af) (λ_ _=>rfl)) ah))) af (λ_ _=>rfl)) ah))))
 aH)
 (ai (a7 (mi (bc hu1 (pv 0) ao (λ_ _=>rfl)))
 (aj (aG (bN (tN rfl) (by rfl) T.GO EE (aa (pv 1) (aa af ah)))))
 aH)
 (aj (aG (pv 1)))))),?_⟩
  refine⟨_,rfl,?_⟩;dsimp only[f9];refine gh (λσ' H'=>σ'=[some (.ref m),some (.int (rC (st.aq.map st.mo)))]/\bu H H') ?r (λN nN=>?f)
  case f =>
   refine dgv rfl X.gp ⟨(sl 0),λp hp0=>?_⟩
   have s1:=aB (o:=.lst []) hp0;refine⟨eh st.aq,.list [],g8 (SqL.of (s1 _ _ X.aq.2)),jU (SqL.of ae),kJ _,oi,_,rfl,?_⟩;rw[kH];rcases aky st.aq with e | ⟨pre,n,e⟩
   ·rw[e];exact bS (nN _ _ ⟨by rw[e];rfl,s1⟩)
   ·rw[akz]at e;have X1:=X.same s1;have hn:=hp n (by rw[e];simp)
    have h0:atI (st.aq.map nV) (-1)=some (nV n):=by rw[e,ku];exact gq _ _
    refine vE (by rw[e];simp) ?_
    refine⟨_,rfl,_,rfl,m,_,rfl,X1.gp,_,rfl,aP,_,_,_,rfl,rfl,SqL.of X1.aq.2,h0,m,n,c,st,rfl,X1.at,hn,λt ht=>?_⟩
    obtain⟨v,hv⟩:=ht.kind;refine⟨t,_,_,_,rfl,rfl,SqT.of hv,dF,(st.mo n).k,(st.mo n).k8,rfl,λH2 s2=>nN _ _ ⟨?_,s1.trans s2⟩⟩
    rw[e,ku,ko,akW,pS];rfl
  case r =>
   rintro σ' H1 ⟨rfl,s1⟩;have X1:=X.same s1;refine dgv rfl X1.gc ⟨_,rfl,?_⟩;have q:=q H1 s1;unfold oa at q;cases hcl:st.closed with
   |true =>
    rw[hcl]at q;exact dJ ⟨_,rfl,_,_,rfl,q⟩
   |false =>
    rw[hcl]at q;exact bS ⟨_,rfl,q⟩
end
end My
set_option maxHeartbeats 1000000
namespace My
open PySem L2
seal PySem.wpAny
def xcC:Xc->Str×Int
 | .uV b=>(ar "bar",b)
 | .mS=>(ar "no matter",0)
 | .noChange=>(ar "no change",0)
 | .noFit=>(ar "no fit",0)
 | .pQ n=>(ar "not later",n)
 | .nothing=>(ar "nothing",0)
 | .tooMany=>(ar "too many",0)
 | .uq=>(ar "no aside",0)
 | .Fu n=>(ar "not yet",n)
 | .Cd=>(ar "no number",0)
def MT (i:Nat):Sp:=λvs H Q _=>∃(m t:Addr) (c:Col) (st:Ch) (N:Nat) (d:R.eT),vs=[.ref m,.ref t]/\jq i c H m st/\Inv N st/\N<=800/\C8 d/\pU i c H d t /\
 (kZ st (dH d)=none->∀H',bu H H'->Q .non H')/\∀x,kZ st (dH d)=some x->∀u H',bu H H'->H u=none->H' u=some (.tup [.str (xcC x).1,.int (xcC x).2])->Q (.ref u) H'
theorem KJ {m:Mn}{r:List Mn}(h:PMs (m::r)):ux (m::r)=decide (m.k=0):=by
 cases hm:ux (m::r) with
 |true =>
  obtain⟨tx,r',e⟩:=h.Kw hm;cases e;rfl
 |false =>
  unfold ux at hm;rw[List.any_cons,Bool.or_eq_false_iff]at hm;exact hm.1.symm
theorem QT {ms:List Mn}(h:PMs ms)(hm:fq ms=true):ux ms=true:=by
 unfold fq at hm;split at hm
 ·rename_i e he;obtain⟨r,e1⟩:=iV he;subst e1;obtain⟨tx,e2,_⟩:=h.pop.2;subst e2;rfl
 ·cases hm
section
variable{P:me}{w:World}{K:ba}{mg:Str->Option Value}{base:Heap}{A:Adr}
theorem KL (T:Txt w.params K mg A){i:Nat}:aO P w K mg base CX0 3 A.Ax A.qv ["_law_m","_law_motion"] (MT i):=by
 have Cy:aO P w K mg base CX0 1 A.Bt A.pH ["_law_kind"] Cu:=Eg T;have gi:aO P w K mg base CX0 1 A.vS A.i4 ["_law_m","_law_number"] (qQ i):=pY T;have AG:aO P w K mg base CX0 2 A.Gy A.rZ ["_law_m"] (FL i):=Hd T;have He:aO P w K mg base CX0 1 A.E3 A.t7 ["_law_things","_law_edit_here"] (Fl K):=NH T;have pZ:aO P w K mg base CX0 1 A.t9 A.jF ["_law_clause_here"] R.fY:=u5 T;refine T.xM.ok uL (λvs H Q E h=>?_) (λcdv A' outer s H vs Q E hr h=>?_)
 ·obtain⟨m,t,c,st,N,d,rfl,_⟩:=h;rfl
 ·obtain⟨m,t,c,st,N,d,rfl,hm,I,hN,hd,hdc,q,qx⟩:=h;obtain⟨aP,aA,aD,aM,ds,ws,es,X⟩:=hm.ex;have hu1:=hr.u1;have jo:=hr.units;have yk:Room 1 _:=hr.mono (by decide)
  have d8:Room 1 _:=hr.mono (by decide)
  have wQ:Room 2 _:=hr;have Eh:Room 1 _:=hr.mono (by decide)
  have mV:Room 1 _:=hr.mono (by decide)
  refine⟨_,(ai (a6 (i:=2) uL.nd rfl (Lk rfl) (aK aN (pv 1) af (λ_ _=>rfl)))
 (ai (a7 (az vx (aW Cy yk rfl T.BG T.we.kp T.BF .nil aZ (aa (pv 2) ah)) (aW AG wQ rfl T.AD T.wg.kp T.AB .nil aZ (aa (pv 0) ah)) (aL _))
 (aj (aG (bj (aa ao (aa (aW AG wQ rfl T.AD T.wg.kp T.AB .nil aZ (aa (pv 0) ah)) ah)))))
 aH)
 (ai (a7 (az tR (pv 2) (bj (aa ao (aa ao (aa ao ah)))) rfl)
 (aj (aG AK))
 aH)
 (ai (a7 (PW.pt (pw_or (az (xu jo) (bc hu1 (pv 0) ao (λ_ _=>rfl)) (bI ah) (aL _)) (pw_or1 (az AR (aK aN (aW gi d8 rfl T.kF T.i5.kp T.kD .nil aZ (aa (pv 0) (aa (aK bw (bc hu1 (pv 0) ao (λ_ _=>rfl)) af (λ_ _=>rfl)) ah))) af (λ_ _=>rfl)) ao (aL _)))))
 (aj (aG (bj (aa ao (aa af ah)))))
 aH)
 (ai (a6 (i:=3) uL.nd rfl (Lk rfl) (aW gi d8 rfl T.kF T.i5.kp T.kD .nil aZ (aa (pv 0) (aa (aK bw (bc hu1 (pv 0) ao (λ_ _=>rfl)) (mj iA af) (λ_ _=>rfl)) ah))))
 (ai (a7 (PW.pt (pw_and (az bt (pv 2) ao (aL _)) (pw_and1 (PW.pt (pw_or (az AR (aK aN (pv 3) af (λ_ _=>rfl)) ao (aL _)) (pw_or1 (az bt (aK aN (aK aN (pv 3) af (λ_ _=>rfl)) af (λ_ _=>rfl)) ao (aL _))))))))
 (aj (aG (bj (aa ao (aa af ah)))))
 aH)
 (ai (a7 (PW.pt (pw_and (az bt (pv 2) ao (aL _)) (pw_and1 (qo (mi (aW He Eh rfl T.BC T.wb.kp T.BB .nil aZ (aa (aW pZ mV rfl T.uk T.pM.kp T.uj .nil aZ (aa (aK aN (aK aN (pv 3) af (λ_ _=>rfl)) af (λ_ _=>rfl)) ah)) (aa (aK aN (pv 1) af (λ_ _=>rfl)) ah))))))))
 (aj (aG (bj (aa ao (aa af ah)))))
 aH)
 (ai (a7 (PW.pt (pw_and (az bt (pv 2) ao (aL _)) (pw_and1 (qo (mi (aW He Eh rfl T.BC T.wb.kp T.BB .nil aZ (aa (aK aN (aW gi d8 rfl T.kF T.i5.kp T.kD .nil aZ (aa (pv 0) (aa (aK bw (bc hu1 (pv 0) ao (λ_ _=>rfl)) af (λ_ _=>rfl)) ah))) af (λ_ _=>rfl)) (aa (aK aN (pv 1) af (λ_ _=>rfl)) ah))))))))
 (aj (aG (bj (aa ao (aa af ah)))))
 aH)
 (ai (a7 (PW.pt (pw_and (az bt (pv 2) ao (aL _)) (pw_and1 (az vx (aK aN (pv 1) af (λ_ _=>rfl)) (bc hu1 (pv 0) ao (λ_ _=>rfl)) (aL _)))))
 (aj (aG (bj (aa ao (aa (bc hu1 (pv 0) ao (λ_ _=>rfl)) ah)))))
 aH)
 (aj (aG AK))))))))))),?_⟩
  refine hide λGg hGg=>?_
  obtain⟨v,ht,hv0,hv1⟩:=sT hd hdc;have hmk:=KG (N:=N) hd;refine hGg ?_;generalize dH d=mn at ht hv0 hv1 hmk q qx;refine ixv rfl (SqT.of ht.2) dF ?_;refine⟨_,rfl,mn.k,mn.k8,rfl,λH1 s1=>?_⟩
  refine⟨_,rfl,m,c,st,rfl,(X.same s1).at,I.bT,λH2 s2=>?_⟩
  have s12:=s1.trans s2;refine⟨_,_,rfl,rfl,_,rfl,eR (λz=>?_) (λz=>?_)⟩
  ·have z':(mn.k:Int)<=oa st.closed (st.aq.map st.mo):=of_decide_eq_true z;refine⟨_,rfl,m,c,st,rfl,(X.same s12).at,I.bT,λH3 s3=>⟨(sl 2),λu hu=>?_⟩⟩
   refine qx (.uV (oa st.closed (st.aq.map st.mo))) (by unfold kZ uW;rw[if_pos z']) u _ ((s12.trans s3).new hu) (same_none (s12.trans s3) hu) ae
  have z':¬(mn.k:Int)<=oa st.closed (st.aq.map st.mo):=λy=>z (decide_eq_true y)
  refine⟨_,rfl,(sl 3),λt3 ht3=>?_⟩
  have s3:=s12.new (o:=.tup [V.str (ar "matter"),V.str (ar "rest"),V.str (ar "point")]) ht3;refine⟨t3,_,rfl,.inr (SqT.of ae),rfl,rfl,_,rfl,?_⟩;have ein:(if false=true then !inV (V.str (nm mn.k)) [V.str (ar "matter"),V.str (ar "rest"),V.str (ar "point")] else inV (V.str (nm mn.k)) [V.str (ar "matter"),V.str (ar "rest"),V.str (ar "point")])=decide (mn.k=0\/mn.k=6\/mn.k=7):=by
   have:∀k,k < 8->inV (V.str (nm k)) [V.str (ar "matter"),V.str (ar "rest"),V.str (ar "point")]=decide (k=0\/k=6\/k=7):=by decide +kernel
   exact this _ mn.k8
  rw[ein];generalize upd H2 t3 (.tup [V.str (ar "matter"),V.str (ar "rest"),V.str (ar "point")])=H3 at s3 ⊢;clear ht3 ein s12 s2 s1 z
  by_cases NJ:mn.k=0\/mn.k=6\/mn.k=7
  ·refine vE (decide_eq_true NJ) (q ?_ H3 s3);have hn:sL (st.aq.map st.mo) mn.k=true:=by
    unfold sL;rw[if_neg (by omega),if_neg (by omega)]
   unfold kZ uW;rw[if_neg z',if_pos hn];cases mn <;> first | rfl | (simp[Mn.k]at NJ)
  refine vF (decide_eq_false NJ) ?_;have X3:=X.same s3;refine dgv rfl X3.gp ⟨(sl 0),λp4 hp4=>?_⟩
  have s4:=s3.new (o:=.lst []) hp4;have X4:=X.same s4;refine⟨eh st.aq,.list [],g8 (SqL.of X4.aq.2),jU (SqL.of ae),kJ _,oi,_,rfl,?_⟩;rw[kH];generalize upd H3 p4 (.lst [])=H4 at s4 X4 ⊢;clear hp4 X3 s3;have ht4:SqT K H4 t (rowOf mn.k v):=SqT.of (s4 _ _ ht.2);have nomat:ux (st.aq.map st.mo)=false->kZ st mn=some .mS:=λhh=>by
   have hn:sL (st.aq.map st.mo) mn.k=false:=by
    unfold sL
    by_cases h2:mn.k=2
    ·rw[if_pos h2];cases hmm:fq (st.aq.map st.mo) with
     |false=>rfl
     |true=>rw[QT I.pil hmm]at hh;cases hh
    ·have:=mn.k8;rw[if_neg h2,if_pos (by omega),hh]
   unfold kZ uW;rw[if_neg z',if_neg (by rw[hn];decide),if_neg (by rw[hh];decide)]
  have say:∀(x:Xc) (z:Str),kZ st mn=some x->(xcC x).1=z->(xcC x).2=0->∀(Hn:Hp),bu H Hn->∀u,Hn u=none->Q (.ref u) (upd Hn u (.tup [.str z,.int 0])):=λx z hx hz h0 Hn sn u hu=>by
   subst hz;have:=qx x hx u _ (sn.new hu) (same_none sn hu) (ae (o:=.tup [.str (xcC x).1,.int (xcC x).2]));rw[h0]at this;exact this
  cases Cz:st.aq with
  |nil =>
   refine dJ (dJ ⟨(sl 2),λu hu=>?_⟩)
   exact say .mS _ (nomat (by rw[Cz];rfl)) rfl rfl H4 s4 u hu
  |cons b r =>
   refine bS ?_;have hb:dI st b:=I.bT b (by rw[Cz];exact fu)
   have h0:atI (st.aq.map nV) 0=some (nV b):=by rw[Cz];exact dD (j:=0) rfl
   refine⟨_,rfl,dgv rfl X4.gp ⟨aP,_,_,_,rfl,rfl,SqL.of X4.aq.2,h0,m,b,c,st,rfl,X4.at,hb,λtb htb=>?_⟩⟩
   obtain⟨vb,hvb⟩:=htb.kind;have hbm:ux (st.aq.map st.mo)=decide ((st.mo b).k=0):=by
    have hp:=I.pil;rw[Cz,ko]at hp ⊢;exact KJ hp
   refine⟨tb,_,_,_,rfl,rfl,SqT.of hvb,dF,rfl,_,rfl,?_⟩;rw[Cg _ (st.mo b).k8]
   by_cases hk0:(st.mo b).k=0
   case neg =>
    rw[decide_eq_false hk0]at hbm ⊢;refine dJ ⟨(sl 2),λu hu=>?_⟩
    exact say .mS _ (nomat hbm) rfl rfl H4 s4 u hu
   rw[decide_eq_true hk0]at hbm ⊢;refine bS ?_;refine hide λGg hGg=>?_
   obtain⟨tx,etx⟩:∃tx,st.mo b=.mat tx:=by
    cases hmo:st.mo b with
    |mat tx=>exact⟨tx,rfl⟩
    |_=>rw[hmo]at hk0;simp[Mn.k]at hk0
   obtain⟨pre,n,QU⟩:∃pre n,st.aq=pre++[n]:=by
    rcases aky st.aq with e | ⟨pre,n,e⟩
    ·rw[e]at Cz;cases Cz
    ·exact⟨pre,n,by rw[e,akz]⟩
   have hn:dI st n:=I.bT n (by rw[QU];simp)
   have QV:atI (st.aq.map nV) (-1)=some (nV n):=by rw[QU,ku];exact gq _ _
   have etop:(st.aq.map st.mo).getLast?=some (st.mo n):=by rw[QU,ku];exact ak1
   have ait:∃r',st.aq.map st.mo=.mat tx::r':=⟨r.map st.mo,by rw[Cz,ko,etx]⟩
   refine hGg ?_;refine⟨_,rfl,_,rfl,m,_,rfl,X4.gp,_,rfl,aP,_,_,_,rfl,rfl,SqL.of X4.aq.2,QV,m,n,c,st,rfl,X4.at,hn,λtt htt=>?_⟩
   refine hide λGg hGg=>?_
   obtain⟨_,vt,hvt,hvv⟩:=htt;have okn:sL (st.aq.map st.mo) mn.k=true->kZ st mn=lA st mn:=λhh=>by
    unfold kZ uW;rw[if_neg z',if_pos hh]
   refine hGg ?_;cases mn with
   |mat _=>exact absurd (.inl rfl) NJ
   |rst=>exact absurd (.inr (.inl rfl)) NJ
   |pnt _=>exact absurd (.inr (.inr rfl)) NJ
   |cls =>
    have hx:kZ st .cls=none:=okn (by show ux _=true;exact hbm)
    exact⟨_,rfl,rfl,tsf (b8 4 (by decide)) (bS ⟨_,rfl,rfl,tsf (b8 4 (by decide)) (bS ⟨_,rfl,rfl,tsf (bZ 4 (by decide)) (bS ⟨_,rfl,rfl,tsf (gH 4 (by decide)) (bS (q hx H4 s4))⟩)⟩)⟩)⟩
   |lay =>
    have hx:kZ st .lay=none:=okn (by show ux _=true;exact hbm)
    exact⟨_,rfl,rfl,tsf (b8 5 (by decide)) (bS ⟨_,rfl,rfl,tsf (b8 5 (by decide)) (bS ⟨_,rfl,rfl,tsf (bZ 5 (by decide)) (bS ⟨_,rfl,rfl,tsf (gH 5 (by decide)) (bS (q hx H4 s4))⟩)⟩)⟩)⟩
   |off u =>
    have hx:kZ st (.off u)=lA st (.off u):=okn (by show ux _=true;exact hbm)
    have hv':v=.int u:=hv1 (by simp[Mn.k])
    subst hv';refine⟨_,rfl,rfl,tsf (b8 3 (by decide)) (bS ⟨_,rfl,rfl,tsf (b8 3 (by decide)) (bS ⟨_,rfl,rfl,tsf (bZ 3 (by decide)) (bS ⟨_,rfl,rfl,tst (gH 3 (by decide)) ?_⟩)⟩)⟩)⟩
    refine ixv rfl ht4 rfl (dgv rfl X4.gs ⟨_,_,rfl,rfl,_,rfl,eR (λy=>?_) (λy=>?_)⟩)
    ·have y':u<=st.aI:=of_decide_eq_true y;refine dgv rfl X4.gs ⟨(sl 2),λu2 hu=>?_⟩
     exact qx (.pQ st.aI) (by rw[hx];unfold lA;dsimp only;rw[if_pos y']) u2 _ (s4.new hu) (same_none s4 hu) ae
    ·have y':¬u<=st.aI:=λz=>y (decide_eq_true z)
     exact q (by rw[hx];unfold lA;dsimp only;rw[if_neg y']) H4 s4
   |chg e =>
    refine hide λGg hGg=>?_
    have hx:kZ st (.chg e)=lA st (.chg e):=okn (by show ux _=true;exact hbm)
    obtain⟨te,rfl,hte⟩:=hv1 (by simp[Mn.k])
    obtain⟨r',er'⟩:=ait;refine hGg ?_;refine⟨_,rfl,rfl,tsf (b8 1 (by decide)) (bS ⟨_,rfl,rfl,tsf (b8 1 (by decide)) (bS ⟨_,rfl,rfl,tst (bZ 1 (by decide)) ?_⟩)⟩)⟩
    refine⟨_,rfl,dgv rfl X4.gp ⟨aP,_,_,_,rfl,rfl,SqL.of X4.aq.2,h0,m,b,c,st,rfl,X4.at,hb,λtb2 abT=>?_⟩⟩
    refine hide λGg hGg=>?_
    rw[etx]at abT;obtain⟨_,v2,hv2,L,rfl,hL⟩:=abT;refine hGg ?_;refine⟨tb2,_,_,_,rfl,rfl,SqT.of hv2,rfl,ixv rfl ht4 rfl ⟨L,te,_,e,rfl,SqL.of hL.2,bM s4 hte.sq,hmk.ed1 hN,_,rfl,?_⟩⟩;rw[bo];cases hf:gD tx.length e with
    |true=>exact bS ⟨_,rfl,rfl,tsf (gH 1 (by decide)) (bS (q (by rw[hx];unfold lA;dsimp only;rw[er'];dsimp only;rw[if_pos hf]) H4 s4))⟩
    |false =>
     refine dJ ⟨(sl 2),λu hu=>?_⟩
     exact say .noFit _ (by rw[hx];unfold lA;dsimp only;rw[er'];dsimp only;rw[if_neg (by rw[hf];decide)]) rfl rfl H4 s4 u hu
   |mnd f =>
    refine hide λGg hGg=>?_
    obtain⟨te,rfl,hte⟩:=hv1 (by simp[Mn.k])
    refine hGg ?_;refine⟨_,rfl,rfl,tst (b8 2 (by decide)) (ixv rfl (SqT.of hvt) dF ⟨rfl,_,rfl,?_⟩)⟩
    rw[bZ _ (st.mo n).k8];have Hf:fq (st.aq.map st.mo)=false->kZ st (.mnd f)=some .noChange:=λhh=>by
     have hn:sL (st.aq.map st.mo) (Mn.mnd f).k=false:=(show fq (st.aq.map st.mo)=false from hh)
     unfold kZ uW;rw[if_neg z',if_neg (by rw[hn];decide),if_pos (by rw[hbm])]
    by_cases h1:(st.mo n).k=1
    case neg =>
     rw[decide_eq_false h1];refine dJ (dJ ⟨(sl 2),λu hu=>?_⟩)
     refine say .noChange _ (Hf ?_) rfl rfl H4 s4 u hu;unfold fq;rw[etop];cases hmo:st.mo n with
     |chg e=>rw[hmo]at h1;exact absurd rfl h1
     |_=>rfl
    rw[decide_eq_true h1];refine hide λGg hGg=>?_
    obtain⟨e,emo⟩:∃e,st.mo n=.chg e:=by
     cases hmo:st.mo n with
     |chg e=>exact⟨e,rfl⟩
     |_=>rw[hmo]at h1;simp[Mn.k]at h1
    rw[emo]at hvt hvv etop;obtain⟨tc,rfl,htc⟩:=hvv;refine hGg ?_;refine bS (ixv rfl (SqT.of hvt) rfl ⟨tc,_,_,_,rfl,rfl,htc.sq,n6 e,rfl,_,rfl,?_⟩);rw[Fw]
    by_cases hk1:e.k=1
    ·rw[decide_eq_true hk1];refine dJ ⟨(sl 2),λu hu=>?_⟩
     refine say .noChange _ (Hf ?_) rfl rfl H4 s4 u hu;unfold fq;rw[etop];dsimp only;rw[decide_eq_true hk1];rfl
    ·rw[decide_eq_false hk1];have hmo:fq (st.aq.map st.mo)=true:=by
      unfold fq;rw[etop];dsimp only;rw[decide_eq_false hk1];rfl
     have hx:kZ st (.mnd f)=lA st (.mnd f):=okn (show fq (st.aq.map st.mo)=true from hmo)
     have hem:EdB (12+N) e:=by
      have:=I.yf hn;rw[emo]at this;exact this
     have heo:rB e:=hem.ok (by omega)
     refine bS ⟨_,rfl,rfl,tst (b8 2 (by decide)) (ixv rfl (SqT.of hvt) rfl ⟨tc,_,_,_,rfl,rfl,htc.sq,uQ hk1,e.th,rfl,?_,λp1 hp1=>?_⟩)⟩
     ·have:=heo.th.len;have lim:kf=16777216:=by decide
      omega
     have s5:=s4.new (o:=.lst ((R.bh e.th).map V.str)) hp1;have s45:=aB (o:=.lst ((R.bh e.th).map V.str)) hp1;refine ixv rfl (bM s45 ht4) rfl ⟨p1,te,_,f,rfl,SqL.of ae,bM s5 hte.sq,hmk.ed2,_,rfl,?_⟩;rw[bo];cases hf:gD (R.bh e.th).length f with
     |true=>exact bS ⟨_,rfl,rfl,tsf (bZ 2 (by decide)) (bS ⟨_,rfl,rfl,tsf (gH 2 (by decide)) (bS (q (by rw[hx];unfold lA;dsimp only;rw[etop];dsimp only;rw[if_pos hf]) _ s5))⟩)⟩
     |false =>
      refine dJ ⟨(sl 2),λu hu=>?_⟩
      exact say .noFit _ (by rw[hx];unfold lA;dsimp only;rw[etop];dsimp only;rw[if_neg (by rw[hf];decide)]) rfl rfl _ s5 u hu
end
end My
set_option maxHeartbeats 1000000
namespace My
open PySem L2
seal PySem.wpAny
theorem bD.QW {α β:Type}{R R':α->β->Prop}:∀ {as:List α} {bs:List β} {j:Nat} {a':α} {b:β},bD R as bs->bs[j]?=some b->(∀k a b',k≠j->as[k]?=some a->R a b'->R' a b')->R' a' b->bD R' (as.set j a') bs
 |_,_,_,_,_,.nil,h,_,_=>by simp at h
 |a::as,b0::bs,0,a',b,.cons h t,hb,hk,hn=>by
  rw[akE]at hb;cases hb;refine .cons hn ?_;have:∀ {as:List α} {bs:List β} (s:Nat),(∀(k:Nat) a b',as[k]?=some a->R a b'->R' a b')->bD R as bs->bD R' as bs:=by
   intro as bs s f z
   induction z with
   |nil=>exact .nil
   |cons h1 t1 ih=>exact .cons (f 0 _ _ akE h1) (ih λk a b' e=>f (k+1) a b' (by rw[akJ];exact e))
  exact this 0 (λk x y e=>hk (k+1) x y (by omega) (by rw[akJ];exact e)) t
 |a::as,b0::bs,j+1,a',b,.cons h t,hb,hk,hn=>by
  rw[akJ]at hb;exact .cons (hk 0 _ _ (by omega) akE h) (t.QW hb (λk x y ne e=>hk (k+1) x y (by omega) (by rw[akJ];exact e)) hn)
theorem p6 (st:Ch):(iG st).length=st.made.length:=by unfold iG;rw[bo,ak9]
theorem Hg {st:Ch}{j:Nat}{x:Ent}(h:(iG st)[j]?=some x):x=hJ st (j+1)/\j < st.made.length:=by
 have hj:j < st.made.length:=by rw[<-p6];exact(List.getElem?_eq_some_iff.mp h).1
 have e:=nQ (st:=st) (n:=j+1) ⟨by omega,by omega⟩
 rw[Nat.add_sub_cancel]at e;rw[e]at h;exact⟨(akx h).symm,hj⟩
theorem Hh {st st':Ch}{n:Nat}(hl:st'.made.length=st.made.length)(hn:dI st n)(h:∀k,dI st k->k≠n->hJ st' k=hJ st k):iG st'=(iG st).set (n - 1) (hJ st' n):=by
 refine List.ext_getElem? λj=>?_
 have h1:=hn.1;have h2:=hn.2
 by_cases hj:j < st.made.length
 ·have e:=nQ (st:=st') (n:=j+1) ⟨by omega,by omega⟩
  rw[Nat.add_sub_cancel]at e;rw[e]
  by_cases z:j=n - 1
  ·subst z;rw[List.getElem?_set_self (by rw[p6];omega),show n - 1+1=n by omega]
  ·rw[List.getElem?_set_ne (λy=>z y.symm)]
   have e2:=nQ (st:=st) (n:=j+1) ⟨by omega,by omega⟩
   rw[Nat.add_sub_cancel]at e2;rw[e2,h (j+1) ⟨by omega,by omega⟩ (by omega)]
 ·rw[List.getElem?_eq_none (by rw[p6];omega),List.getElem?_eq_none (by rw[ald,p6];omega)]
theorem QX {st st':Ch}(hl:st'.made.length=st.made.length+1)(h:∀k,dI st k->hJ st' k=hJ st k):iG st'=iG st++[hJ st' (st.made.length+1)]:=by
 unfold iG;rw[hl,List.range'_concat,ku,Nat.one_mul,Nat.add_comm 1]
 congr 1
 refine ale λk hk=>?_
 rw[alC]at hk;exact h k ⟨hk.1,by omega⟩
theorem CA {n k:Nat}{e:Ed}:∀ {xs:List (Nat×List Ed)},at1 k (rD n e xs)=(at1 k xs).map λx=>if x.1=n then (x.1,x.2++[e]) else x
 |[]=>rfl
 |y::xs=>by
  have ih:=CA (n:=n) (k:=k) (e:=e) (xs:=xs);unfold at1 rD at ih ⊢;rw[ko,akU,akU];have ek:(if y.1=n then (y.1,y.2++[e]) else y).1=y.1:=by split <;> rfl
  rw[ek]
  by_cases z:y.1=k
  ·rw[decide_eq_true z];rfl
  ·rw[decide_eq_false z];exact ih
theorem QY {st:Ch}{n:Nat}{e:Ed}{x:Nat×List Ed}(h:at1 n st.kept=some x):f7 { st with kept:=rD n e st.kept } n=f7 st n++[e]:=by
 unfold f7;show ((at1 n (rD n e st.kept)).map (·.2)).getD []=_
 rw[CA,h];have:=(ji h).1;show (if x.1=n then (x.1,x.2++[e]) else x).2=x.2++[e]
 rw[if_pos this]
theorem Hi {st:Ch}{n k:Nat}{e:Ed}(ne:k≠n):f7 { st with kept:=rD n e st.kept } k=f7 st k:=by
 unfold f7;show ((at1 k (rD n e st.kept)).map (·.2)).getD []=_
 rw[CA];cases h:at1 k st.kept with
 |none=>rfl
 |some x =>
  have:=(ji h).1;show (if x.1=n then (x.1,x.2++[e]) else x).2=x.2
  rw[if_neg (by rw[this];exact ne)]
def Xi (n:Nat):Rl->Bool | .cM m=>decide (m=n) | _=>false
section
variable{i:Nat}{c c':Col}{H H':Hp}{m aP aA aD aM:Addr}{st:Ch}{ds:List Addr}{ws es:List V}
theorem MdX.QZ (X:MdX i c H m st aP aA aD aM ds ws es){n:Nat}(hn:dI st n){mn:Mn}{p t1 t2 k t':Addr}(he:es[n - 1]?=some (.ref p))(hp:LstAt i c H (.cM n) p [.ref t1,.ref t2,.ref k])(ht:MnT c H mn t') :
  Step (Wr i (Xi n)) c c H (upd H p (.lst [.ref t',.ref t2,.ref k]))/\MdX i c (upd H p (.lst [.ref t',.ref t2,.ref k])) m { st with made:=st.made.set (n - 1) mn } aP aA aD aM ds ws es:=by
 have s:Step (Wr i (Xi n)) c c H (upd H p (.lst [.ref t',.ref t2,.ref k])):=Step.upd Wr.nn (Wr.yes hp.1 (decide_eq_true rfl));have kk:=mO rfl s X.co X.ob;have ee:iG { st with made:=st.made.set (n - 1) mn }=(iG st).set (n - 1) (hJ { st with made:=st.made.set (n - 1) mn } n) :=
  Hh (by show (st.made.set (n - 1) mn).length=_;rw[ald]) hn λk hk ne=>by
   unfold hJ;rw[ur hn hk.1 ne rfl];rfl
 refine⟨s,kk.1,kk.2,X.aq.kp rfl s,X.ay.kp rfl s,kU (λ_ _=>rfl) s X.wait,X.dec.kp rfl s,jg s X.mQ,X.lX.kp rfl s,?_⟩
 rw[ee];refine X.ent.QW he (λj x b ne ex z=>?_) ?_
 ·obtain⟨e1,hj⟩:=Hg ex;have hx:x.1≠n:=by rw[e1];show j+1≠n;omega
  obtain⟨q,t1,t2,k,ts,e,z1,z2,z3,z4,z5⟩:=z;exact⟨q,t1,t2,k,ts,e,z1.kp (decide_eq_false hx) s,z2.step s,λtx ht=>(z3 tx ht).step s,z4.kp rfl s,z5.imp λ_ _ y=>y.step s⟩
 ·obtain⟨v,ev,q,t1',t2',k',ts,e,z1,z2,z3,z4,z5⟩:=X.ent.get (nQ hn);rw[he]at ev;cases ev;cases e;have hh:=z1.2;rw[hp.2]at hh;injection hh with hh
  injection hh with hh
  injection hh with h1 hh
  injection hh with h2 hh
  injection hh with h3 hh
  injection h2 with h2
  injection h3 with h3
  subst h2;subst h3;refine⟨p,t',t2,k,ts,rfl,⟨hp.1,ae⟩,?_,λtx ht=>(z3 tx ht).step s,z4.kp rfl s,z5.imp λ_ _ y=>y.step s⟩
  have:(hJ { st with made:=st.made.set (n - 1) mn } n).2.1=mn:=FC hn rfl
  rw[this];exact ht.step s
theorem MdX.Fx (X:MdX i c H m st aP aA aD aM ds ws es){n:Nat}(hn:dI st n){e:Ed}{x:Nat×List Ed}(hx:at1 n st.kept=some x){p t1 t2 k t:Addr}{ts:List Addr}(he:es[n - 1]?=some (.ref p))(hp:LstAt i c H (.cM n) p [.ref t1,.ref t2,.ref k])(hk:LstAt i c H (.gG n) k (ts.map V.ref))(ht:TupAt c H t (gg e)) :
  Step (Wr i (MK n)) c c H (upd H k (.lst (ts.map V.ref++[.ref t])))/\MdX i c (upd H k (.lst (ts.map V.ref++[.ref t]))) m { st with kept:=rD n e st.kept } aP aA aD aM ds ws es:=by
 have s:Step (Wr i (MK n)) c c H (upd H k (.lst (ts.map V.ref++[.ref t]))):=Step.upd Wr.nn (Wr.yes hk.1 (decide_eq_true rfl));have kk:=mO rfl s X.co X.ob;have ee:iG { st with kept:=rD n e st.kept }=(iG st).set (n - 1) (hJ { st with kept:=rD n e st.kept } n) :=
  Hh rfl hn λj hj ne=>by
   unfold hJ;rw[Hi ne];rfl
 refine⟨s,kk.1,kk.2,X.aq.kp rfl s,X.ay.kp rfl s,kU (λ_ _=>rfl) s X.wait,X.dec.kp rfl s,jg s X.mQ,X.lX.kp rfl s,?_⟩
 rw[ee];refine X.ent.QW he (λj x b ne ex z=>?_) ?_
 ·obtain⟨e1,hj⟩:=Hg ex;have hx:x.1≠n:=by rw[e1];show j+1≠n;omega
  obtain⟨q,t1,t2,k,ts,e,z1,z2,z3,z4,z5⟩:=z;exact⟨q,t1,t2,k,ts,e,z1.kp rfl s,z2.step s,λtx ht=>(z3 tx ht).step s,z4.kp (decide_eq_false hx) s,z5.imp λ_ _ y=>y.step s⟩
 ·obtain⟨v,ev,q,t1',t2',k',ts',e,z1,z2,z3,z4,z5⟩:=X.ent.get (nQ hn);rw[he]at ev;cases ev;cases e;have hh:=z1.2;rw[hp.2]at hh;injection hh with hh
  injection hh with hh
  injection hh with h1 hh
  injection hh with h2 hh
  injection hh with h3 hh
  injection h1 with h1
  injection h2 with h2
  injection h3 with h3
  subst h1;subst h2;subst h3;have e3:ts'.map V.ref=ts.map V.ref:=by
   have:=z4.2;rw[hk.2]at this;injection this with this
   injection this with this
   exact this.symm
  refine⟨p,t1,t2,k,ts'++[t],rfl,z1.kp rfl s,z2.step s,λtx ht=>(z3 tx ht).step s,⟨z4.1,by rw[ae,<-e3,ku];rfl⟩,?_⟩
  show bD _ (f7 { st with kept:=rD n e st.kept } n) (ts'++[t])
  rw[QY hx];exact(z5.imp λ_ _ y=>y.step s).snoc (ht.step s)
theorem MdX.lW (X:MdX i c H m st aP aA aD aM ds ws es){n:Nat}{u:Int}{t p:Addr}(ht:H t=none)(hp:H p=none)(ntp:p≠t)(hn:n∉st.ay.map (·.1)) :
  ∃c',Step (Wr i S8) c c' H (upd (upd (upd (upd H t (.tup [.int u,.ref aP])) aA (.dK (putK (a8 ((st.ay.map (·.1)).zip ws)) (kq (n:Int)) (.ref t)))) p (.lst [])) m (.dK (mdF (.int st.aI) (.bl st.closed) (.ref p) (.ref aA) (.ref aD) (.ref aM)))) /\
  MdX i c' (upd (upd (upd (upd H t (.tup [.int u,.ref aP])) aA (.dK (putK (a8 ((st.ay.map (·.1)).zip ws)) (kq (n:Int)) (.ref t)))) p (.lst [])) m (.dK (mdF (.int st.aI) (.bl st.closed) (.ref p) (.ref aA) (.ref aD) (.ref aM)))) m (st.lW n u) p aA aD aM ds (ws++[.ref t]) es:=by
 have nt:∀ {a:Addr} {v:HO},H a=some v->a≠t:=λe=>aJ e ht
 have np:∀ {a:Addr} {v:HO},H a=some v->a≠p:=λe=>aJ e hp
 have oA:m≠aA:=dB X.co X.ay.1 (λz=>nomatch z)
 have oP:m≠aP:=dB X.co X.aq.1 (λz=>nomatch z)
 have AP:aA≠aP:=dB X.ay.1 X.aq.1 (λz=>nomatch z)
 have e:=pT (v:=.ref t) hn (vs:=ws) (by rw[bo];exact X.wait.len)
 have hp2:(upd (upd H t (.tup [.int u,.ref aP])) aA (.dK (putK (a8 ((st.ay.map (·.1)).zip ws)) (kq (n:Int)) (.ref t)))) p=none:=by
  rw[aw (np X.ay.2).symm,aw ntp];exact hp
 have x1:aC (aC c t none) p (some (i,.aq)) m=some (i,.ob):=by rw[av (np X.ob),av (nt X.ob)];exact X.co
 have x2:aC (aC c t none) p (some (i,.aq)) aP=some (i,.aq):=by rw[av (np X.aq.2),av (nt X.aq.2)];exact X.aq.1
 have x3:aC c t none aA=some (i,.ay):=by rw[av (nt X.ay.2)];exact X.ay.1
 refine⟨aC (aC (aC c t none) p (some (i,.aq))) aP (some (i,.eN n)),?_⟩;have s:Step (Wr i S8) c (aC (aC (aC c t none) p (some (i,.aq))) aP (some (i,.eN n))) H (upd (upd (upd (upd H t (.tup [.int u,.ref aP])) aA (.dK (putK (a8 ((st.ay.map (·.1)).zip ws)) (kq (n:Int)) (.ref t)))) p (.lst [])) m (.dK (mdF (.int st.aI) (.bl st.closed) (.ref p) (.ref aA) (.ref aD) (.ref aM)))) :=
  ((((Step.new Wr.nn ht).trans (Step.upd Wr.nn ⟨.ay,x3,rfl⟩)).trans (Step.new Wr.nn hp2)).trans (Step.upd Wr.nn ⟨.ob,x1,rfl⟩)).trans (Step.role Wr.nn ⟨.aq,x2,rfl⟩)
 have k1:aC (aC (aC c t none) p (some (i,.aq))) aP (some (i,.eN n)) m=some (i,.ob):=by rw[av oP];exact x1
 have y1:aC (aC (aC c t none) p (some (i,.aq))) aP (some (i,.eN n)) aA=some (i,.ay):=by rw[av AP,av (np X.ay.2)];exact x3
 have y2:aC (aC (aC c t none) p (some (i,.aq))) aP (some (i,.eN n)) aP=some (i,.eN n):=aV;have y3:aC (aC (aC c t none) p (some (i,.aq))) aP (some (i,.eN n)) p=some (i,.aq):=by rw[av (np X.aq.2).symm,aV]
 have y4:aC (aC (aC c t none) p (some (i,.aq))) aP (some (i,.eN n)) t=none:=by rw[av (nt X.aq.2).symm,av ntp.symm,aV]
 generalize aC (aC (aC c t none) p (some (i,.aq))) aP (some (i,.eN n))=c3 at s k1 y1 y2 y3 y4 ⊢;have z1:(upd (upd (upd (upd H t (.tup [.int u,.ref aP])) aA (.dK (putK (a8 ((st.ay.map (·.1)).zip ws)) (kq (n:Int)) (.ref t)))) p (.lst [])) m (.dK (mdF (.int st.aI) (.bl st.closed) (.ref p) (.ref aA) (.ref aD) (.ref aM)))) aA=some (.dK (a8 (((st.ay++[(n,u,st.aq)]).map (·.1)).zip (ws++[.ref t])))):=by rw[aw oA.symm,aw (np X.ay.2),ae,e,ku];rfl
 have z2:(upd (upd (upd (upd H t (.tup [.int u,.ref aP])) aA (.dK (putK (a8 ((st.ay.map (·.1)).zip ws)) (kq (n:Int)) (.ref t)))) p (.lst [])) m (.dK (mdF (.int st.aI) (.bl st.closed) (.ref p) (.ref aA) (.ref aD) (.ref aM)))) aP=some (.lst (st.aq.map nV)):=by rw[aw oP.symm,aw (np X.aq.2),aw AP.symm,aw (nt X.aq.2)];exact X.aq.2
 have z3:(upd (upd (upd (upd H t (.tup [.int u,.ref aP])) aA (.dK (putK (a8 ((st.ay.map (·.1)).zip ws)) (kq (n:Int)) (.ref t)))) p (.lst [])) m (.dK (mdF (.int st.aI) (.bl st.closed) (.ref p) (.ref aA) (.ref aD) (.ref aM)))) p=some (.lst []):=by rw[aw (np X.ob).symm,ae]
 have z4:(upd (upd (upd (upd H t (.tup [.int u,.ref aP])) aA (.dK (putK (a8 ((st.ay.map (·.1)).zip ws)) (kq (n:Int)) (.ref t)))) p (.lst [])) m (.dK (mdF (.int st.aI) (.bl st.closed) (.ref p) (.ref aA) (.ref aD) (.ref aM)))) t=some (.tup [.int u,.ref aP]):=by rw[aw (nt X.ob).symm,aw ntp.symm,aw (nt X.ay.2).symm,ae]
 have z5:(upd (upd (upd (upd H t (.tup [.int u,.ref aP])) aA (.dK (putK (a8 ((st.ay.map (·.1)).zip ws)) (kq (n:Int)) (.ref t)))) p (.lst [])) m (.dK (mdF (.int st.aI) (.bl st.closed) (.ref p) (.ref aA) (.ref aD) (.ref aM)))) m=some (.dK (mdF (.int st.aI) (.bl st.closed) (.ref p) (.ref aA) (.ref aD) (.ref aM))):=ae
 generalize upd (upd (upd (upd H t (.tup [.int u,.ref aP])) aA (.dK (putK (a8 ((st.ay.map (·.1)).zip ws)) (kq (n:Int)) (.ref t)))) p (.lst [])) m (.dK (mdF (.int st.aI) (.bl st.closed) (.ref p) (.ref aA) (.ref aD) (.ref aM)))=H5 at s z1 z2 z3 z4 z5 ⊢
 exact⟨s,k1,z5,⟨y3,z3⟩,⟨y1,z1⟩,(kU (λ_ _=>rfl) s X.wait).snoc ⟨t,aP,rfl,⟨y4,.inl z4⟩,y2,z2⟩,X.dec.kp rfl s,jg s X.mQ,X.lX.kp rfl s,G8 (λ_ _=>rfl) (λ_ _=>rfl) s X.ent⟩
end
end My
set_option maxHeartbeats 1000000
namespace My
open PySem L2
seal PySem.wpAny
theorem FN {β:Type}{k:Nat}{y:Nat×β}:∀ {xs:List (Nat×β)},at1 k (xs++[y])=(match at1 k xs with | some x=>some x | none=>if y.1=k then some y else none)
 |[]=>by
  unfold at1;rw[alY,akU,List.find?_nil]
  by_cases z:y.1=k
  ·rw[decide_eq_true z,if_pos z]
  ·rw[decide_eq_false z,if_neg z]
 |x::xs=>by
  have ih:=FN (k:=k) (y:=y) (xs:=xs);unfold at1 at ih ⊢;rw[List.cons_append,akU,akU]
  by_cases z:x.1=k
  ·rw[decide_eq_true z]
  ·rw[decide_eq_false z];exact ih
theorem KN {β:Type}{k:Nat}{xs:List (Nat×β)}(h:k∉xs.map (·.1)):at1 k xs=none:=by
 cases e:at1 k xs with
 |none=>rfl
 |some x =>
  obtain⟨h1,h2⟩:=ji e;exact absurd (List.mem_map.mpr ⟨x,h2,h1⟩) h
theorem CB {β:Type}{k:Nat}{y:Nat×β}{xs:List (Nat×β)}(h:y.1≠k):at1 k (xs++[y])=at1 k xs:=by
 rw[FN];cases at1 k xs with
 |some x=>rfl
 |none=>exact if_neg h
theorem yU {β:Type}{k:Nat}{z:β}{xs:List (Nat×β)}(h:k∉xs.map (·.1)):at1 k (xs++[(k,z)])=some (k,z):=by
 rw[FN,KN h];exact if_pos rfl
def abU:Rl->Bool | .made=>true | .aq=>true | _=>false
section
variable{i:Nat}{c c':Col}{H H':Hp}{m aP aA aD aM:Addr}{st:Ch}{ds:List Addr}{ws es:List V}
theorem Tp {mn:Mn}{row:Str}{k:Nat}(hk:dI st k):hJ (st.moved mn row) k=hJ st k:=by
 have h2:=hk.2;have e1:(st.moved mn row).mo k=st.mo k:=Ky rfl hk;have e2:f7 (st.moved mn row) k=f7 st k:=by
  unfold f7;cases mn with
  |mat tx =>
   show ((at1 k (st.kept++[(st.made.length+1,([]:List Ed))])).map (·.2)).getD []=_
   rw[CB (by show st.made.length+1≠k;omega)]
  |_=>rfl
 have e3:Cr (st.moved mn row) k=Cr st k:=by
  unfold Cr;cases mn with
  |mat tx =>
   show (at1 k (st.firsts++[(st.made.length+1,tx)])).map (·.2)=_
   rw[CB (by show st.made.length+1≠k;omega)]
  |_=>rfl
 unfold hJ;rw[e1,e2,e3]
theorem Tq {mn:Mn}{row:Str}(hk:st.made.length+1∉st.kept.map (·.1))(hf:st.made.length+1∉st.firsts.map (·.1)):hJ (st.moved mn row) (st.made.length+1)=(st.made.length+1,mn,[],(match mn with | .mat tx=>some tx | _=>none)):=by
 have e1:(st.moved mn row).mo (st.made.length+1)=mn:=Kz rfl;unfold hJ;rw[e1];cases mn with
 |mat tx =>
  have e2:f7 (st.moved (.mat tx) row) (st.made.length+1)=[]:=by
   unfold f7;show ((at1 (st.made.length+1) (st.kept++[(st.made.length+1,([]:List Ed))])).map (·.2)).getD []=_
   rw[yU hk];rfl
  have e3:Cr (st.moved (.mat tx) row) (st.made.length+1)=some tx:=by
   unfold Cr;show (at1 (st.made.length+1) (st.firsts++[(st.made.length+1,tx)])).map (·.2)=_
   rw[yU hf];rfl
  rw[e2,e3]
 |_ =>
  unfold f7 Cr;show (_,_,((at1 (st.made.length+1) st.kept).map (·.2)).getD [],(at1 (st.made.length+1) st.firsts).map (·.2))=_
  rw[KN hk,KN hf];rfl
theorem MdX.moved (X:MdX i c H m st aP aA aD aM ds ws es){mn:Mn}{row:Str}{t k p:Addr}(hk:st.made.length+1∉st.kept.map (·.1))(hf:st.made.length+1∉st.firsts.map (·.1))(ht:MnT c H mn t)(nk:H k=none)(np:H p=none)(nkp:p≠k) :
  ∃c',Step (Wr i abU) c c' H (upd (upd (upd (upd H k (.lst [])) p (.lst [.ref t,.ref t,.ref k])) aM (.lst (es++[.ref p]))) aP (.lst (st.aq.map nV++[nV (st.made.length+1)]))) /\
  MdX i c' (upd (upd (upd (upd H k (.lst [])) p (.lst [.ref t,.ref t,.ref k])) aM (.lst (es++[.ref p]))) aP (.lst (st.aq.map nV++[nV (st.made.length+1)]))) m (st.moved mn row) aP aA aD aM ds ws (es++[.ref p]):=by
 have ak:∀ {a:Addr} {v:HO},H a=some v->a≠k:=λe=>aJ e nk
 have ap:∀ {a:Addr} {v:HO},H a=some v->a≠p:=λe=>aJ e np
 have MP:aM≠aP:=dB X.lX.1 X.aq.1 (λz=>nomatch z)
 have hp2:(upd H k (.lst [])) p=none:=(aw nkp).trans np;have x1:aC (aC c k (some (i,.gG (st.made.length+1)))) p (some (i,.cM (st.made.length+1))) aM=some (i,.made):=by rw[av (ap X.lX.2),av (ak X.lX.2)];exact X.lX.1
 have x2:aC (aC c k (some (i,.gG (st.made.length+1)))) p (some (i,.cM (st.made.length+1))) aP=some (i,.aq):=by rw[av (ap X.aq.2),av (ak X.aq.2)];exact X.aq.1
 have x3:aC (aC c k (some (i,.gG (st.made.length+1)))) p (some (i,.cM (st.made.length+1))) p=some (i,.cM (st.made.length+1)):=aV;have x4:aC (aC c k (some (i,.gG (st.made.length+1)))) p (some (i,.cM (st.made.length+1))) k=some (i,.gG (st.made.length+1)):=by rw[av nkp.symm,aV]
 refine⟨aC (aC c k (some (i,.gG (st.made.length+1)))) p (some (i,.cM (st.made.length+1))),?_⟩;have s:Step (Wr i abU) c (aC (aC c k (some (i,.gG (st.made.length+1)))) p (some (i,.cM (st.made.length+1)))) H (upd (upd (upd (upd H k (.lst [])) p (.lst [.ref t,.ref t,.ref k])) aM (.lst (es++[.ref p]))) aP (.lst (st.aq.map nV++[nV (st.made.length+1)]))) :=
  (((Step.new Wr.nn nk).trans (Step.new Wr.nn hp2)).trans (Step.upd Wr.nn ⟨.made,x1,rfl⟩)).trans (Step.upd Wr.nn ⟨.aq,x2,rfl⟩)
 generalize aC (aC c k (some (i,.gG (st.made.length+1)))) p (some (i,.cM (st.made.length+1)))=c3 at s x1 x2 x3 x4 ⊢;have z1:(upd (upd (upd (upd H k (.lst [])) p (.lst [.ref t,.ref t,.ref k])) aM (.lst (es++[.ref p]))) aP (.lst (st.aq.map nV++[nV (st.made.length+1)]))) aM=some (.lst (es++[.ref p])):=by rw[aw MP,ae]
 have z2:(upd (upd (upd (upd H k (.lst [])) p (.lst [.ref t,.ref t,.ref k])) aM (.lst (es++[.ref p]))) aP (.lst (st.aq.map nV++[nV (st.made.length+1)]))) aP=some (.lst ((st.aq++[st.made.length+1]).map nV)):=by rw[ae,ku];rfl
 have z3:(upd (upd (upd (upd H k (.lst [])) p (.lst [.ref t,.ref t,.ref k])) aM (.lst (es++[.ref p]))) aP (.lst (st.aq.map nV++[nV (st.made.length+1)]))) p=some (.lst [.ref t,.ref t,.ref k]):=by rw[aw (ap X.aq.2).symm,aw (ap X.lX.2).symm,ae]
 have z4:(upd (upd (upd (upd H k (.lst [])) p (.lst [.ref t,.ref t,.ref k])) aM (.lst (es++[.ref p]))) aP (.lst (st.aq.map nV++[nV (st.made.length+1)]))) k=some (.lst []):=by rw[aw (ak X.aq.2).symm,aw (ak X.lX.2).symm,aw nkp.symm,ae]
 generalize upd (upd (upd (upd H k (.lst [])) p (.lst [.ref t,.ref t,.ref k])) aM (.lst (es++[.ref p]))) aP (.lst (st.aq.map nV++[nV (st.made.length+1)]))=H5 at s z1 z2 z3 z4 ⊢;have kk:=mO rfl s X.co X.ob;refine⟨s,kk.1,kk.2,⟨x2,z2⟩,X.ay.kp rfl s,kU (λ_ _=>rfl) s X.wait,X.dec.kp rfl s,jg s X.mQ,⟨x1,z1⟩,?_⟩
 rw[QX (st:=st) (st':=st.moved mn row) (by show (st.made++[mn]).length=_;rw[gn];rfl) λj hj=>Tp hj,Tq hk hf]
 refine(G8 (λ_ _=>rfl) (λ_ _=>rfl) s X.ent).snoc ⟨p,t,t,k,[],rfl,⟨x3,z3⟩,ht.step s,λtx e=>?_,⟨x4,z4⟩,.nil⟩
 cases mn with
 |mat ty =>
  have e':some ty=some tx:=e;cases e';exact ht.step s
 |_=>cases e
theorem MdX.waitOf (X:MdX i c H m st aP aA aD aM ds ws es){n:Nat}{x:Nat×Int×List Nat}(hx:at1 n st.ay=some x):∃t p,gL (a8 ((st.ay.map (·.1)).zip ws)) (kq (n:Int))=some (.ref t)/\TupAt c H t [.int x.2.1,.ref p]/\LstAt i c H (.eN n) p (x.2.2.map nV):=by
 obtain⟨v,h1,t,p,rfl,h2,h3⟩:=X.wait.val hx;rw[(ji hx).1]at h3;exact⟨t,p,h1,h2,h3⟩
theorem MdX.q9 (X:MdX i c H m st aP aA aD aM ds ws es){n:Nat}{p:Addr}{pl:List Nat}(hl:LstAt i c H (.eN n) p (pl.map nV)) :
  ∃c' ws',Step (Wr i (ML n)) c c' H (upd (upd H aA (.dK (iJ (a8 ((st.ay.map (·.1)).zip ws)) (kq (n:Int))))) m (.dK (mdF (.int st.aI) (.bl st.closed) (.ref p) (.ref aA) (.ref aD) (.ref aM)))) /\
  MdX i c' (upd (upd H aA (.dK (iJ (a8 ((st.ay.map (·.1)).zip ws)) (kq (n:Int))))) m (.dK (mdF (.int st.aI) (.bl st.closed) (.ref p) (.ref aA) (.ref aD) (.ref aM)))) m (st.q9 n pl) p aA aD aM ds ws' es:=by
 have oA:m≠aA:=dB X.co X.ay.1 (λz=>nomatch z)
 have op:m≠p:=dB X.co hl.1 (λz=>nomatch z)
 have Ap:aA≠p:=dB X.ay.1 hl.1 (λz=>nomatch z)
 obtain⟨ws',e1,e2⟩:=X.wait.drop (n:=n);refine⟨aC c p (some (i,.aq)),ws',?_⟩;have s:Step (Wr i (ML n)) c (aC c p (some (i,.aq))) H (upd (upd H aA (.dK (iJ (a8 ((st.ay.map (·.1)).zip ws)) (kq (n:Int))))) m (.dK (mdF (.int st.aI) (.bl st.closed) (.ref p) (.ref aA) (.ref aD) (.ref aM)))) :=
  ((Step.upd Wr.nn ⟨.ay,X.ay.1,rfl⟩).trans (Step.upd Wr.nn ⟨.ob,X.co,rfl⟩)).trans (Step.role Wr.nn ⟨.eN n,hl.1,decide_eq_true rfl⟩)
 refine⟨s,by rw[av op];exact X.co,ae,⟨aV,by rw[aw op.symm,aw Ap.symm];exact hl.2⟩,⟨by rw[av Ap];exact X.ay.1,by rw[aw oA.symm,ae,e1];rfl⟩,kU (λx hx=>decide_eq_false (of_decide_eq_true (List.mem_filter.mp hx).2)) s e2,X.dec.kp rfl s,jg s X.mQ,X.lX.kp rfl s,G8 (λ_ _=>rfl) (λ_ _=>rfl) s X.ent⟩
end
end My
set_option maxHeartbeats 1000000
namespace My
open PySem L2
seal PySem.wpAny
def Q0 (i:Nat):Sp:=λvs H Q _=>∃(m t:Addr) (c:Col) (st:Ch) (mn:Mn) (N:Nat),vs=[.ref m,.ref t]/\jq i c H m st/\MnT c H mn t/\Inv N st/\N<=900/\yQ (st.aq.map st.mo) mn/\MOk N mn /\
 ∀c' H',Step (dG i) c c' H H'->jq i c' H' m (st.carry mn)->Q .non H'
theorem in2:∀k,k < 8->(if false=true then !inV (V.str (nm k)) [V.str (ar "put off"),V.str (ar "lay")] else inV (V.str (nm k)) [V.str (ar "put off"),V.str (ar "lay")])=decide (k=3\/k=5):=by decide +kernel
section
variable{P:me}{w:World}{K:ba}{mg:Str->Option Value}{base:Heap}{A:Adr}
set_option maxHeartbeats 4000000 in
theorem NK (T:Txt w.params K mg A){i:Nat}:aO P w K mg base CX0 2 A.E5 A.ua ["_law_m","_law_motion"] (Q0 i):=by
 have Hk:aO P w K mg base CX0 1 A.E4 A.t8 ["_law_things","_law_edit_here"] (Hc K):=NI T;have pZ:aO P w K mg base CX0 1 A.t9 A.jF ["_law_clause_here"] R.fY:=u5 T;refine T.BH.ok jD (λvs H Q E h=>?_) (λcdv A' outer s H vs Q E hr h=>?_)
 ·obtain⟨m,t,c,st,mn,N,rfl,_⟩:=h;rfl
 ·obtain⟨m,t,c,st,mn,N,rfl,hm,hmt,I,hN,wM,C7,q⟩:=h;obtain⟨aP,aA,aD,aM,ds,ws,es,X⟩:=hm.ex;have hu1:=hr.u1;have jo:=hr.units;have Ei:=hr;have mV:=hr;have sz:kf=16777216:=by decide
  refine⟨_,(ai (a7 (az bt (aK aN (pv 1) af (λ_ _=>rfl)) ao (aL _))
 (ai (a6 (i:=2) jD.nd rfl (Lk rfl) (aK bw (bc hu1 (pv 0) ao (λ_ _=>rfl)) (a4 nX (aK bw (bc hu1 (pv 0) ao (λ_ _=>rfl)) af (λ_ _=>rfl)) af) (λ_ _=>rfl)))
 (ai (xn (bj (aa ao (aa (aW Hk Ei rfl T.BE T.wc.kp T.BD .nil aZ (aa (aK aN (aK bw (pv 2) af (λ_ _=>rfl)) af (λ_ _=>rfl)) (aa (aK aN (pv 1) af (λ_ _=>rfl)) ah))) ah))) (JO (pv 2) af set_list))
 (aj (bL (hG rf akB akC cU (aK bw (pv 2) af (λ_ _=>rfl)) (aa (aK aN (pv 1) af (λ_ _=>rfl)) ah))))))
 aH)
 (ai (a7 (az bt (aK aN (pv 1) af (λ_ _=>rfl)) ao (aL _))
 (ai (a6 (i:=3) jD.nd rfl (Lk rfl) (aK bw (bc hu1 (pv 0) ao (λ_ _=>rfl)) (a4 nX (aK bw (bc hu1 (pv 0) ao (λ_ _=>rfl)) (mj iA af) (λ_ _=>rfl)) af) (λ_ _=>rfl)))
 (ai (xn (aK aN (aK bw (pv 3) af (λ_ _=>rfl)) af (λ_ _=>rfl)) (AM rfl (fA (ei (i:=4) jD.nd rfl (Lk rfl)) (fA (ei (i:=5) jD.nd rfl (Lk rfl)) (fA (ei (i:=6) jD.nd rfl (Lk rfl)) vw)))))
 (aj (xn (bj (aa ao (aa (bj (aa (pv 4) (aa (pv 5) (aa (hG alJ PySem.F.slot_str_join PySem.F.type_str_join EF ao (aa (aW Hk Ei rfl T.BE T.wc.kp T.BD .nil aZ (aa (aW pZ mV rfl T.uk T.pM.kp T.uj .nil aZ (aa (pv 6) ah)) (aa (aK aN (pv 1) af (λ_ _=>rfl)) ah))) ah)) ah)))) ah))) (JO (pv 3) af set_list)))))
 aH)
 (ai (a7 (az bt (aK aN (pv 1) af (λ_ _=>rfl)) ao (aL _))
 (aj (ip hu1 (pv 0) ao g9 rfl))
 aH)
 (ai (a7 (az bt (aK aN (pv 1) af (λ_ _=>rfl)) ao (aL _))
 (aj (ip hu1 (pv 0) ao (a4 cX (bc hu1 (pv 0) ao (λ_ _=>rfl)) af) rfl))
 aH)
 (aj (a7 (az tR (aK aN (pv 1) af (λ_ _=>rfl)) (bj (aa ao (aa ao ah))) rfl)
 (ai (a6 (i:=7) jD.nd rfl (Lk rfl) (aK aN (a4 Sk (pv 1) (bj (aa (bc hu1 (pv 0) ao (λ_ _=>rfl)) ah))) af (λ_ _=>rfl)))
 (ai (ip hu1 (bc hu1 (pv 0) ao (λ_ _=>rfl)) (aK bw (bc hu1 (pv 0) ao (λ_ _=>rfl)) af (λ_ _=>rfl)) (bj (aa (pv 7) (aa (bc hu1 (pv 0) ao (λ_ _=>rfl)) ah))) rfl)
 (aj (ip hu1 (pv 0) ao (bI ah) rfl))))
 aH)))))),?_⟩
  refine hide λGg hGg=>?_
  have Xj:=hmt;obtain⟨ct,v,hvt,hvv⟩:=hmt;have ht:SqT K H t (rowOf mn.k v):=SqT.of hvt;have lM:=I.lm;have kc:∀ {v0 v1 v2 v3 v4 v5:V},(mdF v0 v1 v2 v3 v4 v5).length < kf:=by intros;show 6 < kf;decide
  refine hGg ?_;cases mn with
  |mat tx =>
   refine ixv rfl ht rfl ⟨rfl,tsf (bZ 0 (by decide)) (ixv rfl ht rfl ⟨rfl,tsf (b8 0 (by decide)) (ixv rfl ht rfl ⟨rfl,tsf (jh 0 (by decide)) (ixv rfl ht rfl ⟨rfl,tsf (mT 0 (by decide)) (ixv rfl ht rfl ⟨(sl 2),λu hu=>⟨u,_,rfl,.inr (SqT.of ae),rfl,rfl,tsf (in2 0 (by decide)) ?_⟩⟩)⟩)⟩)⟩)⟩
   exact q c _ (Step.same aU (aB hu)) (X.same (aB hu)).at
  |pnt z =>
   refine ixv rfl ht rfl ⟨rfl,tsf (bZ 7 (by decide)) (ixv rfl ht rfl ⟨rfl,tsf (b8 7 (by decide)) (ixv rfl ht rfl ⟨rfl,tsf (jh 7 (by decide)) (ixv rfl ht rfl ⟨rfl,tsf (mT 7 (by decide)) (ixv rfl ht rfl ⟨(sl 2),λu hu=>⟨u,_,rfl,.inr (SqT.of ae),rfl,rfl,tsf (in2 7 (by decide)) ?_⟩⟩)⟩)⟩)⟩)⟩
   exact q c _ (Step.same aU (aB hu)) (X.same (aB hu)).at
  |cls =>
   refine ixv rfl ht rfl ⟨rfl,tsf (bZ 4 (by decide)) (ixv rfl ht rfl ⟨rfl,tsf (b8 4 (by decide)) (ixv rfl ht rfl ⟨rfl,tst (jh 4 (by decide)) ⟨_,rfl,m,_,rfl,oU.k (k:=wa (ar "closed")) X.ob kc,?_⟩⟩)⟩)⟩
   rw[Cp];refine hide λGg hGg=>?_
   obtain⟨s1,X1⟩:=X.attr st.aI true;have ht1:=SqT.of (K:=K) (Xj.step s1.ie).2.choose_spec.1;have aiu:=Xj.step s1.ie;obtain⟨_,v1,hv1,_⟩:=aiu;have ht1:SqT K (upd H m (.dK (mdF (.int st.aI) (.bl true) (.ref aP) (.ref aA) (.ref aD) (.ref aM)))) t (rowOf 4 v1):=SqT.of hv1;refine hGg ?_;generalize upd H m (.dK (mdF (.int st.aI) (.bl true) (.ref aP) (.ref aA) (.ref aD) (.ref aM)))=H1 at s1 X1 ht1 ⊢;refine ixv rfl ht1 rfl ⟨rfl,tsf (mT 4 (by decide)) (ixv rfl ht1 rfl ⟨(sl 2),λu hu=>⟨u,_,rfl,.inr (SqT.of ae),rfl,rfl,tsf (in2 4 (by decide)) ?_⟩⟩)⟩
   exact q c _ (s1.ie.trans (Step.same aU (aB hu))) (X1.same (aB hu)).at
  |rst =>
   refine ixv rfl ht rfl ⟨rfl,tsf (bZ 6 (by decide)) (ixv rfl ht rfl ⟨rfl,tsf (b8 6 (by decide)) (ixv rfl ht rfl ⟨rfl,tsf (jh 6 (by decide)) (ixv rfl ht rfl ⟨rfl,tst (mT 6 (by decide)) (dgv rfl X.gs ⟨_,_,rfl,rfl,_,rfl,m,_,rfl,oU.k (k:=wa (ar "sitting")) X.ob kc,?_⟩)⟩)⟩)⟩)⟩
   rw[G7];refine hide λGg hGg=>?_
   obtain⟨s1,X1⟩:=X.attr (st.aI+1) st.closed;obtain⟨_,v1,hv1,_⟩:=Xj.step s1.ie;have ht1:SqT K (upd H m (.dK (mdF (.int (st.aI+1)) (.bl st.closed) (.ref aP) (.ref aA) (.ref aD) (.ref aM)))) t (rowOf 6 v1):=SqT.of hv1;refine hGg ?_;dsimp only;generalize upd H m (.dK (mdF (.int (st.aI+1)) (.bl st.closed) (.ref aP) (.ref aA) (.ref aD) (.ref aM)))=H1 at s1 X1 ht1 ⊢;refine ixv rfl ht1 rfl ⟨(sl 2),λu hu=>⟨u,_,rfl,.inr (SqT.of ae),rfl,rfl,tsf (in2 6 (by decide)) ?_⟩⟩
   exact q c _ (s1.ie.trans (Step.same aU (aB hu))) (X1.same (aB hu)).at
  |chg e =>
   refine hide λGg hGg=>?_
   obtain⟨tx,h1,hf⟩:=wM;obtain⟨k,e1,e2⟩:=Tc h1;have hn:k∈st.aq:=by rw[e1];exact fu
   have hno:=I.bT k hn;have htx:=I.yf hno;rw[e2]at htx;have aio:tx.length<=12+N:=htx.1;obtain⟨x,hx,hxl⟩:=I.keptAt hno (by rw[e2];rfl)
   have e3:st.carry (.chg e)=st.QC k tx e:=by unfold Ch.carry;rw[e1];dsimp only;rw[e2]
   rw[e3]at q;have QL:EdB (12+N) e:=C7;obtain⟨te,rfl,hte⟩:=hvv;have h0:atI (st.aq.map nV) 0=some (nV k):=by rw[e1];rfl
   have h11:=hno.1;obtain⟨w,ev,p,t1,t2,kk,ts,rfl,z1,z2,z3,z4,z5⟩:=X.ent.get (nQ hno);have ea:atI es ((k:Int) - 1)=some (.ref p):=by
    rw[show (k:Int) - 1=((k - 1:Nat):Int) by omega]
    exact dD ev
   have z1':LstAt i c H (.cM k) p [.ref t1,.ref t2,.ref kk]:=z1;have z4':LstAt i c H (.gG k) kk (ts.map V.ref):=z4;have z2':MnT c H (.mat tx) t1:=by
    have:(hJ st k).2.1=.mat tx:=e2;rw[this]at z2;exact z2
   obtain⟨_,v1,hv1,L,rfl,hL⟩:=z2';refine hGg ?_;refine ixv rfl ht rfl ⟨rfl,tst (bZ 1 (by decide)) ?_⟩
   refine dgv rfl X.gm (dgv rfl X.gp ⟨aP,_,_,_,rfl,rfl,SqL.of X.aq.2,h0,_,_,rfl,rfl,aM,_,_,_,rfl,rfl,SqL.of X.lX.2,ea,?_⟩);refine ixv rfl (SqL.of z1'.2) rfl ⟨t1,_,_,_,rfl,rfl,SqT.of hv1,rfl,ixv rfl ht rfl ⟨L,te,tx,e,rfl,SqL.of hL.2,by omega,hte.sq,QL.ok (by omega),hf,λpl H1 s1 npl hpl=>⟨(sl 2),λtn htn=>?_⟩⟩⟩
   have s2:=s1.new (o:=.tup [V.str (ar "matter"),.ref pl]) htn;have ntn:H tn=none:=same_none s1 htn;have ntp:pl≠tn:=aJ hpl htn;have X2:=X.cl s2;have st2:Step (dG i) c (cc c H) H (upd H1 tn (.tup [V.str (ar "matter"),.ref pl])):=Step.cl aU s2;have hmn:MnT (cc c H) (upd H1 tn (.tup [V.str (ar "matter"),.ref pl])) (.mat (bH tx e)) tn:=⟨bY ntn,.ref pl,ae,pl,rfl,bY npl,(aw ntp).trans hpl⟩;have w1:=z1'.keep (W:=λ_=>False) id (Step.cl id s2)
   have w4:=z4'.keep (W:=λ_=>False) id (Step.cl id s2)
   have Xk:=hte.step st2;have hv2:=eX st2 ct hvt;generalize cc c H=c2 at X2 st2 hmn w1 w4 Xk hv2;generalize upd H1 tn (.tup [V.str (ar "matter"),.ref pl])=H2 at X2 st2 hmn w1 w4 Xk hv2 ⊢;refine⟨_,rfl,p,_,0,0,rfl,rfl,w1.2,rfl,?_⟩;rw[show [V.ref t1,V.ref t2,V.ref kk].set 0 (V.ref tn)=[V.ref tn,V.ref t2,V.ref kk] from rfl]
   obtain⟨s3,X3⟩:=X2.QZ hno ev w1 hmn;have w1b:LstAt i c2 (upd H2 p (.lst [.ref tn,.ref t2,.ref kk])) (.cM k) p [.ref tn,.ref t2,.ref kk]:=⟨w1.1,ae⟩;have w4b:=w4.kp (p:=Xi k) rfl s3;have abV:=Xk.step s3.ie;have hv3:=eX s3 hv2.1 hv2.2;have hkl:ts.length<=1000:=by
    have h1:=z5.len;have h2:(hJ st k).2.2.1=x.2:=by show f7 st k=x.2;unfold f7;rw[hx];rfl
    rw[h2]at h1;omega
   have ev3:es[k - 1]?=some (.ref p):=ev;generalize upd H2 p (.lst [.ref tn,.ref t2,.ref kk])=H3 at s3 X3 w1b w4b abV hv3 ⊢;refine ixv rfl (SqL.of w1b.2) rfl ⟨.inl ⟨rfl,_,SqL.of w4b.2⟩,ixv rfl (SqT.of hv3.2) rfl ⟨kk,_,_,rfl,rfl,w4b.2,by rw[bo];omega,?_⟩⟩
   obtain⟨s4,X4⟩:=X3.Fx (n:=k) (e:=e) (x:=x) ⟨hno.1,by show k<=(st.made.set _ _).length;rw[ald];exact hno.2⟩ hx ev3 w1b w4b abV
   have hv4:=eX s4 hv3.1 hv3.2;have fin:=((st2.trans s3.ie).trans s4.ie);generalize upd H3 kk (.lst (ts.map V.ref++[.ref te]))=H4 at s4 X4 hv4 fin ⊢;have ht4:SqT K H4 t (rowOf 1 (.ref te)):=SqT.of hv4.2;refine ixv rfl ht4 rfl ⟨rfl,tsf (b8 1 (by decide)) (ixv rfl ht4 rfl ⟨rfl,tsf (jh 1 (by decide)) (ixv rfl ht4 rfl ⟨rfl,tsf (mT 1 (by decide)) (ixv rfl ht4 rfl ⟨(sl 2),λu hu=>⟨u,_,rfl,.inr (SqT.of ae),rfl,rfl,tsf (in2 1 (by decide)) ?_⟩⟩)⟩)⟩)⟩
   exact q c2 _ (fin.trans (Step.same aU (aB hu))) (X4.same (aB hu)).at
  |mnd f =>
   refine hide λGg hGg=>?_
   obtain⟨tx,e,h1,hk,hf⟩:=wM;obtain⟨a,b,e1,e2,e3⟩:=W5 h1;have hb:b∈st.aq:=by rw[e1];exact ky _ fu
   have hno:=I.bT b hb;have he:=I.yf hno;rw[e3]at he;have he':EdB (12+N) e:=he;obtain⟨w1,w2⟩:=he'.words;have e4:st.carry (.mnd f)=st.QE b e (bH (R.bh e.th) f):=by unfold Ch.carry;rw[e1];show (match st.mo b with | .chg e=>_ | _=>st)=_;rw[e3];rfl
   rw[e4]at q;obtain⟨hf1,w0,hw0,hw1⟩:=C7;have l1:=uu (R.bh e.th) f;have l2:=R.D0 (uZ w1 (by rw[hw0];exact hw1):∀w∈bH (R.bh e.th) f,R.n9 w)
   have heo:rB e:=he'.ok (by omega)
   obtain⟨te,rfl,hte⟩:=hvv;have h0:atI (st.aq.map nV) (-1)=some (nV b):=by rw[e1];exact gq [nV a] (nV b)
   have h11:=hno.1;obtain⟨w,ev,p,t1,t2,kk,ts,rfl,z1,z2,z3,z4,z5⟩:=X.ent.get (nQ hno);have ea:atI es ((b:Int) - 1)=some (.ref p):=by
    rw[show (b:Int) - 1=((b - 1:Nat):Int) by omega]
    exact dD ev
   have z1':LstAt i c H (.cM b) p [.ref t1,.ref t2,.ref kk]:=z1;have z2':MnT c H (.chg e) t1:=by
    have:(hJ st b).2.1=.chg e:=e3;rw[this]at z2;exact z2
   obtain⟨_,v1,hv1,tc,rfl,htc⟩:=z2';have er:gg e=[V.str (kn e.k),.int e.at_,.str e.th]:=by
    obtain⟨k,a,th⟩:=e;have h3:=heo.k3;dsimp only at h3 hk ⊢;rcases h3 with rfl | rfl | rfl
    ·rfl
    ·exact absurd rfl hk
    ·rfl
   have aiv:SqT K H tc [V.str (kn e.k),.int e.at_,.str e.th]:=by rw[<-er];exact htc.sq
   refine hGg ?_;refine ixv rfl ht rfl ⟨rfl,tsf (bZ 2 (by decide)) (ixv rfl ht rfl ⟨rfl,tst (b8 2 (by decide)) ?_⟩)⟩
   refine⟨_,rfl,m,_,rfl,X.gm,_,rfl,m,_,rfl,X.gp,_,rfl,aP,_,_,_,rfl,rfl,SqL.of X.aq.2,h0,_,_,rfl,rfl,aM,_,_,_,rfl,rfl,SqL.of X.lX.2,ea,?_⟩;refine⟨_,rfl,p,_,_,_,rfl,rfl,SqL.of z1'.2,rfl,t1,_,_,_,rfl,rfl,SqT.of hv1,rfl,tc,[V.str (kn e.k),.int e.at_,.str e.th],rfl,aiv,rfl,?_⟩;refine⟨_,_,rfl,_,_,rfl,_,_,rfl,rfl,?_⟩;refine⟨_,rfl,_,rfl,rfl,_,rfl,e.th,rfl,?_,λp1 hp1=>?_⟩
   ·have:=heo.th.len;omega
   have s1:=aB (o:=.lst ((R.bh e.th).map V.str)) hp1;have hb1:(R.bl1:Str).length=1:=by decide +kernel
   refine ixv rfl (bM s1 ht) rfl ⟨p1,te,R.bh e.th,f,rfl,SqL.of ae,by omega,bM s1 hte.sq,hf1.ok (by omega),hf,λpl H1 s2 npl hpl=>?_⟩
   have s12:=s1.trans s2;refine⟨R.bl1,pl,bH (R.bh e.th) f,rfl,rfl,SqL.of hpl,by rw[hb1];omega,(sl 3),λt3 ht3=>⟨(sl 2),λtn htn=>?_⟩⟩
   have s3:=s12.new (o:=.tup [V.str (kn e.k),.int e.at_,.str (sr R.bl1 (bH (R.bh e.th) f))]) ht3;have s4:=s3.new (o:=.tup [V.str (ar "change"),.ref t3]) htn;have nt3:H t3=none:=same_none s12 ht3;have ntn:H tn=none:=same_none s3 htn;have n3n:t3≠tn:=aJ ae htn;have er2:gg ⟨e.k,e.at_,sr R.bl1 (bH (R.bh e.th) f)⟩=[V.str (kn e.k),.int e.at_,.str (sr R.bl1 (bH (R.bh e.th) f))]:=by
    obtain⟨k,a,th⟩:=e;have h3:=heo.k3;dsimp only at h3 hk ⊢;rcases h3 with rfl | rfl | rfl
    ·rfl
    ·exact absurd rfl hk
    ·rfl
   have X2:=X.cl s4;have st2:Step (dG i) c (cc c H) H _:=Step.cl aU s4;have hmn:MnT (cc c H) (upd (upd H1 t3 (.tup [V.str (kn e.k),.int e.at_,.str (sr R.bl1 (bH (R.bh e.th) f))])) tn (.tup [V.str (ar "change"),.ref t3])) (.chg ⟨e.k,e.at_,sr R.bl1 (bH (R.bh e.th) f)⟩) tn :=
    ⟨bY ntn,.ref t3,ae,t3,rfl,bY nt3,.inl (by rw[aw n3n,ae,er2])⟩
   have w1:=z1'.keep (W:=λ_=>False) id (Step.cl id s4)
   have hv2:=eX st2 ct hvt;generalize cc c H=c2 at X2 st2 hmn w1 hv2;generalize upd (upd H1 t3 (.tup [V.str (kn e.k),.int e.at_,.str (sr R.bl1 (bH (R.bh e.th) f))])) tn (.tup [V.str (ar "change"),.ref t3])=H2 at X2 st2 hmn w1 hv2 ⊢;refine⟨_,rfl,p,_,0,0,rfl,rfl,w1.2,rfl,?_⟩;rw[show [V.ref t1,V.ref t2,V.ref kk].set 0 (V.ref tn)=[V.ref tn,V.ref t2,V.ref kk] from rfl]
   obtain⟨s5,X3⟩:=X2.QZ hno ev w1 hmn;have hv3:=eX s5 hv2.1 hv2.2;have fin:=st2.trans s5.ie;generalize upd H2 p (.lst [.ref tn,.ref t2,.ref kk])=H3 at s5 X3 hv3 fin ⊢;have ht3:SqT K H3 t (rowOf 2 (.ref te)):=SqT.of hv3.2;refine ixv rfl ht3 rfl ⟨rfl,tsf (jh 2 (by decide)) (ixv rfl ht3 rfl ⟨rfl,tsf (mT 2 (by decide)) (ixv rfl ht3 rfl ⟨(sl 2),λu hu=>⟨u,_,rfl,.inr (SqT.of ae),rfl,rfl,tsf (in2 2 (by decide)) ?_⟩⟩)⟩)⟩
   exact q c2 _ (fin.trans (Step.same aU (aB hu))) (X3.same (aB hu)).at
  |off u =>
   refine hide λGg hGg=>?_
   obtain⟨⟨tx,r,h1⟩,_⟩:=wM;obtain⟨k,r',e1,_⟩:=Nz h1;have e3:st.carry (.off u)=st.lW k u:=by unfold Ch.carry;rw[e1]
   rw[e3]at q;have hv':v=.int u:=hvv;subst hv';have hla:=I.la;have hkn:=I.FD (n:=k) (by rw[e1];exact fu)
   have h0:atI (st.aq.map nV) 0=some (nV k):=by rw[e1];exact dD (j:=0) rfl
   refine hGg ?_;refine ixv rfl ht rfl ⟨rfl,tsf (bZ 3 (by decide)) (ixv rfl ht rfl ⟨rfl,tsf (b8 3 (by decide)) (ixv rfl ht rfl ⟨rfl,tsf (jh 3 (by decide)) (ixv rfl ht rfl ⟨rfl,tsf (mT 3 (by decide)) (ixv rfl ht rfl ⟨(sl 2),λu1 hu1=>⟨u1,_,rfl,.inr (SqT.of ae),rfl,rfl,tst (in2 3 (by decide)) ?_⟩⟩)⟩)⟩)⟩)⟩
   have s1:=aB (o:=.tup [V.str (ar "put off"),V.str (ar "lay")]) hu1;refine⟨_,rfl,dgv rfl (.inl ⟨_,wa (ar "sitting"),.inl (s1 _ _ X.ob),rfl,nP.symm⟩) ⟨(sl 1),λt2 ht2=>?_⟩⟩
   have s2:=s1.new (o:=.tup [V.int st.aI]) ht2;refine⟨t,t2,_,_,rfl,rfl,bM s2 ht,SqT.of ae,akH _ _,(sl 3),λz=>absurd z (akH _ _),λ_ t3 ht3=>?_⟩
   have s3:=s2.new (o:=.tup (rowOf 3 (.int u)++[V.int st.aI])) ht3;refine⟨t3,_,_,_,rfl,rfl,SqT.of ae,rfl,?_⟩;have X3:=X.same s3;refine⟨_,rfl,dgv rfl X3.gp ⟨(sl 2),λt4 ht4=>?_⟩⟩
   have oA:m≠aA:=dB X.co X.ay.1 (λz=>nomatch z)
   have s4:=aB (o:=.tup [V.int u,.ref aP]) ht4;refine dgv rfl (.inl ⟨_,wa (ar "aside"),.inl (s4 _ _ X3.ob),rfl,yi.symm⟩) (dgv rfl (.inl ⟨_,wa (ar "pile"),.inl (s4 _ _ X3.ob),rfl,sU.symm⟩) ⟨aP,_,_,_,rfl,rfl,SqL.of (s4 _ _ X3.aq.2),h0,aA,_,rfl,oU.k (k:=kq (k:Int)) (s4 _ _ X3.ay.2) ?_,?_⟩)
   ·unfold a8;rw[bo,alF,bo];omega
   refine⟨(sl 0),λp5 hp5=>?_⟩
   refine hide λGg hGg=>?_
   have npA:p5≠aA:=λz=>by rw[z,ae]at hp5;cases hp5
   have npt:p5≠t4:=λz=>by rw[aw npA,z,ae]at hp5;cases hp5
   have hp1:=hp5;rw[aw npA,aw npt]at hp1;obtain⟨c',s6,X6⟩:=X3.lW (u:=u) ht4 hp1 npt hkn;refine hGg ?_;refine⟨_,rfl,m,_,rfl,oU.k (k:=wa (ar "pile")) ((aw (aJ X3.ob hp1)).trans ((aw oA).trans (s4 _ _ X3.ob))) kc,?_⟩;rw[Cq];exact q c' _ ((Step.same aU s3).trans s6.ie) X6.at
  |lay =>
   refine hide λGg hGg=>?_
   obtain⟨⟨tx,r,h1⟩,_⟩:=wM;obtain⟨k,r',e1,_⟩:=Nz h1;have e3:st.carry .lay=st.lW k st.aI:=by unfold Ch.carry;rw[e1]
   rw[e3]at q;have hla:=I.la;have hkn:=I.FD (n:=k) (by rw[e1];exact fu)
   have h0:atI (st.aq.map nV) 0=some (nV k):=by rw[e1];exact dD (j:=0) rfl
   refine hGg ?_;refine ixv rfl ht rfl ⟨rfl,tsf (bZ 5 (by decide)) (ixv rfl ht rfl ⟨rfl,tsf (b8 5 (by decide)) (ixv rfl ht rfl ⟨rfl,tsf (jh 5 (by decide)) (ixv rfl ht rfl ⟨rfl,tsf (mT 5 (by decide)) (ixv rfl ht rfl ⟨(sl 2),λu1 hu1=>⟨u1,_,rfl,.inr (SqT.of ae),rfl,rfl,tst (in2 5 (by decide)) ?_⟩⟩)⟩)⟩)⟩)⟩
   have s1:=aB (o:=.tup [V.str (ar "put off"),V.str (ar "lay")]) hu1;refine⟨_,rfl,dgv rfl (.inl ⟨_,wa (ar "sitting"),.inl (s1 _ _ X.ob),rfl,nP.symm⟩) ⟨(sl 1),λt2 ht2=>?_⟩⟩
   have s2:=s1.new (o:=.tup [V.int st.aI]) ht2;refine⟨t,t2,_,_,rfl,rfl,bM s2 ht,SqT.of ae,akH _ _,(sl 2),λz=>absurd z (akH _ _),λ_ t3 ht3=>?_⟩
   have s3:=s2.new (o:=.tup (rowOf 5 v++[V.int st.aI])) ht3;refine⟨t3,_,_,_,rfl,rfl,SqT.of ae,rfl,?_⟩;have X3:=X.same s3;refine⟨_,rfl,dgv rfl X3.gp ⟨(sl 2),λt4 ht4=>?_⟩⟩
   have oA:m≠aA:=dB X.co X.ay.1 (λz=>nomatch z)
   have s4:=aB (o:=.tup [V.int st.aI,.ref aP]) ht4;refine dgv rfl (.inl ⟨_,wa (ar "aside"),.inl (s4 _ _ X3.ob),rfl,yi.symm⟩) (dgv rfl (.inl ⟨_,wa (ar "pile"),.inl (s4 _ _ X3.ob),rfl,sU.symm⟩) ⟨aP,_,_,_,rfl,rfl,SqL.of (s4 _ _ X3.aq.2),h0,aA,_,rfl,oU.k (k:=kq (k:Int)) (s4 _ _ X3.ay.2) ?_,?_⟩)
   ·unfold a8;rw[bo,alF,bo];omega
   refine⟨(sl 0),λp5 hp5=>?_⟩
   refine hide λGg hGg=>?_
   have npA:p5≠aA:=λz=>by rw[z,ae]at hp5;cases hp5
   have npt:p5≠t4:=λz=>by rw[aw npA,z,ae]at hp5;cases hp5
   have hp1:=hp5;rw[aw npA,aw npt]at hp1;obtain⟨c',s6,X6⟩:=X3.lW (u:=st.aI) ht4 hp1 npt hkn;refine hGg ?_;refine⟨_,rfl,m,_,rfl,oU.k (k:=wa (ar "pile")) ((aw (aJ X3.ob hp1)).trans ((aw oA).trans (s4 _ _ X3.ob))) kc,?_⟩;rw[Cq];exact q c' _ ((Step.same aU s3).trans s6.ie) X6.at
end
end My
set_option maxHeartbeats 1000000
namespace My
open PySem L2
seal PySem.wpAny
def yl (c:Col)(H:Hp)(t:Addr)(xs:List V):Prop:=c t=none/\H t=some (.tup xs)
def rh (c:Col)(H:Hp):R.eT->Addr->Prop
 | .mat cs,t=>∃L,yl c H t [.str (ar "matter"),.ref L]/\c L=none/\H L=some (.lst ((cs.map (sr R.bl1)).map V.str))
 | .ed m k j ws,t=>∃e,yl c H t [.str (R.kEd m),.ref e]/\TupAt c H e (R.edR k j (sr R.bl1 ws))
 | .pt ws,t=>yl c H t [.str (ar "point"),.str (sr R.bl1 ws)]
 | .nums kd ns,t=>yl c H t (.str kd::ns.map V.int)
theorem yl.c {i:Nat}{c:Col}{H:Hp}{t:Addr}{xs:List V}(h:yl c H t xs):yc i c H t xs:=⟨by rw[h.1];exact aU,h.2⟩
theorem yl.step {W:Option (Nat×Rl)->Prop}{c c':Col}{H H':Hp}{t:Addr}{xs:List V}(s:Step W c c' H H')(h:yl c H t xs):yl c' H' t xs:=eX s h.1 h.2
theorem rh.step {W:Option (Nat×Rl)->Prop}{c c':Col}{H H':Hp}{t:Addr}(s:Step W c c' H H'):∀ {d:R.eT},rh c H d t->rh c' H' d t
 | .mat _,⟨L,a,b1,b2⟩=>⟨L,a.step s,eX s b1 b2⟩
 | .ed _ _ _ _,⟨e,a,b⟩=>⟨e,a.step s,b.step s⟩
 | .pt _,h=>yl.step s h
 | .nums _ _,h=>yl.step s h
theorem rh.c {i:Nat}{c:Col}{H:Hp}{t:Addr}:∀ {d:R.eT},rh c H d t->pU i c H d t
 | .mat _,⟨L,a,b1,b2⟩=>⟨L,a.c,by rw[b1];exact aU,b2⟩
 | .ed _ _ _ _,⟨e,a,b⟩=>⟨e,a.c,b⟩
 | .pt _,h=>yl.c h
 | .nums _ _,h=>yl.c h
theorem rh.kind {c:Col}{H:Hp}{t:Addr}:∀ {d:R.eT},rh c H d t->∃xs,H t=some (.tup (.str (R.B6 d)::xs))
 | .mat _,⟨_,a,_⟩=>⟨_,a.2⟩
 | .ed _ _ _ _,⟨_,a,_⟩=>⟨_,a.2⟩
 | .pt _,h=>⟨_,h.2⟩
 | .nums _ _,h=>⟨_,h.2⟩
def Ch.ended (st:Ch)(pre:List Nat)(n:Nat)(wd:Str):Ch:=(if wd=sQ then (st.popped pre n wd).carry (st.mo n) else st.popped pre n wd).opened
def FO (i:Nat):Sp:=λvs H Q _=>∃(m:Addr) (wd:Str) (c:Col) (st:Ch) (N:Nat) (pre:List Nat) (n:Nat),vs=[.ref m,.str wd]/\jq i c H m st/\Inv N st/\N<=800/\st.aq=pre++[n]/\alk wd=true /\
 ∀c' H' u,Step (dG i) c c' H H'->jq i c' H' m (st.ended pre n wd)->c' u=none->H' u=some (.tup [.str (ar "told"),.str wd])->Q (.ref u) H'
theorem jq.rows {i:Nat}{c:Col}{H:Hp}{m:Addr}{st:Ch}{r:List Str}(h:jq i c H m st):jq i c H m { st with rows:=r }:=by
 obtain⟨aP,aA,aD,aM,ds,ws,es,X⟩:=h.ex;exact⟨aP,aA,aD,aM,ds,ws,es,⟨X.co,X.ob,X.aq,X.ay,X.wait,X.dec,X.mQ,X.lX,X.ent⟩⟩
def rsT:Rs->List V
 | .num n=>[.str (ar "told"),nV n]
 | .txt z=>[.str (ar "told"),.str z]
 | .exc x=>[.str (xcC x).1,.int (xcC x).2]
def Hl (i:Nat)(c:Col)(H:Hp)(m:Addr)(r:Rs×Ch)(Q:VK):Prop:=∀c' H' u,Step (dG i) c c' H H'->jq i c' H' m r.2->c' u=none->H' u=some (.tup (rsT r.1))->Q (.ref u) H'
def MU (i:Nat):Sp:=λvs H Q _=>∃(m:Addr) (a b:Int) (c:Col) (st:Ch) (N:Nat),vs=[.ref m,.int a,.int b,.int st.cC]/\jq i c H m st/\Inv N st/\N<=800/\(0<=a/\a < 10 ^ 10)/\(0<=b/\b < 10 ^ 10)/\Hl i c H m (kY st a b) Q
def MV (i:Nat):Sp:=λvs H Q _=>∃(m:Addr) (z:Int) (c:Col) (st:Ch) (N:Nat),vs=[.ref m,.int z]/\jq i c H m st/\Inv N st/\N<=800/\-1<=z/\z < 10 ^ 10/\Hl i c H m (stepT st z.toNat) Q
def UK (i:Nat):Sp:=λvs H Q _=>∃(m t:Addr) (c:Col) (st:Ch) (N:Nat) (d:R.eT),vs=[.ref m,.ref t,.int st.cC]/\jq i c H m st/\Inv N st/\N<=800/\wO d/\rh c H d t/\Hl i c H m (cA st d) Q
theorem Ej {c:Col}{H:Hp}{u:Addr}{o:HO}{W:Option (Nat×Rl)->Prop}(n:¬W none)(hu:H u=none):Step W c (aC c u none) H (upd H u o)/\aC c u none u=none/\(upd H u o) u=some o:=⟨Step.new n hu,aV,ae⟩
section
variable{P:me}{w:World}{K:ba}{mg:Str->Option Value}{base:Heap}{A:Adr}
theorem CC (T:Txt w.params K mg A){i:Nat}:aO P w K mg base CX0 3 A.vT A.mD ["_law_m","_law_word_here"] (FO i):=by
 have gi:aO P w K mg base CX0 1 A.vS A.i4 ["_law_m","_law_number"] (qQ i):=pY T;have Q1:aO P w K mg base CX0 2 A.E5 A.ua ["_law_m","_law_motion"] (Q0 i):=NK T;refine T.um.ok Bq (λvs H Q E h=>?_) (λcdv A' outer s H vs Q E hr h=>?_)
 ·obtain⟨m,wd,c,st,N,pre,n,rfl,_⟩:=h;rfl
 ·obtain⟨m,wd,c,st,N,pre,n,rfl,hm,I,hN,e,hwd,q⟩:=h;obtain⟨aP,aA,aD,aM,ds,ws,es,X⟩:=hm.ex;have hu1:=hr.u1;have jo:=hr.units;have d8:Room 1 _:=hr.mono (by decide)
  have NL:Room 2 _:=hr;have sz:kf=16777216:=by decide
  have kc:∀ {v0 v1 v2 v3 v4 v5:V},(mdF v0 v1 v2 v3 v4 v5).length < kf:=by intros;show 6 < kf;decide
  refine⟨_,(ai (a6 (i:=2) Bq.nd rfl (Lk rfl) (OZ rf PySem.F.slot_list_pop PySem.F.type_list_pop O3 (bc hu1 (pv 0) ao (λ_ _=>rfl))))
 (ai (bL (hG rf akB akC cU (bc hu1 (pv 0) ao (λ_ _=>rfl)) (aa (bj (aa (pv 2) (aa (pv 1) ah))) ah)))
 (ai (a7 (az bt (pv 1) ao (aL _))
 (aj (bL (aW Q1 NL rfl T.GD T.BH.kp T.GC .nil aZ (aa (pv 0) (aa (aW gi d8 rfl T.kF T.i5.kp T.kD .nil aZ (aa (pv 0) (aa (pv 2) ah))) ah)))))
 aH)
 (ai (a7 (az (xu jo) (bc hu1 (pv 0) ao (λ_ _=>rfl)) (bI ah) (aL _))
 (aj (ip hu1 (pv 0) ao g9 rfl))
 aH)
 (aj (aG (bj (aa ao (aa (pv 1) ah))))))))),?_⟩
  have hy:(st.aq.map nV)[(st.aq.map nV).length - 1]?=some (nV n):=by rw[e];simp
  have hdr:(st.aq.map nV).dropLast=pre.map nV:=by rw[e,ku];simp
  have oP:m≠aP:=dB X.co X.aq.1 (λz=>nomatch z)
  have DP:aD≠aP:=dB X.dec.1 X.aq.1 (λz=>nomatch z)
  have ld:=I.ld;refine dgv rfl X.gp ⟨.inl ⟨rfl,_,SqL.of X.aq.2⟩,aP,_,_,rfl,rfl,X.aq.2,hy,?_⟩;rw[hdr];refine dgv rfl (.inl ⟨_,wa (ar "decided"),.inl ((aw oP).trans X.ob),rfl,yS.symm⟩) ⟨.inl ⟨rfl,_,SqL.of ((aw DP).trans X.dec.2)⟩,_,rfl,_,rfl,(sl 2),λt ht=>?_⟩
  obtain⟨s1,X1⟩:=X.pop (n:=n) (wd:=wd) ht;have ntD:aD≠t:=λz=>by rw[<-z,aw DP,X.dec.2]at ht;cases ht
  refine⟨aD,_,_,rfl,rfl,(aw ntD).trans ((aw DP).trans X.dec.2),by rw[bo,<-X.mQ.len];omega,?_⟩
  have st1:=s1.ie;generalize aC c t none=c1 at X1 st1;dsimp only[f9];generalize upd (upd (upd H aP (.lst (pre.map nV))) t (.tup [nV n,.str wd])) aD (.lst (ds.map V.ref++[.ref t]))=H1 at X1 st1 ⊢;clear s1 ht hy hdr;obtain⟨I1,wM⟩:=I.pop e wd hwd;have hn:n∈st.aq:=by rw[e];simp
  have hno:=I.bT n hn;have C7:=(I.yf hno).mono (ak7 N);refine gh (λσ' H'=>σ'=[some (.ref m),some (.str wd),some (nV n)]/\∃c',Step (dG i) c c' H H'/\jq i c' H' m (if wd=sQ then (st.popped pre n wd).carry (st.mo n) else st.popped pre n wd)) ?r (λN' nN=>?f)
  case f =>
   refine⟨_,rfl,rfl,_,rfl,?_⟩
   by_cases hk:wd=sQ
   ·refine vE (decide_eq_true (by rw[hk])) ⟨_,rfl,_,rfl,_,rfl,m,n,c1,_,rfl,X1.at,hno,λtt htt=>?_⟩
    refine⟨m,tt,c1,st.popped pre n wd,st.mo n,N+1,rfl,X1.at,htt,I1,by omega,wM,C7,λc2 H2 s2 h2=>?_⟩
    refine nN _ _ ⟨rfl,c2,st1.trans s2,?_⟩;rw[if_pos hk];exact h2
   ·refine vF (decide_eq_false (λz=>hk (by injection z))) (nN _ _ ⟨rfl,c1,st1,?_⟩)
    rw[if_neg hk];exact X1.at
  case r =>
   rintro σ2 H2 ⟨rfl,c2,s2,h2⟩;unfold Ch.ended at q;generalize (if wd=sQ then (st.popped pre n wd).carry (st.mo n) else st.popped pre n wd)=st2 at h2 q
   refine hide λGg hGg=>?_
   obtain⟨aP2,aA2,aD2,aM2,ds2,ws2,es2,X2⟩:=h2.ex;refine hGg ?_;refine gh (λσ' H'=>σ'=[some (.ref m),some (.str wd),some (nV n)]/\∃c',Step (dG i) c c' H H'/\jq i c' H' m st2.opened) ?r2 (λN' nN=>?f2)
   case f2 =>
    refine dgv rfl X2.gp ⟨(sl 0),λp hp=>?_⟩
    have s3:=aB (o:=.lst []) hp;have X3:=X2.same s3;refine⟨eh st2.aq,.list [],g8 (SqL.of X3.aq.2),jU (SqL.of ae),kJ _,oi,_,rfl,?_⟩;rw[kH];cases ep:st2.aq with
    |nil =>
     refine dJ ⟨_,rfl,m,_,rfl,oU.k (k:=wa (ar "closed")) X3.ob kc,?_⟩;rw[Cp];obtain⟨s4,X4⟩:=X3.attr st2.aI false;refine nN _ _ ⟨rfl,c2,(s2.trans (Step.same aU s3)).trans s4.ie,?_⟩;have e1:st2.opened={ st2 with aI:=st2.aI,closed:=false }:=by unfold Ch.opened;rw[ep,if_pos rfl]
     rw[e1];exact X4.at
    |cons x r =>
     refine bS (nN _ _ ⟨rfl,c2,s2.trans (Step.same aU s3),?_⟩);have e1:st2.opened=st2:=by unfold Ch.opened;rw[ep,if_neg (akH _ _)];cases st2;cases ep;rfl
     rw[e1];exact X3.at
   case r2 =>
    rintro σ3 H3 ⟨rfl,c3,s3,h3⟩;refine⟨_,rfl,(sl 2),λu hu=>?_⟩
    refine hide λGg hGg=>?_
    obtain⟨a1,a2,a3⟩:=Ej (c:=c3) (o:=.tup [V.str (ar "told"),.str wd]) aU hu;refine hGg ?_;exact q _ _ u (s3.trans a1) (h3.free (W:=λ_=>False) (λ_=>id) (Ej id hu).1) a2 a3
end
end My
set_option maxHeartbeats 1000000
namespace My
open PySem L2
seal PySem.wpAny
theorem Tr (k:Nat)(a b:Int):lI (nd k) a b=(decide (a > b) && (!decide (k=4) || decide (a≥2 * b))):=by
 unfold lI nd
 by_cases h:a<=b
 ·rw[if_pos h,decide_eq_false (show ¬a > b by omega),Bool.false_and]
 ·rw[if_neg h,decide_eq_true (show a > b by omega),Bool.true_and]
  by_cases h4:k=4
  ·rw[if_pos h4,decide_eq_true h4,show decide (ar "two thirds"=GV)=false by decide +kernel]
   rfl
  ·rw[if_neg h4,decide_eq_false h4,show decide (ar "more"=GV)=true by decide +kernel]
   rfl
theorem MW (b:Bool):(pV b=sQ)↔b=true:=by
 cases b with
 |true=>exact⟨λ_=>rfl,λ_=>rfl⟩
 |false=>exact⟨λz=>absurd z (by decide +kernel),λz=>nomatch z⟩
theorem Q2 {st:Ch}{pre:List Nat}{n:Nat}{b:Bool}{z:Str}:(if b=true then (st.popped pre n (pV b)).carry (st.mo n) else st.popped pre n (pV b)).uY z={ st.ended pre n (pV b) with rows:=(if b=true then (st.popped pre n (pV b)).carry (st.mo n) else st.popped pre n (pV b)).rows++[z] }:=by
 unfold Ch.uY Ch.ended;cases b with
 |true=>rw[if_pos rfl,if_pos ((MW true).mpr rfl)]
 |false=>rw[if_neg kx,if_neg (λy=>absurd ((MW false).mp y) kx)]
section
variable{P:me}{w:World}{K:ba}{mg:Str->Option Value}{base:Heap}{A:Adr}
theorem KO (T:Txt w.params K mg A){i:Nat}:aO P w K mg base CX0 4 A.Ay A.qw ["_law_m","_law_ayes","_law_noes","_law_seats_here"] (MU i):=by
 have gi:aO P w K mg base CX0 1 A.vS A.i4 ["_law_m","_law_number"] (qQ i):=pY T;have ym:aO P w K mg base CX0 3 A.vT A.mD ["_law_m","_law_word_here"] (FO i):=CC T;refine T.xP.ok uM (λvs H Q E h=>?_) (λcdv A' outer s H vs Q E hr h=>?_)
 ·obtain⟨m,a,b,c,st,N,rfl,_⟩:=h;rfl
 ·obtain⟨m,a,b,c,st,N,rfl,hm,I,hN,ha,hb,q⟩:=h;obtain⟨aP,aA,aD,aM,ds,ws,es,X⟩:=hm.ex;have hu1:=hr.u1;have jo:=hr.units;have d8:Room 1 _:=hr.mono (by decide)
  have va:Room 3 _:=hr;refine⟨_,(ai (a7 (az (xu jo) (bc hu1 (pv 0) ao (λ_ _=>rfl)) (bI ah) (aL _))
 (aj (aG (bj (aa ao (aa af ah)))))
 aH)
 (ai (a7 (az AS (a4 cX (pv 1) (pv 2)) (pv 3) (aL _))
 (aj (aG (bj (aa ao (aa af ah)))))
 aH)
 (ai (a6 (i:=4) uM.nd rfl (Lk rfl) (iX AS (pv 1) (pv 2) (aL _)))
 (ai (a7 (az bt (aK aN (aW gi d8 rfl T.kF T.i5.kp T.kD .nil aZ (aa (pv 0) (aa (aK bw (bc hu1 (pv 0) ao (λ_ _=>rfl)) (mj iA af) (λ_ _=>rfl)) ah))) af (λ_ _=>rfl)) ao (aL _))
 (aj (a6 (i:=4) uM.nd rfl (Lk rfl) (Ex (pv 4) (Ew (iX Ul (pv 1) (a4 xq af (pv 2)) (aL _))))))
 aH)
 (aj (aG (aW ym va rfl T.xO T.um.kp T.xN .nil aZ (aa (pv 0) (aa (aK bw (bI (aa ao (aa ao ah))) (dO Dn (by rfl) T.Qa O6 (aa (pv 4) ah)) (λ_ _=>rfl)) ah))))))))),?_⟩
  unfold kY at q;refine dgv rfl X.gp ⟨(sl 0),λp hp=>?_⟩
  have s1:=aB (o:=.lst []) hp;have X1:=X.same s1;refine⟨eh st.aq,.list [],g8 (SqL.of X1.aq.2),jU (SqL.of ae),kJ _,oi,_,rfl,?_⟩;rw[kH];generalize upd H p (.lst [])=H1 at s1 X1 ⊢;have say:∀(x:Xc) (st':Ch),st'=st->Hl i c H m (.exc x,st') Q->(xcC x).2=0->∀u,H1 u=none->Q (.ref u) (upd H1 u (.tup [.str (xcC x).1,.int 0])):=λx st' est qq h0 u hu=>by
   subst est;have a1:Step (dG i) c (aC c u none) H (upd H1 u (.tup [.str (xcC x).1,.int 0])):=(Step.same aU s1).trans (Step.new aU hu);refine qq (aC c u none) _ u a1 (X1.free (W:=λ_=>False) (λ_=>id) (Step.new id hu)).at aV ?_
   show (upd H1 u (.tup [.str (xcC x).1,.int 0])) u=some (.tup [.str (xcC x).1,.int (xcC x).2]);rw[h0];exact ae
  rcases aky st.aq with e | ⟨pre,n,e⟩
  ·rw[e]at q ⊢;exact dJ ⟨(sl 2),λu hu=>say .nothing st rfl q rfl u hu⟩
  ·rw[akz]at e;have gl:st.aq.getLast?=some n:=by rw[e];exact ak1
   have ed:st.aq.dropLast=pre:=by rw[e];exact ala
   rw[gl]at q;dsimp only at q;rw[ed]at q;refine vF (by rw[e];simp) ?_
   refine⟨_,rfl,_,rfl,_,_,rfl,rfl,_,rfl,_,_,rfl,rfl,_,rfl,eR (λz=>?_) (λz=>?_)⟩
   ·have z':a+b > st.cC:=of_decide_eq_true z;rw[if_pos z']at q;exact⟨(sl 2),λu hu=>say .tooMany st rfl q rfl u hu⟩
   ·have z':¬a+b > st.cC:=λy=>z (decide_eq_true y)
    rw[if_neg z']at q;have hn:=I.bT n (by rw[e];simp)
    have h0:atI (st.aq.map nV) (-1)=some (nV n):=by rw[e,ku];exact gq _ _
    refine⟨_,rfl,_,rfl,_,_,rfl,rfl,?_⟩;dsimp only[f9];refine gh (λσ' H'=>σ'=[some (.ref m),some (.int a),some (.int b),some (.int st.cC),some (.bl (lI (nd (st.mo n).k) a b))]/\H'=H1) ?r (λN' nN=>?f)
    case f =>
     refine⟨_,rfl,_,rfl,m,_,rfl,X1.gp,_,rfl,aP,_,_,_,rfl,rfl,SqL.of X1.aq.2,h0,m,n,c,st,rfl,X1.at,hn,λt ht=>?_⟩
     obtain⟨v,hv⟩:=ht.kind;refine⟨t,_,_,_,rfl,rfl,SqT.of hv,dF,rfl,_,rfl,?_⟩;rw[jh _ (st.mo n).k8];have ke:=Tr (st.mo n).k a b
     by_cases h4:(st.mo n).k=4
     ·rw[decide_eq_true h4]at ke ⊢;refine dJ ⟨_,rfl,_,rfl,?_⟩
      by_cases hab:a > b
      ·rw[decide_eq_true hab]at ke ⊢;refine dJ ⟨_,rfl,_,rfl,_,_,rfl,rfl,.inl ⟨by decide,by decide⟩,_,_,rfl,rfl,nN _ _ ⟨?_,rfl⟩⟩
       rw[ke];rfl
      ·rw[decide_eq_false hab]at ke ⊢;refine bS (nN _ _ ⟨?_,rfl⟩);rw[ke];rfl
     ·rw[decide_eq_false h4]at ke ⊢;refine bS (nN _ _ ⟨?_,rfl⟩);rw[ke,Bool.not_false,Bool.true_or,Bool.and_true];rfl
    case r =>
     rintro σ2 H2 ⟨rfl,rfl⟩;generalize lI (nd (st.mo n).k) a b=kb at q;refine⟨_,rfl,(sl 2),λl hl=>?_⟩
     have s2:=aB (o:=.lst [V.str (ar "lost"),.str (ar "kept")]) hl;have hw:atI [V.str (ar "lost"),.str (ar "kept")] (if kb=true then 1 else 0)=some (.str (pV kb)):=by cases kb <;> rfl
     refine⟨_,rfl,.inr ⟨kb,rfl,l,_,_,_,rfl,rfl,SqL.of ae,hw,m,pV kb,c,st,N,pre,n,rfl,(X1.same s2).at,I,hN,e,FE kb,λc' H' u s3 h3 cu hu=>?_⟩⟩
     refine q c' H' u ((Step.same aU (s1.trans s2)).trans s3) ?_ cu hu;show jq i c' H' m ((if kb=true then (st.popped pre n (pV kb)).carry (st.mo n) else st.popped pre n (pV kb)).uY _)
     rw[Q2];exact h3.rows
theorem KP (T:Txt w.params K mg A){i:Nat}:aO P w K mg base CX0 3 A.Az A.qy ["_law_m","_law_number"] (MV i):=by
 have AG:aO P w K mg base CX0 2 A.Gy A.rZ ["_law_m"] (FL i):=Hd T;refine T.xQ.ok uN (λvs H Q E h=>?_) (λcdv A' outer s H vs Q E hr h=>?_)
 ·obtain⟨m,z,c,st,N,rfl,_⟩:=h;rfl
 ·obtain⟨m,z,c,st,N,rfl,hm,I,hN,hz0,hz1,q⟩:=h;obtain⟨aP,aA,aD,aM,ds,ws,es,X⟩:=hm.ex;have hu1:=hr.u1;have jo:=hr.units;have wQ:Room 2 _:=hr;have kc:∀ {v0 v1 v2 v3 v4 v5:V},(mdF v0 v1 v2 v3 v4 v5).length < kf:=by intros;show 6 < kf;decide
  refine⟨_,(ai (a7 (az (qr jo) (bc hu1 (pv 0) ao (λ_ _=>rfl)) (bI ah) (aL _))
 (aj (aG (bj (aa ao (aa (aW AG wQ rfl T.AD T.wg.kp T.AB .nil aZ (aa (pv 0) ah)) ah)))))
 aH)
 (ai (a7 (ON (DA hu1 (pv 1) (bc hu1 (pv 0) ao (λ_ _=>rfl))))
 (aj (aG (bj (aa ao (aa af ah)))))
 aH)
 (ai (xn (bc hu1 (bc hu1 (pv 0) ao (λ_ _=>rfl)) (pv 1) (λ_ _=>rfl)) (AM rfl (fA (ei (i:=2) uN.nd rfl (Lk rfl)) (fA (ei (i:=3) uN.nd rfl (Lk rfl)) vw))))
 (ai (a7 (az rP (bc hu1 (pv 0) ao (λ_ _=>rfl)) (pv 2) (aL _))
 (aj (aG (bj (aa ao (aa (pv 2) ah)))))
 aH)
 (ai (bL (Gs (bc hu1 (pv 0) ao (λ_ _=>rfl)) (pv 1) ⟨rfl,rfl,rfl,rfl⟩))
 (ai (ip hu1 (pv 0) ao (pv 3) rfl)
 (aj (aG (bj (aa ao (aa (pv 1) ah))))))))))),?_⟩
  unfold stepT at q;refine dgv rfl X.gp ⟨(sl 0),λp hp=>?_⟩
  have s1:=aB (o:=.lst []) hp;have X1:=X.same s1;refine⟨eh st.aq,.list [],g8 (SqL.of X1.aq.2),jU (SqL.of ae),kJ _,oi,_,rfl,?_⟩;rw[kH];generalize upd H p (.lst [])=H1 at s1 X1 ⊢;cases e:st.aq with
  |cons k0 r0 =>
   rw[if_neg (by rw[e];exact akH _ _)]at q
   refine dJ ⟨_,rfl,m,c,st,rfl,X1.at,I.bT,λH2 s2=>⟨(sl 2),λu hu=>?_⟩⟩
   have a1:Step (dG i) c (aC c u none) H _:=(Step.same aU (s1.trans s2)).trans (Step.new (o:=.tup [V.str (ar "bar"),.int (oa st.closed (st.aq.map st.mo))]) aU hu);exact q (aC c u none) _ u a1 ((X1.same s2).free (W:=λ_=>False) (λ_=>id) (Step.new id hu)).at aV ae
  |nil =>
   rw[if_pos e]at q;refine bS ?_;have say:∀(x:Xc),Hl i c H m (.exc x,st) Q->(xcC x).2=0->∀u,H1 u=none->Q (.ref u) (upd H1 u (.tup [.str (xcC x).1,.int 0])):=λx qq h0 u hu=>by
    have a1:Step (dG i) c (aC c u none) H (upd H1 u (.tup [.str (xcC x).1,.int 0])):=(Step.same aU s1).trans (Step.new aU hu);refine qq (aC c u none) _ u a1 (X1.free (W:=λ_=>False) (λ_=>id) (Step.new id hu)).at aV ?_
    show (upd H1 u (.tup [.str (xcC x).1,.int 0])) u=some (.tup [.str (xcC x).1,.int (xcC x).2]);rw[h0];exact ae
   by_cases hz:z=-1
   ·subst hz;rw[show ((-1:Int).toNat)=0 from rfl,I.no0]at q
    refine⟨_,rfl,dgv rfl X1.ga ⟨aA,_,rfl,.inl ⟨_,kq (-1),.inl X1.ay.2,rfl,rfl⟩,_,rfl,?_⟩⟩;rw[yh];exact dJ ⟨(sl 2),λu hu=>say .uq q rfl u hu⟩
   refine hide λGg hGg=>?_
   obtain⟨n,rfl⟩:∃n:Nat,z=(n:Int):=⟨z.toNat,by omega⟩
   rw[Int.toNat_natCast]at q;refine hGg ?_;refine⟨_,rfl,dgv rfl X1.ga ⟨aA,_,rfl,.inl ⟨_,kq (n:Int),.inl X1.ay.2,rfl,rfl⟩,_,rfl,?_⟩⟩;cases hx:at1 n st.ay with
   |none =>
    rw[hx]at q;rw[qO (wH hx)];exact dJ ⟨(sl 2),λu hu=>say .uq q rfl u hu⟩
   |some x =>
    refine hide λGg hGg=>?_
    rw[hx]at q;dsimp only at q;obtain⟨t,pl,hv,ht,hl⟩:=X1.waitOf hx;refine hGg ?_;rw[hv];refine bS ?_;refine⟨_,rfl,m,_,rfl,X1.ga,_,rfl,aA,_,rfl,.inl ⟨_,kq (n:Int),.inl X1.ay.2,rfl,hv.symm⟩,t,[V.int x.2.1,.ref pl],rfl,ht.sq,rfl,_,_,rfl,_,_,rfl,rfl,?_⟩;refine⟨_,rfl,m,_,rfl,X1.gs,_,rfl,_,_,rfl,rfl,_,rfl,eR (λy=>?_) (λy=>?_)⟩
    ·have y':st.aI < x.2.1:=of_decide_eq_true y;rw[if_pos y']at q;refine⟨_,rfl,(sl 2),λu hu=>?_⟩
     have a1:Step (dG i) c (aC c u none) H _:=(Step.same aU s1).trans (Step.new (o:=.tup [V.str (ar "not yet"),.int x.2.1]) aU hu);exact q (aC c u none) _ u a1 (X1.free (W:=λ_=>False) (λ_=>id) (Step.new id hu)).at aV ae
    ·have y':¬st.aI < x.2.1:=λz=>y (decide_eq_true z)
     rw[if_neg y']at q;have oA:m≠aA:=dB X.co X.ay.1 (λz=>nomatch z)
     refine dgv rfl X1.ga ⟨aA,rfl,.inl ⟨_,.inl X1.ay.2⟩,_,rfl,_,kq (n:Int),_,X1.ay.2,rfl,hv,?_⟩;refine⟨_,rfl,_,rfl,m,_,rfl,oU.k (k:=wa (ar "pile")) ((aw oA).trans X1.ob) kc,?_⟩;rw[Cq];refine hide λGg hGg=>?_
     obtain⟨c2,ws2,s2,X2⟩:=X1.q9 hl;refine hGg ?_;generalize upd (upd H1 aA (.dK (iJ (a8 ((st.ay.map (·.1)).zip ws)) (kq (n:Int))))) m (.dK (mdF (.int st.aI) (.bl st.closed) (.ref pl) (.ref aA) (.ref aD) (.ref aM)))=H2 at s2 X2 ⊢
     refine⟨_,rfl,(sl 2),λu hu=>?_⟩
     have a1:Step (dG i) c (aC c2 u none) H _:=((Step.same aU s1).trans s2.ie).trans (Step.new (o:=.tup [V.str (ar "told"),nV n]) aU hu);exact q (aC c2 u none) _ u a1 (X2.free (W:=λ_=>False) (λ_=>id) (Step.new id hu)).at.rows aV ae
end
end My
set_option maxHeartbeats 1000000
namespace My
open PySem L2
seal PySem.wpAny
theorem rh.mnt {c:Col}{H:Hp}{t:Addr}:∀ {d:R.eT},C8 d->rh c H d t->MnT c H (dH d) t
 | .mat cs,_,⟨L,a,b1,b2⟩=>⟨a.1,.ref L,a.2,L,rfl,b1,b2⟩
 | .ed true k j ws,h,⟨e,a,b⟩=>⟨a.1,.ref e,a.2,e,rfl,by rw[<-Fy h.1];exact b⟩
 | .ed false k j ws,h,⟨e,a,b⟩=>⟨a.1,.ref e,a.2,e,rfl,by rw[<-Fy h.1];exact b⟩
 | .pt ws,_,a=>⟨a.1,.str (sr R.bl1 ws),a.2,rfl⟩
 | .nums kd ns,h,a=>by
  rcases wN h.1 with ⟨u,rfl,rfl⟩ | ⟨rfl,rfl⟩ | ⟨rfl,rfl⟩ | ⟨rfl,rfl⟩
  ·rw[dH,if_pos rfl];exact⟨a.1,.int u,a.2,rfl⟩
  ·rw[dH,if_neg (by decide +kernel),if_pos rfl]
   exact⟨a.1,.non,a.2,trivial⟩
  ·rw[dH,if_neg (by decide +kernel),if_neg (by decide +kernel),if_pos rfl]
   exact⟨a.1,.non,a.2,trivial⟩
  ·rw[dH,if_neg (by decide +kernel),if_neg (by decide +kernel),if_neg (by decide +kernel)]
   exact⟨a.1,.non,a.2,trivial⟩
theorem Q3:∀k,k < 8->decide (V.str (nm k)=V.str (ar "vote"))=false:=by decide +kernel
theorem Q4:∀k,k < 8->decide (V.str (nm k)=V.str (ar "drop"))=false:=by decide +kernel
theorem Q5:∀k,k < 8->decide (V.str (nm k)=V.str (ar "take"))=false:=by decide +kernel
theorem KQ {st:Ch}{pre:List Nat}{n:Nat}:st.ended pre n fF=(st.popped pre n fF).opened:=by
 unfold Ch.ended;rw[if_neg (by decide +kernel)]
section
variable{P:me}{w:World}{K:ba}{mg:Str->Option Value}{base:Heap}{A:Adr}
theorem Q6 (T:Txt w.params K mg A){i:Nat}:aO P w K mg base CX0 5 A.Ml A.vU ["_law_m","_law_deed_here","_law_seats_here"] (UK i):=by
 have NM:aO P w K mg base CX0 4 A.Ay A.qw ["_law_m","_law_ayes","_law_noes","_law_seats_here"] (MU i):=KO T;have NN:aO P w K mg base CX0 3 A.Az A.qy ["_law_m","_law_number"] (MV i):=KP T;have ym:aO P w K mg base CX0 3 A.vT A.mD ["_law_m","_law_word_here"] (FO i):=CC T;have NO:aO P w K mg base CX0 3 A.Ax A.qv ["_law_m","_law_motion"] (MT i):=KL T;refine T.Fd.ok Gw (λvs H Q E h=>?_) (λcdv A' outer s H vs Q E hr h=>?_)
 ·obtain⟨m,t,c,st,N,d,rfl,_⟩:=h;rfl
 ·obtain⟨m,t,c,st,N,d,rfl,hm,I,hN,hd,hz,q⟩:=h;obtain⟨aP,aA,aD,aM,ds,ws,es,X⟩:=hm.ex;have hu1:=hr.u1;have jo:=hr.units;have KR:Room 4 _:=hr;have KS:Room 3 _:=hr.mono (by decide)
  have va:Room 3 _:=hr.mono (by decide)
  have KU:Room 3 _:=hr.mono (by decide)
  have lim:kf=16777216:=by decide
  refine⟨_,(ai (a7 (az bt (aK aN (pv 1) af (λ_ _=>rfl)) ao (aL _))
 (aj (aG (aW NM KR rfl T.DN T.xP.kp T.DM .nil aZ (aa (pv 0) (aa (aK aN (pv 1) af (λ_ _=>rfl)) (aa (aK aN (pv 1) af (λ_ _=>rfl)) (aa (pv 2) ah)))))))
 aH)
 (ai (a7 (az bt (aK aN (pv 1) af (λ_ _=>rfl)) ao (aL _))
 (aj (aG (aW NN KS rfl T.DQ T.xQ.kp T.DO .nil aZ (aa (pv 0) (aa (aK aN (pv 1) af (λ_ _=>rfl)) ah)))))
 aH)
 (ai (a7 (az bt (aK aN (pv 1) af (λ_ _=>rfl)) ao (aL _))
 (ai (a7 (az (xu jo) (bc hu1 (pv 0) ao (λ_ _=>rfl)) (bI ah) (aL _))
 (aj (aG (bj (aa ao (aa af ah)))))
 aH)
 (aj (aG (aW ym va rfl T.xO T.um.kp T.xN .nil aZ (aa (pv 0) (aa ao ah))))))
 aH)
 (ai (a6 (i:=3) Gw.nd rfl (Lk rfl) (aW NO KU rfl T.DL T.xM.kp T.DK .nil aZ (aa (pv 0) (aa (pv 1) ah))))
 (ai (a7 (az Sd (pv 3) AK (aL _))
 (aj (aG (pv 3)))
 aH)
 (ai (bL (hG rf akB akC cU (bc hu1 (pv 0) ao (λ_ _=>rfl)) (aa (bI (aa (pv 1) (aa (pv 1) (aa (bI ah) ah)))) ah)))
 (ai (bL (hG rf akB akC cU (bc hu1 (pv 0) ao (λ_ _=>rfl)) (aa (bN bO (by rfl) T.kQ hU (aa (bc hu1 (pv 0) ao (λ_ _=>rfl)) ah)) ah)))
 (aj (aG (bj (aa ao (aa (bN bO (by rfl) T.kQ hU (aa (bc hu1 (pv 0) ao (λ_ _=>rfl)) ah)) ah)))))))))))),?_⟩
  cases hd with
  | @G6 a b ha hb =>
   rw[jQ]at q;have ht:H t=some (.tup [.str (ar "vote"),.int a,.int b]):=hz.2;refine ixv rfl (SqT.of ht) rfl ⟨rfl,tst (decide_eq_true rfl) ?_⟩;exact⟨_,rfl,ixv rfl (SqT.of ht) rfl (ixv rfl (SqT.of ht) rfl ⟨_,rfl,m,a,b,c,st,N,rfl,hm,I,hN,ha,hb,q⟩)⟩
  |drop =>
   rw[jR]at q;have ht:H t=some (.tup [.str (ar "drop")]):=hz.2;refine ixv rfl (SqT.of ht) rfl ⟨rfl,tsf (by decide +kernel) ?_⟩
   refine ixv rfl (SqT.of ht) rfl ⟨rfl,tsf (by decide +kernel) ?_⟩
   refine ixv rfl (SqT.of ht) rfl ⟨rfl,tst (decide_eq_true rfl) ?_⟩;unfold lJ at q;refine dgv rfl X.gp ⟨(sl 0),λp hp=>?_⟩
   have s1:=aB (o:=.lst []) hp;have X1:=X.same s1;refine⟨eh st.aq,.list [],g8 (SqL.of X1.aq.2),jU (SqL.of ae),kJ _,oi,_,rfl,?_⟩;rw[kH];generalize upd H p (.lst [])=H1 at s1 X1 ⊢;rcases aky st.aq with e | ⟨pre,n,e⟩
   ·rw[e]at q ⊢;refine dJ ⟨(sl 2),λu hu=>?_⟩
    have a1:Step (dG i) c (aC c u none) H (upd H1 u (.tup [.str (ar "nothing"),.int 0])):=(Step.same aU s1).trans (Step.new aU hu);exact q (aC c u none) _ u a1 (X1.free (W:=λ_=>False) (λ_=>id) (Step.new id hu)).at aV ae
   ·rw[akz]at e;have gl:st.aq.getLast?=some n:=by rw[e];exact ak1
    have ed:st.aq.dropLast=pre:=by rw[e];exact ala
    rw[gl]at q;dsimp only at q;rw[ed]at q;refine vF (by rw[e];simp) ?_
    refine⟨_,rfl,m,fF,c,st,N,pre,n,rfl,X1.at,I,hN,e,(by decide +kernel),λc' H' u s3 h3 cu hu=>?_⟩
    refine q c' H' u ((Step.same aU s1).trans s3) ?_ cu hu;rw[KQ]at h3;exact h3.rows
  | @take z h0 h1 =>
   rw[jS]at q;have ht:H t=some (.tup [.str (ar "take"),.int z]):=hz.2;refine ixv rfl (SqT.of ht) rfl ⟨rfl,tsf (by decide +kernel) ?_⟩
   refine ixv rfl (SqT.of ht) rfl ⟨rfl,tst (decide_eq_true rfl) ?_⟩;exact⟨_,rfl,ixv rfl (SqT.of ht) rfl ⟨m,z,c,st,N,rfl,hm,I,hN,h0,h1,q⟩⟩
  |move hd =>
   rw[jT hd]at q;have hmn:=hz.mnt hd;obtain⟨v,ht⟩:=hmn.kind;unfold mU at q;refine ixv rfl (SqT.of ht) dF ⟨rfl,tsf (Q3 _ (dH d).k8) ?_⟩;refine ixv rfl (SqT.of ht) dF ⟨rfl,tsf (Q5 _ (dH d).k8) ?_⟩;refine ixv rfl (SqT.of ht) dF ⟨rfl,tsf (Q4 _ (dH d).k8) ?_⟩;refine⟨_,rfl,_,rfl,m,t,c,st,N,d,rfl,hm,I,hN,hd,hz.c,λTj H1 s1=>?_,λx hx u H1 s1 nu hu=>?_⟩
   case refine_2 =>
    rw[hx]at q;exact⟨_,rfl,rfl,tst rfl ⟨_,rfl,q (cc c H) H1 u (Step.cl aU s1) (X.cl s1).at (bY nu) hu⟩⟩
   rw[Tj]at q;dsimp only at q;refine⟨_,rfl,rfl,tsf rfl ?_⟩;have X1:=X.same s1;have aiw:MnT c H1 (dH d) t:=hmn.step (W:=λ_=>False) (Step.same id s1)
   have lm:=I.lm;have el:es.length=st.made.length:=by rw[<-X1.ent.len,p6]
   have lp:=I.pil.Kx;rw[bo]at lp;have nf:st.made.length+1∉st.wJ:=λz=>by
    have:=(List.mem_filter.mp z).1;rw[alC]at this;omega
   have MP:aM≠aP:=dB X.lX.1 X.aq.1 (λz=>nomatch z)
   have oM:m≠aM:=dB X.co X.lX.1 (λz=>nomatch z)
   refine dgv rfl X1.gm ⟨.inl ⟨rfl,_,SqL.of X1.lX.2⟩,_,rfl,_,rfl,(sl 0),λk hk=>⟨(sl 3),λp hp=>?_⟩⟩
   have npk:p≠k:=λz=>by rw[z,ae]at hp;cases hp
   have hp1:H1 p=none:=by rw[aw npk]at hp;exact hp
   have s2:=(aB (o:=.lst []) hk).new (o:=.lst [.ref t,.ref t,.ref k]) hp;have X2:=X1.same s2;refine⟨aM,es,.ref p,rfl,rfl,X2.lX.2,by omega,?_⟩
   refine hide λGg hGg=>?_
   obtain⟨c',s3,X3⟩:=X1.moved (row:=R.sG d) (by rw[I.kk];exact nf) (by rw[I.ff];exact nf) aiw hk hp1 npk
   refine hGg ?_;generalize upd (upd H1 k (.lst [])) p (.lst [.ref t,.ref t,.ref k])=H2 at s2 X2 s3 X3 ⊢;have eln:(((es++[V.ref p]).length:Nat):Int)=((st.made.length+1:Nat):Int):=by rw[gn,el];rfl
   refine dgv rfl (.inl ⟨_,wa (ar "pile"),.inl ((aw oM).trans X2.ob),rfl,sU.symm⟩) ⟨.inl ⟨rfl,_,SqL.of ((aw MP.symm).trans X2.aq.2)⟩,dgv rfl (.inl ⟨_,wa (ar "motions"),.inl ((aw oM).trans X2.ob),rfl,yT.symm⟩) ⟨aM,_,rfl,.inl (SqL.of ae),?_⟩⟩;refine⟨aP,st.aq.map nV,nV (st.made.length+1),rfl,by rw[eln];rfl,(aw MP.symm).trans X2.aq.2,by rw[bo];omega,?_⟩
   generalize upd (upd H2 aM (.lst (es++[.ref p]))) aP (.lst (st.aq.map nV++[nV (st.made.length+1)]))=H3 at s3 X3 ⊢;refine dgv rfl X3.gm ⟨aM,_,rfl,.inl (SqL.of X3.lX.2),(sl 2),λu hu=>?_⟩
   rw[eln];have a1:Step (dG i) c (aC c' u none) H (upd H3 u (.tup [V.str (ar "told"),nV (st.made.length+1)])):=((Step.same aU s1).trans s3.ie).trans (Step.new aU hu);exact q (aC c' u none) _ u a1 (X3.free (W:=λ_=>False) (λ_=>id) (Step.new id hu)).at aV ae
theorem Q7 (T:Txt w.params K mg A):aO P w K mg base CX0 1 A.Mj A.vR [] MS:=by
 refine T.Fc.ok PD (λvs H Q E h=>?_) (λcdv A' outer s H vs Q E hr h=>?_)
 ·obtain⟨rfl,_⟩:=h;rfl
 ·obtain⟨rfl,q⟩:=h;refine⟨_,(aj (aG (SJ (oW ao af (oW ao g9 (oW ao (bI ah) (oW ao oV (oW ao (bI ah) (oW ao (bI ah) SI)))))) rfl rfl (by decide) (by decide)))),?_⟩
  refineλm h0=>⟨(sl 0),λaP h1=>λaA h2=>⟨(sl 0),λaD h3=>⟨(sl 0),λaM h4=>?_⟩⟩⟩
  have s1:=aB (o:=.dK []) h0;have s2:=aB (o:=.lst []) h1;have s3:=aB (o:=.dK []) h2;have s4:=aB (o:=.lst []) h3;have s5:=aB (o:=.lst []) h4;have n1:=same_none s1 h1;have n2:=same_none (s1.trans s2) h2;have n3:=same_none ((s1.trans s2).trans s3) h3;have n4:=same_none (((s1.trans s2).trans s3).trans s4) h4;have m1:m≠aP:=aJ ae h1;have m2:m≠aA:=aJ (s2 _ _ ae) h2;have m3:m≠aD:=aJ ((s2.trans s3) _ _ ae) h3;have m4:m≠aM:=aJ (((s2.trans s3).trans s4) _ _ ae) h4;have p2:aP≠aA:=aJ ae h2;have p3:aP≠aD:=aJ (s3 _ _ ae) h3;have p4:aP≠aM:=aJ ((s3.trans s4) _ _ ae) h4;have q3:aA≠aD:=aJ ae h3;have q4:aA≠aM:=aJ (s4 _ _ ae) h4;have r4:aD≠aM:=aJ ae h4;refine⟨(((s2.trans s3).trans s4).trans s5) _ _ ae,mdF (.int 1) (.bl false) (.ref aP) (.ref aA) (.ref aD) (.ref aM),rfl,(by show 6<=15;decide),?_⟩
  rw[Xh];refine q m _ λi c n=>⟨aC (aC (aC (aC (aC c m (some (i,.ob))) aP (some (i,.aq))) aA (some (i,.ay))) aD (some (i,.decided))) aM (some (i,.made)),⟨id,?_,?_,?_⟩,aP,aA,aD,aM,[],[],[],?_⟩
  ·exactλa v e _=>(((((s1.trans s2).trans s3).trans s4).trans s5).own h0) a v e
  ·exactλa v e=>⟨v,(((((s1.trans s2).trans s3).trans s4).trans s5).own h0) a v e⟩
  ·intro a v e _;rw[av (aJ e n4),av (aJ e n3),av (aJ e n2),av (aJ e n1),av (aJ e h0)]
  ·refine⟨?_,ae,⟨?_,?_⟩,⟨?_,?_⟩,.nil,⟨?_,?_⟩,.nil,⟨?_,?_⟩,.nil⟩
   ·rw[av m4,av m3,av m2,av m1,aV]
   ·rw[av p4,av p3,av p2,aV]
   ·rw[aw m1.symm,aw p4,aw p3,aw p2,ae];rfl
   ·rw[av q4,av q3,aV]
   ·rw[aw m2.symm,aw q4,aw q3,ae];rfl
   ·rw[av r4,aV]
   ·rw[aw m3.symm,aw r4,ae];rfl
   ·rw[aV]
   ·rw[aw m4.symm,ae]
end
end My
set_option maxHeartbeats 1000000
namespace My
open PySem L2
seal PySem.wpAny
def Hm:Sp:=λvs H Q _=>∃(c n:Int),vs=[.int c,.int n]/\1<=n/\n<=1000000000/\∀(a b:Int) (t:Addr) (H':Hp),(0<=a/\a < 10 ^ 10)->(0<=b/\b < 10 ^ 10)->bu H H'->H t=none->H' t=some (.tup [.str (ar "vote"),.int a,.int b])->Q (.ref t) H'
def Ho (i:Nat):Sp:=λvs H Q _=>∃(m:Addr) (z:Int) (c:Col) (st:Ch) (N:Nat),vs=[.ref m,.int z]/\jq i c H m st/\Inv N st/\∀(j:Int) (H':Hp),0<=j->j < 20->bu H H'->Q (.int j) H'
def Hq (i:Nat):Sp:=λvs H Q _=>∃(m:Addr) (z n:Int) (c:Col) (st:Ch) (N:Nat),vs=[.ref m,.int z,.int n]/\jq i c H m st/\Inv N st/\N<=191/\1<=n/\n<=1000000000 /\
 ∀(d:R.eT) (t:Addr) (H':Hp),wO d->rh (cc c H) H' d t->bu H H'->Q (.ref t) H'
theorem Ts {xs:List Int}{j:Int}(h0:0<=j)(h1:j < xs.length)(hx:∀x∈xs,0<=x/\x < 20):∃x:Int,atI (xs.map V.int) j=some (.int x)/\0<=x/\x < 20:=by
 obtain⟨k,rfl⟩:∃k:Nat,j=(k:Int):=⟨j.toNat,by omega⟩
 have hk:k < xs.length:=by omega
 refine⟨xs[k],?_,hx _ (List.getElem_mem hk)⟩;refine dD ?_;rw[akK,wt hk];rfl
section
variable{P:me}{w:World}{K:ba}{mg:Str->Option Value}{base:Heap}{A:Adr}
theorem NP (T:Txt w.params K mg A):aO P w K mg base CX0 1 A.E6 A.ub ["_law_cell","_law_seats_here"] Hm:=by
 refine T.BI.ok pA (λvs H Q E h=>?_) (λcdv A' outer s H vs Q E hr h=>?_)
 ·obtain⟨c,n,rfl,_⟩:=h;rfl
 ·obtain⟨c,n,rfl,n1,n2,q⟩:=h;refine⟨_,(ai (a6 (i:=2) pA.nd rfl (Lk rfl) (a4 cB (pv 0) (a4 cX (pv 1) af)))
 (ai (a6 (i:=3) pA.nd rfl (Lk rfl) (a4 cB (a4 dg (pv 0) af) (a4 nX (a4 cX (pv 1) af) (pv 2))))
 (ai (a7 (az bt (a4 cB (a4 dg (pv 0) af) af) af (aL _))
 (aj (a6 (i:=3) pA.nd rfl (Lk rfl) (a4 nX (a4 cX (a4 dg (pv 2) af) (a4 cB (a4 dg (pv 0) af) af)) af)))
 aH)
 (ai (a7 (az bt (a4 cB (a4 dg (pv 0) af) af) af (aL _))
 (aj (a6 (i:=3) pA.nd rfl (Lk rfl) (a4 cX (a4 nX (pv 1) (pv 2)) (a4 cB (a4 dg (pv 0) af) af))))
 aH)
 (aj (aG (bj (aa ao (aa (pv 2) (aa (bN (tN rfl) (by rfl) T.GO EE (aa af (aa (pv 3) ah))) ah)))))))))),?_⟩
  have a0:0<=c % (n+1):=alx _ (by omega)
  have a1:c % (n+1) < n+1:=alb _ (by omega)
  refine⟨_,rfl,_,rfl,_,_,rfl,rfl,_,_,rfl,rfl,(by show (0:Int) < n+1;omega),?_⟩
  dsimp only[f9];generalize c % (n+1)=a at a0 a1 ⊢;refine⟨_,rfl,_,_,rfl,rfl,⟨by decide,by decide⟩,_,rfl,_,_,rfl,rfl,_,rfl,_,_,rfl,rfl,_,_,rfl,rfl,(by show (0:Int) < n+1 - a;omega),?_⟩
  dsimp only[f9];have b0:0<=c / 7 % (n+1 - a):=alx _ (by omega)
  have b1:c / 7 % (n+1 - a) < n+1 - a:=alb _ (by omega)
  generalize c / 7 % (n+1 - a)=b at b0 b1 ⊢;refine gh (λσ' H'=>H'=H/\∃b:Int,σ'=[some (.int c),some (.int n),some (.int a),some (.int b)]/\-1<=b/\b < 10000000000) ?r (λN' nN=>?f)
  case f =>
   refine⟨_,rfl,_,_,rfl,rfl,⟨by decide,by decide⟩,_,_,rfl,rfl,(by show (0:Int) < 4;decide),rfl,_,rfl,eR (λ_=>?_) (λ_=>?_)⟩
   ·refine⟨_,rfl,_,_,rfl,rfl,⟨by decide,by decide⟩,_,rfl,_,_,rfl,rfl,⟨by decide,by decide⟩,_,_,rfl,rfl,(by show (0:Int) < 3;decide),_,_,rfl,rfl,_,_,rfl,rfl,nN _ _ ⟨rfl,_,rfl,?_,?_⟩⟩
    ·omega
    ·omega
   ·exact nN _ _ ⟨rfl,b,rfl,by omega,by omega⟩
  case r =>
   rintro σ2 H2 ⟨rfl,b,rfl,c0,c1⟩;refine gh (λσ' H'=>H'=H2/\∃b:Int,σ'=[some (.int c),some (.int n),some (.int a),some (.int b)]/\-1<=b/\b < 10000000000) ?r (λN' nN=>?f)
   case f =>
    refine⟨_,rfl,_,_,rfl,rfl,⟨by decide,by decide⟩,_,_,rfl,rfl,(by show (0:Int) < 16;decide),rfl,_,rfl,eR (λ_=>?_) (λ_=>?_)⟩
    ·refine⟨_,rfl,_,rfl,_,_,rfl,rfl,_,rfl,_,_,rfl,rfl,⟨by decide,by decide⟩,_,_,rfl,rfl,(by show (0:Int) < 2;decide),_,_,rfl,rfl,nN _ _ ⟨rfl,_,rfl,?_,?_⟩⟩
     ·omega
     ·omega
    ·exact nN _ _ ⟨rfl,b,rfl,by omega,by omega⟩
   case r =>
    rintro σ3 H3 ⟨rfl,b,rfl,c0,c1⟩;refine⟨_,rfl,_,rfl,_,_,rfl,(sl 3),λu hu=>?_⟩
    refine q a (if b > 0 then b else 0) u _ ⟨a0,by omega⟩ ⟨?_,?_⟩ (aB hu) hu ae
    ·split <;> omega
    ·split <;> omega
theorem Hr (T:Txt w.params K mg A){i:Nat}:aO P w K mg base CX0 2 A.vV A.nF ["_law_m","_law_way"] (Ho i):=by
 have gi:aO P w K mg base CX0 1 A.vS A.i4 ["_law_m","_law_number"] (qQ i):=pY T;refine T.uO.ok yF (λvs H Q E h=>?_) (λcdv A' outer s H vs Q E hr h=>?_)
 ·obtain⟨m,z,c,st,N,rfl,_⟩:=h;rfl
 ·obtain⟨m,z,c,st,N,rfl,hm,I,q⟩:=h;obtain⟨aP,aA,aD,aM,ds,ws,es,X⟩:=hm.ex;have hu1:=hr.u1;have jo:=hr.units;have d8:Room 1 _:=hr;refine⟨_,(ai (a7 (az (xu jo) (bc hu1 (pv 0) ao (λ_ _=>rfl)) (bI ah) (aL _))
 (aj (aG (aK bw (bI (aa af (aa af (aa af (aa af (aa af ah)))))) (a4 cB (pv 1) af) (λ_ _=>rfl))))
 aH)
 (ai (a6 (i:=2) yF.nd rfl (Lk rfl) (aW gi d8 rfl T.kF T.i5.kp T.kD .nil aZ (aa (pv 0) (aa (aK bw (bc hu1 (pv 0) ao (λ_ _=>rfl)) (mj iA af) (λ_ _=>rfl)) ah))))
 (ai (a7 (az bt (aK aN (pv 2) af (λ_ _=>rfl)) ao (aL _))
 (aj (aG (aK bw (bI (aa af (aa af (aa af (aa af (aa af (aa af (aa af ah)))))))) (a4 cB (pv 1) af) (λ_ _=>rfl))))
 aH)
 (ai (a7 (PW.pt (pw_and (az bt (aK aN (pv 2) af (λ_ _=>rfl)) ao (aL _)) (pw_and1 (az AR (aK aN (aK aN (pv 2) af (λ_ _=>rfl)) af (λ_ _=>rfl)) ao (aL _)))))
 (aj (aG (aK bw (bI (aa af (aa af (aa af (aa af (aa af ah)))))) (a4 cB (pv 1) af) (λ_ _=>rfl))))
 aH)
 (aj (aG (aK bw (bI (aa af (aa af (aa af (aa af (aa af ah)))))) (a4 cB (pv 1) af) (λ_ _=>rfl)))))))),?_⟩
  have say:∀(xs:List Int) (k:Int) (H1:Hp) (p:Addr),bu H H1->H1 p=none->k=(xs.length:Int)->0 < k->(∀x∈xs,0<=x/\x < 20)->∀R:V->Hp->Prop,(∀x:Int,Q (.int x) (upd H1 p (.lst (xs.map V.int)))->R (.int x) (upd H1 p (.lst (xs.map V.int))))->∃x,atI (xs.map V.int) (z % k)=some x/\R x (upd H1 p (.lst (xs.map V.int))):=by
   intro xs k H1 p s1 hp ek hk hx R hR;obtain⟨x,h1,h2,h3⟩:=Ts (j:=z % k) (alx _ (by omega)) (by rw[<-ek];exact alb _ hk) hx
   exact⟨_,h1,hR x (q x _ h2 h3 (s1.new hp))⟩
  refine dgv rfl X.gp ⟨(sl 0),λp hp=>?_⟩
  have s1:=aB (o:=.lst []) hp;have X1:=X.same s1;refine⟨eh st.aq,.list [],g8 (SqL.of X1.aq.2),jU (SqL.of ae),kJ _,oi,_,rfl,?_⟩;rw[kH];generalize upd H p (.lst [])=H1 at s1 X1 ⊢;rcases aky st.aq with e | ⟨pre,n,e⟩
  ·rw[e];refine dJ ⟨(sl 5),λp2 hp2=>?_⟩
   refine hide λGg hGg=>?_
   obtain⟨x,h1,h2⟩:=say [0,1,18,10,0] 5 H1 p2 s1 hp2 rfl (by decide) (by decide) (λv H=>Q v H) (λ_ h=>h)
   refine hGg ?_;exact⟨_,rfl,_,_,rfl,rfl,(by show (0:Int) < 5;decide),p2,_,_,_,rfl,rfl,SqL.of ae,h1,h2⟩
  rw[akz]at e;have hn:=I.bT n (by rw[e];simp)
  have h0:atI (st.aq.map nV) (-1)=some (nV n):=by rw[e,ku];exact gq _ _
  refine vF (by rw[e];simp) ?_
  refine⟨_,rfl,_,rfl,m,_,rfl,X1.gp,_,rfl,aP,_,_,_,rfl,rfl,SqL.of X1.aq.2,h0,m,n,c,st,rfl,X1.at,hn,λt ht=>?_⟩
  refine hide λGg hGg=>?_
  obtain⟨_,v,hv,hvv⟩:=ht;refine hGg ?_;refine ixv rfl (SqT.of hv) dF ⟨rfl,_,rfl,eR (λ_=>?_) (λ_=>?_)⟩
  ·refine⟨(sl 7),λp2 hp2=>?_⟩
   refine hide λGg hGg=>?_
   obtain⟨x,h1,h2⟩:=say [2,3,4,12,7,9,8] 7 H1 p2 s1 hp2 rfl (by decide) (by decide) (λv H=>Q v H) (λ_ h=>h)
   refine hGg ?_;exact⟨_,rfl,_,_,rfl,rfl,(by show (0:Int) < 7;decide),p2,_,_,_,rfl,rfl,SqL.of ae,h1,h2⟩
  refine ixv rfl (SqT.of hv) dF ⟨rfl,_,rfl,?_⟩;rw[bZ _ (st.mo n).k8]
  by_cases h1:(st.mo n).k=1
  case neg =>
   rw[decide_eq_false h1];refine bS (bS ⟨(sl 5),λp2 hp2=>?_⟩)
   refine hide λGg hGg=>?_
   obtain⟨x,h1,h2⟩:=say [12,13,12,14,15] 5 H1 p2 s1 hp2 rfl (by decide) (by decide) (λv H=>Q v H) (λ_ h=>h)
   refine hGg ?_;exact⟨_,rfl,_,_,rfl,rfl,(by show (0:Int) < 5;decide),p2,_,_,_,rfl,rfl,SqL.of ae,h1,h2⟩
  rw[decide_eq_true h1];refine hide λGg hGg=>?_
  obtain⟨e,emo⟩:∃e,st.mo n=.chg e:=by
   cases hmo:st.mo n with
   |chg e=>exact⟨e,rfl⟩
   |_=>rw[hmo]at h1;simp[Mn.k]at h1
  rw[emo]at hv hvv;obtain⟨tc,rfl,htc⟩:=hvv;refine hGg ?_;refine dJ (ixv rfl (SqT.of hv) rfl ⟨tc,_,_,_,rfl,rfl,htc.sq,n6 e,rfl,_,rfl,eR (λ_=>?_) (λ_=>?_)⟩)
  ·refine⟨(sl 5),λp2 hp2=>?_⟩
   refine hide λGg hGg=>?_
   obtain⟨x,h1,h2⟩:=say [5,6,5,12,14] 5 H1 p2 s1 hp2 rfl (by decide) (by decide) (λv H=>Q v H) (λ_ h=>h)
   refine hGg ?_;exact⟨_,rfl,_,_,rfl,rfl,(by show (0:Int) < 5;decide),p2,_,_,_,rfl,rfl,SqL.of ae,h1,h2⟩
  ·refine⟨(sl 5),λp2 hp2=>?_⟩
   refine hide λGg hGg=>?_
   obtain⟨x,h1,h2⟩:=say [12,13,12,14,15] 5 H1 p2 s1 hp2 rfl (by decide) (by decide) (λv H=>Q v H) (λ_ h=>h)
   refine hGg ?_;exact⟨_,rfl,_,_,rfl,rfl,(by show (0:Int) < 5;decide),p2,_,_,_,rfl,rfl,SqL.of ae,h1,h2⟩
end
end My
set_option maxHeartbeats 1000000
namespace My
open PySem L2
seal PySem.wpAny
theorem abW {N:Nat}{e:Ed}(h:EdB (12+N) e)(hN:N<=800):e.th.length+2<=kf/\(R.bh e.th).length<=900:=by
 have lim:kf=16777216:=by decide
 have h1:=(h.ok (by omega)).th.len
 have h2:=h.words.2;exact⟨by omega,by omega⟩
theorem Hs:∀(as:List (Nat×Int×List Nat)) (ws:List V),as.length=ws.length->(a8 ((as.map (·.1)).zip ws)).map (·.1)=(as.map λx=>(x.1:Int)).map kq:=by
 intro as
 induction as with
 |nil=>intro ws _;cases ws <;> rfl
 |cons a as ih =>
  intro ws h;cases ws with
  |nil=>cases h
  |cons w ws =>
   rw[ko,cN,ko,ih ws (by simpa using h)]
   rfl
section
variable{P:me}{w:World}{K:ba}{mg:Str->Option Value}{base:Heap}{A:Adr}
theorem NQ (T:Txt w.params K mg A){i:Nat}:aO P w K mg base CX0 3 A.E7 A.uc ["_law_m","_law_cell","_law_seats_here"] (Hq i):=by
 have gi:aO P w K mg base CX0 1 A.vS A.i4 ["_law_m","_law_number"] (qQ i):=pY T;have KW:aO P w K mg base CX0 2 A.vV A.nF ["_law_m","_law_way"] (Ho i):=Hr T;have vc:aO P w K mg base CX0 2 A.vQ A.nD ["_law_cell"] Ct:=Hb T;have Cv:aO P w K mg base CX0 1 A.Bs A.pG ["_law_cell"] Cs:=Ef T;have pZ:aO P w K mg base CX0 1 A.t9 A.jF ["_law_clause_here"] R.fY:=u5 T;have Ht:aO P w K mg base CX0 1 A.E2 A.t6 ["_law_cell","_law_size","_law_thing"] G9:=NG T;have Q8:aO P w K mg base CX0 1 A.E6 A.ub ["_law_cell","_law_seats_here"] Hm:=NP T;refine T.BL.ok eK (λvs H Q E h=>?_) (λcdv A' outer s H vs Q E hr h=>?_)
 ·obtain⟨m,z,n,c,st,N,rfl,_⟩:=h;rfl
 ·obtain⟨m,z,n,c,st,N,rfl,hm,I,hN,n1,n2,q⟩:=h;obtain⟨aP,aA,aD,aM,ds,ws,es,X⟩:=hm.ex;have hu1:=hr.u1;have jo:=hr.units;have d8:Room 1 _:=hr.mono (by decide)
  have Hu:Room 2 _:=hr;have sV:Room 2 _:=hr;have yj:Room 1 _:=hr.mono (by decide)
  have mV:Room 1 _:=hr.mono (by decide)
  have Ek:Room 1 _:=hr.mono (by decide)
  have NR:Room 1 _:=hr.mono (by decide)
  refine⟨_,(ai (a6 (i:=3) eK.nd rfl (Lk rfl) (a4 cB (pv 1) af))
 (ai (a6 (i:=4) eK.nd rfl (Or.inr rfl) (a4 dg (pv 1) af))
 (ai (a7 (az AS (a4 cB (pv 4) af) af (aL _))
 (aj (a6 (i:=3) eK.nd rfl (Lk rfl) (aW KW Hu rfl T.BK T.uO.kp T.BJ .nil aZ (aa (pv 0) (aa (pv 3) ah)))))
 aH)
 (ai (a6 (i:=4) eK.nd rfl (Or.inr rfl) (a4 dg (pv 4) af))
 (ai (a6 (i:=5) eK.nd rfl (Lk rfl) af)
 (ai (a6 (i:=6) eK.nd rfl (Lk rfl) ao)
 (ai (a7 (az (qr jo) (bc hu1 (pv 0) ao (λ_ _=>rfl)) (bI ah) (aL _))
 (ai (a6 (i:=7) eK.nd rfl (Lk rfl) (aW gi d8 rfl T.kF T.i5.kp T.kD .nil aZ (aa (pv 0) (aa (aK bw (bc hu1 (pv 0) ao (λ_ _=>rfl)) af (λ_ _=>rfl)) ah))))
 (ai (a6 (i:=8) eK.nd rfl (Lk rfl) (aW gi d8 rfl T.kF T.i5.kp T.kD .nil aZ (aa (pv 0) (aa (aK bw (bc hu1 (pv 0) ao (λ_ _=>rfl)) (mj iA af) (λ_ _=>rfl)) ah))))
 (ai (a7 (az bt (aK aN (pv 7) af (λ_ _=>rfl)) ao (aL _))
 (aj (a6 (i:=5) eK.nd rfl (Lk rfl) (bN bO (by rfl) T.kQ hU (aa (aK aN (pv 7) af (λ_ _=>rfl)) ah))))
 aH)
 (aj (a7 (PW.pt (pw_and (az bt (aK aN (pv 8) af (λ_ _=>rfl)) ao (aL _)) (pw_and1 (az AR (aK aN (aK aN (pv 8) af (λ_ _=>rfl)) af (λ_ _=>rfl)) ao (aL _)))))
 (aj (a6 (i:=6) eK.nd rfl (Lk rfl) (aK aN (aK aN (pv 8) af (λ_ _=>rfl)) af (λ_ _=>rfl))))
 aH)))))
 aH)
 (ai (a7 (az rP (pv 3) af (aL _))
 (aj (aG (bj (aa ao (aa (An (scope:=vN) Gx rfl (xo rfl T.wj (aa (a4 cB (pv 4) af) ah)) (λ_ _ _ _ _=>(aW vc sV rfl T.qH T.mI.kp T.qG .nil aZ (aa (a4 cX (a4 dg (pv 5) af) (a4 xq af (pv 0))) ah)))) ah)))))
 aH)
 (ai (a7 (az rP (pv 3) af (aL _))
 (aj (aG (bj (aa ao (aa (aW Ht Ek rfl T.BA T.vZ.kp T.Bz .nil aZ (aa (pv 4) (aa (pv 5) (aa (aW vc sV rfl T.qH T.mI.kp T.qG .nil aZ (aa (a4 dg (pv 4) af) ah)) ah)))) ah)))))
 aH)
 (ai (a7 (az rP (pv 3) af (aL _))
 (aj (aG (bj (aa ao (aa (aW Ht Ek rfl T.BA T.vZ.kp T.Bz .nil aZ (aa (pv 4) (aa (bN bO (by rfl) T.kQ hU (aa (aW pZ mV rfl T.uk T.pM.kp T.uj .nil aZ (aa (pv 6) ah)) ah)) (aa (aW Cv yj rfl T.By T.vY.kp T.Bx .nil aZ (aa (a4 dg (pv 4) af) ah)) ah)))) ah)))))
 aH)
 (ai (a7 (az bt (pv 3) af (aL _))
 (aj (aG (bj (aa ao (aa (bN (tN rfl) (by rfl) T.GO EE (aa af (aa (a4 nX (a4 cX (bc hu1 (pv 0) ao (λ_ _=>rfl)) (a4 cB (pv 4) af)) af) ah))) ah)))))
 aH)
 (ai (a7 (az rP (pv 3) af (aL _))
 (aj (aG (aK bw (bI (aa (bj (aa ao ah)) (aa (bj (aa ao ah)) (aa (bj (aa ao ah)) ah)))) (a4 nX (pv 3) af) (λ_ _=>rfl))))
 aH)
 (ai (a7 (az bt (pv 3) af (aL _))
 (aj (aG (bj (aa ao (aa (aW vc sV rfl T.qH T.mI.kp T.qG .nil aZ (aa (pv 4) ah)) ah)))))
 aH)
 (ai (a7 (az rP (pv 3) af (aL _))
 (aj (aG (bj (aa ao (aa (a4 cX af (a4 cB (pv 4) (pv 2))) (aa af ah))))))
 aH)
 (ai (a7 (az rP (pv 3) af (aL _))
 (aj (aG (aW Q8 NR rfl T.GG T.BI.kp T.GF .nil aZ (aa (pv 4) (aa (pv 2) ah)))))
 aH)
 (ai (a7 (az bt (pv 3) af (aL _))
 (aj (aG (bj (aa ao ah))))
 aH)
 (ai (a7 (PW.pt (pw_and (az (SN hu1) (bc hu1 (pv 0) ao (λ_ _=>rfl)) oV (aL _)) (pw_and1 (az AS (a4 cB (pv 4) af) af (aL _)))))
 (aj (aG (bj (aa ao (aa (aK bw (bN (vK hr.hd) (by rfl) T.wm xD (aa (bc hu1 (pv 0) ao (λ_ _=>rfl)) ah)) (a4 cB (a4 dg (pv 4) af) (bN DB (by rfl) T.kQ hU (aa (bc hu1 (pv 0) ao (λ_ _=>rfl)) ah))) (λ_ _=>rfl)) ah)))))
 aH)
 (aj (aG (bj (aa ao (aa (a4 nX (a4 cB (a4 dg (pv 4) af) (a4 cX (bN bO (by rfl) T.kQ hU (aa (bc hu1 (pv 0) ao (λ_ _=>rfl)) ah)) af)) af) ah)))))))))))))))))))))),?_⟩
  have lim:kf=16777216:=by decide
  have e10:(10:Int) ^ 10=10000000000:=by decide
  refine⟨_,rfl,_,_,rfl,rfl,(by show (0:Int) < 20;decide),_,rfl,_,_,rfl,rfl,⟨by decide,by decide⟩,?_⟩
  dsimp only[f9];have y0:0<=z % 20:=alx _ (by decide)
  have y1:z % 20 < 20:=alb _ (by decide)
  generalize z % 20=y at y0 y1 ⊢;generalize z / 20=x;refine gh (λσ' H'=>∃y:Int,σ'=[some (.ref m),some (.int z),some (.int n),some (.int y),some (.int x),none,none,none,none]/\0<=y/\y < 20/\bu H H') ?r1 (λN' nN=>?f1)
  case f1 =>
   refine⟨_,rfl,_,_,rfl,rfl,(by show (0:Int) < 3;decide),_,_,rfl,rfl,_,rfl,eR (λ_=>?_) (λ_=>?_)⟩
   ·exact⟨_,rfl,_,rfl,m,y,c,st,N,rfl,hm,I,λj H1 j0 j1 s1=>nN _ _ ⟨j,rfl,j0,j1,s1⟩⟩
   ·exact nN _ _ ⟨y,rfl,y0,y1,λ_ _ h=>h⟩
  case r1 =>
  clear y0 y1;rintro σ1 H1 ⟨y,rfl,y0,y1,s1⟩;refine⟨_,rfl,_,_,rfl,rfl,⟨by decide,by decide⟩,?_⟩
  dsimp only[f9];generalize x / 3=x;refine gh (λσ' H'=>σ'=[some (.ref m),some (.int z),some (.int n),some (.int y),some (.int x),some (.int 1),none,none,none]/\H'=H1) ?ra (λN' nN=>nN _ _ ⟨rfl,rfl⟩)
  case ra =>
  rintro σa Ha ⟨rfl,rfl⟩;refine gh (λσ' H'=>σ'=[some (.ref m),some (.int z),some (.int n),some (.int y),some (.int x),some (.int 1),some (.str (ar "")),none,none]/\H'=Ha) ?rb (λN' nN=>nN _ _ ⟨rfl,rfl⟩)
  case rb =>
  rintro σb H1 ⟨rfl,rfl⟩;refine gh (λσ' H'=>∃(k:Int) (cl:Str) (v7 v8:Option V),σ'=[some (.ref m),some (.int z),some (.int n),some (.int y),some (.int x),some (.int k),some (.str cl),v7,v8]/\0<=k/\k<=900/\cl.length+2<=kf/\(R.bh cl).length<=900/\bu H H') ?r2 (λN' nN=>?f2)
  case f2 =>
   have X1:=X.same s1;refine dgv rfl X1.gp ⟨(sl 0),λp hp=>?_⟩
   have s2:=s1.new (o:=.lst []) hp;have X2:=X.same s2;refine⟨eh st.aq,.list [],g8 (SqL.of X2.aq.2),jU (SqL.of ae),kJ _,oi,_,rfl,?_⟩;rw[kH];generalize upd H1 p (.lst [])=H2 at s2 X2 ⊢;rcases aky st.aq with e | ⟨pre,t,e⟩
   ·rw[e];exact bS (nN _ _ ⟨1,_,_,_,rfl,by decide,by decide,by decide +kernel,by decide +kernel,s2⟩)
   refine hide λGg hGg=>?_
   rw[akz]at e;obtain⟨b,r,eb⟩:∃b r,st.aq=b::r:=by
    cases hp:st.aq with
    |nil=>rw[hp]at e;simp at e
    |cons b r=>exact⟨b,r,rfl⟩
   have hb:=I.bT b (by rw[eb];simp)
   have ht:=I.bT t (by rw[e];simp)
   have hA0:atI (st.aq.map nV) 0=some (nV b):=by rw[eb];exact dD (j:=0) rfl
   have hA1:atI (st.aq.map nV) (-1)=some (nV t):=by rw[e,ku];exact gq _ _
   refine hGg ?_;refine vE (by rw[eb];rfl) ?_
   refine⟨_,rfl,dgv rfl X2.gp ⟨aP,_,_,_,rfl,rfl,SqL.of X2.aq.2,hA0,m,b,c,st,rfl,X2.at,hb,λtb htb=>?_⟩⟩
   refine⟨_,rfl,_,rfl,m,_,rfl,X2.gp,_,rfl,aP,_,_,_,rfl,rfl,SqL.of X2.aq.2,hA1,m,t,c,st,rfl,X2.at,ht,λtt htt=>?_⟩
   refine hide λGg hGg=>?_
   obtain⟨_,vb,hvb,abX⟩:=htb;obtain⟨_,vt,hvt,abY⟩:=htt;refine hGg ?_;dsimp only[f9];refine gh (λσ' H'=>∃(k:Int),σ'=[some (.ref m),some (.int z),some (.int n),some (.int y),some (.int x),some (.int k),some (.str (ar "")),some (.ref tb),some (.ref tt)]/\0<=k/\k<=900/\H'=H2) ?r3 (λN2 nN2=>?f3)
   case f3 =>
    refine ixv rfl (SqT.of hvb) dF ⟨rfl,_,rfl,?_⟩;rw[Cg _ (st.mo b).k8]
    by_cases h0:(st.mo b).k=0
    case neg =>
     rw[decide_eq_false h0];exact bS (nN2 _ _ ⟨1,rfl,by decide,by decide,rfl⟩)
    rw[decide_eq_true h0];refine hide λGg hGg=>?_
    have hmo:=I.yf hb;obtain⟨tx,etx⟩:∃tx,st.mo b=.mat tx:=by
     cases hmo:st.mo b with
     |mat tx=>exact⟨tx,rfl⟩
     |_=>rw[hmo]at h0;simp[Mn.k]at h0
    rw[etx]at hvb abX hmo;obtain⟨L,rfl,hL⟩:=abX;have hl:tx.length<=12+N:=hmo.1;refine hGg ?_;refine dJ (ixv rfl (SqT.of hvb) rfl ⟨L,_,rfl,.inl (SqL.of hL.2),nN2 _ _ ⟨_,rfl,?_,?_,rfl⟩⟩)
    ·omega
    ·rw[bo];omega
   case r3 =>
   rintro σ3 H3 ⟨k,rfl,k0,k1,rfl⟩;refine ixv rfl (SqT.of hvt) dF ⟨rfl,_,rfl,?_⟩;rw[bZ _ (st.mo t).k8]
   by_cases h1:(st.mo t).k=1
   case neg =>
    rw[decide_eq_false h1];exact bS (bS (nN _ _ ⟨k,_,_,_,rfl,k0,k1,by decide +kernel,by decide +kernel,s2⟩))
   rw[decide_eq_true h1];refine hide λGg hGg=>?_
   have hmo:=I.yf ht;obtain⟨e,emo⟩:∃e,st.mo t=.chg e:=by
    cases hmo:st.mo t with
    |chg e=>exact⟨e,rfl⟩
    |_=>rw[hmo]at h1;simp[Mn.k]at h1
   rw[emo]at hvt abY hmo;have aix:EdB (12+N) e:=hmo;obtain⟨tc,rfl,htc⟩:=abY;refine hGg ?_;refine dJ (ixv rfl (SqT.of hvt) rfl ⟨tc,_,_,_,rfl,rfl,htc.sq,n6 e,rfl,_,rfl,?_⟩);rw[Fw]
   by_cases hk1:e.k=1
   ·rw[decide_eq_true hk1];exact bS (nN _ _ ⟨k,_,_,_,rfl,k0,k1,by decide +kernel,by decide +kernel,s2⟩)
   ·rw[decide_eq_false hk1];obtain⟨z1,z2⟩:=abW aix (by omega)
    exact dJ (ixv rfl (SqT.of hvt) rfl ⟨tc,_,_,_,rfl,rfl,htc.sq,uQ hk1,nN _ _ ⟨k,_,_,_,rfl,k0,k1,z1,z2,s2⟩⟩)
  case r2 =>
  clear s1;rintro σ2 H2 ⟨k,cl,v7,v8,rfl,k0,k1,c1,c2,s2⟩;have X2:=X.same s2;have tup:∀(d:R.eT) (H3:Hp) (t:Addr) (xs:List V),wO d->bu H H3->H3 t=none->(rh (cc c H) (upd H3 t (.tup xs)) d t)->Q (.ref t) (upd H3 t (.tup xs)):=λd H3 t xs o s3 ht dz=>q d t _ o dz (s3.new ht)
  have num:∀(kd:Str) (ns:List Int) (H3:Hp) (t:Addr),wO (.nums kd ns)->bu H H3->H3 t=none->Q (.ref t) (upd H3 t (.tup (.str kd::ns.map V.int))):=λkd ns H3 t o s3 ht=>tup _ H3 t _ o s3 ht ⟨bY (same_none s3 ht),ae⟩
  refine⟨_,rfl,_,_,rfl,rfl,_,rfl,eR (λ_=>?_) (λg1=>?_)⟩
  ·refine⟨_,rfl,_,_,rfl,rfl,(by show (0:Int) < 5;decide),_,rfl,by omega,by omega,λW hW=>?_⟩
   dsimp only;generalize hm:(x % 5).toNat=mm;have m6:mm<=5:=by omega
   refine J6 (lo:=0) (n:=mm) (λi ys H3=>∃cs:List (List Str),ys=(cs.map (sr R.bl1)).map V.str/\cs.length=i/\(∀x∈cs,R.B5 12 x)/\bu H2 H3/\H3 W=some (.lst ys))
    ⟨[],rfl,rfl,(λx hx=>nomatch hx),aB hW,ae⟩ (by omega) ?_ ?_ ?_
   ·rintro i ys H3 hi ⟨cs,rfl,hl,hg,s3,h3⟩;exact⟨h3,by rw[bo,bo];exact hl⟩
   ·rintro i ys H3 hi ⟨cs,rfl,hl,hg,s3,h3⟩;refine⟨_,rfl,_,_,rfl,rfl,⟨by decide,by decide⟩,_,rfl,_,_,rfl,rfl,.inl ⟨by decide,by decide⟩,_,_,rfl,rfl,_,rfl,λus H4 hus s4=>?_⟩
    refine eB.mk hi (s4 _ _ h3) ⟨cs++[us],by simp,by simp[hl],λe he=>?_,(s3.trans s4).own hW,ae⟩
    rcases List.mem_append.mp he with he | he
    ·exact hg e he
    ·rw[List.mem_singleton.mp he];exact hus
   ·rintro ys H3 ⟨cs,rfl,hl,hg,s3,h3⟩;refine⟨(sl 2),λt ht=>?_⟩
    have nW:W≠t:=aJ h3 ht;refine tup (.mat cs) H3 t _ (.move ⟨by omega,hg⟩) (s2.trans s3) ht ⟨W,⟨bY (same_none (s2.trans s3) ht),ae⟩,bY (same_none s2 hW),(aw nW).trans h3⟩
  refine⟨_,rfl,_,_,rfl,rfl,_,rfl,eR (λ_=>?_) (λg2=>?_)⟩
  ·refine⟨_,rfl,_,rfl,_,rfl,_,_,rfl,rfl,⟨by decide,by decide⟩,_,rfl,λus H3 hus s3=>?_⟩
   refine⟨_,k,_,rfl,k0,k1,λkk j e H4 hk j0 j1 s4 ne he=>⟨(sl 2),λt ht=>?_⟩⟩
   have s24:=s2.trans (s3.trans s4);have net:e≠t:=aJ he ht;exact tup (.ed false kk j us) H4 t _ (.move ⟨hk,⟨by omega,by omega⟩,hus,λz=>nomatch z⟩) s24 ht ⟨e,⟨bY (same_none s24 ht),ae⟩,bY (same_none (s2.trans s3) ne),.inl ((aw net).trans he)⟩
  refine⟨_,rfl,_,_,rfl,rfl,_,rfl,eR (λ_=>?_) (λg3=>?_)⟩
  ·refine⟨_,rfl,_,rfl,cl,rfl,c1,λp hp=>⟨p,_,rfl,.inl (SqL.of ae),_,rfl,_,_,rfl,rfl,⟨by decide,by decide⟩,_,rfl,λu hu=>?_⟩⟩
   have s3:=s2.new (o:=.lst ((R.bh cl).map V.str)) hp;refine⟨_,_,_,rfl,by omega,by rw[bo];omega,λkk j e H4 hk j0 j1 s4 ne he=>⟨(sl 2),λt ht=>?_⟩⟩
   have s24:=s3.trans s4;have net:e≠t:=aJ he ht;have ju:sr R.bl1 [u]=u:=by rfl
   refine tup (.ed true kk j [u]) H4 t _ (.move ⟨hk,⟨by omega,by omega⟩,⟨(by show 1<=12;decide),λz hz=>by rw[List.mem_singleton.mp hz];exact hu⟩,λ_=>rfl⟩) s24 ht ⟨e,⟨bY (same_none s24 ht),ae⟩,bY (same_none s3 ne),.inl ((aw net).trans ?_)⟩
   rw[ju];exact he
  refine⟨_,rfl,rfl,_,rfl,eR (λ_=>?_) (λg4=>?_)⟩
  ·refine dgv rfl X2.gs ⟨_,rfl,_,_,rfl,rfl,(by show (0:Int) < 4;decide),_,_,rfl,rfl,_,_,rfl,rfl,_,_,rfl,(sl 2),λt ht=>?_⟩
   have hs:=I.sit;have x0:0<=x % 4:=alx _ (by decide)
   have x1:x % 4 < 4:=alb _ (by decide)
   refine num (ar "put off") [if st.aI+x % 4 - 1 > 1 then st.aI+x % 4 - 1 else 1] H2 t (.move ⟨by unfold nO;simp,λi hi=>?_⟩) s2 ht
   rw[List.mem_singleton.mp hi,e10];split <;> omega
  refine⟨_,rfl,_,_,rfl,rfl,_,rfl,eR (λg5=>?_) (λg5=>?_)⟩
  ·have y8:8<=y:=by
    have a1:¬y < 7:=λz=>g3 (decide_eq_true z)
    have a2:¬y=7:=λz=>g4 (decide_eq_true (by rw[z]))
    omega
   have y11:y < 11:=of_decide_eq_true g5;refine⟨(sl 1),λt1 h1=>⟨(sl 1),λt2 h2=>⟨(sl 1),λt3 h3=>⟨(sl 3),λp hp=>?_⟩⟩⟩⟩
   have s3:=s2.new (o:=.tup [V.str (ar "close")]) h1;have s4:=s3.new (o:=.tup [V.str (ar "lay")]) h2;have s5:=s4.new (o:=.tup [V.str (ar "rest")]) h3;have s6:=s5.new (o:=.lst [V.ref t1,.ref t2,.ref t3]) hp;have w2:=aB (o:=.tup [V.str (ar "lay")]) h2;have w3:=aB (o:=.tup [V.str (ar "rest")]) h3;have w4:=aB (o:=.lst [V.ref t1,.ref t2,.ref t3]) hp;have pick:y - 8=0\/y - 8=1\/y - 8=2:=by omega
   refine⟨_,rfl,_,_,rfl,rfl,?_⟩;dsimp only;have mk:∀kd,(kd,0)∈nO->wO (.nums kd []):=λkd h=>.move ⟨h,λi hi=>nomatch hi⟩
   rcases pick with e | e | e <;> rw[e]
   ·refine⟨p,_,_,_,rfl,rfl,SqL.of ae,rfl,q (.nums (ar "close") []) t1 _ (mk _ (by unfold nO;simp)) ⟨bY (same_none s2 h1),?_⟩ s6⟩
    exact((w2.trans w3).trans w4) _ _ ae
   ·refine⟨p,_,_,_,rfl,rfl,SqL.of ae,rfl,q (.nums (ar "lay") []) t2 _ (mk _ (by unfold nO;simp)) ⟨bY (same_none s3 h2),?_⟩ s6⟩
    exact(w3.trans w4) _ _ ae
   ·refine⟨p,_,_,_,rfl,rfl,SqL.of ae,rfl,q (.nums (ar "rest") []) t3 _ (mk _ (by unfold nO;simp)) ⟨bY (same_none s4 h3),?_⟩ s6⟩
    exact w4 _ _ ae
  refine⟨_,rfl,rfl,_,rfl,eR (λ_=>?_) (λ_=>?_)⟩
  ·refine⟨_,rfl,_,rfl,λus H3 hus s3=>⟨(sl 2),λt ht=>?_⟩⟩
   exact tup (.pt us) H3 t _ (.move hus) (s2.trans s3) ht ⟨bY (same_none (s2.trans s3) ht),ae⟩
  refine⟨_,rfl,_,_,rfl,rfl,_,rfl,eR (λ_=>?_) (λ_=>?_)⟩
  ·refine⟨_,rfl,_,rfl,_,_,rfl,rfl,(by show (0:Int) < n;omega),_,_,rfl,rfl,(sl 3),λt ht=>?_⟩
   have x0:0<=x % n:=alx _ (by omega)
   have x1:x % n < n:=alb _ (by omega)
   exact num (ar "vote") [1+x % n,0] H2 t (.G6 ⟨by omega,by omega⟩ ⟨by decide,by decide⟩) s2 ht
  refine⟨_,rfl,_,_,rfl,rfl,_,rfl,eR (λ_=>?_) (λ_=>?_)⟩
  ·refine⟨_,rfl,_,rfl,_,_,rfl,n1,n2,λa b t H3 ha hb s3 nt ht=>?_⟩
   exact q (.nums (ar "vote") [a,b]) t H3 (.G6 ha hb) ⟨bY (same_none s2 nt),ht⟩ (s2.trans s3)
  refine⟨_,rfl,rfl,_,rfl,eR (λ_=>?_) (λ_=>?_)⟩
  ·exact⟨(sl 1),λt ht=>num (ar "drop") [] H2 t .drop s2 ht⟩
  have lm:=I.lm;have al:=I.G2;have el:es.length=st.made.length:=by rw[<-X2.ent.len,p6]
  refine dgv rfl X2.ga (λp hp=>?_)
  have s3:=s2.new (o:=.dK []) hp;have X3:=X.same s3;refine⟨aA,p,_,rfl,rfl,X3.ay.2,ae,_,rfl,?_⟩;generalize upd H2 p (.dK [])=H3 at s3 X3 ⊢;have lst:∀(t:Addr),H3 t=none->Q (.ref t) (upd H3 t (.tup [V.str (ar "take"),.int (x / 4 % ((es.length:Int)+3) - 1)])):=λt ht=>by
   have x0:0<=x / 4 % ((es.length:Int)+3):=alx _ (by omega)
   have x1:x / 4 % ((es.length:Int)+3) < (es.length:Int)+3:=alb _ (by omega)
   exact num (ar "take") [x / 4 % ((es.length:Int)+3) - 1] H3 t (.take (by omega) (by omega)) s3 ht
  have wl:=X3.wait.len;have UL:=Hs st.ay ws wl;have hlen:(a8 ((st.ay.map (·.1)).zip ws)).length=st.ay.length:=by
   have:=congrArg List.length UL;rw[bo,bo,bo]at this;exact this
  cases ea:(a8 ((st.ay.map (·.1)).zip ws)).isEmpty with
  |true =>
   refine bS (bS ?_);exact⟨_,rfl,_,_,rfl,rfl,⟨by decide,by decide⟩,dgv rfl X3.gm ⟨aM,_,rfl,.inl (SqL.of X3.lX.2),_,_,rfl,rfl,_,_,rfl,rfl,(by show (0:Int) < (es.length:Int)+3;omega),_,_,rfl,rfl,(sl 2),lst⟩⟩
  |false =>
   refine dJ ?_;refine⟨_,rfl,_,_,rfl,rfl,(by show (0:Int) < 4;decide),_,_,rfl,rfl,_,rfl,eR (λ_=>?_) (λ_=>?_)⟩
   ·have a1:0 < st.ay.length:=by
     rw[<-hlen];cases h:a8 ((st.ay.map (·.1)).zip ws) with
     |nil=>rw[h]at ea;cases ea
     |cons _ _=>exact Nat.succ_pos _
    refine dgv rfl X3.ga ⟨aA,_,_,rfl,X3.ay.2,UL,by rw[bo];omega,λl ns pm so hl=>?_⟩
    have nl:ns.length=st.ay.length:=by rw[pm.length_eq,bo]
    have s4:=s3.new (o:=.lst (ns.map V.int)) hl;have X4:=X.same s4;have hB:SqL K (upd H3 l (.lst (ns.map V.int))) l (ns.map V.int):=SqL.of ae;generalize upd H3 l (.lst (ns.map V.int))=H4 at s4 X4 hB ⊢;refine hide λGg hGg=>?_
    have x0:0<=x / 4 % (st.ay.length:Int):=alx _ (by omega)
    have x1:x / 4 % (st.ay.length:Int) < (st.ay.length:Int):=alb _ (by omega)
    obtain⟨j,ej⟩:∃j:Nat,x / 4 % (st.ay.length:Int)=(j:Int):=⟨(x / 4 % (st.ay.length:Int)).toNat,by omega⟩
    have hj:j < ns.length:=by omega
    have QN:ns[j]∈st.ay.map λx=>(x.1:Int):=pm.mem_iff.mp (List.getElem_mem hj)
    obtain⟨y0,hy0,e0⟩:=List.mem_map.mp QN;obtain⟨yr,er⟩:=(I.asd y0 hy0).2.1;have hno:=I.sP hy0 y0.1 (by rw[er];exact fu)
    have e0':((y0.1:Nat):Int)=ns[j]:=e0;have at1:atI (ns.map V.int) (x / 4 % (st.ay.length:Int))=some (.int ns[j]):=by
     rw[ej];exact dD (by rw[akK,wt hj];rfl)
    refine hGg ?_;refine⟨_,rfl,_,_,rfl,rfl,⟨by decide,by decide⟩,dgv rfl X4.ga ⟨aA,_,rfl,X4.ay.2,_,_,rfl,rfl,(by rw[hlen];show (0:Int) < _;omega),?_⟩⟩
    rw[hlen];refine⟨l,_,_,_,rfl,rfl,hB,at1,(sl 2),λt ht=>?_⟩
    have h1:=hno.1;have h2:=hno.2;exact num (ar "take") [ns[j]] H4 t (.take (by omega) (by omega)) s4 ht
   ·exact⟨_,rfl,_,_,rfl,rfl,⟨by decide,by decide⟩,dgv rfl X3.gm ⟨aM,_,rfl,.inl (SqL.of X3.lX.2),_,_,rfl,rfl,_,_,rfl,rfl,(by show (0:Int) < (es.length:Int)+3;omega),_,_,rfl,rfl,(sl 2),lst⟩⟩
end
end My
set_option maxHeartbeats 1000000
namespace My
open PySem L2
seal PySem.wpAny
theorem f6.free {A:Adr}{i:Nat}{W:Option (Nat×Rl)->Prop}{c c':Col}{H H':Hp}{o:Addr}{st:Ch}(h:∀r,¬W (some (i,r)))(s:Step W c c' H H')(hc:f6 A i c H o st):f6 A i c' H' o st:=by
 obtain⟨dx,aM,aP,aA,aD,aF,aE,aR,ms,ds,ws,fs,es,X⟩:=hc.ex;exact(X.free h s).at
def dnT:Rs->List V
 | .num n=>[.bl true,nV n]
 | .txt z=>[.bl true,.str z]
 | .exc _=>[.bl false,.non]
def KY (A:Adr)(i:Nat):Sp:=λvs H Q _=>∃(o t:Addr) (c:Col) (st:Ch) (N:Nat) (d:R.eT),vs=[.ref o,.ref t]/\f6 A i c H o st/\Inv N st/\N<=800/\wO d/\pU i c H d t /\
 ∀c' H' u,Step (dG i) c c' H H'->f6 A i c' H' o (cA st d).2->c' u=none->H' u=some (.tup (dnT (cA st d).1))->Q (.ref u) H'
def El:Sp:=λvs H Q _=>∃c:Int,vs=[.int c]/\∀n:Int,1<=n->n<=1000000000->Q (.int n) H
section
variable{P:me}{w:World}{K:ba}{mg:Str->Option Value}{base:Heap}{A:Adr}
theorem KZ (T:Txt w.params K mg A):aO P w K mg base CX0 1 A.AA A.qz ["_law_cell"] El:=by
 refine T.xR.ok Kj (λvs H Q E h=>?_) (λcdv A' outer s H vs Q E hr h=>?_)
 ·obtain⟨c,rfl,_⟩:=h;rfl
 ·obtain⟨c,rfl,q⟩:=h;refine⟨_,(ai (a7 (az bt (a4 cB (pv 0) af) af (aL _))
 (aj (aG (a4 cX af (a4 cB (a4 dg (pv 0) af) af))))
 aH)
 (aj (aG (a4 cX af (a4 cB (a4 dg (pv 0) af) (a4 V1 af af)))))),?_⟩
  refine⟨_,rfl,_,_,rfl,rfl,(by show (0:Int) < 2;decide),rfl,_,rfl,eR (λ_=>?_) (λ_=>?_)⟩
  ·refine⟨_,rfl,_,_,rfl,rfl,⟨by decide,by decide⟩,_,_,rfl,rfl,(by show (0:Int) < 9;decide),_,_,rfl,rfl,q _ ?_ ?_⟩ <;> omega
  ·have e:(10:Int) ^ (9:Int).toNat=1000000000:=by decide
   refine⟨_,rfl,_,_,rfl,rfl,⟨by decide,by decide⟩,_,_,rfl,rfl,⟨by decide,by decide,by decide⟩,_,_,rfl,rfl,(by rw[e];show (0:Int) < 1000000000;decide),_,_,rfl,rfl,q _ ?_ ?_⟩ <;> rw[e] <;> omega
theorem Xc.mat (T:Txt w.params K mg A){H:Hp}{C:Value}{d:Option Addr}:∀ {x:Xc},x.At A H C d->akA K C (.ref A.bG)=some true
 | .uV _,⟨e,_⟩=>by rw[e];exact T.jql
 | .pQ _,⟨e,_⟩=>by rw[e];exact T.jqf
 | .Fu _,⟨e,_⟩=>by rw[e];exact T.jqm
 | .mS,⟨e,_⟩=>by rw[e];exact T.jqc
 | .noChange,⟨e,_⟩=>by rw[e];exact T.jqd
 | .noFit,⟨e,_⟩=>by rw[e];exact T.jqo
 | .nothing,⟨e,_⟩=>by rw[e];exact T.jqg
 | .tooMany,⟨e,_⟩=>by rw[e];exact T.jqh
 | .uq,⟨e,_⟩=>by rw[e];exact T.jqi
 | .Cd,⟨e,_⟩=>by rw[e];exact T.jqe
theorem K0 (T:Txt w.params K mg A){i:Nat}:aO P w K mg base (CXX P w) 8 A.Bu A.pI ["_law_chamber","_law_deed_here"] (KY A i):=by
 have CD:aO P w K mg base (CXX P w) 6 A.cj A.iw ["self","ayes","noes"] (QI A i):=Td T;have CF:aO P w K mg base (CXX P w) 6 A.ck A.ix ["self"] (QJ A i):=Tf T;have CG:aO P w K mg base (CXX P w) 6 A.cn A.iy ["self","number"] (QK A i):=Tg T;have CH:aO P w K mg base (CXX P w) 7 A.cg A.iu ["self","told"] (QM A i):=Ti T;refine T.BM.okX xI (λvs H Q E h=>?_) (λcdv A' outer s H vs Q E hr h=>?_)
 ·obtain⟨o,t,c,st,N,d,rfl,_⟩:=h;rfl
 ·obtain⟨o,t,c,st,N,d,rfl,hc,I,hN,hd,hdc,q⟩:=h;obtain⟨dx,aM,aP,aA,aD,aF,aE,aR,ms,ds,ws,fs,es,X⟩:=hc.ex;have zj:Room 6 _:=hr.mono (by decide)
  have zk:Room 6 _:=hr.mono (by decide)
  have zm:Room 6 _:=hr.mono (by decide)
  have zo:Room 7 _:=hr;refine⟨_,(bb (psx (a6 (i:=2) xI.nd rfl (Lk rfl) AK))
 (bb (Sy ⟨rfl,rfl⟩ (bb (iB (az bt (aK aN (pv 1) af (λ_ _=>rfl)) ao (aL _))
 (bE (Aq (As (kK (px g9) (kK (vI (px (pv 0)) T.au T.sy CD zj T.i8 (pax (aa (aK aN (pv 1) af (λ_ _=>rfl)) (aa (aK aN (pv 1) af (λ_ _=>rfl)) ah)))) Ao)))))
 (xy aH))
 (bb (iB (az bt (aK aN (pv 1) af (λ_ _=>rfl)) ao (aL _))
 (bE (Aq (As (kK (px g9) (kK (xA (px (pv 0)) T.au T.sA CF zk T.i9) Ao)))))
 (xy aH))
 (bb (iB (az bt (aK aN (pv 1) af (λ_ _=>rfl)) ao (aL _))
 (bE (Aq (As (kK (px g9) (kK (vI (px (pv 0)) T.au T.sC CG zm T.ja (pax (aa (aK aN (pv 1) af (λ_ _=>rfl)) ah))) Ao)))))
 (xy aH))
 (bE (Aq (As (kK (px g9) (kK (vI (px (pv 0)) T.au T.sx CH zo T.i7 (pax (aa (pv 1) ah))) Ao))))))))
 (Pn rfl T.gC (λ_=>(aj (a6 (i:=2) xI.nd rfl (Lk rfl) (bj (aa g9 (aa AK ah)))))) (Sx ⟨rfl,rfl⟩)))
 (bE (psx (aG (pv 2)))))),?_⟩
  have fin:∀(c1:Col) (H1:Hp) (p:Addr),Step (dG i) c c1 H H1->f6 A i c1 H1 o (cA st d).2->H1 p=none->Q (.ref p) (upd H1 p (.tup (dnT (cA st d).1))):=λc1 H1 p s1 hc1 hp =>
   q (aC c1 p none) _ p (s1.trans (Step.new aU hp)) (hc1.free (W:=λ_=>False) (λ_=>id) (Step.new id hp)) aV ae
  clear q;cases hd with
  | @G6 a b ha hb =>
   rw[jQ]at fin;have ht:SqT K H t [.str (ar "vote"),.int a,.int b]:=SqT.of hdc.2;refine ixv rfl ht rfl ⟨rfl,tst (by decide +kernel) ?_⟩
   refine mtv rfl X.ob (dh (by decide +kernel)) (ixv rfl ht rfl (ixv rfl ht rfl ⟨o,a,b,c,st,N,rfl,hc,I,hN,ha,hb,?_⟩))
   generalize kY st a b=rs at fin ⊢;obtain⟨r,st'⟩:=rs;cases r with
   |num n=>exactλc1 H1 s1 hc1=>⟨(sl 2),λp hp=>fin c1 H1 p s1 hc1 hp⟩
   |txt z=>exactλc1 H1 s1 hc1=>⟨(sl 2),λp hp=>fin c1 H1 p s1 hc1 hp⟩
   |exc x=>exactλc1 H1 C e s1 hc1 hat he=>⟨true,Xc.mat T hat,dJ ⟨(sl 2),λp hp=>⟨_,rfl,fin c1 H1 p s1 hc1 hp⟩⟩⟩
  |drop =>
   rw[jR]at fin;have ht:SqT K H t [.str (ar "drop")]:=SqT.of hdc.2;refine ixv rfl ht rfl ⟨rfl,tsf (by decide +kernel) (ixv rfl ht rfl ⟨rfl,tst (by decide +kernel) ?_⟩)⟩
   refine mtv rfl X.ob (dh (by decide +kernel)) ⟨o,c,st,N,rfl,hc,I,hN,?_⟩
   generalize lJ st=rs at fin ⊢;obtain⟨r,st'⟩:=rs;cases r with
   |num n=>exactλc1 H1 s1 hc1=>⟨(sl 2),λp hp=>fin c1 H1 p s1 hc1 hp⟩
   |txt z=>exactλc1 H1 s1 hc1=>⟨(sl 2),λp hp=>fin c1 H1 p s1 hc1 hp⟩
   |exc x=>exactλc1 H1 C e s1 hc1 hat he=>⟨true,Xc.mat T hat,dJ ⟨(sl 2),λp hp=>⟨_,rfl,fin c1 H1 p s1 hc1 hp⟩⟩⟩
  | @take z h0 h1 =>
   rw[jS]at fin;have ht:SqT K H t [.str (ar "take"),.int z]:=SqT.of hdc.2;refine ixv rfl ht rfl ⟨rfl,tsf (by decide +kernel) (ixv rfl ht rfl ⟨rfl,tsf (by decide +kernel) (ixv rfl ht rfl ⟨rfl,tst (by decide +kernel) ?_⟩)⟩)⟩
   refine mtv rfl X.ob (dh (by decide +kernel)) (ixv rfl ht rfl ⟨o,z,c,st,N,rfl,hc,I,hN,h0,h1,?_⟩)
   generalize stepT st z.toNat=rs at fin ⊢;obtain⟨r,st'⟩:=rs;cases r with
   |num n=>exactλc1 H1 s1 hc1=>⟨(sl 2),λp hp=>fin c1 H1 p s1 hc1 hp⟩
   |txt z=>exactλc1 H1 s1 hc1=>⟨(sl 2),λp hp=>fin c1 H1 p s1 hc1 hp⟩
   |exc x=>exactλc1 H1 C e s1 hc1 hat he=>⟨true,Xc.mat T hat,dJ ⟨(sl 2),λp hp=>⟨_,rfl,fin c1 H1 p s1 hc1 hp⟩⟩⟩
  |move hm =>
   refine hide λGg hGg=>?_
   rw[jT hm]at fin;obtain⟨v,ht,_,_⟩:=sT hm hdc;have k8:=(dH d).k8;refine hGg ?_;refine ixv rfl (SqT.of ht.2) dF ⟨rfl,tsf (Q3 _ k8) (ixv rfl (SqT.of ht.2) dF ⟨rfl,tsf (Q4 _ k8) (ixv rfl (SqT.of ht.2) dF ⟨rfl,tsf (Q5 _ k8) ?_⟩)⟩)⟩;refine mtv rfl X.ob (dh (by decide +kernel)) ⟨_,rfl,o,t,c,st,N,d,rfl,hc,I,hN,hm,hdc,?_⟩
   generalize mU st (dH d) (R.sG d)=rs at fin ⊢;obtain⟨r,st'⟩:=rs;cases r with
   |num n=>exactλc1 H1 s1 hc1=>⟨(sl 2),λp hp=>fin c1 H1 p s1 hc1 hp⟩
   |txt z=>exactλc1 H1 s1 hc1=>⟨(sl 2),λp hp=>fin c1 H1 p s1 hc1 hp⟩
   |exc x=>exactλc1 H1 C e s1 hc1 hat he=>⟨true,Xc.mat T hat,dJ ⟨(sl 2),λp hp=>⟨_,rfl,fin c1 H1 p s1 hc1 hp⟩⟩⟩
theorem NS (T:Txt w.params K mg A){i:Nat}:aO P w K mg base CX0 8 A.Bu A.pI ["_law_chamber","_law_deed_here"] (KY A i) :=
 (K0 T).calm λ_ _ _ _ h=>h
end
end My
set_option maxHeartbeats 1000000
namespace My
open PySem L2
seal PySem.wpAny
mutual
theorem DV.same {K:ba}{H H':Hp}(s:bu H H'):∀(d:PyData) {x:V},DV K H d x->DV K H' d x
 | .none,_,h=>by unfold DV at h ⊢;exact h
 | .bool _,_,h=>by unfold DV at h ⊢;exact h
 | .int _,_,h=>by unfold DV at h ⊢;exact h
 | .str _,_,h=>by unfold DV at h ⊢;exact h
 | .list ds,_,h=>by
  unfold DV at h ⊢;obtain⟨a,xs,e,h1,h2⟩:=h;exact⟨a,xs,e,s.seq h1,DVs.same s ds h2⟩
 | .tuple ds,_,h=>by
  unfold DV at h ⊢;obtain⟨a,xs,e,h1,h2⟩:=h;exact⟨a,xs,e,bM s h1,DVs.same s ds h2⟩
 | .dict _,_,h=>by unfold DV at h;exact h.elim
theorem DVs.same {K:ba}{H H':Hp}(s:bu H H'):∀(ds:List PyData) {xs:List V},DVs K H ds xs->DVs K H' ds xs
 |[],_,h=>by unfold DVs at h ⊢;exact h
 |d::ds,_,h=>by
  unfold DVs at h ⊢;obtain⟨x,r,e,h1,h2⟩:=h;exact⟨x,r,e,DV.same s d h1,DVs.same s ds h2⟩
end
theorem jV {d:PyData}(h1:d.canLay0=true)(h2:d.depth<=64):alI d=true:=by
 show (d.canLay0 && decide (d.depth<=64))=true;rw[h1,decide_eq_true h2];rfl
theorem mh {α:Type}{f:α->PyData}{k:Nat}(h:∀x,alm (f x)<=k):∀xs:List α,aln (xs.map f)<=k
 |[]=>by simp only[akW,aln];omega
 |x::xs=>by
  have h1:=h x;have h2:=mh h xs;simp only[ko,aln];omega
theorem uv {α:Type}{f:α->PyData}:∀ {xs:List α},(∀x∈xs,(f x).canLay0=true)->akO (xs.map f)=true
 |[],_=>by simp only[akW,akO]
 |x::xs,h=>by
  simp only[ko,akO,h x fu,uv λy hy=>h y (ky _ hy),al0]
theorem Hv (ns:List Nat):(eh ns).canLay0=true:=by
 unfold eh;simp only[akG];exact uv λn _=>by simp only[akG]
theorem Hw (ns:List Nat):(eh ns).depth<=2:=by
 unfold eh;have:=mh (f:=λn:Nat=>al1 (n:Int)) (k:=0) (λn=>by simp only[alm];omega) ns
 simp only[alm];omega
theorem Xl (x:Nat×Int×List Nat):(asD x).canLay0=true:=by
 unfold asD;simp only[akG,akO,Hv,al0]
theorem Xm (x:Nat×Int×List Nat):(asD x).depth<=10:=by
 have:=Hw x.2.2;unfold asD;simp only[alm,aln];omega
theorem Q9 (x:Nat×Str):(dcD x).depth<=10:=by
 unfold dcD;simp only[alm,aln];omega
theorem yn {N:Nat}{st:Ch}(I:Inv N st)(ns:List Int):(stD st ns).canLay0=true:=by
 have h1:akO (ns.map λn=>asD (rE st n))=true:=uv λn _=>Xl _
 have h2:akO (st.decided.map dcD)=true:=uv λx hx=>by
  unfold dcD;simp only[akG,akO,I.dw x hx,al0]
 unfold stD;simp only[akG,akO,Hv,h1,h2,al0]
theorem FP (st:Ch)(ns:List Int):(stD st ns).depth<=64:=by
 have h0:=Hw st.aq;have h1:=mh (f:=λn=>asD (rE st n)) (k:=10) (λn=>Xm _) ns
 have h2:=mh (f:=dcD) (k:=10) Q9 st.decided;unfold stD;simp only[alm,aln];omega
theorem sW:∀ {xs ys:List Int},ak2 xs ys->xs.Pairwise (·<=·)->ys.Pairwise (·<=·)->xs=ys
 |[],ys,p,_,_=>(List.Perm.nil_eq p)
 |x::xs,[],p,_,_=>absurd p.length_eq (by simp)
 |x::xs,y::ys,p,hx,hy=>by
  obtain⟨x1,x2⟩:=List.pairwise_cons.mp hx;obtain⟨y1,y2⟩:=List.pairwise_cons.mp hy;have e:x=y:=by
   have a:x∈y::ys:=p.mem_iff.mp fu;have b:y∈x::xs:=p.mem_iff.mpr fu;rcases List.mem_cons.mp a with a | a
   ·exact a
   ·rcases List.mem_cons.mp b with b | b
    ·exact b.symm
    ·exact Int.le_antisymm (x1 y b) (y1 x a)
  subst e;rw[sW (List.perm_cons x |>.mp p) x2 y2]
def AsC (c:Col)(H:Hp)(x:Nat×Int×List Nat)(v:V):Prop:=∃u l,v=.ref u/\(c u=none/\H u=some (.tup [nV x.1,.int x.2.1,.ref l]))/\c l=none/\H l=some (.lst (x.2.2.map nV))
def DcC (c:Col)(H:Hp)(x:Nat×Str)(v:V):Prop:=∃t,v=.ref t/\TupAt c H t [nV x.1,.str x.2]
structure StX (c:Col)(H:Hp)(st:Ch)(ns:List Int)(u l1 R l2:Addr)(ys ds:List V):Prop where
 cu:c u=none
 hu:H u=some (.tup [.int st.aI,.bl st.closed,.ref l1,.ref R,.ref l2])
 c1:c l1=none
 h1:H l1=some (.lst (st.aq.map nV))
 cR:c R=none
 hR:H R=some (.lst ys)
 asd:bD (AsC c H) (ns.map (rE st)) ys
 c2:c l2=none
 h2:H l2=some (.lst ds)
 dec:bD (DcC c H) st.decided ds
def Hx (c:Col)(H:Hp)(st:Ch)(ns:List Int)(u:Addr):Prop:=∃l1 R l2 ys ds,StX c H st ns u l1 R l2 ys ds
theorem AsC.step {W:Option (Nat×Rl)->Prop}{c c':Col}{H H':Hp}{x:Nat×Int×List Nat}{v:V}(s:Step W c c' H H'):AsC c H x v->AsC c' H' x v
 |⟨u,l,e,⟨h1,h2⟩,h3,h4⟩=>⟨u,l,e,eX s h1 h2,eX s h3 h4⟩
theorem DcC.step {W:Option (Nat×Rl)->Prop}{c c':Col}{H H':Hp}{x:Nat×Str}{v:V}(s:Step W c c' H H'):DcC c H x v->DcC c' H' x v
 |⟨t,e,h⟩=>⟨t,e,h.step s⟩
theorem StX.step {W:Option (Nat×Rl)->Prop}{c c':Col}{H H':Hp}{st:Ch}{ns:List Int}{u l1 R l2:Addr}{ys ds:List V}(s:Step W c c' H H')(h:StX c H st ns u l1 R l2 ys ds):StX c' H' st ns u l1 R l2 ys ds :=
 ⟨(eX s h.cu h.hu).1,(eX s h.cu h.hu).2,(eX s h.c1 h.h1).1,(eX s h.c1 h.h1).2,(eX s h.cR h.hR).1,(eX s h.cR h.hR).2,h.asd.imp λ_ _ z=>z.step s,(eX s h.c2 h.h2).1,(eX s h.c2 h.h2).2,h.dec.imp λ_ _ z=>z.step s⟩
theorem Hx.step {W:Option (Nat×Rl)->Prop}{c c':Col}{H H':Hp}{st:Ch}{ns:List Int}{u:Addr}(s:Step W c c' H H'):Hx c H st ns u->Hx c' H' st ns u
 |⟨l1,R,l2,ys,ds,h⟩=>⟨l1,R,l2,ys,ds,h.step s⟩
theorem AsC.dv {K:ba}{c:Col}{H:Hp}{x:Nat×Int×List Nat}{v:V}:AsC c H x v->DV K H (asD x) v
 |⟨u,l,e,⟨_,h3⟩,_,h4⟩=>by
  unfold asD DV;refine⟨u,_,e,SqT.of h3,?_⟩;unfold DVs;refine⟨_,_,rfl,by unfold DV;rfl,?_⟩
  unfold DVs;refine⟨_,_,rfl,by unfold DV;rfl,?_⟩
  unfold DVs;exact⟨_,_,rfl,g8 (SqL.of h4),by unfold DVs;rfl⟩
theorem DcC.dv {K:ba}{c:Col}{H:Hp}{x:Nat×Str}{v:V}:DcC c H x v->DV K H (dcD x) v
 |⟨t,e,h⟩=>by
  subst e;unfold dcD DV;refine⟨t,_,rfl,h.sq,?_⟩;unfold DVs;refine⟨_,_,rfl,by unfold DV;rfl,?_⟩
  unfold DVs;exact⟨_,_,rfl,by unfold DV;rfl,by unfold DVs;rfl⟩
theorem StX.dv {K:ba}{c:Col}{H:Hp}{st:Ch}{ns:List Int}{u l1 R l2:Addr}{ys ds:List V}(h:StX c H st ns u l1 R l2 ys ds):DV K H (stD st ns) (.ref u):=by
 unfold stD DV;refine⟨u,_,rfl,SqT.of h.hu,?_⟩;unfold DVs;refine⟨_,_,rfl,by unfold DV;rfl,?_⟩
 unfold DVs;refine⟨_,_,rfl,by unfold DV;rfl,?_⟩
 unfold DVs;refine⟨_,_,rfl,g8 (SqL.of h.h1),?_⟩;unfold DVs;refine⟨_,_,rfl,?_,?_⟩
 ·unfold DV;refine⟨R,ys,rfl,SqL.of h.hR,?_⟩;rw[show (ns.map λn=>asD (rE st n))=(ns.map (rE st)).map asD by rw[alK];rfl]
  exact bD.dvs (λx v h=>h.dv) h.asd
 ·unfold DVs;refine⟨_,_,rfl,?_,by unfold DVs;rfl⟩
  unfold DV;exact⟨l2,_,rfl,SqL.of h.h2,bD.dvs (λx v h=>h.dv) h.dec⟩
def Hy (A:Adr)(i:Nat):Sp:=λvs H Q _=>∃(o:Addr) (c:Col) (st:Ch),vs=[.ref o]/\f6 A i c H o st/\st.ay.length < 64 /\
 ∀(ns:List Int) (u:Addr) (H':Hp),ak2 ns (st.ay.map λx=>(x.1:Int))->ns.Pairwise (·<=·)->bu H H'->Hx (cc c H) H' st ns u->Q (.ref u) H'
def AsN (H0 H:Hp)(R:Addr)(x:Nat×Int×List Nat)(v:V):Prop:=∃u l,v=.ref u/\(u≠R/\l≠R)/\(H0 u=none/\H0 l=none)/\H u=some (.tup [nV x.1,.int x.2.1,.ref l])/\H l=some (.lst (x.2.2.map nV))
theorem AsN.same {H0 H H':Hp}{R:Addr}{x:Nat×Int×List Nat}{v:V}(s:bu H H'):AsN H0 H R x v->AsN H0 H' R x v
 |⟨u,l,e,h1,h2,h3,h4⟩=>⟨u,l,e,h1,h2,s _ _ h3,s _ _ h4⟩
theorem AsN.upd {H0 H:Hp}{R:Addr}{o:HO}{x:Nat×Int×List Nat}{v:V}:AsN H0 H R x v->AsN H0 (L2.upd H R o) R x v
 |⟨u,l,e,h1,h2,h3,h4⟩=>⟨u,l,e,h1,h2,(aw h1.1).trans h3,(aw h1.2).trans h4⟩
section
variable{P:me}{w:World}{K:ba}{mg:Str->Option Value}{base:Heap}{A:Adr}
theorem NT (T:Txt w.params K mg A){i:Nat}:aO P w K mg base CX0 2 A.bV A.g0 ["self"] (Hy A i):=by
 have sX:aO P w K mg base CX0 1 A.bx A.dE ["self","number"] (abR A i):=C9 T;refine T.fD.ok xF (λvs H Q E h=>?_) (λcdv A' outer s H vs Q E hr h=>?_)
 ·obtain⟨o,c,st,rfl,_⟩:=h;rfl
 ·obtain⟨o,c,st,rfl,hc,hal,q⟩:=h;obtain⟨dx,aM,aP,aA,aD,aF,aE,aR,ms,ds,ws,fs,es,X⟩:=hc.ex;have rF:Room 1 _:=hr;have lim:kf=16777216:=by decide
  refine⟨_,(ai (J5 (i:=1) (scope:=lD) uJ rfl rfl (Lk rfl) (qp (bN (vK hr.hd) (by rfl) T.wm xD (aa (br (pv 0) rfl) ah))) (λ_ _ _ _ _=>(j7 (pv 1) T.au T.kR sX rF T.d5 .nil aZ (aa (pv 0) ah))))
 (aj (aG (bj (aa (br (pv 0) rfl) (aa (br (pv 0) rfl) (aa (dO dW (by rfl) T.nY nB (aa (br (pv 0) rfl) ah)) (aa (pv 1) (aa (dO dW (by rfl) T.nY nB (aa (br (pv 0) rfl) ah)) ah))))))))),?_⟩
  refine eZ rfl X.ob T.au T.jq2 jM ⟨aA,_,_,rfl,X.ay.2,Hs st.ay ws X.wait.len,by rw[bo];exact hal,λl0 ns pm so hl0=>?_⟩
  have nl:ns.length=st.ay.length:=by rw[pm.length_eq,bo]
  have s0:=aB (o:=.lst (ns.map V.int)) hl0;have hB:SqL K (upd H l0 (.lst (ns.map V.int))) l0 (ns.map V.int):=SqL.of ae;generalize upd H l0 (.lst (ns.map V.int))=H1 at s0 hB ⊢;refine⟨l0,rfl,⟨_,hB⟩,λR hR=>?_⟩
  have hR0:=same_none s0 hR;refine xx (K:=K) (a:=l0) (xs:=ns.map V.int) (λj ys H2=>bu H1 H2/\H2 R=some (.lst ys)/\bD (AsN H H2 R) ((ns.take j).map (rE st)) ys) ⟨aB hR,ae,.nil⟩ (by rw[bo];omega) ?_ ?_ ?_
  ·rintro j ys H2 hj ⟨s2,hR2,ha⟩;refine⟨s2.seq hB,hR2,?_⟩;rw[<-ha.len,bo,akX];rw[bo]at hj;omega
  ·rintro j y ys H2 hy ⟨s2,hR2,ha⟩;refine hide λGg hGg=>?_
   obtain⟨n,hn1,rfl⟩:∃n,ns[j]?=some n/\V.int n=y:=by
    rw[akK]at hy;cases ht:ns[j]? with
    |none=>rw[ht]at hy;cases hy
    |some t=>rw[ht]at hy;exact⟨t,rfl,akx hy⟩
   have QN:n∈st.ay.map λx=>(x.1:Int):=pm.mem_iff.mp (akM hn1)
   obtain⟨x0,hx0,e0⟩:=List.mem_map.mp QN;obtain⟨x,hx⟩:∃x,at1 x0.1 st.ay=some x:=by
    cases z:at1 x0.1 st.ay with
    |some x=>exact⟨x,rfl⟩
    |none=>exact absurd (List.mem_map_of_mem hx0) (wH z)
   have e0':((x0.1:Nat):Int)=n:=e0;subst e0';have s02:=s0.trans s2;have X2:=X.same s02;have ea:rE st ((x0.1:Nat):Int)=x:=by unfold rE;rw[Int.toNat_natCast,hx];rfl
   refine hGg ?_;refine mtv rfl X2.ob (dh (by decide +kernel)) ⟨_,rfl,o,x0.1,c,st,x,rfl,X2.at,hx,λl u H3 hl hu s3 h1 h2=>?_⟩
   have hR3:=s3 _ _ hR2;refine eB.mk (List.getElem?_eq_some_iff.mp hy).1 hR3 ⟨(s2.trans s3).own hR,ae,?_⟩;rw[alQ,hn1,ku];refine bD.snoc (ha.imp λ_ _ z=>(z.same s3).upd) ?_
   rw[ea];refine AsN.upd ⟨u,l,rfl,⟨(λz=>by rw[z,hR2]at hu;cases hu),(λz=>by rw[z,hR2]at hl;cases hl)⟩,⟨same_none s02 hu,same_none s02 hl⟩,?_,h1⟩
   rw[(ji hx).1];exact h2
  ·rintro ys H2 ⟨s2,hR2,ha⟩;rw[bo,alr]at ha;have s02:=s0.trans s2;have X2:=X.same s02;refine eZ rfl X2.ob T.au T.jq1 iU (eZ rfl X2.ob T.au T.jq3 qM (eZ rfl X2.ob T.au T.jq0 eO ⟨aP,_,rfl,.inl (SqL.of X2.aq.2),λl1 hl1=>?_⟩))
   have s3:=aB (o:=.lst (st.aq.map nV)) hl1;have X3:=X2.same s3;have s03:=s02.trans s3;refine⟨_,rfl,eZ rfl X3.ob T.au T.jqj yO ⟨aD,_,rfl,.inl (SqL.of X3.dec.2),λl2 hl2=>⟨(sl 5),λu hu=>?_⟩⟩⟩
   have s4:=aB (o:=.lst (ds.map V.ref)) hl2;have s5:=aB (o:=.tup [V.int st.aI,.bl st.closed,.ref l1,.ref R,.ref l2]) hu;have s45:=s4.trans s5;have s05:=s03.trans s45;have X5:=X3.same s45;refine q ns u _ pm so s05 ⟨l1,R,l2,ys,ds.map V.ref,bY (same_none (s03.trans s4) hu),ae,bY (same_none s02 hl1),s45 _ _ ae,bY hR0,(s3.trans s45) _ _ hR2,?_,bY (same_none s03 hl2),s5 _ _ ae,?_⟩
   ·refine ha.imp λx v z=>?_
    refine hide λGg hGg=>?_
    obtain⟨u',l',e,_,⟨z1,z2⟩,z3,z4⟩:=z.same (s3.trans s45);refine hGg ?_;exact⟨u',l',e,⟨bY z1,z3⟩,bY z2,z4⟩
   ·refine bD.mapR (X5.mQ.imp λx t h=>⟨t,rfl,?_,h.2⟩)
    unfold cc;split
    ·exact h.1
    ·rfl
end
end My
set_option maxHeartbeats 1000000
namespace My
open PySem L2
seal PySem.wpAny
def Ch.tot (st:Ch):Nat:=st.aq.length+(st.ay.flatMap (·.2.2)).length+st.decided.length
theorem MX (st:Ch)(n:Nat)(u:Int):(st.lW n u).tot=st.tot:=by
 unfold Ch.tot Ch.lW;rw[alG,gn];simp only[alS,List.flatMap_nil,alj,alE];omega
theorem NU (st:Ch)(m:Mn):(st.carry m).decided=st.decided/\((st.carry m).aI=st.aI\/(st.carry m).aI=st.aI+1)/\(st.carry m).tot=st.tot:=by
 unfold Ch.carry;split
 ·split
  ·split <;> exact⟨rfl,.inl rfl,rfl⟩
  ·exact⟨rfl,.inl rfl,rfl⟩
 ·split
  ·split <;> exact⟨rfl,.inl rfl,rfl⟩
  ·exact⟨rfl,.inl rfl,rfl⟩
 ·split
  ·exact⟨rfl,.inl rfl,MX _ _ _⟩
  ·exact⟨rfl,.inl rfl,rfl⟩
 ·exact⟨rfl,.inl rfl,rfl⟩
 ·split
  ·exact⟨rfl,.inl rfl,MX _ _ _⟩
  ·exact⟨rfl,.inl rfl,rfl⟩
 ·exact⟨rfl,.inr rfl,rfl⟩
 ·exact⟨rfl,.inl rfl,rfl⟩
theorem MY {st:Ch}{pre:List Nat}{n:Nat}(e:st.aq=pre++[n])(wd:Str):(st.popped pre n wd).tot=st.tot:=by
 show pre.length+(st.ay.flatMap (·.2.2)).length+(st.decided++[(n,wd)]).length=st.aq.length+(st.ay.flatMap (·.2.2)).length+st.decided.length
 rw[e,gn,gn,tu,tu];omega
def Xn (w:Str):Prop:=w=sQ\/w=D9\/w=fF
structure Eff (st:Ch)(r:Rs×Ch):Prop where
 sit:r.2.aI=st.aI\/r.2.aI=st.aI+1
 dec:r.2.decided=st.decided\/∃n w,r.2.decided=st.decided++[(n,w)]/\st.aq.getLast?=some n/\Xn w
 tot:st.tot=st.made.length->r.2.tot=r.2.made.length
 exc:∀x,r.1=.exc x->r.2=st
theorem Eff.no (st:Ch)(x:Rs):Eff st (x,st):=⟨.inl rfl,.inl rfl,id,λ_ _=>rfl⟩
theorem Ra (st:Ch)(a b:Int):Eff st (kY st a b):=by
 unfold kY;split
 ·exact Eff.no _ _
 ·rename_i n h;split
  ·exact Eff.no _ _
  ·obtain⟨pre,e⟩:=iV h;have ed:st.aq.dropLast=pre:=by rw[e];exact ala
   rw[ed];have wk:Xn (pV (lI (My.nd (st.mo n).k) a b)):=by
    unfold pV;split
    ·exact .inl rfl
    ·exact .inr (.inl rfl)
   generalize pV (lI (My.nd (st.mo n).k) a b)=wd at wk ⊢;obtain⟨c1,c2,c3⟩:=NU (st.popped pre n wd) (st.mo n);have c4:=Ea (st.popped pre n wd) (st.mo n);have t1:=MY e wd;refine⟨?_,.inr ⟨n,wd,?_,h,wk⟩,?_,λx z=>nomatch z⟩
   ·show (if _ then _ else _:Ch).aI=_\/(if _ then _ else _:Ch).aI=_
    split
    ·exact c2
    ·exact .inl rfl
   ·show (if _ then _ else _:Ch).decided=_
    split
    ·exact c1
    ·rfl
   ·intro z;show (if _ then _ else _:Ch).tot=(if _ then _ else _:Ch).made.length
    split
    ·rw[c3,c4,t1];exact z
    ·rw[t1];exact z
theorem Rb (st:Ch):Eff st (lJ st):=by
 unfold lJ;split
 ·exact Eff.no _ _
 ·rename_i n h;obtain⟨pre,e⟩:=iV h;have ed:st.aq.dropLast=pre:=by rw[e];exact ala
  rw[ed];exact⟨.inl rfl,.inr ⟨n,_,rfl,h,.inr (.inr rfl)⟩,λz=>(MY e fF).trans z,λx z=>nomatch z⟩
theorem Rc {N:Nat}{st:Ch}(I:Inv N st)(n:Nat):Eff st (stepT st n):=by
 unfold stepT;split
 ·rename_i hp;split
  ·exact Eff.no _ _
  ·rename_i x hx;split
   ·exact Eff.no _ _
   ·refine⟨.inl rfl,.inl rfl,λz=>?_,λx z=>nomatch z⟩
    have nd:=I.nd;unfold Ch.all at nd;rw[hp,alY]at nd;have pm:=(yg (List.nodup_append.mp nd).1 (λy hy=>(I.asd y hy).2.1) hx).length_eq
    rw[gn]at pm;have z':st.aq.length+(st.ay.flatMap (·.2.2)).length+st.decided.length=st.made.length:=z
    rw[hp,alE]at z';show x.2.2.length+((st.ay.filter λy=>decide (y.1≠n)).flatMap (·.2.2)).length+st.decided.length=st.made.length
    omega
 ·exact Eff.no _ _
theorem Rf (st:Ch)(m:Mn)(row:Str):Eff st (mU st m row):=by
 unfold mU;split
 ·exact Eff.no _ _
 ·refine⟨.inl rfl,.inl rfl,λz=>?_,λx z=>nomatch z⟩
  show (st.aq++[st.made.length+1]).length+(st.ay.flatMap (·.2.2)).length+st.decided.length=(st.made++[m]).length
  rw[gn,gn,tu,tu];have z':st.aq.length+(st.ay.flatMap (·.2.2)).length+st.decided.length=st.made.length:=z
  omega
theorem NV {N:Nat}{st:Ch}(I:Inv N st){d:R.eT}(h:wO d):Eff st (cA st d):=by
 cases h with
 |G6=>rw[jQ];exact Ra _ _ _
 |drop=>rw[jR];exact Rb _
 |take=>rw[jS];exact Rc I _
 |move h=>rw[jT h];exact Rf _ _ _
theorem CI:∀(L:Nat) (l:List Nat),l.Nodup->(∀n∈l,1<=n/\n<=L)->l.length=L->ak2 l (akL 1 L)
 | 0,l,_,_,h=>by rw[List.length_eq_zero_iff.mp h];exact .nil
 |L+1,l,nd,h,hl=>by
  by_cases m:L+1∈l
  ·have hle:(l.erase (L+1)).length=L:=by rw[List.length_erase_of_mem m];omega
   have ih:=CI L (l.erase (L+1)) (nd.erase _) (λn hn=>by
    obtain⟨h1,h2⟩:=nd.mem_erase_iff.mp hn;have:=h n h2;omega) hle
   refine(List.perm_cons_erase m).trans ?_;rw[List.range'_concat,Nat.one_mul,Nat.add_comm 1];exact(List.Perm.cons _ ih).trans (List.perm_append_singleton _ _).symm
  ·have ih:=wK L l nd (λn hn=>by
    have:=h n hn;have:n≠L+1:=λz=>m (by rw[<-z];exact hn)
    omega)
   omega
def Dc (st:Ch)(ns:List Int):List Nat:=(st.aq++st.decided.map (·.1))++(ns.map (rE st)).flatMap (·.2.2)
theorem Rg {as:List (Nat×Int×List Nat)}(nd:(as.map (·.1)).Nodup){x:Nat×Int×List Nat}(hx:x∈as):at1 x.1 as=some x:=by
 induction as with
 |nil=>cases hx
 |cons y as ih =>
  unfold at1;rw[ko,List.nodup_cons]at nd;rw[akU];rcases List.mem_cons.mp hx with e | hx
  ·rw[e,decide_eq_true rfl]
  ·rw[decide_eq_false (λz=>nd.1 (by rw[z];exact List.mem_map_of_mem hx))]
   exact ih nd.2 hx
theorem yV {N:Nat}{st:Ch}(I:Inv N st){ns:List Int}(pm:ak2 ns (st.ay.map λx=>(x.1:Int))):ak2 (ns.map (rE st)) st.ay:=by
 have h:=pm.map (rE st);have e:(st.ay.map λx=>(x.1:Int)).map (rE st)=st.ay:=by
  rw[alK];refine(ale λx hx=>?_).trans (List.map_id _)
  show (at1 ((x.1:Int)).toNat st.ay).getD _=x;rw[Int.toNat_natCast,Rg I.QH hx];rfl
 rw[e]at h;exact h
theorem Em {N:Nat}{st:Ch}(I:Inv N st)(ft:st.tot=st.made.length){ns:List Int}(pm:ak2 ns (st.ay.map λx=>(x.1:Int))):ak2 (Dc st ns) (akL 1 st.made.length):=by
 have h1:ak2 (Dc st ns) st.all:=by
  unfold Dc Ch.all;rw[alf];exact List.Perm.append_left _ (List.perm_append_comm.trans (alX _ ((yV I pm).flatMap_right _)))
 refine h1.trans (CI _ _ I.nd I.num ?_);rw[<-ft];unfold Ch.all Ch.tot;rw[gn,gn,bo];omega
theorem FQ (n:Nat):((alD n).map λj:Nat=>(1:Int)+(j:Int)).Pairwise (·<=·):=by
 rw[List.pairwise_map];exact List.pairwise_lt_range.imp λh=>by omega
theorem NW (n:Nat):(akL 1 n).map (λk:Nat=>(k:Int))=(alD n).map λj:Nat=>(1:Int)+(j:Int):=by
 rw[List.range'_eq_map_range,alK];refine ale λj _=>?_
 show ((1+j:Nat):Int)=_;omega
theorem K1 {N:Nat}{st:Ch}(I:Inv N st)(ft:st.tot=st.made.length){ns ns':List Int}(pm:ak2 ns (st.ay.map λx=>(x.1:Int)))(pm':ak2 ns' ((Dc st ns).map λk:Nat=>(k:Int)))(so:ns'.Pairwise (·<=·)):ns'=(alD st.made.length).map λj:Nat=>(1:Int)+(j:Int):=by
 refine sW (pm'.trans ?_) so (FQ _);rw[<-NW];exact(Em I ft pm).map _
theorem Rh {N:Nat}{st:Ch}(I:Inv N st)(ft:st.tot=st.made.length){ns:List Int}(pm:ak2 ns (st.ay.map λx=>(x.1:Int))):(Dc st ns).length=st.made.length:=by
 rw[(Em I ft pm).length_eq,ak9]
theorem K2 {st:Ch}{d:R.eT}(h:C8 d):((cA st d).1=.num (st.made.length+1)/\(cA st d).2.made.length=st.made.length+1)\/∃x,(cA st d).1=.exc x:=by
 rw[jT h];unfold mU;split
 ·exact .inr ⟨_,rfl⟩
 ·exact .inl ⟨rfl,by show (st.made++[_]).length=_;rw[gn];rfl⟩
theorem Ri (k:Nat)(v:V):∃r,rowOf k v=.str (nm k)::r:=by
 unfold rowOf;split <;> exact⟨_,rfl⟩
def FR:List V:=[.str (ar "vote"),.str (ar "drop"),.str (ar "take")]
theorem Xo:∀k,k < 8->inV (.str (nm k)) FR=false:=by decide +kernel
theorem NX {K:ba}{i:Nat}{c:Col}{H:Hp}{d:R.eT}{t:Addr}(st:Ch)(hd:wO d)(hz:pU i c H d t):∃z r b,SqT K H t (.str z::r)/\inV (.str z) FR=!b /\
  ((b=true/\(((cA st d).1=.num (st.made.length+1)/\(cA st d).2.made.length=st.made.length+1)\/∃x,(cA st d).1=.exc x))\/(b=false/\(cA st d).2.made.length=st.made.length)):=by
 cases hd with
 | @G6 a b ha hb=>exact⟨_,_,false,SqT.of hz.2,by decide +kernel,.inr ⟨rfl,by rw[jQ];exact NB _ _ _⟩⟩
 |drop=>exact⟨_,_,false,SqT.of hz.2,by decide +kernel,.inr ⟨rfl,by rw[jR];exact NC _⟩⟩
 | @take z h0 h1=>exact⟨_,_,false,SqT.of hz.2,by decide +kernel,.inr ⟨rfl,by rw[jS];exact ND _ _⟩⟩
 |move hm =>
  obtain⟨v,ht,_,_⟩:=sT hm hz;obtain⟨r,e⟩:∃r,rowOf (dH d).k v=.str (nm (dH d).k)::r:=Ri _ _;exact⟨nm (dH d).k,r,true,by rw[<-e];exact SqT.of ht.2,Xo _ (dH d).k8,.inl ⟨rfl,K2 hm⟩⟩
end My
set_option maxHeartbeats 1000000
namespace My
open PySem L2
seal PySem.wpAny
theorem bD.Xp {α β:Type}{R:α->β->Prop}:∀ {as:List α} {bs:List β} {i:Nat} {b:β},bD R as bs->bs[i]?=some b->∃a,as[i]?=some a/\R a b
 |_,_,_,_,.nil,h=>by simp at h
 |_,_,0,_,.cons h t,e=>by
  rw[akE]at e;cases e;exact⟨_,akE,h⟩
 |_,_,i+1,_,.cons h t,e=>by
  rw[akJ]at e;obtain⟨a,e1,e2⟩:=t.Xp e;exact⟨a,by rw[akJ];exact e1,e2⟩
theorem bD.take {α β:Type}{R:α->β->Prop}:∀ {as:List α} {bs:List β} (n:Nat),bD R as bs->bD R (as.take n) (bs.take n)
 |_,_,0,_=>by rw[List.take_zero,List.take_zero];exact .nil
 |_,_,_+1,.nil=>by rw[List.take_nil,List.take_nil];exact .nil
 |_,_,n+1,.cons h t=>by rw[List.take_succ_cons,List.take_succ_cons];exact .cons h (t.take n)
theorem abZ {w:Str}(h:Xn w):inV (.str w) [.str sQ,.str D9,.str fF]=true:=by
 rcases h with z | z | z <;> rw[z] <;> decide +kernel
theorem NY (L:List (Nat×Int×List Nat))(j:Nat):((L.take j).flatMap (·.2.2)).length<=(L.flatMap (·.2.2)).length:=by
 have e:L.flatMap (·.2.2)=(L.take j++L.drop j).flatMap (·.2.2):=by rw[List.take_append_drop]
 rw[e,alG,gn];omega
def En:Sp:=λvs H Q _=>∃(u:Addr) (c:Col) (st:Ch) (ns:List Int),vs=[.ref u]/\Hx c H st ns u/\(∀x∈ns.map (rE st),∃r,x.2.2=x.1::r)/\(Dc st ns).length < 64 /\
 ∀(ns':List Int) (l:Addr) (H':Hp),ak2 ns' ((Dc st ns).map λk:Nat=>(k:Int))->ns'.Pairwise (·<=·)->bu H H'->H' l=some (.lst (ns'.map V.int))->Q (.ref l) H'
def FT:Sp:=λvs H Q _=>∃(u u':Addr) (c:Col) (st:Ch) (ns ns':List Int) (r:Rs×Ch) (N:Nat),vs=[.ref u,.ref u']/\Hx c H st ns u/\Hx c H r.2 ns' u'/\Inv N st/\Eff st r/\∀H',bu H H'->Q (.bl true) H'
theorem Xq (ks:List Nat):ks.map nV=(ks.map λk:Nat=>(k:Int)).map V.int:=by rw[alK];rfl
theorem K4 {N:Nat}{st:Ch}(I:Inv N st):akG (.list (st.decided.map dcD))=true/\alI (.list (st.decided.map dcD))=true:=by
 have h:akG (.list (st.decided.map dcD))=true:=by
  simp only[akG];exact uv λx hx=>by
   unfold dcD;simp only[akG,akO,I.dw x hx,al0]
 refine⟨h,jV h ?_⟩;have:=mh (f:=dcD) (k:=10) Q9 st.decided;simp only[alm];omega
theorem Rj (xs:List V)(n:Nat):fB xs none (some (n:Int))=xs.take n:=by
 unfold fB;rw[HT.tO];show (xs.drop 0).take (min n xs.length - 0)=_;rw[List.drop_zero,Nat.sub_zero];rcases Nat.le_total n xs.length with h | h
 ·rw[Nat.min_eq_left h]
 ·rw[Nat.min_eq_right h,alr,List.take_of_length_le h]
section
variable{P:me}{w:World}{K:ba}{mg:Str->Option Value}{base:Heap}{A:Adr}
theorem FU (T:Txt w.params K mg A):aO P w K mg base CX0 1 A.ud A.lP ["_law_state_here"] En:=by
 refine T.sv.ok gR (λvs H Q E h=>?_) (λcdv A' outer s H vs Q E hr h=>?_)
 ·obtain⟨u,c,st,ns,rfl,_⟩:=h;rfl
 ·obtain⟨u,c,st,ns,rfl,⟨l1,R,l2,ys,ds,X⟩,hhd,hlen,q⟩:=h;have jo:=hr.units;have lim:kf=16777216:=by decide
  refine⟨_,(ai (a6 (i:=1) gR.nd rfl (Lk rfl) (a4 tS (dO dW (by rfl) T.nY nB (aa (aK aN (pv 0) af (λ_ _=>rfl)) ah)) (PEX.pe (Pt (scope:=qV) ⟨rfl,rfl⟩ mz rfl (qp (aK aN (pv 0) af (λ_ _=>rfl))) (λ_ _ _ _ _=>(SD (K:=K) (n:=2) rfl rfl (fA (ei (i:=0) mz.nd2 rfl (Lk rfl)) (fA (ei (i:=1) mz.nd2 rfl (Lk rfl)) vw)))) (λ_ _ _ _ _=>(px (pv 0)))))))
 (ai (AO PassesOwn.never rfl (qp (aK aN (pv 0) af (λ_ _=>rfl))) (AM rfl (fA (ei (i:=2) gR.nd rfl (Lk rfl)) (fA (ei (i:=3) gR.nd rfl (Lk rfl)) (fA (ei (i:=4) gR.nd rfl (Lk rfl)) vw))))
 (ai (a7 (PW.pt (pw_or (az (xu jo) (pv 4) (bI ah) (aL _)) (pw_or1 (az AR (aK bw (pv 4) af (λ_ _=>rfl)) (pv 2) (aL _)))))
 (aj (aG (bI ah)))
 aH)
 (aj (a6 (i:=1) gR.nd rfl (Lk rfl) (a4 tS (pv 1) (pv 4))))))
 (aj (aG (bN ES (by rfl) T.wm xD (aa (pv 1) ah)))))),?_⟩
  have hl0:(Dc st ns).length=st.aq.length+st.decided.length+((ns.map (rE st)).flatMap (·.2.2)).length:=by
   unfold Dc;rw[gn,gn,bo]
  have dl:=X.dec.len;refine ixv rfl (SqT.of X.hu) rfl ⟨l1,_,rfl,.inl (SqL.of X.h1),λp1 hp1=>?_⟩
  have s1:=aB (o:=.lst (st.aq.map nV)) hp1;have Xr:upd H p1 (.lst (st.aq.map nV)) p1=some (.lst (st.aq.map nV)):=ae;generalize upd H p1 (.lst (st.aq.map nV))=H1 at s1 Xr ⊢;refine ixv rfl (SqT.of (s1 _ _ X.hu)) rfl ⟨l2,rfl,⟨_,SqL.of (s1 _ _ X.h2)⟩,λD hD=>?_⟩
  refine Kc (K:=K) (a:=l2) (xs:=ds) (λj ys2 H4=>ys2=((st.decided.take j).map λx=>nV x.1)/\bu H1 H4/\H4 D=some (.lst ys2)) ⟨rfl,aB hD,ae⟩ (by omega) ?_ ?_ ?_
  ·rintro j ys2 H4 hj ⟨rfl,s4,h4⟩;exact⟨SqL.of (s4 _ _ (s1 _ _ X.h2)),h4,by rw[bo,akX];omega⟩
  ·rintro j y ys2 H4 hj ⟨rfl,s4,h4⟩;refine hide λGg hGg=>?_
   obtain⟨x,hx,t,rfl,ht⟩:=X.dec.Xp hj;refine hGg ?_;refine⟨t,_,_,rfl,bM (s1.trans s4) ht.sq,_,rfl,eB.mk (List.getElem?_eq_some_iff.mp hj).1 h4 ⟨?_,s4.own hD,ae⟩⟩;rw[alQ,hx];simp
  ·rintro ys2 H4 ⟨rfl,s4,h4⟩;rw[<-dl,alr]at h4;refine⟨p1,D,_,_,rfl,rfl,s4 _ _ Xr,h4,by rw[bo,bo];omega,λL0 hL0=>?_⟩
   have s5:=aB (o:=.lst (st.aq.map nV++st.decided.map λx=>nV x.1)) hL0
   have hL:upd H4 L0 (.lst (st.aq.map nV++st.decided.map λx=>nV x.1)) L0=some (.lst ((st.aq++st.decided.map (·.1)).map nV)):=by
    rw[ae,ku,alK];rfl
   have s05:=(s1.trans s4).trans s5;generalize upd H4 L0 (.lst (st.aq.map nV++st.decided.map λx=>nV x.1))=H5 at s05 hL ⊢
   clear s5 s4 h4 hL0 hD Xr s1 hp1;dsimp only[f9];refine ixv rfl (SqT.of (s05 _ _ X.hu)) rfl ⟨R,rfl,⟨_,SqL.of (s05 _ _ X.hR)⟩,?_⟩;refine AQ (K:=K) (a:=R) (xs:=ys) (λj σ H6=>∃(L:Addr) (v2 v3 v4:Option V),σ=[some (.ref u),some (.ref L),v2,v3,v4]/\bu H H6/\H6 L=some (.lst (((st.aq++st.decided.map (·.1))++((ns.map (rE st)).take j).flatMap (·.2.2)).map nV)))
    ⟨L0,_,_,_,rfl,s05,by rw[List.take_zero,List.flatMap_nil,alj];exact hL⟩ (λj σ H6 _ ⟨_,_,_,_,_,s6,_⟩=>SqL.of (s6 _ _ X.hR)) ?_ ?_
   ·rintro j y σ H6 hy ⟨L,v2,v3,v4,rfl,s6,hL6⟩;refine hide λGg hGg=>?_
    obtain⟨x,hx,u',l',rfl,⟨_,hu'⟩,_,hl'⟩:=X.asd.Xp hy;obtain⟨r,er⟩:=hhd x (akM hx);refine hGg ?_;refine⟨u',_,rfl,SqT.of (s6 _ _ hu'),rfl,_,_,rfl,_,_,rfl,_,_,rfl,rfl,?_⟩;refine⟨_,rfl,(sl 0),λp hp=>?_⟩
    have s7:=aB (o:=.lst []) hp;refine⟨eh x.2.2,.list [],g8 (SqL.of (s7 _ _ (s6 _ _ hl'))),jU (SqL.of ae),kJ _,oi,_,rfl,?_⟩;rw[kH,er];refine bS ?_;have hl7:=s7 _ _ (s6 _ _ hl');have hL7:=s7 _ _ hL6;have s67:=s6.trans s7;generalize upd H6 p (.lst [])=H7 at hl7 hL7 s67 ⊢;refine ixv rfl (SqL.of hl7) (by rw[er];exact dD (j:=0) rfl) ⟨_,rfl,rfl,tsf (by rw[decide_eq_true rfl];rfl) ?_⟩
    refine⟨_,rfl,_,rfl,L,l',_,_,rfl,rfl,hL7,hl7,?_,λp8 hp8=>?_⟩
    ·have ab0:=NY (ns.map (rE st)) (j+1);rw[alQ,hx,alG,gn]at ab0;simp only[Option.toList_some,alS,List.flatMap_nil,alj]at ab0;rw[bo,bo,gn,gn,bo];omega
    ·refine⟨p8,_,_,_,rfl,s67.new hp8,?_⟩;rw[ae,alQ,hx,alG,<-alf,ku];simp
   ·rintro σ H6 ⟨L,v2,v3,v4,rfl,s6,hL6⟩;rw[<-X.asd.len,alr,Xq]at hL6;exact⟨_,rfl,L,(Dc st ns).map (λk:Nat=>(k:Int)),rfl,SqL.of hL6,by rw[bo];exact hlen,λl ns' pm so hl=>q ns' l _ pm so (s6.new hl) ae⟩
theorem NZ (T:Txt w.params K mg A):aO P w K mg base CX0 1 A.E8 A.ue ["_law_old","_law_new_here"] FT:=by
 refine T.BN.ok xJ (λvs H Q E h=>?_) (λcdv A' outer s H vs Q E hr h=>?_)
 ·obtain⟨u,u',c,st,ns,ns',r,N,rfl,_⟩:=h;rfl
 ·obtain⟨u,u',c,st,ns,ns',⟨rs,st'⟩,N,rfl,⟨l1,R,l2,ys,ds,X⟩,⟨l1',R',l2',ys',ds',X'⟩,I,ef,q⟩:=h;have jo:=hr.units;have lim:kf=16777216:=by decide
  refine⟨_,(ai (a7 (PW.pt (pw_or (az vD (aK aN (pv 1) af (λ_ _=>rfl)) (bj (aa (aK aN (pv 0) af (λ_ _=>rfl)) (aa (a4 cX (aK aN (pv 0) af (λ_ _=>rfl)) af) ah))) rfl) (pw_or (az (qr jo) (mq tQ (aK aN (pv 1) af (λ_ _=>rfl)) tP (nA (bN bO (by rfl) T.kQ hU (aa (aK aN (pv 0) af (λ_ _=>rfl)) ah)))) (aK aN (pv 0) af (λ_ _=>rfl)) (aL _)) (pw_or1 (az AS (bN bO (by rfl) T.kQ hU (aa (aK aN (pv 1) af (λ_ _=>rfl)) ah)) (a4 cX (bN bO (by rfl) T.kQ hU (aa (aK aN (pv 0) af (λ_ _=>rfl)) ah)) af) (aL _))))))
 (aj (aG g9))
 aH)
 (ai (a7 (az bt (bN bO (by rfl) T.kQ hU (aa (aK aN (pv 1) af (λ_ _=>rfl)) ah)) (bN bO (by rfl) T.kQ hU (aa (aK aN (pv 0) af (λ_ _=>rfl)) ah)) (aL _))
 (aj (aG g9))
 aH)
 (ai (xn (aK bw (aK aN (pv 1) af (λ_ _=>rfl)) (mj iA af) (λ_ _=>rfl)) (AM rfl (fA (ei (i:=2) xJ.nd rfl (Lk rfl)) (fA (ei (i:=3) xJ.nd rfl (Lk rfl)) vw))))
 (aj (aG (Ex (iX tR (pv 3) (bj (aa ao (aa ao (aa ao ah)))) rfl) (Ex (iX (qr jo) (aK aN (pv 0) af (λ_ _=>rfl)) (bI ah) (aL _)) (Ew (iX bt (aK bw (aK aN (pv 0) af (λ_ _=>rfl)) (mj iA af) (λ_ _=>rfl)) (pv 2) (aL _)))))))))),?_⟩
  have dl:=X.dec.len;have dl':=X'.dec.len;have sit:=ef.sit;have dec:=ef.dec;clear ef;dsimp only at sit dec X';refine ixv rfl (SqT.of X'.hu) rfl (ixv rfl (SqT.of X.hu) rfl (ixv rfl (SqT.of X.hu) rfl ⟨_,_,rfl,rfl,(sl 2),λp1 hp1=>?_⟩))
  have s1:=aB (o:=.tup [.int st.aI,.int (st.aI+1)]) hp1;refine⟨p1,_,rfl,.inr (SqT.of ae),rfl,rfl,tsf (by rcases sit with e | e <;> rw[e] <;> simp[inV,eqV]) ?_⟩
  generalize upd H p1 (.tup [.int st.aI,.int (st.aI+1)])=H1 at s1 ⊢;refine ixv rfl (SqT.of (s1 _ _ X'.hu)) rfl (ixv rfl (SqT.of (s1 _ _ X.hu)) rfl ⟨l2,_,rfl,.inl (SqL.of (s1 _ _ X.h2)),_,rfl,l2',_,rfl,SqL.of (s1 _ _ X'.h2),λp2 hp2=>?_⟩)
  rw[Rj];have s2:=aB (o:=.lst (ds'.take ds.length)) hp2;have s12:=s1.trans s2;have et:st'.decided.take ds.length=st.decided:=by
   rw[<-dl];rcases dec with e | ⟨n,wd,e,_⟩
   ·rw[e,alr]
   ·rw[e,List.take_left]
  refine ixv rfl (SqT.of (s12 _ _ X.hu)) rfl ⟨.list (st.decided.map dcD),.list (st.decided.map dcD),?_,?_,(K4 I).2,(K4 I).2,_,rfl,?_⟩
  ·unfold DV;refine⟨p2,_,rfl,SqL.of ae,?_⟩;have:=X'.dec.take ds.length;rw[et]at this;exact bD.dvs (λx v h=>DV.same s12 _ h.dv) this
  ·unfold DV;exact⟨l2,_,rfl,SqL.of (s12 _ _ X.h2),bD.dvs (λx v h=>DV.same s12 _ h.dv) X.dec⟩
  rw[eqv_refl _ (K4 I).1];refine bS ?_;generalize upd H1 p2 (.lst (ds'.take ds.length))=H2 at s12 ⊢;clear s2 s1 hp1 hp2;refine ixv rfl (SqT.of (s12 _ _ X'.hu)) rfl ⟨l2',_,rfl,.inl (SqL.of (s12 _ _ X'.h2)),ixv rfl (SqT.of (s12 _ _ X.hu)) rfl ⟨l2,_,rfl,.inl (SqL.of (s12 _ _ X.h2)),_,_,rfl,rfl,_,_,rfl,rfl,tsf ?_ ?_⟩⟩
  ·refine decide_eq_false λz=>?_
   rcases dec with e | ⟨n,wd,e,_⟩
   ·rw[e]at dl';omega
   ·rw[e,gn,tu]at dl';omega
  refine ixv rfl (SqT.of (s12 _ _ X'.hu)) rfl ⟨l2',_,rfl,.inl (SqL.of (s12 _ _ X'.h2)),ixv rfl (SqT.of (s12 _ _ X.hu)) rfl ⟨l2,_,rfl,.inl (SqL.of (s12 _ _ X.h2)),rfl,_,rfl,eR (λ_=>q _ s12) (λne=>?_)⟩⟩
  rcases dec with e | ⟨n,wd,e,hp,hw⟩
  ·exact absurd (by rw[<-dl,<-dl',e];exact decide_eq_true rfl) ne
  ·obtain⟨pre,ep⟩:=iV hp;refine hide λGg hGg=>?_
   obtain⟨y,hy,t,rfl,ht⟩:=X'.dec.get (i:=st.decided.length) (a:=(n,wd)) (by rw[e,ak8 (km _),Nat.sub_self];rfl)
   have QV:atI ds' (-1)=some (.ref t):=by
    have hl:ds'.length=st.decided.length+1:=by rw[<-dl',e,gn];rfl
    obtain⟨d1,d2,ed⟩:∃d1 d2,ds'=d1++[d2]:=by
     rcases aky ds' with z | ⟨d1,d2,z⟩
     ·rw[z]at hl;cases hl
     ·exact⟨d1,d2,by rw[z,akz]⟩
    rw[ed,gq];rw[ed,gn,tu]at hl;rw[ed,ak8 (by omega),show st.decided.length - d1.length=0 by omega]at hy
    exact hy
   refine hGg ?_;refine⟨_,rfl,u',_,_,_,rfl,rfl,SqT.of (s12 _ _ X'.hu),rfl,_,rfl,l2',_,_,_,rfl,rfl,SqL.of (s12 _ _ X'.h2),QV,t,_,rfl,bM s12 ht.sq,rfl,_,_,rfl,_,_,rfl,rfl,?_⟩;refine⟨_,rfl,(sl 3),λp3 hp3=>?_⟩
   have s3:=aB (o:=.tup [.str sQ,.str D9,.str fF]) hp3;refine⟨p3,_,rfl,.inr (SqT.of ae),rfl,rfl,tst (abZ hw) ?_⟩;have s13:=s12.trans s3;generalize upd H2 p3 (.tup [.str sQ,.str D9,.str fF])=H3 at s13 ⊢;refine ixv rfl (SqT.of (s13 _ _ X.hu)) rfl ⟨(sl 0),λp4 hp4=>?_⟩
   have s4:=aB (o:=.lst []) hp4;have s14:=s13.trans s4;refine⟨eh st.aq,.list [],g8 (SqL.of (s14 _ _ X.h1)),jU (SqL.of ae),kJ _,oi,tst (by rw[kH,ep];cases pre <;> rfl) ?_⟩
   refine⟨_,rfl,u,_,_,_,rfl,rfl,SqT.of (s14 _ _ X.hu),rfl,_,rfl,l1,_,_,_,rfl,rfl,SqL.of (s14 _ _ X.h1),(by rw[ep,ku];exact gq _ _),_,rfl,rfl,?_⟩
   rw[show decide (nV n=nV n)=true from decide_eq_true rfl]
   exact q _ s14
end
end My
set_option maxHeartbeats 1000000
namespace My
open PySem L2
seal PySem.wpAny
theorem AH (n:Int):Inv 0 (yR n) :=
 ⟨km 0,km 0,km 0,km 0,(λ_ h=>nomatch h),⟨by show (1:Int)<=1;decide,by show (1:Int)<=_;decide⟩,(λ_ h=>nomatch h),(λ_ h=>nomatch h),List.nodup_nil,.nil,(λ_ h=>nomatch h),rfl,rfl,(λ_ h=>nomatch h)⟩
theorem Tt (xs:List V):(fB xs (some 1) (some 63)).length<=62:=by
 unfold fB;rw[show (1:Int)=((1:Nat):Int) from rfl,show (63:Int)=((63:Nat):Int) from rfl,HT.tO,HT.tO,akX,alL]
 omega
theorem N0 {W:Option (Nat×Rl)->Prop}(n:¬W none){c c':Col}{H1 H2:Hp}{x dx:Addr}{o:HO}(hx:H1 x=none)(hdx:H1 dx=none)(hk:∀a v,(upd (upd H1 dx (.own x)) x o) a=some v->a≠x->H2 a=some v/\c' a=c a):Step W c c' H1 H2:=by
 have old:∀a v,H1 a=some v->H2 a=some v/\c' a=c a:=λa v h =>
  hk a v ((aw (aJ h hx)).trans ((aw (aJ h hdx)).trans h)) (aJ h hx)
 exact⟨n,λa v h _=>(old a v h).1,λa v h=>⟨v,(old a v h).1⟩,λa v h _=>(old a v h).2⟩
theorem jq.other {i j:Nat}(n:i≠j){c c':Col}{H H':Hp}{m:Addr}{st:Ch}(s:Step (dG j) c c' H H')(h:jq i c H m st):jq i c' H' m st:=h.free (λr=>B8 n r) s
theorem Hz (st:Ch)(m:Mn):(st.carry m).cC=st.cC:=by
 unfold Ch.carry;split
 ·split
  ·split <;> rfl
  ·rfl
 ·split
  ·split <;> rfl
  ·rfl
 ·split <;> rfl
 ·rfl
 ·split <;> rfl
 ·rfl
 ·rfl
theorem wR (st:Ch):st.opened.cC=st.cC:=by unfold Ch.opened;rfl
theorem HA {st:Ch}{d:R.eT}(h:wO d):(cA st d).2.cC=st.cC:=by
 cases h with
 |G6 =>
  rw[jQ];unfold kY;split
  ·rfl
  ·split
   ·rfl
   ·show ((if _ then _ else _:Ch).uY _).cC=_
    unfold Ch.uY;rw[show ∀(x:Ch) (r:List Str),({ x.opened with rows:=r }:Ch).cC=x.opened.cC from λ_ _=>rfl,wR]
    split
    ·rw[Hz];rfl
    ·rfl
 |drop =>
  rw[jR];unfold lJ;split
  ·rfl
  ·show ((_:Ch).uY _).cC=_;unfold Ch.uY;rw[show ∀(x:Ch) (r:List Str),({ x.opened with rows:=r }:Ch).cC=x.opened.cC from λ_ _=>rfl,wR]
   rfl
 |take =>
  rw[jS];unfold stepT;split
  ·split
   ·rfl
   ·split <;> rfl
  ·rfl
 |move h =>
  rw[jT h];unfold mU;split <;> rfl
structure Base (A:Adr)(l o m:Addr)(cs:List V)(c:Col)(H:Hp)(st:Ch):Prop where
 cl:c l=none
 hl:H l=some (.lst cs)
 one:f6 A 1 c H o st
 two:jq 2 c H m st
theorem Base.free {A:Adr}{l o m:Addr}{cs:List V}{c c':Col}{H H':Hp}{st:Ch}{W:Option (Nat×Rl)->Prop}(h1:∀r,¬W (some (1,r)))(h2:∀r,¬W (some (2,r)))(s:Step W c c' H H')(b:Base A l o m cs c H st):Base A l o m cs c' H' st :=
 ⟨(eX s b.cl b.hl).1,(eX s b.cl b.hl).2,b.one.free h1 s,b.two.free h2 s⟩
def MZ (K:ba):Sp:=λvs H Q _=>∃(a:Addr) (ns:List Int),vs=[.ref a]/\SqL K H a (ns.map V.int)/\ns.length<=63/\∀H',Q (.bl true) H'
theorem ab1 (r:Rs):∃b v,dnT r=[.bl b,v]/\(b=false->∃x,r=.exc x)/\(∀n,r=.num n->v=nV n)/\(∀x,r=.exc x->b=false):=by
 cases r with
 |num n=>exact⟨true,_,rfl,(λz=>nomatch z),(λ_ e=>by cases e;rfl),λ_ e=>nomatch e⟩
 |txt z=>exact⟨true,_,rfl,(λz=>nomatch z),(λ_ e=>nomatch e),λ_ e=>nomatch e⟩
 |exc x=>exact⟨false,_,rfl,(λ_=>⟨x,rfl⟩),(λ_ e=>nomatch e),λ_ _=>rfl⟩
theorem Rk {K:ba}{H:Hp}(n:Int):DV K H (.int n) (.int n):=by unfold DV;rfl
theorem Rm (n:Int):alI (.int n)=true:=jV (by simp only[akG]) (by simp only[alm];omega)
theorem UM {K:ba}{H:Hp}{a:Addr}{ns:List Int}(h:SqL K H a (ns.map V.int)):DV K H (.list (ns.map al1)) (.ref a):=by
 unfold DV;exact⟨a,_,rfl,h,FJ (f:=al1) (g:=V.int) λn _=>by unfold DV;rfl⟩
theorem K5 (ns:List Int):akG (.list (ns.map al1))=true/\alI (.list (ns.map al1))=true:=by
 have h:akG (.list (ns.map al1))=true:=by
  simp only[akG];exact uv λn _=>by simp only[akG]
 refine⟨h,jV h ?_⟩;have:=mh (f:=al1) (k:=0) (λn=>by simp only[alm];omega) ns
 simp only[alm];omega
structure Old (c:Col)(H:Hp)(st:Ch)(u:Addr)(ns:List Int):Prop where
 at_:Hx c H st ns u
 pm:ak2 ns (st.ay.map λx=>(x.1:Int))
 so:ns.Pairwise (·<=·)
theorem Old.step {W:Option (Nat×Rl)->Prop}{c c':Col}{H H':Hp}{st:Ch}{u:Addr}{ns:List Int}(s:Step W c c' H H')(o:Old c H st u ns):Old c' H' st u ns:=⟨o.at_.step s,o.pm,o.so⟩
theorem Old.dv {K:ba}{c:Col}{H:Hp}{st:Ch}{u:Addr}{ns:List Int}(o:Old c H st u ns):DV K H (stD st ns) (.ref u):=by
 obtain⟨_,_,_,_,_,X⟩:=o.at_;exact X.dv
theorem Inv.heads {N:Nat}{st:Ch}(I:Inv N st){ns:List Int}(pm:ak2 ns (st.ay.map λx=>(x.1:Int))):∀x∈ns.map (rE st),∃r,x.2.2=x.1::r:=λx hx =>
 (I.asd x ((yV I pm).mem_iff.mp hx)).2.1
section
variable{P:me}{w:World}{K:ba}{mg:Str->Option Value}{base:Heap}{A:Adr}
set_option maxHeartbeats 20000000 in
theorem Xs {f:Addr}{fd:ki}(F:Fun K "law" "law" vO f fd)(T:Txt w.params K mg A):aO P w K mg base CX0 20 f fd ["_law_script"] (MZ K):=by
 have HB:aO P w K mg base CX0 1 A.t5 A.lO ["_law_script","_law_k"] (QR K):=FK T;have N1:aO P w K mg base CX0 1 A.AA A.qz ["_law_cell"] El:=KZ T;have Tu:aO P w K mg base CX0 1 A.Mj A.vR [] MS:=Q7 T;have Rn:aO P w K mg base CX0 3 A.E7 A.uc ["_law_m","_law_cell","_law_seats_here"] (Hq 2):=NQ T;have Tv:aO P w K mg base CX0 5 A.Ml A.vU ["_law_m","_law_deed_here","_law_seats_here"] (UK 2):=Q6 T;have Ro:aO P w K mg base CX0 8 A.Bu A.pI ["_law_chamber","_law_deed_here"] (KY A 1):=NS T;have HC:aO P w K mg base CX0 1 A.ud A.lP ["_law_state_here"] En:=FU T;have Rp:aO P w K mg base CX0 1 A.E8 A.ue ["_law_old","_law_new_here"] FT:=NZ T;have N3:aO P w K mg base CX0 2 A.cf A.ir ["self","seats"] (UJ A):=Xd T;have rj:aO P w K mg base CX0 2 A.bV A.g0 ["self"] (Hy A 1):=NT T;refine F.ok lq (λvs H Q E h=>?_) (λcdv A' outer s H vs Q E hr h=>?_)
 ·obtain⟨a,ns,rfl,_⟩:=h;rfl
 ·obtain⟨a,ns,rfl,hS,hlen,q⟩:=h;have FV:Room 1 _:=hr.mono (by decide)
  have K6:Room 1 _:=hr.mono (by decide)
  have Rq:Room 1 _:=hr.mono (by decide)
  have N4:Room 3 _:=hr.mono (by decide)
  have Rr:Room 5 _:=hr.mono (by decide)
  have N5:Room 8 _:=hr.mono (by decide)
  have FW:Room 1 _:=hr.mono (by decide)
  have N6:Room 1 _:=hr.mono (by decide)
  have K7:Room 3 _:=hr.mono (by decide)
  have p7:Room 2 _:=hr.mono (by decide)
  have hu1:=hr.u1;have jo:=hr.units;refine⟨_,(ai (a6 (i:=1) lq.nd rfl (Lk rfl) (aW N1 K6 rfl T.DS T.xR.kp T.DR .nil aZ (aa (aW HB FV rfl T.yJ T.sj.kp T.yI .nil aZ (aa (pv 0) (aa af ah))) ah)))
 (ai (a6 (i:=2) lq.nd rfl (Lk rfl) (gK T.DU N3 K7 rfl T.DT T.i6 .nil aZ (aa (pv 1) ah)))
 (ai (a6 (i:=3) lq.nd rfl (Lk rfl) (OV Tu Rq rfl T.Mo T.Fc.kp T.Mm .nil aZ))
 (ai (a6 (i:=4) lq.nd rfl (Lk rfl) af)
 (ai (a6 (i:=5) lq.nd rfl (Lk rfl) (gk (pv 2) T.au T.lz rj p7 T.fE .nil aZ))
 (ai (a7 (az (qr jo) (pv 5) (bj (aa af (aa g9 (aa (bI ah) (aa (bI ah) (aa (bI ah) ah)))))) (aL _))
 (aj (aG g9))
 aH)
 (ai (AO PassesOwn.never rfl (qp (mq tQ (pv 0) (nA af) (nA af))) (ei (i:=6) lq.nd rfl (Lk rfl))
 (ai (a6 (i:=7) lq.nd rfl (Lk rfl) (aW Rn N4 rfl T.GI T.BL.kp T.GH .nil aZ (aa (pv 3) (aa (pv 6) (aa (pv 1) ah)))))
 (ai (a6 (i:=8) lq.nd rfl (Lk rfl) (aW Ro N5 rfl T.GK T.BM.kp T.GJ .nil aZ (aa (pv 2) (aa (pv 7) ah))))
 (ai (bL (aW Tv Rr rfl T.Mq T.Fd.kp T.Mp .nil aZ (aa (pv 3) (aa (pv 7) (aa (pv 1) ah)))))
 (ai (a7 (PW.pt (pw_and (mi (aK aN (pv 8) af (λ_ _=>rfl))) (pw_and1 (az vD (aK aN (pv 7) af (λ_ _=>rfl)) (bj (aa ao (aa ao (aa ao ah)))) rfl))))
 (ai (a6 (i:=4) lq.nd rfl (Lk rfl) (a4 cX (pv 4) af))
 (aj (a7 (az (qr jo) (aK aN (pv 8) af (λ_ _=>rfl)) (pv 4) (aL _))
 (aj (aG g9))
 aH)))
 aH)
 (ai (a6 (i:=9) lq.nd rfl (Lk rfl) (gk (pv 2) T.au T.lz rj p7 T.fE .nil aZ))
 (ai (a7 (PW.pt (pw_or (PW.pt (pw_and (az AS (pv 4) af (aL _)) (pw_and1 (az (qr jo) (aW HC FW rfl T.yL T.sv.kp T.yK .nil aZ (aa (pv 9) ah)) (Kg rfl (by rfl) T.nY (by rfl) T.wj (aa af (aa (a4 cX (pv 4) af) ah))) (aL _))))) (pw_or1 (qo (mi (aW Rp N6 rfl T.GN T.BN.kp T.GL .nil aZ (aa (pv 5) (aa (pv 9) ah))))))))
 (aj (aG g9))
 aH)
 (ai (a7 (PW.pt (pw_and (qo (mi (aK aN (pv 8) af (λ_ _=>rfl)))) (pw_and1 (az (qr jo) (pv 9) (pv 5) (aL _)))))
 (aj (aG g9))
 aH)
 (aj (a6 (i:=5) lq.nd rfl (Lk rfl) (pv 9)))))))))))
 (aj (aG g9))))))))),?_⟩
  have sz:kf=16777216:=by decide
  refine⟨_,rfl,a,ns,0,rfl,hS,Int.le_refl _,λfi=>⟨fi,rfl,λn n1 n2=>?_⟩⟩
  dsimp only[f9];refine⟨_,rfl,λo d1 ho1 hd1 ne1=>⟨o,d1,n,rfl,ae,λH2 h2=>⟨rfl,?_⟩⟩⟩
  refine hide λGg hGg=>?_
  obtain⟨c1,k1,ch1⟩:=h2 1 (λ_=>none)
  have st1:Step (λ_=>False) (λ_=>none) c1 H H2:=N0 id ho1 hd1 k1
  have sm1:bu H H2:=λa v h=>st1.keep a v h id
  have hS2:=sm1.seq hS;clear k1 ho1 hd1 ne1 h2;refine hGg ?_;refine⟨rfl,λm H3 h3=>?_⟩
  refine hide λGg hGg=>?_
  obtain⟨c2,st2,md2⟩:=h3 2 c1 n;have sm2:bu H2 H3:=λa v h=>st2.keep a v h id
  have hS3:=sm2.seq hS2;have ch2:=ch1.free (λ_=>id) st2
  clear h3 hS2 st1 st2 sm1 sm2 ch1;refine hGg ?_;dsimp only[f9];refine hide λGg hGg=>?_
  obtain⟨dx0,aM0,aP0,aA0,aD0,aF0,aE0,aR0,ms0,ds0,ws0,fs0,es0,X0⟩:=ch2.ex;refine hGg ?_;refine mtv rfl X0.ob (dh (by decide +kernel)) ⟨o,c2,yR n,rfl,ch2,(by show 0 < 64;decide),λns0 u0 H33 pm0 so0 s33 at0=>?_⟩
  have Xt:Step (λ_=>False) c2 (cc c2 H3) H3 H33:=Step.cl id s33
  have ab2:=s33.seq hS3;have Xu:=ch2.free (λ_=>id) Xt
  have Xv:=md2.free (λ_=>id) Xt
  have Tw:Old (cc c2 H3) H33 (yR n) u0 ns0:=⟨at0,pm0,so0⟩;have e0:ns0=[]:=List.Perm.eq_nil pm0;subst e0;generalize cc c2 H3=c3 at Xu Xv Tw;clear Xt hS3 ch2 md2 X0 pm0 so0 at0 s33;refine⟨_,rfl,(sl 0),λp1 hp1=>⟨(sl 0),λp2 hp2=>⟨(sl 0),λp3 hp3=>⟨(sl 5),λp4 hp4=>?_⟩⟩⟩⟩
  have t1:=aB (o:=.lst []) hp1;have t2:=aB (o:=.lst []) hp2;have t3:=aB (o:=.lst []) hp3;have t4:=aB (o:=.tup [.int 1,.bl false,.ref p1,.ref p2,.ref p3]) hp4;have t34:=t3.trans t4;have t24:=t2.trans t34;have t14:=t1.trans t24;refine⟨stD (yR n) [],stD (yR n) [],DV.same t14 _ Tw.dv,?_,jV (yn (AH n) []) (FP _ []),jV (yn (AH n) []) (FP _ []),_,rfl,?_⟩
  ·unfold stD DV;refine⟨p4,_,rfl,SqT.of ae,?_⟩;unfold DVs;refine⟨_,_,rfl,by unfold DV;rfl,?_⟩
   unfold DVs;refine⟨_,_,rfl,by unfold DV;rfl,?_⟩
   unfold DVs;refine⟨_,_,rfl,jU (SqL.of (t24 _ _ ae)),?_⟩;unfold DVs;refine⟨_,_,rfl,jU (SqL.of (t34 _ _ ae)),?_⟩;unfold DVs;exact⟨_,_,rfl,jU (SqL.of (t4 _ _ ae)),by unfold DVs;rfl⟩
  rw[eqv_refl _ (yn (AH n) [])];refine bS ?_;have st4:Step (λ_=>False) c3 (cc c3 H33) H33 _:=Step.cl id t14
  have hS4:=t14.seq ab2;have ch4:=Xu.free (λ_=>id) st4
  have md4:=Xv.free (λ_=>id) st4
  have Tx:=Tw.step st4;generalize cc c3 H33=c4 at ch4 md4 Tx;generalize upd _ p4 _=H34 at hS4 ch4 md4 Tx ⊢;clear st4 t1 t2 t3 t4 t34 t24 t14 ab2 Xu Xv Tw;refine⟨_,rfl,_,rfl,_,rfl,a,_,rfl,hS4,λl hl=>⟨l,rfl,⟨_,SqL.of ae⟩,?_⟩⟩
  have hcl:=Tt (ns.map V.int);have isI:∀x∈fB (ns.map V.int) (some 1) (some 63),∃z,x=V.int z:=λx hx=>by
   obtain⟨z,_,e⟩:=List.mem_map.mp (Tn hx);exact⟨z,e.symm⟩
  have st5:Step (λ_=>False) c4 (aC c4 l none) H34 (upd H34 l (.lst (fB (ns.map V.int) (some 1) (some 63)))):=Step.new id hl
  have b0:Base A l o m (fB (ns.map V.int) (some 1) (some 63)) (aC c4 l none) (upd H34 l (.lst (fB (ns.map V.int) (some 1) (some 63)))) (yR n) :=
   ⟨aV,ae,ch4.free (λ_=>id) st5,md4.free (λ_=>id) st5⟩
  have Xw:=Tx.step st5;generalize upd H34 l (.lst (fB (ns.map V.int) (some 1) (some 63)))=H4 at b0 Xw ⊢;generalize aC c4 l none=c5 at b0 Xw;clear st5 ch4 md4 hS4 hl Tx;generalize fB (ns.map V.int) (some 1) (some 63)=cs at b0 hcl isI ⊢;refine AQ (K:=K) (a:=l) (xs:=cs) (λj σ Hj=>∃(k:Int) (u:Addr) (v6 v7 v8 v9:Option V),σ=[some (.ref a),some (.int n),some (.ref o),some (.ref m),some (.int k),some (.ref u),v6,v7,v8,v9]/\∃(c:Col) (st:Ch) (ns:List Int),Base A l o m cs c Hj st/\Inv (3 * j) st/\st.cC=n/\k=(st.made.length:Int)/\st.tot=st.made.length/\Old c Hj st u ns)
   ⟨_,_,_,_,_,_,rfl,c5,_,_,b0,AH n,rfl,rfl,rfl,Xw⟩ (λj σ Hj _ ⟨_,_,_,_,_,_,_,_,_,_,b,_⟩=>SqL.of b.hl) ?_ ?_
  ·rintro j y σ Hj hy ⟨k,u,v6,v7,v8,v9,rfl,c,st,ns1,b,I,es,ek,ft,od⟩;refine hide λGg hGg=>?_
   subst ek;obtain⟨z,rfl⟩:=isI _ (akM hy);have jl:j < cs.length:=(List.getElem?_eq_some_iff.mp hy).1;have hN:3 * j<=800:=by omega
   refine hGg ?_;refine⟨_,rfl,_,rfl,_,rfl,m,z,n,c,st,3 * j,rfl,b.two,I,by omega,n1,n2,λd t H5 hd hz s5=>?_⟩
   have st5:Step (λ_=>False) c (cc c Hj) Hj H5:=Step.cl id s5
   have b5:=b.free (λ_=>id) (λ_=>id) st5
   have od5:=od.step st5;generalize cc c Hj=c5 at hz b5 od5;clear st5 s5 b od;dsimp only[f9];refine⟨_,rfl,_,rfl,o,t,c5,st,3 * j,d,rfl,b5.one,I,hN,hd,hz.c,λc6 H6 u6 s6 ch6 cu6 hu6=>?_⟩
   have md6:=b5.two.other (by decide) s6
   have kl6:=eX s6 b5.cl b5.hl;have od6:=od5.step s6;have hz6:=hz.step s6;clear s6 b5 od5 hz;dsimp only[f9];refine⟨_,rfl,_,rfl,_,rfl,m,t,c6,st,3 * j,d,(by rw[es];rfl),md6,I,hN,hd,hz6,λc7 H7 u7 s7 md7 cu7 hu7=>?_⟩
   refine hide λGg hGg=>?_
   have ch7:=ch6.other (by decide) s7
   have kl7:=eX s7 kl6.1 kl6.2;have od7:=od6.step s7;have hz7:=hz6.step s7;have Rt:=(eX s7 cu6 hu6).2;clear s7 ch6 md6 kl6 od6 hz6 cu6 hu6 cu7 hu7;have ef:=NV I hd;have I8:=I.cA hN hd;have es8:(cA st d).2.cC=n:=(HA hd).trans es;have ft8:=ef.tot ft;obtain⟨zw,rw_,kb,hsq,hin,hkd⟩:=NX (K:=K) st hd hz7.c (i:=0);obtain⟨fb,fv,hdn,hf1,hf2,hf3⟩:=ab1 (cA st d).1;rw[hdn]at Rt;refine hGg ?_;dsimp only[f9];refine gh (λσ' H'=>bu H7 H'/\σ'=[some (.ref a),some (.int n),some (.ref o),some (.ref m),some (.int ((cA st d).2.made.length:Int)),some (.ref u),some (.int z),some (.ref t),some (.ref u6),v9]) ?r1 (λN nN=>?f1)
   case f1 =>
    refine ixv rfl (SqT.of Rt) rfl ⟨fb,rfl,?_⟩;cases fb with
    |false =>
     obtain⟨x,ex⟩:=hf1 rfl;have e2:=ef.exc x ex;refine bS (bS (nN _ _ ⟨bu.refl _,by rw[e2];rfl⟩))
    |true =>
     refine dJ (ixv rfl hsq (dD (j:=0) rfl) ⟨(sl 3),λp hp=>⟨p,FR,rfl,.inr (SqT.of ae),rfl,rfl,_,rfl,?_⟩⟩)
     have s8:=aB (o:=.tup FR) hp;rw[if_pos rfl,hin,Bool.not_not];rcases hkd with ⟨rfl,hk⟩ | ⟨rfl,hk⟩
     ·rcases hk with ⟨e1,e2⟩ | ⟨x,ex⟩
      ·refine dJ ⟨_,rfl,_,_,rfl,rfl,?_⟩;have ev:=hf2 _ e1;subst ev;dsimp only[f9];refine ixv rfl (SqT.of (s8 _ _ Rt)) rfl ⟨_,rfl,.int ((st.made.length+1:Nat):Int),.int ((st.made.length:Int)+1),Rk _,Rk _,Rm _,Rm _,tsf ?_ (nN _ _ ⟨s8,?_⟩)⟩
       ·rw[show ((st.made.length+1:Nat):Int)=(st.made.length:Int)+1 by omega]
        rw[eqv_refl _ (by simp only[akG])]
        rfl
       ·rw[e2];rfl
      ·exact absurd (hf3 x ex) (by decide)
     ·refine bS (nN _ _ ⟨s8,by rw[hk];rfl⟩)
   case r1 =>
    rintro σ8 H8 ⟨s8,rfl⟩;have e8:Step (λ_=>False) c7 (cc c7 H7) H7 H8:=Step.cl id s8
    have ch8:=ch7.free (λ_=>id) e8
    have md8:=md7.free (λ_=>id) e8
    have kl8:=eX e8 kl7.1 kl7.2;have od8:=od7.step e8;have hu8:=s8 _ _ Rt;generalize cc c7 H7=c8 at ch8 md8 kl8 od8;refine hide λGg hGg=>?_
    clear e8 s8 ch7 md7 kl7 od7 Rt hsq hz7 hin hkd;obtain⟨dx1,aM1,aP1,aA1,aD1,aF1,aE1,aR1,ms1,ds1,ws1,fs1,es1,X1⟩:=ch8.ex;have al:=I8.G2;have l3:=I8.lm;refine hGg ?_;refine mtv rfl X1.ob (dh (by decide +kernel)) ⟨o,c8,(cA st d).2,rfl,ch8,by omega,λns9 u9 H9 pm9 so9 s9 at9=>?_⟩
    have e9:Step (λ_=>False) c8 (cc c8 H8) H8 H9:=Step.cl id s9
    have ch9:=ch8.free (λ_=>id) e9
    have md9:=md8.free (λ_=>id) e9
    have kl9:=eX e9 kl8.1 kl8.2;have od9:=od8.step e9;have hu9:=s9 _ _ hu8;have nw9:Old (cc c8 H8) H9 (cA st d).2 u9 ns9:=⟨at9,pm9,so9⟩;generalize cc c8 H8=c9 at ch9 md9 kl9 od9 nw9;clear e9 s9 ch8 md8 kl8 od8 hu8 X1 at9 pm9 so9;dsimp only[f9];have fin:∀H10,bu H9 H10->∃c',Base A l o m cs c' H10 (cA st d).2/\Old c' H10 st u ns1/\Old c' H10 (cA st d).2 u9 ns9/\H10 u6=some (.tup [.bl fb,fv]):=λH10 s10=>by
     have e10:Step (λ_=>False) c9 (cc c9 H9) H9 H10:=Step.cl id s10
     exact⟨_,⟨(eX e10 kl9.1 kl9.2).1,(eX e10 kl9.1 kl9.2).2,ch9.free (λ_=>id) e10,md9.free (λ_=>id) e10⟩,od9.step e10,nw9.step e10,s10 _ _ hu9⟩
    refine gh (λσ' H'=>bu H9 H'/\σ'=[some (.ref a),some (.int n),some (.ref o),some (.ref m),some (.int ((cA st d).2.made.length:Int)),some (.ref u),some (.int z),some (.ref t),some (.ref u6),some (.ref u9)]) ?r2 (λN nN=>?f2)
    case f2 =>
     have stp:∀(H10:Hp),bu H9 H10->∀R:Hp->Prop,(∀H',bu H9 H'->R H')->FT [.ref u,.ref u9] H10 (λv H'=>v=.bl true/\R H') (λ_ _ _=>False):=λH10 s10 R hR=>by
      obtain⟨c10,_,o1,o2,_⟩:=fin H10 s10;exact⟨u,u9,c10,st,ns1,ns9,cA st d,3 * j,rfl,o1.at_,o2.at_,I,ef,λH' s'=>⟨rfl,hR H' (s10.trans s')⟩⟩
     refine⟨_,rfl,_,_,rfl,rfl,_,rfl,?_⟩
     by_cases h0:0 < (cA st d).2.made.length
     ·refine vE (decide_eq_true (by omega)) ?_
      refine⟨_,rfl,u9,c9,(cA st d).2,ns9,rfl,nw9.at_,I8.heads nw9.pm,by rw[Rh I8 ft8 nw9.pm];omega,λns' l' H10 pm' so' s10 hl'=>?_⟩
      refine⟨_,rfl,_,_,rfl,rfl,1,(cA st d).2.made.length,(by rw[Int.add_comm]),⟨by decide,by omega,by omega⟩,λp hp=>?_⟩
      have s11:=aB (o:=.lst (((alD (cA st d).2.made.length).map λj:Nat=>(1:Int)+(j:Int)).map V.int)) hp
      have er:=K1 I8 ft8 nw9.pm pm' so';rw[er]at hl';refine⟨_,_,UM (SqL.of (s11 _ _ hl')),UM (SqL.of ae),(K5 _).2,(K5 _).2,_,rfl,?_⟩;rw[eqv_refl _ (K5 _).1];refine bS ?_;refine hide λGg hGg=>?_
      obtain⟨c11,_,o1,o2,_⟩:=fin _ (s10.trans s11);refine hGg ?_;exact⟨_,rfl,_,rfl,u,u9,c11,st,ns1,ns9,cA st d,3 * j,rfl,o1.at_,o2.at_,I,ef,λH' s'=>⟨true,rfl,bS (nN _ _ ⟨(s10.trans s11).trans s',rfl⟩)⟩⟩
     ·refine vF (decide_eq_false (by omega)) ?_
      refine bS ?_;exact⟨_,rfl,_,rfl,u,u9,c9,st,ns1,ns9,cA st d,3 * j,rfl,od9.at_,nw9.at_,I,ef,λH' s'=>⟨true,rfl,bS (nN _ _ ⟨s',rfl⟩)⟩⟩
    case r2 =>
     rintro σ10 H10 ⟨s10,rfl⟩;refine hide λGg hGg=>?_
     obtain⟨c10,b10,o1,o2,aiy⟩:=fin H10 s10;have I8':Inv (3 * (j+1)) (cA st d).2:=I8;refine hGg ?_;refine ixv rfl (SqT.of aiy) rfl ⟨fb,rfl,?_⟩;cases fb with
     |true=>exact bS (bS ⟨_,rfl,_,_,_,_,_,_,rfl,c10,_,ns9,b10,I8',es8,rfl,ft8,o2⟩)
     |false =>
      obtain⟨x,ex⟩:=hf1 rfl;have e2:=ef.exc x ex;have en:ns9=ns1:=sW (by have h:=o2.pm;rw[e2]at h;exact h.trans o1.pm.symm) o2.so o1.so
      have d2:DV K H10 (stD st ns1) (.ref u9):=by have h:=o2.dv (K:=K);rw[e2,en]at h;exact h
      refine dJ ⟨_,rfl,_,rfl,stD st ns1,stD st ns1,d2,o1.dv,jV (yn I ns1) (FP _ ns1),jV (yn I ns1) (FP _ ns1),_,rfl,?_⟩;rw[eqv_refl _ (yn I ns1)];exact bS ⟨_,rfl,_,_,_,_,_,_,rfl,c10,_,ns9,b10,I8',es8,rfl,ft8,o2⟩
  ·rintro σ Hj _;exact q Hj
end
end My
set_option maxHeartbeats 1000000
namespace My
open PySem L2
seal PySem.wpAny
set_option maxHeartbeats 0 in
theorem all_mk {l:PySem.W.OpenLaw}{w:World}{K:ba}{h:Heap}{mg:Str->Option Value}{P:Params}{fa f_1 f_2 f_3 f_4 f_5 f_6 f_7 f_8 f_9 Tz TB TC TF TH TK TL TM TN TQ TR TU TV TX TY TZ T2 T3 T4 T5 T6 T7 T8 T9 Ua Ub Uc Ud Ue Ug Uh Xx c0 c1 c2 c3 c4 c5 c6 c7 cm tb HD HE HF HG HI HJ HK HL zp CJ HM K8 HN HP HQ HR HS HU HV HW HX HY bf cf cg cj ck cn bV cw bC bx a5 a9 bF bg bA bp bq bB aY wU mW mX mY iH p9 qa qb mZ m5 m7 jn m8:Addr}(X:K.In h)(G:h.Ns ka mg)(hfa:mg "law"=some (.ref fa))(hP:w.params=P)
  {aiz aiA aiB aiC aiD aiE aiF aiG aiH aiI aiJ aiK aiL aiM aiN aiO aiP aiQ ab3 ab4 ab5 ab6 ab7 ab8 ab9 aca acb acd ace acf acg ach aci acj ack acn aco acp acq acr acs acu acv acw acx acy acz acA acB acC acD acE acF acG acH acI acJ acK acL acM acN acO acP acQ acR acS acT acU acV acW acX acY acZ ac8 ac9 ada adb ade adf adg adh UN Xy Xz XA XB XC XD XE XF XG XH XI XJ XM XN XO XQ adi adj adk adl XR XS adn ado XT XU XW XX XY XZ X9 Ya Yb Yc Yd Ye Yf Yg Yh Yi Yj Yk Yl Ym zq zr zt zu zv zx zy zz zA zB yo yp wV wW vd ve rG rH jW jX m9 nc wX wY qc qd sY sZ oj oo oq ot tf tj HZ Ia De Df Ib Ic:Option Addr} {aiR aiS aiT aiU aiV aiW aiX aiY aiZ adp adq ads adt adu adv adw adx ady adz adA adB adC adD adE adF adG adH adI adJ adK adL adM adN adO adP adQ adR adS adT adU adV Yn Yo Yp Yq Yr Ys Yt Yu adW adX Yv adY Yw Yx Yy Yz YA YB YC YD YE YF zC zD zE zF zG yq wZ vf rJ jY ng w5 qf tq ou ox tw Ie Dg Ig:Array (Option Value)} {ai0 ai1 ai2 ai3 adZ ai4 ai5 ai6 ai7 ai8 ad0 ai9 aja ajb ajc ajd ad1 aje ajf ajg ajh aji ad2 ajj ajk ajl ajm ajn ad3 ajo ajp ajq ajr ajs ad4 ajt aju ajv ajw ajx ad5 ajy ajz ajA ajB ajC ad6 ajD ajE ajF ajG ajH ad7 ajI ad8 ad9 aea aeb UO aec aed aee aef aeg UP aeh aei aej aek ael UQ aem aen aeo aep aeq UR aer aes aet aeu aev US aew aex aey aez aeA UT aeB aeC aeD aeE aeF UU aeG aeH aeI aeJ aeK UW aeL aeM aeN aeO aeP UX aeQ aeR aeS aeT aeU UY aeV aeW aeX aeY aeZ UZ ae0 ae1 ae2 ae3 ae4 U0 ae5 ae6 ae7 ae8 ae9 U4 afa afb afc afd afe U5 aff afg afh afi afj U6 afk afl afm afn afo U7 afp afq afr afs aft U8 afu afv afw afx afy U9 afz afA afB afC afD Va afE afF afG afH afI Vb afJ afK afL afM afN Vc afO afP afQ afR afS Vd afT afU afV afW afX Ve afY afZ af0 af1 af2 Vf af3 af4 af5 af6 af7 Vg af8 af9 aga agb agc Vh agd age agf agg agh Vi agi agj agk agl agm Vj agn ago agp agq agr Vk ags agt agu agv agw Vl agx agy agz agA agB Vm agC agD Vn Vo Vp Ru Vq YG YH YI YJ Rv YK YL YM YN YO Rw YQ YR YS YT YU Rx YV YW YX YY YZ Ry Y0 Y1 Y2 Y3 Y4 Rz Y5 Y6 Y7 Y8 Y9 RA Za Zb Zc Zd Ze RB Zf Zg Zh Zi Zj RC Zk agE agF agG agH Vr agI agJ agK agL agM Vs agN Zl Zm Zn Zo RD Zp agO agP agQ agR Vt agS Zq Zr Zs Zt RE Zu Zv Zw Zx Zy RF Zz ZA ZC ZD ZE RG ZF ZG ZH ZI ZJ RH ZK ZL ZM ZN ZO RI ZP ZQ ZR ZS ZT RJ ZU ZV ZW ZX ZY RK ZZ Z0 Z1 Z2 Z3 RL Z4 Z5 Z6 Z7 Z8 RM Z9 aaa aab aac aad RN aae zH zI zJ zK rl zL zM zN zO zP rm zQ zR zS zT zU rn zV zW zX zY zZ rp z0 Aa Ab Ac Ad rq Ae yt yu yw yx qg yy w6 w8 w9 xa nR xb vg vh vi vj nh vk rK rL rM rN jv rO jZ j2 j3 j4 eQ j5 ni nj nq nr gI nv xc xf xg xh nS xj qh qi qj qk iW ql tD tE tF tG lh tH oy oz oB oE ij oF oG oH oI oJ il oK tI tJ tK tL lj tM Ih Ii Ij Ik yW Il Dh Di Dj Dk uG Dl Im Io Ip Iq yX Ir:Value} {kz tr0 tr1 tr2 tr3 tr4 tr5 tr6 tr7:Tok} {est:Array alq} {nt:Nat} {FX:Addr} {RO:Value} {RP:Option Addr} {Iu:Array alq} {RQ:Nat} {RS:Array (Option Value)} {ny:Addr} {Af:Value} {Ag:Option Addr} {rz:Array alq} {Ah:Nat} {Ai:Array (Option Value)} {vm:Addr} {Iv:Value} {Iw:Option Addr} {yY:Array alq} {Iy:Nat} {Iz:Array (Option Value)} {vn:Addr} {IA:Value} {IB:Option Addr} {yZ:Array alq} {IC:Nat} {ID:Array (Option Value)} {yz:Addr} {K9:Value} {La:Option Addr} {CK:Array alq} {Lb:Nat} {Lc:Array (Option Value)} {yA:Addr} {Ld:Value} {Le:Option Addr} {CL:Array alq} {Lf:Nat} {Lg:Array (Option Value)} {yB:Addr} {Lh:Value} {Li:Option Addr} {CM:Array alq} {Lj:Nat} {Ll:Array (Option Value)} {vo:Addr} {IE:Value} {IF:Option Addr} {y6:Array alq} {IG:Nat} {IH:Array (Option Value)} {CN:Addr} {N7:Value} {N8:Option Addr} {Eo:Array alq} {N9:Nat} {Oa:Array (Option Value)} {vp:Addr} {II:Value} {IJ:Option Addr} {y7:Array alq} {IK:Nat} {IL:Array (Option Value)} {CO:Addr} {Ob:Value} {Oc:Option Addr} {Ep:Array alq} {Od:Nat} {Oe:Array (Option Value)} {RT Ui:Str} {RU:List Value} {RV:List Str} {RW:List Value} {RX:Bool} {RY:Option Bool} {RZ:Option Addr} {R0 R1 R3 R4 R5:Option Value} {R6:Bool} {IM Lm:Str} {IP:List Value} {IQ:List Str} {IS:List Value} {IT:Bool} {IU:Option Bool} {IV:Option Addr} {IW IZ I0 I9 Ja:Option Value} {Jb:Bool} {Jc Ln:Str} {Jd:List Value} {Je:List Str} {Jf:List Value} {Jg:Bool} {Jh:Option Bool} {Ji:Option Addr} {Jj Jk Jl Jm Jn:Option Value} {Jo:Bool} {Lo Of:Str} {Lp:List Value} {Lq:List Str} {Lr:List Value} {Ls:Bool} {Lu:Option Bool} {Lv:Option Addr} {Lw Lx Ly Lz LA:Option Value} {LB:Bool} {LC Og:Str} {LD:List Value} {LF:List Str} {LG:List Value} {LH:Bool} {LI:Option Bool} {LJ:Option Addr} {LK LL LM LN LO:Option Value} {LP:Bool} {LQ Oh:Str} {LR:List Value} {LS:List Str} {LU:List Value} {LV:Bool} {LW:Option Bool} {LX:Option Addr} {LY LZ L1 L3 L4:Option Value} {L5:Bool} {Jp L6:Str} {Jq:List Value} {Jr:List Str} {Js:List Value} {Jt:Bool} {Ju:Option Bool} {Jv:Option Addr} {Jw Jx Jy Jz JA:Option Value} {JB:Bool} {Oi R7:Str} {Oj:List Value} {Ol:List Str} {Om:List Value} {Oo:Bool} {Oq:Option Bool} {Ot:Option Addr} {Ou Ov Ow Ox Oy:Option Value}  {JC L7:Str} {JD:List Value} {JE:List Str} {JF:List Value} {JG:Bool} {JH:Option Bool} {JI:Option Addr} {JJ JK JL JM JN:Option Value}  {Oz R8:Str} {OA:List Value} {OB:List Str} {OC:List Value} {OD:Bool} {OE:Option Bool} {OF:Option Addr} {OG OH OI OJ OK:Option Value}  {CP:Value} {Aj:Option Addr} {rA:ClassData} {Ak:Array (Option Value)}
  (a_1:di K ka "fits"=some (some (.ref f_1)))
  (l_1:K.lookup f_1=some ⟨ai0,aiz,.func (fe "fits" "fits" (aS xG) (aQ xG) (ag xG) .none ai1 ai2 ai3 aiA adZ ai4),aiR⟩)
  (cc_1:de K adZ "fits"=true)
  (kp_1:da K (.ref f_1)=true)
  (a_2:di K ka "require_fit"=some (some (.ref f_2)))
  (l_2:K.lookup f_2=some ⟨ai5,aiB,.func (fe "require_fit" "require_fit" (aS fX) (aQ fX) (ag fX) .none ai6 ai7 ai8 aiC ad0 ai9),aiS⟩)
  (cc_2:de K ad0 "require_fit"=true)
  (kp_2:da K (.ref f_2)=true)
  (a_3:di K ka "laid"=some (some (.ref f_3)))
  (l_3:K.lookup f_3=some ⟨aja,aiD,.func (fe "laid" "laid" (aS xH) (aQ xH) (ag xH) .none ajb ajc ajd aiE ad1 aje),aiT⟩)
  (cc_3:de K ad1 "laid"=true)
  (kp_3:da K (.ref f_3)=true)
  (a_4:di K ka "words_of"=some (some (.ref f_4)))
  (l_4:K.lookup f_4=some ⟨ajf,aiF,.func (fe "words_of" "words_of" (aS jA) (aQ jA) (ag jA) .none ajg ajh aji aiG ad2 ajj),aiU⟩)
  (cc_4:de K ad2 "words_of"=true)
  (kp_4:da K (.ref f_4)=true)
  (a_5:di K ka "clause_of"=some (some (.ref f_5)))
  (l_5:K.lookup f_5=some ⟨ajk,aiH,.func (fe "clause_of" "clause_of" (aS iO) (aQ iO) (ag iO) .none ajl ajm ajn aiI ad3 ajo),aiV⟩)
  (cc_5:de K ad3 "clause_of"=true)
  (kp_5:da K (.ref f_5)=true)
  (a_6:di K ka "motion_of"=some (some (.ref f_6)))
  (l_6:K.lookup f_6=some ⟨ajp,aiJ,.func (fe "motion_of" "motion_of" (aS iP) (aQ iP) (ag iP) .none ajq ajr ajs aiK ad4 ajt),aiW⟩)
  (cc_6:de K ad4 "motion_of"=true)
  (kp_6:da K (.ref f_6)=true)
  (a_7:di K ka "bar_of"=some (some (.ref f_7)))
  (l_7:K.lookup f_7=some ⟨aju,aiL,.func (fe "bar_of" "bar_of" (aS oY) (aQ oY) (ag oY) .none ajv ajw ajx aiM ad5 ajy),aiX⟩)
  (cc_7:de K ad5 "bar_of"=true)
  (kp_7:da K (.ref f_7)=true)
  (a_8:di K ka "has_matter"=some (some (.ref f_8)))
  (l_8:K.lookup f_8=some ⟨ajz,aiN,.func (fe "has_matter" "has_matter" (aS fg) (aQ fg) (ag fg) .none ajA ajB ajC aiO ad6 ajD),aiY⟩)
  (cc_8:de K ad6 "has_matter"=true)
  (kp_8:da K (.ref f_8)=true)
  (a_9:di K ka "can_be_mended"=some (some (.ref f_9)))
  (l_9:K.lookup f_9=some ⟨ajE,aiP,.func (fe "can_be_mended" "can_be_mended" (aS dR) (aQ dR) (ag dR) .none ajF ajG ajH aiQ ad7 ajI),aiZ⟩)
  (cc_9:de K ad7 "can_be_mended"=true)
  (kp_9:da K (.ref f_9)=true)
  (a_10:di K ka "has_what_it_needs"=some (some (.ref Tz)))
  (l_10:K.lookup Tz=some ⟨ad8,ab3,.func (fe "has_what_it_needs" "has_what_it_needs" (aS cI) (aQ cI) (ag cI) .none ad9 aea aeb ab4 UO aec),adp⟩)
  (jq4G:de K UO "has_what_it_needs"=true)
  (jq4H:da K (.ref Tz)=true)
  (a_11:di K ka "require_in_order"=some (some (.ref TB)))
  (l_11:K.lookup TB=some ⟨aed,ab5,.func (fe "require_in_order" "require_in_order" (aS cL) (aQ cL) (ag cL) .none aee aef aeg ab6 UP aeh),adq⟩)
  (jq4I:de K UP "require_in_order"=true)
  (jq4J:da K (.ref TB)=true)
  (a_12:di K ka "words_of_text"=some (some (.ref TC)))
  (l_12:K.lookup TC=some ⟨aei,ab7,.func (fe "words_of_text" "words_of_text" (aS dS) (aQ dS) (ag dS) .none aej aek ael ab8 UQ aem),ads⟩)
  (jq4K:de K UQ "words_of_text"=true)
  (jq4L:da K (.ref TC)=true)
  (a_13:di K ka "words_of_edit"=some (some (.ref TF)))
  (l_13:K.lookup TF=some ⟨aen,ab9,.func (fe "words_of_edit" "words_of_edit" (aS dU) (aQ dU) (ag dU) .none aeo aep aeq aca UR aer),adt⟩)
  (jq4M:de K UR "words_of_edit"=true)
  (jq4N:da K (.ref TF)=true)
  (a_14:di K ka "words_behind"=some (some (.ref TH)))
  (l_14:K.lookup TH=some ⟨aes,acb,.func (fe "words_behind" "words_behind" (aS du) (aQ du) (ag du) .none aet aeu aev acd US aew),adu⟩)
  (jq4O:de K US "words_behind"=true)
  (jq4P:da K (.ref TH)=true)
  (a_15:di K ka "show_deed"=some (some (.ref TK)))
  (l_15:K.lookup TK=some ⟨aex,ace,.func (fe "show_deed" "show_deed" (aS iQ) (aQ iQ) (ag iQ) .none aey aez aeA acf UT aeB),adv⟩)
  (jq4Q:de K UT "show_deed"=true)
  (jq4R:da K (.ref TK)=true)
  (a_16:di K ka "is_kept"=some (some (.ref TL)))
  (l_16:K.lookup TL=some ⟨aeC,acg,.func (fe "is_kept" "is_kept" (aS lZ) (aQ lZ) (ag lZ) .none aeD aeE aeF ach UU aeG),adw⟩)
  (jq4S:de K UU "is_kept"=true)
  (jq4T:da K (.ref TL)=true)
  (a_17:di K ka "_law_cell_at"=some (some (.ref TM)))
  (l_17:K.lookup TM=some ⟨aeH,aci,.func (fe "_law_cell_at" "_law_cell_at" (aS iR) (aQ iR) (ag iR) .none aeI aeJ aeK acj UW aeL),adx⟩)
  (jq4U:de K UW "_law_cell_at"=true)
  (jq4V:da K (.ref TM)=true)
  (a_18:di K ka "_law_word"=some (some (.ref TN)))
  (l_18:K.lookup TN=some ⟨aeM,ack,.func (fe "_law_word" "_law_word" (aS pb) (aQ pb) (ag pb) .none aeN aeO aeP acn UX aeQ),ady⟩)
  (jq4W:de K UX "_law_word"=true)
  (jq4X:da K (.ref TN)=true)
  (a_19:di K ka "_law_clause"=some (some (.ref TQ)))
  (l_19:K.lookup TQ=some ⟨aeR,aco,.func (fe "_law_clause" "_law_clause" (aS jC) (aQ jC) (ag jC) .none aeS aeT aeU acp UY aeV),adz⟩)
  (jq4Y:de K UY "_law_clause"=true)
  (jq4Z:da K (.ref TQ)=true)
  (a_20:di K ka "_law_edit"=some (some (.ref TR)))
  (l_20:K.lookup TR=some ⟨aeW,acq,.func (fe "_law_edit" "_law_edit" (aS pf) (aQ pf) (ag pf) .none aeX aeY aeZ acr UZ ae0),adA⟩)
  (jq50:de K UZ "_law_edit"=true)
  (jq51:da K (.ref TR)=true)
  (a_21:di K ka "_law_fits"=some (some (.ref TU)))
  (l_21:K.lookup TU=some ⟨ae1,acs,.func (fe "_law_fits" "_law_fits" (aS ph) (aQ ph) (ag ph) .none ae2 ae3 ae4 acu U0 ae5),adB⟩)
  (jq52:de K U0 "_law_fits"=true)
  (jq53:da K (.ref TU)=true)
  (a_22:di K ka "_law_laid"=some (some (.ref TV)))
  (l_22:K.lookup TV=some ⟨ae6,acv,.func (fe "_law_laid" "_law_laid" (aS pj) (aQ pj) (ag pj) .none ae7 ae8 ae9 acw U4 afa),adC⟩)
  (jq54:de K U4 "_law_laid"=true)
  (jq55:da K (.ref TV)=true)
  (a_23:di K ka "_law_words"=some (some (.ref TX)))
  (l_23:K.lookup TX=some ⟨afb,acx,.func (fe "_law_words" "_law_words" (aS l4) (aQ l4) (ag l4) .none afc afd afe acy U5 aff),adD⟩)
  (jq56:de K U5 "_law_words"=true)
  (jq57:da K (.ref TX)=true)
  (a_24:di K ka "_law_rank"=some (some (.ref TY)))
  (l_24:K.lookup TY=some ⟨afg,acz,.func (fe "_law_rank" "_law_rank" (aS pq) (aQ pq) (ag pq) .none afh afi afj acA U6 afk),adE⟩)
  (jq58:de K U6 "_law_rank"=true)
  (jq59:da K (.ref TY)=true)
  (a_25:di K ka "_law_new"=some (some (.ref TZ)))
  (l_25:K.lookup TZ=some ⟨afl,acB,.func (fe "_law_new" "_law_new" (aS tW) (aQ tW) (ag tW) .none afm afn afo acC U7 afp),adF⟩)
  (jq5a:de K U7 "_law_new"=true)
  (jq5b:da K (.ref TZ)=true)
  (a_26:di K ka "_law_now"=some (some (.ref T2)))
  (l_26:K.lookup T2=some ⟨afq,acD,.func (fe "_law_now" "_law_now" (aS tX) (aQ tX) (ag tX) .none afr afs aft acE U8 afu),adG⟩)
  (jq5c:de K U8 "_law_now"=true)
  (jq5d:da K (.ref T2)=true)
  (a_27:di K ka "_law_bar"=some (some (.ref T3)))
  (l_27:K.lookup T3=some ⟨afv,acF,.func (fe "_law_bar" "_law_bar" (aS tY) (aQ tY) (ag tY) .none afw afx afy acG U9 afz),adH⟩)
  (jq5e:de K U9 "_law_bar"=true)
  (jq5f:da K (.ref T3)=true)
  (a_28:di K ka "_law_lacks"=some (some (.ref T4)))
  (l_28:K.lookup T4=some ⟨afA,acH,.func (fe "_law_lacks" "_law_lacks" (aS l5) (aQ l5) (ag l5) .none afB afC afD acI Va afE),adI⟩)
  (jq5g:de K Va "_law_lacks"=true)
  (jq5h:da K (.ref T4)=true)
  (a_29:di K ka "_law_keep"=some (some (.ref T5)))
  (l_29:K.lookup T5=some ⟨afF,acJ,.func (fe "_law_keep" "_law_keep" (aS pw) (aQ pw) (ag pw) .none afG afH afI acK Vb afJ),adJ⟩)
  (jq5i:de K Vb "_law_keep"=true)
  (jq5j:da K (.ref T5)=true)
  (a_30:di K ka "_law_ended"=some (some (.ref T6)))
  (l_30:K.lookup T6=some ⟨afK,acL,.func (fe "_law_ended" "_law_ended" (aS l6) (aQ l6) (ag l6) .none afL afM afN acM Vc afO),adK⟩)
  (jq5k:de K Vc "_law_ended"=true)
  (jq5l:da K (.ref T6)=true)
  (a_31:di K ka "_law_voted"=some (some (.ref T7)))
  (l_31:K.lookup T7=some ⟨afP,acN,.func (fe "_law_voted" "_law_voted" (aS l7) (aQ l7) (ag l7) .none afQ afR afS acO Vd afT),adL⟩)
  (jq5m:de K Vd "_law_voted"=true)
  (jq5n:da K (.ref T7)=true)
  (a_32:di K ka "_law_taken"=some (some (.ref T8)))
  (l_32:K.lookup T8=some ⟨afU,acP,.func (fe "_law_taken" "_law_taken" (aS l8) (aQ l8) (ag l8) .none afV afW afX acQ Ve afY),adM⟩)
  (jq5o:de K Ve "_law_taken"=true)
  (jq5p:da K (.ref T8)=true)
  (a_33:di K ka "_law_due"=some (some (.ref T9)))
  (l_33:K.lookup T9=some ⟨afZ,acR,.func (fe "_law_due" "_law_due" (aS tZ) (aQ tZ) (ag tZ) .none af0 af1 af2 acS Vf af3),adN⟩)
  (jq5q:de K Vf "_law_due"=true)
  (jq5r:da K (.ref T9)=true)
  (a_34:di K ka "_law_vote"=some (some (.ref Ua)))
  (l_34:K.lookup Ua=some ⟨af4,acT,.func (fe "_law_vote" "_law_vote" (aS pz) (aQ pz) (ag pz) .none af5 af6 af7 acU Vg af8),adO⟩)
  (jq5s:de K Vg "_law_vote"=true)
  (jq5t:da K (.ref Ua)=true)
  (a_35:di K ka "_law_guided"=some (some (.ref Ub)))
  (l_35:K.lookup Ub=some ⟨af9,acV,.func (fe "_law_guided" "_law_guided" (aS jE) (aQ jE) (ag jE) .none aga agb agc acW Vh agd),adP⟩)
  (jq5u:de K Vh "_law_guided"=true)
  (jq5v:da K (.ref Ub)=true)
  (a_36:di K ka "_law_deed"=some (some (.ref Uc)))
  (l_36:K.lookup Uc=some ⟨age,acX,.func (fe "_law_deed" "_law_deed" (aS my) (aQ my) (ag my) .none agf agg agh acY Vi agi),adQ⟩)
  (jq5w:de K Vi "_law_deed"=true)
  (jq5x:da K (.ref Uc)=true)
  (a_37:di K ka "_law_done"=some (some (.ref Ud)))
  (l_37:K.lookup Ud=some ⟨agj,acZ,.func (fe "_law_done" "_law_done" (aS pB) (aQ pB) (ag pB) .none agk agl agm ac8 Vj agn),adR⟩)
  (jq5y:de K Vj "_law_done"=true)
  (jq5z:da K (.ref Ud)=true)
  (a_38:di K ka "_law_seats"=some (some (.ref Ue)))
  (l_38:K.lookup Ue=some ⟨ago,ac9,.func (fe "_law_seats" "_law_seats" (aS l9) (aQ l9) (ag l9) .none agp agq agr ada Vk ags),adS⟩)
  (jq5A:de K Vk "_law_seats"=true)
  (jq5B:da K (.ref Ue)=true)
  (a_39:di K ka "_law_numbers"=some (some (.ref Ug)))
  (l_39:K.lookup Ug=some ⟨agt,adb,.func (fe "_law_numbers" "_law_numbers" (aS gv) (aQ gv) (ag gv) .none agu agv agw ade Vl agx),adT⟩)
  (jq5C:de K Vl "_law_numbers"=true)
  (jq5D:da K (.ref Ug)=true)
  (a_40:di K ka "_law_step"=some (some (.ref Uh)))
  (l_40:K.lookup Uh=some ⟨agy,adf,.func (fe "_law_step" "_law_step" (aS pD) (aQ pD) (ag pD) .none agz agA agB adg Vm agC),adU⟩)
  (jq5E:de K Vm "_law_step"=true)
  (jq5F:da K (.ref Uh)=true)
  (a_41:di K ka "law"=some (some (.ref Xx)))
  (l_41:K.lookup Xx=some ⟨agD,adh,.func (fe "law" "law" (aS vO) (aQ vO) (ag vO) .none Vn Vo Vp UN Ru Vq),adV⟩)
  (jq5G:de K Ru "law"=true)
  (jq5H:da K (.ref Xx)=true)
  (z1:di K ka "range"=some none)
  (z2:di K ka "list"=some none)
  (z3:di K ka "isinstance"=some none)
  (z4:di K ka "len"=some none)
  (z5:di K ka "max"=some none)
  (z6:di K ka "any"=some none)
  (z7:di K ka "str"=some none)
  (z8:di K ka "sorted"=some none)
  (z9:di K ka "int"=some none)
  (z10:di K ka "ValueError"=some none)
  (jq1Q:di K ka "CLOSED_BAR"=some (some (.int 4 kz)))
  (ac0:di K ka "Matter"=some (some (.ref c0)))
  (ac1:di K ka "Change"=some (some (.ref c1)))
  (ac2:di K ka "Mend"=some (some (.ref c2)))
  (ac3:di K ka "PutOff"=some (some (.ref c3)))
  (ac4:di K ka "Close"=some (some (.ref c4)))
  (ac5:di K ka "Lay"=some (some (.ref c5)))
  (ac6:di K ka "Rest"=some (some (.ref c6)))
  (ac7:di K ka "Point"=some (some (.ref c7)))
  (acm:di K ka "Motion"=some (some (.ref cm)))
  (atb:di K ka "RANKS"=some (some (.ref tb)))
  (ltb:K.lookup tb=some ⟨.type "dict",none,.dict est nt,#[]⟩)
  (ktb:PySem.W.KeysLit P est.toList)
  (rk0:di K tb (ar "matter")=some (some (.int 0 tr0)))
  (rk1:di K tb (ar "change")=some (some (.int 1 tr1)))
  (rk2:di K tb (ar "mend")=some (some (.int 2 tr2)))
  (rk3:di K tb (ar "put off")=some (some (.int 3 tr3)))
  (rk4:di K tb (ar "close")=some (some (.int 4 tr4)))
  (rk5:di K tb (ar "lay")=some (some (.int 5 tr5)))
  (rk6:di K tb (ar "rest")=some (some (.int 6 tr6)))
  (rk7:di K tb (ar "point")=some (some (.int 7 tr7)))
  (pg0:akT K c0 akP=true)
  (hd0:akQ K c0=true)
  (po0:akY K c0=true)
  (sa0:cb K (.ref c0) "__setattr__"=some (some (.builtin "object.__setattr__")))
  (mk0:ak5 K c0=true)
  (kc0:da K (.ref c0)=true)
  (pg1:akT K c1 akP=true)
  (hd1:akQ K c1=true)
  (po1:akY K c1=true)
  (sa1:cb K (.ref c1) "__setattr__"=some (some (.builtin "object.__setattr__")))
  (mk1:ak5 K c1=true)
  (kc1:da K (.ref c1)=true)
  (pg2:akT K c2 akP=true)
  (hd2:akQ K c2=true)
  (po2:akY K c2=true)
  (sa2:cb K (.ref c2) "__setattr__"=some (some (.builtin "object.__setattr__")))
  (mk2:ak5 K c2=true)
  (kc2:da K (.ref c2)=true)
  (pg3:akT K c3 akP=true)
  (hd3:akQ K c3=true)
  (po3:akY K c3=true)
  (sa3:cb K (.ref c3) "__setattr__"=some (some (.builtin "object.__setattr__")))
  (mk3:ak5 K c3=true)
  (kc3:da K (.ref c3)=true)
  (pg4:akT K c4 akP=true)
  (hd4:akQ K c4=true)
  (po4:akY K c4=true)
  (sa4:cb K (.ref c4) "__setattr__"=some (some (.builtin "object.__setattr__")))
  (mk4:ak5 K c4=true)
  (kc4:da K (.ref c4)=true)
  (pg5:akT K c5 akP=true)
  (hd5:akQ K c5=true)
  (po5:akY K c5=true)
  (sa5:cb K (.ref c5) "__setattr__"=some (some (.builtin "object.__setattr__")))
  (mk5:ak5 K c5=true)
  (kc5:da K (.ref c5)=true)
  (pg6:akT K c6 akP=true)
  (hd6:akQ K c6=true)
  (po6:akY K c6=true)
  (sa6:cb K (.ref c6) "__setattr__"=some (some (.builtin "object.__setattr__")))
  (mk6:ak5 K c6=true)
  (kc6:da K (.ref c6)=true)
  (pg7:akT K c7 akP=true)
  (hd7:akQ K c7=true)
  (po7:akY K c7=true)
  (sa7:cb K (.ref c7) "__setattr__"=some (some (.builtin "object.__setattr__")))
  (mk7:ak5 K c7=true)
  (kc7:da K (.ref c7)=true)
  (jq39:cb K (.ref c0) "kind"=some (some (.ref HD)))
  (jq5I:K.lookup HD=some ⟨YG,Xy,.func (fe "kind" "Matter.kind" (aS fH) (aQ fH) (ag fH) .none YH YI YJ Xz Rv YK),Yn⟩)
  (jq3H:de K Rv "Matter.kind"=true)
  (jq3a:da K (.ref HD)=true)
  (jq3I:ma K (.ref HD)=true)
  (jq3b:cb K (.ref c1) "kind"=some (some (.ref HE)))
  (jq5J:K.lookup HE=some ⟨YL,XA,.func (fe "kind" "Change.kind" (aS fJ) (aQ fJ) (ag fJ) .none YM YN YO XB Rw YQ),Yo⟩)
  (jq3J:de K Rw "Change.kind"=true)
  (jq3c:da K (.ref HE)=true)
  (jq3K:ma K (.ref HE)=true)
  (jq3d:cb K (.ref c2) "kind"=some (some (.ref HF)))
  (jq5K:K.lookup HF=some ⟨YR,XC,.func (fe "kind" "Mend.kind" (aS iK) (aQ iK) (ag iK) .none YS YT YU XD Rx YV),Yp⟩)
  (jq3L:de K Rx "Mend.kind"=true)
  (jq3e:da K (.ref HF)=true)
  (jq3M:ma K (.ref HF)=true)
  (jq3f:cb K (.ref c3) "kind"=some (some (.ref HG)))
  (jq5L:K.lookup HG=some ⟨YW,XE,.func (fe "kind" "PutOff.kind" (aS fK) (aQ fK) (ag fK) .none YX YY YZ XF Ry Y0),Yq⟩)
  (jq3N:de K Ry "PutOff.kind"=true)
  (jq3g:da K (.ref HG)=true)
  (jq3O:ma K (.ref HG)=true)
  (jq3h:cb K (.ref c4) "kind"=some (some (.ref HI)))
  (jq5M:K.lookup HI=some ⟨Y1,XG,.func (fe "kind" "Close.kind" (aS gM) (aQ gM) (ag gM) .none Y2 Y3 Y4 XH Rz Y5),Yr⟩)
  (jq3P:de K Rz "Close.kind"=true)
  (jq3i:da K (.ref HI)=true)
  (jq3Q:ma K (.ref HI)=true)
  (jq3j:cb K (.ref c5) "kind"=some (some (.ref HJ)))
  (jq5N:K.lookup HJ=some ⟨Y6,XI,.func (fe "kind" "Lay.kind" (aS jz) (aQ jz) (ag jz) .none Y7 Y8 Y9 XJ RA Za),Ys⟩)
  (jq3R:de K RA "Lay.kind"=true)
  (jq3k:da K (.ref HJ)=true)
  (jq3S:ma K (.ref HJ)=true)
  (jq3l:cb K (.ref c6) "kind"=some (some (.ref HK)))
  (jq5O:K.lookup HK=some ⟨Zb,XM,.func (fe "kind" "Rest.kind" (aS iL) (aQ iL) (ag iL) .none Zc Zd Ze XN RB Zf),Yt⟩)
  (jq3T:de K RB "Rest.kind"=true)
  (jq3m:da K (.ref HK)=true)
  (jq3U:ma K (.ref HK)=true)
  (jq3n:cb K (.ref c7) "kind"=some (some (.ref HL)))
  (jq5P:K.lookup HL=some ⟨Zg,XO,.func (fe "kind" "Point.kind" (aS gN) (aQ gN) (ag gN) .none Zh Zi Zj XQ RC Zk),Yu⟩)
  (jq3V:de K RC "Point.kind"=true)
  (jq3o:da K (.ref HL)=true)
  (jq3W:ma K (.ref HL)=true)
  (jq3X:cb K (.ref c0) "rank"=some (some (.ref zp)))
  (jq3Y:cb K (.ref c1) "rank"=some (some (.ref zp)))
  (jq3Z:cb K (.ref c2) "rank"=some (some (.ref zp)))
  (jq40:cb K (.ref c3) "rank"=some (some (.ref zp)))
  (jq41:cb K (.ref c4) "rank"=some (some (.ref zp)))
  (jq42:cb K (.ref c5) "rank"=some (some (.ref zp)))
  (jq43:cb K (.ref c6) "rank"=some (some (.ref zp)))
  (jq44:cb K (.ref c7) "rank"=some (some (.ref zp)))
  (l_mr:K.lookup zp=some ⟨agE,adi,.func (fe "rank" "Motion.rank" (aS fL) (aQ fL) (ag fL) .none agF agG agH adj Vr agI),adW⟩)
  (jq5Q:de K Vr "Motion.rank"=true)
  (jq1U:da K (.ref zp)=true)
  (jq2m:ma K (.ref zp)=true)
  (jq45:cb K (.ref c0) "need"=some (some (.ref CJ)))
  (jq46:cb K (.ref c1) "need"=some (some (.ref CJ)))
  (jq47:cb K (.ref c2) "need"=some (some (.ref CJ)))
  (jq48:cb K (.ref c3) "need"=some (some (.ref CJ)))
  (jq49:cb K (.ref c5) "need"=some (some (.ref CJ)))
  (jq4a:cb K (.ref c6) "need"=some (some (.ref CJ)))
  (jq4b:cb K (.ref c7) "need"=some (some (.ref CJ)))
  (l_mn:K.lookup CJ=some ⟨agJ,adk,.func (fe "need" "Motion.need" (aS fM) (aQ fM) (ag fM) .none agK agL agM adl Vs agN),adX⟩)
  (jq5R:de K Vs "Motion.need"=true)
  (jq2n:da K (.ref CJ)=true)
  (jq2M:ma K (.ref CJ)=true)
  (jq3p:cb K (.ref c4) "need"=some (some (.ref HM)))
  (jq5S:K.lookup HM=some ⟨Zl,XR,.func (fe "need" "Close.need" (aS gO) (aQ gO) (ag gO) .none Zm Zn Zo XS RD Zp),Yv⟩)
  (jq4c:de K RD "Close.need"=true)
  (jq3q:da K (.ref HM)=true)
  (jq4d:ma K (.ref HM)=true)
  (jq4e:cb K (.ref c4) "told"=some (some (.ref K8)))
  (jq4f:cb K (.ref c5) "told"=some (some (.ref K8)))
  (jq4g:cb K (.ref c6) "told"=some (some (.ref K8)))
  (l_mt:K.lookup K8=some ⟨agO,adn,.func (fe "told" "Motion.told" (aS fN) (aQ fN) (ag fN) .none agP agQ agR ado Vt agS),adY⟩)
  (jq5T:de K Vt "Motion.told"=true)
  (jq38:da K (.ref K8)=true)
  (jq3G:ma K (.ref K8)=true)
  (jq3r:cb K (.ref c0) "told"=some (some (.ref HN)))
  (jq5U:K.lookup HN=some ⟨Zq,XT,.func (fe "told" "Matter.told" (aS fO) (aQ fO) (ag fO) .none Zr Zs Zt XU RE Zu),Yw⟩)
  (jq4h:de K RE "Matter.told"=true)
  (jq3s:da K (.ref HN)=true)
  (jq4i:ma K (.ref HN)=true)
  (jq3t:cb K (.ref c1) "told"=some (some (.ref HP)))
  (jq5V:K.lookup HP=some ⟨Zv,XW,.func (fe "told" "Change.told" (aS fP) (aQ fP) (ag fP) .none Zw Zx Zy XX RF Zz),Yx⟩)
  (jq4j:de K RF "Change.told"=true)
  (jq3u:da K (.ref HP)=true)
  (jq4k:ma K (.ref HP)=true)
  (jq3v:cb K (.ref c2) "told"=some (some (.ref HQ)))
  (jq5W:K.lookup HQ=some ⟨ZA,XY,.func (fe "told" "Mend.told" (aS iM) (aQ iM) (ag iM) .none ZC ZD ZE XZ RG ZF),Yy⟩)
  (jq4l:de K RG "Mend.told"=true)
  (jq3w:da K (.ref HQ)=true)
  (jq4m:ma K (.ref HQ)=true)
  (jq3x:cb K (.ref c3) "told"=some (some (.ref HR)))
  (jq5X:K.lookup HR=some ⟨ZG,X9,.func (fe "told" "PutOff.told" (aS fQ) (aQ fQ) (ag fQ) .none ZH ZI ZJ Ya RH ZK),Yz⟩)
  (jq4n:de K RH "PutOff.told"=true)
  (jq3y:da K (.ref HR)=true)
  (jq4o:ma K (.ref HR)=true)
  (jq3z:cb K (.ref c7) "told"=some (some (.ref HS)))
  (jq5Y:K.lookup HS=some ⟨ZL,Yb,.func (fe "told" "Point.told" (aS gP) (aQ gP) (ag gP) .none ZM ZN ZO Yc RI ZP),YA⟩)
  (jq4p:de K RI "Point.told"=true)
  (jq3A:da K (.ref HS)=true)
  (jq4q:ma K (.ref HS)=true)
  (jq3B:cb K (.ref c0) "__init__"=some (some (.ref HU)))
  (jq5Z:K.lookup HU=some ⟨ZQ,Yd,.func (fe "__init__" "Matter.__init__" (aS fR) (aQ fR) (ag fR) .none ZR ZS ZT Ye RJ ZU),YB⟩)
  (jq4r:de K RJ "Matter.__init__"=true)
  (jq4s:da K (.ref HU)=true)
  (jq4t:ma K (.ref HU)=true)
  (jq3C:cb K (.ref c1) "__init__"=some (some (.ref HV)))
  (jq60:K.lookup HV=some ⟨ZV,Yf,.func (fe "__init__" "Change.__init__" (aS fS) (aQ fS) (ag fS) .none ZW ZX ZY Yg RK ZZ),YC⟩)
  (jq4u:de K RK "Change.__init__"=true)
  (jq4v:da K (.ref HV)=true)
  (jq4w:ma K (.ref HV)=true)
  (jq3D:cb K (.ref c2) "__init__"=some (some (.ref HW)))
  (jq61:K.lookup HW=some ⟨Z0,Yh,.func (fe "__init__" "Mend.__init__" (aS iN) (aQ iN) (ag iN) .none Z1 Z2 Z3 Yi RL Z4),YD⟩)
  (jq4x:de K RL "Mend.__init__"=true)
  (jq4y:da K (.ref HW)=true)
  (jq4z:ma K (.ref HW)=true)
  (jq3E:cb K (.ref c3) "__init__"=some (some (.ref HX)))
  (jq62:K.lookup HX=some ⟨Z5,Yj,.func (fe "__init__" "PutOff.__init__" (aS fU) (aQ fU) (ag fU) .none Z6 Z7 Z8 Yk RM Z9),YE⟩)
  (jq4A:de K RM "PutOff.__init__"=true)
  (jq4B:da K (.ref HX)=true)
  (jq4C:ma K (.ref HX)=true)
  (jq3F:cb K (.ref c7) "__init__"=some (some (.ref HY)))
  (jq63:K.lookup HY=some ⟨aaa,Yl,.func (fe "__init__" "Point.__init__" (aS gQ) (aQ gQ) (ag gQ) .none aab aac aad Ym RN aae),YF⟩)
  (jq4D:de K RN "Point.__init__"=true)
  (jq4E:da K (.ref HY)=true)
  (jq4F:ma K (.ref HY)=true)
  (na0:cb K (.ref c0) "text"=some none)
  (na1:cb K (.ref c1) "edit"=some none)
  (na2:cb K (.ref c2) "edit"=some none)
  (na3:cb K (.ref c3) "sitting"=some none)
  (na7:cb K (.ref c7) "clause"=some none)
  (ni4:cb K (.ref c4) "__init__"=some (some (.builtin "object.__init__")))
  (ni5:cb K (.ref c5) "__init__"=some (some (.builtin "object.__init__")))
  (ni6:cb K (.ref c6) "__init__"=some (some (.builtin "object.__init__")))
  (jq2o:di K ka "Chamber"=some (some (.ref bf)))
  (jq2p:akT K bf akP=true)
  (jq2q:akQ K bf=true)
  (jq2r:akY K bf=true)
  (jq2s:cb K (.ref bf) "__setattr__"=some (some (.builtin "object.__setattr__")))
  (jq2t:ak5 K bf=true)
  (jq2u:da K (.ref bf)=true)
  (jq1t:cb K (.ref bf) "__init__"=some (some (.ref cf)))
  (jq1L:K.lookup cf=some ⟨zH,zq,.func (fe "__init__" "Chamber.__init__" (aS eD) (aQ eD) (ag eD) .none zI zJ zK zr rl zL),zC⟩)
  (jq1u:de K rl "Chamber.__init__"=true)
  (jq1v:da K (.ref cf)=true)
  (jq1w:ma K (.ref cf)=true)
  (jq1x:cb K (.ref bf) "move"=some (some (.ref cg)))
  (jq1M:K.lookup cg=some ⟨zM,zt,.func (fe "move" "Chamber.move" (aS eE) (aQ eE) (ag eE) .none zN zO zP zu rm zQ),zD⟩)
  (jq1y:de K rm "Chamber.move"=true)
  (jq17:da K (.ref cg)=true)
  (jq1z:ma K (.ref cg)=true)
  (jq1A:cb K (.ref bf) "vote"=some (some (.ref cj)))
  (jq1N:K.lookup cj=some ⟨zR,zv,.func (fe "vote" "Chamber.vote" (aS eF) (aQ eF) (ag eF) .none zS zT zU zx rn zV),zE⟩)
  (jq1B:de K rn "Chamber.vote"=true)
  (jq18:da K (.ref cj)=true)
  (jq1C:ma K (.ref cj)=true)
  (jq1D:cb K (.ref bf) "drop"=some (some (.ref ck)))
  (jq1O:K.lookup ck=some ⟨zW,zy,.func (fe "drop" "Chamber.drop" (aS eG) (aQ eG) (ag eG) .none zX zY zZ zz rp z0),zF⟩)
  (jq1E:de K rp "Chamber.drop"=true)
  (jq19:da K (.ref ck)=true)
  (jq1F:ma K (.ref ck)=true)
  (jq1G:cb K (.ref bf) "take"=some (some (.ref cn)))
  (jq1P:K.lookup cn=some ⟨Aa,zA,.func (fe "take" "Chamber.take" (aS eI) (aQ eI) (ag eI) .none Ab Ac Ad zB rq Ae),zG⟩)
  (jq1H:de K rq "Chamber.take"=true)
  (jq1a:da K (.ref cn)=true)
  (jq1I:ma K (.ref cn)=true)
  (jq1l:cb K (.ref bf) "state"=some (some (.ref bV)))
  (jq1J:K.lookup bV=some ⟨yt,yo,.func (fe "state" "Chamber.state" (aS cY) (aQ cY) (ag cY) .none yu yw yx yp qg yy),yq⟩)
  (jq1m:de K qg "Chamber.state"=true)
  (jq14:da K (.ref bV)=true)
  (jq1n:ma K (.ref bV)=true)
  (jq1e:cb K (.ref bf) "motion"=some (some (.ref cw)))
  (jq1o:K.lookup cw=some ⟨w6,wV,.func (fe "motion" "Chamber.motion" (aS eJ) (aQ eJ) (ag eJ) .none w8 w9 xa wW nR xb),wZ⟩)
  (jq1f:de K nR "Chamber.motion"=true)
  (jqV:da K (.ref cw)=true)
  (jq1g:ma K (.ref cw)=true)
  (jq1b:cb K (.ref bf) "pending"=some (some (.ref bC)))
  (jq1h:K.lookup bC=some ⟨vg,vd,.func (fe "pending" "Chamber.pending" (aS cD) (aQ cD) (ag cD) .none vh vi vj ve nh vk),vf⟩)
  (jq1c:de K nh "Chamber.pending"=true)
  (jqQ:da K (.ref bC)=true)
  (jq1d:ma K (.ref bC)=true)
  (jqS:cb K (.ref bf) "told_aside"=some (some (.ref bx)))
  (jqX:K.lookup bx=some ⟨rK,rG,.func (fe "told_aside" "Chamber.told_aside" (aS cv) (aQ cv) (ag cv) .none rL rM rN rH jv rO),rJ⟩)
  (jqT:de K jv "Chamber.told_aside"=true)
  (jqB:da K (.ref bx)=true)
  (jqU:ma K (.ref bx)=true)
  (jqr:cb K (.ref bf) "require_can_be_made"=some (some (.ref a5)))
  (jqw:K.lookup a5=some ⟨jZ,jW,.func (fe "require_can_be_made" "Chamber.require_can_be_made" (aS bz) (aQ bz) (ag bz) .none j2 j3 j4 jX eQ j5),jY⟩)
  (jqs:de K eQ "Chamber.require_can_be_made"=true)
  (jqn:da K (.ref a5)=true)
  (jqt:ma K (.ref a5)=true)
  (jqy:cb K (.ref bf) "require_pending"=some (some (.ref a9)))
  (jqC:K.lookup a9=some ⟨ni,m9,.func (fe "require_pending" "Chamber.require_pending" (aS bK) (aQ bK) (ag bK) .none nj nq nr nc gI nv),ng⟩)
  (jqz:de K gI "Chamber.require_pending"=true)
  (jqp:da K (.ref a9)=true)
  (jqA:ma K (.ref a9)=true)
  (jq1i:cb K (.ref bf) "decide"=some (some (.ref bF)))
  (jq1p:K.lookup bF=some ⟨xc,wX,.func (fe "decide" "Chamber.decide" (aS dn) (aQ dn) (ag dn) .none xf xg xh wY nS xj),w5⟩)
  (jq1j:de K nS "Chamber.decide"=true)
  (jqW:da K (.ref bF)=true)
  (jq1k:ma K (.ref bF)=true)
  (jqL:cb K (.ref bf) "end_decision"=some (some (.ref bg)))
  (jqR:K.lookup bg=some ⟨qh,qc,.func (fe "end_decision" "Chamber.end_decision" (aS bW) (aQ bW) (ag bW) .none qi qj qk qd iW ql),qf⟩)
  (jqM:de K iW "Chamber.end_decision"=true)
  (jqx:da K (.ref bg)=true)
  (jqN:ma K (.ref bg)=true)
  (jqY:cb K (.ref bf) "carry_out"=some (some (.ref bA)))
  (jq15:K.lookup bA=some ⟨tD,sY,.func (fe "carry_out" "Chamber.carry_out" (aS cG) (aQ cG) (ag cG) .none tE tF tG sZ lh tH),tq⟩)
  (jqZ:de K lh "Chamber.carry_out"=true)
  (jqD:da K (.ref bA)=true)
  (jq10:ma K (.ref bA)=true)
  (jqF:cb K (.ref bf) "lay_on_matter"=some (some (.ref bp)))
  (jqO:K.lookup bp=some ⟨oy,oj,.func (fe "lay_on_matter" "Chamber.lay_on_matter" (aS bQ) (aQ bQ) (ag bQ) .none oz oB oE oo ij oF),ou⟩)
  (jqG:de K ij "Chamber.lay_on_matter"=true)
  (jqu:da K (.ref bp)=true)
  (jqH:ma K (.ref bp)=true)
  (jqI:cb K (.ref bf) "lay_on_change"=some (some (.ref bq)))
  (jqP:K.lookup bq=some ⟨oG,oq,.func (fe "lay_on_change" "Chamber.lay_on_change" (aS bR) (aQ bR) (ag bR) .none oH oI oJ ot il oK),ox⟩)
  (jqJ:de K il "Chamber.lay_on_change"=true)
  (jqv:da K (.ref bq)=true)
  (jqK:ma K (.ref bq)=true)
  (jq11:cb K (.ref bf) "put_aside"=some (some (.ref bB)))
  (jq16:K.lookup bB=some ⟨tI,tf,.func (fe "put_aside" "Chamber.put_aside" (aS cH) (aQ cH) (ag cH) .none tJ tK tL tj lj tM),tw⟩)
  (jq12:de K lj "Chamber.put_aside"=true)
  (jqE:da K (.ref bB)=true)
  (jq13:ma K (.ref bB)=true)
  (jqq:cb K (.ref bf) "seats"=some none)
  (jq1:cb K (.ref bf) "sitting"=some none)
  (jq3:cb K (.ref bf) "closed"=some none)
  (jq4:cb K (.ref bf) "made"=some none)
  (jq0:cb K (.ref bf) "pile"=some none)
  (jq2:cb K (.ref bf) "aside"=some none)
  (jqj:cb K (.ref bf) "decided"=some none)
  (jqb:cb K (.ref bf) "first_texts"=some none)
  (jq5:cb K (.ref bf) "edits_kept"=some none)
  (jqk:cb K (.ref bf) "rows"=some none)
  (jq1K:di K ka "ChamberError"=some (some (.ref aY)))
  (jq33:di K ka "NoFit"=some (some (.ref wU)))
  (jq2N:di K ka "Barred"=some (some (.ref mW)))
  (jq1V:di K ka "NoMatter"=some (some (.ref mX)))
  (jq1W:di K ka "NoChange"=some (some (.ref mY)))
  (jq1X:di K ka "NotLater"=some (some (.ref iH)))
  (jq2v:di K ka "Nothing"=some (some (.ref p9)))
  (jq2w:di K ka "TooMany"=some (some (.ref qa)))
  (jq2x:di K ka "NoAside"=some (some (.ref qb)))
  (jq2O:di K ka "NotYet"=some (some (.ref mZ)))
  (jq1Y:di K ka "NoNumber"=some (some (.ref m5)))
  (jq34:K.lookup wU=some (akV RT Ui wU FX RU (.ref aY::qR) R6 RV RW RX RY RZ R0 R1 R3 R4 R5 "ValueError.__new__"))
  (jq1Z:K.lookup mX=some (akV IM Lm mX vm IP (.ref aY::qR) Jb IQ IS IT IU IV IW IZ I0 I9 Ja "ValueError.__new__"))
  (jq20:K.lookup mY=some (akV Jc Ln mY vn Jd (.ref aY::qR) Jo Je Jf Jg Jh Ji Jj Jk Jl Jm Jn "ValueError.__new__"))
  (jq2y:K.lookup p9=some (akV Lo Of p9 yz Lp (.ref aY::qR) LB Lq Lr Ls Lu Lv Lw Lx Ly Lz LA "ValueError.__new__"))
  (jq2z:K.lookup qa=some (akV LC Og qa yA LD (.ref aY::qR) LP LF LG LH LI LJ LK LL LM LN LO "ValueError.__new__"))
  (jq2A:K.lookup qb=some (akV LQ Oh qb yB LR (.ref aY::qR) L5 LS LU LV LW LX LY LZ L1 L3 L4 "ValueError.__new__"))
  (jq21:K.lookup m5=some (akV Jp L6 m5 vo Jq (.ref aY::qR) JB Jr Js Jt Ju Jv Jw Jx Jy Jz JA "ValueError.__new__"))
  (jq2P:K.lookup mW=some (akV Oi R7 mW CN Oj (.ref aY::qR) true Ol Om Oo Oq Ot Ou Ov Ow Ox Oy "ValueError.__new__"))
  (jq22:K.lookup iH=some (akV JC L7 iH vp JD (.ref aY::qR) true JE JF JG JH JI JJ JK JL JM JN "ValueError.__new__"))
  (jq2Q:K.lookup mZ=some (akV Oz R8 mZ CO OA (.ref aY::qR) true OB OC OD OE OF OG OH OI OJ OK "ValueError.__new__"))
  (jq6:K.lookup aY=some ⟨CP,Aj,.cls rA,Ak⟩)
  (jq7:rA.ns=ny)
  (jq35:K.lookup FX=some ⟨RO,RP,.dict Iu RQ,RS⟩)
  (jq36:strKeys Iu=true)
  (jq37:di K FX "__init__"=some none)
  (jq8:K.lookup ny=some ⟨Af,Ag,.dict rz Ah,Ai⟩)
  (jq9:strKeys rz=true)
  (jqa:di K ny "__init__"=some none)
  (jq23:K.lookup vm=some ⟨Iv,Iw,.dict yY Iy,Iz⟩)
  (jq24:strKeys yY=true)
  (jq25:di K vm "__init__"=some none)
  (jq26:K.lookup vn=some ⟨IA,IB,.dict yZ IC,ID⟩)
  (jq27:strKeys yZ=true)
  (jq28:di K vn "__init__"=some none)
  (jq2B:K.lookup yz=some ⟨K9,La,.dict CK Lb,Lc⟩)
  (jq2C:strKeys CK=true)
  (jq2D:di K yz "__init__"=some none)
  (jq2E:K.lookup yA=some ⟨Ld,Le,.dict CL Lf,Lg⟩)
  (jq2F:strKeys CL=true)
  (jq2G:di K yA "__init__"=some none)
  (jq2H:K.lookup yB=some ⟨Lh,Li,.dict CM Lj,Ll⟩)
  (jq2I:strKeys CM=true)
  (jq2J:di K yB "__init__"=some none)
  (jq29:K.lookup vo=some ⟨IE,IF,.dict y6 IG,IH⟩)
  (jq2a:strKeys y6=true)
  (jq2b:di K vo "__init__"=some none)
  (jq2R:K.lookup CN=some ⟨N7,N8,.dict Eo N9,Oa⟩)
  (jq2S:strKeys Eo=true)
  (jq2T:di K CN "__init__"=some (some (.ref m7)))
  (jq2c:K.lookup vp=some ⟨II,IJ,.dict y7 IK,IL⟩)
  (jq2d:strKeys y7=true)
  (jq2e:di K vp "__init__"=some (some (.ref jn)))
  (jq2U:K.lookup CO=some ⟨Ob,Oc,.dict Ep Od,Oe⟩)
  (jq2V:strKeys Ep=true)
  (jq2W:di K CO "__init__"=some (some (.ref m8)))
  (jq1q:PySem.W.readsIn K aY (.type "type")=true)
  (jq1r:PySem.W.specialIn K (.ref aY) "__getattribute__"=some (some (.builtin "type.__getattribute__")))
  (jq1s:PySem.W.findCls K (.ref aY) (.type "type") "__init__"=some (.val (.builtin "ValueError.__init__")))
  (jqo:akA K (.ref wU) (.ref aY)=some true)
  (jqc:akA K (.ref mX) (.ref aY)=some true)
  (jqd:akA K (.ref mY) (.ref aY)=some true)
  (jqg:akA K (.ref p9) (.ref aY)=some true)
  (jqh:akA K (.ref qa) (.ref aY)=some true)
  (jqi:akA K (.ref qb) (.ref aY)=some true)
  (jqe:akA K (.ref m5) (.ref aY)=some true)
  (jq2K:K.lookup m7=some ⟨Ih,HZ,.func (fe "__init__" "Barred.__init__" (aS fV) (aQ fV) (ag fV) .none Ii Ij Ik Ia yW Il),Ie⟩)
  (jq2f:de K yW "Barred.__init__"=true)
  (jq2g:da K (.ref m7)=true)
  (jq2X:ma K (.ref m7)=true)
  (jq2Y:cb K (.ref mW) "__setattr__"=some (some (.builtin "object.__setattr__")))
  (jq2Z:cb K (.ref mW) "bar"=some none)
  (jql:akA K (.ref mW) (.ref aY)=some true)
  (jq1T:K.lookup jn=some ⟨Dh,De,.func (fe "__init__" "NotLater.__init__" (aS dQ) (aQ dQ) (ag dQ) .none Di Dj Dk Df uG Dl),Dg⟩)
  (jq1R:de K uG "NotLater.__init__"=true)
  (jq1S:da K (.ref jn)=true)
  (jq2h:ma K (.ref jn)=true)
  (jq2i:cb K (.ref iH) "__setattr__"=some (some (.builtin "object.__setattr__")))
  (jq2j:cb K (.ref iH) "sitting"=some none)
  (jqf:akA K (.ref iH) (.ref aY)=some true)
  (jq2L:K.lookup m8=some ⟨Im,Ib,.func (fe "__init__" "NotYet.__init__" (aS fW) (aQ fW) (ag fW) .none Io Ip Iq Ic yX Ir),Ig⟩)
  (jq2k:de K yX "NotYet.__init__"=true)
  (jq2l:da K (.ref m8)=true)
  (jq30:ma K (.ref m8)=true)
  (jq31:cb K (.ref mZ) "__setattr__"=some (some (.builtin "object.__setattr__")))
  (jq32:cb K (.ref mZ) "sitting"=some none)
  (jqm:akA K (.ref mZ) (.ref aY)=some true) :
  ∃fd:ki,(∀(s:Shared) (v:Value),BindsTo s fd ⟨[v],[]⟩ [("_law_script",v)])/\∀base:Heap,K.In base->base.Ns ka mg->aO l.prog w K mg base CX0 20 fa fd ["_law_script"] (MZ K):=by
 have e:=hfa.symm.trans (kg X G a_41);cases e;have F_1:=aX (st:=xG) l_1 cc_1 kp_1;have b_1:=F_1.binds (ps:=["things","edit"]) λ_ _ _ _ _ _ us hl=>match us,hl with | [_,_],_=>rfl
 have F_2:=aX (st:=fX) l_2 cc_2 kp_2;have b_2:=F_2.binds (ps:=["things","edit"]) λ_ _ _ _ _ _ us hl=>match us,hl with | [_,_],_=>rfl
 have F_3:=aX (st:=xH) l_3 cc_3 kp_3;have b_3:=F_3.binds (ps:=["things","edit"]) λ_ _ _ _ _ _ us hl=>match us,hl with | [_,_],_=>rfl
 have F_4:=aX (st:=jA) l_4 cc_4 kp_4;have b_4:=F_4.binds (ps:=["clause"]) λ_ _ _ _ _ _ us hl=>match us,hl with | [_],_=>rfl
 have F_5:=aX (st:=iO) l_5 cc_5 kp_5;have b_5:=F_5.binds (ps:=["words"]) λ_ _ _ _ _ _ us hl=>match us,hl with | [_],_=>rfl
 have F_6:=aX (st:=iP) l_6 cc_6 kp_6;have b_6:=F_6.binds (ps:=["told"]) λ_ _ _ _ _ _ us hl=>match us,hl with | [_],_=>rfl
 have F_7:=aX (st:=oY) l_7 cc_7 kp_7;have b_7:=F_7.binds (ps:=["pile","closed"]) λ_ _ _ _ _ _ us hl=>match us,hl with | [_,_],_=>rfl
 have F_8:=aX (st:=fg) l_8 cc_8 kp_8;have b_8:=F_8.binds (ps:=["pile"]) λ_ _ _ _ _ _ us hl=>match us,hl with | [_],_=>rfl
 have F_9:=aX (st:=dR) l_9 cc_9 kp_9;have b_9:=F_9.binds (ps:=["pile"]) λ_ _ _ _ _ _ us hl=>match us,hl with | [_],_=>rfl
 have agT:=aX (st:=cI) l_10 jq4G jq4H;have ajJ:=agT.binds (ps:=["kind","pile"]) λ_ _ _ _ _ _ us hl=>match us,hl with | [_,_],_=>rfl
 have agU:=aX (st:=cL) l_11 jq4I jq4J;have ajK:=agU.binds (ps:=["kind","pile","closed"]) λ_ _ _ _ _ _ us hl=>match us,hl with | [_,_,_],_=>rfl
 have agV:=aX (st:=dS) l_12 jq4K jq4L;have ajL:=agV.binds (ps:=["text"]) λ_ _ _ _ _ _ us hl=>match us,hl with | [_],_=>rfl
 have agW:=aX (st:=dU) l_13 jq4M jq4N;have ajM:=agW.binds (ps:=["edit"]) λ_ _ _ _ _ _ us hl=>match us,hl with | [_],_=>rfl
 have agX:=aX (st:=du) l_14 jq4O jq4P;have ajN:=agX.binds (ps:=["deed"]) λ_ _ _ _ _ _ us hl=>match us,hl with | [_],_=>rfl
 have agY:=aX (st:=iQ) l_15 jq4Q jq4R;have ajO:=agY.binds (ps:=["deed"]) λ_ _ _ _ _ _ us hl=>match us,hl with | [_],_=>rfl
 have agZ:=aX (st:=lZ) l_16 jq4S jq4T;have ajP:=agZ.binds (ps:=["need","ayes","noes"]) λ_ _ _ _ _ _ us hl=>match us,hl with | [_,_,_],_=>rfl
 have ag0:=aX (st:=iR) l_17 jq4U jq4V;have ajQ:=ag0.binds (ps:=["_law_script","_law_k"]) λ_ _ _ _ _ _ us hl=>match us,hl with | [_,_],_=>rfl
 have ag1:=aX (st:=pb) l_18 jq4W jq4X;have ajR:=ag1.binds (ps:=["_law_cell"]) λ_ _ _ _ _ _ us hl=>match us,hl with | [_],_=>rfl
 have ag2:=aX (st:=jC) l_19 jq4Y jq4Z;have ajS:=ag2.binds (ps:=["_law_cell"]) λ_ _ _ _ _ _ us hl=>match us,hl with | [_],_=>rfl
 have ag3:=aX (st:=pf) l_20 jq50 jq51;have ajT:=ag3.binds (ps:=["_law_cell","_law_size","_law_thing"]) λ_ _ _ _ _ _ us hl=>match us,hl with | [_,_,_],_=>rfl
 have ag4:=aX (st:=ph) l_21 jq52 jq53;have ajU:=ag4.binds (ps:=["_law_things","_law_edit_here"]) λ_ _ _ _ _ _ us hl=>match us,hl with | [_,_],_=>rfl
 have ag5:=aX (st:=pj) l_22 jq54 jq55;have ajV:=ag5.binds (ps:=["_law_things","_law_edit_here"]) λ_ _ _ _ _ _ us hl=>match us,hl with | [_,_],_=>rfl
 have ag6:=aX (st:=l4) l_23 jq56 jq57;have ajW:=ag6.binds (ps:=["_law_clause_here"]) λ_ _ _ _ _ _ us hl=>match us,hl with | [_],_=>rfl
 have ag7:=aX (st:=pq) l_24 jq58 jq59;have ajX:=ag7.binds (ps:=["_law_kind"]) λ_ _ _ _ _ _ us hl=>match us,hl with | [_],_=>rfl
 have ag8:=aX (st:=tW) l_25 jq5a jq5b;have ajY:=ag8.binds (ps:=[]) λ_ _ _ _ _ _ us hl=>match us,hl with | [],_=>rfl
 have ag9:=aX (st:=tX) l_26 jq5c jq5d;have ajZ:=ag9.binds (ps:=["_law_m","_law_number"]) λ_ _ _ _ _ _ us hl=>match us,hl with | [_,_],_=>rfl
 have aha:=aX (st:=tY) l_27 jq5e jq5f;have aj0:=aha.binds (ps:=["_law_m"]) λ_ _ _ _ _ _ us hl=>match us,hl with | [_],_=>rfl
 have ahb:=aX (st:=l5) l_28 jq5g jq5h;have aj1:=ahb.binds (ps:=["_law_m","_law_motion"]) λ_ _ _ _ _ _ us hl=>match us,hl with | [_,_],_=>rfl
 have ahc:=aX (st:=pw) l_29 jq5i jq5j;have aj2:=ahc.binds (ps:=["_law_m","_law_motion"]) λ_ _ _ _ _ _ us hl=>match us,hl with | [_,_],_=>rfl
 have ahd:=aX (st:=l6) l_30 jq5k jq5l;have aj3:=ahd.binds (ps:=["_law_m","_law_word_here"]) λ_ _ _ _ _ _ us hl=>match us,hl with | [_,_],_=>rfl
 have ahe:=aX (st:=l7) l_31 jq5m jq5n;have aj4:=ahe.binds (ps:=["_law_m","_law_ayes","_law_noes","_law_seats_here"]) λ_ _ _ _ _ _ us hl=>match us,hl with | [_,_,_,_],_=>rfl
 have ahf:=aX (st:=l8) l_32 jq5o jq5p;have aj5:=ahf.binds (ps:=["_law_m","_law_number"]) λ_ _ _ _ _ _ us hl=>match us,hl with | [_,_],_=>rfl
 have ahg:=aX (st:=tZ) l_33 jq5q jq5r;have aj6:=ahg.binds (ps:=["_law_m","_law_deed_here","_law_seats_here"]) λ_ _ _ _ _ _ us hl=>match us,hl with | [_,_,_],_=>rfl
 have ahh:=aX (st:=pz) l_34 jq5s jq5t;have aj7:=ahh.binds (ps:=["_law_cell","_law_seats_here"]) λ_ _ _ _ _ _ us hl=>match us,hl with | [_,_],_=>rfl
 have ahi:=aX (st:=jE) l_35 jq5u jq5v;have aj8:=ahi.binds (ps:=["_law_m","_law_way"]) λ_ _ _ _ _ _ us hl=>match us,hl with | [_,_],_=>rfl
 have ahj:=aX (st:=my) l_36 jq5w jq5x;have aj9:=ahj.binds (ps:=["_law_m","_law_cell","_law_seats_here"]) λ_ _ _ _ _ _ us hl=>match us,hl with | [_,_,_],_=>rfl
 have ahk:=aX (st:=pB) l_37 jq5y jq5z;have aka:=ahk.binds (ps:=["_law_chamber","_law_deed_here"]) λ_ _ _ _ _ _ us hl=>match us,hl with | [_,_],_=>rfl
 have ahl:=aX (st:=l9) l_38 jq5A jq5B;have akb:=ahl.binds (ps:=["_law_cell"]) λ_ _ _ _ _ _ us hl=>match us,hl with | [_],_=>rfl
 have ahm:=aX (st:=gv) l_39 jq5C jq5D;have akc:=ahm.binds (ps:=["_law_state_here"]) λ_ _ _ _ _ _ us hl=>match us,hl with | [_],_=>rfl
 have ahn:=aX (st:=pD) l_40 jq5E jq5F;have akd:=ahn.binds (ps:=["_law_old","_law_new_here"]) λ_ _ _ _ _ _ us hl=>match us,hl with | [_,_],_=>rfl
 have ake:=aX (st:=vO) l_41 jq5G jq5H;have Vu:=aX (st:=fH) jq5I jq3H jq3a;have aho:=Vu.binds (ps:=["self"]) λ_ _ _ _ _ _ us hl=>match us,hl with | [_],_=>rfl
 have Vv:=aX (st:=fJ) jq5J jq3J jq3c;have ahp:=Vv.binds (ps:=["self"]) λ_ _ _ _ _ _ us hl=>match us,hl with | [_],_=>rfl
 have Vw:=aX (st:=iK) jq5K jq3L jq3e;have ahq:=Vw.binds (ps:=["self"]) λ_ _ _ _ _ _ us hl=>match us,hl with | [_],_=>rfl
 have Vx:=aX (st:=fK) jq5L jq3N jq3g;have ahr:=Vx.binds (ps:=["self"]) λ_ _ _ _ _ _ us hl=>match us,hl with | [_],_=>rfl
 have Vy:=aX (st:=gM) jq5M jq3P jq3i;have ahs:=Vy.binds (ps:=["self"]) λ_ _ _ _ _ _ us hl=>match us,hl with | [_],_=>rfl
 have Vz:=aX (st:=jz) jq5N jq3R jq3k;have aht:=Vz.binds (ps:=["self"]) λ_ _ _ _ _ _ us hl=>match us,hl with | [_],_=>rfl
 have VA:=aX (st:=iL) jq5O jq3T jq3m;have ahu:=VA.binds (ps:=["self"]) λ_ _ _ _ _ _ us hl=>match us,hl with | [_],_=>rfl
 have VB:=aX (st:=gN) jq5P jq3V jq3o;have ahv:=VB.binds (ps:=["self"]) λ_ _ _ _ _ _ us hl=>match us,hl with | [_],_=>rfl
 have ahw:=aX (st:=fL) l_mr jq5Q jq1U;have akf:=ahw.binds (ps:=["self"]) λ_ _ _ _ _ _ us hl=>match us,hl with | [_],_=>rfl
 have ahx:=aX (st:=fM) l_mn jq5R jq2n;have L8:=ahx.binds (ps:=["self"]) λ_ _ _ _ _ _ us hl=>match us,hl with | [_],_=>rfl
 have VC:=aX (st:=gO) jq5S jq4c jq3q;have ahy:=VC.binds (ps:=["self"]) λ_ _ _ _ _ _ us hl=>match us,hl with | [_],_=>rfl
 have ahz:=aX (st:=fN) l_mt jq5T jq38;have aaf:=ahz.binds (ps:=["self"]) λ_ _ _ _ _ _ us hl=>match us,hl with | [_],_=>rfl
 have VD:=aX (st:=fO) jq5U jq4h jq3s;have ahA:=VD.binds (ps:=["self"]) λ_ _ _ _ _ _ us hl=>match us,hl with | [_],_=>rfl
 have VE:=aX (st:=fP) jq5V jq4j jq3u;have ahB:=VE.binds (ps:=["self"]) λ_ _ _ _ _ _ us hl=>match us,hl with | [_],_=>rfl
 have VF:=aX (st:=iM) jq5W jq4l jq3w;have ahC:=VF.binds (ps:=["self"]) λ_ _ _ _ _ _ us hl=>match us,hl with | [_],_=>rfl
 have VG:=aX (st:=fQ) jq5X jq4n jq3y;have ahD:=VG.binds (ps:=["self"]) λ_ _ _ _ _ _ us hl=>match us,hl with | [_],_=>rfl
 have VH:=aX (st:=gP) jq5Y jq4p jq3A;have ahE:=VH.binds (ps:=["self"]) λ_ _ _ _ _ _ us hl=>match us,hl with | [_],_=>rfl
 have VI:=aX (st:=fR) jq5Z jq4r jq4s;have ahF:=VI.binds (ps:=["self","text"]) λ_ _ _ _ _ _ us hl=>match us,hl with | [_,_],_=>rfl
 have VJ:=aX (st:=fS) jq60 jq4u jq4v;have ahG:=VJ.binds (ps:=["self","edit"]) λ_ _ _ _ _ _ us hl=>match us,hl with | [_,_],_=>rfl
 have VL:=aX (st:=iN) jq61 jq4x jq4y;have ahH:=VL.binds (ps:=["self","edit"]) λ_ _ _ _ _ _ us hl=>match us,hl with | [_,_],_=>rfl
 have VM:=aX (st:=fU) jq62 jq4A jq4B;have ahI:=VM.binds (ps:=["self","sitting"]) λ_ _ _ _ _ _ us hl=>match us,hl with | [_,_],_=>rfl
 have VN:=aX (st:=gQ) jq63 jq4D jq4E;have ahJ:=VN.binds (ps:=["self","clause"]) λ_ _ _ _ _ _ us hl=>match us,hl with | [_,_],_=>rfl
 have gx:=aX (st:=eD) jq1L jq1u jq1v;have i6:=gx.binds (ps:=["self","seats"]) λ_ _ _ _ _ _ us hl=>match us,hl with | [_,_],_=>rfl
 have gy:=aX (st:=eE) jq1M jq1y jq17;have i7:=gy.binds (ps:=["self","told"]) λ_ _ _ _ _ _ us hl=>match us,hl with | [_,_],_=>rfl
 have gz:=aX (st:=eF) jq1N jq1B jq18;have i8:=gz.binds (ps:=["self","ayes","noes"]) λ_ _ _ _ _ _ us hl=>match us,hl with | [_,_,_],_=>rfl
 have gA:=aX (st:=eG) jq1O jq1E jq19;have i9:=gA.binds (ps:=["self"]) λ_ _ _ _ _ _ us hl=>match us,hl with | [_],_=>rfl
 have gB:=aX (st:=eI) jq1P jq1H jq1a;have ja:=gB.binds (ps:=["self","number"]) λ_ _ _ _ _ _ us hl=>match us,hl with | [_,_],_=>rfl
 have fD:=aX (st:=cY) jq1J jq1m jq14;have fE:=fD.binds (ps:=["self"]) λ_ _ _ _ _ _ us hl=>match us,hl with | [_],_=>rfl
 have g7:=aX (st:=eJ) jq1o jq1f jqV;have jJ:=g7.binds (ps:=["self","number"]) λ_ _ _ _ _ _ us hl=>match us,hl with | [_,_],_=>rfl
 have d3:=aX (st:=cD) jq1h jq1c jqQ;have d4:=d3.binds (ps:=["self"]) λ_ _ _ _ _ _ us hl=>match us,hl with | [_],_=>rfl
 have cT:=aX (st:=cv) jqX jqT jqB;have d5:=cT.binds (ps:=["self","number"]) λ_ _ _ _ _ _ us hl=>match us,hl with | [_,_],_=>rfl
 have bJ:=aX (st:=bz) jqw jqs jqn;have b9:=bJ.binds (ps:=["self","told"]) λ_ _ _ _ _ _ us hl=>match us,hl with | [_,_],_=>rfl
 have b6:=aX (st:=bK) jqC jqz jqp;have b7:=b6.binds (ps:=["self"]) λ_ _ _ _ _ _ us hl=>match us,hl with | [_],_=>rfl
 have eL:=aX (st:=dn) jq1p jq1j jqW;have eM:=eL.binds (ps:=["self","word"]) λ_ _ _ _ _ _ us hl=>match us,hl with | [_,_],_=>rfl
 have cE:=aX (st:=bW) jqR jqM jqx;have cF:=cE.binds (ps:=["self","deed"]) λ_ _ _ _ _ _ us hl=>match us,hl with | [_,_],_=>rfl
 have cZ:=aX (st:=cG) jq15 jqZ jqD;have ez:=cZ.binds (ps:=["self","motion"]) λ_ _ _ _ _ _ us hl=>match us,hl with | [_,_],_=>rfl
 have cy:=aX (st:=bQ) jqO jqG jqu;have cV:=cy.binds (ps:=["self","edit"]) λ_ _ _ _ _ _ us hl=>match us,hl with | [_,_],_=>rfl
 have cz:=aX (st:=bR) jqP jqJ jqv;have cW:=cz.binds (ps:=["self","edit"]) λ_ _ _ _ _ _ us hl=>match us,hl with | [_,_],_=>rfl
 have dc:=aX (st:=cH) jq16 jq12 jqE;have df:=dc.binds (ps:=["self","until"]) λ_ _ _ _ _ _ us hl=>match us,hl with | [_,_],_=>rfl
 have mJ:=aX (st:=fV) jq2K jq2f jq2g;have mK:=mJ.binds (ps:=["self","bar"]) λ_ _ _ _ _ _ us hl=>match us,hl with | [_,_],_=>rfl
 have jc:=aX (st:=dQ) jq1T jq1R jq1S;have lR:=jc.binds (ps:=["self","sitting"]) λ_ _ _ _ _ _ us hl=>match us,hl with | [_,_],_=>rfl
 have mL:=aX (st:=fW) jq2L jq2k jq2l;have qI:=mL.binds (ps:=["self","sitting"]) λ_ _ _ _ _ _ us hl=>match us,hl with | [_,_],_=>rfl
 have T:Txt P K mg ⟨f_1,_,f_2,_,f_3,_,f_4,_,f_5,_,f_6,_,f_7,_,f_8,_,f_9,_,Tz,_,TB,_,TC,_,TF,_,TH,_,TK,_,TL,_,TM,_,TN,_,TQ,_,TR,_,TU,_,TV,_,TX,_,TY,_,TZ,_,T2,_,T3,_,T4,_,T5,_,T6,_,T7,_,T8,_,T9,_,Ua,_,Ub,_,Uc,_,Ud,_,Ue,_,Ug,_,Uh,_,kz,c0,c1,c2,c3,c4,c5,c6,c7,cm,tb,HD,_,HE,_,HF,_,HG,_,HI,_,HJ,_,HK,_,HL,_,zp,_,CJ,_,HM,_,K8,_,HN,_,HP,_,HQ,_,HR,_,HS,_,HU,_,HV,_,HW,_,HX,_,HY,_,bf,cf,_,cg,_,cj,_,ck,_,cn,_,bV,_,cw,_,bC,_,bx,_,a5,_,a9,_,bF,_,bg,_,bA,_,bp,_,bq,_,bB,_,aY,wU,mW,mX,mY,iH,p9,qa,qb,mZ,m5,m7,_,jn,_,m8,_⟩:={
  Kk:=F_1,
  P7:=b_1,
  P8:=kg X G a_1,
  ic:=F_2,
  kA:=b_2,
  kB:=kg X G a_2,
  Fb:=F_3,
  Kl:=b_3,
  Km:=kg X G a_3,
  iD:=F_4,
  jH:=b_4,
  jI:=kg X G a_4,
  nI:=F_5,
  r8:=b_5,
  r9:=kg X G a_5,
  nJ:=F_6,
  yG:=b_6,
  yH:=kg X G a_6,
  vX:=F_7,
  Bv:=b_7,
  Bw:=kg X G a_7,
  lQ:=F_8,
  qE:=b_8,
  qF:=kg X G a_8,
  lu:=F_9,
  qW:=b_9,
  qX:=kg X G a_9,
  hV:=agT,
  lF:=ajJ,
  lG:=kg X G a_10,
  iE:=agU,
  mF:=ajK,
  mG:=kg X G a_11,
  lx:=agV,
  qY:=ajL,
  qZ:=kg X G a_12,
  ly:=agW,
  q5:=ajM,
  q8:=kg X G a_13,
  mH:=agX,
  sf:=ajN,
  sg:=kg X G a_14,
  kP:=agY,
  nK:=ajO,
  nL:=kg X G a_15,
  xK:=agZ,
  DI:=ajP,
  DJ:=kg X G a_16,
  sj:=ag0,
  yI:=ajQ,
  yJ:=kg X G a_17,
  vY:=ag1,
  Bx:=ajR,
  By:=kg X G a_18,
  mI:=ag2,
  qG:=ajS,
  qH:=kg X G a_19,
  vZ:=ag3,
  Bz:=ajT,
  BA:=kg X G a_20,
  wb:=ag4,
  BB:=ajU,
  BC:=kg X G a_21,
  wc:=ag5,
  BD:=ajV,
  BE:=kg X G a_22,
  pM:=ag6,
  uj:=ajW,
  uk:=kg X G a_23,
  we:=ag7,
  BF:=ajX,
  BG:=kg X G a_24,
  Fc:=ag8,
  Mm:=ajY,
  Mo:=kg X G a_25,
  i5:=ag9,
  kD:=ajZ,
  kF:=kg X G a_26,
  wg:=aha,
  AB:=aj0,
  AD:=kg X G a_27,
  xM:=ahb,
  DK:=aj1,
  DL:=kg X G a_28,
  BH:=ahc,
  GC:=aj2,
  GD:=kg X G a_29,
  um:=ahd,
  xN:=aj3,
  xO:=kg X G a_30,
  xP:=ahe,
  DM:=aj4,
  DN:=kg X G a_31,
  xQ:=ahf,
  DO:=aj5,
  DQ:=kg X G a_32,
  Fd:=ahg,
  Mp:=aj6,
  Mq:=kg X G a_33,
  BI:=ahh,
  GF:=aj7,
  GG:=kg X G a_34,
  uO:=ahi,
  BJ:=aj8,
  BK:=kg X G a_35,
  BL:=ahj,
  GH:=aj9,
  GI:=kg X G a_36,
  BM:=ahk,
  GJ:=aka,
  GK:=kg X G a_37,
  xR:=ahl,
  DR:=akb,
  DS:=kg X G a_38,
  sv:=ahm,
  yK:=akc,
  yL:=kg X G a_39,
  BN:=ahn,
  GL:=akd,
  GN:=kg X G a_40,
  wj:=ak4 X G z1,
  nY:=ak4 X G z2,
  Fe:=ak4 X G z3,
  kQ:=ak4 X G z4,
  GO:=ak4 X G z5,
  UA:=ak4 X G z6,
  P9:=ak4 X G z7,
  wm:=ak4 X G z8,
  Qa:=ak4 X G z9,
  Ff:=ak4 X G z10,
  wo:=kg X G jq1Q,
  cl:=λk hk=>match k,hk with | 0,_=>⟨pg0,hd0,po0,sa0⟩ | 1,_=>⟨pg1,hd1,po1,sa1⟩ | 2,_=>⟨pg2,hd2,po2,sa2⟩ | 3,_=>⟨pg3,hd3,po3,sa3⟩ | 4,_=>⟨pg4,hd4,po4,sa4⟩ | 5,_=>⟨pg5,hd5,po5,sa5⟩ | 6,_=>⟨pg6,hd6,po6,sa6⟩ | 7,_=>⟨pg7,hd7,po7,sa7⟩ | n+8,h=>absurd h (by omega),
  wq:=kg X G ac0,
  wu:=kg X G ac1,
  Kn:=kg X G ac2,
  BO:=kg X G ac3,
  Fg:=kg X G ac4,
  Qb:=kg X G ac5,
  Ko:=kg X G ac6,
  Fh:=kg X G ac7,
  Fi:=kg X G atb,
  tb:=⟨est,nt,ltb,ktb⟩,
  rk:=λk hk=>match k,hk with | 0,_=>⟨_,rk0⟩ | 1,_=>⟨_,rk1⟩ | 2,_=>⟨_,rk2⟩ | 3,_=>⟨_,rk3⟩ | 4,_=>⟨_,rk4⟩ | 5,_=>⟨_,rk5⟩ | 6,_=>⟨_,rk6⟩ | 7,_=>⟨_,rk7⟩ | n+8,h=>absurd h (by omega),
  nZ:=λk hk=>match k,hk with | 0,_=>⟨jq39,jq3I,jq3a⟩ | 1,_=>⟨jq3b,jq3K,jq3c⟩ | 2,_=>⟨jq3d,jq3M,jq3e⟩ | 3,_=>⟨jq3f,jq3O,jq3g⟩ | 4,_=>⟨jq3h,jq3Q,jq3i⟩ | 5,_=>⟨jq3j,jq3S,jq3k⟩ | 6,_=>⟨jq3l,jq3U,jq3m⟩ | 7,_=>⟨jq3n,jq3W,jq3o⟩ | n+8,h=>absurd h (by omega),
  n5:=λk hk=>match k,hk with | 0,_=>aho | 1,_=>ahp | 2,_=>ahq | 3,_=>ahr | 4,_=>ahs | 5,_=>aht | 6,_=>ahu | 7,_=>ahv | n+8,h=>absurd h (by omega),
  Qc:=λk hk=>match k,hk with | 0,_=>⟨jq45,jq2M,jq2n⟩ | 1,_=>⟨jq46,jq2M,jq2n⟩ | 2,_=>⟨jq47,jq2M,jq2n⟩ | 3,_=>⟨jq48,jq2M,jq2n⟩ | 4,_=>⟨jq3p,jq4d,jq3q⟩ | 5,_=>⟨jq49,jq2M,jq2n⟩ | 6,_=>⟨jq4a,jq2M,jq2n⟩ | 7,_=>⟨jq4b,jq2M,jq2n⟩ | n+8,h=>absurd h (by omega),
  Qd:=λk hk=>match k,hk with | 0,_=>L8 | 1,_=>L8 | 2,_=>L8 | 3,_=>L8 | 4,_=>ahy | 5,_=>L8 | 6,_=>L8 | 7,_=>L8 | n+8,h=>absurd h (by omega),
  Qe:=λk hk=>match k,hk with | 0,_=>⟨jq3r,jq4i,jq3s⟩ | 1,_=>⟨jq3t,jq4k,jq3u⟩ | 2,_=>⟨jq3v,jq4m,jq3w⟩ | 3,_=>⟨jq3x,jq4o,jq3y⟩ | 4,_=>⟨jq4e,jq3G,jq38⟩ | 5,_=>⟨jq4f,jq3G,jq38⟩ | 6,_=>⟨jq4g,jq3G,jq38⟩ | 7,_=>⟨jq3z,jq4q,jq3A⟩ | n+8,h=>absurd h (by omega),
  Qf:=λk hk=>match k,hk with | 0,_=>ahA | 1,_=>ahB | 2,_=>ahC | 3,_=>ahD | 4,_=>aaf | 5,_=>aaf | 6,_=>aaf | 7,_=>ahE | n+8,h=>absurd h (by omega),
  Qg:=λk hk=>match k,hk with | 0,_=>⟨jq3X,jq2m,jq1U⟩ | 1,_=>⟨jq3Y,jq2m,jq1U⟩ | 2,_=>⟨jq3Z,jq2m,jq1U⟩ | 3,_=>⟨jq40,jq2m,jq1U⟩ | 4,_=>⟨jq41,jq2m,jq1U⟩ | 5,_=>⟨jq42,jq2m,jq1U⟩ | 6,_=>⟨jq43,jq2m,jq1U⟩ | 7,_=>⟨jq44,jq2m,jq1U⟩ | n+8,h=>absurd h (by omega),
  Qh:=λ_ _=>akf,
  aa2:=Vu,
  aa3:=Vv,
  aa4:=Vw,
  aa5:=Vx,
  aa6:=Vy,
  aa7:=Vz,
  aa8:=VA,
  aa9:=VB,
  F_r:=ahw,
  F_n:=ahx,
  aba:=VC,
  F_t:=ahz,
  abb:=VD,
  abc:=VE,
  abd:=VF,
  abe:=VG,
  abf:=VH,
  abg:=VI,
  abh:=VJ,
  abi:=VL,
  abj:=VM,
  abk:=VN,
  wy:=⟨mk0,jq3B,jq4t,kc0⟩,
  SQ:=ahF,
  na0:=na0,
  wz:=⟨mk1,jq3C,jq4w,kc1⟩,
  SR:=ahG,
  na1:=na1,
  Kp:=⟨mk2,jq3D,jq4z,kc2⟩,
  WO:=ahH,
  na2:=na2,
  BP:=⟨mk3,jq3E,jq4C,kc3⟩,
  WQ:=ahI,
  na3:=na3,
  Fj:=⟨mk7,jq3F,jq4F,kc7⟩,
  WR:=ahJ,
  na7:=na7,
  mkn:=λk hk=>by
   rcases hk with rfl | rfl | rfl
   ·exact⟨mk4,ni4,kc4⟩
   ·exact⟨mk5,ni5,kc5⟩
   ·exact⟨mk6,ni6,kc6⟩,
  DT:=kg X G jq2o,
  au:=⟨jq2p,jq2q,jq2r,jq2s⟩,
  gx:=gx,
  i6:=i6,
  DU:=⟨jq2t,jq1t,jq1w,jq2u⟩,
  gy:=gy,
  i7:=i7,
  sx:=⟨jq1x,jq1z,jq17⟩,
  gz:=gz,
  i8:=i8,
  sy:=⟨jq1A,jq1C,jq18⟩,
  gA:=gA,
  i9:=i9,
  sA:=⟨jq1D,jq1F,jq19⟩,
  gB:=gB,
  ja:=ja,
  sC:=⟨jq1G,jq1I,jq1a⟩,
  fD:=fD,
  fE:=fE,
  lz:=⟨jq1l,jq1n,jq14⟩,
  g7:=g7,
  jJ:=jJ,
  xS:=⟨jq1e,jq1g,jqV⟩,
  d3:=d3,
  d4:=d4,
  jb:=⟨jq1b,jq1d,jqQ⟩,
  cT:=cT,
  d5:=d5,
  kR:=⟨jqS,jqU,jqB⟩,
  bJ:=bJ,
  b9:=b9,
  eW:=⟨jqr,jqt,jqn⟩,
  b6:=b6,
  b7:=b7,
  dM:=⟨jqy,jqA,jqp⟩,
  eL:=eL,
  eM:=eM,
  jK:=⟨jq1i,jq1k,jqW⟩,
  cE:=cE,
  cF:=cF,
  fh:=⟨jqL,jqN,jqx⟩,
  cZ:=cZ,
  ez:=ez,
  lH:=⟨jqY,jq10,jqD⟩,
  cy:=cy,
  cV:=cV,
  iS:=⟨jqF,jqH,jqu⟩,
  cz:=cz,
  cW:=cW,
  iT:=⟨jqI,jqK,jqv⟩,
  dc:=dc,
  df:=df,
  hX:=⟨jq11,jq13,jqE⟩,
  jqq:=jqq,
  jq1:=jq1,
  jq3:=jq3,
  jq4:=jq4,
  jq0:=jq0,
  jq2:=jq2,
  jqj:=jqj,
  jqb:=jqb,
  jq5:=jq5,
  jqk:=jqk,
  gC:=kg X G jq1K,
  Mr:=kg X G jq33,
  BQ:=kg X G jq2N,
  BR:=kg X G jq1V,
  BS:=kg X G jq1W,
  BU:=kg X G jq1X,
  DW:=kg X G jq2v,
  DX:=kg X G jq2w,
  DY:=kg X G jq2x,
  GP:=kg X G jq2O,
  Kq:=kg X G jq1Y,
  iz:=⟨jq1q,jq1r,jq1s⟩,
  GQ:=⟨⟨_,_,_,_,_,_,_,_,_,_,_,_,_,_,_,_,jq34,⟨⟨_,_,_,_,_,jq35,jq36⟩,jq37⟩,(iZ.own jq6 (by rw[jq7];exact⟨⟨_,_,_,_,_,jq8,jq9⟩,jqa⟩) iZ.base)⟩⟩,
  jqo:=jqo,
  yM:=⟨⟨_,_,_,_,_,_,_,_,_,_,_,_,_,_,_,_,jq1Z,⟨⟨_,_,_,_,_,jq23,jq24⟩,jq25⟩,(iZ.own jq6 (by rw[jq7];exact⟨⟨_,_,_,_,_,jq8,jq9⟩,jqa⟩) iZ.base)⟩⟩,
  jqc:=jqc,
  yN:=⟨⟨_,_,_,_,_,_,_,_,_,_,_,_,_,_,_,_,jq20,⟨⟨_,_,_,_,_,jq26,jq27⟩,jq28⟩,(iZ.own jq6 (by rw[jq7];exact⟨⟨_,_,_,_,_,jq8,jq9⟩,jqa⟩) iZ.base)⟩⟩,
  jqd:=jqd,
  BV:=⟨⟨_,_,_,_,_,_,_,_,_,_,_,_,_,_,_,_,jq2y,⟨⟨_,_,_,_,_,jq2B,jq2C⟩,jq2D⟩,(iZ.own jq6 (by rw[jq7];exact⟨⟨_,_,_,_,_,jq8,jq9⟩,jqa⟩) iZ.base)⟩⟩,
  jqg:=jqg,
  BW:=⟨⟨_,_,_,_,_,_,_,_,_,_,_,_,_,_,_,_,jq2z,⟨⟨_,_,_,_,_,jq2E,jq2F⟩,jq2G⟩,(iZ.own jq6 (by rw[jq7];exact⟨⟨_,_,_,_,_,jq8,jq9⟩,jqa⟩) iZ.base)⟩⟩,
  jqh:=jqh,
  BX:=⟨⟨_,_,_,_,_,_,_,_,_,_,_,_,_,_,_,_,jq2A,⟨⟨_,_,_,_,_,jq2H,jq2I⟩,jq2J⟩,(iZ.own jq6 (by rw[jq7];exact⟨⟨_,_,_,_,_,jq8,jq9⟩,jqa⟩) iZ.base)⟩⟩,
  jqi:=jqi,
  GR:=⟨⟨_,_,_,_,_,_,_,_,_,_,_,_,_,_,_,_,jq21,⟨⟨_,_,_,_,_,jq29,jq2a⟩,jq2b⟩,(iZ.own jq6 (by rw[jq7];exact⟨⟨_,_,_,_,_,jq8,jq9⟩,jqa⟩) iZ.base)⟩⟩,
  jqe:=jqe,
  mJ:=mJ,
  mK:=mK,
  pN:=⟨⟨_,_,_,_,_,_,_,_,_,_,_,_,_,_,_,_,jq2P,(iZ.own jq6 (by rw[jq7];exact⟨⟨_,_,_,_,_,jq8,jq9⟩,jqa⟩) iZ.base),rfl,⟨⟨_,_,_,_,_,jq2R,jq2S⟩,jq2T⟩⟩,jq2X,jq2Y,jq2Z⟩,
  jql:=jql,
  jc:=jc,
  lR:=lR,
  nM:=⟨⟨_,_,_,_,_,_,_,_,_,_,_,_,_,_,_,_,jq22,(iZ.own jq6 (by rw[jq7];exact⟨⟨_,_,_,_,_,jq8,jq9⟩,jqa⟩) iZ.base),rfl,⟨⟨_,_,_,_,_,jq2c,jq2d⟩,jq2e⟩⟩,jq2h,jq2i,jq2j⟩,
  jqf:=jqf,
  mL:=mL,
  qI:=qI,
  uo:=⟨⟨_,_,_,_,_,_,_,_,_,_,_,_,_,_,_,_,jq2Q,(iZ.own jq6 (by rw[jq7];exact⟨⟨_,_,_,_,_,jq8,jq9⟩,jqa⟩) iZ.base),rfl,⟨⟨_,_,_,_,_,jq2U,jq2V⟩,jq2W⟩⟩,jq30,jq31,jq32⟩,
  jqm:=jqm }
 subst hP;exact⟨fe "law" "law" (aS vO) (aQ vO) (ag vO) .none Vn Vo Vp UN Ru Vq,λs v=>.of_eq rfl,λbase _ _=>Xs ake T⟩
theorem walk {l:PySem.W.OpenLaw}{q:me}{loose:List Str}{XP:(Str->Option Value)->Heap->Prop}{YP:World->Heap->Prop}{d:DefRec}{K:Params->ba}(hn:l.most=some 63)(hdf:d.params.defaults=[])
  (hY:∀(w:World) (h:Heap),YP w h->(K w.params).In h)
  (F:∀(w:World) (mg:Str->Option Value) (fa:Addr) (h:Heap),(K w.params).In h->h.Ns ka mg->mg d.name=some (.ref fa) ->
   ∃fd:ki,(∀(s:Shared) (u:Value),BindsTo s fd ⟨[u],[]⟩ [("_law_script",u)])/\∀base:Heap,(K w.params).In base->base.Ns ka mg->aO l.prog w (K w.params) mg base CX0 20 fa fd ["_law_script"] (MZ (K w.params))) :
  PySem.W.WalkO q loose XP YP l.row.toRowW d [] (λf vs=>PySem.call f vs) :=
 L2.Sq (n:=63) (k:=20) (x:="_law_script") (CX:=λ_=>CX0) (sp:=λw=>MZ (K w.params)) hn (by decide) hdf ⟨rfl,by decide,by decide,rfl⟩ hY F (λ_ _ a ns hl _ hS=>⟨a,ns,rfl,hS,hl,λ_=>rfl⟩) λ_ _ _ _ _ z=>z
end My
structure PySem.W.Fast:Prop where
 (tw3608519203133873735
 tw18382345245804966064
 tw10861137350396556217
 tw12273980076260544807
 tw2245347144088113268
 tw6826489201737054735
 tw3629305976307516501
 tw16540008287606921463
 tw2614926607071968354
 tw14918000177601276345
 tw8515259409098234858
 tw16948313784894924464
 tw10273959698405759856
 tw17732423132868623459
 tw9594764893487532719
 tw15575231055252600110
 tw9716351866276550237
 tw7504418516003135300
 tw5470694563978148117
 tw9267951144093711785
 tw13238160369153806763
 tw9169921471026802680
 tw8970680058934025112
 tw3415060082596858395
 tw5261667168230378465
 tw16255753377739089356
 tw1586628424138302735
 tw4710424523211641479
 tw9634512959128067597
 tw418376150942479386
 tw264288256645467236
 tw14634236062525046852
 tw5471656687755242048
 tw15505941324729547881
 tw12323514100402218524
 tw8588540767627012680
 tw7434360964035040352
 tw11781398941400504711
 tw8857337190173186132
 tw9375937836978552677
 tw4081084082416310133
 tw11948915094154643178
 tw16070677073111501331
 tw7022200384867612779
 tw13119298746436072309
 tw14212392761921641425
 tw3943273084945172166
 tw14142139220868611923
 tw4257033511384699538
 tw6991685914838911089
 tw12655918312198872310
 tw10290166658832284228
 tw12628684801095206022
 tw4661841678486861615
 tw15014864641532518021
 tw11132736692852700939
 tw16355966892259380574
 tw4707471862973804819
 tw13215092985768923972
 tw1453697607515038339
 tw813343950743897016
 tw4967437607981871913
 tw14550527955854051885
 tw18067908903391622249
 tw2593127843130616918
 tw14821231951995189318
 tw10318719529746287749
 tw4640049207354370698
 tw9339283768681274016
 tw12183364461630323620
 tw16162472224526106179
 tw4446484820294601044
 tw10575098478922605343
 tw1704985173199078268
 tw16813026502530374150
 tw15535935732023489184
 tw410130568617392077
 tw15750959664211735237
 tw4543480322709061006
 tw9028464548325895606
 tw12747124363734830004
 tw3319391487041954013
 tw15311451085114873191
 tw3915378764786929008
 tw7227770011914780770
 tw9553904368490626164
 tw1474910399401694987
 tw6175332948778109418
 tw7414005024736999541
 tw4049479509427464554
 tw14306699837455935722
 tw18311780361931547271
 tw2030774663410295572
 tw10238670448717748528
 tw5747452821019553292
 tw18254737686420156753
 tw14467949123403067284
 tw4445895503711106355
 tw6488496104954532317
 tw18179336428776376034
 tw11945466182966411940
 tw17213246709015444614
 tw4566657980585991827
 tw14213927369820599086
 tw13571602669528020303
 tw9924225186371416274
 tw13803307512295571592
 tw6564060990199179765
 tw11808070476857782022
 tw11064818139289394314
 tw17234051217196081315
 tw14873244496776618644
 tw6584235935573251897
 tw13769902708133760508
 tw9170097292579175437
 tw842736164513925022
 tw6406053331059034215
 tw10118944133484807010
 tw31440868435145485
 tw1740490996454176912
 tw775336360559872374
 tw9646252463660495361
 tw17930078823613924905
 tw9699631770881593022
 tw8988466990660550159
 tw9925046099817433727
 tw13514749102906818558
 tw12268347212930766489
 tw11234521384003011138
 tw9470134977546501480
 tw16420800393869157976
 tw5877695442677634272
 tw7432882368062064361
 tw1295076805485194374
 tw12063414051140580604
 tw17290728708770580495
 tw3802153337836329696
 tw14296482642169020337
 tw14420000924860003680
 tw4882308585051654115
 tw14830569261053723094
 tw12814931182146680682
 tw7746108250322343725
 tw17709589646801123593
 tw4378436876633058042
 tw10021487085092658646
 tw10801977777466477927
 tw8636098336567464922
 tw17465875729962831942
 tw829031643560846702
 tw740111245078013936
 tw10131845332354718548
 tw11099988893873702352
 tw9107986027033132502
 tw7208267426091151836
 tw10874120982517331937
 tw16831003852071733412
 tw7576914087568314270
 tw18350371717806690627
 tw16366227538149817984
 tw16865798651373468179
 tw5135339201091287499
 tw12048080113900626500
 tw12703164087848196729
 tw4712529551117345033
 tw12417593420172957837
 tw12388978984460704245
 tw16575135733978216599
 tw17513837638453793129
 tw15894460760583012581
 tw1397710118298785930
 tw13071997077799282894
 tw11088534347590897286
 tw11700714326233397672
 tw10886220527943500359
 tw14032115040971436986
 tw11032582634678090522
 tw15823258271823865759
 tw13803371246799021176
 tw1155059414445799085
 tw845491642865945998
 tw17448642659799909879
 tw493714670253089203
 tw4707410555870891664
 tw17236952265425093897
 tw14480753555829189186
 tw15380606682182428136
 tw17884460633155911849
 tw9707319771743990553
 tw7162531476750217436
 tw18186629405579225439
 tw13380495314913519114
 tw10716195657409493548
 tw12320887178866709717
 tw17352911694032482262
 tw1722951325019800854
 tw9226511161851290327
 tw13049350815339744463
 tw3799892167766829489
 tw3285068302985397405
 tw17204607131151441301
 tw8155470304374314464
 tw8137905519865418631
 tw8043854922531769353
 tw18224680220881109461
 tw3273203062641775926
 tw5102685563829054175
 tw17305611992567995037
 tw16026013582004443652
 tw14473296494736038149
 tw8295321338012243416
 tw4178476288079102246
 tw8734292775647590999
 tw8739231018272848515
 tw11563462044656240248
 tw9374994521714633265
 tw13228073400948730274
 tw17489599535091974246
 tw12416387390702106490
 tw2661754443867227565
 tw6861432718898037273
 tw2867242684010646562
 tw17443485788700613154
 tw8056105925218786380
 tw12418170871148009717
 tw10615491867747245971
 tw3075061624835152176
 tw17325331825463921363
 tw15862185534710817123
 tw10131653543629901109
 tw4731760384094465294
 tw2275161702327124744
 tw12008404926643457993
 tw13722383063117734171
 tw1788690186553865983
 tw3582771292793271993
 tw2712651122602518121
 tw4791354875538018540
 tw8086481143023584715
 tw7448396546050318488
 tw15123520228954605528
 tw7508837351071698507
 tw13716611283562702751
 tw8520979154871469731
 tw10971295240197047633
 tw6923382239165410884
 tw3848626377550827475
 tw4219683820796613512
 tw14438265078414412667
 tw10878818462417121510
 tw14133399267282124336
 tw14336348132933635796
 tw11431266723425632239
 tw10300597377439263540
 tw17765846254316002488
 tw10671268493271690622
 tw6596606234640784208
 tw13672854128781449379
 tw8571047718965516788
 tw7806304079092091085
 tw5404481425561879703
 tw9497355078843791494
 tw3527281934774889141
 tw6372087966974896586
 tw7446581503845075143
 tw17128704840541577026
 tw4213909178022372643
 tw11465946313401776016
 tw14309065068679676443
 tw17125622492803043669
 tw16417550250654065526
 tw8079171607470814495
 tw14106598923089150809
 tw11885230763410555366
 tw785867780090050486
 tw17193547928990011470
 tw12288726994277204000
 tw1890924814080027999
 tw13736387143873950819
 tw5884425536896109294
 tw15107830584657503585
 tw15988396996306927606
 tw11590026444464493456
 tw17032187346217313548
 tw137769745351638996
 tw1169289582039604896
 tw10468742938542687728
 tw10258043944722802181
 tw6871580315483994731
 tw6764550393554125560
 tw18028976012669119593
 tw5185769952661237769
 tw5683493224915270720
 tw2697627010914768673
 tw11536816671265259996
 tw7183079154194913975
 tw8248264252399961348
 tw18060416883862415842
 tw2405246682324511530
 tw13792786273924450510
 tw3501361691957485066
 tw9769187194821668516
 tw2762408489248104171
 tw14041273086958957887
 tw2374688971513950417
 tw17056462463942142857
 tw17744471078622172977
 tw6655096821604613121
 tw17790558269397961054
 tw15757603473158631743
 tw11256412935524174609
 tw7189124827559987295
 tw14222143105910318156
 tw8742787975629227646
 tw4420367134990478936
 tw14455528717907084717
 tw8134250929226684654
 tw997643770993452105
 tw18310091743705845654
 tw18145071898695610792
 tw11040437970937234800
 tw6972307575122311302
 tw6154650218806164080
 tw16220558168971184168
 tw8116710253246401856
 tw1070920299299669064
 tw10655371140822638269
 tw6776537079376917028
 tw5129502821924945610
 tw6868134966927869320
 tw15244198870125187933
 tw11297635906944111785
 tw5488317760215515378
 tw8029122146016528853
 tw1589141271413171701
 tw9473043383503258688
 tw1583904480069150383
 tw11355040695313859514
 tw653173380887750491
 tw979039779660429674
 tw13921201661650863639
 tw13340260803776738480
 tw5734283304842111217
 tw17003169395103519623
 tw12968821660299749668
 tw10413890534513495765
 tw6193047542214748876
 tw5886914080021101357
 tw15090623002901185193
 tw752554246451518228
 tw2028668786338559658
 tw9308285546567213215
 tw3569223289355469505
 tw12723215625374336775
 tw9266895353110624184
 tw9667946617026829427
 tw8211943267642946672
 tw18088142568503753431
 tw13975192818302517060
 tw12244356643756435935
 tw15264186423253805870
 tw16778901246678354425
 tw9853284455496544915
 tw8088818730730297212
 tw10403950960543918744
 tw4986997928512272932
 tw9388446636512842336
 tw11521152041292275252
 tw15720386668389909191
 tw7914394984022584199
 tw3839631591301332546
 tw3122447858599481969
 tw18242378363938046054
 tw16937388544309447298
 tw7462367339417566784
 tw17118507529782138731
 tw9434341756309885461
 tw10022315316274252082
 tw12018213362125339657
 tw5316540696168450244
 tw3906234112109017751
 tw5712603918160425315
 tw1846569209623513993
 tw3840601005998022765
 tw9347656546960250588
 tw12199256926603586649
 tw4208464539701844907
 tw1256138432426413807
 tw6696465635759306437
 tw6802285254890741222
 tw11738811689851428180
 tw2516257698275061375
 tw15548868687280959511
 tw16278137045763165326
 tw16131937828644574197
 tw16565123759503053685
 tw8458341459868864919
 tw8366487818109888826
 tw4100431837132293603
 tw5402785367407040404
 tw9991713799613048737
 tw5428798325888581860
 tw12581489447987828147
 tw3775585090271469877
 tw11340028103403365129
 tw16978494231621308635
 tw15589585241724647916
 tw6783116185110695450
 tw15655169537295801639
 tw293453811069980002
 tw16270550291885701839
 tw668414961764147272
 tw14501149893545367208
 tw4649439444213096873
 tw16533772512964507388
 tw9955478544704736756
 tw15846049884545988937
 tw8980576877504158066
 tw15985534152768621774
 tw12354402330910477782
 tw7133046311216501346
 tw15286513818550417610
 tw14040625560349326688
 tw5451159128706576989
 tw2929832987552326030
 tw7196818202240908134
 tw13327733343746203487
 tw13334365862644579345
 tw115625558751872706
 tw4195096208950588855
 tw2673619479288355950
 tw17666750884690387835
 tw17247713097688183059
 tw6934009239792040742
 tw17859945711824652791
 tw9542556794117153916
 tw96524076892828907
 tw12777288013315282171
 tw13400314027044542477
 tw2785707631934269017
 tw4557360010505672872
 tw5479900046408789204
 tw17009262770632659252
 tw17687937570942685215
 tw6422145817400537504
 tw14953931339264705497
 tw376043824236858868
 tw8767075413259623399
 tw2877854234732582591
 tw10937981812044433926
 tw3146437454926122367
 tw12700967484219100286
 tw17778150393893291590
 tw4152105739792365495
 tw8668318768413010940
 tw17101802333662323055
 tw10102955744758177939
 tw15253459578429908866
 tw11257448313997130552
 tw8825688717360524885
 tw4686227898640778720
 tw565404389454778494
 tw2927070628979479811
 tw6650595970264417710
 tw4164332631388938961
 tw9925839323153988022
 tw16730497004672441771
 tw16096825784028706963
 tw1933091964311483625
 tw9249329816493328763
 tw18205545069901067787
 tw124066456509812644
 tw13821238487931254576
 tw15025482287652964567
 tw8010939019243164506
 tw3880534071436272139
 tw12832639760517972899
 tw8525109202189122635
 tw8624891720841590396
 tw2063597132606878767
 tw11205968866149158029
 tw9591547606695432093
 tw8362638341012855278
 tw7919978787830691245
 tw15399210908194994465
 tw11621593407687104571
 tw16559300450732977552
 tw17813305001637827377
 tw791226380595261541
 tw17768933706374495369
 tw10912425192516964928
 tw10659176942238497600
 tw16855485871652221727
 tw8493115266827349536
 tw11627762444977719691
 tw10387562716481700585
 tw15326885970297178194
 tw4698474963393404346
 tw6118467476382721903
 tw8453640077322255680
 tw15609698260957709223
 tw17967499167777033334
 tw7173724998438918407
 tw15431529932472819111
 tw14260183806752286559
 tw271294284367526719
 tw5822649334044375295
 tw13448685404905059318
 tw12900543834856205044
 tw1625557661909307238
 tw2452722281775277141
 tw10709952581015695988
 tw8285474877610948096
 tw9063879819849822036:True)
open PySem PySem.W PyProof.Rows
set_option maxRecDepth 100000 in
set_option maxHeartbeats 0 in
theorem PySem.Challenge.cw_moot_k16_whole_each_motion_once_holds : PySem.Challenge.rw_moot_k16_whole_each_motion_once.Holds := by
 w_on;o_law;k_head;(case hw=>w_witness2)
 k_fill;refine My.walk (l:=PySem.Challenge.rw_moot_k16_whole_each_motion_once) rfl rfl (λw h Y=>PySem.W.kIn_of Y) ?F
 case F =>
  intro w mg fa h KX G hmg;refine' My.all_mk KX G hmg rfl ?a_1 ?l_1 ?cc_1 ?kp_1 ?a_2 ?l_2 ?cc_2 ?kp_2 ?a_3 ?l_3 ?cc_3 ?kp_3 ?a_4 ?l_4 ?cc_4 ?kp_4 ?a_5 ?l_5 ?cc_5 ?kp_5 ?a_6 ?l_6 ?cc_6 ?kp_6 ?a_7 ?l_7 ?cc_7 ?kp_7 ?a_8 ?l_8 ?cc_8 ?kp_8 ?a_9 ?l_9 ?cc_9 ?kp_9 ?a_10 ?l_10 ?jq4G ?jq4H ?a_11 ?l_11 ?jq4I ?jq4J ?a_12 ?l_12 ?jq4K ?jq4L ?a_13 ?l_13 ?jq4M ?jq4N ?a_14 ?l_14 ?jq4O ?jq4P ?a_15 ?l_15 ?jq4Q ?jq4R ?a_16 ?l_16 ?jq4S ?jq4T ?a_17 ?l_17 ?jq4U ?jq4V ?a_18 ?l_18 ?jq4W ?jq4X ?a_19 ?l_19 ?jq4Y ?jq4Z ?a_20 ?l_20 ?jq50 ?jq51 ?a_21 ?l_21 ?jq52 ?jq53 ?a_22 ?l_22 ?jq54 ?jq55 ?a_23 ?l_23 ?jq56 ?jq57 ?a_24 ?l_24 ?jq58 ?jq59 ?a_25 ?l_25 ?jq5a ?jq5b ?a_26 ?l_26 ?jq5c ?jq5d ?a_27 ?l_27 ?jq5e ?jq5f ?a_28 ?l_28 ?jq5g ?jq5h ?a_29 ?l_29 ?jq5i ?jq5j ?a_30 ?l_30 ?jq5k ?jq5l ?a_31 ?l_31 ?jq5m ?jq5n ?a_32 ?l_32 ?jq5o ?jq5p ?a_33 ?l_33 ?jq5q ?jq5r ?a_34 ?l_34 ?jq5s ?jq5t ?a_35 ?l_35 ?jq5u ?jq5v ?a_36 ?l_36 ?jq5w ?jq5x ?a_37 ?l_37 ?jq5y ?jq5z ?a_38 ?l_38 ?jq5A ?jq5B ?a_39 ?l_39 ?jq5C ?jq5D ?a_40 ?l_40 ?jq5E ?jq5F ?a_41 ?l_41 ?jq5G ?jq5H ?z1 ?z2 ?z3 ?z4 ?z5 ?z6 ?z7 ?z8 ?z9 ?z10 ?jq1Q ?ac0 ?ac1 ?ac2 ?ac3 ?ac4 ?ac5 ?ac6 ?ac7 ?acm ?atb ?ltb ?ktb ?rk0 ?rk1 ?rk2 ?rk3 ?rk4 ?rk5 ?rk6 ?rk7 ?pg0 ?hd0 ?po0 ?sa0 ?mk0 ?kc0 ?pg1 ?hd1 ?po1 ?sa1 ?mk1 ?kc1 ?pg2 ?hd2 ?po2 ?sa2 ?mk2 ?kc2 ?pg3 ?hd3 ?po3 ?sa3 ?mk3 ?kc3 ?pg4 ?hd4 ?po4 ?sa4 ?mk4 ?kc4 ?pg5 ?hd5 ?po5 ?sa5 ?mk5 ?kc5 ?pg6 ?hd6 ?po6 ?sa6 ?mk6 ?kc6 ?pg7 ?hd7 ?po7 ?sa7 ?mk7 ?kc7 ?jq39 ?jq5I ?jq3H ?jq3a ?jq3I ?jq3b ?jq5J ?jq3J ?jq3c ?jq3K ?jq3d ?jq5K ?jq3L ?jq3e ?jq3M ?jq3f ?jq5L ?jq3N ?jq3g ?jq3O ?jq3h ?jq5M ?jq3P ?jq3i ?jq3Q ?jq3j ?jq5N ?jq3R ?jq3k ?jq3S ?jq3l ?jq5O ?jq3T ?jq3m ?jq3U ?jq3n ?jq5P ?jq3V ?jq3o ?jq3W ?jq3X ?jq3Y ?jq3Z ?jq40 ?jq41 ?jq42 ?jq43 ?jq44 ?l_mr ?jq5Q ?jq1U ?jq2m ?jq45 ?jq46 ?jq47 ?jq48 ?jq49 ?jq4a ?jq4b ?l_mn ?jq5R ?jq2n ?jq2M ?jq3p ?jq5S ?jq4c ?jq3q ?jq4d ?jq4e ?jq4f ?jq4g ?l_mt ?jq5T ?jq38 ?jq3G ?jq3r ?jq5U ?jq4h ?jq3s ?jq4i ?jq3t ?jq5V ?jq4j ?jq3u ?jq4k ?jq3v ?jq5W ?jq4l ?jq3w ?jq4m ?jq3x ?jq5X ?jq4n ?jq3y ?jq4o ?jq3z ?jq5Y ?jq4p ?jq3A ?jq4q ?jq3B ?jq5Z ?jq4r ?jq4s ?jq4t ?jq3C ?jq60 ?jq4u ?jq4v ?jq4w ?jq3D ?jq61 ?jq4x ?jq4y ?jq4z ?jq3E ?jq62 ?jq4A ?jq4B ?jq4C ?jq3F ?jq63 ?jq4D ?jq4E ?jq4F ?na0 ?na1 ?na2 ?na3 ?na7 ?ni4 ?ni5 ?ni6 ?jq2o ?jq2p ?jq2q ?jq2r ?jq2s ?jq2t ?jq2u ?jq1t ?jq1L ?jq1u ?jq1v ?jq1w ?jq1x ?jq1M ?jq1y ?jq17 ?jq1z ?jq1A ?jq1N ?jq1B ?jq18 ?jq1C ?jq1D ?jq1O ?jq1E ?jq19 ?jq1F ?jq1G ?jq1P ?jq1H ?jq1a ?jq1I ?jq1l ?jq1J ?jq1m ?jq14 ?jq1n ?jq1e ?jq1o ?jq1f ?jqV ?jq1g ?jq1b ?jq1h ?jq1c ?jqQ ?jq1d ?jqS ?jqX ?jqT ?jqB ?jqU ?jqr ?jqw ?jqs ?jqn ?jqt ?jqy ?jqC ?jqz ?jqp ?jqA ?jq1i ?jq1p ?jq1j ?jqW ?jq1k ?jqL ?jqR ?jqM ?jqx ?jqN ?jqY ?jq15 ?jqZ ?jqD ?jq10 ?jqF ?jqO ?jqG ?jqu ?jqH ?jqI ?jqP ?jqJ ?jqv ?jqK ?jq11 ?jq16 ?jq12 ?jqE ?jq13 ?jqq ?jq1 ?jq3 ?jq4 ?jq0 ?jq2 ?jqj ?jqb ?jq5 ?jqk ?jq1K ?jq33 ?jq2N ?jq1V ?jq1W ?jq1X ?jq2v ?jq2w ?jq2x ?jq2O ?jq1Y ?jq34 ?jq1Z ?jq20 ?jq2y ?jq2z ?jq2A ?jq21 ?jq2P ?jq22 ?jq2Q ?jq6 ?jq7 ?jq35 ?jq36 ?jq37 ?jq8 ?jq9 ?jqa ?jq23 ?jq24 ?jq25 ?jq26 ?jq27 ?jq28 ?jq2B ?jq2C ?jq2D ?jq2E ?jq2F ?jq2G ?jq2H ?jq2I ?jq2J ?jq29 ?jq2a ?jq2b ?jq2R ?jq2S ?jq2T ?jq2c ?jq2d ?jq2e ?jq2U ?jq2V ?jq2W ?jq1q ?jq1r ?jq1s ?jqo ?jqc ?jqd ?jqg ?jqh ?jqi ?jqe ?jq2K ?jq2f ?jq2g ?jq2X ?jq2Y ?jq2Z ?jql ?jq1T ?jq1R ?jq1S ?jq2h ?jq2i ?jq2j ?jqf ?jq2L ?jq2k ?jq2l ?jq30 ?jq31 ?jq32 ?jqm
  (case a_1=>k_is)
  (case l_1=>k_is)
  (case cc_1=>k_is)
  (case kp_1=>k_is)
  (case a_2=>k_is)
  (case l_2=>k_is)
  (case cc_2=>k_is)
  (case kp_2=>k_is)
  (case a_3=>k_is)
  (case l_3=>k_is)
  (case cc_3=>k_is)
  (case kp_3=>k_is)
  (case a_4=>k_is)
  (case l_4=>k_is)
  (case cc_4=>k_is)
  (case kp_4=>k_is)
  (case a_5=>k_is)
  (case l_5=>k_is)
  (case cc_5=>k_is)
  (case kp_5=>k_is)
  (case a_6=>k_is)
  (case l_6=>k_is)
  (case cc_6=>k_is)
  (case kp_6=>k_is)
  (case a_7=>k_is)
  (case l_7=>k_is)
  (case cc_7=>k_is)
  (case kp_7=>k_is)
  (case a_8=>k_is)
  (case l_8=>k_is)
  (case cc_8=>k_is)
  (case kp_8=>k_is)
  (case a_9=>k_is)
  (case l_9=>k_is)
  (case cc_9=>k_is)
  (case kp_9=>k_is)
  (case a_10=>k_is)
  (case l_10=>k_is)
  (case jq4G=>k_is)
  (case jq4H=>k_is)
  (case a_11=>k_is)
  (case l_11=>k_is)
  (case jq4I=>k_is)
  (case jq4J=>k_is)
  (case a_12=>k_is)
  (case l_12=>k_is)
  (case jq4K=>k_is)
  (case jq4L=>k_is)
  (case a_13=>k_is)
  (case l_13=>k_is)
  (case jq4M=>k_is)
  (case jq4N=>k_is)
  (case a_14=>k_is)
  (case l_14=>k_is)
  (case jq4O=>k_is)
  (case jq4P=>k_is)
  (case a_15=>k_is)
  (case l_15=>k_is)
  (case jq4Q=>k_is)
  (case jq4R=>k_is)
  (case a_16=>k_is)
  (case l_16=>k_is)
  (case jq4S=>k_is)
  (case jq4T=>k_is)
  (case a_17=>k_is)
  (case l_17=>k_is)
  (case jq4U=>k_is)
  (case jq4V=>k_is)
  (case a_18=>k_is)
  (case l_18=>k_is)
  (case jq4W=>k_is)
  (case jq4X=>k_is)
  (case a_19=>k_is)
  (case l_19=>k_is)
  (case jq4Y=>k_is)
  (case jq4Z=>k_is)
  (case a_20=>k_is)
  (case l_20=>k_is)
  (case jq50=>k_is)
  (case jq51=>k_is)
  (case a_21=>k_is)
  (case l_21=>k_is)
  (case jq52=>k_is)
  (case jq53=>k_is)
  (case a_22=>k_is)
  (case l_22=>k_is)
  (case jq54=>k_is)
  (case jq55=>k_is)
  (case a_23=>k_is)
  (case l_23=>k_is)
  (case jq56=>k_is)
  (case jq57=>k_is)
  (case a_24=>k_is)
  (case l_24=>k_is)
  (case jq58=>k_is)
  (case jq59=>k_is)
  (case a_25=>k_is)
  (case l_25=>k_is)
  (case jq5a=>k_is)
  (case jq5b=>k_is)
  (case a_26=>k_is)
  (case l_26=>k_is)
  (case jq5c=>k_is)
  (case jq5d=>k_is)
  (case a_27=>k_is)
  (case l_27=>k_is)
  (case jq5e=>k_is)
  (case jq5f=>k_is)
  (case a_28=>k_is)
  (case l_28=>k_is)
  (case jq5g=>k_is)
  (case jq5h=>k_is)
  (case a_29=>k_is)
  (case l_29=>k_is)
  (case jq5i=>k_is)
  (case jq5j=>k_is)
  (case a_30=>k_is)
  (case l_30=>k_is)
  (case jq5k=>k_is)
  (case jq5l=>k_is)
  (case a_31=>k_is)
  (case l_31=>k_is)
  (case jq5m=>k_is)
  (case jq5n=>k_is)
  (case a_32=>k_is)
  (case l_32=>k_is)
  (case jq5o=>k_is)
  (case jq5p=>k_is)
  (case a_33=>k_is)
  (case l_33=>k_is)
  (case jq5q=>k_is)
  (case jq5r=>k_is)
  (case a_34=>k_is)
  (case l_34=>k_is)
  (case jq5s=>k_is)
  (case jq5t=>k_is)
  (case a_35=>k_is)
  (case l_35=>k_is)
  (case jq5u=>k_is)
  (case jq5v=>k_is)
  (case a_36=>k_is)
  (case l_36=>k_is)
  (case jq5w=>k_is)
  (case jq5x=>k_is)
  (case a_37=>k_is)
  (case l_37=>k_is)
  (case jq5y=>k_is)
  (case jq5z=>k_is)
  (case a_38=>k_is)
  (case l_38=>k_is)
  (case jq5A=>k_is)
  (case jq5B=>k_is)
  (case a_39=>k_is)
  (case l_39=>k_is)
  (case jq5C=>k_is)
  (case jq5D=>k_is)
  (case a_40=>k_is)
  (case l_40=>k_is)
  (case jq5E=>k_is)
  (case jq5F=>k_is)
  (case a_41=>k_is)
  (case l_41=>k_is)
  (case jq5G=>k_is)
  (case jq5H=>k_is)
  (case z1=>k_is)
  (case z2=>k_is)
  (case z3=>k_is)
  (case z4=>k_is)
  (case z5=>k_is)
  (case z6=>k_is)
  (case z7=>k_is)
  (case z8=>k_is)
  (case z9=>k_is)
  (case z10=>k_is)
  (case jq1Q=>k_is)
  (case ac0=>k_is)
  (case ac1=>k_is)
  (case ac2=>k_is)
  (case ac3=>k_is)
  (case ac4=>k_is)
  (case ac5=>k_is)
  (case ac6=>k_is)
  (case ac7=>k_is)
  (case acm=>k_is)
  (case atb=>k_is)
  (case ltb=>k_is)
  (case ktb=>k_keys)
  (case rk0=>k_is)
  (case rk1=>k_is)
  (case rk2=>k_is)
  (case rk3=>k_is)
  (case rk4=>k_is)
  (case rk5=>k_is)
  (case rk6=>k_is)
  (case rk7=>k_is)
  (case pg0=>k_is)
  (case hd0=>k_is)
  (case po0=>k_is)
  (case sa0=>k_is)
  (case mk0=>k_is)
  (case kc0=>k_is)
  (case pg1=>k_is)
  (case hd1=>k_is)
  (case po1=>k_is)
  (case sa1=>k_is)
  (case mk1=>k_is)
  (case kc1=>k_is)
  (case pg2=>k_is)
  (case hd2=>k_is)
  (case po2=>k_is)
  (case sa2=>k_is)
  (case mk2=>k_is)
  (case kc2=>k_is)
  (case pg3=>k_is)
  (case hd3=>k_is)
  (case po3=>k_is)
  (case sa3=>k_is)
  (case mk3=>k_is)
  (case kc3=>k_is)
  (case pg4=>k_is)
  (case hd4=>k_is)
  (case po4=>k_is)
  (case sa4=>k_is)
  (case mk4=>k_is)
  (case kc4=>k_is)
  (case pg5=>k_is)
  (case hd5=>k_is)
  (case po5=>k_is)
  (case sa5=>k_is)
  (case mk5=>k_is)
  (case kc5=>k_is)
  (case pg6=>k_is)
  (case hd6=>k_is)
  (case po6=>k_is)
  (case sa6=>k_is)
  (case mk6=>k_is)
  (case kc6=>k_is)
  (case pg7=>k_is)
  (case hd7=>k_is)
  (case po7=>k_is)
  (case sa7=>k_is)
  (case mk7=>k_is)
  (case kc7=>k_is)
  (case jq39=>k_is)
  (case jq5I=>k_is)
  (case jq3H=>k_is)
  (case jq3a=>k_is)
  (case jq3I=>k_is)
  (case jq3b=>k_is)
  (case jq5J=>k_is)
  (case jq3J=>k_is)
  (case jq3c=>k_is)
  (case jq3K=>k_is)
  (case jq3d=>k_is)
  (case jq5K=>k_is)
  (case jq3L=>k_is)
  (case jq3e=>k_is)
  (case jq3M=>k_is)
  (case jq3f=>k_is)
  (case jq5L=>k_is)
  (case jq3N=>k_is)
  (case jq3g=>k_is)
  (case jq3O=>k_is)
  (case jq3h=>k_is)
  (case jq5M=>k_is)
  (case jq3P=>k_is)
  (case jq3i=>k_is)
  (case jq3Q=>k_is)
  (case jq3j=>k_is)
  (case jq5N=>k_is)
  (case jq3R=>k_is)
  (case jq3k=>k_is)
  (case jq3S=>k_is)
  (case jq3l=>k_is)
  (case jq5O=>k_is)
  (case jq3T=>k_is)
  (case jq3m=>k_is)
  (case jq3U=>k_is)
  (case jq3n=>k_is)
  (case jq5P=>k_is)
  (case jq3V=>k_is)
  (case jq3o=>k_is)
  (case jq3W=>k_is)
  (case jq3X=>k_is)
  (case jq3Y=>k_is)
  (case jq3Z=>k_is)
  (case jq40=>k_is)
  (case jq41=>k_is)
  (case jq42=>k_is)
  (case jq43=>k_is)
  (case jq44=>k_is)
  (case l_mr=>k_is)
  (case jq5Q=>k_is)
  (case jq1U=>k_is)
  (case jq2m=>k_is)
  (case jq45=>k_is)
  (case jq46=>k_is)
  (case jq47=>k_is)
  (case jq48=>k_is)
  (case jq49=>k_is)
  (case jq4a=>k_is)
  (case jq4b=>k_is)
  (case l_mn=>k_is)
  (case jq5R=>k_is)
  (case jq2n=>k_is)
  (case jq2M=>k_is)
  (case jq3p=>k_is)
  (case jq5S=>k_is)
  (case jq4c=>k_is)
  (case jq3q=>k_is)
  (case jq4d=>k_is)
  (case jq4e=>k_is)
  (case jq4f=>k_is)
  (case jq4g=>k_is)
  (case l_mt=>k_is)
  (case jq5T=>k_is)
  (case jq38=>k_is)
  (case jq3G=>k_is)
  (case jq3r=>k_is)
  (case jq5U=>k_is)
  (case jq4h=>k_is)
  (case jq3s=>k_is)
  (case jq4i=>k_is)
  (case jq3t=>k_is)
  (case jq5V=>k_is)
  (case jq4j=>k_is)
  (case jq3u=>k_is)
  (case jq4k=>k_is)
  (case jq3v=>k_is)
  (case jq5W=>k_is)
  (case jq4l=>k_is)
  (case jq3w=>k_is)
  (case jq4m=>k_is)
  (case jq3x=>k_is)
  (case jq5X=>k_is)
  (case jq4n=>k_is)
  (case jq3y=>k_is)
  (case jq4o=>k_is)
  (case jq3z=>k_is)
  (case jq5Y=>k_is)
  (case jq4p=>k_is)
  (case jq3A=>k_is)
  (case jq4q=>k_is)
  (case jq3B=>k_is)
  (case jq5Z=>k_is)
  (case jq4r=>k_is)
  (case jq4s=>k_is)
  (case jq4t=>k_is)
  (case jq3C=>k_is)
  (case jq60=>k_is)
  (case jq4u=>k_is)
  (case jq4v=>k_is)
  (case jq4w=>k_is)
  (case jq3D=>k_is)
  (case jq61=>k_is)
  (case jq4x=>k_is)
  (case jq4y=>k_is)
  (case jq4z=>k_is)
  (case jq3E=>k_is)
  (case jq62=>k_is)
  (case jq4A=>k_is)
  (case jq4B=>k_is)
  (case jq4C=>k_is)
  (case jq3F=>k_is)
  (case jq63=>k_is)
  (case jq4D=>k_is)
  (case jq4E=>k_is)
  (case jq4F=>k_is)
  (case na0=>k_is)
  (case na1=>k_is)
  (case na2=>k_is)
  (case na3=>k_is)
  (case na7=>k_is)
  (case ni4=>k_is)
  (case ni5=>k_is)
  (case ni6=>k_is)
  (case jq2o=>k_is)
  (case jq2p=>k_is)
  (case jq2q=>k_is)
  (case jq2r=>k_is)
  (case jq2s=>k_is)
  (case jq2t=>k_is)
  (case jq2u=>k_is)
  (case jq1t=>k_is)
  (case jq1L=>k_is)
  (case jq1u=>k_is)
  (case jq1v=>k_is)
  (case jq1w=>k_is)
  (case jq1x=>k_is)
  (case jq1M=>k_is)
  (case jq1y=>k_is)
  (case jq17=>k_is)
  (case jq1z=>k_is)
  (case jq1A=>k_is)
  (case jq1N=>k_is)
  (case jq1B=>k_is)
  (case jq18=>k_is)
  (case jq1C=>k_is)
  (case jq1D=>k_is)
  (case jq1O=>k_is)
  (case jq1E=>k_is)
  (case jq19=>k_is)
  (case jq1F=>k_is)
  (case jq1G=>k_is)
  (case jq1P=>k_is)
  (case jq1H=>k_is)
  (case jq1a=>k_is)
  (case jq1I=>k_is)
  (case jq1l=>k_is)
  (case jq1J=>k_is)
  (case jq1m=>k_is)
  (case jq14=>k_is)
  (case jq1n=>k_is)
  (case jq1e=>k_is)
  (case jq1o=>k_is)
  (case jq1f=>k_is)
  (case jqV=>k_is)
  (case jq1g=>k_is)
  (case jq1b=>k_is)
  (case jq1h=>k_is)
  (case jq1c=>k_is)
  (case jqQ=>k_is)
  (case jq1d=>k_is)
  (case jqS=>k_is)
  (case jqX=>k_is)
  (case jqT=>k_is)
  (case jqB=>k_is)
  (case jqU=>k_is)
  (case jqr=>k_is)
  (case jqw=>k_is)
  (case jqs=>k_is)
  (case jqn=>k_is)
  (case jqt=>k_is)
  (case jqy=>k_is)
  (case jqC=>k_is)
  (case jqz=>k_is)
  (case jqp=>k_is)
  (case jqA=>k_is)
  (case jq1i=>k_is)
  (case jq1p=>k_is)
  (case jq1j=>k_is)
  (case jqW=>k_is)
  (case jq1k=>k_is)
  (case jqL=>k_is)
  (case jqR=>k_is)
  (case jqM=>k_is)
  (case jqx=>k_is)
  (case jqN=>k_is)
  (case jqY=>k_is)
  (case jq15=>k_is)
  (case jqZ=>k_is)
  (case jqD=>k_is)
  (case jq10=>k_is)
  (case jqF=>k_is)
  (case jqO=>k_is)
  (case jqG=>k_is)
  (case jqu=>k_is)
  (case jqH=>k_is)
  (case jqI=>k_is)
  (case jqP=>k_is)
  (case jqJ=>k_is)
  (case jqv=>k_is)
  (case jqK=>k_is)
  (case jq11=>k_is)
  (case jq16=>k_is)
  (case jq12=>k_is)
  (case jqE=>k_is)
  (case jq13=>k_is)
  (case jqq=>k_is)
  (case jq1=>k_is)
  (case jq3=>k_is)
  (case jq4=>k_is)
  (case jq0=>k_is)
  (case jq2=>k_is)
  (case jqj=>k_is)
  (case jqb=>k_is)
  (case jq5=>k_is)
  (case jqk=>k_is)
  (case jq1K=>k_is)
  (case jq33=>k_is)
  (case jq2N=>k_is)
  (case jq1V=>k_is)
  (case jq1W=>k_is)
  (case jq1X=>k_is)
  (case jq2v=>k_is)
  (case jq2w=>k_is)
  (case jq2x=>k_is)
  (case jq2O=>k_is)
  (case jq1Y=>k_is)
  (case jq34=>k_is)
  (case jq1Z=>k_is)
  (case jq20=>k_is)
  (case jq2y=>k_is)
  (case jq2z=>k_is)
  (case jq2A=>k_is)
  (case jq21=>k_is)
  (case jq2P=>k_is)
  (case jq22=>k_is)
  (case jq2Q=>k_is)
  (case jq6=>k_is)
  (case jq7=>rfl)
  (case jq35=>k_is)
  (case jq36=>with_unfolding_all rfl)
  (case jq37=>k_is)
  (case jq8=>k_is)
  (case jq9=>with_unfolding_all rfl)
  (case jqa=>k_is)
  (case jq23=>k_is)
  (case jq24=>with_unfolding_all rfl)
  (case jq25=>k_is)
  (case jq26=>k_is)
  (case jq27=>with_unfolding_all rfl)
  (case jq28=>k_is)
  (case jq2B=>k_is)
  (case jq2C=>with_unfolding_all rfl)
  (case jq2D=>k_is)
  (case jq2E=>k_is)
  (case jq2F=>with_unfolding_all rfl)
  (case jq2G=>k_is)
  (case jq2H=>k_is)
  (case jq2I=>with_unfolding_all rfl)
  (case jq2J=>k_is)
  (case jq29=>k_is)
  (case jq2a=>with_unfolding_all rfl)
  (case jq2b=>k_is)
  (case jq2R=>k_is)
  (case jq2S=>with_unfolding_all rfl)
  (case jq2T=>k_is)
  (case jq2c=>k_is)
  (case jq2d=>with_unfolding_all rfl)
  (case jq2e=>k_is)
  (case jq2U=>k_is)
  (case jq2V=>with_unfolding_all rfl)
  (case jq2W=>k_is)
  (case jq1q=>k_is)
  (case jq1r=>k_is)
  (case jq1s=>k_is)
  (case jqo=>kts_exm)
  (case jqc=>kts_exm)
  (case jqd=>kts_exm)
  (case jqg=>kts_exm)
  (case jqh=>kts_exm)
  (case jqi=>kts_exm)
  (case jqe=>kts_exm)
  (case jq2K=>k_is)
  (case jq2f=>k_is)
  (case jq2g=>k_is)
  (case jq2X=>k_is)
  (case jq2Y=>k_is)
  (case jq2Z=>k_is)
  (case jql=>kts_exm)
  (case jq1T=>k_is)
  (case jq1R=>k_is)
  (case jq1S=>k_is)
  (case jq2h=>k_is)
  (case jq2i=>k_is)
  (case jq2j=>k_is)
  (case jqf=>kts_exm)
  (case jq2L=>k_is)
  (case jq2k=>k_is)
  (case jq2l=>k_is)
  (case jq30=>k_is)
  (case jq31=>k_is)
  (case jq32=>k_is)
  (case jqm=>kts_exm)
